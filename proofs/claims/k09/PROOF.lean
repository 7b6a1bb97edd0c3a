import PyProof.Rows.All
import Wide.All
import OpenK.AllK
import Wide.FinOn
import Lean
import PyProof.EqAt
import PyProof.EqKinds
import PyProof.TupleCall
import PySem.Challenge.RW_whencewise_k09_pairs
set_option Elab.async false
set_option linter.all false
set_option maxRecDepth 100000
/-! THE HAND LAYER, for ints, bools, texts, own classes, LISTS and tuples (index, slices, in, append, pop ..), calls, loops. Paste it whole ahead of your own text; what your proof does not reach may be deleted. -/
namespace L2
open PySem PySem.Spec PyProof.Rows

/-- a key: an int or a str -/
abbrev Key := Sum Int Str
def keyIs : Key → Value → Bool
  | .inl k, v => Value.isInt k v
  | .inr x, v => Value.isStrOf x v
def keyH (w : World) : Key → Int
  | .inl k => hashInt k
  | .inr x => hashStr w x
theorem keyIs_shape : ∀ {k : Key} {v : Value}, keyIs k v = true → (∃ i t, k = Sum.inl i ∧ v = Value.int i t) ∨ (∃ x t, k = Sum.inr x ∧ v = Value.str x t)
  | .inl i, v, h => by
    obtain ⟨t, e⟩ := Value.isInt_shape (k := i) (v := v) h
    exact .inl ⟨i, t, rfl, e⟩
  | .inr x, v, h => by
    obtain ⟨t, e⟩ := Value.isStrOf_shape (x := x) (v := v) h
    exact .inr ⟨x, t, rfl, e⟩
theorem key_ll (a b : Int) : decide ((Sum.inl a : Key) = Sum.inl b) = (a == b) := by
  by_cases e : a = b
  · subst e; simp
  · have h : ¬ (Sum.inl a : Key) = Sum.inl b := fun q => e (Sum.inl.inj q)
    rw [decide_eq_false h]
    exact (beq_eq_false_iff_ne.mpr e).symm
theorem key_rr (a b : Str) : decide ((Sum.inr a : Key) = Sum.inr b) = decide (a = b) := by
  by_cases e : a = b
  · subst e; simp
  · have h : ¬ (Sum.inr a : Key) = Sum.inr b := fun q => e (Sum.inr.inj q)
    rw [decide_eq_false h, decide_eq_false e]
theorem key_lr (a : Int) (b : Str) : decide ((Sum.inl a : Key) = Sum.inr b) = false := decide_eq_false (fun q => nomatch q)
theorem key_rl (a : Str) (b : Int) : decide ((Sum.inr a : Key) = Sum.inl b) = false := decide_eq_false (fun q => nomatch q)

def mixKind (prog : Program) (w : World) : PySem.KeyKind prog w Key where
  is := keyIs
  hash := keyH w
  inj := fun v a b ha hb => by
    rcases keyIs_shape ha with ⟨i, t, rfl, rfl⟩ | ⟨x, t, rfl, rfl⟩
    · rcases keyIs_shape hb with ⟨j, u, rfl, e⟩ | ⟨y, u, rfl, e⟩
      · injection e with e1 _; rw [e1]
      · exact nomatch e
    · rcases keyIs_shape hb with ⟨j, u, rfl, e⟩ | ⟨y, u, rfl, e⟩
      · exact nomatch e
      · injection e with e1 _; rw [e1]
  byValue := fun k v h => by
    rcases keyIs_shape h with ⟨i, t, rfl, rfl⟩ | ⟨x, t, rfl, rfl⟩ <;> rfl
  pyHash := fun hv h => by
    rcases keyIs_shape hv with ⟨i, t, rfl, rfl⟩ | ⟨x, t, rfl, rfl⟩
    · exact wpAny_pyHash_int h
    · exact wpAny_pyHash_str h
  eqBool := fun hu hv h => by
    rcases keyIs_shape hu with ⟨i, t, rfl, rfl⟩ | ⟨x, t, rfl, rfl⟩
    · rcases keyIs_shape hv with ⟨j, u, rfl, rfl⟩ | ⟨y, u, rfl, rfl⟩
      · rw [key_ll] at h; exact wpAny_eqBool_int h
      · rw [key_lr] at h; exact SeqAt.EqAt.int_str i t y u _ _ _ _ h
    · rcases keyIs_shape hv with ⟨j, u, rfl, rfl⟩ | ⟨y, u, rfl, rfl⟩
      · rw [key_rl] at h; exact SeqAt.EqAt.str_int x t j u _ _ _ _ h
      · rw [key_rr] at h; exact wpAny_eqBool_str h
  «strs» := fun k x t v h => by
    rcases keyIs_shape h with ⟨i, u, rfl, e⟩ | ⟨y, u, rfl, e⟩
    · exact nomatch e
    · injection e with e1 _
      subst e1
      cases v <;> rfl

end L2

namespace L2
open PySem PySem.Spec PyProof.Rows

/-- a value, without the heap -/
inductive V where
  | non | bl (b : Bool) | int (i : Int) | str (x : Str) | byt (b : Array UInt8) | flt (b : UInt64) | ref (a : Addr) | ty (n : String)
  deriving DecidableEq

def RelV : V → Value → Prop
  | .non, u => u = Value.none
  | .bl b, u => u = Value.bool b
  | .int i, u => ∃ t, u = Value.int i t
  | .str x, u => ∃ t, u = Value.str x t
  | .byt b, u => ∃ t, u = Value.bytes b t
  | .flt b, u => ∃ t, u = Value.float b t
  | .ref a, u => u = Value.ref a
  | .ty n, u => u = Value.type n

abbrev Vals : List V → List Value → Prop := Paired RelV
theorem Vals.length {xs : List V} {us : List Value} (r : Vals xs us) : xs.length = us.length := Paired.length r
theorem Vals.get : ∀ {xs : List V} {us : List Value} {i : Nat} {x : V}, Vals xs us → xs[i]? = some x → ∃ u, us[i]? = some u ∧ RelV x u
  | _, _, _, _, .nil, e => by simp at e
  | _, _, 0, _, .cons r _, e => by simp at e; subst e; exact ⟨_, rfl, r⟩
  | _, _, i + 1, x, .cons _ t, e => by
    obtain ⟨u, h1, h2⟩ := Vals.get (i := i) (x := x) t (by simpa using e)
    exact ⟨u, by simpa using h1, h2⟩
theorem Vals.set {x : V} {u : Value} (r : RelV x u) : ∀ {xs : List V} {us : List Value} (i : Nat), Vals xs us → Vals (xs.set i x) (us.set i u)
  | _, _, _, .nil => .nil
  | _, _, 0, .cons _ t => .cons r t
  | _, _, i + 1, .cons q t => .cons q (Vals.set r i t)
theorem Vals.append : ∀ {xs ys : List V} {us ws : List Value}, Vals xs us → Vals ys ws → Vals (xs ++ ys) (us ++ ws)
  | _, _, _, _, .nil, s => s
  | _, _, _, _, .cons r t, s => .cons r (Vals.append t s)
theorem Vals.take : ∀ {xs : List V} {us : List Value} (n : Nat), Vals xs us → Vals (xs.take n) (us.take n)
  | _, _, 0, _ => .nil
  | _, _, _ + 1, .nil => .nil
  | _, _, n + 1, .cons r t => .cons r (Vals.take n t)
theorem Vals.drop : ∀ {xs : List V} {us : List Value} (n : Nat), Vals xs us → Vals (xs.drop n) (us.drop n)
  | _, _, 0, r => r
  | _, _, _ + 1, .nil => .nil
  | _, _, n + 1, .cons _ t => Vals.drop n t
theorem Vals.none_of : ∀ {xs : List V} {us : List Value} {i : Nat}, Vals xs us → xs[i]? = none → us[i]? = none := fun {xs us i} r e => by
  have h1 := r.length
  have h2 : xs.length ≤ i := List.getElem?_eq_none_iff.mp e
  exact List.getElem?_eq_none_iff.mpr (by omega)

def RelO : Option V → Option Value → Prop
  | some v, some u => RelV v u
  | none, none => True
  | _, _ => False
def KV {κ : Type} : List (κ × V) → List (κ × Value) → Prop := Paired fun (p : κ × V) (q : κ × Value) => p.1 = q.1 ∧ RelV p.2 q.2

/-- a key of a dict (00_mix): an int or a text -/
def kV : Key → V
  | .inl i => .int i
  | .inr x => .str x

/-- what stands at a tracked address -/
inductive HO where
  /-- a list -/
  | lst (xs : List V)
  /-- a tuple (never changes) -/
  | tup (xs : List V)
  /-- a dict whose keys are ints and texts; one whose keys are tuples of ints and texts (the empty one is both) -/
  | dK (kvs : List (Key × V)) | dT (kvs : List (List Key × V))
  /-- a set of ints: its members, its size -/
  | set (S : Key → Bool) (n : Nat)
  /-- an instance of the class at C, its dict at dx, its attributes -/
  | ins (C dx : Addr) (fs : List (Str × V))
  /-- the dict of the instance at x -/
  | own (x : Addr)
  /-- the dict of an exception -/
  | xd (fs : List (Str × V))
  /-- a bound method, f of x -/
  | met (f x : Addr)
  /-- a range object lo, lo + 1, .. below hi -/
  | rng (lo hi : Int)
  /-- a thing that is known to the object (the script; a dict while a loop walks it): read, never written while it is so -/
  | frz (o : Obj) (u : HO)
  /-- a code object's table -/
  | tbl (ps : Array Value)
  /-- any other thing, by what is true of its one object (a def of one's own: SetO a S n := HO.ext fun h => ..) -/
  | ext (φ : Heap → Prop)

abbrev Hp := Addr → Option HO
def upd (H : Hp) (a : Addr) (o : HO) : Hp := fun b => if b = a then some o else H b
theorem upd_same {H : Hp} {a : Addr} {o : HO} : upd H a o a = some o := by unfold upd; rw [if_pos rfl]
theorem upd_ne {H : Hp} {a b : Addr} {o : HO} (h : b ≠ a) : upd H a o b = H b := by unfold upd; rw [if_neg h]
theorem ne_of_none {H : Hp} {a b : Addr} {o : HO} (h : H a = some o) (h' : H b = none) : a ≠ b := by
  intro e; subst e; rw [h] at h'; cases h'

/-- a tuple without a dict of its own -/
def PlainTp (h : Heap) (a : Addr) (items : Array Value) : Prop := ∃ o, h.get? a = some o ∧ o.cls = .type "tuple" ∧ o.dict = none ∧ ∃ n, o.data = .seq items n
theorem PlainTp.isTup {h : Heap} {a : Addr} {items : Array Value} (x : PlainTp h a items) : IsTup h a items := by
  obtain ⟨o, e, c, _, n, d⟩ := x
  exact ⟨o, e, c, n, d⟩
theorem PlainTp.new (h : Heap) (items : Array Value) : PlainTp (h.push { cls := .type "tuple", data := .seq items }) h.objs.size items := ⟨_, Heap.get?_push_size _ rfl, rfl, rfl, _, rfl⟩
section
variable (P : Program) (w : World)
def ObjOk (H : Hp) (h : Heap) (a : Addr) : HO → Prop
  | .lst xs => xs.length ≤ sizeLine ∧ ∃ (its : List Value) (n : Nat), Vals xs its ∧ h.get? a = some { cls := .type "list", data := .seq its.toArray n }
  | .tup xs => xs.length ≤ sizeLine ∧ ∃ its : List Value, Vals xs its ∧ PlainTp h a its.toArray
  | .dK kvs => kvs.length ≤ sizeLine ∧ (a == sysModules) = false ∧ ∃ vs, KV kvs vs ∧ h.DictOf (mixKind P w) a vs
  | .dT kvs => kvs.length ≤ sizeLine ∧ (a == sysModules) = false ∧ ∃ xs : List (List Key × Addr × Value),
      Paired (fun (p : List Key × V) (q : List Key × Addr × Value) => p.1 = q.1 ∧ H q.2.1 = some (.tup (p.1.map kV)) ∧ RelV p.2 q.2.2) kvs xs ∧
      ∃ o es ep, h.get? a = some o ∧ o.ExactDict ∧ o.data = .dict es ep ∧ es.toList = xs.map (entryOfKey (tupleKind (mixKind P w))) ∧ (xs.map (·.1)).Nodup
  | .set S n => h.SetOf (mixKind P w) a S n
  | .ins C dx fs => H dx = some (.own a) ∧ fs.length ≤ 1000 ∧ dx ≠ a ∧ h.get? a = some (PySem.W.instObj C dx) ∧
      ∃ mA, h.Ns1 dx mA ∧ (∀ f, RelO (fs.lookup f) (mA f)) ∧ PySem.Within mA (fs.map (·.1))
  | .own _ => ∃ o, h.get? a = some o
  | .xd fs => ∃ mA, h.Ns1 a mA ∧ ∀ f, RelO (fs.lookup f) (mA f)
  | .rng lo hi => ∃ t u v, h.get? a = some { cls := .type "range", data := .fields #[.int lo t, .int hi u, .int 1 v] }
  | .frz o u => h.get? a = some o ∧ ObjOk H h a u
  | .tbl ps => h.get? a = some { cls := .none, data := .fields ps }
  | .met f x => h.get? a = some (PySem.W.methodObj (.ref f) (.ref x))
  | .ext φ => φ h ∧ (∃ o, h.get? a = some o) ∧ ∀ h1 h2 : Heap, φ h1 → (∀ o, h1.get? a = some o → h2.get? a = some o) → φ h2
/-- the abstract heap is held -/
def HOk (H : Hp) (h : Heap) : Prop := ∀ a o, H a = some o → ObjOk P w H h a o
end

section
variable {P : Program} {w : World} {H H' : Hp} {h h' : Heap} {a : Addr} {o : HO}
theorem ObjOk.lt (x : ObjOk P w H h a o) : a < h.objs.size := by
  cases o with
  | lst xs => obtain ⟨_, _, _, _, e⟩ := x; exact Heap.lt_size e
  | tup xs => obtain ⟨_, _, _, p⟩ := x; exact p.isTup.lt
  | dK kvs => obtain ⟨_, _, _, _, o, _, _, e, _⟩ := x; exact Heap.lt_size e
  | dT kvs => obtain ⟨_, _, _, _, o, _, _, e, _⟩ := x; exact Heap.lt_size e
  | set S n => obtain ⟨o, _, _, _, e, _⟩ := x; exact Heap.lt_size e
  | ins C dx fs => obtain ⟨_, _, _, e, _⟩ := x; exact Heap.lt_size e
  | own y => obtain ⟨_, e⟩ := x; exact Heap.lt_size e
  | xd fs => obtain ⟨_, ⟨_, _, _, e, _⟩, _⟩ := x; exact Heap.lt_size e
  | rng lo hi => obtain ⟨_, _, _, e⟩ := x; exact Heap.lt_size e
  | frz ob u => obtain ⟨e, _⟩ := x; exact Heap.lt_size e
  | tbl ps => exact Heap.lt_size (show h.get? a = some _ from x)
  | met f y => exact Heap.lt_size (show h.get? a = some _ from x)
  | ext φ => obtain ⟨_, ⟨_, e⟩, _⟩ := x; exact Heap.lt_size e
theorem Paired.mapP {α β : Type} {F G : α → β → Prop} : ∀ {l₁ : List α} {l₂ : List β}, Paired F l₁ l₂ → (∀ a b, F a b → G a b) → Paired G l₁ l₂
  | _, _, .nil, _ => .nil
  | _, _, .cons r t, f => .cons (f _ _ r) (Paired.mapP t f)
/-- what an object's description leans on: its own object, its own dict, the tuples -/
theorem ObjOk.stay (x : ObjOk P w H h a o) (k : ∀ b u, (b = a ∨ H b = some (.own a)) → h.get? b = some u → h'.get? b = some u)
    (ho : ∀ b, H b = some (.own a) → H' b = some (.own a)) (ht : ∀ b xs, H b = some (.tup xs) → H' b = some (.tup xs)) : ObjOk P w H' h' a o := by
  induction o with
  | lst xs => obtain ⟨z, its, n, r, e⟩ := x; exact ⟨z, its, n, r, k _ _ (.inl rfl) e⟩
  | tup xs => obtain ⟨z, its, r, ob, e, c⟩ := x; exact ⟨z, its, r, ob, k _ _ (.inl rfl) e, c⟩
  | dK kvs => obtain ⟨z, y, vs, r, ob, es, ep, e, c⟩ := x; exact ⟨z, y, vs, r, ob, es, ep, k _ _ (.inl rfl) e, c⟩
  | dT kvs =>
    obtain ⟨z, y, xs, r, ob, es, ep, e, c⟩ := x
    exact ⟨z, y, xs, Paired.mapP r fun p q z => ⟨z.1, ht _ _ z.2.1, z.2.2⟩, ob, es, ep, k _ _ (.inl rfl) e, c⟩
  | set S n => obtain ⟨ob, es, ep, t, e, c⟩ := x; exact ⟨ob, es, ep, t, k _ _ (.inl rfl) e, c⟩
  | ins C dx fs =>
    obtain ⟨d, z, ne, e, mA, ⟨od, es, ep, e2, c⟩, r⟩ := x
    exact ⟨ho _ d, z, ne, k _ _ (.inl rfl) e, mA, ⟨od, es, ep, k _ _ (.inr d) e2, c⟩, r⟩
  | own y => obtain ⟨ob, e⟩ := x; exact ⟨ob, k _ _ (.inl rfl) e⟩
  | xd fs => obtain ⟨mA, ⟨od, es, ep, e, c⟩, r⟩ := x; exact ⟨mA, ⟨od, es, ep, k _ _ (.inl rfl) e, c⟩, r⟩
  | rng lo hi => obtain ⟨t, u, v, e⟩ := x; exact ⟨t, u, v, k _ _ (.inl rfl) e⟩
  | frz ob u ih => obtain ⟨e, q⟩ := x; exact ⟨k _ _ (.inl rfl) e, ih q⟩
  | tbl ps =>
    have e : h.get? a = some { cls := .none, data := .fields ps } := x
    show h'.get? a = some { cls := .none, data := .fields ps }
    exact k a _ (.inl rfl) e
  | met f y =>
    have e : h.get? a = some (PySem.W.methodObj (.ref f) (.ref y)) := x
    show h'.get? a = some (PySem.W.methodObj (.ref f) (.ref y))
    exact k a _ (.inl rfl) e
  | ext φ => obtain ⟨p, ⟨o, e⟩, st⟩ := x; exact ⟨st _ _ p fun o q => k _ _ (.inl rfl) q, ⟨o, k _ _ (.inl rfl) e⟩, st⟩
theorem HOk.lt (x : HOk P w H h) (e : H a = some o) : a < h.objs.size := (x a o e).lt
theorem HOk.fresh (x : HOk P w H h) (e : h.objs.size ≤ a) : H a = none := by
  cases q : H a with
  | none => rfl
  | some u => exact absurd (Nat.lt_of_lt_of_le (x.lt q) e) (Nat.lt_irrefl _)
/-- every object of the heap is kept -/
theorem HOk.kept (x : HOk P w H h) (k : ∀ b u, h.get? b = some u → h'.get? b = some u) : HOk P w H h' := fun a o e =>
  (x a o e).stay (fun b u _ q => k b u q) (fun _ q => q) fun _ _ q => q
/-- a new object is laid and tracked -/
theorem HOk.laid (x : HOk P w H h) (k : ∀ b u, h.get? b = some u → h'.get? b = some u) (hp : h.objs.size ≤ a) (new : ObjOk P w (upd H a o) h' a o) : HOk P w (upd H a o) h' := fun b u e => by
  have hn := x.fresh hp
  by_cases hb : b = a
  · subst hb; rw [upd_same] at e; cases e; exact new
  · rw [upd_ne hb] at e
    exact (x b u e).stay (fun c v _ q => k c v q) (fun c q => by rw [upd_ne (ne_of_none q hn)]; exact q) fun c xs q => by rw [upd_ne (ne_of_none q hn)]; exact q
end

/-- what may be read as u: it is u, or a known u -/
def Rd (H : Hp) (a : Addr) (u : HO) : Prop := H a = some u ∨ ∃ o, H a = some (.frz o u)
theorem Rd.of {H : Hp} {a : Addr} {u : HO} (h : H a = some u) : Rd H a u := .inl h
theorem Rd.ok {P : Program} {w : World} {H : Hp} {h : Heap} {a : Addr} {u : HO} (r : Rd H a u) (x : HOk P w H h) : ObjOk P w H h a u := by
  rcases r with r | ⟨o, r⟩
  · exact x a u r
  · obtain ⟨_, q⟩ := x a _ r
    exact q
/-- what may be written -/
def Mut : Option HO → Prop
  | some (.lst _) => True
  | some (.dK _) => True
  | some (.dT _) => True
  | some (.set _ _) => True
  | some (.ins _ _ _) => True
  | some (.ext _) => True
  | _ => False
section
variable {P : Program} {w : World} {H : Hp} {h h' : Heap} {x e : Addr} {o' : HO}
/-- the object at e is changed: x itself, or the dict of the instance x -/
theorem HOk.write (ok : HOk P w H h) (mu : Mut (H x)) (he : e = x ∨ H e = some (.own x)) (k : ∀ b u, b ≠ e → h.get? b = some u → h'.get? b = some u) (heo : ∃ u, h'.get? e = some u)
    (new : ObjOk P w (upd H x o') h' x o') : HOk P w (upd H x o') h' := fun b u q => by
  have nown : ∀ c y, H c = some (.own y) → c ≠ x := fun c y r z => by subst z; rw [r] at mu; exact mu
  have ntup : ∀ c xs, H c = some (.tup xs) → c ≠ x := fun c xs r z => by subst z; rw [r] at mu; exact mu
  by_cases hb : b = x
  · subst hb; rw [upd_same] at q; cases q; exact new
  · rw [upd_ne hb] at q
    by_cases hbe : b = e
    · have q' : H b = some (.own x) := by
        rcases he with z | z
        · exact absurd (hbe.trans z) hb
        · rw [hbe]; exact z
      rw [q] at q'; cases q'
      obtain ⟨v, hv⟩ := heo
      exact ⟨v, by rw [hbe]; exact hv⟩
    · refine (ok b u q).stay (fun c v hc r => k c v ?_ r) (fun c r => by rw [upd_ne (nown c b r)]; exact r) fun c xs r => by rw [upd_ne (ntup c xs r)]; exact r
      rcases hc with rfl | hc
      · exact hbe
      · rintro rfl
        rcases he with z | z
        · exact nown c b hc z
        · rw [hc] at z; cases z; exact hb rfl
end

/-! ### kept unless tracked; of the frames at fs (the callers') the slots may change (an exception that passes writes there); of the records at ex (iterators) nothing is said -/
structure Un (fs ex : List Addr) (H H' : Hp) (h h' : Heap) : Prop where
  keep : ∀ b o, h.get? b = some o → H b = none → b ∉ fs → b ∉ ex → h'.get? b = some o
  slot : ∀ b o, h.get? b = some o → H b = none → b ∈ fs → b ∉ ex → ∃ sl, h'.get? b = some { o with slots := sl }
  free : ∀ b o, h.get? b = some o → H b = none → b ∉ ex → H' b = none
  there : ∀ b o, h.get? b = some o → b ∉ ex → ∃ o', h'.get? b = some o'
  tups : ∀ b xs, H b = some (.tup xs) → H' b = some (.tup xs)
  frzs : ∀ b o u, H b = some (.frz o u) → H' b = some (.frz o u)
  tbls : ∀ b ps, H b = some (.tbl ps) → ∃ more, H' b = some (.tbl (ps ++ more))
section
variable {fs fs' ex ex' : List Addr} {H H1 H2 : Hp} {h h1 h2 h' : Heap} {a x e : Addr} {o : HO}
theorem Un.any (u : Un fs ex H H1 h h1) {b : Addr} {ob : Obj} (q : h.get? b = some ob) (n : H b = none) (hx : b ∉ ex) : ∃ sl, h1.get? b = some { ob with slots := sl } := by
  by_cases hb : b ∈ fs
  · exact u.slot b ob q n hb hx
  · exact ⟨ob.slots, u.keep b ob q n hb hx⟩
theorem Un.trans (a : Un fs ex H H1 h h1) (b : Un fs ex H1 H2 h1 h2) : Un fs ex H H2 h h2 where
  keep := fun c ob q n hc hx => b.keep c ob (a.keep c ob q n hc hx) (a.free c ob q n hx) hc hx
  slot := fun c ob q n hc hx => by
    obtain ⟨sl, e1⟩ := a.slot c ob q n hc hx
    obtain ⟨sl', e2⟩ := b.slot c _ e1 (a.free c ob q n hx) hc hx
    exact ⟨sl', e2⟩
  free := fun c ob q n hx => by
    obtain ⟨o', e1⟩ := a.there c ob q hx
    exact b.free c o' e1 (a.free c ob q n hx) hx
  there := fun c ob q hx => by
    obtain ⟨o', e1⟩ := a.there c ob q hx
    exact b.there c o' e1 hx
  tups := fun c xs q => b.tups c xs (a.tups c xs q)
  frzs := fun c ob xs q => b.frzs c ob xs (a.frzs c ob xs q)
  tbls := fun c ps q => by
    obtain ⟨m1, e1⟩ := a.tbls c ps q
    obtain ⟨m2, e2⟩ := b.tbls c _ e1
    exact ⟨m1 ++ m2, by rw [e2, Array.append_assoc]⟩
theorem Un.kept (k : ∀ b u, h.get? b = some u → h'.get? b = some u) : Un fs ex H H h h' :=
  ⟨fun b ob q _ _ _ => k b ob q, fun b ob q _ _ _ => ⟨ob.slots, k b ob q⟩, fun _ _ _ n _ => n, fun b ob q _ => ⟨ob, k b ob q⟩, fun _ _ q => q, fun _ _ _ q => q, fun _ ps q => ⟨#[], by rw [q]; simp⟩⟩
theorem Un.refl : Un fs ex H H h h := Un.kept fun _ _ q => q
theorem Un.laid (k : ∀ b u, h.get? b = some u → h'.get? b = some u) (hp : h.objs.size ≤ a) (hn : H a = none) : Un fs ex H (upd H a o) h h' where
  keep := fun b u q _ _ _ => k b u q
  slot := fun b u q _ _ _ => ⟨u.slots, k b u q⟩
  free := fun b u q n _ => by rw [upd_ne (Nat.ne_of_lt (Nat.lt_of_lt_of_le (Heap.lt_size q) hp))]; exact n
  there := fun b u q _ => ⟨u, k b u q⟩
  tups := fun b xs q => by rw [upd_ne (ne_of_none q hn)]; exact q
  frzs := fun b u xs q => by rw [upd_ne (ne_of_none q hn)]; exact q
  tbls := fun b ps q => ⟨#[], by rw [upd_ne (ne_of_none q hn), q]; simp⟩
theorem Un.write (mu : Mut (H x)) (he : e = x ∨ H e = some (.own x)) (k : ∀ b u, b ≠ e → h.get? b = some u → h'.get? b = some u) (heo : ∃ u, h'.get? e = some u) : Un fs ex H (upd H x o) h h' := by
  have hx : ∀ b, H b = none → b ≠ x := fun b n z => by subst z; rw [n] at mu; exact mu
  have hb : ∀ b, H b = none → b ≠ e := fun b n z => by
    subst z
    rcases he with r | r
    · exact hx b n r
    · rw [n] at r; cases r
  have hm : ∀ b u, H b = some u → ¬ Mut (some u) → b ≠ x := fun b u q nm z => by subst z; rw [q] at mu; exact nm mu
  refine ⟨fun b u q n _ _ => k b u (hb b n) q, fun b u q n _ _ => ⟨u.slots, k b u (hb b n) q⟩, fun b u q n _ => by rw [upd_ne (hx b n)]; exact n, fun b u q _ => ?_,
    fun b xs q => by rw [upd_ne (hm b _ q fun z => z)]; exact q, fun b u xs q => by rw [upd_ne (hm b _ q fun z => z)]; exact q, fun b ps q => ⟨#[], by rw [upd_ne (hm b _ q fun z => z), q]; simp⟩⟩
  by_cases hbe : b = e
  · subst hbe; exact heo
  · exact ⟨u, k b u hbe q⟩
theorem Un.mono (u : Un fs ex H H1 h h1) (hs : ∀ b ∈ fs, b ∈ fs') (hx : ∀ b ∈ ex, b ∈ ex') : Un fs' ex' H H1 h h1 :=
  ⟨fun b ob q n hb he => u.keep b ob q n (fun z => hb (hs b z)) fun z => he (hx b z), fun _ _ q n _ he => u.any q n fun z => he (hx _ z), fun b ob q n he => u.free b ob q n fun z => he (hx b z), fun b ob q he => u.there b ob q fun z => he (hx b z), u.tups, u.frzs, u.tbls⟩
end

/-! ### the heap without what is tracked -/
def trk (h : Heap) (H : Hp) : List Addr := (List.range h.objs.size).filter fun a => (H a).isSome
def hidT (h : Heap) (H : Hp) : Heap := PySem.W.hideAll h (trk h H)
theorem hidT_size (h : Heap) (H : Hp) : (hidT h H).objs.size = h.objs.size := PySem.W.hideAll_size _ _
theorem hidT_get {h : Heap} {H : Hp} {b : Addr} {o : Obj} (e : h.get? b = some o) (n : H b = none) : (hidT h H).get? b = some o :=
  PySem.W.hideAll_get _ e fun hm => by
    have q : (H b).isSome = true := (List.mem_filter.mp hm).2
    rw [n] at q; simp at q
theorem of_hidT {h : Heap} {H : Hp} {b : Addr} {o : Obj} (e : (hidT h H).get? b = some o) : h.get? b = some o ∧ H b = none := by
  have e' : h.get? b = some o := PySem.W.of_hideAll (trk h H) e
  refine ⟨e', ?_⟩
  cases q : H b with
  | none => rfl
  | some x =>
    have hm : b ∈ trk h H := List.mem_filter.mpr ⟨List.mem_range.mpr (Heap.lt_size e'), by simp [q]⟩
    have z : (hidT h H).get? b = none := PySem.W.hideAll_none (trk h H) hm
    rw [z] at e; cases e

/-! ### OpenK's ledger, filled with every new object but one -/
def allNews (g h : Heap) (L : Addr) : List (Addr × Obj) := (List.range h.objs.size).filterMap fun a => if a = L ∨ (g.get? a).isSome = true then none else (h.get? a).map fun o => (a, o)
def rest (g h : Heap) (L d : Addr) : List (Addr × Obj) := (allNews g h L).filter fun p => decide (p.1 ≠ d)
end L2

namespace L2
open PySem PySem.Spec PyProof.Rows

/-- the module's facts, over the base: the heap at the law's entry without what is tracked there -/
structure Mod (K : PySem.W.Frag) (mg : Str → Option Value) (base : Heap) : Prop where
  kin : K.In base
  glob : base.Ns mainGlobals mg
  blt : ∃ mb, base.Ns builtinsNs mb ∧ ∀ x : Str, x ≠ "__name__" → mb x = bootBuiltins x
  nolimit : base.NoLimit

/-- the context: a def's body (or a comprehension's block) running. base: fixed through the whole law; s₀, H₀: the entry; outer: the frames whose slots others may change (a def's callers); stack: all frames that run;
   ex: iterators that were made ahead of the entry and are walked here (a comprehension's); fn: the names whose cells were made at the entry (a def: all; a comprehension's block: its own); calm: not within an except suite; pn: pins that every state bears; xe: what is wanted of an exception that leaves the code -/
structure Cx where
  prog : Program
  w : World
  K : PySem.W.Frag
  mg : Str → Option Value
  base : Heap
  A : Around
  N : List Str
  s₀ : Shared
  H₀ : Hp
  env : Env
  outer : List Env
  stack : List Env
  ex : List Addr
  fn : Str → Bool
  calm : Bool
  pn : List (Addr × Obj)
  xe : Value → Shared → Prop
/-- the callers' frames -/
def frs (l : List Env) : List Addr := l.filterMap (·.frame)
abbrev Cx.fs (X : Cx) : List Addr := frs X.outer

def Vis (sc : Scope) (x : Str) : Prop := sc.names.lookup x = some .local ∨ sc.names.lookup x = some .cell ∨ sc.names.lookup x = some .free
def Loc (sc : Scope) (x : Str) : Prop := sc.names.lookup x = some .local ∨ sc.names.lookup x = some .cell
def Look (env : Env) (h : Heap) (m : Str → Option Value) (x : Str) (u : Value) : Prop :=
  (env.kindOf x = some .local ∧ m x = some u) ∨ ((env.kindOf x = some .cell ∨ env.kindOf x = some .free) ∧ ∃ c, env.cells.lookup x = some c ∧ h.IsCell c (some u))

structure Cx.Ok (X : Cx) : Prop where
  mod : Mod X.K X.mg X.base
  kind : X.env.scope.kind = .function
  glob : X.env.globals = mainGlobals
  blt : X.env.builtins = builtinsNs
  above : X.s₀.heap.objs.size ≤ X.env.locals
  inj : ∀ x y c, X.env.cells.lookup x = some c → X.env.cells.lookup y = some c → x = y
  has : ∀ x, (X.env.kindOf x = some .cell ∨ X.env.kindOf x = some .free) → ∃ c, X.env.cells.lookup x = some c
  cab : ∀ x c, X.fn x = true → X.env.cells.lookup x = some c → X.s₀.heap.objs.size ≤ c
  hd : X.calm = true → X.A.handled = none
  frames : X.A.frames = some X.stack
  stk : X.stack = X.outer ∨ (X.stack = X.env :: X.outer ∧ X.env.frame = some X.env.locals)
  exf : ∀ b ∈ X.ex, b ≠ X.env.locals ∧ ∀ x c, X.env.cells.lookup x = some c → c ≠ b
  bs : ∀ b o, X.base.get? b = some o → X.s₀.heap.get? b = some o ∧ X.H₀ b = none
  bsz : X.base.objs.size ≤ X.s₀.heap.objs.size
  noex : ∀ b o, X.base.get? b = some o → b ∉ X.ex
  exfs : ∀ b ∈ X.ex, b ∉ X.fs
  funs : X.s₀.heap.FunFrames X.base X.outer
  frf : ∀ b ∈ X.fs, X.H₀ b = none

structure Inv (X : Cx) (pins : List (Addr × Obj)) (σ : List (Option V)) (H : Hp) (s : Shared) : Prop where
  ok : X.Ok
  os : s.os = X.s₀.os
  bare : AllBare s.gens
  base : Un X.fs X.ex X.H₀ H X.s₀.heap s.heap
  loc : ∃ m, s.heap.Ns X.env.locals m ∧ ∀ (i : Nat) (x : Str) (v : V), X.N[i]? = some x → σ[i]? = some (some v) → Vis X.env.scope x → ∃ u, RelV v u ∧ Look X.env s.heap m x u
  cell : ∀ x c, X.env.cells.lookup x = some c → ∃ v, s.heap.IsCell c v
  free : H X.env.locals = none
  freeC : ∀ x c, X.env.cells.lookup x = some c → H c = none
  pin : ∀ p ∈ X.pn ++ pins, s.heap.get? p.1 = some p.2 ∧ H p.1 = none ∧ p.1 ≠ X.env.locals ∧ p.1 ∉ X.fs ∧ ∀ v, p.2.data ≠ .cell v
  hok : HOk X.prog X.w H s.heap
  len : σ.length = X.N.length

section
variable {X : Cx} {pins : List (Addr × Obj)} {σ : List (Option V)} {H H' : Hp} {s : Shared} {h' : Heap}

theorem Cx.Ok.nofr (ok : X.Ok) {b : Addr} {o : Obj} (e : X.base.get? b = some o) : b ∉ X.fs := fun hb => by
  have := (ok.funs.mem hb).1
  rw [e] at this; cases this
theorem Inv.bs (I : Inv X pins σ H s) : ∀ b o, X.base.get? b = some o → s.heap.get? b = some o ∧ H b = none := fun b o e =>
  ⟨I.base.keep b o (I.ok.bs b o e).1 (I.ok.bs b o e).2 (I.ok.nofr e) (I.ok.noex b o e), I.base.free b o (I.ok.bs b o e).1 (I.ok.bs b o e).2 (I.ok.noex b o e)⟩
theorem Inv.bk (I : Inv X pins σ H s) : ∀ b o, X.base.get? b = some o → s.heap.get? b = some o := fun b o e => (I.bs b o e).1
theorem Inv.mod (I : Inv X pins σ H s) : Mod X.K X.mg X.base := I.ok.mod
theorem Inv.kIn (I : Inv X pins σ H s) : X.K.In s.heap := I.ok.mod.kin.keeps I.bk
theorem Inv.nolimit (I : Inv X pins σ H s) : s.heap.NoLimit := I.ok.mod.nolimit.keeps I.bk
/-- the frame over the base: for OpenK's rules (K.In X.base is I.mod.kin) -/
theorem Inv.fr (I : Inv X pins σ H s) : ∃ m, Fr X.base X.env.locals s.heap m :=
  let ⟨m, hn, _⟩ := I.loc
  ⟨m, hn, I.bk, Nat.le_trans I.ok.bsz I.ok.above⟩
theorem Inv.lt (I : Inv X pins σ H s) : X.env.locals < s.heap.objs.size := let ⟨_, hn, _⟩ := I.loc; hn.lt
theorem Inv.sz (I : Inv X pins σ H s) : X.s₀.heap.objs.size ≤ s.heap.objs.size := Nat.le_trans I.ok.above (Nat.le_of_lt I.lt)
theorem Inv.nofs (I : Inv X pins σ H s) {a : Addr} (h : s.heap.objs.size ≤ a) : a ∉ X.fs := fun hb => by
  obtain ⟨_, o, ho, _⟩ := I.ok.funs.mem hb
  exact absurd (Nat.lt_of_lt_of_le (Heap.lt_size ho) (Nat.le_trans I.sz h)) (Nat.lt_irrefl _)
theorem Inv.cne (I : Inv X pins σ H s) : ∀ x c, X.env.cells.lookup x = some c → c ≠ X.env.locals := fun x c e z => by
  obtain ⟨v, o, ho, hd⟩ := I.cell x c e
  obtain ⟨m, ⟨o', es, ep, ho', hd', _⟩, _⟩ := I.loc
  rw [z, ho'] at ho; cases ho; rw [hd'] at hd; cases hd
theorem Inv.funs (I : Inv X pins σ H s) : s.heap.FunFrames X.base X.outer := by
  have all : ∀ (l : List Env), (∀ b ∈ frs l, b ∈ X.fs) → X.s₀.heap.FunFrames X.base l → s.heap.FunFrames X.base l := by
    intro l
    induction l with
    | nil => intro _ _; trivial
    | cons env r ih =>
      intro hs hl
      obtain ⟨hk, ⟨L, o, hf, hn, ho, hd⟩, hr⟩ := hl
      have hL : L ∈ X.fs := hs L (by unfold frs; rw [List.filterMap_cons, hf]; exact List.mem_cons_self)
      obtain ⟨sl, e⟩ := I.base.slot L o ho (I.ok.frf L hL) hL fun z => I.ok.exfs L z hL
      exact ⟨hk, ⟨L, _, hf, hn, e, hd⟩, ih (fun b hb => hs b (by unfold frs; rw [List.filterMap_cons, hf]; exact List.mem_cons_of_mem _ hb)) hr⟩
  exact all X.outer (fun _ hb => hb) I.ok.funs

/-- the frames that run, for a call -/
theorem Inv.stack (I : Inv X pins σ H s) : s.heap.FunFrames X.base X.stack := by
  rcases I.ok.stk with e | ⟨e, hf⟩
  · rw [e]; exact I.funs
  · rw [e]
    obtain ⟨m, hn, _⟩ := I.loc
    refine .cons (by rw [I.ok.kind]; decide) hf hn ?_ I.funs
    exact Heap.get?_none_of_le (Nat.le_trans I.ok.bsz I.ok.above)
theorem Inv.stkSub (I : Inv X pins σ H s) : ∀ b ∈ frs X.stack, b ∈ X.env.locals :: X.fs := fun b hb => by
  rcases I.ok.stk with e | ⟨e, hf⟩
  · rw [e] at hb; exact List.mem_cons_of_mem _ hb
  · rw [e] at hb
    unfold frs at hb
    rw [List.filterMap_cons, hf] at hb
    exact hb
theorem Inv.stkFree (I : Inv X pins σ H s) : ∀ b ∈ frs X.stack, H b = none := fun b hb => by
  rcases List.mem_cons.mp (I.stkSub b hb) with e | hb
  · rw [e]; exact I.free
  · obtain ⟨_, o, ho, _⟩ := I.ok.funs.mem hb
    exact I.base.free b o ho (I.ok.frf b hb) fun z => I.ok.exfs b z hb

/-- THE STEP: the untracked objects but the frame and the records at ch are kept (the callers' frames up to slots), the frame's map is kept, the new abstract heap is held -/
theorem Inv.step {g' : Array GenState} {t' : Nat} {d' : Drawn} {ch : List Addr} (I : Inv X pins σ H s)
    (hch : ∀ b ∈ ch, (b ∈ X.ex ∨ X.s₀.heap.objs.size ≤ b) ∧ b ≠ X.env.locals ∧ (∀ x c, X.env.cells.lookup x = some c → c ≠ b) ∧ ∀ p ∈ X.pn ++ pins, p.1 ≠ b)
    (keep : ∀ b o, b ≠ X.env.locals → b ∉ X.fs → b ∉ ch → s.heap.get? b = some o → H b = none → h'.get? b = some o)
    (slot : ∀ b o, b ≠ X.env.locals → b ∈ X.fs → b ∉ ch → s.heap.get? b = some o → H b = none → ∃ sl, h'.get? b = some { o with slots := sl }) (free : ∀ b o, b ∉ ch → s.heap.get? b = some o → H b = none → H' b = none)
    (there : ∀ b o, b ∉ ch → s.heap.get? b = some o → ∃ o', h'.get? b = some o')
    (tups : ∀ b xs, H b = some (.tup xs) → H' b = some (.tup xs)) (frzs : ∀ b o u, H b = some (.frz o u) → H' b = some (.frz o u)) (tbls : ∀ b ps, H b = some (.tbl ps) → ∃ more, H' b = some (.tbl (ps ++ more)))
    (ns : ∀ m, s.heap.Ns X.env.locals m → h'.Ns X.env.locals m) (hok : HOk X.prog X.w H' h') (hg : AllBare g') :
    Inv X pins σ H' { s with heap := h', gens := g', drawn := d', toks := t' } := by
  have neL : ∀ b o, X.s₀.heap.get? b = some o → b ≠ X.env.locals := fun b o e => Nat.ne_of_lt (Nat.lt_of_lt_of_le (Heap.lt_size e) I.ok.above)
  have neC : ∀ b o, X.s₀.heap.get? b = some o → b ∉ X.ex → b ∉ ch := fun b o e hx hb => by
    rcases (hch b hb).1 with z | z
    · exact hx z
    · exact absurd (Nat.lt_of_lt_of_le (Heap.lt_size e) z) (Nat.lt_irrefl _)
  have cellK : ∀ x c, X.env.cells.lookup x = some c → ∀ v, s.heap.IsCell c v → h'.IsCell c v := fun x c e v ⟨o, ho, hd⟩ => by
    have nch : c ∉ ch := fun z => (hch c z).2.2.1 x c e rfl
    by_cases hc : c ∈ X.fs
    · obtain ⟨sl, q⟩ := slot c o (I.cne x c e) hc nch ho (I.freeC x c e)
      exact ⟨_, q, hd⟩
    · exact ⟨o, keep c o (I.cne x c e) hc nch ho (I.freeC x c e), hd⟩
  refine ⟨I.ok, I.os, hg, ⟨fun b o e n hb hx => ?_, fun b o e n hb hx => ?_, fun b o e n hx => ?_, fun b o e hx => ?_, fun b xs e => tups b xs (I.base.tups b xs e), fun b o xs e => frzs b o xs (I.base.frzs b o xs e), fun b ps e => ?_⟩, ?_, fun x c e => ?_, ?_, fun x c e => ?_, fun p hp => ?_, hok, I.len⟩
  · exact keep b o (neL b o e) hb (neC b o e hx) (I.base.keep b o e n hb hx) (I.base.free b o e n hx)
  · obtain ⟨sl, e1⟩ := I.base.slot b o e n hb hx
    obtain ⟨sl', e2⟩ := slot b _ (neL b o e) hb (neC b o e hx) e1 (I.base.free b o e n hx)
    exact ⟨sl', e2⟩
  · obtain ⟨o', e1⟩ := I.base.there b o e hx
    exact free b o' (neC b o e hx) e1 (I.base.free b o e n hx)
  · obtain ⟨o', e1⟩ := I.base.there b o e hx
    exact there b o' (neC b o e hx) e1
  · obtain ⟨m1, e1⟩ := I.base.tbls b ps e
    obtain ⟨m2, e2⟩ := tbls b _ e1
    exact ⟨m1 ++ m2, by rw [e2, Array.append_assoc]⟩
  · obtain ⟨m, hn, hl⟩ := I.loc
    refine ⟨m, ns m hn, fun i x v e1 e2 e3 => ?_⟩
    obtain ⟨u, r, l⟩ := hl i x v e1 e2 e3
    refine ⟨u, r, ?_⟩
    rcases l with l | ⟨k, c, e, z⟩
    · exact .inl l
    · exact .inr ⟨k, c, e, cellK x c e _ z⟩
  · obtain ⟨v, z⟩ := I.cell x c e
    exact ⟨v, cellK x c e v z⟩
  · obtain ⟨m, ⟨o, _, _, ho, _⟩, _⟩ := I.loc
    exact free _ o (fun z => (hch _ z).2.1 rfl) ho I.free
  · obtain ⟨v, o, ho, hd⟩ := I.cell x c e
    exact free c o (fun z => (hch c z).2.2.1 x c e rfl) ho (I.freeC x c e)
  · obtain ⟨e, n, ne, nf, d⟩ := I.pin p hp
    have nch : p.1 ∉ ch := fun z => (hch p.1 z).2.2.2 p hp rfl
    exact ⟨keep p.1 p.2 ne nf nch e n, free p.1 p.2 nch e n, ne, nf, d⟩
/-- .. where the frame's own object is kept too -/
theorem Inv.un {t' : Nat} (I : Inv X pins σ H s) (u : Un X.fs [] H H' s.heap h') (hok : HOk X.prog X.w H' h') : Inv X pins σ H' { s with heap := h', toks := t' } := by
  obtain ⟨m, ⟨o, es, ep, ho, r⟩, _⟩ := id I.loc
  obtain ⟨sl, hL⟩ := u.any ho I.free (by simp)
  exact I.step (g' := s.gens) (d' := s.drawn) (ch := []) (fun _ z => nomatch z) (fun b o _ hb _ e n => u.keep b o e n hb (by simp)) (fun b o _ hb _ e n => u.slot b o e n hb (by simp)) (fun b o _ e n => u.free b o e n (by simp)) (fun b o _ e => u.there b o e (by simp)) u.tups u.frzs u.tbls (fun m' hm => by
    obtain ⟨o', es', ep', ho', r'⟩ := hm
    rw [ho] at ho'; cases ho'
    exact ⟨_, es', ep', hL, r'⟩) hok I.bare
/-- behind a call (or a comprehension's block): the slots of this frame may have changed too, the records at ch may have turned -/
theorem Inv.call {g' : Array GenState} {t' : Nat} {d' : Drawn} {ch : List Addr} (I : Inv X pins σ H s) (u : Un (frs X.stack) ch H H' s.heap h') (hok : HOk X.prog X.w H' h') (hg : AllBare g')
    (hch : ∀ b ∈ ch, (b ∈ X.ex ∨ X.s₀.heap.objs.size ≤ b) ∧ b ≠ X.env.locals ∧ (∀ x c, X.env.cells.lookup x = some c → c ≠ b) ∧ ∀ p ∈ X.pn ++ pins, p.1 ≠ b) :
    Inv X pins σ H' { s with heap := h', gens := g', drawn := d', toks := t' } := by
  obtain ⟨m, ⟨o, es, ep, ho, r⟩, _⟩ := id I.loc
  obtain ⟨sl, hL⟩ := u.any ho I.free fun z => (hch _ z).2.1 rfl
  exact I.step (ch := ch) hch (fun b o hL hb hc e n => u.keep b o e n (fun z => (List.mem_cons.mp (I.stkSub b z)).elim hL hb) hc) (fun b o _ _ hc e n => u.any e n hc) (fun b o hc e n => u.free b o e n hc) (fun b o hc e => u.there b o e hc) u.tups u.frzs u.tbls (fun m' hm => by
    obtain ⟨o', es', ep', ho', r'⟩ := hm
    rw [ho] at ho'; cases ho'
    exact ⟨_, es', ep', hL, r'⟩) hok hg
/-- an untracked record of ours (an iterator) has turned -/
theorem Inv.turned {t' : Nat} {it : Addr} (I : Inv X pins σ H s) (k : ∀ b o, b ≠ it → s.heap.get? b = some o → h'.get? b = some o) (hn : H it = none) (hL : it ≠ X.env.locals)
    (h1 : it ∈ X.ex ∨ X.s₀.heap.objs.size ≤ it) (h2 : ∀ x c, X.env.cells.lookup x = some c → c ≠ it) (h3 : ∀ p ∈ X.pn ++ pins, p.1 ≠ it) : Inv X pins σ H { s with heap := h', toks := t' } := by
  have nit : ∀ b u, H b = some u → b ≠ it := fun b u e z => by rw [z, hn] at e; cases e
  refine I.step (g' := s.gens) (d' := s.drawn) (ch := [it]) (fun b hb => ?_) (fun b o _ _ hc e _ => k b o (fun z => hc (by simp [z])) e) (fun b o _ _ hc e _ => ⟨o.slots, k b o (fun z => hc (by simp [z])) e⟩) (fun _ _ _ _ n => n)
    (fun b o hc e => ⟨o, k b o (fun z => hc (by simp [z])) e⟩) (fun _ _ e => e) (fun _ _ _ e => e) (fun b ps e => ⟨#[], by rw [e]; simp⟩) (fun m hm => ?_) (fun b u e => ?_) I.bare
  · have e : b = it := by simpa using hb
    subst e
    exact ⟨h1, hL, h2, h3⟩
  · obtain ⟨o, es, ep, ho, r⟩ := hm
    exact ⟨o, es, ep, k _ o (Ne.symm hL) ho, r⟩
  · refine (I.hok b u e).stay (fun c v hc q => k c v ?_ q) (fun _ q => q) fun _ _ q => q
    rcases hc with z | z
    · rw [z]; exact nit b u e
    · exact nit c _ z
theorem Inv.tok (I : Inv X pins σ H s) (t : Nat) : Inv X pins σ H { s with toks := t } := I.un (h' := s.heap) (t' := t) Un.refl I.hok
/-- all objects kept -/
theorem Inv.kept {t' : Nat} (I : Inv X pins σ H s) (k : ∀ b u, s.heap.get? b = some u → h'.get? b = some u) : Inv X pins σ H { s with heap := h', toks := t' } := I.un (Un.kept k) (I.hok.kept k)
/-- a new object laid and tracked -/
theorem Inv.laid {a : Addr} {o : HO} {t' : Nat} (I : Inv X pins σ H s) (k : ∀ b u, s.heap.get? b = some u → h'.get? b = some u) (hp : s.heap.objs.size ≤ a) (new : ObjOk X.prog X.w (upd H a o) h' a o) :
    Inv X pins σ (upd H a o) { s with heap := h', toks := t' } := I.un (Un.laid k hp (I.hok.fresh hp)) (I.hok.laid k hp new)
/-- an object written -/
theorem Inv.write {x e : Addr} {o : HO} {t' : Nat} (I : Inv X pins σ H s) (mu : Mut (H x)) (he : e = x ∨ H e = some (.own x)) (k : ∀ b u, b ≠ e → s.heap.get? b = some u → h'.get? b = some u) (heo : ∃ u, h'.get? e = some u)
    (new : ObjOk X.prog X.w (upd H x o) h' x o) : Inv X pins σ (upd H x o) { s with heap := h', toks := t' } := I.un (Un.write mu he k heo) (I.hok.write mu he k heo new)
/-- forgetting slots, pins -/
theorem Inv.weak {σ' : List (Option V)} (I : Inv X pins σ H s) (hl : σ'.length = σ.length) (w : ∀ (i : Nat) v, σ'[i]? = some (some v) → σ[i]? = some (some v)) : Inv X pins σ' H s :=
  ⟨I.ok, I.os, I.bare, I.base, let ⟨m, hn, hl'⟩ := I.loc; ⟨m, hn, fun i x v e1 e2 e3 => hl' i x v e1 (w i v e2) e3⟩, I.cell, I.free, I.freeC, I.pin, I.hok, hl.trans I.len⟩
theorem Inv.pins_of {pins' : List (Addr × Obj)} (I : Inv X pins σ H s) (h : ∀ p ∈ pins', s.heap.get? p.1 = some p.2 ∧ H p.1 = none ∧ p.1 ≠ X.env.locals ∧ p.1 ∉ X.fs ∧ ∀ v, p.2.data ≠ .cell v) : Inv X pins' σ H s :=
  ⟨I.ok, I.os, I.bare, I.base, I.loc, I.cell, I.free, I.freeC, fun p hp => (List.mem_append.mp hp).elim (fun z => I.pin p (List.mem_append_left _ z)) (h p), I.hok, I.len⟩

theorem nodup_ix {N : List Str} (hN : N.Nodup) {i j : Nat} {x : Str} (a : N[i]? = some x) (b : N[j]? = some x) : i = j := by
  obtain ⟨h1, e1⟩ := List.getElem?_eq_some_iff.mp a
  obtain ⟨h2, e2⟩ := List.getElem?_eq_some_iff.mp b
  exact (List.getElem_inj hN).mp (e1.trans e2.symm)

/-- a name is stored; what changed -/
theorem store_ok2 {M : Model} {A : Around} {E : Value → Shared → Prop} {i : Nat} {x : Str} {v : V} {u : Value} {Q : Unit → Shared → Prop} (I : Inv X pins σ H s) (hN : X.N.Nodup) (hi : X.N[i]? = some x) (hx : Loc X.env.scope x) (r : RelV v u)
    (h : ∀ s', Inv X pins (σ.set i (some v)) H s' → (∃ a, Heap.SameBut a s.heap s'.heap ∧ (a = X.env.locals ∨ X.env.cells.lookup x = some a)) → Q () s') (hf : X.fn x = true ∨ X.env.scope.names.lookup x = some .local := by first | exact .inl rfl | exact .inr rfl | assumption) : wpAny M A (storeName X.env x u) Q E s := by
  obtain ⟨m, hn, hl⟩ := id I.loc
  have hcls : (X.env.scope.kind == .class || (X.env.scope.kind == .module && X.env.locals != X.env.globals)) = false := by rw [I.ok.kind]; rfl
  have hiσ : i < σ.length := by rw [I.len]; exact (List.getElem?_eq_some_iff.mp hi).1
  have cne := I.cne
  have tracked : ∀ {a : Addr} {h' : Heap}, (∃ o, s.heap.get? a = some o ∧ H a = none) → Heap.SameBut a s.heap h' → HOk X.prog X.w H h' := fun {a h'} ha hs b ob e => by
    obtain ⟨_, _, hfree⟩ := ha
    refine (I.hok b ob e).stay (fun c w' hc q => (hs.2 c ?_).trans q) (fun _ q => q) fun _ _ q => q
    rintro rfl
    rcases hc with rfl | hc
    · rw [hfree] at e; cases e
    · rw [hfree] at hc; cases hc
  rcases hx with hk | hk
  · refine wpAny_storeName_local hk hn (fun h' hn' hs => ?_) hcls
    obtain ⟨oL, _, _, hoL, _⟩ := id hn
    refine h _ ⟨I.ok, I.os, I.bare, ⟨fun b o e n hb hx => ?_, fun b o e n hb hx => ?_, I.base.free, fun b o e hx => ?_, I.base.tups, I.base.frzs, I.base.tbls⟩, ⟨_, hn', fun j y v' e1 e2 e3 => ?_⟩, fun y c e => ?_, I.free, I.freeC, fun p hp => ?_, tracked ⟨oL, hoL, I.free⟩ hs, by simpa using I.len⟩ ⟨_, hs, .inl rfl⟩
    · exact (hs.2 b (Nat.ne_of_lt (Nat.lt_of_lt_of_le (Heap.lt_size e) I.ok.above))).trans (I.base.keep b o e n hb hx)
    · obtain ⟨sl, e1⟩ := I.base.slot b o e n hb hx
      exact ⟨sl, (hs.2 b (Nat.ne_of_lt (Nat.lt_of_lt_of_le (Heap.lt_size e) I.ok.above))).trans e1⟩
    · obtain ⟨o', e1⟩ := I.base.there b o e hx
      exact ⟨o', (hs.2 b (Nat.ne_of_lt (Nat.lt_of_lt_of_le (Heap.lt_size e) I.ok.above))).trans e1⟩
    · by_cases hj : j = i
      · subst hj
        rw [hi] at e1; cases e1
        rw [List.getElem?_set_self hiσ] at e2
        cases e2
        exact ⟨u, r, .inl ⟨hk, by simp⟩⟩
      · rw [List.getElem?_set_ne (Ne.symm hj)] at e2
        obtain ⟨u', r', q⟩ := hl j y v' e1 e2 e3
        refine ⟨u', r', ?_⟩
        rcases q with ⟨k, e⟩ | ⟨k, c, e, z⟩
        · refine .inl ⟨k, ?_⟩
          have : y ≠ x := fun e => hj (nodup_ix hN e1 (e ▸ hi))
          simp [this, e]
        · exact .inr ⟨k, c, e, z.sameBut hs (cne y c e)⟩
    · obtain ⟨w', z⟩ := I.cell y c e
      exact ⟨w', z.sameBut hs (cne y c e)⟩
    · obtain ⟨e, n, ne, nf, d⟩ := I.pin p hp
      exact ⟨(hs.2 p.1 ne).trans e, n, ne, nf, d⟩
  · have hfn : X.fn x = true := by
      rcases hf with z | z
      · exact z
      · rw [z] at hk; cases hk
    obtain ⟨c, hc⟩ := I.ok.has x (.inl hk)
    obtain ⟨w', z⟩ := I.cell x c hc
    refine wpAny_storeName_cell I.ok.kind hk hc z (fun h' hc' hs => ?_)
    obtain ⟨oc, hoc, hocd⟩ := id z
    refine h { s with heap := h' } ⟨I.ok, I.os, I.bare, ⟨fun b o e n hb hx => ?_, fun b o e n hb hx => ?_, I.base.free, fun b o e hx => ?_, I.base.tups, I.base.frzs, I.base.tbls⟩, ⟨m, hn.sameBut hs (Ne.symm (cne x c hc)), fun j y v' e1 e2 e3 => ?_⟩, fun y c' e => ?_, I.free, I.freeC, fun p hp => ?_, tracked ⟨oc, hoc, I.freeC x c hc⟩ hs, by simpa using I.len⟩ ⟨c, hs, .inr hc⟩
    · exact (hs.2 b (Nat.ne_of_lt (Nat.lt_of_lt_of_le (Heap.lt_size e) (I.ok.cab x c hfn hc)))).trans (I.base.keep b o e n hb hx)
    · obtain ⟨sl, e1⟩ := I.base.slot b o e n hb hx
      exact ⟨sl, (hs.2 b (Nat.ne_of_lt (Nat.lt_of_lt_of_le (Heap.lt_size e) (I.ok.cab x c hfn hc)))).trans e1⟩
    · obtain ⟨o', e1⟩ := I.base.there b o e hx
      exact ⟨o', (hs.2 b (Nat.ne_of_lt (Nat.lt_of_lt_of_le (Heap.lt_size e) (I.ok.cab x c hfn hc)))).trans e1⟩
    · by_cases hj : j = i
      · subst hj
        rw [hi] at e1; cases e1
        rw [List.getElem?_set_self hiσ] at e2
        cases e2
        exact ⟨u, r, .inr ⟨.inl hk, c, hc, hc'⟩⟩
      · rw [List.getElem?_set_ne (Ne.symm hj)] at e2
        obtain ⟨u', r', q⟩ := hl j y v' e1 e2 e3
        refine ⟨u', r', ?_⟩
        rcases q with q | ⟨k, c', e, z'⟩
        · exact .inl q
        · refine .inr ⟨k, c', e, z'.sameBut hs ?_⟩
          rintro rfl
          exact hj (nodup_ix hN e1 (I.ok.inj _ _ _ e hc ▸ hi))
    · by_cases hcc : c' = c
      · subst hcc; exact ⟨_, hc'⟩
      · obtain ⟨w2, z2⟩ := I.cell y c' e
        exact ⟨w2, z2.sameBut hs hcc⟩
    · obtain ⟨e, n, ne, nf, d⟩ := I.pin p hp
      refine ⟨(hs.2 p.1 ?_).trans e, n, ne, nf, d⟩
      intro q
      rw [q, hoc] at e
      have q' : oc = p.2 := Option.some.inj e
      exact d w' (by rw [← q']; exact hocd)
theorem store_ok {M : Model} {A : Around} {E : Value → Shared → Prop} {i : Nat} {x : Str} {v : V} {u : Value} {Q : Unit → Shared → Prop} (I : Inv X pins σ H s) (hN : X.N.Nodup) (hi : X.N[i]? = some x) (hx : Loc X.env.scope x) (r : RelV v u)
    (h : ∀ s', Inv X pins (σ.set i (some v)) H s' → Q () s') (hf : X.fn x = true ∨ X.env.scope.names.lookup x = some .local := by first | exact .inl rfl | exact .inr rfl | assumption) : wpAny M A (storeName X.env x u) Q E s :=
  store_ok2 I hN hi hx r (fun s' I' _ => h s' I') hf
/-- behind a call or a block, the state as it is -/
theorem Inv.call' {s' : Shared} {ch : List Addr} (I : Inv X pins σ H s) (ho : s'.os = s.os) (u : Un (frs X.stack) ch H H' s.heap s'.heap) (hok : HOk X.prog X.w H' s'.heap) (hg : AllBare s'.gens)
    (hch : ∀ b ∈ ch, (b ∈ X.ex ∨ X.s₀.heap.objs.size ≤ b) ∧ b ≠ X.env.locals ∧ (∀ x c, X.env.cells.lookup x = some c → c ≠ b) ∧ ∀ p ∈ X.pn ++ pins, p.1 ≠ b) : Inv X pins σ H' s' := by
  obtain ⟨h', g', d', t', o'⟩ := s'
  have e : o' = s.os := ho
  subst e
  exact I.call (g' := g') (t' := t') (d' := d') u hok hg hch
end

/-! ### the judgements -/
/-- an exception: its class, its own dict's address (where it has one), the abstract heap behind it -/
abbrev XK := Value → Option Addr → Hp → Prop
abbrev St := List (Option V)
abbrev VK := V → Hp → Prop
/-- an expression's reading; a test's; an argument list's -/
abbrev TE := St → Hp → VK → Prop
abbrev TT := St → Hp → (Bool → Hp → Prop) → Prop
abbrev TA := St → Hp → (List V → Hp → Prop) → Prop
/-- what is wanted behind a statement -/
structure Ends where
  nx : St → Hp → Prop
  rt : VK
  bk : St → Hp → Prop := fun _ _ => False
  ct : St → Hp → Prop := fun _ _ => False
abbrev TS := Ends → St → Hp → Prop

def EP (X : Cx) (pins : List (Addr × Obj)) (σ : St) (Q : VK) (u : Value) (s' : Shared) : Prop := ∃ v H', Inv X pins σ H' s' ∧ RelV v u ∧ Q v H'
def TP (X : Cx) (pins : List (Addr × Obj)) (σ : St) (Q : Bool → Hp → Prop) (b : Bool) (s' : Shared) : Prop := ∃ H', Inv X pins σ H' s' ∧ Q b H'
def AP (X : Cx) (pins : List (Addr × Obj)) (σ : St) (Q : List V → Hp → Prop) (us : List Value) (s' : Shared) : Prop := ∃ vs H', Inv X pins σ H' s' ∧ Vals vs us ∧ Q vs H'
def SP (X : Cx) (pins : List (Addr × Obj)) (D : Ends) (f : Flow) (s' : Shared) : Prop :=
  match f with
  | .next => ∃ σ' H', Inv X pins σ' H' s' ∧ D.nx σ' H'
  | .brk => ∃ σ' H', Inv X pins σ' H' s' ∧ D.bk σ' H'
  | .cont => ∃ σ' H', Inv X pins σ' H' s' ∧ D.ct σ' H'
  | .ret u => ∃ v σ' H', Inv X pins σ' H' s' ∧ RelV v u ∧ D.rt v H'

def PE (X : Cx) (e : Expr) (t : TE) : Prop :=
  ∀ (pins : List (Addr × Obj)) (s : Shared) (σ : St) (H : Hp) (Q : VK), Inv X pins σ H s → t σ H Q → wpAny (model X.prog X.w) X.A (eval e X.env) (EP X pins σ Q) X.xe s
def PT (X : Cx) (e : Expr) (t : TT) : Prop :=
  ∀ (pins : List (Addr × Obj)) (s : Shared) (σ : St) (H : Hp) (Q : Bool → Hp → Prop), Inv X pins σ H s → t σ H Q → wpAny (model X.prog X.w) X.A (isTrue e X.env (eval e X.env)) (TP X pins σ Q) X.xe s
/-- a test whatever its 'whole' is (and, or) -/
def PW (X : Cx) (e : Expr) (t : TT) : Prop :=
  ∀ (whole : Sem Value) (pins : List (Addr × Obj)) (s : Shared) (σ : St) (H : Hp) (Q : Bool → Hp → Prop), Inv X pins σ H s → t σ H Q → wpAny (model X.prog X.w) X.A (isTrue e X.env whole) (TP X pins σ Q) X.xe s
theorem PW.pt {X : Cx} {e : Expr} {t : TT} (h : PW X e t) : PT X e t := h _
/-- an argument list (no star), from the left -/
def PA (X : Cx) (es : List Expr) (t : TA) : Prop :=
  ∀ (pos : Pos) (pins : List (Addr × Obj)) (s : Shared) (σ : St) (H : Hp) (Q : List V → Hp → Prop), Inv X pins σ H s → t σ H Q → wpAny (model X.prog X.w) X.A (spliced (backTo pos (starEach es X.env))) (AP X pins σ Q) X.xe s
def PS (X : Cx) (st : Stmt) (t : TS) : Prop :=
  ∀ (pins : List (Addr × Obj)) (s : Shared) (σ : St) (H : Hp) (D : Ends), Inv X pins σ H s → t D σ H → wpAny (model X.prog X.w) X.A (exec st X.env) (SP X pins D) X.xe s
def PSs (X : Cx) (st : List Stmt) (t : TS) : Prop :=
  ∀ (pins : List (Addr × Obj)) (s : Shared) (σ : St) (H : Hp) (D : Ends), Inv X pins σ H s → t D σ H → wpAny (model X.prog X.w) X.A (execs st X.env) (SP X pins D) X.xe s
/-- weaken the end -/
theorem thn {α : Type} {t : Sem α} {Q Q' : α → Shared → Prop} {M : Model} {A : Around} {E : Value → Shared → Prop} {s : Shared} (h : wpAny M A t Q E s) (hQ : ∀ a s, Q a s → Q' a s) : wpAny M A t Q' E s := wpAny_mono h hQ fun _ _ x => x
end L2

namespace L2
open PySem PySem.Spec PyProof.Rows
section
variable {X : Cx}

/-- two expressions in a row -/
theorem bin {a b : Expr} {ta tb : TE} (ha : PE X a ta) (hb : PE X b tb) {pins : List (Addr × Obj)} {s : Shared} {σ : St} {H : Hp} {R : V → V → Hp → Prop} (I : Inv X pins σ H s) (h : ta σ H fun x H1 => tb σ H1 fun y H2 => R x y H2)
    {α : Type} {Q : α → Shared → Prop} {f : Value → Value → Sem α}
    (hf : ∀ v u s2 x y H2, Inv X pins σ H2 s2 → RelV x v → RelV y u → R x y H2 → wpAny (model X.prog X.w) X.A (f v u) Q X.xe s2) :
    wpAny (model X.prog X.w) X.A (eval a X.env) (fun v s₁ => wpAny (model X.prog X.w) X.A (eval b X.env) (fun u s₂ => wpAny (model X.prog X.w) X.A (f v u) Q X.xe s₂) X.xe s₁) X.xe s := by
  refine thn (ha pins s σ H _ I h) fun v s1 ⟨x, H1, I1, r1, q1⟩ => ?_
  refine thn (hb pins s1 σ H1 _ I1 q1) fun u s2 ⟨y, H2, I2, r2, q2⟩ => ?_
  exact hf v u s2 x y H2 I2 r1 r2 q2

/-! ### names and constants -/
def tVar (i : Nat) : TE := fun σ H Q => ∃ v, σ[i]? = some (some v) ∧ Q v H
def tC (v : V) : TE := fun _ H Q => Q v H
theorem pe_var {i : Nat} {x : Str} {pos : Pos} (hN : X.N[i]? = some x) (hv : Vis X.env.scope x) (hd : (x == ("__debug__" : Str)) = false := by decide) (hcd : (x == ("__classdict__" : Str)) = false := by decide) : PE X (.Name x pos) (tVar i) := by
  intro pins s σ H Q I h
  obtain ⟨v, e, h⟩ := h
  obtain ⟨m, hn, hl⟩ := I.loc
  obtain ⟨u, r, l⟩ := hl i x v hN e hv
  have fin : EP X pins σ Q u s := ⟨v, H, I, r, h⟩
  rcases l with ⟨hk, hm⟩ | ⟨hk, c, hc, hcell⟩
  · exact wpAny_Name (wpAny_loadName_local I.ok.kind hk hn hm fin) hd
  · rcases hk with hk | hk
    · exact wpAny_Name (wpAny_loadName_cell I.ok.kind hk hc hcell fin) hd
    · exact wpAny_Name (wpAny_loadName_free I.ok.kind hk hc hcell fin hcd) hd
theorem pe_int {i j pos} : PE X (.Constant (.int i) j pos) (tC (.int i)) := fun _ _ _ H _ I h => wpAny_Constant_int ⟨.int i, H, I.tok _, ⟨_, rfl⟩, h⟩
theorem pe_bl {b j pos} : PE X (.Constant (.bool b) j pos) (tC (.bl b)) := fun _ _ _ H _ I h => Constant_bool ⟨.bl b, H, I, rfl, h⟩
theorem pe_non {j pos} : PE X (.Constant .none j pos) (tC .non) := fun _ _ _ H _ I h => Constant_none ⟨.non, H, I, rfl, h⟩
theorem pe_str {x j pos} : PE X (.Constant (.str x) j pos) (tC (.str x)) := fun _ _ _ H _ I h => Calls.Constant_str ⟨.str x, H, I.tok _, ⟨_, rfl⟩, h⟩

/-- a global name of the def -/
def Gl (X : Cx) (x : Str) : Prop := X.env.kindOf x = some .globalImplicit
theorem ld_glob {E : Value → Shared → Prop} {pins : List (Addr × Obj)} {s : Shared} {σ : St} {H : Hp} {x : Str} {u : Value} {pos : Pos} {Q : Value → Shared → Prop} (I : Inv X pins σ H s) (hg : Gl X x) (hm : X.mg x = some u) (h : Q u s)
    (hd : (x == ("__debug__" : Str)) = false := by decide) : wpAny (model X.prog X.w) X.A (eval (.Name x pos) X.env) Q E s :=
  Calls.Name_function_global I.ok.kind hg (Calls.loadGlobal_global (by rw [I.ok.glob]; exact I.mod.glob.keeps I.bk) hm h) hd
theorem ld_blt {E : Value → Shared → Prop} {pins : List (Addr × Obj)} {s : Shared} {σ : St} {H : Hp} {x : Str} {u : Value} {pos : Pos} {Q : Value → Shared → Prop} (I : Inv X pins σ H s) (hg : Gl X x) (hm : X.mg x = none) (hv : bootBuiltins x = some u) (h : Q u s)
    (hn : x ≠ "__name__" := by decide) (hd : (x == ("__debug__" : Str)) = false := by decide) : wpAny (model X.prog X.w) X.A (eval (.Name x pos) X.env) Q E s := by
  obtain ⟨mb, h1, h2⟩ := I.mod.blt
  exact Calls.Name_function_global I.ok.kind hg (Calls.loadGlobal_builtin (by rw [I.ok.glob]; exact I.mod.glob.keeps I.bk) hm (by rw [I.ok.blt]; exact h1.keeps I.bk) ((h2 x hn).trans hv) h) hd
/-- a module's constant, a class, a function, as a value -/
theorem pe_glob {x : Str} {v : V} {u : Value} {pos : Pos} (hg : Gl X x) (hm : X.mg x = some u) (r : RelV v u) (hd : (x == ("__debug__" : Str)) = false := by decide) : PE X (.Name x pos) (tC v) :=
  fun _ _ _ H _ I h => ld_glob I hg hm ⟨v, H, I, r, h⟩ hd
theorem pe_bltn {x : Str} {v : V} {u : Value} {pos : Pos} (hg : Gl X x) (hm : X.mg x = none) (hv : bootBuiltins x = some u) (r : RelV v u) (hn : x ≠ "__name__" := by decide) (hd : (x == ("__debug__" : Str)) = false := by decide) : PE X (.Name x pos) (tC v) :=
  fun _ _ _ H _ I h => ld_blt I hg hm hv ⟨v, H, I, r, h⟩ hn hd

/-! ### arithmetic -/
variable {a b : Expr} {ta tb : TE} {pos : Pos}
/-! ### comparisons -/
/-! ### and, or, not -/
variable {tA tB' : TT} {rest : List Expr}
def tAnd (t u : TT) : TT := fun σ H Q => t σ H fun c H1 => if c = true then u σ H1 Q else Q false H1
def tOr (t u : TT) : TT := fun σ H Q => t σ H fun c H1 => if c = true then Q true H1 else u σ H1 Q
def tNot (t : TT) : TT := fun σ H Q => t σ H fun c H1 => Q (!c) H1
theorem pw_and1 (ha : PT X a tA) : PW X (.BoolOp .And [a] pos) tA := by
  intro wh pins s σ H Q I h
  refine isTrue_and (thn (ha pins s σ H Q I h) fun c s1 e => ?_)
  cases c with
  | true => exact isTrue_and_nil e
  | false => exact e
theorem pw_or1 (ha : PT X a tA) : PW X (.BoolOp .Or [a] pos) tA := by
  intro wh pins s σ H Q I h
  refine isTrue_or (thn (ha pins s σ H Q I h) fun c s1 e => ?_)
  cases c with
  | false => exact isTrue_or_nil e
  | true => exact e
theorem pw_and (ha : PT X a tA) (hb : PW X (.BoolOp .And (b :: rest) pos) tB') : PW X (.BoolOp .And (a :: b :: rest) pos) (tAnd tA tB') := by
  intro wh pins s σ H Q I h
  refine isTrue_and (thn (ha pins s σ H _ I h) fun c s1 ⟨H1, I1, q1⟩ => ?_)
  cases c with
  | true => exact hb wh pins s1 σ H1 Q I1 q1
  | false => exact ⟨H1, I1, q1⟩
theorem pw_or (ha : PT X a tA) (hb : PW X (.BoolOp .Or (b :: rest) pos) tB') : PW X (.BoolOp .Or (a :: b :: rest) pos) (tOr tA tB') := by
  intro wh pins s σ H Q I h
  refine isTrue_or (thn (ha pins s σ H _ I h) fun c s1 ⟨H1, I1, q1⟩ => ?_)
  cases c with
  | true => exact ⟨H1, I1, q1⟩
  | false => exact hb wh pins s1 σ H1 Q I1 q1
theorem pt_not (ha : PT X a tA) : PT X (.UnaryOp .Not a pos) (tNot tA) := by
  intro pins s σ H Q I h
  exact isTrue_not (ha pins s σ H (fun c H1 => Q (!c) H1) I h)
/-- .. as values (bools) -/
def tAndV (ta tb : TE) : TE := fun σ H Q => ta σ H fun x H1 => ∃ c, x = .bl c ∧ if c = true then tb σ H1 Q else Q (.bl false) H1
def tOrV (ta tb : TE) : TE := fun σ H Q => ta σ H fun x H1 => ∃ c, x = .bl c ∧ if c = true then Q (.bl true) H1 else tb σ H1 Q
def tNotV (ta : TE) : TE := fun σ H Q => ta σ H fun x H1 => ∃ c, x = .bl c ∧ Q (.bl (!c)) H1
theorem pe_one {op} {t : TE} (h : PE X a t) : PE X (.BoolOp op [a] pos) t := fun pins s σ H Q I hw => BoolOp_one (h pins s σ H Q I hw)
theorem pe_and (ha : PE X a ta) (hb : PE X (.BoolOp .And (b :: rest) pos) tb) : PE X (.BoolOp .And (a :: b :: rest) pos) (tAndV ta tb) := by
  intro pins s σ H Q I h
  refine BoolOp_and (thn (ha pins s σ H _ I h) fun v s1 ⟨x, H1, I1, r1, q1⟩ => ?_)
  obtain ⟨c, rfl, q1⟩ := q1
  cases r1
  refine wpAny_truthy_bool ?_
  cases c with
  | true => exact hb pins s1 σ H1 Q I1 q1
  | false => exact ⟨.bl false, H1, I1, rfl, q1⟩
theorem pe_or (ha : PE X a ta) (hb : PE X (.BoolOp .Or (b :: rest) pos) tb) : PE X (.BoolOp .Or (a :: b :: rest) pos) (tOrV ta tb) := by
  intro pins s σ H Q I h
  refine BoolOp_or (thn (ha pins s σ H _ I h) fun v s1 ⟨x, H1, I1, r1, q1⟩ => ?_)
  obtain ⟨c, rfl, q1⟩ := q1
  cases r1
  refine wpAny_truthy_bool ?_
  cases c with
  | false => exact hb pins s1 σ H1 Q I1 q1
  | true => exact ⟨.bl true, H1, I1, rfl, q1⟩
theorem pe_not (ha : PE X a ta) : PE X (.UnaryOp .Not a pos) (tNotV ta) := by
  intro pins s σ H Q I h
  refine UnaryOp_ (thn (ha pins s σ H _ I h) fun v s1 ⟨x, H1, I1, r1, q1⟩ => ?_)
  obtain ⟨c, rfl, q1⟩ := q1
  cases r1
  exact not_of (wpAny_truthy_bool ⟨.bl (!c), H1, I1, rfl, q1⟩)
end
end L2

namespace L2
open PySem PySem.Spec PyProof.Rows

/-! ### a list, a tuple that is read: tracked, frozen, or an object of the module -/
def SqL (K : PySem.W.Frag) (H : Hp) (a : Addr) (xs : List V) : Prop :=
  Rd H a (.lst xs) ∨
    ∃ (o : Obj) (its : Array Value) (n : Nat), K.lookup a = some o ∧ o.cls = .type "list" ∧ o.dict = none ∧ o.data = .seq its n ∧ its.size ≤ sizeLine ∧ Vals xs its.toList
def SqT (K : PySem.W.Frag) (H : Hp) (a : Addr) (xs : List V) : Prop :=
  Rd H a (.tup xs) ∨
    ∃ (o : Obj) (its : Array Value) (n : Nat), K.lookup a = some o ∧ o.cls = .type "tuple" ∧ o.dict = none ∧ o.data = .seq its n ∧ its.size ≤ sizeLine ∧ Vals xs its.toList
def absV : Value → Option V
  | .none => some .non
  | .bool b => some (.bl b)
  | .int i _ => some (.int i)
  | .str x _ => some (.str x)
  | .bytes b _ => some (.byt b)
  | .float b _ => some (.flt b)
  | .ref a => some (.ref a)
  | .type n => some (.ty n)
  | _ => none
theorem RelV.abs {x : V} {u : Value} (r : RelV x u) : absV u = some x := by
  cases x with
  | non => cases r; rfl
  | bl _ => cases r; rfl
  | int _ => obtain ⟨t, rfl⟩ := r; rfl
  | str _ => obtain ⟨t, rfl⟩ := r; rfl
  | byt _ => obtain ⟨t, rfl⟩ := r; rfl
  | flt _ => obtain ⟨t, rfl⟩ := r; rfl
  | ref _ => cases r; rfl
  | ty _ => cases r; rfl
theorem RelV.inj {x y : V} {u : Value} (r : RelV x u) (q : RelV y u) : x = y := Option.some.inj (r.abs.symm.trans q.abs)
theorem Vals.inj : ∀ {xs ys : List V} {us : List Value}, Vals xs us → Vals ys us → xs = ys
  | _, _, _, .nil, .nil => rfl
  | _, _, _, .cons r t, .cons r' t' => by rw [r.inj r', Vals.inj t t']
section
variable {X : Cx} {pins : List (Addr × Obj)} {σ : St} {H : Hp} {s : Shared} {a : Addr} {xs ys : List V}
theorem SqL.of {K : PySem.W.Frag} (h : H a = some (.lst xs)) : SqL K H a xs := .inl (.inl h)
theorem SqT.of {K : PySem.W.Frag} (h : H a = some (.tup xs)) : SqT K H a xs := .inl (.inl h)
theorem Inv.list (I : Inv X pins σ H s) (h : SqL X.K H a xs) : ∃ its : List Value, Vals xs its ∧ PlainL s.heap a its.toArray ∧ xs.length ≤ sizeLine := by
  rcases h with h | ⟨o, its, n, hk, hc, hd, hs, hz, r⟩
  · obtain ⟨z, its, n, r, e⟩ := h.ok I.hok
    exact ⟨its, r, ⟨_, n, e, rfl, rfl, rfl⟩, z⟩
  · refine ⟨its.toList, r, ⟨o, n, I.kIn a o hk, hc, hd, by simpa using hs⟩, ?_⟩
    have e := r.length
    simp only [Array.length_toList] at e
    omega
theorem Inv.tuple (I : Inv X pins σ H s) (h : SqT X.K H a xs) : ∃ its : List Value, Vals xs its ∧ IsTup s.heap a its.toArray ∧ xs.length ≤ sizeLine := by
  rcases h with h | ⟨o, its, n, hk, hc, hdt, hs, hz, r⟩
  · obtain ⟨z, its, r, p⟩ := h.ok I.hok
    exact ⟨its, r, p.isTup, z⟩
  · refine ⟨its.toList, r, ⟨o, I.kIn a o hk, hc, n, by simpa using hs⟩, ?_⟩
    have e := r.length
    simp only [Array.length_toList] at e
    omega
theorem Inv.list_inj (I : Inv X pins σ H s) (h : SqL X.K H a xs) (h' : SqL X.K H a ys) : xs = ys := by
  obtain ⟨its, r, ⟨o, n, e, _, _, d⟩, _⟩ := I.list h
  obtain ⟨its', r', ⟨o', n', e', _, _, d'⟩, _⟩ := I.list h'
  rw [e] at e'; cases e'
  rw [d] at d'
  injection d' with d1 _
  have : its = its' := by simpa using congrArg Array.toList d1
  subst this
  exact r.inj r'
theorem Inv.tuple_inj (I : Inv X pins σ H s) (h : SqT X.K H a xs) (h' : SqT X.K H a ys) : xs = ys := by
  obtain ⟨its, r, ⟨o, e, _, n, d⟩, _⟩ := I.tuple h
  obtain ⟨its', r', ⟨o', e', _, n', d'⟩, _⟩ := I.tuple h'
  rw [e] at e'; cases e'
  rw [d] at d'
  injection d' with d1 _
  have : its = its' := by simpa using congrArg Array.toList d1
  subst this
  exact r.inj r'
end

/-! ### another wish about exceptions -/
abbrev Cx.wish (X : Cx) (E : Value → Shared → Prop) : Cx := { X with xe := E }
/-- no exception leaves -/
abbrev Cx.nox (X : Cx) : Cx := X.wish fun _ _ => False
theorem Cx.Ok.wish {X : Cx} (ok : X.Ok) (E : Value → Shared → Prop) : (X.wish E).Ok :=
  ⟨ok.mod, ok.kind, ok.glob, ok.blt, ok.above, ok.inj, ok.has, ok.cab, ok.hd, ok.frames, ok.stk, ok.exf, ok.bs, ok.bsz, ok.noex, ok.exfs, ok.funs, ok.frf⟩
theorem Cx.Ok.unwish {X : Cx} {E : Value → Shared → Prop} (ok : (X.wish E).Ok) : X.Ok :=
  ⟨ok.mod, ok.kind, ok.glob, ok.blt, ok.above, ok.inj, ok.has, ok.cab, ok.hd, ok.frames, ok.stk, ok.exf, ok.bs, ok.bsz, ok.noex, ok.exfs, ok.funs, ok.frf⟩
section
variable {X : Cx} {pins : List (Addr × Obj)} {σ : St} {H : Hp} {s : Shared} {E : Value → Shared → Prop}
theorem Inv.wish (I : Inv X pins σ H s) (E : Value → Shared → Prop) : Inv (X.wish E) pins σ H s := ⟨I.ok.wish E, I.os, I.bare, I.base, I.loc, I.cell, I.free, I.freeC, I.pin, I.hok, I.len⟩
theorem Inv.unwish (I : Inv (X.wish E) pins σ H s) : Inv X pins σ H s := ⟨I.ok.unwish, I.os, I.bare, I.base, I.loc, I.cell, I.free, I.freeC, I.pin, I.hok, I.len⟩
theorem SP.unwish {D : Ends} {f : Flow} {s' : Shared} (h : SP (X.wish E) pins D f s') : SP X pins D f s' := by
  cases f with
  | next => obtain ⟨σ', H', I, q⟩ := h; exact ⟨σ', H', I.unwish, q⟩
  | brk => obtain ⟨σ', H', I, q⟩ := h; exact ⟨σ', H', I.unwish, q⟩
  | cont => obtain ⟨σ', H', I, q⟩ := h; exact ⟨σ', H', I.unwish, q⟩
  | ret u => obtain ⟨v, σ', H', I, r, q⟩ := h; exact ⟨v, σ', H', I.unwish, r, q⟩
theorem PE.nox {e : Expr} {t : TE} (h : PE X.nox e t) : PE X e t := fun pins s σ H Q I hw =>
  wpAny_mono (h pins s σ H Q (I.wish _) hw) (fun _ _ ⟨v, H', I', r, q⟩ => ⟨v, H', I'.unwish, r, q⟩) fun _ _ z => False.elim z
theorem PT.nox {e : Expr} {t : TT} (h : PT X.nox e t) : PT X e t := fun pins s σ H Q I hw =>
  wpAny_mono (h pins s σ H Q (I.wish _) hw) (fun _ _ ⟨H', I', q⟩ => ⟨H', I'.unwish, q⟩) fun _ _ z => False.elim z
theorem PSs.nox {st : List Stmt} {t : TS} (h : PSs X.nox st t) : PSs X st t := fun pins s σ H D I hw =>
  wpAny_mono (h pins s σ H D (I.wish _) hw) (fun _ _ q => q.unwish) fun _ _ z => False.elim z
end

/-! ### blocks and small statements -/
section
variable {X : Cx} {st : Stmt} {rest : List Stmt} {t u : TS} {e : Expr} {te : TE} {pos : Pos}
def tNext : TS := fun D σ H => D.nx σ H
def tSeq (t u : TS) : TS := fun D σ H => t { D with nx := u D } σ H
theorem pss_nil : PSs X [] tNext := fun _ _ σ H _ I h => wpAny_execs_nil ⟨σ, H, I, h⟩
theorem pss_cons (h1 : PS X st t) (h2 : PSs X rest u) : PSs X (st :: rest) (tSeq t u) := by
  intro pins s σ H D I h
  refine wpAny_execs_cons (thn (h1 pins s σ H { D with nx := u D } I h) fun f s1 q => ?_)
  cases f with
  | next =>
    obtain ⟨σ', H', I', q⟩ := q
    exact h2 pins s1 σ' H' D I' q
  | ret v => exact q
  | brk => exact q
  | cont => exact q
/-- in a def's body nothing is shown -/
theorem Inv.quiet {pins : List (Addr × Obj)} {σ : St} {H : Hp} {s : Shared} (I : Inv X pins σ H s) : interactive X.env = false := by simp [interactive, I.ok.kind]
def tRet (te : TE) : TS := fun D σ H => te σ H D.rt
theorem ps_ret (he : PE X e te) : PS X (.Return (some e) pos) (tRet te) := by
  intro pins s σ H D I h
  exact wpAny_Return_some (thn (he pins s σ H _ I h) fun v s1 ⟨x, H1, I1, r1, q1⟩ => ⟨x, σ, H1, I1, r1, q1⟩)
def tIfS (c : TT) (t u : TS) : TS := fun D σ H => c σ H fun b H1 => if b = true then t D σ H1 else u D σ H1
theorem ps_if {c : Expr} {a b : List Stmt} {tc : TT} (hc : PT X c tc) (ha : PSs X a t) (hb : PSs X b u) : PS X (.If c a b pos) (tIfS tc t u) := by
  intro pins s σ H D I h
  refine wpAny_If (thn (hc pins s σ H _ I h) fun d s1 ⟨H1, I1, q1⟩ => ?_)
  cases d with
  | true => exact ha pins s1 σ H1 D I1 q1
  | false => exact hb pins s1 σ H1 D I1 q1
end

/-! ### targets -/
abbrev TG := V → St → Hp → (St → Hp → Prop) → Prop
abbrev TGs := List V → St → Hp → (St → Hp → Prop) → Prop
def PG (X : Cx) (target : Expr) (t : TG) : Prop :=
  ∀ (pins : List (Addr × Obj)) (s : Shared) (σ : St) (H : Hp) (v : V) (u : Value) (Q : St → Hp → Prop), Inv X pins σ H s → RelV v u → t v σ H Q →
    wpAny (model X.prog X.w) X.A (assign target X.env u) (fun _ s' => ∃ σ' H', Inv X pins σ' H' s' ∧ Q σ' H') X.xe s
/-- several targets, one after another -/
def PGs (X : Cx) (ts : List Expr) (t : TGs) : Prop :=
  ∀ (pins : List (Addr × Obj)) (s : Shared) (σ : St) (H : Hp) (vs : List V) (us : List Value) (Q : St → Hp → Prop), Inv X pins σ H s → Vals vs us → t vs σ H Q →
    wpAny (model X.prog X.w) X.A (assignInOrder ((assignEach ts X.env).map (·.2)) us) (fun _ s' => ∃ σ' H', Inv X pins σ' H' s' ∧ Q σ' H') X.xe s
section
variable {X : Cx} {pos : Pos}
def gName (i : Nat) : TG := fun v σ H Q => Q (σ.set i (some v)) H
theorem pg_name {i : Nat} {x : Str} (hN : X.N.Nodup) (hi : X.N[i]? = some x) (hx : Loc X.env.scope x) (hf : X.fn x = true ∨ X.env.scope.names.lookup x = some .local := by first | exact .inl rfl | exact .inr rfl | assumption) : PG X (.Name x pos) (gName i) := by
  intro pins s σ H v u Q I r h
  exact wpAny_assign_Name (store_ok I hN hi hx r (fun s' I' => ⟨_, H, I', h⟩) hf)
def gNil : TGs := fun vs σ H Q => vs = [] ∧ Q σ H
def gCons (t : TG) (u : TGs) : TGs := fun vs σ H Q => ∃ v r, vs = v :: r ∧ t v σ H fun σ' H' => u r σ' H' Q
theorem pgs_nil : PGs X [] gNil := by
  intro pins s σ H vs us Q I r h
  obtain ⟨e, h⟩ := h
  subst e
  cases r
  exact assignInOrder_nil ⟨σ, H, I, h⟩
theorem pgs_cons {e : Expr} {es : List Expr} {t : TG} {u : TGs} (h1 : PG X e t) (h2 : PGs X es u)
    (hs : (assignEach (e :: es) X.env).map (·.2) = assign e X.env :: (assignEach es X.env).map (·.2) := by rfl) : PGs X (e :: es) (gCons t u) := by
  intro pins s σ H vs us Q I r h
  obtain ⟨v, vr, e1, h⟩ := h
  subst e1
  cases r with
  | cons r rr =>
    rw [hs]
    refine assignInOrder_cons (thn (h1 pins s σ H _ _ _ I r h) fun _ s1 ⟨σ1, H1, I1, q1⟩ => ?_)
    exact h2 pins s1 σ1 H1 _ _ Q I1 rr q1
/-- (a, b, ..) = a tuple of that length -/
def gTup (K : PySem.W.Frag) (n : Nat) (t : TGs) : TG := fun v σ H Q => ∃ a xs, v = .ref a ∧ SqT K H a xs ∧ xs.length = n ∧ t xs σ H Q
theorem pg_tup {es : List Expr} {k : Nat} {t : TGs} {n : Nat} (hc : X.calm = true) (h : PGs X es t)
    (hn : (assignEach es X.env).length = n := by rfl) (hst : (assignEach es X.env).findIdx? (·.1) = none := by rfl) : PG X (.Tuple es k pos) (gTup X.K n t) := by
  intro pins s σ H v u Q I r hw
  obtain ⟨a, xs, e1, hq, hl, hw⟩ := hw
  subst e1
  cases r
  obtain ⟨its, rv, ht, hz⟩ := I.tuple hq
  refine assign_Tuple_tuple (I.ok.hd hc) ht (by simp [hn, ← hl, rv.length]) hst fun h' hx => ?_
  have I1 : Inv X pins σ H { s with heap := h' } := I.kept (t' := s.toks) fun b o e => hx b o (Nat.ne_of_lt (Heap.lt_size e)) e
  exact h pins _ σ H xs _ Q I1 (by simpa using rv) hw
/-- target = value -/
def tAsg (te : TE) (g : TG) : TS := fun D σ H => te σ H fun x H1 => g x σ H1 D.nx
/-- name = value -/
theorem ps_set {i : Nat} {x : Str} {e : Expr} {te : TE} {pos' : Pos} (hN : X.N.Nodup) (hi : X.N[i]? = some x) (hx : Loc X.env.scope x) (he : PE X e te) (hs : swapsWith e (some (.Name x pos')) pos.line X.env = pure false := by rfl) (hf : X.fn x = true ∨ X.env.scope.names.lookup x = some .local := by first | exact .inl rfl | exact .inr rfl | assumption) :
    PS X (.Assign [.Name x pos'] e pos) (tAsg te (gName i)) := by
  intro pins s σ H D I h
  refine wpAny_Assign_Name (thn (he pins s σ H _ I h) fun v s1 ⟨y, H1, I1, r1, q1⟩ => ?_) hs
  exact store_ok I1 hN hi hx r1 (fun s2 I2 => ⟨_, H1, I2, q1⟩) hf
end

/-! ### while -/
section
variable {X : Cx} {pos : Pos}
end

/-! ### what a loop or a comprehension walks -/
/-- at turn i: it yields x (the heap may grow), or it stops -/
structure It where
  go : Nat → Hp → Prop
  yld : Nat → Hp → V → Hp → Prop
  stop : Nat → Hp → Prop
/-- the iterator's own objects may turn: they are not the frame's, not pinned, younger than the entry (or a comprehension's own) -/
def FpOk (X : Cx) (pins : List (Addr × Obj)) (H : Hp) (b : Addr) : Prop :=
  H b = none ∧ b ≠ X.env.locals ∧ b ∉ X.fs ∧ (b ∈ X.ex ∨ X.s₀.heap.objs.size ≤ b) ∧ (∀ x c, X.env.cells.lookup x = some c → c ≠ b) ∧ ∀ p ∈ X.pn ++ pins, p.1 ≠ b
theorem Inv.fpOk {X : Cx} {pins : List (Addr × Obj)} {σ : St} {H H' : Hp} {s : Shared} {b : Addr} (I : Inv X pins σ H s) (hb : s.heap.objs.size ≤ b) (hn : H' b = none) : FpOk X pins H' b := by
  refine ⟨hn, Nat.ne_of_gt (Nat.lt_of_lt_of_le I.lt hb), I.nofs hb, .inr (Nat.le_trans I.sz hb), fun x c e z => ?_, fun p hp z => ?_⟩
  · obtain ⟨v, q⟩ := I.cell x c e
    exact absurd (Nat.lt_of_lt_of_le q.lt (by rw [z]; exact hb)) (Nat.lt_irrefl _)
  · exact absurd (Nat.lt_of_lt_of_le (Heap.lt_size (I.pin p hp).1) (by rw [z]; exact hb)) (Nat.lt_irrefl _)
structure Turn (P : Program) (w : World) (K : PySem.W.Frag) (tg : Expr) (J : It) (fp : List Addr) (it : Addr) (tn : Nat → Heap → Prop) : Prop where
  mem : it ∈ fp
  obj : ∀ i h, tn i h → ∀ b ∈ fp, ∃ o, h.get? b = some o ∧ ∀ v, o.data ≠ .cell v
  keep : ∀ i h h', tn i h → (∀ b ∈ fp, ∀ o, h.get? b = some o → h'.get? b = some o) → tn i h'
  item : ∀ (X : Cx), X.prog = P → X.w = w → X.K = K → X.calm = true → ∀ (i : Nat) (pins : List (Addr × Obj)) (s : Shared) (σ : St) (H : Hp) (E : Value → Shared → Prop), Inv X pins σ H s → (∀ b ∈ fp, FpOk X pins H b) → tn i s.heap → J.go i H →
    wpAny (model P w) X.A (pyNext (.ref it)) (fun r s1 => ∃ u, r = some u ∧
      wpAny (model P w) X.A (letOwnedTupleGo tg (.ref it) u) (fun _ s2 => ∃ x H', Inv X pins σ H' s2 ∧ RelV x u ∧ J.yld i H x H' ∧ tn (i + 1) s2.heap ∧ ∀ b ∈ fp, H' b = none) E s1) E s
  done : ∀ (X : Cx), X.prog = P → X.w = w → X.K = K → X.calm = true → ∀ (i : Nat) (pins : List (Addr × Obj)) (s : Shared) (σ : St) (H : Hp) (E : Value → Shared → Prop), Inv X pins σ H s → (∀ b ∈ fp, FpOk X pins H b) → tn i s.heap → J.stop i H →
    wpAny (model P w) X.A (pyNext (.ref it)) (fun r s1 => r = none ∧ Inv X pins σ H s1) E s
  self : ∀ (A : Around) (i : Nat) (s : Shared) (Q : Value → Shared → Prop) (E : Value → Shared → Prop), tn i s.heap → Q (.ref it) s → wpAny (model P w) A (pyIter (.ref it)) Q E s
abbrev TI := St → Hp → (It → Hp → Prop) → Prop
/-- an iterator has come -/
def PIE (X : Cx) (pins : List (Addr × Obj)) (σ : St) (tg : Expr) (R : It → Hp → Prop) (itv : Value) (s2 : Shared) : Prop :=
  ∃ (it : Addr) (fp : List Addr) (tn : Nat → Heap → Prop) (J : It) (H' : Hp), itv = .ref it ∧ Inv X pins σ H' s2 ∧ Turn X.prog X.w X.K tg J fp it tn ∧ tn 0 s2.heap ∧ (∀ b ∈ fp, FpOk X pins H' b) ∧ R J H'
def PI (X : Cx) (tg iter : Expr) (wi : TI) : Prop :=
  ∀ (pins : List (Addr × Obj)) (s : Shared) (σ : St) (H : Hp) (R : It → Hp → Prop), Inv X pins σ H s → wi σ H R →
    wpAny (model X.prog X.w) X.A (eval iter X.env) (fun v s1 => wpAny (model X.prog X.w) X.A (pyIter v) (PIE X pins σ tg R) X.xe s1) X.xe s

/-- the step ahead of the store is nothing for an iterator that keeps no tuple -/
theorem go_of {M : Model} {A : Around} {E : Value → Shared → Prop} {s : Shared} {tg : Expr} {it : Addr} {u : Value} {o : Obj} {n : String} {vs : Array Value} {Q : Unit → Shared → Prop} (ho : s.heap.get? it = some o) (hc : o.cls = .type n) (hd : o.data = .fields vs)
    (hn : ["enumerate", "zip", "dict_itemiterator", "dict_reverseitemiterator", "odict_iterator", "itertools.zip_longest", "itertools.pairwise"].contains n = false) (hQ : Q () s) : wpAny M A (letOwnedTupleGo tg (.ref it) u) Q E s := by
  unfold letOwnedTupleGo
  cases tg <;> first
    | exact wpAny_pure hQ
    | (cases u <;> first
        | exact wpAny_pure hQ
        | (refine wpAny_bind (wpAny_load ho ?_)
           rw [hc, hd]
           show wpAny M A (if (["enumerate", "zip", "dict_itemiterator", "dict_reverseitemiterator", "odict_iterator", "itertools.zip_longest", "itertools.pairwise"].contains n && vs[0]? == some (rawInt _)) = true then _ else _) Q E s
           rw [if_neg (by intro h; rw [hn, Bool.false_and] at h; cases h)]
           exact wpAny_pure hQ))

/-- the list at a, as it stands at each turn (a loop may append to it) -/
def Itl (K : PySem.W.Frag) (a : Addr) : It :=
  ⟨fun i H => ∃ xs x, SqL K H a xs ∧ xs[i]? = some x, fun i H x H' => H' = H ∧ ∀ xs, SqL K H a xs → xs[i]? = some x, fun i H => ∃ xs, SqL K H a xs ∧ xs.length ≤ i⟩
def Itt (K : PySem.W.Frag) (a : Addr) : It :=
  ⟨fun i H => ∃ xs x, SqT K H a xs ∧ xs[i]? = some x, fun i H x H' => H' = H ∧ ∀ xs, SqT K H a xs → xs[i]? = some x, fun i H => ∃ xs, SqT K H a xs ∧ xs.length ≤ i⟩
theorem turn_list {P : Program} {w : World} {K : PySem.W.Frag} {tg : Expr} (a it : Addr) : Turn P w K tg (Itl K a) [it] it (fun i h => h.IsListIter it a i) where
  mem := by simp
  obj := fun i h st b hb => by
    have e : b = it := by simpa using hb
    subst e
    obtain ⟨o, e, c, d⟩ := st
    exact ⟨o, e, fun v z => by rw [d] at z; cases z⟩
  keep := fun i h h' st k => st.at fun o e => k it (by simp) o e
  item := by
    intro X hP hw hK hc i pins s σ H E I hf st hg
    subst hP hw hK
    obtain ⟨xs, x, hq, hx⟩ := hg
    obtain ⟨its, rv, p, hz⟩ := I.list hq
    obtain ⟨u, hu, ru⟩ := rv.get hx
    obtain ⟨f0, f1, f2, f3, f4, f5⟩ := hf it (by simp)
    refine wpAny_pyNext_list_item st p.isList (x := u) (by simpa using hu) fun h' st' sb => ?_
    have I1 : Inv X pins σ H { s with heap := h' } := I.turned (t' := s.toks) (fun b o hb e => (sb.2 b hb).trans e) f0 f1 f3 f4 f5
    obtain ⟨o, e, c, d⟩ := id st'
    exact ⟨u, rfl, go_of (s := { s with heap := h' }) e c d (by decide) ⟨x, H, I1, ru, ⟨rfl, fun ys hy => by rw [I.list_inj hy hq]; exact hx⟩, st', fun b hb => (hf b hb).1⟩⟩
  done := by
    intro X hP hw hK hc i pins s σ H E I hf st hg
    subst hP hw hK
    obtain ⟨xs, hq, hx⟩ := hg
    obtain ⟨its, rv, p, hz⟩ := I.list hq
    obtain ⟨f0, f1, f2, f3, f4, f5⟩ := hf it (by simp)
    have hl := rv.length
    exact wpAny_pyNext_list_end (I.ok.hd hc) st p.isList (by simp; omega) fun h' eb => ⟨rfl, I.turned (t' := s.toks) (fun b o hb e => eb b o hb e) f0 f1 f3 f4 f5⟩
  self := fun _ _ _ _ _ st h => wpAny_pyIter_listiter st h
theorem turn_tuple {P : Program} {w : World} {K : PySem.W.Frag} {tg : Expr} (a it : Addr) : Turn P w K tg (Itt K a) [it] it (fun i h => h.IsTupleIter it a i) where
  mem := by simp
  obj := fun i h st b hb => by
    have e : b = it := by simpa using hb
    subst e
    obtain ⟨o, e, c, d⟩ := st
    exact ⟨o, e, fun v z => by rw [d] at z; cases z⟩
  keep := fun i h h' st k => st.at fun o e => k it (by simp) o e
  item := by
    intro X hP hw hK hc i pins s σ H E I hf st hg
    subst hP hw hK
    obtain ⟨xs, x, hq, hx⟩ := hg
    obtain ⟨its, rv, p, hz⟩ := I.tuple hq
    obtain ⟨u, hu, ru⟩ := rv.get hx
    obtain ⟨f0, f1, f2, f3, f4, f5⟩ := hf it (by simp)
    refine wpAny_pyNext_tuple_item st (show s.heap.IsTuple a its.toArray from p) (x := u) (by simpa using hu) fun h' st' sb => ?_
    have I1 : Inv X pins σ H { s with heap := h' } := I.turned (t' := s.toks) (fun b o hb e => (sb.2 b hb).trans e) f0 f1 f3 f4 f5
    obtain ⟨o, e, c, d⟩ := id st'
    exact ⟨u, rfl, go_of (s := { s with heap := h' }) e c d (by decide) ⟨x, H, I1, ru, ⟨rfl, fun ys hy => by rw [I.tuple_inj hy hq]; exact hx⟩, st', fun b hb => (hf b hb).1⟩⟩
  done := by
    intro X hP hw hK hc i pins s σ H E I hf st hg
    subst hP hw hK
    obtain ⟨xs, hq, hx⟩ := hg
    obtain ⟨its, rv, p, hz⟩ := I.tuple hq
    obtain ⟨f0, f1, f2, f3, f4, f5⟩ := hf it (by simp)
    have hl := rv.length
    exact wpAny_pyNext_tuple_end (I.ok.hd hc) st (show s.heap.IsTuple a its.toArray from p) (by simp; omega) fun h' eb => ⟨rfl, I.turned (t' := s.toks) (fun b o hb e => eb b o hb e) f0 f1 f3 f4 f5⟩
  self := fun _ _ _ _ _ st h => wpAny_pyIter_tupleiter st h
end L2

namespace L2
open PySem PySem.Spec PyProof.Rows
section
variable {X : Cx} {tg : Expr}
def iList (K : PySem.W.Frag) (tl : TE) : TI := fun σ H R => tl σ H fun x H1 => ∃ a, x = .ref a ∧ (∃ xs, SqL K H1 a xs) ∧ R (Itl K a) H1
def iTup (K : PySem.W.Frag) (tl : TE) : TI := fun σ H R => tl σ H fun x H1 => ∃ a, x = .ref a ∧ (∃ xs, SqT K H1 a xs) ∧ R (Itt K a) H1
theorem pi_list {l : Expr} {tl : TE} (hl : PE X l tl) : PI X tg l (iList X.K tl) := by
  intro pins s σ H R I h
  refine thn (hl pins s σ H _ I h) fun v s1 ⟨x, H1, I1, r1, q1⟩ => ?_
  obtain ⟨a, e, ⟨xs, hq⟩, q⟩ := q1
  subst e
  cases r1
  obtain ⟨its, rv, p, hz⟩ := I1.list hq
  refine wpAny_pyIter_list p.isList ?_
  refine ⟨s1.heap.objs.size, [s1.heap.objs.size], _, _, H1, rfl, I1.kept (t' := s1.toks) fun b o e => Heap.get?_push_of_some _ e, turn_list a _, ⟨_, Heap.get?_push_size _ rfl, rfl, rfl⟩, fun b hb => ?_, q⟩
  have e : b = s1.heap.objs.size := by simpa using hb
  subst e
  exact I1.fpOk (Nat.le_refl _) (I1.hok.fresh (Nat.le_refl _))
theorem pi_tup {l : Expr} {tl : TE} (hl : PE X l tl) : PI X tg l (iTup X.K tl) := by
  intro pins s σ H R I h
  refine thn (hl pins s σ H _ I h) fun v s1 ⟨x, H1, I1, r1, q1⟩ => ?_
  obtain ⟨a, e, ⟨xs, hq⟩, q⟩ := q1
  subst e
  cases r1
  obtain ⟨its, rv, p, hz⟩ := I1.tuple hq
  refine wpAny_pyIter_tuple (show s1.heap.IsTuple a its.toArray from p) ?_
  refine ⟨s1.heap.objs.size, [s1.heap.objs.size], _, _, H1, rfl, I1.kept (t' := s1.toks) fun b o e => Heap.get?_push_of_some _ e, turn_tuple a _, ⟨_, Heap.get?_push_size _ rfl, rfl, rfl⟩, fun b hb => ?_, q⟩
  have e : b = s1.heap.objs.size := by simpa using hb
  subst e
  exact I1.fpOk (Nat.le_refl _) (I1.hok.fresh (Nat.le_refl _))
/-! ### for -/
/-- W: the invariant by the turn and a measure; N: what the body is to reach -/
def tFor (wi : TI) (g : TG) (tb : TS) : TS := fun D σ H => wi σ H fun J H1 => ∃ W : Nat → Nat → St → Hp → Prop, (∃ m, W 0 m σ H1) ∧ ∀ i m σ H, W i m σ H →
  (J.stop i H ∧ D.nx σ H) ∨ (J.go i H ∧ ∃ N : St → Hp → Prop, (∀ σ' H', N σ' H' → ∃ m', m' < m ∧ W (i + 1) m' σ' H') ∧ ∀ x H', J.yld i H x H' → g x σ H' fun σ2 H2 => tb { D with nx := N, ct := N, bk := D.nx } σ2 H2)
/-- the records at fp as they stand -/
def pinsAt (fp : List Addr) (h : Heap) : List (Addr × Obj) := fp.filterMap fun b => (h.get? b).map fun o => (b, o)
theorem mem_pinsAt {fp : List Addr} {h : Heap} {b : Addr} {o : Obj} (hb : b ∈ fp) (e : h.get? b = some o) : (b, o) ∈ pinsAt fp h := List.mem_filterMap.mpr ⟨b, hb, by rw [e]; rfl⟩
theorem of_pinsAt {fp : List Addr} {h : Heap} {p : Addr × Obj} (hp : p ∈ pinsAt fp h) : p.1 ∈ fp ∧ h.get? p.1 = some p.2 := by
  obtain ⟨b, hb, e⟩ := List.mem_filterMap.mp hp
  cases q : h.get? b with
  | none => rw [q] at e; cases e
  | some o =>
    rw [q] at e
    have e' : (b, o) = p := Option.some.inj e
    subst e'
    exact ⟨hb, q⟩
theorem Inv.pinned {pins : List (Addr × Obj)} {σ : St} {H : Hp} {s : Shared} {fp : List Addr} (I : Inv X pins σ H s) (hf : ∀ b ∈ fp, FpOk X pins H b) (ho : ∀ b ∈ fp, ∃ o, s.heap.get? b = some o ∧ ∀ v, o.data ≠ .cell v) : Inv X (pins ++ pinsAt fp s.heap) σ H s :=
  I.pins_of fun p hp => (List.mem_append.mp hp).elim (fun z => I.pin p (List.mem_append_right _ z)) fun z => by
    obtain ⟨hb, e⟩ := of_pinsAt z
    obtain ⟨f0, f1, f2, _⟩ := hf p.1 hb
    obtain ⟨o, e', d⟩ := ho p.1 hb
    rw [e] at e'; cases e'
    exact ⟨e, f0, f1, f2, d⟩
theorem Inv.unpinned {pins pl : List (Addr × Obj)} {σ : St} {H : Hp} {s : Shared} (I : Inv X (pins ++ pl) σ H s) : Inv X pins σ H s := I.pins_of fun p hp => I.pin p (List.mem_append_right _ (List.mem_append_left _ hp))
theorem ps_for {iter : Expr} {body : List Stmt} {wi : TI} {g : TG} {tb : TS} {pos : Pos} (hp : PassesOwn (model X.prog X.w) X.A X.env X.xe) (hc : X.calm = true) (hi : PI X tg iter wi) (hg : PG X tg g) (hb : PSs X body tb)
    (hs : ∀ x, foldedSetIterable iter X.env x = pure x := by intro _; rfl) : PS X (.For tg iter body [] pos) (tFor wi g tb) := by
  intro pins s σ H D I h
  refine wpAny_For (thn (hi pins s σ H _ I h) fun v s1 h1 => thn h1 fun itv s2 h2 => ?_) hs
  obtain ⟨it, fp, tn, J, H2, e, I2, T, st2, f2, W, ⟨m0, w0⟩, turn⟩ := h2
  subst e
  -- what stays true of the iterator's objects through the loop
  have stat : ∀ {H' : Hp}, (∀ b ∈ fp, H' b = none) → ∀ b ∈ fp, FpOk X pins H' b := fun hn b hb => ⟨hn b hb, (f2 b hb).2⟩
  refine codeAny_forLoop_any (fun n s' => ∃ i σ' H', Inv X pins σ' H' s' ∧ tn i s'.heap ∧ (∀ b ∈ fp, H' b = none) ∧ W i n σ' H') ?_ m0 ⟨0, σ, H2, I2, st2, fun b hb => (f2 b hb).1, w0⟩
  rintro n s3 ⟨i, σ3, H3, I3, st3, fr3, w3⟩
  rcases turn i n σ3 H3 w3 with ⟨stop, qn⟩ | ⟨go, N, hN, step⟩
  · refine wpAny_passesOwn hp (thn (T.done X rfl rfl rfl hc i pins s3 σ3 H3 X.xe I3 (stat fr3) st3 stop) fun r s4 ⟨hr, I4⟩ => ?_)
    subst hr
    exact wpAny_execs_nil ⟨σ3, H3, I4, qn⟩
  · refine wpAny_passesOwn hp (thn (T.item X rfl rfl rfl hc i pins s3 σ3 H3 X.xe I3 (stat fr3) st3 go) fun r s4 ⟨u, hr, h4⟩ => ?_)
    subst hr
    refine wpAny_passesOwn hp (thn h4 fun _ s5 ⟨x, H5, I5, r5, y5, st5, fr5⟩ => ?_)
    have I5' := I5.pinned (stat fr5) (T.obj _ _ st5)
    refine wpAny_passesOwn hp (thn (hg _ s5 σ3 H5 x u _ I5' r5 (step x H5 y5)) fun _ s6 ⟨σ6, H6, I6, q6⟩ => ?_)
    refine wpAny_passesOwn hp (thn (hb _ s6 σ6 H6 _ I6 q6) fun f s7 q7 => ?_)
    have again : ∀ {σ7 : St} {H7 : Hp}, Inv X (pins ++ pinsAt fp s5.heap) σ7 H7 s7 → N σ7 H7 → ∃ m, m < n ∧ ∃ i σ' H', Inv X pins σ' H' s7 ∧ tn i s7.heap ∧ (∀ b ∈ fp, H' b = none) ∧ W i m σ' H' := fun {σ7 H7} I7 n7 => by
      obtain ⟨m', hm, w7⟩ := hN σ7 H7 n7
      refine ⟨m', hm, i + 1, σ7, H7, I7.unpinned, T.keep _ _ _ st5 fun b hb o e => (I7.pin (b, o) (List.mem_append_right _ (List.mem_append_right _ (mem_pinsAt hb e)))).1, fun b hb => ?_, w7⟩
      obtain ⟨o, e, d⟩ := T.obj _ _ st5 b hb
      exact (I7.pin (b, o) (List.mem_append_right _ (List.mem_append_right _ (mem_pinsAt hb e)))).2.1
    cases f with
    | next => obtain ⟨σ7, H7, I7, n7⟩ := q7; exact again I7 n7
    | cont => obtain ⟨σ7, H7, I7, n7⟩ := q7; exact again I7 n7
    | brk => obtain ⟨σ7, H7, I7, q7⟩ := q7; exact ⟨σ7, H7, I7.unpinned, q7⟩
    | ret v => obtain ⟨x7, σ7, H7, I7, r7, q7⟩ := q7; exact ⟨x7, σ7, H7, I7.unpinned, r7, q7⟩
end

/-! ### the forms one uses -/
end L2

namespace L2
open PySem PySem.Spec PyProof.Rows

abbrev R2 := V → V → Hp → VK → Prop
/-- a two-place operation on values: f is binaryOp op, inplaceOp op or compareOp op -/
def OpR (X : Cx) (f : Value → Value → Sem Value) (r : R2) : Prop :=
  ∀ (pins : List (Addr × Obj)) (s : Shared) (σ : St) (H : Hp) (x y : V) (v u : Value) (Q : VK), Inv X pins σ H s → RelV x v → RelV y u → r x y H Q →
    wpAny (model X.prog X.w) X.A (f v u) (EP X pins σ Q) X.xe s
/-- a one-place operation -/
def UnR (X : Cx) (f : Value → Sem Value) (r : V → Hp → VK → Prop) : Prop :=
  ∀ (pins : List (Addr × Obj)) (s : Shared) (σ : St) (H : Hp) (x : V) (v : Value) (Q : VK), Inv X pins σ H s → RelV x v → r x H Q →
    wpAny (model X.prog X.w) X.A (f v) (EP X pins σ Q) X.xe s
/-- a call of a value that is known (a builtin, a type) with values -/
def CallR (X : Cx) (f : Value) (r : List V → Hp → VK → Prop) : Prop :=
  ∀ (pins : List (Addr × Obj)) (s : Shared) (σ : St) (H : Hp) (xs : List V) (us : List Value) (Q : VK), Inv X pins σ H s → Vals xs us → r xs H Q →
    wpAny (model X.prog X.w) X.A (call f us) (EP X pins σ Q) X.xe s
/-- a value's truth -/
def TruR (X : Cx) (r : V → Hp → (Bool → Hp → Prop) → Prop) : Prop :=
  ∀ (pins : List (Addr × Obj)) (s : Shared) (σ : St) (H : Hp) (x : V) (v : Value) (Q : Bool → Hp → Prop), Inv X pins σ H s → RelV x v → r x H Q →
    wpAny (model X.prog X.w) X.A (truthy v) (TP X pins σ Q) X.xe s

def tOp (r : R2) (ta tb : TE) : TE := fun σ H Q => ta σ H fun x H1 => tb σ H1 fun y H2 => r x y H2 Q
def tUn (r : V → Hp → VK → Prop) (ta : TE) : TE := fun σ H Q => ta σ H fun x H1 => r x H1 Q
/-- ints in, under C, and a value out -/
def rI (C : Int → Int → Prop) (g : Int → Int → V) : R2 := fun x y H Q => ∃ i j, x = .int i ∧ y = .int j ∧ C i j ∧ Q (g i j) H
def rI0 (g : Int → Int → V) : R2 := fun x y H Q => ∃ i j, x = .int i ∧ y = .int j ∧ Q (g i j) H
def rU (g : Int → V) : V → Hp → VK → Prop := fun x H Q => ∃ i, x = .int i ∧ Q (g i) H

section
variable {X : Cx} {a b c : Expr} {ta tb tc : TE} {pos : Pos}

theorem binT (ha : PE X a ta) (hb : PE X b tb) {pins : List (Addr × Obj)} {s : Shared} {σ : St} {H : Hp} {R : V → V → Hp → Prop} (I : Inv X pins σ H s)
    (h : ta σ H fun x H1 => tb σ H1 fun y H2 => R x y H2) {Q : Value → Shared → Prop} {f : Value → Value → Sem Value}
    (hf : ∀ v u s2 x y H2, Inv X pins σ H2 s2 → RelV x v → RelV y u → R x y H2 → wpAny (model X.prog X.w) X.A (f v u) Q X.xe s2) :
    wpAny (model X.prog X.w) X.A (eval a X.env) (fun v s₁ => wpAny (model X.prog X.w) X.A (eval b X.env) (fun u s₂ => wpAny (model X.prog X.w) X.A (f v u) Q X.xe s₂) X.xe s₁) X.xe s := by
  refine thn (ha pins s σ H _ I h) fun v s1 ⟨x, H1, I1, r1, q1⟩ => ?_
  refine thn (hb pins s1 σ H1 _ I1 q1) fun u s2 ⟨y, H2, I2, r2, q2⟩ => ?_
  exact hf v u s2 x y H2 I2 r1 r2 q2

theorem pe_op {op : Operator} {r : R2} (ho : OpR X (binaryOp op) r) (ha : PE X a ta) (hb : PE X b tb) : PE X (.BinOp a op b pos) (tOp r ta tb) := by
  intro pins s σ H Q I h
  exact wpAny_BinOp (binT ha hb I h fun v u s2 x y H2 I2 rx ry q => ho pins s2 σ H2 x y v u Q I2 rx ry q)
theorem pe_un {op : UnaryOp} {r : V → Hp → VK → Prop} (ho : UnR X (unaryOp op) r) (ha : PE X a ta) : PE X (.UnaryOp op a pos) (tUn r ta) := by
  intro pins s σ H Q I h
  exact UnaryOp_ (thn (ha pins s σ H _ I h) fun v s1 ⟨x, H1, I1, r1, q1⟩ => ho pins s1 σ H1 x v Q I1 r1 q1)
/-! ### ints -/
theorem opI {f : Value → Value → Sem Value} {C : Int → Int → Prop} {g : Int → Int → Int}
    (rule : ∀ (i j : Int) (t u : Tok) (s : Shared) (Q : Value → Shared → Prop) (E : Value → Shared → Prop), C i j → Q (.int (g i j) s.toks) { s with toks := s.toks + 1 } → wpAny (model X.prog X.w) X.A (f (.int i t) (.int j u)) Q E s) :
    OpR X f (rI C fun i j => .int (g i j)) := by
  intro pins s σ H x y v u Q I rx ry h
  obtain ⟨i, j, rfl, rfl, hc, q⟩ := h
  obtain ⟨t, rfl⟩ := rx
  obtain ⟨t', rfl⟩ := ry
  exact rule i j t t' s _ _ hc ⟨.int (g i j), H, I.tok _, ⟨_, rfl⟩, q⟩
theorem opI0 {f : Value → Value → Sem Value} {g : Int → Int → Int}
    (rule : ∀ (i j : Int) (t u : Tok) (s : Shared) (Q : Value → Shared → Prop) (E : Value → Shared → Prop), Q (.int (g i j) s.toks) { s with toks := s.toks + 1 } → wpAny (model X.prog X.w) X.A (f (.int i t) (.int j u)) Q E s) :
    OpR X f (rI0 fun i j => .int (g i j)) := by
  intro pins s σ H x y v u Q I rx ry h
  obtain ⟨i, j, rfl, rfl, q⟩ := h
  obtain ⟨t, rfl⟩ := rx
  obtain ⟨t', rfl⟩ := ry
  exact rule i j t t' s _ _ ⟨.int (g i j), H, I.tok _, ⟨_, rfl⟩, q⟩
theorem opB0 {f : Value → Value → Sem Value} {g : Int → Int → Bool}
    (rule : ∀ (i j : Int) (t u : Tok) (s : Shared) (Q : Value → Shared → Prop) (E : Value → Shared → Prop), Q (.bool (g i j)) s → wpAny (model X.prog X.w) X.A (f (.int i t) (.int j u)) Q E s) :
    OpR X f (rI0 fun i j => .bl (g i j)) := by
  intro pins s σ H x y v u Q I rx ry h
  obtain ⟨i, j, rfl, rfl, q⟩ := h
  obtain ⟨t, rfl⟩ := rx
  obtain ⟨t', rfl⟩ := ry
  exact rule i j t t' s _ _ ⟨.bl (g i j), H, I, rfl, q⟩

def CPow (i j : Int) : Prop := 0 ≤ j ∧ j ≤ 1000000 ∧ i.natAbs < 2 ^ 64
def CMul (i j : Int) : Prop := (-(2 ^ 64) < i ∧ i < 2 ^ 64) ∨ (-(2 ^ 64) < j ∧ j < 2 ^ 64)
theorem CMul.ok {i j : Int} (h : CMul i j) : IntMulOk i j := by
  rcases h with ⟨h1, h2⟩ | ⟨h1, h2⟩
  · exact .of_left (intBits_le_64 h1 h2)
  · exact .of_right (intBits_le_64 h1 h2)
theorem two_pow_nn (k : Nat) : (0 : Int) ≤ 2 ^ k := by
  rw [two_pow_cast]
  exact Int.natCast_nonneg _

theorem op_add : OpR X (binaryOp .Add) (rI0 fun i j => .int (i + j)) := opI0 fun _ _ _ _ _ _ _ q => add_int q
theorem op_sub : OpR X (binaryOp .Sub) (rI0 fun i j => .int (i - j)) := opI0 fun _ _ _ _ _ _ _ q => sub_int q
/-- % by a positive divisor of any size -/
theorem op_mod : OpR X (binaryOp .Mod) (rI (fun _ j => 0 < j) fun i j => .int (i % j)) := opI fun i j _ _ _ _ _ hc q => by
  have h1 : (0 : Int) < j := hc
  exact mod_int' (by omega) (by rw [Int.fmod_eq_emod_of_nonneg i (by omega)]; exact q)
theorem op_pow : OpR X (binaryOp .Pow) (rI CPow fun i j => .int (i ^ j.toNat)) := opI fun _ _ _ _ _ _ _ hc q => pow_int_small hc.1 hc.2.1 hc.2.2 q
theorem op_shl : OpR X (binaryOp .LShift) (rI CPow fun i j => .int (i * 2 ^ j.toNat)) := opI fun _ _ _ _ _ _ _ hc q => lshift_int_small hc.1 hc.2.1 hc.2.2 q
theorem op_shr : OpR X (binaryOp .RShift) (rI (fun _ j => 0 ≤ j) fun i j => .int (i / 2 ^ j.toNat)) := opI fun i j _ _ _ _ _ hc q =>
  rshift_int hc (by rw [Int.fdiv_eq_ediv_of_nonneg i (two_pow_nn _)]; exact q)
theorem op_and : OpR X (binaryOp .BitAnd) (rI0 fun i j => .int (Builtin.bitAnd i j)) := opI0 fun _ _ _ _ _ _ _ q => and_int q
theorem op_or : OpR X (binaryOp .BitOr) (rI0 fun i j => .int (Builtin.bitOr i j)) := opI0 fun _ _ _ _ _ _ _ q => or_int q
theorem unI {f : Value → Sem Value} {g : Int → Int}
    (rule : ∀ (i : Int) (t : Tok) (s : Shared) (Q : Value → Shared → Prop) (E : Value → Shared → Prop), Q (.int (g i) s.toks) { s with toks := s.toks + 1 } → wpAny (model X.prog X.w) X.A (f (.int i t)) Q E s) :
    UnR X f (rU fun i => .int (g i)) := by
  intro pins s σ H x v Q I rx h
  obtain ⟨i, rfl, q⟩ := h
  obtain ⟨t, rfl⟩ := rx
  exact rule i t s _ _ ⟨.int (g i), H, I.tok _, ⟨_, rfl⟩, q⟩
theorem un_neg : UnR X (unaryOp .USub) (rU fun i => .int (-i)) := unI fun _ _ _ _ _ q => neg_int q
/-! ### bools among ints: n += (a < b) -/
end

/-! ### comparisons -/
section
variable {X : Cx} {a b c : Expr} {ta tb tc : TE} {pos : Pos}
theorem fin_bl {pins : List (Addr × Obj)} {σ : St} {H : Hp} {s : Shared} {Q : VK} {k k' : Bool} (I : Inv X pins σ H s) (q : Q (.bl k) H) (e : k = k') : EP X pins σ Q (.bool k') s := by
  subst e
  exact ⟨.bl k, H, I, rfl, q⟩
theorem op_lt : OpR X (compareOp .Lt) (rI0 fun i j => .bl (decide (i < j))) := opB0 fun _ _ _ _ _ _ _ q => lt_int q
theorem op_le : OpR X (compareOp .LtE) (rI0 fun i j => .bl (decide (i ≤ j))) := opB0 fun _ _ _ _ _ _ _ q => le_int q
theorem op_gt : OpR X (compareOp .Gt) (rI0 fun i j => .bl (decide (j < i))) := opB0 fun _ _ _ _ _ _ _ q => gt_int q
theorem op_ge : OpR X (compareOp .GtE) (rI0 fun i j => .bl (decide (j ≤ i))) := opB0 fun _ _ _ _ _ _ _ q => ge_int q
/-- the one string within the other -/
theorem op_in_str : OpR X (compareOp .In) (fun x y H Q => ∃ i j, x = .str i ∧ y = .str j ∧ Q (.bl (!(Builtin.Str.occurrences j i 0 j.length 1).isEmpty)) H) := by
  intro pins s σ H x y v u Q I rx ry h
  obtain ⟨i, j, rfl, rfl, q⟩ := h
  obtain ⟨t, rfl⟩ := rx
  obtain ⟨t', rfl⟩ := ry
  exact in_str (fin_bl I q rfl)

/-- is None, is not None: the right side a value none -/
theorem op_isN : OpR X (compareOp .Is) (fun x y H Q => y = .non ∧ Q (.bl (decide (x = .non))) H) := by
  intro pins s σ H x y v u Q I rx ry h
  obtain ⟨rfl, q⟩ := h
  cases ry
  refine is_none_gen (fin_bl I q ?_)
  cases x <;> first
    | (cases rx; rfl)
    | (obtain ⟨t, rfl⟩ := rx; rfl)
theorem op_notN : OpR X (compareOp .IsNot) (fun x y H Q => y = .non ∧ Q (.bl (!decide (x = .non))) H) := by
  intro pins s σ H x y v u Q I rx ry h
  obtain ⟨rfl, q⟩ := h
  cases ry
  refine isnot_none_gen (fin_bl I q ?_)
  cases x <;> first
    | (cases rx; rfl)
    | (obtain ⟨t, rfl⟩ := rx; rfl)

theorem op_notin_str : OpR X (compareOp .NotIn) (fun x y H Q => ∃ i j, x = .str i ∧ y = .str j ∧ Q (.bl (!(!(Builtin.Str.occurrences j i 0 j.length 1).isEmpty))) H) := by
  intro pins s σ H x y v u Q I rx ry h
  obtain ⟨i, j, rfl, rfl, q⟩ := h
  obtain ⟨t, rfl⟩ := rx
  obtain ⟨t', rfl⟩ := ry
  exact notIn_str (fin_bl I q rfl)
/-- two rules for one operation: by cases -/
theorem OpR.or {f : Value → Value → Sem Value} {r r' : R2} (h : OpR X f r) (h' : OpR X f r') : OpR X f (fun x y H Q => r x y H Q ∨ r' x y H Q) := by
  intro pins s σ H x y v u Q I rx ry q
  rcases q with q | q
  · exact h pins s σ H x y v u Q I rx ry q
  · exact h' pins s σ H x y v u Q I rx ry q

theorem nomark (b : Expr) {op : CmpOp} (h : op ≠ .In := by decide) (h2 : op ≠ .NotIn := by decide) : behindInMarks op b = false := by
  have e1 : (op == CmpOp.In) = false := by cases op <;> first | rfl | exact absurd rfl h
  have e2 : (op == CmpOp.NotIn) = false := by cases op <;> first | rfl | exact absurd rfl h2
  cases b <;> simp [behindInMarks, e1, e2]
/-- a comparison as a value; hm: nomark b, or (for in, not in) by with_unfolding_all rfl -/
theorem pe_cmpR {op : CmpOp} {r : R2} (ho : OpR X (compareOp op) r) (ha : PE X a ta) (hb : PE X b tb) (hm : behindInMarks op b = false) : PE X (.Compare a [op] [b] pos) (tOp r ta tb) := by
  intro pins s σ H Q I h
  exact wpAny_Compare1 (binT ha hb I h fun v u s2 x y H2 I2 rx ry q => ho pins s2 σ H2 x y v u Q I2 rx ry q) hm
/-- a reading of a value as a test -/
def tTest (t : TE) : TT := fun σ H Q => t σ H fun x H' => ∃ k, x = .bl k ∧ Q k H'
theorem pt_cmpR {op : CmpOp} {r : R2} (ho : OpR X (compareOp op) r) (ha : PE X a ta) (hb : PE X b tb) (hm : behindInMarks op b = false) : PT X (.Compare a [op] [b] pos) (tTest (tOp r ta tb)) := by
  intro pins s σ H Q I h
  refine wpAny_isTrue_Compare1 (thn (ha pins s σ H _ I h) fun v s1 ⟨x, H1, I1, r1, q1⟩ => thn (hb pins s1 σ H1 _ I1 q1) fun u s2 ⟨y, H2, I2, r2, q2⟩ =>
    thn (ho pins s2 σ H2 x y v u _ I2 r1 r2 q2) fun c s3 ⟨z, H3, I3, r3, k, e, q3⟩ => ?_) hm
  subst e
  cases r3
  exact wpAny_truthy_bool ⟨H3, I3, q3⟩
/-- a op1 b op2 c -/
def tChain (r r' : R2) (ta tb tc : TE) : TE := fun σ H Q => ta σ H fun x H1 => tb σ H1 fun y H2 => r x y H2 fun z H3 => ∃ k, z = .bl k ∧
  (if k = true then tc σ H3 fun w' H4 => r' y w' H4 Q else Q (.bl false) H3)
theorem pe_chain {op op' : CmpOp} {r r' : R2} (ho : OpR X (compareOp op) r) (ho' : OpR X (compareOp op') r') (ha : PE X a ta) (hb : PE X b tb) (hc : PE X c tc)
    (hm : lastMarks [op, op'] [b, c] = false := by with_unfolding_all rfl) : PE X (.Compare a [op, op'] [b, c] pos) (tChain r r' ta tb tc) := by
  intro pins s σ H Q I h
  refine Compare_chain (thn (ha pins s σ H _ I h) fun v s1 ⟨x, H1, I1, r1, q1⟩ => chain_link (thn (hb pins s1 σ H1 _ I1 q1) fun u s2 ⟨y, H2, I2, r2, q2⟩ =>
    thn (ho pins s2 σ H2 x y v u _ I2 r1 r2 q2) fun d s3 ⟨z, H3, I3, r3, k, e, q3⟩ => ?_)) hm
  subst e
  cases r3
  refine wpAny_truthy_bool ?_
  cases k with
  | false => exact ite_ff ⟨.bl false, H3, I3, rfl, q3⟩
  | true => exact ite_tt (chain_last (thn (hc pins s3 σ H3 _ I3 q3) fun w' s4 ⟨z', H4, I4, r4, q4⟩ => ho' pins s4 σ H4 y z' u w' Q I4 r2 r4 q4))
theorem pt_chain {op op' : CmpOp} {r r' : R2} (ho : OpR X (compareOp op) r) (ho' : OpR X (compareOp op') r') (ha : PE X a ta) (hb : PE X b tb) (hc : PE X c tc)
    (hm : lastMarks [op, op'] [b, c] = false := by with_unfolding_all rfl) : PT X (.Compare a [op, op'] [b, c] pos) (tTest (tChain r r' ta tb tc)) := by
  intro pins s σ H Q I h
  refine isTrue_chain (thn (ha pins s σ H _ I h) fun v s1 ⟨x, H1, I1, r1, q1⟩ => test_link (thn (hb pins s1 σ H1 _ I1 q1) fun u s2 ⟨y, H2, I2, r2, q2⟩ =>
    thn (ho pins s2 σ H2 x y v u _ I2 r1 r2 q2) fun d s3 ⟨z, H3, I3, r3, k, e, q3⟩ => ?_)) hm
  subst e
  cases r3
  refine wpAny_truthy_bool ?_
  cases k with
  | false =>
    obtain ⟨k', e', q'⟩ := q3
    cases e'
    exact ite_ff ⟨H3, I3, q'⟩
  | true =>
    refine ite_tt (test_last (thn (hc pins s3 σ H3 _ I3 q3) fun w' s4 ⟨z', H4, I4, r4, q4⟩ => thn (ho' pins s4 σ H4 y z' u w' _ I4 r2 r4 q4) fun d' s5 ⟨z2, H5, I5, r5, k2, e2, q5⟩ => ?_))
    subst e2
    cases r5
    exact wpAny_truthy_bool ⟨H5, I5, q5⟩

/-! ### truth -/
/-- a value's truth by the abstract heap -/
def TruV (K : PySem.W.Frag) (x : V) (H : Hp) (k : Bool) : Prop :=
  match x with
  | .non => k = false
  | .bl b => k = b
  | .int i => k = (i != 0)
  | .str y => y.length ≤ sizeLine ∧ k = ((y.length : Int) != 0)
  | .byt y => y.size ≤ sizeLine ∧ k = ((y.size : Int) != 0)
  | .ref p => (∃ xs, SqL K H p xs ∧ k = !xs.isEmpty) ∨ (∃ xs, SqT K H p xs ∧ k = !xs.isEmpty) ∨ ∃ kvs, H p = some (.dK kvs) ∧ k = !kvs.isEmpty
  | _ => False
theorem isEmpty_kv {κ : Type} {kvs : List (κ × V)} {vs : List (κ × Value)} (r : KV kvs vs) : (!vs.isEmpty) = !kvs.isEmpty := by
  cases r <;> rfl
theorem isEmpty_of {xs : List V} {its : List Value} (r : Vals xs its) : (!its.toArray.isEmpty) = !xs.isEmpty := by
  cases r <;> simp
theorem line63 : (sizeLine : Nat) < 2 ^ 63 := by rw [sizeLine_eq]; decide
theorem tru_ok : TruR X (fun x H Q => ∃ k, TruV X.K x H k ∧ Q k H) := by
  intro pins s σ H x v Q I rx h
  obtain ⟨k, e, q⟩ := h
  have hl := line63
  have hs : sizeLine = 16777216 := sizeLine_eq
  cases x with
  | non =>
    cases rx
    have e' : k = false := e
    subst e'
    exact truthy_none ⟨H, I, q⟩
  | bl b =>
    cases rx
    have e' : k = b := e
    subst e'
    exact wpAny_truthy_bool ⟨H, I, q⟩
  | int i =>
    obtain ⟨t, rfl⟩ := rx
    have e' : k = (i != 0) := e
    subst e'
    exact PySem.P.truthy_int ⟨H, I, q⟩
  | str y =>
    obtain ⟨t, rfl⟩ := rx
    obtain ⟨hy, e'⟩ : y.length ≤ sizeLine ∧ k = ((y.length : Int) != 0) := e
    subst e'
    exact PySem.P.truthy_str (by omega) ⟨H, I.tok _, q⟩
  | byt y =>
    obtain ⟨t, rfl⟩ := rx
    obtain ⟨hy, e'⟩ : y.size ≤ sizeLine ∧ k = ((y.size : Int) != 0) := e
    subst e'
    exact PySem.W.truthy_bytes (by omega) ⟨H, I.tok _, q⟩
  | ref p =>
    cases rx
    have e' : (∃ xs, SqL X.K H p xs ∧ k = !xs.isEmpty) ∨ (∃ xs, SqT X.K H p xs ∧ k = !xs.isEmpty) ∨ ∃ kvs, H p = some (.dK kvs) ∧ k = !kvs.isEmpty := e
    rcases e' with ⟨xs, hx, e'⟩ | ⟨xs, hx, e'⟩ | ⟨kvs, hx, e'⟩
    · subst e'
      obtain ⟨its, r, pl, hz⟩ := I.list hx
      have hlen := r.length
      exact wpAny_truthy_list pl.isList (by simp only [List.size_toArray]; omega) ⟨H, I.tok _, by rw [isEmpty_of r]; exact q⟩
    · subst e'
      obtain ⟨its, r, pl, hz⟩ := I.tuple hx
      have hlen := r.length
      exact truthy_tuple pl (by simp only [List.size_toArray]; omega) ⟨H, I.tok _, by rw [isEmpty_of r]; exact q⟩
    · subst e'
      obtain ⟨hz, hS, vs, r, m⟩ : kvs.length ≤ sizeLine ∧ (p == sysModules) = false ∧ ∃ vs, KV kvs vs ∧ s.heap.DictOf (mixKind X.prog X.w) p vs := I.hok p _ hx
      have hlen : kvs.length = vs.length := Paired.length r
      exact wpAny_truthy_dict hS m (by omega) ⟨H, I.tok _, by rw [isEmpty_kv r]; exact q⟩
  | _ => exact (show False from e).elim
/-- any expression whose test is its value's truth (a name, a call, a subscript, a field ..: he by fun _ => rfl) -/
theorem pt_truth (ha : PE X a ta) (he : ∀ whole, isTrue a X.env whole = (do let v ← whole; standAt a.pos; holding [v] (truthy v))) :
    PT X a (fun σ H Q => ta σ H fun x H' => ∃ k, TruV X.K x H' k ∧ Q k H') := by
  intro pins s σ H Q I h
  exact isTrue_plain (thn (ha pins s σ H _ I h) fun v s1 ⟨x, H1, I1, r1, q1⟩ => tru_ok pins s1 σ H1 x v Q I1 r1 q1) (he _)

/-! ### strs and bytes -/
theorem op_add_str : OpR X (binaryOp .Add) (fun x y H Q => ∃ i j, x = .str i ∧ y = .str j ∧ i.length + j.length ≤ sizeLine ∧ Q (.str (i ++ j)) H) := by
  intro pins s σ H x y v u Q I rx ry h
  obtain ⟨i, j, rfl, rfl, hz, q⟩ := h
  obtain ⟨t, rfl⟩ := rx
  obtain ⟨t', rfl⟩ := ry
  exact add_str (fun t' tk => ⟨.str (i ++ j), H, I.tok _, ⟨_, rfl⟩, q⟩) hz
/-! ### scalar builtins, by CallR -/
theorem vals1 {x : V} {us : List Value} (r : Vals [x] us) : ∃ u, us = [u] ∧ RelV x u := by
  cases r with
  | cons r1 r2 => cases r2; exact ⟨_, rfl, r1⟩
theorem vals2 {x y : V} {us : List Value} (r : Vals [x, y] us) : ∃ u w', us = [u, w'] ∧ RelV x u ∧ RelV y w' := by
  cases r with
  | cons r1 r2 =>
    cases r2 with
    | cons r3 r4 => cases r4; exact ⟨_, _, rfl, r1, r3⟩
theorem call_min2 (hc : X.calm = true) : CallR X (.builtin "min") (fun xs H Q => ∃ i j, xs = [.int i, .int j] ∧ Q (.int (if j < i then j else i)) H) := by
  intro pins s σ H xs us Q I r h
  obtain ⟨i, j, rfl, q⟩ := h
  obtain ⟨u, w', rfl, ⟨t, rfl⟩, ⟨t', rfl⟩⟩ := vals2 r
  refine min_two_ints (I.ok.hd hc) fun h' tk k => ⟨_, H, I.kept k, ?_, q⟩
  by_cases hj : j < i
  · rw [if_pos hj, if_pos hj]; exact ⟨_, rfl⟩
  · rw [if_neg hj, if_neg hj]; exact ⟨_, rfl⟩
theorem call_int1 : CallR X (.type "int") (fun xs H Q => (∃ i, xs = [.int i] ∧ Q (.int i) H) ∨ ∃ k, xs = [.bl k] ∧ Q (.int (if k then 1 else 0)) H) := by
  intro pins s σ H xs us Q I r h
  rcases h with ⟨i, rfl, q⟩ | ⟨k, rfl, q⟩
  · obtain ⟨u, rfl, t, rfl⟩ := vals1 r
    exact call_int_int ⟨.int i, H, I, ⟨_, rfl⟩, q⟩
  · obtain ⟨u, rfl, r1⟩ := vals1 r
    cases r1
    exact call_int_bool ⟨.int (if k then 1 else 0), H, I.tok _, ⟨_, rfl⟩, q⟩
theorem call_str_int : CallR X (.type "str") (fun xs H Q => ∃ i, xs = [.int i] ∧ i.natAbs.log2 < 1920 ∧ Q (.str (toString i)) H) := by
  intro pins s σ H xs us Q I r h
  obtain ⟨i, rfl, hz, q⟩ := h
  obtain ⟨u, rfl, t, rfl⟩ := vals1 r
  exact PySem.P.str_of_int hz ⟨.str _, H, I.tok _, ⟨_, rfl⟩, q⟩
/-- len of a str, a bytes, a list, a tuple -/
def LenV (K : PySem.W.Frag) (x : V) (H : Hp) (n : Nat) : Prop :=
  match x with
  | .str y => y.length ≤ sizeLine ∧ n = y.length
  | .byt y => y.size ≤ sizeLine ∧ n = y.size
  | .ref p => (∃ xs, SqL K H p xs ∧ n = xs.length) ∨ ∃ xs, SqT K H p xs ∧ n = xs.length
  | _ => False
theorem call_len : CallR X (.builtin "len") (fun xs H Q => ∃ x n, xs = [x] ∧ LenV X.K x H n ∧ Q (.int n) H) := by
  intro pins s σ H xs us Q I r h
  obtain ⟨x, n, rfl, e, q⟩ := h
  obtain ⟨u, rfl, rx⟩ := vals1 r
  have hl := line63
  have hs : sizeLine = 16777216 := sizeLine_eq
  cases x with
  | str y =>
    obtain ⟨t, rfl⟩ := rx
    obtain ⟨hy, e'⟩ : y.length ≤ sizeLine ∧ n = y.length := e
    subst e'
    exact len_str (by omega) ⟨.int _, H, I.tok _, ⟨_, rfl⟩, q⟩
  | byt y =>
    obtain ⟨t, rfl⟩ := rx
    obtain ⟨hy, e'⟩ : y.size ≤ sizeLine ∧ n = y.size := e
    subst e'
    exact PySem.W.len_bytes (by omega) ⟨.int _, H, I.tok _, ⟨_, rfl⟩, q⟩
  | ref p =>
    cases rx
    have e' : (∃ xs, SqL X.K H p xs ∧ n = xs.length) ∨ ∃ xs, SqT X.K H p xs ∧ n = xs.length := e
    rcases e' with ⟨xs, hx, e'⟩ | ⟨xs, hx, e'⟩
    · subst e'
      obtain ⟨its, r', pl, hz⟩ := I.list hx
      have hlen := r'.length
      exact Calls.call_len_list pl.isList (by simp only [List.size_toArray]; omega) ⟨.int xs.length, H, I.tok _, ⟨_, by simp only [List.size_toArray]; rw [hlen]⟩, q⟩
    · subst e'
      obtain ⟨its, r', pl, hz⟩ := I.tuple hx
      have hlen := r'.length
      exact len_tuple pl (by simp only [List.size_toArray]; omega) ⟨.int xs.length, H, I.tok _, ⟨_, by simp only [List.size_toArray]; rw [hlen]⟩, q⟩
  | _ => exact (show False from e).elim
end
end L2

namespace L2
open PySem PySem.Spec PyProof.Rows

/-! ### an instance, its attributes a map -/
structure ObjM (h : Heap) (x dx C : Addr) (mA : Str → Option Value) : Prop where
  obj : h.get? x = some (PySem.W.instObj C dx)
  ns : h.Ns1 dx mA
  ne : dx ≠ x

theorem lookIn_ns {h : Heap} {dx : Addr} {mA : Str → Option Value} (n : h.Ns1 dx mA) : ∃ od, h.get? dx = some od ∧ ∀ name, PySem.W.lookIn name od = some (mA name) := by
  obtain ⟨o, es, ep, ho, hd, hk, _, hm⟩ := n
  refine ⟨o, ho, fun name => ?_⟩
  have e := hm name
  unfold nsFind findBy at e
  rw [← Array.find?_toList] at e
  unfold PySem.W.lookIn
  rw [hd]
  dsimp only
  split
  · rename_i y q
    rw [q] at e
    exact congrArg some e
  · rename_i q
    rw [q] at e
    have a : es.toList.any (·.refKey) = false := by
      rw [List.any_eq_false]
      intro y hy
      obtain ⟨z, t, hkey⟩ := hk y (Array.mem_toList_iff.mp hy)
      simp [DictEntry.refKey, hkey]
    have a' : ¬ es.toList.any (·.refKey) = true := by rw [a]; exact Bool.false_ne_true
    rw [if_neg a']
    exact congrArg some e

theorem ObjM.look {h : Heap} {x dx C : Addr} {mA : Str → Option Value} (I : ObjM h x dx C mA) : ∃ od, PySem.W.InstAt h x (PySem.W.instObj C dx) C (some od) ∧ ∀ name, PySem.W.lookIn name od = some (mA name) :=
  let ⟨od, ho, hl⟩ := lookIn_ns I.ns
  ⟨od, ⟨I.obj, rfl, rfl, ho⟩, hl⟩

section
variable {prog : Program} {w : World} {A : Around} {E : Value → Shared → Prop} {s : Shared} {K : PySem.W.Frag} {x dx C f : Addr} {mA : Str → Option Value} {name : Str} {v : Value}

theorem get_map {expr : Bool} {Q : Value → Shared → Prop} (X : K.In s.heap) (I : ObjM s.heap x dx C mA) (hg : PySem.W.plainGet K C name = true) (hh : PySem.W.hasDictIn K C = true)
    (ha : PySem.W.findIn K (.ref C) name = some none) (hv : mA name = some v) (hv' : PySem.W.handedIn v = true) (h : Q v { s with toks := s.toks + 1 }) :
    wpAny (model prog w) A (getAttr (.ref x) name expr) Q E s := by
  obtain ⟨od, J, hl⟩ := I.look
  exact PySem.W.get_value X J (PySem.W.plainGet_of hg).1 (PySem.W.findObj_own hh ha rfl (by rw [hl, hv])) hv' h

theorem get_meth {pl : Sem Bool} {Q : Value × List Value → Shared → Prop} (X : K.In s.heap) (I : ObjM s.heap x dx C mA) (hg : PySem.W.plainGet K C name = true)
    (hf : PySem.W.findIn K (.ref C) name = some (some (.ref f))) (ht : PySem.W.isFn K (.ref f) = true) (hv : mA name = none) (h : Q (.ref f, [.ref x]) s) :
    wpAny (model prog w) A (getMethod (.ref x) name pl) Q E s := by
  obtain ⟨od, J, hl⟩ := I.look
  exact PySem.W.method_fn X J (PySem.W.plainGet_of hg).1 (PySem.W.plainGet_of hg).2 hf (beq_iff_eq.mp ht) (by show (PySem.W.lookIn name od).map (·.isSome) = some false; rw [hl, hv]; rfl) h

theorem set_map {ns : List Str} {Q : Unit → Shared → Prop} (X : K.In s.heap) (I : ObjM s.heap x dx C mA)
    (hs : PySem.W.findIn K (.ref C) "__setattr__" = some (some (.builtin "object.__setattr__"))) (hp : PySem.W.plainOver K C = true) (ht : PySem.W.takerIn K C name = some none) (hh : PySem.W.hasDictIn K C = true)
    (hw : PySem.Within mA ns) (hsz : ns.length ≤ sizeLine)
    (h : ∀ h', ObjM h' x dx C (fun y => if y = name then some v else mA y) → Heap.SameBut dx s.heap h' → Q () { s with heap := h', toks := s.toks + 2 }) :
    wpAny (model prog w) A (setAttr (.ref x) name v) Q E s := by
  obtain ⟨od, J, hl⟩ := I.look
  refine PySem.W.set_plain X J hs (PySem.W.osa_open (s := { s with toks := s.toks + 1 }) (r := none) X J hp ht fun b => ?_)
  obtain ⟨cd, hc, hd'⟩ := PySem.W.any_some hh
  have hx : s.heap.get? x = some ⟨.ref C, some dx, .plain, #[]⟩ := I.obj
  refine wpAny_bind (wpAny_pure (wpAny_bind (wpAny_bind (wpAny_loadPart hx (wpAny_bind (PySem.W.Looks.here (s := { s with toks := s.toks + 1 }) (PySem.W.looks_clsIn X hc) ?_))))))
  rw [hd']
  refine wpAny_pure (a := some dx) (wpAny_bind (wpAny_pure (wpAny_bind ?_)))
  refine wpAny_nsSet1 (s := { s with toks := s.toks + 1 }) I.ns fun h' hn2 hs2 => ?_
  obtain ⟨oD, esD, epD, hoD, hdD, hcD⟩ := hn2.count (PySem.Within.cons name v hw)
  refine wpAny_bind (wpAny_lookBehind hoD (by rw [hdD]; exact pastItsLine_dict (Nat.le_trans hcD (by rw [List.length_cons]; omega))) ?_)
  exact wpAny_pure (h _ ⟨(hs2.2 _ (Ne.symm I.ne)).trans I.obj, hn2, I.ne⟩ hs2)

/-- C(..): the dict at the heap's end, the instance behind it; then its __init__ -/
theorem make_map {R : Result → Shared → Prop} {vs : List Value} {kw : List (Str × Value)} (X : K.In s.heap) (hm : PySem.W.makesIn K C = true)
    (hi : PySem.W.findIn K (.ref C) "__init__" = some (some (.ref f))) (hf : PySem.W.typeIn K (.ref f) = some (.type "function"))
    (h : codeAny (model prog w) (A.under (.builtin "type.__call__" ⟨.ref C :: vs, kw⟩)) (.call (.ref f) ⟨.ref (s.heap.objs.size + 1) :: vs, kw⟩) (PySem.W.InitBack (s.heap.objs.size + 1) R)
      { s with heap := (s.heap.push PySem.W.emptyDict).push (PySem.W.instObj C s.heap.objs.size) }) :
    codeAny (model prog w) A (.call (.ref C) ⟨vs, kw⟩) R s := by
  obtain ⟨hh, g, d, t, os⟩ := s
  exact PySem.W.make_core (PySem.W.makes_of X hm) (PySem.W.looks_findIn X hi) (fun self => PySem.W.bind_fn X self hf) (.inl rfl) h
/-- C() where there is no __init__ but object's -/
theorem make_map0 {R : Result → Shared → Prop} (X : K.In s.heap) (hm : PySem.W.makesIn K C = true)
    (hi : PySem.W.findIn K (.ref C) "__init__" = some (some (.builtin "object.__init__")))
    (hb : ∀ self, PySem.W.Looks (model prog w) s.heap (bindSpecial (.builtin "object.__init__") self) (.builtin "object.__init__", [self]))
    (h : codeAny (model prog w) (A.under (.builtin "type.__call__" ⟨[.ref C], []⟩)) (.call (.builtin "object.__init__") ⟨[.ref (s.heap.objs.size + 1)], []⟩) (PySem.W.InitBack (s.heap.objs.size + 1) R)
      { s with heap := (s.heap.push PySem.W.emptyDict).push (PySem.W.instObj C s.heap.objs.size) }) :
    codeAny (model prog w) A (.call (.ref C) ⟨[], []⟩) R s := by
  obtain ⟨hh, g, d, t, os⟩ := s
  exact PySem.W.make_core (PySem.W.makes_of X hm) (PySem.W.looks_findIn X hi) hb (.inr ⟨rfl, rfl⟩) h
end

/-! ### the attributes as a list of pairs -/
def putF (f : Str) (v : V) : List (Str × V) → List (Str × V)
  | [] => [(f, v)]
  | (g, x) :: r => if g = f then (g, v) :: r else (g, x) :: putF f v r
theorem lookup_putF (f g : Str) (v : V) : ∀ fs : List (Str × V), (putF f v fs).lookup g = if g = f then some v else fs.lookup g
  | [] => by
    show List.lookup g [(f, v)] = _
    by_cases h : g = f
    · have hb : (g == f) = true := beq_iff_eq.mpr h
      simp only [List.lookup, hb, if_pos h]
    · have hb : (g == f) = false := beq_eq_false_iff_ne.mpr h
      simp only [List.lookup, hb, if_neg h]
  | (k, x) :: r => by
    have ih := lookup_putF f g v r
    rw [show putF f v ((k, x) :: r) = (if k = f then (k, v) :: r else (k, x) :: putF f v r) from rfl]
    by_cases hk : k = f
    · rw [if_pos hk]
      by_cases h : g = k
      · have hb : (g == k) = true := beq_iff_eq.mpr h
        simp only [List.lookup, hb, if_pos (h.trans hk)]
      · have hb : (g == k) = false := beq_eq_false_iff_ne.mpr h
        simp only [List.lookup, hb, if_neg (fun e : g = f => h (e.trans hk.symm))]
    · rw [if_neg hk]
      by_cases h : g = k
      · have hb : (g == k) = true := beq_iff_eq.mpr h
        simp only [List.lookup, hb, if_neg (fun e : g = f => hk (h.symm.trans e))]
      · have hb : (g == k) = false := beq_eq_false_iff_ne.mpr h
        simp only [List.lookup, hb]
        exact ih
theorem keys_putF (f : Str) (v : V) : ∀ fs : List (Str × V), f ∈ (putF f v fs).map (·.1) ∧ ∀ g, g ∈ fs.map (·.1) → g ∈ (putF f v fs).map (·.1)
  | [] => ⟨by simp [putF], fun g h => by simp at h⟩
  | (k, x) :: r => by
    obtain ⟨i1, i2⟩ := keys_putF f v r
    rw [show putF f v ((k, x) :: r) = (if k = f then (k, v) :: r else (k, x) :: putF f v r) from rfl]
    by_cases hk : k = f
    · rw [if_pos hk]
      subst hk
      exact ⟨by simp, fun g h => by simpa using h⟩
    · rw [if_neg hk]
      refine ⟨?_, fun g h => ?_⟩
      · rw [List.map_cons]
        exact List.mem_cons_of_mem _ i1
      · rw [List.map_cons] at h ⊢
        rcases List.mem_cons.mp h with e | e
        · exact List.mem_cons.mpr (.inl e)
        · exact List.mem_cons_of_mem _ (i2 g e)
theorem length_putF (f : Str) (v : V) : ∀ fs : List (Str × V), (putF f v fs).length ≤ fs.length + 1
  | [] => by simp [putF]
  | (k, x) :: r => by
    have ih := length_putF f v r
    rw [show putF f v ((k, x) :: r) = (if k = f then (k, v) :: r else (k, x) :: putF f v r) from rfl]
    by_cases hk : k = f
    · rw [if_pos hk, List.length_cons, List.length_cons]; omega
    · rw [if_neg hk, List.length_cons, List.length_cons]; omega

theorem RelO.some_of {v : V} {o : Option Value} (r : RelO (some v) o) : ∃ u, o = some u ∧ RelV v u := by
  cases o with
  | none => exact (show False from r).elim
  | some u => exact ⟨u, rfl, r⟩
theorem RelO.none_of {o : Option Value} (r : RelO none o) : o = none := by
  cases o with
  | none => rfl
  | some u => exact (show False from r).elim
theorem handed_of {v : V} {u : Value} (r : RelV v u) : PySem.W.handedIn u = true := by
  cases v with
  | non => cases (show u = Value.none from r); rfl
  | bl b => cases (show u = Value.bool b from r); rfl
  | int i => obtain ⟨t, e⟩ := (show ∃ t, u = Value.int i t from r); cases e; rfl
  | str x => obtain ⟨t, e⟩ := (show ∃ t, u = Value.str x t from r); cases e; rfl
  | byt b => obtain ⟨t, e⟩ := (show ∃ t, u = Value.bytes b t from r); cases e; rfl
  | flt b => obtain ⟨t, e⟩ := (show ∃ t, u = Value.float b t from r); cases e; rfl
  | ref a => cases (show u = Value.ref a from r); rfl
  | ty n => cases (show u = Value.type n from r); rfl

section
variable {P : Program} {w : World} {H H' : Hp} {h h' : Heap} {a C dx : Addr} {fs fs' : List (Str × V)}
theorem ins_get (hok : HOk P w H h) (e : H a = some (.ins C dx fs)) : ∃ mA, ObjM h a dx C mA ∧ (∀ f, RelO (fs.lookup f) (mA f)) ∧ PySem.Within mA (fs.map (·.1)) ∧ fs.length ≤ 1000 ∧ H dx = some (.own a) := by
  obtain ⟨d, z, ne, ob, mA, n, r, q⟩ := (show ObjOk P w H h a (.ins C dx fs) from hok a _ e)
  exact ⟨mA, ⟨ob, n, ne⟩, r, q, z, d⟩
end

/-! ### what of the text a class must have -/
structure Cls (K : PySem.W.Frag) (C : Addr) : Prop where
  pg : PySem.W.plainGet K C Str.empty = true
  hd : PySem.W.hasDictIn K C = true
  po : PySem.W.plainOver K C = true
  sa : PySem.W.findIn K (.ref C) "__setattr__" = some (some (.builtin "object.__setattr__"))
theorem Cls.get {K : PySem.W.Frag} {C : Addr} (c : Cls K C) (f : Str) : PySem.W.plainGet K C f = true := c.pg
/-- no class of it has the name -/
def NoAttr (K : PySem.W.Frag) (C : Addr) (f : Str) : Prop := PySem.W.findIn K (.ref C) f = some none
theorem NoAttr.taker {K : PySem.W.Frag} {C : Addr} {f : Str} (n : NoAttr K C f) : PySem.W.takerIn K C f = some none := by
  unfold PySem.W.takerIn
  rw [show PySem.W.findIn K (.ref C) f = some none from n]
  rfl
/-- a constant of the class -/
structure Con (K : PySem.W.Frag) (C : Addr) (f : Str) (v : V) (u : Value) : Prop where
  at_ : PySem.W.findIn K (.ref C) f = some (some u)
  rel : RelV v u
  get : PySem.W.specialIn K u "__get__" = some none
  cp : PySem.W.copiedNames.contains f = false
/-- a method: a plain def of the class or of one above it -/
structure Meth (K : PySem.W.Frag) (C : Addr) (m : Str) (f : Addr) : Prop where
  at_ : PySem.W.findIn K (.ref C) m = some (some (.ref f))
  fn : PySem.W.isFn K (.ref f) = true
  kp : PySem.W.keepIn K (.ref f) = true

section
variable {X : Cx} {pins : List (Addr × Obj)} {σ : St} {H : Hp} {s : Shared} {a C dx : Addr} {fs : List (Str × V)} {f : Str} {v : V} {A : Around} {E : Value → Shared → Prop}

theorem getattr_ok {b : Bool} {Q : Value → Shared → Prop} (I : Inv X pins σ H s) (e : H a = some (.ins C dx fs)) (c : Cls X.K C) (n : NoAttr X.K C f) (l : fs.lookup f = some v)
    (h : ∀ u s', Inv X pins σ H s' → RelV v u → Q u s') : wpAny (model X.prog X.w) A (getAttr (.ref a) f b) Q E s := by
  obtain ⟨mA, O, r, _, _, _⟩ := ins_get I.hok e
  obtain ⟨u, hu, ru⟩ := RelO.some_of (v := v) (o := mA f) (by rw [← l]; exact r f)
  exact get_map I.kIn O (c.get f) c.hd n hu (handed_of ru) (h u _ (I.tok _) ru)

theorem getmeth_ok {m : Str} {g : Addr} {pl : Sem Bool} {Q : Value × List Value → Shared → Prop} (I : Inv X pins σ H s) (e : H a = some (.ins C dx fs)) (c : Cls X.K C) (k : Meth X.K C m g) (l : fs.lookup m = none)
    (h : Q (.ref g, [.ref a]) s) : wpAny (model X.prog X.w) A (getMethod (.ref a) m pl) Q E s := by
  obtain ⟨mA, O, r, _, _, _⟩ := ins_get I.hok e
  have hn : mA m = none := RelO.none_of (by rw [← l]; exact r m)
  exact get_meth I.kIn O (c.get m) k.at_ k.fn hn h

theorem setattr_ok {y : V} {u : Value} {Q : Unit → Shared → Prop} (I : Inv X pins σ H s) (e : H a = some (.ins C dx fs)) (c : Cls X.K C) (n : NoAttr X.K C f) (hl : fs.length < 1000) (ry : RelV y u)
    (h : ∀ s', Inv X pins σ (upd H a (.ins C dx (putF f y fs))) s' → Q () s') : wpAny (model X.prog X.w) A (setAttr (.ref a) f u) Q E s := by
  obtain ⟨mA, O, r, wi, _, ho⟩ := ins_get I.hok e
  have hz : (fs.map (·.1)).length ≤ sizeLine := by rw [List.length_map, sizeLine_eq]; omega
  refine set_map I.kIn O c.sa c.po n.taker c.hd wi hz fun h' O' sb => h _ ?_
  have hd : ∃ o, h'.get? dx = some o := let ⟨o, _, _, e', _⟩ := O'.ns; ⟨o, e'⟩
  refine I.write (x := a) (e := dx) (by rw [e]; exact True.intro) (.inr ho) (fun b q hb z => (sb.2 b hb).trans z) hd ?_
  refine ⟨by rw [upd_ne O.ne]; exact ho, ?_, O.ne, O'.obj, _, O'.ns, fun g => ?_, fun g hg => ?_⟩
  · have := length_putF f y fs; omega
  · show RelO ((putF f y fs).lookup g) (if g = f then some u else mA g)
    rw [lookup_putF]
    by_cases q : g = f
    · rw [if_pos q, if_pos q]; exact ry
    · rw [if_neg q, if_neg q]; exact r g
  · by_cases q : g = f
    · rw [q]; exact (keys_putF f y fs).1
    · refine (keys_putF f y fs).2 g (wi g fun z => hg ?_)
      show (if g = f then some u else mA g) = none
      rw [if_neg q]; exact z

/-- a new instance, tracked, without attributes -/
theorem Inv.made (I : Inv X pins σ H s) : Inv X pins σ (upd (upd H s.heap.objs.size (.own (s.heap.objs.size + 1))) (s.heap.objs.size + 1) (.ins C s.heap.objs.size []))
    { s with heap := (s.heap.push PySem.W.emptyDict).push (PySem.W.instObj C s.heap.objs.size) } := by
  have e1 : (s.heap.push PySem.W.emptyDict).get? s.heap.objs.size = some PySem.W.emptyDict := Heap.get?_push_size s.heap rfl
  have e2 : ((s.heap.push PySem.W.emptyDict).push (PySem.W.instObj C s.heap.objs.size)).get? (s.heap.objs.size + 1) = some (PySem.W.instObj C s.heap.objs.size) := by
    have := Heap.get?_push_size (s.heap.push PySem.W.emptyDict) (o := PySem.W.instObj C s.heap.objs.size) rfl
    rwa [Heap.size_push] at this
  have e3 : (s.heap.push PySem.W.emptyDict).Ns s.heap.objs.size (fun _ => none) := ⟨PySem.W.emptyDict, #[], _, e1, rfl, (fun e he => absurd he (by simp)), fun _ => rfl⟩
  have I1 := I.laid (a := s.heap.objs.size) (o := .own (s.heap.objs.size + 1)) (h' := s.heap.push PySem.W.emptyDict) (t' := s.toks) (fun b u q => Heap.get?_push_of_some _ q) (Nat.le_refl _) ⟨_, e1⟩
  refine I1.laid (a := s.heap.objs.size + 1) (o := .ins C s.heap.objs.size []) (t' := s.toks) (fun b u q => Heap.get?_push_of_some _ q) (Nat.le_of_eq (Heap.size_push _ _)) ?_
  have ne : s.heap.objs.size ≠ s.heap.objs.size + 1 := Nat.ne_of_lt (Nat.lt_succ_self _)
  refine ⟨by rw [upd_ne ne, upd_same], Nat.zero_le _, ne, e2, fun _ => none, (Heap.Ns1.of_empty e3).at fun o q => Heap.get?_push_of_some _ q, fun _ => True.intro, fun y hy => absurd rfl hy⟩

/-- e.f where nothing but the object is asked: through attributeBase (super) and the last hold -/
theorem attr_of {prog : Program} {w : World} {env : Env} {e : Expr} {f : Str} {pos : Pos} {s : Shared} {Q : Value → Shared → Prop} (hb : attributeBase e f env (eval e env) = eval e env)
    (h : wpAny (model prog w) A (eval e env) (fun o s₁ => wpAny (model prog w) A (getAttr o f true) Q E s₁) E s) : wpAny (model prog w) A (eval (.Attribute e f pos) env) Q E s :=
  Attribute_any_ h (by rw [arm_eval_Attribute, hb])
end

/-! ### readings and rules -/
/-- e.f, an attribute of the instance -/
def tFld (K : PySem.W.Frag) (ta : TE) (f : Str) : TE := fun σ H Q => ta σ H fun x H1 => ∃ a C dx fs v, x = .ref a ∧ H1 a = some (.ins C dx fs) ∧ Cls K C ∧ NoAttr K C f ∧ fs.lookup f = some v ∧ Q v H1
/-- e.f = value -/
def sFld (K : PySem.W.Frag) (ta tv : TE) (f : Str) : TS := fun D σ H => tv σ H fun y H1 => ta σ H1 fun x H2 => ∃ a C dx fs, x = .ref a ∧ H2 a = some (.ins C dx fs) ∧ Cls K C ∧ NoAttr K C f ∧ fs.length < 1000 ∧
  D.nx σ (upd H2 a (.ins C dx (putF f y fs)))
section
variable {X : Cx} {o e value : Expr} {f : Str} {pos pos' tpos : Pos} {ta tv : TE}
theorem pe_fld (he : PE X e ta) (hb : attributeBase e f X.env (eval e X.env) = eval e X.env) : PE X (.Attribute e f pos) (tFld X.K ta f) := by
  intro pins s σ H Q I h
  refine attr_of hb (thn (he pins s σ H _ I h) fun u s1 ⟨x, H1, I1, rx, a, C, dx, fs, v, ex, ea, c, n, l, q⟩ => ?_)
  subst ex
  obtain rfl : u = Value.ref a := rx
  exact getattr_ok I1 ea c n l fun u' s2 I2 ru => ⟨v, H1, I2, ru, q⟩
theorem ps_fld (ha : PE X o ta) (hv : PE X value tv) (hs : swapsWith value (some (.Attribute o f pos')) pos.line X.env = pure false) : PS X (.Assign [.Attribute o f pos'] value pos) (sFld X.K ta tv f) := by
  intro pins s σ H D I h
  refine plainObj_wpAny_Assign_Attribute (thn (hv pins s σ H _ I h) fun u s1 ⟨y, H1, I1, ry, q⟩ => thn (ha pins s1 σ H1 _ I1 q) fun ov s2 ⟨x, H2, I2, rx, a, C, dx, fs, ex, ea, c, n, l, q2⟩ => ?_) hs
  subst ex
  obtain rfl : ov = Value.ref a := rx
  exact setattr_ok I2 ea c n l ry fun s3 I3 => ⟨σ, _, I3, q2⟩
/-- what is between an instance and its method: the tree of a method call -/
theorem methcall_of {pl : Sem Bool} {m : Str} {apos : Pos} {args : List Expr} {pins : List (Addr × Obj)} {s : Shared} {σ : St} {H : Hp} {Q : Value → Shared → Prop} {te : TE} (he : PE X e te) (I : Inv X pins σ H s)
    (h : te σ H fun x H1 => ∃ a C dx fs g, x = .ref a ∧ H1 a = some (.ins C dx fs) ∧ Cls X.K C ∧ Meth X.K C m g ∧ fs.lookup m = none ∧
      ∀ s1, Inv X pins σ H1 s1 → wpAny (model X.prog X.w) X.A (callWith pos (.ref g) [.ref a] (backTo pos (starEach args X.env)) (backToKw pos (keywordEach [] X.env))) Q X.xe s1)
    (ht : eval (.Call (.Attribute e m apos) args [] pos) X.env = (do
      let ov ← eval e X.env
      standAt apos.atName
      let (f, first) ← holding [ov] (getMethod ov m pl)
      callWith pos f first (backTo pos (starEach args X.env)) (backToKw pos (keywordEach [] X.env)))) :
    wpAny (model X.prog X.w) X.A (eval (.Call (.Attribute e m apos) args [] pos) X.env) Q X.xe s := by
  refine PySem.W.methodCall_KW (pl := pl) (thn (he pins s σ H _ I h) fun u s1 ⟨x, H1, I1, rx, a, C, dx, fs, g, ex, ea, c, k, l, q⟩ => ?_) ht
  subst ex
  obtain rfl : u = Value.ref a := rx
  exact getmeth_ok I1 ea c k l (q s1 I1)
end

/-! ### isinstance -/
section
variable {X : Cx} {pins : List (Addr × Obj)} {σ : St} {H : Hp} {s : Shared} {A : Around} {E : Value → Shared → Prop} {Q : Value → Shared → Prop} {c : Value} {b : Bool}
/-- the type of a value, as the fragment's deciders take it; for an instance its class -/
inductive TyOf (K : PySem.W.Frag) (H : Hp) : V → Value → Prop where
  | non : TyOf K H .non (.type "NoneType")
  | bl (x : Bool) : TyOf K H (.bl x) (.type "bool")
  | int (i : Int) : TyOf K H (.int i) (.type "int")
  | str (x : Str) : TyOf K H (.str x) (.type "str")
  | flt (x : UInt64) : TyOf K H (.flt x) (.type "float")
  | lst {a : Addr} {xs : List V} (e : H a = some (.lst xs)) : TyOf K H (.ref a) (.type "list")
  | frz {a : Addr} {o : Obj} {xs : List V} (e : H a = some (.frz o (.lst xs))) : TyOf K H (.ref a) (.type "list")
  | tup {a : Addr} {xs : List V} (e : H a = some (.tup xs)) : TyOf K H (.ref a) (.type "tuple")
  | dK {a : Addr} {kvs : List (Key × V)} (e : H a = some (.dK kvs)) : TyOf K H (.ref a) (.type "dict")
  | dT {a : Addr} {kvs : List (List Key × V)} (e : H a = some (.dT kvs)) : TyOf K H (.ref a) (.type "dict")
  | ins {a C dx : Addr} {fs : List (Str × V)} (e : H a = some (.ins C dx fs)) (cl : Cls K C) (ha : PySem.W.findIn K (.ref C) "__class__" = some (some (.builtin "object.__class__")))
      (hn : PySem.W.specialIn K (.builtin "object.__class__") "__get__" = some (some (.builtin "getset_descriptor.__get__"))) (htk : PySem.W.takesIn K (.builtin "object.__class__") = some true)
      (hm : PySem.W.mroIn K C (.type "object") = some true) : TyOf K H (.ref a) (.ref C)
/-- isinstance(x, c) for one class c, a built-in or an own one: kitOne's answer -/
theorem isinst_ok {x : V} {u t : Value} (I : Inv X pins σ H s) (rx : RelV x u) (ty : TyOf X.K H x t) (e : PySem.W.kitOne X.K t c = some b) (h : ∀ tk, Q (.bool b) { s with toks := tk }) :
    wpAny (model X.prog X.w) A (call (.builtin "isinstance") [u, c]) Q E s := by
  cases ty with
  | non => cases (show u = Value.none from rx); exact PySem.W.kia_one PySem.W.kitx_none I.kIn True.intro e (fun z => nomatch z) h
  | bl y => cases (show u = Value.bool y from rx); exact PySem.W.kia_one PySem.W.kitx_bool I.kIn True.intro e (fun z => nomatch z) h
  | int i => obtain ⟨t, q⟩ := (show ∃ t, u = Value.int i t from rx); cases q; exact PySem.W.kia_one PySem.W.kitx_int I.kIn True.intro e (fun z => nomatch z) h
  | str y => obtain ⟨t, q⟩ := (show ∃ t, u = Value.str y t from rx); cases q; exact PySem.W.kia_one PySem.W.kitx_str I.kIn True.intro e (fun z => nomatch z) h
  | flt y => obtain ⟨t, q⟩ := (show ∃ t, u = Value.float y t from rx); cases q; exact PySem.W.kia_one PySem.W.kitx_float I.kIn True.intro e (fun z => nomatch z) h
  | @lst a xs ea =>
    cases (show u = Value.ref a from rx)
    obtain ⟨_, _, n, _, h1⟩ := (show ObjOk X.prog X.w H s.heap a (.lst xs) from I.hok a _ ea)
    exact PySem.W.kia_one PySem.W.kitx_list I.kIn ⟨_, h1, rfl⟩ e (fun z => nomatch z) h
  | @frz a ob xs ea =>
    cases (show u = Value.ref a from rx)
    obtain ⟨_, _, _, n, _, h1⟩ := (show ObjOk X.prog X.w H s.heap a (.frz ob (.lst xs)) from I.hok a _ ea)
    exact PySem.W.kia_one PySem.W.kitx_list I.kIn ⟨_, h1, rfl⟩ e (fun z => nomatch z) h
  | @tup a xs ea =>
    cases (show u = Value.ref a from rx)
    obtain ⟨_, _, _, p⟩ := (show ObjOk X.prog X.w H s.heap a (.tup xs) from I.hok a _ ea)
    obtain ⟨o, h1, h2, _⟩ := p
    exact PySem.W.kia_one PySem.W.kitx_tuple I.kIn ⟨o, h1, h2⟩ e (fun z => nomatch z) h
  | @dK a kvs ea =>
    cases (show u = Value.ref a from rx)
    obtain ⟨_, _, vs, _, p⟩ := (show ObjOk X.prog X.w H s.heap a (.dK kvs) from I.hok a _ ea)
    obtain ⟨o, es, ep, h1, h2, _⟩ := p
    exact PySem.W.kia_one PySem.W.kitx_dict I.kIn ⟨o, h1, h2.1⟩ e (fun z => nomatch z) h
  | @dT a kvs ea =>
    cases (show u = Value.ref a from rx)
    obtain ⟨_, _, xs, _, o, es, ep, h1, h2, _⟩ := (show ObjOk X.prog X.w H s.heap a (.dT kvs) from I.hok a _ ea)
    exact PySem.W.kia_one PySem.W.kitx_dict I.kIn ⟨o, h1, h2.1⟩ e (fun z => nomatch z) h
  | @ins a C dx fs ea cl ha hn htk hm =>
    cases (show u = Value.ref a from rx)
    obtain ⟨mA, O, _⟩ := ins_get I.hok ea
    obtain ⟨od, J, _⟩ := O.look
    exact PySem.W.kia_one (PySem.W.kitx_own (cl.get _) cl.hd ha hn htk hm) I.kIn J e (fun z => nomatch z) h
end
end L2

namespace L2
open PySem PySem.Spec PyProof.Rows

/-! ### room -/
structure Room (k : Nat) (A : Around) : Prop where
  hd : A.handled = none
  dp : A.depth + 3 * k + 5 < recursionLimit
  un : A.units + 16 * k + 200 < cLine
theorem Room.mono {j k : Nat} {A : Around} (r : Room k A) (h : j ≤ k) : Room j A := ⟨r.hd, by have := r.dp; omega, by have := r.un; omega⟩
theorem Room.deeper {k : Nat} {A : Around} (r : Room (k + 1) A) (env : Env) : Room k (A.deeper env) :=
  ⟨r.hd, by have := r.dp; show A.depth + 1 + 3 * k + 5 < _; omega, by have := r.un; show A.units + 3 + 16 * k + 200 < _; omega⟩
theorem Room.in1 {k : Nat} {A : Around} (r : Room (k + 1) A) : Room k A.in1 :=
  ⟨r.hd, by have := r.dp; show A.depth + 3 * k + 5 < _; omega, by have := r.un; show A.units + 1 + 16 * k + 200 < _; omega⟩
theorem make_depth {A : Around} {C : Addr} {us : List Value} {kw : List (Str × Value)} : (A.under (.builtin "type.__call__" ⟨.ref C :: us, kw⟩)).depth = A.depth + 1 := by
  first | rfl | simp [Around.under, Code.weight, Code.isCreation, Code.isGuard, Code.isCaller, Code.frames, Code.isFrame, guardIds]
theorem make_units {A : Around} {C : Addr} {us : List Value} {kw : List (Str × Value)} : (A.under (.builtin "type.__call__" ⟨.ref C :: us, kw⟩)).units = A.units + 1 := by
  first | rfl | simp [Around.under, Code.cUnits, Code.frames, Code.isFrame]
theorem Room.make {k : Nat} {A : Around} (r : Room (k + 1) A) (C : Addr) (us : List Value) (kw : List (Str × Value)) : Room k (A.under (.builtin "type.__call__" ⟨.ref C :: us, kw⟩)) :=
  ⟨r.hd, by have := r.dp; rw [make_depth]; omega, by have := r.un; rw [make_units]; omega⟩
theorem Room.depth {k : Nat} {A : Around} (r : Room k A) : A.depth < recursionLimit := by have := r.dp; omega
theorem Room.units {k : Nat} {A : Around} (r : Room k A) : A.units + 64 < cLine := by have := r.un; omega
/-! ### argument lists and displays -/
def tNil : TA := fun _ H Q => Q [] H
def tCons (ta : TE) (tr : TA) : TA := fun σ H Q => ta σ H fun x H1 => tr σ H1 fun xs H2 => Q (x :: xs) H2
section
variable {X : Cx} {e : Expr} {es : List Expr} {te : TE} {t : TA} {pos : Pos}
theorem pa_nil : PA X [] tNil := fun _ _ _ _ H Q I h => Calls.spliced_nil ⟨[], H, I, .nil, h⟩
theorem pa_cons (ha : PE X e te) (hr : PA X es t) (hs : starEach (e :: es) X.env = (false, eval e X.env) :: starEach es X.env := by rfl) : PA X (e :: es) (tCons te t) := by
  intro pos pins s σ H Q I h
  rw [hs]
  show wpAny _ _ (spliced ((false, eval e X.env) :: backTo pos (starEach es X.env))) _ _ s
  refine Calls.spliced_cons (thn (ha pins s σ H _ I h) fun u s1 ⟨x, H1, I1, r1, q1⟩ => ?_)
  exact thn (hr pos pins s1 σ H1 _ I1 q1) fun us s2 ⟨xs, H2, I2, r2, q2⟩ => ⟨x :: xs, H2, I2, .cons r1 r2, q2⟩

/-- a tuple, a list of written items -/
def tTup (t : TA) : TE := fun σ H Q => t σ H fun xs H1 => xs.length ≤ sizeLine ∧ ∀ p, H1 p = none → Q (.ref p) (upd H1 p (.tup xs))
def tLst (t : TA) : TE := fun σ H Q => t σ H fun xs H1 => xs.length ≤ sizeLine ∧ ∀ p, H1 p = none → Q (.ref p) (upd H1 p (.lst xs))
theorem pe_tup {x1} (h : PA X es t) : PE X (.Tuple es x1 pos) (tTup t) := by
  intro pins s σ H Q I hq
  refine wpAny_Tuple_spliced (thn (h pos pins s σ H _ I hq) fun us s1 ⟨xs, H1, I1, r, z, q⟩ => ⟨by rw [← r.length]; exact z, ?_⟩)
  have hf : H1 s1.heap.objs.size = none := I1.hok.fresh (Nat.le_refl _)
  refine ⟨.ref s1.heap.objs.size, upd H1 s1.heap.objs.size (.tup xs), I1.laid (t' := s1.toks) (fun b u e => Heap.get?_push_of_some _ e) (Nat.le_refl _) ?_, rfl, q _ hf⟩
  exact ⟨z, us, r, ⟨_, Heap.get?_push_size _ rfl, rfl, rfl, _, rfl⟩⟩
theorem pe_lst (h : PA X es t) : PE X (.List es pos) (tLst t) := by
  intro pins s σ H Q I hq
  refine wpAny_List_spliced (thn (h pos pins s σ H _ I hq) fun us s1 ⟨xs, H1, I1, r, z, q⟩ => ⟨by rw [← r.length]; exact z, ?_⟩)
  have hf : H1 s1.heap.objs.size = none := I1.hok.fresh (Nat.le_refl _)
  refine ⟨.ref s1.heap.objs.size, upd H1 s1.heap.objs.size (.lst xs), I1.laid (t' := s1.toks) (fun b u e => Heap.get?_push_of_some _ e) (Nat.le_refl _) ?_, rfl, q _ hf⟩
  exact ⟨z, us, 0, r, Heap.get?_push_size _ rfl⟩
end

/-! ### what a def promises -/
/-- a def's promise: the bound arguments in the parameters' order, the heap, the wanted end, the wanted exception -/
abbrev Sp := List V → Hp → VK → XK → Prop
/-- how an exception lies behind a call (file 08 gives it): the callers' frames, abstract heap and state ahead of the call, the wish, the exception, the state -/
abbrev CXT := List Env → Hp → Shared → XK → Value → Shared → Prop

/-- the state at a call -/
structure Env0 (P : Program) (w : World) (K : PySem.W.Frag) (mg : Str → Option Value) (base : Heap) (A : Around) (outer : List Env) (s : Shared) (H : Hp) : Prop where
  frames : A.frames = some outer
  mod : Mod K mg base
  bs : ∀ b o, base.get? b = some o → s.heap.get? b = some o ∧ H b = none
  bsz : base.objs.size ≤ s.heap.objs.size
  funs : s.heap.FunFrames base outer
  frf : ∀ b ∈ frs outer, H b = none
  hok : HOk P w H s.heap
  bare : AllBare s.gens
/-- a call's end -/
def CE (outer : List Env) (P : Program) (w : World) (H : Hp) (s : Shared) (Q : VK) (u : Value) (s' : Shared) : Prop :=
  ∃ v H', s'.os = s.os ∧ AllBare s'.gens ∧ Un (frs outer) [] H H' s.heap s'.heap ∧ HOk P w H' s'.heap ∧ RelV v u ∧ Q v H'
def CR (CX : CXT) (outer : List Env) (P : Program) (w : World) (H : Hp) (s : Shared) (Q : VK) (E : XK) (r : Result) (s' : Shared) : Prop :=
  match r with
  | .ok (.ret u) => CE outer P w H s Q u s'
  | .ok _ => False
  | .error e => CX outer H s E e s'
structure FnOk (P : Program) (w : World) (K : PySem.W.Frag) (mg : Str → Option Value) (base : Heap) (CX : CXT) (k : Nat) (f : Addr) (fd : FuncData) (ps : List Str) (sp : Sp) : Prop where
  len : ∀ vs H Q E, sp vs H Q E → vs.length = ps.length
  run : ∀ (A : Around) (outer : List Env) (s : Shared) (H : Hp) (args : Args) (us : List Value) (vs : List V) (Q : VK) (E : XK), Room k A → Env0 P w K mg base A outer s H → BindsTo s fd args (ps.zip us) → Vals vs us → sp vs H Q E →
    codeAny (model P w) A (.call (.ref f) args) (CR CX outer P w H s Q E) s
theorem FnOk.mono {P : Program} {w : World} {K : PySem.W.Frag} {mg : Str → Option Value} {base : Heap} {CX : CXT} {j k : Nat} {f : Addr} {fd : FuncData} {ps : List Str} {sp : Sp} (F : FnOk P w K mg base CX j f fd ps sp) (h : j ≤ k) :
    FnOk P w K mg base CX k f fd ps sp := ⟨F.len, fun A outer s H args us vs Q E hr => F.run A outer s H args us vs Q E (hr.mono h)⟩
/-- a weaker promise -/
theorem FnOk.imp {P : Program} {w : World} {K : PySem.W.Frag} {mg : Str → Option Value} {base : Heap} {CX : CXT} {k : Nat} {f : Addr} {fd : FuncData} {ps : List Str} {sp sp' : Sp} (F : FnOk P w K mg base CX k f fd ps sp)
    (h : ∀ vs H Q E, sp' vs H Q E → sp vs H Q E) : FnOk P w K mg base CX k f fd ps sp' :=
  ⟨fun vs H Q E q => F.len vs H Q E (h _ _ _ _ q), fun A outer s H args us vs Q E hr he hb hv hs => F.run A outer s H args us vs Q E hr he hb hv (h _ _ _ _ hs)⟩

theorem Env0.make {P : Program} {w : World} {K : PySem.W.Frag} {mg : Str → Option Value} {base : Heap} {A : Around} {outer : List Env} {s : Shared} {H : Hp} (e : Env0 P w K mg base A outer s H) (C : Addr) (us : List Value) (kw : List (Str × Value)) :
    Env0 P w K mg base (A.under (.builtin "type.__call__" ⟨.ref C :: us, kw⟩)) outer s H := ⟨by first | exact e.frames | (simpa [Around.under, Code.envs, Code.isFrame, pushEnvs] using e.frames), e.mod, e.bs, e.bsz, e.funs, e.frf, e.hok, e.bare⟩
theorem Env0.in1 {P : Program} {w : World} {K : PySem.W.Frag} {mg : Str → Option Value} {base : Heap} {A : Around} {outer : List Env} {s : Shared} {H : Hp} (e : Env0 P w K mg base A outer s H) :
    Env0 P w K mg base A.in1 outer s H := ⟨e.frames, e.mod, e.bs, e.bsz, e.funs, e.frf, e.hok, e.bare⟩

section
variable {X : Cx} {pins : List (Addr × Obj)} {σ : St} {H : Hp} {s s' : Shared}
/-- from a body: what a callee wants -/
theorem Inv.env0 (I : Inv X pins σ H s) : Env0 X.prog X.w X.K X.mg X.base X.A X.stack s H :=
  ⟨I.ok.frames, I.ok.mod, I.bs, Nat.le_trans I.ok.bsz I.sz, I.stack, I.stkFree, I.hok, I.bare⟩
/-- behind a call -/
theorem Inv.after {Q : VK} {u : Value} (I : Inv X pins σ H s) (h : CE X.stack X.prog X.w H s Q u s') : EP X pins σ Q u s' := by
  obtain ⟨v, H', os, bare, un, hok, r, q⟩ := h
  obtain ⟨hh, g, d, t, os'⟩ := s'
  obtain rfl : os' = s.os := os
  exact ⟨v, H', I.call (h' := hh) (g' := g) (d' := d) (t' := t) (ch := []) un hok bare (fun b z => absurd z (by simp)), r, q⟩
end

/-! ### calls -/
/-- how the parameters are bound: us the positional arguments, kw the keywords' values by name, ds the defaults that fill up -/
def Binds (K : PySem.W.Frag) (fd : FuncData) (ps : List Str) (ds : List Value) : Prop :=
  ∀ (s : Shared) (us : List Value), K.In s.heap → (us ++ ds).length = ps.length → BindsTo s fd ⟨us, []⟩ (ps.zip (us ++ ds))
/-- every parameter is given -/
theorem Binds.all {K : PySem.W.Frag} {fd : FuncData} {ps : List Str} (h : ∀ us : List Value, us.length = ps.length → bindArgs fd ⟨us, []⟩ = pure (ps.zip us)) : Binds K fd ps [] := fun s us _ hl => by
  rw [List.append_nil] at hl ⊢
  exact .of_eq (h us hl)

section
variable {X : Cx} {CX : CXT} {k : Nat} {f C : Addr} {fd : FuncData} {ps : List Str} {sp : Sp} {dvs : List V} {ds : List Value} {E : XK} {x m : Str} {p pos apos : Pos} {e o : Expr} {es : List Expr} {ta : TE} {t : TA}

/-- what a class must have to be made -/
structure Mk (K : PySem.W.Frag) (C f : Addr) : Prop where
  makes : PySem.W.makesIn K C = true
  init : PySem.W.findIn K (.ref C) "__init__" = some (some (.ref f))
  fn : PySem.W.isFn K (.ref f) = true
  kp : PySem.W.keepIn K (.ref C) = true

end

/-! ### keywords -/
/-- the values of the keywords, from the left -/
def PK (X : Cx) (kws : List Keyword) (t : TA) : Prop :=
  ∀ (pos : Pos) (pins : List (Addr × Obj)) (s : Shared) (σ : St) (H : Hp) (Q : List V → Hp → Prop), Inv X pins σ H s → t σ H Q → wpAny (model X.prog X.w) X.A (evalAll ((backToKw pos (keywordEach kws X.env)).map (·.2))) (AP X pins σ Q) X.xe s
section
variable {X : Cx} {CX : CXT} {k : Nat} {f C : Addr} {fd : FuncData} {ps ks : List Str} {sp : Sp} {E : XK} {x m : Str} {p pos apos kpos : Pos} {e o : Expr} {es : List Expr} {kws : List Keyword} {te ta : TE} {t tk : TA} {nm : Option Str}
theorem pk_nil : PK X [] tNil := fun _ _ _ _ H Q I h => wpAny_evalAll_nil ⟨[], H, I, .nil, h⟩
theorem pk_cons (ha : PE X e te) (hr : PK X kws t) : PK X (⟨nm, e, kpos⟩ :: kws) (tCons te t) := by
  intro pos pins s σ H Q I h
  show wpAny _ _ (evalAll ((do let v ← eval e X.env; standAt pos; pure v) :: (backToKw pos (keywordEach kws X.env)).map (·.2))) _ _ s
  refine wpAny_evalAll_cons (wpAny_bind (thn (ha pins s σ H _ I h) fun u s1 ⟨x, H1, I1, r1, q1⟩ => wpAny_bind (wpAny_standAt (wpAny_pure ?_))))
  exact thn (hr pos pins s1 σ H1 _ I1 q1) fun us s2 ⟨xs, H2, I2, r2, q2⟩ => ⟨x :: xs, H2, I2, .cons r1 r2, q2⟩

/-- how a call with keywords binds: g puts the positional values us and the keywords' values ws (names ks) in the parameters' order, defaults among them -/
structure KBinds (K : PySem.W.Frag) (fd : FuncData) (ps ks : List Str) (g : List Value → List Value → List Value) (gV : List V → List V → List V) : Prop where
  to : ∀ (s : Shared) (us ws : List Value), K.In s.heap → (g us ws).length = ps.length → BindsTo s fd ⟨us, ks.zip ws⟩ (ps.zip (g us ws))
  rel : ∀ {vs : List V} {us : List Value} {zs : List V} {ws : List Value}, Vals vs us → Vals zs ws → Vals (gV vs zs) (g us ws)
variable {g : List Value → List Value → List Value} {gV : List V → List V → List V}
end

/-! ### a def's body keeps its promise -/
/-- names: the parameters first -/
structure FnScope (N P : List Str) (sc : Scope) : Prop where
  kind : sc.kind = .function
  co : sc.isCoroutine = false
  gen : sc.isGenerator = false
  nd : N.Nodup
  pre : N.take P.length = P
  par : ∀ x ∈ P, sc.names.lookup x = some .local ∨ sc.names.lookup x = some .cell
  nofree : ∀ y ∈ sc.names, y.2 ≠ .free

theorem bindL_out {kindOf : Str → Option NameKind} {x : Str} : ∀ {binds : List (Str × Value)} {m : Str → Option Value}, (∀ v, (x, v) ∉ binds) → bindL kindOf binds m x = m x
  | [], _, _ => rfl
  | (n, v) :: r, m, h => by
    unfold bindL
    rw [bindL_out fun w hw => h w (List.mem_cons_of_mem _ hw)]
    split
    · have : x ≠ n := by rintro rfl; exact h v List.mem_cons_self
      simp [this]
    · rfl
theorem bindC_out {kindOf : Str → Option NameKind} {x : Str} : ∀ {binds : List (Str × Value)} {m : Str → Option Value}, (∀ v, (x, v) ∉ binds) → bindC kindOf binds m x = m x
  | [], _, _ => rfl
  | (n, v) :: r, m, h => by
    unfold bindC
    rw [bindC_out fun w hw => h w (List.mem_cons_of_mem _ hw)]
    split
    · rfl
    · have : x ≠ n := by rintro rfl; exact h v List.mem_cons_self
      simp [this]
theorem bindL_get {kindOf : Str → Option NameKind} {x : Str} {v : Value} : ∀ {P : List Str} {vs : List Value} {i : Nat} {m : Str → Option Value}, P.Nodup → P[i]? = some x → vs[i]? = some v → kindOf x = some .local →
    bindL kindOf (P.zip vs) m x = some v
  | [], _, _, _, _, h, _, _ => by simp at h
  | _ :: _, [], _, _, _, _, h, _ => by simp at h
  | p :: P, w :: vs, 0, m, nd, h1, h2, hk => by
    simp at h1 h2; subst h1; subst h2
    show bindL kindOf ((p, w) :: P.zip vs) m p = _
    unfold bindL
    rw [bindL_out fun v hv => (List.nodup_cons.mp nd).1 (List.of_mem_zip hv).1, if_pos hk]
    simp
  | p :: P, w :: vs, i + 1, m, nd, h1, h2, hk => by
    show bindL kindOf ((p, w) :: P.zip vs) m x = _
    unfold bindL
    exact bindL_get (i := i) (List.nodup_cons.mp nd).2 (by simpa using h1) (by simpa using h2) hk
theorem bindC_get {kindOf : Str → Option NameKind} {x : Str} {v : Value} : ∀ {P : List Str} {vs : List Value} {i : Nat} {m : Str → Option Value}, P.Nodup → P[i]? = some x → vs[i]? = some v → kindOf x ≠ some .local →
    bindC kindOf (P.zip vs) m x = some v
  | [], _, _, _, _, h, _, _ => by simp at h
  | _ :: _, [], _, _, _, _, h, _ => by simp at h
  | p :: P, w :: vs, 0, m, nd, h1, h2, hk => by
    simp at h1 h2; subst h1; subst h2
    show bindC kindOf ((p, w) :: P.zip vs) m p = _
    unfold bindC
    rw [bindC_out fun v hv => (List.nodup_cons.mp nd).1 (List.of_mem_zip hv).1, if_neg hk]
    simp
  | p :: P, w :: vs, i + 1, m, nd, h1, h2, hk => by
    show bindC kindOf ((p, w) :: P.zip vs) m x = _
    unfold bindC
    exact bindC_get (i := i) (List.nodup_cons.mp nd).2 (by simpa using h1) (by simpa using h2) hk

/-- the names' values at the entry -/
def start (N : List Str) (vs : List V) : St := vs.map some ++ List.replicate (N.length - vs.length) none

/-- the context of a def's body, at its entry; an exception leaves the frame, then lies as CX says -/
def cxOf (CX : CXT) (P : Program) (w : World) (K : PySem.W.Frag) (mg : Str → Option Value) (base : Heap) (N : List Str) (qual : Str) (scope : Scope) (f : Addr) (cd : Value) (A : Around) (outer : List Env) (s : Shared) (H : Hp) (E : XK) : Cx where
  prog := P
  w := w
  K := K
  mg := mg
  base := base
  A := A.deeper (envOfC qual scope s.heap.objs.size f cd)
  N := N
  s₀ := s
  H₀ := H
  env := envOfC qual scope s.heap.objs.size f cd
  outer := outer
  stack := envOfC qual scope s.heap.objs.size f cd :: outer
  ex := []
  calm := true
  fn := fun _ => true
  pn := []
  xe := fun e s' => wpAny (model P w) (A.deeper (envOfC qual scope s.heap.objs.size f cd)) (leaving (envOfC qual scope s.heap.objs.size f cd) e) (fun _ s'' => CX outer H s E e s'') (fun e' s'' => CX outer H s E e' s'') s'

theorem cell_has {sc : Scope} {n : Nat} {x : Str} (h : sc.names.lookup x = some .cell) : ∃ c, (cellsFrom n sc.names []).lookup x = some c := by
  have q := PySem.W.cellsFrom_some sc.names n [] (.inl h)
  exact Option.isSome_iff_exists.mp q

theorem inv_start {CX : CXT} {P : Program} {w : World} {K : PySem.W.Frag} {mg : Str → Option Value} {base : Heap} {N ps : List Str} {qual : Str} {scope : Scope} {f : Addr} {cd : Value} {A : Around} {outer : List Env} {s s1 : Shared} {H : Hp} {E : XK} {us : List Value} {vs : List V}
    (S : FnScope N ps scope) (hd : A.handled = none) (e0 : Env0 P w K mg base A outer s H) (hl : vs.length = ps.length) (r : Vals vs us)
    (x : InCallC s s.heap.objs.size (bindL (envOfC qual scope s.heap.objs.size f cd).kindOf (ps.zip us) fun _ => none) (cellsFrom (s.heap.objs.size + 1) scope.names []) (bindC (envOfC qual scope s.heap.objs.size f cd).kindOf (ps.zip us) fun _ => none) s1) :
    Inv (cxOf CX P w K mg base N qual scope f cd A outer s H E) [] (start N vs) H s1 := by
  have hpl : ps.length ≤ N.length := by have := congrArg List.length S.pre; rw [List.length_take] at this; omega
  obtain ⟨h1, tk, rfl, hk⟩ := x.done
  have noA : ∀ b : Addr, b ∉ (cxOf CX P w K mg base N qual scope f cd A outer s H E).ex := fun b z => absurd (show b ∈ ([] : List Addr) from z) (by simp)
  refine ⟨⟨e0.mod, S.kind, rfl, rfl, Nat.le_refl _, fun y z c h1 h2 => ?_, fun y hy => ?_, fun y c _ h => ?_, fun _ => hd, Around.frames_deeper e0.frames, .inr ⟨rfl, rfl⟩, fun b z => absurd z (noA b), e0.bs, e0.bsz, fun b _ _ => noA b, fun b z => absurd z (noA b), e0.funs, e0.frf⟩,
    rfl, e0.bare, Un.kept hk, ⟨_, x.toInCall.ns, fun i y v h1 h2 h3 => ?_⟩, fun y c h => ⟨_, x.cell y c h⟩, e0.hok.fresh (Nat.le_refl _), fun y c h => ?_, fun p hp => absurd (show p ∈ ([] : List (Addr × Obj)) from hp) (by simp), e0.hok.kept hk, ?_⟩
  · exact name_of_addr x.apart (PySem.mem_of_lookup h1) (PySem.mem_of_lookup h2)
  · have hy : scope.names.lookup y = some .cell ∨ scope.names.lookup y = some .free := hy
    rcases hy with hy | hy
    · exact cell_has hy
    · exact absurd rfl (S.nofree _ (PySem.mem_of_lookup hy))
  · exact Nat.le_of_lt (x.above y c (PySem.mem_of_lookup h))
  · have hi : i < vs.length := by
      unfold start at h2
      by_cases hi : i < vs.length
      · exact hi
      · rw [List.getElem?_append_right (by simpa using hi)] at h2
        rw [List.getElem?_replicate] at h2
        split at h2 <;> cases h2
    have ha : vs[i]? = some v := by
      unfold start at h2
      rw [List.getElem?_append_left (by simpa using hi), List.getElem?_map] at h2
      cases e : vs[i]? with
      | none => rw [e] at h2; cases h2
      | some a => rw [e] at h2; cases h2; rfl
    obtain ⟨u, hu, rv⟩ := r.get ha
    have hp : ps[i]? = some y := by
      rw [← S.pre, List.getElem?_take_of_lt (by omega)]; exact h1
    have ndP : ps.Nodup := by rw [← S.pre]; exact S.nd.sublist (List.take_sublist _ _)
    refine ⟨u, rv, ?_⟩
    rcases S.par y (List.mem_of_getElem? hp) with k | k
    · exact .inl ⟨k, bindL_get ndP hp hu k⟩
    · obtain ⟨c, e⟩ := cell_has (n := s.heap.objs.size + 1) k
      refine .inr ⟨.inl k, c, e, ?_⟩
      have q := x.cell y c e
      rw [bindC_get ndP hp hu (by show scope.names.lookup y ≠ _; rw [k]; decide)] at q
      exact q
  · exact e0.hok.fresh (Nat.le_of_lt (x.above y c (PySem.mem_of_lookup h)))
  · unfold start
    show _ = N.length
    rw [List.length_append, List.length_map, List.length_replicate]
    omega

/-- THE RULE: a def (or a method) of the text, by its body. The body's reading t is chosen for each entry; it is run at the parameters' values -/
theorem fn_of {CX : CXT} {P : Program} {w : World} {K : PySem.W.Frag} {mg : Str → Option Value} {base : Heap} {k : Nat} {f : Addr} {name qual : Str} {params : Arguments} {body : List Stmt} {scope : Scope} {dV kV doc pm cdv ct oc : Value} {an od : Option Addr}
    {osl : Array (Option Value)} {N ps : List Str} {sp : Sp} (lk : K.lookup f = some ⟨oc, od, .func (PySem.W.fnOf name qual params body scope dV kV doc pm an cdv ct), osl⟩) (hcd : PySem.W.codeIn K cdv qual = true) (S : FnScope N ps scope)
    (len : ∀ vs H Q E, sp vs H Q E → vs.length = ps.length)
    (hbody : ∀ (A : Around) (outer : List Env) (s : Shared) (H : Hp) (vs : List V) (Q : VK) (E : XK), Room k (A.deeper (envOfC qual scope s.heap.objs.size f cdv)) → sp vs H Q E →
      ∃ t, PSs (cxOf CX P w K mg base N qual scope f cdv A outer s H E) body t ∧ t { nx := fun _ H' => Q .non H', rt := Q } (start N vs) H) :
    FnOk P w K mg base CX (k + 1) f (PySem.W.fnOf name qual params body scope dV kV doc pm an cdv ct) ps sp := by
  refine ⟨len, fun A outer s H args us vs Q E hr e0 hb r hsp => ?_⟩
  have hl := len _ _ _ _ hsp
  have KX : K.In s.heap := e0.mod.kin.keeps fun b o e => (e0.bs b o e).1
  have lim : s.heap.NoLimit := e0.mod.nolimit.keeps fun b o e => (e0.bs b o e).1
  have hkind : ∀ y ∈ ps.zip us, scope.names.lookup y.1 = some .local ∨ (scope.names.lookup y.1 = some .cell ∧ ((cellsFrom (s.heap.objs.size + 1) scope.names []).lookup y.1).isSome = true) := fun ⟨n, v⟩ hy => by
    rcases S.par n (List.of_mem_zip hy).1 with q | q
    · exact .inl q
    · exact .inr ⟨q, PySem.W.cellsFrom_some _ _ _ (.inl q)⟩
  refine codeAny_call_function hr.depth (KX _ _ lk) rfl S.co S.gen rfl (PySem.W.codeRec_of KX hcd) (hb _ _ _ _ ?_)
  refine wpAny_newFunctionEnv_cells S.kind hkind fun env he s1 x => ?_
  subst he
  refine ⟨lim.keeps x.toInCall.keep, codeAny_func ?_⟩
  obtain ⟨t, ht, hq⟩ := hbody A outer s H vs Q E (hr.deeper _) hsp
  have I : Inv (cxOf CX P w K mg base N qual scope f cdv A outer s H E) [] (start N vs) H s1 := inv_start S hr.hd e0 hl r x
  refine wpAny_mono (ht [] s1 (start N vs) H _ I hq) (fun fl s' hs => ?_) fun e s' hs => hs
  have fin : ∀ {σ' : St} {H' : Hp} {v : V} {u : Value}, Inv (cxOf CX P w K mg base N qual scope f cdv A outer s H E) [] σ' H' s' → RelV v u → Q v H' → CE outer P w H s Q u s' :=
    fun {σ' H' v u} J rv q => ⟨v, H', J.os, J.bare, J.base, J.hok, rv, q⟩
  cases fl with
  | ret u =>
    obtain ⟨v, σ', H', J, rv, q⟩ := hs
    exact fin J rv q
  | next =>
    obtain ⟨σ', H', J, q⟩ := hs
    exact fin (v := V.non) (u := Value.none) J rfl q
  | brk =>
    obtain ⟨_, _, _, q⟩ := hs
    exact False.elim q
  | cont =>
    obtain ⟨_, _, _, q⟩ := hs
    exact False.elim q
end L2

namespace L2
open PySem PySem.Spec PyProof.Rows
section
variable {X : Cx} {x : Str} {p pos : Pos} {e : Expr} {es : List Expr} {t : TA} {id T : String} {r : List V → Hp → VK → Prop}

def tCB (r : List V → Hp → VK → Prop) (t : TA) : TE := fun σ H Q => t σ H fun vs H1 => r vs H1 Q
/-- f(e, ..), f a built-in function -/
theorem pe_callB (hc : CallR X (.builtin id) r) (hg : Gl X x) (hm : X.mg x = none) (hv : bootBuiltins x = some (.builtin id)) (ha : PA X (e :: es) t) (hn : x ≠ "__name__" := by decide) (hdb : (x == ("__debug__" : Str)) = false := by decide)
    (he : starEach (e :: es) X.env = (false, eval e X.env) :: starEach es X.env := by rfl) (hpl : (backTo pos (starEach es X.env)).any (·.1) = false := by rfl) : PE X (.Call (.Name x p) (e :: es) [] pos) (tCB r t) := by
  intro pins s σ H Q I h
  refine wpAny_Call_Name_kw (ld_blt I hg hm hv ?_ hn hdb)
  exact PyProof.Rows.callWith_builtin1 (thn (ha pos pins s σ H _ I h) fun us s1 ⟨vs, H1, I1, r1, q1⟩ => hc pins s1 σ H1 vs us Q I1 r1 q1) he hpl
/-- T(e, ..), T a built-in type -/
theorem pe_callTy (hc : CallR X (.type T) r) (hg : Gl X x) (hm : X.mg x = none) (hv : bootBuiltins x = some (.type T)) (ha : PA X (e :: es) t) (hn : x ≠ "__name__" := by decide) (hdb : (x == ("__debug__" : Str)) = false := by decide)
    (he : starEach (e :: es) X.env = (false, eval e X.env) :: starEach es X.env := by rfl) (hpl : (backTo pos (starEach es X.env)).any (·.1) = false := by rfl) : PE X (.Call (.Name x p) (e :: es) [] pos) (tCB r t) := by
  intro pins s σ H Q I h
  refine wpAny_Call_Name_kw (ld_blt I hg hm hv ?_ hn hdb)
  exact PyProof.Rows.callWith_type1 (thn (ha pos pins s σ H _ I h) fun us s1 ⟨vs, H1, I1, r1, q1⟩ => hc pins s1 σ H1 vs us Q I1 r1 q1) he hpl
end
end L2

namespace HT
open PySem PyProof.Rows

section
open PySem.SeqAt
open PySem.AutoSeq1 (wpAny_loadPart')
open PySem.MeetsSeq PySem.MeetsSeq2 PySem.MeetsSeq3

end

section
variable {prog : Program} {w : World} {A : Around} {E : Value → Shared → Prop} {s : Shared}

/-- t + u, t not empty -/
theorem cat_tup {t b : Addr} {vs ws : List Value} {Q : Value → Shared → Prop} (ht : IsTup s.heap t vs.toArray) (hb : IsTup s.heap b ws.toArray) (hv : vs ≠ [])
    (h1 : ws = [] → Q (.ref t) s) (h2 : ws ≠ [] → Q (.ref s.heap.objs.size) { s with heap := s.heap.push { cls := .type "tuple", data := .seq (vs ++ ws).toArray } })
    (hsz : vs.length + ws.length ≤ sizeLine) : wpAny (model prog w) A (binaryOp .Add (.ref t) (.ref b)) Q E s := by
  obtain ⟨⟨cls, dd, data, sl⟩, ho, hc, n, hd⟩ := id ht
  obtain ⟨⟨cls2, dd2, data2, sl2⟩, ho2, hc2, n2, hd2⟩ := id hb
  simp only at hc hd hc2 hd2
  subst hc hd hc2 hd2
  have e : vs.toArray ++ ws.toArray = (vs ++ ws).toArray := by simp
  by_cases hw : ws = []
  · exact concat_meets ⟨_, ho, rfl⟩ ⟨_, ho2, rfl⟩ noFill_tuple_add seq_tuple_add PySem.F.slot_tuple_add PySem.F.entry_tuple_add (PySem.F.args_tuple_add_2 _ _)
      (tuple_addW1 t b vs.toArray ws.toArray n n2 dd dd2 sl sl2 (by simpa using hv) (by simp [hw])) ⟨ho, ho2, h1 hw⟩
  · refine concat_meets ⟨_, ho, rfl⟩ ⟨_, ho2, rfl⟩ noFill_tuple_add seq_tuple_add PySem.F.slot_tuple_add PySem.F.entry_tuple_add (PySem.F.args_tuple_add_2 _ _)
      (tuple_addW2 t b vs.toArray ws.toArray n n2 dd dd2 sl sl2 (by simpa using hv) (by simpa using hw) (by rw [List.size_toArray, List.size_toArray]; exact hsz)) ⟨ho, ho2, ?_⟩
    rw [e]
    exact h2 hw

/-! ### t[a:b], not the whole -/
/-- a slice's bound as a place among n (d where it is left out) -/
def sIx (n d : Nat) : Option Int → Nat
  | none => d
  | some v => if v < 0 then (v + (n : Int)).toNat else min v.toNat n
end
end HT

namespace L2
open PySem PySem.Spec PyProof.Rows

/-! ### the parts of a slice -/
abbrev TO := St → Hp → (Option Int → Hp → Prop) → Prop
section
variable {X : Cx} {e : Expr} {te : TE} {lo hi : Option Expr} {tl th : TO} {pos p2 : Pos}

/-- what a slice of a value is, by values: the slice object stands at sl -/
def SlR (X : Cx) (r : V → Option Int → Option Int → Hp → VK → Prop) : Prop :=
  ∀ (pins : List (Addr × Obj)) (s : Shared) (σ : St) (H : Hp) (x : V) (v vl vu : Value) (lo hi : Option Int) (sl : Addr) (Q : VK), Inv X pins σ H s → RelV x v → s.heap.IsSliceOf sl vl vu .none → IsPart vl lo → IsPart vu hi → r x lo hi H Q →
    ∃ T id, typeLookup (.type T) "__getitem__" = pure (some (.builtin id)) ∧ s.TypeIs v T ∧ wpAny (model X.prog X.w) X.A (getItem v (.ref sl)) (EP X pins σ Q) X.xe s
theorem SlR.or {r r' : V → Option Int → Option Int → Hp → VK → Prop} (h : SlR X r) (h' : SlR X r') : SlR X (fun x lo hi H Q => r x lo hi H Q ∨ r' x lo hi H Q) := by
  intro pins s σ H x v vl vu lo hi sl Q I rx hs pl pu q
  rcases q with q | q
  · exact h pins s σ H x v vl vu lo hi sl Q I rx hs pl pu q
  · exact h' pins s σ H x v vl vu lo hi sl Q I rx hs pl pu q
/-- the items of xs[lo:hi] -/
def cutV (xs : List V) (lo hi : Option Int) : List V := (xs.drop (HT.sIx xs.length 0 lo)).take (HT.sIx xs.length xs.length hi - HT.sIx xs.length 0 lo)
/-! ### t < u, t + u -/
theorem Vals.nil_iff {xs : List V} {us : List Value} (r : Vals xs us) : us = [] ↔ xs = [] := by
  cases r with
  | nil => simp
  | cons _ _ => simp
end
end L2

namespace L2
open PySem PySem.Spec PyProof.Rows

/-! ### places -/
/-- the place that an index of any sign means -/
def ixN (n : Nat) (i : Int) : Option Nat := if 0 ≤ i then (if i < n then some i.toNat else none) else if -(n : Int) ≤ i then some (i + n).toNat else none
def atI {α : Type} (xs : List α) (i : Int) : Option α := (ixN xs.length i).bind fun j => xs[j]?
theorem ixN_seq {n : Nat} {i : Int} {j : Nat} (h : ixN n i = some j) : seqIndex? i n = some j ∧ j < n ∧ -(n : Int) ≤ i ∧ i < n := by
  unfold ixN at h
  by_cases h0 : 0 ≤ i
  · rw [if_pos h0] at h
    by_cases h1 : i < n
    · rw [if_pos h1] at h
      have e : i.toNat = j := Option.some.inj h
      exact ⟨by rw [seqIndex_of h0 h1, e], by omega, by omega, h1⟩
    · rw [if_neg h1] at h; cases h
  · rw [if_neg h0] at h
    by_cases h1 : -(n : Int) ≤ i
    · rw [if_pos h1] at h
      have e : (i + n).toNat = j := Option.some.inj h
      exact ⟨by rw [seqIndex_neg (by omega) h1, e], by omega, h1, by omega⟩
    · rw [if_neg h1] at h; cases h
theorem atI_get {α : Type} {xs : List α} {i : Int} {v : α} (h : atI xs i = some v) : ∃ j, seqIndex? i xs.length = some j ∧ xs[j]? = some v ∧ j < xs.length ∧ -(xs.length : Int) ≤ i ∧ i < xs.length := by
  unfold atI at h
  cases e : ixN xs.length i with
  | none => rw [e] at h; cases h
  | some j =>
    rw [e] at h
    obtain ⟨h1, h2, h3, h4⟩ := ixN_seq e
    exact ⟨j, h1, h, h2, h3, h4⟩
theorem atI_nat {α : Type} {xs : List α} {j : Nat} {v : α} (h : xs[j]? = some v) : atI xs (j : Int) = some v := by
  have hj : j < xs.length := (List.getElem?_eq_some_iff.mp h).1
  have e : ixN xs.length (j : Int) = some j := by
    unfold ixN
    rw [if_pos (by omega), if_pos (by omega)]; simp
  unfold atI; rw [e]; exact h
/-! ### what may be subscripted -/
/-- what stands as an index of a plain subscript -/
def PlainIx (b : Expr) : Prop := ∀ o i, subscripted b false o i = operate [o, i] (getItem o i)
/-- a subscript by values -/
def IxR (X : Cx) (r : R2) : Prop :=
  ∀ (value slice : Expr) (pins : List (Addr × Obj)) (s : Shared) (σ : St) (H : Hp) (x y : V) (v u : Value) (Q : VK), Inv X pins σ H s → RelV x v → RelV y u → r x y H Q →
    subscripted slice false v u = operate [v, u] (getItem v u) → wpAny (model X.prog X.w) X.A (subscriptTail value slice v u) (EP X pins σ Q) X.xe s
/-- a call of a builtin's method by values: the receiver, the arguments -/
def MtR (X : Cx) (id : String) (r : V → List V → Hp → VK → Prop) : Prop :=
  ∀ (pins : List (Addr × Obj)) (s : Shared) (σ : St) (H : Hp) (x : V) (xs : List V) (v : Value) (us : List Value) (Q : VK), Inv X pins σ H s → RelV x v → Vals xs us → r x xs H Q →
    wpAny (model X.prog X.w) X.A (call (.builtin id) (v :: us)) (EP X pins σ Q) X.xe s
section
variable {X : Cx} {a b : Expr} {ta tb : TE} {pos : Pos}
theorem IxR.or {r r' : R2} (h : IxR X r) (h' : IxR X r') : IxR X (fun x y H Q => r x y H Q ∨ r' x y H Q) := by
  intro value slice pins s σ H x y v u Q I rx ry q hs
  rcases q with q | q
  · exact h value slice pins s σ H x y v u Q I rx ry q hs
  · exact h' value slice pins s σ H x y v u Q I rx ry q hs
theorem MtR.or {id : String} {r r' : V → List V → Hp → VK → Prop} (h : MtR X id r) (h' : MtR X id r') : MtR X id (fun x xs H Q => r x xs H Q ∨ r' x xs H Q) := by
  intro pins s σ H x xs v us Q I rx rs q
  rcases q with q | q
  · exact h pins s σ H x xs v us Q I rx rs q
  · exact h' pins s σ H x xs v us Q I rx rs q
/-- a[b] -/
theorem pe_ix {r : R2} (hr : IxR X r) (ha : PE X a ta) (hb : PE X b tb) (hs : PlainIx b) : PE X (.Subscript a b pos) (tOp r ta tb) := by
  intro pins s σ H Q I h
  exact Subscript_ (binT ha hb I h fun v u s2 x y H2 I2 rx ry q => hr a b pins s2 σ H2 x y v u Q I2 rx ry q (hs _ _))

def rIxL (K : PySem.W.Frag) : R2 := fun x y H Q => ∃ p xs i v, x = .ref p ∧ y = .int i ∧ SqL K H p xs ∧ atI xs i = some v ∧ Q v H
def rIxT (K : PySem.W.Frag) : R2 := fun x y H Q => ∃ p xs i v, x = .ref p ∧ y = .int i ∧ SqT K H p xs ∧ atI xs i = some v ∧ Q v H
def rIxS : R2 := fun x y H Q => ∃ z i c, x = .str z ∧ y = .int i ∧ z.length ≤ sizeLine ∧ atI z.cps.toList i = some c ∧ Q (.str ⟨#[c]⟩) H
theorem ix_list : IxR X (rIxL X.K) := by
  intro value slice pins s σ H x y v u Q I rx ry h hs
  obtain ⟨p, xs, i, z, rfl, rfl, hq, he, q⟩ := h
  cases rx
  obtain ⟨t, rfl⟩ := ry
  obtain ⟨its, r, pl, hz⟩ := I.list hq
  obtain ⟨j, h1, h2, h3, h4, h5⟩ := atI_get he
  obtain ⟨w, ew, rw'⟩ := r.get h2
  have hl := r.length
  have hn := line63
  have fin : EP X pins σ Q w s := ⟨z, H, I, rw', q⟩
  by_cases h0 : 0 ≤ i
  · have hj : i.toNat = j := by
      rw [seqIndex_of h0 h5] at h1
      exact Option.some.inj h1
    exact item_listR pl.isList h0 (by omega) (by rw [hj]; simpa using ew) fin hs
  · have hj : (i + (its.toArray.size : Int)).toNat = j := by
      rw [seqIndex_neg (by omega) h4] at h1
      rw [List.size_toArray, ← hl]
      exact Option.some.inj h1
    exact subscriptTail_builtinR (x := w) pl.isList.typeIs slot_list_getitem.lookup
      (wpAny_getItem_list_neg (Q := fun r s' => r = w ∧ EP X pins σ Q r s') pl.isList (by omega) (by rw [List.size_toArray] <;> omega) (by omega) (by rw [hj]; simpa using ew) ⟨rfl, fin⟩) hs
theorem ix_tup : IxR X (rIxT X.K) := by
  intro value slice pins s σ H x y v u Q I rx ry h hs
  obtain ⟨p, xs, i, z, rfl, rfl, hq, he, q⟩ := h
  cases rx
  obtain ⟨t, rfl⟩ := ry
  obtain ⟨its, r, pl, hz⟩ := I.tuple hq
  obtain ⟨j, h1, h2, h3, h4, h5⟩ := atI_get he
  obtain ⟨w, ew, rw'⟩ := r.get h2
  have hl := r.length
  have hn := line63
  have fin : EP X pins σ Q w s := ⟨z, H, I, rw', q⟩
  exact subscriptTail_builtinR (x := w) pl.typeIs slot_tuple_getitem.lookup
    (getItem_tuple (j := j) (Q := fun r s' => r = w ∧ EP X pins σ Q r s') pl (by omega) (by omega) (by rw [List.size_toArray, ← hl]; exact h1) (by simpa using ew) ⟨rfl, fin⟩) hs
theorem ix_str : IxR X rIxS := by
  intro value slice pins s σ H x y v u Q I rx ry h hs
  obtain ⟨z, i, c, rfl, rfl, hz, he, q⟩ := h
  obtain ⟨t, rfl⟩ := rx
  obtain ⟨t', rfl⟩ := ry
  obtain ⟨j, h1, h2, h3, h4, h5⟩ := atI_get he
  have hl : z.cps.toList.length = z.length := by simp [Str.length]
  rw [hl] at h1 h4 h5
  have hn := line63
  exact tail_any (typeIs_str s z t) slot_str_getitem.lookup (getItem_str (c := c) (by
    have e1 : decide (i < -(2 ^ 63 : Int)) = false := decide_eq_false (by omega)
    have e2 : decide (i ≥ 2 ^ 63) = false := decide_eq_false (by omega)
    rw [e1, e2, Bool.or_false]) (by rw [h1]; simpa using h2) ⟨.str ⟨#[c]⟩, H, I.tok _, ⟨_, rfl⟩, q⟩) hs
/-- list, tuple or str -/
def rIx (K : PySem.W.Frag) : R2 := fun x y H Q => rIxL K x y H Q ∨ rIxT K x y H Q ∨ rIxS x y H Q
theorem ix_seq : IxR X (rIx X.K) := ix_list.or (ix_tup.or ix_str)

/-! ### xs[i] = v, any sign -/
theorem Inv.lst {pins : List (Addr × Obj)} {σ : St} {H : Hp} {s : Shared} {p : Addr} {xs : List V} (I : Inv X pins σ H s) (h : H p = some (.lst xs)) :
    ∃ (its : List Value) (n : Nat), Vals xs its ∧ s.heap.get? p = some { cls := .type "list", data := .seq its.toArray n } ∧ xs.length ≤ sizeLine := by
  obtain ⟨z, its, n, r, e⟩ := I.hok p _ h
  exact ⟨its, n, r, e, z⟩
/-! ### slices -/
/-! ### in, not in: flat items -/
/-! ### len, list(x), tuple(x) of any list or tuple that is read -/
theorem CallR.or {f : Value} {r r' : List V → Hp → VK → Prop} (h : CallR X f r) (h' : CallR X f r') : CallR X f (fun xs H Q => r xs H Q ∨ r' xs H Q) := by
  intro pins s σ H xs us Q I rs q
  rcases q with q | q
  · exact h pins s σ H xs us Q I rs q
  · exact h' pins s σ H xs us Q I rs q
theorem call_list_of : CallR X (.type "list") (fun xs H Q => ∃ p ys, xs = [.ref p] ∧ (SqL X.K H p ys ∨ SqT X.K H p ys) ∧ ∀ l, H l = none → Q (.ref l) (upd H l (.lst ys))) := by
  intro pins s σ H xs us Q I r h
  obtain ⟨p, ys, rfl, hq, q⟩ := h
  obtain ⟨u, rfl, rx⟩ := vals1 r
  cases rx
  have fin : ∀ (its : List Value), Vals ys its → ys.length ≤ sizeLine → ∀ (h' : Heap) (c' : Nat), (∀ b o', s.heap.get? b = some o' → h'.get? b = some o') →
      h'.get? s.heap.objs.size = some { cls := .type "list", dict := none, data := .seq its.toArray c', slots := #[] } → EP X pins σ Q (.ref s.heap.objs.size) { s with heap := h' } := fun its r' hz h' c' kp e =>
    ⟨.ref s.heap.objs.size, _, I.laid (t' := s.toks) kp (Nat.le_refl _) (show ObjOk X.prog X.w _ h' _ (.lst ys) from ⟨hz, its, c', r', e⟩), rfl, q _ (I.hok.fresh (Nat.le_refl _))⟩
  rcases hq with hq | hq
  · obtain ⟨its, r', pl, hz⟩ := I.list hq
    have hlen := r'.length
    obtain ⟨o, ho, hc, n, hd⟩ := pl.isList
    exact call_list_seq p (.inl rfl) ho hc hd (fun h' c' kp e => fin its r' hz h' c' kp e) (by simp only [List.size_toArray] <;> omega)
  · obtain ⟨its, r', pl, hz⟩ := I.tuple hq
    have hlen := r'.length
    obtain ⟨o, ho, hc, n, hd⟩ := pl
    exact call_list_seq p (.inr rfl) ho hc hd (fun h' c' kp e => fin its r' hz h' c' kp e) (by simp only [List.size_toArray] <;> omega)
theorem call_tuple_of : CallR X (.type "tuple") (fun xs H Q => ∃ p ys, xs = [.ref p] ∧ ((SqL X.K H p ys ∧ ∀ l, H l = none → Q (.ref l) (upd H l (.tup ys))) ∨ (SqT X.K H p ys ∧ Q (.ref p) H))) := by
  intro pins s σ H xs us Q I r h
  obtain ⟨p, ys, rfl, h⟩ := h
  obtain ⟨u, rfl, rx⟩ := vals1 r
  cases rx
  rcases h with ⟨hq, q⟩ | ⟨hq, q⟩
  · obtain ⟨its, r', pl, hz⟩ := I.list hq
    have hlen := r'.length
    refine call_tuple_list pl.isList (fun h' kp => ?_) (by simp only [List.size_toArray] <;> omega)
    have I1 : Inv X pins σ H { s with heap := h' } := I.kept (t' := s.toks) kp
    have I2 : Inv X pins σ (upd H h'.objs.size (.tup ys)) { s with heap := h'.push { cls := .type "tuple", data := .seq its.toArray } } :=
      I1.laid (t' := s.toks) (fun b o e => Heap.get?_push_of_some _ e) (Nat.le_refl _) (show ObjOk X.prog X.w _ _ _ (.tup ys) from ⟨hz, its, r', PlainTp.new _ _⟩)
    exact ⟨.ref h'.objs.size, _, I2, rfl, q _ (I1.hok.fresh (Nat.le_refl _))⟩
  · obtain ⟨its, r', pl, hz⟩ := I.tuple hq
    exact call_tuple_same pl ⟨.ref p, H, I, rfl, q⟩

/-! ### the call of a builtin's method: o.m(..) -/
variable {o e : Expr} {es : List Expr} {to : TE} {t : TA} {name : Str} {apos cpos : Pos} {T id : String} {r : V → List V → Hp → VK → Prop}
/- xs.append(e), list.index on a module's tuple .. are MtR facts of 06m -/
end
end L2

namespace L2
open PySem PySem.Spec PyProof.Rows

def MtM (X : Cx) (id : String) (r : V → List V → Hp → VK → Prop) : Prop :=
  ∀ (pins : List (Addr × Obj)) (s : Shared) (σ : St) (H : Hp) (x : V) (xs : List V) (v : Value) (us : List Value) (Q : VK), Inv X pins σ H s → RelV x v → Vals xs us → r x xs H Q →
    wpAny (model X.prog X.w) X.A (call (.builtin id) (v :: us)) (EP X pins σ Q) X.xe s

/-! ### lists of values -/
theorem Vals.one : ∀ {x : V} {us : List Value}, Vals [x] us → ∃ u, us = [u] ∧ RelV x u
  | _, _, .cons r .nil => ⟨_, rfl, r⟩
theorem Vals.two : ∀ {x y : V} {us : List Value}, Vals [x, y] us → ∃ u v, us = [u, v] ∧ RelV x u ∧ RelV y v
  | _, _, _, .cons r (.cons q .nil) => ⟨_, _, rfl, r, q⟩
theorem Vals.zero : ∀ {us : List Value}, Vals [] us → us = []
  | _, .nil => rfl
theorem Vals.reverse {xs : List V} {us : List Value} (h : Vals xs us) : Vals xs.reverse us.reverse := by
  induction h with
  | nil => exact .nil
  | cons r t ih => rw [List.reverse_cons, List.reverse_cons]; exact Vals.append ih (.cons r .nil)
section
variable {X : Cx} {pins : List (Addr × Obj)} {σ : St} {H : Hp} {s : Shared} {l b : Addr} {xs ys zs : List V}

/-! ### the two steps: a tracked list is rewritten, a new list is laid -/
theorem Inv.lset {its its' : List Value} {n : Nat} {f : Array Value → Array Value} {t' : Nat} (I : Inv X pins σ H s) (hH : H l = some (.lst xs))
    (e : s.heap.get? l = some { cls := .type "list", data := .seq its.toArray n }) (hf : f its.toArray = its'.toArray) (hv : Vals ys its') (hz : ys.length ≤ sizeLine) :
    Inv X pins σ (upd H l (.lst ys)) { s with heap := s.heap.update l (Obj.mapSeq f), toks := t' } := by
  have q := PySem.IsL.update e f
  rw [hf] at q
  refine I.write (x := l) (e := l) (by rw [hH]; exact trivial) (.inl rfl) (fun b' u hb hu => (Heap.get?_update_other s.heap (Obj.mapSeq f) (Ne.symm hb)).trans hu) ⟨_, q⟩ ?_
  exact ⟨hz, its', _, hv, q⟩
theorem Inv.fresh (I : Inv X pins σ H s) : H s.heap.objs.size = none := I.hok.fresh (Nat.le_refl _)
theorem Inv.lstM (I : Inv X pins σ H s) (hH : H l = some (.lst xs)) : xs.length ≤ sizeLine ∧ ∃ (its : List Value) (n : Nat), Vals xs its ∧ xs.length = its.length ∧ s.heap.get? l = some { cls := .type "list", data := .seq its.toArray n } := by
  obtain ⟨z, its, n, r, e⟩ := I.hok l _ hH
  exact ⟨z, its, n, r, r.length, e⟩

end

section
variable {X : Cx}

/-! ### methods -/
def rAppend : V → List V → Hp → VK → Prop := fun x vs H Q => ∃ l xs y, x = .ref l ∧ vs = [y] ∧ H l = some (.lst xs) ∧ xs.length < sizeLine ∧ Q .non (upd H l (.lst (xs ++ [y])))
theorem mt_append : MtM X "list.append" rAppend := by
  intro pins s σ H x vs v us Q I rx rv h
  obtain ⟨l, xs, y, rfl, rfl, hH, hz, q⟩ := h
  cases rx
  obtain ⟨u, rfl, ru⟩ := rv.one
  obtain ⟨z, its, n, r, hl, e⟩ := I.lstM hH
  refine call_meets F.slot_list_append ⟨_, e, rfl⟩ F.entry_list_append (F.args_list_append_2 _ _) (PySem.list_append l its.toArray n u (by rw [List.size_toArray]; omega)) ⟨e, ?_⟩
  refine ⟨.non, _, I.lset (its' := its ++ [u]) hH e (by simp) (r.append (.cons ru .nil)) ?_, rfl, q⟩
  rw [List.length_append, List.length_singleton]
  omega

/-! ### list + list, list += list, list * int -/
/-! ### del xs[i] -/
end

/-! ### xs[a:b] = ys -/
section
variable {prog : Program} {w : World} {A : Around} {E : Value → Shared → Prop} {s : Shared}
end

section
variable {X : Cx}
end
end L2

namespace L2
open PySem PySem.Spec PyProof.Rows

/-! ### lists of pairs as tables -/
section
variable {κ : Type} [DecidableEq κ]
def valV (kvs : List (κ × V)) (k : κ) : Option V := (kvs.find? fun kv => decide (kv.1 = k)).map (·.2)
/-- in its place, or at the end -/
def putK (kvs : List (κ × V)) (k : κ) (v : V) : List (κ × V) :=
  if (kvs.any fun kv => decide (kv.1 = k)) = true then kvs.map (fun kv => if kv.1 = k then (kv.1, v) else kv) else kvs ++ [(k, v)]
def dropK (kvs : List (κ × V)) (k : κ) : List (κ × V) := kvs.filter fun kv => decide (kv.1 ≠ k)

theorem valV_pos {p : κ × V} {r : List (κ × V)} {k : κ} (e : p.1 = k) : valV (p :: r) k = some p.2 := by simp [valV, List.find?_cons, e]
theorem valV_neg {p : κ × V} {r : List (κ × V)} {k : κ} (e : ¬ p.1 = k) : valV (p :: r) k = valV r k := by simp [valV, List.find?_cons, e]
theorem valV_any (k : κ) : ∀ kvs : List (κ × V), (kvs.any fun kv => decide (kv.1 = k)) = (valV kvs k).isSome
  | [] => rfl
  | p :: r => by
    rw [List.any_cons]
    by_cases e : p.1 = k
    · simp only [valV_pos e, decide_eq_true e, Bool.true_or, Option.isSome_some]
    · rw [valV_neg e, decide_eq_false e, Bool.false_or]; exact valV_any k r
theorem RelO.isSome_eq {o : Option V} {u : Option Value} (r : RelO o u) : o.isSome = u.isSome := by
  cases o with
  | none => cases u with
    | none => rfl
    | some _ => exact (show False from r).elim
  | some _ => cases u with
    | none => exact (show False from r).elim
    | some _ => rfl
theorem RelO.getD {o : Option V} {u : Option Value} {d : V} {d' : Value} (r : RelO o u) (rd : RelV d d') : RelV (o.getD d) (u.getD d') := by
  cases o with
  | none => cases u with
    | none => exact rd
    | some _ => exact (show False from r).elim
  | some _ => cases u with
    | none => exact (show False from r).elim
    | some _ => exact r

/-- raw tables of the same keys -/
theorem KV.val {kvs : List (κ × V)} {vs : List (κ × Value)} (r : KV kvs vs) (k : κ) : RelO (valV kvs k) (valueAt vs k) := by
  unfold KV at r
  induction r with
  | nil => exact True.intro
  | @cons p q ps qs h t ih =>
    obtain ⟨h1, h2⟩ := h
    by_cases e : p.1 = k
    · have e' : q.1 = k := h1.symm.trans e
      have b : valueAt (q :: qs) k = some q.2 := by simp [valueAt, List.find?_cons, e']
      rw [valV_pos e, b]; exact h2
    · have e' : ¬ q.1 = k := fun z => e (h1.trans z)
      have b : valueAt (q :: qs) k = valueAt qs k := by simp [valueAt, List.find?_cons, e']
      rw [valV_neg e, b]; exact ih
theorem KV.any {kvs : List (κ × V)} {vs : List (κ × Value)} (r : KV kvs vs) (k : κ) : (kvs.any fun kv => decide (kv.1 = k)) = vs.any fun kv => decide (kv.1 = k) := by
  unfold KV at r
  induction r with
  | nil => rfl
  | cons h t ih => rw [List.any_cons, List.any_cons, ih, h.1]
theorem KV.repl {kvs : List (κ × V)} {vs : List (κ × Value)} (r : KV kvs vs) (k : κ) {y : V} {u : Value} (ry : RelV y u) :
    KV (kvs.map fun kv => if kv.1 = k then (kv.1, y) else kv) (vs.map fun kv => if kv.1 = k then (kv.1, u) else kv) := by
  unfold KV at r ⊢
  induction r with
  | nil => exact .nil
  | @cons p q ps qs h t ih =>
    rw [List.map_cons, List.map_cons]
    refine .cons ?_ ih
    obtain ⟨h1, h2⟩ := h
    by_cases e : p.1 = k
    · rw [if_pos e, if_pos (h1.symm.trans e)]; exact ⟨h1, ry⟩
    · rw [if_neg e, if_neg (fun z => e (h1.trans z))]; exact ⟨h1, h2⟩
theorem KV.put {kvs : List (κ × V)} {vs : List (κ × Value)} (r : KV kvs vs) (k : κ) {y : V} {u : Value} (ry : RelV y u) : KV (putK kvs k y) (stored vs k u) := by
  unfold putK stored
  rw [r.any k]
  by_cases e : (vs.any fun kv => decide (kv.1 = k)) = true
  · rw [if_pos e, if_pos e]; exact r.repl k ry
  · rw [if_neg e, if_neg e]; exact Paired.snoc r ⟨rfl, ry⟩
theorem KV.drop {kvs : List (κ × V)} {vs : List (κ × Value)} (r : KV kvs vs) (k : κ) : KV (dropK kvs k) (without vs k) := by
  unfold KV at r ⊢
  unfold dropK without
  induction r with
  | nil => exact .nil
  | @cons p q ps qs h t ih =>
    obtain ⟨h1, h2⟩ := h
    rw [List.filter_cons, List.filter_cons]
    by_cases e : p.1 = k
    · have a : ¬ decide (p.1 ≠ k) = true := by simp [e]
      have b : ¬ decide (q.1 ≠ k) = true := by simp [h1.symm.trans e]
      rw [if_neg a, if_neg b]; exact ih
    · have e' : ¬ q.1 = k := fun z => e (h1.trans z)
      have a : decide (p.1 ≠ k) = true := by simp [e]
      have b : decide (q.1 ≠ k) = true := by simp [e']
      rw [if_pos a, if_pos b]; exact .cons ⟨h1, h2⟩ ih
theorem KV.keys {kvs : List (κ × V)} {vs : List (κ × Value)} (r : KV kvs vs) : kvs.map (·.1) = vs.map (·.1) := by
  unfold KV at r
  induction r with
  | nil => rfl
  | cons h t ih => rw [List.map_cons, List.map_cons, ih, h.1]
theorem KV.length {kvs : List (κ × V)} {vs : List (κ × Value)} (r : KV kvs vs) : kvs.length = vs.length := Paired.length r
end


/-! ### a tracked dict, its keys ints and texts or tuples of these -/
/-- raw entries of a dict with tuple keys -/
abbrev KT (H : Hp) : List (List Key × V) → List (List Key × Addr × Value) → Prop := Paired fun p q => p.1 = q.1 ∧ H q.2.1 = some (.tup (p.1.map kV)) ∧ RelV p.2 q.2.2
theorem KT.val {H : Hp} {kvs : List (List Key × V)} {xs : List (List Key × Addr × Value)} (r : KT H kvs xs) (k : List Key) : RelO (valV kvs k) ((atKey xs k).map (·.2)) := by
  induction r with
  | nil => exact True.intro
  | @cons p q ps qs h t ih =>
    obtain ⟨h1, _, h2⟩ := h
    by_cases e : p.1 = k
    · have e' : q.1 = k := h1.symm.trans e
      have b : atKey (q :: qs) k = some q.2 := by simp [atKey, List.find?_cons, e']
      rw [valV_pos e, b]; exact h2
    · have e' : ¬ q.1 = k := fun z => e (h1.trans z)
      have b : atKey (q :: qs) k = atKey qs k := by simp [atKey, List.find?_cons, e']
      rw [valV_neg e, b]; exact ih
theorem KT.repl {H : Hp} {kvs : List (List Key × V)} {xs : List (List Key × Addr × Value)} (r : KT H kvs xs) (k : List Key) {y : V} {u : Value} (ry : RelV y u) :
    KT H (kvs.map fun kv => if kv.1 = k then (kv.1, y) else kv) (xs.map (putAt k u)) := by
  induction r with
  | nil => exact .nil
  | @cons p q ps qs h t ih =>
    rw [List.map_cons, List.map_cons]
    refine .cons ?_ ih
    obtain ⟨h1, h2, h3⟩ := h
    unfold putAt
    by_cases e : p.1 = k
    · rw [if_pos e, if_pos (h1.symm.trans e)]; exact ⟨h1, h2, ry⟩
    · rw [if_neg e, if_neg (fun z => e (h1.trans z))]; exact ⟨h1, h2, h3⟩
theorem KT.put {H : Hp} {kvs : List (List Key × V)} {xs : List (List Key × Addr × Value)} (r : KT H kvs xs) (k : List Key) {b : Addr} {y : V} {u : Value} (hb : H b = some (.tup (k.map kV))) (ry : RelV y u) :
    KT H (putK kvs k y) (storedH xs k b u) := by
  have e : (kvs.any fun kv => decide (kv.1 = k)) = (atKey xs k).isSome := by
    rw [valV_any, (r.val k).isSome_eq, Option.isSome_map]
  unfold putK storedH
  rw [e]
  by_cases q : (atKey xs k).isSome = true
  · rw [if_pos q, if_pos q]; exact r.repl k ry
  · rw [if_neg q, if_neg q]; exact Paired.snoc r ⟨rfl, hb, ry⟩
theorem KT.keeps {H H' : Hp} {kvs : List (List Key × V)} {xs : List (List Key × Addr × Value)} (r : KT H kvs xs) (ht : ∀ b ys, H b = some (.tup ys) → H' b = some (.tup ys)) : KT H' kvs xs :=
  Paired.mapP r fun _ _ z => ⟨z.1, ht _ _ z.2.1, z.2.2⟩

section
variable {P : Program} {w : World} {H : Hp} {h : Heap} {a : Addr}
theorem rd_of {u : HO} (ok : HOk P w H h) (e : Rd H a u) : ObjOk P w H h a u := e.ok ok
theorem dk_rd {kvs : List (Key × V)} (ok : HOk P w H h) (e : Rd H a (.dK kvs)) : kvs.length ≤ sizeLine ∧ (a == sysModules) = false ∧ ∃ vs, KV kvs vs ∧ h.DictOf (mixKind P w) a vs :=
  show ObjOk P w H h a (.dK kvs) from rd_of ok e
end

/-- what the dict at a holds at the key y -/
def DGet (H : Hp) (a : Addr) (y : V) (r : Option V) : Prop :=
  (∃ kvs k, Rd H a (.dK kvs) ∧ y = kV k ∧ r = valV kvs k) ∨ ∃ kvs k b, Rd H a (.dT kvs) ∧ y = .ref b ∧ H b = some (.tup (k.map kV)) ∧ r = valV kvs k
/-- the heap behind a[y] = v -/
def DPut (H : Hp) (a : Addr) (y v : V) (H' : Hp) : Prop :=
  (∃ kvs k, H a = some (.dK kvs) ∧ y = kV k ∧ kvs.length < sizeLine ∧ H' = upd H a (.dK (putK kvs k v))) ∨
  ∃ kvs k b, H a = some (.dT kvs) ∧ y = .ref b ∧ H b = some (.tup (k.map kV)) ∧ kvs.length < sizeLine ∧ H' = upd H a (.dT (putK kvs k v))
theorem DGet.k {H : Hp} {a : Addr} {kvs : List (Key × V)} {k : Key} (e : H a = some (.dK kvs)) : DGet H a (kV k) (valV kvs k) := .inl ⟨kvs, k, .inl e, rfl, rfl⟩
theorem DGet.t {H : Hp} {a b : Addr} {kvs : List (List Key × V)} {k : List Key} (e : H a = some (.dT kvs)) (eb : H b = some (.tup (k.map kV))) : DGet H a (.ref b) (valV kvs k) := .inr ⟨kvs, k, b, .inl e, rfl, eb, rfl⟩
theorem DPut.k {H : Hp} {a : Addr} {kvs : List (Key × V)} {k : Key} {v : V} (e : H a = some (.dK kvs)) (hl : kvs.length < sizeLine) : DPut H a (kV k) v (upd H a (.dK (putK kvs k v))) := .inl ⟨kvs, k, e, rfl, hl, rfl⟩
theorem DPut.t {H : Hp} {a b : Addr} {kvs : List (List Key × V)} {k : List Key} {v : V} (e : H a = some (.dT kvs)) (eb : H b = some (.tup (k.map kV))) (hl : kvs.length < sizeLine) :
    DPut H a (.ref b) v (upd H a (.dT (putK kvs k v))) := .inr ⟨kvs, k, b, e, rfl, eb, hl, rfl⟩


section
variable {X : Cx} {pins : List (Addr × Obj)} {σ : St} {H : Hp} {s : Shared} {a : Addr} {y v : V} {u r : Value} {o : Option V} {A : Around} {E : Value → Shared → Prop}

theorem Inv.big (I : Inv X pins σ H s) : sysModules < s.heap.objs.size := by
  have h : mainGlobals < s.heap.objs.size := (I.mod.glob.keeps I.bk).lt
  exact Nat.lt_trans (by decide) h

theorem dk_new {P : Program} {w : World} {H' : Hp} {h' : Heap} {kvs : List (Key × V)} {vs : List (Key × Value)} (z : kvs.length ≤ sizeLine) (hd : (a == sysModules) = false) (rel : KV kvs vs) (dd : h'.DictOf (mixKind P w) a vs) :
    ObjOk P w H' h' a (.dK kvs) := ⟨z, hd, vs, rel, dd⟩
end

section
variable {X : Cx} {pins : List (Addr × Obj)} {σ : St} {H : Hp} {s : Shared} {a : Addr} {kvs : List (Key × V)} {k : Key} {u : Value} {A : Around} {E : Value → Shared → Prop}
end


/-! ### readings and rules -/
section
variable {X : Cx} {o i e value : Expr} {pos pos' tpos : Pos} {td ty tv : TE}
end


/-! ### displays -/
section
variable {X : Cx} {pos : Pos}
end

/-! ### methods -/
/-- a method call o.m(e) of a built-in, with one argument: what must be seen of the text -/
structure M1 (X : Cx) (o : Expr) (m : Str) (apos : Pos) (e : Expr) (cpos : Pos) : Prop where
  base : attributeBase o m X.env (eval o X.env) = eval o X.env
  few : ((backTo cpos (starEach [e] X.env)).all (fun x => !x.1) && (backToKw cpos (keywordEach [] X.env)).all (fun x => x.1.isSome)
    && decide (([e] : List Expr).length + ([] : List Keyword).length + (if ([] : List Keyword).isEmpty then 0 else 1) < 30)) = true
  line : (apos.endLine == cpos.line) = true
  trees : backTo cpos (starEach [e] X.env) = [(false, eval e X.env)]
structure M2 (X : Cx) (o : Expr) (m : Str) (apos : Pos) (e f : Expr) (cpos : Pos) : Prop where
  base : attributeBase o m X.env (eval o X.env) = eval o X.env
  few : ((backTo cpos (starEach [e, f] X.env)).all (fun x => !x.1) && (backToKw cpos (keywordEach [] X.env)).all (fun x => x.1.isSome)
    && decide (([e, f] : List Expr).length + ([] : List Keyword).length + (if ([] : List Keyword).isEmpty then 0 else 1) < 30)) = true
  line : (apos.endLine == cpos.line) = true
  trees : backTo cpos (starEach [e, f] X.env) = [(false, eval e X.env), (false, eval f X.env)]

section
variable {X : Cx} {pins : List (Addr × Obj)} {σ : St} {H : Hp} {s : Shared} {a : Addr} {y d : V} {u r : Value} {o : Option V} {A : Around} {E : Value → Shared → Prop}
end

section
variable {X : Cx} {o e f : Expr} {apos cpos : Pos} {td ty tx : TE}
end

/-! ### dict(d): a copy -/
section
variable {X : Cx} {pins : List (Addr × Obj)} {σ : St} {H : Hp} {s : Shared} {a : Addr} {kvs : List (Key × V)} {A : Around} {E : Value → Shared → Prop}
theorem d_copyOf {Q : Value → Shared → Prop} (I : Inv X pins σ H s) (e : Rd H a (.dK kvs)) (h : ∀ p s', H p = none → Inv X pins σ (upd H p (.dK kvs)) s' → Q (.ref p) s') : wpAny (model X.prog X.w) A (call (.type "dict") [.ref a]) Q E s := by
  obtain ⟨z, hd, vs, rel, dd⟩ := dk_rd I.hok e
  refine kt_call_dict hd dd (by rw [← rel.length]; exact z) fun h' dd' hs => ?_
  refine h _ _ (I.hok.fresh (Nat.le_refl _)) (I.laid (a := s.heap.objs.size) (o := .dK kvs) (t' := s.toks) (fun b q hq => ?_) (Nat.le_refl _) (dk_new z (beq_eq_false_iff_ne.mpr (Ne.symm (Nat.ne_of_lt I.big))) rel dd'))
  exact (hs.2 b (Nat.ne_of_lt (Heap.lt_size hq))).trans (Heap.get?_push_of_some _ hq)
end


section
variable {X : Cx} {pins : List (Addr × Obj)} {σ : St} {H : Hp} {s : Shared} {a : Addr} {y : V} {u : Value} {A : Around} {E : Value → Shared → Prop}
end
end L2

namespace Att
open PySem PySem.W PySem.Calls PyProof.Rows

/-! ### the script -/
theorem ints_of_wellAll {P : Params} {h : Heap} : ∀ (ns : List Int) (vs : List Value), WellAll P h vs (ns.map WData.int) → IntsAre vs ns := by
  intro ns
  induction ns with
  | nil =>
    intro vs w
    rw [List.map_nil] at w
    cases w
    exact .nil
  | cons n ns ih =>
    intro vs w
    rw [List.map_cons] at w
    cases w with
    | cons a b =>
      cases a
      exact .cons _ _ (ih _ b)

theorem script_of {l : OpenLaw} {n : Nat} (hn : l.most = some n) {P : Params} {h : Heap} {args : List WData} {vals : List Value}
    (hpre : l.row.toRowW.claim.pre args = true) (hwl : WellAll P h vals args) :
    ∃ a vs ns, vals = [Value.ref a] ∧ args = [WData.list (ns.map WData.int)] ∧ h.get? a = some { cls := .type "list", data := .seq vs.toArray } ∧ IntsAre vs ns ∧ ns.length ≤ n := by
  have hsh : WShape.hasAll [] args [.list .int] = true := (pre_splitW hpre).1
  have hc : l.pre.holds [] { args := args } = true := (pre_splitW hpre).2
  obtain ⟨d, r, rfl, h1, h2⟩ := hasAllW_cons hsh
  obtain rfl := hasAllW_nil h2
  obtain ⟨xs, rfl, h3⟩ := hasW_list h1
  obtain ⟨ns, rfl⟩ := items_int h3
  have hlen : ns.length ≤ n := by
    unfold OpenLaw.pre at hc
    have h4 : (WTm.not (.lt (.lit (.int (n : Int))) (.len (.arg 0)))).holds [] { args := [.list (ns.map .int)] } = true := by
      have h4 := (holds_andW hc).1
      rw [hn] at h4
      exact h4
    have h5 := condW_of h4 (w_not (w_lt w_lit (w_len_list (w_arg rfl))))
    rw [List.length_map] at h5
    refine Nat.le_of_not_lt fun q => ?_
    have q' : (n : Int) < ((ns.length : Nat) : Int) := by omega
    first
      | (rw [decide_eq_true q'] at h5; exact absurd h5 (by decide))
      | (simp at h5; omega)
  cases hwl with
  | cons w1 w2 =>
    cases w2
    cases w1 with
    | list ho hall => exact ⟨_, _, ns, rfl, rfl, ho, ints_of_wellAll ns _ hall, hlen⟩

theorem post_true (l : OpenLaw) (args : List WData) : l.row.toRowW.claim.post args (.bool true) args = true :=
  postW_of (r := l.row.toRowW) (X := (true == true))
    (show WShape.has [] (.bool true) .bool = true by first | rfl | decide | simp [WShape.has, WShape.arms, WShape.armsAll])
    (show (WTm.eq .res (.lit (.bool true))).value [] { args := args, res := some (.bool true), after := args } = some (.bool (true == true)) from w_eq_bool (w_res rfl) w_lit) rfl

/-! ### the attachment: holds_open's last premise (the goal 'hc' behind k_head) from a wpAny of the law's body -/
/-- the same from a codeAny of the CALL (for a layer whose function contracts speak of calls) -/
theorem attach_call {l : OpenLaw} {n : Nat} {q : Program} {loose : List Str} {XP : (Str → Option Value) → Heap → Prop} {YP : World → Heap → Prop} {d : DefRec}
    (hn : l.most = some n) (hdf : d.params.defaults = [])
    (call : ∀ (w : World) (s₀ s₁ : Shared) (mg mb : Str → Option Value) (fa : Addr) (o : Obj) (pm cd doc : Value) (a : Addr) (vs : List Value) (ns : List Int),
      Ground q loose [] XP w s₀ mg mb s₁.heap → YP w s₁.heap →
      s₁.heap.get? fa = some o → o.data = .func (docDef d.name d.params d.body d.scope pm cd doc) → s₁.heap.CodeRec cd d.name → mg d.name = some (.ref fa) →
      s₁.heap.get? a = some { cls := .type "list", data := .seq vs.toArray } → IntsAre vs ns → ns.length ≤ n → s₁.gens = #[] →
      codeAny (model l.prog w) callerA (.call (.ref fa) ⟨[.ref a], []⟩) (fun r s' => r = .ok (.ret (.bool true)) ∧ OldK s₁.heap s'.heap ∧ s'.os = s₁.os ∧ AllBare s'.gens) s₁) :
    WalkO q loose XP YP l.row.toRowW d [] (fun f vs => PySem.call f vs) := by
  intro w s₀ s₁ mg mb G Y fa o pm cd doc dV kV ho hd hcd hD hmg hg args vals as hpre hlay hrd hwl hlo
  obtain rfl : dV = .none := Dflts.none hD hdf
  obtain rfl : kV = .none := Dflts.noKw hD
  obtain ⟨a, vs, ns, rfl, rfl, hobj, hints, hlen⟩ := script_of hn hpre hwl
  refine enter_call (codeAny_mono (call w s₀ s₁ mg mb fa o pm cd doc a vs ns G Y ho (fd_plain hd) hcd hmg hobj hints hlen hg) fun r s' hq => ?_)
  obtain ⟨rfl, h2, h3, h4⟩ := hq
  exact ⟨.inl ⟨.bool true, .bool true, [], rfl, fun _ => rfl, .bool true, post_true l _, fun _ => ⟨List.Pairwise.nil, fun _ hm => (nomatch hm)⟩⟩, h2, h3, h4⟩

/-! ### rules over ANY heap (no ledger) from facts about the written part K: the library's own take a ledger (News) for what they write -/
section
variable {prog : Program} {w : World} {A : Around} {E : Value → Shared → Prop} {s : Shared} {K : Frag}

/-! the whole heap as the ledger: makes every rule that writes through a ledger a rule over any heap -/
def ledger (h : Heap) (L d : Addr) : List (Addr × Obj) := (List.range h.objs.size).filterMap fun a => if a = L ∨ a = d then none else (h.get? a).map fun o => (a, o)
end
end Att

namespace L2
open PySem PySem.Spec PyProof.Rows

theorem vals_ints : ∀ {vs : List Value} {ns : List Int}, IntsAre vs ns → Vals (ns.map V.int) vs
  | _, _, .nil => .nil
  | _, _, .cons n t h => .cons ⟨t, rfl⟩ (vals_ints h)

/-- nothing is tracked but the script, known to the object (or it is an object of the module) -/
def Only (H : Hp) : Prop := ∀ b, H b = none ∨ ∃ o xs, H b = some (.frz o (.lst xs))

/-- THE HEAD: the law's promise, at the heap behind the top. F, the promise of the law's def, may use that base is part of the heap (so K.In base, base.Ns mainGlobals mg stand in Mod) -/
theorem law_call {P : Program} {w : World} {K : PySem.W.Frag} {mg mb : Str → Option Value} {CX : CXT} {k : Nat} {fa a : Addr} {fd : FuncData} {x : Str} {sp : Sp} {s₁ : Shared} {vs : List Value} {ns : List Int}
    (KX : K.In s₁.heap) (hns : s₁.heap.Ns mainGlobals mg) (hb : s₁.heap.Ns builtinsNs mb) (hbb : ∀ x : Str, x ≠ "__name__" → mb x = bootBuiltins x) (hlim : s₁.heap.NoLimit) (hg : s₁.gens = #[])
    (ha : s₁.heap.get? a = some { cls := .type "list", data := .seq vs.toArray }) (hi : IntsAre vs ns) (hl : ns.length ≤ sizeLine) (hr : Room k callerA)
    (F : ∀ base : Heap, K.In base → base.Ns mainGlobals mg → FnOk P w K mg base CX k fa fd [x] sp) (hbind : ∀ (s : Shared) (u : Value), BindsTo s fd ⟨[u], []⟩ [(x, u)])
    (hsp : ∀ H : Hp, Only H → SqL K H a (ns.map V.int) → sp [.ref a] H (fun v _ => v = .bl true) fun _ _ _ => False)
    (hCX : ∀ H e s', CX [] H s₁ (fun _ _ _ => False) e s' → False) :
    codeAny (model P w) callerA (.call (.ref fa) ⟨[.ref a], []⟩) (fun r s' => r = .ok (.ret (.bool true)) ∧ OldK s₁.heap s'.heap ∧ s'.os = s₁.os ∧ AllBare s'.gens) s₁ := by
  have rv := vals_ints hi
  have lenV := hi.length
  -- from an abstract heap in which nothing but the script may be tracked
  have core : ∀ H : Hp, Only H → SqL K H a (ns.map V.int) → HOk P w H s₁.heap → (∀ b, H b ≠ none → b = a) → (H a ≠ none → K.lookup a = none) →
      codeAny (model P w) callerA (.call (.ref fa) ⟨[.ref a], []⟩) (fun r s' => r = .ok (.ret (.bool true)) ∧ OldK s₁.heap s'.heap ∧ s'.os = s₁.os ∧ AllBare s'.gens) s₁ := by
    intro H hO hS hok hA hK
    have base_of : ∀ {b : Addr} {o : Obj}, s₁.heap.get? b = some o → H b = none → (hidT s₁.heap H).get? b = some o := fun e n => hidT_get e n
    have noA : ∀ {b : Addr} {o : Obj} {es : Array DictEntry} {ep : Nat}, s₁.heap.get? b = some o → o.data = .dict es ep → H b = none := fun {b o es ep} e d => by
      cases q : H b with
      | none => rfl
      | some u =>
        have e' : b = a := hA b (by rw [q]; simp)
        subst e'
        rw [ha] at e; cases e
        have d' : Data.seq vs.toArray _ = Data.dict es ep := d
        cases d'
    have nsK : ∀ {b : Addr} {m : Str → Option Value}, s₁.heap.Ns b m → (hidT s₁.heap H).Ns b m := fun {b m} ⟨o, es, ep, e, d, r⟩ => ⟨o, es, ep, base_of e (noA e d), d, r⟩
    have hKb : K.In (hidT s₁.heap H) := fun b o e => base_of (KX b o e) (by
      cases q : H b with
      | none => rfl
      | some u =>
        have e' : b = a := hA b (by rw [q]; simp)
        subst e'
        rw [hK (by rw [q]; simp)] at e; cases e)
    have hM : Mod K mg (hidT s₁.heap H) := ⟨hKb, nsK hns, ⟨mb, nsK hb, hbb⟩, let ⟨mc, h1, h2⟩ := hlim; ⟨mc, nsK h1, h2⟩⟩
    have e0 : Env0 P w K mg (hidT s₁.heap H) callerA [] s₁ H := ⟨rfl, hM, fun b o e => of_hidT e, Nat.le_of_eq (hidT_size _ _), trivial, fun b hb => absurd (show b ∈ ([] : List Addr) from hb) (by simp), hok, .of_eq hg⟩
    refine codeAny_mono ((F _ hKb (nsK hns)).run callerA [] s₁ H ⟨[.ref a], []⟩ [.ref a] [.ref a] _ _ hr e0 (hbind s₁ (.ref a)) (.cons rfl .nil) (hsp H hO hS)) fun r s' h => ?_
    cases r with
    | error e => exact (hCX H e s' h).elim
    | ok fl =>
      cases fl with
      | next => exact False.elim h
      | brk => exact False.elim h
      | cont => exact False.elim h
      | ret u =>
        obtain ⟨v, H', os, bare, un, hok', r', q⟩ := h
        have q' : v = .bl true := q
        subst q'
        obtain rfl : u = Value.bool true := r'
        refine ⟨rfl, OldK.of_keep fun b o e => ?_, os, bare⟩
        cases q : H b with
        | none => exact un.keep b o e q (by intro z; exact absurd (show b ∈ ([] : List Addr) from z) (by simp)) (by simp)
        | some u =>
          rcases hO b with z | ⟨ob, xs, z⟩
          · rw [q] at z; cases z
          · have z2 := un.frzs b ob _ z
            obtain ⟨e1, _⟩ := hok b _ z
            obtain ⟨e2, _⟩ := hok' b _ z2
            rw [e] at e1; cases e1
            exact e2
  cases hk : K.lookup a with
  | some o =>
    -- the script is one of the module's own objects
    have e := KX a o hk
    rw [ha] at e
    cases e
    refine core (fun _ => none) (fun _ => .inl rfl) (.inr ⟨_, vs.toArray, _, hk, rfl, rfl, rfl, by rw [List.size_toArray, lenV]; exact hl, by simpa using rv⟩) (fun b u z => by have z' : (none : Option HO) = some u := z; cases z') (fun b z => absurd rfl z) fun z => absurd rfl z
  | none =>
    refine core (fun b => if b = a then some (.frz { cls := .type "list", data := .seq vs.toArray } (.lst (ns.map V.int))) else none) (fun b => ?_) (.inl (.inr ⟨{ cls := .type "list", data := .seq vs.toArray }, if_pos rfl⟩)) (fun b u z => ?_) (fun b z => ?_) fun _ => hk
    · by_cases hb : b = a
      · exact .inr ⟨_, _, if_pos hb⟩
      · exact .inl (if_neg hb)
    · by_cases hb : b = a
      · have z' := (if_pos hb).symm.trans z
        cases z'
        subst hb
        exact ⟨ha, by rw [List.length_map]; exact hl, vs, _, rv, ha⟩
      · have z' := (if_neg hb).symm.trans z
        cases z'
    · by_cases hb : b = a
      · exact hb
      · exact absurd (if_neg hb) z
end L2

namespace L2
open PySem PySem.Spec PyProof.Rows

abbrev KOf {K : PySem.W.Frag} {h : Heap} (_ : K.In h) : PySem.W.Frag := K

/-- the goal that k_head leaves (case hc), from the law's promise. F gives the function object fd (K's own) once, then the promise over every base -/
theorem walk_of {l : PySem.W.OpenLaw} {n k : Nat} {q : Program} {loose : List Str} {XP : (Str → Option Value) → Heap → Prop} {YP : World → Heap → Prop} {d : DefRec} {K : Params → PySem.W.Frag} {CX : World → CXT} {sp : World → Sp} {x : Str}
    (hn : l.most = some n) (hn2 : n ≤ sizeLine) (hdf : d.params.defaults = []) (hr : Room k callerA)
    (hY : ∀ (w : World) (h : Heap), YP w h → (K w.params).In h)
    (F : ∀ (w : World) (mg : Str → Option Value) (fa : Addr) (h : Heap), (K w.params).In h → h.Ns mainGlobals mg → mg d.name = some (.ref fa) →
      ∃ fd : FuncData, (∀ (s : Shared) (u : Value), BindsTo s fd ⟨[u], []⟩ [(x, u)]) ∧
        ∀ base : Heap, (K w.params).In base → base.Ns mainGlobals mg → FnOk l.prog w (K w.params) mg base (CX w) k fa fd [x] (sp w))
    (hsp : ∀ (w : World) (H : Hp) (a : Addr) (ns : List Int), ns.length ≤ n → Only H → SqL (K w.params) H a (ns.map V.int) → sp w [.ref a] H (fun v _ => v = .bl true) fun _ _ _ => False)
    (hCX : ∀ (w : World) (H : Hp) (s : Shared) (e : Value) (s' : Shared), CX w [] H s (fun _ _ _ => False) e s' → False) :
    PySem.W.WalkO q loose XP YP l.row.toRowW d [] (fun f vs => PySem.call f vs) := by
  refine Att.attach_call hn hdf fun w s₀ s₁ mg mb fa o pm cd doc a vs ns G Y ho hd hcd hmg hobj hints hlen hg => ?_
  have KX := hY w _ Y
  obtain ⟨fd, hb, hF⟩ := F w mg fa _ KX G.T.g hmg
  exact law_call KX G.T.g G.T.b G.T.builtins G.T.nolimit hg hobj hints (Nat.le_trans hlen hn2) hr hF hb (fun H hO hS => hsp w H a ns hlen hO hS) fun H e s' => hCX w H s₁ e s'
end L2

/- THE LAST THEOREM (shape; LID, My.* are yours):
   My.Adr: a structure of the addresses that your layer names (classes, functions); My.Txt K t: a structure (Prop) of the equations over K;
   My.txt_mk : {K} {implicit addresses ..} (e1 : nsIn K mainGlobals "law" = some (some (.ref f))) (e2 : K.lookup f = some ⟨oc, od, .func (fnOf "law" "law" params body scope dV kV doc pm an cdv ct), sl⟩) (e3 : codeIn K cdv "law" = true) .. : ∃ t, My.Txt K t

set_option maxRecDepth 100000 in
set_option maxHeartbeats 0 in
theorem PySem.Challenge.cw_LID_holds : PySem.Challenge.rw_LID.Holds := by
  w_on; o_law; k_head; (case hw => w_witness2)
  k_fill
  refine L2.walk_of (l := PySem.Challenge.rw_LID) (n := 63) (k := 40) (x := "script") (CX := fun w => ..) (sp := fun _ => My.sp_law) rfl (by decide) rfl ⟨rfl, by decide, by decide⟩ (fun w h Y => PySem.W.kIn_of Y) ?F ?S ?C
  case F =>
    intro w mg fa h KX G hmg
    have T : ∃ t, My.Txt (L2.KOf KX) t := by
      dsimp only [L2.KOf]                          -- K must stand as «<heap const> w.params» for k_is
      refine' My.txt_mk ?e1 ?e2 ?e3 ..
      (case e1 => PySem.W.k_is)                    -- in the order: a name -> its address -> its object -> its parts
      (case e2 => PySem.W.k_is)
      ..
    obtain ⟨t, T⟩ := T
    have e0 := hmg.symm.trans (PySem.W.mg_of KX G T.law)
    cases e0                                       -- fa is the law's own address
    exact ⟨_, fun s u => .of_eq rfl, fun base kb nb => My.law_fn T kb nb⟩     -- if «.of_eq rfl» comes too early: refine' ⟨_, ?b, fun base kb nb => My.law_fn T kb nb⟩; exact fun s u => .of_eq rfl
  case S => exact fun w H a ns hl hO hS => ..
  case C => exact ..
(the tactic k_is has no namespace: write k_is) -/

/-! SHORT WORDS over the layer: a def of the text, its body, what a loop and a test want. -/
namespace L2
open PySem PySem.Spec PyProof.Rows

/-! ### the text by places -/
def defArgs (s : Stmt) : Arguments := match s with
  | .FunctionDef _ a _ _ _ _ _ _ _ _ => a
  | _ => { posonlyargs := [], args := [], vararg := none, kwonlyargs := [], kw_defaults := [], kwarg := none, defaults := [] }
def defBody (s : Stmt) : List Stmt := match s with
  | .FunctionDef _ _ b _ _ _ _ _ _ _ => b
  | _ => []
def defScope (s : Stmt) : Scope := match s with
  | .FunctionDef _ _ _ _ _ _ sc _ _ _ => sc
  | _ => { kind := .function, names := [], isGenerator := false, isCoroutine := false }

/-! ### no exception leaves a def -/
abbrev CX0 : CXT := fun _ _ _ _ _ _ => False
abbrev E0 : XK := fun _ _ _ => False
/-! ### a def (or method) of the text as it stands behind the top -/
structure Fun (K : PySem.W.Frag) (x qual : Str) (st : Stmt) (f : Addr) (fd : FuncData) : Prop where
  ex : ∃ (oc : Value) (od : Option Addr) (kV doc pm : Value) (an : Option Addr) (cdv ct : Value) (osl : Array (Option Value)),
    fd = PySem.W.fnOf x qual (defArgs st) (defBody st) (defScope st) .none kV doc pm an cdv ct ∧ K.lookup f = some ⟨oc, od, .func fd, osl⟩ ∧ PySem.W.codeIn K cdv qual = true
  kp : PySem.W.keepIn K (.ref f) = true
section
variable {P : Program} {w : World} {K : PySem.W.Frag} {mg : Str → Option Value} {base : Heap}
/-- THE RULE for a def: its body as a term of rules, and the reading of that term -/
theorem Fun.ok {x qual : Str} {st : Stmt} {f : Addr} {fd : FuncData} {N ps : List Str} {k : Nat} {sp : Sp} (F : Fun K x qual st f fd) (S : FnScope N ps (defScope st)) (len : ∀ vs H Q E, sp vs H Q E → vs.length = ps.length)
    (hbody : ∀ (cdv : Value) (A : Around) (outer : List Env) (s : Shared) (H : Hp) (vs : List V) (Q : VK) (E : XK), Room k (A.deeper (envOfC qual (defScope st) s.heap.objs.size f cdv)) → sp vs H Q E →
      ∃ t, PSs (cxOf CX0 P w K mg base N qual (defScope st) f cdv A outer s H E).nox (defBody st) t ∧ t { nx := fun _ H' => Q .non H', rt := Q } (start N vs) H) : FnOk P w K mg base CX0 (k + 1) f fd ps sp := by
  obtain ⟨oc, od, kV, doc, pm, an, cdv, ct, osl, rfl, lk, hcd⟩ := F.ex
  refine fn_of lk hcd S len fun A outer s H vs Q E hr hsp => ?_
  obtain ⟨t, h, q⟩ := hbody cdv A outer s H vs Q E hr hsp
  exact ⟨t, h.nox, q⟩
/-- how its arguments bind (no defaults): h is «fun _ _ _ _ _ _ us hl => match us, hl with | [_, _], _ => rfl», one _ a parameter -/
theorem Fun.binds {x qual : Str} {st : Stmt} {f : Addr} {fd : FuncData} {ps : List Str} (F : Fun K x qual st f fd)
    (h : ∀ (kV doc pm : Value) (an : Option Addr) (cdv ct : Value) (us : List Value), us.length = ps.length → bindArgs (PySem.W.fnOf x qual (defArgs st) (defBody st) (defScope st) .none kV doc pm an cdv ct) ⟨us, []⟩ = pure (ps.zip us)) : Binds K fd ps [] := by
  obtain ⟨oc, od, kV, doc, pm, an, cdv, ct, osl, rfl, lk, hcd⟩ := F.ex
  exact .all (h kV doc pm an cdv ct)
theorem fun_mk {x qual : Str} {st : Stmt} {f : Addr} {oc : Value} {od an : Option Addr} {osl : Array (Option Value)} {kV doc pm cdv ct : Value} (l : K.lookup f = some ⟨oc, od, .func (PySem.W.fnOf x qual (defArgs st) (defBody st) (defScope st) .none kV doc pm an cdv ct), osl⟩)
    (c : PySem.W.codeIn K cdv qual = true) (k : PySem.W.keepIn K (.ref f) = true) : Fun K x qual st f (PySem.W.fnOf x qual (defArgs st) (defBody st) (defScope st) .none kV doc pm an cdv ct) := ⟨⟨oc, od, kV, doc, pm, an, cdv, ct, osl, rfl, l, c⟩, k⟩
end
/-! ### expressions in short: the name that stands in the i-th slot -/
section
variable {X : Cx}
theorem pv (i : Nat) {x : Str} {pos : Pos} (hN : X.N[i]? = some x := by rfl) (hv : Vis X.env.scope x := by first | exact Or.inl rfl | exact Or.inr (Or.inl rfl) | exact Or.inr (Or.inr rfl)) (hd : (x == ("__debug__" : Str)) = false := by decide)
    (hcd : (x == ("__classdict__" : Str)) = false := by decide) : PE X (.Name x pos) (tVar i) := pe_var hN hv hd hcd
end

/-! ### tests -/
/-! ### heaps -/
/-- all that was tracked is as it was -/
def Same (H H' : Hp) : Prop := ∀ b o, H b = some o → H' b = some o
theorem Same.refl (H : Hp) : Same H H := fun _ _ h => h
theorem Same.trans {H H1 H2 : Hp} (a : Same H H1) (b : Same H1 H2) : Same H H2 := fun c o h => b c o (a c o h)
theorem Same.free {H H' : Hp} (e : Same H H') {l : Addr} (h : H' l = Option.none) : H l = Option.none := by
  cases q : H l with
  | none => rfl
  | some o =>
    rw [e l o q] at h
    cases h
theorem Same.seq {K : PySem.W.Frag} {H H' : Hp} {a : Addr} {xs : List V} (e : Same H H') (h : SqL K H a xs) : SqL K H' a xs := by
  rcases h with (h | ⟨o, h⟩) | h
  · exact .inl (.inl (e _ _ h))
  · exact .inl (.inr ⟨o, e _ _ h⟩)
  · exact .inr h

/-! ### a dict's pairs: keys that differ -/
section
variable {κ : Type} [DecidableEq κ]
end
end L2

namespace D3
open PySem PySem.Spec PyProof.Rows L2

/-! ### data: trees of values; lists and dicts as they stand -/
inductive D where
  | non | bl (b : Bool) | int (i : Int) | str (x : Str) | tup (xs : List D) | lst (xs : List D) | dct (kvs : List (Key × D)) | ty (n : String) | ob (a : Addr) | ins (c : Str) (fs : List (Str × D)) | fn (x : Str) | exn (c : Str) | set (ks : List Key)
/-- frozen (nobody changes it any more), fresh (nobody else has it), borrowed (a name of the frame owns it) -/
inductive Md where | fz | fr | bo
  deriving DecidableEq
inductive Res where
  | ok (m : Md) (d : D) | exc (c : Str) | stuck

/-- an error of the class at C -/
def xobj (a C : Addr) : HO := .ext fun h => ∃ o, h.get? a = some o ∧ o.cls = .ref C
def SetIs (S : Key → Bool) (ks : List Key) : Prop := ks.Nodup ∧ ∀ k, S k = true ↔ k ∈ ks
mutual
def RepV (K : PySem.W.Frag) (F : Hp) : D → V → Prop
  | .non, v => v = .non
  | .bl b, v => v = .bl b
  | .int i, v => v = .int i
  | .str x, v => v = .str x ∧ x.length ≤ sizeLine ∧ PyData.strOk x = true
  | .tup ds, v => ∃ a xs, v = .ref a ∧ SqT K F a xs ∧ RepL K F ds xs
  | .lst ds, v => ∃ a xs, v = .ref a ∧ SqL K F a xs ∧ RepL K F ds xs
  | .dct kvs, v => ∃ a xs, v = .ref a ∧ F a = some (.dK xs) ∧ RepK K F kvs xs
  | .ty n, v => v = .ty n
  | .ob a, v => v = .ref a
  | .ins c fs, v => ∃ a C dx gs, v = .ref a ∧ PySem.W.nsIn K mainGlobals c = some (some (.ref C)) ∧ F a = some (.ins C dx gs) ∧ RepF K F fs gs
  | .fn x, v => ∃ a, v = .ref a ∧ PySem.W.nsIn K mainGlobals x = some (some (.ref a))
  | .exn c, v => ∃ a C, v = .ref a ∧ PySem.W.nsIn K mainGlobals c = some (some (.ref C)) ∧ F a = some (xobj a C)
  | .set ks, v => ∃ a S, v = .ref a ∧ F a = some (.set S ks.length) ∧ SetIs S ks
def RepL (K : PySem.W.Frag) (F : Hp) : List D → List V → Prop
  | [], xs => xs = []
  | d :: ds, xs => ∃ y ys, xs = y :: ys ∧ RepV K F d y ∧ RepL K F ds ys
def RepK (K : PySem.W.Frag) (F : Hp) : List (Key × D) → List (Key × V) → Prop
  | [], xs => xs = []
  | (k, d) :: ds, xs => ∃ y ys, xs = (k, y) :: ys ∧ RepV K F d y ∧ RepK K F ds ys
def RepF (K : PySem.W.Frag) (F : Hp) : List (Str × D) → List (Str × V) → Prop
  | [], xs => xs = []
  | (k, d) :: ds, xs => ∃ y ys, xs = (k, y) :: ys ∧ RepV K F d y ∧ RepF K F ds ys
end

theorem Same.seqT {K : PySem.W.Frag} {H H' : Hp} {a : Addr} {xs : List V} (e : Same H H') (h : SqT K H a xs) : SqT K H' a xs := by
  rcases h with (h | ⟨o, h⟩) | h
  · exact .inl (.inl (e _ _ h))
  · exact .inl (.inr ⟨o, e _ _ h⟩)
  · exact .inr h

section
variable {K : PySem.W.Frag} {F F' : Hp}
mutual
theorem RepV.mono (s : Same F F') : ∀ (d : D) (v : V), RepV K F d v → RepV K F' d v
  | .non, _, h => by simpa only [RepV] using h
  | .bl _, _, h => by simpa only [RepV] using h
  | .int _, _, h => by simpa only [RepV] using h
  | .str _, _, h => by simpa only [RepV] using h
  | .tup ds, v, h => by
    simp only [RepV] at h ⊢
    obtain ⟨a, xs, e, q, r⟩ := h
    exact ⟨a, xs, e, Same.seqT s q, RepL.mono s ds xs r⟩
  | .lst ds, v, h => by
    simp only [RepV] at h ⊢
    obtain ⟨a, xs, e, q, r⟩ := h
    exact ⟨a, xs, e, s.seq q, RepL.mono s ds xs r⟩
  | .dct ds, v, h => by
    simp only [RepV] at h ⊢
    obtain ⟨a, xs, e, q, r⟩ := h
    exact ⟨a, xs, e, s _ _ q, RepK.mono s ds xs r⟩
  | .ty _, _, h => by simpa only [RepV] using h
  | .ob _, _, h => by simpa only [RepV] using h
  | .fn _, _, h => by simpa only [RepV] using h
  | .exn _, _, h => by
    simp only [RepV] at h ⊢
    obtain ⟨a, C, e, n, q⟩ := h
    exact ⟨a, C, e, n, s _ _ q⟩
  | .set _, _, h => by
    simp only [RepV] at h ⊢
    obtain ⟨a, S, e, q, r⟩ := h
    exact ⟨a, S, e, s _ _ q, r⟩
  | .ins c fs, v, h => by
    simp only [RepV] at h ⊢
    obtain ⟨a, C, dx, gs, e, n, q, r⟩ := h
    exact ⟨a, C, dx, gs, e, n, s _ _ q, RepF.mono s fs gs r⟩
theorem RepL.mono (s : Same F F') : ∀ (ds : List D) (xs : List V), RepL K F ds xs → RepL K F' ds xs
  | [], _, h => by simpa only [RepL] using h
  | d :: ds, xs, h => by
    simp only [RepL] at h ⊢
    obtain ⟨y, ys, e, q, r⟩ := h
    exact ⟨y, ys, e, RepV.mono s d y q, RepL.mono s ds ys r⟩
theorem RepK.mono (s : Same F F') : ∀ (ds : List (Key × D)) (xs : List (Key × V)), RepK K F ds xs → RepK K F' ds xs
  | [], _, h => by simpa only [RepK] using h
  | (k, d) :: ds, xs, h => by
    simp only [RepK] at h ⊢
    obtain ⟨y, ys, e, q, r⟩ := h
    exact ⟨y, ys, e, RepV.mono s d y q, RepK.mono s ds ys r⟩
theorem RepF.mono (s : Same F F') : ∀ (ds : List (Str × D)) (xs : List (Str × V)), RepF K F ds xs → RepF K F' ds xs
  | [], _, h => by simpa only [RepF] using h
  | (k, d) :: ds, xs, h => by
    simp only [RepF] at h ⊢
    obtain ⟨y, ys, e, q, r⟩ := h
    exact ⟨y, ys, e, RepV.mono s d y q, RepF.mono s ds ys r⟩
end
theorem RepF.look : ∀ {ds : List (Str × D)} {xs : List (Str × V)} {f : Str} {d : D}, RepF K F ds xs → ds.lookup f = some d → ∃ v, xs.lookup f = some v ∧ RepV K F d v
  | [], _, _, _, h, e => by cases e
  | (k, d') :: ds, _, f, d, h, e => by
    simp only [RepF] at h
    obtain ⟨y, ys, rfl, q, r⟩ := h
    rw [List.lookup_cons] at e ⊢
    split at e
    · cases e; exact ⟨y, rfl, q⟩
    · exact RepF.look r e
theorem RepF.lookN : ∀ {ds : List (Str × D)} {xs : List (Str × V)} {f : Str}, RepF K F ds xs → ds.lookup f = none → xs.lookup f = none
  | [], _, _, h, e => by simp only [RepF] at h; subst h; rfl
  | (k, d') :: ds, _, f, h, e => by
    simp only [RepF] at h
    obtain ⟨y, ys, rfl, q, r⟩ := h
    rw [List.lookup_cons] at e ⊢
    split at e
    · cases e
    · exact RepF.lookN r e
theorem RepF.length : ∀ {ds : List (Str × D)} {xs : List (Str × V)}, RepF K F ds xs → xs.length = ds.length
  | [], _, h => by simp only [RepF] at h; subst h; rfl
  | (k, d') :: ds, _, h => by
    simp only [RepF] at h
    obtain ⟨y, ys, rfl, q, r⟩ := h
    rw [List.length_cons, List.length_cons, RepF.length r]
theorem RepL.length : ∀ {ds : List D} {xs : List V}, RepL K F ds xs → xs.length = ds.length
  | [], _, h => by simp only [RepL] at h; subst h; rfl
  | d :: ds, _, h => by
    simp only [RepL] at h
    obtain ⟨y, ys, rfl, _, r⟩ := h
    rw [List.length_cons, List.length_cons, RepL.length r]
theorem RepL.get : ∀ {ds : List D} {xs : List V} {i : Nat} {x : V}, RepL K F ds xs → xs[i]? = some x → ∃ d, ds[i]? = some d ∧ RepV K F d x
  | [], _, _, _, h, e => by simp only [RepL] at h; subst h; simp at e
  | d :: ds, _, 0, _, h, e => by
    simp only [RepL] at h
    obtain ⟨y, ys, rfl, r, _⟩ := h
    simp at e; subst e; exact ⟨d, rfl, r⟩
  | d :: ds, _, i + 1, _, h, e => by
    simp only [RepL] at h
    obtain ⟨y, ys, rfl, _, r⟩ := h
    obtain ⟨d', e', r'⟩ := RepL.get (i := i) r (by simpa using e)
    exact ⟨d', by simpa using e', r'⟩
theorem RepL.get' : ∀ {ds : List D} {xs : List V} {i : Nat} {d : D}, RepL K F ds xs → ds[i]? = some d → ∃ x, xs[i]? = some x ∧ RepV K F d x
  | [], _, _, _, h, e => by simp at e
  | d :: ds, _, 0, _, h, e => by
    simp only [RepL] at h
    obtain ⟨y, ys, rfl, r, _⟩ := h
    simp at e; subst e; exact ⟨y, rfl, r⟩
  | d :: ds, _, i + 1, _, h, e => by
    simp only [RepL] at h
    obtain ⟨y, ys, rfl, _, r⟩ := h
    obtain ⟨d', e', r'⟩ := RepL.get' (i := i) r (by simpa using e)
    exact ⟨d', by simpa using e', r'⟩
theorem RepL.append : ∀ {ds es : List D} {xs ys : List V}, RepL K F ds xs → RepL K F es ys → RepL K F (ds ++ es) (xs ++ ys)
  | [], _, _, _, h, r => by simp only [RepL] at h; subst h; exact r
  | d :: ds, _, _, _, h, r => by
    simp only [RepL] at h
    obtain ⟨y, ys, rfl, q, t⟩ := h
    show RepL K F (d :: (ds ++ _)) (y :: (ys ++ _))
    simp only [RepL]
    exact ⟨y, _, rfl, q, RepL.append t r⟩
theorem RepL.nil : RepL K F [] [] := by simp only [RepL]
theorem RepL.cons {d : D} {ds : List D} {x : V} {xs : List V} (h : RepV K F d x) (r : RepL K F ds xs) : RepL K F (d :: ds) (x :: xs) := by simp only [RepL]; exact ⟨x, xs, rfl, h, r⟩
end

/-- the list or dict at a in H, its contents frozen -/
def Top (K : PySem.W.Frag) (F H : Hp) (a : Addr) : D → Prop
  | .lst ds => ∃ xs, H a = some (.lst xs) ∧ RepL K F ds xs
  | .dct ds => ∃ xs, H a = some (.dK xs) ∧ RepK K F ds xs
  | .ins c fs => ∃ C dx gs, PySem.W.nsIn K mainGlobals c = some (some (.ref C)) ∧ H a = some (.ins C dx gs) ∧ RepF K F fs gs
  | .set ks => ∃ S, H a = some (.set S ks.length) ∧ SetIs S ks
  | _ => False
def Rp (K : PySem.W.Frag) (F H : Hp) (m : Md) (d : D) (v : V) : Prop :=
  match m with
  | .fz => RepV K F d v
  | _ => ∃ a, v = .ref a ∧ F a = none ∧ Top K F H a d
/-- from a state to a later one: nothing that stood is changed; what is newly frozen is new -/
structure Step (F H F' H' : Hp) : Prop where
  same : Same H H'
  fsame : Same F F'
  sub : Same F' H'
  new : ∀ a, F a = none → H a ≠ none → F' a = none
theorem Step.refl {F H : Hp} (h : Same F H) : Step F H F H := ⟨Same.refl _, Same.refl _, h, fun _ h _ => h⟩
theorem Step.trans {F H F1 H1 F2 H2 : Hp} (a : Step F H F1 H1) (b : Step F1 H1 F2 H2) : Step F H F2 H2 :=
  ⟨a.same.trans b.same, a.fsame.trans b.fsame, b.sub, fun x h1 h2 => b.new x (a.new x h1 h2) (by
    cases e : H x with
    | none => exact absurd e h2
    | some o => rw [a.same x o e]; exact fun z => nomatch z)⟩
/-- a new object, frozen at once -/
theorem Step.laid {F H : Hp} {p : Addr} (o : HO) (h : Same F H) (hp : H p = none) : Step F H (upd F p o) (upd H p o) := by
  have hf : F p = none := h.free hp
  refine ⟨fun b u e => ?_, fun b u e => ?_, fun b u e => ?_, fun a h1 h2 => ?_⟩
  · rw [upd_ne (ne_of_none e hp)]; exact e
  · rw [upd_ne (ne_of_none e hf)]; exact e
  · by_cases hb : b = p
    · subst hb; rw [upd_same] at e ⊢; exact e
    · rw [upd_ne hb] at e ⊢; exact h b u e
  · have : a ≠ p := by rintro rfl; exact h2 hp
    rw [upd_ne this]; exact h1
/-- a new object, not frozen -/
theorem Step.fresh {F H : Hp} {p : Addr} (o : HO) (h : Same F H) (hp : H p = none) : Step F H F (upd H p o) := by
  refine ⟨fun b u e => ?_, Same.refl _, fun b u e => ?_, fun a h1 _ => h1⟩
  · rw [upd_ne (ne_of_none e hp)]; exact e
  · rw [upd_ne (ne_of_none (h b u e) hp)]; exact h b u e
theorem Top.step {K : PySem.W.Frag} {F H F' H' : Hp} {a : Addr} {d : D} (st : Step F H F' H') (h : Top K F H a d) : Top K F' H' a d := by
  cases d with
  | lst ds => obtain ⟨xs, e, r⟩ := h; exact ⟨xs, st.same _ _ e, r.mono st.fsame _ _⟩
  | dct ds => obtain ⟨xs, e, r⟩ := h; exact ⟨xs, st.same _ _ e, r.mono st.fsame _ _⟩
  | ins c fs => obtain ⟨C, dx, gs, n, e, r⟩ := h; exact ⟨C, dx, gs, n, st.same _ _ e, r.mono st.fsame _ _⟩
  | set ks => obtain ⟨S, e, r⟩ := h; exact ⟨S, st.same _ _ e, r⟩
  | _ => exact h.elim
theorem Top.there {K : PySem.W.Frag} {F H : Hp} {a : Addr} {d : D} (h : Top K F H a d) : H a ≠ none := by
  cases d with
  | lst ds => obtain ⟨xs, e, r⟩ := h; rw [e]; exact fun z => nomatch z
  | dct ds => obtain ⟨xs, e, r⟩ := h; rw [e]; exact fun z => nomatch z
  | ins c fs => obtain ⟨C, dx, gs, n, e, r⟩ := h; rw [e]; exact fun z => nomatch z
  | set ks => obtain ⟨S, e, r⟩ := h; rw [e]; exact fun z => nomatch z
  | _ => exact h.elim
theorem Rp.step {K : PySem.W.Frag} {F H F' H' : Hp} {m : Md} {d : D} {v : V} (st : Step F H F' H') (h : Rp K F H m d v) : Rp K F' H' m d v := by
  cases m with
  | fz => exact RepV.mono st.fsame d v h
  | fr => obtain ⟨a, e, n, t⟩ := h; exact ⟨a, e, st.new a n t.there, t.step st⟩
  | bo => obtain ⟨a, e, n, t⟩ := h; exact ⟨a, e, st.new a n t.there, t.step st⟩
theorem Rp.seqL {K : PySem.W.Frag} {F H : Hp} {m : Md} {ds : List D} {v : V} (s : Same F H) (h : Rp K F H m (.lst ds) v) : ∃ a xs, v = .ref a ∧ SqL K H a xs ∧ RepL K F ds xs := by
  cases m with
  | fz =>
    have h : RepV K F (.lst ds) v := h
    simp only [RepV] at h
    obtain ⟨a, xs, e, q, r⟩ := h
    exact ⟨a, xs, e, s.seq q, r⟩
  | fr => obtain ⟨a, e, n, xs, q, r⟩ := h; exact ⟨a, xs, e, SqL.of q, r⟩
  | bo => obtain ⟨a, e, n, xs, q, r⟩ := h; exact ⟨a, xs, e, SqL.of q, r⟩
theorem Rp.seqT {K : PySem.W.Frag} {F H : Hp} {m : Md} {ds : List D} {v : V} (s : Same F H) (h : Rp K F H m (.tup ds) v) : ∃ a xs, v = .ref a ∧ SqT K H a xs ∧ RepL K F ds xs := by
  cases m with
  | fz =>
    have h : RepV K F (.tup ds) v := h
    simp only [RepV] at h
    obtain ⟨a, xs, e, q, r⟩ := h
    exact ⟨a, xs, e, Same.seqT s q, r⟩
  | fr => obtain ⟨a, e, n, q⟩ := h; exact q.elim
  | bo => obtain ⟨a, e, n, q⟩ := h; exact q.elim
theorem Rp.dict {K : PySem.W.Frag} {F H : Hp} {m : Md} {ds : List (Key × D)} {v : V} (s : Same F H) (h : Rp K F H m (.dct ds) v) : ∃ a xs, v = .ref a ∧ H a = some (.dK xs) ∧ RepK K F ds xs := by
  cases m with
  | fz =>
    have h : RepV K F (.dct ds) v := h
    simp only [RepV] at h
    obtain ⟨a, xs, e, q, r⟩ := h
    exact ⟨a, xs, e, s _ _ q, r⟩
  | fr => obtain ⟨a, e, n, xs, q, r⟩ := h; exact ⟨a, xs, e, q, r⟩
  | bo => obtain ⟨a, e, n, xs, q, r⟩ := h; exact ⟨a, xs, e, q, r⟩
theorem Rp.ins {K : PySem.W.Frag} {F H : Hp} {m : Md} {c : Str} {fs : List (Str × D)} {v : V} (s : Same F H) (h : Rp K F H m (.ins c fs) v) : ∃ a C dx gs, v = .ref a ∧ PySem.W.nsIn K mainGlobals c = some (some (.ref C)) ∧ H a = some (.ins C dx gs) ∧ RepF K F fs gs := by
  cases m with
  | fz =>
    have h : RepV K F (.ins c fs) v := h
    simp only [RepV] at h
    obtain ⟨a, C, dx, gs, e, n, q, r⟩ := h
    exact ⟨a, C, dx, gs, e, n, s _ _ q, r⟩
  | fr => obtain ⟨a, e, n, C, dx, gs, z, q, r⟩ := h; exact ⟨a, C, dx, gs, e, z, q, r⟩
  | bo => obtain ⟨a, e, n, C, dx, gs, z, q, r⟩ := h; exact ⟨a, C, dx, gs, e, z, q, r⟩
theorem Rp.flat {K : PySem.W.Frag} {F H : Hp} {m : Md} {d : D} {v : V} (h : Rp K F H m d v) (nl : ∀ a, v ≠ .ref a) : RepV K F d v := by
  cases m with
  | fz => exact h
  | fr => obtain ⟨a, e, n, q⟩ := h; exact absurd e (nl a)
  | bo => obtain ⟨a, e, n, q⟩ := h; exact absurd e (nl a)
theorem Rp.int {K : PySem.W.Frag} {F H : Hp} {m : Md} {i : Int} {v : V} (h : Rp K F H m (.int i) v) : v = .int i := by
  cases m with
  | fz => have h : RepV K F (.int i) v := h; simpa only [RepV] using h
  | fr => obtain ⟨a, e, n, q⟩ := h; exact q.elim
  | bo => obtain ⟨a, e, n, q⟩ := h; exact q.elim
theorem Rp.bl {K : PySem.W.Frag} {F H : Hp} {m : Md} {i : Bool} {v : V} (h : Rp K F H m (.bl i) v) : v = .bl i := by
  cases m with
  | fz => have h : RepV K F (.bl i) v := h; simpa only [RepV] using h
  | fr => obtain ⟨a, e, n, q⟩ := h; exact q.elim
  | bo => obtain ⟨a, e, n, q⟩ := h; exact q.elim
theorem Rp.non {K : PySem.W.Frag} {F H : Hp} {m : Md} {v : V} (h : Rp K F H m .non v) : v = .non := by
  cases m with
  | fz => have h : RepV K F .non v := h; simpa only [RepV] using h
  | fr => obtain ⟨a, e, n, q⟩ := h; exact q.elim
  | bo => obtain ⟨a, e, n, q⟩ := h; exact q.elim
theorem Rp.str {K : PySem.W.Frag} {F H : Hp} {m : Md} {x : Str} {v : V} (h : Rp K F H m (.str x) v) : v = .str x ∧ x.length ≤ sizeLine ∧ PyData.strOk x = true := by
  cases m with
  | fz => have h : RepV K F (.str x) v := h; simpa only [RepV] using h
  | fr => obtain ⟨a, e, n, q⟩ := h; exact q.elim
  | bo => obtain ⟨a, e, n, q⟩ := h; exact q.elim
theorem Rp.ty {K : PySem.W.Frag} {F H : Hp} {m : Md} {n : String} {v : V} (h : Rp K F H m (.ty n) v) : v = .ty n := by
  cases m with
  | fz => have h : RepV K F (.ty n) v := h; simpa only [RepV] using h
  | fr => obtain ⟨a, e, n, q⟩ := h; exact q.elim
  | bo => obtain ⟨a, e, n, q⟩ := h; exact q.elim
theorem Rp.ob {K : PySem.W.Frag} {F H : Hp} {m : Md} {n : Addr} {v : V} (h : Rp K F H m (.ob n) v) : v = .ref n := by
  cases m with
  | fz => have h : RepV K F (.ob n) v := h; simpa only [RepV] using h
  | fr => obtain ⟨a, e, n, q⟩ := h; exact q.elim
  | bo => obtain ⟨a, e, n, q⟩ := h; exact q.elim
theorem rp_ty {K : PySem.W.Frag} {F H : Hp} (i : String) : Rp K F H .fz (.ty i) (.ty i) := by show RepV K F _ _; simp only [RepV]
theorem rp_int {K : PySem.W.Frag} {F H : Hp} (i : Int) : Rp K F H .fz (.int i) (.int i) := by show RepV K F _ _; simp only [RepV]
theorem rp_bl {K : PySem.W.Frag} {F H : Hp} (i : Bool) : Rp K F H .fz (.bl i) (.bl i) := by show RepV K F _ _; simp only [RepV]
theorem rp_non {K : PySem.W.Frag} {F H : Hp} : Rp K F H .fz .non .non := by show RepV K F _ _; simp only [RepV]
theorem rp_str {K : PySem.W.Frag} {F H : Hp} {x : Str} (h : x.length ≤ sizeLine ∧ PyData.strOk x = true) : Rp K F H .fz (.str x) (.str x) := by show RepV K F _ _; simp only [RepV, true_and]; exact h

/-! ### the frame -/
/-- a name's value: owned (true) or frozen -/
abbrev Rho := List (Option (Bool × D))
structure RelSt (K : PySem.W.Frag) (F0 H0 F H : Hp) (σ : L2.St) (ρ : Rho) : Prop where
  st : Step F0 H0 F H
  slot : ∀ (i : Nat) (m : Bool) (d : D), ρ[i]? = some (some (m, d)) → ∃ v, σ[i]? = some (some v) ∧ Rp K F H (if m then .bo else .fz) d v ∧ (m = true → ∀ a, v = .ref a → H0 a = none)
  apart : ∀ (i j : Nat) (d d' : D) (a : Addr), i ≠ j → ρ[i]? = some (some (true, d)) → ρ[j]? = some (some (true, d')) → σ[i]? = some (some (.ref a)) → σ[j]? = some (some (.ref a)) → False
  len : σ.length = ρ.length
theorem RelSt.step {K : PySem.W.Frag} {F0 H0 F H F' H' : Hp} {σ : L2.St} {ρ : Rho} (r : RelSt K F0 H0 F H σ ρ) (st : Step F H F' H') : RelSt K F0 H0 F' H' σ ρ :=
  ⟨r.st.trans st, fun i m d e => by obtain ⟨v, e1, e2, e3⟩ := r.slot i m d e; exact ⟨v, e1, e2.step st, e3⟩, r.apart, r.len⟩
theorem RelSt.sub {K : PySem.W.Frag} {F0 H0 F H : Hp} {σ : L2.St} {ρ : Rho} (r : RelSt K F0 H0 F H σ ρ) : Same F H := r.st.sub

/-- what is wanted of an exception of that class: the names as they stand, the heap -/
abbrev XE := Str → L2.St → Hp → Prop
structure Cw where
  K : PySem.W.Frag
  F0 : Hp
  H0 : Hp
  EE : XE
/-- an expression by its value -/
def tG (C : Cw) (g : Rho → Res) : TE := fun σ H Q => ∃ ρ F, RelSt C.K C.F0 C.H0 F H σ ρ ∧ match g ρ with
  | .ok m d => ∀ v F' H', Step F H F' H' → Rp C.K F' H' m d v → (m = .fr → ∀ a, v = .ref a → H a = none) → Q v H'
  | .exc c => ∀ F' H', Step F H F' H' → C.EE c σ H'
  | .stuck => False
abbrev Cw.at (C : Cw) (X : Cx) : Cw := { C with K := X.K }
def PV (C : Cw) (X : Cx) (e : Expr) (g : Rho → Res) : Prop := PE X e (tG (C.at X) g)
theorem PE.imp {X : Cx} {e : Expr} {t t' : TE} (h : PE X e t) (i : ∀ σ H Q, t' σ H Q → t σ H Q) : PE X e t' := fun pins s σ H Q I q => h pins s σ H Q I (i σ H Q q)
end D3

namespace D3
open PySem PySem.Spec PyProof.Rows L2

def Res.thn (r : Res) (k : Md → D → Res) : Res := match r with
  | .ok m d => k m d
  | .exc c => .exc c
  | .stuck => .stuck
@[simp] theorem Res.thn_ok (m : Md) (d : D) (k : Md → D → Res) : (Res.ok m d).thn k = k m d := rfl
@[simp] theorem Res.thn_exc (c : Str) (k : Md → D → Res) : (Res.exc c).thn k = .exc c := rfl
@[simp] theorem Res.thn_stuck (k : Md → D → Res) : Res.stuck.thn k = .stuck := rfl
def Res.of : Option (Md × D) → Res
  | some (m, d) => .ok m d
  | none => .stuck
@[simp] theorem Res.of_some (m : Md) (d : D) : Res.of (some (m, d)) = .ok m d := rfl
@[simp] theorem Res.of_none : Res.of none = .stuck := rfl
/-- what a result asks of the state behind -/
def Want (C : Cw) (F H : Hp) (σ : L2.St) (r : Res) (Q : VK) : Prop := match r with
  | .ok m d => ∀ v F' H', Step F H F' H' → Rp C.K F' H' m d v → (m = .fr → ∀ a, v = .ref a → H a = none) → Q v H'
  | .exc c => ∀ F' H', Step F H F' H' → C.EE c σ H'
  | .stuck => False
theorem tG_eq {C : Cw} {g : Rho → Res} {σ : L2.St} {H : Hp} {Q : VK} : tG C g σ H Q = ∃ ρ F, RelSt C.K C.F0 C.H0 F H σ ρ ∧ Want C F H σ (g ρ) Q := by
  unfold tG Want
  rfl
theorem Want.step {C : Cw} {F H F1 H1 : Hp} {σ : L2.St} {r : Res} {Q : VK} (st : Step F H F1 H1) (h : Want C F H σ r Q) : Want C F1 H1 σ r Q := by
  cases r with
  | ok m d => exact fun v F' H' s2 rp hf => h v F' H' (st.trans s2) rp fun e a ea => st.same.free (hf e a ea)
  | exc c => exact fun F' H' s2 => h F' H' (st.trans s2)
  | stuck => exact h
section
variable {C : Cw} {X : Cx} {a b : Expr} {ga gb : Rho → Res} {pos : Pos}
/-! ### names, constants -/
def getS (ρ : Rho) (i : Nat) : Res := match ρ[i]? with
  | some (some (false, d)) => .ok .fz d
  | some (some (true, d)) => .ok .bo d
  | _ => .stuck
theorem pv_var (i : Nat) {x : Str} (h : PE X (.Name x pos) (tVar i)) : PV C X (.Name x pos) (fun ρ => getS ρ i) := by
  refine PE.imp h fun σ H Q q => ?_
  rw [tG_eq] at q
  obtain ⟨ρ, F, R, w⟩ := q
  unfold getS at w
  cases e : ρ[i]? with
  | none => rw [e] at w; exact w.elim
  | some o =>
    cases o with
    | none => rw [e] at w; exact w.elim
    | some p =>
      obtain ⟨m, d⟩ := p
      obtain ⟨v, e1, r, _⟩ := R.slot i m d e
      rw [e] at w
      cases m with
      | false => exact ⟨v, e1, w v F H (.refl R.sub) r (by intro z; cases z)⟩
      | true => exact ⟨v, e1, w v F H (.refl R.sub) r (by intro z; cases z)⟩
theorem pv_con {e : Expr} {v : V} (d : D) (h : PE X e (tC v)) (r : ∀ F H, Rp X.K F H .fz d v) : PV C X e (fun _ => .ok .fz d) := by
  refine PE.imp h fun σ H Q q => ?_
  rw [tG_eq] at q
  obtain ⟨ρ, F, R, w⟩ := q
  exact w v F H (.refl R.sub) (r F H) (by intro z; cases z)
theorem pv_int {i j} : PV C X (.Constant (.int i) j pos) (fun _ => .ok .fz (.int i)) := pv_con _ pe_int fun _ _ => rp_int i
theorem pv_bl {i j} : PV C X (.Constant (.bool i) j pos) (fun _ => .ok .fz (.bl i)) := pv_con _ pe_bl fun _ _ => rp_bl i
theorem pv_non {j} : PV C X (.Constant .none j pos) (fun _ => .ok .fz .non) := pv_con _ pe_non fun _ _ => rp_non
theorem pv_str {x : Str} {j} (h : (decide (x.length ≤ sizeLine) && PyData.strOk x) = true := by decide +kernel) : PV C X (.Constant (.str x) j pos) (fun _ => .ok .fz (.str x)) :=
  pv_con _ pe_str fun _ _ => rp_str (by rw [Bool.and_eq_true, decide_eq_true_eq] at h; exact h)

/-! ### two operands -/
def op2 (φ : Md → D → Md → D → Option (Md × D)) (x y : Res) : Res := x.thn fun m d => y.thn fun n e => Res.of (φ m d n e)
/-- an operation on values by data -/
def OpD (C : Cw) (X : Cx) (f : Value → Value → Sem Value) (φ : Md → D → Md → D → Option (Md × D)) : Prop :=
  ∃ r : R2, OpR X f r ∧ ∀ F H m x n y v u k d Q, Same F H → Rp X.K F H m x v → Rp X.K F H n y u → φ m x n y = some (k, d) →
    (∀ v' F' H', Step F H F' H' → Rp X.K F' H' k d v' → (k = .fr → ∀ a, v' = .ref a → H a = none) → Q v' H') → r v u H Q
theorem tG_op2 {φ : Md → D → Md → D → Option (Md × D)} {r : R2} (h : ∀ F H m x n y v u k d Q, Same F H → Rp C.K F H m x v → Rp C.K F H n y u → φ m x n y = some (k, d) →
    (∀ v' F' H', Step F H F' H' → Rp C.K F' H' k d v' → (k = .fr → ∀ a, v' = .ref a → H a = none) → Q v' H') → r v u H Q) {σ : L2.St} {H : Hp} {Q : VK}
    (q : tG C (fun ρ => op2 φ (ga ρ) (gb ρ)) σ H Q) : tOp r (tG C ga) (tG C gb) σ H Q := by
  unfold tOp
  rw [tG_eq] at q ⊢
  obtain ⟨ρ, F, R, w⟩ := q
  refine ⟨ρ, F, R, ?_⟩
  cases ea : ga ρ with
  | stuck => simp only [op2, ea, Res.thn] at w; exact w
  | exc c => simp only [op2, ea, Res.thn] at w; exact w
  | ok m d =>
    intro v F1 H1 s1 r1 _
    rw [tG_eq]
    refine ⟨ρ, F1, R.step s1, ?_⟩
    have w1 := w.step s1
    simp only [op2, ea, Res.thn] at w1
    cases eb : gb ρ with
    | stuck => rw [eb] at w1; exact w1
    | exc c => rw [eb] at w1; exact w1
    | ok n e =>
      rw [eb] at w1
      intro u F2 H2 s2 r2 _
      have w2 : Want C F2 H2 σ (Res.of (φ m d n e)) Q := Want.step s2 w1
      cases ef : φ m d n e with
      | none => rw [ef] at w2; exact w2.elim
      | some kd =>
        obtain ⟨k, d'⟩ := kd
        rw [ef] at w2
        exact h F2 H2 m d n e v u k d' Q s2.sub (r1.step s2) r2 ef w2
theorem pv_op {op : Operator} {φ} (o : OpD C X (binaryOp op) φ) (ha : PV C X a ga) (hb : PV C X b gb) : PV C X (.BinOp a op b pos) (fun ρ => op2 φ (ga ρ) (gb ρ)) := by
  obtain ⟨r, h1, h2⟩ := o
  exact PE.imp (pe_op h1 ha hb) fun σ H Q q => tG_op2 h2 q
theorem pv_cmp {op : CmpOp} {φ} (o : OpD C X (compareOp op) φ) (ha : PV C X a ga) (hb : PV C X b gb) (hm : behindInMarks op b = false) : PV C X (.Compare a [op] [b] pos) (fun ρ => op2 φ (ga ρ) (gb ρ)) := by
  obtain ⟨r, h1, h2⟩ := o
  exact PE.imp (pe_cmpR h1 ha hb hm) fun σ H Q q => tG_op2 h2 q
def orO (φ ψ : Md → D → Md → D → Option (Md × D)) : Md → D → Md → D → Option (Md × D) := fun m x n y => (φ m x n y).orElse fun _ => ψ m x n y
theorem OpD.or {f : Value → Value → Sem Value} {φ ψ} (h : OpD C X f φ) (h' : OpD C X f ψ) : OpD C X f (orO φ ψ) := by
  obtain ⟨r, h1, h2⟩ := h
  obtain ⟨r', h1', h2'⟩ := h'
  refine ⟨_, h1.or h1', fun F H m x n y v u k d Q s rx ry e w => ?_⟩
  unfold orO at e
  cases e1 : φ m x n y with
  | none => rw [e1] at e; exact .inr (h2' F H m x n y v u k d Q s rx ry e w)
  | some p => rw [e1] at e; cases e; exact .inl (h2 F H m x n y v u k d Q s rx ry e1 w)
/-- two ints -/
def fI (c : Int → Int → Bool) (g : Int → Int → D) : Md → D → Md → D → Option (Md × D) := fun _ x _ y => match x, y with
  | .int i, .int j => if c i j = true then some (.fz, g i j) else none
  | _, _ => none
theorem opd_I {f : Value → Value → Sem Value} {Cc : Int → Int → Prop} {c : Int → Int → Bool} {g : Int → Int → V} {g' : Int → Int → D} (o : OpR X f (rI Cc g)) (hc : ∀ i j, c i j = true → Cc i j) (hg : ∀ F H i j, Rp X.K F H .fz (g' i j) (g i j)) : OpD C X f (fI c g') := by
  refine ⟨_, o, fun F H m x n y v u k d Q s rx ry e w => ?_⟩
  unfold fI at e
  split at e
  · rename_i i j
    cases rx.int
    cases ry.int
    split at e
    · rename_i hcc
      cases e
      exact ⟨i, j, rfl, rfl, hc i j hcc, w _ F H (.refl s) (hg F H i j) (by intro z; cases z)⟩
    · cases e
  · cases e
theorem opd_I0 {f : Value → Value → Sem Value} {g : Int → Int → V} {g' : Int → Int → D} (o : OpR X f (rI0 g)) (hg : ∀ F H i j, Rp X.K F H .fz (g' i j) (g i j)) : OpD C X f (fI (fun _ _ => true) g') := by
  refine ⟨_, o, fun F H m x n y v u k d Q s rx ry e w => ?_⟩
  unfold fI at e
  split at e
  · rename_i i j
    cases rx.int
    cases ry.int
    rw [if_pos rfl] at e
    cases e
    exact ⟨i, j, rfl, rfl, w _ F H (.refl s) (hg F H i j) (by intro z; cases z)⟩
  · cases e
def bits (i : Int) : Bool := decide (i.natAbs.log2 < 9000)
theorem opd_add : OpD C X (binaryOp .Add) (fI (fun _ _ => true) fun i j => .int (i + j)) := opd_I0 op_add fun _ _ i j => rp_int _
theorem opd_sub : OpD C X (binaryOp .Sub) (fI (fun _ _ => true) fun i j => .int (i - j)) := opd_I0 op_sub fun _ _ i j => rp_int _
theorem mulOk_of {i j : Int} (h : (bits i && bits j) = true) : IntMulOk i j := by
  rw [Bool.and_eq_true] at h
  have b : ∀ {i : Int}, bits i = true → Builtin.Int.intBits i ≤ 2 ^ 20 := fun {i} h => by
    unfold bits at h
    have := of_decide_eq_true h
    unfold Builtin.Int.intBits
    split
    · exact Nat.zero_le _
    · have e : (2 : Nat) ^ 20 = 1048576 := by decide
      omega
  exact IntMulOk.of_bits (b h.1) (b h.2)
def w64 (i : Int) : Bool := decide (i.natAbs < 2 ^ 63)
theorem w64_bits {i : Int} (h : w64 i = true) : Builtin.Int.intBits i ≤ 64 := by
  have h := of_decide_eq_true h
  unfold Builtin.Int.intBits
  split
  · exact Nat.zero_le _
  · rename_i hz
    have : i.natAbs.log2 < 63 := (Nat.log2_lt (by simpa using hz)).mpr h
    omega
theorem opd_mul : OpD C X (binaryOp .Mult) (fI (fun i j => (bits i && bits j) || (w64 i || w64 j)) fun i j => .int (i * j)) :=
  opd_I (Cc := fun i j => IntMulOk i j) (opI fun _ _ _ _ _ _ _ hc q => mul_int q hc) (fun i j h => by
    rcases (Bool.or_eq_true _ _).mp h with h | h
    · exact mulOk_of h
    · rcases (Bool.or_eq_true _ _).mp h with h | h
      · exact IntMulOk.of_left (w64_bits h)
      · exact IntMulOk.of_right (w64_bits h)) fun _ _ i j => rp_int _
theorem opd_mod : OpD C X (binaryOp .Mod) (fI (fun _ j => decide (0 < j)) fun i j => .int (i % j)) := opd_I op_mod (fun i j h => of_decide_eq_true h) fun _ _ i j => rp_int _
theorem op_fdivB : OpR X (binaryOp .FloorDiv) (rI (fun _ j => 0 < j ∧ bits j = true) fun i j => .int (i / j)) := opI fun i j _ _ _ _ _ hc q => by
  obtain ⟨h1, h2⟩ := hc
  refine floordiv_int (by omega) ?_ (.inl (PyProof.noPylong_of_log2 (of_decide_eq_true h2)))
  rw [Int.fdiv_eq_ediv_of_nonneg i (by omega)]
  exact q
theorem opd_fdiv : OpD C X (binaryOp .FloorDiv) (fI (fun _ j => decide (0 < j) && bits j) fun i j => .int (i / j)) := opd_I op_fdivB (fun i j h => by rw [Bool.and_eq_true, decide_eq_true_eq] at h; exact h) fun _ _ i j => rp_int _
theorem opd_pow : OpD C X (binaryOp .Pow) (fI (fun i j => decide (0 ≤ j) && decide (j ≤ 1000000) && decide (i.natAbs < 2 ^ 64)) fun i j => .int (i ^ j.toNat)) :=
  opd_I op_pow (fun i j h => by simp only [Bool.and_eq_true, decide_eq_true_eq] at h; exact ⟨h.1.1, h.1.2, h.2⟩) fun _ _ i j => rp_int _
theorem opd_lt : OpD C X (compareOp .Lt) (fI (fun _ _ => true) fun i j => .bl (decide (i < j))) := opd_I0 op_lt fun _ _ i j => rp_bl _
theorem opd_le : OpD C X (compareOp .LtE) (fI (fun _ _ => true) fun i j => .bl (decide (i ≤ j))) := opd_I0 op_le fun _ _ i j => rp_bl _
theorem opd_gt : OpD C X (compareOp .Gt) (fI (fun _ _ => true) fun i j => .bl (decide (j < i))) := opd_I0 op_gt fun _ _ i j => rp_bl _
theorem opd_ge : OpD C X (compareOp .GtE) (fI (fun _ _ => true) fun i j => .bl (decide (j ≤ i))) := opd_I0 op_ge fun _ _ i j => rp_bl _
/-- two texts -/
def fS (c : Str → Str → Bool) (g : Str → Str → D) : Md → D → Md → D → Option (Md × D) := fun _ x _ y => match x, y with
  | .str i, .str j => if c i j = true then some (.fz, g i j) else none
  | _, _ => none
theorem strOk_append {x y : Str} (hx : PyData.strOk x = true) (hy : PyData.strOk y = true) : PyData.strOk (x ++ y) = true := by
  unfold PyData.strOk at *
  show (x.cps ++ y.cps).all _ = true
  rw [Array.all_append, hx, hy]; rfl
theorem opd_addS : OpD C X (binaryOp .Add) (fS (fun i j => decide (i.length + j.length ≤ sizeLine)) fun i j => .str (i ++ j)) := by
  refine ⟨_, op_add_str, fun F H m x n y v u k d Q s rx ry e w => ?_⟩
  unfold fS at e
  split at e
  · rename_i i j
    obtain ⟨rfl, h1⟩ := rx.str
    obtain ⟨rfl, h2⟩ := ry.str
    split at e
    · rename_i hc
      cases e
      have hc := of_decide_eq_true hc
      exact ⟨i, j, rfl, rfl, hc, w _ F H (.refl s) (rp_str ⟨by rw [strLen_append]; exact hc, strOk_append h1.2 h2.2⟩) (by intro z; cases z)⟩
    · cases e
  · cases e
def isIn (i j : Str) : Bool := !(Builtin.Str.occurrences j i 0 j.length 1).isEmpty
theorem opd_inS : OpD C X (compareOp .In) (fS (fun _ _ => true) fun i j => .bl (isIn i j)) := by
  refine ⟨_, op_in_str, fun F H m x n y v u k d Q s rx ry e w => ?_⟩
  unfold fS at e
  split at e
  · rename_i i j
    obtain ⟨rfl, h1⟩ := rx.str
    obtain ⟨rfl, h2⟩ := ry.str
    rw [if_pos rfl] at e
    cases e
    exact ⟨i, j, rfl, rfl, w _ F H (.refl s) (rp_bl _) (by intro z; cases z)⟩
  · cases e
theorem opd_notinS : OpD C X (compareOp .NotIn) (fS (fun _ _ => true) fun i j => .bl (!isIn i j)) := by
  refine ⟨_, op_notin_str, fun F H m x n y v u k d Q s rx ry e w => ?_⟩
  unfold fS at e
  split at e
  · rename_i i j
    obtain ⟨rfl, h1⟩ := rx.str
    obtain ⟨rfl, h2⟩ := ry.str
    rw [if_pos rfl] at e
    cases e
    exact ⟨i, j, rfl, rfl, w _ F H (.refl s) (rp_bl _) (by intro z; cases z)⟩
  · cases e
end
end D3

namespace D3
open PySem PySem.Spec PyProof.Rows L2
section
variable {C : Cw} {X : Cx} {a b c e : Expr} {ga gb gc g : Rho → Res} {pos : Pos}

/-! ### freezing a fresh value -/
def frzR : Res → Res
  | .ok .bo _ => .stuck
  | .ok _ d => .ok .fz d
  | r => r
theorem Step.freeze {F H F' H' : Hp} {x : Addr} {o : HO} (st : Step F H F' H') (hx : H x = none) (hx' : F' x = none) (ho : H' x = some o) : Step F H (upd F' x o) H' := by
  refine ⟨st.same, fun b u q => ?_, fun b u q => ?_, fun y h1 h2 => ?_⟩
  · rw [upd_ne (ne_of_none (st.fsame b u q) hx')]; exact st.fsame b u q
  · by_cases hb : b = x
    · subst hb; rw [upd_same] at q; rw [← q]; exact ho
    · rw [upd_ne hb] at q; exact st.sub b u q
  · have : y ≠ x := by rintro rfl; exact h2 hx
    rw [upd_ne this]; exact st.new y h1 h2
theorem Top.freeze {K : PySem.W.Frag} {F H : Hp} {x : Addr} {d : D} (hx : F x = none) (h : Top K F H x d) : ∃ o, H x = some o ∧ RepV K (upd F x o) d (.ref x) := by
  have s : ∀ o, Same F (upd F x o) := fun o b u q => by rw [upd_ne (ne_of_none q hx)]; exact q
  cases d with
  | lst ds =>
    obtain ⟨xs, q, r⟩ := h
    refine ⟨_, q, ?_⟩
    simp only [RepV]
    exact ⟨x, xs, rfl, SqL.of upd_same, r.mono (s _) _ _⟩
  | dct ds =>
    obtain ⟨xs, q, r⟩ := h
    refine ⟨_, q, ?_⟩
    simp only [RepV]
    exact ⟨x, xs, rfl, upd_same, r.mono (s _) _ _⟩
  | ins c fs =>
    obtain ⟨C, dx, gs, n, q, r⟩ := h
    refine ⟨_, q, ?_⟩
    simp only [RepV]
    exact ⟨x, C, dx, gs, rfl, n, upd_same, r.mono (s _) _ _⟩
  | set ks =>
    obtain ⟨S, q, r⟩ := h
    refine ⟨_, q, ?_⟩
    simp only [RepV]
    exact ⟨x, S, rfl, upd_same, r⟩
  | _ => exact h.elim
theorem Want.frz {F H : Hp} {σ : L2.St} {r : Res} {Q : VK} (w : Want C F H σ (frzR r) Q) : Want C F H σ r Q := by
  cases r with
  | exc c => exact w
  | stuck => exact w
  | ok m d =>
    cases m with
    | fz => exact w
    | bo => exact (show False from w).elim
    | fr =>
      intro v F' H' st rp fr
      obtain ⟨x, rfl, n, t⟩ := rp
      obtain ⟨o, ho, r⟩ := t.freeze n
      exact w (.ref x) (upd F' x o) H' (st.freeze (fr rfl x rfl) n ho) r (by intro z; cases z)
theorem pv_frz (h : PV C X e g) : PV C X e (fun ρ => frzR (g ρ)) := PE.imp h fun σ H Q q => by
  rw [tG_eq] at q ⊢
  obtain ⟨ρ, F, R, w⟩ := q
  try dsimp only at w
  exact ⟨ρ, F, R, w.frz⟩

/-! ### tests -/
def WantB (C : Cw) (F H : Hp) (σ : L2.St) (r : Res) (Q : Bool → Hp → Prop) : Prop := match r with
  | .ok _ (.bl b) => ∀ F' H', Step F H F' H' → Q b H'
  | .exc c => ∀ F' H', Step F H F' H' → C.EE c σ H'
  | _ => False
theorem WantB.step {F H F1 H1 : Hp} {σ : L2.St} {r : Res} {Q : Bool → Hp → Prop} (st : Step F H F1 H1) (h : WantB C F H σ r Q) : WantB C F1 H1 σ r Q := by
  cases r with
  | ok m d =>
    cases d with
    | bl b => exact fun F' H' s2 => h F' H' (st.trans s2)
    | _ => exact h
  | exc c => exact fun F' H' s2 => h F' H' (st.trans s2)
  | stuck => exact h
def tT (C : Cw) (g : Rho → Res) : TT := fun σ H Q => ∃ ρ F, RelSt C.K C.F0 C.H0 F H σ ρ ∧ WantB C F H σ (g ρ) Q
def PTv (C : Cw) (X : Cx) (e : Expr) (g : Rho → Res) : Prop := PT X e (tT (C.at X) g)
def PWv (C : Cw) (X : Cx) (e : Expr) (g : Rho → Res) : Prop := PW X e (tT (C.at X) g)
theorem PT.imp {X : Cx} {e : Expr} {t t' : TT} (h : PT X e t) (i : ∀ σ H Q, t' σ H Q → t σ H Q) : PT X e t' := fun pins s σ H Q I q => h pins s σ H Q I (i σ H Q q)
theorem PW.imp {X : Cx} {e : Expr} {t t' : TT} (h : PW X e t) (i : ∀ σ H Q, t' σ H Q → t σ H Q) : PW X e t' := fun whole pins s σ H Q I q => h whole pins s σ H Q I (i σ H Q q)
def truD : D → Option Bool
  | .non => some false
  | .bl b => some b
  | .int i => some (i != 0)
  | .str x => some ((x.length : Int) != 0)
  | .tup ds => some (!ds.isEmpty)
  | .lst ds => some (!ds.isEmpty)
  | .dct ds => some (!ds.isEmpty)
  | _ => none
def truR (r : Res) : Res := r.thn fun _ d => match truD d with | some b => .ok .fz (.bl b) | none => .stuck
theorem RepL.isEmpty {K : PySem.W.Frag} {F : Hp} {ds : List D} {xs : List V} (h : RepL K F ds xs) : ds.isEmpty = xs.isEmpty := by
  cases ds with
  | nil => simp only [RepL] at h; subst h; rfl
  | cons d ds => simp only [RepL] at h; obtain ⟨y, ys, rfl, _⟩ := h; rfl
theorem RepK.isEmpty {K : PySem.W.Frag} {F : Hp} {ds : List (Key × D)} {xs : List (Key × V)} (h : RepK K F ds xs) : ds.isEmpty = xs.isEmpty := by
  cases ds with
  | nil => simp only [RepK] at h; subst h; rfl
  | cons d ds => obtain ⟨k, d⟩ := d; simp only [RepK] at h; obtain ⟨y, ys, rfl, _⟩ := h; rfl
theorem truV_of {K : PySem.W.Frag} {F H : Hp} {m : Md} {d : D} {v : V} {k : Bool} (s : Same F H) (h : Rp K F H m d v) (e : truD d = some k) : TruV K v H k := by
  cases d with
  | non => cases h.non; cases e; rfl
  | bl b => cases h.bl; cases e; rfl
  | int i => cases h.int; cases e; rfl
  | str x => obtain ⟨rfl, hl, _⟩ := h.str; cases e; exact ⟨hl, rfl⟩
  | tup ds =>
    obtain ⟨a, xs, rfl, q, r⟩ := h.seqT s
    cases e
    exact .inr (.inl ⟨xs, q, by rw [r.isEmpty]⟩)
  | lst ds =>
    obtain ⟨a, xs, rfl, q, r⟩ := h.seqL s
    cases e
    exact .inl ⟨xs, q, by rw [r.isEmpty]⟩
  | dct ds =>
    obtain ⟨a, xs, rfl, q, r⟩ := h.dict s
    cases e
    exact .inr (.inr ⟨xs, q, by rw [r.isEmpty]⟩)
  | ty n => cases e
  | ob n => cases e
  | ins n => cases e
  | fn n => cases e
  | exn n => cases e
  | set n => cases e
/-- any expression whose test is its value's truth (he by fun _ => rfl) -/
theorem pt_tru (h : PV C X e g) (he : ∀ whole, isTrue e X.env whole = (do let v ← whole; standAt e.pos; holding [v] (truthy v)) := by intro _; rfl) : PTv C X e (fun ρ => truR (g ρ)) := by
  refine PT.imp (pt_truth h he) fun σ H Q q => ?_
  obtain ⟨ρ, F, R, w⟩ := q
  try dsimp only at w
  rw [tG_eq]
  refine ⟨ρ, F, R, ?_⟩
  cases er : g ρ with
  | stuck => rw [er] at w; exact w
  | exc c => rw [er] at w; exact w
  | ok m d =>
    rw [er] at w
    intro v F' H' st rp _
    have w : WantB (C.at X) F H σ (match truD d with | some b => .ok .fz (.bl b) | none => .stuck) Q := w
    cases ed : truD d with
    | none => rw [ed] at w; exact w.elim
    | some k => rw [ed] at w; exact ⟨k, truV_of st.sub rp ed, w F' H' st⟩
/-- a comparison as a test: its value is a bool -/
theorem pt_cmpv {op : CmpOp} {φ} (o : OpD C X (compareOp op) φ) (hb' : ∀ m x n y k d, φ m x n y = some (k, d) → ∃ t, k = .fz ∧ d = .bl t) (ha : PV C X a ga) (hb : PV C X b gb) (hm : behindInMarks op b = false) : PTv C X (.Compare a [op] [b] pos) (fun ρ => op2 φ (ga ρ) (gb ρ)) := by
  obtain ⟨r, h1, h2⟩ := o
  refine PT.imp (pt_cmpR h1 ha hb hm) fun σ H Q q => ?_
  obtain ⟨ρ, F, R, w⟩ := q
  try dsimp only at w
  unfold tTest
  refine tG_op2 h2 ?_
  rw [tG_eq]
  refine ⟨ρ, F, R, ?_⟩
  cases er : op2 φ (ga ρ) (gb ρ) with
  | stuck => rw [er] at w; exact w
  | exc c => rw [er] at w; exact w
  | ok m d =>
    rw [er] at w
    have : ∃ t, m = .fz ∧ d = .bl t := by
      unfold op2 at er
      cases e1 : ga ρ with
      | stuck => rw [e1] at er; cases er
      | exc c => rw [e1] at er; cases er
      | ok m1 d1 =>
        cases e2 : gb ρ with
        | stuck => rw [e1, e2] at er; cases er
        | exc c => rw [e1, e2] at er; cases er
        | ok m2 d2 =>
          rw [e1, e2] at er
          have er : Res.of (φ m1 d1 m2 d2) = .ok m d := er
          cases e3 : φ m1 d1 m2 d2 with
          | none => rw [e3] at er; cases er
          | some kd => rw [e3] at er; obtain ⟨k, d'⟩ := kd; cases er; exact hb' _ _ _ _ _ _ e3
    obtain ⟨t, rfl, rfl⟩ := this
    intro v F' H' st rp _
    cases rp.bl
    exact ⟨t, rfl, w F' H' st⟩
def andR (x : Res) (y : Res) : Res := x.thn fun _ d => match d with | .bl true => y | .bl false => .ok .fz (.bl false) | _ => .stuck
def orR (x : Res) (y : Res) : Res := x.thn fun _ d => match d with | .bl true => .ok .fz (.bl true) | .bl false => y | _ => .stuck
def notR (x : Res) : Res := x.thn fun _ d => match d with | .bl b => .ok .fz (.bl (!b)) | _ => .stuck
theorem pt_notv (ha : PTv C X a ga) : PTv C X (.UnaryOp .Not a pos) (fun ρ => notR (ga ρ)) := by
  refine PT.imp (pt_not ha) fun σ H Q q => ?_
  obtain ⟨ρ, F, R, w⟩ := q
  try dsimp only at w
  refine ⟨ρ, F, R, ?_⟩
  cases er : ga ρ with
  | stuck => rw [er] at w; exact w
  | exc c => rw [er] at w; exact w
  | ok m d =>
    rw [er] at w
    cases d with
    | bl b => exact w
    | _ => exact w
theorem pw_onev {op : BoolOp} (h : PTv C X a ga) : PWv C X (.BoolOp op [a] pos) ga := by
  cases op with
  | And => exact pw_and1 h
  | Or => exact pw_or1 h
theorem tT_and {σ : L2.St} {H : Hp} {Q : Bool → Hp → Prop} (q : tT C (fun ρ => andR (ga ρ) (gb ρ)) σ H Q) : tAnd (tT C ga) (tT C gb) σ H Q := by
  obtain ⟨ρ, F, R, w⟩ := q
  try dsimp only at w
  refine ⟨ρ, F, R, ?_⟩
  cases er : ga ρ with
  | stuck => rw [er] at w; exact w
  | exc c => rw [er] at w; exact w
  | ok m d =>
    rw [er] at w
    cases d with
    | bl b =>
      intro F' H' st
      cases b with
      | true =>
        rw [if_pos rfl]
        exact ⟨ρ, F', R.step st, WantB.step st w⟩
      | false =>
        rw [if_neg Bool.false_ne_true]
        exact w F' H' st
    | _ => exact w
theorem tT_or {σ : L2.St} {H : Hp} {Q : Bool → Hp → Prop} (q : tT C (fun ρ => orR (ga ρ) (gb ρ)) σ H Q) : tOr (tT C ga) (tT C gb) σ H Q := by
  obtain ⟨ρ, F, R, w⟩ := q
  try dsimp only at w
  refine ⟨ρ, F, R, ?_⟩
  cases er : ga ρ with
  | stuck => rw [er] at w; exact w
  | exc c => rw [er] at w; exact w
  | ok m d =>
    rw [er] at w
    cases d with
    | bl b =>
      intro F' H' st
      cases b with
      | true =>
        rw [if_pos rfl]
        exact w F' H' st
      | false =>
        rw [if_neg Bool.false_ne_true]
        exact ⟨ρ, F', R.step st, WantB.step st w⟩
    | _ => exact w
theorem pw_andv {rest : List Expr} (ha : PTv C X a ga) (hb : PWv C X (.BoolOp .And (b :: rest) pos) gb) : PWv C X (.BoolOp .And (a :: b :: rest) pos) (fun ρ => andR (ga ρ) (gb ρ)) := PW.imp (pw_and ha hb) fun _ _ _ q => tT_and q
theorem pw_orv {rest : List Expr} (ha : PTv C X a ga) (hb : PWv C X (.BoolOp .Or (b :: rest) pos) gb) : PWv C X (.BoolOp .Or (a :: b :: rest) pos) (fun ρ => orR (ga ρ) (gb ρ)) := PW.imp (pw_or ha hb) fun _ _ _ q => tT_or q
theorem pt_w (h : PWv C X e g) : PTv C X e g := PW.pt h
/-! .. as values -/
theorem pv_onev {op} (h : PV C X a ga) : PV C X (.BoolOp op [a] pos) ga := pe_one h
theorem pv_andv {rest : List Expr} (ha : PV C X a ga) (hb : PV C X (.BoolOp .And (b :: rest) pos) gb) : PV C X (.BoolOp .And (a :: b :: rest) pos) (fun ρ => andR (ga ρ) (gb ρ)) := by
  refine PE.imp (pe_and ha hb) fun σ H Q q => ?_
  unfold tAndV
  rw [tG_eq] at q ⊢
  obtain ⟨ρ, F, R, w⟩ := q
  try dsimp only at w
  refine ⟨ρ, F, R, ?_⟩
  cases er : ga ρ with
  | stuck => rw [er] at w; exact w
  | exc c => rw [er] at w; exact w
  | ok m d =>
    rw [er] at w
    cases d with
    | bl k =>
      intro v F' H' st rp _
      cases rp.bl
      refine ⟨k, rfl, ?_⟩
      cases k with
      | true =>
        rw [if_pos rfl, tG_eq]
        exact ⟨ρ, F', R.step st, Want.step st w⟩
      | false =>
        rw [if_neg Bool.false_ne_true]
        exact w (.bl false) F' H' st (rp_bl _) (by intro z; cases z)
    | _ => exact w.elim
theorem pv_orv {rest : List Expr} (ha : PV C X a ga) (hb : PV C X (.BoolOp .Or (b :: rest) pos) gb) : PV C X (.BoolOp .Or (a :: b :: rest) pos) (fun ρ => orR (ga ρ) (gb ρ)) := by
  refine PE.imp (pe_or ha hb) fun σ H Q q => ?_
  unfold tOrV
  rw [tG_eq] at q ⊢
  obtain ⟨ρ, F, R, w⟩ := q
  try dsimp only at w
  refine ⟨ρ, F, R, ?_⟩
  cases er : ga ρ with
  | stuck => rw [er] at w; exact w
  | exc c => rw [er] at w; exact w
  | ok m d =>
    rw [er] at w
    cases d with
    | bl k =>
      intro v F' H' st rp _
      cases rp.bl
      refine ⟨k, rfl, ?_⟩
      cases k with
      | true =>
        rw [if_pos rfl]
        exact w (.bl true) F' H' st (rp_bl _) (by intro z; cases z)
      | false =>
        rw [if_neg Bool.false_ne_true, tG_eq]
        exact ⟨ρ, F', R.step st, Want.step st w⟩
    | _ => exact w.elim
theorem pv_notv (ha : PV C X a ga) : PV C X (.UnaryOp .Not a pos) (fun ρ => notR (ga ρ)) := by
  refine PE.imp (pe_not ha) fun σ H Q q => ?_
  unfold tNotV
  rw [tG_eq] at q ⊢
  obtain ⟨ρ, F, R, w⟩ := q
  try dsimp only at w
  refine ⟨ρ, F, R, ?_⟩
  cases er : ga ρ with
  | stuck => rw [er] at w; exact w
  | exc c => rw [er] at w; exact w
  | ok m d =>
    rw [er] at w
    cases d with
    | bl k =>
      intro v F' H' st rp _
      cases rp.bl
      exact ⟨k, rfl, w _ F' H' st (rp_bl _) (by intro z; cases z)⟩
    | _ => exact w.elim
/-- one operand -/
def negR (x : Res) : Res := x.thn fun _ d => match d with | .int i => .ok .fz (.int (-i)) | _ => .stuck
theorem pv_neg (ha : PV C X a ga) : PV C X (.UnaryOp .USub a pos) (fun ρ => negR (ga ρ)) := by
  refine PE.imp (pe_un un_neg ha) fun σ H Q q => ?_
  unfold tUn
  rw [tG_eq] at q ⊢
  obtain ⟨ρ, F, R, w⟩ := q
  try dsimp only at w
  refine ⟨ρ, F, R, ?_⟩
  cases er : ga ρ with
  | stuck => rw [er] at w; exact w
  | exc c => rw [er] at w; exact w
  | ok m d =>
    rw [er] at w
    cases d with
    | int i =>
      intro v F' H' st rp _
      cases rp.int
      exact ⟨i, rfl, w _ F' H' st (rp_int _) (by intro z; cases z)⟩
    | _ => exact w.elim

/-! ### subscripts -/
def ixD : Md → D → Md → D → Option (Md × D) := fun _ x _ y => match x, y with
  | .lst ds, .int i => (atI ds i).map fun d => (.fz, d)
  | .tup ds, .int i => (atI ds i).map fun d => (.fz, d)
  | .str z, .int i => (atI z.cps.toList i).map fun c => (.fz, .str ⟨#[c]⟩)
  | _, _ => none
theorem RepL.atI {K : PySem.W.Frag} {F : Hp} {ds : List D} {xs : List V} {i : Int} {d : D} (h : RepL K F ds xs) (e : atI ds i = some d) : ∃ x, L2.atI xs i = some x ∧ RepV K F d x := by
  unfold L2.atI at *
  rw [h.length]
  cases q : ixN ds.length i with
  | none => rw [q] at e; cases e
  | some j => rw [q] at e; exact h.get' e
theorem ixD_rule {F H : Hp} {m n k : Md} {x y d : D} {v u : V} {Q : VK} (s : Same F H) (rx : Rp X.K F H m x v) (ry : Rp X.K F H n y u) (e : ixD m x n y = some (k, d))
    (w : ∀ v' F' H', Step F H F' H' → Rp X.K F' H' k d v' → (k = .fr → ∀ a, v' = .ref a → H a = none) → Q v' H') : rIx X.K v u H Q := by
  unfold ixD at e
  split at e
  · rename_i ds i
    cases ry.int
    obtain ⟨p, xs, rfl, hq, r⟩ := rx.seqL s
    cases ei : atI ds i with
    | none => rw [ei] at e; cases e
    | some d' =>
      rw [ei] at e; cases e
      obtain ⟨x', ex, rx'⟩ := r.atI ei
      exact .inl ⟨p, xs, i, x', rfl, rfl, hq, ex, w x' F H (.refl s) rx' (by intro z; cases z)⟩
  · rename_i ds i
    cases ry.int
    obtain ⟨p, xs, rfl, hq, r⟩ := rx.seqT s
    cases ei : atI ds i with
    | none => rw [ei] at e; cases e
    | some d' =>
      rw [ei] at e; cases e
      obtain ⟨x', ex, rx'⟩ := r.atI ei
      exact .inr (.inl ⟨p, xs, i, x', rfl, rfl, hq, ex, w x' F H (.refl s) rx' (by intro z; cases z)⟩)
  · rename_i z i
    cases ry.int
    obtain ⟨rfl, hl, hk⟩ := rx.str
    cases ei : atI z.cps.toList i with
    | none => rw [ei] at e; cases e
    | some c =>
      rw [ei] at e; cases e
      refine .inr (.inr ⟨z, i, c, rfl, rfl, hl, ei, w _ F H (.refl s) (rp_str ⟨?_, ?_⟩) (by intro z; cases z)⟩)
      · show 1 ≤ sizeLine; decide
      · obtain ⟨j, _, hj, _⟩ := atI_get ei
        unfold PyData.strOk at hk ⊢
        rw [Array.all_eq_true_iff_forall_mem] at hk
        have hc := hk c (by rw [← Array.mem_toList_iff]; exact List.mem_of_getElem? hj)
        simpa using hc
  · cases e
theorem pv_ix (ha : PV C X a ga) (hb : PV C X b gb) (hs : PlainIx b := by intro _ _; rfl) : PV C X (.Subscript a b pos) (fun ρ => op2 ixD (ga ρ) (gb ρ)) := by
  exact PE.imp (pe_ix ix_seq ha hb hs) fun σ H Q q => tG_op2 (fun F H m x n y v u k d Q s rx ry e w => ixD_rule s rx ry e w) q
/-! ### slices of texts -/
def POv (C : Cw) (X : Cx) : Option Expr → Option (Rho → Res) → Prop
  | none, none => True
  | some e, some g => PV C X e g
  | _, _ => False
/-! ### a text times a number -/
end
end D3

namespace D3
open PySem PySem.Spec PyProof.Rows L2

/-! ### argument lists -/
inductive ResL where
  | ok (xs : List (Md × D)) | exc (c : Str) | stuck
def RpL (K : PySem.W.Frag) (F H : Hp) : List (Md × D) → List V → Prop
  | [], vs => vs = []
  | (m, d) :: r, vs => ∃ v us, vs = v :: us ∧ Rp K F H m d v ∧ RpL K F H r us
theorem RpL.step {K : PySem.W.Frag} {F H F' H' : Hp} (st : Step F H F' H') : ∀ {xs : List (Md × D)} {vs : List V}, RpL K F H xs vs → RpL K F' H' xs vs
  | [], _, h => h
  | (m, d) :: r, _, h => by obtain ⟨v, us, e, r1, r2⟩ := h; exact ⟨v, us, e, r1.step st, RpL.step st r2⟩
def ResL.thn (r : ResL) (k : List (Md × D) → Res) : Res := match r with
  | .ok xs => k xs
  | .exc c => .exc c
  | .stuck => .stuck
@[simp] theorem ResL.thn_ok (xs : List (Md × D)) (k : List (Md × D) → Res) : (ResL.ok xs).thn k = k xs := rfl
@[simp] theorem ResL.thn_exc (c : Str) (k : List (Md × D) → Res) : (ResL.exc c).thn k = .exc c := rfl
@[simp] theorem ResL.thn_stuck (k : List (Md × D) → Res) : ResL.stuck.thn k = .stuck := rfl
def WantL (C : Cw) (F H : Hp) (σ : L2.St) (r : ResL) (Q : List V → Hp → Prop) : Prop := match r with
  | .ok xs => ∀ vs F' H', Step F H F' H' → RpL C.K F' H' xs vs → Q vs H'
  | .exc c => ∀ F' H', Step F H F' H' → C.EE c σ H'
  | .stuck => False
theorem WantL.step {C : Cw} {F H F1 H1 : Hp} {σ : L2.St} {r : ResL} {Q : List V → Hp → Prop} (st : Step F H F1 H1) (h : WantL C F H σ r Q) : WantL C F1 H1 σ r Q := by
  cases r with
  | ok m => exact fun v F' H' s2 rp => h v F' H' (st.trans s2) rp
  | exc c => exact fun F' H' s2 => h F' H' (st.trans s2)
  | stuck => exact h
def tAv (C : Cw) (g : Rho → ResL) : TA := fun σ H Q => ∃ ρ F, RelSt C.K C.F0 C.H0 F H σ ρ ∧ WantL C F H σ (g ρ) Q
def PAv (C : Cw) (X : Cx) (es : List Expr) (g : Rho → ResL) : Prop := PA X es (tAv (C.at X) g)
theorem PA.imp {X : Cx} {e : List Expr} {t t' : TA} (h : PA X e t) (i : ∀ σ H Q, t' σ H Q → t σ H Q) : PA X e t' := fun p pins s σ H Q I q => h p pins s σ H Q I (i σ H Q q)
def consL (x : Res) (y : ResL) : ResL := match x with
  | .ok m d => (match y with | .ok r => .ok ((m, d) :: r) | .exc c => .exc c | .stuck => .stuck)
  | .exc c => .exc c
  | .stuck => .stuck
@[simp] theorem consL_ok (m : Md) (d : D) (r : List (Md × D)) : consL (.ok m d) (.ok r) = .ok ((m, d) :: r) := rfl
section
variable {C : Cw} {X : Cx} {a b c e : Expr} {es : List Expr} {ga gb gc g : Rho → Res} {gs : Rho → ResL} {pos p : Pos} {x : Str}
theorem pav_nil : PAv C X [] (fun _ => .ok []) := PA.imp pa_nil fun σ H Q q => by
  obtain ⟨ρ, F, R, w⟩ := q
  exact w [] F H (.refl R.sub) rfl
theorem pav_cons (ha : PV C X e g) (hr : PAv C X es gs) (hs : starEach (e :: es) X.env = (false, eval e X.env) :: starEach es X.env := by rfl) : PAv C X (e :: es) (fun ρ => consL (g ρ) (gs ρ)) := by
  refine PA.imp (pa_cons ha hr hs) fun σ H Q q => ?_
  unfold tCons
  obtain ⟨ρ, F, R, w⟩ := q
  dsimp only at w
  rw [tG_eq]
  refine ⟨ρ, F, R, ?_⟩
  cases er : g ρ with
  | stuck => rw [er] at w; exact w
  | exc c => rw [er] at w; exact w
  | ok m d =>
    rw [er] at w
    intro v F1 H1 s1 r1 _
    refine ⟨ρ, F1, R.step s1, ?_⟩
    have w1 := WantL.step s1 w
    cases es' : gs ρ with
    | stuck => rw [es'] at w1; exact w1
    | exc c => rw [es'] at w1; exact w1
    | ok r =>
      rw [es'] at w1
      intro vs F2 H2 s2 r2
      exact w1 (v :: vs) F2 H2 s2 ⟨v, vs, rfl, r1.step s2, r2⟩
/-! ### displays -/
/-- all frozen: the data alone -/
def allFz : List (Md × D) → Option (List D)
  | [] => some []
  | (.fz, d) :: r => (allFz r).map (d :: ·)
  | _ :: _ => none
theorem RpL.fz {K : PySem.W.Frag} {F H : Hp} : ∀ {xs : List (Md × D)} {vs : List V} {ds : List D}, RpL K F H xs vs → allFz xs = some ds → RepL K F ds vs
  | [], _, _, h, e => by cases e; rw [show _ = [] from h]; exact RepL.nil
  | (.fz, d) :: r, _, _, h, e => by
    obtain ⟨v, us, rfl, r1, r2⟩ := h
    unfold allFz at e
    cases q : allFz r with
    | none => rw [q] at e; cases e
    | some ds' => rw [q] at e; cases e; exact RepL.cons r1 (RpL.fz r2 q)
  | (.fr, d) :: r, _, _, h, e => by cases e
  | (.bo, d) :: r, _, _, h, e => by cases e
def tupR (r : ResL) : Res := r.thn fun xs => match allFz xs with | some ds => if ds.length ≤ sizeLine then .ok .fz (.tup ds) else .stuck | none => .stuck
def lstR (r : ResL) : Res := r.thn fun xs => match allFz xs with | some ds => if ds.length ≤ sizeLine then .ok .fr (.lst ds) else .stuck | none => .stuck
theorem RepV.tup_of {K : PySem.W.Frag} {F : Hp} {p : Addr} {ds : List D} {xs : List V} (hp : F p = none) (r : RepL K F ds xs) : RepV K (upd F p (.tup xs)) (.tup ds) (.ref p) := by
  simp only [RepV]
  exact ⟨p, xs, rfl, SqT.of upd_same, r.mono (fun b u q => by rw [upd_ne (ne_of_none q hp)]; exact q) _ _⟩
theorem pv_tup {x1} (h : PAv C X es gs) : PV C X (.Tuple es x1 pos) (fun ρ => tupR (gs ρ)) := by
  refine PE.imp (pe_tup h) fun σ H Q q => ?_
  unfold tTup
  rw [tG_eq] at q
  obtain ⟨ρ, F, R, w⟩ := q
  refine ⟨ρ, F, R, ?_⟩
  cases er : gs ρ with
  | stuck => rw [er] at w; exact w
  | exc c => rw [er] at w; exact w
  | ok xs =>
    rw [er] at w
    intro vs F1 H1 s1 r1
    have w1 : Want (C.at X) F1 H1 σ (match allFz xs with | some ds => if ds.length ≤ sizeLine then .ok .fz (.tup ds) else .stuck | none => .stuck) Q := Want.step s1 w
    cases ef : allFz xs with
    | none => rw [ef] at w1; exact w1.elim
    | some ds =>
      rw [ef] at w1
      dsimp only at w1
      split at w1
      · rename_i hl
        have r2 := r1.fz ef
        refine ⟨by rw [r2.length]; exact hl, fun p hp => ?_⟩
        exact w1 (.ref p) _ _ (Step.laid (.tup vs) s1.sub hp) (RepV.tup_of (s1.sub.free hp) r2) (by intro z; cases z)
      · exact w1.elim
theorem pv_lst (h : PAv C X es gs) : PV C X (.List es pos) (fun ρ => lstR (gs ρ)) := by
  refine PE.imp (pe_lst h) fun σ H Q q => ?_
  unfold tLst
  rw [tG_eq] at q
  obtain ⟨ρ, F, R, w⟩ := q
  refine ⟨ρ, F, R, ?_⟩
  cases er : gs ρ with
  | stuck => rw [er] at w; exact w
  | exc c => rw [er] at w; exact w
  | ok xs =>
    rw [er] at w
    intro vs F1 H1 s1 r1
    have w1 : Want (C.at X) F1 H1 σ (match allFz xs with | some ds => if ds.length ≤ sizeLine then .ok .fr (.lst ds) else .stuck | none => .stuck) Q := Want.step s1 w
    cases ef : allFz xs with
    | none => rw [ef] at w1; exact w1.elim
    | some ds =>
      rw [ef] at w1
      dsimp only at w1
      split at w1
      · rename_i hl
        have r2 := r1.fz ef
        refine ⟨by rw [r2.length]; exact hl, fun p hp => ?_⟩
        refine w1 (.ref p) F1 _ (Step.fresh (.lst vs) s1.sub hp) ⟨p, rfl, s1.sub.free hp, vs, upd_same, r2⟩ fun _ a ea => by cases ea; exact hp
      · exact w1.elim
/-! ### calls of what Python has -/
def CallD (X : Cx) (f : Value) (φ : List (Md × D) → Option (Md × D)) : Prop :=
  ∃ r : List V → Hp → VK → Prop, CallR X f r ∧ ∀ F H xs vs k d Q, Same F H → RpL X.K F H xs vs → φ xs = some (k, d) →
    (∀ v' F' H', Step F H F' H' → Rp X.K F' H' k d v' → (k = .fr → ∀ a, v' = .ref a → H a = none) → Q v' H') → r vs H Q
def callR (φ : List (Md × D) → Option (Md × D)) (r : ResL) : Res := r.thn fun xs => Res.of (φ xs)
theorem tG_call {φ : List (Md × D) → Option (Md × D)} {r : List V → Hp → VK → Prop} (h : ∀ F H xs vs k d Q, Same F H → RpL C.K F H xs vs → φ xs = some (k, d) →
    (∀ v' F' H', Step F H F' H' → Rp C.K F' H' k d v' → (k = .fr → ∀ a, v' = .ref a → H a = none) → Q v' H') → r vs H Q) {σ : L2.St} {H : Hp} {Q : VK}
    (q : tG C (fun ρ => callR φ (gs ρ)) σ H Q) : tCB r (tAv C gs) σ H Q := by
  unfold tCB
  rw [tG_eq] at q
  obtain ⟨ρ, F, R, w⟩ := q
  refine ⟨ρ, F, R, ?_⟩
  cases er : gs ρ with
  | stuck => rw [er] at w; exact w
  | exc c => rw [er] at w; exact w
  | ok xs =>
    rw [er] at w
    intro vs F1 H1 s1 r1
    have w1 : Want C F1 H1 σ (Res.of (φ xs)) Q := Want.step s1 w
    cases ef : φ xs with
    | none => rw [ef] at w1; exact w1.elim
    | some kd => obtain ⟨k, d⟩ := kd; rw [ef] at w1; exact h F1 H1 xs vs k d Q s1.sub r1 ef w1
theorem pv_callB {id : String} {φ} (o : CallD X (.builtin id) φ) (hg : Gl X x) (hm : X.mg x = none) (hv : bootBuiltins x = some (.builtin id)) (ha : PAv C X (e :: es) gs) (hn : x ≠ "__name__" := by decide) (hdb : (x == ("__debug__" : Str)) = false := by decide)
    (he : starEach (e :: es) X.env = (false, eval e X.env) :: starEach es X.env := by rfl) (hpl : (backTo pos (starEach es X.env)).any (·.1) = false := by rfl) : PV C X (.Call (.Name x p) (e :: es) [] pos) (fun ρ => callR φ (gs ρ)) := by
  obtain ⟨r, h1, h2⟩ := o
  exact PE.imp (pe_callB h1 hg hm hv ha hn hdb he hpl) fun σ H Q q => tG_call h2 q
def CallD.or' (φ ψ : List (Md × D) → Option (Md × D)) : List (Md × D) → Option (Md × D) := fun xs => (φ xs).orElse fun _ => ψ xs
theorem CallD.or {f : Value} {φ ψ} (h : CallD X f φ) (h' : CallD X f ψ) : CallD X f (CallD.or' φ ψ) := by
  obtain ⟨r, h1, h2⟩ := h
  obtain ⟨r', h1', h2'⟩ := h'
  refine ⟨_, CallR.or h1 h1', fun F H xs vs k d Q s rx e w => ?_⟩
  unfold CallD.or' at e
  cases e1 : φ xs with
  | none => rw [e1] at e; exact .inr (h2' F H xs vs k d Q s rx e w)
  | some p => rw [e1] at e; cases e; exact .inl (h2 F H xs vs k d Q s rx e1 w)
/-! len -/
def lenD : List (Md × D) → Option (Md × D)
  | [(_, .str z)] => some (.fz, .int z.length)
  | [(_, .lst ds)] => some (.fz, .int ds.length)
  | [(_, .tup ds)] => some (.fz, .int ds.length)
  | _ => none
theorem RpL.one {K : PySem.W.Frag} {F H : Hp} {m : Md} {d : D} {vs : List V} (h : RpL K F H [(m, d)] vs) : ∃ v, vs = [v] ∧ Rp K F H m d v := by
  obtain ⟨v, us, rfl, r, e⟩ := h
  exact ⟨v, by rw [show us = [] from e], r⟩
theorem RpL.two {K : PySem.W.Frag} {F H : Hp} {m n : Md} {d e : D} {vs : List V} (h : RpL K F H [(m, d), (n, e)] vs) : ∃ v u, vs = [v, u] ∧ Rp K F H m d v ∧ Rp K F H n e u := by
  obtain ⟨v, us, rfl, r, v', us', rfl, r', e⟩ := h
  exact ⟨v, v', by rw [show us' = [] from e], r, r'⟩
theorem calld_len : CallD X (.builtin "len") lenD := by
  refine ⟨_, call_len, fun F H xs vs k d Q s rx e w => ?_⟩
  unfold lenD at e
  split at e
  · rename_i m z
    cases e
    obtain ⟨v, rfl, r⟩ := rx.one
    obtain ⟨rfl, hz, _⟩ := r.str
    exact ⟨_, z.length, rfl, ⟨hz, rfl⟩, w _ F H (.refl s) (rp_int _) (by intro z; cases z)⟩
  · rename_i m ds
    cases e
    obtain ⟨v, rfl, r⟩ := rx.one
    obtain ⟨a, xs, rfl, q, rl⟩ := r.seqL s
    exact ⟨_, xs.length, rfl, .inl ⟨xs, q, rfl⟩, by rw [rl.length]; exact w _ F H (.refl s) (rp_int _) (by intro z; cases z)⟩
  · rename_i m ds
    cases e
    obtain ⟨v, rfl, r⟩ := rx.one
    obtain ⟨a, xs, rfl, q, rl⟩ := r.seqT s
    exact ⟨_, xs.length, rfl, .inr ⟨xs, q, rfl⟩, by rw [rl.length]; exact w _ F H (.refl s) (rp_int _) (by intro z; cases z)⟩
  · cases e
/-! isinstance by a type of Python's own -/
def tyN : D → Option String
  | .non => some "NoneType" | .bl _ => some "bool" | .int _ => some "int" | .str _ => some "str" | .tup _ => some "tuple" | .lst _ => some "list" | .dct _ => some "dict" | _ => none
def isTy (t c : String) : Option Bool := if ["int", "bool", "str", "list", "tuple", "dict"].contains c = true then some (t == c || (t == "bool" && c == "int")) else none
def isiD : List (Md × D) → Option (Md × D)
  | [(_, d), (_, .ty c)] => match tyN d with | some t => (isTy t c).map fun b => (.fz, .bl b) | none => none
  | _ => none
theorem kit_of {K : PySem.W.Frag} {d : D} {t c : String} {b : Bool} (ht : tyN d = some t) (e : isTy t c = some b) : PySem.W.kitOne K (.type t) (.type c) = some b := by
  unfold isTy at e
  split at e
  · rename_i hc
    simp only [List.contains_cons, List.contains_nil, Bool.or_false, Bool.or_eq_true, beq_iff_eq] at hc
    cases e
    have ht' : t = "NoneType" ∨ t = "bool" ∨ t = "int" ∨ t = "str" ∨ t = "tuple" ∨ t = "list" ∨ t = "dict" := by
      cases d <;> cases ht <;> simp
    rcases hc with rfl | rfl | rfl | rfl | rfl | rfl <;> rcases ht' with rfl | rfl | rfl | rfl | rfl | rfl | rfl <;> rfl
  · cases e
theorem calld_isi : CallD X (.builtin "isinstance") isiD := by
  refine ⟨fun vs H Q => ∃ (F : Hp) (m : Md) (d : D) (v : V) (t c : String) (b : Bool), Same F H ∧ Rp X.K F H m d v ∧ vs = [v, .ty c] ∧ tyN d = some t ∧ isTy t c = some b ∧ Q (.bl b) H, ?_, ?_⟩
  · intro pins s σ H xs us Q I r h
    obtain ⟨F, m, d, v, t, c, b, sF, rp, rfl, ht, hb, q⟩ := h
    obtain ⟨u, u', rfl, ru, ru'⟩ := vals2 r
    cases (show u' = Value.type c from ru')
    have e := kit_of (K := X.K) ht hb
    have fin : ∀ tk, EP X pins σ Q (.bool b) { s with toks := tk } := fun tk => ⟨.bl b, H, I.tok _, rfl, q⟩
    cases d with
    | non => cases rp.non; cases ht; cases (show u = Value.none from ru); exact PySem.W.kia_one PySem.W.kitx_none I.kIn True.intro e (fun z => nomatch z) fin
    | bl y => cases rp.bl; cases ht; cases (show u = Value.bool y from ru); exact PySem.W.kia_one PySem.W.kitx_bool I.kIn True.intro e (fun z => nomatch z) fin
    | int i => cases rp.int; cases ht; obtain ⟨t, q⟩ := (show ∃ t, u = Value.int i t from ru); cases q; exact PySem.W.kia_one PySem.W.kitx_int I.kIn True.intro e (fun z => nomatch z) fin
    | str y => obtain ⟨rfl, _⟩ := rp.str; cases ht; obtain ⟨t, q⟩ := (show ∃ t, u = Value.str y t from ru); cases q; exact PySem.W.kia_one PySem.W.kitx_str I.kIn True.intro e (fun z => nomatch z) fin
    | tup ds =>
      obtain ⟨a, xs, rfl, hq, _⟩ := rp.seqT sF
      cases ht
      cases (show u = Value.ref a from ru)
      obtain ⟨its, _, ⟨o, h1, h2, _⟩, _⟩ := I.tuple hq
      exact PySem.W.kia_one PySem.W.kitx_tuple I.kIn ⟨o, h1, h2⟩ e (fun z => nomatch z) fin
    | lst ds =>
      obtain ⟨a, xs, rfl, hq, _⟩ := rp.seqL sF
      cases ht
      cases (show u = Value.ref a from ru)
      obtain ⟨its, _, ⟨o, n, h1, h2, _⟩, _⟩ := I.list hq
      exact PySem.W.kia_one PySem.W.kitx_list I.kIn ⟨o, h1, h2⟩ e (fun z => nomatch z) fin
    | dct ds =>
      obtain ⟨a, xs, rfl, hq, _⟩ := rp.dict sF
      cases ht
      cases (show u = Value.ref a from ru)
      obtain ⟨_, _, vs, _, p⟩ := (show ObjOk X.prog X.w H s.heap a (.dK xs) from I.hok a _ hq)
      obtain ⟨o, es, ep, h1, h2, _⟩ := p
      exact PySem.W.kia_one PySem.W.kitx_dict I.kIn ⟨o, h1, h2.1⟩ e (fun z => nomatch z) fin
    | _ => cases ht
  · intro F H xs vs k d Q s rx e w
    unfold isiD at e
    split at e
    · rename_i m d' n c
      obtain ⟨v, u, rfl, r1, r2⟩ := rx.two
      cases r2.ty
      cases et : tyN d' with
      | none => rw [et] at e; cases e
      | some t =>
        rw [et] at e
        dsimp only at e
        cases eb : isTy t c with
        | none => rw [eb] at e; cases e
        | some b => rw [eb] at e; cases e; exact ⟨F, m, d', v, t, c, b, s, r1, rfl, et, eb, w _ F H (.refl s) (rp_bl _) (by intro z; cases z)⟩
    · cases e
/-- the name of a type of Python's own, as a value -/
theorem pv_ty {T : String} (hg : Gl X x) (hm : X.mg x = none) (hv : bootBuiltins x = some (.type T)) (hn : x ≠ "__name__" := by decide) (hd : (x == ("__debug__" : Str)) = false := by decide) : PV C X (.Name x pos) (fun _ => .ok .fz (.ty T)) :=
  pv_con _ (pe_bltn (v := .ty T) hg hm hv rfl hn hd) fun _ _ => rp_ty T
/-- a module's value: a text, a number -/
theorem pv_globS {y : Str} {t : Tok} (hg : Gl X x) (hm : X.mg x = some (.str y t)) (h : (decide (y.length ≤ sizeLine) && PyData.strOk y) = true := by decide +kernel) (hd : (x == ("__debug__" : Str)) = false := by decide) : PV C X (.Name x pos) (fun _ => .ok .fz (.str y)) :=
  pv_con _ (pe_glob (v := .str y) hg hm ⟨t, rfl⟩ hd) fun _ _ => rp_str (by rw [Bool.and_eq_true, decide_eq_true_eq] at h; exact h)
theorem pv_globI {y : Int} {t : Tok} (hg : Gl X x) (hm : X.mg x = some (.int y t)) (hd : (x == ("__debug__" : Str)) = false := by decide) : PV C X (.Name x pos) (fun _ => .ok .fz (.int y)) :=
  pv_con _ (pe_glob (v := .int y) hg hm ⟨t, rfl⟩ hd) fun _ _ => rp_int _
/-! all, any over a list of bools -/
def blsD : List D → Option (List Bool)
  | [] => some []
  | .bl b :: r => (blsD r).map (b :: ·)
  | _ => none
def allD : List (Md × D) → Option (Md × D)
  | [(_, .lst ds)] => (blsD ds).map fun bs => (.fz, .bl (bs.all id))
  | _ => none
theorem blsD_rep {K : PySem.W.Frag} {F : Hp} : ∀ {ds : List D} {xs : List V} {bs : List Bool}, RepL K F ds xs → blsD ds = some bs → xs = bs.map V.bl
  | [], _, _, h, e => by cases e; simp only [RepL] at h; exact h
  | d :: ds, _, _, h, e => by
    simp only [RepL] at h
    obtain ⟨y, ys, rfl, r, t⟩ := h
    cases d with
    | bl b =>
      unfold blsD at e
      cases q : blsD ds with
      | none => rw [q] at e; cases e
      | some bs =>
        rw [q] at e; cases e
        simp only [RepV] at r
        subst r
        rw [blsD_rep t q]; rfl
    | _ => cases e
theorem range_all_get (bs : List Bool) : (List.range bs.length).all (fun i => bs.getD i true) = bs.all id := by
  rw [Bool.eq_iff_iff, List.all_eq_true, List.all_eq_true]
  constructor
  · intro h b hb
    obtain ⟨i, hi, e⟩ := List.getElem_of_mem hb
    have := h i (List.mem_range.mpr hi)
    rw [List.getD_eq_getElem?_getD, List.getElem?_eq_getElem hi] at this
    rw [← e]; exact this
  · intro h i hi
    have hi := List.mem_range.mp hi
    rw [List.getD_eq_getElem?_getD, List.getElem?_eq_getElem hi]
    exact h _ (List.getElem_mem hi)
theorem calls_bls {prog : Program} {w : World} {pins : List (Addr × Obj)} {σ : L2.St} {H : Hp} {s : Shared} {a : Addr} {bs : List Bool} (hc : X.calm = true) (I : Inv X pins σ H s) (hq : SqL X.K H a (bs.map V.bl)) {E : Value → Shared → Prop} {Q : Value → Shared → Prop}
    (h : ∀ (it : Value) (s2 : Shared), (∃ I' fp wr n P St tr, it = .ref I' ∧ Walks prog w X.A.in1 I' fp wr n P St ∧ St 0 s2.heap ∧ TruthOf prog w X.A.in1 P tr ∧ n = bs.length ∧ (∀ i, tr i = bs.getD i true) ∧
      ∀ h' tk, (∀ b o, b ∉ wr → s2.heap.get? b = some o → h'.get? b = some o) → ∃ s3 : Shared, s3 = { s2 with heap := h', toks := tk } ∧ Inv X pins σ H s3) → Q it s2) :
    wpAny (model prog w) X.A.in1 (pyIter (.ref a)) Q E s := by
  obtain ⟨its, rv, p, hz⟩ := I.list hq
  have hlen := rv.length
  rw [List.length_map] at hlen
  refine wpAny_pyIter_list p.isList (h _ _ ⟨s.heap.objs.size, _, _, _, _, _, fun i => bs.getD i true, rfl, Walks.list (by show X.A.handled = none; exact I.ok.hd hc) s.heap.objs.size a ?_ its.toArray, ⟨⟨_, Heap.get?_push_size _ rfl, rfl, rfl⟩, ?_⟩, ?_, ?_, fun _ => rfl, ?_⟩)
  · obtain ⟨o, n, e, _⟩ := p
    exact Nat.ne_of_lt (Heap.lt_size e)
  · obtain ⟨o, n, e, c, d, dd⟩ := p
    exact ⟨o, Heap.get?_push_of_some _ e, c, n, dd⟩
  · intro i v s' Q' E' hP hQ
    have hv : its[i]? = some v := by simpa using hP
    have hi : i < bs.length := by rw [hlen]; exact (List.getElem?_eq_some_iff.mp hv).1
    have hx : (bs.map V.bl)[i]? = some (V.bl bs[i]) := by rw [List.getElem?_map, List.getElem?_eq_getElem hi]; rfl
    obtain ⟨u, hu, ru⟩ := rv.get hx
    rw [hv] at hu; cases hu
    cases (show v = Value.bool _ from ru)
    have hQ : Q' (bs.getD i true) s' := hQ
    rw [List.getD_eq_getElem?_getD, List.getElem?_eq_getElem hi] at hQ
    exact wpAny_truthy_bool hQ
  · rw [List.size_toArray, hlen]
  · intro h' tk hk
    refine ⟨_, rfl, ?_⟩
    refine (I.kept (t' := tk) (h' := h') fun b o e => ?_)
    refine hk b o (by intro hb; have : b = s.heap.objs.size := by simpa using hb
                      subst this; exact absurd (Heap.lt_size e) (Nat.lt_irrefl _)) (Heap.get?_push_of_some _ e)
theorem calld_all (hc : X.calm = true) : CallD X (.builtin "all") allD := by
  refine ⟨fun vs H Q => ∃ (a : Addr) (bs : List Bool), vs = [.ref a] ∧ SqL X.K H a (bs.map V.bl) ∧ Q (.bl (bs.all id)) H, ?_, ?_⟩
  · intro pins s σ H xs us Q I r h
    obtain ⟨a, bs, rfl, hq, q⟩ := h
    obtain ⟨u, rfl, ru⟩ := vals1 r
    cases (show u = Value.ref a from ru)
    refine call_all_walk (calls_bls hc I hq fun it s2 hh => ?_)
    obtain ⟨I', fp, wr, n, P, St, tr, rfl, W, st, T, rfl, htr, fin⟩ := hh
    refine ⟨I', fp, wr, _, P, St, tr, rfl, W, st, T, fun h' tk hk => ?_⟩
    obtain ⟨s3, rfl, I3⟩ := fin h' tk hk
    have e : (List.range bs.length).all tr = bs.all id := by rw [← range_all_get]; congr 1; funext i; exact htr i
    rw [e]
    exact ⟨.bl (bs.all id), H, I3, rfl, q⟩
  · intro F H xs vs k d Q s rx e w
    unfold allD at e
    split at e
    · rename_i m ds
      obtain ⟨v, rfl, r⟩ := rx.one
      obtain ⟨a, xs, rfl, hq, rl⟩ := r.seqL s
      cases eb : blsD ds with
      | none => rw [eb] at e; cases e
      | some bs =>
        rw [eb] at e; cases e
        have := blsD_rep rl eb
        subst this
        exact ⟨a, bs, rfl, hq, w _ F H (.refl s) (rp_bl _) (by intro z; cases z)⟩
    · cases e
end
end D3

namespace D3
open PySem PySem.Spec PyProof.Rows L2

inductive SRes where
  | nx (ρ : Rho) | rt (m : Md) (d : D) | bk (ρ : Rho) | ct (ρ : Rho) | exc (c : Str) (ρ : Rho) | stuck
def WantS (C : Cw) (Fa : Hp) (r : SRes) (E : Ends) : Prop := match r with
  | .nx ρ => ∀ σ F H, Same Fa F → RelSt C.K C.F0 C.H0 F H σ ρ → E.nx σ H
  | .bk ρ => ∀ σ F H, Same Fa F → RelSt C.K C.F0 C.H0 F H σ ρ → E.bk σ H
  | .ct ρ => ∀ σ F H, Same Fa F → RelSt C.K C.F0 C.H0 F H σ ρ → E.ct σ H
  | .exc c ρ => ∀ σ F H, Same Fa F → RelSt C.K C.F0 C.H0 F H σ ρ → C.EE c σ H
  | .rt m d => ∀ v F H, Step C.F0 C.H0 F H → Rp C.K F H m d v → (m = .fr → ∀ a, v = .ref a → C.H0 a = none) → E.rt v H
  | .stuck => False
theorem WantS.mono {C : Cw} {F F1 : Hp} {r : SRes} {E : Ends} (s : Same F F1) (w : WantS C F r E) : WantS C F1 r E := by
  cases r with
  | nx ρ => exact fun σ F' H' z R => w σ F' H' (s.trans z) R
  | bk ρ => exact fun σ F' H' z R => w σ F' H' (s.trans z) R
  | ct ρ => exact fun σ F' H' z R => w σ F' H' (s.trans z) R
  | exc c ρ => exact fun σ F' H' z R => w σ F' H' (s.trans z) R
  | rt m d => exact w
  | stuck => exact w
def tH (C : Cw) (g : Rho → SRes) : TS := fun E σ H => ∃ ρ F, RelSt C.K C.F0 C.H0 F H σ ρ ∧ WantS C F (g ρ) E
def PSv (C : Cw) (X : Cx) (st : Stmt) (g : Rho → SRes) : Prop := PS X st (tH (C.at X) g)
def PBv (C : Cw) (X : Cx) (st : List Stmt) (g : Rho → SRes) : Prop := PSs X st (tH (C.at X) g)
theorem PS.imp {X : Cx} {e : Stmt} {t t' : TS} (h : PS X e t) (i : ∀ E σ H, t' E σ H → t E σ H) : PS X e t' := fun pins s σ H E I q => h pins s σ H E I (i E σ H q)
theorem PSs.imp {X : Cx} {e : List Stmt} {t t' : TS} (h : PSs X e t) (i : ∀ E σ H, t' E σ H → t E σ H) : PSs X e t' := fun pins s σ H E I q => h pins s σ H E I (i E σ H q)
def SRes.thn (r : SRes) (k : Rho → SRes) : SRes := match r with
  | .nx ρ => k ρ
  | r => r
@[simp] theorem SRes.thn_nx (ρ : Rho) (k : Rho → SRes) : (SRes.nx ρ).thn k = k ρ := rfl
@[simp] theorem SRes.thn_rt (m : Md) (d : D) (k : Rho → SRes) : (SRes.rt m d).thn k = .rt m d := rfl
@[simp] theorem SRes.thn_bk (ρ : Rho) (k : Rho → SRes) : (SRes.bk ρ).thn k = .bk ρ := rfl
@[simp] theorem SRes.thn_ct (ρ : Rho) (k : Rho → SRes) : (SRes.ct ρ).thn k = .ct ρ := rfl
@[simp] theorem SRes.thn_exc (c : Str) (ρ : Rho) (k : Rho → SRes) : (SRes.exc c ρ).thn k = .exc c ρ := rfl
@[simp] theorem SRes.thn_stuck (k : Rho → SRes) : SRes.stuck.thn k = .stuck := rfl
section
variable {C : Cw} {X : Cx} {a b c e : Expr} {es : List Expr} {ga gb gc g : Rho → Res} {gs : Rho → ResL} {pos p : Pos} {x : Str} {st : Stmt} {sts : List Stmt} {h1 h2 : Rho → SRes}
/-! ### blocks -/
theorem pbv_nil : PBv C X [] (fun ρ => .nx ρ) := PSs.imp pss_nil fun E σ H q => by
  obtain ⟨ρ, F, R, w⟩ := q
  exact w σ F H (Same.refl _) R
theorem tH_seq {E : Ends} {σ : L2.St} {H : Hp} (q : tH C (fun ρ => (h1 ρ).thn h2) E σ H) : tSeq (tH C h1) (tH C h2) E σ H := by
  obtain ⟨ρ, F, R, w⟩ := q
  refine ⟨ρ, F, R, ?_⟩
  dsimp only at w
  cases er : h1 ρ with
  | nx ρ' =>
    rw [er] at w
    exact fun σ' F' H' z R' => ⟨ρ', F', R', WantS.mono z w⟩
  | rt m d => rw [er] at w; exact w
  | bk ρ' => rw [er] at w; exact w
  | ct ρ' => rw [er] at w; exact w
  | exc c ρ' => rw [er] at w; exact w
  | stuck => rw [er] at w; exact w
theorem pbv_cons (ha : PSv C X st h1) (hb : PBv C X sts h2) : PBv C X (st :: sts) (fun ρ => (h1 ρ).thn h2) := PSs.imp (pss_cons ha hb) fun E σ H q => tH_seq q
/-! ### plain statements -/
/-- by a value -/
def Res.thS (r : Res) (ρ : Rho) (k : Md → D → SRes) : SRes := match r with
  | .ok m d => k m d
  | .exc c => .exc c ρ
  | .stuck => .stuck
@[simp] theorem Res.thS_ok (m : Md) (d : D) (ρ : Rho) (k : Md → D → SRes) : (Res.ok m d).thS ρ k = k m d := rfl
@[simp] theorem Res.thS_exc (c : Str) (ρ : Rho) (k : Md → D → SRes) : (Res.exc c).thS ρ k = .exc c ρ := rfl
@[simp] theorem Res.thS_stuck (ρ : Rho) (k : Md → D → SRes) : Res.stuck.thS ρ k = .stuck := rfl
theorem tG_thS {F : Hp} {σ : L2.St} {H : Hp} {ρ : Rho} {k : Md → D → SRes} {E : Ends} {Q : VK} (R : RelSt C.K C.F0 C.H0 F H σ ρ) (w : WantS C F ((g ρ).thS ρ k) E)
    (h : ∀ m d v F' H', WantS C F' (k m d) E → Step F H F' H' → RelSt C.K C.F0 C.H0 F' H' σ ρ → Rp C.K F' H' m d v → (m = .fr → ∀ a, v = .ref a → H a = none) → Q v H') : tG C g σ H Q := by
  rw [tG_eq]
  refine ⟨ρ, F, R, ?_⟩
  cases er : g ρ with
  | stuck => rw [er] at w; exact w
  | exc c => rw [er] at w; exact fun F' H' s => w σ F' H' s.fsame (R.step s)
  | ok m d => rw [er] at w; exact fun v F' H' s rp fr => h m d v F' H' (WantS.mono s.fsame w) s (R.step s) rp fr
def retR (r : Res) (ρ : Rho) : SRes := r.thS ρ fun m d => match m with | .bo => .stuck | m => .rt m d
theorem psv_ret (he : PV C X e g) : PSv C X (.Return (some e) pos) (fun ρ => retR (g ρ) ρ) := PS.imp (ps_ret he) fun E σ H q => by
  obtain ⟨ρ, F, R, w⟩ := q
  refine tG_thS R w fun m d v F' H' w' s R' rp fr => ?_
  cases m with
  | bo => exact (show False from w').elim
  | fz => exact w' v F' H' R'.st rp (by intro z; cases z)
  | fr => exact w' v F' H' R'.st rp fun _ a ea => R.st.same.free (fr rfl a ea)
/-- a name that owns its list is told on -/
def retS (ρ : Rho) (i : Nat) : SRes := match ρ[i]? with
  | some (some (false, d)) => .rt .fz d
  | some (some (true, d)) => .rt .fr d
  | _ => .stuck
theorem psv_retV (i : Nat) (h : PE X (.Name x p) (tVar i)) : PSv C X (.Return (some (.Name x p)) pos) (fun ρ => retS ρ i) := PS.imp (ps_ret h) fun E σ H q => by
  obtain ⟨ρ, F, R, w⟩ := q
  dsimp only at w
  unfold retS at w
  cases e : ρ[i]? with
  | none => rw [e] at w; exact w.elim
  | some o =>
    cases o with
    | none => rw [e] at w; exact w.elim
    | some q =>
      obtain ⟨m, d⟩ := q
      obtain ⟨v, e1, r, hh⟩ := R.slot i m d e
      rw [e] at w
      cases m with
      | false => exact ⟨v, e1, w v F H R.st r (by intro z; cases z)⟩
      | true => exact ⟨v, e1, w v F H R.st r fun _ => hh rfl⟩
def ifS (t : Res) (ρ : Rho) (x y : SRes) : SRes := t.thS ρ fun _ d => match d with | .bl true => x | .bl false => y | _ => .stuck
theorem psv_if {s1 s2 : List Stmt} (hc : PTv C X c gc) (ha : PBv C X s1 h1) (hb : PBv C X s2 h2) : PSv C X (.If c s1 s2 pos) (fun ρ => ifS (gc ρ) ρ (h1 ρ) (h2 ρ)) := by
  refine PS.imp (ps_if hc ha hb) fun E σ H q => ?_
  obtain ⟨ρ, F, R, w⟩ := q
  dsimp only at w
  refine ⟨ρ, F, R, ?_⟩
  cases er : gc ρ with
  | stuck => rw [er] at w; exact w
  | exc c => rw [er] at w; exact fun F' H' s => w σ F' H' s.fsame (R.step s)
  | ok m d =>
    rw [er] at w
    cases d with
    | bl k =>
      intro F' H' s
      cases k with
      | true => rw [if_pos rfl]; exact ⟨ρ, F', R.step s, WantS.mono s.fsame w⟩
      | false => rw [if_neg Bool.false_ne_true]; exact ⟨ρ, F', R.step s, WantS.mono s.fsame w⟩
    | _ => exact w.elim
/-! ### names given -/
def setS (ρ : Rho) (i : Nat) (r : Res) : SRes := r.thS ρ fun m d => match m with
  | .fz => .nx (ρ.set i (some (false, d)))
  | .fr => .nx (ρ.set i (some (true, d)))
  | .bo => .stuck
theorem RelSt.set {K : PySem.W.Frag} {F0 H0 F H F' H' : Hp} {σ : L2.St} {ρ : Rho} {i : Nat} {m : Bool} {d : D} {v : V} (R0 : RelSt K F0 H0 F H σ ρ) (s : Step F H F' H') (rp : Rp K F' H' (if m then .bo else .fz) d v)
    (fr : m = true → ∀ a, v = .ref a → H a = none) : RelSt K F0 H0 F' H' (σ.set i (some v)) (ρ.set i (some (m, d))) := by
  have R := R0.step s
  refine ⟨R.st, fun j m' d' e => ?_, fun j k d1 d2 a hjk e1 e2 q1 q2 => ?_, by rw [List.length_set, List.length_set]; exact R.len⟩
  · by_cases hj : j = i
    · subst hj
      rw [List.getElem?_set] at e
      by_cases hl : j < ρ.length
      · rw [if_pos rfl, if_pos hl] at e
        cases e
        refine ⟨v, by rw [List.getElem?_set, if_pos rfl, if_pos (by rw [R.len]; exact hl)], rp, fun z a ea => R0.st.same.free (fr z a ea)⟩
      · rw [if_pos rfl, if_neg hl] at e; cases e
    · rw [List.getElem?_set_ne (fun z => hj z.symm)] at e ⊢
      exact R.slot j m' d' e
  · have old : ∀ (l : Nat) (d : D) (b : Addr), l ≠ i → ρ[l]? = some (some (true, d)) → σ[l]? = some (some (.ref b)) → H b ≠ none := fun l d b hl e q => by
      obtain ⟨u, q', r, _⟩ := R0.slot l true d e
      rw [q] at q'; cases q'
      obtain ⟨b', eb, _, t⟩ := r
      cases eb
      exact t.there
    by_cases hj : j = i
    · subst hj
      rw [List.getElem?_set_ne hjk] at e2 q2
      rw [List.getElem?_set] at e1 q1
      by_cases hl : j < ρ.length
      · rw [if_pos rfl, if_pos hl] at e1
        rw [if_pos rfl, if_pos (by rw [R.len]; exact hl)] at q1
        cases e1; cases q1
        exact old k d2 a (fun z => hjk z.symm) e2 q2 (fr rfl a rfl)
      · rw [if_pos rfl, if_neg hl] at e1; cases e1
    · by_cases hk : k = i
      · subst hk
        rw [List.getElem?_set_ne (fun z => hjk z.symm)] at e1 q1
        rw [List.getElem?_set] at e2 q2
        by_cases hl : k < ρ.length
        · rw [if_pos rfl, if_pos hl] at e2
          rw [if_pos rfl, if_pos (by rw [R.len]; exact hl)] at q2
          cases e2; cases q2
          exact old j d1 a hjk e1 q1 (fr rfl a rfl)
        · rw [if_pos rfl, if_neg hl] at e2; cases e2
      · rw [List.getElem?_set_ne (fun z => hj z.symm)] at e1 q1
        rw [List.getElem?_set_ne (fun z => hk z.symm)] at e2 q2
        exact R.apart j k d1 d2 a hjk e1 e2 q1 q2
theorem set_tG {g : Rho → Res} {i : Nat} {E : Ends} {σ : L2.St} {H : Hp} (q : tH (C.at X) (fun ρ => setS ρ i (g ρ)) E σ H) : tAsg (tG (C.at X) g) (gName i) E σ H := by
  obtain ⟨ρ, F, R, w⟩ := q
  dsimp only at w
  refine tG_thS R w fun m d v F' H' w' s R' rp fr => ?_
  cases m with
  | bo => exact (show False from w').elim
  | fz => exact w' _ F' H' (Same.refl _) (R.set (m := false) s rp (by intro z; cases z))
  | fr => exact w' _ F' H' (Same.refl _) (R.set (m := true) s rp fun _ a ea => fr rfl a ea)
theorem psv_set {i : Nat} {pos' : Pos} (hN : X.N.Nodup) (hi : X.N[i]? = some x) (hx : Loc X.env.scope x) (he : PV C X e g) (hs : swapsWith e (some (.Name x pos')) pos.line X.env = pure false := by rfl)
    (hf : X.fn x = true ∨ X.env.scope.names.lookup x = some .local := by first | exact .inl rfl | exact .inr rfl | assumption) : PSv C X (.Assign [.Name x pos'] e pos) (fun ρ => setS ρ i (g ρ)) := PS.imp (ps_set hN hi hx he hs hf) fun E σ H q => set_tG q
end
end D3

namespace D3
open PySem PySem.Spec PyProof.Rows L2

/-! ### the signs of a text -/
def Its (x : Str) : It := ⟨fun i _ => i < x.cps.size, fun i H v H' => H' = H ∧ ∃ c, x.cps[i]? = some c ∧ v = .str ⟨#[c]⟩, fun i _ => x.cps.size ≤ i⟩
theorem turn_strT {P : Program} {w : World} {K : PySem.W.Frag} {tg : Expr} (it : Addr) (x : Str) (t : Tok) (ty : String) (hty : ["enumerate", "zip", "dict_itemiterator", "dict_reverseitemiterator", "odict_iterator", "itertools.zip_longest", "itertools.pairwise"].contains ty = false)
    (W : ∀ A' : Around, A'.handled = none → Walks P w A' it [it] [it] x.cps.size (SignAt x) (fun i h => h.IsStrIter it ty x t i)) (Sf : ∀ (A : Around) (i : Nat) (s : Shared) (Q : Value → Shared → Prop) (E : Value → Shared → Prop), s.heap.IsStrIter it ty x t i → Q (.ref it) s → wpAny (model P w) A (pyIter (.ref it)) Q E s) :
    Turn P w K tg (Its x) [it] it (fun i h => i ≤ x.cps.size ∧ h.IsStrIter it ty x t i) where
  mem := by simp
  obj := fun i h st b hb => by
    have e : b = it := by simpa using hb
    subst e
    obtain ⟨_, o, e, c, d⟩ := st
    exact ⟨o, e, fun v z => by rw [d] at z; cases z⟩
  keep := fun i h h' st k => ⟨st.1, let ⟨o, e, r⟩ := st.2; ⟨o, k it (by simp) o e, r⟩⟩
  item := by
    intro X hP hw hK hc i pins s σ H E I hf st hg
    subst hP hw hK
    obtain ⟨f0, f1, f2, f3, f4, f5⟩ := hf it (by simp)
    refine (W X.A (I.ok.hd hc)).item i s _ _ hg st.2 fun v h' tk hv st' kk => ?_
    obtain ⟨c, u, hc', rfl⟩ := hv
    have I1 : Inv X pins σ H { s with heap := h', toks := tk } := I.turned (fun b o hb e => kk b o (by simpa using hb) e) f0 f1 f3 f4 f5
    obtain ⟨o, e, oc, d⟩ := id st'
    exact ⟨_, rfl, go_of (s := { s with heap := h', toks := tk }) e oc d hty ⟨.str ⟨#[c]⟩, H, I1, ⟨u, rfl⟩, ⟨rfl, c, hc', rfl⟩, ⟨hg, st'⟩, fun b hb => (hf b hb).1⟩⟩
  done := by
    intro X hP hw hK hc i pins s σ H E I hf st hg
    subst hP hw hK
    obtain ⟨f0, f1, f2, f3, f4, f5⟩ := hf it (by simp)
    have e : i = x.cps.size := Nat.le_antisymm st.1 hg
    subst e
    exact (W X.A (I.ok.hd hc)).done s _ _ st.2 fun h' tk kk => ⟨rfl, I.turned (fun b o hb e => kk b o (by simpa using hb) e) f0 f1 f3 f4 f5⟩
  self := fun A i s Q E st h => Sf A i s Q E st.2 h
/-! ### what a loop walks -/
def iStr (te : TE) : TI := fun σ H R => te σ H fun x H1 => ∃ z, x = .str z ∧ R (Its z) H1
theorem pi_str {X : Cx} {tg l : Expr} {tl : TE} (hl : PE X l tl) : PI X tg l (iStr tl) := by
  intro pins s σ H R I h
  refine thn (hl pins s σ H _ I h) fun v s1 ⟨x, H1, I1, r1, q1⟩ => ?_
  obtain ⟨z, e, q⟩ := q1
  subst e
  obtain ⟨t, rfl⟩ := r1
  have fin : ∀ (ty : String) (o : Obj), o = { cls := .type ty, data := .fields #[.str z t, .int ((0 : Nat) : Int) 0] } → (∀ b : Addr, b ∈ [s1.heap.objs.size] → FpOk X pins H1 b) ∧ Inv X pins σ H1 { s1 with heap := s1.heap.push o } ∧ (s1.heap.push o).IsStrIter s1.heap.objs.size ty z t 0 := fun ty o eo => by
    refine ⟨fun b hb => ?_, I1.kept (t' := s1.toks) fun b o e => Heap.get?_push_of_some _ e, ⟨o, Heap.get?_push_size _ (by rw [eo]; rfl), by rw [eo], by rw [eo]⟩⟩
    have e : b = s1.heap.objs.size := by simpa using hb
    subst e
    exact I1.fpOk (Nat.le_refl _) (I1.hok.fresh (Nat.le_refl _))
  cases ha : z.cps.all (· < 128)
  · refine wpAny_pyIter_wide ha ?_
    obtain ⟨f1, f2, f3⟩ := fin "str_iterator" _ rfl
    exact ⟨s1.heap.objs.size, [s1.heap.objs.size], _, Its z, H1, rfl, f2, turn_strT _ z t "str_iterator" (by decide) (fun A' hA => Walks.strWide hA _ z t) (fun A i s Q E st h => wpAny_pyIter_striter_wide st h), ⟨Nat.zero_le _, f3⟩, f1, q⟩
  · refine wpAny_pyIter_ascii ha ?_
    obtain ⟨f1, f2, f3⟩ := fin "str_ascii_iterator" _ rfl
    exact ⟨s1.heap.objs.size, [s1.heap.objs.size], _, Its z, H1, rfl, f2, turn_strT _ z t "str_ascii_iterator" (by decide) (fun A' hA => Walks.strAscii hA _ z t) (fun A i s Q E st h => wpAny_pyIter_striter_ascii st h), ⟨Nat.zero_le _, f3⟩, f1, q⟩
theorem PI.imp {X : Cx} {tg e : Expr} {t t' : TI} (h : PI X tg e t) (i : ∀ σ H R, t' σ H R → t σ H R) : PI X tg e t' := fun pins s σ H R I q => h pins s σ H R I (i σ H R q)
theorem PI.or {X : Cx} {tg e : Expr} {t t' : TI} (h : PI X tg e t) (h' : PI X tg e t') : PI X tg e (fun σ H R => t σ H R ∨ t' σ H R) := fun pins s σ H R I q => by
  rcases q with q | q
  · exact h pins s σ H R I q
  · exact h' pins s σ H R I q
/-- the iterator tells these data -/
structure IterOf (K : PySem.W.Frag) (F : Hp) (J : It) (ds : List D) : Prop where
  go : ∀ i H, Same F H → i < ds.length → J.go i H
  stop : ∀ i H, Same F H → ds.length ≤ i → J.stop i H
  yld : ∀ i Fc H x H', Same F Fc → Same Fc H → i < ds.length → J.yld i H x H' → ∃ F' d, ds[i]? = some d ∧ Step Fc H F' H' ∧ RepV K F' d x
def WantI (C : Cw) (F H : Hp) (σ : L2.St) (r : Res) (R : It → Hp → Prop) : Prop := match r with
  | .ok _ (.lst ds) => ∀ J F' H', Step F H F' H' → IterOf C.K F' J ds → R J H'
  | .exc c => ∀ F' H', Step F H F' H' → C.EE c σ H'
  | _ => False
def tIv (C : Cw) (g : Rho → Res) : TI := fun σ H R => ∃ ρ F, RelSt C.K C.F0 C.H0 F H σ ρ ∧ WantI C F H σ (g ρ) R
def PIv (C : Cw) (X : Cx) (tg e : Expr) (g : Rho → Res) : Prop := PI X tg e (tIv (C.at X) g)
def charsD (z : Str) : List D := z.cps.toList.map fun c => .str ⟨#[c]⟩
def itemsR (r : Res) : Res := r.thn fun _ d => match d with
  | .lst ds => .ok .fz (.lst ds)
  | .tup ds => .ok .fz (.lst ds)
  | .str z => .ok .fz (.lst (charsD z))
  | _ => .stuck
section
variable {C : Cw} {X : Cx} {tg e : Expr} {g : Rho → Res} {gs : Rho → ResL} {pos p : Pos}
theorem iterOf_tup {K : PySem.W.Frag} {F : Hp} {a : Addr} {ds : List D} {xs : List V} (hq : SqT K F a xs) (r : RepL K F ds xs) : IterOf K F (Itt K a) ds where
  go := fun i H s hi => by
    have hl : i < xs.length := by rw [r.length]; exact hi
    exact ⟨xs, xs[i], Same.seqT s hq, by simp [hl]⟩
  stop := fun i H s hi => ⟨xs, Same.seqT s hq, by rw [r.length]; exact hi⟩
  yld := fun i Fc H x H' s1 s2 hi y => by
    obtain ⟨rfl, y⟩ := y
    have hx := y xs (Same.seqT s2 (Same.seqT s1 hq))
    obtain ⟨d, e, rd⟩ := r.get hx
    exact ⟨Fc, d, e, .refl s2, rd.mono s1 _ _⟩
theorem iterOf_str {K : PySem.W.Frag} {F : Hp} {z : Str} (hk : PyData.strOk z = true) : IterOf K F (Its z) (charsD z) where
  go := fun i H s hi => by simpa [charsD, Its] using hi
  stop := fun i H s hi => by simpa [charsD, Its] using hi
  yld := fun i Fc H x H' s1 s2 hi y => by
    obtain ⟨rfl, c, hc, rfl⟩ := y
    refine ⟨Fc, .str ⟨#[c]⟩, by simp [charsD, hc], .refl s2, ?_⟩
    simp only [RepV, true_and]
    refine ⟨by show 1 ≤ sizeLine; decide, ?_⟩
    unfold PyData.strOk at hk ⊢
    rw [Array.all_eq_true_iff_forall_mem] at hk
    simpa using hk c (Array.mem_of_getElem? hc)
/-- a list, a tuple, a text -/
theorem piv_seq (h : PV C X e g) : PIv C X tg e (fun ρ => itemsR (frzR (g ρ))) := by
  have h := pv_frz h
  refine PI.imp (PI.or (pi_list h) (PI.or (pi_tup h) (pi_str h))) fun σ H R q => ?_
  obtain ⟨ρ, F, RS, w⟩ := q
  dsimp only at w
  cases er : frzR (g ρ) with
  | stuck => rw [er] at w; exact w.elim
  | exc c =>
    refine .inl ?_
    unfold iList
    rw [tG_eq]
    refine ⟨ρ, F, RS, ?_⟩
    rw [er] at w ⊢
    exact w
  | ok m d =>
    rw [er] at w
    have hm : m = .fz := by
      cases h : g ρ with
      | ok m' d' => rw [h] at er; cases m' <;> cases er <;> rfl
      | exc c => rw [h] at er; cases er
      | stuck => rw [h] at er; cases er
    subst hm
    cases d with
    | lst ds =>
      refine .inl ?_
      unfold iList
      rw [tG_eq]
      refine ⟨ρ, F, RS, ?_⟩
      rw [er]
      intro v F' H' st rp _
      have rp : RepV X.K F' (.lst ds) v := rp
      simp only [RepV] at rp
      obtain ⟨a, xs, rfl, hq, r⟩ := rp
      exact ⟨a, rfl, ⟨xs, st.sub.seq hq⟩, w _ F' H' st ⟨fun i H s hi => by
          have hl : i < xs.length := by rw [r.length]; exact hi
          exact ⟨xs, xs[i], s.seq hq, by simp [hl]⟩, fun i H s hi => ⟨xs, s.seq hq, by rw [r.length]; exact hi⟩, fun i Fc H x H' s1 s2 hi y => by
          obtain ⟨rfl, y⟩ := y
          have hx := y xs (s2.seq (s1.seq hq))
          obtain ⟨d, e, rd⟩ := r.get hx
          exact ⟨Fc, d, e, .refl s2, rd.mono s1 _ _⟩⟩⟩
    | tup ds =>
      refine .inr (.inl ?_)
      unfold iTup
      rw [tG_eq]
      refine ⟨ρ, F, RS, ?_⟩
      rw [er]
      intro v F' H' st rp _
      have rp : RepV X.K F' (.tup ds) v := rp
      simp only [RepV] at rp
      obtain ⟨a, xs, rfl, hq, r⟩ := rp
      exact ⟨a, rfl, ⟨xs, Same.seqT st.sub hq⟩, w _ F' H' st (iterOf_tup hq r)⟩
    | str z =>
      refine .inr (.inr ?_)
      unfold iStr
      rw [tG_eq]
      refine ⟨ρ, F, RS, ?_⟩
      rw [er]
      intro v F' H' st rp _
      obtain ⟨rfl, hz, hk⟩ := Rp.str rp
      exact ⟨z, rfl, w _ F' H' st (iterOf_str hk)⟩
    | _ => exact w.elim
/-- range(n) -/
def rangeD (lo hi : Int) : List D := (List.range (hi - lo).toNat).map fun i => .int (lo + (i : Nat))
def rng1R (r : ResL) : Res := r.thn fun xs => match xs with
  | [(_, .int n)] => if (decide (-(2 ^ 62) ≤ n) && decide (n < 2 ^ 62)) = true then .ok .fz (.lst (rangeD 0 n)) else .stuck
  | _ => .stuck
/-! ### for -/
/-- what a target does with an item: the names behind it -/
def PGv (C : Cw) (X : Cx) (tg : Expr) (k : D → Rho → Option Rho) : Prop := ∃ t : TG, PG X tg t ∧ ∀ F H σ ρ ρ' d v Q, RelSt X.K C.F0 C.H0 F H σ ρ → RepV X.K F d v → k d ρ = some ρ' →
  (∀ σ' F' H', Same F F' → RelSt X.K C.F0 C.H0 F' H' σ' ρ' → Q σ' H') → t v σ H Q
def forS (k : D → Rho → Option Rho) (body : Rho → SRes) : List D → Rho → SRes
  | [], ρ => .nx ρ
  | d :: ds, ρ => match k d ρ with
    | none => .stuck
    | some ρ1 => match body ρ1 with
      | .nx ρ2 => forS k body ds ρ2
      | .ct ρ2 => forS k body ds ρ2
      | .bk ρ2 => .nx ρ2
      | r => r
def forR (r : Res) (ρ : Rho) (k : D → Rho → Option Rho) (body : Rho → SRes) : SRes := r.thS ρ fun _ d => match d with | .lst ds => forS k body ds ρ | _ => .stuck
theorem psv_for {body : List Stmt} {k : D → Rho → Option Rho} {h1 : Rho → SRes} (hp : PassesOwn (model X.prog X.w) X.A X.env X.xe) (hc : X.calm = true) (hi : PIv C X tg e g) (hg : PGv C X tg k) (hb : PBv C X body h1)
    (hs : ∀ x, foldedSetIterable e X.env x = pure x := by intro _; rfl) : PSv C X (.For tg e body [] pos) (fun ρ => forR (g ρ) ρ k h1) := by
  obtain ⟨t, ht, hk⟩ := hg
  refine PS.imp (ps_for hp hc hi ht hb hs) fun E σ H q => ?_
  obtain ⟨ρ, F, RS, w⟩ := q
  dsimp only at w
  unfold tFor
  refine ⟨ρ, F, RS, ?_⟩
  cases er : g ρ with
  | stuck => rw [er] at w; exact w
  | exc c => rw [er] at w; exact fun F' H' s => w σ F' H' s.fsame (RS.step s)
  | ok m d =>
    rw [er] at w
    cases d with
    | lst ds =>
      intro J F1 H1 s1 hJ
      have w : WantS (C.at X) F1 (forS k h1 ds ρ) E := WantS.mono s1.fsame w
      refine ⟨fun i m σ' H' => m = ds.length - i ∧ i ≤ ds.length ∧ ∃ ρ' F', Same F1 F' ∧ RelSt X.K C.F0 C.H0 F' H' σ' ρ' ∧ WantS (C.at X) F' (forS k h1 (ds.drop i) ρ') E, ⟨ds.length, by simp, Nat.zero_le _, ρ, F1, Same.refl _, RS.step s1, by simpa using w⟩, ?_⟩
      rintro i m σ' H' ⟨rfl, hi, ρ', F', sF, R', w'⟩
      by_cases hlt : i < ds.length
      · refine .inr ⟨hJ.go i H' (sF.trans R'.sub) hlt, fun σ2 H2 => ∃ ρ2 F2, Same F1 F2 ∧ RelSt X.K C.F0 C.H0 F2 H2 σ2 ρ2 ∧ WantS (C.at X) F2 (forS k h1 (ds.drop (i + 1)) ρ2) E, fun σ2 H2 ⟨ρ2, F2, a, b, c⟩ => ⟨ds.length - (i + 1), by omega, rfl, hlt, ρ2, F2, a, b, c⟩, fun x H2 y => ?_⟩
        obtain ⟨F2, d, ed, s2, rd⟩ := hJ.yld i F' H' x H2 sF R'.sub hlt y
        have hd : ds.drop i = d :: ds.drop (i + 1) := by
          rw [List.drop_eq_getElem_cons hlt]
          rw [List.getElem?_eq_getElem hlt] at ed
          cases ed; rfl
        rw [hd] at w'
        unfold forS at w'
        cases ek : k d ρ' with
        | none => rw [ek] at w'; exact w'.elim
        | some ρ1 =>
          rw [ek] at w'
          dsimp only at w'
          refine hk F2 H2 σ' ρ' ρ1 d x _ (R'.step s2) rd ek fun σ3 F3 H3 z3 R3 => ?_
          have z13 : Same F1 F3 := (sF.trans s2.fsame).trans z3
          have w3 := WantS.mono (s2.fsame.trans z3) w'
          refine ⟨ρ1, F3, R3, ?_⟩
          cases eb : h1 ρ1 with
          | nx ρ2 => rw [eb] at w3; exact fun σ4 F4 H4 z4 R4 => ⟨ρ2, F4, z13.trans z4, R4, WantS.mono z4 w3⟩
          | ct ρ2 => rw [eb] at w3; exact fun σ4 F4 H4 z4 R4 => ⟨ρ2, F4, z13.trans z4, R4, WantS.mono z4 w3⟩
          | bk ρ2 => rw [eb] at w3; exact fun σ4 F4 H4 z4 R4 => w3 σ4 F4 H4 z4 R4
          | rt m d => rw [eb] at w3; exact w3
          | exc c ρ2 => rw [eb] at w3; exact w3
          | stuck => rw [eb] at w3; exact w3
      · have ei : i = ds.length := by omega
        subst ei
        refine .inl ⟨hJ.stop _ H' (sF.trans R'.sub) (Nat.le_refl _), ?_⟩
        rw [List.drop_length] at w'
        exact w' σ' F' H' (Same.refl _) R'
    | _ => exact w.elim
end
end D3

namespace L2
open PySem PySem.Spec PyProof.Rows
/-! ### the cells that a comprehension reads -/
theorem closureFor_ok {env : Env} : ∀ (names : List (Str × NameKind)) (acc : List (Str × Addr)), (∀ y ∈ names, y.2 = .free → ∃ c, env.cells.lookup y.1 = some c) → (∀ y c, acc.lookup y = some c → env.cells.lookup y = some c) →
    ∃ cl, (forIn names acc fun (x : Str × NameKind) (cs : List (Str × Addr)) => (if x.2 == .free then (do let c ← cellOf env x.1; pure (ForInStep.yield ((x.1, c) :: cs))) else pure (ForInStep.yield cs) : Sem (ForInStep (List (Str × Addr))))) = pure cl ∧
      (∀ y c, cl.lookup y = some c → env.cells.lookup y = some c) ∧ (∀ y c, acc.lookup y = some c → cl.lookup y = some c) ∧ ∀ y, (y, NameKind.free) ∈ names → ∃ c, cl.lookup y = some c
  | [], acc, _, ha => ⟨acc, by rw [List.forIn_nil], ha, fun _ _ h => h, fun _ h => by cases h⟩
  | (n, k) :: r, acc, h, ha => by
    rw [List.forIn_cons]
    by_cases hk : k = .free
    · subst hk
      obtain ⟨c, ec⟩ := h (n, .free) List.mem_cons_self rfl
      have hc : cellOf env n = pure c := by unfold cellOf; rw [ec]
      have e : ((if (NameKind.free == NameKind.free) = true then (do let c ← cellOf env n; pure (ForInStep.yield ((n, c) :: acc))) else pure (ForInStep.yield acc)) : Sem (ForInStep (List (Str × Addr)))) = pure (ForInStep.yield ((n, c) :: acc)) := by
        rw [if_pos (by decide), hc, pure_bind]
      obtain ⟨cl, e1, e2, e3, e4⟩ := closureFor_ok (env := env) r ((n, c) :: acc) (fun y hy => h y (List.mem_cons_of_mem _ hy)) (fun y c' q => by
        rw [List.lookup_cons] at q
        cases hyn : y == n with
        | true => rw [hyn] at q; cases q; rw [beq_iff_eq.mp hyn]; exact ec
        | false => rw [hyn] at q; exact ha y c' q)
      refine ⟨cl, ?_, e2, fun y c' q => ?_, fun y hy => ?_⟩
      · dsimp only
        rw [e, pure_bind]
        exact e1
      · cases hyn : y == n with
        | true =>
          have := beq_iff_eq.mp hyn
          subst this
          have q' := ha y c' q
          rw [ec] at q'; cases q'
          exact e3 y c (by rw [List.lookup_cons, hyn])
        | false => exact e3 y c' (by rw [List.lookup_cons, hyn]; exact q)
      · rcases List.mem_cons.mp hy with z | z
        · cases z
          exact ⟨c, e3 n c (by rw [List.lookup_cons, beq_self_eq_true])⟩
        · exact e4 y z
    · have e : ((if (k == NameKind.free) = true then (do let c ← cellOf env n; pure (ForInStep.yield ((n, c) :: acc))) else pure (ForInStep.yield acc)) : Sem (ForInStep (List (Str × Addr)))) = pure (ForInStep.yield acc) := by
        rw [if_neg (by simpa using hk)]
      obtain ⟨cl, e1, e2, e3, e4⟩ := closureFor_ok (env := env) r acc (fun y hy => h y (List.mem_cons_of_mem _ hy)) ha
      refine ⟨cl, ?_, e2, e3, fun y hy => ?_⟩
      · dsimp only
        rw [e, pure_bind]
        exact e1
      · rcases List.mem_cons.mp hy with z | z
        · cases z; exact absurd rfl hk
        · exact e4 y z
theorem closure_of {scope : Scope} {env : Env} (h : ∀ y ∈ scope.names, y.2 = .free → ∃ c, env.cells.lookup y.1 = some c) :
    ∃ cl, closureFor scope env = pure cl ∧ (∀ y c, cl.lookup y = some c → env.cells.lookup y = some c) ∧ ∀ y, (y, NameKind.free) ∈ scope.names → ∃ c, cl.lookup y = some c := by
  obtain ⟨cl, e1, e2, _, e4⟩ := closureFor_ok (env := env) scope.names [] h (fun y c q => by simp at q)
  refine ⟨cl, ?_, e2, e4⟩
  unfold closureFor
  rw [bind_pure]
  exact e1
/-- a name of the block: its kind there -/
theorem relabel_free {scope : Scope} {env : Env} (hcell : ∀ y ∈ scope.names, y.2 ≠ .cell) {x : Str} (h : (relabel scope env).names.lookup x = some .cell ∨ (relabel scope env).names.lookup x = some .free) : (x, NameKind.free) ∈ scope.names := by
  unfold relabel at h
  dsimp only at h
  have go : ∀ (l : List (Str × NameKind)), (∀ y ∈ l, y.2 ≠ .cell) → ((l.map fun (n, k) => if (k == NameKind.free && env.scope.kind == .function && env.kindOf n == some .cell) then (n, NameKind.cell) else (n, k)).lookup x = some .cell ∨ (l.map fun (n, k) => if (k == NameKind.free && env.scope.kind == .function && env.kindOf n == some .cell) then (n, NameKind.cell) else (n, k)).lookup x = some .free) → (x, NameKind.free) ∈ l := by
    intro l
    induction l with
    | nil => intro _ h; simp at h
    | cons y l ih =>
      intro hc h
      obtain ⟨n, k⟩ := y
      rw [List.map_cons] at h
      by_cases hx : x = n
      · subst hx
        have hk : k = .free := by
          by_cases hk : k = .free
          · exact hk
          · have e : (k == NameKind.free && env.scope.kind == .function && env.kindOf x == some .cell) = false := by
              have : (k == NameKind.free) = false := by simpa using hk
              rw [this]; rfl
            simp only [e, Bool.false_eq_true, if_false, List.lookup_cons, beq_self_eq_true] at h
            rcases h with h | h
            · cases h; exact absurd rfl (hc _ List.mem_cons_self)
            · cases h; exact absurd rfl hk
        subst hk
        exact List.mem_cons_self
      · have hb : (x == n) = false := by simpa using hx
        have hh : ∀ (kk : NameKind) (l' : List (Str × NameKind)), ((n, kk) :: l').lookup x = l'.lookup x := fun kk l' => by rw [List.lookup_cons, hb]
        by_cases hcond : (k == NameKind.free && env.scope.kind == .function && env.kindOf n == some .cell) = true
        · dsimp only at h
          rw [if_pos hcond, hh] at h
          exact List.mem_cons_of_mem _ (ih (fun y hy => hc y (List.mem_cons_of_mem _ hy)) h)
        dsimp only at h
        rw [if_neg hcond, hh] at h
        exact List.mem_cons_of_mem _ (ih (fun y hy => hc y (List.mem_cons_of_mem _ hy)) h)
  exact go scope.names hcell h
/-- the context of a comprehension's block -/
def compCx (X : Cx) (scope : Scope) (N : List Str) (cl : List (Str × Addr)) (C : Addr) (fp : List Addr) (s3 : Shared) (H3 : Hp) : Cx where
  prog := X.prog
  w := X.w
  K := X.K
  mg := X.mg
  base := X.base
  A := X.A
  N := N
  s₀ := s3
  H₀ := H3
  env := compEnvC scope cl C X.env
  outer := X.stack
  stack := X.stack
  ex := fp
  fn := fun _ => false
  calm := X.calm
  pn := []
  xe := fun _ _ => False
/-- the tests of a comprehension -/
def PIfs (X : Cx) (cs : List Expr) (t : TT) : Prop :=
  ∀ (pins : List (Addr × Obj)) (s : Shared) (σ : St) (H : Hp) (Q : Bool → Hp → Prop), Inv X pins σ H s → t σ H Q →
    wpAny (model X.prog X.w) X.A (forIn cs true fun c r => if r = true then do let ok ← isTrue c X.env (eval c X.env); pure (ForInStep.yield ok) else pure (ForInStep.yield r)) (TP X pins σ Q) X.xe s
theorem pifs_nil {X : Cx} : PIfs X [] (fun _ H Q => Q true H) := fun pins s σ H Q I h => by
  rw [List.forIn_nil]
  exact wpAny_pure ⟨H, I, h⟩
theorem forIn_no {X : Cx} : ∀ cs : List Expr, (forIn cs false fun c r => if r = true then do let ok ← isTrue c X.env (eval c X.env); pure (ForInStep.yield ok) else pure (ForInStep.yield r) : Sem Bool) = pure false
  | [] => by rw [List.forIn_nil]
  | c :: cs => by
    rw [List.forIn_cons, if_neg Bool.false_ne_true, pure_bind]
    exact forIn_no cs
theorem pifs_cons {X : Cx} {c : Expr} {cs : List Expr} {t u : TT} (hc : PT X c t) (hr : PIfs X cs u) : PIfs X (c :: cs) (tAnd t u) := fun pins s σ H Q I h => by
  rw [List.forIn_cons, if_pos rfl]
  refine wpAny_bind (wpAny_bind (thn (hc pins s σ H _ I h) fun b s1 ⟨H1, I1, q1⟩ => wpAny_pure ?_))
  cases b with
  | true => rw [if_pos rfl] at q1; exact hr pins s1 σ H1 Q I1 q1
  | false =>
    rw [if_neg Bool.false_ne_true] at q1
    dsimp only
    rw [forIn_no]
    exact wpAny_pure ⟨H1, I1, q1⟩

section
variable {prog : Program} {w : World} {A : Around} {R : Result → Shared → Prop} {s : Shared}
theorem compLoop_g {elt target iter : Expr} {ifs : List Expr} {scope : Scope} {pos : Pos} {it acc : Value} {env : Env} (I : Nat → Shared → Prop)
    (turn : ∀ n s, I n s → wpAny (model prog w) A (pyNext it) (fun r s1 => match r with
      | none => R (.ok .next) s1
      | some v => wpAny (model prog w) A (letOwnedTupleGo target it v) (fun _ s1' => wpAny (model prog w) A (assign target env v) (fun _ s2 =>
          wpAny (model prog w) A (forIn ifs true fun c r => if r = true then do let ok ← isTrue c env (eval c env); pure (ForInStep.yield ok) else pure (ForInStep.yield r)) (fun ok s3 =>
            if ok = true then wpAny (model prog w) A (eval elt env) (fun x s4 =>
              wpAny (model prog w) A (call (.builtin "list.append") [acc, x]) (fun _ s5 => ∃ m, m < n ∧ I m s5) (fun _ _ => False) s4) (fun _ _ => False) s3
            else ∃ m, m < n ∧ I m s3) (fun _ _ => False) s2) (fun _ _ => False) s1') (fun _ _ => False) s1) (fun _ _ => False) s)
    (n : Nat) (h : I n s) :
    codeAny (model prog w) A (.compLoop (.ListComp elt [⟨target, iter, ifs, 0⟩] scope pos) 0 it acc env) R s := by
  refine codeAny_loop rfl I (fun n s hI => ?_) n h
  show wpAny _ A ((compTurn (.ListComp elt [⟨target, iter, ifs, 0⟩] scope pos) 0 it acc env).onRaise (fun x => do noteFrame x env; theTreesLotGoes x)) _ _ s
  refine wpAny_noted ?_
  rw [compTurn_list]
  refine wpAny_bind (wpAny_standAt (wpAny_bind (wpAny_mono (turn n s hI) (fun r s1 h1 => ?_) fun _ _ h' => h'.elim)))
  cases r with
  | none => exact wpAny_pure h1
  | some v =>
    refine wpAny_bind (wpAny_mono h1 (fun _ s1' h1' => ?_) fun _ _ h' => h'.elim)
    refine wpAny_bind (wpAny_mono h1' (fun _ s2 h2 => wpAny_bind (wpAny_mono h2 (fun ok s3 h3 => ?_) fun _ _ h' => h'.elim)) fun _ _ h' => h'.elim)
    cases ok with
    | false => exact wpAny_pure ⟨rfl, h3⟩
    | true =>
      exact wpAny_bind (wpAny_bind (wpAny_mono h3 (fun x s4 h4 => wpAny_bind (wpAny_mono h4 (fun _ s5 h5 => wpAny_pure (wpAny_pure ⟨rfl, h5⟩)) fun _ _ h' => h'.elim)) fun _ _ h' => h'.elim))
end
/-- the values of the names that a block reads -/
def subS (caps : List Nat) (σ : St) : St := caps.map fun i => (σ[i]?).getD none
def Weak (σ σ' : St) : Prop := σ.length = σ'.length ∧ ∀ (j : Nat) v, σ[j]? = some (some v) → σ'[j]? = some (some v)
def tComp (caps : List Nat) (k : Nat) (wi : TI) (gt : TG) (tt : TT) (te : TE) : TE := fun σ H Q => wi σ H fun J H1 => ∀ D, H1 D = none →
  ∃ W : Nat → Nat → List V → Hp → Prop, (∃ m, W 0 m [] (upd H1 D (.lst []))) ∧ ∀ i m ys H, W i m ys H → H D = some (.lst ys) ∧
    ((J.stop i H ∧ Q (.ref D) H) ∨ (J.go i H ∧ ys.length < sizeLine ∧ ∀ x H', J.yld i H x H' → gt x (subS caps σ ++ List.replicate k none) H' fun σ2 H2 => Weak (subS caps σ ++ List.replicate k none) σ2 ∧ tt σ2 H2 fun b H3 =>
      if b = true then te σ2 H3 fun y H4 => H4 D = some (.lst ys) ∧ ∃ m', m' < m ∧ W (i + 1) m' (ys ++ [y]) (upd H4 D (.lst (ys ++ [y]))) else ∃ m', m' < m ∧ W (i + 1) m' ys H3))
/-- a list comprehension, used at its end as `use` says -/
theorem comp_core {X : Cx} {elt iter tg : Expr} {ifs : List Expr} {scope : Scope} {pos : Pos} {caps : List Nat} {capN tgN : List Str} {wi : TI} {gt : TG} {tt : TT} {te : TE} {use : Option (Value → Sem Unit)} {QQ : Value → Shared → Prop} {pins : List (Addr × Obj)} {s : Shared} {σ : St} {H : Hp} {Q : VK}
    (hc : X.calm = true) (hi : PI X tg iter wi) (hcell : ∀ y ∈ scope.names, y.2 ≠ .cell) (hkind : scope.kind = .function) (hnames : ∀ y ∈ scope.names, y.2 = .local → scope.names.lookup y.1 = some .local)
    (hfree : ∀ y ∈ scope.names, y.2 = .free → X.env.kindOf y.1 = some .cell ∨ X.env.kindOf y.1 = some .free)
    (hcapN : capN.map some = caps.map fun i => X.N[i]?) (hcapF : ∀ y ∈ capN, (y, NameKind.free) ∈ scope.names)
    (hcapK : ∀ y ∈ capN, (relabel scope X.env).names.lookup y = some .cell ∨ (relabel scope X.env).names.lookup y = some .free)
    (hg : ∀ cl C fp s3 H3, PG (compCx X scope (capN ++ tgN) cl C fp s3 H3) tg gt) (hf : ∀ cl C fp s3 H3, PIfs (compCx X scope (capN ++ tgN) cl C fp s3 H3) ifs tt) (he : ∀ cl C fp s3 H3, PE (compCx X scope (capN ++ tgN) cl C fp s3 H3) elt te)
    (hs : ∀ x, foldedSetIterable iter X.env x = pure x) (I : Inv X pins σ H s) (h : tComp caps tgN.length wi gt tt te σ H Q)
    (hend : ∀ (D Z : Addr) (s6 : Shared) (H5 : Hp), (∃ m, s6.heap.Ns Z m) → (∀ h'', Heap.SameBut Z s6.heap h'' → Inv X pins σ H5 { s6 with heap := h'' }) → H5 Z = none → X.s₀.heap.objs.size ≤ Z → Z ≠ X.env.locals → (∀ x c, X.env.cells.lookup x = some c → c ≠ Z) →
      (∀ p ∈ X.pn ++ pins, p.1 ≠ Z) → Q (.ref D) H5 → compPost (model X.prog X.w) X.A X.xe use QQ (.ref D) Z (.ok .next) s6) :
    wpAny (model X.prog X.w) X.A (comprehension (.ListComp elt [⟨tg, iter, ifs, 0⟩] scope pos) scope X.env (firstIterPos [⟨tg, iter, ifs, 0⟩] pos) (newList []) (firstAsync [⟨tg, iter, ifs, 0⟩]) (firstIter [⟨tg, iter, ifs, 0⟩] X.env) use) QQ X.xe s := by
  obtain ⟨cl, hclos, clsub, clhas⟩ := closure_of (scope := scope) (env := X.env) fun y hy hk => I.ok.has y.1 (hfree y hy hk)
  refine wpAny_comprehension_free (use := use) rfl hs hclos hkind hnames (thn (hi pins s σ H _ I h) fun v s1 h1 => thn h1 fun itv s2 h2 => ?_)
  obtain ⟨it, fp, tn, J, H2, e, I2, T, st2, f2, q⟩ := h2
  subst e
  refine wpAny_newObj_type ?_
  have hn : H2 s2.heap.objs.size = none := I2.hok.fresh (Nat.le_refl _)
  obtain ⟨W, ⟨m0, w0⟩, turn⟩ := q s2.heap.objs.size hn
  have I3 : Inv X pins σ (upd H2 s2.heap.objs.size (.lst [])) { s2 with heap := s2.heap.push { cls := .type "list", dict := none, data := .seq ([] : List Value).toArray } } :=
    I2.laid (t' := s2.toks) (fun b u e => Heap.get?_push_of_some _ e) (Nat.le_refl _) ⟨Nat.zero_le _, [], 0, .nil, Heap.get?_push_size _ rfl⟩
  generalize hs3 : ({ s2 with heap := s2.heap.push { cls := .type "list", dict := none, data := .seq ([] : List Value).toArray } } : Shared) = s3 at I3 ⊢
  generalize hH3 : upd H2 s2.heap.objs.size (.lst []) = H3 at I3 w0
  have fpl : ∀ b ∈ fp, b < s2.heap.objs.size := fun b hb => by
    obtain ⟨o, eo, _⟩ := T.obj 0 _ st2 b hb
    exact Heap.lt_size eo
  have sz3 : s3.heap.objs.size = s2.heap.objs.size + 1 := by rw [← hs3]; exact Heap.size_push _ _
  have keep23 : ∀ b o, s2.heap.get? b = some o → s3.heap.get? b = some o := fun b o e => by rw [← hs3]; exact Heap.get?_push_of_some _ e
  have hDf : s2.heap.objs.size ∉ fp := fun hb => Nat.lt_irrefl _ (fpl _ hb)
  refine wpAny_newFunctionEnv hcell (by intro y hy; simp at hy) (fun h4 hns hsb => ?_) hkind
  try dsimp only at hns hsb ⊢
  have keep34 : ∀ b o, s3.heap.get? b = some o → h4.get? b = some o := fun b o e => hsb.extBut b o (Nat.ne_of_lt (Heap.lt_size e)) (Heap.get?_push_of_some _ e)
  have nostk : ∀ b ∈ fp, b ∉ frs X.stack := fun b hb z => by
    obtain ⟨_, f1, f2', _⟩ := f2 b hb
    rcases List.mem_cons.mp (I2.stkSub b z) with q | q
    · exact f1 q
    · exact f2' q
  have okc : (compCx X scope (capN ++ tgN) cl s3.heap.objs.size fp s3 H3).Ok :=
    { mod := I3.ok.mod
      kind := hkind
      glob := I3.ok.glob
      blt := I3.ok.blt
      above := Nat.le_refl _
      inj := fun x y c h1 h2 => I3.ok.inj x y c (clsub x c h1) (clsub y c h2)
      has := fun x hx => clhas x (relabel_free hcell hx)
      cab := fun x c z => by cases z
      hd := I3.ok.hd
      frames := I3.ok.frames
      stk := .inl rfl
      exf := fun b hb => ⟨Nat.ne_of_lt (by show b < s3.heap.objs.size; rw [sz3]; exact Nat.lt_succ_of_lt (fpl b hb)), fun x c e => (f2 b hb).2.2.2.2.1 x c (clsub x c e)⟩
      bs := I3.bs
      bsz := Nat.le_trans I3.ok.bsz I3.sz
      noex := fun b o e hb => by
        obtain ⟨_, _, _, f3, _⟩ := f2 b hb
        rcases f3 with z | z
        · exact I2.ok.noex b o e z
        · exact absurd (Heap.lt_size (I2.ok.bs b o e).1) (Nat.not_lt.mpr z)
      exfs := nostk
      funs := I3.stack
      frf := I3.stkFree }
  have capLen : capN.length = caps.length := by
    have := congrArg List.length hcapN
    simpa using this
  generalize hσ0 : subS caps σ ++ List.replicate tgN.length none = σ0 at turn
  have Ic : Inv (compCx X scope (capN ++ tgN) cl s3.heap.objs.size fp s3 H3) [] σ0 H3 { s3 with heap := h4, toks := s3.toks + ([] : List (Str × Value)).length } := by
    refine ⟨okc, rfl, I3.bare, Un.kept keep34, ⟨_, hns, fun i y v h1 h2 h3 => ?_⟩, fun x c e => ?_, I3.hok.fresh (Nat.le_refl _), fun x c e => I3.freeC x c (clsub x c e), fun p hp => absurd (show p ∈ ([] : List (Addr × Obj)) from hp) (by simp), I3.hok.kept keep34, ?_⟩
    · by_cases hi : i < caps.length
      · have ey : capN[i]? = some y := by
          have h1 : (capN ++ tgN)[i]? = some y := h1
          rw [List.getElem?_append_left (by rw [capLen]; exact hi)] at h1; exact h1
        have hj : X.N[caps[i]]? = some y := by
          have e1 : (capN.map some)[i]? = (caps.map fun i => X.N[i]?)[i]? := by rw [hcapN]
          rw [List.getElem?_map, List.getElem?_map, ey, List.getElem?_eq_getElem hi] at e1
          simpa using e1.symm
        have ev : σ[caps[i]]? = some (some v) := by
          rw [← hσ0, List.getElem?_append_left (by simpa [subS] using hi)] at h2
          unfold subS at h2
          rw [List.getElem?_map, List.getElem?_eq_getElem hi] at h2
          simp only [Option.map_some, Option.some.injEq] at h2
          cases z : σ[caps[i]]? with
          | none => rw [z] at h2; cases h2
          | some o => rw [z] at h2; exact congrArg some h2
        have hyf := hcapF y (List.mem_of_getElem? ey)
        have hkX := hfree _ hyf rfl
        obtain ⟨m, _, hl⟩ := I3.loc
        obtain ⟨u, ru, lk⟩ := hl caps[i] y v hj ev (by rcases hkX with z | z; exact .inr (.inl z); exact .inr (.inr z))
        refine ⟨u, ru, .inr ⟨hcapK y (List.mem_of_getElem? ey), ?_⟩⟩
        rcases lk with ⟨hk, _⟩ | ⟨_, c, ec, ic⟩
        · rcases hkX with z | z
          · rw [show X.env.kindOf y = some .cell from z] at hk; cases hk
          · rw [show X.env.kindOf y = some .free from z] at hk; cases hk
        · obtain ⟨c', ec'⟩ := clhas y hyf
          have := clsub y c' ec'
          rw [ec] at this; cases this
          exact ⟨c, ec', ic.keeps keep34⟩
      · rw [← hσ0, List.getElem?_append_right (by simpa [subS] using hi), List.getElem?_replicate] at h2
        split at h2 <;> cases h2
    · obtain ⟨v, q⟩ := I3.cell x c (clsub x c e)
      exact ⟨v, q.keeps keep34⟩
    · rw [← hσ0]
      show (subS caps σ ++ List.replicate tgN.length none).length = (capN ++ tgN).length
      simp [subS, capLen]
  have fpc : ∀ {H' : Hp}, (∀ b ∈ fp, H' b = none) → ∀ b ∈ fp, FpOk (compCx X scope (capN ++ tgN) cl s3.heap.objs.size fp s3 H3) [] H' b := fun hn b hb =>
    ⟨hn b hb, (okc.exf b hb).1, nostk b hb, .inl hb, (okc.exf b hb).2, fun p hp => absurd (show p ∈ ([] : List (Addr × Obj)) from hp) (by simp)⟩
  have loop : codeAny (model X.prog X.w) X.A (.compLoop (.ListComp elt [⟨tg, iter, ifs, 0⟩] scope pos) 0 (.ref it) (.ref s2.heap.objs.size) (compEnvC scope cl s3.heap.objs.size X.env)) (compPost (model X.prog X.w) X.A X.xe use QQ (.ref s2.heap.objs.size) s3.heap.objs.size) { s3 with heap := h4, toks := s3.toks + ([] : List (Str × Value)).length } := by
    refine compLoop_g (fun n s' => ∃ i ys H', Inv (compCx X scope (capN ++ tgN) cl s3.heap.objs.size fp s3 H3) [] σ0 H' s' ∧ tn i s'.heap ∧ (∀ b ∈ fp, H' b = none) ∧ W i n ys H') ?_ m0
      ⟨0, [], H3, Ic, T.keep _ _ _ st2 (fun b hb o e => keep34 b o (keep23 b o e)), fun b hb => by rw [← hH3, upd_ne (by intro z; rw [z] at hb; exact hDf hb)]; exact (f2 b hb).1, w0⟩
    rintro n s5 ⟨i, ys, H5, I5, st5, fr5, w5⟩
    obtain ⟨hD, hw⟩ := turn i n ys H5 w5
    rcases hw with ⟨stop, qq⟩ | ⟨go, hlen, step⟩
    · refine thn (T.done (compCx X scope (capN ++ tgN) cl s3.heap.objs.size fp s3 H3) rfl rfl rfl hc i [] s5 σ0 H5 _ I5 (fpc fr5) st5 stop) fun r s6 ⟨hr, I6⟩ => ?_
      subst hr
      obtain ⟨m, hm, _⟩ := id I6.loc
      refine hend s2.heap.objs.size s3.heap.objs.size s6 H5 ⟨m, hm⟩ (fun h'' hsb2 => ?_) I6.free I3.sz (fun z => ?_) (fun x c ec z => ?_) (fun p hp z => ?_) qq
      rotate_left
      · obtain ⟨m, ⟨o, es, ep, ho, _⟩, _⟩ := id I3.loc
        rw [← z] at ho
        exact Nat.lt_irrefl _ (Heap.lt_size ho)
      · obtain ⟨v, o, ho, _⟩ := I3.cell x c ec
        rw [z] at ho
        exact Nat.lt_irrefl _ (Heap.lt_size ho)
      · have := (I3.pin p hp).1
        rw [z] at this
        exact Nat.lt_irrefl _ (Heap.lt_size this)
      have u := I6.base
      have neC : ∀ b o, s3.heap.get? b = some o → b ≠ s3.heap.objs.size := fun b o e => Nat.ne_of_lt (Heap.lt_size e)
      have un : Un (frs X.stack) fp H3 H5 s3.heap h'' := by
        refine ⟨fun b o e n hb hx => hsb2.extBut b o (neC b o e) (u.keep b o e n hb hx), fun b o e n hb hx => ?_, u.free, fun b o e hx => ?_, u.tups, u.frzs, u.tbls⟩
        · obtain ⟨sl, q⟩ := u.slot b o e n hb hx
          exact ⟨sl, hsb2.extBut b _ (neC b o e) q⟩
        · obtain ⟨o', q⟩ := u.there b o e hx
          exact ⟨o', hsb2.extBut b _ (neC b o e) q⟩
      have hok : HOk X.prog X.w H5 h'' := fun a o e => (I6.hok a o e).stay (fun b v hb q => hsb2.extBut b v (by
          intro z
          have fr := I6.free
          rcases hb with hb | hb
          · rw [hb] at z; rw [z] at e; rw [show H5 s3.heap.objs.size = none from fr] at e; cases e
          · rw [z, show H5 s3.heap.objs.size = none from fr] at hb; cases hb) q) (fun _ q => q) fun _ _ q => q
      have os6 := I6.os
      obtain ⟨hh, g6, d6, t6, o6⟩ := s6
      obtain rfl : o6 = s3.os := os6
      have I8 := I3.call (h' := h'') (g' := g6) (d' := d6) (t' := t6) (ch := fp) un hok I6.bare fun b hb => by
        obtain ⟨_, f1, _, f3, f4, f5⟩ := f2 b hb
        exact ⟨f3, f1, f4, f5⟩
      exact I8
    · refine thn (T.item (compCx X scope (capN ++ tgN) cl s3.heap.objs.size fp s3 H3) rfl rfl rfl hc i [] s5 σ0 H5 _ I5 (fpc fr5) st5 go) fun r s6 ⟨u, hr, h6⟩ => ?_
      subst hr
      refine thn h6 fun _ s7 ⟨x, H7, I7, r7, y7, st7, fr7⟩ => ?_
      have I7' := I7.pinned (fpc fr7) (T.obj _ _ st7)
      refine thn (hg cl s3.heap.objs.size fp s3 H3 _ s7 σ0 H7 x u _ I7' r7 (step x H7 y7)) fun _ s8 ⟨σ8, H8, I8, wk, q8⟩ => ?_
      have back : ∀ {H' : Hp} {s' : Shared} {m' : Nat} {ys' : List V}, Inv (compCx X scope (capN ++ tgN) cl s3.heap.objs.size fp s3 H3) ([] ++ pinsAt fp s7.heap) σ8 H' s' → m' < n → W (i + 1) m' ys' H' →
          ∃ m, m < n ∧ ∃ i ys H', Inv (compCx X scope (capN ++ tgN) cl s3.heap.objs.size fp s3 H3) [] σ0 H' s' ∧ tn i s'.heap ∧ (∀ b ∈ fp, H' b = none) ∧ W i m ys H' := fun {H' s' m' ys'} I' hm w' => by
        have pinned : ∀ b ∈ fp, ∀ o, s7.heap.get? b = some o → s'.heap.get? b = some o ∧ H' b = none := fun b hb o e => by
          have := I'.pin (b, o) (List.mem_append_right _ (List.mem_append_right _ (mem_pinsAt hb e)))
          exact ⟨this.1, this.2.1⟩
        refine ⟨m', hm, i + 1, ys', H', I'.unpinned.weak wk.1 wk.2, T.keep _ _ _ st7 fun b hb o e => (pinned b hb o e).1, fun b hb => ?_, w'⟩
        obtain ⟨o, e, _⟩ := T.obj _ _ st7 b hb
        exact (pinned b hb o e).2
      refine thn (hf cl s3.heap.objs.size fp s3 H3 _ s8 σ8 H8 _ I8 q8) fun b s9 ⟨H9, I9, q9⟩ => ?_
      cases b with
      | false =>
        rw [if_neg Bool.false_ne_true] at q9 ⊢
        obtain ⟨m', hm, w9⟩ := q9
        exact back I9 hm w9
      | true =>
        rw [if_pos rfl] at q9 ⊢
        refine thn (he cl s3.heap.objs.size fp s3 H3 _ s9 σ8 H9 _ I9 q9) fun y s10 ⟨yv, H10, I10, r10, hD10, m', hm, w10⟩ => ?_
        refine thn (mt_append (X := compCx X scope (capN ++ tgN) cl s3.heap.objs.size fp s3 H3) _ s10 σ8 H10 (.ref s2.heap.objs.size) [yv] (.ref s2.heap.objs.size) [y] (fun v H' => v = .non ∧ H' = upd H10 s2.heap.objs.size (.lst (ys ++ [yv]))) I10 rfl (.cons r10 .nil)
          ⟨s2.heap.objs.size, ys, yv, rfl, rfl, hD10, hlen, rfl, rfl⟩) fun _ s11 ⟨v, H11, I11, _, _, e11⟩ => ?_
        subst e11
        exact back I11 hm w10
  exact codeAny_compStart_list loop (T.self _ 0 _ _ _ (T.keep _ _ _ st2 (fun b hb o e => keep34 b o (keep23 b o e))) loop)
theorem pe_comp {X : Cx} {elt iter tg : Expr} {ifs : List Expr} {scope : Scope} {pos : Pos} {caps : List Nat} {capN tgN : List Str} {wi : TI} {gt : TG} {tt : TT} {te : TE}
    (hc : X.calm = true) (hi : PI X tg iter wi) (hcell : ∀ y ∈ scope.names, y.2 ≠ .cell) (hkind : scope.kind = .function) (hnames : ∀ y ∈ scope.names, y.2 = .local → scope.names.lookup y.1 = some .local)
    (hfree : ∀ y ∈ scope.names, y.2 = .free → X.env.kindOf y.1 = some .cell ∨ X.env.kindOf y.1 = some .free)
    (hcapN : capN.map some = caps.map fun i => X.N[i]?) (hcapF : ∀ y ∈ capN, (y, NameKind.free) ∈ scope.names)
    (hcapK : ∀ y ∈ capN, (relabel scope X.env).names.lookup y = some .cell ∨ (relabel scope X.env).names.lookup y = some .free)
    (hg : ∀ cl C fp s3 H3, PG (compCx X scope (capN ++ tgN) cl C fp s3 H3) tg gt) (hf : ∀ cl C fp s3 H3, PIfs (compCx X scope (capN ++ tgN) cl C fp s3 H3) ifs tt) (he : ∀ cl C fp s3 H3, PE (compCx X scope (capN ++ tgN) cl C fp s3 H3) elt te)
    (hs : ∀ x, foldedSetIterable iter X.env x = pure x := by intro _; rfl) :
    PE X (.ListComp elt [⟨tg, iter, ifs, 0⟩] scope pos) (tComp caps tgN.length wi gt tt te) := by
  intro pins s σ H Q I h
  rw [eval_ListComp]
  exact comp_core (use := none) hc hi hcell hkind hnames hfree hcapN hcapF hcapK hg hf he hs I h fun D Z s6 H5 hm hI _ _ _ _ _ q => by
    obtain ⟨m, hm⟩ := hm
    exact ⟨m, hm, fun h'' hs => ⟨.ref D, H5, hI h'' hs, rfl, q⟩⟩
end L2

namespace D3
open PySem PySem.Spec PyProof.Rows L2
/-! ### list comprehensions -/
def subR (caps : List Nat) (ρ : Rho) : Rho := caps.map fun i => match ρ[i]? with | some (some (false, d)) => some (false, d) | _ => none
def compL (k : D → Rho → Option Rho) (t e : Rho → Res) (ρ0 : Rho) : List D → Option (List D)
  | [] => some []
  | d :: ds => match k d ρ0 with
    | none => none
    | some ρ1 => match t ρ1 with
      | .ok _ (.bl true) => (match frzR (e ρ1) with | .ok _ y => (compL k t e ρ0 ds).map (y :: ·) | _ => none)
      | .ok _ (.bl false) => compL k t e ρ0 ds
      | _ => none
def compR (src : Res) (ρ : Rho) (caps : List Nat) (n : Nat) (k : D → Rho → Option Rho) (t e : Rho → Res) : Res := src.thn fun _ d => match d with
  | .lst ds => if ds.length < sizeLine then (match compL k t e (subR caps ρ ++ List.replicate n none) ds with | some ys => .ok .fr (.lst ys) | none => .stuck) else .stuck
  | _ => .stuck
abbrev Cw.nox (C : Cw) : Cw := { C with EE := fun _ _ _ => False }
theorem Step.upd {F H F' H' : Hp} {x : Addr} {o : HO} (st : Step F H F' H') (hx : H x = none) (hx' : F' x = none) : Step F H F' (L2.upd H' x o) :=
  ⟨fun b u q => by rw [upd_ne (ne_of_none q hx)]; exact st.same b u q, st.fsame, fun b u q => by rw [upd_ne (ne_of_none q hx')]; exact st.sub b u q, st.new⟩
section
variable {C : Cw} {X : Cx} {e : Expr} {g : Rho → Res} {pos p : Pos}
theorem pifs_nilv : PIfs X [] (tT (C.at X) fun _ => .ok .fz (.bl true)) := fun pins s σ H Q I h => by
  obtain ⟨ρ, F, R, w⟩ := h
  exact pifs_nil pins s σ H Q I (w F H (.refl R.sub))
theorem pifs_consv {c : Expr} {cs : List Expr} {ga gb : Rho → Res} (hc : PTv C X c ga) (hr : PIfs X cs (tT (C.at X) gb)) : PIfs X (c :: cs) (tT (C.at X) fun ρ => andR (ga ρ) (gb ρ)) := fun pins s σ H Q I h =>
  pifs_cons hc hr pins s σ H Q I (tT_and h)
theorem relSt_sub {K : PySem.W.Frag} {F0 H0 F H : Hp} {σ : L2.St} {ρ : Rho} (caps : List Nat) (n : Nat) (R : RelSt K F0 H0 F H σ ρ) : RelSt K F0 H0 F H (subS caps σ ++ List.replicate n none) (subR caps ρ ++ List.replicate n none) := by
  have low : ∀ (i : Nat) (m : Bool) (d : D), (subR caps ρ ++ List.replicate n none)[i]? = some (some (m, d)) → m = false ∧ ∃ v, (subS caps σ ++ List.replicate n none)[i]? = some (some v) ∧ RepV K F d v := fun i m d e => by
    by_cases hi : i < caps.length
    · rw [List.getElem?_append_left (by simpa [subR] using hi)] at e
      rw [List.getElem?_append_left (by simpa [subS] using hi)]
      unfold subR at e
      unfold subS
      rw [List.getElem?_map, List.getElem?_eq_getElem hi] at e ⊢
      simp only [Option.map_some, Option.some.injEq] at e
      cases z : ρ[caps[i]]? with
      | none => rw [z] at e; cases e
      | some o =>
        rw [z] at e
        cases o with
        | none => cases e
        | some q =>
          obtain ⟨b, d'⟩ := q
          cases b with
          | true => cases e
          | false =>
            cases e
            obtain ⟨v, e1, r, _⟩ := R.slot _ _ _ z
            exact ⟨rfl, v, by simp [e1], r⟩
    · rw [List.getElem?_append_right (by simpa [subR] using hi), List.getElem?_replicate] at e
      split at e <;> cases e
  refine ⟨R.st, fun i m d e => ?_, fun i j d d' a _ e1 _ _ _ => ?_, by simp [subS, subR]⟩
  · obtain ⟨rfl, v, e1, r⟩ := low i m d e
    exact ⟨v, e1, r, by intro z; cases z⟩
  · have := (low i true d e1).1; cases this
end
end D3

namespace D3
open PySem PySem.Spec PyProof.Rows L2
/-! ### == and != of data -/
mutual
def toPy : D → Option PyData
  | .non => some .none
  | .bl b => some (.bool b)
  | .int i => some (.int i)
  | .str x => some (.str x)
  | .tup ds => (toPyL ds).map .tuple
  | .lst ds => (toPyL ds).map .list
  | _ => none
def toPyL : List D → Option (List PyData)
  | [] => some []
  | d :: ds => match toPy d, toPyL ds with
    | some p, some ps => some (p :: ps)
    | _, _ => none
end
section
variable {X : Cx} {pins : List (Addr × Obj)} {σ : L2.St} {F H : Hp} {s : Shared}
mutual
theorem reads_of (I : Inv X pins σ H s) (sF : Same F H) : ∀ (d : D) (p : PyData) (v : V) (u : Value), RepV X.K F d v → RelV v u → toPy d = some p → (∃ as, Reads s.heap u p as) ∧ p.canLay0 = true
  | .non, p, v, u, h, r, e => by simp only [RepV] at h; subst h; cases r; simp only [toPy] at e; cases e; exact ⟨⟨_, .none⟩, rfl⟩
  | .bl b, p, v, u, h, r, e => by simp only [RepV] at h; subst h; cases r; simp only [toPy] at e; cases e; exact ⟨⟨_, .bool b⟩, rfl⟩
  | .int i, p, v, u, h, r, e => by simp only [RepV] at h; subst h; obtain ⟨t, rfl⟩ := r; simp only [toPy] at e; cases e; exact ⟨⟨_, .int i t⟩, rfl⟩
  | .str x, p, v, u, h, r, e => by simp only [RepV] at h; obtain ⟨rfl, _, hk⟩ := h; obtain ⟨t, rfl⟩ := r; simp only [toPy] at e; cases e; exact ⟨⟨_, .str x t⟩, by simpa only [PyData.canLay0] using hk⟩
  | .tup ds, p, v, u, h, r, e => by
    simp only [RepV] at h
    obtain ⟨a, xs, rfl, q, rl⟩ := h
    cases r
    simp only [toPy] at e
    cases ep : toPyL ds with
    | none => rw [ep] at e; cases e
    | some ps =>
      rw [ep] at e; cases e
      obtain ⟨its, rv, ⟨o, h1, h2, n, h3⟩, _⟩ := I.tuple (Same.seqT sF q)
      obtain ⟨⟨as, ra⟩, hc⟩ := readsL_of I sF ds ps xs its rl rv ep
      exact ⟨⟨_, .tuple h1 h2 h3 (by simpa using ra)⟩, by simpa only [PyData.canLay0] using hc⟩
  | .lst ds, p, v, u, h, r, e => by
    simp only [RepV] at h
    obtain ⟨a, xs, rfl, q, rl⟩ := h
    cases r
    simp only [toPy] at e
    cases ep : toPyL ds with
    | none => rw [ep] at e; cases e
    | some ps =>
      rw [ep] at e; cases e
      obtain ⟨its, rv, ⟨o, n, h1, h2, _, h3⟩, _⟩ := I.list (sF.seq q)
      obtain ⟨⟨as, ra⟩, hc⟩ := readsL_of I sF ds ps xs its rl rv ep
      exact ⟨⟨_, .list h1 h2 h3 (by simpa using ra)⟩, by simpa only [PyData.canLay0] using hc⟩
  | .dct _, p, v, u, h, r, e => by simp only [toPy] at e; cases e
  | .ty _, p, v, u, h, r, e => by simp only [toPy] at e; cases e
  | .ob _, p, v, u, h, r, e => by simp only [toPy] at e; cases e
  | .ins _ _, p, v, u, h, r, e => by simp only [toPy] at e; cases e
  | .fn _, p, v, u, h, r, e => by simp only [toPy] at e; cases e
  | .exn _, p, v, u, h, r, e => by simp only [toPy] at e; cases e
  | .set _, p, v, u, h, r, e => by simp only [toPy] at e; cases e
theorem readsL_of (I : Inv X pins σ H s) (sF : Same F H) : ∀ (ds : List D) (ps : List PyData) (xs : List V) (us : List Value), RepL X.K F ds xs → Vals xs us → toPyL ds = some ps → (∃ as, ReadsAll s.heap us ps as) ∧ PyData.canLayAll0 ps = true
  | [], ps, xs, us, h, r, e => by simp only [RepL] at h; subst h; cases r; simp only [toPyL] at e; cases e; exact ⟨⟨_, .nil⟩, rfl⟩
  | d :: ds, ps, xs, us, h, r, e => by
    simp only [RepL] at h
    obtain ⟨y, ys, rfl, hd, hl⟩ := h
    cases r with
    | cons r1 r2 =>
      simp only [toPyL] at e
      cases e1 : toPy d with
      | none => rw [e1] at e; cases e
      | some p =>
        cases e2 : toPyL ds with
        | none => rw [e1, e2] at e; cases e
        | some ps' =>
          rw [e1, e2] at e; cases e
          obtain ⟨⟨as, ra⟩, hc⟩ := reads_of I sF d p y _ hd r1 e1
          obtain ⟨⟨bs, rb⟩, hc'⟩ := readsL_of I sF ds ps' ys _ hl r2 e2
          exact ⟨⟨_, .cons ra rb⟩, by simp only [PyData.canLayAll0, hc, hc', Bool.and_self]⟩
end
/-- also a list or dict that is not frozen -/
theorem reads_rp (I : Inv X pins σ H s) (sF : Same F H) {m : Md} {d : D} {p : PyData} {v : V} {u : Value} (h : Rp X.K F H m d v) (r : RelV v u) (e : toPy d = some p) : (∃ as, Reads s.heap u p as) ∧ p.canLay0 = true := by
  cases m with
  | fz => exact reads_of I sF d p v u h r e
  | _ =>
    obtain ⟨a, rfl, n, t⟩ := h
    cases d with
    | lst ds =>
      obtain ⟨xs, q, rl⟩ := t
      cases r
      simp only [toPy] at e
      cases ep : toPyL ds with
      | none => rw [ep] at e; cases e
      | some ps =>
        rw [ep] at e; cases e
        obtain ⟨its, rv, ⟨o, n, h1, h2, _, h3⟩, _⟩ := I.list (SqL.of q)
        obtain ⟨⟨as, ra⟩, hc⟩ := readsL_of I sF ds ps xs its rl rv ep
        exact ⟨⟨_, .list h1 h2 h3 (by simpa using ra)⟩, by simpa only [PyData.canLay0] using hc⟩
    | dct ds => simp only [toPy] at e; cases e
    | ins _ _ => simp only [toPy] at e; cases e
    | set _ => simp only [toPy] at e; cases e
    | _ => exact t.elim
end
def shal (p : PyData) : Bool := decide (p.depth ≤ 50)
def eqF (neg : Bool) : Md → D → Md → D → Option (Md × D) := fun _ x _ y => match toPy x, toPy y with
  | some p, some q => if (shal p && shal q) = true then some (.fz, .bl (if neg then !PyData.eqv p q else PyData.eqv p q)) else none
  | _, _ => none
section
variable {C : Cw} {X : Cx}
theorem opd_cmpD {f : Value → Value → Sem Value} {neg : Bool} (hu : X.A.units + 64 < cLine)
    (rule : ∀ (s : Shared) (a b : Value) (da db : PyData) (as bs : List Addr) (Q : Value → Shared → Prop), Reads s.heap a da as → Reads s.heap b db bs → da.canLay0 = true → db.canLay0 = true → X.A.units + min da.depth db.depth < cLine →
      Q (.bool (if neg then !PyData.eqv da db else PyData.eqv da db)) s → wpAny (model X.prog X.w) X.A (f a b) Q X.xe s) : OpD C X f (eqF neg) := by
  refine ⟨fun x y H Q => ∃ F m n d e p q, Same F H ∧ Rp X.K F H m d x ∧ Rp X.K F H n e y ∧ toPy d = some p ∧ toPy e = some q ∧ (shal p && shal q) = true ∧ Q (.bl (if neg then !PyData.eqv p q else PyData.eqv p q)) H, ?_, ?_⟩
  · intro pins s σ H x y v u Q I rx ry h
    obtain ⟨F, m, n, d, e, p, q, sF, hd, he, ep, eq, hs, hQ⟩ := h
    obtain ⟨⟨as, ra⟩, ca⟩ := reads_rp I sF hd rx ep
    obtain ⟨⟨bs, rb⟩, cb⟩ := reads_rp I sF he ry eq
    rw [Bool.and_eq_true] at hs
    have h1 := of_decide_eq_true hs.1
    refine rule s v u p q as bs _ ra rb ca cb (by have := Nat.min_le_left p.depth q.depth; omega) ⟨.bl _, H, I, rfl, hQ⟩
  · intro F H m x n y v u k d Q s rx ry e w
    unfold eqF at e
    split at e
    · rename_i p q ep eq
      split at e
      · rename_i hc
        cases e
        exact ⟨F, m, n, x, y, p, q, s, rx, ry, ep, eq, hc, w _ F H (.refl s) (rp_bl _) (by intro z; cases z)⟩
      · cases e
    · cases e
theorem opd_eq (hu : X.A.units + 64 < cLine) : OpD C X (compareOp .Eq) (eqF false) := opd_cmpD hu fun s a b da db as bs Q ra rb ca cb hd q => SeqAt.compareEq_reads ra rb ca cb hd q
theorem opd_ne (hu : X.A.units + 64 < cLine) : OpD C X (compareOp .NotEq) (eqF true) := opd_cmpD hu fun s a b da db as bs Q ra rb ca cb hd q => SeqAt.compareNe_reads ra rb ca cb hd q
end
end D3

namespace D3
open PySem PySem.Spec PyProof.Rows L2
/-! ### the methods of Python's own values -/
section
variable {C : Cw} {X : Cx} {o e : Expr} {es : List Expr} {go : Rho → Res} {gs : Rho → ResL} {apos cpos : Pos} {T id : String} {name : Str}
/-! join -/
def strsD : List D → Option (List Str)
  | [] => some []
  | .str x :: r => (strsD r).map (x :: ·)
  | _ => none
def joinD : Md → D → List (Md × D) → Option (Md × D) := fun _ x xs => match x, xs with
  | .str z, [(_, .lst ds)] => (match strsD ds with
    | some ys => if (ys.map (·.length)).sum + ys.length * z.length ≤ sizeLine then some (.fz, .str (Txt.join z ys)) else none
    | none => none)
  | _, _ => none
end
/-! ### own defs -/
def spV (K : PySem.W.Frag) (mg : Str → Option Value) (n : Nat) (Φ : List D → Res) : Sp := fun vs H Q E => vs.length = n ∧ ∃ F ds, Same F H ∧ RepL K F ds vs ∧ match Φ ds with
  | .ok m d => m ≠ .bo ∧ ∀ v F' H', Step F H F' H' → Rp K F' H' m d v → (m = .fr → ∀ a, v = .ref a → H a = none) → Q v H'
  | .exc c => ∀ F' H' u, Step F H F' H' → mg c = some u → E u none H'
  | .stuck => False
structure FnV (P : Program) (w : World) (K : PySem.W.Frag) (mg : Str → Option Value) (base : Heap) (CX : CXT) (k : Nat) (x : Str) (n : Nat) (Φ : List D → Res) : Prop where
  ex : ∃ f fd ps, FnOk P w K mg base CX k f fd ps (spV K mg n Φ) ∧ mg x = some (.ref f) ∧ PySem.W.keepIn K (.ref f) = true ∧ Binds K fd ps []
theorem FnV.mono {P : Program} {w : World} {K : PySem.W.Frag} {mg : Str → Option Value} {base : Heap} {CX : CXT} {j k : Nat} {x : Str} {n : Nat} {Φ : List D → Res} (F : FnV P w K mg base CX j x n Φ) (h : j ≤ k) : FnV P w K mg base CX k x n Φ := by
  obtain ⟨f, fd, ps, a, r⟩ := F.ex
  exact ⟨f, fd, ps, a.mono h, r⟩
def callF (n : Nat) (Φ : List D → Res) (r : ResL) : Res := r.thn fun xs => match allFz xs with
  | some ds => if ds.length = n then (match Φ ds with | .ok .bo _ => .stuck | r => r) else .stuck
  | none => .stuck
/-- what the body wants of a callee's exception -/
def XOk (CX : CXT) (C : Cw) (X : Cx) : Prop := ∀ (pins : List (Addr × Obj)) (σ : L2.St) (H : Hp) (s : Shared) (e : Value) (s' : Shared), Inv X pins σ H s → CX X.stack H s (fun u _ H' => ∃ c, X.mg c = some u ∧ C.EE c σ H') e s' → X.xe e s'
section
variable {C : Cw} {X : Cx} {e : Expr} {es : List Expr} {gs : Rho → ResL} {p pos : Pos} {x : Str} {k n : Nat} {Φ : List D → Res} {CX : CXT}
theorem run_V {f : Addr} {fd : FuncData} {ps : List Str} {pins : List (Addr × Obj)} {σ : L2.St} {H : Hp} {s : Shared} {Q : VK} {us : List Value} {vs : List V} {E : XK} (F : FnOk X.prog X.w X.K X.mg X.base CX k f fd ps (spV X.K X.mg n Φ)) (hr : Room k X.A) (hb : Binds X.K fd ps [])
    (hx : ∀ e s', CX X.stack H s E e s' → X.xe e s') (I : Inv X pins σ H s) (r : Vals vs us) (h : spV X.K X.mg n Φ vs H Q E) : wpAny (model X.prog X.w) X.A (call (.ref f) us) (EP X pins σ Q) X.xe s := by
  have hl : (us ++ []).length = ps.length := by rw [List.append_nil, ← r.length]; exact F.len _ _ _ _ h
  have hb' := hb s us I.kIn hl
  rw [List.append_nil] at hb'
  refine wpAny_call (codeAny_mono (F.run X.A X.stack s H ⟨us, []⟩ us vs Q E hr I.env0 hb' r h) fun r s' hq => ?_)
  cases r with
  | error e => exact hx e s' hq
  | ok fl =>
    cases fl with
    | ret u => exact I.after hq
    | next => exact False.elim hq
    | brk => exact False.elim hq
    | cont => exact False.elim hq
theorem pv_call (F : FnV X.prog X.w X.K X.mg X.base CX k x n Φ) (hr : Room k X.A) (hx : XOk CX (C.at X) X) (hg : Gl X x) (ha : PAv C X (e :: es) gs)
    (hdb : (x == ("__debug__" : Str)) = false := by decide) (he : starEach (e :: es) X.env = (false, eval e X.env) :: starEach es X.env := by rfl) (hpl : (backTo pos (starEach es X.env)).any (·.1) = false := by rfl) :
    PV C X (.Call (.Name x p) (e :: es) [] pos) (fun ρ => callF n Φ (gs ρ)) := by
  obtain ⟨f, fd, ps, FF, hm, hk, hb⟩ := F.ex
  intro pins s σ H Q I h
  rw [tG_eq] at h
  obtain ⟨ρ, F, R, w⟩ := h
  refine wpAny_Call_Name_kw (ld_glob I hg hm ?_ hdb)
  refine PySem.W.callWith_K (h₀ := X.base) I.ok.mod.kin hk (thn (ha pos pins s σ H (fun vs H1 => spV X.K X.mg n Φ vs H1 Q fun u _ H' => ∃ c, X.mg c = some u ∧ C.EE c σ H') I ?_) fun us s1 ⟨vs, H1, I1, r, q⟩ => ⟨I1.kIn, run_V FF hr hb (fun e s' hc => hx pins σ H1 s1 e s' I1 hc) I1 r q⟩) he hpl
  refine ⟨ρ, F, R, ?_⟩
  cases er : gs ρ with
  | stuck => rw [er] at w; exact w
  | exc c => rw [er] at w; exact w
  | ok xs =>
    rw [er] at w
    intro vs F1 H1 s1 r1
    have w1 : Want (C.at X) F1 H1 σ (callF n Φ (.ok xs)) Q := Want.step s1 w
    unfold callF at w1
    rw [ResL.thn_ok] at w1
    cases ef : allFz xs with
    | none => rw [ef] at w1; exact w1.elim
    | some ds =>
      rw [ef] at w1
      dsimp only at w1
      split at w1
      · rename_i hn
        have rl := r1.fz ef
        refine ⟨by rw [rl.length]; exact hn, F1, ds, s1.sub, rl, ?_⟩
        cases ep : Φ ds with
        | stuck => rw [ep] at w1; exact w1
        | exc c => rw [ep] at w1; exact fun F' H' u st hu => ⟨c, hu, w1 F' H' st⟩
        | ok m d =>
          rw [ep] at w1
          cases m with
          | bo => exact w1.elim
          | fz => exact ⟨by decide, w1⟩
          | fr => exact ⟨by decide, w1⟩
      · exact w1.elim
end
/-! ### a def by its body -/
def endR : SRes → Res
  | .nx _ => .ok .fz .non
  | .rt m d => .ok m d
  | .exc c _ => .exc c
  | _ => .stuck
def startR (n : Nat) (ds : List D) : Rho := ds.map (fun d => some (false, d)) ++ List.replicate (n - ds.length) none
theorem relSt_start {K : PySem.W.Frag} {F H : Hp} {N : List Str} {ds : List D} {vs : List V} (s : Same F H) (r : RepL K F ds vs) : RelSt K F H F H (start N vs) (startR N.length ds) := by
  have low : ∀ (i : Nat) (m : Bool) (d : D), (startR N.length ds)[i]? = some (some (m, d)) → m = false ∧ ∃ v, (start N vs)[i]? = some (some v) ∧ RepV K F d v := fun i m d e => by
    unfold startR at e
    unfold L2.start
    by_cases hi : i < ds.length
    · rw [List.getElem?_append_left (by simpa using hi), List.getElem?_map, List.getElem?_eq_getElem hi] at e
      cases e
      obtain ⟨v, ev, rv⟩ := r.get' (List.getElem?_eq_getElem hi)
      exact ⟨rfl, v, by rw [List.getElem?_append_left (by simpa [r.length] using hi), List.getElem?_map, ev]; rfl, rv⟩
    · rw [List.getElem?_append_right (by simpa using hi), List.getElem?_replicate] at e
      split at e <;> cases e
  refine ⟨.refl s, fun i m d e => ?_, fun i j d d' a _ e1 _ _ _ => ?_, by simp [L2.start, startR, r.length]⟩
  · obtain ⟨rfl, v, e1, rv⟩ := low i m d e
    exact ⟨v, e1, rv, by intro z; cases z⟩
  · have := (low i true d e1).1; cases this
/-! ### the law's own head -/
def lawIn (ns : List Int) : List D := [.lst (ns.map .int)]
theorem repL_ints {K : PySem.W.Frag} {F : Hp} : ∀ ns : List Int, RepL K F (ns.map D.int) (ns.map V.int)
  | [] => RepL.nil
  | n :: ns => RepL.cons (by simp only [RepV]) (repL_ints ns)
end D3

namespace D3
open PySem PySem.Spec PyProof.Rows L2
/-! ### short names for the writer of proofs -/
def noK : Md → D → Md → D → Option (Md × D) := fun _ _ _ _ => none
abbrev fAdd : Md → D → Md → D → Option (Md × D) := orO (fI (fun _ _ => true) fun i j => .int (i + j)) (fS (fun i j => decide (i.length + j.length ≤ sizeLine)) fun i j => .str (i ++ j))
abbrev fSub : Md → D → Md → D → Option (Md × D) := fI (fun _ _ => true) fun i j => .int (i - j)
abbrev fMul : Md → D → Md → D → Option (Md × D) := orO (fI (fun i j => (bits i && bits j) || (w64 i || w64 j)) fun i j => .int (i * j)) noK
abbrev fMod : Md → D → Md → D → Option (Md × D) := fI (fun _ j => decide (0 < j)) fun i j => .int (i % j)
abbrev fDiv : Md → D → Md → D → Option (Md × D) := fI (fun _ j => decide (0 < j) && bits j) fun i j => .int (i / j)
abbrev fPow : Md → D → Md → D → Option (Md × D) := fI (fun i j => decide (0 ≤ j) && decide (j ≤ 1000000) && decide (i.natAbs < 2 ^ 64)) fun i j => .int (i ^ j.toNat)
abbrev fLt : Md → D → Md → D → Option (Md × D) := fI (fun _ _ => true) fun i j => .bl (decide (i < j))
abbrev fLe : Md → D → Md → D → Option (Md × D) := fI (fun _ _ => true) fun i j => .bl (decide (i ≤ j))
abbrev fGt : Md → D → Md → D → Option (Md × D) := fI (fun _ _ => true) fun i j => .bl (decide (j < i))
abbrev fGe : Md → D → Md → D → Option (Md × D) := fI (fun _ _ => true) fun i j => .bl (decide (j ≤ i))
abbrev fEq : Md → D → Md → D → Option (Md × D) := orO (eqF false) noK
abbrev fNe : Md → D → Md → D → Option (Md × D) := orO (eqF true) noK
abbrev fIn : Md → D → Md → D → Option (Md × D) := fS (fun _ _ => true) fun i j => .bl (isIn i j)
abbrev fNotIn : Md → D → Md → D → Option (Md × D) := fS (fun _ _ => true) fun i j => .bl (!isIn i j)
def IsB (φ : Md → D → Md → D → Option (Md × D)) : Prop := ∀ m x n y k d, φ m x n y = some (k, d) → ∃ t, k = .fz ∧ d = .bl t
theorem isB_I {c : Int → Int → Bool} {g : Int → Int → Bool} : IsB (fI c fun i j => .bl (g i j)) := fun m x n y k d e => by
  unfold fI at e
  split at e
  · split at e
    · cases e; exact ⟨_, rfl, rfl⟩
    · cases e
  · cases e
theorem isB_S {c : Str → Str → Bool} {g : Str → Str → Bool} : IsB (fS c fun i j => .bl (g i j)) := fun m x n y k d e => by
  unfold fS at e
  split at e
  · split at e
    · cases e; exact ⟨_, rfl, rfl⟩
    · cases e
  · cases e
theorem isB_or {φ ψ} (h : IsB φ) (h' : IsB ψ) : IsB (orO φ ψ) := fun m x n y k d e => by
  unfold orO at e
  cases e1 : φ m x n y with
  | none => rw [e1] at e; exact h' _ _ _ _ _ _ e
  | some p => rw [e1] at e; cases e; exact h _ _ _ _ _ _ e1
theorem isB_eqF {neg : Bool} : IsB (eqF neg) := fun m x n y k d e => by
  unfold eqF at e
  split at e
  · split at e
    · cases e; exact ⟨_, rfl, rfl⟩
    · cases e
  · cases e
section
variable {C : Cw} {X : Cx}
theorem opd_noK {f : Value → Value → Sem Value} : OpD C X f noK := ⟨fun _ _ _ _ => False, fun _ _ _ _ _ _ _ _ _ _ _ _ h => h.elim, fun _ _ _ _ _ _ _ _ _ _ _ _ _ _ e _ => by cases e⟩
theorem o_add : OpD C X (binaryOp .Add) fAdd := opd_add.or opd_addS
theorem o_mul : OpD C X (binaryOp .Mult) fMul := opd_mul.or opd_noK
theorem o_eq (hu : X.A.units + 64 < cLine) : OpD C X (compareOp .Eq) fEq := (opd_eq hu).or opd_noK
theorem o_ne (hu : X.A.units + 64 < cLine) : OpD C X (compareOp .NotEq) fNe := (opd_ne hu).or opd_noK
/-- a def by its body -/
def phi (n N : Nat) (g : Rho → SRes) : List D → Res := fun ds => if ds.length = n then endR (g (startR N ds)) else .stuck
end
/-! comprehensions: one check -/
def relSc (scope sc : Scope) : List (Str × NameKind) := scope.names.map fun (n, k) => if (k == .free && sc.kind == .function && sc.names.lookup n == some .cell) then (n, .cell) else (n, k)
theorem bb_len : bootBuiltins "len" = some (.builtin "len") := by decide +kernel
theorem bb_isinstance : bootBuiltins "isinstance" = some (.builtin "isinstance") := by decide +kernel
theorem bb_all : bootBuiltins "all" = some (.builtin "all") := by decide +kernel
theorem bb_int : bootBuiltins "int" = some (.type "int") := by decide +kernel
theorem bb_bool : bootBuiltins "bool" = some (.type "bool") := by decide +kernel
theorem bb_str : bootBuiltins "str" = some (.type "str") := by decide +kernel
theorem bb_tuple : bootBuiltins "tuple" = some (.type "tuple") := by decide +kernel
theorem bb_list : bootBuiltins "list" = some (.type "list") := by decide +kernel
theorem bb_dict : bootBuiltins "dict" = some (.type "dict") := by decide +kernel
end D3

namespace D3
open PySem PySem.Spec PyProof.Rows L2
/-! ### own classes: what stands there -/
structure CI where
  name : Str
  ups : List Str
  flds : List Str
  meths : List (Str × Str × Nat)
def notStar : Expr → Bool | .Starred .. => false | _ => true
def notSup : Expr → Bool | .Call (.Name x _) [] [] _ => x != "super" | _ => true
theorem star_cons {x : Expr} {es : List Expr} {env : Env} (h : notStar x = true) : starEach (x :: es) env = (false, eval x env) :: starEach es env := by
  cases x <;> first | rfl | cases h
theorem star_any (pos : Pos) (env : Env) : ∀ {es : List Expr}, (∀ x ∈ es, notStar x = true) → (backTo pos (starEach es env)).any (·.1) = false
  | [], _ => rfl
  | x :: es, h => by
    rw [star_cons (h x List.mem_cons_self)]
    show ((false || (backTo pos (starEach es env)).any (·.1)) = false)
    rw [star_any pos env fun y hy => h y (List.mem_cons_of_mem _ hy)]; rfl
theorem star_all (pos : Pos) (env : Env) : ∀ {es : List Expr}, (∀ x ∈ es, notStar x = true) → (backTo pos (starEach es env)).all (fun x => !x.1) = true
  | [], _ => rfl
  | x :: es, h => by
    rw [star_cons (h x List.mem_cons_self)]
    show ((true && (backTo pos (starEach es env)).all (fun x => !x.1)) = true)
    rw [star_all pos env fun y hy => h y (List.mem_cons_of_mem _ hy)]; rfl
theorem attrBase {o : Expr} {n : Str} {env : Env} {w : Sem Value} (h : notSup o = true) : attributeBase o n env w = w := by
  cases o with
  | Call f as ks pos =>
    cases f with
    | Name x p =>
      cases as with
      | nil =>
        cases ks with
        | nil =>
          show (if x != "super" || n == "__class__" || env.kindOf "super" != some .globalImplicit || env.kindOf "__class__" != some .free then w else _) = w
          have : (x != ("super" : Str)) = true := h
          rw [if_pos (by rw [this]; rfl)]
        | cons _ _ => rfl
      | cons _ _ => rfl
    | _ => rfl
  | _ => rfl
theorem meth_eval {o : Expr} {m : Str} {apos pos : Pos} {args : List Expr} {env : Env} (hb : notSup o = true) (hst : ∀ x ∈ args, notStar x = true) (hn : args.length < 30) (hl : apos.endLine = pos.line) :
    eval (.Call (.Attribute o m apos) args [] pos) env = (do
      let ov ← eval o env
      standAt apos.atName
      let (f, first) ← holding [ov] (getMethod ov m (do return (← importBound o env).getD true))
      callWith pos f first (backTo pos (starEach args env)) (backToKw pos (keywordEach [] env))) := by
  have few : methodCallForm (args.length + ([] : List Keyword).length) (backTo pos (starEach args env)) (backToKw pos (keywordEach [] env)) = true := by
    unfold methodCallForm
    rw [star_all pos env hst]
    show (true && true && decide (args.length + 0 + 0 < 30)) = true
    rw [decide_eq_true (by omega)]; rfl
  show (do
    let ov ← attributeBase o m env (eval o env)
    standAt apos.atName
    methodCall o m apos pos env ov (args.length + ([] : List Keyword).length) (backTo pos (starEach args env)) (backToKw pos (keywordEach [] env))) = _
  rw [attrBase hb]
  unfold methodCall
  rw [few]
  have hp : methodCallPos true o env apos pos = pure pos := by
    unfold methodCallPos
    rw [if_pos (by rw [hl]; simp)]
  rw [hp]
  show (do
    let ov ← eval o env
    standAt apos.atName
    let (f, first) ← holding [ov] (getMethod ov m (do return (← importBound o env).getD true))
    let callPos ← pure pos
    callWith callPos f first (backTo pos (starEach args env)) (backToKw pos (keywordEach [] env))) = _
  simp only [pure_bind]
/-- the method m of the class c -/
structure MtV (P : Program) (w : World) (K : PySem.W.Frag) (mg : Str → Option Value) (base : Heap) (CX : CXT) (k : Nat) (c m : Str) (n : Nat) (Φ : List D → Res) : Prop where
  ex : ∃ C f fd ps, PySem.W.nsIn K mainGlobals c = some (some (.ref C)) ∧ Cls K C ∧ Meth K C m f ∧ FnOk P w K mg base CX k f fd ps (spV K mg n Φ) ∧ Binds K fd ps []
/-- a class's own attributes of its objects -/
structure FlV (K : PySem.W.Frag) (c f : Str) : Prop where
  ex : ∃ C, PySem.W.nsIn K mainGlobals c = some (some (.ref C)) ∧ Cls K C ∧ NoAttr K C f
def CI.meth (cl : List CI) (c m : Str) : Option (Str × Nat) := match cl.find? (fun i => i.name == c) with
  | some i => i.meths.lookup m
  | none => none
def fldR (cl : List CI) (f : Str) (r : Res) : Res := r.thn fun _ d => match d with
  | .ins c fs => (match cl.find? (fun i => i.name == c) with
    | some i => if i.flds.contains f = true then (match fs.lookup f with | some d => .ok .fz d | none => .stuck) else .stuck
    | none => .stuck)
  | _ => .stuck
def methR (cl : List CI) (Φ : Str → List D → Res) (m : Str) (o : Res) (as : ResL) : Res := o.thn fun md d => match md, d with
  | .fz, .ins c fs => (match CI.meth cl c m with
    | some (key, n) => if fs.lookup m = none then callF n (Φ key) (consL (.ok .fz (.ins c fs)) as) else .stuck
    | none => .stuck)
  | _, _ => .stuck
section
variable {C : Cw} {X : Cx} {o e : Expr} {es : List Expr} {go : Rho → Res} {gs : Rho → ResL} {apos pos : Pos} {m f : Str} {k : Nat} {Φ : Str → List D → Res} {CX : CXT} {cl : List CI}
theorem pv_fld (hF : ∀ i f, i ∈ cl → f ∈ i.flds → FlV X.K i.name f) (ho : PV C X o go) (hb : notSup o = true) : PV C X (.Attribute o f pos) (fun ρ => fldR cl f (go ρ)) := by
  refine PE.imp (pe_fld ho (attrBase hb)) fun σ H Q q => ?_
  unfold tFld
  rw [tG_eq] at q ⊢
  obtain ⟨ρ, F, R, w⟩ := q
  refine ⟨ρ, F, R, ?_⟩
  cases er : go ρ with
  | stuck => rw [er] at w; exact w
  | exc c => rw [er] at w; exact w
  | ok md d =>
    rw [er] at w
    intro v F1 H1 s1 r1 _
    have w1 : Want (C.at X) F1 H1 σ (fldR cl f (.ok md d)) Q := Want.step s1 w
    unfold fldR at w1
    rw [Res.thn_ok] at w1
    cases d with
    | ins c fs =>
      dsimp only at w1
      cases ef : cl.find? (fun i => i.name == c) with
      | none => rw [ef] at w1; exact w1.elim
      | some i =>
        rw [ef] at w1
        dsimp only at w1
        split at w1
        · rename_i hf
          cases el : fs.lookup f with
          | none => rw [el] at w1; exact w1.elim
          | some d' =>
            rw [el] at w1
            have hi : i.name = c := by simpa using List.find?_some ef
            obtain ⟨C', n1, cl', na⟩ := (hF i f (List.mem_of_find?_eq_some ef) (by simpa using hf)).ex
            rw [hi] at n1
            obtain ⟨a, C2, dx, gs', ev, n2, ea, rf⟩ := r1.ins s1.sub
            rw [n1] at n2; cases n2
            obtain ⟨u, lu, ru⟩ := rf.look el
            exact ⟨a, C', dx, gs', u, ev, ea, cl', na, lu, w1 u F1 H1 (.refl s1.sub) ru (by intro z; cases z)⟩
        · exact w1.elim
    | _ => exact w1.elim
theorem methcall_V (hM : ∀ c m key n, CI.meth cl c m = some (key, n) → MtV X.prog X.w X.K X.mg X.base CX k c m n (Φ key)) (hr : Room k X.A) (hx : XOk CX (C.at X) X) (ho : PV C X o go) (ha : PAv C X es gs) (hb : notSup o = true) (hst : ∀ x ∈ es, notStar x = true) (hn : es.length < 30) (hl : apos.endLine = pos.line) (hes : es = [] → gs = fun _ => .ok []) :
    PV C X (.Call (.Attribute o m apos) es [] pos) (fun ρ => methR cl Φ m (go ρ) (gs ρ)) := by
  intro pins s σ H Q I q
  rw [tG_eq] at q
  obtain ⟨ρ, F, R, w⟩ := q
  refine methcall_of (pl := (do return (← importBound o X.env).getD true)) ho I ?_ (meth_eval hb hst hn hl)
  show tG (C.at X) go σ H _
  rw [tG_eq]
  refine ⟨ρ, F, R, ?_⟩
  cases er : go ρ with
  | stuck => rw [er] at w; exact w
  | exc c => rw [er] at w; exact w
  | ok md d =>
    rw [er] at w
    intro v F1 H1 s1 r1 _
    have w1 : Want (C.at X) F1 H1 σ (methR cl Φ m (.ok md d) (gs ρ)) Q := Want.step s1 w
    unfold methR at w1
    rw [Res.thn_ok] at w1
    cases md with
    | fr => exact w1.elim
    | bo => exact w1.elim
    | fz =>
    cases d with
    | ins c fs =>
      dsimp only at w1
      cases em : CI.meth cl c m with
      | none => rw [em] at w1; exact w1.elim
      | some kn =>
        obtain ⟨key, n⟩ := kn
        rw [em] at w1
        dsimp only at w1
        split at w1
        · rename_i hnl
          obtain ⟨C', f', fd, ps, n1, cl', me, FO, hbd⟩ := (hM c m key n em).ex
          have r1' := r1
          obtain ⟨a, C2, dx, gs', ev, n2, ea, rf⟩ := r1.ins s1.sub
          rw [n1] at n2; cases n2
          subst ev
          refine ⟨a, C', dx, gs', f', rfl, ea, cl', me, rf.lookN hnl, fun s1' I1 => ?_⟩
          have fin : ∀ (vs : List V) (us : List Value) (s2 : Shared) (F2 H2 : Hp) (xs : List (Md × D)), Step F1 H1 F2 H2 → RpL X.K F2 H2 xs vs → Inv X pins σ H2 s2 → Vals vs us → gs ρ = .ok xs → wpAny (model X.prog X.w) X.A (call (.ref f') (.ref a :: us)) (EP X pins σ Q) X.xe s2 := by
            intro vs us s2 F2 H2 xs s2' rl I2 rv eg
            rw [eg] at w1
            have w2 : Want (C.at X) F2 H2 σ (callF n (Φ key) (consL (.ok .fz (.ins c fs)) (.ok xs))) Q := Want.step s2' w1
            rw [consL_ok] at w2
            unfold callF at w2
            rw [ResL.thn_ok] at w2
            have rl2 : RpL X.K F2 H2 ((.fz, .ins c fs) :: xs) (.ref a :: vs) := ⟨_, _, rfl, r1'.step s2', rl⟩
            cases ef : allFz ((.fz, .ins c fs) :: xs) with
            | none => rw [ef] at w2; exact w2.elim
            | some ds =>
              rw [ef] at w2
              dsimp only at w2
              split at w2
              · rename_i hnn
                have rl3 := rl2.fz ef
                refine run_V (E := fun u _ H' => ∃ c, X.mg c = some u ∧ C.EE c σ H') (vs := .ref a :: vs) (us := .ref a :: us) FO hr hbd (fun e s' hc => hx pins σ H2 s2 e s' I2 hc) I2 (.cons rfl rv) ⟨by rw [rl3.length]; exact hnn, F2, ds, s2'.sub, rl3, ?_⟩
                cases ep : Φ key ds with
                | stuck => rw [ep] at w2; exact w2
                | exc c => rw [ep] at w2; exact fun F' H' u st hu => ⟨c, hu, w2 F' H' st⟩
                | ok m d =>
                  rw [ep] at w2
                  cases m with
                  | bo => exact w2.elim
                  | fz => exact ⟨by decide, w2⟩
                  | fr => exact ⟨by decide, w2⟩
              · exact w2.elim
          cases es with
          | nil =>
            refine PySem.W.callWith_K0 (first := [.ref a]) I1.kIn me.kp ?_
            have eg : gs ρ = .ok [] := by rw [hes rfl]
            exact fin [] [] s1' F1 H1 [] (.refl s1.sub) rfl I1 .nil eg
          | cons e es =>
            refine PySem.W.callWith_K (first := [.ref a]) (h₀ := X.base) I.ok.mod.kin me.kp (thn (ha pos pins s1' σ H1 (fun vs H2 => ∃ F2 xs, Step F1 H1 F2 H2 ∧ RpL X.K F2 H2 xs vs ∧ gs ρ = .ok xs) I1 ?_) fun us s2 ⟨vs, H2, I2, r, F2, xs, st2, rl, eg⟩ => ⟨I2.kIn, ?_⟩) (star_cons (hst e List.mem_cons_self)) (star_any _ _ fun y hy => hst y (List.mem_cons_of_mem _ hy))
            · refine ⟨ρ, F1, R.step s1, ?_⟩
              cases eg : gs ρ with
              | stuck => rw [eg] at w1; exact w1
              | exc c => rw [eg] at w1; exact w1
              | ok xs => exact fun vs F2 H2 s2 rl => ⟨F2, xs, s2, rl, rfl⟩
            · exact fin vs us s2 F2 H2 xs st2 rl I2 r eg
        · exact w1.elim
    | _ => exact w1.elim
end
end D3

namespace D3
open PySem PySem.Spec PyProof.Rows L2
/-! ### an owned thing changes -/
def putFD (f : Str) (v : D) : List (Str × D) → List (Str × D)
  | [] => [(f, v)]
  | (g, u) :: r => if g = f then (g, v) :: r else (g, u) :: putFD f v r
theorem RepF.put {K : PySem.W.Frag} {F : Hp} {f : Str} {d : D} {v : V} (rv : RepV K F d v) : ∀ {fs : List (Str × D)} {gs : List (Str × V)}, RepF K F fs gs → RepF K F (putFD f d fs) (putF f v gs)
  | [], _, h => by
    simp only [RepF] at h; subst h
    show RepF K F [(f, d)] [(f, v)]
    simp only [RepF]
    exact ⟨v, [], rfl, rv, rfl⟩
  | (g, u) :: r, _, h => by
    simp only [RepF] at h
    obtain ⟨y, ys, rfl, q, t⟩ := h
    unfold putFD putF
    by_cases hg : g = f
    · rw [if_pos hg, if_pos hg]
      simp only [RepF]
      exact ⟨v, ys, rfl, rv, t⟩
    · rw [if_neg hg, if_neg hg]
      simp only [RepF]
      exact ⟨y, _, rfl, q, RepF.put rv t⟩
section
variable {C : Cw} {X : Cx} {e : Expr} {g : Rho → Res} {pos p pos' : Pos} {f x : Str} {cl : List CI}
end
/-! ### new objects -/
structure MkV0 (K : PySem.W.Frag) (mg : Str → Option Value) (c : Str) : Prop where
  ex : ∃ C, PySem.W.nsIn K mainGlobals c = some (some (.ref C)) ∧ mg c = some (.ref C) ∧ PySem.W.makesIn K C = true ∧ PySem.W.findIn K (.ref C) "__init__" = some (some (.builtin "object.__init__")) ∧ PySem.W.keepIn K (.ref C) = true
theorem pe_mk0 {X : Cx} {C : Addr} {x : Str} {p pos : Pos} (hm : X.mg x = some (.ref C)) (h1 : PySem.W.makesIn X.K C = true) (h2 : PySem.W.findIn X.K (.ref C) "__init__" = some (some (.builtin "object.__init__"))) (h3 : PySem.W.keepIn X.K (.ref C) = true)
    (hg : Gl X x) (hdb : (x == ("__debug__" : Str)) = false) : PE X (.Call (.Name x p) [] [] pos) (fun σ H Q => ∀ a dx, H a = none → H dx = none → dx ≠ a → Q (.ref a) (upd (upd H dx (.own a)) a (.ins C dx []))) := by
  intro pins s σ H Q I h
  refine wpAny_Call_Name_kw (ld_glob I hg hm ?_ hdb)
  refine PySem.W.callWith_K0 I.kIn h3 (wpAny_call (make_map0 I.kIn h1 h2 (fun self => PySem.W.Looks.of_pure (PySem.W.oi_bind self)) ?_))
  have I2 := Inv.made (C := C) I
  have Y := PySem.W.makes_of (M := model X.prog X.w) I.kIn h1
  have hh : ((s.heap.push PySem.W.emptyDict).push (PySem.W.instObj C s.heap.objs.size)).get? (s.heap.objs.size + 1) = some (PySem.W.instObj C s.heap.objs.size) := by
    have := Heap.get?_push_size (s.heap.push PySem.W.emptyDict) (o := PySem.W.instObj C s.heap.objs.size) rfl
    rwa [Heap.size_push] at this
  have t1 : PySem.W.Looks (model X.prog X.w) ((s.heap.push PySem.W.emptyDict).push (PySem.W.instObj C s.heap.objs.size)) (typeOf (.ref (s.heap.objs.size + 1))) (.ref C) := (PySem.W.Looks.ld hh).andThen .now
  have t2 : PySem.W.Looks (model X.prog X.w) ((s.heap.push PySem.W.emptyDict).push (PySem.W.instObj C s.heap.objs.size)) (isInstance (.ref (s.heap.objs.size + 1)) (.type "object")) true := t1.andThen (Y.top.keeps fun b o e => Heap.get?_push_of_some _ (Heap.get?_push_of_some _ e))
  refine codeAny_call_builtin PySem.W.oi_plain PySem.W.entry_oi (@PySem.W.check_slot (model X.prog X.w) _ _ _ "object.__init__" "object" "__init__" (.ref (s.heap.objs.size + 1)) [] [] _ PySem.W.oi_kind PySem.W.oi_split t2 (PySem.W.oi_args (.ref (s.heap.objs.size + 1))) ?_)
  rw [PySem.W.oi_run]
  refine wpAny_pure (And.intro rfl ⟨.ref (s.heap.objs.size + 1), _, I2, rfl, ?_⟩)
  exact h (s.heap.objs.size + 1) s.heap.objs.size (I.hok.fresh (Nat.le_succ _)) (I.hok.fresh (Nat.le_refl _)) (Nat.ne_of_lt (Nat.lt_succ_self _))
theorem step_made {F H : Hp} {a dx C : Addr} (s : Same F H) (ha : H a = none) (hd : H dx = none) (hne : dx ≠ a) : Step F H F (upd (upd H dx (.own a)) a (.ins C dx [])) := by
  have s1 := Step.fresh (.own a) s hd
  refine s1.trans (Step.fresh _ s1.sub ?_)
  rw [upd_ne (fun z => hne z.symm)]; exact ha
theorem pv_mk0 {C : Cw} {X : Cx} {c : Str} {p pos : Pos} (M : MkV0 X.K X.mg c) (hg : Gl X c) (hdb : (c == ("__debug__" : Str)) = false) : PV C X (.Call (.Name c p) [] [] pos) (fun _ => .ok .fr (.ins c [])) := by
  obtain ⟨C', n, hm, h1, h2, h3⟩ := M.ex
  refine PE.imp (pe_mk0 hm h1 h2 h3 hg hdb) fun σ H Q q => ?_
  rw [tG_eq] at q
  obtain ⟨ρ, F, R, w⟩ := q
  intro a dx ha hd hne
  refine w (.ref a) F _ (step_made R.sub ha hd hne) ⟨a, rfl, R.sub.free ha, C', dx, [], n, upd_same, ?_⟩ fun _ b eb => by cases eb; exact ha
  simp only [RepF]
end D3

namespace D3
open PySem PySem.Spec PyProof.Rows L2
/-! ### objects made by an own __init__ -/
def spI (K : PySem.W.Frag) (mg : Str → Option Value) (c : Str) (n : Nat) (Φ : List D → Res) : Sp := fun vs H Q E => ∃ x us dx C H1 F ds, vs = .ref x :: us ∧ us.length = n ∧ PySem.W.nsIn K mainGlobals c = some (some (.ref C)) ∧
  H = upd (upd H1 dx (.own x)) x (.ins C dx []) ∧ H1 x = none ∧ H1 dx = none ∧ dx ≠ x ∧ Same F H1 ∧ RepL K F ds us ∧ match Φ ds with
  | .ok _ d => ∀ F' H', Step F H1 F' H' → Rp K F' H' .fr d (.ref x) → Q .non H'
  | .exc c => ∀ F' H' u, Step F H1 F' H' → mg c = some u → E u none H'
  | .stuck => False
structure InV (P : Program) (w : World) (K : PySem.W.Frag) (mg : Str → Option Value) (base : Heap) (CX : CXT) (k : Nat) (c : Str) (n : Nat) (Φ : List D → Res) : Prop where
  ex : ∃ C f fd ps, PySem.W.nsIn K mainGlobals c = some (some (.ref C)) ∧ mg c = some (.ref C) ∧ Mk K C f ∧ FnOk P w K mg base CX k f fd ps (spI K mg c n Φ) ∧ Binds K fd ps []
def makeR (n : Nat) (Φ : List D → Res) (r : ResL) : Res := r.thn fun xs => match allFz xs with
  | some ds => if ds.length = n then (match Φ ds with | .ok _ d => .ok .fr d | r => r) else .stuck
  | none => .stuck
section
variable {C : Cw} {X : Cx} {e : Expr} {es : List Expr} {gs : Rho → ResL} {p pos : Pos} {x c : Str} {k n : Nat} {Φ : List D → Res} {CX : CXT}
theorem run_make_V {C' f : Addr} {fd : FuncData} {ps : List Str} {pins : List (Addr × Obj)} {σ : L2.St} {F H : Hp} {s : Shared} {Q : VK} {us : List Value} {vs : List V} {ds : List D} (ns : PySem.W.nsIn X.K mainGlobals c = some (some (.ref C'))) (M : Mk X.K C' f) (FO : FnOk X.prog X.w X.K X.mg X.base CX k f fd ps (spI X.K X.mg c n Φ)) (hr : Room (k + 1) X.A) (hb : Binds X.K fd ps [])
    (hx : XOk CX (C.at X) X) (I : Inv X pins σ H s) (r : Vals vs us) (sF : Same F H) (rl : RepL X.K F ds vs) (hn : ds.length = n) (w : Want (C.at X) F H σ (match Φ ds with | .ok _ d => .ok .fr d | r => r) Q) : wpAny (model X.prog X.w) X.A (call (.ref C') us) (EP X pins σ Q) X.xe s := by
  have hfx : H (s.heap.objs.size + 1) = none := I.hok.fresh (Nat.le_succ _)
  have hfd : H s.heap.objs.size = none := I.hok.fresh (Nat.le_refl _)
  have hne : s.heap.objs.size ≠ s.heap.objs.size + 1 := Nat.ne_of_lt (Nat.lt_succ_self _)
  have I2 := Inv.made (C := C') I
  have hsp : spI X.K X.mg c n Φ (V.ref (s.heap.objs.size + 1) :: vs) (upd (upd H s.heap.objs.size (.own (s.heap.objs.size + 1))) (s.heap.objs.size + 1) (.ins C' s.heap.objs.size [])) (fun v H2 => v = .non ∧ Q (.ref (s.heap.objs.size + 1)) H2) (fun u _ H' => ∃ c, X.mg c = some u ∧ C.EE c σ H') := by
    refine ⟨_, vs, s.heap.objs.size, C', H, F, ds, rfl, by rw [rl.length]; exact hn, ns, rfl, hfx, hfd, hne, sF, rl, ?_⟩
    cases ep : Φ ds with
    | stuck => rw [ep] at w; exact w
    | exc c => rw [ep] at w; exact fun F' H' u st hu => ⟨c, hu, w F' H' st⟩
    | ok m d => rw [ep] at w; exact fun F' H' st rp => ⟨rfl, w _ F' H' st rp fun _ a ea => by cases ea; exact hfx⟩
  have r2 : Vals (V.ref (s.heap.objs.size + 1) :: vs) (Value.ref (s.heap.objs.size + 1) :: us) := .cons rfl r
  have hl : (Value.ref (s.heap.objs.size + 1) :: us ++ []).length = ps.length := by
    have e := r2.length
    rw [FO.len _ _ _ _ hsp] at e
    rw [List.append_nil]; exact e.symm
  have hb' := hb _ (Value.ref (s.heap.objs.size + 1) :: us) I2.kIn hl
  rw [List.append_nil] at hb'
  refine wpAny_call (make_map (f := f) I.kIn M.makes M.init (beq_iff_eq.mp M.fn) (codeAny_mono (FO.run _ X.stack _ _ ⟨Value.ref (s.heap.objs.size + 1) :: us, []⟩ (Value.ref (s.heap.objs.size + 1) :: us) _ _ _ (hr.make C' us [])
    (I2.env0.make C' us []) hb' r2 hsp) fun r s' hq' => ?_))
  cases r with
  | error e =>
    exact hx pins σ _ _ e s' I2 hq'
  | ok fl =>
    cases fl with
    | ret u =>
      obtain ⟨v, H', I3, rv, ev, q3⟩ := I2.after hq'
      subst ev
      exact ⟨rv, ⟨V.ref (s.heap.objs.size + 1), H', I3, rfl, q3⟩⟩
    | next => exact False.elim hq'
    | brk => exact False.elim hq'
    | cont => exact False.elim hq'
theorem pv_make (M : InV X.prog X.w X.K X.mg X.base CX k c n Φ) (hr : Room (k + 1) X.A) (hx : XOk CX (C.at X) X) (hg : Gl X c) (ha : PAv C X (e :: es) gs) (hdb : (c == ("__debug__" : Str)) = false) (hst : ∀ x ∈ e :: es, notStar x = true) :
    PV C X (.Call (.Name c p) (e :: es) [] pos) (fun ρ => makeR n Φ (gs ρ)) := by
  obtain ⟨C', f, fd, ps, ns, hm, M, FO, hb⟩ := M.ex
  intro pins s σ H Q I h
  rw [tG_eq] at h
  obtain ⟨ρ, F, R, w⟩ := h
  refine wpAny_Call_Name_kw (ld_glob I hg hm ?_ hdb)
  refine PySem.W.callWith_K (h₀ := X.base) I.ok.mod.kin M.kp (thn (ha pos pins s σ H (fun vs H1 => ∃ F1 xs, Step F H F1 H1 ∧ RpL X.K F1 H1 xs vs ∧ gs ρ = .ok xs) I ?_) fun us s1 ⟨vs, H1, I1, r, F1, xs, st1, rl, eg⟩ => ⟨I1.kIn, ?_⟩) (star_cons (hst e List.mem_cons_self)) (star_any _ _ fun y hy => hst y (List.mem_cons_of_mem _ hy))
  · refine ⟨ρ, F, R, ?_⟩
    cases eg : gs ρ with
    | stuck => rw [eg] at w; exact w
    | exc c => rw [eg] at w; exact w
    | ok xs => exact fun vs F2 H2 s2 rl => ⟨F2, xs, s2, rl, rfl⟩
  · rw [eg] at w
    have w1 : Want (C.at X) F1 H1 σ (makeR n Φ (.ok xs)) Q := Want.step st1 w
    unfold makeR at w1
    rw [ResL.thn_ok] at w1
    cases ef : allFz xs with
    | none => rw [ef] at w1; exact w1.elim
    | some ds =>
      rw [ef] at w1
      dsimp only at w1
      split at w1
      · rename_i hn
        exact run_make_V ns M FO hr hb hx I1 r st1.sub (rl.fz ef) hn w1
      · exact w1.elim
end
end D3

namespace D3
open PySem PySem.Spec PyProof.Rows L2
/-! ### isinstance by an own class -/
/-- class c of the text: its answer for each of Python's own kinds is no; for the classes of cl by their ups -/
structure IsV (K : PySem.W.Frag) (mg : Str → Option Value) (cl : List CI) (c : Str) : Prop where
  ex : ∃ C, mg c = some (.ref C) ∧ (∀ t ∈ ["NoneType", "bool", "int", "str", "tuple", "list", "dict"], PySem.W.kitOne K (.type t) (.ref C) = some false) ∧
    ∀ i ∈ cl, ∃ C', PySem.W.nsIn K mainGlobals i.name = some (some (.ref C')) ∧ Cls K C' ∧ PySem.W.findIn K (.ref C') "__class__" = some (some (.builtin "object.__class__")) ∧
      PySem.W.specialIn K (.builtin "object.__class__") "__get__" = some (some (.builtin "getset_descriptor.__get__")) ∧ PySem.W.takesIn K (.builtin "object.__class__") = some true ∧ PySem.W.mroIn K C' (.type "object") = some true ∧
      PySem.W.kitOne K (.ref C') (.ref C) = some (i.ups.contains c)
def isoR (cl : List CI) (c : Str) (r : Res) : Res := r.thn fun _ d => match d with
  | .ins x _ => (match cl.find? (fun i => i.name == x) with | some i => .ok .fz (.bl (i.ups.contains c)) | none => .stuck)
  | d => (match tyN d with | some _ => .ok .fz (.bl false) | none => .stuck)
section
variable {C : Cw} {X : Cx} {e : Expr} {g : Rho → Res} {p q pos : Pos} {c : Str} {cl : List CI}
/-- isinstance(e, c) -/
theorem pv_isi (hI : IsV X.K X.mg cl c) (hg : Gl X "isinstance") (hn : X.mg "isinstance" = none) (hgc : Gl X c) (hdb : (c == ("__debug__" : Str)) = false) (he : PV C X e g) (hs : notStar e = true) :
    PV C X (.Call (.Name "isinstance" p) [e, .Name c q] [] pos) (fun ρ => isoR cl c (g ρ)) := by
  obtain ⟨C', hm, hty, hcl⟩ := hI.ex
  have ha : PA X [e, .Name c q] (tCons (tG (C.at X) g) (tCons (tC (.ref C')) tNil)) := pa_cons he (pa_cons (pe_glob (v := .ref C') hgc hm rfl hdb) pa_nil) (star_cons hs)
  have hc : CallR X (.builtin "isinstance") (fun vs H Q => ∃ v t b, vs = [v, .ref C'] ∧ (∃ (F : Hp) (m : Md) (d : D), Same F H ∧ Rp X.K F H m d v ∧ isoR cl c (.ok m d) = .ok .fz (.bl b)) ∧ t = () ∧ Q (.bl b) H) := by
    intro pins s σ H vs us Q I r h
    obtain ⟨v, _, b, rfl, ⟨F, m, d, sF, rp, hb⟩, _, hq⟩ := h
    obtain ⟨u, u', rfl, ru, ru'⟩ := vals2 r
    cases (show u' = Value.ref C' from ru')
    have fin : ∀ tk, EP X pins σ Q (.bool b) { s with toks := tk } := fun tk => ⟨.bl b, H, I.tok _, rfl, hq⟩
    unfold isoR at hb
    rw [Res.thn_ok] at hb
    cases d with
    | non => cases hb; cases rp.non; cases (show u = Value.none from ru); exact PySem.W.kia_one PySem.W.kitx_none I.kIn True.intro (hty _ (by decide)) (fun z => nomatch z) fin
    | bl y => cases hb; cases rp.bl; cases (show u = Value.bool y from ru); exact PySem.W.kia_one PySem.W.kitx_bool I.kIn True.intro (hty _ (by decide)) (fun z => nomatch z) fin
    | int i => cases hb; cases rp.int; obtain ⟨t, q⟩ := (show ∃ t, u = Value.int i t from ru); cases q; exact PySem.W.kia_one PySem.W.kitx_int I.kIn True.intro (hty _ (by decide)) (fun z => nomatch z) fin
    | str y => cases hb; obtain ⟨rfl, _⟩ := rp.str; obtain ⟨t, q⟩ := (show ∃ t, u = Value.str y t from ru); cases q; exact PySem.W.kia_one PySem.W.kitx_str I.kIn True.intro (hty _ (by decide)) (fun z => nomatch z) fin
    | tup ds =>
      cases hb
      obtain ⟨a, xs, rfl, hq', _⟩ := rp.seqT sF
      cases (show u = Value.ref a from ru)
      obtain ⟨its, _, ⟨o, h1, h2, _⟩, _⟩ := I.tuple hq'
      exact PySem.W.kia_one PySem.W.kitx_tuple I.kIn ⟨o, h1, h2⟩ (hty _ (by decide)) (fun z => nomatch z) fin
    | lst ds =>
      cases hb
      obtain ⟨a, xs, rfl, hq', _⟩ := rp.seqL sF
      cases (show u = Value.ref a from ru)
      obtain ⟨its, _, ⟨o, n, h1, h2, _⟩, _⟩ := I.list hq'
      exact PySem.W.kia_one PySem.W.kitx_list I.kIn ⟨o, h1, h2⟩ (hty _ (by decide)) (fun z => nomatch z) fin
    | dct ds =>
      cases hb
      obtain ⟨a, xs, rfl, hq', _⟩ := rp.dict sF
      cases (show u = Value.ref a from ru)
      obtain ⟨_, _, vs, _, p⟩ := (show ObjOk X.prog X.w H s.heap a (.dK xs) from I.hok a _ hq')
      obtain ⟨o, es, ep, h1, h2, _⟩ := p
      exact PySem.W.kia_one PySem.W.kitx_dict I.kIn ⟨o, h1, h2.1⟩ (hty _ (by decide)) (fun z => nomatch z) fin
    | ins x fs =>
      dsimp only at hb
      cases ef : cl.find? (fun i => i.name == x) with
      | none => rw [ef] at hb; cases hb
      | some i =>
        rw [ef] at hb
        cases hb
        have hi : i.name = x := by simpa using List.find?_some ef
        obtain ⟨C2, n1, cc, f1, f2, f3, f4, f5⟩ := hcl i (List.mem_of_find?_eq_some ef)
        rw [hi] at n1
        obtain ⟨a, C3, dx, gs, rfl, n2, ea, _⟩ := rp.ins sF
        rw [n1] at n2; cases n2
        exact isinst_ok I ru (.ins ea cc f1 f2 f3 f4) f5 fin
    | ty n => cases hb
    | exn n => cases hb
    | set n => cases hb
    | ob a => cases hb
    | fn a => cases hb
  refine PE.imp (pe_callB hc hg hn bb_isinstance ha (by decide) (by decide) (star_cons hs) rfl) fun σ H Q qq => ?_
  rw [tG_eq] at qq
  obtain ⟨ρ, F, R, w⟩ := qq
  unfold tCB tCons
  rw [tG_eq]
  refine ⟨ρ, F, R, ?_⟩
  cases er : g ρ with
  | stuck => rw [er] at w; exact w
  | exc c => rw [er] at w; exact w
  | ok m d =>
    rw [er] at w
    intro v F1 H1 s1 r1 _
    have w1 : Want (C.at X) F1 H1 σ (isoR cl c (.ok m d)) Q := Want.step s1 w
    cases eb : isoR cl c (.ok m d) with
    | stuck => rw [eb] at w1; exact w1.elim
    | exc c' =>
      exfalso
      unfold isoR at eb
      rw [Res.thn_ok] at eb
      cases d with
      | ins x fs => dsimp only at eb; cases ef : cl.find? (fun i => i.name == x) <;> rw [ef] at eb <;> cases eb
      | _ => cases eb
    | ok m' d' =>
      have : ∃ b, m' = .fz ∧ d' = .bl b := by
        unfold isoR at eb
        rw [Res.thn_ok] at eb
        cases d with
        | ins x fs => dsimp only at eb; cases ef : cl.find? (fun i => i.name == x) with
          | none => rw [ef] at eb; cases eb
          | some i => rw [ef] at eb; cases eb; exact ⟨_, rfl, rfl⟩
        | non => cases eb; exact ⟨_, rfl, rfl⟩
        | bl _ => cases eb; exact ⟨_, rfl, rfl⟩
        | int _ => cases eb; exact ⟨_, rfl, rfl⟩
        | str _ => cases eb; exact ⟨_, rfl, rfl⟩
        | tup _ => cases eb; exact ⟨_, rfl, rfl⟩
        | lst _ => cases eb; exact ⟨_, rfl, rfl⟩
        | dct _ => cases eb; exact ⟨_, rfl, rfl⟩
        | _ => cases eb
      obtain ⟨b, rfl, rfl⟩ := this
      rw [eb] at w1
      exact ⟨v, (), b, rfl, ⟨F1, m, d, s1.sub, r1, eb⟩, rfl, w1 _ F1 H1 (.refl s1.sub) (rp_bl _) (by intro z; cases z)⟩
end
end D3

namespace D3
open PySem PySem.Spec PyProof.Rows L2
section
variable {C : Cw} {X : Cx} {a b c e : Expr} {ga gb gc g : Rho → Res} {gs : Rho → ResL} {pos : Pos}
/-! ### is None -/
def isNonD : D → Bool | .non => true | _ => false
theorem rp_nonIff {K : PySem.W.Frag} {F H : Hp} {m : Md} {d : D} {v : V} (s : Same F H) (r : Rp K F H m d v) : decide (v = .non) = isNonD d := by
  cases d with
  | non => cases r.non; rfl
  | bl _ => cases r.bl; rfl
  | int _ => cases r.int; rfl
  | str _ => cases r.str.1; rfl
  | tup _ => obtain ⟨_, _, rfl, _⟩ := r.seqT s; rfl
  | lst _ => obtain ⟨_, _, rfl, _⟩ := r.seqL s; rfl
  | dct _ => obtain ⟨_, _, rfl, _⟩ := r.dict s; rfl
  | ty _ => cases r.ty; rfl
  | ob _ => cases r.ob; rfl
  | ins _ _ => obtain ⟨_, _, _, _, rfl, _⟩ := r.ins s; rfl
  | fn _ =>
    cases m with
    | fz => have r : RepV K F _ v := r; simp only [RepV] at r; obtain ⟨_, rfl, _⟩ := r; rfl
    | fr => obtain ⟨_, _, _, q⟩ := r; exact q.elim
    | bo => obtain ⟨_, _, _, q⟩ := r; exact q.elim
  | exn _ =>
    cases m with
    | fz => have r : RepV K F _ v := r; simp only [RepV] at r; obtain ⟨_, _, rfl, _⟩ := r; rfl
    | fr => obtain ⟨_, _, _, q⟩ := r; exact q.elim
    | bo => obtain ⟨_, _, _, q⟩ := r; exact q.elim
  | set _ =>
    cases m with
    | fz => have r : RepV K F _ v := r; simp only [RepV] at r; obtain ⟨_, _, rfl, _⟩ := r; rfl
    | fr => obtain ⟨_, rfl, _, _⟩ := r; rfl
    | bo => obtain ⟨_, rfl, _, _⟩ := r; rfl
def fIs (neg : Bool) : Md → D → Md → D → Option (Md × D) := fun _ x _ y => match y with
  | .non => some (.fz, .bl (if neg then !isNonD x else isNonD x))
  | _ => none
theorem opd_is : OpD C X (compareOp .Is) (fIs false) := by
  refine ⟨_, op_isN, fun F H m x n y v u k d Q s rx ry e w => ?_⟩
  unfold fIs at e
  split at e
  · cases e
    cases ry.non
    exact ⟨rfl, by rw [rp_nonIff s rx]; exact w _ F H (.refl s) (rp_bl _) (by intro z; cases z)⟩
  · cases e
theorem opd_isnot : OpD C X (compareOp .IsNot) (fIs true) := by
  refine ⟨_, op_notN, fun F H m x n y v u k d Q s rx ry e w => ?_⟩
  unfold fIs at e
  split at e
  · cases e
    cases ry.non
    exact ⟨rfl, by rw [rp_nonIff s rx]; exact w _ F H (.refl s) (rp_bl _) (by intro z; cases z)⟩
  · cases e
theorem isB_is {neg : Bool} : IsB (fIs neg) := fun m x n y k d e => by
  unfold fIs at e
  split at e
  · cases e; exact ⟨_, rfl, rfl⟩
  · cases e
/-! ### chains -/
def chainR (φ ψ : Md → D → Md → D → Option (Md × D)) (x y z : Res) : Res := x.thn fun m d => y.thn fun n e => (Res.of (φ m d n e)).thn fun _ t => match t with
  | .bl true => z.thn fun k f => Res.of (ψ n e k f)
  | .bl false => .ok .fz (.bl false)
  | _ => .stuck
theorem tG_chain {φ ψ : Md → D → Md → D → Option (Md × D)} {r r' : R2} (hφ : IsB φ)
    (h : ∀ F H m x n y v u k d Q, Same F H → Rp C.K F H m x v → Rp C.K F H n y u → φ m x n y = some (k, d) → (∀ v' F' H', Step F H F' H' → Rp C.K F' H' k d v' → (k = .fr → ∀ a, v' = .ref a → H a = none) → Q v' H') → r v u H Q)
    (h' : ∀ F H m x n y v u k d Q, Same F H → Rp C.K F H m x v → Rp C.K F H n y u → ψ m x n y = some (k, d) → (∀ v' F' H', Step F H F' H' → Rp C.K F' H' k d v' → (k = .fr → ∀ a, v' = .ref a → H a = none) → Q v' H') → r' v u H Q)
    {σ : L2.St} {H : Hp} {Q : VK} (q : tG C (fun ρ => chainR φ ψ (ga ρ) (gb ρ) (gc ρ)) σ H Q) : tChain r r' (tG C ga) (tG C gb) (tG C gc) σ H Q := by
  unfold tChain
  rw [tG_eq] at q ⊢
  obtain ⟨ρ, F, R, w⟩ := q
  refine ⟨ρ, F, R, ?_⟩
  cases ea : ga ρ with
  | stuck => simp only [chainR, ea, Res.thn] at w; exact w
  | exc c => simp only [chainR, ea, Res.thn] at w; exact w
  | ok m d =>
    intro v F1 H1 s1 r1 _
    rw [tG_eq]
    refine ⟨ρ, F1, R.step s1, ?_⟩
    have w1 : Want C F1 H1 σ (chainR φ ψ (ga ρ) (gb ρ) (gc ρ)) Q := w.step s1
    rw [ea] at w1
    cases eb : gb ρ with
    | stuck => rw [eb] at w1; exact w1
    | exc c => rw [eb] at w1; exact w1
    | ok n e =>
      rw [eb] at w1
      intro u F2 H2 s2 r2 _
      have w2 : Want C F2 H2 σ ((Res.of (φ m d n e)).thn fun _ t => match t with | .bl true => (gc ρ).thn fun k f => Res.of (ψ n e k f) | .bl false => .ok .fz (.bl false) | _ => .stuck) Q := Want.step s2 w1
      cases ef : φ m d n e with
      | none => rw [ef] at w2; exact w2.elim
      | some kd =>
        obtain ⟨k, d'⟩ := kd
        rw [ef] at w2
        obtain ⟨t, rfl, rfl⟩ := hφ _ _ _ _ _ _ ef
        refine h F2 H2 m d n e v u _ _ _ s2.sub (r1.step s2) r2 ef fun v' F3 H3 s3 r3 _ => ?_
        cases r3.bl
        refine ⟨t, rfl, ?_⟩
        cases t with
        | false =>
          rw [if_neg Bool.false_ne_true]
          exact w2 (.bl false) F3 H3 s3 (rp_bl _) (by intro z; cases z)
        | true =>
          rw [if_pos rfl, tG_eq]
          refine ⟨ρ, F3, ((R.step s1).step s2).step s3, ?_⟩
          have w3 : Want C F3 H3 σ ((gc ρ).thn fun k f => Res.of (ψ n e k f)) Q := Want.step s3 w2
          cases ec : gc ρ with
          | stuck => rw [ec] at w3; exact w3
          | exc c => rw [ec] at w3; exact w3
          | ok k f =>
            rw [ec] at w3
            intro w' F4 H4 s4 r4 _
            have w4 : Want C F4 H4 σ (Res.of (ψ n e k f)) Q := Want.step s4 w3
            cases eg : ψ n e k f with
            | none => rw [eg] at w4; exact w4.elim
            | some kd =>
              obtain ⟨k', d''⟩ := kd
              rw [eg] at w4
              exact h' F4 H4 n e k f u w' k' d'' Q s4.sub ((r2.step s3).step s4) r4 eg w4
theorem pv_chain {op op' : CmpOp} {φ ψ} (o : OpD C X (compareOp op) φ) (o' : OpD C X (compareOp op') ψ) (hφ : IsB φ) (ha : PV C X a ga) (hb : PV C X b gb) (hc : PV C X c gc) (hm : behindInMarks op' c = false) :
    PV C X (.Compare a [op, op'] [b, c] pos) (fun ρ => chainR φ ψ (ga ρ) (gb ρ) (gc ρ)) := by
  obtain ⟨r, h1, h2⟩ := o
  obtain ⟨r', h1', h2'⟩ := o'
  exact PE.imp (pe_chain h1 h1' ha hb hc hm) fun σ H Q q => tG_chain hφ h2 h2' q
theorem chain_bl {φ ψ : Md → D → Md → D → Option (Md × D)} (hψ : IsB ψ) {x y z : Res} {m : Md} {d : D} (h : chainR φ ψ x y z = .ok m d) : ∃ t, m = .fz ∧ d = .bl t := by
  unfold chainR at h
  cases x with
  | stuck => cases h
  | exc _ => cases h
  | ok m1 d1 =>
    cases y with
    | stuck => cases h
    | exc _ => cases h
    | ok m2 d2 =>
      simp only [Res.thn_ok] at h
      cases e : φ m1 d1 m2 d2 with
      | none => rw [e] at h; cases h
      | some kd =>
        obtain ⟨k, t⟩ := kd
        rw [e] at h
        simp only [Res.of_some, Res.thn_ok] at h
        split at h
        · cases z with
          | stuck => cases h
          | exc _ => cases h
          | ok m3 d3 =>
            simp only [Res.thn_ok] at h
            cases e2 : ψ m2 d2 m3 d3 with
            | none => rw [e2] at h; cases h
            | some kd => obtain ⟨k', t'⟩ := kd; rw [e2] at h; cases h; exact hψ _ _ _ _ _ _ e2
        · cases h; exact ⟨_, rfl, rfl⟩
        · cases h
theorem pt_chainv {op op' : CmpOp} {φ ψ} (o : OpD C X (compareOp op) φ) (o' : OpD C X (compareOp op') ψ) (hφ : IsB φ) (hψ : IsB ψ) (ha : PV C X a ga) (hb : PV C X b gb) (hc : PV C X c gc) (hm : behindInMarks op' c = false) :
    PTv C X (.Compare a [op, op'] [b, c] pos) (fun ρ => chainR φ ψ (ga ρ) (gb ρ) (gc ρ)) := by
  obtain ⟨r, h1, h2⟩ := o
  obtain ⟨r', h1', h2'⟩ := o'
  refine PT.imp (pt_chain h1 h1' ha hb hc hm) fun σ H Q q => ?_
  obtain ⟨ρ, F, R, w⟩ := q
  unfold tTest
  refine tG_chain hφ h2 h2' ?_
  rw [tG_eq]
  refine ⟨ρ, F, R, ?_⟩
  dsimp only at w ⊢
  cases er : chainR φ ψ (ga ρ) (gb ρ) (gc ρ) with
  | stuck => rw [er] at w; exact w
  | exc c => rw [er] at w; exact w
  | ok m d =>
    rw [er] at w
    obtain ⟨t, rfl, rfl⟩ := chain_bl hψ er
    intro v F' H' st rp _
    cases rp.bl
    exact ⟨t, rfl, w F' H' st⟩
/-! ### lists and tuples put together -/
theorem op_catL : OpR X (binaryOp .Add) (fun x y H Q => ∃ l b xs ys, x = .ref l ∧ y = .ref b ∧ SqL X.K H l xs ∧ SqL X.K H b ys ∧ xs.length + ys.length ≤ sizeLine ∧ ∀ p, H p = none → Q (.ref p) (upd H p (.lst (xs ++ ys)))) := by
  intro pins s σ H x y v u Q I rx ry h
  obtain ⟨l, b, xs, ys, rfl, rfl, hl, hb, hz, q⟩ := h
  cases rx
  cases ry
  obtain ⟨its, r1, p1, _⟩ := I.list hl
  obtain ⟨its2, r2, p2, _⟩ := I.list hb
  obtain ⟨⟨cls, dd, data, sl⟩, n, ho, hc, hd1, hd⟩ := p1
  obtain ⟨⟨cls2, dd2, data2, sl2⟩, n2, ho2, hc2, hd2', hd2⟩ := p2
  simp only at hc hd hc2 hd2
  subst hc hd hc2 hd2
  have e : its.toArray ++ its2.toArray = (its ++ its2).toArray := by simp
  have l1 := r1.length
  have l2 := r2.length
  refine concat_meets ⟨_, ho, rfl⟩ ⟨_, ho2, rfl⟩ noFill_list_add seq_list_add PySem.F.slot_list_add PySem.F.entry_list_add (PySem.F.args_list_add_2 _ _) (list_addW l b its.toArray its2.toArray n n2 dd dd2 sl sl2 (by simp; omega)) ⟨ho, ho2, ?_⟩
  rw [e]
  refine ⟨.ref s.heap.objs.size, _, I.laid (t' := s.toks) (o := .lst (xs ++ ys)) (fun b ob q => Heap.get?_push_of_some _ q) (Nat.le_refl _) ?_, rfl, q _ (I.hok.fresh (Nat.le_refl _))⟩
  exact ⟨by rw [List.length_append]; exact hz, _, 0, r1.append r2, Heap.get?_push_size _ rfl⟩
theorem op_catT' : OpR X (binaryOp .Add) (fun x y H Q => ∃ l b xs ys, x = .ref l ∧ y = .ref b ∧ SqT X.K H l xs ∧ SqT X.K H b ys ∧ xs.length + ys.length ≤ sizeLine ∧ (xs = [] → Q (.ref b) H) ∧ (xs ≠ [] → ys = [] → Q (.ref l) H) ∧
    (xs ≠ [] → ys ≠ [] → ∀ p, H p = none → Q (.ref p) (upd H p (.tup (xs ++ ys))))) := by
  intro pins s σ H x y v u Q I rx ry h
  obtain ⟨l, b, xs, ys, rfl, rfl, hl, hb, hz, q0, q1, q2⟩ := h
  cases rx
  cases ry
  obtain ⟨its, r1, p1, _⟩ := I.tuple hl
  obtain ⟨its2, r2, p2, _⟩ := I.tuple hb
  have n1 := r1.nil_iff
  have n2 := r2.nil_iff
  have l1 := r1.length
  have l2 := r2.length
  by_cases hv : its = []
  · obtain ⟨⟨cls, dd, data, sl⟩, ho, hc, n, hd⟩ := id p1
    obtain ⟨⟨cls2, dd2, data2, sl2⟩, ho2, hc2, n2', hd2⟩ := id p2
    simp only at hc hd hc2 hd2
    subst hc hd hc2 hd2
    exact concat_meets ⟨_, ho, rfl⟩ ⟨_, ho2, rfl⟩ noFill_tuple_add seq_tuple_add PySem.F.slot_tuple_add PySem.F.entry_tuple_add (PySem.F.args_tuple_add_2 _ _)
      (tuple_addW0 l b its.toArray its2.toArray n n2' dd dd2 sl sl2 (by simp [hv])) ⟨ho, ho2, ⟨.ref b, H, I, rfl, q0 (n1.mp hv)⟩⟩
  · refine HT.cat_tup p1 p2 hv (fun z => ⟨.ref l, H, I, rfl, q1 (fun w => hv (n1.mpr w)) (n2.mp z)⟩) (fun z => ?_) (by omega)
    refine ⟨.ref s.heap.objs.size, _, I.laid (t' := s.toks) (o := .tup (xs ++ ys)) (fun b ob q => Heap.get?_push_of_some _ q) (Nat.le_refl _) ?_, rfl, q2 (fun w => hv (n1.mpr w)) (fun w => z (n2.mpr w)) _ (I.hok.fresh (Nat.le_refl _))⟩
    exact ⟨by rw [List.length_append]; exact hz, _, r1.append r2, PlainTp.new _ _⟩
def catD : Md → D → Md → D → Option (Md × D) := fun m x n y => match x, y with
  | .lst xs, .lst ys => if xs.length + ys.length ≤ sizeLine then some (.fr, .lst (xs ++ ys)) else none
  | .tup xs, .tup ys => if xs.length + ys.length ≤ sizeLine then some (.fz, .tup (xs ++ ys)) else none
  | _, _ => none
theorem RepL.nilIff {K : PySem.W.Frag} {F : Hp} {ds : List D} {xs : List V} (h : RepL K F ds xs) : xs = [] ↔ ds = [] := by
  have := h.length
  constructor
  · intro e; subst e; cases ds with | nil => rfl | cons _ _ => simp at this
  · intro e; subst e; cases xs with | nil => rfl | cons _ _ => simp at this
theorem opd_cat : OpD C X (binaryOp .Add) catD := by
  refine ⟨_, op_catL.or op_catT', fun F H m x n y v u k d Q s rx ry e w => ?_⟩
  unfold catD at e
  split at e
  · rename_i xs ys
    split at e
    · rename_i hz
      cases e
      obtain ⟨a, us, rfl, q1, r1⟩ := rx.seqL s
      obtain ⟨b, vs, rfl, q2, r2⟩ := ry.seqL s
      refine .inl ⟨a, b, us, vs, rfl, rfl, q1, q2, by rw [r1.length, r2.length]; exact hz, fun p hp => ?_⟩
      exact w (.ref p) F _ (Step.fresh _ s hp) ⟨p, rfl, s.free hp, _, upd_same, r1.append r2⟩ fun _ a ea => by cases ea; exact hp
    · cases e
  · rename_i xs ys
    split at e
    · rename_i hz
      cases e
      have ex := rx
      have ey := ry
      obtain ⟨a, us, rfl, q1, r1⟩ := rx.seqT s
      obtain ⟨b, vs, rfl, q2, r2⟩ := ry.seqT s
      have fz : ∀ {m : Md} {zs : List D} {c : Addr}, Rp X.K F H m (.tup zs) (.ref c) → RepV X.K F (.tup zs) (.ref c) := fun {m zs c} h => by
        cases m with
        | fz => exact h
        | fr => obtain ⟨_, _, _, q⟩ := h; exact q.elim
        | bo => obtain ⟨_, _, _, q⟩ := h; exact q.elim
      refine .inr ⟨a, b, us, vs, rfl, rfl, q1, q2, by rw [r1.length, r2.length]; exact hz, fun z => ?_, fun _ z => ?_, fun _ _ p hp => ?_⟩
      · have : xs = [] := r1.nilIff.mp z
        subst this
        exact w (.ref b) F H (.refl s) (fz ey) (by intro z; cases z)
      · have : ys = [] := r2.nilIff.mp z
        subst this
        rw [List.append_nil] at w
        exact w (.ref a) F H (.refl s) (fz ex) (by intro z; cases z)
      · exact w (.ref p) _ _ (Step.laid (.tup (us ++ vs)) s hp) (RepV.tup_of (s.free hp) (r1.append r2)) (by intro z; cases z)
    · cases e
  · cases e
/-! ### in: a flat thing in a list or tuple of flat things -/
/-! ### the types called: tuple, list, int, str; min, max of two -/
def tcTuple : List (Md × D) → Option (Md × D)
  | [(_, .lst ds)] => some (.fz, .tup ds)
  | [(.fz, .tup ds)] => some (.fz, .tup ds)
  | _ => none
def tcList : List (Md × D) → Option (Md × D)
  | [(_, .lst ds)] => some (.fr, .lst ds)
  | [(_, .tup ds)] => some (.fr, .lst ds)
  | _ => none
def tcInt : List (Md × D) → Option (Md × D)
  | [(_, .int i)] => some (.fz, .int i)
  | [(_, .bl b)] => some (.fz, .int (if b then 1 else 0))
  | _ => none
def small (i : Int) : Bool := decide (i.natAbs.log2 < 1920)
/-- the figures of a number -/
def numS (i : Int) : Str := Str.ofString (toString i)
def tcStr : List (Md × D) → Option (Md × D)
  | [(_, .int i)] => if small i = true then some (.fz, .str (numS i)) else none
  | _ => none
theorem calld_tuple : CallD X (.type "tuple") tcTuple := by
  refine ⟨_, call_tuple_of, fun F H xs vs k d Q s rx e w => ?_⟩
  unfold tcTuple at e
  split at e
  · rename_i m ds
    cases e
    obtain ⟨v, rfl, r⟩ := rx.one
    obtain ⟨a, xs, rfl, q, rl⟩ := r.seqL s
    exact ⟨a, xs, rfl, .inl ⟨q, fun l hl => w (.ref l) _ _ (Step.laid (.tup xs) s hl) (RepV.tup_of (s.free hl) rl) (by intro z; cases z)⟩⟩
  · rename_i ds
    cases e
    obtain ⟨v, rfl, r⟩ := rx.one
    have r0 := r
    obtain ⟨a, xs, rfl, q, rl⟩ := r.seqT s
    exact ⟨a, xs, rfl, .inr ⟨q, w (.ref a) F H (.refl s) r0 (by intro z; cases z)⟩⟩
  · cases e
theorem calld_list : CallD X (.type "list") tcList := by
  refine ⟨_, call_list_of, fun F H xs vs k d Q s rx e w => ?_⟩
  unfold tcList at e
  split at e
  · rename_i m ds
    cases e
    obtain ⟨v, rfl, r⟩ := rx.one
    obtain ⟨a, xs, rfl, q, rl⟩ := r.seqL s
    exact ⟨a, xs, rfl, .inl q, fun l hl => w (.ref l) F _ (Step.fresh _ s hl) ⟨l, rfl, s.free hl, xs, upd_same, rl⟩ fun _ a ea => by cases ea; exact hl⟩
  · rename_i m ds
    cases e
    obtain ⟨v, rfl, r⟩ := rx.one
    obtain ⟨a, xs, rfl, q, rl⟩ := r.seqT s
    exact ⟨a, xs, rfl, .inr q, fun l hl => w (.ref l) F _ (Step.fresh _ s hl) ⟨l, rfl, s.free hl, xs, upd_same, rl⟩ fun _ a ea => by cases ea; exact hl⟩
  · cases e
theorem calld_int : CallD X (.type "int") tcInt := by
  refine ⟨_, call_int1, fun F H xs vs k d Q s rx e w => ?_⟩
  unfold tcInt at e
  split at e
  · cases e
    obtain ⟨v, rfl, r⟩ := rx.one
    cases r.int
    exact .inl ⟨_, rfl, w _ F H (.refl s) (rp_int _) (by intro z; cases z)⟩
  · cases e
    obtain ⟨v, rfl, r⟩ := rx.one
    cases r.bl
    exact .inr ⟨_, rfl, w _ F H (.refl s) (rp_int _) (by intro z; cases z)⟩
  · cases e
def minD : List (Md × D) → Option (Md × D)
  | [(_, .int i), (_, .int j)] => some (.fz, .int (if j < i then j else i))
  | _ => none
theorem calld_min (hc : X.calm = true) : CallD X (.builtin "min") minD := by
  refine ⟨_, call_min2 hc, fun F H xs vs k d Q s rx e w => ?_⟩
  unfold minD at e
  split at e
  · cases e
    obtain ⟨v, u, rfl, r, r'⟩ := rx.two
    cases r.int
    cases r'.int
    exact ⟨_, _, rfl, w _ F H (.refl s) (rp_int _) (by intro z; cases z)⟩
  · cases e
end
end D3

namespace D3
open PySem PySem.Spec PyProof.Rows L2
theorem strOk_num (i : Int) : PyData.strOk (Str.ofString (toString i)) = true := by
  unfold PyData.strOk
  rw [Array.all_eq_true_iff_forall_mem]
  intro c hc
  have hc' : c ∈ (Str.ofString (toString i)).cps.toList := by rw [Array.mem_toList_iff]; exact hc
  have : ¬ (c ≠ 45 ∧ (c < 48 ∨ 57 < c)) := fun h => int_text_free' c h i hc'
  have hb : c < 58 := by omega
  simp
  omega
section
variable {X : Cx}
theorem calld_str : CallD X (.type "str") tcStr := by
  refine ⟨_, call_str_int, fun F H xs vs k d Q s rx e w => ?_⟩
  unfold tcStr at e
  split at e
  · rename_i m i
    split at e
    · rename_i hs
      cases e
      obtain ⟨v, rfl, r⟩ := rx.one
      cases r.int
      have hl : i.natAbs.log2 < 1920 := of_decide_eq_true hs
      have h1 : (numS i).length ≤ 1921 := int_text_len_1921 hl
      have hz : sizeLine = 16777216 := sizeLine_eq
      exact ⟨i, rfl, hl, w _ F H (.refl s) (rp_str ⟨by omega, strOk_num i⟩) (by intro z; cases z)⟩
    · cases e
  · cases e
end
theorem bb_min : bootBuiltins "min" = some (.builtin "min") := by decide +kernel
/-! a type called -/
theorem pv_callTy {C : Cw} {X : Cx} {T : String} {φ} {x : Str} {e : Expr} {es : List Expr} {gs : Rho → ResL} {p pos : Pos} (o : CallD X (.type T) φ) (hg : Gl X x) (hm : X.mg x = none) (hv : bootBuiltins x = some (.type T)) (ha : PAv C X (e :: es) gs) (hn : x ≠ "__name__") (hdb : (x == ("__debug__" : Str)) = false)
    (hst : ∀ x ∈ e :: es, notStar x = true) : PV C X (.Call (.Name x p) (e :: es) [] pos) (fun ρ => callR φ (gs ρ)) := by
  obtain ⟨r, h1, h2⟩ := o
  exact PE.imp (pe_callTy h1 hg hm hv ha hn hdb (star_cons (hst e List.mem_cons_self)) (star_any _ _ fun y hy => hst y (List.mem_cons_of_mem _ hy))) fun σ H Q q => tG_call h2 q
end D3

namespace D3
open PySem PySem.Spec PyProof.Rows L2
/-! ### a list unpacked -/
section
variable {prog : Program} {w : World} {A : Around} {E : Value → Shared → Prop} {s : Shared}
theorem unpackItems_list {l : Addr} {items : Array Value} {Q : List Value → Shared → Prop} (hA : A.handled = none) (ht : s.heap.IsList l items)
    (h : ∀ h', Heap.ExtBut s.heap.objs.size s.heap h' → ∀ tk, Q items.toList { s with heap := h', toks := tk }) : wpAny (model prog w) A (unpackItems (.ref l) items.size none) Q E s := by
  unfold unpackItems notIterableAtAll
  refine wpAny_bind (wpAny_bind (wpAny_specialOf ht.typeIs PySem.F.slot_list_iter.lookup ?_))
  refine wpAny_pure ?_
  dsimp only
  rw [if_neg Bool.false_ne_true]
  refine wpAny_bind (wpAny_holding (wpAny_pyIter_list ht ?_))
  have hlt : l < s.heap.objs.size := by obtain ⟨o, e, _⟩ := ht; exact Heap.lt_size e
  have hne : l ≠ s.heap.objs.size := Nat.ne_of_lt hlt
  have keep : ∀ b o, s.heap.get? b = some o → (s.heap.push { cls := Value.type "list_iterator", data := Data.fields #[Value.ref l, Value.int 0 0] }).get? b = some o := fun b o q => Heap.get?_push_of_some _ q
  have ht' : (s.heap.push { cls := Value.type "list_iterator", data := Data.fields #[Value.ref l, Value.int 0 0] }).IsList l items := by
    obtain ⟨o, e, c⟩ := ht
    exact ⟨o, keep l o e, c⟩
  have hi' : (s.heap.push { cls := Value.type "list_iterator", data := Data.fields #[Value.ref l, Value.int 0 0] }).IsListIter s.heap.objs.size l 0 := ⟨_, Heap.get?_push_size _ rfl, rfl, rfl⟩
  refine wpAny_bind (wpAny_holding (PySem.W.kun_draw hne items.size 0 _ _ hi' ht' (by omega) fun h' hi hsb => ?_))
  have ei : List.take items.size (List.drop 0 items.toList) = items.toList := by rw [List.drop_zero]; exact List.take_of_length_le (by simp)
  rw [ei]
  rw [if_neg (by simp)]
  have hl2 : h'.IsList l items := by
    obtain ⟨o, e, c⟩ := ht'
    exact ⟨o, by rw [hsb.2 l hne]; exact e, c⟩
  rw [Nat.zero_add] at hi
  refine wpAny_bind (wpAny_holding ((Walks.list hA s.heap.objs.size l hne items).done _ _ _ ⟨hi, hl2⟩ fun h2 tk k2 => ?_))
  rw [if_neg (by simp)]
  refine wpAny_pure (h h2 (fun b o hb e => k2 b o (by simpa using hb) ?_) tk)
  show h'.get? b = some o
  rw [hsb.2 b hb]
  exact keep b o e
theorem assign_Tuple_list {env : Env} {elts : List Expr} {k : Nat} {pos : Pos} {l : Addr} {items : Array Value} {Q : Unit → Shared → Prop} (hA : A.handled = none) (ht : s.heap.IsList l items)
    (hn : (assignEach elts env).length = items.size) (hst : (assignEach elts env).findIdx? (·.1) = none)
    (h : ∀ h', Heap.ExtBut s.heap.objs.size s.heap h' → ∀ tk, wpAny (model prog w) A (assignInOrder ((assignEach elts env).map (·.2)) items.toList) Q E { s with heap := h', toks := tk }) :
    wpAny (model prog w) A (assign (.Tuple elts k pos) env (.ref l)) Q E s := by
  rw [assign_Tuple]
  refine wpAny_bind (wpAny_standAt ?_)
  unfold unpack
  rw [hst, hn]
  exact wpAny_bind (wpAny_holding (unpackItems_list hA ht h))
/-! ### a tuple cut whole is the tuple itself -/
end
section
variable {X : Cx} {pos : Pos}
/-- (a, b, ..) = a tuple or a list of that length -/
def gSeq (K : PySem.W.Frag) (n : Nat) (t : TGs) : TG := fun v σ H Q => ∃ a xs, v = .ref a ∧ (SqT K H a xs ∨ SqL K H a xs) ∧ xs.length = n ∧ t xs σ H Q
theorem pg_seq {es : List Expr} {k : Nat} {t : TGs} {n : Nat} (hc : X.calm = true) (h : PGs X es t) (hn : (assignEach es X.env).length = n) (hst : (assignEach es X.env).findIdx? (·.1) = none) : PG X (.Tuple es k pos) (gSeq X.K n t) := by
  intro pins s σ H v u Q I r hw
  obtain ⟨a, xs, e1, hq, hl, hw⟩ := hw
  rcases hq with hq | hq
  · exact pg_tup hc h hn hst pins s σ H v u Q I r ⟨a, xs, e1, hq, hl, hw⟩
  · subst e1
    cases r
    obtain ⟨its, rv, ht, hz⟩ := I.list hq
    refine assign_Tuple_list (I.ok.hd hc) ht.isList (by simp [hn, ← hl, rv.length]) hst fun h' hx tk => ?_
    have I1 : Inv X pins σ H { s with heap := h', toks := tk } := I.kept (t' := tk) fun b o e => hx b o (Nat.ne_of_lt (Heap.lt_size e)) e
    exact h pins _ σ H xs _ Q I1 (by simpa using rv) hw
end
end D3

namespace D3
open PySem PySem.Spec PyProof.Rows L2
/-! ### targets: names, brackets of names -/
inductive Tg where
  | nm (i : Nat) | tp (ts : List Tg)
mutual
def setG : Tg → D → Rho → Option Rho
  | .nm i, d, ρ => some (ρ.set i (some (false, d)))
  | .tp ts, d, ρ => match d with
    | .tup ds => setGs ts ds ρ
    | .lst ds => setGs ts ds ρ
    | _ => none
def setGs : List Tg → List D → Rho → Option Rho
  | [], ds, ρ => if ds.isEmpty then some ρ else none
  | t :: ts, ds, ρ => match ds with
    | d :: ds => (match setG t d ρ with | some ρ1 => setGs ts ds ρ1 | none => none)
    | [] => none
end
mutual
def slotsG : Tg → List Nat
  | .nm i => [i]
  | .tp ts => slotsGs ts
def slotsGs : List Tg → List Nat
  | [] => []
  | t :: ts => slotsG t ++ slotsGs ts
end

mutual
def gOf (K : PySem.W.Frag) : Tg → TG
  | .nm i => gName i
  | .tp ts => gSeq K ts.length (gsOf K ts)
def gsOf (K : PySem.W.Frag) : List Tg → TGs
  | [] => gNil
  | t :: ts => gCons (gOf K t) (gsOf K ts)
end
def PGw (X : Cx) (tg : Expr) (t : Tg) : Prop := PG X tg (gOf X.K t)
def PGws (X : Cx) (tgs : List Expr) (ts : List Tg) : Prop := PGs X tgs (gsOf X.K ts)
def notStarT : Expr → Bool | .Starred .. => false | _ => true
theorem assignEach_cons {e : Expr} {es : List Expr} {env : Env} (h : notStarT e = true) : assignEach (e :: es) env = (false, assign e env) :: assignEach es env := by
  cases e <;> first | rfl | cases h
theorem setGs_len : ∀ {ts : List Tg} {ds : List D} {ρ ρ' : Rho}, setGs ts ds ρ = some ρ' → ds.length = ts.length
  | [], ds, ρ, ρ', e => by
    simp only [setGs] at e
    split at e
    · rename_i h; have : ds = [] := by simpa using h
      subst this; rfl
    · cases e
  | t :: ts, ds, ρ, ρ', e => by
    simp only [setGs] at e
    split at e
    · split at e
      · rw [List.length_cons, List.length_cons, setGs_len e]
      · cases e
    · cases e
mutual
theorem gOf_ok {K : PySem.W.Frag} {F0 H0 : Hp} : ∀ (t : Tg) {F H : Hp} {σ : L2.St} {ρ ρ' : Rho} {d : D} {v : V} {Q : L2.St → Hp → Prop}, RelSt K F0 H0 F H σ ρ → RepV K F d v → setG t d ρ = some ρ' →
    (∀ σ', RelSt K F0 H0 F H σ' ρ' → σ'.length = σ.length → (∀ j, j ∉ slotsG t → σ'[j]? = σ[j]?) → Q σ' H) → gOf K t v σ H Q
  | .nm i, F, H, σ, ρ, ρ', d, v, Q, R, r, e, w => by
    simp only [setG] at e
    cases e
    simp only [gOf]
    refine w _ (R.set (m := false) (.refl R.sub) r (by intro z; cases z)) (by rw [List.length_set]) fun j hj => ?_
    simp only [slotsG, List.mem_singleton] at hj
    rw [List.getElem?_set_ne (fun z => hj z.symm)]
  | .tp ts, F, H, σ, ρ, ρ', d, v, Q, R, r, e, w => by
    simp only [setG] at e
    split at e
    · rename_i ds
      simp only [RepV] at r
      obtain ⟨a, xs, rfl, hq, rl⟩ := r
      simp only [gOf]
      refine ⟨a, xs, rfl, .inl (Same.seqT R.sub hq), by rw [rl.length]; exact setGs_len e, gsOf_ok ts R rl e ?_⟩
      simp only [slotsG] at w
      exact w
    · rename_i ds
      simp only [RepV] at r
      obtain ⟨a, xs, rfl, hq, rl⟩ := r
      simp only [gOf]
      refine ⟨a, xs, rfl, .inr (R.sub.seq hq), by rw [rl.length]; exact setGs_len e, gsOf_ok ts R rl e ?_⟩
      simp only [slotsG] at w
      exact w
    · cases e
theorem gsOf_ok {K : PySem.W.Frag} {F0 H0 : Hp} : ∀ (ts : List Tg) {F H : Hp} {σ : L2.St} {ρ ρ' : Rho} {ds : List D} {vs : List V} {Q : L2.St → Hp → Prop}, RelSt K F0 H0 F H σ ρ → RepL K F ds vs → setGs ts ds ρ = some ρ' →
    (∀ σ', RelSt K F0 H0 F H σ' ρ' → σ'.length = σ.length → (∀ j, j ∉ slotsGs ts → σ'[j]? = σ[j]?) → Q σ' H) → gsOf K ts vs σ H Q
  | [], F, H, σ, ρ, ρ', ds, vs, Q, R, r, e, w => by
    simp only [setGs] at e
    split at e
    · cases e
      rename_i hd
      have : ds = [] := by simpa using hd
      subst this
      simp only [RepL] at r
      simp only [gsOf]
      exact ⟨r, w σ R rfl fun _ _ => rfl⟩
    · cases e
  | t :: ts, F, H, σ, ρ, ρ', ds, vs, Q, R, r, e, w => by
    simp only [setGs] at e
    split at e
    · rename_i d ds'
      split at e
      · rename_i ρ1 e1
        simp only [RepL] at r
        obtain ⟨y, ys, rfl, r1, r2⟩ := r
        simp only [gsOf]
        refine ⟨y, ys, rfl, gOf_ok t R r1 e1 fun σ1 R1 l1 k1 => gsOf_ok ts R1 r2 e fun σ2 R2 l2 k2 => w σ2 R2 (l2.trans l1) fun j hj => ?_⟩
        simp only [slotsGs, List.mem_append, not_or] at hj
        rw [k2 j hj.2, k1 j hj.1]
      · cases e
    · cases e
end
section
variable {C : Cw} {X : Cx} {pos : Pos}
theorem pgw_name {x : Str} {i : Nat} (hN : X.N.Nodup) (hi : X.N[i]? = some x) (hx : L2.Loc X.env.scope x) (hf : X.fn x = true ∨ X.env.scope.names.lookup x = some .local) : PGw X (.Name x pos) (.nm i) := by
  unfold PGw
  simp only [gOf]
  exact pg_name hN hi hx hf
theorem pgws_nil : PGws X [] [] := by unfold PGws; simp only [gsOf]; exact pgs_nil
theorem pgws_cons {e : Expr} {es : List Expr} {t : Tg} {ts : List Tg} (h1 : PGw X e t) (h2 : PGws X es ts) (hs : notStarT e = true) : PGws X (e :: es) (t :: ts) := by
  unfold PGws
  simp only [gsOf]
  exact pgs_cons h1 h2 (by rw [assignEach_cons hs]; rfl)
theorem star_none {es : List Expr} {env : Env} (hs : ∀ e ∈ es, notStarT e = true) : (assignEach es env).length = es.length ∧ (assignEach es env).findIdx? (·.1) = none := by
  induction es with
  | nil => exact ⟨rfl, rfl⟩
  | cons e es ih =>
    obtain ⟨h1, h2⟩ := ih fun x hx => hs x (List.mem_cons_of_mem _ hx)
    rw [assignEach_cons (hs e List.mem_cons_self)]
    refine ⟨by rw [List.length_cons, List.length_cons, h1], ?_⟩
    rw [List.findIdx?_cons]
    simp [h2]
theorem pgw_tup {es : List Expr} {ts : List Tg} {k : Nat} (hc : X.calm = true) (h : PGws X es ts) (hs : ∀ e ∈ es, notStarT e = true) (hl : es.length = ts.length) : PGw X (.Tuple es k pos) (.tp ts) := by
  have st := star_none (env := X.env) hs
  unfold PGw
  simp only [gOf]
  exact pg_seq (n := ts.length) hc h (by rw [st.1, hl]) st.2
theorem pgv_of {tg : Expr} {t : Tg} (h : PGw X tg t) : PGv C X tg (setG t) :=
  ⟨_, h, fun F H σ ρ ρ' d v Q R r e w => gOf_ok t R r e fun σ' R' _ _ => w σ' F H (Same.refl _) R'⟩
/-! ### while -/
/-! ### a, b = x, y -/
end
end D3

namespace D3
open PySem PySem.Spec PyProof.Rows L2
section
variable {C : Cw} {X : Cx} {e : Expr} {g : Rho → Res} {pos p : Pos}
theorem comp_tG {t : Tg} {tgN : List Str} {caps : List Nat} {gi gt ge : Rho → Res} (hsl : ∀ j ∈ slotsG t, caps.length ≤ j) {σ : L2.St} {H : Hp} {Q : VK} (q : tG (C.at X) (fun ρ => compR (gi ρ) ρ caps tgN.length (setG t) gt ge) σ H Q) :
    tComp caps tgN.length (tIv (C.at X) gi) (gOf X.K t) (tT (C.nox.at X) gt) (tG (C.nox.at X) fun ρ => frzR (ge ρ)) σ H Q := by
  rw [tG_eq] at q
  obtain ⟨ρ, F, RS, w⟩ := q
  unfold tComp
  refine ⟨ρ, F, RS, ?_⟩
  cases er : gi ρ with
  | stuck => rw [er] at w; exact w
  | exc c => rw [er] at w; exact w
  | ok m d =>
    rw [er] at w
    cases d with
    | lst ds =>
      unfold compR at w
      rw [Res.thn_ok] at w
      dsimp only at w
      split at w
      · rename_i hsz
        intro J F1 H1 s1 hJ Da hDa
        cases et : compL (setG t) gt ge (subR caps ρ ++ List.replicate tgN.length none) ds with
        | none => rw [et] at w; exact w.elim
        | some total =>
          rw [et] at w
          have hD0 : H Da = none := s1.same.free hDa
          have hF1 : F1 Da = none := s1.sub.free hDa
          have R0 := relSt_sub caps tgN.length RS
          refine ⟨fun i m ys H' => m = ds.length - i ∧ i ≤ ds.length ∧ H' Da = some (.lst ys) ∧ ∃ F' zs, Step F H F' H' ∧ Same F1 F' ∧ F' Da = none ∧ RepL X.K F' zs ys ∧ zs.length ≤ i ∧
            ∃ rest, compL (setG t) gt ge (subR caps ρ ++ List.replicate tgN.length none) (ds.drop i) = some rest ∧ total = zs ++ rest,
            ⟨ds.length, by simp, Nat.zero_le _, upd_same, F1, [], s1.upd hD0 hF1, Same.refl _, hF1, RepL.nil, Nat.le_refl _, total, by simpa using et, rfl⟩, ?_⟩
          rintro i m ys H' ⟨rfl, hile, hD, F', zs, st, sF, hFD, rz, hzl, rest, ec, etot⟩
          refine ⟨hD, ?_⟩
          by_cases hlt : i < ds.length
          · refine .inr ⟨hJ.go i H' (sF.trans st.sub) hlt, by rw [rz.length]; omega, fun v H2 y => ?_⟩
            obtain ⟨F2, d, ed, s2, rd⟩ := hJ.yld i F' H' v H2 sF st.sub hlt y
            have hd : ds.drop i = d :: ds.drop (i + 1) := by
              rw [List.drop_eq_getElem_cons hlt]
              rw [List.getElem?_eq_getElem hlt] at ed
              cases ed; rfl
            rw [hd] at ec
            unfold compL at ec
            have hD2 : H2 Da = some (.lst ys) := s2.same _ _ hD
            have hF2 : F2 Da = none := s2.new _ hFD (by rw [hD]; exact fun z => nomatch z)
            cases eg : setG t d (subR caps ρ ++ List.replicate tgN.length none) with
            | none => rw [eg] at ec; cases ec
            | some ρ1 =>
            rw [eg] at ec
            dsimp only at ec
            have R2 := (R0.step st).step s2
            refine gOf_ok t R2 rd eg fun σ1 R1 len1 keep1 => ?_
            refine ⟨⟨len1.symm, fun j u ej => ?_⟩, ρ1, F2, R1, ?_⟩
            · by_cases hj : j ∈ slotsG t
              · have := hsl j hj
                rw [List.getElem?_append_right (by simpa [subS] using this), List.getElem?_replicate] at ej
                split at ej <;> cases ej
              · rw [keep1 j hj]; exact ej
            cases ett : gt ρ1 with
            | stuck => rw [ett] at ec; cases ec
            | exc c => rw [ett] at ec; cases ec
            | ok mt dt =>
              cases dt with
              | bl b =>
                rw [ett] at ec
                intro F3 H3 s3
                have hD3 : H3 Da = some (.lst ys) := s3.same _ _ hD2
                have hF3 : F3 Da = none := s3.new _ hF2 (by rw [hD2]; exact fun z => nomatch z)
                cases b with
                | false =>
                  rw [if_neg Bool.false_ne_true]
                  exact ⟨ds.length - (i + 1), by omega, rfl, hlt, hD3, F3, zs, (st.trans s2).trans s3, (sF.trans s2.fsame).trans s3.fsame, hF3, rz.mono (s2.fsame.trans s3.fsame) _ _, Nat.le_succ_of_le hzl, rest, ec, etot⟩
                | true =>
                  rw [if_pos rfl, tG_eq]
                  refine ⟨_, F3, R1.step s3, ?_⟩
                  dsimp only at ec
                  cases ee : frzR (ge ρ1) with
                  | stuck => rw [ee] at ec; cases ec
                  | exc c => rw [ee] at ec; cases ec
                  | ok me ye =>
                    rw [ee] at ec
                    dsimp only at ec
                    have hme : me = .fz := by
                      cases h : ge ρ1 with
                      | ok m' d' => rw [h] at ee; cases m' <;> cases ee <;> rfl
                      | exc c => rw [h] at ee; cases ee
                      | stuck => rw [h] at ee; cases ee
                    subst hme
                    cases er2 : compL (setG t) gt ge (subR caps ρ ++ List.replicate tgN.length none) (ds.drop (i + 1)) with
                    | none => rw [er2] at ec; cases ec
                    | some rest' =>
                      rw [er2] at ec
                      cases ec
                      intro u F4 H4 s4 ru _
                      have hD4 : H4 Da = some (.lst ys) := s4.same _ _ hD3
                      have hF4 : F4 Da = none := s4.new _ hF3 (by rw [hD3]; exact fun z => nomatch z)
                      refine ⟨hD4, ds.length - (i + 1), by omega, rfl, hlt, upd_same, F4, zs ++ [ye], (((st.trans s2).trans s3).trans s4).upd hD0 hF4, ((sF.trans s2.fsame).trans s3.fsame).trans s4.fsame, hF4, ?_, by simp; omega, rest', er2, by rw [etot]; simp⟩
                      exact RepL.append (rz.mono ((s2.fsame.trans s3.fsame).trans s4.fsame) _ _) (RepL.cons ru RepL.nil)
              | _ => rw [ett] at ec; cases ec
          · have ei : i = ds.length := by omega
            subst ei
            rw [List.drop_length] at ec
            cases ec
            rw [List.append_nil] at etot
            subst etot
            exact .inl ⟨hJ.stop _ H' (sF.trans st.sub) (Nat.le_refl _), w (.ref Da) F' H' st ⟨Da, rfl, hFD, ys, hD, rz⟩ fun _ a ea => by cases ea; exact hD0⟩
      · exact w.elim
    | _ => exact w.elim
theorem pv_compT {iter elt tg : Expr} {t : Tg} {tgN : List Str} {ifs : List Expr} {scope : Scope} {caps : List Nat} {capN : List Str} {gi gt ge : Rho → Res}
    (hc : X.calm = true) (hi : PIv C X tg iter gi) (hcell : ∀ y ∈ scope.names, y.2 ≠ .cell) (hkind : scope.kind = .function) (hnames : ∀ y ∈ scope.names, y.2 = .local → scope.names.lookup y.1 = some .local)
    (hfree : ∀ y ∈ scope.names, y.2 = .free → X.env.kindOf y.1 = some .cell ∨ X.env.kindOf y.1 = some .free)
    (hcapN : capN.map some = caps.map fun i => X.N[i]?) (hcapF : ∀ y ∈ capN, (y, NameKind.free) ∈ scope.names)
    (hcapK : ∀ y ∈ capN, (relabel scope X.env).names.lookup y = some .cell ∨ (relabel scope X.env).names.lookup y = some .free)
    (hsl : ∀ j ∈ slotsG t, caps.length ≤ j) (hg : ∀ cl A fp s3 H3, PGw (compCx X scope (capN ++ tgN) cl A fp s3 H3) tg t)
    (hf : ∀ cl A fp s3 H3, PIfs (compCx X scope (capN ++ tgN) cl A fp s3 H3) ifs (tT (C.nox.at X) gt)) (he : ∀ cl A fp s3 H3, PV C.nox (compCx X scope (capN ++ tgN) cl A fp s3 H3) elt ge)
    (hs : ∀ x, foldedSetIterable iter X.env x = pure x := by intro _; rfl) :
    PV C X (.ListComp elt [⟨tg, iter, ifs, 0⟩] scope pos) (fun ρ => compR (gi ρ) ρ caps tgN.length (setG t) gt ge) := by
  have capLen : capN.length = caps.length := by simpa using congrArg List.length hcapN
  refine PE.imp (pe_comp (capN := capN) (tgN := tgN) (gt := gOf X.K t) (tt := tT (C.nox.at X) gt) (te := tG (C.nox.at X) fun ρ => frzR (ge ρ)) hc hi hcell hkind hnames hfree hcapN hcapF hcapK
    hg hf (fun cl A fp s3 H3 => pv_frz (he cl A fp s3 H3)) hs) fun σ H Q q => comp_tG hsl q
end
end D3

namespace D3
open PySem PySem.Spec PyProof.Rows L2
/-! ### a value within braces -/
def fmtD : D → Option Str
  | .str z => some z
  | .int i => if small i = true then some (numS i) else none
  | _ => none
def fmtR (r : Res) : Res := r.thn fun _ d => match fmtD d with | some z => .ok .fz (.str z) | none => .stuck
section
variable {C : Cw} {X : Cx} {e : Expr} {g : Rho → Res} {pos p : Pos}
theorem pv_fmt (he : PV C X e g) : PV C X (.FormattedValue e (-1) none pos) (fun ρ => fmtR (g ρ)) := by
  intro pins s σ H Q I q
  rw [tG_eq] at q
  obtain ⟨ρ, F, R, w⟩ := q
  refine FormattedValue_plain (thn (he pins s σ H (fun v H1 => ∃ F1 m d, Step F H F1 H1 ∧ Rp X.K F1 H1 m d v ∧ g ρ = .ok m d) I ?_) fun u s1 ⟨v, H1, I1, rv, F1, m, d, st1, rp, eg⟩ => ?_)
  · rw [tG_eq]
    refine ⟨ρ, F, R, ?_⟩
    cases er : g ρ with
    | stuck => rw [er] at w; exact w
    | exc c => rw [er] at w; exact w
    | ok m d => exact fun v F1 H1 s1 r1 _ => ⟨F1, m, d, s1, r1, rfl⟩
  · rw [eg] at w
    have w1 : Want (C.at X) F1 H1 σ (match fmtD d with | some z => .ok .fz (.str z) | none => .stuck) Q := Want.step st1 w
    cases d with
    | str z =>
      obtain ⟨rfl, hz, hk⟩ := rp.str
      obtain ⟨t, rfl⟩ := rv
      exact formatField_str (fun t' tk => ⟨.str z, H1, I1.tok _, ⟨_, rfl⟩, w1 _ F1 H1 (.refl st1.sub) (rp_str ⟨hz, hk⟩) (by intro z; cases z)⟩) hz
    | int i =>
      cases rp.int
      obtain ⟨t, rfl⟩ := rv
      unfold fmtD at w1
      dsimp only at w1
      split at w1
      · rename_i z hz
        split at hz
        · rename_i hs
          cases hz
          have hl : i.natAbs.log2 < 1920 := of_decide_eq_true hs
          have h1 : (numS i).length ≤ 1921 := int_text_len_1921 hl
          have hzz : sizeLine = 16777216 := sizeLine_eq
          exact formatField_int_small hl ⟨.str (numS i), H1, I1.tok _, ⟨_, rfl⟩, w1 _ F1 H1 (.refl st1.sub) (rp_str ⟨by omega, strOk_num i⟩) (by intro z; cases z)⟩
        · cases hz
      · exact w1.elim
    | _ => exact w1.elim
end
/-- the parts put together -/
def joinF (out : Str) : List (Rho → Res) → Rho → Res
  | [], _ => if out.length ≤ sizeLine then .ok .fz (.str out) else .stuck
  | g :: gs, ρ => (g ρ).thn fun _ d => match d with
    | .str y => if (out ++ y).length ≤ sizeLine then joinF (out ++ y) gs ρ else .stuck
    | _ => .stuck
inductive PVL (C : Cw) (X : Cx) : List Expr → List (Rho → Res) → Prop where
  | nil : PVL C X [] []
  | cons {e : Expr} {g : Rho → Res} {es : List Expr} {gs : List (Rho → Res)} (h : PV C X e g) (r : PVL C X es gs) : PVL C X (e :: es) (g :: gs)
theorem join_V {C : Cw} {X : Cx} : ∀ {es : List Expr} {gs : List (Rho → Res)}, PVL C X es gs → ∀ (out : Str) (pins : List (Addr × Obj)) (s : Shared) (σ : L2.St) (H F : Hp) (ρ : Rho) (Q : VK), PyData.strOk out = true → Inv X pins σ H s → RelSt X.K C.F0 C.H0 F H σ ρ → Want (C.at X) F H σ (joinF out gs ρ) Q →
    wpAny (model X.prog X.w) X.A (joinParts out (evalEach es X.env)) (EP X pins σ Q) X.xe s
  | _, _, .nil, out, pins, s, σ, H, F, ρ, Q, hk, I, R, w => by
    unfold joinF at w
    split at w
    · rename_i hl
      exact joinParts_nil ⟨.str out, H, I.tok _, ⟨_, rfl⟩, w _ F H (.refl R.sub) (rp_str ⟨hl, hk⟩) (by intro z; cases z)⟩ hl
    · exact w.elim
  | _, _, .cons (e := e) (g := g) (gs := gs) h r, out, pins, s, σ, H, F, ρ, Q, hk, I, R, w => by
    refine joinParts_cons (thn (h pins s σ H (fun v H1 => ∃ F1 m d, Step F H F1 H1 ∧ Rp X.K F1 H1 m d v ∧ g ρ = .ok m d) I ?_) fun u s1 ⟨v, H1, I1, rv, F1, m, d, st1, rp, eg⟩ => ?_)
    · rw [tG_eq]
      refine ⟨ρ, F, R, ?_⟩
      unfold joinF at w
      cases er : g ρ with
      | stuck => rw [er] at w; exact w
      | exc c => rw [er] at w; exact w
      | ok m d => exact fun v F1 H1 s1 r1 _ => ⟨F1, m, d, s1, r1, rfl⟩
    · unfold joinF at w
      rw [eg] at w
      cases d with
      | str y =>
        have w1 : Want (C.at X) F1 H1 σ (if (out ++ y).length ≤ sizeLine then joinF (out ++ y) gs ρ else .stuck) Q := Want.step st1 w
        split at w1
        · rename_i hl
          obtain ⟨rfl, hz, hy⟩ := rp.str
          obtain ⟨t, rfl⟩ := rv
          exact ⟨hl, join_V r (out ++ y) pins s1 σ H1 F1 ρ Q (strOk_append hk hy) I1 (R.step st1) w1⟩
        · exact w1.elim
      | _ => exact (show False from w).elim
theorem pv_fstr {C : Cw} {X : Cx} {e1 e2 : Expr} {es : List Expr} {gs : List (Rho → Res)} {pos : Pos} (h : PVL C X (e1 :: e2 :: es) gs) : PV C X (.JoinedStr (e1 :: e2 :: es) pos) (joinF Str.empty gs) := by
  intro pins s σ H Q I q
  rw [tG_eq] at q
  obtain ⟨ρ, F, R, w⟩ := q
  exact JoinedStr_many (join_V h Str.empty pins s σ H F ρ Q (by decide +kernel) I R w)
end D3

namespace D3
open PySem PySem.Spec PyProof.Rows L2
/-! ### < of tuples -/
inductive LtI (A : Around) (s : Shared) : List Value → List Value → Bool → Prop where
  | nn : LtI A s [] [] false
  | nc {w : Value} {ws : List Value} : LtI A s [] (w :: ws) true
  | cn {v : Value} {vs : List Value} : LtI A s (v :: vs) [] false
  | eq {v w : Value} {vs ws : List Value} {b : Bool} (h : SeqAt.EqAt A s v w true) (r : LtI A s vs ws b) : LtI A s (v :: vs) (w :: ws) b
  | ne {v w : Value} {vs ws : List Value} {b : Bool} (h : SeqAt.EqAt A s v w false) (l : ∀ (prog : Program) (w' : World) (E : Value → Shared → Prop) (Q : Value → Shared → Prop), Q (.bool b) s → wpAny (model prog w') A (richCompare .Lt v w) Q E s) : LtI A s (v :: vs) (w :: ws) b
section
open PySem.SeqAt
open PySem.AutoSeq1 (wpAny_loadPart')
open PySem.MeetsSeq PySem.MeetsSeq2 PySem.MeetsSeq3
end
section
variable {prog : Program} {w : World} {A : Around} {E : Value → Shared → Prop} {s : Shared}
end
end D3

namespace D3
open PySem PySem.Spec PyProof.Rows L2
section
variable {C : Cw} {X : Cx}
/-! ### < of texts, of tuples of flat things -/
/-! ### int of a text -/
def tcInt2 : List (Md × D) → Option (Md × D) := fun xs => match xs with
  | [(_, .str z)] => if z.length ≤ 640 then (PySem.intText? z).map fun n => (.fz, .int n) else none
  | _ => tcInt xs
theorem calld_int2 : CallD X (.type "int") tcInt2 := by
  obtain ⟨r, h1, h2⟩ := calld_int (X := X)
  refine ⟨fun xs H Q => r xs H Q ∨ ∃ z n, xs = [.str z] ∧ z.length ≤ 640 ∧ PySem.intText? z = some n ∧ Q (.int n) H, ?_, fun F H xs vs k d Q s rx e w => ?_⟩
  · intro pins s σ H xs us Q I rr h
    rcases h with h | ⟨z, n, rfl, hl, hn, q⟩
    · exact h1 pins s σ H xs us Q I rr h
    · obtain ⟨u, rfl, t, rfl⟩ := vals1 rr
      exact PySem.W.KIN.call_text hn hl ⟨.int n, H, I.tok _, ⟨_, rfl⟩, q⟩
  · unfold tcInt2 at e
    split at e
    · rename_i m z
      split at e
      · rename_i hl
        cases en : PySem.intText? z with
        | none => rw [en] at e; cases e
        | some n =>
          rw [en] at e
          cases e
          obtain ⟨v, rfl, r0⟩ := rx.one
          obtain ⟨rfl, _⟩ := r0.str
          exact .inr ⟨z, n, rfl, hl, en, w _ F H (.refl s) (rp_int _) (by intro z; cases z)⟩
      · cases e
    · exact .inl (h2 F H xs vs k d Q s rx e w)
/-! ### a text no times -/
end
end D3

namespace D3
open PySem PySem.Spec PyProof.Rows L2
section
open PySem.SeqAt
open PySem.AutoSeq1 (wpAny_loadPart')
open PySem.MeetsSeq PySem.MeetsSeq2 PySem.MeetsSeq3
variable {prog : Program} {w : World} {A : Around} {E : Value → Shared → Prop} {s : Shared}
/-- the next item of a tuple's iterator, asked from within a type of the kit -/
theorem nextT_item {it t : Addr} {i : Nat} {xs : Array Value} {x : Value} {Q : Value → Shared → Prop} (hi : s.heap.IsTupleIter it t i) (ht : IsTup s.heap t xs) (hx : xs[i]? = some x)
    (q : ∀ h', h'.IsTupleIter it t (i + 1) → Heap.SameBut it s.heap h' → Q x { s with heap := h' }) : wpAny (model prog w) A (Builtin.SmallTypes.nextOf (.ref it)) Q E s := by
  have ty := hi.typeIs
  obtain ⟨o, ho, hc, hd⟩ := hi
  obtain ⟨p, hp, _, n, hs⟩ := ht
  delta Builtin.SmallTypes.nextOf
  apply wpAny_bind
  apply wpAny_callSpecial?_slot (name := Str.ofString "__next__") ty F.slot_tuple_iterator_next
  refine wpAny_call_entry F.slot_tuple_iterator_next ty F.entry_tuple_iterator_next ?w (F.args_tuple_iterator_next_1 _)
  case w =>
    refine wpAny_bind (m := field (.ref it) 0) (wpAny_field ho hd (x := .ref t) rfl ?_)
    rw [show (Value.ref t == Value.none) = false from rfl, if_neg Bool.false_ne_true]
    refine wpAny_bind (m := field (.ref it) 1) (wpAny_field ho hd (x := .int i 0) rfl ?_)
    apply wpAny_bind
    apply wpAny_seqItems hp hs
    rw [Int.toNat_natCast]
    simp only [hx]
    apply wpAny_bind
    apply wpAny_setField ho hd (by simp)
    refine wpAny_pure ⟨x, rfl, wpAny_pure (q _ ⟨_, Heap.get?_update_self _ ho (Obj.isFreed_of_fields (Obj.data_mapFields hd _)), ?_, ?_⟩ (Heap.SameBut.update ..))⟩
    · rw [Obj.cls_mapFields, hc]
    · rw [Obj.data_mapFields hd]; simp [rawInt]
/-- no next item -/
theorem nextT_end {it t : Addr} {i : Nat} {xs : Array Value} {Q : Value → Shared → Prop} (h0 : A.handled = none) (hi : s.heap.IsTupleIter it t i) (ht : IsTup s.heap t xs) (hx : xs[i]? = none)
    (q : ∀ h' e, Heap.ExtBut it s.heap h' → (∃ o, h'.get? e = some o ∧ o.cls = .type "StopIteration") → E (.ref e) { s with heap := h' }) : wpAny (model prog w) A (Builtin.SmallTypes.nextOf (.ref it)) Q E s := by
  have ty := hi.typeIs
  obtain ⟨o, ho, hc, hd⟩ := hi
  obtain ⟨p, hp, _, n, hs⟩ := ht
  delta Builtin.SmallTypes.nextOf
  apply wpAny_bind
  apply wpAny_callSpecial?_slot (name := Str.ofString "__next__") ty F.slot_tuple_iterator_next
  refine wpAny_call_entry F.slot_tuple_iterator_next ty F.entry_tuple_iterator_next ?w (F.args_tuple_iterator_next_1 _)
  case w =>
    refine wpAny_bind (m := field (.ref it) 0) (wpAny_field ho hd (x := .ref t) rfl ?_)
    rw [show (Value.ref t == Value.none) = false from rfl, if_neg Bool.false_ne_true]
    refine wpAny_bind (m := field (.ref it) 1) (wpAny_field ho hd (x := .int i 0) rfl ?_)
    apply wpAny_bind
    apply wpAny_seqItems hp hs
    rw [Int.toNat_natCast]
    simp only [hx]
    apply wpAny_bind
    apply wpAny_rule
    apply wpAny_bind
    apply wpAny_setField ho hd (by simp)
    refine wpAny_bind (m := newExc (.type "StopIteration") []) ?_
    simp only [newExc, newTuple]
    apply wpAny_bind
    refine wpAny_newObj_type ?_ (by size_fits)
    apply wpAny_bind (m := firstArgMember _ _)
    refine wpAny_of_eq (a := .none) ?_ ?_
    · first | rfl | (unfold firstArgMember; rfl)
    refine wpAny_newObj_type (hd := by size_fits) ?_
    simp only [raiseNew]
    apply wpAny_bind
    apply wpAny_handled
    first | rw [show A.in1.handled = none from h0] | rw [h0]
    refine wpAny_throw ?_
    exact q _ _ ((Heap.SameBut.extBut (Heap.SameBut.update ..)).push _ |>.push _) ⟨_, Heap.get?_push_size _ rfl, rfl⟩
theorem tup_at {h h' : Heap} {a : Addr} {xs : Array Value} (x : IsTup h a xs) (k : ∀ o, h.get? a = some o → h'.get? a = some o) : IsTup h' a xs := by
  obtain ⟨o, ho, r⟩ := x
  exact ⟨o, k o ho, r⟩
/-- zip over two tuples: one more pair -/
theorem zipT_item {z TI TO i j l m : Addr} {ki kj : Nat} {xs ys : Array Value} {x y a b : Value} {Q : Value → Shared → Prop} (D : ZipApart z TI TO i j l m)
    (hz : IsZip s.heap z TI TO .none) (hI : IsPair s.heap TI (.ref i) (.ref j)) (hO : IsPair s.heap TO a b) (hi : s.heap.IsTupleIter i l ki) (hj : s.heap.IsTupleIter j m kj) (hl : IsTup s.heap l xs) (hm : IsTup s.heap m ys)
    (hx : xs[ki]? = some x) (hy : ys[kj]? = some y)
    (q : ∀ h', IsZip h' z TI TO (rawInt s.heap.objs.size) → IsPair h' TO x y → h'.IsTupleIter i l (ki + 1) → h'.IsTupleIter j m (kj + 1) → IsPair h' s.heap.objs.size x y → h'.objs.size = s.heap.objs.size + 1 →
      (∀ c o, c ≠ z → c ≠ TO → c ≠ i → c ≠ j → s.heap.get? c = some o → h'.get? c = some o) → Q (.ref s.heap.objs.size) { s with heap := h' }) :
    wpAny (model prog w) A (Builtin.«zip.__next__» ⟨[.ref z], []⟩) (fun f s' => ∃ v, f = .done (.ret v) ∧ Q v s') E s := by
  refine wpAny_bind (m := field (.ref z) 2) (wpAny_field hz rfl (x := .bool false) rfl ?_)
  refine wpAny_bind (m := field (.ref z) 3) (wpAny_field hz rfl (x := .ref TI) rfl ?_)
  apply wpAny_bind
  apply wpAny_seqItems hI rfl
  refine wpAny_bind (m := Builtin.SmallTypes.ownedTupleIsFree (.ref z)) ?_
  delta Builtin.SmallTypes.ownedTupleIsFree
  apply wpAny_bind
  refine wpAny_field hz rfl (x := .none) rfl ?_
  apply wpAny_pure
  simp only [if_true]
  apply wpAny_bind
  apply wpAny_rule
  apply wpAny_bind
  refine wpAny_field hz rfl (x := .ref TO) rfl ?_
  apply wpAny_bind
  refine wpAny_setField_rec hz (by simp) fun H1 z1 s1 => ?_
  have z1 : IsZip H1 z TI TO .ellipsis := z1
  apply wpAny_bind
  simp only [List.zipIdx_cons, List.zipIdx_nil, List.forIn_cons, List.forIn_nil]
  apply wpAny_bind
  apply wpAny_bind
  apply wpAny_onRaise
  refine wpAny_bind (m := Builtin.SmallTypes.nextOf (.ref i)) ?_
  refine nextT_item (hi.extBut s1.extBut D.i1z) (tup_at hl fun o e => s1.extBut _ o D.l1z e) hx fun H2 i2 s2 => ?_
  apply wpAny_pure
  have o2 : IsPair H2 TO a b := s2.extBut _ _ D.TOi1 (s1.extBut _ _ D.TOz hO)
  apply wpAny_bind
  apply wpAny_seqItems o2 rfl
  apply wpAny_bind
  refine wpAny_updateSeq_pair o2 fun H3 o3 s3 => ?_
  have o3 : IsPair H3 TO x b := o3
  apply wpAny_bind
  apply wpAny_letGo
  apply wpAny_pure
  apply wpAny_bind
  apply wpAny_bind
  apply wpAny_onRaise
  refine wpAny_bind (m := Builtin.SmallTypes.nextOf (.ref j)) ?_
  have j3 : H3.IsTupleIter j m kj := ((hj.extBut s1.extBut D.i2z).extBut s2.extBut D.i12.symm).extBut s3.extBut D.TOi2.symm
  have m3 : IsTup H3 m ys := tup_at hm fun o e => s3.extBut _ o D.l2TO (s2.extBut _ o D.l2i1 (s1.extBut _ o D.l2z e))
  refine nextT_item j3 m3 hy fun H4 j4 s4 => ?_
  apply wpAny_pure
  have o4 : IsPair H4 TO x b := s4.extBut _ _ D.TOi2 o3
  apply wpAny_bind
  apply wpAny_seqItems o4 rfl
  apply wpAny_bind
  refine wpAny_updateSeq_pair o4 fun H5 o5 s5 => ?_
  have o5 : IsPair H5 TO x y := o5
  apply wpAny_bind
  apply wpAny_letGo
  refine wpAny_pure (wpAny_pure ?_)
  apply wpAny_bind
  apply wpAny_seqItems o5 rfl
  apply wpAny_bind
  refine wpAny_newTuple ?_
  have sz : H5.objs.size = s.heap.objs.size := by rw [s5.1, s4.1, s3.1, s2.1, s1.1]
  have z5 : IsZip H5 z TI TO .ellipsis := s5.extBut _ _ D.TOz.symm (s4.extBut _ _ D.i2z.symm (s3.extBut _ _ D.TOz.symm (s2.extBut _ _ D.i1z.symm z1)))
  have k5 : ∀ c o, c ≠ z → c ≠ TO → c ≠ i → c ≠ j → s.heap.get? c = some o → H5.get? c = some o := fun c o c1 c2 c3 c4 e =>
    s5.extBut _ _ c2 (s4.extBut _ _ c4 (s3.extBut _ _ c2 (s2.extBut _ _ c3 (s1.extBut _ _ c1 e))))
  have i5 : H5.IsTupleIter i l (ki + 1) := ((i2.extBut s3.extBut D.TOi1.symm).extBut s4.extBut D.i12).extBut s5.extBut D.TOi1.symm
  have j5 : H5.IsTupleIter j m (kj + 1) := j4.extBut s5.extBut D.TOi2.symm
  have zl : z < H5.objs.size := Heap.lt_size z5
  refine wpAny_bind (m := Builtin.SmallTypes.ownedTupleHandOut (.ref z) (.ref H5.objs.size)) ?_
  delta Builtin.SmallTypes.ownedTupleHandOut
  have z6 : IsZip (H5.push { cls := .type "tuple", data := .seq #[x, y] }) z TI TO .ellipsis := Heap.get?_push_of_some _ z5
  apply wpAny_bind
  refine wpAny_setField_rec z6 (by simp) fun H7 z7 s7 => ?_
  have z7 : IsZip H7 z TI TO (rawInt H5.objs.size) := z7
  refine wpAny_setField_rec z7 (by simp) fun H8 z8 s8 => ?_
  have z8 : IsZip H8 z TI TO (rawInt H5.objs.size) := z8
  have up : ∀ c o, c ≠ z → H5.get? c = some o → H8.get? c = some o := fun c o c1 e => s8.extBut _ _ c1 (s7.extBut _ _ c1 (Heap.get?_push_of_some _ e))
  have t8 : IsPair H8 H5.objs.size x y := s8.extBut _ _ (Nat.ne_of_gt zl) (s7.extBut _ _ (Nat.ne_of_gt zl) (Heap.get?_push_size _ rfl))
  have n8 : H8.objs.size = H5.objs.size + 1 := by rw [s8.1, s7.1, Heap.size_push]
  rw [sz] at z8 t8 n8
  apply wpAny_pure
  refine ⟨_, rfl, ?_⟩
  show Q (.ref H5.objs.size) _
  rw [sz]
  exact q H8 z8 (up _ _ D.TOz o5) (i5.at fun o e => up _ o D.i1z e) (j5.at fun o e => up _ o D.i2z e) t8 n8 fun c o c1 c2 c3 c4 e => up c o c1 (k5 c o c1 c2 c3 c4 e)
/-- zip over two tuples: one of them is at its end -/
theorem zipT_end {z TI TO i j l m : Addr} {ki kj : Nat} {xs ys : Array Value} {a b : Value} {Q : Fin → Shared → Prop} (h0 : A.handled = none) (D : ZipApart z TI TO i j l m)
    (hz : IsZip s.heap z TI TO .none) (hI : IsPair s.heap TI (.ref i) (.ref j)) (hO : IsPair s.heap TO a b) (hi : s.heap.IsTupleIter i l ki) (hj : s.heap.IsTupleIter j m kj) (hl : IsTup s.heap l xs) (hm : IsTup s.heap m ys)
    (hn : xs[ki]? = none ∨ ys[kj]? = none)
    (q : ∀ h' e, (∀ c o, c ≠ z → c ≠ TO → c ≠ i → c ≠ j → s.heap.get? c = some o → h'.get? c = some o) → (∃ o, h'.get? e = some o ∧ o.cls = .type "StopIteration") → E (.ref e) { s with heap := h' }) :
    wpAny (model prog w) A (Builtin.«zip.__next__» ⟨[.ref z], []⟩) Q E s := by
  refine wpAny_bind (m := field (.ref z) 2) (wpAny_field hz rfl (x := .bool false) rfl ?_)
  refine wpAny_bind (m := field (.ref z) 3) (wpAny_field hz rfl (x := .ref TI) rfl ?_)
  apply wpAny_bind
  apply wpAny_seqItems hI rfl
  refine wpAny_bind (m := Builtin.SmallTypes.ownedTupleIsFree (.ref z)) ?_
  delta Builtin.SmallTypes.ownedTupleIsFree
  apply wpAny_bind
  refine wpAny_field hz rfl (x := .none) rfl ?_
  apply wpAny_pure
  simp only [if_true]
  apply wpAny_bind
  apply wpAny_rule
  apply wpAny_bind
  refine wpAny_field hz rfl (x := .ref TO) rfl ?_
  apply wpAny_bind
  refine wpAny_setField_rec hz (by simp) fun H1 z1 s1 => ?_
  have z1 : IsZip H1 z TI TO .ellipsis := z1
  apply wpAny_bind
  simp only [List.zipIdx_cons, List.zipIdx_nil, List.forIn_cons, List.forIn_nil]
  apply wpAny_bind
  apply wpAny_bind
  apply wpAny_onRaise
  refine wpAny_bind (m := Builtin.SmallTypes.nextOf (.ref i)) ?_
  have i1 := hi.extBut s1.extBut D.i1z
  have l1 : IsTup H1 l xs := tup_at hl fun o e => s1.extBut _ o D.l1z e
  cases hx : xs[ki]? with
  | none =>
    refine nextT_end h0 i1 l1 hx fun H2 e s2 he => ?_
    obtain ⟨oe, g, c⟩ := he
    have z2 : IsZip H2 z TI TO .ellipsis := s2 _ _ D.i1z.symm z1
    have ez : e ≠ z := by
      rintro rfl
      rw [z2] at g
      cases g
      simp at c
    refine wpAny_setField_rec z2 (by simp) fun H3 _ s3 => ?_
    exact q H3 e (fun c o c1 _ c3 _ x => s3.extBut _ _ c1 (s2 _ _ c3 (s1.extBut _ _ c1 x))) ⟨oe, s3.extBut _ _ ez g, c⟩
  | some x =>
    have hy : ys[kj]? = none := by
      rcases hn with h | h
      · rw [hx] at h; cases h
      · exact h
    refine nextT_item i1 l1 hx fun H2 i2 s2 => ?_
    apply wpAny_pure
    have o2 : IsPair H2 TO a b := s2.extBut _ _ D.TOi1 (s1.extBut _ _ D.TOz hO)
    apply wpAny_bind
    apply wpAny_seqItems o2 rfl
    apply wpAny_bind
    refine wpAny_updateSeq_pair o2 fun H3 o3 s3 => ?_
    apply wpAny_bind
    apply wpAny_letGo
    apply wpAny_pure
    apply wpAny_bind
    apply wpAny_bind
    apply wpAny_onRaise
    refine wpAny_bind (m := Builtin.SmallTypes.nextOf (.ref j)) ?_
    have j3 : H3.IsTupleIter j m kj := ((hj.extBut s1.extBut D.i2z).extBut s2.extBut D.i12.symm).extBut s3.extBut D.TOi2.symm
    have m3 : IsTup H3 m ys := tup_at hm fun o e => s3.extBut _ o D.l2TO (s2.extBut _ o D.l2i1 (s1.extBut _ o D.l2z e))
    refine nextT_end h0 j3 m3 hy fun H4 e s4 he => ?_
    obtain ⟨oe, g, c⟩ := he
    have z4 : IsZip H4 z TI TO .ellipsis := s4 _ _ D.i2z.symm (s3.extBut _ _ D.TOz.symm (s2.extBut _ _ D.i1z.symm z1))
    have ez : e ≠ z := by
      rintro rfl
      rw [z4] at g
      cases g
      simp at c
    refine wpAny_setField_rec z4 (by simp) fun H5 _ s5 => ?_
    exact q H5 e (fun c o c1 c2 c3 c4 x => s5.extBut _ _ c1 (s4 _ _ c4 (s3.extBut _ _ c2 (s2.extBut _ _ c3 (s1.extBut _ _ c1 x))))) ⟨oe, s5.extBut _ _ ez g, c⟩
/-- the same, as a loop asks -/
theorem pyNextZ_item {z TI TO i j l m : Addr} {ki kj : Nat} {xs ys : Array Value} {x y a b : Value} {Q : Option Value → Shared → Prop} (D : ZipApart z TI TO i j l m)
    (hz : IsZip s.heap z TI TO .none) (hI : IsPair s.heap TI (.ref i) (.ref j)) (hO : IsPair s.heap TO a b) (hi : s.heap.IsTupleIter i l ki) (hj : s.heap.IsTupleIter j m kj) (hl : IsTup s.heap l xs) (hm : IsTup s.heap m ys)
    (hx : xs[ki]? = some x) (hy : ys[kj]? = some y)
    (q : ∀ h', IsZip h' z TI TO (rawInt s.heap.objs.size) → IsPair h' TO x y → h'.IsTupleIter i l (ki + 1) → h'.IsTupleIter j m (kj + 1) → IsPair h' s.heap.objs.size x y → h'.objs.size = s.heap.objs.size + 1 →
      (∀ c o, c ≠ z → c ≠ TO → c ≠ i → c ≠ j → s.heap.get? c = some o → h'.get? c = some o) → Q (some (.ref s.heap.objs.size)) { s with heap := h' }) :
    wpAny (model prog w) A (pyNext (.ref z)) Q E s := by
  have ty : s.TypeIs (.ref z) "zip" := ⟨_, hz, rfl⟩
  delta pyNext
  apply wpAny_bind
  apply wpAny_attempt
  apply wpAny_callSpecial?_slot (name := Str.ofString "__next__") ty F.slot_zip_next
  refine wpAny_call_entry F.slot_zip_next ty F.entry_zip_next ?w (F.args_zip_next_1 _)
  case w => exact zipT_item D hz hI hO hi hj hl hm hx hy fun h' a1 a2 a3 a4 a5 a6 a7 => wpAny_pure (q h' a1 a2 a3 a4 a5 a6 a7)
theorem pyNextZ_end {z TI TO i j l m : Addr} {ki kj : Nat} {xs ys : Array Value} {a b : Value} {Q : Option Value → Shared → Prop} (h0 : A.handled = none) (D : ZipApart z TI TO i j l m)
    (hz : IsZip s.heap z TI TO .none) (hI : IsPair s.heap TI (.ref i) (.ref j)) (hO : IsPair s.heap TO a b) (hi : s.heap.IsTupleIter i l ki) (hj : s.heap.IsTupleIter j m kj) (hl : IsTup s.heap l xs) (hm : IsTup s.heap m ys)
    (hn : xs[ki]? = none ∨ ys[kj]? = none)
    (q : ∀ h', (∀ c o, c ≠ z → c ≠ TO → c ≠ i → c ≠ j → s.heap.get? c = some o → h'.get? c = some o) → Q none { s with heap := h' }) : wpAny (model prog w) A (pyNext (.ref z)) Q E s := by
  have ty : s.TypeIs (.ref z) "zip" := ⟨_, hz, rfl⟩
  delta pyNext
  apply wpAny_bind
  apply wpAny_attempt
  apply wpAny_callSpecial?_slot (name := Str.ofString "__next__") ty F.slot_zip_next
  refine wpAny_call_entry F.slot_zip_next ty F.entry_zip_next ?w (F.args_zip_next_1 _)
  case w =>
    refine zipT_end h0 D hz hI hO hi hj hl hm hn fun h' e k he => ?_
    obtain ⟨o, g, c⟩ := he
    apply wpAny_bind
    refine wpAny_isInstance (T := "StopIteration") (b := true) ⟨o, g, c⟩ isSubtype_stop ?_
    exact wpAny_pure (q _ k)
/-! ### zip called -/
def tIt (l : Addr) : Obj := { cls := .type "tuple_iterator", data := .fields #[.ref l, .int 0 0] }
def zp2 (h : Heap) (l m : Addr) : Heap := (h.push (tIt l)).push (tIt m)
def zp3 (h : Heap) (l m : Addr) : Heap := (zp2 h l m).push { cls := .type "tuple", data := .seq #[.ref h.objs.size, .ref (h.push (tIt l)).objs.size] }
def zp4 (h : Heap) (l m : Addr) : Heap := (zp3 h l m).push { cls := .type "tuple", data := .seq #[.none, .none] }
def zp5 (h : Heap) (l m : Addr) : Heap := (zp4 h l m).push { cls := .type "zip", data := .fields #[.none, .bool false, .bool false, .ref (zp2 h l m).objs.size, .ref (zp3 h l m).objs.size] }
theorem zs2 (h : Heap) (l m : Addr) : (zp2 h l m).objs.size = h.objs.size + 2 := by unfold zp2; rw [Heap.size_push, Heap.size_push]
theorem zs3 (h : Heap) (l m : Addr) : (zp3 h l m).objs.size = h.objs.size + 3 := by unfold zp3; rw [Heap.size_push, zs2]
theorem zs4 (h : Heap) (l m : Addr) : (zp4 h l m).objs.size = h.objs.size + 4 := by unfold zp4; rw [Heap.size_push, zs3]
theorem zs5 (h : Heap) (l m : Addr) : (zp5 h l m).objs.size = h.objs.size + 5 := by unfold zp5; rw [Heap.size_push, zs4]
theorem zipT_new (l m : Addr) (xs ys : Array Value) :
    Meets (Builtin.«zip.__new__» ⟨[.type "zip", .ref l, .ref m], []⟩) (fun _ R s => s.heap.IsTuple l xs ∧ s.heap.IsTuple m ys ∧ R (.ok (.ret (.ref (zp4 s.heap l m).objs.size))) { s with heap := zp5 s.heap l m }) :=
  .of_wp fun prog w A R s h => by
    obtain ⟨hp, g, d, tk, os⟩ := s; obtain ⟨hl, hm, h⟩ := h
    have f := sub_zip
    have e1 : Heap.IsTuple (Shared.heap ⟨hp, g, d, tk, os⟩) l xs := hl
    have e2 : Heap.IsTuple (Shared.heap ⟨hp.push { cls := .type "tuple_iterator", data := .fields #[.ref l, .int 0 0] }, g, d, tk, os⟩) m ys := Heap.IsTuple.push hm _
    wp_walk using wpAny_pyIter_tuple e1, wpAny_pyIter_tuple e2
    exact ⟨_, rfl, h⟩
theorem call_zipT {l m : Addr} {xs ys : Array Value} {Q : Value → Shared → Prop} (hl : s.heap.IsTuple l xs) (hm : s.heap.IsTuple m ys)
    (q : ∀ h', IsZip h' (s.heap.objs.size + 4) (s.heap.objs.size + 2) (s.heap.objs.size + 3) .none → IsPair h' (s.heap.objs.size + 2) (.ref s.heap.objs.size) (.ref (s.heap.objs.size + 1)) → IsPair h' (s.heap.objs.size + 3) .none .none →
      h'.IsTupleIter s.heap.objs.size l 0 → h'.IsTupleIter (s.heap.objs.size + 1) m 0 → h'.objs.size = s.heap.objs.size + 5 → (∀ c o, s.heap.get? c = some o → h'.get? c = some o) → Q (.ref (s.heap.objs.size + 4)) { s with heap := h' }) :
    wpAny (model prog w) A (call (.type "zip") [.ref l, .ref m]) Q E s := by
  have p4 : ∀ {c : Addr} {o : Obj}, (zp4 s.heap l m).get? c = some o → (zp5 s.heap l m).get? c = some o := fun e => Heap.get?_push_of_some _ e
  have p3 : ∀ {c : Addr} {o : Obj}, (zp3 s.heap l m).get? c = some o → (zp5 s.heap l m).get? c = some o := fun e => p4 (Heap.get?_push_of_some _ e)
  have p2 : ∀ {c : Addr} {o : Obj}, (zp2 s.heap l m).get? c = some o → (zp5 s.heap l m).get? c = some o := fun e => p3 (Heap.get?_push_of_some _ e)
  have p1 : ∀ {c : Addr} {o : Obj}, (s.heap.push (tIt l)).get? c = some o → (zp5 s.heap l m).get? c = some o := fun e => p2 (Heap.get?_push_of_some _ e)
  have w1 : (s.heap.push (tIt l)).objs.size = s.heap.objs.size + 1 := Heap.size_push ..
  have g5 : (zp5 s.heap l m).get? (zp4 s.heap l m).objs.size = some _ := Heap.get?_push_size _ rfl
  have g4 : (zp5 s.heap l m).get? (zp3 s.heap l m).objs.size = some _ := p4 (Heap.get?_push_size _ rfl)
  have g3 : (zp5 s.heap l m).get? (zp2 s.heap l m).objs.size = some _ := p3 (Heap.get?_push_size _ rfl)
  have g2 : (zp5 s.heap l m).get? (s.heap.push (tIt l)).objs.size = some (tIt m) := p2 (Heap.get?_push_size _ rfl)
  have g1 : (zp5 s.heap l m).get? s.heap.objs.size = some (tIt l) := p1 (Heap.get?_push_size _ rfl)
  refine callType_new F.called_zip (by decide) (F.typeCall_zip_2 _ _) (F.newCall_zip_2 _ _) (fun obj => F.args_object_init_3 obj _ _) F.entry_zip_new (zipT_new l m xs ys) ⟨hl, hm, ?_⟩
  show _ ∧ _
  rw [zs2, zs3, zs4] at g5
  rw [w1, zs2] at g3
  rw [zs3] at g4
  rw [w1] at g2
  rw [zs4]
  refine ⟨⟨_, g5, rfl⟩, q _ g5 g3 g4 ⟨_, g1, rfl, rfl⟩ ⟨_, g2, rfl, rfl⟩ (zs5 ..) fun c o x => p1 (Heap.get?_push_of_some _ x)⟩
end
end D3

namespace D3
open PySem PySem.Spec PyProof.Rows L2
section
variable {X : Cx} {pins : List (Addr × Obj)} {σ : L2.St} {H : Hp} {s : Shared} {h' : Heap}
/-- records of ours have turned, a tuple has been laid -/
theorem inv_pair {t' : Nat} {its : List Addr} {n : Addr} {xs : List V} (I : Inv X pins σ H s) (k : ∀ b o, b ∉ its → s.heap.get? b = some o → h'.get? b = some o) (hf : ∀ b ∈ its, FpOk X pins H b)
    (hn : s.heap.objs.size ≤ n) (new : ∃ us, Vals xs us ∧ PlainTp h' n us.toArray) (hz : xs.length ≤ sizeLine) : Inv X pins σ (upd H n (.tup xs)) { s with heap := h', toks := t' } := by
  have fr : H n = none := I.hok.fresh hn
  have lt : ∀ {b o}, s.heap.get? b = some o → b ≠ n := fun e z => absurd (Heap.lt_size e) (by rw [z]; exact Nat.not_lt.mpr hn)
  have nb : ∀ {b u}, H b = some u → b ≠ n := fun e z => by rw [z, fr] at e; cases e
  have ni : ∀ {b u}, H b = some u → b ∉ its := fun e z => by rw [(hf _ z).1] at e; cases e
  refine I.call (g' := s.gens) (d' := s.drawn) (ch := its) ⟨fun b o e _ _ hx => k b o hx e, fun b o e _ _ hx => ⟨o.slots, k b o hx e⟩, fun b o e h0 _ => by rw [upd_ne (lt e)]; exact h0, fun b o e hx => ⟨o, k b o hx e⟩,
    fun b u e => by rw [upd_ne (nb e)]; exact e, fun b u v e => by rw [upd_ne (nb e)]; exact e, fun b u e => ⟨#[], by rw [upd_ne (nb e), e]; simp⟩⟩ (fun b u e => ?_) I.bare fun b hb => ?_
  · by_cases hb : b = n
    · subst hb
      rw [upd_same] at e
      cases e
      exact ⟨hz, new⟩
    · rw [upd_ne hb] at e
      refine (I.hok b u e).stay (fun c v hc q => k c v ?_ q) (fun c q => ?_) fun c v q => ?_
      · rcases hc with z | z
        · rw [z]; exact ni e
        · exact ni z
      · rw [upd_ne (nb q)]; exact q
      · rw [upd_ne (nb q)]; exact q
  · obtain ⟨f0, f1, f2, f3, f4, f5⟩ := hf b hb
    exact ⟨f3, f1, f4, f5⟩
theorem inv_turned {t' : Nat} {its : List Addr} (I : Inv X pins σ H s) (k : ∀ b o, b ∉ its → s.heap.get? b = some o → h'.get? b = some o) (hf : ∀ b ∈ its, FpOk X pins H b) : Inv X pins σ H { s with heap := h', toks := t' } := by
  have ni : ∀ {b u}, H b = some u → b ∉ its := fun e z => by rw [(hf _ z).1] at e; cases e
  refine I.call (g' := s.gens) (d' := s.drawn) (ch := its) ⟨fun b o e _ _ hx => k b o hx e, fun b o e _ _ hx => ⟨o.slots, k b o hx e⟩, fun b o e h0 _ => h0, fun b o e hx => ⟨o, k b o hx e⟩,
    fun b u e => e, fun b u v e => e, fun b u e => ⟨#[], by rw [e]; simp⟩⟩ (fun b u e => ?_) I.bare fun b hb => ?_
  · refine (I.hok b u e).stay (fun c v hc q => k c v ?_ q) (fun _ q => q) fun _ _ q => q
    rcases hc with z | z
    · rw [z]; exact ni e
    · exact ni z
  · obtain ⟨f0, f1, f2, f3, f4, f5⟩ := hf b hb
    exact ⟨f3, f1, f4, f5⟩
/-- pairs of two tuples' items, each a new tuple -/
def Itz (K : PySem.W.Frag) (a b : Addr) : It :=
  ⟨fun i H => ∃ xs ys x y, SqT K H a xs ∧ SqT K H b ys ∧ xs[i]? = some x ∧ ys[i]? = some y,
   fun i H v H' => ∃ p x y, v = .ref p ∧ H p = none ∧ H' = upd H p (.tup [x, y]) ∧ (∀ xs, SqT K H a xs → xs[i]? = some x) ∧ ∀ ys, SqT K H b ys → ys[i]? = some y,
   fun i H => ∃ xs ys, SqT K H a xs ∧ SqT K H b ys ∧ (xs.length ≤ i ∨ ys.length ≤ i)⟩
theorem turn_zip {P : Program} {w : World} {K : PySem.W.Frag} {elts : List Expr} {cx} {pos : Pos} (z TI TO i j l m : Addr) (D : ZipApart z TI TO i j l m) :
    Turn P w K (.Tuple elts cx pos) (Itz K l m) [z, TI, TO, i, j] z (fun k h => IsZip h z TI TO .none ∧ IsPair h TI (.ref i) (.ref j) ∧ (∃ a b, IsPair h TO a b) ∧ h.IsTupleIter i l k ∧ h.IsTupleIter j m k) where
  mem := by simp
  obj := fun k h st b hb => by
    obtain ⟨hz, hI, ⟨a, c, hO⟩, hi, hj⟩ := st
    simp only [List.mem_cons, List.mem_nil_iff, or_false] at hb
    rcases hb with rfl | rfl | rfl | rfl | rfl
    · exact ⟨_, hz, fun v e => by cases e⟩
    · exact ⟨_, hI, fun v e => by cases e⟩
    · exact ⟨_, hO, fun v e => by cases e⟩
    · obtain ⟨o, e, _, d⟩ := hi
      exact ⟨o, e, fun v q => by rw [d] at q; cases q⟩
    · obtain ⟨o, e, _, d⟩ := hj
      exact ⟨o, e, fun v q => by rw [d] at q; cases q⟩
  keep := fun k h h' st q => by
    obtain ⟨hz, hI, ⟨a, c, hO⟩, hi, hj⟩ := st
    exact ⟨q z (by simp) _ hz, q TI (by simp) _ hI, ⟨a, c, q TO (by simp) _ hO⟩, hi.at fun o e => q i (by simp) o e, hj.at fun o e => q j (by simp) o e⟩
  item := by
    intro X hP hw hK hc k pins s σ H E I hf st hg
    subst hP hw hK
    obtain ⟨hz, hI, ⟨a, c, hO⟩, hi, hj⟩ := st
    obtain ⟨xs, ys, x, y, ql, qm, hx, hy⟩ := hg
    obtain ⟨us, r1, p1, _⟩ := I.tuple ql
    obtain ⟨vs, r2, p2, _⟩ := I.tuple qm
    obtain ⟨u, hu, ru⟩ := r1.get hx
    obtain ⟨v, hv, rv⟩ := r2.get hy
    refine pyNextZ_item D hz hI hO hi hj p1 p2 (x := u) (y := v) (by simpa using hu) (by simpa using hv) fun h' a1 a2 a3 a4 a5 a6 a7 => ?_
    refine ⟨_, rfl, wpAny_letOwnedTupleGo_zip (s := { s with heap := h' }) a1 fun h2 b1 b2 => ?_⟩
    have zn : s.heap.objs.size ≠ z := fun q => absurd (Heap.lt_size hz) (by rw [← q]; exact Nat.lt_irrefl _)
    have up : ∀ b o, b ∉ [z, TI, TO, i, j] → s.heap.get? b = some o → h2.get? b = some o := fun b o hb e => by
      simp only [List.mem_cons, List.mem_nil_iff, or_false, not_or] at hb
      exact b2.extBut _ _ hb.1 (a7 b o hb.1 hb.2.2.1 hb.2.2.2.1 hb.2.2.2.2 e)
    have I2 := inv_pair (t' := s.toks) (xs := [x, y]) I up hf (Nat.le_refl _) ⟨[u, v], .cons ru (.cons rv .nil), ⟨_, b2.extBut _ _ zn a5, rfl, rfl, _, rfl⟩⟩ (show 2 ≤ sizeLine by decide +kernel)
    refine ⟨.ref s.heap.objs.size, _, I2, rfl, ⟨_, x, y, rfl, I.hok.fresh (Nat.le_refl _), rfl, fun zs q => by rw [I.tuple_inj q ql]; exact hx, fun zs q => by rw [I.tuple_inj q qm]; exact hy⟩, ?_, fun b hb => ?_⟩
    · exact ⟨b1, b2.extBut _ _ D.TIz (a7 _ _ D.TIz D.TITO D.TIi1 D.TIi2 hI), ⟨_, _, b2.extBut _ _ D.TOz a2⟩, a3.extBut b2.extBut D.i1z, a4.extBut b2.extBut D.i2z⟩
    · have hb0 := hb
      obtain ⟨o, e, _⟩ : ∃ o, s.heap.get? b = some o ∧ True := by
        simp only [List.mem_cons, List.mem_nil_iff, or_false] at hb
        rcases hb with rfl | rfl | rfl | rfl | rfl
        · exact ⟨_, hz, trivial⟩
        · exact ⟨_, hI, trivial⟩
        · exact ⟨_, hO, trivial⟩
        · obtain ⟨o, e, _⟩ := hi; exact ⟨o, e, trivial⟩
        · obtain ⟨o, e, _⟩ := hj; exact ⟨o, e, trivial⟩
      rw [upd_ne fun q => absurd (Heap.lt_size e) (by rw [q]; exact Nat.lt_irrefl _)]
      exact (hf b hb0).1
  done := by
    intro X hP hw hK hc k pins s σ H E I hf st hg
    subst hP hw hK
    obtain ⟨hz, hI, ⟨a, c, hO⟩, hi, hj⟩ := st
    obtain ⟨xs, ys, ql, qm, hn⟩ := hg
    obtain ⟨us, r1, p1, _⟩ := I.tuple ql
    obtain ⟨vs, r2, p2, _⟩ := I.tuple qm
    have e1 := r1.length
    have e2 := r2.length
    refine pyNextZ_end (I.ok.hd hc) D hz hI hO hi hj p1 p2 (hn.imp (fun q => by simp; omega) fun q => by simp; omega) fun h' a7 => ⟨rfl, ?_⟩
    exact inv_turned (t' := s.toks) I (fun b o hb e => by
      simp only [List.mem_cons, List.mem_nil_iff, or_false, not_or] at hb
      exact a7 b o hb.1 hb.2.2.1 hb.2.2.2.1 hb.2.2.2.2 e) hf
  self := fun _ _ _ _ _ st h => wpAny_pyIter_zip st.1 h
end
end D3

namespace D3
open PySem PySem.Spec PyProof.Rows L2
section
variable {C : Cw} {X : Cx} {tg e : Expr} {g : Rho → Res} {gs : Rho → ResL} {pos p : Pos}
theorem z_apart (n l m : Nat) (hl : l < n) (hm : m < n) : ZipApart (n + 4) (n + 2) (n + 3) n (n + 1) l m := by
  constructor <;> (refine fun (q : @Eq Nat _ _) => ?_; omega)
theorem boot_zip : bootBuiltins ("zip" : Str) = some (.type "zip") := by first | rfl | decide +kernel | kernel_rfl
def iZip (K : PySem.W.Frag) (ta : TA) : TI := fun σ H R => ta σ H fun vs H1 => ∃ a b xs ys, vs = [.ref a, .ref b] ∧ SqT K H1 a xs ∧ SqT K H1 b ys ∧ R (Itz K a b) H1
theorem pi_zip {a b : Expr} {ta : TA} {elts : List Expr} {cx} {pp : Pos} (hg : Gl X "zip") (hm : X.mg "zip" = none) (ha : PA X [a, b] ta) (hs : starEach [a, b] X.env = [(false, eval a X.env), (false, eval b X.env)] := by rfl) (hs2 : starEach [b] X.env = [(false, eval b X.env)] := by rfl) :
    PI X (.Tuple elts cx pp) (.Call (.Name "zip" p) [a, b] [] pos) (iZip X.K ta) := by
  intro pins s σ H R I h
  refine Call_ (ld_blt I hg hm boot_zip (PyProof.Rows.callWith_type1 (thn (ha pos pins s σ H _ I h) fun us s1 q1 => ?_) (by rw [hs, hs2]) (by rw [hs2]; rfl)))
  obtain ⟨vs, H1, I1, r1, l, m, xs, ys, rfl, ql, qm, q⟩ := q1
  obtain ⟨ls, _, p1, _⟩ := I1.tuple ql
  obtain ⟨ms, _, p2, _⟩ := I1.tuple qm
  have ll : l < s1.heap.objs.size := by obtain ⟨o, e, _⟩ := id p1; exact Heap.lt_size e
  have ml : m < s1.heap.objs.size := by obtain ⟨o, e, _⟩ := id p2; exact Heap.lt_size e
  cases r1 with
  | cons r rr =>
    cases rr with
    | cons r' rr =>
      cases rr
      cases r
      cases r'
      refine call_zipT (show s1.heap.IsTuple l ls.toArray from p1) (show s1.heap.IsTuple m ms.toArray from p2) fun h' a1 a2 a3 a4 a5 a6 a7 => ?_
      refine wpAny_pyIter_zip (s := { s1 with heap := h' }) a1 ?_
      have I2 : Inv X pins σ H1 { s1 with heap := h' } := I1.kept (t' := s1.toks) a7
      have D := z_apart s1.heap.objs.size l m ll ml
      have fb : ∀ b : Addr, s1.heap.objs.size ≤ b → FpOk X pins H1 b := fun b hb => I1.fpOk hb (I1.hok.fresh hb)
      generalize s1.heap.objs.size = n at *
      refine ⟨n + 4, [n + 4, n + 2, n + 3, n, n + 1], _, _, H1, rfl, I2, turn_zip (n + 4) (n + 2) (n + 3) n (n + 1) l m D, ⟨a1, a2, ⟨_, _, a3⟩, a4, a5⟩, fun b hb => ?_, q⟩
      simp only [List.mem_cons, List.mem_nil_iff, or_false] at hb
      rcases hb with rfl | rfl | rfl | rfl | rfl
      · exact fb _ (Nat.le_add_right n 4)
      · exact fb _ (Nat.le_add_right n 2)
      · exact fb _ (Nat.le_add_right n 3)
      · exact fb _ (Nat.le_refl _)
      · exact fb _ (Nat.le_add_right n 1)
/-- the pairs -/
def zipD : List D → List D → List D
  | d :: ds, e :: es => .tup [d, e] :: zipD ds es
  | _, _ => []
theorem zipD_len : ∀ {ds es : List D}, (zipD ds es).length = min ds.length es.length
  | [], es => by simp [zipD]
  | d :: ds, [] => by simp [zipD]
  | d :: ds, e :: es => by simp only [zipD, List.length_cons, zipD_len]; omega
theorem zipD_get : ∀ {ds es : List D} {i : Nat} {d e : D}, ds[i]? = some d → es[i]? = some e → (zipD ds es)[i]? = some (.tup [d, e])
  | [], _, _, _, _, h, _ => by simp at h
  | _ :: _, [], _, _, _, _, h => by simp at h
  | x :: ds, y :: es, 0, d, e, h, h' => by simp at h h'; subst h; subst h'; rfl
  | x :: ds, y :: es, i + 1, d, e, h, h' => by
    have := zipD_get (ds := ds) (es := es) (i := i) (by simpa using h) (by simpa using h')
    simpa [zipD] using this
theorem iterOf_zip {K : PySem.W.Frag} {F : Hp} {a b : Addr} {ds es : List D} {xs ys : List V} (qa : SqT K F a xs) (qb : SqT K F b ys) (ra : RepL K F ds xs) (rb : RepL K F es ys) : IterOf K F (Itz K a b) (zipD ds es) where
  go := fun i H s hi => by
    rw [zipD_len] at hi
    have h1 : i < xs.length := by rw [ra.length]; omega
    have h2 : i < ys.length := by rw [rb.length]; omega
    exact ⟨xs, ys, xs[i], ys[i], Same.seqT s qa, Same.seqT s qb, by simp [h1], by simp [h2]⟩
  stop := fun i H s hi => by
    rw [zipD_len] at hi
    refine ⟨xs, ys, Same.seqT s qa, Same.seqT s qb, ?_⟩
    rw [ra.length, rb.length]; omega
  yld := fun i Fc H x H' s1 s2 hi y => by
    rw [zipD_len] at hi
    obtain ⟨p, u, v, rfl, hp, rfl, hx, hy⟩ := y
    have ex := hx xs (Same.seqT (s1.trans s2) qa)
    have ey := hy ys (Same.seqT (s1.trans s2) qb)
    have h1 : i < ds.length := by omega
    have h2 : i < es.length := by omega
    obtain ⟨u', e1, r1⟩ := ra.get' (List.getElem?_eq_getElem h1)
    obtain ⟨v', e2, r2⟩ := rb.get' (List.getElem?_eq_getElem h2)
    rw [ex] at e1; cases e1
    rw [ey] at e2; cases e2
    refine ⟨_, _, zipD_get (List.getElem?_eq_getElem h1) (List.getElem?_eq_getElem h2), Step.laid (.tup [u, v]) s2 hp, ?_⟩
    refine RepV.tup_of (s2.free hp) ?_
    simp only [RepL]
    exact ⟨u, [v], rfl, r1.mono s1 _ _, v, [], rfl, r2.mono s1 _ _, rfl⟩
theorem rp_tupF {K : PySem.W.Frag} {F H : Hp} {m : Md} {ds : List D} {v : V} (h : Rp K F H m (.tup ds) v) : ∃ a xs, v = .ref a ∧ SqT K F a xs ∧ RepL K F ds xs := by
  cases m with
  | fz => exact (show RepV K F (.tup ds) v from h) |> fun h => by simp only [RepV] at h; exact h
  | fr => obtain ⟨_, _, _, q⟩ := h; exact q.elim
  | bo => obtain ⟨_, _, _, q⟩ := h; exact q.elim
def zipR (r : ResL) : Res := r.thn fun xs => match xs with
  | [(_, .tup ds), (_, .tup es)] => .ok .fz (.lst (zipD ds es))
  | _ => .stuck
theorem piv_zip {a b : Expr} {elts : List Expr} {cx} {pp : Pos} (hg : Gl X "zip") (hm : X.mg "zip" = none) (ha : PAv C X [a, b] gs) (hs : starEach [a, b] X.env = [(false, eval a X.env), (false, eval b X.env)] := by rfl) (hs2 : starEach [b] X.env = [(false, eval b X.env)] := by rfl) :
    PIv C X (.Tuple elts cx pp) (.Call (.Name "zip" p) [a, b] [] pos) (fun ρ => zipR (gs ρ)) := by
  refine PI.imp (pi_zip hg hm ha hs hs2) fun σ H R q => ?_
  obtain ⟨ρ, F, RS, w⟩ := q
  dsimp only at w
  unfold iZip
  refine ⟨ρ, F, RS, ?_⟩
  cases er : gs ρ with
  | stuck => rw [er] at w; exact w
  | exc c => rw [er] at w; exact w
  | ok xs =>
    rw [er] at w
    intro vs F' H' st rp
    unfold zipR at w
    rw [ResL.thn_ok] at w
    split at w
    · obtain ⟨v, u, rfl, r, r'⟩ := rp.two
      obtain ⟨a1, x1, rfl, q1, l1⟩ := rp_tupF r
      obtain ⟨a2, x2, rfl, q2, l2⟩ := rp_tupF r'
      exact ⟨a1, a2, x1, x2, rfl, Same.seqT st.sub q1, Same.seqT st.sub q2, w _ F' H' st (iterOf_zip q1 q2 l1 l2)⟩
    · exact w.elim
end
end D3

namespace D3
open PySem PySem.Spec PyProof.Rows L2
open PySem.AutoSeq1 (wpAny_loadPart')
/-! ### enumerate of a list, of a tuple -/
theorem draws_tuple {prog : Program} {w : World} {A : Around} (hh : A.handled = none) (it t : Addr) (hne : t ≠ it) (items : Array Value) :
    Draws prog w A it [it, t] items.size (fun i v => items[i]? = some v) (fun i h => h.IsTupleIter it t i ∧ IsTup h t items) where
  live := fun _ _ st => let ⟨o, ho, _⟩ := st.1; ⟨o, ho⟩
  frame := fun _ _ _ st hk => ⟨st.1.at fun o e => hk it (by simp) o e, tup_at st.2 fun o e => hk t (by simp) o e⟩
  item := fun i s Q E hi st hQ => by
    refine nextT_item st.1 st.2 (x := items[i]) (by simp [hi]) fun h' hit' hs' => ?_
    exact hQ _ h' s.toks (by simp [hi]) ⟨hit', tup_at st.2 fun o e => hs'.extBut _ o hne e⟩ hs'
  done := fun s Q E st hE => nextT_end hh st.1 st.2 (by simp) hE
theorem meets_enumT (l : Addr) (items : Array Value) :
    Meets (Builtin.«enumerate.__new__» ⟨[.type "enumerate", .ref l], []⟩) (fun _ R s => s.heap.IsTuple l items ∧
      R (.ok (.ret (.ref (s.heap.push { cls := .type "tuple_iterator", data := .fields #[.ref l, .int 0 0] }).objs.size)))
        { s with heap := (s.heap.push { cls := .type "tuple_iterator", data := .fields #[.ref l, .int 0 0] }).push { cls := .type "enumerate", data := .fields #[.none, .bool false, .ref s.heap.objs.size, rawInt 0, .none, .none] } }) :=
  .of_wp fun prog w A R s h => by
    obtain ⟨hp, g, d, tk, os⟩ := s; obtain ⟨hL, h⟩ := h
    have hsub := sub_enumerate
    have hL : Heap.IsTuple (Shared.heap ⟨hp, g, d, tk, os⟩) l items := hL
    obtain ⟨o, ho, hc, n, hd⟩ := id hL
    wp_walk using wpAny_loadPart' ho
    refine wpAny_stack_any fun st => wpAny_pure ?_
    split
    · rename_i c _ _ _ _ _
      cases (c == Value.type "enumerate")
      · wp_walk using wpAny_loadPart' ho, wpAny_pyIter_tuple hL
        exact ⟨_, rfl, h⟩
      · wp_walk using wpAny_loadPart' ho, wpAny_pyIter_tuple hL
        exact ⟨_, rfl, h⟩
    · wp_walk using wpAny_loadPart' ho, wpAny_pyIter_tuple hL
      exact ⟨_, rfl, h⟩
section
variable {prog : Program} {w : World} {A : Around} {E : Value → Shared → Prop} {s : Shared}
theorem call_enumT {a : Addr} {us : Array Value} {Q : Value → Shared → Prop} (ha : s.heap.IsTuple a us)
    (q : ∀ g, IsEnum g (s.heap.objs.size + 1) s.heap.objs.size 0 .none → g.IsTupleIter s.heap.objs.size a 0 → (∀ c u, s.heap.get? c = some u → g.get? c = some u) → Q (.ref (s.heap.objs.size + 1)) { s with heap := g }) :
    wpAny (model prog w) A (call (.type "enumerate") [.ref a]) Q E s := by
  let i0 : Obj := { cls := .type "tuple_iterator", data := .fields #[.ref a, .int 0 0] }
  let e0 : Obj := { cls := .type "enumerate", data := .fields #[.none, .bool false, .ref s.heap.objs.size, rawInt 0, .none, .none] }
  have z1 : (s.heap.push i0).objs.size = s.heap.objs.size + 1 := Heap.size_push ..
  have g1 : ((s.heap.push i0).push e0).get? (s.heap.objs.size + 1) = some e0 := by rw [← z1]; exact Heap.get?_push_size _ rfl
  have g0 : ((s.heap.push i0).push e0).get? s.heap.objs.size = some i0 := Heap.get?_push_of_some _ (Heap.get?_push_size _ rfl)
  have up : ∀ c u, s.heap.get? c = some u → ((s.heap.push i0).push e0).get? c = some u := fun c u z => Heap.get?_push_of_some _ (Heap.get?_push_of_some _ z)
  have fin : (∃ o, ((s.heap.push i0).push e0).get? (s.heap.objs.size + 1) = some o ∧ o.cls = .type "enumerate") ∧ Q (.ref (s.heap.objs.size + 1)) { s with heap := (s.heap.push i0).push e0 } := ⟨⟨e0, g1, rfl⟩, q _ g1 ⟨i0, g0, rfl, rfl⟩ up⟩
  rw [← z1] at fin
  exact callType_new F.called_enumerate (by decide) (F.typeCall_enumerate_1 _) (F.newCall_enumerate_1 _) (fun o => F.args_object_init_2 o _) F.entry_enumerate_new (meets_enumT a us) ⟨ha, fin⟩
end
/-- pairs of a place and an item, each a new tuple; Sq: how the items lie -/
def Ite (Sq : Hp → List V → Prop) : It :=
  ⟨fun i H => ∃ xs x, Sq H xs ∧ xs[i]? = some x,
   fun i H v H' => ∃ p x, v = .ref p ∧ H p = none ∧ H' = upd H p (.tup [.int i, x]) ∧ ∀ xs, Sq H xs → xs[i]? = some x,
   fun i H => ∃ xs, Sq H xs ∧ xs.length ≤ i⟩
section
variable {P : Program} {w : World} {K : PySem.W.Frag} {elts : List Expr} {cx : Nat} {pos : Pos}
/-- one turn of enumerate, by what the iterator within draws -/
theorem turn_enumG {Sq : Hp → List V → Prop} (e it l : Addr) (hei : e ≠ it) (hel : e ≠ l) (hli : l ≠ it) (It' : Nat → Heap → Prop) (At : Heap → Array Value → Prop)
    (live : ∀ i h, It' i h → ∃ o, h.get? it = some o ∧ ∀ v, o.data ≠ .cell v) (keep : ∀ i h h', It' i h → (∀ o, h.get? it = some o → h'.get? it = some o) → It' i h')
    (dr : ∀ A : Around, A.handled = none → ∀ items : Array Value, Draws P w A it [it, l] items.size (fun i v => items[i]? = some v) (fun i h => It' i h ∧ At h items))
    (dn : ∀ (A : Around) (s : Shared) (items : Array Value) (k : Nat) (Q E : Value → Shared → Prop), A.handled = none → It' k s.heap → At s.heap items → items[k]? = none →
      (∀ h' x, Heap.ExtBut it s.heap h' → (∃ o, h'.get? x = some o ∧ o.cls = .type "StopIteration") → E (.ref x) { s with heap := h' }) → wpAny (model P w) A (Builtin.SmallTypes.nextOf (.ref it)) Q E s)
    (look : ∀ (X : Cx) (pins : List (Addr × Obj)) (s : Shared) (σ : L2.St) (H : Hp) (xs : List V), X.prog = P → X.w = w → X.K = K → Inv X pins σ H s → Sq H xs → ∃ us, Vals xs us ∧ At s.heap us.toArray)
    (inj : ∀ (X : Cx) (pins : List (Addr × Obj)) (s : Shared) (σ : L2.St) (H : Hp) (xs ys : List V), X.prog = P → X.w = w → X.K = K → Inv X pins σ H s → Sq H xs → Sq H ys → ys = xs) :
    Turn P w K (.Tuple elts cx pos) (Ite Sq) [e, it] e (fun k h => (∃ old, IsEnum h e it k old) ∧ It' k h) where
  mem := by simp
  obj := fun k h st b hb => by
    obtain ⟨⟨old, he⟩, hi⟩ := st
    simp only [List.mem_cons, List.mem_nil_iff, or_false] at hb
    rcases hb with rfl | rfl
    · exact ⟨_, he, fun v e => by cases e⟩
    · obtain ⟨o, e, d⟩ := live k h hi
      exact ⟨o, e, d⟩
  keep := fun k h h' st q => by
    obtain ⟨⟨old, he⟩, hi⟩ := st
    exact ⟨⟨old, q e (by simp) _ he⟩, keep k h h' hi fun o e => q it (by simp) o e⟩
  item := by
    intro X hP hw hK hc k pins s σ H E I hf st hg
    obtain ⟨⟨old, he⟩, hi⟩ := st
    obtain ⟨xs, x, ql, hx⟩ := hg
    obtain ⟨us, r1, p1⟩ := look X pins s σ H xs hP hw hK I ql
    obtain ⟨u, hu, ru⟩ := r1.get hx
    have hlt : k < us.toArray.size := by
      rw [List.size_toArray]
      exact (List.getElem?_eq_some_iff.mp hu).1
    refine wpAny_pyNext_enum_itemD (dr X.A.in1 (I.ok.hd hc) us.toArray) he ⟨hi, p1⟩ hlt hei (by simp [hei, hel]) fun x' h' tk hx' a1 a2 a3 a4 a5 => ?_
    have : x' = u := by
      rw [List.getElem?_toArray] at hx'
      rw [hu] at hx'
      exact (Option.some.inj hx').symm
    subst this
    refine ⟨_, rfl, wpAny_letOwnedTupleGo_enum (s := { s with heap := h', toks := tk + 1 }) a1 fun h2 b1 b2 => ?_⟩
    have en : s.heap.objs.size ≠ e := fun q => absurd (Heap.lt_size he) (by rw [← q]; exact Nat.lt_irrefl _)
    have up : ∀ b o, b ∉ [e, it] → s.heap.get? b = some o → h2.get? b = some o := fun b o hb z => by
      simp only [List.mem_cons, List.mem_nil_iff, or_false, not_or] at hb
      exact b2.extBut _ _ hb.1 (a5 b o hb.1 hb.2 z)
    have I2 := inv_pair (t' := tk + 1) (xs := [.int k, x]) I up hf (Nat.le_refl _) ⟨[.int k tk, x'], .cons ⟨tk, rfl⟩ (.cons ru .nil), ⟨_, b2.extBut _ _ en a3, rfl, rfl, _, rfl⟩⟩ (show 2 ≤ sizeLine by decide +kernel)
    refine ⟨.ref s.heap.objs.size, _, I2, rfl, ⟨_, x, rfl, I.hok.fresh (Nat.le_refl _), rfl, fun zs q => by rw [inj X pins s σ H xs zs hP hw hK I ql q]; exact hx⟩, ?_, fun b hb => ?_⟩
    · have ek : ((k : Int) + 1) = ((k + 1 : Nat) : Int) := by omega
      rw [ek] at b1
      exact ⟨⟨x', b1⟩, keep _ _ _ a2.1 fun o z => b2.extBut _ o hei.symm z⟩
    · have hb0 := hb
      obtain ⟨o, z⟩ : ∃ o, s.heap.get? b = some o := by
        simp only [List.mem_cons, List.mem_nil_iff, or_false] at hb
        rcases hb with rfl | rfl
        · exact ⟨_, he⟩
        · obtain ⟨o, z, _⟩ := live _ _ hi; exact ⟨o, z⟩
      rw [upd_ne fun q => absurd (Heap.lt_size z) (by rw [q]; exact Nat.lt_irrefl _)]
      exact (hf b hb0).1
  done := by
    intro X hP hw hK hc k pins s σ H E I hf st hg
    obtain ⟨⟨old, he⟩, hi⟩ := st
    obtain ⟨xs, ql, hn⟩ := hg
    obtain ⟨us, r1, p1⟩ := look X pins s σ H xs hP hw hK I ql
    have e1 := r1.length
    have te : s.TypeIs (.ref e) "enumerate" := ⟨_, he, rfl⟩
    delta pyNext
    apply wpAny_bind
    apply wpAny_attempt
    apply wpAny_callSpecial?_slot (name := Str.ofString "__next__") te F.slot_enumerate_next
    refine wpAny_call_entry F.slot_enumerate_next te F.entry_enumerate_next ?nx (F.args_enumerate_next_1 _)
    refine wpAny_bind (m := field (.ref e) 2) (wpAny_field he rfl (x := .ref it) rfl ?_)
    refine wpAny_bind (dn X.A.in1 s us.toArray k _ _ (I.ok.hd hc) hi p1 (by simp; omega) fun h' x he' hx' => ?_)
    obtain ⟨o, ho, hc'⟩ := hx'
    refine wpAny_bind (wpAny_isInstance (T := "StopIteration") (b := true) ⟨o, ho, hc'⟩ isSubtype_stop ?_)
    refine wpAny_pure ⟨rfl, inv_turned (t' := s.toks) I (fun b o hb z => he' b o (by
      simp only [List.mem_cons, List.mem_nil_iff, or_false, not_or] at hb
      exact hb.2) z) hf⟩
  self := fun _ _ _ _ _ st h => by
    obtain ⟨⟨old, he⟩, _⟩ := st
    exact wpAny_pyIter_enum he h
theorem turn_enumL (e it l : Addr) (hei : e ≠ it) (hel : e ≠ l) (hli : l ≠ it) : Turn P w K (.Tuple elts cx pos) (Ite fun H => SqL K H l) [e, it] e (fun k h => (∃ old, IsEnum h e it k old) ∧ h.IsListIter it l k) :=
  turn_enumG e it l hei hel hli (fun k h => h.IsListIter it l k) (fun h xs => h.IsList l xs) (fun i h st => by
      obtain ⟨o, e, _, d⟩ := st
      exact ⟨o, e, fun v q => by rw [d] at q; cases q⟩) (fun i h h' st k => st.at k) (fun A hA items => Draws.list hA it l hli items)
    (fun A s items k Q E hA st ha hx q => wpAny_nextOf_list_end hA st ha hx q)
    (fun X pins s σ H xs hP hw hK I q => by
      subst hK
      obtain ⟨us, r, p, _⟩ := I.list q
      exact ⟨us, r, p.isList⟩)
    (fun X pins s σ H xs ys hP hw hK I q q' => by subst hK; exact I.list_inj q' q)
theorem turn_enumT (e it l : Addr) (hei : e ≠ it) (hel : e ≠ l) (hli : l ≠ it) : Turn P w K (.Tuple elts cx pos) (Ite fun H => SqT K H l) [e, it] e (fun k h => (∃ old, IsEnum h e it k old) ∧ h.IsTupleIter it l k) :=
  turn_enumG e it l hei hel hli (fun k h => h.IsTupleIter it l k) (fun h xs => IsTup h l xs) (fun i h st => by
      obtain ⟨o, e, _, d⟩ := st
      exact ⟨o, e, fun v q => by rw [d] at q; cases q⟩) (fun i h h' st k => st.at k) (fun A hA items => draws_tuple hA it l hli items)
    (fun A s items k Q E hA st ha hx q => nextT_end hA st ha hx q)
    (fun X pins s σ H xs hP hw hK I q => by
      subst hK
      obtain ⟨us, r, p, _⟩ := I.tuple q
      exact ⟨us, r, p⟩)
    (fun X pins s σ H xs ys hP hw hK I q q' => by subst hK; exact I.tuple_inj q' q)
end
section
variable {C : Cw} {X : Cx} {tg e : Expr} {g : Rho → Res} {gs : Rho → ResL} {pos p : Pos}
theorem boot_enum : bootBuiltins ("enumerate" : Str) = some (.type "enumerate") := by first | rfl | decide +kernel | kernel_rfl
def iEnum (K : PySem.W.Frag) (ta : TA) : TI := fun σ H R => ta σ H fun vs H1 => ∃ a xs, vs = [.ref a] ∧ ((SqL K H1 a xs ∧ R (Ite fun H => SqL K H a) H1) ∨ (SqT K H1 a xs ∧ R (Ite fun H => SqT K H a) H1))
theorem pi_enum {a : Expr} {ta : TA} {elts : List Expr} {cx} {pp : Pos} (hg : Gl X "enumerate") (hm : X.mg "enumerate" = none) (ha : PA X [a] ta) (hs : starEach [a] X.env = [(false, eval a X.env)] := by rfl) :
    PI X (.Tuple elts cx pp) (.Call (.Name "enumerate" p) [a] [] pos) (iEnum X.K ta) := by
  intro pins s σ H R I h
  refine Call_ (ld_blt I hg hm boot_enum (PyProof.Rows.callWith_type1 (thn (ha pos pins s σ H _ I h) fun us s1 q1 => ?_) (by rw [hs]; rfl) (by rfl)))
  obtain ⟨vs, H1, I1, r1, l, xs, rfl, q⟩ := q1
  cases r1 with
  | cons r rr =>
    cases rr
    cases r
    have fb : ∀ b : Addr, s1.heap.objs.size ≤ b → FpOk X pins H1 b := fun b hb => I1.fpOk hb (I1.hok.fresh hb)
    have fin : ∀ b : Addr, b ∈ [s1.heap.objs.size + 1, s1.heap.objs.size] → FpOk X pins H1 b := fun b hb => by
      simp only [List.mem_cons, List.mem_nil_iff, or_false] at hb
      rcases hb with rfl | rfl
      · exact fb _ (Nat.le_succ _)
      · exact fb _ (Nat.le_refl _)
    rcases q with ⟨ql, q⟩ | ⟨ql, q⟩
    · obtain ⟨ls, _, p1, _⟩ := I1.list ql
      have ll : l < s1.heap.objs.size := by obtain ⟨o, n, e, _⟩ := id p1; exact Heap.lt_size e
      refine call_enumerate_list p1.isList fun h' a1 a2 a3 a4 => wpAny_pyIter_enum (s := { s1 with heap := h' }) a1 ?_
      exact ⟨_, [s1.heap.objs.size + 1, s1.heap.objs.size], _, _, H1, rfl, I1.kept (t' := s1.toks) a4, turn_enumL _ _ l (Nat.succ_ne_self _) (Nat.ne_of_gt (Nat.lt_succ_of_lt ll)) (Nat.ne_of_lt ll), ⟨⟨_, a1⟩, a2⟩, fin, q⟩
    · obtain ⟨ls, _, p1, _⟩ := I1.tuple ql
      have ll : l < s1.heap.objs.size := by obtain ⟨o, e, _⟩ := id p1; exact Heap.lt_size e
      refine call_enumT (show s1.heap.IsTuple l ls.toArray from p1) fun h' a1 a2 a4 => wpAny_pyIter_enum (s := { s1 with heap := h' }) a1 ?_
      exact ⟨_, [s1.heap.objs.size + 1, s1.heap.objs.size], _, _, H1, rfl, I1.kept (t' := s1.toks) a4, turn_enumT _ _ l (Nat.succ_ne_self _) (Nat.ne_of_gt (Nat.lt_succ_of_lt ll)) (Nat.ne_of_lt ll), ⟨⟨_, a1⟩, a2⟩, fin, q⟩
/-- the pairs -/
def enumD : Nat → List D → List D
  | _, [] => []
  | i, d :: ds => .tup [.int i, d] :: enumD (i + 1) ds
theorem enumD_len : ∀ {ds : List D} {i : Nat}, (enumD i ds).length = ds.length
  | [], _ => rfl
  | d :: ds, i => by simp only [enumD, List.length_cons, enumD_len]
theorem enumD_get : ∀ {ds : List D} {j i : Nat} {d : D}, ds[i]? = some d → (enumD j ds)[i]? = some (.tup [.int ((j + i : Nat) : Int), d])
  | [], _, _, _, h => by simp at h
  | x :: ds, j, 0, d, h => by simp at h; subst h; rfl
  | x :: ds, j, i + 1, d, h => by
    have := enumD_get (ds := ds) (j := j + 1) (i := i) (by simpa using h)
    have e : j + 1 + i = j + (i + 1) := by omega
    rw [e] at this
    simpa [enumD] using this
theorem iterOf_enum {K : PySem.W.Frag} {F : Hp} {Sq : Hp → List V → Prop} {ds : List D} {xs : List V} (qa : ∀ H, Same F H → Sq H xs) (ra : RepL K F ds xs) : IterOf K F (Ite Sq) (enumD 0 ds) where
  go := fun i H s hi => by
    rw [enumD_len] at hi
    have h1 : i < xs.length := by rw [ra.length]; omega
    exact ⟨xs, xs[i], qa H s, by simp [h1]⟩
  stop := fun i H s hi => by
    rw [enumD_len] at hi
    exact ⟨xs, qa H s, by rw [ra.length]; omega⟩
  yld := fun i Fc H x H' s1 s2 hi y => by
    rw [enumD_len] at hi
    obtain ⟨p, u, rfl, hp, rfl, hx⟩ := y
    have ex := hx xs (qa H (s1.trans s2))
    obtain ⟨u', e1, r1⟩ := ra.get' (List.getElem?_eq_getElem hi)
    rw [ex] at e1; cases e1
    refine ⟨_, _, enumD_get (List.getElem?_eq_getElem hi), Step.laid (.tup [.int i, u]) s2 hp, ?_⟩
    refine RepV.tup_of (s2.free hp) ?_
    simp only [RepL]
    exact ⟨.int i, [u], rfl, by simp only [RepV, Nat.zero_add], u, [], rfl, r1.mono s1 _ _, rfl⟩
def enumR (r : ResL) : Res := r.thn fun xs => match xs with
  | [(.fz, .lst ds)] => .ok .fz (.lst (enumD 0 ds))
  | [(.fz, .tup ds)] => .ok .fz (.lst (enumD 0 ds))
  | _ => .stuck
theorem piv_enum {a : Expr} {elts : List Expr} {cx} {pp : Pos} (hg : Gl X "enumerate") (hm : X.mg "enumerate" = none) (ha : PAv C X [a] gs) (hs : starEach [a] X.env = [(false, eval a X.env)] := by rfl) :
    PIv C X (.Tuple elts cx pp) (.Call (.Name "enumerate" p) [a] [] pos) (fun ρ => enumR (gs ρ)) := by
  refine PI.imp (pi_enum hg hm ha hs) fun σ H R q => ?_
  obtain ⟨ρ, F, RS, w⟩ := q
  dsimp only at w
  unfold iEnum
  refine ⟨ρ, F, RS, ?_⟩
  cases er : gs ρ with
  | stuck => rw [er] at w; exact w
  | exc c => rw [er] at w; exact w
  | ok xs =>
    rw [er] at w
    intro vs F' H' st rp
    unfold enumR at w
    rw [ResL.thn_ok] at w
    split at w
    · rename_i ds
      obtain ⟨v, rfl, r⟩ := rp.one
      have r : RepV X.K F' (.lst ds) v := r
      simp only [RepV] at r
      obtain ⟨a1, x1, rfl, q1, l1⟩ := r
      exact ⟨a1, x1, rfl, .inl ⟨st.sub.seq q1, w _ F' H' st (iterOf_enum (fun H s => s.seq q1) l1)⟩⟩
    · rename_i ds
      obtain ⟨v, rfl, r⟩ := rp.one
      have r : RepV X.K F' (.tup ds) v := r
      simp only [RepV] at r
      obtain ⟨a1, x1, rfl, q1, l1⟩ := r
      exact ⟨a1, x1, rfl, .inr ⟨Same.seqT st.sub q1, w _ F' H' st (iterOf_enum (fun H s => Same.seqT s q1) l1)⟩⟩
    · exact w.elim
end
end D3

namespace D3
open PySem PySem.Spec PySem.Calls PyProof.Rows L2 PySem.W
section
variable {prog : Program} {w : World} {A : Around} {E : Value → Shared → Prop} {s : Shared} {K : PySem.W.Frag} {x D : Addr} {ox : Obj} {od : Option Obj}
/-- an object of that class -/
def XAt (h : Heap) (x : Addr) (ox : Obj) (D : Addr) : Prop := h.get? x = some ox ∧ ox.cls = .ref D
theorem XAt.type {M : Model} {h : Heap} (I : XAt h x ox D) : Looks M h (typeOf (.ref x)) (.ref D) := I.2 ▸ (Looks.ld I.1).andThen .now
/-- what is known of a class of errors -/
structure XCls (K : PySem.W.Frag) (D : Addr) : Prop where
  ga : PySem.W.findIn K (.ref D) "__getattribute__" = some (some (.builtin "BaseException.__getattribute__"))
  gn : PySem.W.findIn K (.ref D) "__getattr__" = some none
  ca : PySem.W.findIn K (.ref D) "__class__" = some (some (.builtin "object.__class__"))
  bx : PySem.W.mroIn K D (.type "BaseException") = some true
  ob : PySem.W.mroIn K D (.type "object") = some true
  hn : PySem.W.specialIn K (.builtin "object.__class__") "__get__" = some (some (.builtin "getset_descriptor.__get__"))
  tk : PySem.W.takesIn K (.builtin "object.__class__") = some true
end
end D3

namespace D3
open PySem PySem.Spec PySem.Calls PyProof.Rows L2
/-! ### an error in flight -/
structure Fly (P : Program) (w : World) (outer : List Env) (H : Hp) (s : Shared) (H1 : Hp) (B hp : Heap) : Prop where
  un : Un (frs outer) [] H H1 s.heap hp
  ok : HOk P w H1 hp
  kb : ∀ b o, hp.get? b = some o → s.heap.get? b ≠ none → b ∉ frs outer → B.get? b = some o
  kh : ∀ b u, H1 b = some u → ∃ o, hp.get? b = some o ∧ B.get? b = some o
  fr : ∀ b ∈ frs outer, H b = none ∧ ∃ o, s.heap.get? b = some o ∧ ∀ vs, o.data ≠ .fields vs
section
variable {P : Program} {w : World} {outer : List Env} {H H1 : Hp} {s : Shared} {B hp h' : Heap}
theorem no_nil {b : Addr} : b ∉ ([] : List Addr) := by simp
theorem Fly.slots (f : Fly P w outer H s H1 B hp) (up : hp.UpToSlots h') {b : Addr} (hb : b ∈ frs outer) : ∃ o sl sl', s.heap.get? b = some o ∧ hp.get? b = some { o with slots := sl } ∧ h'.get? b = some { o with slots := sl' } := by
  obtain ⟨hn, o, e, nf⟩ := f.fr b hb
  obtain ⟨sl, e1⟩ := f.un.slot b o e hn hb no_nil
  obtain ⟨sl', e2⟩ := up b _ e1 nf
  exact ⟨o, sl, sl', e, e1, e2⟩
theorem Fly.on (f : Fly P w outer H s H1 B hp) (st : B.StaysIn h') (up : hp.UpToSlots h') : Fly P w outer H s H1 B h' where
  un := {
    keep := fun b o e n hb _ => st b o (f.kb b o (f.un.keep b o e n hb no_nil) (by rw [e]; exact fun z => nomatch z) hb)
    slot := fun b o e n hb _ => by
      obtain ⟨o', sl, sl', e0, _, e2⟩ := f.slots up hb
      rw [e] at e0; cases e0
      exact ⟨sl', e2⟩
    free := f.un.free
    there := fun b o e _ => by
      by_cases hb : b ∈ frs outer
      · obtain ⟨o', sl, sl', e0, _, e2⟩ := f.slots up hb
        exact ⟨_, e2⟩
      · obtain ⟨o', e1⟩ := f.un.there b o e no_nil
        exact ⟨o', st b o' (f.kb b o' e1 (by rw [e]; exact fun z => nomatch z) hb)⟩
    tups := f.un.tups
    frzs := f.un.frzs
    tbls := f.un.tbls }
  ok := fun a o e => (f.ok a o e).stay (fun b u hb q => by
      have : ∃ u', H1 b = some u' := by
        rcases hb with rfl | hb
        · exact ⟨o, e⟩
        · exact ⟨_, hb⟩
      obtain ⟨u', eu⟩ := this
      obtain ⟨o', e1, e2⟩ := f.kh b u' eu
      rw [q] at e1; cases e1
      exact st b u e2) (fun _ q => q) fun _ _ q => q
  kb := fun b o e ns hb => by
    cases e0 : s.heap.get? b with
    | none => exact absurd e0 ns
    | some o0 =>
      obtain ⟨o', e1⟩ := f.un.there b o0 e0 no_nil
      have e2 := f.kb b o' e1 ns hb
      have e3 := st b o' e2
      rw [e] at e3; cases e3
      exact e2
  kh := fun b u e => by
    obtain ⟨o, _, e2⟩ := f.kh b u e
    exact ⟨o, st b o e2, e2⟩
  fr := f.fr
end
/-- how an error lies behind a call -/
def CX1 (P : Program) (w : World) : CXT := fun outer H s E ev s' => ∃ (e C : Addr) (a0 : Value) (H1 : Hp) (B : Heap),
  ev = .ref e ∧ s'.os = s.os ∧ AllBare s'.gens ∧ Heap.FlyingW B outer e (.ref C) a0 s'.heap ∧ Fly P w outer H s H1 B s'.heap ∧ E (.ref C) none H1
section
variable {X : Cx} {pins : List (Addr × Obj)} {σ : L2.St} {H H1 : Hp} {s s' : Shared} {B hp : Heap} {E : XK}
theorem inv_frs (I : Inv X pins σ H s) : ∀ b ∈ frs X.stack, H b = none ∧ ∃ o, s.heap.get? b = some o ∧ ∀ vs, o.data ≠ .fields vs := fun b hb =>
  ⟨I.stkFree b hb, (I.stack.mem hb).2⟩
/-- behind a call that has raised: the caller's state, while the error flies -/
theorem Fly.inv (I : Inv X pins σ H s) (f : Fly X.prog X.w X.stack H s H1 B s'.heap) (ho : s'.os = s.os) (hg : AllBare s'.gens) : Inv X pins σ H1 s' :=
  Inv.call' (ch := []) I ho f.un f.ok hg (fun b z => absurd z no_nil)
/-- .. and one frame further -/
theorem Fly.out (I : Inv X pins σ H s) (f : Fly X.prog X.w X.stack H s H1 B s'.heap) (ho : s'.os = s.os) (hg : AllBare s'.gens) (hx : X.ex = []) (hs : X.stack = X.env :: X.outer) (hf : X.env.frame = some X.env.locals)
    {h' : Heap} (st : B.StaysIn h') (up : s'.heap.UpToSlots h') : Fly X.prog X.w X.outer X.H₀ X.s₀ H1 B h' := by
  have I1 := f.inv I ho hg
  have f1 := f.on st up
  have ub := I1.base
  rw [hx] at ub
  have old : ∀ b o, X.s₀.heap.get? b = some o → ∃ o', s.heap.get? b = some o' := fun b o e => I.base.there b o e (by rw [hx]; exact no_nil)
  have nl : ∀ b o, X.s₀.heap.get? b = some o → b ≠ X.env.locals := fun b o e z => absurd (Heap.lt_size e) (by rw [z]; exact Nat.not_lt.mpr I.ok.above)
  have sub : ∀ b, b ∉ frs X.outer → b ≠ X.env.locals → b ∉ frs X.stack := fun b h1 h2 z => by
    rcases List.mem_cons.mp (I.stkSub b z) with q | q
    · exact h2 q
    · exact h1 q
  have sup : ∀ b, b ∈ frs X.outer → b ∈ frs X.stack := fun b hb => by
    rw [hs]; unfold frs; rw [List.filterMap_cons, hf]; exact List.mem_cons_of_mem _ hb
  refine ⟨⟨fun b o e n hb _ => ?_, fun b o e n hb _ => ?_, ub.free, fun b o e _ => ?_, ub.tups, ub.frzs, ub.tbls⟩, f1.ok, fun b o e ns hb => ?_, f1.kh, fun b hb => ?_⟩
  · have e1 := ub.keep b o e n hb no_nil
    obtain ⟨o', e0⟩ := old b o e
    exact st b o (f.kb b o e1 (by rw [e0]; exact fun z => nomatch z) (sub b hb (nl b o e)))
  · obtain ⟨sl, e1⟩ := ub.slot b o e n hb no_nil
    obtain ⟨o', sl1, sl2, e0, e1', e2⟩ := f.slots up (sup b hb)
    have q := Option.some.inj (e1.symm.trans e1')
    refine ⟨sl2, ?_⟩
    rw [e2]
    obtain ⟨c1, d1, t1, l1⟩ := o
    obtain ⟨c2, d2, t2, l2⟩ := o'
    simp only [Obj.mk.injEq] at q
    obtain ⟨rfl, rfl, rfl, _⟩ := q
    rfl
  · obtain ⟨o', e0⟩ := old b o e
    exact f1.un.there b o' e0 no_nil
  · cases e0 : X.s₀.heap.get? b with
    | none => exact absurd e0 ns
    | some o0 =>
      obtain ⟨o', e1⟩ := old b o0 e0
      exact f1.kb b o e (by rw [e1]; exact fun z => nomatch z) (sub b hb (nl b o0 e0))
  · exact ⟨I.ok.frf b hb, (I.ok.funs.mem hb).2⟩
/-- the state at a raise, as one that flies: all but the frames is kept -/
def hidF (h : Heap) (l : List Env) : Heap := PySem.W.hideAll h (frs l)
theorem Fly.raise (I : Inv X pins σ H s) (hx : X.ex = []) (hs : X.stack = X.env :: X.outer) (hf : X.env.frame = some X.env.locals) {h' : Heap} (st : (hidF s.heap X.stack).StaysIn h') (up : s.heap.UpToSlots h') : Fly X.prog X.w X.outer X.H₀ X.s₀ H (hidF s.heap X.stack) h' := by
  have f : Fly X.prog X.w X.stack H s H (hidF s.heap X.stack) s.heap :=
    ⟨Un.refl, I.hok, fun b o e _ hb => PySem.W.hideAll_get _ e hb, fun b u e => by
      have hn : b ∉ frs X.stack := fun z => by rw [I.stkFree b z] at e; cases e
      have : ∃ o, s.heap.get? b = some o := by
        have := I.hok b u e
        cases u with
        | lst xs => obtain ⟨_, _, _, _, e⟩ := this; exact ⟨_, e⟩
        | tup xs => obtain ⟨_, _, _, o, e, _⟩ := this; exact ⟨_, e⟩
        | dK kvs => obtain ⟨_, _, _, _, o, _, _, e, _⟩ := this; exact ⟨_, e⟩
        | dT kvs => obtain ⟨_, _, _, _, o, _, _, e, _⟩ := this; exact ⟨_, e⟩
        | set S n => obtain ⟨o, _, _, _, e, _⟩ := this; exact ⟨_, e⟩
        | ins C dx fs => obtain ⟨_, _, _, e, _⟩ := this; exact ⟨_, e⟩
        | own y => obtain ⟨_, e⟩ := this; exact ⟨_, e⟩
        | xd fs => obtain ⟨_, ⟨_, _, _, e, _⟩, _⟩ := this; exact ⟨_, e⟩
        | rng lo hi => obtain ⟨_, _, _, e⟩ := this; exact ⟨_, e⟩
        | frz ob u => obtain ⟨e, _⟩ := this; exact ⟨_, e⟩
        | tbl ps => exact ⟨_, this⟩
        | met f y => exact ⟨_, this⟩
        | ext φ => obtain ⟨_, ⟨_, e⟩, _⟩ := this; exact ⟨_, e⟩
      obtain ⟨o, eo⟩ := this
      exact ⟨o, eo, PySem.W.hideAll_get _ eo hn⟩, inv_frs I⟩
  exact f.out I rfl I.bare hx hs hf st up
end
end D3

namespace D3
open PySem PySem.Spec PySem.Calls PyProof.Rows L2
/-! ### raise -/
/-- a class of errors of the text, straight or not under ValueError: what a raise wants -/
def vErr : List Value := [.type "ValueError", .type "Exception", .type "BaseException", .type "object"]
def RzCls (K : PySem.W.Frag) (C : Addr) : Prop := PySem.W.excIn K C vErr "ValueError.__new__" = true
/-- what the surroundings want of an error that is made here -/
def RzOk (C : Cw) (X : Cx) : Prop := ∀ (pins : List (Addr × Obj)) (σ : L2.St) (H : Hp) (s : Shared) (c : Str) (Cc : Addr) (vs : List Value) (h' : Heap) (e : Addr), Inv X pins σ H s → X.mg c = some (.ref Cc) → C.EE c σ H →
  Heap.MadeExcOf s.heap h' e (.ref Cc) vs → X.xe (.ref e) { s with heap := h' }
def rzR (c : Str) (ρ : Rho) : ResL → SRes
  | .ok xs => if xs.length ≤ sizeLine then .exc c ρ else .stuck
  | .exc c' => .exc c' ρ
  | .stuck => .stuck
/-- the object of such a class, over a heap -/
theorem rz_obj {K : PySem.W.Frag} {C : Addr} (q : RzCls K C) : ∃ bm N nm qn bs hd sn sub ab col dd k0 k1 k2 k3 k5, ∀ h : Heap, K.In h → h.get? C = some (excClassObj nm qn C N bs bm hd sn sub ab col dd k0 k1 k2 k3 k5 "ValueError.__new__") ∧
    h.Ns N (h.nsMap N) ∧ h.nsMap N "__init__" = none ∧ OwnTail h vErr bm := by
  unfold RzCls PySem.W.excIn at q
  split at q
  · rename_i dd cd sl ho
    split at q
    · rename_i C' bm k0 k1 k2 k3 n k5 hm hs
      rw [Bool.and_eq_true, Bool.and_eq_true, Bool.and_eq_true, Bool.and_eq_true, Bool.and_eq_true] at q
      obtain ⟨⟨⟨⟨⟨q1, q2⟩, q3⟩, q4⟩, q5⟩, q6⟩ := q
      obtain ⟨nm, bs, mro, ns, qn, hd, sn, sub, ab, col, del⟩ := cd
      have e1 : C' = C := beq_iff_eq.mp q1
      have e2 : n = "ValueError.__new__" := beq_iff_eq.mp q2
      have e3 : del = false := by simpa using q3
      have e4 : sl = #[k0, k1, k2, k3, some (.builtin n), k5] := Array.ext' hs
      have e5 : mro = .ref C' :: bm := hm
      subst e1 e2 e3 e4 e5
      refine ⟨bm, ns, nm, qn, bs, hd, sn, sub, ab, col, dd, k0, k1, k2, k3, k5, fun h X => ⟨X _ _ ho, .of_isNs (PySem.W.isNs_of_in X q5), PySem.W.nsMap_none_of_in X q5 (beq_iff_eq.mp q6), PySem.W.tail_of_in X q4⟩⟩
    · cases q
  · cases q
theorem rpl_len {K : PySem.W.Frag} {F H : Hp} : ∀ {xs : List (Md × D)} {vs : List V}, RpL K F H xs vs → vs.length = xs.length
  | [], _, h => by rw [show _ = [] from h]; rfl
  | _ :: _, _, h => by obtain ⟨v, us, rfl, _, r⟩ := h; rw [List.length_cons, List.length_cons, rpl_len r]
section
variable {C : Cw} {X : Cx} {e : Expr} {es : List Expr} {gs : Rho → ResL} {x : Str} {np cpos pos : Pos}
theorem psv_raise {Cc : Addr} (hm : X.mg x = some (.ref Cc)) (Z : RzCls X.K Cc) (hh : X.A.handled = none) (hr : RzOk C X) (hg : Gl X x) (ha : PAv C X (e :: es) gs) (hd : (x == ("__debug__" : Str)) = false) (hst : ∀ y ∈ e :: es, notStar y = true) :
    PSv C X (.Raise (some (.Call (.Name x np) (e :: es) [] cpos)) none pos) (fun ρ => rzR x ρ (gs ρ)) := by
  intro pins s σ H En I q
  obtain ⟨ρ, F, R, w⟩ := q
  obtain ⟨bm, N, nm, qn, bs, hdc, sn, sub, ab, col, dd, k0, k1, k2, k3, k5, hobj⟩ := rz_obj Z
  have vb := _root_.PySem.F.excBase_ValueError
  have B0 := hobj X.base I.mod.kin
  have st := star_cons (es := es) (env := X.env) (hst e List.mem_cons_self)
  refine wpAny_Raise_call_subU (C := Cc) (nm := nm) (q := qn) (N := N) (bs := bs) (bm := bm) (hdct := hdc) (sn := sn) (sub := sub) (ab := ab) (col := col) (dd := dd) (k0 := k0) (k1 := k1) (k2 := k2) (k3 := k3) (k5 := k5)
    vb vb.hasB vb (mN := X.base.nsMap N) (B0.2.2.2.hasType vb.hasBase) hh (star_any _ _ hst) B0.2.2.1 (ld_glob I hg hm ⟨rfl, ?_⟩ hd)
  rw [st]
  refine Calls.evalArgs_plain ?_
  have main := ha cpos pins s σ H (fun vs H1 => vs.length ≤ sizeLine ∧ C.EE x σ H1) I ?_
  · rw [st] at main
    refine wpAny_mono main (fun us s2 h2 => ?_) fun _ _ z => z
    obtain ⟨vs, H1, I1, r1, hl, he⟩ := h2
    have B1 := hobj s2.heap I1.kIn
    exact ⟨rfl, by rw [← r1.length]; exact hl, B1.1, B0.2.1.keeps I1.bk, B1.2.2.2, fun h' ex made => hr pins σ H1 s2 x Cc us h' ex I1 hm he made⟩
  · refine ⟨ρ, F, R, ?_⟩
    dsimp only at w
    cases er : gs ρ with
    | stuck => rw [er] at w; exact w
    | exc c => rw [er] at w; exact fun F' H' st => w σ F' H' st.fsame (R.step st)
    | ok xs =>
      rw [er] at w
      intro vs F' H' st rp
      have w : WantS (C.at X) F (if xs.length ≤ sizeLine then .exc x ρ else .stuck) En := w
      split at w
      · rename_i hl
        exact ⟨by rw [rpl_len rp]; exact hl, w σ F' H' st.fsame (R.step st)⟩
      · exact w.elim
/-! ### contexts: a def's body -/
structure FnCx (X : Cx) : Prop where
  hx : X.ex = []
  hs : X.stack = X.env :: X.outer
  hf : X.env.frame = some X.env.locals
end
section
variable {P : Program} {w : World} {K : PySem.W.Frag} {mg : Str → Option Value} {base : Heap} {N : List Str} {qual : Str} {scope : Scope} {f : Addr} {cdv : Value} {A : Around} {outer : List Env} {s : Shared} {H : Hp} {E : XK}
theorem fnCx : FnCx (cxOf (CX1 P w) P w K mg base N qual scope f cdv A outer s H E) := ⟨rfl, rfl, rfl⟩
/-- the wish about errors, by names of classes -/
def eeOf (mg : Str → Option Value) (E : XK) : XE := fun c _ H' => ∀ u, mg c = some u → E u none H'
theorem xok_fn {C : Cw} (hE : C.EE = eeOf mg E) : XOk (CX1 P w) C (cxOf (CX1 P w) P w K mg base N qual scope f cdv A outer s H E) := by
  intro pins σ H1 s1 ev s' I h
  obtain ⟨e, Cc, a0, H2, B, rfl, ho, hg, fl, fy, c, hm, he⟩ := h
  rw [hE] at he
  have I0 := I.ok.frames
  refine wpAny_leaves_onW I0 rfl fl fun h' fl' up => ?_
  exact ⟨e, Cc, a0, H2, B, rfl, ho.trans I.os, hg, fl', fy.out I ho hg rfl rfl rfl fl'.1 up, he _ hm⟩
theorem rzok_fn {C : Cw} (hE : C.EE = eeOf mg E) : RzOk C (cxOf (CX1 P w) P w K mg base N qual scope f cdv A outer s H E) := by
  intro pins σ H1 s1 c Cc vs h1 e I hm he made
  rw [hE] at he
  have I0 := I.ok.frames
  have hin : ∀ env ∈ (cxOf (CX1 P w) P w K mg base N qual scope f cdv A outer s H E).stack, ∀ a, env.frame = some a → a ∈ frs (cxOf (CX1 P w) P w K mg base N qual scope f cdv A outer s H E).stack := fun env he a ha => List.mem_filterMap.mpr ⟨env, he, ha⟩
  have FF : s1.heap.FunFrames (hidF s1.heap (cxOf (CX1 P w) P w K mg base N qual scope f cdv A outer s H E).stack) _ := PySem.W.funFrames_hide I.stack hin
  have st0 : (hidF s1.heap (cxOf (CX1 P w) P w K mg base N qual scope f cdv A outer s H E).stack).StaysIn s1.heap := fun b o q => PySem.W.of_hideAll _ q
  refine wpAny_leaves_madeW (s := { s1 with heap := h1 }) I0 rfl st0 FF made fun h' t fl _ _ up => ?_
  have up0 : s1.heap.UpToSlots h' := (Heap.UpToSlots.of_keeps made.keeps).trans up
  exact ⟨e, Cc, .ref t, H1, _, rfl, I.os, I.bare, fl, Fly.raise I rfl rfl rfl fl.1 up0, he _ hm⟩
end
end D3

namespace D3
open PySem PySem.Spec PySem.Calls PyProof.Rows L2
/-! ### try, except -/
structure HX where
  cls : Str
  slot : Option Nat
  g : Rho → SRes
/-- the classes of errors among one another -/
def XtOk (K : PySem.W.Frag) (mg : Str → Option Value) (xt : Str → Str → Option Bool) : Prop := ∀ c x b, xt c x = some b → ∃ C C2, PySem.W.nsIn K mainGlobals c = some (some (.ref C)) ∧ mg c = some (.ref C) ∧ mg x = some (.ref C2) ∧
  PySem.W.mroIn K C2 (.type "BaseException") = some true ∧ PySem.W.typeIn K (.ref C2) = some (.type "type") ∧ PySem.W.mroIn K C (.ref C2) = some b
/-- within a handler -/
abbrev mkX (X : Cx) (e : Addr) : Cx := { X with A := X.A.mark (some (.ref e)), calm := false, xe := fun _ _ => False }
section
variable {X : Cx} {pins : List (Addr × Obj)} {σ : L2.St} {H : Hp} {s : Shared} {e : Addr}
end
end D3

namespace D3
open PySem PySem.Spec PySem.Calls PyProof.Rows L2
/-- handlers, read -/
inductive HsOk (C : Cw) (X : Cx) : List ExceptHandler → List HX → Prop
  | nil : HsOk C X [] []
  | plain {x : Str} {np hp : Pos} {b : Stmt} {suite : List Stmt} {g : Rho → SRes} {r : List ExceptHandler} {r' : List HX} : Gl X x → (x == ("__debug__" : Str)) = false → (∀ e, PBv C.nox (mkX X e) (b :: suite) g) → HsOk C X r r' →
      HsOk C X (.ExceptHandler (some (.Name x np)) none (b :: suite) hp :: r) (⟨x, none, g⟩ :: r')
  | named {x n : Str} {i : Nat} {np hp : Pos} {b : Stmt} {suite : List Stmt} {g : Rho → SRes} {r : List ExceptHandler} {r' : List HX} : Gl X x → (x == ("__debug__" : Str)) = false → X.N[i]? = some n → X.env.scope.names.lookup n = some .local →
      (∀ e, PBv C.nox (mkX X e) (b :: suite) g) → HsOk C X r r' → HsOk C X (.ExceptHandler (some (.Name x np)) (some n) (b :: suite) hp :: r) (⟨x, some i, g⟩ :: r')
section
variable {C : Cw} {X : Cx} {pins : List (Addr × Obj)} {σ : L2.St} {H H1 : Hp} {s s0 : Shared} {e Cc : Addr} {a0 : Value} {B : Heap}
theorem Fly.h1e (fl : Heap.FlyingW B X.stack e (.ref Cc) a0 s.heap) (fy : Fly X.prog X.w X.stack H s0 H1 B s.heap) : H1 e = none := by
  cases q : H1 e with
  | none => rfl
  | some u => obtain ⟨o, _, z⟩ := fy.kh e u q; rw [fl.2.1] at z; cases z
theorem Fly.s0e (fl : Heap.FlyingW B X.stack e (.ref Cc) a0 s.heap) (fy : Fly X.prog X.w X.stack H s0 H1 B s.heap) : s0.heap.get? e = none := by
  cases q : s0.heap.get? e with
  | none => rfl
  | some o =>
    exfalso
    by_cases hb : e ∈ frs X.stack
    · obtain ⟨o', sl, _, e0, e1, _⟩ := fy.slots (Heap.UpToSlots.refl _) hb
      obtain ⟨_, o2, e2, nf⟩ := fy.fr e hb
      rw [e0] at e2; cases e2
      obtain ⟨oe, vs, he, _, hd, _⟩ := fl.first
      rw [e1] at he; cases he
      exact nf vs hd
    · obtain ⟨o', e1⟩ := fy.un.there e o q no_nil
      have := fy.kb e o' e1 (by rw [q]; exact fun z => nomatch z) hb
      rw [fl.2.1] at this; cases this
/-- the error is tracked from now on -/
theorem Fly.held (I0 : Inv X pins σ H s0) (fl : Heap.FlyingW B X.stack e (.ref Cc) a0 s.heap) (fy : Fly X.prog X.w X.stack H s0 H1 B s.heap) (ho : s.os = s0.os) (hg : AllBare s.gens) : Inv X pins σ (upd H1 e (xobj e Cc)) s := by
  have h1 := Fly.h1e fl fy
  have h0 := Fly.s0e fl fy
  obtain ⟨oe, he, hc⟩ := fl.there
  have nb : ∀ {b u}, H1 b = some u → b ≠ e := fun q z => by rw [z, h1] at q; cases q
  refine Inv.call' (ch := []) I0 ho ⟨fy.un.keep, fy.un.slot, fun b o q n z => ?_, fy.un.there, fun b xs q => ?_, fun b o u q => ?_, fun b ps q => ?_⟩ (fun b u q => ?_) hg (fun b z => absurd z no_nil)
  · rw [upd_ne fun z => by rw [z, h0] at q; cases q]; exact fy.un.free b o q n z
  · have := fy.un.tups b xs q; rw [upd_ne (nb this)]; exact this
  · have := fy.un.frzs b o u q; rw [upd_ne (nb this)]; exact this
  · obtain ⟨more, this⟩ := fy.un.tbls b ps q; exact ⟨more, by rw [upd_ne (nb this)]; exact this⟩
  · by_cases hb : b = e
    · subst hb
      rw [upd_same] at q
      cases q
      exact ⟨⟨oe, he, hc⟩, ⟨oe, he⟩, fun h1 h2 p k => by obtain ⟨o, q, z⟩ := p; exact ⟨o, k o q, z⟩⟩
    · rw [upd_ne hb] at q
      exact (fy.ok b u q).stay (fun _ _ _ z => z) (fun c z => by rw [upd_ne (nb z)]; exact z) fun c xs z => by rw [upd_ne (nb z)]; exact z
end
end D3

namespace D3
open PySem PySem.Spec PySem.Calls PyProof.Rows L2
section
variable {C : Cw} {X : Cx} {pins : List (Addr × Obj)} {σ : L2.St} {H : Hp} {s : Shared} {D : Ends} {hs : List ExceptHandler} {hx : List HX} {xt : Str → Str → Option Bool}
end
/-! ### isinstance of an error -/
/-- a class by its name: one of the text, or one of Python's own -/
def ClsV (mg : Str → Option Value) (n : Str) (cv : V) : Prop := (∃ C, mg n = some (.ref C) ∧ cv = .ref C) ∨ (mg n = none ∧ n ≠ "__name__" ∧ ∃ T, bootBuiltins n = some (.type T) ∧ cv = .ty T)
def valV' : V → Value | .ref a => .ref a | .ty T => .type T | _ => .none
def XisOk (K : PySem.W.Frag) (mg : Str → Option Value) (xis : Str → Str → Option Bool) : Prop := ∀ c n b, xis c n = some b → ∃ C cv, PySem.W.nsIn K mainGlobals c = some (some (.ref C)) ∧ XCls K C ∧ ClsV mg n cv ∧ PySem.W.kitOne K (.ref C) (valV' cv) = some b
section
variable {C : Cw} {X : Cx} {e : Expr} {g : Rho → Res} {p q pos tp : Pos} {n : Str} {xis : Str → Str → Option Bool}
end
end D3

namespace D3
open PySem PySem.Spec PySem.Calls PyProof.Rows L2
/-! ### a def by its body, errors too -/
theorem fnok_phi {P : Program} {w : World} {K : PySem.W.Frag} {mg : Str → Option Value} {base : Heap} {x qual : Str} {st : Stmt} {f : Addr} {fd : FuncData} {N ps : List Str} {k : Nat} {g : Rho → SRes} (F : Fun K x qual st f fd) (S : FnScope N ps (defScope st))
    (hbody : ∀ (C : Cw) (cdv : Value) (A : Around) (outer : List Env) (s : Shared) (H : Hp) (E : XK), C.EE = eeOf mg E → Room k (A.deeper (envOfC qual (defScope st) s.heap.objs.size f cdv)) → PBv C (cxOf (CX1 P w) P w K mg base N qual (defScope st) f cdv A outer s H E) (defBody st) g) :
    FnOk P w K mg base (CX1 P w) (k + 1) f fd ps (spV K mg ps.length (phi ps.length N.length g)) := by
  obtain ⟨oc, od, kV, doc, pm, an, cdv, ct, osl, rfl, lk, hcd⟩ := F.ex
  refine fn_of lk hcd S (fun vs H Q E h => h.1) fun A outer s H vs Q E hr h => ?_
  obtain ⟨hl, F0, ds, sF, rl, h⟩ := h
  have hl' : ds.length = ps.length := by rw [← rl.length]; exact hl
  let C : Cw := ⟨K, F0, H, eeOf mg E⟩
  refine ⟨_, hbody C cdv A outer s H E rfl hr, startR N.length ds, F0, relSt_start sF rl, ?_⟩
  unfold phi at h
  rw [if_pos hl'] at h
  cases er : g (startR N.length ds) with
  | nx ρ => rw [er] at h; exact fun σ' F' H' _ R => h.2 .non F' H' R.st rp_non (by intro z; cases z)
  | rt m d => rw [er] at h; exact fun v F' H' s rp fr => h.2 v F' H' s rp fr
  | bk ρ => rw [er] at h; exact h.elim
  | ct ρ => rw [er] at h; exact h.elim
  | exc c ρ => rw [er] at h; exact fun σ' F' H' _ R u hu => h F' H' u R.st hu
  | stuck => rw [er] at h; exact h.elim
/-! ### xs.append(e), xs a list of one's own -/
section
variable {C : Cw} {X : Cx} {e : Expr} {g : Rho → Res} {x : Str} {p ap cp pos : Pos}
end
end D3

namespace D3
open PySem PySem.Spec PyProof.Rows L2
/-! ### min(xs, default=None), xs a list of ints -/
def lesser (b x : Int) : Int := if x < b then x else b
section
variable {prog : Program} {w : World} {A : Around} {R : Result → Shared → Prop} {J : Addr} {fp wr : List Addr} {n : Nat} {P : Nat → Value → Prop} {St : Nat → Heap → Prop} {ns : List Int} {S : Addr}
theorem nm_min : (toString "min" ++ toString ".loop" : String) = "min.loop" := by decide
theorem lt_two {x b : Int} {t u : Tok} {s : Shared} {Q : Value → Shared → Prop} {E : Value → Shared → Prop} (h : Q (.bool (decide (x < b))) s) : wpAny (model prog w) A (richCompare .Lt (.int x t) (.int b u)) Q E s :=
  CmpOf.ints_lt (P := fun i v => ∃ t, v = .int (if i = 0 then x else b) t) (fun i => if i = 0 then x else b) (fun _ _ z => z) 0 1 _ _ s Q E ⟨t, rfl⟩ ⟨u, rfl⟩ h
theorem min_on (W : Walks prog w A.in1 J fp wr n P St) (hv : ∀ i v, P i v → ∃ t, v = .int (ns.getD i 0) t) (hl : ns.length = n) (hS : S ∉ fp) (kw : List (Str × Value)) :
    ∀ (rest : List Int) (j : Nat) (s : Shared) (b : Int) (t : Tok) (c : Nat), ns.drop j = rest → j ≤ n → St j s.heap → s.heap.get? S = some ⟨.type "list", none, .seq #[.int b t, .int b t] c, #[]⟩ →
      (∀ t' h' tk, (∀ x o, x ∉ wr → x ≠ S → s.heap.get? x = some o → h'.get? x = some o) → R (.ok (.ret (.int (rest.foldl lesser b) t'))) { s with heap := h', toks := tk }) →
      codeAny (model prog w) A (.builtin "min.loop" ⟨[.ref J, .none, .ref S], kw⟩) R s := by
  have nw : S ∉ wr := fun z => hS (W.sub _ z)
  intro rest
  induction rest with
  | nil =>
    intro j s b t c hd hj st hs hR
    have jn : n = j := by have := List.drop_eq_nil_iff.mp hd; omega
    subst jn
    refine codeAny_builtin F.entry_min_loop ?_
    rw [Around.under_plainId F.plain_min_loop _]
    refine wpAny_bind (wpAny_seqItems hs rfl (wpAny_bind (wpAny_tryCatch (W.done s _ _ st fun h' tk kp => ?_))))
    refine wpAny_bind (wpAny_updateSeq (kp S _ nw hs) rfl (wpAny_bind (wpAny_letGo (wpAny_pure (hR t _ tk fun x o h1 h2 e => ?_)))))
    rw [Heap.get?_update_other _ _ (Ne.symm h2)]; exact kp x o h1 e
  | cons x rest ih =>
    intro j s b t c hd hj st hs hR
    have jl : j < ns.length := by
      rcases Nat.lt_or_ge j ns.length with z | z
      · exact z
      · rw [List.drop_eq_nil_of_le z] at hd; cases hd
    have ex : ns[j] = x ∧ ns.drop (j + 1) = rest := by
      have := List.drop_eq_getElem_cons jl
      rw [hd] at this; cases this; exact ⟨rfl, rfl⟩
    refine codeAny_builtin F.entry_min_loop ?_
    rw [Around.under_plainId F.plain_min_loop _]
    refine wpAny_bind (wpAny_seqItems hs rfl (wpAny_bind (wpAny_tryCatch (W.item j s _ _ (by omega) st fun v h' tk pv st1 kp => ?_))))
    obtain ⟨u, rfl⟩ := hv j v pv
    rw [List.getD_eq_getElem?_getD, List.getElem?_eq_getElem jl, Option.getD_some, ex.1]
    have hs1 := kp S _ nw hs
    refine wpAny_bind (wpAny_pure ?_)
    refine wpAny_bind (wpAny_tryCatch (wpAny_holding (wpAny_bind (lt_two ?_))))
    refine wpAny_bind (wpAny_holding (wpAny_truthy_bool (wpAny_bind (wpAny_letGo (wpAny_pure ?_)))))
    by_cases hx : x < b
    · rw [decide_eq_true hx]
      show wpAny _ A.in1 (updateSeq S _ >>= _) _ _ _
      refine wpAny_bind (wpAny_updateSeq hs1 rfl (wpAny_bind (wpAny_letGo ?_)))
      rw [nm_min]
      refine wpAny_pure ⟨plainId_quiet F.plain_min_loop _, ih (j + 1) _ x u _ ex.2 (by omega) (W.frame _ _ _ st1 fun y hy o e => ?_) (Heap.get?_update_self _ hs1 rfl) fun t' h2 tk2 k2 => ?_⟩
      · rw [Heap.get?_update_other _ _ (fun z : S = y => hS (z ▸ hy))]; exact e
      · have := hR t' h2 tk2 fun y o h1 h3 e => k2 y o h1 h3 (by rw [Heap.get?_update_other _ _ (Ne.symm h3)]; exact kp y o h1 e)
        rw [List.foldl_cons, show lesser b x = x from if_pos hx] at this
        exact this
    · rw [decide_eq_false hx]
      show wpAny _ A.in1 (letGo _ >>= _) _ _ _
      refine wpAny_bind (wpAny_letGo ?_)
      rw [nm_min]
      refine wpAny_pure ⟨plainId_quiet F.plain_min_loop _, ih (j + 1) _ b t c ex.2 (by omega) st1 hs1 fun t' h2 tk2 k2 => ?_⟩
      have := hR t' h2 tk2 fun y o h1 h3 e => k2 y o h1 h3 (kp y o h1 e)
      rw [List.foldl_cons, show lesser b x = b from if_neg hx] at this
      exact this
def leastO : List Int → Option Int
  | [] => none
  | x :: r => some (r.foldl lesser x)
theorem min_off (W : Walks prog w A.in1 J fp wr n P St) (hv : ∀ i v, P i v → ∃ t, v = .int (ns.getD i 0) t) (hl : ns.length = n) (hS : S ∉ fp) {d : Value} {s : Shared} {c : Nat} (st : St 0 s.heap) (hs : s.heap.get? S = some ⟨.type "list", none, .seq #[] c, #[]⟩)
    (hR : ∀ v h' tk, (∀ x o, x ∉ wr → x ≠ S → s.heap.get? x = some o → h'.get? x = some o) → (match leastO ns with | none => v = d | some m => ∃ t, v = .int m t) → R (.ok (.ret v)) { s with heap := h', toks := tk }) :
    codeAny (model prog w) A (.builtin "min.loop" ⟨[.ref J, .none, .ref S], [("default", d)]⟩) R s := by
  have nw : S ∉ wr := fun z => hS (W.sub _ z)
  refine codeAny_builtin F.entry_min_loop ?_
  rw [Around.under_plainId F.plain_min_loop _]
  refine wpAny_bind (wpAny_seqItems hs rfl ?_)
  cases ns with
  | nil =>
    cases (show 0 = n from hl)
    refine wpAny_bind (wpAny_tryCatch (W.done s _ _ st fun h' tk kp => ?_))
    exact wpAny_bind (wpAny_rule (wpAny_pure (hR d h' tk (fun x o h1 _ e => kp x o h1 e) rfl)))
  | cons x r =>
    refine wpAny_bind (wpAny_tryCatch (W.item 0 s _ _ (by rw [← hl]; exact Nat.zero_lt_succ _) st fun v h' tk pv st1 kp => ?_))
    obtain ⟨u, rfl⟩ := hv 0 v pv
    have hs1 := kp S _ nw hs
    refine wpAny_bind (wpAny_pure ?_)
    refine wpAny_bind (wpAny_updateSeq hs1 rfl ?_)
    rw [nm_min]
    refine wpAny_pure ⟨plainId_quiet F.plain_min_loop _, min_on W hv hl hS _ r 1 _ x u _ rfl (by rw [← hl]; exact Nat.succ_le_succ (Nat.zero_le _)) (W.frame _ _ _ st1 fun y hy o e => ?_) (Heap.get?_update_self _ hs1 rfl) fun t' h2 tk2 k2 => ?_⟩
    · rw [Heap.get?_update_other _ _ (fun z : S = y => hS (z ▸ hy))]; exact e
    · exact hR _ h2 tk2 (fun y o h1 h3 e => k2 y o h1 h3 (by rw [Heap.get?_update_other _ _ (Ne.symm h3)]; exact kp y o h1 e)) ⟨t', rfl⟩
theorem ok_min (a d : Value) : argsOk "min" ⟨[a], [("default", d)]⟩ := by unfold argsOk; kernel_rfl
end
end D3

namespace D3
open PySem PySem.Spec PyProof.Rows L2
section
variable {prog : Program} {w : World} {A : Around} {E : Value → Shared → Prop} {s : Shared}
/-- how a call ends: a value, or an error -/
def endIn (Q : Value → Shared → Prop) (E : Value → Shared → Prop) (r : Result) (s' : Shared) : Prop := match r with
  | .ok (.ret v) => Q v s'
  | .ok _ => False
  | .error e => E e s'
/-- a built-in called with keywords -/
theorem call_kwd {id : String} {b : Builtin} {g : Args} {Q : Value → Shared → Prop} (hk : builtinKind id = none) (hp : plainId id = true) (hb : entryFor table id = some b) (ha : argsOk id g)
    (hc : wpAny (model prog w) A.in1 (b g) (fun r s' => match r with | .done f => endIn Q E (.ok f) s' | .again c => c.quiet = true ∧ codeAny (model prog w) A c (endIn Q E) s') E s) :
    wpAny (model prog w) A (call (.builtin id) g.pos g.kw) Q E s := by
  obtain ⟨us, kw⟩ := g
  refine wpAny_call (codeAny_call_builtin (args := ⟨us, kw⟩) hp hb ?_)
  unfold checkBuiltinCall
  rw [hk]
  unfold argsOk at ha
  cases sg : Manifest.signature? id with
  | none => exact wpAny_pure hc
  | some sig =>
    rw [sg] at ha
    have ck : Bind.checkArgs id sig ⟨us, kw⟩ = pure () := ha
    show wpAny _ A.in1 (Bind.checkArgs id sig ⟨us, kw⟩) _ _ s
    rw [ck]
    exact wpAny_pure hc
theorem call_minD {a d : Value} {Q : Value → Shared → Prop}
    (h : wpAny (model prog w) A.in1 (pyIter a) (fun it s2 => ∃ J fp wr n P St, it = .ref J ∧ Walks prog w A.in1 J fp wr n P St ∧ St 0 s2.heap ∧ (∀ b ∈ fp, b < s2.heap.objs.size) ∧ ∃ ns : List Int, ns.length = n ∧ (∀ i v, P i v → ∃ t, v = .int (ns.getD i 0) t) ∧
      ∀ v h' tk, (∀ b o, b ∉ wr → s2.heap.get? b = some o → h'.get? b = some o) → (match leastO ns with | none => v = d | some m => ∃ t, v = .int m t) → Q v { s2 with heap := h', toks := tk }) E s) :
    wpAny (model prog w) A (call (.builtin "min") [a] [("default", d)]) Q E s := by
  refine call_kwd (g := ⟨[a], [("default", d)]⟩) F.kind_min F.plain_min F.entry_min (ok_min a d) ?_
  show wpAny _ A.in1 (Builtin.Builtins.bindParams "min" ["key", "default"] 0 ⟨[], [("default", d)]⟩ >>= _) _ _ s
  refine wpAny_bind (wpAny_of_eq (show Builtin.Builtins.bindParams "min" ["key", "default"] 0 ⟨[], [("default", d)]⟩ = pure [none, some d] from rfl) ?_)
  refine wpAny_bind (wpAny_pure (wpAny_bind (wpAny_mono h (fun it s2 z => ?_) fun _ _ e => e)))
  obtain ⟨J, fp, wr, n, P, St, rfl, W, st, hf, ns, hl, hv, hQ⟩ := z
  refine wpAny_bind (wpAny_newObj_type ?_)
  have nS : s2.heap.objs.size ∉ fp := fun z => Nat.lt_irrefl _ (hf _ z)
  rw [nm_min]
  refine wpAny_pure ⟨plainId_quiet F.plain_min_loop _, min_off W hv hl nS (W.frame _ _ _ st fun b _ o e => Heap.get?_push_of_some _ e) (Heap.get?_push_size _ rfl) fun v h' tk kp hm => ?_⟩
  refine hQ v h' tk (fun b o h1 e => kp b o h1 (fun z => ?_) (Heap.get?_push_of_some _ e)) hm
  subst z
  exact Nat.lt_irrefl _ (Heap.lt_size e)
end
def intsD : List D → Option (List Int)
  | [] => some []
  | .int i :: ds => (intsD ds).map (i :: ·)
  | _ => none
theorem intsD_rep {K : PySem.W.Frag} {F : Hp} : ∀ {ds : List D} {xs : List V} {ns : List Int}, RepL K F ds xs → intsD ds = some ns → xs = ns.map V.int
  | [], xs, ns, h, e => by
    cases e
    simp only [RepL] at h
    exact h
  | .int i :: ds, xs, ns, h, e => by
    simp only [RepL] at h
    obtain ⟨v, vs, rfl, r, t⟩ := h
    cases q : intsD ds with
    | none => simp only [intsD, q, Option.map_none] at e; cases e
    | some ms =>
      simp only [intsD, q, Option.map_some] at e
      cases e
      rw [intsD_rep t q]
      have : v = .int i := by simpa only [RepV] using r
      rw [this]; rfl
  | .bl _ :: _, _, _, _, e => by cases e
  | .non :: _, _, _, _, e => by cases e
  | .str _ :: _, _, _, _, e => by cases e
  | .tup _ :: _, _, _, _, e => by cases e
  | .lst _ :: _, _, _, _, e => by cases e
  | .dct _ :: _, _, _, _, e => by cases e
  | .ins _ _ :: _, _, _, _, e => by cases e
  | .exn _ :: _, _, _, _, e => by cases e
  | .set _ :: _, _, _, _, e => by cases e
  | .ty _ :: _, _, _, _, e => by cases e
/-- min(e, default=None) -/
def minNR (r : Res) : Res := r.thn fun _ d => match d with
  | .lst ds => (match intsD ds with | some ns => .ok .fz (match leastO ns with | none => .non | some m => .int m) | none => .stuck)
  | _ => .stuck
section
variable {C : Cw} {X : Cx} {e : Expr} {g : Rho → Res} {p q kp pos : Pos} {j}
theorem pv_minN (hc : X.calm = true) (hg : Gl X "min") (hm : X.mg "min" = none) (he : PV C X e g) (hs : notStar e = true) : PV C X (.Call (.Name "min" p) [e] [⟨some "default", .Constant .none j q, kp⟩] pos) (fun ρ => minNR (g ρ)) := by
  intro pins s σ H Q I h
  rw [tG_eq] at h
  obtain ⟨ρ, F, R, w⟩ := h
  have st : starEach [e] X.env = [(false, eval e X.env)] := star_cons hs
  refine wpAny_Call_Name_kw (ld_blt I hg hm bb_min ?_ (by decide) (by decide))
  refine callWith_kw (e := e) (rest := []) ?_ (by rw [st]; rfl) (by rw [st]; rfl) rfl rfl
  have PA1 : PA X [e] (tCons (tG (C.at X) g) tNil) := pa_cons he pa_nil st
  refine thn (PA1 pos pins s σ H (fun vs H1 => ∃ v, vs = [v] ∧ ∃ F1, Step F H F1 H1 ∧ ∃ m d, g ρ = .ok m d ∧ Rp X.K F1 H1 m d v) I ?_) fun us s1 hz => ?_
  · show tG (C.at X) g σ H _
    rw [tG_eq]
    refine ⟨ρ, F, R, ?_⟩
    cases er : g ρ with
    | stuck => rw [show minNR (g ρ) = .stuck by rw [er]; rfl] at w; exact w
    | exc c => rw [show minNR (g ρ) = .exc c by rw [er]; rfl] at w; exact w
    | ok m d => exact fun v F1 H1 s1 rp _ => ⟨v, rfl, F1, s1, m, d, rfl, rp⟩
  · obtain ⟨vs, H1, I1, rv, v, rfl, F1, st1, m, d, er, rp⟩ := hz
    obtain ⟨u, rfl, ru⟩ := vals1 rv
    have PK1 : PK X [⟨some "default", .Constant .none j q, kp⟩] (tCons (tC .non) tNil) := pk_cons pe_non pk_nil
    refine thn (PK1 pos pins s1 σ H1 (fun ws H2 => ws = [.non] ∧ H2 = H1) I1 ⟨rfl, rfl⟩) fun ws s2 hz2 => ?_
    obtain ⟨zs, H2, I2, rz, rfl, eH⟩ := hz2
    subst eH
    obtain ⟨wv, rfl, rw2⟩ := vals1 rz
    cases (show wv = Value.none from rw2)
    have w1 := Want.step st1 w
    rw [show minNR (g ρ) = minNR (.ok m d) by rw [er]] at w1
    cases d with
    | lst ds =>
      cases en : intsD ds with
      | none =>
        have : minNR (.ok m (.lst ds)) = .stuck := by show (match intsD ds with | some ns => _ | none => _) = _; rw [en]
        rw [this] at w1; exact w1.elim
      | some ns =>
        have ew : minNR (.ok m (.lst ds)) = .ok .fz (match leastO ns with | none => .non | some m => .int m) := by show (match intsD ds with | some ns => _ | none => _) = _; rw [en]
        rw [ew] at w1
        obtain ⟨a, xs, rfl, hq, rl⟩ := rp.seqL st1.sub
        have := intsD_rep rl en
        subst this
        cases (show u = Value.ref a from ru)
        obtain ⟨its, rv', pp, hz⟩ := I2.list hq
        have hlen := rv'.length
        rw [List.length_map] at hlen
        refine call_minD (wpAny_pyIter_list pp.isList ⟨s2.heap.objs.size, _, _, _, _, _, rfl, Walks.list (by show X.A.handled = none; exact I2.ok.hd hc) s2.heap.objs.size a ?_ its.toArray, ⟨⟨_, Heap.get?_push_size _ rfl, rfl, rfl⟩, ?_⟩, ?_, ns, ?_, ?_, ?_⟩)
        · obtain ⟨o, n, e, _⟩ := pp
          exact Nat.ne_of_lt (Heap.lt_size e)
        · obtain ⟨o, n, e, c, d, dd⟩ := pp
          exact ⟨o, Heap.get?_push_of_some _ e, c, n, dd⟩
        · intro b hb
          rw [Heap.size_push]
          obtain ⟨o, n, e, _⟩ := pp
          have := Heap.lt_size e
          rcases List.mem_cons.mp hb with rfl | hb
          · exact Nat.lt_succ_self _
          · rcases List.mem_cons.mp hb with rfl | hb
            · exact Nat.lt_succ_of_lt this
            · cases hb
        · rw [List.size_toArray, hlen]
        · intro i v hP
          have hv : its[i]? = some v := by simpa using hP
          have hi : i < ns.length := by rw [hlen]; exact (List.getElem?_eq_some_iff.mp hv).1
          have hx : (ns.map V.int)[i]? = some (V.int ns[i]) := by rw [List.getElem?_map, List.getElem?_eq_getElem hi]; rfl
          obtain ⟨u, hu, ru⟩ := rv'.get hx
          rw [hv] at hu; cases hu
          obtain ⟨t, rfl⟩ := ru
          exact ⟨t, by rw [List.getD_eq_getElem?_getD, List.getElem?_eq_getElem hi]; rfl⟩
        · intro v h' tk hk hv
          have I3 : L2.Inv X pins σ H2 { s2 with heap := h', toks := tk } := I2.kept (t' := tk) (h' := h') fun b o e =>
            hk b o (by intro hb; have : b = s2.heap.objs.size := by simpa using hb
                       subst this; exact absurd (Heap.lt_size e) (Nat.lt_irrefl _)) (Heap.get?_push_of_some _ e)
          cases hl : leastO ns with
          | none =>
            rw [hl] at hv w1
            subst hv
            exact ⟨.non, H2, I3, rfl, w1 .non F1 H2 (.refl st1.sub) rp_non (by intro z; cases z)⟩
          | some mm =>
            rw [hl] at hv w1
            obtain ⟨t, rfl⟩ := hv
            exact ⟨.int mm, H2, I3, ⟨t, rfl⟩, w1 (.int mm) F1 H2 (.refl st1.sub) (rp_int mm) (by intro z; cases z)⟩
    | _ => exact (show False from w1).elim
end
end D3

namespace D3
open PySem PySem.Spec PyProof.Rows L2
/-! ### slices of texts, lists, tuples -/
theorem RepL.drop {K : PySem.W.Frag} {F : Hp} : ∀ (n : Nat) {ds : List D} {xs : List V}, RepL K F ds xs → RepL K F (ds.drop n) (xs.drop n)
  | 0, _, _, h => h
  | n + 1, [], xs, h => by
    simp only [RepL] at h
    subst h; simp [RepL]
  | n + 1, d :: ds, xs, h => by
    simp only [RepL] at h
    obtain ⟨v, vs, rfl, _, t⟩ := h
    exact RepL.drop n t
theorem RepL.take {K : PySem.W.Frag} {F : Hp} : ∀ (n : Nat) {ds : List D} {xs : List V}, RepL K F ds xs → RepL K F (ds.take n) (xs.take n)
  | 0, _, _, _ => by simp [RepL]
  | n + 1, [], xs, h => by
    simp only [RepL] at h
    subst h; simp [RepL]
  | n + 1, d :: ds, xs, h => by
    simp only [RepL] at h
    obtain ⟨v, vs, rfl, r, t⟩ := h
    simp only [List.take_succ_cons, RepL]
    exact ⟨v, _, rfl, r, RepL.take n t⟩
def cutD (xs : List D) (lo hi : Option Int) : List D := (xs.drop (HT.sIx xs.length 0 lo)).take (HT.sIx xs.length xs.length hi - HT.sIx xs.length 0 lo)
theorem RepL.cut {K : PySem.W.Frag} {F : Hp} {ds : List D} {xs : List V} (h : RepL K F ds xs) (lo hi : Option Int) : RepL K F (cutD ds lo hi) (cutV xs lo hi) := by
  unfold cutD cutV
  rw [h.length]
  exact (h.drop _).take _
section
variable {C : Cw} {X : Cx} {a : Expr} {ga : Rho → Res} {pos : Pos}
/-! ### startswith, removeprefix -/
def swD : Md → D → List (Md × D) → Option (Md × D) := fun _ x xs => match x, xs with
  | .str z, [(_, .str y)] => some (.fz, .bl (Txt.startswith z y))
  | _, _ => none
def rpD : Md → D → List (Md × D) → Option (Md × D) := fun _ x xs => match x, xs with
  | .str z, [(_, .str y)] => some (.fz, .str (Txt.removeprefix z y))
  | _, _ => none
end
end D3

namespace D3
open PySem PySem.Spec PyProof.Rows L2
section
variable {C : Cw} {X : Cx} {pos : Pos}
end
end D3

namespace D3
open PySem PySem.Spec PyProof.Rows L2
/-! ### dicts: what stands at a key -/
def getK (kvs : List (Key × D)) (k : Key) : Option D := (kvs.find? fun kv => decide (kv.1 = k)).map (·.2)
theorem RepK.val {K : PySem.W.Frag} {F : Hp} : ∀ {kvs : List (Key × D)} {xs : List (Key × V)} (k : Key), RepK K F kvs xs → match getK kvs k with | some d => ∃ v, valV xs k = some v ∧ RepV K F d v | none => valV xs k = none
  | [], xs, k, h => by
    simp only [RepK] at h
    subst h; rfl
  | (k', d) :: kvs, xs, k, h => by
    simp only [RepK] at h
    obtain ⟨y, ys, rfl, r, t⟩ := h
    by_cases e : k' = k
    · have e1 : getK ((k', d) :: kvs) k = some d := by simp [getK, List.find?_cons, e]
      rw [e1]
      exact ⟨y, valV_pos e, r⟩
    · have e1 : getK ((k', d) :: kvs) k = getK kvs k := by simp [getK, List.find?_cons, e]
      rw [e1, valV_neg (p := (k', y)) e]
      exact RepK.val k t
section
variable {X : Cx}
end
section
variable {C : Cw} {X : Cx} {a b : Expr} {ga gb : Rho → Res} {pos : Pos}
/-! ### in, not in -/
/-! ### dict(d) -/
def tcDict : List (Md × D) → Option (Md × D)
  | [(_, .dct kvs)] => some (.fr, .dct kvs)
  | _ => none
theorem calld_dict : CallD X (.type "dict") tcDict := by
  refine ⟨fun vs H Q => ∃ a xs, vs = [.ref a] ∧ H a = some (.dK xs) ∧ ∀ p, H p = none → Q (.ref p) (upd H p (.dK xs)), ?_, ?_⟩
  · intro pins s σ H vs us Q I r h
    obtain ⟨a, xs, rfl, hh, q⟩ := h
    obtain ⟨u, rfl, ru⟩ := vals1 r
    cases (show u = Value.ref a from ru)
    exact d_copyOf I (.inl hh) fun p s' hp I' => ⟨.ref p, _, I', rfl, q p hp⟩
  · intro F H xs vs k d Q s rx e w
    unfold tcDict at e
    split at e
    · rename_i m kvs
      cases e
      obtain ⟨v, rfl, r⟩ := rx.one
      obtain ⟨a, ys, rfl, hh, rk⟩ := r.dict s
      exact ⟨a, ys, rfl, hh, fun p hp => w (.ref p) F _ (Step.fresh _ s hp) ⟨p, rfl, s.free hp, ys, upd_same, rk⟩ fun _ b eb => by cases eb; exact hp⟩
    · cases e
end
/-! ### d[k] = v, d a name of the frame that owns it -/
def putD (kvs : List (Key × D)) (k : Key) (d : D) : List (Key × D) := if (kvs.any fun kv => decide (kv.1 = k)) = true then kvs.map (fun kv => if kv.1 = k then (kv.1, d) else kv) else kvs ++ [(k, d)]
theorem RepK.keys {K : PySem.W.Frag} {F : Hp} : ∀ {kvs : List (Key × D)} {xs : List (Key × V)}, RepK K F kvs xs → xs.map (·.1) = kvs.map (·.1)
  | [], xs, h => by simp only [RepK] at h; subst h; rfl
  | (k, d) :: kvs, xs, h => by
    simp only [RepK] at h
    obtain ⟨y, ys, rfl, _, t⟩ := h
    simp [RepK.keys t]
theorem RepK.snoc {K : PySem.W.Frag} {F : Hp} {k : Key} {d : D} {v : V} (r : RepV K F d v) : ∀ {kvs : List (Key × D)} {xs : List (Key × V)}, RepK K F kvs xs → RepK K F (kvs ++ [(k, d)]) (xs ++ [(k, v)])
  | [], xs, h => by
    simp only [RepK] at h
    subst h
    simp only [List.nil_append, RepK]
    exact ⟨v, [], rfl, r, rfl⟩
  | (k', d') :: kvs, xs, h => by
    simp only [RepK] at h
    obtain ⟨y, ys, rfl, r', t⟩ := h
    simp only [List.cons_append, RepK]
    exact ⟨y, _, rfl, r', RepK.snoc r t⟩
theorem RepK.repl {K : PySem.W.Frag} {F : Hp} {k : Key} {d : D} {v : V} (r : RepV K F d v) : ∀ {kvs : List (Key × D)} {xs : List (Key × V)}, RepK K F kvs xs → RepK K F (kvs.map fun kv => if kv.1 = k then (kv.1, d) else kv) (xs.map fun kv => if kv.1 = k then (kv.1, v) else kv)
  | [], xs, h => by
    simp only [RepK] at h
    subst h; simp [RepK]
  | (k', d') :: kvs, xs, h => by
    simp only [RepK] at h
    obtain ⟨y, ys, rfl, r', t⟩ := h
    have ih := RepK.repl (k := k) r t
    by_cases e : k' = k
    · simp only [List.map_cons, e, if_true, RepK]
      exact ⟨v, _, rfl, r, ih⟩
    · simp only [List.map_cons, e, if_false, RepK]
      exact ⟨y, _, rfl, r', ih⟩
theorem RepK.put {K : PySem.W.Frag} {F : Hp} {k : Key} {d : D} {v : V} {kvs : List (Key × D)} {xs : List (Key × V)} (h : RepK K F kvs xs) (r : RepV K F d v) : RepK K F (putD kvs k d) (putK xs k v) := by
  have e : (xs.any fun kv => decide (kv.1 = k)) = (kvs.any fun kv => decide (kv.1 = k)) := by
    have := h.keys
    have a1 : ∀ {β : Type} (l : List (Key × β)), (l.any fun kv => decide (kv.1 = k)) = (l.map (·.1)).any (fun x => decide (x = k)) := fun l => by rw [List.any_map]; rfl
    rw [a1, a1, this]
  unfold putD putK
  rw [e]
  split
  · exact RepK.repl r h
  · exact RepK.snoc r h
theorem RepK.len {K : PySem.W.Frag} {F : Hp} {kvs : List (Key × D)} {xs : List (Key × V)} (h : RepK K F kvs xs) : xs.length = kvs.length := by
  have := congrArg List.length h.keys
  simpa using this
end D3

namespace D3
open PySem PySem.Spec PyProof.Rows L2
section
variable {C : Cw} {X : Cx} {e ke : Expr} {g gk : Rho → Res} {x : Str} {p sp pos : Pos}
end
end D3
namespace D3
open PySem PySem.Spec PyProof.Rows L2
section
variable {C : Cw} {X : Cx} {a b : Expr} {ga gb : Rho → Res} {pos : Pos}
end
end D3

namespace D3
open PySem PySem.Spec PyProof.Rows L2 PySem.SeqAt PySem.MeetsSeq
/-! ### t.index(x) of a tuple -/
theorem SqT.plain {X : Cx} {pins : List (Addr × Obj)} {σ : L2.St} {H : Hp} {s : Shared} {a : Addr} {xs : List V} (I : L2.Inv X pins σ H s) (h : SqT X.K H a xs) : ∃ its : List Value, Vals xs its ∧ PlainTp s.heap a its.toArray ∧ xs.length ≤ sizeLine := by
  rcases h with h | ⟨o, its, n, hk, hc, hd, hs, hz, r⟩
  · obtain ⟨z, its, r, p⟩ := h.ok I.hok
    exact ⟨its, r, p, z⟩
  · exact ⟨its.toList, r, ⟨o, I.kIn a o hk, hc, hd, n, by simpa using hs⟩, by rw [r.length, Array.length_toList]; exact hz⟩
section
variable {X : Cx} {o e : Expr} {apos cpos : Pos} {td ty : TE}
end
section
variable {C : Cw} {X : Cx} {o e : Expr} {apos cpos : Pos} {go g : Rho → Res}
end
end D3

namespace D3
open PySem PySem.Spec PyProof.Rows L2
/-! ### dicts compared: keys and data that can be laid out -/
section
variable {C : Cw} {X : Cx}
end
end D3

namespace D3
open PySem PySem.Spec PyProof.Rows L2
/-! ### a dict of defs at the top: its item, and the call of what a name holds -/
def TabE (w : World) (K : PySem.W.Frag) : List (Str × Str) → List DictEntry → Prop
  | [], es => es = []
  | (z, f) :: r, es => ∃ t a es', es = ⟨PyData.keyHash w.params z, .str z t, .ref a⟩ :: es' ∧ PySem.W.nsIn K mainGlobals f = some (some (.ref a)) ∧ TabE w K r es'
structure TabV (w : World) (K : PySem.W.Frag) (mg : Str → Option Value) (x : Str) (tb : List (Str × Str)) : Prop where
  ex : ∃ a ob es ep, mg x = some (.ref a) ∧ K.lookup a = some ob ∧ ob.ExactDict ∧ ob.data = .dict es ep ∧ TabE w K tb es.toList
  nd : (tb.map (·.1)).Nodup
theorem TabE.pairs {P : Program} {w : World} {K : PySem.W.Frag} : ∀ {tb : List (Str × Str)} {es : List DictEntry}, TabE w K tb es → ∃ kvs : List (Key × Value), Pairs (mixKind P w) es kvs ∧ kvs.map (·.1) = tb.map (fun p => .inr p.1) ∧
    (∀ e ∈ es, ∃ k, (mixKind P w).is k e.key = true ∧ e.hash = (mixKind P w).hash k) ∧ ∀ z f, tb.lookup z = some f → ∃ a, valueAt kvs (.inr z) = some (.ref a) ∧ PySem.W.nsIn K mainGlobals f = some (some (.ref a))
  | [], es, h => by
    have h : es = [] := h
    subst h
    refine ⟨[], .nil, rfl, fun e h => ?_, fun z f h => ?_⟩
    · cases h
    · cases h
  | (z, f) :: r, es, h => by
    obtain ⟨t, a, es', rfl, hn, hr⟩ := h
    obtain ⟨kvs, p1, p2, p3, p4⟩ := TabE.pairs (P := P) hr
    have hi : (mixKind P w).is (.inr z) (.str z t) = true := by
      show Value.isStrOf z (.str z t) = true
      simp [Value.isStrOf]
    refine ⟨(.inr z, .ref a) :: kvs, .cons hi rfl p1, by simp [p2], fun e he => ?_, fun z' f' hz => ?_⟩
    · rcases List.mem_cons.mp he with rfl | he
      · exact ⟨.inr z, hi, rfl⟩
      · exact p3 e he
    · rw [List.lookup_cons] at hz
      unfold valueAt
      by_cases e : z' = z
      · subst e
        rw [beq_self_eq_true] at hz
        cases hz
        exact ⟨a, by simp [List.find?_cons], hn⟩
      · have : (z' == z) = false := beq_eq_false_iff_ne.mpr e
        rw [this] at hz
        obtain ⟨a', q1, q2⟩ := p4 z' f' hz
        refine ⟨a', ?_, q2⟩
        unfold valueAt at q1
        simp [List.find?_cons]
        simpa [Ne.symm e] using q1
section
variable {C : Cw} {X : Cx} {e b : Expr} {es : List Expr} {gs : Rho → ResL} {gb : Rho → Res} {p pos : Pos} {x : Str} {k n : Nat} {tb : List (Str × Str)}
end
end D3

namespace D3
open PySem PySem.Spec PyProof.Rows L2
/-! ### list(d): the keys in their order -/
section
variable {X : Cx}
end
end D3

namespace D3
open PySem PySem.Spec PyProof.Rows L2
/-- a name gives up its right to change what it owns -/
theorem RelSt.frz {K : PySem.W.Frag} {F0 H0 F H : Hp} {σ : L2.St} {ρ : Rho} (R : RelSt K F0 H0 F H σ ρ) {i : Nat} {d : D} (e : ρ[i]? = some (some (true, d))) : ∃ F', Same F F' ∧ RelSt K F0 H0 F' H σ (ρ.set i (some (false, d))) := by
  obtain ⟨v, ev, rp, hn⟩ := R.slot i true d e
  obtain ⟨x, rfl, nx, t⟩ := rp
  obtain ⟨o, ho, r⟩ := t.freeze nx
  have sm : Same F (upd F x o) := fun b u q => by rw [upd_ne (ne_of_none q nx)]; exact q
  have hi : i < ρ.length := (List.getElem?_eq_some_iff.mp e).1
  refine ⟨upd F x o, sm, R.st.freeze (hn rfl x rfl) nx ho, fun j m d' ej => ?_, fun j k d1 d2 a hjk e1 e2 q1 q2 => ?_, by rw [List.length_set]; exact R.len⟩
  · by_cases hj : j = i
    · subst hj
      rw [List.getElem?_set_self hi] at ej
      cases ej
      exact ⟨.ref x, ev, r, by intro z; cases z⟩
    · rw [List.getElem?_set_ne (fun z => hj z.symm)] at ej
      obtain ⟨v', ev', rp', hn'⟩ := R.slot j m d' ej
      refine ⟨v', ev', ?_, hn'⟩
      cases m with
      | false => exact RepV.mono sm _ _ rp'
      | true =>
        obtain ⟨a, rfl, na, t'⟩ := rp'
        have ax : a ≠ x := fun z => by
          subst z
          exact R.apart j i d' d a hj ej e ev' ev
        refine ⟨a, rfl, by rw [upd_ne ax]; exact na, ?_⟩
        cases d' with
        | lst ds => obtain ⟨xs, q, rr⟩ := t'; exact ⟨xs, q, rr.mono sm _ _⟩
        | dct ds => obtain ⟨xs, q, rr⟩ := t'; exact ⟨xs, q, rr.mono sm _ _⟩
        | ins c fs => obtain ⟨C, dx, gs, n, q, rr⟩ := t'; exact ⟨C, dx, gs, n, q, rr.mono sm _ _⟩
        | set ks => obtain ⟨S, q, rr⟩ := t'; exact ⟨S, q, rr⟩
        | _ => exact t'.elim
  · have own : ∀ {j : Nat} {d1 : D}, (ρ.set i (some (false, d)))[j]? = some (some (true, d1)) → ρ[j]? = some (some (true, d1)) := fun {j d1} z => by
      by_cases hj : j = i
      · subst hj
        rw [List.getElem?_set_self hi] at z
        cases z
      · rw [List.getElem?_set_ne (fun y => hj y.symm)] at z; exact z
    exact R.apart j k d1 d2 a hjk (own e1) (own e2) q1 q2
def frzS (ρ : Rho) (i : Nat) : SRes := match ρ[i]? with
  | some (some (true, d)) => .nx (ρ.set i (some (false, d)))
  | _ => .stuck
theorem pbv_frz {C : Cw} {X : Cx} {sts : List Stmt} {i : Nat} {g : Rho → SRes} (h : PBv C X sts g) : PBv C X sts (fun ρ => (frzS ρ i).thn g) := by
  refine PSs.imp h fun E σ H q => ?_
  obtain ⟨ρ, F, R, w⟩ := q
  dsimp only at w
  unfold frzS at w
  split at w
  · rename_i d e
    obtain ⟨F', sm, R'⟩ := R.frz e
    exact ⟨_, F', R', WantS.mono sm w⟩
  · exact w.elim
end D3

namespace D3
open PySem PySem.Spec PyProof.Rows L2
/-! ### sets of texts: their members in the order of the entries, each once; a table that isn't plain as soon as there is one -/
def Ent (w : World) : List Str → List (Int × Value) → Prop
  | [], l => l = []
  | x :: xs, l => ∃ t r, l = (hashStr w x, .str x t) :: r ∧ Ent w xs r
theorem Ent.mem {w : World} : ∀ {xs : List Str} {l : List (Int × Value)}, Ent w xs l → ∀ e ∈ l, ∃ x t, x ∈ xs ∧ e = (hashStr w x, .str x t)
  | [], l, h, e, he => by
    have h : l = [] := h
    subst h; cases he
  | x :: xs, l, h, e, he => by
    obtain ⟨t, r, rfl, hr⟩ := h
    rcases List.mem_cons.mp he with rfl | he
    · exact ⟨x, t, List.mem_cons_self, rfl⟩
    · obtain ⟨y, u, hy, e1⟩ := hr.mem e he
      exact ⟨y, u, List.mem_cons_of_mem _ hy, e1⟩
theorem Ent.length {w : World} : ∀ {xs : List Str} {l : List (Int × Value)}, Ent w xs l → l.length = xs.length
  | [], l, h => by have h : l = [] := h; subst h; rfl
  | x :: xs, l, h => by
    obtain ⟨t, r, rfl, hr⟩ := h
    simp [hr.length]
theorem Ent.snoc {w : World} : ∀ {xs : List Str} {l : List (Int × Value)} {x : Str} {t : Tok}, Ent w xs l → Ent w (xs ++ [x]) (l ++ [(hashStr w x, .str x t)])
  | [], l, x, t, h => by
    have h : l = [] := h
    subst h; exact ⟨t, [], rfl, rfl⟩
  | y :: xs, l, x, t, h => by
    obtain ⟨u, r, rfl, hr⟩ := h
    exact ⟨u, _, rfl, hr.snoc⟩
theorem Ent.perm {w : World} {l l' : List (Int × Value)} (p : l'.Perm l) : ∀ {xs : List Str}, Ent w xs l → ∃ ys : List Str, ys.Perm xs ∧ Ent w ys l' := by
  induction p with
  | nil => exact fun h => ⟨_, .refl _, h⟩
  | cons e _ ih =>
    intro xs h
    cases xs with
    | nil => cases (show _ :: _ = [] from h)
    | cons x xs =>
      obtain ⟨t, r, e1, hr⟩ := h
      cases e1
      obtain ⟨ys, p1, h1⟩ := ih hr
      exact ⟨x :: ys, p1.cons x, t, _, rfl, h1⟩
  | swap a b l =>
    intro xs h
    cases xs with
    | nil => cases (show _ :: _ = [] from h)
    | cons x xs =>
      obtain ⟨t, r, e1, hr⟩ := h
      cases e1
      cases xs with
      | nil => cases (show _ :: _ = [] from hr)
      | cons y xs =>
        obtain ⟨u, r', e2, hr'⟩ := hr
        cases e2
        exact ⟨y :: x :: xs, .swap x y xs, u, _, rfl, t, _, rfl, hr'⟩
  | trans _ _ ih1 ih2 =>
    intro xs h
    obtain ⟨ys, p1, h1⟩ := ih2 h
    obtain ⟨zs, p2, h2⟩ := ih1 h1
    exact ⟨zs, p2.trans p1, h2⟩
def byText (w : World) : Bool := w.params.followText "set-order"
/-- a set of the texts xs (each once) at a -/
def SetX (w : World) (h : Heap) (a : Addr) (xs : List Str) : Prop := ∃ o es ep t, h.get? a = some o ∧ o.ExactSet ∧ o.data = .set es ep t ∧ Ent w xs es.toList ∧ xs.Nodup ∧ xs.length < scanBound ∧ t.fits es.size = true ∧ t.led = !byText w ∧ (xs = [] ∨ t.plain = false)
section
variable {prog : Program} {w : World} {A : Around} {E : Value → Shared → Prop} {s : Shared}
end
end D3

namespace D3
open PySem PySem.Spec PyProof.Rows L2
/-! ### set(t), t a tuple of texts -/
theorem SetX.kept {w : World} {h h' : Heap} {a : Addr} {xs : List Str} (x : SetX w h a xs) (k : ∀ o, h.get? a = some o → h'.get? a = some o) : SetX w h' a xs := by
  obtain ⟨o, es, ep, t, ho, r⟩ := x
  exact ⟨o, es, ep, t, k o ho, r⟩
theorem SetX.there {w : World} {h : Heap} {a : Addr} {xs : List Str} (x : SetX w h a xs) : a < h.objs.size := by
  obtain ⟨o, es, ep, t, ho, r⟩ := x
  exact Heap.lt_size ho
section
variable {prog : Program} {w : World} {A : Around} {E : Value → Shared → Prop} {s : Shared}
end
end D3

namespace D3
open PySem PySem.Spec PyProof.Rows L2
section
variable {prog : Program} {w : World} {A : Around} {E : Value → Shared → Prop} {s : Shared}
end
end D3

namespace D3
open PySem PySem.Spec PyProof.Rows L2
/-! ### a table laid clean: room enough, so that each finds its place -/
def Small (m : Nat) : Prop := m = 7 ∨ m = 15 ∨ m = 31
section
variable {m : Nat} {ow : Array (Option Nat)}
end
def layF (m : Nat) (acc : Option (Array (Option Nat) × Nat)) (h : Int) : Option (Array (Option Nat) × Nat) := do
  let (owner, k) ← acc
  let j ← SetTable.layClean.free m owner (SetTable.turns m) (SetTable.bits h % (m + 1)) (SetTable.bits h)
  pure (owner.setIfInBounds j (some k), k + 1)
end D3

namespace D3
open PySem PySem.Spec PyProof.Rows L2
/-! ### one set of texts laid into another -/
/-- a set whose table is small and has no gaps that were taken out -/
def SetM (w : World) (h : Heap) (a : Addr) (xs : List Str) : Prop := ∃ o es ep t, h.get? a = some o ∧ o.ExactSet ∧ o.data = .set es ep t ∧ Ent w xs es.toList ∧ xs.Nodup ∧ xs.length < scanBound ∧ t.fits es.size = true ∧ t.led = !byText w ∧ (xs = [] ∨ t.plain = false) ∧ Small t.mask ∧ t.dummies = #[]
theorem SetM.x {w : World} {h : Heap} {a : Addr} {xs : List Str} (m : SetM w h a xs) : SetX w h a xs := by
  obtain ⟨o, es, ep, t, h1, h2, h3, h4, h5, h6, h7, h8, h9, _, _⟩ := m
  exact ⟨o, es, ep, t, h1, h2, h3, h4, h5, h6, h7, h8, h9⟩
section
variable {prog : Program} {w : World} {A : Around} {E : Value → Shared → Prop} {s : Shared}
def Wide (h : Heap) (a : Addr) (n : Nat) : Prop := ∀ o es ep t, h.get? a = some o → o.data = .set es ep t → n ≤ t.mask
end
end D3

namespace D3
open PySem PySem.Spec PyProof.Rows L2
/-! ### a | b -/
theorem SetX.ty {w : World} {s : Shared} {a : Addr} {xs : List Str} (x : SetX w s.heap a xs) : s.TypeIs (.ref a) "set" := by
  obtain ⟨o, es, ep, t, ho, hex, r⟩ := x
  exact ⟨o, ho, hex.1⟩
section
variable {prog : Program} {w : World} {A : Around} {E : Value → Shared → Prop} {s : Shared}
end
end D3

namespace D3
open PySem PySem.Spec PyProof.Rows L2
/-! ### walking over a set of texts -/
/-- the walk at I over the set at a: its first field, how many were given -/
def SIt (h : Heap) (I a : Addr) (f : Value) (i n ep : Nat) : Prop := ∃ o, h.get? I = some o ∧ o.cls = .type "set_iterator" ∧ o.data = .fields #[f, .int i 0, .ref a, .int n 0, .int ep 0]
theorem SIt.ty {s : Shared} {I a : Addr} {f : Value} {i n ep : Nat} (x : SIt s.heap I a f i n ep) : s.TypeIs (.ref I) "set_iterator" := let ⟨o, h1, h2, _⟩ := x; ⟨o, h1, h2⟩
theorem SIt.at {h h' : Heap} {I a : Addr} {f : Value} {i n ep : Nat} (x : SIt h I a f i n ep) (k : ∀ o, h.get? I = some o → h'.get? I = some o) : SIt h' I a f i n ep := let ⟨o, h1, r⟩ := x; ⟨o, k o h1, r⟩
section
variable {prog : Program} {w : World} {A : Around} {E : Value → Shared → Prop} {s : Shared} {I a : Addr} {i n ep : Nat} {o : Obj} {es : Array (Int × Value)} {t : SetTable}
end
end D3

namespace D3
open PySem PySem.Spec PyProof.Rows L2
section
variable {prog : Program} {w : World} {A : Around} {E : Value → Shared → Prop} {s : Shared}
variable {I a : Addr} {ep : Nat} {o : Obj} {es : Array (Int × Value)} {t : SetTable}
end
end D3

namespace D3
open PySem PySem.Spec PyProof.Rows L2
/-! ### sorted(s) -/
section
variable {prog : Program} {w : World} {A : Around} {E : Value → Shared → Prop} {s : Shared} {a : Addr} {xs : List Str}
end
end D3

namespace D3
open PySem PySem.Spec PyProof.Rows L2
/-! ### the order of texts, and what is laid out by it -/
def lts (x y : Str) : Bool := ltCps x.cps.toList y.cps.toList
end D3

namespace D3
open PySem PySem.Spec PyProof.Rows L2
/-- a set of the texts ys at l -/
def sx (w : World) (l : Addr) (ys : List Str) : HO := .ext fun h => SetX w h l ys
theorem SetX.nodup {w : World} {h : Heap} {a : Addr} {xs : List Str} (x : SetX w h a xs) : xs.Nodup := by
  obtain ⟨o, es, ep, t, ho, hex, hd, he, hn, r⟩ := x
  exact hn
section
variable {X : Cx}
end
end D3

namespace D3
open PySem PySem.Spec PyProof.Rows L2
/-- texts all -/
def txD : List D → Option (List Str)
  | [] => some []
  | .str x :: ds => (txD ds).map (x :: ·)
  | _ :: _ => none
def txT : D → Option (List Str)
  | .tup ds => txD ds
  | _ => none
section
variable {C : Cw} {X : Cx} {ga gb : Rho → Res} {ea eb : Expr}
end
end D3

namespace D3
open PySem PySem.Spec PyProof.Rows L2
section
variable {C : Cw} {X : Cx} {ga gb : Rho → Res} {ea eb : Expr} {p p1 p2 q q1 q2 pos : Pos}
end
end D3

namespace D3
open PySem PySem.Spec PyProof.Rows L2
/-! ### tuple(reversed(l)) -/
section
variable {prog : Program} {w : World} {A : Around} {E : Value → Shared → Prop} {s : Shared} {I l : Addr} {items : Array Value}
end
section
variable {C : Cw} {X : Cx} {ga : Rho → Res} {ea : Expr} {p p1 q1 pos : Pos}
end
end D3

namespace D3
open PySem PySem.Spec PyProof.Rows L2
/-- a text's join of a tuple of texts -/
def joinT : Md → D → List (Md × D) → Option (Md × D) := fun _ x xs => match x, xs with
  | .str z, [(_, d)] => (match txT d with
    | some ys => if (ys.map (·.length)).sum + ys.length * z.length ≤ sizeLine then some (.fz, .str (Txt.join z ys)) else none
    | none => none)
  | _, _ => none
end D3

namespace D3
open PySem PySem.Spec PyProof.Rows L2
/-! ### comprehensions of two clauses, into a list or a set -/
def CE : Bool → Expr → List Comprehension → Scope → Pos → Expr
  | true, el, gs, sc, p => .ListComp el gs sc p
  | false, el, gs, sc, p => .SetComp el gs sc p
section
variable {prog : Program} {w : World} {A : Around} {R : Result → Shared → Prop} {s : Shared} {b : Bool} {elt tg iter tg2 iter2 : Expr} {ifs : List Expr} {scope : Scope} {pos : Pos} {it acc : Value} {env : Env}
end
end D3

namespace D3
open PySem PySem.Spec PyProof.Rows L2
end D3

namespace D3
open PySem PySem.Spec PyProof.Rows L2
/-! ### two clauses, by values -/
def AllF (ρ : Rho) : Prop := ∀ (i : Nat) (m : Bool) (d : D), ρ[i]? = some (some (m, d)) → m = false
theorem AllF.set {ρ : Rho} (h : AllF ρ) (i : Nat) (d : D) : AllF (ρ.set i (some (false, d))) := fun k m d' e => by
  rw [List.getElem?_set] at e
  split at e
  · split at e <;> cases e; rfl
  · exact h k m d' e
theorem RelSt.later {K : PySem.W.Frag} {F0 H0 F H F' H' : Hp} {σ : L2.St} {ρ : Rho} (R : RelSt K F0 H0 F H σ ρ) (af : AllF ρ) (st : Step F0 H0 F' H') (sF : Same F F') : RelSt K F0 H0 F' H' σ ρ :=
  ⟨st, fun i m d e => by
    obtain ⟨v, e1, r, _⟩ := R.slot i m d e
    cases af i m d e
    exact ⟨v, e1, RepV.mono sF _ _ r, by intro z; cases z⟩, fun i j d d' a _ e1 _ _ _ => absurd (af _ _ _ e1) (by decide), R.len⟩
/-- what stands in the list, the set so far -/
def AR (K : PySem.W.Frag) (w : World) (b : Bool) (Da : Addr) (F : Hp) (zs : List D) (o : HO) : Prop := match b with
  | true => ∃ ys, o = .lst ys ∧ RepL K F zs ys
  | false => ∃ (ns ys : List Str), zs = ns.map .str ∧ o = sx w Da ys ∧ ys.Nodup ∧ ys.length ≤ ns.length ∧ (∀ x, x ∈ ys ↔ x ∈ ns) ∧ ∀ x ∈ ns, x.length ≤ sizeLine ∧ PyData.strOk x = true
theorem AR.mono {K : PySem.W.Frag} {w : World} {b : Bool} {Da : Addr} {F F' : Hp} {zs : List D} {o : HO} (h : AR K w b Da F zs o) (s : Same F F') : AR K w b Da F' zs o := by
  cases b with
  | true => obtain ⟨ys, e, r⟩ := h; exact ⟨ys, e, r.mono s _ _⟩
  | false => exact h
end D3

namespace D3
open PySem PySem.Spec PyProof.Rows L2
section
variable {C : Cw} {X : Cx}
end
end D3

namespace D3
open PySem PySem.Spec PyProof.Rows L2
section
variable {C : Cw} {X : Cx} {elt iter tg iter2 tg2 : Expr} {ifs : List Expr} {scope : Scope} {pos : Pos} {caps : List Nat} {capN tgN : List Str} {gi gt gi2 ge : Rho → Res}
variable (hc : X.calm = true) (hi : PIv C X tg iter gi) (hcell : ∀ y ∈ scope.names, y.2 ≠ .cell) (hkind : scope.kind = .function) (hnames : ∀ y ∈ scope.names, y.2 = .local → scope.names.lookup y.1 = some .local)
    (hfree : ∀ y ∈ scope.names, y.2 = .free → X.env.kindOf y.1 = some .cell ∨ X.env.kindOf y.1 = some .free)
    (hcapN : capN.map some = caps.map fun i => X.N[i]?) (hcapF : ∀ y ∈ capN, (y, NameKind.free) ∈ scope.names)
    (hcapK : ∀ y ∈ capN, (relabel scope X.env).names.lookup y = some .cell ∨ (relabel scope X.env).names.lookup y = some .free)
    (hn : tgN.length = 2)
    (hg : ∀ cl A fp s3 H3, PGw (compCx X scope (capN ++ tgN) cl A fp s3 H3) tg (.nm caps.length)) (hf : ∀ cl A fp s3 H3, PIfs (compCx X scope (capN ++ tgN) cl A fp s3 H3) ifs (tT (C.nox.at X) gt))
    (hi2 : ∀ cl A fp s3 H3, PIv C.nox (compCx X scope (capN ++ tgN) cl A fp s3 H3) tg2 iter2 gi2) (hg2 : ∀ cl A fp s3 H3, PGw (compCx X scope (capN ++ tgN) cl A fp s3 H3) tg2 (.nm (caps.length + 1)))
    (he : ∀ cl A fp s3 H3, PV C.nox (compCx X scope (capN ++ tgN) cl A fp s3 H3) elt ge)
    (hs : ∀ x, foldedSetIterable iter X.env x = pure x) (hs2 : ∀ env x, foldedSetIterable iter2 env x = pure x)
include hc hi hcell hkind hnames hfree hcapN hcapF hcapK hn hg hf hi2 hg2 he hs hs2
end
end D3

namespace D3
open PySem PySem.Spec PyProof.Rows L2 PySem.W
/-! ### the sort by questions: unlike things in a strict order -/
structure StrO (n : Nat) (lt : Nat → Nat → Bool) : Prop where
  tr : ∀ {i j k}, lt i j = true → lt j k = true → lt i k = true
  asy : ∀ {i j}, lt i j = true → lt j i = false
  tot : ∀ {i j}, i < n → j < n → i ≠ j → lt i j = true ∨ lt j i = true
structure PP (n : Nat) (p : Array Nat) : Prop where
  size : p.size = n
  below : ∀ k, p.getD k 0 < n
  inj : ∀ i j, i < n → j < n → p.getD i 0 = p.getD j 0 → i = j
theorem PP.perm {n : Nat} {p q : Array Nat} (h : PP n p) (e : q.Perm p) : PP n q := by
  have sz : q.size = n := by rw [e.size_eq, h.size]
  have nd : p.toList.Nodup := by
    refine List.pairwise_iff_getElem.mpr fun i j hi hj hij e1 => ?_
    rw [Array.length_toList] at hi hj
    have a1 : p.getD i 0 = p.getD j 0 := by
      have e1 : p[i] = p[j] := by simpa using e1
      simp [Array.getD, hi, hj, e1]
    rw [h.size] at hi hj
    exact absurd (h.inj i j hi hj a1) (by omega)
  have nd2 : q.toList.Nodup := (Array.perm_iff_toList_perm.mp e).symm.nodup nd
  refine ⟨sz, fun k => ?_, fun i j hi hj e1 => ?_⟩
  · simp only [Array.getD_eq_getD_getElem?]
    cases z : q[k]? with
    | none =>
      have := h.below p.size
      simp only [Array.getD_eq_getD_getElem?, Array.getElem?_size] at this
      exact this
    | some v =>
      have hm : v ∈ p.toList := (Array.perm_iff_toList_perm.mp e).mem_iff.mp (by rw [Array.mem_toList_iff]; exact Array.mem_of_getElem? z)
      obtain ⟨i, hi⟩ := List.getElem?_of_mem hm
      have := h.below i
      rw [Array.getElem?_toList] at hi
      simp only [Array.getD_eq_getD_getElem?, hi] at this
      exact this
  · have hi' : i < q.toList.length := by rw [Array.length_toList, sz]; exact hi
    have hj' : j < q.toList.length := by rw [Array.length_toList, sz]; exact hj
    refine (List.getElem_inj (h₀ := hi') (h₁ := hj') nd2).mp ?_
    have a1 : i < q.size := by omega
    have a2 : j < q.size := by omega
    simpa [Array.getD, a1, a2] using e1
section
variable {n : Nat} {lt : Nat → Nat → Bool} {cmp : Nat → Nat → (Bool → Shared → Prop) → Shared → Prop} {J : Shared → Prop}
/-- p stands in order from the left up to b -/
def Upto (lt : Nat → Nat → Bool) (p : Array Nat) (b : Nat) : Prop := ∀ i j, i < j → j < b → lt (p.getD i 0) (p.getD j 0) = true
def Dnto (lt : Nat → Nat → Bool) (p : Array Nat) (b : Nat) : Prop := ∀ i j, i < j → j < b → lt (p.getD j 0) (p.getD i 0) = true
theorem Upto.more (O : StrO n lt) {p : Array Nat} {m : Nat} (h : Upto lt p m) (hm : 1 ≤ m) (e : lt (p.getD (m - 1) 0) (p.getD m 0) = true) : Upto lt p (m + 1) := fun i j hij hj => by
  by_cases hjm : j < m
  · exact h i j hij hjm
  · have : j = m := by omega
    subst this
    by_cases hi : i = j - 1
    · rw [hi]; exact e
    · exact O.tr (h i (j - 1) (by omega) (by omega)) e
theorem Dnto.more (O : StrO n lt) {p : Array Nat} {m : Nat} (h : Dnto lt p m) (hm : 1 ≤ m) (e : lt (p.getD m 0) (p.getD (m - 1) 0) = true) : Dnto lt p (m + 1) := fun i j hij hj => by
  by_cases hjm : j < m
  · exact h i j hij hjm
  · have : j = m := by omega
    subst this
    by_cases hi : i = j - 1
    · rw [hi]; exact e
    · exact O.tr e (h i (j - 1) (by omega) (by omega))
end
end D3

namespace D3
open PySem PySem.Spec PyProof.Rows L2 PySem.W
/-! ### tuples of texts in their order -/
def ltT : List Str → List Str → Bool
  | [], [] => false
  | [], _ :: _ => true
  | _ :: _, [] => false
  | x :: xs, y :: ys => if x = y then ltT xs ys else lts x y
def StrictT (l : List (List Str)) : Prop := l.Pairwise fun x y => ltT x y = true
/-! ### how two of them are compared -/
def TupS (h : Heap) (x : Addr) (a : List Str) : Prop := ∃ o xs n, h.get? x = some o ∧ o.cls = .type "tuple" ∧ o.data = .seq xs n ∧ PyProof.Rows.StrsAre xs.toList a
section
variable {prog : Program} {w : World} {A : Around} {E : Value → Shared → Prop} {s : Shared}
theorem TupS.kept {h h' : Heap} {x : Addr} {a : List Str} (t : TupS h x a) (k : ∀ o, h.get? x = some o → h'.get? x = some o) : TupS h' x a := by
  obtain ⟨o, xs, n, g, r⟩ := t
  exact ⟨o, xs, n, k o g, r⟩
end
end D3

namespace D3
open PySem PySem.Spec PyProof.Rows L2 PySem.W
/-- a way through the places 0 .. n-1 under which the tuples rise -/
structure Way (ts : List (List Str)) (p : List Nat) : Prop where
  perm : p.Perm (List.range ts.length)
  up : StrictT (p.map fun i => ts.getD i [])
section
variable {prog : Program} {w : World} {A : Around} {E : Value → Shared → Prop} {s : Shared}
end
end D3

namespace D3
open PySem PySem.Spec PyProof.Rows L2 PySem.W
/-! ### sorted(l), l a list of unlike tuples of texts -/
section
variable {X : Cx}
end
end D3

namespace D3
open PySem PySem.Spec PyProof.Rows L2 PySem.SeqAt PySem.MeetsSeq
/-! ### & | << >> of ints -/
abbrev fBand : Md → D → Md → D → Option (Md × D) := fI (fun _ _ => true) fun i j => .int (Builtin.bitAnd i j)
abbrev fBor : Md → D → Md → D → Option (Md × D) := fI (fun _ _ => true) fun i j => .int (Builtin.bitOr i j)
abbrev fShl : Md → D → Md → D → Option (Md × D) := fI (fun i j => decide (0 ≤ j) && decide (j ≤ 1000000) && decide (i.natAbs < 2 ^ 64)) fun i j => .int (i * 2 ^ j.toNat)
abbrev fShr : Md → D → Md → D → Option (Md × D) := fI (fun _ j => decide (0 ≤ j)) fun i j => .int (i / 2 ^ j.toNat)
section
variable {C : Cw} {X : Cx}
theorem opd_band : OpD C X (binaryOp .BitAnd) fBand := opd_I0 op_and fun _ _ i j => rp_int _
theorem opd_bor : OpD C X (binaryOp .BitOr) fBor := opd_I0 op_or fun _ _ i j => rp_int _
theorem opd_shl : OpD C X (binaryOp .LShift) fShl := opd_I op_shl (fun i j h => by
  simp only [Bool.and_eq_true, decide_eq_true_eq] at h
  exact ⟨h.1.1, h.1.2, h.2⟩) fun _ _ i j => rp_int _
theorem opd_shr : OpD C X (binaryOp .RShift) fShr := opd_I op_shr (fun i j h => of_decide_eq_true h) fun _ _ i j => rp_int _
/-! ### sum(l), l a list of ints -/
end
/-! ### l.index(x) of a list -/
section
variable {X : Cx} {o e : Expr} {apos cpos : Pos} {td ty : TE}
end
section
variable {C : Cw} {X : Cx} {o e : Expr} {apos cpos : Pos} {go g : Rho → Res}
end
end D3

namespace D3
open PySem PySem.Spec PyProof.Rows L2
/-! ### a dict walked while it is read -/
end D3

namespace D3
open PySem PySem.Spec PyProof.Rows L2
/-! ### [x for x in d if d[x] & m != 0] -/
section
variable {C : Cw} {X : Cx} {pos : Pos} {scope : Scope} {caps : List Nat} {capN : List Str} {x d m : Str} {p0 p1 p2 p3 p4 p5 p6 p7 p8 p9 : Pos} {i j jd jm k0 : Nat}
end
end D3

namespace L2
open PySem PySem.Spec PyProof.Rows D3
/-! ### a comprehension whose one target is a cell: another comprehension within reads it -/
end L2
namespace D3
open PySem PySem.Spec PyProof.Rows L2
section
variable {C : Cw} {X : Cx} {pos : Pos}
end
end D3

set_option genSizeOfSpec false
set_option genInjectivity false
namespace D3
open PySem PySem.Spec PyProof.Rows L2
/-! ### a small language for what is read off the text, its matcher and its values -/
inductive KC where | s (y : Str) | i (n : Int) | t (tb : List (Str × Str))
  deriving DecidableEq
def KC.d : KC → D | .s y => .str y | .i n => .int n | .t _ => .non
inductive GV where | con (c : KC) | fn (n : Nat) | no | cls
  deriving DecidableEq
inductive Bn where | len | isinstance | all | min
  deriving DecidableEq
def Bn.name : Bn → Str
  | .len => "len" | .isinstance => "isinstance" | .all => "all" | .min => "min"
def Bn.f : Bn → List (Md × D) → Option (Md × D)
  | .len => lenD | .isinstance => isiD | .all => allD | .min => minD
def Bn.id : Bn → String
  | .len => "len" | .isinstance => "isinstance" | .all => "all" | .min => "min"
inductive Ty where | int | bool | str | tuple | list | dict
  deriving DecidableEq
def Ty.f : Ty → List (Md × D) → Option (Md × D)
  | .tuple => tcTuple | .list => tcList | .int => tcInt2 | .str => tcStr | .dict => tcDict | _ => fun _ => none
def Ty.id : Ty → String
  | .int => "int" | .bool => "bool" | .str => "str" | .tuple => "tuple" | .list => "list" | .dict => "dict"
inductive Mt where | join | startswith | removeprefix | joinT
  deriving DecidableEq
def Mt.name : Mt → Str | .join => "join" | .startswith => "startswith" | .removeprefix => "removeprefix" | .joinT => "join"
def Mt.ty : Mt → String | .join => "str" | .startswith => "str" | .removeprefix => "str" | .joinT => "str"
def Mt.f : Mt → Md → D → List (Md × D) → Option (Md × D) | .join => joinD | .startswith => swD | .removeprefix => rpD | .joinT => D3.joinT
/-- what is known of the whole text: the defs, the objects made, the classes -/
structure WD where
  Φ : Str → List D → Res
  I : Str → Option (List D → Res)
  cl : List CI
  xt : List ((Str × Str) × Bool)
  xi : List ((Str × Str) × Bool)
def WD.xf (W : WD) : Str → Str → Option Bool := fun c x => W.xt.lookup (c, x)
def WD.xg (W : WD) : Str → Str → Option Bool := fun c x => W.xi.lookup (c, x)
inductive E where
  | var (i : Nat) | non | bl (b : Bool) | int (i : Int) | str (x : Str)
  | glob (x : Str) (c : KC) | ty (t : Ty)
  | bin (op : Operator) (a b : E) | cmp (op : CmpOp) (a b : E)
  | andL (es : List E) | orL (es : List E) | not (a : E) | neg (a : E) | tru (a : E) | frz (a : E)
  | ix (a b : E)
  | tup (es : List E) | lst (es : List E)
  | call (f : Str) (n : Nat) (es : List E) | bcall (b : Bn) (es : List E)
  | items (a : E) | zip2 (a b : E) | enum1 (a : E)
  | comp (elt it : E) (ts : List E) (caps : List Nat) (t : Tg) (n : Nat) | fmt (a : E) | fstr (es : List E)
  | chain (op op' : CmpOp) (a b c : E) | tcall (t : Ty) (es : List E)
 
 
 
  | minN (a : E)
  | isi (a : E) (c : Str) | fld (a : E) (f : Str) | meth (o : E) (m : Str) (es : List E) | mk0 (c : Str) | make (c key : Str) (n : Nat) (es : List E)
 
def noF : Md → D → Md → D → Option (Md × D) := fun _ _ _ _ => none
def fBin : Operator → Md → D → Md → D → Option (Md × D)
  | .Add => orO fAdd catD | .Sub => fSub | .Mult => orO fMul noK | .Mod => fMod | .FloorDiv => fDiv | .Pow => fPow | .BitAnd => fBand | .BitOr => fBor | .LShift => fShl | .RShift => fShr | _ => noF
def fCmp : CmpOp → Md → D → Md → D → Option (Md × D)
  | .Lt => orO fLt noK | .LtE => fLe | .Gt => fGt | .GtE => fGe | .Eq => fEq | .NotEq => fNe | .In => orO fIn noK | .NotIn => orO fNotIn noK | .Is => fIs false | .IsNot => fIs true
mutual
def evE (W : WD) : E → Rho → Res
  | .var i, ρ => getS ρ i
  | .non, _ => .ok .fz .non
  | .bl b, _ => .ok .fz (.bl b)
  | .int i, _ => .ok .fz (.int i)
  | .str x, _ => .ok .fz (.str x)
  | .glob _ c, _ => .ok .fz c.d
  | .ty t, _ => .ok .fz (.ty t.id)
  | .bin op a b, ρ => op2 (fBin op) (evE W a ρ) (evE W b ρ)
  | .cmp op a b, ρ => op2 (fCmp op) (evE W a ρ) (evE W b ρ)
  | .andL es, ρ => evA W es ρ
  | .orL es, ρ => evO' W es ρ
  | .not a, ρ => notR (evE W a ρ)
  | .neg a, ρ => negR (evE W a ρ)
  | .tru a, ρ => truR (evE W a ρ)
  | .frz a, ρ => frzR (evE W a ρ)
  | .ix a b, ρ => op2 ixD (evE W a ρ) (evE W b ρ)
  | .tup es, ρ => tupR (evEs W es ρ)
  | .lst es, ρ => lstR (evEs W es ρ)
  | .call f n es, ρ => callF n (W.Φ f) (evEs W es ρ)
  | .bcall b es, ρ => callR b.f (evEs W es ρ)
  | .items a, ρ => itemsR (frzR (evE W a ρ))
  | .zip2 a b, ρ => zipR (consL (evE W a ρ) (consL (evE W b ρ) (.ok [])))
  | .enum1 a, ρ => enumR (consL (frzR (evE W a ρ)) (.ok []))
  | .comp elt it ts caps t n, ρ => compR (evE W it ρ) ρ caps n (setG t) (fun ρ => evF W ts ρ) (fun ρ => evE W elt ρ)
  | .fmt a, ρ => fmtR (evE W a ρ)
  | .fstr es, ρ => joinF Str.empty (evL W es) ρ
  | .chain op op' a b c, ρ => chainR (fCmp op) (fCmp op') (evE W a ρ) (evE W b ρ) (evE W c ρ)
  | .tcall t es, ρ => callR t.f (evEs W es ρ)
  | .minN a, ρ => minNR (evE W a ρ)
  | .isi a c, ρ => isoR W.cl c (evE W a ρ)
  | .fld a f, ρ => fldR W.cl f (evE W a ρ)
  | .meth o m es, ρ => methR W.cl W.Φ m (evE W o ρ) (evEs W es ρ)
  | .mk0 c, _ => .ok .fr (.ins c [])
  | .make c key n es, ρ => match W.I key with | some Φ => makeR n Φ (evEs W es ρ) | none => .stuck
def evEs (W : WD) : List E → Rho → ResL
  | [], _ => .ok []
  | e :: es, ρ => consL (evE W e ρ) (evEs W es ρ)
def evA (W : WD) : List E → Rho → Res
  | [], _ => .stuck
  | [e], ρ => evE W e ρ
  | e :: es, ρ => andR (evE W e ρ) (evA W es ρ)
def evO' (W : WD) : List E → Rho → Res
  | [], _ => .stuck
  | [e], ρ => evE W e ρ
  | e :: es, ρ => orR (evE W e ρ) (evO' W es ρ)
def evF (W : WD) : List E → Rho → Res
  | [], _ => .ok .fz (.bl true)
  | e :: es, ρ => andR (evE W e ρ) (evF W es ρ)
def evL (W : WD) : List E → List (Rho → Res)
  | [] => []
  | e :: es => evE W e :: evL W es
def evO (W : WD) : Option E → Option (Rho → Res)
  | none => none
  | some e => some (evE W e)
end
/-- the matcher's surroundings -/
structure MG where
  G : List (Str × GV)
  mk0 : List Str
  mki : List (Str × Str × Nat)
  iso : List Str
  xcs : List Str
  xns : List Str
structure MC where
  N : List Str
  sc : Scope
  g : MG
  fn : Bool
  calm : Bool
  rz : Bool
def MC.kind (m : MC) (x : Str) : Option NameKind := m.sc.names.lookup x
def MC.vis (m : MC) (x : Str) : Bool := (m.kind x == some .local || m.kind x == some .cell || m.kind x == some .free) && x != "__debug__" && x != "__classdict__"
def MC.glob (m : MC) (x : Str) (v : GV) : Bool := m.kind x == some .globalImplicit && m.g.G.lookup x == some v && x != "__debug__" && x != "__name__"
def MC.gk (m : MC) (x : Str) : Bool := m.kind x == some .globalImplicit && x != "__debug__"
def strK (x : Str) : Bool := decide (x.length ≤ sizeLine) && PyData.strOk x
def notSl : Expr → Bool | .Slice .. => false | _ => true
def isTupT : Expr → Bool | .Tuple .. => true | _ => false
def notSet : Expr → Bool | .Set .. => false | _ => true
def plainT : Expr → Bool | .UnaryOp .Not _ _ => false | .BoolOp .. => false | .IfExp .. => false | .Compare .. => false | _ => true
def MC.sub (m : MC) (scope : Scope) (capN tgN : List Str) : MC := { m with N := capN ++ tgN, sc := { scope with names := relSc scope m.sc }, fn := false, rz := false }
def MC.loc (m : MC) (i : Nat) (x : Str) : Bool := m.N[i]? == some x && (m.kind x == some .local || (m.fn && m.kind x == some .cell))
mutual
def mG (m : MC) : Tg → Expr → Bool
  | .nm i, e => match e with | .Name x _ => m.loc i x | _ => false
  | .tp ts, e => match e with | .Tuple es _ _ => m.calm && es.all notStarT && mGs m ts es | _ => false
def mGs (m : MC) : List Tg → List Expr → Bool
  | [], es => es.isEmpty
  | t :: ts, l => match l with | e :: es => mG m t e && mGs m ts es | _ => false
end
/-- the names of a target, from the left -/
def tgNames : Nat → Expr → List Str
  | _, .Name x _ => [x]
  | n + 1, .Tuple es _ _ => es.flatMap (tgNames n)
  | _, _ => []
def compOkT (scope sc : Scope) (N : List Str) (caps : List Nat) (capN tgN : List Str) : Bool :=
  scope.names.all (fun y => y.2 != .cell) && scope.kind == .function && scope.names.all (fun y => y.2 != .local || scope.names.lookup y.1 == some .local) &&
  scope.names.all (fun y => y.2 != .free || sc.names.lookup y.1 == some .cell || sc.names.lookup y.1 == some .free) && (capN.map some == caps.map fun i => N[i]?) && capN.all (fun y => scope.names.contains (y, .free)) &&
  capN.all (fun y => (relSc scope sc).lookup y == some .cell || (relSc scope sc).lookup y == some .free) && decide (capN ++ tgN).Nodup
def strK' : KC → Bool | .s y => strK y | .i _ => true | .t _ => false
/-- what a text's surroundings give -/
structure SX (k : Nat) (W : WD) (m : MC) (C : Cw) (X : Cx) : Prop where
  hN : X.N = m.N
  hs : X.env.scope = m.sc
  cm : m.calm = true → X.calm = true
  rm : m.calm = true → Room k X.A
  un : X.A.units + 64 < cLine
  xo : m.calm = true → XOk (CX1 X.prog X.w) (C.at X) X
  xt : XtOk X.K X.mg W.xf
  xi : XisOk X.K X.mg W.xg
  xc : ∀ c, c ∈ m.g.xcs → ∃ Cc, X.mg c = some (.ref Cc) ∧ RzCls X.K Cc
  xn : ∀ n, n ∈ m.g.xns → ∃ cv, ClsV X.mg n cv
  con : ∀ x c, m.g.G.lookup x = some (.con c) → match c with | .s y => ∃ t, X.mg x = some (.str y t) | .i n => ∃ t, X.mg x = some (.int n t) | .t tb => TabV X.w X.K X.mg x tb
  no : ∀ x, m.g.G.lookup x = some .no → X.mg x = none
  mk0 : ∀ c, c ∈ m.g.mk0 → MkV0 X.K X.mg c
  mki : ∀ c key n, (c, key, n) ∈ m.g.mki → ∀ Φ, W.I key = some Φ → ∃ j, j + 1 ≤ k ∧ InV X.prog X.w X.K X.mg X.base (CX1 X.prog X.w) j c n Φ
  iso : ∀ c, c ∈ m.g.iso → IsV X.K X.mg W.cl c
  fl : ∀ i f, i ∈ W.cl → f ∈ i.flds → FlV X.K i.name f
  mt : ∀ c m key n, CI.meth W.cl c m = some (key, n) → MtV X.prog X.w X.K X.mg X.base (CX1 X.prog X.w) k c m n (W.Φ key)
  fn : ∀ x n, m.g.G.lookup x = some (.fn n) → FnV X.prog X.w X.K X.mg X.base (CX1 X.prog X.w) k x n (W.Φ x)
  fnn : m.fn = true → ∀ x, X.fn x = true
section
variable {k : Nat} {W : WD} {m : MC} {C : Cw} {X : Cx} {x y : Expr}
theorem SX.gl (S : SX k W m C X) {z : Str} {v : GV} (h : m.glob z v = true) : Gl X z ∧ m.g.G.lookup z = some v ∧ (z == ("__debug__" : Str)) = false ∧ z ≠ "__name__" := by
  unfold MC.glob MC.kind at h
  simp only [Bool.and_eq_true, beq_iff_eq, bne_iff_ne] at h
  obtain ⟨⟨⟨h1, h2⟩, h3⟩, h4⟩ := h
  refine ⟨?_, h2, by simpa using h3, h4⟩
  show X.env.scope.names.lookup z = _
  rw [S.hs]; exact h1
theorem SX.gk (S : SX k W m C X) {z : Str} (h : m.gk z = true) : Gl X z ∧ (z == ("__debug__" : Str)) = false := by
  unfold MC.gk MC.kind at h
  simp only [Bool.and_eq_true, beq_iff_eq, bne_iff_ne] at h
  refine ⟨?_, by simpa using h.2⟩
  show X.env.scope.names.lookup z = _
  rw [S.hs]; exact h.1
theorem SX.vis (S : SX k W m C X) {z : Str} (h : m.vis z = true) : Vis X.env.scope z ∧ (z == ("__debug__" : Str)) = false ∧ (z == ("__classdict__" : Str)) = false := by
  unfold MC.vis MC.kind at h
  simp only [Bool.and_eq_true, Bool.or_eq_true, beq_iff_eq, bne_iff_ne] at h
  obtain ⟨⟨h1, h2⟩, h3⟩ := h
  refine ⟨?_, by simpa using h2, by simpa using h3⟩
  unfold Vis
  rw [S.hs]
  rcases h1 with (h1 | h1) | h1
  · exact .inl h1
  · exact .inr (.inl h1)
  · exact .inr (.inr h1)
theorem bn_boot (b : Bn) : bootBuiltins b.name = some (.builtin b.id) := by
  cases b
  · exact bb_len
  · exact bb_isinstance
  · exact bb_all
  · exact bb_min
theorem bn_call (b : Bn) {c : Bool} (hc : c = true → X.calm = true) (h : (c || b == .len || b == .isinstance) = true) : CallD X (.builtin b.id) b.f := by
  have hc : (b == .len || b == .isinstance) = false → X.calm = true := fun z => hc (by cases c with | true => rfl | false => rw [Bool.false_or] at h; rw [h] at z; cases z)
  cases b
  · exact calld_len
  · exact calld_isi
  · exact calld_all (hc rfl)
  · exact calld_min (hc rfl)
theorem no_call {f : Value} : CallD X f (fun _ => none) := ⟨fun _ _ _ => False, fun _ _ _ _ _ _ _ _ _ h => h.elim, fun _ _ _ _ _ _ _ _ _ e _ => by cases e⟩
theorem ty_call (t : Ty) : CallD X (.type t.id) t.f := by
  cases t
  · exact calld_int2
  · exact no_call
  · exact calld_str
  · exact calld_tuple
  · exact calld_list
  · exact calld_dict
theorem ty_boot (t : Ty) : bootBuiltins (t.id : Str) = some (.type t.id) := by
  cases t
  · exact bb_int
  · exact bb_bool
  · exact bb_str
  · exact bb_tuple
  · exact bb_list
  · exact bb_dict
theorem bin_op (op : Operator) : (∃ φ, fBin op = φ ∧ OpD C X (binaryOp op) φ) ∨ fBin op = noF := by
  cases op
  case Add => exact .inl ⟨_, rfl, o_add.or opd_cat⟩
  case Sub => exact .inl ⟨_, rfl, opd_sub⟩
  case Mult => exact .inl ⟨_, rfl, o_mul.or opd_noK⟩
  case Mod => exact .inl ⟨_, rfl, opd_mod⟩
  case FloorDiv => exact .inl ⟨_, rfl, opd_fdiv⟩
  case Pow => exact .inl ⟨_, rfl, opd_pow⟩
  case BitAnd => exact .inl ⟨_, rfl, opd_band⟩
  case BitOr => exact .inl ⟨_, rfl, opd_bor⟩
  case LShift => exact .inl ⟨_, rfl, opd_shl⟩
  case RShift => exact .inl ⟨_, rfl, opd_shr⟩
  all_goals exact .inr rfl
theorem isB_noK : IsB noK := fun _ _ _ _ _ _ z => by cases z
theorem cmp_op (op : CmpOp) (hu : X.A.units + 64 < cLine) : (OpD C X (compareOp op) (fCmp op) ∧ IsB (fCmp op)) ∨ fCmp op = noF := by
  cases op
  case Lt => exact .inl ⟨opd_lt.or opd_noK, isB_or isB_I isB_noK⟩
  case LtE => exact .inl ⟨opd_le, isB_I⟩
  case Gt => exact .inl ⟨opd_gt, isB_I⟩
  case GtE => exact .inl ⟨opd_ge, isB_I⟩
  case Eq => exact .inl ⟨o_eq hu, isB_or isB_eqF isB_noK⟩
  case NotEq => exact .inl ⟨o_ne hu, isB_or isB_eqF isB_noK⟩
  case In => exact .inl ⟨opd_inS.or opd_noK, isB_or isB_S isB_noK⟩
  case NotIn => exact .inl ⟨opd_notinS.or opd_noK, isB_or isB_S isB_noK⟩
  case Is => exact .inl ⟨opd_is, isB_is⟩
  case IsNot => exact .inl ⟨opd_isnot, isB_is⟩
theorem noF_opd {f : Value → Value → Sem Value} : OpD C X f noF := ⟨fun _ _ _ _ => False, fun _ _ _ _ _ _ _ _ _ _ _ _ h => h.elim, fun _ _ _ _ _ _ _ _ _ _ _ _ _ _ e _ => by cases e⟩
theorem bin_opd (op : Operator) : OpD C X (binaryOp op) (fBin op) := by
  rcases bin_op (C := C) (X := X) op with ⟨φ, e, h⟩ | e
  · rw [e]; exact h
  · rw [e]; exact noF_opd
theorem cmp_opd (op : CmpOp) (hu : X.A.units + 64 < cLine) : OpD C X (compareOp op) (fCmp op) ∧ IsB (fCmp op) := by
  rcases cmp_op (C := C) op hu with h | e
  · exact h
  · rw [e]; exact ⟨noF_opd, fun _ _ _ _ _ _ z => by cases z⟩
theorem nomarkS (op : CmpOp) {e : Expr} (h : notSet e = true) : behindInMarks op e = false := by
  cases e <;> first | rfl | cases h
theorem nofold {e : Expr} {env : Env} (h : notSet e = true) : ∀ v, foldedSetIterable e env v = pure v := by
  intro v
  cases e <;> first | rfl | cases h
theorem plainIx {e : Expr} (h : notSl e = true) : PlainIx e := by
  intro o i
  cases e <;> first | rfl | cases h
theorem plain_true {e : Expr} {env : Env} (h : plainT e = true) : ∀ whole, isTrue e env whole = (do let v ← whole; standAt e.pos; holding [v] (truthy v)) := by
  intro whole
  cases e
  case UnaryOp op _ _ => cases op <;> first | rfl | cases h
  all_goals first | rfl | cases h
theorem SX.sub (S : SX k W m C X) {scope : Scope} {capN tgN : List Str} (cl : List (Str × Addr)) (A : Addr) (fp : List Addr) (s3 : Shared) (H3 : Hp) : SX k W (m.sub scope capN tgN) C.nox (compCx X scope (capN ++ tgN) cl A fp s3 H3) := by
  refine ⟨rfl, ?_, S.cm, S.rm, S.un, fun _ pins σ H s e s' I h => ?_, S.xt, S.xi, S.xc, S.xn, S.con, S.no, S.mk0, S.mki, S.iso, S.fl, S.mt, S.fn, fun z => by cases z⟩
  rotate_left
  · obtain ⟨_, _, _, _, _, _, _, _, _, _, _, _, z⟩ := h
    exact z.elim
  show (compEnvC scope cl A X.env).scope = _
  unfold MC.sub
  rw [← S.hs]
  rfl
theorem SX.loc (S : SX k W m C X) {i : Nat} {z : Str} (h : m.loc i z = true) : X.N[i]? = some z ∧ L2.Loc X.env.scope z ∧ (X.fn z = true ∨ X.env.scope.names.lookup z = some .local) := by
  unfold MC.loc MC.kind at h
  simp only [Bool.and_eq_true, Bool.or_eq_true, beq_iff_eq] at h
  refine ⟨by rw [S.hN]; exact h.1, ?_, ?_⟩
  · unfold L2.Loc
    rw [S.hs]
    rcases h.2 with q | q
    · exact .inl q
    · exact .inr q.2
  · rw [S.hs]
    rcases h.2 with q | q
    · exact .inr q
    · exact .inl (S.fnn q.1 z)
mutual
theorem sG (S : SX k W m C X) (hN : m.N.Nodup) : ∀ (t : Tg) {e : Expr}, mG m t e = true → PGw X e t
  | .nm i, e, h => by
    simp only [mG] at h
    split at h
    · obtain ⟨a, b, c⟩ := S.loc h
      exact pgw_name (by rw [S.hN]; exact hN) a b c
    · cases h
  | .tp ts, e, h => by
    simp only [mG] at h
    split at h
    · rw [Bool.and_eq_true, Bool.and_eq_true, List.all_eq_true] at h
      obtain ⟨p, l⟩ := sGs S hN ts h.2 h.1.2
      exact pgw_tup (S.cm h.1.1) p h.1.2 l
    · cases h
theorem sGs (S : SX k W m C X) (hN : m.N.Nodup) : ∀ (ts : List Tg) {es : List Expr}, mGs m ts es = true → (∀ e ∈ es, notStarT e = true) → PGws X es ts ∧ es.length = ts.length
  | [], [], h, _ => ⟨pgws_nil, rfl⟩
  | [], _ :: _, h, _ => by simp [mGs] at h
  | t :: ts, [], h, _ => by simp [mGs] at h
  | t :: ts, e :: es, h, hs => by
    simp only [mGs, Bool.and_eq_true] at h
    obtain ⟨p, l⟩ := sGs S hN ts h.2 fun x hx => hs x (List.mem_cons_of_mem _ hx)
    exact ⟨pgws_cons (sG S hN t h.1) p (hs e List.mem_cons_self), by rw [List.length_cons, List.length_cons, l]⟩
end
end
end D3

namespace D3
open PySem PySem.Spec PyProof.Rows L2
theorem pv_never {C : Cw} {X : Cx} {e : Expr} : PV C X e (fun _ => .stuck) := fun pins s σ H Q I q => by
  rw [tG_eq] at q
  obtain ⟨ρ, F, R, w⟩ := q
  exact w.elim
/-- what a match gives -/
abbrev PE (m : MC) (f : E) (e : Expr) : Prop := ∀ {k : Nat} {W : WD} {C : Cw} {X : Cx}, SX k W m C X → PV C X e (evE W f)
abbrev PTE (m : MC) (f : E) (e : Expr) : Prop := ∀ {k : Nat} {W : WD} {C : Cw} {X : Cx}, SX k W m C X → PTv C X e (evE W f)
abbrev PIE (m : MC) (tg : Expr) (f : E) (e : Expr) : Prop := ∀ {k : Nat} {W : WD} {C : Cw} {X : Cx}, SX k W m C X → PIv C X tg e (evE W f)
inductive AllE (m : MC) : List E → List Expr → Prop
  | nil : AllE m [] []
  | cons {f fs x xs} : notStar x = true → PE m f x → AllE m fs xs → AllE m (f :: fs) (x :: xs)
inductive AllT (m : MC) : List E → List Expr → Prop
  | nil : AllT m [] []
  | cons {f fs x xs} : PTE m f x → AllT m fs xs → AllT m (f :: fs) (x :: xs)
abbrev CkE (m : MC) (f : E) (e : Expr) : Type := Option (PLift (PE m f e))
abbrev CkT (m : MC) (f : E) (e : Expr) : Type := Option (PLift (PTE m f e))
abbrev CkI (m : MC) (tg : Expr) (f : E) (e : Expr) : Type := Option (PLift (PIE m tg f e))
abbrev CkEs (m : MC) (f : List E) (e : List Expr) : Type := Option (PLift (AllE m f e))
abbrev CkF (m : MC) (f : List E) (e : List Expr) : Type := Option (PLift (AllT m f e))
abbrev CkO (m : MC) (f : Option E) (e : Option Expr) : Type := Option (PLift (∀ {k : Nat} {W : WD} {C : Cw} {X : Cx}, SX k W m C X → POv C X e (evO W f)))
theorem got {P : Prop} : ∀ {o : Option (PLift P)}, o.isSome = true → P
  | some p, _ => p.down
  | none, h => nomatch h
section
variable {k : Nat} {W : WD} {m : MC} {C : Cw} {X : Cx}
theorem AllE.star : ∀ {fs : List E} {es : List Expr}, AllE m fs es → ∀ x ∈ es, notStar x = true
  | _, _, .nil => fun x hx => by cases hx
  | _, _, .cons s _ q => fun x hx => by
    rcases List.mem_cons.mp hx with rfl | hx
    · exact s
    · exact q.star x hx
theorem AllE.es (S : SX k W m C X) : ∀ {fs : List E} {es : List Expr}, AllE m fs es → PAv C X es (evEs W fs)
  | _, _, .nil => by simp only [evEs]; exact pav_nil
  | _, _, .cons s p q => by simp only [evEs]; exact pav_cons (p S) (q.es S) (star_cons s)
theorem AllE.l (S : SX k W m C X) : ∀ {fs : List E} {es : List Expr}, AllE m fs es → PVL C X es (evL W fs)
  | _, _, .nil => by simp only [evL]; exact .nil
  | _, _, .cons s p q => by simp only [evL]; exact .cons (p S) (q.l S)
theorem AllE.a {pos : Pos} (S : SX k W m C X) : ∀ {fs : List E} {es : List Expr}, AllE m fs es → PV C X (.BoolOp .And es pos) (evA W fs)
  | _, _, .nil => fun pins s σ H Q I q => by
    rw [tG_eq] at q
    obtain ⟨ρ, F, R, w⟩ := q
    exact w.elim
  | _, _, .cons s p .nil => by simp only [evA]; exact pv_onev (p S)
  | _, _, .cons s p (.cons s' p' q) => by simp only [evA]; exact pv_andv (p S) (AllE.a S (.cons s' p' q))
theorem AllE.o {pos : Pos} (S : SX k W m C X) : ∀ {fs : List E} {es : List Expr}, AllE m fs es → PV C X (.BoolOp .Or es pos) (evO' W fs)
  | _, _, .nil => fun pins s σ H Q I q => by
    rw [tG_eq] at q
    obtain ⟨ρ, F, R, w⟩ := q
    exact w.elim
  | _, _, .cons s p .nil => by simp only [evO']; exact pv_onev (p S)
  | _, _, .cons s p (.cons s' p' q) => by simp only [evO']; exact pv_orv (p S) (AllE.o S (.cons s' p' q))
theorem AllT.a {pos : Pos} (S : SX k W m C X) : ∀ {fs : List E} {es : List Expr}, AllT m fs es → PWv C X (.BoolOp .And es pos) (evA W fs)
  | _, _, .nil => fun whole pins s σ H Q I q => by
    obtain ⟨ρ, F, R, w⟩ := q
    exact w.elim
  | _, _, .cons p .nil => by simp only [evA]; exact pw_onev (p S)
  | _, _, .cons p (.cons p' q) => by simp only [evA]; exact pw_andv (p S) (AllT.a S (.cons p' q))
theorem AllT.o {pos : Pos} (S : SX k W m C X) : ∀ {fs : List E} {es : List Expr}, AllT m fs es → PWv C X (.BoolOp .Or es pos) (evO' W fs)
  | _, _, .nil => fun whole pins s σ H Q I q => by
    obtain ⟨ρ, F, R, w⟩ := q
    exact w.elim
  | _, _, .cons p .nil => by simp only [evO']; exact pw_onev (p S)
  | _, _, .cons p (.cons p' q) => by simp only [evO']; exact pw_orv (p S) (AllT.o S (.cons p' q))
theorem AllT.f (S : SX k W m C X) : ∀ {fs : List E} {es : List Expr}, AllT m fs es → PIfs X es (tT (C.at X) (evF W fs))
  | _, _, .nil => by
    have : evF W [] = fun _ => .ok .fz (.bl true) := by funext ρ; simp only [evF]
    rw [this]; exact pifs_nilv
  | f :: fs, _, .cons p q => by
    have : evF W (f :: fs) = fun ρ => andR (evE W f ρ) (evF W fs ρ) := by funext ρ; simp only [evF]
    rw [this]; exact pifs_consv (p S) (q.f S)
section
variable {fs : List E} {es : List Expr} {r : CkEs m fs es} {t : CkF m fs es} {pos : Pos}
theorem gSt (h : r.isSome = true) : ∀ x ∈ es, notStar x = true := (got h).star
theorem gEs (h : r.isSome = true) (S : SX k W m C X) : PAv C X es (evEs W fs) := (got h).es S
theorem gL (h : r.isSome = true) (S : SX k W m C X) : PVL C X es (evL W fs) := (got h).l S
theorem gA (h : r.isSome = true) (S : SX k W m C X) : PV C X (.BoolOp .And es pos) (evA W fs) := (got h).a S
theorem gOr (h : r.isSome = true) (S : SX k W m C X) : PV C X (.BoolOp .Or es pos) (evO' W fs) := (got h).o S
theorem gWA (h : t.isSome = true) (S : SX k W m C X) : PWv C X (.BoolOp .And es pos) (evA W fs) := (got h).a S
theorem gWO (h : t.isSome = true) (S : SX k W m C X) : PWv C X (.BoolOp .Or es pos) (evO' W fs) := (got h).o S
theorem gF (h : t.isSome = true) (S : SX k W m C X) : PIfs X es (tT (C.at X) (evF W fs)) := (got h).f S
end
end
noncomputable def kE_frz {m : MC} {a e} (r1 : CkE m a e) : CkE m (.frz a) e := if h : r1.isSome = true then some ⟨fun S => pv_frz (got h S)⟩ else none
noncomputable def kT_tru {m : MC} {a e} (r1 : CkE m a e) : CkT m (.tru a) e := if h : (plainT e && r1.isSome) = true then some ⟨fun {k} {W} {C} {X} S => by
    simp only [Bool.and_eq_true] at h
    exact pt_tru (got h.2 S) (plain_true h.1)⟩ else none
noncomputable def kI_items {m : MC} {tg a e} (r1 : CkE m a e) : CkI m tg (.items a) e := if h : r1.isSome = true then some ⟨fun S => piv_seq (got h S)⟩ else none
noncomputable def kE_var {m : MC} {i} {x} {p1} : CkE m (.var i) (.Name x p1) := if h : (m.N[i]? == some x && m.vis x) = true then some ⟨fun {k} {W} {C} {X} S => by
    simp only [Bool.and_eq_true, beq_iff_eq] at h
    obtain ⟨h1, h2, h3⟩ := S.vis h.2
    exact pv_var i (pe_var (by rw [S.hN]; exact h.1) h1 h2 h3)⟩ else none
noncomputable def kE_glob {m : MC} {y} {c} {x} {p1} : CkE m (.glob y c) (.Name x p1) := if h : (x == y && m.glob x (.con c) && strK' c) = true then some ⟨fun {k} {W} {C} {X} S => by
    simp only [Bool.and_eq_true, beq_iff_eq] at h
    obtain ⟨⟨rfl, h1⟩, h2⟩ := h
    obtain ⟨g, l, hd, hn⟩ := S.gl h1
    have := S.con _ _ l
    cases c with
    | s y => obtain ⟨t, ht⟩ := this; exact pv_globS g ht h2 hd
    | i n => obtain ⟨t, ht⟩ := this; exact pv_globI g ht hd
    | t tb => cases h2⟩ else none
noncomputable def kE_ty {m : MC} {t} {x} {p1} : CkE m (.ty t) (.Name x p1) := if h : (x == (t.id : Str) && m.glob x .no) = true then some ⟨fun {k} {W} {C} {X} S => by
    simp only [Bool.and_eq_true, beq_iff_eq] at h
    obtain ⟨rfl, h1⟩ := h
    obtain ⟨g, l, hd, hn⟩ := S.gl h1
    exact pv_ty g (S.no _ l) (ty_boot t) hn hd⟩ else none
noncomputable def kE_non {m : MC} {p0} {p1} : CkE m (.non) (.Constant .none p0 p1) := if h : (true) = true then some ⟨fun {k} {W} {C} {X} S => by
    exact pv_non⟩ else none
noncomputable def kE_bl {m : MC} {c} {b} {p1} {p2} : CkE m (.bl c) (.Constant (.bool b) p1 p2) := if h : (b == c) = true then some ⟨fun {k} {W} {C} {X} S => by
    simp only [beq_iff_eq] at h; subst h; exact pv_bl⟩ else none
noncomputable def kE_int {m : MC} {c} {b} {p1} {p2} : CkE m (.int c) (.Constant (.int b) p1 p2) := if h : (b == c) = true then some ⟨fun {k} {W} {C} {X} S => by
    simp only [beq_iff_eq] at h; subst h; exact pv_int⟩ else none
noncomputable def kE_str {m : MC} {c} {b} {p1} {p2} : CkE m (.str c) (.Constant (.str b) p1 p2) := if h : (b == c && strK b) = true then some ⟨fun {k} {W} {C} {X} S => by
    simp only [Bool.and_eq_true, beq_iff_eq] at h; obtain ⟨rfl, h⟩ := h; exact pv_str h⟩ else none
noncomputable def kE_bin {m : MC} {op} {a} {b} {x} {o} {y} {p3} (r1 : CkE m a x) (r2 : CkE m b y) : CkE m (.bin op a b) (.BinOp x o y p3) := if h : (o == op && (r1.isSome && r2.isSome)) = true then some ⟨fun {k} {W} {C} {X} S => by
    simp only [Bool.and_eq_true, beq_iff_eq] at h
    obtain ⟨rfl, h1, h2⟩ := h
    exact pv_op (bin_opd _) (got h1 S) (got h2 S)⟩ else none
noncomputable def kE_cmp {m : MC} {op} {a} {b} {x} {o} {y} {p3} (r1 : CkE m a x) (r2 : CkE m b y) : CkE m (.cmp op a b) (.Compare x [o] [y] p3) := if h : (o == op && notSet y && (r1.isSome && r2.isSome)) = true then some ⟨fun {k} {W} {C} {X} S => by
    simp only [Bool.and_eq_true, beq_iff_eq] at h
    obtain ⟨⟨rfl, hs⟩, h1, h2⟩ := h
    exact pv_cmp (cmp_opd _ S.un).1 (got h1 S) (got h2 S) (nomarkS _ hs)⟩ else none
noncomputable def kE_andL {m : MC} {es} {xs} {p1} (r1 : CkEs m es xs) : CkE m (.andL es) (.BoolOp .And xs p1) := if h : (r1.isSome) = true then some ⟨fun {k} {W} {C} {X} S => by
    exact gA h S⟩ else none
noncomputable def kE_orL {m : MC} {es} {xs} {p1} (r1 : CkEs m es xs) : CkE m (.orL es) (.BoolOp .Or xs p1) := if h : (r1.isSome) = true then some ⟨fun {k} {W} {C} {X} S => by
    exact gOr h S⟩ else none
noncomputable def kE_not {m : MC} {a} {x} {p1} (r1 : CkE m a x) : CkE m (.not a) (.UnaryOp .Not x p1) := if h : (r1.isSome) = true then some ⟨fun {k} {W} {C} {X} S => by
    exact pv_notv (got h S)⟩ else none
noncomputable def kE_neg {m : MC} {a} {x} {p1} (r1 : CkE m a x) : CkE m (.neg a) (.UnaryOp .USub x p1) := if h : (r1.isSome) = true then some ⟨fun {k} {W} {C} {X} S => by
    exact pv_neg (got h S)⟩ else none
noncomputable def kE_ix {m : MC} {a} {b} {x} {y} {p2} (r1 : CkE m a x) (r2 : CkE m b y) : CkE m (.ix a b) (.Subscript x y p2) := if h : (notSl y && (r1.isSome && r2.isSome)) = true then some ⟨fun {k} {W} {C} {X} S => by
    simp only [Bool.and_eq_true] at h
    obtain ⟨h0, h1, h2⟩ := h
    exact pv_ix (got h1 S) (got h2 S) (plainIx h0)⟩ else none
noncomputable def kE_tup {m : MC} {es} {es0} {p1} {p2} (r1 : CkEs m es es0) : CkE m (.tup es) (.Tuple es0 p1 p2) := if h : (r1.isSome) = true then some ⟨fun {k} {W} {C} {X} S => by
    exact pv_tup (gEs h S)⟩ else none
noncomputable def kE_lst {m : MC} {es} {es0} {p1} (r1 : CkEs m es es0) : CkE m (.lst es) (.List es0 p1) := if h : (r1.isSome) = true then some ⟨fun {k} {W} {C} {X} S => by
    exact pv_lst (gEs h S)⟩ else none
noncomputable def kE_call {m : MC} {g} {n} {es} {f} {p} {x} {xs} {cp} (r1 : CkEs m es (x :: xs)) : CkE m (.call g n es) (.Call (.Name f p) (x :: xs) [] cp) := if h : (m.calm && f == g && m.glob f (.fn n) && r1.isSome) = true then some ⟨fun {k} {W} {C} {X} S => by
    simp only [Bool.and_eq_true, beq_iff_eq] at h
    obtain ⟨⟨⟨hq, rfl⟩, h1⟩, h2⟩ := h
    obtain ⟨gl, l, hd, hn⟩ := S.gl h1
    have st := gSt h2
    exact pv_call (S.fn _ _ l) (S.rm hq) (S.xo hq) gl (gEs h2 S) hd (star_cons (st x List.mem_cons_self)) (star_any _ _ fun y hy => st y (List.mem_cons_of_mem _ hy))⟩ else none
noncomputable def kE_bcall {m : MC} {b} {es} {f} {p} {x} {xs} {cp} (r1 : CkEs m es (x :: xs)) : CkE m (.bcall b es) (.Call (.Name f p) (x :: xs) [] cp) := if h : ((m.calm || b == .len || b == .isinstance) && f == b.name && m.glob f .no && r1.isSome) = true then some ⟨fun {k} {W} {C} {X} S => by
    rw [Bool.and_eq_true, Bool.and_eq_true, Bool.and_eq_true] at h
    obtain ⟨⟨⟨hq, hz⟩, h1⟩, h2⟩ := h
    cases (beq_iff_eq.mp hz)
    obtain ⟨gl, l, hd, hn⟩ := S.gl h1
    have st := gSt h2
    exact pv_callB (bn_call b S.cm hq) gl (S.no _ l) (bn_boot b) (gEs h2 S) hn hd (star_cons (st x List.mem_cons_self)) (star_any _ _ fun y hy => st y (List.mem_cons_of_mem _ hy))⟩ else none
noncomputable def kE_chain {m : MC} {op} {op'} {a} {b} {c} {x} {o} {o'} {y} {z} {p5} (r1 : CkE m a x) (r2 : CkE m b y) (r3 : CkE m c z) : CkE m (.chain op op' a b c) (.Compare x [o, o'] [y, z] p5) := if h : (o == op && o' == op' && notSet z && (r1.isSome && (r2.isSome && r3.isSome))) = true then some ⟨fun {k} {W} {C} {X} S => by
    simp only [Bool.and_eq_true, beq_iff_eq] at h
    obtain ⟨⟨⟨rfl, rfl⟩, hs⟩, h1, h2, h3⟩ := h
    exact pv_chain (cmp_opd _ S.un).1 (cmp_opd _ S.un).1 (cmp_opd (C := C) _ S.un).2 (got h1 S) (got h2 S) (got h3 S) (nomarkS _ hs)⟩ else none
noncomputable def kE_tcall {m : MC} {t} {es} {f} {p1} {x} {xs} {p4} (r1 : CkEs m es (x :: xs)) : CkE m (.tcall t es) (.Call (.Name f p1) (x :: xs) [] p4) := if h : (f == (t.id : Str) && m.glob f .no && r1.isSome) = true then some ⟨fun {k} {W} {C} {X} S => by
    simp only [Bool.and_eq_true, beq_iff_eq] at h
    obtain ⟨⟨rfl, h1⟩, h2⟩ := h
    obtain ⟨gl, l, hd, hn⟩ := S.gl h1
    exact pv_callTy (ty_call t) gl (S.no _ l) (ty_boot t) (gEs h2 S) hn hd (gSt h2)⟩ else none
noncomputable def kE_isi {m : MC} {a} {c} {f} {p1} {x} {d} {p4} {p5} (r1 : CkE m a x) : CkE m (.isi a c) (.Call (.Name f p1) [x, .Name d p4] [] p5) := if h : (f == "isinstance" && m.glob f .no && d == c && m.glob d .cls && m.g.iso.contains d && notStar x && r1.isSome) = true then some ⟨fun {k} {W} {C} {X} S => by
    simp only [Bool.and_eq_true, beq_iff_eq, List.contains_iff_mem] at h
    obtain ⟨⟨⟨⟨⟨⟨rfl, h1⟩, rfl⟩, h2⟩, h3⟩, h4⟩, h5⟩ := h
    obtain ⟨gl, l, hd, hn⟩ := S.gl h1
    obtain ⟨gl2, l2, hd2, hn2⟩ := S.gl h2
    exact pv_isi (S.iso _ h3) gl (S.no _ l) gl2 hd2 (got h5 S) h4⟩ else none
noncomputable def kE_fld {m : MC} {a} {f} {x} {g} {p2} (r1 : CkE m a x) : CkE m (.fld a f) (.Attribute x g p2) := if h : (g == f && notSup x && r1.isSome) = true then some ⟨fun {k} {W} {C} {X} S => by
    simp only [Bool.and_eq_true, beq_iff_eq] at h
    obtain ⟨⟨rfl, h1⟩, h2⟩ := h
    exact pv_fld S.fl (got h2 S) h1⟩ else none
noncomputable def kE_meth {m : MC} {a} {f} {es} {o} {g} {ap} {xs} {cp} (r1 : CkE m a o) (r2 : CkEs m es xs) : CkE m (.meth a f es) (.Call (.Attribute o g ap) xs [] cp) := if h : (m.calm && g == f && ap.endLine == cp.line && decide (xs.length < 30) && notSup o && (r1.isSome && r2.isSome)) = true then some ⟨fun {k} {W} {C} {X} S => by
    simp only [Bool.and_eq_true, beq_iff_eq, decide_eq_true_eq] at h
    obtain ⟨⟨⟨⟨⟨hq, rfl⟩, h1⟩, h2⟩, h3⟩, h4, h5⟩ := h
    exact methcall_V S.mt (S.rm hq) (S.xo hq) (got h4 S) (gEs h5 S) h3 (gSt h5) h2 h1 fun e0 => by
      subst e0
      cases es with
      | nil => funext ρ; simp only [evEs]
      | cons _ _ => cases got h5⟩ else none
noncomputable def kE_mk0 {m : MC} {c} {f} {p1} {p2} : CkE m (.mk0 c) (.Call (.Name f p1) [] [] p2) := if h : (f == c && m.glob f .cls && m.g.mk0.contains f) = true then some ⟨fun {k} {W} {C} {X} S => by
    simp only [Bool.and_eq_true, beq_iff_eq, List.contains_iff_mem] at h
    obtain ⟨⟨rfl, h1⟩, h2⟩ := h
    obtain ⟨gl, l, hd, hn⟩ := S.gl h1
    exact pv_mk0 (S.mk0 _ h2) gl hd⟩ else none
noncomputable def kE_make {m : MC} {c} {key} {n} {es} {f} {p} {x} {xs} {cp} (r1 : CkEs m es (x :: xs)) : CkE m (.make c key n es) (.Call (.Name f p) (x :: xs) [] cp) := if h : (m.calm && f == c && m.glob f .cls && m.g.mki.contains (f, key, n) && r1.isSome) = true then some ⟨fun {k} {W} {C} {X} S => by
    simp only [Bool.and_eq_true, beq_iff_eq, List.contains_iff_mem] at h
    obtain ⟨⟨⟨⟨hq, rfl⟩, h1⟩, h2⟩, h3⟩ := h
    obtain ⟨gl, l, hd, hn⟩ := S.gl h1
    cases ei : W.I key with
    | none =>
      have : evE W (.make f key n es) = fun _ => .stuck := by funext ρ; show (match W.I key with | some Φ => makeR n Φ (evEs W es ρ) | none => .stuck) = _; rw [ei]
      rw [this]; exact pv_never
    | some Φ =>
      obtain ⟨j, hj, M⟩ := S.mki _ _ _ h2 Φ ei
      have : evE W (.make f key n es) = fun ρ => makeR n Φ (evEs W es ρ) := by funext ρ; show (match W.I key with | some Φ => makeR n Φ (evEs W es ρ) | none => .stuck) = _; rw [ei]
      rw [this]; exact pv_make M ((S.rm hq).mono hj) (S.xo hq) gl (gEs h3 S) hd (gSt h3)⟩ else none
noncomputable def kE_minN {m : MC} {a} {f} {p1} {x} {k} {p4} {p5} {p6} {p7} (r1 : CkE m a x) : CkE m (.minN a) (.Call (.Name f p1) [x] [⟨some k, .Constant .none p4 p5, p6⟩] p7) := if h : (m.calm && f == "min" && m.glob f .no && k == "default" && notStar x && r1.isSome) = true then some ⟨fun {k} {W} {C} {X} S => by
    simp only [Bool.and_eq_true, beq_iff_eq] at h
    obtain ⟨⟨⟨⟨⟨hc, rfl⟩, h1⟩, rfl⟩, h2⟩, h3⟩ := h
    obtain ⟨gl, l, _, _⟩ := S.gl h1
    exact pv_minN (S.cm hc) gl (S.no _ l) (got h3 S) h2⟩ else none
noncomputable def kE_comp {m : MC} {el} {it} {ts} {caps} {t} {n} {elt} {tg} {iter} {ifs} {scope} {cp} (r1 : CkI m tg it iter) (r2 : CkE (m.sub scope (caps.filterMap fun i => m.N[i]?) (tgNames 4 tg)) el elt) (r3 : CkF (m.sub scope (caps.filterMap fun i => m.N[i]?) (tgNames 4 tg)) ts ifs) : CkE m (.comp el it ts caps t n) (.ListComp elt [⟨tg, iter, ifs, 0⟩] scope cp) := if h : (m.calm && compOkT scope m.sc m.N caps (caps.filterMap fun i => m.N[i]?) (tgNames 4 tg) && notSet iter && decide ((tgNames 4 tg).length = n) && (slotsG t).all (fun j => decide (caps.length ≤ j)) && mG (m.sub scope (caps.filterMap fun i => m.N[i]?) (tgNames 4 tg)) t tg && (r1.isSome && (r2.isSome && r3.isSome))) = true then some ⟨fun {k} {W} {C} {X} S => by
    simp only [Bool.and_eq_true, decide_eq_true_eq, List.all_eq_true] at h
    obtain ⟨⟨⟨⟨⟨⟨hq, ho⟩, hn⟩, hl⟩, hs⟩, hg⟩, h1, h2, h3⟩ := h
    unfold compOkT at ho
    simp only [Bool.and_eq_true, List.all_eq_true, Bool.or_eq_true, bne_iff_ne, beq_iff_eq, decide_eq_true_eq, List.contains_iff_mem] at ho
    obtain ⟨⟨⟨⟨⟨⟨⟨g1, g2⟩, g3⟩, g4⟩, g5⟩, g6⟩, g7⟩, g8⟩ := ho
    have er : (relabel scope X.env).names = relSc scope m.sc := by rw [← S.hs]; rfl
    have := pv_compT (pos := cp) (tgN := tgNames 4 tg) (t := t) (S.cm hq) (got h1 S) g1 g2 (fun y hy e => (g3 y hy).resolve_left fun z => z e) (fun y hy e => by
        have := g4 y hy
        show X.env.scope.names.lookup y.1 = _ ∨ X.env.scope.names.lookup y.1 = _
        rw [S.hs]
        rcases this with (z | z) | z
        · exact absurd e z
        · exact .inl z
        · exact .inr z) (by rw [S.hN]; exact g5) g6 (fun y hy => by rw [er]; exact g7 y hy) (fun j hj => hs j hj) (fun cl A fp s3 H3 => sG (S.sub cl A fp s3 H3) g8 t hg)
        (fun cl A fp s3 H3 => gF h3 (S.sub cl A fp s3 H3)) (fun cl A fp s3 H3 => got h2 (S.sub cl A fp s3 H3)) (nofold hn)
    rw [hl] at this
    exact this⟩ else none
noncomputable def kE_fmt {m : MC} {a} {x} {k} {p2} (r1 : CkE m a x) : CkE m (.fmt a) (.FormattedValue x k none p2) := if h : (k == -1 && r1.isSome) = true then some ⟨fun {k} {W} {C} {X} S => by
    simp only [Bool.and_eq_true, beq_iff_eq] at h
    obtain ⟨rfl, h⟩ := h
    exact pv_fmt (got h S)⟩ else none
noncomputable def kE_fstr {m : MC} {es} {x} {y} {xs} {p3} (r1 : CkEs m es (x :: y :: xs)) : CkE m (.fstr es) (.JoinedStr (x :: y :: xs) p3) := if h : (r1.isSome) = true then some ⟨fun {k} {W} {C} {X} S => by
    exact pv_fstr (gL h S)⟩ else none
noncomputable def kT_cmp {m : MC} {op} {a} {b} {x} {o} {y} {p3} (r1 : CkE m a x) (r2 : CkE m b y) : CkT m (.cmp op a b) (.Compare x [o] [y] p3) := if h : (o == op && notSet y && (r1.isSome && r2.isSome)) = true then some ⟨fun {k} {W} {C} {X} S => by
    simp only [Bool.and_eq_true, beq_iff_eq] at h
    obtain ⟨⟨rfl, hs⟩, h1, h2⟩ := h
    exact pt_cmpv (cmp_opd _ S.un).1 (cmp_opd (C := C) _ S.un).2 (got h1 S) (got h2 S) (nomarkS _ hs)⟩ else none
noncomputable def kT_chain {m : MC} {op} {op'} {a} {b} {c} {x} {o} {o'} {y} {z} {p5} (r1 : CkE m a x) (r2 : CkE m b y) (r3 : CkE m c z) : CkT m (.chain op op' a b c) (.Compare x [o, o'] [y, z] p5) := if h : (o == op && o' == op' && notSet z && (r1.isSome && (r2.isSome && r3.isSome))) = true then some ⟨fun {k} {W} {C} {X} S => by
    simp only [Bool.and_eq_true, beq_iff_eq] at h
    obtain ⟨⟨⟨rfl, rfl⟩, hs⟩, h1, h2, h3⟩ := h
    exact pt_chainv (cmp_opd _ S.un).1 (cmp_opd _ S.un).1 (cmp_opd (C := C) _ S.un).2 (cmp_opd (C := C) _ S.un).2 (got h1 S) (got h2 S) (got h3 S) (nomarkS _ hs)⟩ else none
noncomputable def kT_andL {m : MC} {es} {xs} {p1} (r1 : CkF m es xs) : CkT m (.andL es) (.BoolOp .And xs p1) := if h : (r1.isSome) = true then some ⟨fun {k} {W} {C} {X} S => by
    exact pt_w (gWA h S)⟩ else none
noncomputable def kT_orL {m : MC} {es} {xs} {p1} (r1 : CkF m es xs) : CkT m (.orL es) (.BoolOp .Or xs p1) := if h : (r1.isSome) = true then some ⟨fun {k} {W} {C} {X} S => by
    exact pt_w (gWO h S)⟩ else none
noncomputable def kT_not {m : MC} {a} {x} {p1} (r1 : CkT m a x) : CkT m (.not a) (.UnaryOp .Not x p1) := if h : (r1.isSome) = true then some ⟨fun {k} {W} {C} {X} S => by
    exact pt_notv (got h S)⟩ else none
noncomputable def kI_zip2 {m : MC} {tg0} {a} {b} {f} {p1} {x} {y} {p4} (r1 : CkE m a x) (r2 : CkE m b y) : CkI m tg0 (.zip2 a b) (.Call (.Name f p1) [x, y] [] p4) := if h : (f == "zip" && isTupT tg0 && m.glob f .no && notStar x && notStar y && (r1.isSome && r2.isSome)) = true then some ⟨fun {k} {W} {C} {X} S => by
    simp only [Bool.and_eq_true, beq_iff_eq] at h
    obtain ⟨⟨⟨⟨⟨rfl, ht⟩, h1⟩, h2⟩, h2'⟩, h3, h4⟩ := h
    obtain ⟨gl, l, hd, hn⟩ := S.gl h1
    cases tg0 <;> first
      | (cases ht; done)
      | exact piv_zip gl (S.no _ l) (pav_cons (got h3 S) (pav_cons (got h4 S) pav_nil (star_cons h2')) (star_cons h2)) (by rw [star_cons h2, star_cons h2']; rfl) (star_cons h2')⟩ else none
noncomputable def kI_enum1 {m : MC} {tg0} {a} {f} {p1} {x} {p3} (r1 : CkE m a x) : CkI m tg0 (.enum1 a) (.Call (.Name f p1) [x] [] p3) := if h : (f == "enumerate" && isTupT tg0 && m.glob f .no && notStar x && r1.isSome) = true then some ⟨fun {k} {W} {C} {X} S => by
    simp only [Bool.and_eq_true, beq_iff_eq] at h
    obtain ⟨⟨⟨⟨rfl, ht⟩, h1⟩, h2⟩, h3⟩ := h
    obtain ⟨gl, l, hd, hn⟩ := S.gl h1
    cases tg0 <;> first
      | (cases ht; done)
      | exact piv_enum gl (S.no _ l) (pav_cons (pv_frz (got h3 S)) pav_nil (star_cons h2)) (star_cons h2)⟩ else none
noncomputable def kEs {m : MC} {f fs x xs} (r1 : CkE m f x) (r2 : CkEs m fs xs) : CkEs m (f :: fs) (x :: xs) := if h : (notStar x && r1.isSome && r2.isSome) = true then some ⟨by
    simp only [Bool.and_eq_true] at h
    exact .cons h.1.1 (@got _ r1 h.1.2) (got h.2)⟩ else none
noncomputable def kO {m : MC} {f x} (r1 : CkE m f x) : CkO m (some f) (some x) := if h : r1.isSome = true then some ⟨fun S => by simp only [evO]; exact got h S⟩ else none
noncomputable def kF {m : MC} {f fs x xs} (r1 : CkT m f x) (r2 : CkF m fs xs) : CkF m (f :: fs) (x :: xs) := if h : (r1.isSome && r2.isSome) = true then some ⟨by
    simp only [Bool.and_eq_true] at h
    exact .cons (@got _ r1 h.1) (got h.2)⟩ else none
set_option maxHeartbeats 4000000 in
mutual
noncomputable def ckE : (m : MC) → (f : E) → (e : Expr) → CkE m f e
  | m, .frz a, e => kE_frz (ckE m a e)
  | m, .var i, e => match e with | .Name x p1 => kE_var | _ => none
  | m, .glob y c, e => match e with | .Name x p1 => kE_glob | _ => none
  | m, .ty t, e => match e with | .Name x p1 => kE_ty | _ => none
  | m, .non, e => match e with | .Constant .none p0 p1 => kE_non | _ => none
  | m, .bl c, e => match e with | .Constant (.bool b) p1 p2 => kE_bl | _ => none
  | m, .int c, e => match e with | .Constant (.int b) p1 p2 => kE_int | _ => none
  | m, .str c, e => match e with | .Constant (.str b) p1 p2 => kE_str | _ => none
  | m, .bin op a b, e => match e with | .BinOp x o y p3 => kE_bin (ckE m a x) (ckE m b y) | _ => none
  | m, .cmp op a b, e => match e with | .Compare x [o] [y] p3 => kE_cmp (ckE m a x) (ckE m b y) | _ => none
  | m, .andL es, e => match e with | .BoolOp .And xs p1 => kE_andL (ckEs m es xs) | _ => none
  | m, .orL es, e => match e with | .BoolOp .Or xs p1 => kE_orL (ckEs m es xs) | _ => none
  | m, .not a, e => match e with | .UnaryOp .Not x p1 => kE_not (ckE m a x) | _ => none
  | m, .neg a, e => match e with | .UnaryOp .USub x p1 => kE_neg (ckE m a x) | _ => none
  | m, .ix a b, e => match e with | .Subscript x y p2 => kE_ix (ckE m a x) (ckE m b y) | _ => none
  | m, .tup es, e => match e with | .Tuple es0 p1 p2 => kE_tup (ckEs m es es0) | _ => none
  | m, .lst es, e => match e with | .List es0 p1 => kE_lst (ckEs m es es0) | _ => none
  | m, .call g n es, e => match e with | .Call (.Name f p) (x :: xs) [] cp => kE_call (ckEs m es (x :: xs)) | _ => none
  | m, .bcall b es, e => match e with | .Call (.Name f p) (x :: xs) [] cp => kE_bcall (ckEs m es (x :: xs)) | _ => none
  | m, .chain op op' a b c, e => match e with | .Compare x [o, o'] [y, z] p5 => kE_chain (ckE m a x) (ckE m b y) (ckE m c z) | _ => none
  | m, .tcall t es, e => match e with | .Call (.Name f p1) (x :: xs) [] p4 => kE_tcall (ckEs m es (x :: xs)) | _ => none
  | m, .isi a c, e => match e with | .Call (.Name f p1) [x, .Name d p4] [] p5 => kE_isi (ckE m a x) | _ => none
  | m, .fld a f, e => match e with | .Attribute x g p2 => kE_fld (ckE m a x) | _ => none
  | m, .meth a f es, e => match e with | .Call (.Attribute o g ap) xs [] cp => kE_meth (ckE m a o) (ckEs m es xs) | _ => none
  | m, .mk0 c, e => match e with | .Call (.Name f p1) [] [] p2 => kE_mk0 | _ => none
  | m, .make c key n es, e => match e with | .Call (.Name f p) (x :: xs) [] cp => kE_make (ckEs m es (x :: xs)) | _ => none
  | m, .minN a, e => match e with | .Call (.Name f p1) [x] [⟨some k, .Constant .none p4 p5, p6⟩] p7 => kE_minN (ckE m a x) | _ => none
  | m, .comp el it ts caps t n, e => match e with | .ListComp elt [⟨tg, iter, ifs, 0⟩] scope cp => kE_comp (ckI m tg it iter) (ckE (m.sub scope (caps.filterMap fun i => m.N[i]?) (tgNames 4 tg)) el elt) (ckF (m.sub scope (caps.filterMap fun i => m.N[i]?) (tgNames 4 tg)) ts ifs) | _ => none
  | m, .fmt a, e => match e with | .FormattedValue x k none p2 => kE_fmt (ckE m a x) | _ => none
  | m, .fstr es, e => match e with | .JoinedStr (x :: y :: xs) p3 => kE_fstr (ckEs m es (x :: y :: xs)) | _ => none
  | _, .tru _, _ => none
  | _, .items _, _ => none
  | _, .zip2 _ _, _ => none
  | _, .enum1 _, _ => none
noncomputable def ckT : (m : MC) → (f : E) → (e : Expr) → CkT m f e
  | m, .tru a, e => kT_tru (ckE m a e)
  | m, .cmp op a b, e => match e with | .Compare x [o] [y] p3 => kT_cmp (ckE m a x) (ckE m b y) | _ => none
  | m, .chain op op' a b c, e => match e with | .Compare x [o, o'] [y, z] p5 => kT_chain (ckE m a x) (ckE m b y) (ckE m c z) | _ => none
  | m, .andL es, e => match e with | .BoolOp .And xs p1 => kT_andL (ckF m es xs) | _ => none
  | m, .orL es, e => match e with | .BoolOp .Or xs p1 => kT_orL (ckF m es xs) | _ => none
  | m, .not a, e => match e with | .UnaryOp .Not x p1 => kT_not (ckT m a x) | _ => none
  | _, _, _ => none
noncomputable def ckI : (m : MC) → (tg : Expr) → (f : E) → (e : Expr) → CkI m tg f e
  | m, tg, .items a, e => kI_items (ckE m a e)
  | m, tg0, .zip2 a b, e => match e with | .Call (.Name f p1) [x, y] [] p4 => kI_zip2 (ckE m a x) (ckE m b y) | _ => none
  | m, tg0, .enum1 a, e => match e with | .Call (.Name f p1) [x] [] p3 => kI_enum1 (ckE m a x) | _ => none
  | _, _, _, _ => none
noncomputable def ckEs : (m : MC) → (fs : List E) → (es : List Expr) → CkEs m fs es
  | m, [], es => match es with | [] => some ⟨.nil⟩ | _ => none
  | m, f :: fs, l => match l with | x :: xs => kEs (ckE m f x) (ckEs m fs xs) | _ => none
noncomputable def ckO : (m : MC) → (f : Option E) → (e : Option Expr) → CkO m f e
  | m, none, e => match e with | none => some ⟨fun _ => True.intro⟩ | _ => none
  | m, some f, l => match l with | some x => kO (ckE m f x) | _ => none
noncomputable def ckF : (m : MC) → (fs : List E) → (es : List Expr) → CkF m fs es
  | m, [], es => match es with | [] => some ⟨.nil⟩ | _ => none
  | m, f :: fs, l => match l with | x :: xs => kF (ckT m f x) (ckF m fs xs) | _ => none
end
noncomputable def mE (m : MC) (f : E) (e : Expr) : Bool := (ckE m f e).isSome
noncomputable def mT (m : MC) (f : E) (e : Expr) : Bool := (ckT m f e).isSome
noncomputable def mI (m : MC) (tg : Expr) (f : E) (e : Expr) : Bool := (ckI m tg f e).isSome
noncomputable def mEs (m : MC) (f : List E) (e : List Expr) : Bool := (ckEs m f e).isSome
noncomputable def mF (m : MC) (f : List E) (e : List Expr) : Bool := (ckF m f e).isSome
theorem mEs_star {m : MC} {fs : List E} {es : List Expr} (h : mEs m fs es = true) : ∀ x ∈ es, notStar x = true := gSt h
section
variable {k : Nat} {W : WD}
theorem sE (f : E) {m : MC} {C : Cw} {X : Cx} {e : Expr} (S : SX k W m C X) (h : mE m f e = true) : PV C X e (evE W f) := got h S
theorem sT (f : E) {m : MC} {C : Cw} {X : Cx} {e : Expr} (S : SX k W m C X) (h : mT m f e = true) : PTv C X e (evE W f) := got h S
theorem sI (f : E) {m : MC} {C : Cw} {X : Cx} {tg e : Expr} (S : SX k W m C X) (h : mI m tg f e = true) : PIv C X tg e (evE W f) := got h S
theorem sEs (fs : List E) {m : MC} {C : Cw} {X : Cx} {es : List Expr} (S : SX k W m C X) (h : mEs m fs es = true) : PAv C X es (evEs W fs) := gEs h S
theorem sF (fs : List E) {m : MC} {C : Cw} {X : Cx} {es : List Expr} (S : SX k W m C X) (h : mF m fs es = true) : PIfs X es (tT (C.at X) (evF W fs)) := gF h S
end
end D3

set_option genSizeOfSpec false
set_option genInjectivity false
namespace D3
open PySem PySem.Spec PyProof.Rows L2
/-! ### statements -/
inductive S where
  | ret (e : E) | retV (i : Nat) | set (i : Nat) (e : E) | ite (c : E) (a b : List S) | for (it : E) (t : Tg) (body : List S)
 
  | rz (c : Str) (es : List E) | frzV (i : Nat)
mutual
noncomputable def evS (W : WD) : S → Rho → SRes
  | .ret e, ρ => retR (evE W e ρ) ρ
  | .retV i, ρ => retS ρ i
  | .set i e, ρ => setS ρ i (evE W e ρ)
  | .ite c a b, ρ => ifS (evE W c ρ) ρ (evB W a ρ) (evB W b ρ)
  | .for it t body, ρ => forR (evE W it ρ) ρ (setG t) (evB W body)
  | .rz c es, ρ => rzR c ρ (evEs W es ρ)
  | .frzV i, ρ => frzS ρ i
noncomputable def evB (W : WD) : List S → Rho → SRes
  | [], ρ => .nx ρ
  | s :: r, ρ => (evS W s ρ).thn (evB W r)
end
noncomputable def notComp : Expr → Bool | .ListComp .. => false | .SetComp .. => false | .DictComp .. => false | _ => true
theorem noswap {e : Expr} {t : Option Expr} {n : Nat} {env : Env} (h : notComp e = true) : swapsWith e t n env = pure false := by
  cases e <;> first | rfl | cases h
theorem noswap' {m : MC} {e : Expr} {x : Str} {p : Pos} {n : Nat} {env : Env} (hs : env.scope = m.sc) (h : (notComp e || m.kind x == some .cell) = true) : swapsWith e (some (.Name x p)) n env = pure false := by
  rw [Bool.or_eq_true, beq_iff_eq] at h
  rcases h with h | h
  · exact noswap h
  · have hk : env.kindOf x = some .cell := by
      show env.scope.names.lookup x = _
      rw [hs]; exact h
    unfold swapsWith
    have kc : (NameKind.cell == NameKind.local) = false := by decide
    cases e <;> first | rfl | (simp [hk, kc])
section
variable {k : Nat} {W : WD} {m : MC} {C : Cw} {X : Cx}
/-- a body's own surroundings -/
structure SB (k : Nat) (W : WD) (m : MC) (C : Cw) (X : Cx) : Prop extends SX k W m C X where
  nd : m.N.Nodup
  hp : PassesOwn (model X.prog X.w) X.A X.env X.xe
  ro : m.rz = true → RzOk (C.at X) X ∧ FnCx X
end
abbrev CkS (m : MC) (f : D3.S) (st : Stmt) : Type := Option (PLift (∀ {k : Nat} {W : WD} {C : Cw} {X : Cx}, SB k W m C X → PSv C X st (evS W f)))
abbrev CkB (m : MC) (f : List D3.S) (sts : List Stmt) : Type := Option (PLift (∀ {k : Nat} {W : WD} {C : Cw} {X : Cx}, SB k W m C X → PBv C X sts (evB W f)))
noncomputable def kS_ret {m : MC} {f} {e} {p1} : CkS m (.ret f) (.Return (some e) p1) := if h : (mE m f e) = true then some ⟨fun {k} {W} {C} {X} S => by
    exact psv_ret (sE f S.toSX h)⟩ else none
noncomputable def kS_retV {m : MC} {i} {x} {p1} {p2} : CkS m (.retV i) (.Return (some (.Name x p1)) p2) := if h : (m.N[i]? == some x && m.vis x) = true then some ⟨fun {k} {W} {C} {X} S => by
    simp only [Bool.and_eq_true, beq_iff_eq] at h
    obtain ⟨h1, h2, h3⟩ := S.toSX.vis h.2
    exact psv_retV i (pe_var (by rw [S.hN]; exact h.1) h1 h2 h3)⟩ else none
noncomputable def kS_set {m : MC} {i} {f} {x} {p1} {e} {p3} : CkS m (.set i f) (.Assign [.Name x p1] e p3) := if h : (m.loc i x && (notComp e || m.kind x == some .cell) && mE m f e) = true then some ⟨fun {k} {W} {C} {X} S => by
    simp only [Bool.and_eq_true] at h
    obtain ⟨⟨h1, h2⟩, h3⟩ := h
    obtain ⟨b, c, d⟩ := S.toSX.loc h1
    exact psv_set (by rw [S.hN]; exact S.nd) b c (sE f S.toSX h3) (noswap' S.hs h2) d⟩ else none
noncomputable def kS_ite {m : MC} {f} {a} {b} {c} {x} {y} {p3} (r1 : CkB m a x) (r2 : CkB m b y) : CkS m (.ite f a b) (.If c x y p3) := if h : (mT m f c && (r1.isSome && r2.isSome)) = true then some ⟨fun {k} {W} {C} {X} S => by
    simp only [Bool.and_eq_true] at h
    obtain ⟨h1, h2, h3⟩ := h
    exact psv_if (sT f S.toSX h1) (got h2 S) (got h3 S)⟩ else none
noncomputable def kS_for {m : MC} {f} {t} {b} {tg} {e} {body} {p3} (r1 : CkB m b body) : CkS m (.for f t b) (.For tg e body [] p3) := if h : (m.calm && mG m t tg && notSet e && (mI m tg f e && r1.isSome)) = true then some ⟨fun {k} {W} {C} {X} S => by
    simp only [Bool.and_eq_true] at h
    obtain ⟨⟨⟨hq, h1⟩, h2⟩, h3, h4⟩ := h
    exact psv_for S.hp (S.cm hq) (sI f S.toSX h3) (pgv_of (sG S.toSX S.nd t h1)) (got h4 S) (nofold h2)⟩ else none
noncomputable def kS_rz {m : MC} {c} {es} {f} {p1} {x} {xs} {p4} {p5} : CkS m (.rz c es) (.Raise (some (.Call (.Name f p1) (x :: xs) [] p4)) none p5) := if h : (m.calm && m.rz && f == c && m.gk f && m.g.xcs.contains f && mEs m es (x :: xs)) = true then some ⟨fun {k} {W} {C} {X} S => by
    simp only [Bool.and_eq_true, beq_iff_eq, List.contains_iff_mem] at h
    obtain ⟨⟨⟨⟨⟨hq, hr⟩, rfl⟩, h1⟩, h2⟩, h3⟩ := h
    obtain ⟨gl, hd⟩ := S.toSX.gk h1
    obtain ⟨Cc, hm, Z⟩ := S.xc _ h2
    exact psv_raise hm Z (S.rm hq).hd (S.ro hr).1 gl (sEs es S.toSX h3) hd (mEs_star h3)⟩ else none
theorem pb_nil {k : Nat} {W : WD} {m : MC} {C : Cw} {X : Cx} (S : SB k W m C X) : PBv C X [] (evB W []) := by
  have : evB W [] = fun ρ => .nx ρ := by funext ρ; simp only [evB]
  rw [this]; exact pbv_nil
noncomputable def kB_frz {m : MC} {i fs sts} (r : CkB m fs sts) : CkB m (.frzV i :: fs) sts := if h : r.isSome = true then some ⟨fun {k} {W} {C} {X} S => by
    have : evB W (.frzV i :: fs) = fun ρ => (frzS ρ i).thn (evB W fs) := by funext ρ; rfl
    rw [this]; exact pbv_frz (got h S)⟩ else none
noncomputable def kB_cons {m : MC} {f fs st sts} (r : CkS m f st) (r2 : CkB m fs sts) : CkB m (f :: fs) (st :: sts) := if h : (r.isSome && r2.isSome) = true then some ⟨fun {k} {W} {C} {X} S => by
    rw [Bool.and_eq_true] at h
    have : evB W (f :: fs) = fun ρ => (evS W f ρ).thn (evB W fs) := by funext ρ; simp only [evB]
    rw [this]; exact pbv_cons (got h.1 S) (got h.2 S)⟩ else none
set_option maxHeartbeats 4000000 in
mutual
noncomputable def ckS : (m : MC) → (f : D3.S) → (st : Stmt) → CkS m f st
  | _, .frzV _, _ => none
  | m, .ret f, st => match st with | .Return (some e) p1 => kS_ret | _ => none
  | m, .retV i, st => match st with | .Return (some (.Name x p1)) p2 => kS_retV | _ => none
  | m, .set i f, st => match st with | .Assign [.Name x p1] e p3 => kS_set | _ => none
  | m, .ite f a b, st => match st with | .If c x y p3 => kS_ite (ckB m a x) (ckB m b y) | _ => none
  | m, .for f t b, st => match st with | .For tg e body [] p3 => kS_for (ckB m b body) | _ => none
  | m, .rz c es, st => match st with | .Raise (some (.Call (.Name f p1) (x :: xs) [] p4)) none p5 => kS_rz | _ => none
noncomputable def ckB : (m : MC) → (f : List D3.S) → (sts : List Stmt) → CkB m f sts
  | m, [], sts => match sts with | [] => some ⟨fun S => pb_nil S⟩ | _ => none
  | m, .frzV i :: fs, sts => kB_frz (ckB m fs sts)
  | m, f :: fs, sts => match sts with | st :: sts => kB_cons (ckS m f st) (ckB m fs sts) | _ => none
end
noncomputable def mB (m : MC) (f : List D3.S) (sts : List Stmt) : Bool := (ckB m f sts).isSome
theorem sB {k : Nat} {W : WD} {m : MC} {C : Cw} {X : Cx} (S : SB k W m C X) (f : List D3.S) {sts : List Stmt} (h : mB m f sts = true) : PBv C X sts (evB W f) := got h S
/-! ### __init__ bodies: guards, then self.f = e -/
inductive IB where
  | done | guard (c : E) (b : List D3.S) (r : IB) | fset (f : Str) (e : E) (r : IB)
inductive IR where | ok (fs : List (Str × D)) | exc (c : Str) | stuck
noncomputable def evIB (W : WD) (c : Str) : IB → Rho → List (Str × D) → IR
  | .done, _, fs => .ok fs
  | .guard t b r, ρ, fs => match evE W t ρ with
    | .ok _ (.bl false) => evIB W c r ρ fs
    | .ok _ (.bl true) => (match evB W b ρ with | .exc x _ => .exc x | _ => .stuck)
    | _ => .stuck
  | .fset f e r, ρ, fs => match evE W e ρ with
    | .ok .fz d => (match W.cl.find? (fun i => i.name == c) with
      | some j => if (j.flds.contains f && decide (fs.length < 1000)) = true then evIB W c r ρ (putFD f d fs) else .stuck
      | none => .stuck)
    | _ => .stuck
noncomputable def mIB (m : MC) : IB → List Stmt → Bool
  | .done, l => l.isEmpty
  | .guard c b r, l => match l with | .If t x [] _ :: sts => mT m c t && mB m b x && mIB m r sts | _ => false
  | .fset f e r, l => match l with | .Assign [.Attribute (.Name x _) g _] v _ :: sts => m.N[0]? == some x && m.vis x && g == f && notComp v && mE m e v && mIB m r sts | _ => false
/-- what is wanted ahead of the rest of an __init__ -/
noncomputable def tIB (C : Cw) (W : WD) (c : Str) (ib : IB) : TS := fun En σ H => ∃ ρ F fs x dx C' gs, RelSt C.K C.F0 C.H0 F H σ ρ ∧ σ[0]? = some (some (.ref x)) ∧ (∀ (i : Nat) (d : D), ρ[i]? ≠ some (some (true, d))) ∧ C.H0 x = none ∧ F x = none ∧ H x = some (.ins C' dx gs) ∧
  PySem.W.nsIn C.K mainGlobals c = some (some (.ref C')) ∧ RepF C.K F fs gs ∧ match evIB W c ib ρ fs with
  | .ok fs' => ∀ F' H' gs', Step C.F0 C.H0 F' H' → F' x = none → H' x = some (.ins C' dx gs') → RepF C.K F' fs' gs' → En.nx σ H'
  | .exc c' => ∀ σ' F' H', Step C.F0 C.H0 F' H' → C.EE c' σ' H'
  | .stuck => False
theorem sIB {k : Nat} {W : WD} {m : MC} {C : Cw} {X : Cx} (S : SB k W m C X) (c : Str) : ∀ (ib : IB) {sts : List Stmt}, mIB m ib sts = true → PSs X sts (tIB (C.at X) W c ib)
  | .done, [], h => PSs.imp pss_nil fun En σ H q => by
    obtain ⟨ρ, F, fs, x, dx, C', gs, R, e0, _, h0, hf, hh, ns, rf, w⟩ := q
    exact w F H gs R.st hf hh rf
  | .done, _ :: _, h => by simp [mIB] at h
  | .guard t b r, sts, h => by
    unfold mIB at h
    split at h
    · simp only [Bool.and_eq_true] at h
      refine PSs.imp (pss_cons (ps_if (sT t S.toSX h.1.1) (sB S b h.1.2) pss_nil) (sIB S c r h.2)) fun En σ H q => ?_
      obtain ⟨ρ, F, fs, x, dx, C', gs, R, e0, e0', h0, hf, hh, ns, rf, w⟩ := q
      refine ⟨ρ, F, R, ?_⟩
      unfold evIB at w
      cases et : evE W t ρ with
      | stuck => rw [et] at w; exact w.elim
      | exc c' => rw [et] at w; exact w.elim
      | ok m' d' =>
        cases d' with
        | bl bb =>
          intro F' H' st
          cases bb with
          | false =>
            rw [et] at w
            rw [if_neg Bool.false_ne_true]
            exact ⟨ρ, F', fs, x, dx, C', gs, R.step st, e0, e0', h0, st.new x hf (by rw [hh]; exact fun z => nomatch z), st.same _ _ hh, ns, rf.mono st.fsame _ _, w⟩
          | true =>
            rw [et] at w
            rw [if_pos rfl]
            refine ⟨ρ, F', R.step st, ?_⟩
            dsimp only at w
            cases eb : evB W b ρ with
            | exc c' ρ' => rw [eb] at w; exact fun σ2 F2 H2 _ R2 => w σ2 F2 H2 R2.st
            | _ => rw [eb] at w; exact w.elim
        | _ => rw [et] at w; exact w.elim
    · cases h
  | .fset f e r, sts, h => by
    unfold mIB at h
    split at h
    · rename_i x0 p0 g0 p1 v0 p2 sts0
      simp only [Bool.and_eq_true, beq_iff_eq] at h
      obtain ⟨⟨⟨⟨⟨h1, h2⟩, hgf⟩, h3⟩, h4⟩, h5⟩ := h
      subst hgf
      obtain ⟨v1, v2, v3⟩ := S.toSX.vis h2
      refine PSs.imp (pss_cons (ps_fld (pe_var (i := 0) (by rw [S.hN]; exact h1) v1 v2 v3) (sE e S.toSX h4) (noswap h3)) (sIB S c r h5)) fun En σ H q => ?_
      obtain ⟨ρ, F, fs, x, dx, C', gs, R, e0, e0', h0, hf, hh, ns, rf, w⟩ := q
      unfold evIB at w
      cases et : evE W e ρ with
      | stuck => rw [et] at w; exact w.elim
      | exc c' => rw [et] at w; exact w.elim
      | ok md d =>
        rw [et] at w
        cases md with
        | fr => exact w.elim
        | bo => exact w.elim
        | fz =>
        dsimp only at w
        cases ej : W.cl.find? (fun i => i.name == c) with
        | none => rw [ej] at w; exact w.elim
        | some j =>
          rw [ej] at w
          dsimp only at w
          by_cases hc : (j.flds.contains g0 && decide (fs.length < 1000)) = true
          · rw [if_pos hc] at w
            rw [Bool.and_eq_true, decide_eq_true_eq] at hc
            show tG (C.at X) (evE W e) σ H _
            rw [tG_eq]
            refine ⟨ρ, F, R, ?_⟩
            rw [et]
            intro v F1 H1 s1 rp _
            have hj : j.name = c := by simpa using List.find?_some ej
            obtain ⟨C2, n1, cl', na⟩ := (S.fl j _ (List.mem_of_find?_eq_some ej) (by simpa using hc.1)).ex
            rw [hj] at n1
            have ns' : PySem.W.nsIn X.K mainGlobals c = some (some (.ref C')) := ns
            rw [n1] at ns'; cases ns'
            have hh1 : H1 x = some (.ins C' dx gs) := s1.same _ _ hh
            have hf1 : F1 x = none := s1.new x hf (by rw [hh]; exact fun z => nomatch z)
            refine ⟨.ref x, e0, x, C', dx, gs, rfl, hh1, cl', na, by rw [rf.length]; exact hc.2, ?_⟩
            have R1 := R.step s1
            have st : Step C.F0 C.H0 F1 (upd H1 x (.ins C' dx (putF g0 v gs))) := R1.st.upd h0 hf1
            refine ⟨ρ, F1, putFD g0 d fs, x, dx, C', _, ⟨st, fun i b d' ei => ?_, fun i l d1 d2 a hil q1 q2 => ?_, R1.len⟩, e0, e0', h0, hf1, upd_same, ns, RepF.put rp (rf.mono s1.fsame _ _), w⟩
            · obtain ⟨u, eu, ru, hu⟩ := R1.slot i b d' ei
              refine ⟨u, eu, ?_, hu⟩
              cases b with
              | false => exact ru
              | true => exact absurd ei (e0' i d')
            · exact R1.apart i l d1 d2 a hil q1 q2
          · rw [if_neg hc] at w; exact w.elim
    · cases h
/-! ### the defs of a text, by fuel -/
structure FD where
  ps : List Str
  N : List Str
  b : List D3.S
structure ID where
  c : Str
  ps : List Str
  N : List Str
  ib : IB
structure TB where
  T : List (Str × FD)
  I : List (Str × ID)
  cl : List CI
  xt : List ((Str × Str) × Bool)
  xi : List ((Str × Str) × Bool)
noncomputable def phiI (W : WD) (i : ID) : List D → Res := fun ds => if ds.length + 1 = i.ps.length then (match evIB W i.c i.ib (none :: startR (i.N.length - 1) ds) [] with
  | .ok fs => .ok .fr (.ins i.c fs)
  | .exc c => .exc c
  | .stuck => .stuck) else .stuck
noncomputable def PhiF (t : TB) (W : WD) (f : Str) : List D → Res := match t.T.lookup f with
  | some d => phi d.ps.length d.N.length (evB W d.b)
  | none => fun _ => .stuck
noncomputable def WT (t : TB) : Nat → WD
  | 0 => ⟨fun _ _ => .stuck, fun _ => none, t.cl, t.xt, t.xi⟩
  | 1 => ⟨fun f => PhiF t ⟨fun _ _ => .stuck, fun _ => none, t.cl, t.xt, t.xi⟩ f, fun _ => none, t.cl, t.xt, t.xi⟩
  | k + 2 => ⟨fun f => PhiF t (WT t (k + 1)) f, fun key => match t.I.lookup key with | some i => some (phiI (WT t k) i) | none => none, t.cl, t.xt, t.xi⟩
theorem WT_cl (t : TB) : ∀ k, (WT t k).cl = t.cl
  | 0 => rfl
  | 1 => rfl
  | k + 2 => rfl
theorem WT_xt (t : TB) : ∀ k, (WT t k).xt = t.xt
  | 0 => rfl
  | 1 => rfl
  | k + 2 => rfl
theorem WT_xi (t : TB) : ∀ k, (WT t k).xi = t.xi
  | 0 => rfl
  | 1 => rfl
  | k + 2 => rfl
theorem WT_Φ (t : TB) : ∀ k f, (WT t (k + 1)).Φ f = PhiF t (WT t k) f
  | 0, f => rfl
  | k + 1, f => rfl
noncomputable def scOk (N ps : List Str) (sc : Scope) : Bool := sc.kind == .function && !sc.isCoroutine && !sc.isGenerator && decide N.Nodup && (N.take ps.length == ps) && ps.all (fun x => sc.names.lookup x == some .local || sc.names.lookup x == some .cell) && sc.names.all (fun y => y.2 != .free)
theorem scOk_of {N ps : List Str} {sc : Scope} (h : scOk N ps sc = true) : FnScope N ps sc := by
  unfold scOk at h
  simp only [Bool.and_eq_true, List.all_eq_true, Bool.or_eq_true, bne_iff_ne, beq_iff_eq, decide_eq_true_eq, Bool.not_eq_true'] at h
  obtain ⟨⟨⟨⟨⟨⟨h1, h2⟩, h3⟩, h4⟩, h5⟩, h6⟩, h7⟩ := h
  exact ⟨h1, h2, h3, h4, h5, h6, h7⟩
noncomputable def fdOk (g : MG) (st : Stmt) (d : FD) : Bool := scOk d.N d.ps (defScope st) && mB ⟨d.N, defScope st, g, true, true, true⟩ d.b (defBody st)
noncomputable def idOk (g : MG) (st : Stmt) (d : ID) : Bool := scOk d.N d.ps (defScope st) && mIB ⟨d.N, defScope st, g, true, true, true⟩ d.ib (defBody st) && decide (0 < d.ps.length)
/-- a def that stands behind the top, at its address -/
noncomputable def Stands (K : PySem.W.Frag) (g : MG) (fa : Str → Addr) (key : Str) (d : FD) : Prop :=
  ∃ name st fd, Fun K name key st (fa key) fd ∧ Binds K fd d.ps [] ∧ fdOk g st d = true
noncomputable def StandAll (K : PySem.W.Frag) (g : MG) (fa : Str → Addr) : List (Str × FD) → Prop
  | [] => True
  | (x, d) :: r => Stands K g fa x d ∧ StandAll K g fa r
theorem StandAll.at {K : PySem.W.Frag} {g : MG} {fa : Str → Addr} : ∀ {T : List (Str × FD)} {x : Str} {d : FD}, StandAll K g fa T → T.lookup x = some d → Stands K g fa x d
  | [], _, _, _, e => by cases e
  | (y, d') :: r, x, d, h, e => by
    rw [List.lookup_cons] at e
    split at e
    · rename_i hb
      cases e
      rw [beq_iff_eq] at hb
      subst hb
      exact h.1
    · exact h.2.at e
noncomputable def StandsI (K : PySem.W.Frag) (mg : Str → Option Value) (g : MG) (key : Str) (d : ID) : Prop :=
  ∃ name st C f fd, PySem.W.nsIn K mainGlobals d.c = some (some (.ref C)) ∧ mg d.c = some (.ref C) ∧ Mk K C f ∧ Fun K name key st f fd ∧ Binds K fd d.ps [] ∧ idOk g st d = true
noncomputable def StandAllI (K : PySem.W.Frag) (mg : Str → Option Value) (g : MG) : List (Str × ID) → Prop
  | [] => True
  | (x, d) :: r => StandsI K mg g x d ∧ StandAllI K mg g r
theorem StandAllI.at {K : PySem.W.Frag} {mg : Str → Option Value} {g : MG} : ∀ {T : List (Str × ID)} {x : Str} {d : ID}, StandAllI K mg g T → T.lookup x = some d → StandsI K mg g x d
  | [], _, _, _, e => by cases e
  | (y, d') :: r, x, d, h, e => by
    rw [List.lookup_cons] at e
    split at e
    · rename_i hb
      cases e
      rw [beq_iff_eq] at hb
      subst hb
      exact h.1
    · exact h.2.at e
noncomputable def GVOk (w : World) (K : PySem.W.Frag) (mg : Str → Option Value) (fa : Str → Addr) (x : Str) : GV → Prop
  | .con (.s y) => ∃ t, mg x = some (.str y t)
  | .con (.i n) => ∃ t, mg x = some (.int n t)
  | .con (.t tb) => TabV w K mg x tb
  | .no => mg x = none
  | .fn _ => mg x = some (.ref (fa x))
  | .cls => True
noncomputable def GCon (w : World) (K : PySem.W.Frag) (mg : Str → Option Value) (fa : Str → Addr) : List (Str × GV) → Prop
  | [] => True
  | (x, v) :: r => GVOk w K mg fa x v ∧ GCon w K mg fa r
theorem GCon.at {w : World} {K : PySem.W.Frag} {mg : Str → Option Value} {fa : Str → Addr} : ∀ {G : List (Str × GV)} {x : Str} {v : GV}, GCon w K mg fa G → G.lookup x = some v → GVOk w K mg fa x v
  | [], _, _, _, e => by cases e
  | (y, v') :: r, x, v, h, e => by
    rw [List.lookup_cons] at e
    split at e
    · rename_i hb
      cases e
      rw [beq_iff_eq] at hb
      subst hb
      exact h.1
    · exact h.2.at e
noncomputable def gOk (G : List (Str × GV)) (T : List (Str × FD)) : Bool := G.all fun (x, v) => match v with | .fn n => (match T.lookup x with | some d => d.ps.length == n | none => false) | _ => true
theorem gOk_at {T : List (Str × FD)} : ∀ {G : List (Str × GV)} {x : Str} {n : Nat}, gOk G T = true → G.lookup x = some (.fn n) → ∃ d, T.lookup x = some d ∧ d.ps.length = n
  | [], _, _, _, e => by cases e
  | (y, v') :: r, x, n, h, e => by
    unfold gOk at h
    rw [List.all_cons, Bool.and_eq_true] at h
    rw [List.lookup_cons] at e
    split at e
    · rename_i hb
      cases e
      rw [beq_iff_eq] at hb
      subst hb
      have h1 := h.1
      dsimp only at h1
      cases q : T.lookup x with
      | none => rw [q] at h1; cases h1
      | some d => rw [q] at h1; exact ⟨d, rfl, by simpa using h1⟩
    · exact gOk_at (G := r) h.2 e
/-- each class's methods: where each stands, and its number of parameters -/
noncomputable def mtOk (cl : List CI) (T : List (Str × FD)) : Bool := cl.all fun i => i.meths.all fun (_, key, n) => match T.lookup key with | some d => d.ps.length == n | none => false
noncomputable def mkiOk (mki : List (Str × Str × Nat)) (I : List (Str × ID)) : Bool := mki.all fun (c, key, n) => match I.lookup key with | some d => d.c == c && d.ps.length == n + 1 | none => false
noncomputable def ClsM (K : PySem.W.Frag) (fa : Str → Addr) (C : Addr) : List (Str × Str × Nat) → Prop
  | [] => True
  | (m, key, _) :: r => Meth K C m (fa key) ∧ ClsM K fa C r
noncomputable def ClsF (K : PySem.W.Frag) (C : Addr) : List Str → Prop
  | [] => True
  | f :: r => NoAttr K C f ∧ ClsF K C r
noncomputable def ClsAll (K : PySem.W.Frag) (fa : Str → Addr) : List CI → Prop
  | [] => True
  | i :: r => (∃ C, PySem.W.nsIn K mainGlobals i.name = some (some (.ref C)) ∧ Cls K C ∧ ClsM K fa C i.meths ∧ ClsF K C i.flds) ∧ ClsAll K fa r
theorem ClsAll.at {K : PySem.W.Frag} {fa : Str → Addr} : ∀ {cl : List CI} {i : CI}, ClsAll K fa cl → i ∈ cl → ∃ C, PySem.W.nsIn K mainGlobals i.name = some (some (.ref C)) ∧ Cls K C ∧ ClsM K fa C i.meths ∧ ClsF K C i.flds
  | [], _, _, h => by cases h
  | j :: r, i, h, hi => by
    rcases List.mem_cons.mp hi with rfl | hi
    · exact h.1
    · exact h.2.at hi
theorem ClsF.at {K : PySem.W.Frag} {C : Addr} : ∀ {l : List Str} {f : Str}, ClsF K C l → f ∈ l → NoAttr K C f
  | [], _, _, h => by cases h
  | j :: r, i, h, hi => by
    rcases List.mem_cons.mp hi with rfl | hi
    · exact h.1
    · exact h.2.at hi
theorem ClsM.at {K : PySem.W.Frag} {fa : Str → Addr} {C : Addr} : ∀ {l : List (Str × Str × Nat)} {m key : Str} {n : Nat}, ClsM K fa C l → l.lookup m = some (key, n) → Meth K C m (fa key)
  | [], _, _, _, _, e => by cases e
  | (m', key', n') :: r, m, key, n, h, e => by
    rw [List.lookup_cons] at e
    split at e
    · rename_i hb
      cases e
      rw [beq_iff_eq] at hb
      subst hb
      exact h.1
    · exact h.2.at e
/-- all that the head must give -/
structure GF (w : World) (K : PySem.W.Frag) (mg : Str → Option Value) (g : MG) (t : TB) (fa : Str → Addr) : Prop where
  con : GCon w K mg fa g.G
  gok : gOk g.G t.T = true
  all : StandAll K g fa t.T
  alli : StandAllI K mg g t.I
  mk0 : ∀ c, c ∈ g.mk0 → MkV0 K mg c
  mkok : mkiOk g.mki t.I = true
  iso : ∀ c, c ∈ g.iso → IsV K mg t.cl c
  cls : ClsAll K fa t.cl
  mtok : mtOk t.cl t.T = true
  xtok : XtOk K mg (fun c x => t.xt.lookup (c, x))
  xiok : XisOk K mg (fun c x => t.xi.lookup (c, x))
  xcok : ∀ c, c ∈ g.xcs → ∃ Cc, mg c = some (.ref Cc) ∧ RzCls K Cc
  xnok : ∀ n, n ∈ g.xns → ∃ cv, ClsV mg n cv
theorem spV_stuck {K : PySem.W.Frag} {mg : Str → Option Value} {n : Nat} {Φ : List D → Res} {vs : List V} {H : Hp} {Q : VK} {E : XK} (hz : ∀ ds, Φ ds = .stuck) (h : spV K mg n Φ vs H Q E) : False := by
  obtain ⟨_, F, ds, _, _, h⟩ := h
  rw [hz] at h
  exact h
section
variable {P : Program} {w : World} {K : PySem.W.Frag} {mg : Str → Option Value} {base : Heap} {g : MG} {t : TB} {fa : Str → Addr}
/-- every def keeps its promise at every depth -/
structure AllOk (P : Program) (w : World) (K : PySem.W.Frag) (mg : Str → Option Value) (base : Heap) (t : TB) (fa : Str → Addr) (k : Nat) : Prop where
  fn : ∀ key d, t.T.lookup key = some d → ∃ fd, FnOk P w K mg base (CX1 P w) k (fa key) fd d.ps (spV K mg d.ps.length ((WT t k).Φ key)) ∧ Binds K fd d.ps [] ∧ PySem.W.keepIn K (.ref (fa key)) = true
  ini : ∀ key d Φ, t.I.lookup key = some d → (WT t k).I key = some Φ → ∃ j, j + 1 ≤ k ∧ InV P w K mg base (CX1 P w) j d.c (d.ps.length - 1) Φ
theorem sx_of (f : GF w K mg g t fa) {k : Nat} (A : AllOk P w K mg base t fa k) {N : List Str} {sc : Scope} {C : Cw} {X : Cx} (hP : X.prog = P) (hw : X.w = w) (hK : X.K = K) (hmg : X.mg = mg) (hb : X.base = base) (hN : X.N = N) (hs : X.env.scope = sc) (cm : X.calm = true) (rm : Room k X.A) (hfn : ∀ x, X.fn x = true) (xo : XOk (CX1 X.prog X.w) (C.at X) X) :
    SX k (WT t k) ⟨N, sc, g, true, true, true⟩ C X := by
  subst hP hw hK hmg hb
  refine ⟨hN, hs, fun _ => cm, fun _ => rm, rm.units, fun _ => xo, ?_, ?_, f.xcok, f.xnok, fun y c l => ?_, fun y l => f.con.at l, fun c hc => f.mk0 c hc, fun c key n hm Φ e => ?_, fun c hc => by rw [WT_cl]; exact f.iso c hc, fun i f' hi hf => ?_, fun c m key n e => ?_, fun y n l => ?_, fun _ => hfn⟩
  · unfold WD.xf; rw [WT_xt]; exact f.xtok
  · unfold WD.xg; rw [WT_xi]; exact f.xiok
  · have := f.con.at l
    cases c <;> exact this
  · have h1 := List.all_eq_true.mp f.mkok (c, key, n) hm
    dsimp only at h1
    cases q : t.I.lookup key with
    | none => rw [q] at h1; cases h1
    | some d =>
      rw [q] at h1
      simp only [Bool.and_eq_true, beq_iff_eq] at h1
      obtain ⟨j, hj, M⟩ := A.ini key d Φ q e
      rw [h1.1, h1.2] at M
      exact ⟨j, hj, M⟩
  · rw [WT_cl] at hi
    obtain ⟨C', h1, h2, _, h4⟩ := f.cls.at hi
    exact ⟨C', h1, h2, h4.at hf⟩
  · rw [WT_cl] at e
    unfold CI.meth at e
    split at e
    · rename_i i ei
      have hi := List.mem_of_find?_eq_some ei
      have hn : i.name = c := by simpa using List.find?_some ei
      obtain ⟨C', h1, h2, h3, _⟩ := f.cls.at hi
      have hmo := List.all_eq_true.mp (List.all_eq_true.mp f.mtok i hi) (m, key, n) (PySem.mem_of_lookup e)
      dsimp only at hmo
      cases q : t.T.lookup key with
      | none => rw [q] at hmo; cases hmo
      | some d =>
        rw [q] at hmo
        rw [beq_iff_eq] at hmo
        obtain ⟨fd, FO, hb, _⟩ := A.fn key d q
        rw [hmo] at FO
        exact ⟨C', fa key, fd, d.ps, by rw [← hn]; exact h1, h2, h3.at e, FO, hb⟩
    · cases e
  · obtain ⟨d, e, rfl⟩ := gOk_at f.gok l
    obtain ⟨fd, FO, hb, hk⟩ := A.fn y d e
    exact ⟨fa y, fd, d.ps, FO, f.con.at l, hk, hb⟩
theorem fn_step (f : GF w K mg g t fa) {k : Nat} (A : AllOk P w K mg base t fa k) {key : Str} {d : FD} {name : Str} {st : Stmt} {fd : FuncData} {a : Addr} (F : Fun K name key st a fd) (e : t.T.lookup key = some d) (ok : fdOk g st d = true) :
    FnOk P w K mg base (CX1 P w) (k + 1) a fd d.ps (spV K mg d.ps.length ((WT t (k + 1)).Φ key)) := by
  unfold fdOk at ok
  rw [Bool.and_eq_true] at ok
  have sc := scOk_of ok.1
  have : (WT t (k + 1)).Φ key = phi d.ps.length d.N.length (evB (WT t k) d.b) := by rw [WT_Φ]; unfold PhiF; rw [e]
  rw [this]
  exact fnok_phi (k := k) F sc fun C cdv A' outer s H En hE hr => sB (m := ⟨d.N, defScope st, g, true, true, true⟩) (X := cxOf (CX1 P w) P w K mg base d.N key (defScope st) a cdv A' outer s H En) ⟨sx_of f A rfl rfl rfl rfl rfl rfl rfl rfl hr (fun _ => rfl) (xok_fn (K := K) (H := H) (outer := outer) hE), sc.nd, PassesOwn.leaving, fun _ => ⟨rzok_fn (K := K) (H := H) (outer := outer) hE, fnCx⟩⟩ d.b ok.2
theorem init_step (f : GF w K mg g t fa) {k : Nat} (A : AllOk P w K mg base t fa k) {key : Str} {d : ID} (e : t.I.lookup key = some d) : InV P w K mg base (CX1 P w) (k + 1) d.c (d.ps.length - 1) (phiI (WT t k) d) := by
  obtain ⟨name, st, C', a, fd, ns, hm, M, F, hb, ok⟩ := f.alli.at e
  refine ⟨C', a, fd, d.ps, ns, hm, M, ?_, hb⟩
  unfold idOk at ok
  rw [Bool.and_eq_true, Bool.and_eq_true, decide_eq_true_eq] at ok
  have sc := scOk_of ok.1.1
  obtain ⟨oc, od, kV, doc, pm, an, cdv, ct, osl, rfl, lk, hcd⟩ := F.ex
  refine fn_of lk hcd sc (fun vs H Q E h => ?_) fun A' outer s H vs Q E hr h => ?_
  · obtain ⟨x, us, dx, C, H1, F1, ds, rfl, hl, _⟩ := h
    rw [List.length_cons, hl]; have := ok.2; omega
  · obtain ⟨x, us, dx, C2, H1, F1, ds, rfl, hl, ns2, rfl, hx, hd, hne, sF, rl, h⟩ := h
    rw [ns] at ns2; cases ns2
    let Cw0 : Cw := ⟨K, F1, H1, eeOf mg E⟩
    have hN : 0 < d.N.length := by have := congrArg List.length sc.pre; rw [List.length_take] at this; omega
    refine ⟨_, sIB (m := ⟨d.N, defScope st, g, true, true, true⟩) (C := Cw0) ⟨sx_of f A rfl rfl rfl rfl rfl rfl rfl rfl hr (fun _ => rfl) (xok_fn rfl), sc.nd, PassesOwn.leaving, fun _ => ⟨rzok_fn rfl, fnCx⟩⟩ d.c d.ib ok.1.2, ?_⟩
    unfold phiI at h
    rw [if_pos (by have := rl.length; omega)] at h
    have low : ∀ (i : Nat) (m : Bool) (e : D), (none :: startR (d.N.length - 1) ds : Rho)[i]? = some (some (m, e)) → m = false ∧ ∃ v, (start d.N (.ref x :: us))[i]? = some (some v) ∧ RepV K F1 e v := fun i m e' ei => by
      cases i with
      | zero => cases ei
      | succ i =>
        rw [List.getElem?_cons_succ] at ei
        unfold startR at ei
        unfold L2.start
        by_cases hi : i < ds.length
        · rw [List.getElem?_append_left (by simpa using hi), List.getElem?_map, List.getElem?_eq_getElem hi] at ei
          cases ei
          obtain ⟨v, ev, rv⟩ := rl.get' (List.getElem?_eq_getElem hi)
          exact ⟨rfl, v, by rw [List.getElem?_append_left (by simpa [rl.length] using hi), List.getElem?_map, List.getElem?_cons_succ, ev]; rfl, rv⟩
        · rw [List.getElem?_append_right (by simpa using hi), List.getElem?_replicate] at ei
          split at ei <;> cases ei
    refine ⟨none :: startR (d.N.length - 1) ds, F1, [], x, dx, C', [], ⟨step_made sF hx hd hne, fun i m e' ei => ?_, fun i j d1 d2 a _ e1 _ _ _ => ?_, by simp [L2.start, startR, rl.length]; omega⟩, by simp [L2.start], fun i d' ei => ?_, hx, sF.free hx, upd_same, ns, by simp only [RepF], ?_⟩
    · obtain ⟨rfl, v, e1, rv⟩ := low i m e' ei
      exact ⟨v, e1, rv, by intro z; cases z⟩
    · have := (low i true d1 e1).1; cases this
    · have := (low i true d' ei).1; cases this
    · cases er : evIB (WT t k) d.c d.ib (none :: startR (d.N.length - 1) ds) [] with
      | stuck => rw [er] at h; exact h.elim
      | exc c' => rw [er] at h; exact fun σ' F' H' st' u hu => h F' H' u st' hu
      | ok fs =>
        rw [er] at h
        exact fun F' H' gs' st' hf hh rf => h F' H' st' ⟨x, rfl, hf, C', dx, gs', ns, hh, rf⟩
theorem all_ok (f : GF w K mg g t fa) : ∀ k, AllOk P w K mg base t fa k ∧ AllOk P w K mg base t fa (k + 1)
  | 0 => by
    have A0 : AllOk P w K mg base t fa 0 := ⟨fun key d e => by
      obtain ⟨name, st, fd, F, hb, _⟩ := f.all.at e
      exact ⟨fd, ⟨fun vs H Q En h => (spV_stuck (fun _ => rfl) h).elim, fun A outer s H args us vs Q En _ _ _ _ h => (spV_stuck (fun _ => rfl) h).elim⟩, hb, F.kp⟩, fun key d Φ _ e => by cases e⟩
    refine ⟨A0, fun key d e => ?_, fun key d Φ _ e => by cases e⟩
    obtain ⟨name, st, fd, F, hb, ok⟩ := f.all.at e
    exact ⟨fd, fn_step f A0 F e ok, hb, F.kp⟩
  | k + 1 => by
    obtain ⟨A0, A1⟩ := all_ok f k
    refine ⟨A1, fun key d e => ?_, fun key d Φ e ei => ?_⟩
    · obtain ⟨name, st, fd, F, hb, ok⟩ := f.all.at e
      exact ⟨fd, fn_step f A1 F e ok, hb, F.kp⟩
    · have ei : (match t.I.lookup key with | some i => some (phiI (WT t k) i) | none => none) = some Φ := ei
      rw [e] at ei
      cases ei
      exact ⟨k + 1, Nat.le_refl _, init_step f A0 e⟩
end
/-- the law's promise, without the module's names -/
noncomputable def spLw (K : PySem.W.Frag) (Φ : List D → Res) : Sp := fun vs H Q E => ∃ a ns, vs = [.ref a] ∧ SqL K H a (ns.map V.int) ∧ Φ (lawIn ns) = .ok .fz (.bl true) ∧ ∀ H', Q (.bl true) H'
theorem fnok_lw {P : Program} {w : World} {K : PySem.W.Frag} {mg : Str → Option Value} {base : Heap} {CX : CXT} {k : Nat} {f : Addr} {fd : FuncData} {ps : List Str} {Φ : List D → Res} (h : FnOk P w K mg base CX k f fd ps (spV K mg 1 Φ)) : FnOk P w K mg base CX k f fd ps (spLw K Φ) :=
  h.imp fun vs H Q E ⟨a, ns, e, hq, hp, q⟩ => by
    subst e
    refine ⟨rfl, H, lawIn ns, Same.refl _, RepL.cons ?_ RepL.nil, ?_⟩
    · simp only [RepV]
      exact ⟨a, _, rfl, hq, repL_ints ns⟩
    · rw [hp]
      exact ⟨by decide, fun v F' H' s rp _ => by rw [rp.bl]; exact q H'⟩
theorem fnok_law {P : Program} {w : World} {K : PySem.W.Frag} {mg : Str → Option Value} {base : Heap} {g : MG} {t : TB} {fa : Str → Addr} (f : GF w K mg g t fa) (k : Nat) {a : Addr} {fd : FuncData} {d : FD} {st : Stmt} (F : Fun K "law" "law" st a fd) (e : t.T.lookup ("law" : Str) = some d) (ok : fdOk g st d = true) (hl : d.ps.length = 1) :
    FnOk P w K mg base (CX1 P w) (k + 1) a fd d.ps (spLw K ((WT t (k + 1)).Φ ("law" : Str))) := by
  have := fn_step (P := P) (w := w) (base := base) f (all_ok f k).1 F e ok
  rw [hl] at this
  exact fnok_lw this
end D3

namespace D3
open PySem L2
/-! ### values by what is written (for simp) -/
section
variable {W : WD} {ρ : Rho} {a b c : E} {es : List E}
@[simp] theorem e_var {i} : evE W (.var i) ρ = getS ρ i := Eq.trans rfl rfl
@[simp] theorem e_non : evE W .non ρ = .ok .fz .non := Eq.trans rfl rfl
@[simp] theorem e_bl {b} : evE W (.bl b) ρ = .ok .fz (.bl b) := Eq.trans rfl rfl
@[simp] theorem e_int {i} : evE W (.int i) ρ = .ok .fz (.int i) := Eq.trans rfl rfl
@[simp] theorem e_str {x} : evE W (.str x) ρ = .ok .fz (.str x) := Eq.trans rfl rfl
@[simp] theorem e_globS {x y} : evE W (.glob x (.s y)) ρ = .ok .fz (.str y) := Eq.trans rfl rfl
@[simp] theorem e_globI {x y} : evE W (.glob x (.i y)) ρ = .ok .fz (.int y) := Eq.trans rfl rfl
@[simp] theorem e_ty {t : Ty} : evE W (.ty t) ρ = .ok .fz (.ty t.id) := Eq.trans rfl rfl
@[simp] theorem e_bin {op} : evE W (.bin op a b) ρ = op2 (fBin op) (evE W a ρ) (evE W b ρ) := Eq.trans rfl rfl
@[simp] theorem e_cmp {op} : evE W (.cmp op a b) ρ = op2 (fCmp op) (evE W a ρ) (evE W b ρ) := Eq.trans rfl rfl
@[simp] theorem e_andL : evE W (.andL es) ρ = evA W es ρ := Eq.trans rfl rfl
@[simp] theorem e_orL : evE W (.orL es) ρ = evO' W es ρ := Eq.trans rfl rfl
@[simp] theorem e_not : evE W (.not a) ρ = notR (evE W a ρ) := Eq.trans rfl rfl
@[simp] theorem e_neg : evE W (.neg a) ρ = negR (evE W a ρ) := Eq.trans rfl rfl
@[simp] theorem e_tru : evE W (.tru a) ρ = truR (evE W a ρ) := Eq.trans rfl rfl
@[simp] theorem e_frz : evE W (.frz a) ρ = frzR (evE W a ρ) := Eq.trans rfl rfl
@[simp] theorem e_ix : evE W (.ix a b) ρ = op2 ixD (evE W a ρ) (evE W b ρ) := Eq.trans rfl rfl
@[simp] theorem e_tup : evE W (.tup es) ρ = tupR (evEs W es ρ) := Eq.trans rfl rfl
@[simp] theorem e_lst : evE W (.lst es) ρ = lstR (evEs W es ρ) := Eq.trans rfl rfl
@[simp] theorem e_call {f n} : evE W (.call f n es) ρ = callF n (W.Φ f) (evEs W es ρ) := Eq.trans rfl rfl
@[simp] theorem e_bcall {f : Bn} : evE W (.bcall f es) ρ = callR f.f (evEs W es ρ) := Eq.trans rfl rfl
@[simp] theorem e_items : evE W (.items a) ρ = itemsR (frzR (evE W a ρ)) := Eq.trans rfl rfl
@[simp] theorem e_zip2 : evE W (.zip2 a b) ρ = zipR (consL (evE W a ρ) (consL (evE W b ρ) (.ok []))) := Eq.trans rfl rfl
@[simp] theorem e_enum1 : evE W (.enum1 a) ρ = enumR (consL (frzR (evE W a ρ)) (.ok [])) := Eq.trans rfl rfl
@[simp] theorem e_minN : evE W (.minN a) ρ = minNR (evE W a ρ) := Eq.trans rfl rfl
@[simp] theorem e_comp {ts : List E} {caps t n} : evE W (.comp a b ts caps t n) ρ = compR (evE W b ρ) ρ caps n (setG t) (fun ρ => evF W ts ρ) (fun ρ => evE W a ρ) := Eq.trans rfl rfl
@[simp] theorem e_fmt : evE W (.fmt a) ρ = fmtR (evE W a ρ) := Eq.trans rfl rfl
@[simp] theorem e_fstr : evE W (.fstr es) ρ = joinF Str.empty (evL W es) ρ := Eq.trans rfl rfl
@[simp] theorem el_nil : evL W [] = [] := by simp only [evL]
@[simp] theorem el_cons : evL W (a :: es) = evE W a :: evL W es := by simp only [evL]
@[simp] theorem sg_nm {i : Nat} {d : D} : setG (.nm i) d ρ = some (ρ.set i (some (false, d))) := by simp only [setG]
@[simp] theorem sg_tp {ts : List Tg} {ds : List D} : setG (.tp ts) (.tup ds) ρ = setGs ts ds ρ := by simp only [setG]
@[simp] theorem sg_tpl {ts : List Tg} {ds : List D} : setG (.tp ts) (.lst ds) ρ = setGs ts ds ρ := by simp only [setG]
@[simp] theorem sgs_nil : setGs [] [] ρ = some ρ := by simp [setGs]
@[simp] theorem sgs_cons {t : Tg} {ts : List Tg} {d : D} {ds : List D} : setGs (t :: ts) (d :: ds) ρ = (setG t d ρ).bind (setGs ts ds) := by
  simp only [setGs]
  cases setG t d ρ <;> rfl
@[simp] theorem fmt_s {m : Md} {z : Str} : fmtR (.ok m (.str z)) = .ok .fz (.str z) := rfl
@[simp] theorem e_chain {op op'} : evE W (.chain op op' a b c) ρ = chainR (fCmp op) (fCmp op') (evE W a ρ) (evE W b ρ) (evE W c ρ) := Eq.trans rfl rfl
@[simp] theorem e_tcall {t : Ty} : evE W (.tcall t es) ρ = callR t.f (evEs W es ρ) := Eq.trans rfl rfl
@[simp] theorem e_isi {x} : evE W (.isi a x) ρ = isoR W.cl x (evE W a ρ) := Eq.trans rfl rfl
@[simp] theorem e_fld {x} : evE W (.fld a x) ρ = fldR W.cl x (evE W a ρ) := Eq.trans rfl rfl
@[simp] theorem e_meth {x} : evE W (.meth a x es) ρ = methR W.cl W.Φ x (evE W a ρ) (evEs W es ρ) := Eq.trans rfl rfl
@[simp] theorem e_mk0 {x} : evE W (.mk0 x) ρ = .ok .fr (.ins x []) := Eq.trans rfl rfl
theorem e_make {x key n Φ} (h : W.I key = some Φ) : evE W (.make x key n es) ρ = makeR n Φ (evEs W es ρ) := by show (match W.I key with | some Φ => makeR n Φ (evEs W es ρ) | none => .stuck) = _; rw [h]
@[simp] theorem es_nil : evEs W [] ρ = .ok [] := by simp only [evEs]
@[simp] theorem es_cons : evEs W (a :: es) ρ = consL (evE W a ρ) (evEs W es ρ) := by simp only [evEs]
@[simp] theorem ea_one : evA W [a] ρ = evE W a ρ := by simp only [evA]
@[simp] theorem ea_cons : evA W (a :: b :: es) ρ = andR (evE W a ρ) (evA W (b :: es) ρ) := by simp only [evA]
@[simp] theorem eo_one : evO' W [a] ρ = evE W a ρ := by simp only [evO']
@[simp] theorem eo_cons : evO' W (a :: b :: es) ρ = orR (evE W a ρ) (evO' W (b :: es) ρ) := by simp only [evO']
@[simp] theorem ef_nil : evF W [] ρ = .ok .fz (.bl true) := by simp only [evF]
@[simp] theorem ef_cons : evF W (a :: es) ρ = andR (evE W a ρ) (evF W es ρ) := by simp only [evF]
@[simp] theorem eo_none : evO W none = none := by simp only [evO]
@[simp] theorem eo_some : evO W (some a) = some (evE W a) := by simp only [evO]
@[simp] theorem s_ret : evS W (.ret a) ρ = retR (evE W a ρ) ρ := Eq.trans rfl rfl
@[simp] theorem s_retV {i} : evS W (.retV i) ρ = retS ρ i := Eq.trans rfl rfl
@[simp] theorem s_set {i} : evS W (.set i a) ρ = setS ρ i (evE W a ρ) := Eq.trans rfl rfl
@[simp] theorem s_ite {x y : List S} : evS W (.ite a x y) ρ = ifS (evE W a ρ) ρ (evB W x ρ) (evB W y ρ) := Eq.trans rfl rfl
@[simp] theorem s_for {t : Tg} {y : List S} : evS W (.for a t y) ρ = forR (evE W a ρ) ρ (setG t) (evB W y) := Eq.trans rfl rfl
@[simp] theorem s_rz {c} : evS W (.rz c es) ρ = rzR c ρ (evEs W es ρ) := Eq.trans rfl rfl
@[simp] theorem s_frzV {i} : evS W (.frzV i) ρ = frzS ρ i := Eq.trans rfl rfl
@[simp] theorem b_nil : evB W [] ρ = .nx ρ := by simp only [evB]
@[simp] theorem b_cons {s : S} {r : List S} : evB W (s :: r) ρ = (evS W s ρ).thn (evB W r) := by simp only [evB]
end
section
variable {m n : Md} {i j : Int} {ρ : Rho} {d : D}
@[simp] theorem x_add : op2 (fBin .Add) (.ok m (.int i)) (.ok n (.int j)) = .ok .fz (.int (i + j)) := rfl
@[simp] theorem x_band : op2 (fBin .BitAnd) (.ok m (.int i)) (.ok n (.int j)) = .ok .fz (.int (Builtin.bitAnd i j)) := rfl
@[simp] theorem x_bor : op2 (fBin .BitOr) (.ok m (.int i)) (.ok n (.int j)) = .ok .fz (.int (Builtin.bitOr i j)) := rfl
@[simp] theorem x_shl (h : 0 ≤ j) (h1 : j ≤ 1000000) (h2 : i.natAbs < 2 ^ 64) : op2 (fBin .LShift) (.ok m (.int i)) (.ok n (.int j)) = .ok .fz (.int (i * 2 ^ j.toNat)) := by
  show (match (if (decide (0 ≤ j) && decide (j ≤ 1000000) && decide (i.natAbs < 2 ^ 64)) = true then some (Md.fz, D.int (i * 2 ^ j.toNat)) else none) with | some (m, d) => Res.ok m d | none => .stuck) = _
  rw [decide_eq_true h, decide_eq_true h1, decide_eq_true h2]; rfl
@[simp] theorem x_shr (h : 0 ≤ j) : op2 (fBin .RShift) (.ok m (.int i)) (.ok n (.int j)) = .ok .fz (.int (i / 2 ^ j.toNat)) := by
  show (match (if decide (0 ≤ j) = true then some (Md.fz, D.int (i / 2 ^ j.toNat)) else none) with | some (m, d) => Res.ok m d | none => .stuck) = _
  rw [decide_eq_true h]; rfl
@[simp] theorem x_sub : op2 (fBin .Sub) (.ok m (.int i)) (.ok n (.int j)) = .ok .fz (.int (i - j)) := rfl
@[simp] theorem x_lt : op2 (fCmp .Lt) (.ok m (.int i)) (.ok n (.int j)) = .ok .fz (.bl (decide (i < j))) := rfl
@[simp] theorem x_le : op2 (fCmp .LtE) (.ok m (.int i)) (.ok n (.int j)) = .ok .fz (.bl (decide (i ≤ j))) := rfl
@[simp] theorem x_gt : op2 (fCmp .Gt) (.ok m (.int i)) (.ok n (.int j)) = .ok .fz (.bl (decide (j < i))) := rfl
@[simp] theorem x_ge : op2 (fCmp .GtE) (.ok m (.int i)) (.ok n (.int j)) = .ok .fz (.bl (decide (j ≤ i))) := rfl
@[simp] theorem x_mod (h : 0 < j) : op2 (fBin .Mod) (.ok m (.int i)) (.ok n (.int j)) = .ok .fz (.int (i % j)) := by
  show Res.of (if decide (0 < j) = true then _ else _) = _
  rw [if_pos (decide_eq_true h)]; rfl
theorem x_div (h : 0 < j) (hb : bits j = true) : op2 (fBin .FloorDiv) (.ok m (.int i)) (.ok n (.int j)) = .ok .fz (.int (i / j)) := by
  show Res.of (if (decide (0 < j) && bits j) = true then _ else _) = _
  rw [if_pos (by rw [hb, decide_eq_true h]; rfl)]; rfl
theorem bits_of (h : i.natAbs < 10 ^ 2000) : bits i = true := by
  unfold bits
  refine decide_eq_true ?_
  by_cases h0 : i.natAbs = 0
  · rw [h0]; decide
  · refine (Nat.log2_lt h0).mpr (Nat.lt_trans h ?_)
    decide +kernel
theorem bits_le {N : Nat} (h : i.natAbs ≤ N) (hN : N < 10 ^ 2000 := by decide +kernel) : bits i = true := bits_of (Nat.lt_of_le_of_lt h hN)
@[simp] theorem x_divS (h : 0 < j) (hb : j.natAbs ≤ 1000000000) : op2 (fBin .FloorDiv) (.ok m (.int i)) (.ok n (.int j)) = .ok .fz (.int (i / j)) := x_div h (bits_le hb)
theorem x_mulC (h : ((bits i && bits j) || (w64 i || w64 j)) = true) : op2 (fBin .Mult) (.ok m (.int i)) (.ok n (.int j)) = .ok .fz (.int (i * j)) := by
  show Res.of (((if ((bits i && bits j) || (w64 i || w64 j)) = true then _ else _ : Option (Md × D)).orElse _).orElse _) = _
  rw [if_pos h]; rfl
theorem x_mul (h1 : bits i = true) (h2 : bits j = true) : op2 (fBin .Mult) (.ok m (.int i)) (.ok n (.int j)) = .ok .fz (.int (i * j)) := x_mulC (by rw [h1, h2]; rfl)
theorem op2_of {φ : Md → D → Md → D → Option (Md × D)} {x y d : D} {k : Md} (h : φ m x n y = some (k, d)) : op2 φ (.ok m x) (.ok n y) = .ok k d := by
  show Res.of (φ m x n y) = _
  rw [h]; rfl
@[simp] theorem x_eqI : op2 (fCmp .Eq) (.ok m (.int i)) (.ok n (.int j)) = .ok .fz (.bl (i == j)) := op2_of rfl
@[simp] theorem x_neI : op2 (fCmp .NotEq) (.ok m (.int i)) (.ok n (.int j)) = .ok .fz (.bl (i != j)) := op2_of rfl
@[simp] theorem x_eqB {a b : Bool} : op2 (fCmp .Eq) (.ok m (.bl a)) (.ok n (.bl b)) = .ok .fz (.bl (a == b)) := op2_of rfl
@[simp] theorem x_neB {a b : Bool} : op2 (fCmp .NotEq) (.ok m (.bl a)) (.ok n (.bl b)) = .ok .fz (.bl (a != b)) := op2_of rfl
@[simp] theorem x_eqS {a b : Str} : op2 (fCmp .Eq) (.ok m (.str a)) (.ok n (.str b)) = .ok .fz (.bl (a == b)) := op2_of (by rfl)
@[simp] theorem x_neS {a b : Str} : op2 (fCmp .NotEq) (.ok m (.str a)) (.ok n (.str b)) = .ok .fz (.bl (a != b)) := op2_of (by rfl)
@[simp] theorem x_inS {a b : Str} : op2 (fCmp .In) (.ok m (.str a)) (.ok n (.str b)) = .ok .fz (.bl (isIn a b)) := op2_of rfl
@[simp] theorem x_notinS {a b : Str} : op2 (fCmp .NotIn) (.ok m (.str a)) (.ok n (.str b)) = .ok .fz (.bl (!isIn a b)) := op2_of rfl
@[simp] theorem x_addS {a b : Str} (h : a.length + b.length ≤ sizeLine) : op2 (fBin .Add) (.ok m (.str a)) (.ok n (.str b)) = .ok .fz (.str (a ++ b)) :=
  op2_of (by
    have : fS (fun i j => decide (i.length + j.length ≤ sizeLine)) (fun i j => D.str (i ++ j)) m (.str a) n (.str b) = some (Md.fz, D.str (a ++ b)) := by
      show (if decide (a.length + b.length ≤ sizeLine) = true then some (Md.fz, D.str (a ++ b)) else none) = _
      rw [if_pos (decide_eq_true h)]
    show orO (orO (fI (fun _ _ => true) fun i j => .int (i + j)) (fS (fun i j => decide (i.length + j.length ≤ sizeLine)) fun i j => .str (i ++ j))) catD m (.str a) n (.str b) = _
    simp only [orO, this]
    rfl)
@[simp] theorem x_isN {d : D} : op2 (fCmp .Is) (.ok m d) (.ok n .non) = .ok .fz (.bl (isNonD d)) := op2_of rfl
@[simp] theorem x_isnotN {d : D} : op2 (fCmp .IsNot) (.ok m d) (.ok n .non) = .ok .fz (.bl (!isNonD d)) := op2_of rfl
@[simp] theorem x_chain {φ ψ : Md → D → Md → D → Option (Md × D)} {x y z : D} {k k' k'' : Md} {t : Bool} (h : φ k x k' y = some (.fz, .bl t)) : chainR φ ψ (.ok k x) (.ok k' y) (.ok k'' z) = if t = true then Res.of (ψ k' y k'' z) else .ok .fz (.bl false) := by
  unfold chainR
  simp only [Res.thn_ok, h, Res.of_some]
  cases t <;> rfl
theorem x_chI {a b c : Int} {k k' k'' : Md} {op op' : CmpOp} {f f' : Int → Int → Bool} (h : ∀ k i k' j, fCmp op k (.int i) k' (.int j) = some (.fz, .bl (f i j))) (h' : ∀ k i k' j, fCmp op' k (.int i) k' (.int j) = some (.fz, .bl (f' i j))) :
    chainR (fCmp op) (fCmp op') (.ok k (.int a)) (.ok k' (.int b)) (.ok k'' (.int c)) = .ok .fz (.bl (f a b && f' b c)) := by
  rw [x_chain (t := f a b) (h k a k' b), h' k' b k'' c]
  cases f a b <;> rfl
@[simp] theorem x_leLe {a b c : Int} {k k' k'' : Md} : chainR (fCmp .LtE) (fCmp .LtE) (.ok k (.int a)) (.ok k' (.int b)) (.ok k'' (.int c)) = .ok .fz (.bl (decide (a ≤ b) && decide (b ≤ c))) := x_chI (f := fun i j => decide (i ≤ j)) (f' := fun i j => decide (i ≤ j)) (fun _ _ _ _ => rfl) (fun _ _ _ _ => rfl)
@[simp] theorem x_leLt {a b c : Int} {k k' k'' : Md} : chainR (fCmp .LtE) (fCmp .Lt) (.ok k (.int a)) (.ok k' (.int b)) (.ok k'' (.int c)) = .ok .fz (.bl (decide (a ≤ b) && decide (b < c))) := x_chI (f := fun i j => decide (i ≤ j)) (f' := fun i j => decide (i < j)) (fun _ _ _ _ => rfl) (fun _ _ _ _ => rfl)
@[simp] theorem x_catL {x y : List D} (h : x.length + y.length ≤ sizeLine) : op2 (fBin .Add) (.ok m (.lst x)) (.ok n (.lst y)) = .ok .fr (.lst (x ++ y)) := op2_of (by
  show (if x.length + y.length ≤ sizeLine then some (Md.fr, D.lst (x ++ y)) else none) = _
  rw [if_pos h])
@[simp] theorem x_catT {x y : List D} (h : x.length + y.length ≤ sizeLine) : op2 (fBin .Add) (.ok m (.tup x)) (.ok n (.tup y)) = .ok .fz (.tup (x ++ y)) := op2_of (by
  show (if x.length + y.length ≤ sizeLine then some (Md.fz, D.tup (x ++ y)) else none) = _
  rw [if_pos h])
@[simp] theorem isn_n : isNonD .non = true := rfl
@[simp] theorem isn_i {i : Int} : isNonD (.int i) = false := rfl
@[simp] theorem isn_b {i : Bool} : isNonD (.bl i) = false := rfl
@[simp] theorem isn_s {i : Str} : isNonD (.str i) = false := rfl
@[simp] theorem isn_t {i : List D} : isNonD (.tup i) = false := rfl
@[simp] theorem isn_l {i : List D} : isNonD (.lst i) = false := rfl
@[simp] theorem x_andT {y : Res} : andR (.ok m (.bl true)) y = y := rfl
@[simp] theorem x_andF {y : Res} : andR (.ok m (.bl false)) y = .ok .fz (.bl false) := rfl
@[simp] theorem x_orT {y : Res} : orR (.ok m (.bl true)) y = .ok .fz (.bl true) := rfl
@[simp] theorem x_orF {y : Res} : orR (.ok m (.bl false)) y = y := rfl
@[simp] theorem x_and {a b : Bool} : andR (.ok m (.bl a)) (.ok .fz (.bl b)) = .ok .fz (.bl (a && b)) := by cases a <;> rfl
@[simp] theorem x_or {a b : Bool} : orR (.ok m (.bl a)) (.ok .fz (.bl b)) = .ok .fz (.bl (a || b)) := by cases a <;> rfl
@[simp] theorem x_not {a : Bool} : notR (.ok m (.bl a)) = .ok .fz (.bl (!a)) := rfl
@[simp] theorem x_tru {a : Bool} : truR (.ok m (.bl a)) = .ok .fz (.bl a) := rfl
@[simp] theorem x_truI : truR (.ok m (.int i)) = .ok .fz (.bl (i != 0)) := rfl
@[simp] theorem x_neg : negR (.ok m (.int i)) = .ok .fz (.int (-i)) := rfl
@[simp] theorem x_ifT {x y : SRes} : ifS (.ok m (.bl true)) ρ x y = x := rfl
@[simp] theorem x_ifF {x y : SRes} : ifS (.ok m (.bl false)) ρ x y = y := rfl
@[simp] theorem x_frz : frzR (.ok .fz d) = .ok .fz d := rfl
@[simp] theorem x_frr : frzR (.ok .fr d) = .ok .fz d := rfl
@[simp] theorem x_set {k : Nat} : setS ρ k (.ok .fz d) = .nx (ρ.set k (some (false, d))) := rfl
@[simp] theorem x_setr {k : Nat} : setS ρ k (.ok .fr d) = .nx (ρ.set k (some (true, d))) := rfl
@[simp] theorem x_ret : retR (.ok .fz d) ρ = .rt .fz d := rfl
@[simp] theorem x_retr : retR (.ok .fr d) ρ = .rt .fr d := rfl
@[simp] theorem g_0 {r : Rho} : getS (some (false, d) :: r) 0 = .ok .fz d := rfl
@[simp] theorem g_0b {r : Rho} : getS (some (true, d) :: r) 0 = .ok .bo d := rfl
@[simp] theorem g_s {x : Option (Bool × D)} {r : Rho} {i : Nat} : getS (x :: r) (i + 1) = getS r i := rfl
@[simp] theorem g_1 {x : Option (Bool × D)} {r : Rho} : getS (x :: r) 1 = getS r 0 := rfl
@[simp] theorem rs_0 {r : Rho} : retS (some (false, d) :: r) 0 = .rt .fz d := rfl
@[simp] theorem rs_0b {r : Rho} : retS (some (true, d) :: r) 0 = .rt .fr d := rfl
@[simp] theorem rs_1 {x : Option (Bool × D)} {r : Rho} : retS (x :: r) 1 = retS r 0 := rfl
@[simp] theorem rs_s {x : Option (Bool × D)} {r : Rho} {i : Nat} : retS (x :: r) (i + 1) = retS r i := rfl
@[simp] theorem r_set0 {x y : Option (Bool × D)} {r : Rho} : (x :: r).set 0 y = y :: r := rfl
@[simp] theorem x_callR {f : List (Md × D) → Option (Md × D)} {xs : List (Md × D)} : callR f (.ok xs) = Res.of (f xs) := rfl
@[simp] theorem bn_len : Bn.f .len = lenD := rfl
@[simp] theorem bn_isi : Bn.f .isinstance = isiD := rfl
@[simp] theorem bn_min : Bn.f .min = minD := rfl
@[simp] theorem min_i {i j : Int} : minD [(m, .int i), (n, .int j)] = some (.fz, .int (if j < i then j else i)) := rfl
@[simp] theorem ty_int : Ty.f .int = tcInt2 := rfl
@[simp] theorem ty_str : Ty.f .str = tcStr := rfl
@[simp] theorem ty_tuple : Ty.f .tuple = tcTuple := rfl
@[simp] theorem ty_dict : Ty.f .dict = tcDict := rfl
@[simp] theorem ty_list : Ty.f .list = tcList := rfl
@[simp] theorem tci_i {i : Int} : tcInt2 [(m, .int i)] = some (.fz, .int i) := rfl
@[simp] theorem tci_b {i : Bool} : tcInt2 [(m, .bl i)] = some (.fz, .int (if i then 1 else 0)) := rfl
@[simp] theorem tct_l {i : List D} : tcTuple [(m, .lst i)] = some (.fz, .tup i) := rfl
@[simp] theorem tct_t {i : List D} : tcTuple [(.fz, .tup i)] = some (.fz, .tup i) := rfl
@[simp] theorem tcl_l {i : List D} : tcList [(m, .lst i)] = some (.fr, .lst i) := rfl
@[simp] theorem tcl_t {i : List D} : tcList [(m, .tup i)] = some (.fr, .lst i) := rfl
@[simp] theorem tcs_i {i : Int} (h : small i = true) : tcStr [(m, .int i)] = some (.fz, .str (numS i)) := by show (if small i = true then _ else _) = _; rw [if_pos h]
@[simp] theorem mt_ty : Mt.ty .join = "str" := rfl
@[simp] theorem mt_f : Mt.f .join = joinD := rfl
@[simp] theorem mt_tyT : Mt.ty .joinT = "str" := rfl
@[simp] theorem mt_fT : Mt.f .joinT = D3.joinT := rfl
@[simp] theorem mt_tyS : Mt.ty .startswith = "str" := rfl
@[simp] theorem mt_fS : Mt.f .startswith = swD := rfl
@[simp] theorem mt_tyR : Mt.ty .removeprefix = "str" := rfl
@[simp] theorem mt_fR : Mt.f .removeprefix = rpD := rfl
@[simp] theorem bn_all : Bn.f .all = allD := rfl
@[simp] theorem len_s {z : Str} : lenD [(m, .str z)] = some (.fz, .int z.length) := rfl
@[simp] theorem len_l {z : List D} : lenD [(m, .lst z)] = some (.fz, .int z.length) := rfl
@[simp] theorem len_t {z : List D} : lenD [(m, .tup z)] = some (.fz, .int z.length) := rfl
@[simp] theorem itm_l {z : List D} : itemsR (.ok m (.lst z)) = .ok .fz (.lst z) := rfl
@[simp] theorem itm_t {z : List D} : itemsR (.ok m (.tup z)) = .ok .fz (.lst z) := rfl
@[simp] theorem itm_s {z : Str} : itemsR (.ok m (.str z)) = .ok .fz (.lst (charsD z)) := rfl
end
@[simp] theorem WT_xf {t : TB} {k : Nat} : (WT t k).xf = fun c x => t.xt.lookup (c, x) := by unfold WD.xf; rw [WT_xt]
@[simp] theorem WT_xg {t : TB} {k : Nat} : (WT t k).xg = fun c x => t.xi.lookup (c, x) := by unfold WD.xg; rw [WT_xi]
@[simp] theorem x_rz {c : Str} {ρ : Rho} {xs : List (Md × D)} (h : xs.length ≤ sizeLine) : rzR c ρ (.ok xs) = .exc c ρ := by
  show (if xs.length ≤ sizeLine then _ else _) = _
  rw [if_pos h]
section
variable {c x : Str} {ρ ρ' : Rho} {m : Md} {d : D} {xt : Str → Str → Option Bool} {hs : List HX} {g : Rho → SRes}
@[simp] theorem x_frx : frzR (.exc c) = .exc c := rfl
@[simp] theorem x_setx {k : Nat} : setS ρ k (.exc c) = .exc c ρ := rfl
@[simp] theorem x_retx : retR (.exc c) ρ = .exc c ρ := rfl
end
theorem phi_ok {n N : Nat} {g : Rho → SRes} {ds : List D} {m : Md} {d : D} (hl : ds.length = n) (h : g (startR N ds) = .rt m d) : phi n N g ds = .ok m d := by
  unfold phi
  rw [if_pos hl, h]; rfl
theorem callF_ok {n : Nat} {Φ : List D → Res} {xs : List (Md × D)} {ds : List D} {d : D} (hl : ds.length = n) (ha : allFz xs = some ds) (h : Φ ds = .ok .fz d) : callF n Φ (.ok xs) = .ok .fz d := by
  show (match allFz xs with | some ds => if ds.length = n then (match Φ ds with | .ok .bo _ => Res.stuck | r => r) else .stuck | none => .stuck) = _
  rw [ha]
  show (if ds.length = n then _ else _) = _
  rw [if_pos hl, h]
@[simp] theorem call1 {Φ : List D → Res} {a d : D} (h : Φ [a] = .ok .fz d) : callF 1 Φ (.ok [(.fz, a)]) = .ok .fz d := callF_ok (ds := [a]) rfl rfl h
@[simp] theorem call2 {Φ : List D → Res} {a b d : D} (h : Φ [a, b] = .ok .fz d) : callF 2 Φ (.ok [(.fz, a), (.fz, b)]) = .ok .fz d := callF_ok (ds := [a, b]) rfl rfl h
@[simp] theorem call3 {Φ : List D → Res} {a b c d : D} (h : Φ [a, b, c] = .ok .fz d) : callF 3 Φ (.ok [(.fz, a), (.fz, b), (.fz, c)]) = .ok .fz d := callF_ok (ds := [a, b, c]) rfl rfl h
theorem len1 {α : Type} {P : List α → Prop} (h : ∀ a, P [a]) : ∀ us : List α, us.length = 1 → P us
  | [a], _ => h a
def inCls (s : Stmt) (j : Nat) : Stmt := match s with
  | .ClassDef _ _ _ body _ _ _ _ _ _ _ => body.getD j (.Pass ⟨0, 0, 0, 0⟩)
  | _ => .Pass ⟨0, 0, 0, 0⟩
theorem mem_cons {α : Type} {P : α → Prop} {a : α} {l : List α} (h : P a) (r : ∀ c, c ∈ l → P c) : ∀ c, c ∈ a :: l → P c := fun c hc => by
  rcases List.mem_cons.mp hc with rfl | hc
  · exact h
  · exact r c hc
theorem small_of {i : Int} (h : i.natAbs < 10 ^ 500) : small i = true := by
  unfold small
  refine decide_eq_true ?_
  by_cases h0 : i.natAbs = 0
  · rw [h0]; decide
  · refine (Nat.log2_lt h0).mpr (Nat.lt_trans h ?_)
    decide +kernel
theorem numS_len {i : Int} (h : small i = true) : (numS i).length ≤ 1921 := PyProof.Rows.int_text_len_1921 (of_decide_eq_true h)
@[simp] theorem x_meth {cl : List CI} {Φ : Str → List D → Res} {c m key : Str} {n : Nat} {fs : List (Str × D)} {as : ResL} (h : CI.meth cl c m = some (key, n)) (hl : fs.lookup m = none) : methR cl Φ m (.ok .fz (.ins c fs)) as = callF n (Φ key) (consL (.ok .fz (.ins c fs)) as) := by
  show (match CI.meth cl c m with | some (key, n) => if fs.lookup m = none then callF n (Φ key) (consL (.ok .fz (.ins c fs)) as) else .stuck | none => .stuck) = _
  rw [h]
  show (if fs.lookup m = none then _ else _) = _
  rw [if_pos hl]
@[simp] theorem wt_cl {t : TB} {k : Nat} : (WT t k).cl = t.cl := WT_cl t k
theorem wt_Φ {t : TB} {k : Nat} {f : Str} {d : FD} (h : t.T.lookup f = some d) : (WT t (k + 1)).Φ f = phi d.ps.length d.N.length (evB (WT t k) d.b) := by
  rw [WT_Φ]; unfold PhiF; rw [h]
@[simp] theorem call4 {Φ : List D → Res} {a b c e d : D} (h : Φ [a, b, c, e] = .ok .fz d) : callF 4 Φ (.ok [(.fz, a), (.fz, b), (.fz, c), (.fz, e)]) = .ok .fz d := callF_ok (ds := [a, b, c, e]) rfl rfl h
theorem b_app {W : WD} : ∀ {x y : List D3.S} {ρ : Rho}, evB W (x ++ y) ρ = (evB W x ρ).thn (evB W y)
  | [], y, ρ => by simp
  | s :: x, y, ρ => by
    show evB W (s :: (x ++ y)) ρ = _
    rw [b_cons, b_cons]
    cases evS W s ρ with
    | nx ρ' => exact b_app
    | _ => rfl
/-! ### loops -/
theorem forS_inv {k : D → Rho → Option Rho} {body : Rho → SRes} (I : Rho → Prop) : ∀ {ds : List D} {ρ : Rho}, (∀ d ∈ ds, ∀ ρ, I ρ → ∃ ρ1 ρ2, k d ρ = some ρ1 ∧ (body ρ1 = .nx ρ2 ∨ body ρ1 = .ct ρ2) ∧ I ρ2) → I ρ → ∃ ρ', forS k body ds ρ = .nx ρ' ∧ I ρ'
  | [], ρ, _, h => ⟨ρ, rfl, h⟩
  | d :: ds, ρ, hs, h => by
    obtain ⟨ρ1, ρ2, e1, e2, h2⟩ := hs d List.mem_cons_self ρ h
    obtain ⟨ρ', e3, h3⟩ := forS_inv I (fun d hd => hs d (List.mem_cons_of_mem _ hd)) h2
    refine ⟨ρ', ?_, h3⟩
    unfold forS
    rw [e1]
    dsimp only
    rcases e2 with e2 | e2 <;> rw [e2] <;> exact e3
theorem forR_inv {k : D → Rho → Option Rho} {body : Rho → SRes} {m : Md} {ds : List D} {ρ : Rho} (I : Rho → Prop) (hs : ∀ d ∈ ds, ∀ ρ, I ρ → ∃ ρ1 ρ2, k d ρ = some ρ1 ∧ (body ρ1 = .nx ρ2 ∨ body ρ1 = .ct ρ2) ∧ I ρ2) (h : I ρ) :
    ∃ ρ', forR (.ok m (.lst ds)) ρ k body = .nx ρ' ∧ I ρ' := forS_inv I hs h
/-! ### the greatest divisor -/
theorem compL_map {k : D → Rho → Option Rho} {t e : Rho → Res} {ρ0 : Rho} {f : D → D} : ∀ {ds : List D}, (∀ d ∈ ds, ∃ ρ1 m, k d ρ0 = some ρ1 ∧ t ρ1 = .ok m (.bl true) ∧ ∃ m', frzR (e ρ1) = .ok m' (f d)) → compL k t e ρ0 ds = some (ds.map f)
  | [], _ => rfl
  | d :: ds, h => by
    obtain ⟨ρ1, m, e1, e2, m', e3⟩ := h d List.mem_cons_self
    unfold compL
    rw [e1]
    dsimp only
    rw [e2]
    dsimp only
    rw [e3]
    dsimp only
    rw [compL_map fun d hd => h d (List.mem_cons_of_mem _ hd)]
    rfl
/-- a comprehension without tests over a list: the map -/
theorem compR_map {ρ : Rho} {caps : List Nat} {n : Nat} {k : D → Rho → Option Rho} {t e : Rho → Res} {m : Md} {ds : List D} (f : D → D) (hl : ds.length < sizeLine)
    (h : ∀ d ∈ ds, ∃ ρ1 m, k d (subR caps ρ ++ List.replicate n none) = some ρ1 ∧ t ρ1 = .ok m (.bl true) ∧ ∃ m', frzR (e ρ1) = .ok m' (f d)) : compR (.ok m (.lst ds)) ρ caps n k t e = .ok .fr (.lst (ds.map f)) := by
  unfold compR
  rw [Res.thn_ok]
  dsimp only
  rw [if_pos hl, compL_map h]
end D3

namespace Tp
open PySem PySem.W PySem.Calls
structure S where
  t : BT
  n : Nat
  k : Nat
  nm : Value
  g : List DictEntry
  tb : List Value
def tupO (vs : List Value) : Obj := ⟨.type "tuple", none, .seq vs.toArray 0, #[]⟩
def fldO (c : Value) (vs : List Value) : Obj := ⟨c, none, .fields vs.toArray, #[]⟩
def dicO (es : List DictEntry) (e : Nat) : Obj := ⟨.type "dict", none, .dict es.toArray e, #[]⟩
def en (P : Params) (x : Str) (k : Nat) (v : Value) : DictEntry := ⟨PyData.keyHash P x, .str x k, v⟩
def texts : List Str → Nat → List Value
  | [], _ => []
  | x :: xs, k => .str x k :: texts xs (k + 1)
def fileS : Str := "/claim/cut.py"
def codeO (name qual : Str) (k line argc fl : Nat) (isF : Bool) (a : Nat) (ls cs tm : Value) (j : Nat) : Obj :=
  fldO (.type "code") [.str name k, .str qual (k + 1), .str fileS (k + 2), .int line 0, .int argc 0, .int 0 0, .int 0 0, .int fl 0, .ref a, .bool isF, .int 181 0, .ref (a + 1), .none, ls, cs, tm, .int j 0, .int line 0, .str fileS (j + 1)]
def frmO (code ns : Nat) (nm : Value) : Obj := ⟨.type "frame", none, .plain, #[some (.ref code), some (.ref 3), some (.ref ns), none, some nm, none, some (.ref 0)]⟩
def fnD (name qual : Str) (args : Arguments) (body : List Stmt) (sc : Scope) (gl : Nat) (nm cd : Value) : FuncData := ⟨name, qual, args, .stmts body, sc, gl, [], .none, .none, .none, nm, none, cd, .none, 0⟩
def insL : List Obj → BT → Nat → BT
  | [], t, _ => t
  | o :: os, t, n => insL os (t.ins n o) (n + 1)
-- a def: its objects; the code's place, the function's place, the next token
def layF (name qual : Str) (args : Arguments) (body : List Stmt) (sc : Scope) (line n k : Nat) (nm : Value) : List Obj × Nat × Nat :=
  match localNames args sc (.stmts body) with
  | some (ls, cs) =>
    let a := ls.length
    let b := cs.length
    ([tupO [], fldO .none [], tupO (texts ls (k + 3)), tupO (texts cs (k + 3 + a)), ⟨.none, none, .func (fnD name qual args body sc 0 .none .none), #[]⟩,
      codeO name qual k line args.args.length 3 true n (.ref (n + 2)) (.ref (n + 3)) (.ref (n + 4)) (k + 3 + a + b), ⟨.type "function", none, .func (fnD name qual args body sc 3 nm (.ref (n + 5))), #[]⟩], n + 5, k + 5 + a + b)
  | none =>
    ([tupO [], fldO .none [], ⟨.none, none, .func (fnD name qual args body sc 0 .none .none), #[]⟩,
      codeO name qual k line args.args.length 3 true n .none .none (.ref (n + 2)) (k + 3), ⟨.type "function", none, .func (fnD name qual args body sc 3 nm (.ref (n + 3))), #[]⟩], n + 3, k + 5)
def look (x : Str) : List DictEntry → Option Value
  | [] => none
  | ⟨_, .str y _, v⟩ :: es => match decide (x = y) with | true => some v | false => look x es
  | _ :: es => look x es
-- the defs of a class's body
structure B where
  t : BT
  n : Nat
  k : Nat
  es : List DictEntry
  tb : List Value
def layB (P : Params) (cn : Str) (nm : Value) : List Stmt → B → B
  | .FunctionDef name args body _ _ _ sc _ _ pos :: r, ⟨t, n, k, es, tb⟩ =>
    match layF name (cn ++ "." ++ name) args body sc pos.line n k nm with
    | (os, c, j) => layB P cn nm r ⟨insL os t n, n + os.length, j + 1, en P name j (.ref (c + 1)) :: es, .ref c :: .int pos.col 0 :: .int pos.line 0 :: tb⟩
  | _ :: r, b => layB P cn nm r b
  | [], b => b
def mroOf (t : BT) (a : Nat) : List Value × Value := match t.get a with
  | some ⟨_, _, .cls c, sl⟩ => (c.mro, (sl.getD 4 none).getD .none)
  | _ => ([], .none)
def subTo (a : Nat) : Obj → Obj
  | ⟨c, d, .cls k, sl⟩ => ⟨c, d, .cls { k with subclasses := k.subclasses ++ [.ref a] }, sl⟩
  | o => o
def layC (P : Params) (name : Str) (bases : List PySem.Expr) (body : List Stmt) (st : List Str) (line : Nat) : S → S
  | ⟨t, n, k, nm, g, tb⟩ =>
    let bs : List Value := match bases with
      | .Name b _ :: _ => (match look b g with | some v => [v] | none => [.type "ValueError"])
      | _ => []
    let n2 := n + 2
    let t1 := insL [tupO bs, fldO (.type "builtin_function_or_method") [.builtin "type.__prepare__", .type "type"], dicO [] 0, tupO [], fldO .none [], codeO name name (k + 2) line 0 0 false (n + 3) .none .none .none (k + 5), frmO (n + 5) n2 nm] t n
    match layB P name nm body ⟨t1, n + 7, k + 12, [en P "__firstlineno__" (k + 11) (.int line (k + 10)), en P "__qualname__" (k + 9) (.str name (k + 8)), en P "__module__" (k + 7) nm], []⟩ with
    | ⟨t2, m, j, es, ct⟩ =>
      let es1 := en P "__static_attributes__" (j + st.length) (.ref m) :: es
      let j1 := j + st.length + 1
      let t3 := (t2.set n2 fun _ => dicO es1.reverse es1.length).set (n + 4) fun _ => fldO .none ct.reverse
      let cl := m + 2
      let cp := (es1.reverse.take 1) ++ (es1.reverse.drop 2)
      let fin (mro : List Value) (nw : Value) (bv : List Value) (sl0 : Option Value) (xs : List DictEntry) (gs : List Obj) (t : BT) (j : Nat) : S :=
        let os := [tupO (texts st (m - m + (j1 - 1 - st.length))), dicO (cp ++ xs ++ [en P "__doc__" j .none]) (2 + xs.length), ⟨.type "type", none, .cls ⟨name, bv, .ref cl :: mro, m + 1, name, true, [], [], false, none, false⟩, #[sl0, none, some (.str name k), some (.str name (k + 8)), some nw, some (.bool true)]⟩]
          ++ gs ++ [fldO (.type "super") [.ref cl, .ref cl, .ref cl], fldO (.type "builtin_function_or_method") [.builtin "object.__init_subclass__", .ref cl]]
        ⟨insL os t m, m + os.length, j + 3, nm, en P name (j + 2) (.ref cl) :: g, .ref (n + 5) :: .int 0 0 :: .int line 0 :: tb⟩
      let gw (j a : Nat) := fldO (.type "getset_descriptor") [.str "__weakref__" j, .ref cl, .builtin "ExceptionGroup.__weakref__", .none]
      match bs with
      | [] => fin [.type "object"] (.builtin "object.__new__") [.type "object"] none [en P "__dict__" (j1 + 1) (.ref (m + 3)), en P "__weakref__" (j1 + 3) (.ref (m + 4))]
          [fldO (.type "getset_descriptor") [.str "__dict__" j1, .ref cl, .builtin "function.__dict__", .builtin "function.__dict__#set"], gw (j1 + 2) 0] t3 (j1 + 4)
      | .ref a :: _ => match mroOf t3 a with
        | (mro, nw) => fin mro nw bs (some (.ref n)) [] [] (t3.set a (subTo cl)) j1
      | _ => fin [.type "ValueError", .type "Exception", .type "BaseException", .type "object"] (.builtin "ValueError.__new__") bs (some (.ref n)) [en P "__weakref__" (j1 + 1) (.ref (m + 3))] [gw j1 0] t3 (j1 + 2)
def keysD (P : Params) (g : List DictEntry) : List (Option PySem.Expr) → List PySem.Expr → Nat → List DictEntry
  | some (.Constant (.str x) _ _) :: ks, .Name y _ :: vs, k => en P x k ((look y g).getD .none) :: keysD P g ks vs (k + 1)
  | _, _, _ => []
def put (P : Params) (x : Str) (v : Value) (t : BT) (n k : Nat) (nm : Value) (g : List DictEntry) (tb : List Value) : S := match decide (x = "__name__") with
  | true => ⟨t, n, k + 1, v, g, tb⟩
  | false => ⟨t, n, k + 1, nm, en P x k v :: g, tb⟩
def lay1 (P : Params) : Stmt → S → S
  | .FunctionDef name args body _ _ _ sc _ _ pos, ⟨t, n, k, nm, g, tb⟩ => match layF name name args body sc pos.line n k nm with
    | (os, c, j) => ⟨insL os t n, n + os.length, j + 1, nm, en P name j (.ref (c + 1)) :: g, .ref c :: .int pos.col 0 :: .int pos.line 0 :: tb⟩
  | .ClassDef name bases _ body _ _ _ _ _ st pos, s => layC P name bases body st pos.line s
  | .Assign [.Name x _] (.Constant (.str v) _ _) _, ⟨t, n, k, nm, g, tb⟩ => put P x (.str v k) t n (k + 1) nm g tb
  | .Assign [.Name x _] (.Constant (.int v) _ _) _, ⟨t, n, k, nm, g, tb⟩ => put P x (.int v k) t n (k + 1) nm g tb
  | .Assign [.Name x _] (.Dict ks vs _) _, ⟨t, n, k, nm, g, tb⟩ => put P x (.ref n) (t.ins n (dicO (keysD P g ks vs k) vs.length)) (n + 1) (k + 2 * vs.length) nm g tb
  | _, s => s
def lay (P : Params) : List Stmt → S → S
  | [], s => s
  | st :: r, s => lay P r (lay1 P st s)
def s0 (os : List Obj) : S :=
  ⟨insL [tupO [], fldO .none [], codeO "<module>" "<module>" 182 1 0 0 false 11 .none .none .none 185, frmO 13 3 (.str "__main__" 164)] (insL os .nil 0) 11, 15, 187, .str "__main__" 164, [], []⟩
def nameTo (nm : Value) : List DictEntry → List DictEntry
  | e :: es => { e with val := nm } :: es
  | [] => []
def mainTo (nm : Value) (g : List DictEntry) : Obj → Obj
  | ⟨c, d, .dict es e, sl⟩ => ⟨c, d, .dict (nameTo nm es.toList ++ g.reverse).toArray (e + g.length), sl⟩
  | o => o
def S.bt (s : S) : BT := (s.t.set 3 (mainTo s.nm s.g)).set 12 fun _ => fldO .none s.tb.reverse
open PyProof.Rows
def z0 : Pos := ⟨0, 0, 0, 0⟩
def an : Option Value := some (.ref 6)
def ev (p : Program) : Env := { scope := p.main.scope, locals := mainNs, globals := mainNs, cells := [], code := .ref 13, frame := some 14 }
def cd (p : Program) : Code := .body (behindTheImports p) (ev p)
def go (tb : String → Option Builtin) (p : Program) (w : World) (F : Nat) : List Stmt → SharedT → Code → Pos → Option (SharedT × Code × Pos)
  | [], s, c, q => some (s, c, q)
  | st :: l, s, c, q => match segRunT tb p w 11 an 1 F s (pieceOf st (ev p) c q [topFrame z0]) with
    | some (.next, s', c', q') => go tb p w F l s' c' q'
    | _ => none
def ns (F N : Nat) : List Stmt → Nat
  | [] => N
  | _ :: l => F + ns F N l
section
variable {tb : String → Option Builtin} {p : Program} {w : World}
theorem one {n N : Nat} {s s' r : Shared} {st : Stmt} {rest : List Stmt} {c c' : Code} {e : Env} {q q' : Pos}
    (h : segRun tb p w 11 an 1 n s (pieceOf st e c q [topFrame z0]) = some (.next, s', c', q'))
    (k : topRun tb p w 11 an N s' (restOf rest e c' q' [topFrame z0]) = some r) :
    topRun tb p w 11 an (n + N) s (restOf (st :: rest) e c q [topFrame z0]) = some r := by
  obtain ⟨a, ha, hN⟩ := seg_top (B := [topFrame z0]) (res := id)
    (K' := fun f => match f with
      | .next => (execs rest e).wrap doneF (leaveH e) id id
      | f => doneF f)
    (H' := leaveH e) rfl n s (pieceOf st e c q [topFrame z0])
    ⟨(exec st e).wrap (fun f => match f with
      | .next => (execs rest e).wrap doneF (leaveH e) id id
      | f => doneF f) (leaveH e) id id, c, q, [topFrame z0]⟩ _ _ _ _ ⟨rfl, rfl, .inl ⟨rfl, rfl, _, rfl, rfl⟩⟩ h
  cases ha
  unfold restOf
  rw [execs_cons_wrap]
  exact hN N r k
theorem go_top' {F : Nat} : ∀ (l : List Stmt) {s s' : SharedT} {c c' : Code} {q q' : Pos}, go tb p w F l s c q = some (s', c', q') → ∀ {N : Nat} {r : Shared} {rest : List Stmt},
    topRun tb p w 11 an N s'.abs (restOf rest (ev p) c' q' [topFrame z0]) = some r → topRun tb p w 11 an (ns F N l) s.abs (restOf (l ++ rest) (ev p) c q [topFrame z0]) = some r
  | [], _, _, _, _, _, _, h, _, _, _, k => by cases h; exact k
  | st :: l, s, s', c, c', q, q', h, N, r, rest, k => by
    unfold go at h
    split at h
    · rename_i x e
      exact one (segRun_of e) (go_top' l h k)
    · cases h
theorem fin2 (s : Shared) (c : Code) (q : Pos) : topRun tb p w 11 an 2 s (restOf [] (ev p) c q [topFrame z0]) = some s := by
  obtain ⟨h, g, d, k, o⟩ := s
  rfl
-- a state by its parts
noncomputable def sh (P : Params) (S : S) (n k : Nat) (os : OsState) : SharedT := ⟨S.bt, n, (boot_heap P).life, #[], boot_drawn, k, os⟩
noncomputable def sA (P : Params) : S := s0 (boot_heap P).objs.toList
theorem run_of {l : List Stmt} {n k : Nat} {c' : Code} {q' : Pos} (hl : behindTheImports p = l)
    (pre : ∀ (w : World) (os : OsState), topGo treeTable p w 11 an 12 ⟨boot_heap w.params, #[], boot_drawn, boot_toks, os⟩ (topStub p) = some ((sh w.params (sA w.params) 15 187 os).abs, ⟨denote treeTable (cd p), cd p, z0, [topFrame z0]⟩))
    (blk : ∀ (w : World) (s : Shared), segRun treeTable p w 11 an 1 1 s (blockOf l (ev p) (cd p) z0 [topFrame z0]) = some (.next, s, cd p, z0))
    (run : ∀ (w : World) (os : OsState), go treeTable p w 1000 l (sh w.params (sA w.params) 15 187 os) (cd p) z0 = some (sh w.params (lay w.params l (sA w.params)) n k os, c', q')) :
    ∀ (w : World) (os : OsState), topRun treeTable p w 11 an (12 + (1 + ns 1000 2 l)) ⟨boot_heap w.params, #[], boot_drawn, boot_toks, os⟩ (topStub p) = some (sh w.params (lay w.params l (sA w.params)) n k os).abs := by
  intro w os
  refine go_top (pre w os) ?_
  unfold cd
  rw [hl]
  refine piece_block (n := 1) (by have := blk w (sh w.params (sA w.params) 15 187 os).abs; unfold cd at this; rw [hl] at this; exact this) ?_
  have := go_top' l (run w os) (rest := []) (fin2 _ _ _)
  rw [List.append_nil] at this
  unfold cd at this
  rw [hl] at this
  exact this
end
noncomputable def KK (l : List Stmt) (as : List Addr) (P : Params) : Frag := as.map fun a => (a, ((lay P l (sA P)).bt.get a).getD default)
theorem KK_e (l : List Stmt) (as : List Addr) (P : Params) : as = (KK l as P).map (·.1) := by
  unfold KK
  rw [List.map_map]
  exact (List.map_id as).symm
noncomputable def hk (l : List Stmt) (as : List Addr) : Hook := kHook (KK l as) as (KK_e l as)
noncomputable def H1 (l : List Stmt) (n : Nat) (P : Params) : Heap := absHeap (lay P l (sA P)).bt n (boot_heap P).life
noncomputable def S1 (l : List Stmt) (n k : Nat) (P : Params) (os : OsState) : Shared := ⟨H1 l n P, #[], boot_drawn, k, os⟩
def bnd (n : Str) : Stmt → List Str
  | .FunctionDef x .. => if x == n then [] else [x]
  | .ClassDef x .. => [x]
  | .Assign [.Name x _] _ _ => if x == "__name__" then [] else [x]
  | _ => []
-- the names that the view says nothing of
def los (l : List Stmt) : List Str := l.flatMap (bnd "law")
def vw (p : Program) : Program := { p with main := { p.main with body := p.main.body.filter fun st => match st with | .FunctionDef x .. => x == "law" | _ => false } }
def xt (r : OpenRow) (s : Shared) : Bool := xlAt (vw r.prog) [] s && recOk r.toRowW.records s
theorem size1 (w : World) : ((boot_heap w.params).isNs mainGlobals && (#[] : Array GenState).size == 0, (boot_heap w.params).objs.size, (boot_heap w.params).nsMap mainGlobals "__annotations__") = (true, 11, an) := by kernel_rfl
end Tp
theorem Tp.twA : Prod.fst (true, (@Tp.go, @Tp.lay, @Tp.sh, @Tp.sA, @Tp.cd, @Tp.ev, @Tp.S.bt, @Tp.KK, @Tp.hk, @Tp.H1, @Tp.S1, @Tp.los, @Tp.vw, @Tp.xt)) = true := by k_qdec

namespace D3
open PySem PySem.Spec PySem.Calls PyProof.Rows L2
theorem zip_look : ∀ {ps : List Str} {us : List Value}, ps.Nodup → us.length = ps.length → ps.filterMap (fun n => ((ps.zip us).lookup n).map (n, ·)) = ps.zip us ∧ ∀ n ∈ ps, ((ps.zip us).lookup n).isNone = false
  | [], us, _, _ => ⟨rfl, fun _ h => by cases h⟩
  | p :: ps, [], _, h => by cases h
  | p :: ps, u :: us, nd, h => by
    obtain ⟨h1, h2⟩ := List.nodup_cons.mp nd
    obtain ⟨i1, i2⟩ := zip_look (us := us) h2 (Nat.succ.inj h)
    have e : ∀ n ∈ ps, ((p, u) :: ps.zip us).lookup n = (ps.zip us).lookup n := fun n hn => by
      rw [List.lookup_cons]
      have : (n == p) = false := beq_eq_false_iff_ne.mpr fun z => h1 (z ▸ hn)
      rw [this]
    refine ⟨?_, fun n hn => ?_⟩
    · rw [List.zip_cons_cons, List.filterMap_cons, List.lookup_cons, beq_self_eq_true]
      dsimp only [Option.map]
      refine congrArg _ (Eq.trans ?_ i1)
      have c : ∀ l : List Str, (∀ n ∈ l, n ∈ ps) → l.filterMap (fun n => (((p, u) :: ps.zip us).lookup n).map (n, ·)) = l.filterMap (fun n => ((ps.zip us).lookup n).map (n, ·)) := by
        intro l hl
        induction l with
        | nil => rfl
        | cons a l ih => rw [List.filterMap_cons, List.filterMap_cons, e a (hl a List.mem_cons_self), ih fun n hn => hl n (List.mem_cons_of_mem _ hn)]
      exact c ps fun _ h => h
    · rw [List.zip_cons_cons]
      rcases List.mem_cons.mp hn with rfl | hn
      · rw [List.lookup_cons, beq_self_eq_true]; rfl
      · rw [e n hn]; exact i2 n hn
theorem bind_plain {fd : FuncData} {ps : List Str} (h1 : fd.params.posonlyargs = []) (h2 : fd.params.args.map (·.arg) = ps) (h3 : fd.params.vararg = none) (h4 : fd.params.kwonlyargs = []) (h5 : fd.params.kwarg = none) (hd : fd.defaults = .none) (h6 : ps.Nodup) (us : List Value) (hl : us.length = ps.length) : bindArgs fd ⟨us, []⟩ = pure (ps.zip us) := by
  obtain ⟨z1, z2⟩ := zip_look h6 hl
  have z3 : (ps.take (ps.length - 0)).filter (fun n => ((ps.zip us).lookup n).isNone) = [] := by
    rw [Nat.sub_zero, List.take_length, List.filter_eq_nil_iff]
    intro n hn
    rw [z2 n hn]; decide
  unfold bindArgs
  simp only [h1, h2, h3, h4, h5, hd, List.map_nil, List.nil_append, List.append_nil, List.forIn_nil, pure_bind, hl, Nat.lt_irrefl, seqItems?]
  have q : (do notAStandIn Value.none; pure none : Sem (Option (Array Value))) = pure none := rfl
  rw [q]
  simp only [pure_bind, Option.getD_none, List.length_nil, Nat.zero_sub, List.drop_zero, z3, decide_false, Bool.false_and, Bool.false_eq_true, if_false, List.isEmpty_nil, Bool.not_true, List.zip_nil_right, List.forIn_nil, z1, Array.toList_empty, List.drop_nil]
/-! ### all that the head must give, as one look -/
noncomputable def adB (K : PySem.W.Frag) (x : Str) : Option Addr := match PySem.W.nsIn K mainGlobals x with | some (some (.ref a)) => some a | _ => none
theorem adB_at {K : PySem.W.Frag} {x : Str} {a : Addr} (h : adB K x = some a) : PySem.W.nsIn K mainGlobals x = some (some (.ref a)) := by
  unfold adB at h
  split at h
  · rename_i b e; cases h; exact e
  · cases h
noncomputable def isKey (key : Str) : Addr × Obj → Bool
  | (_, ⟨.type t, _, .func fd, _⟩) => t == "function" && fd.qualname == key
  | _ => false
noncomputable def faK (K : PySem.W.Frag) (key : Str) : Addr := match K.find? (isKey key) with | some p => p.1 | none => 0
noncomputable def stOf (fd : FuncData) (b : List Stmt) : Stmt := .FunctionDef fd.name fd.params b [] none [] fd.scope none fd.name ⟨0, 0, 0, 0⟩
noncomputable def parB (p : Arguments) (ps : List Str) : Bool := p.posonlyargs.isEmpty && (p.args.map (·.arg) == ps) && p.vararg.isNone && p.kwonlyargs.isEmpty && p.kwarg.isNone && decide ps.Nodup
noncomputable def fdB (K : PySem.W.Frag) (nm : Option Str) (key : Str) (a : Addr) (ps : List Str) (f : Stmt → Bool) (fd : FuncData) (b : List Stmt) : Bool :=
  (nm.getD fd.name == fd.name) && ((fd.qualname == key) && (fd.globals == mainGlobals && (fd.closure.isEmpty && ((fd.defaults == .none) && (fd.builtins == builtinsNs && (PySem.W.codeIn K fd.code key && (PySem.W.keepIn K (.ref a) && (parB fd.params ps && f (stOf fd b)))))))))
noncomputable def funB (K : PySem.W.Frag) (nm : Option Str) (key : Str) (a : Addr) (ps : List Str) (f : Stmt → Bool) : Bool := match K.lookup a with
  | some ⟨_, _, .func fd, _⟩ => (match fd.body with
    | .stmts b => fdB K nm key a ps f fd b
    | _ => false)
  | _ => false
theorem funB_at {K : PySem.W.Frag} {nm : Option Str} {key : Str} {a : Addr} {ps : List Str} {f : Stmt → Bool} (h : funB K nm key a ps f = true) : ∃ name st fd, Fun K name key st a fd ∧ Binds K fd ps [] ∧ f st = true ∧ nm.getD name = name ∧ ∀ us : List Value, us.length = ps.length → bindArgs fd ⟨us, []⟩ = pure (ps.zip us) := by
  unfold funB at h
  split at h
  · rename_i oc od fd sl el
    split at h
    · rename_i b eb
      unfold fdB at h
      simp only [Bool.and_eq_true] at h
      obtain ⟨h1, h2, h3, h4, h5, h6, h7, h8, h9, h10⟩ := h
      obtain ⟨name, qualname, params, body, scope, globals, closure, defaults, kwdefaults, doc, pm, an, code, ct, bl⟩ := fd
      dsimp only at *
      obtain rfl := eb
      obtain rfl := beq_iff_eq.mp h2
      obtain rfl := beq_iff_eq.mp h3
      obtain rfl := List.isEmpty_iff.mp h4
      obtain rfl := beq_iff_eq.mp h5
      obtain rfl := beq_iff_eq.mp h6
      unfold parB at h9
      simp only [Bool.and_eq_true, List.isEmpty_iff, beq_iff_eq, Option.isNone_iff_eq_none, decide_eq_true_eq] at h9
      obtain ⟨⟨⟨⟨⟨p1, p2⟩, p3⟩, p4⟩, p5⟩, p6⟩ := h9
      have bp := bind_plain (fd := PySem.W.fnOf name qualname params b scope .none kwdefaults doc pm an code ct) p1 p2 p3 p4 p5 rfl p6
      exact ⟨name, _, _, fun_mk (st := stOf ⟨name, qualname, params, .stmts b, scope, mainGlobals, [], .none, kwdefaults, doc, pm, an, code, ct, builtinsNs⟩ b) el h7 h8, .all bp, h10, beq_iff_eq.mp h1, bp⟩
    · cases h
  · cases h
noncomputable def gvB (K : PySem.W.Frag) (x : Str) : GV → Bool
  | .con (.s y) => (match PySem.W.nsIn K mainGlobals x with | some (some (.str z _)) => z == y | _ => false)
  | .con (.i n) => (match PySem.W.nsIn K mainGlobals x with | some (some (.int z _)) => z == n | _ => false)
  | .con (.t _) => true
  | .no => PySem.W.nsIn K mainGlobals x == some none
  | .fn _ => PySem.W.nsIn K mainGlobals x == some (some (.ref (faK K x)))
  | .cls => true
noncomputable def clsB (K : PySem.W.Frag) (C : Addr) : Bool := PySem.W.plainGet K C Str.empty && (PySem.W.hasDictIn K C && (PySem.W.plainOver K C && PySem.W.findIn K (.ref C) "__setattr__" == some (some (.builtin "object.__setattr__"))))
theorem clsB_at {K : PySem.W.Frag} {C : Addr} (h : clsB K C = true) : Cls K C := by
  unfold clsB at h
  simp only [Bool.and_eq_true, beq_iff_eq] at h
  exact ⟨h.1, h.2.1, h.2.2.1, h.2.2.2⟩
noncomputable def methB (K : PySem.W.Frag) (C : Addr) (x : Str × Str × Nat) : Bool := PySem.W.findIn K (.ref C) x.1 == some (some (.ref (faK K x.2.1))) && (PySem.W.isFn K (.ref (faK K x.2.1)) && PySem.W.keepIn K (.ref (faK K x.2.1)))
noncomputable def ciB (K : PySem.W.Frag) (i : CI) : Bool := match adB K i.name with
  | some C => clsB K C && (i.meths.all (methB K C) && i.flds.all fun f => PySem.W.findIn K (.ref C) f == some none)
  | none => false
noncomputable def mk0B (K : PySem.W.Frag) (c : Str) : Bool := match adB K c with
  | some C => PySem.W.makesIn K C && (PySem.W.findIn K (.ref C) "__init__" == some (some (.builtin "object.__init__")) && PySem.W.keepIn K (.ref C))
  | none => false
noncomputable def clB (K : PySem.W.Frag) (C : Addr) : Bool := PySem.W.findIn K (.ref C) "__class__" == some (some (.builtin "object.__class__")) && (PySem.W.specialIn K (.builtin "object.__class__") "__get__" == some (some (.builtin "getset_descriptor.__get__")) && (PySem.W.takesIn K (.builtin "object.__class__") == some true && PySem.W.mroIn K C (.type "object") == some true))
noncomputable def isoB (K : PySem.W.Frag) (cl : List CI) (c : Str) : Bool := match adB K c with
  | some C => ["NoneType", "bool", "int", "str", "tuple", "list", "dict"].all (fun t => PySem.W.kitOne K (.type t) (.ref C) == some false) && cl.all fun i => match adB K i.name with
    | some C' => clsB K C' && (clB K C' && PySem.W.kitOne K (.ref C') (.ref C) == some (i.ups.contains c))
    | none => false
  | none => false
noncomputable def inB (K : PySem.W.Frag) (g : MG) (x : Str × ID) : Bool := match adB K x.2.c with
  | some C => PySem.W.makesIn K C && (PySem.W.findIn K (.ref C) "__init__" == some (some (.ref (faK K x.1))) && (PySem.W.isFn K (.ref (faK K x.1)) && (PySem.W.keepIn K (.ref C) && funB K none x.1 (faK K x.1) x.2.ps (fun st => idOk g st x.2))))
  | none => false
noncomputable def xtB (K : PySem.W.Frag) (x : (Str × Str) × Bool) : Bool := match adB K x.1.1, adB K x.1.2 with
  | some C, some C2 => PySem.W.mroIn K C2 (.type "BaseException") == some true && (PySem.W.typeIn K (.ref C2) == some (.type "type") && PySem.W.mroIn K C (.ref C2) == some x.2)
  | _, _ => false
noncomputable def xcB (K : PySem.W.Frag) (C : Addr) : Bool := PySem.W.findIn K (.ref C) "__getattribute__" == some (some (.builtin "BaseException.__getattribute__")) && (PySem.W.findIn K (.ref C) "__getattr__" == some none && (PySem.W.mroIn K C (.type "BaseException") == some true && clB K C))
noncomputable def cvB (K : PySem.W.Frag) (n : Str) : Option V := match PySem.W.nsIn K mainGlobals n with
  | some (some (.ref C)) => some (.ref C)
  | some none => if n == "__name__" then none else (match bootBuiltins n with | some (.type T) => some (.ty T) | _ => none)
  | _ => none
noncomputable def xiB (K : PySem.W.Frag) (x : (Str × Str) × Bool) : Bool := match adB K x.1.1, cvB K x.1.2 with
  | some C, some cv => xcB K C && PySem.W.kitOne K (.ref C) (valV' cv) == some x.2
  | _, _ => false
noncomputable def rzB (K : PySem.W.Frag) (c : Str) : Bool := match adB K c with
  | some C => PySem.W.excIn K C vErr "ValueError.__new__"
  | none => false
noncomputable def gfB (K : PySem.W.Frag) (g : MG) (t : TB) : Bool :=
  g.G.all (fun x => gvB K x.1 x.2) && (gOk g.G t.T && (t.T.all (fun x => funB K (if x.1 == "law" then some "law" else none) x.1 (faK K x.1) x.2.ps (fun st => fdOk g st x.2)) && (t.I.all (inB K g) && (g.mk0.all (mk0B K) && (mkiOk g.mki t.I && (g.iso.all (isoB K t.cl) && (t.cl.all (ciB K) && (mtOk t.cl t.T && (t.xt.all (xtB K) && (t.xi.all (xiB K) && (g.xcs.all (rzB K) && g.xns.all (fun n => (cvB K n).isSome))))))))))))
section
variable {w : World} {K : PySem.W.Frag} {mg : Str → Option Value} {h : Heap} (X : K.In h) (G : h.Ns mainGlobals mg)
include X G
theorem gcon_of : ∀ {l : List (Str × GV)}, (∀ x tb, (x, GV.con (.t tb)) ∈ l → TabV w K mg x tb) → l.all (fun x => gvB K x.1 x.2) = true → GCon w K mg (faK K) l
  | [], _, _ => trivial
  | (x, v) :: l, ht, b => by
    rw [List.all_cons, Bool.and_eq_true] at b
    refine ⟨?_, gcon_of (fun x tb hx => ht x tb (List.mem_cons_of_mem _ hx)) b.2⟩
    have b := b.1
    dsimp only at b
    cases v with
    | con c =>
      cases c with
      | s y =>
        have b : (match PySem.W.nsIn K mainGlobals x with | some (some (.str z _)) => z == y | _ => false) = true := b
        split at b
        · rename_i z t e
          cases beq_iff_eq.mp b
          exact ⟨t, PySem.W.mg_of X G e⟩
        · cases b
      | i y =>
        have b : (match PySem.W.nsIn K mainGlobals x with | some (some (.int z _)) => z == y | _ => false) = true := b
        split at b
        · rename_i z t e
          cases beq_iff_eq.mp b
          exact ⟨t, PySem.W.mg_of X G e⟩
        · cases b
      | t tb => exact ht x tb List.mem_cons_self
    | fn n => exact PySem.W.mg_of X G (beq_iff_eq.mp b)
    | no => exact PySem.W.mg_none_of X G (beq_iff_eq.mp b)
    | cls => trivial
theorem cv_of {n : Str} {cv : V} (e : cvB K n = some cv) : ClsV mg n cv := by
  unfold cvB at e
  split at e
  · rename_i C q; cases e; exact .inl ⟨C, PySem.W.mg_of X G q, rfl⟩
  · rename_i q
    split at e
    · cases e
    · rename_i hn
      split at e
      · rename_i T hb; cases e; exact .inr ⟨PySem.W.mg_none_of X G q, by simpa using hn, T, hb, rfl⟩
      · cases e
  · cases e
end
theorem stand_of {K : PySem.W.Frag} {g : MG} : ∀ {l : List (Str × FD)}, l.all (fun x => funB K (if x.1 == "law" then some "law" else none) x.1 (faK K x.1) x.2.ps (fun st => fdOk g st x.2)) = true → StandAll K g (faK K) l
  | [], _ => trivial
  | (x, d) :: l, b => by
    rw [List.all_cons, Bool.and_eq_true] at b
    obtain ⟨name, st, fd, F, hb, ok, _, _⟩ := funB_at b.1
    exact ⟨⟨name, st, fd, F, hb, ok⟩, stand_of b.2⟩
theorem clsM_of {K : PySem.W.Frag} {C : Addr} : ∀ {l : List (Str × Str × Nat)}, l.all (methB K C) = true → ClsM K (faK K) C l
  | [], _ => trivial
  | (m, key, n) :: l, b => by
    rw [List.all_cons, Bool.and_eq_true] at b
    have b1 := b.1
    unfold methB at b1
    simp only [Bool.and_eq_true, beq_iff_eq] at b1
    exact ⟨⟨b1.1, b1.2.1, b1.2.2⟩, clsM_of b.2⟩
theorem clsF_of {K : PySem.W.Frag} {C : Addr} : ∀ {l : List Str}, l.all (fun f => PySem.W.findIn K (.ref C) f == some none) = true → ClsF K C l
  | [], _ => trivial
  | f :: l, b => by
    rw [List.all_cons, Bool.and_eq_true] at b
    exact ⟨beq_iff_eq.mp b.1, clsF_of b.2⟩
theorem cls_of {K : PySem.W.Frag} : ∀ {l : List CI}, l.all (ciB K) = true → ClsAll K (faK K) l
  | [], _ => trivial
  | i :: l, b => by
    rw [List.all_cons, Bool.and_eq_true] at b
    refine ⟨?_, cls_of b.2⟩
    have b := b.1
    unfold ciB at b
    split at b
    · rename_i C e
      simp only [Bool.and_eq_true] at b
      exact ⟨C, adB_at e, clsB_at b.1, clsM_of b.2.1, clsF_of b.2.2⟩
    · cases b
section
variable {w : World} {K : PySem.W.Frag} {mg : Str → Option Value} {h : Heap} (X : K.In h) (G : h.Ns mainGlobals mg)
include X G
theorem standI_of {g : MG} : ∀ {l : List (Str × ID)}, l.all (inB K g) = true → StandAllI K mg g l
  | [], _ => trivial
  | (x, d) :: l, b => by
    rw [List.all_cons, Bool.and_eq_true] at b
    refine ⟨?_, standI_of b.2⟩
    have b := b.1
    unfold inB at b
    split at b
    · rename_i C e
      simp only [Bool.and_eq_true, beq_iff_eq] at b
      obtain ⟨b1, b2, b3, b4, b5⟩ := b
      obtain ⟨name, st, fd, F, hb, ok, _, _⟩ := funB_at b5
      exact ⟨name, st, C, _, fd, adB_at e, PySem.W.mg_of X G (adB_at e), ⟨b1, b2, b3, b4⟩, F, hb, ok⟩
    · cases b
omit X G in
theorem mem_look {c x : Str} {v : Bool} : ∀ {l : List ((Str × Str) × Bool)}, l.lookup (c, x) = some v → ((c, x), v) ∈ l
  | [], e => by cases e
  | (y, b) :: l, e => by
    rw [List.lookup_cons] at e
    split at e
    · rename_i hb
      cases e
      rw [← beq_iff_eq.mp hb]
      exact List.mem_cons_self
    · exact List.mem_cons_of_mem _ (mem_look e)
theorem xt_of {l : List ((Str × Str) × Bool)} (b : l.all (xtB K) = true) : XtOk K mg (fun c x => l.lookup (c, x)) := fun c x v e => by
  have b := List.all_eq_true.mp b ((c, x), v) (mem_look e)
  unfold xtB at b
  split at b
  · rename_i C C2 e1 e2
    simp only [Bool.and_eq_true, beq_iff_eq] at b
    exact ⟨C, C2, adB_at e1, PySem.W.mg_of X G (adB_at e1), PySem.W.mg_of X G (adB_at e2), b.1, b.2.1, b.2.2⟩
  · cases b
theorem xi_of {l : List ((Str × Str) × Bool)} (b : l.all (xiB K) = true) : XisOk K mg (fun c x => l.lookup (c, x)) := fun c x v e => by
  have b := List.all_eq_true.mp b ((c, x), v) (mem_look e)
  unfold xiB at b
  split at b
  · rename_i C cv e1 e2
    unfold xcB clB at b
    simp only [Bool.and_eq_true, beq_iff_eq] at b
    obtain ⟨⟨b1, b2, b3, b4, b5, b6, b7⟩, b8⟩ := b
    exact ⟨C, cv, adB_at e1, ⟨b1, b2, b4, b3, b7, b5, b6⟩, cv_of X G e2, b8⟩
  · cases b
theorem gf_of {g : MG} {t : TB} (b : gfB K g t = true) (ht : ∀ x tb, (x, GV.con (.t tb)) ∈ g.G → TabV w K mg x tb) : GF w K mg g t (faK K) := by
  unfold gfB at b
  simp only [Bool.and_eq_true] at b
  obtain ⟨b1, b2, b3, b4, b5, b6, b7, b8, b9, b10, b11, b12, b13⟩ := b
  refine ⟨gcon_of X G ht b1, b2, stand_of b3, standI_of X G b4, fun c hc => ?_, b6, fun c hc => ?_, cls_of b8, b9, xt_of X G b10, xi_of X G b11, fun c hc => ?_, fun n hn => ?_⟩
  · have b := List.all_eq_true.mp b5 c hc
    unfold mk0B at b
    split at b
    · rename_i C e
      simp only [Bool.and_eq_true, beq_iff_eq] at b
      exact ⟨C, adB_at e, PySem.W.mg_of X G (adB_at e), b.1, b.2.1, b.2.2⟩
    · cases b
  · have b := List.all_eq_true.mp b7 c hc
    unfold isoB at b
    split at b
    · rename_i C e
      rw [Bool.and_eq_true] at b
      refine ⟨C, PySem.W.mg_of X G (adB_at e), fun t ht => beq_iff_eq.mp (List.all_eq_true.mp b.1 t ht), fun i hi => ?_⟩
      have b := List.all_eq_true.mp b.2 i hi
      split at b
      · rename_i C' e'
        unfold clB at b
        simp only [Bool.and_eq_true, beq_iff_eq] at b
        obtain ⟨c1, ⟨c2, c3, c4, c5⟩, c6⟩ := b
        exact ⟨C', adB_at e', clsB_at c1, c2, c3, c4, c5, c6⟩
      · cases b
    · cases b
  · have b := List.all_eq_true.mp b12 c hc
    unfold rzB at b
    split at b
    · rename_i C e
      exact ⟨C, PySem.W.mg_of X G (adB_at e), b⟩
    · cases b
  · have b := List.all_eq_true.mp b13 n hn
    cases e : cvB K n with
    | none => rw [e] at b; cases b
    | some cv => exact ⟨cv, cv_of X G e⟩
end
end D3

namespace D3
open PySem PySem.Spec PySem.Calls PyProof.Rows L2
noncomputable def lawB (K : PySem.W.Frag) (g : MG) (t : TB) : Bool := gfB K g t && PySem.W.nsIn K mainGlobals "law" == some (some (.ref (faK K "law")))
theorem mem_look1 {x : Str} {d : FD} : ∀ {l : List (Str × FD)}, l.lookup x = some d → (x, d) ∈ l
  | [], e => by cases e
  | (y, b) :: l, e => by
    rw [List.lookup_cons] at e
    split at e
    · rename_i hb
      cases e
      rw [← beq_iff_eq.mp hb]
      exact List.mem_cons_self
    · exact List.mem_cons_of_mem _ (mem_look1 e)
noncomputable def noT (g : MG) : Bool := g.G.all fun x => match x.2 with | .con (.t _) => false | _ => true
theorem tabs_none {g : MG} {K : Params → PySem.W.Frag} (b : noT g = true) (w : World) (mg : Str → Option Value) (h : Heap) (_ : (K w.params).In h) (_ : h.Ns mainGlobals mg) (x : Str) (tb : List (Str × Str)) (hm : (x, GV.con (.t tb)) ∈ g.G) : TabV w (K w.params) mg x tb := by
  have := List.all_eq_true.mp b _ hm
  cases this
theorem walkG {l : PySem.W.OpenLaw} {q : Program} {loose : List Str} {XP : (Str → Option Value) → Heap → Prop} {YP : World → Heap → Prop} {d : DefRec} {K : Params → PySem.W.Frag} {g : MG} {t : TB} {kk : Nat} {x : Str} {e : FD}
    (hn : l.most = some 63) (hdf : d.params.defaults = []) (hdn : d.name = "law") (hY : ∀ (w : World) (h : Heap), YP w h → (K w.params).In h) (b : ∀ P, lawB (K P) g t = true)
    (ht : ∀ (w : World) (mg : Str → Option Value) (h : Heap), (K w.params).In h → h.Ns mainGlobals mg → ∀ x tb, (x, GV.con (.t tb)) ∈ g.G → TabV w (K w.params) mg x tb)
    (hT : t.T.lookup ("law" : Str) = some e) (hps : e.ps = [x]) (hr : Room (kk + 1) callerA) (main : ∀ ns : List Int, ns.length ≤ 63 → (WT t (kk + 1)).Φ "law" (lawIn ns) = .ok .fz (.bl true)) :
    PySem.W.WalkO q loose XP YP l.row.toRowW d [] (fun f vs => PySem.call f vs) := by
  refine L2.walk_of (n := 63) (k := kk + 1) (x := x) (CX := fun w => CX1 l.prog w) (sp := fun w => spLw (K w.params) ((WT t (kk + 1)).Φ ("law" : Str))) hn (by decide) hdf hr hY (fun w mg fa h KX G hmg => ?_)
    (fun _ _ a ns hl _ hS => ⟨a, ns, rfl, hS, main ns hl, fun _ => rfl⟩) fun _ _ _ _ _ z => by obtain ⟨_, _, _, _, _, _, _, _, _, _, z⟩ := z; exact z
  have b := b w.params
  unfold lawB at b
  rw [Bool.and_eq_true, beq_iff_eq] at b
  have f := gf_of (w := w) KX G b.1 (ht w mg h KX G)
  have e1 := PySem.W.mg_of KX G b.2
  rw [hdn, e1] at hmg
  cases hmg
  have b3 : t.T.all (fun x => funB (K w.params) (if x.1 == "law" then some "law" else none) x.1 (faK (K w.params) x.1) x.2.ps (fun st => fdOk g st x.2)) = true := by
    have := b.1
    unfold gfB at this
    simp only [Bool.and_eq_true] at this
    exact this.2.2.1
  obtain ⟨name, st, fd, F, hb, ok, hnm, bp⟩ := funB_at (List.all_eq_true.mp b3 (("law" : Str), e) (mem_look1 hT))
  have hnm : name = "law" := hnm.symm
  subst hnm
  refine ⟨fd, fun s u => .of_eq ?_, fun base _ _ => ?_⟩
  · have := bp [u] (by rw [hps]; rfl)
    rw [hps] at this
    exact this
  · have := fnok_law (P := l.prog) (base := base) f kk F hT ok (by rw [hps]; rfl)
    rw [hps] at this
    exact this
end D3
namespace Tp
open PySem PySem.W PySem.Calls PyProof.Rows
theorem left {p : Program} {r : OpenRow} {l : List Stmt} {n k : Nat} {as : List Addr} {c' : Code} {q' : Pos} (hl : behindTheImports p = l)
    (pre : ∀ (w : World) (os : OsState), topGo treeTable p w 11 an 12 ⟨boot_heap w.params, #[], boot_drawn, boot_toks, os⟩ (topStub p) = some ((sh w.params (sA w.params) 15 187 os).abs, ⟨denote treeTable (cd p), cd p, z0, [topFrame z0]⟩))
    (blk : ∀ (w : World) (s : Shared), segRun treeTable p w 11 an 1 1 s (blockOf l (ev p) (cd p) z0 [topFrame z0]) = some (.next, s, cd p, z0))
    (run : ∀ (w : World) (os : OsState), go treeTable p w 1000 l (sh w.params (sA w.params) 15 187 os) (cd p) z0 = some (sh w.params (lay w.params l (sA w.params)) n k os, c', q'))
    (le : Nat.ble (12 + (1 + ns 1000 2 l)) 1000000 = true) (e1 : opening p = plainProg p.main.scope.names) (e2 : ∀ s, fenceModules? p s = some s)
    (looks : ∀ w : World, (fun os => ((staticsOk (importedModules p.main.body) (boot_heap w.params) (H1 l n w.params) && namesBound p (H1 l n w.params) && gensDone (S1 l n k w.params os) && laidKept (boot_heap w.params) (H1 l n w.params)),
      openSeen (vw p) (los l) (importedModules p.main.body) (xt r) true (S1 l n k w.params os), (hk l as).obs (S1 l n k w.params os))) = fun _ => (true, openGood (vw p) (los l), (hk l as).val w)) :
    LeftO p (vw p) (los l) (xt r) (hk l as).obs (hk l as).val 1000000 :=
  LeftO.of_pieces (H₀ := boot_heap) (H₁ := H1 l n) (m₀ := 11) (ann := an) (boot_open e1 rfl e2) size1 (run_of hl pre blk run) le looks
theorem head {p : OpenLaw} {l : List Stmt} {as : List Addr} {d : DefRec} (left : LeftO p.prog (vw p.prog) (los l) (xt p.row) (hk l as).obs (hk l as).val 1000000) (said : p.row.wellSaid = true)
    (h1 : defOf (vw p.prog) p.name = some (d, [])) (h2 : p.prog.theDef p.name = some (d.params, d.body, d.scope)) (h3 : kwWritten? d.params.kwonlyargs d.params.kw_defaults = some [])
    (h4 : (!p.row.writes || p.row.records.isEmpty) = true) (ok : (chainsOk (vw p.prog) && opensWell p.prog && (frees p.row.toRowW && p.row.within.isEmpty)) = true) (hb : p.prog.bare) (hw : p.row.toRowW.promised)
    (call : WalkO (vw p.prog) (los l) (XL (vw p.prog) []) (hk l as).says p.row.toRowW d [] fun f vs => PySem.call f vs) : p.row.Holds :=
  holds_open (r := p.row) (XP := XL (vw p.prog) []) (YP := (hk l as).says) left (hk l as).of (hk l as).keeps (fun s e => xl_of s (Bool.and_eq_true_iff.mp e).1) XL.keeps h1 h2 h3
    (fun s e => recFacts_of (Bool.and_eq_true_iff.mp e).2) h4 said ok hb hw call
end Tp

namespace K09
open PySem L2 D3
def b_law_L1 : List D3.S := [.set 3 (.frz (.call "_law_spec" 1 [(.var 2)])),
      .set 4 (.frz (.call "_law_kind" 1 [(.var 3)])),
      .ite (.orL [(.not (.tru (.isi (.var 4) "Kind"))), (.tru (.isi (.var 4) "Single"))]) [.ret (.bl false)] [],
      .set 5 (.frz (.call "_law_note" 3 [(.var 3), (.var 2), (.int 1)])),
      .set 6 (.frz (.call "_law_note" 3 [(.var 3), (.ix (.var 0) (.bin .Mod (.bin .Add (.var 1) (.int 1)) (.bcall .len [(.var 0)]))), (.int 2)])),
      .ite (.not (.tru (.call "_law_met" 4 [(.var 4), (.var 3), (.var 5), (.var 6)]))) [.ret (.bl false)] [],
      .set 7 (.ix (.lst [(.frz (.tcall .list [(.var 5)])), (.frz (.bin .Add (.var 5) (.tup [(.ix (.var 5) (.int 0))]))), (.tup [(.ix (.var 5) (.int 0))]), (.tup [(.str "x"), (.ix (.var 5) (.int 1))]), (.tup [(.ix (.var 5) (.int 0)), (.str "x")]), .non, (.tup []), (.ix (.var 5) (.int 0))]) (.bin .Mod (.call "_law_mix" 2 [(.var 2), (.int 7)]) (.int 8))),
      .ite (.not (.tru (.call "_law_same" 2 [(.frz (.meth (.var 4) "holds" [(.var 7)])), (.bl false)]))) [.ret (.bl false)] [],
      .ite (.not (.tru (.call "_law_same" 2 [(.frz (.meth (.frz (.make "Pair" "Pair.__init__" 2 [(.frz (.mk0 "Truth")), (.frz (.mk0 "Counts"))])) "holds" [(.tup [(.frz (.bin .Mod (.var 2) (.int 9))), (.cmp .Eq (.bin .Mod (.var 2) (.int 2)) (.int 1))])])), (.bl false)]))) [.ret (.bl false)] []]
def b_is_whole : List D3.S := [.ret (.andL [(.bcall .isinstance [(.var 0), (.ty .int)]), (.not (.bcall .isinstance [(.var 0), (.ty .bool)]))])]
def b_is_pair : List D3.S := [.ret (.andL [(.bcall .isinstance [(.var 0), (.ty .tuple)]), (.cmp .Eq (.bcall .len [(.var 0)]) (.int 2))])]
def b__law_mix : List D3.S := [.set 2 (.frz (.bin .Mod (.bin .Mult (.bin .Add (.bin .Mod (.var 0) (.bin .Pow (.int 10) (.int 60))) (.int 1)) (.bin .Add (.int 48271) (.bin .Mult (.int 130) (.var 1)))) (.int 2147483647))),
      .ret (.bin .Mod (.bin .Mult (.var 2) (.var 2)) (.int 2147483629))]
def b__law_flat : List D3.S := [.set 2 (.ix (.lst [(.str "counts"), (.str "truth"), (.str "costs"), (.str "wheel")]) (.bin .Mod (.call "_law_mix" 2 [(.var 0), (.var 1)]) (.int 4))),
      .ret (.tup [(.var 2), (.frz (.bin .Add (.int 2) (.bin .Mod (.call "_law_mix" 2 [(.var 0), (.frz (.bin .Add (.var 1) (.int 1)))]) (.int 12))))])]
def b__law_spec : List D3.S := [.set 1 (.tup [(.str "pair"), (.frz (.call "_law_flat" 2 [(.var 0), (.int 0)])), (.frz (.call "_law_flat" 2 [(.var 0), (.int 2)]))]),
      .set 2 (.frz (.bin .Mod (.call "_law_mix" 2 [(.var 0), (.int 4)]) (.int 4))),
      .ite (.cmp .Eq (.var 2) (.int 0)) [.ret (.tup [(.str "pair"), (.frz (.call "_law_flat" 2 [(.var 0), (.int 5)])), (.var 1)])] [],
      .ite (.cmp .Eq (.var 2) (.int 1)) [.ret (.tup [(.str "pair"), (.var 1), (.frz (.call "_law_flat" 2 [(.var 0), (.int 5)]))])] [],
      .retV 1]
def b__law_kind : List D3.S := [.ite (.cmp .Eq (.ix (.var 0) (.int 0)) (.str "counts")) [.ret (.mk0 "Counts")] [],
      .ite (.cmp .Eq (.ix (.var 0) (.int 0)) (.str "truth")) [.ret (.mk0 "Truth")] [],
      .ite (.cmp .Eq (.ix (.var 0) (.int 0)) (.str "costs")) [.ret (.mk0 "Costs")] [],
      .ite (.cmp .Eq (.ix (.var 0) (.int 0)) (.str "wheel")) [.ret (.make "Wheel" "Wheel.__init__" 1 [(.ix (.var 0) (.int 1))])] [],
      .ret (.make "Pair" "Pair.__init__" 2 [(.frz (.call "_law_kind" 1 [(.ix (.var 0) (.int 1))])), (.frz (.call "_law_kind" 1 [(.ix (.var 0) (.int 2))]))])]
def b__law_note : List D3.S := [.ite (.cmp .Eq (.ix (.var 0) (.int 0)) (.str "pair")) [.ret (.tup [(.frz (.call "_law_note" 3 [(.ix (.var 0) (.int 1)), (.var 1), (.frz (.bin .Mult (.int 3) (.var 2)))])), (.frz (.call "_law_note" 3 [(.ix (.var 0) (.int 2)), (.var 1), (.frz (.bin .Add (.bin .Mult (.int 3) (.var 2)) (.int 1)))]))])] [],
      .set 3 (.frz (.bin .Add (.bin .Mult (.bin .Mod (.var 1) (.bin .Pow (.int 10) (.int 59))) (.bin .Add (.int 1) (.bin .Mod (.call "_law_mix" 2 [(.var 1), (.frz (.bin .Add (.var 2) (.int 20)))]) (.int 9)))) (.call "_law_mix" 2 [(.var 1), (.frz (.bin .Add (.var 2) (.int 30)))]))),
      .ite (.cmp .Eq (.bin .Mod (.call "_law_mix" 2 [(.var 1), (.var 2)]) (.int 2)) (.int 1)) [.set 3 (.frz (.bin .Mod (.call "_law_mix" 2 [(.var 1), (.frz (.bin .Add (.var 2) (.int 40)))]) (.int 4)))] [],
      .ite (.cmp .Eq (.ix (.var 0) (.int 0)) (.str "truth")) [.ret (.cmp .Eq (.bin .Mod (.var 3) (.int 2)) (.int 1))] [],
      .ite (.cmp .Eq (.ix (.var 0) (.int 0)) (.str "wheel")) [.ret (.bin .Mod (.var 3) (.ix (.var 0) (.int 1)))] [],
      .ite (.cmp .Eq (.ix (.var 0) (.int 0)) (.str "costs")) [.ret (.ix (.lst [(.var 3), (.neg (.var 3)), .non]) (.bin .Mod (.call "_law_mix" 2 [(.var 1), (.frz (.bin .Add (.var 2) (.int 80)))]) (.int 3)))] [],
      .retV 3]
def b__law_plus : List D3.S := [.ite (.cmp .Eq (.ix (.var 0) (.int 0)) (.str "pair")) [.ret (.tup [(.frz (.call "_law_plus" 3 [(.ix (.var 0) (.int 1)), (.ix (.var 1) (.int 0)), (.ix (.var 2) (.int 0))])), (.frz (.call "_law_plus" 3 [(.ix (.var 0) (.int 2)), (.ix (.var 1) (.int 1)), (.ix (.var 2) (.int 1))]))])] [],
      .ite (.cmp .Eq (.ix (.var 0) (.int 0)) (.str "truth")) [.ret (.orL [(.var 1), (.var 2)])] [],
      .ite (.cmp .Eq (.ix (.var 0) (.int 0)) (.str "costs")) [.ret (.minN (.comp (.var 0) (.items (.lst [(.var 1), (.var 2)])) [(.cmp .IsNot (.var 0) .non)] [] (.nm 0) 1))] [],
      .ite (.cmp .Eq (.ix (.var 0) (.int 0)) (.str "wheel")) [.ret (.bin .Mod (.bin .Add (.var 1) (.var 2)) (.ix (.var 0) (.int 1)))] [],
      .ret (.bin .Add (.var 1) (.var 2))]
def b__law_times : List D3.S := [.ite (.cmp .Eq (.ix (.var 0) (.int 0)) (.str "pair")) [.ret (.tup [(.frz (.call "_law_times" 3 [(.ix (.var 0) (.int 1)), (.ix (.var 1) (.int 0)), (.ix (.var 2) (.int 0))])), (.frz (.call "_law_times" 3 [(.ix (.var 0) (.int 2)), (.ix (.var 1) (.int 1)), (.ix (.var 2) (.int 1))]))])] [],
      .ite (.cmp .Eq (.ix (.var 0) (.int 0)) (.str "truth")) [.ret (.andL [(.var 1), (.var 2)])] [],
      .ite (.cmp .Eq (.ix (.var 0) (.int 0)) (.str "costs")) [.ite (.orL [(.cmp .Is (.var 1) .non), (.cmp .Is (.var 2) .non)]) [.ret .non] [],
      .ret (.bin .Add (.var 1) (.var 2))] [],
      .ite (.cmp .Eq (.ix (.var 0) (.int 0)) (.str "wheel")) [.ret (.bin .Mod (.bin .Mult (.var 1) (.var 2)) (.ix (.var 0) (.int 1)))] [],
      .ret (.bin .Mult (.var 1) (.var 2))]
def b__law_ends : List D3.S := [.ite (.cmp .Eq (.ix (.var 0) (.int 0)) (.str "pair")) [.set 1 (.frz (.call "_law_ends" 1 [(.ix (.var 0) (.int 1))])),
      .set 2 (.frz (.call "_law_ends" 1 [(.ix (.var 0) (.int 2))])),
      .ret (.tup [(.tup [(.ix (.var 1) (.int 0)), (.ix (.var 2) (.int 0))]), (.tup [(.ix (.var 1) (.int 1)), (.ix (.var 2) (.int 1))])])] [],
      .ite (.cmp .Eq (.ix (.var 0) (.int 0)) (.str "truth")) [.ret (.tup [(.bl false), (.bl true)])] [],
      .ite (.cmp .Eq (.ix (.var 0) (.int 0)) (.str "costs")) [.ret (.tup [.non, (.int 0)])] [],
      .ret (.tup [(.int 0), (.int 1)])]
def b__law_shown : List D3.S := [.ite (.cmp .Eq (.ix (.var 0) (.int 0)) (.str "pair")) [.ret (.bin .Add (.bin .Add (.bin .Add (.bin .Add (.str "[") (.call "_law_shown" 2 [(.ix (.var 0) (.int 1)), (.ix (.var 1) (.int 0))])) (.str ", ")) (.call "_law_shown" 2 [(.ix (.var 0) (.int 2)), (.ix (.var 1) (.int 1))])) (.str "]"))] [],
      .ite (.cmp .Eq (.ix (.var 0) (.int 0)) (.str "truth")) [.ret (.ix (.lst [(.str "no"), (.str "yes")]) (.tcall .int [(.var 1)]))] [],
      .ite (.cmp .Is (.var 1) .non) [.ret (.str "never")] [],
      .ret (.tcall .str [(.var 1)])]
def b__law_same : List D3.S := [.ite (.tru (.bcall .isinstance [(.var 1), (.ty .tuple)])) [.ite (.orL [(.not (.tru (.bcall .isinstance [(.var 0), (.ty .tuple)]))), (.cmp .NotEq (.bcall .len [(.var 0)]) (.bcall .len [(.var 1)]))]) [.ret (.bl false)] [],
      .ret (.bcall .all [(.comp (.call "_law_same" 2 [(.var 0), (.var 1)]) (.zip2 (.var 0) (.var 1)) [] [] (.tp [(.nm 0), (.nm 1)]) 2)])] [],
      .ite (.cmp .Is (.var 1) .non) [.ret (.cmp .Is (.var 0) .non)] [],
      .ite (.orL [(.tru (.bcall .isinstance [(.var 1), (.ty .bool)])), (.tru (.bcall .isinstance [(.var 0), (.ty .bool)]))]) [.ret (.andL [(.bcall .isinstance [(.var 1), (.ty .bool)]), (.bcall .isinstance [(.var 0), (.ty .bool)]), (.cmp .Eq (.var 0) (.var 1))])] [],
      .ite (.tru (.bcall .isinstance [(.var 1), (.ty .int)])) [.ret (.andL [(.bcall .isinstance [(.var 0), (.ty .int)]), (.cmp .Eq (.var 0) (.var 1))])] [],
      .ret (.andL [(.bcall .isinstance [(.var 0), (.ty .str)]), (.cmp .Eq (.var 0) (.var 1))])]
def b__law_met : List D3.S := [.set 4 (.tup [(.frz (.meth (.var 0) "nought" [])), (.frz (.meth (.var 0) "one" []))]),
      .ite (.orL [(.not (.tru (.call "_law_same" 2 [(.var 4), (.frz (.call "_law_ends" 1 [(.var 1)]))]))), (.not (.tru (.call "_law_same" 2 [(.frz (.meth (.var 0) "shown" [(.var 2)])), (.frz (.call "_law_shown" 2 [(.var 1), (.var 2)]))])))]) [.ret (.bl false)] [],
      .ite (.not (.tru (.call "_law_same" 2 [(.frz (.meth (.var 0) "plus" [(.var 2), (.var 3)])), (.frz (.call "_law_plus" 3 [(.var 1), (.var 2), (.var 3)]))]))) [.ret (.bl false)] [],
      .ret (.andL [(.call "_law_same" 2 [(.frz (.meth (.var 0) "times" [(.var 2), (.var 3)])), (.frz (.call "_law_times" 3 [(.var 1), (.var 2), (.var 3)]))]), (.call "_law_same" 2 [(.frz (.meth (.var 0) "holds" [(.var 2)])), (.bl true)])])]
def b_law : List D3.S := [.for (.enum1 (.var 0)) (.tp [(.nm 1), (.nm 2)]) b_law_L1,
      .ret (.bl true)]
def b_Counts_nought : List D3.S := [.ret (.int 0)]
def b_Counts_one : List D3.S := [.ret (.int 1)]
def b_Counts_plus : List D3.S := [.ret (.bin .Add (.var 1) (.var 2))]
def b_Counts_times : List D3.S := [.ret (.bin .Mult (.var 1) (.var 2))]
def b_Counts_holds : List D3.S := [.ret (.andL [(.call "is_whole" 1 [(.var 1)]), (.cmp .GtE (.var 1) (.int 0))])]
def b_Counts_shown : List D3.S := [.ret (.tcall .str [(.var 1)])]
def b_Truth_nought : List D3.S := [.ret (.bl false)]
def b_Truth_one : List D3.S := [.ret (.bl true)]
def b_Truth_plus : List D3.S := [.ret (.orL [(.var 1), (.var 2)])]
def b_Truth_times : List D3.S := [.ret (.andL [(.var 1), (.var 2)])]
def b_Truth_holds : List D3.S := [.ret (.bcall .isinstance [(.var 1), (.ty .bool)])]
def b_Truth_shown : List D3.S := [.ite (.tru (.var 1)) [.ret (.str "yes")] [],
      .ret (.str "no")]
def b_Costs_nought : List D3.S := [.ret .non]
def b_Costs_one : List D3.S := [.ret (.int 0)]
def b_Costs_plus : List D3.S := [.ite (.cmp .Is (.var 1) .non) [.retV 2] [],
      .ite (.cmp .Is (.var 2) .non) [.retV 1] [],
      .ret (.bcall .min [(.var 1), (.var 2)])]
def b_Costs_times : List D3.S := [.ite (.orL [(.cmp .Is (.var 1) .non), (.cmp .Is (.var 2) .non)]) [.ret .non] [],
      .ret (.bin .Add (.var 1) (.var 2))]
def b_Costs_holds : List D3.S := [.ret (.orL [(.cmp .Is (.var 1) .non), (.call "is_whole" 1 [(.var 1)])])]
def b_Costs_shown : List D3.S := [.ite (.cmp .Is (.var 1) .non) [.ret (.str "never")] [],
      .ret (.tcall .str [(.var 1)])]
def b_Wheel_nought : List D3.S := [.ret (.int 0)]
def b_Wheel_one : List D3.S := [.ret (.int 1)]
def b_Wheel_plus : List D3.S := [.ret (.bin .Mod (.bin .Add (.var 1) (.var 2)) (.fld (.var 0) "size"))]
def b_Wheel_times : List D3.S := [.ret (.bin .Mod (.bin .Mult (.var 1) (.var 2)) (.fld (.var 0) "size"))]
def b_Wheel_holds : List D3.S := [.ret (.andL [(.call "is_whole" 1 [(.var 1)]), (.chain .LtE .Lt (.int 0) (.var 1) (.fld (.var 0) "size"))])]
def b_Wheel_shown : List D3.S := [.ret (.tcall .str [(.var 1)])]
def b_Pair_nought : List D3.S := [.ret (.tup [(.frz (.meth (.fld (.var 0) "first") "nought" [])), (.frz (.meth (.fld (.var 0) "second") "nought" []))])]
def b_Pair_one : List D3.S := [.ret (.tup [(.frz (.meth (.fld (.var 0) "first") "one" [])), (.frz (.meth (.fld (.var 0) "second") "one" []))])]
def b_Pair_plus : List D3.S := [.ret (.tup [(.frz (.meth (.fld (.var 0) "first") "plus" [(.ix (.var 1) (.int 0)), (.ix (.var 2) (.int 0))])), (.frz (.meth (.fld (.var 0) "second") "plus" [(.ix (.var 1) (.int 1)), (.ix (.var 2) (.int 1))]))])]
def b_Pair_times : List D3.S := [.ret (.tup [(.frz (.meth (.fld (.var 0) "first") "times" [(.ix (.var 1) (.int 0)), (.ix (.var 2) (.int 0))])), (.frz (.meth (.fld (.var 0) "second") "times" [(.ix (.var 1) (.int 1)), (.ix (.var 2) (.int 1))]))])]
def b_Pair_holds : List D3.S := [.ret (.andL [(.call "is_pair" 1 [(.var 1)]), (.meth (.fld (.var 0) "first") "holds" [(.ix (.var 1) (.int 0))]), (.meth (.fld (.var 0) "second") "holds" [(.ix (.var 1) (.int 1))])])]
def b_Pair_shown : List D3.S := [.ret (.fstr [(.str "["), (.fmt (.meth (.fld (.var 0) "first") "shown" [(.ix (.var 1) (.int 0))])), (.str ", "), (.fmt (.meth (.fld (.var 0) "second") "shown" [(.ix (.var 1) (.int 1))])), (.str "]")])]
def d_is_whole : FD := ⟨["thing"], ["thing"], b_is_whole⟩
def d_is_pair : FD := ⟨["thing"], ["thing"], b_is_pair⟩
def d__law_mix : FD := ⟨["_law_cell", "_law_place"], ["_law_cell", "_law_place", "_law_first"], b__law_mix⟩
def d__law_flat : FD := ⟨["_law_cell", "_law_place"], ["_law_cell", "_law_place", "_law_word"], b__law_flat⟩
def d__law_spec : FD := ⟨["_law_cell"], ["_law_cell", "_law_pair", "_law_way"], b__law_spec⟩
def d__law_kind : FD := ⟨["_law_spec_here"], ["_law_spec_here"], b__law_kind⟩
def d__law_note : FD := ⟨["_law_spec_here", "_law_cell", "_law_place"], ["_law_spec_here", "_law_cell", "_law_place", "_law_number"], b__law_note⟩
def d__law_plus : FD := ⟨["_law_spec_here", "_law_a", "_law_b"], ["_law_spec_here", "_law_a", "_law_b"], b__law_plus⟩
def d__law_times : FD := ⟨["_law_spec_here", "_law_a", "_law_b"], ["_law_spec_here", "_law_a", "_law_b"], b__law_times⟩
def d__law_ends : FD := ⟨["_law_spec_here"], ["_law_spec_here", "_law_one", "_law_other"], b__law_ends⟩
def d__law_shown : FD := ⟨["_law_spec_here", "_law_a"], ["_law_spec_here", "_law_a"], b__law_shown⟩
def d__law_same : FD := ⟨["_law_found", "_law_due"], ["_law_found", "_law_due"], b__law_same⟩
def d__law_met : FD := ⟨["_law_kind_here", "_law_spec_here", "_law_a", "_law_b"], ["_law_kind_here", "_law_spec_here", "_law_a", "_law_b", "_law_got"], b__law_met⟩
def d_law : FD := ⟨["_law_script"], ["_law_script", "_law_k", "_law_cell", "_law_spec_here", "_law_kind_here", "_law_a", "_law_b", "_law_odd"], b_law⟩
def d_Counts_nought : FD := ⟨["self"], ["self"], b_Counts_nought⟩
def d_Counts_one : FD := ⟨["self"], ["self"], b_Counts_one⟩
def d_Counts_plus : FD := ⟨["self", "a", "b"], ["self", "a", "b"], b_Counts_plus⟩
def d_Counts_times : FD := ⟨["self", "a", "b"], ["self", "a", "b"], b_Counts_times⟩
def d_Counts_holds : FD := ⟨["self", "thing"], ["self", "thing"], b_Counts_holds⟩
def d_Counts_shown : FD := ⟨["self", "a"], ["self", "a"], b_Counts_shown⟩
def d_Truth_nought : FD := ⟨["self"], ["self"], b_Truth_nought⟩
def d_Truth_one : FD := ⟨["self"], ["self"], b_Truth_one⟩
def d_Truth_plus : FD := ⟨["self", "a", "b"], ["self", "a", "b"], b_Truth_plus⟩
def d_Truth_times : FD := ⟨["self", "a", "b"], ["self", "a", "b"], b_Truth_times⟩
def d_Truth_holds : FD := ⟨["self", "thing"], ["self", "thing"], b_Truth_holds⟩
def d_Truth_shown : FD := ⟨["self", "a"], ["self", "a"], b_Truth_shown⟩
def d_Costs_nought : FD := ⟨["self"], ["self"], b_Costs_nought⟩
def d_Costs_one : FD := ⟨["self"], ["self"], b_Costs_one⟩
def d_Costs_plus : FD := ⟨["self", "a", "b"], ["self", "a", "b"], b_Costs_plus⟩
def d_Costs_times : FD := ⟨["self", "a", "b"], ["self", "a", "b"], b_Costs_times⟩
def d_Costs_holds : FD := ⟨["self", "thing"], ["self", "thing"], b_Costs_holds⟩
def d_Costs_shown : FD := ⟨["self", "a"], ["self", "a"], b_Costs_shown⟩
def d_Wheel_nought : FD := ⟨["self"], ["self"], b_Wheel_nought⟩
def d_Wheel_one : FD := ⟨["self"], ["self"], b_Wheel_one⟩
def d_Wheel_plus : FD := ⟨["self", "a", "b"], ["self", "a", "b"], b_Wheel_plus⟩
def d_Wheel_times : FD := ⟨["self", "a", "b"], ["self", "a", "b"], b_Wheel_times⟩
def d_Wheel_holds : FD := ⟨["self", "thing"], ["self", "thing"], b_Wheel_holds⟩
def d_Wheel_shown : FD := ⟨["self", "a"], ["self", "a"], b_Wheel_shown⟩
def d_Pair_nought : FD := ⟨["self"], ["self"], b_Pair_nought⟩
def d_Pair_one : FD := ⟨["self"], ["self"], b_Pair_one⟩
def d_Pair_plus : FD := ⟨["self", "a", "b"], ["self", "a", "b"], b_Pair_plus⟩
def d_Pair_times : FD := ⟨["self", "a", "b"], ["self", "a", "b"], b_Pair_times⟩
def d_Pair_holds : FD := ⟨["self", "thing"], ["self", "thing"], b_Pair_holds⟩
def d_Pair_shown : FD := ⟨["self", "a"], ["self", "a"], b_Pair_shown⟩
def i_Wheel___init__ : ID := ⟨"Wheel", ["self", "size"], ["self", "size"], (.guard (.orL [(.not (.tru (.call "is_whole" 1 [(.var 1)]))), (.cmp .Lt (.var 1) (.int 2))]) [.rz "NoKind" [(.str "the size of a wheel is a whole number from 2 on")]] (.fset "size" (.var 1) .done))⟩
def i_Pair___init__ : ID := ⟨"Pair", ["self", "first", "second"], ["self", "first", "second"], (.fset "first" (.var 1) (.fset "second" (.var 2) .done))⟩
def c_Kind : CI := ⟨"Kind", ["Kind"], [], []⟩
def c_Single : CI := ⟨"Single", ["Single", "Kind"], [], []⟩
def c_Counts : CI := ⟨"Counts", ["Counts", "Kind"], [], [("nought", "Counts.nought", 1), ("one", "Counts.one", 1), ("plus", "Counts.plus", 3), ("times", "Counts.times", 3), ("holds", "Counts.holds", 2), ("shown", "Counts.shown", 2)]⟩
def c_Truth : CI := ⟨"Truth", ["Truth", "Single", "Kind"], [], [("nought", "Truth.nought", 1), ("one", "Truth.one", 1), ("plus", "Truth.plus", 3), ("times", "Truth.times", 3), ("holds", "Truth.holds", 2), ("shown", "Truth.shown", 2)]⟩
def c_Costs : CI := ⟨"Costs", ["Costs", "Single", "Kind"], [], [("nought", "Costs.nought", 1), ("one", "Costs.one", 1), ("plus", "Costs.plus", 3), ("times", "Costs.times", 3), ("holds", "Costs.holds", 2), ("shown", "Costs.shown", 2)]⟩
def c_Wheel : CI := ⟨"Wheel", ["Wheel", "Kind"], ["size"], [("nought", "Wheel.nought", 1), ("one", "Wheel.one", 1), ("plus", "Wheel.plus", 3), ("times", "Wheel.times", 3), ("holds", "Wheel.holds", 2), ("shown", "Wheel.shown", 2)]⟩
def c_Pair : CI := ⟨"Pair", ["Pair", "Kind"], ["first", "second"], [("nought", "Pair.nought", 1), ("one", "Pair.one", 1), ("plus", "Pair.plus", 3), ("times", "Pair.times", 3), ("holds", "Pair.holds", 2), ("shown", "Pair.shown", 2)]⟩
def T : List (Str × FD) := [(("is_whole" : Str), d_is_whole), (("is_pair" : Str), d_is_pair), (("_law_mix" : Str), d__law_mix), (("_law_flat" : Str), d__law_flat), (("_law_spec" : Str), d__law_spec), (("_law_kind" : Str), d__law_kind), (("_law_note" : Str), d__law_note), (("_law_plus" : Str), d__law_plus), (("_law_times" : Str), d__law_times), (("_law_ends" : Str), d__law_ends), (("_law_shown" : Str), d__law_shown), (("_law_same" : Str), d__law_same), (("_law_met" : Str), d__law_met), (("law" : Str), d_law), (("Counts.nought" : Str), d_Counts_nought), (("Counts.one" : Str), d_Counts_one), (("Counts.plus" : Str), d_Counts_plus), (("Counts.times" : Str), d_Counts_times), (("Counts.holds" : Str), d_Counts_holds), (("Counts.shown" : Str), d_Counts_shown), (("Truth.nought" : Str), d_Truth_nought), (("Truth.one" : Str), d_Truth_one), (("Truth.plus" : Str), d_Truth_plus), (("Truth.times" : Str), d_Truth_times), (("Truth.holds" : Str), d_Truth_holds), (("Truth.shown" : Str), d_Truth_shown), (("Costs.nought" : Str), d_Costs_nought), (("Costs.one" : Str), d_Costs_one), (("Costs.plus" : Str), d_Costs_plus), (("Costs.times" : Str), d_Costs_times), (("Costs.holds" : Str), d_Costs_holds), (("Costs.shown" : Str), d_Costs_shown), (("Wheel.nought" : Str), d_Wheel_nought), (("Wheel.one" : Str), d_Wheel_one), (("Wheel.plus" : Str), d_Wheel_plus), (("Wheel.times" : Str), d_Wheel_times), (("Wheel.holds" : Str), d_Wheel_holds), (("Wheel.shown" : Str), d_Wheel_shown), (("Pair.nought" : Str), d_Pair_nought), (("Pair.one" : Str), d_Pair_one), (("Pair.plus" : Str), d_Pair_plus), (("Pair.times" : Str), d_Pair_times), (("Pair.holds" : Str), d_Pair_holds), (("Pair.shown" : Str), d_Pair_shown)]
def TT : TB := ⟨T, [("Wheel.__init__", i_Wheel___init__), ("Pair.__init__", i_Pair___init__)], [c_Kind, c_Single, c_Counts, c_Truth, c_Costs, c_Wheel, c_Pair], [], []⟩
def GG : MG := ⟨[(("Costs" : Str), (GV.cls)), (("Counts" : Str), (GV.cls)), (("Kind" : Str), (GV.cls)), (("NoKind" : Str), (GV.cls)), (("Pair" : Str), (GV.cls)), (("Single" : Str), (GV.cls)), (("Truth" : Str), (GV.cls)), (("Wheel" : Str), (GV.cls)), (("_law_ends" : Str), (GV.fn 1)), (("_law_flat" : Str), (GV.fn 2)), (("_law_kind" : Str), (GV.fn 1)), (("_law_met" : Str), (GV.fn 4)), (("_law_mix" : Str), (GV.fn 2)), (("_law_note" : Str), (GV.fn 3)), (("_law_plus" : Str), (GV.fn 3)), (("_law_same" : Str), (GV.fn 2)), (("_law_shown" : Str), (GV.fn 2)), (("_law_spec" : Str), (GV.fn 1)), (("_law_times" : Str), (GV.fn 3)), (("all" : Str), (GV.no)), (("bool" : Str), (GV.no)), (("enumerate" : Str), (GV.no)), (("int" : Str), (GV.no)), (("is_pair" : Str), (GV.fn 1)), (("is_whole" : Str), (GV.fn 1)), (("isinstance" : Str), (GV.no)), (("len" : Str), (GV.no)), (("list" : Str), (GV.no)), (("min" : Str), (GV.no)), (("str" : Str), (GV.no)), (("tuple" : Str), (GV.no)), (("zip" : Str), (GV.no))], ["Counts", "Truth", "Costs"], [("Wheel", "Wheel.__init__", 1), ("Pair", "Pair.__init__", 2)], ["Kind", "Single"], ["NoKind"], []⟩
def top (i : Nat) : Stmt := PySem.Challenge.pw_whencewise_k09_pairs.main.body.getD i (.Pass ⟨0, 0, 0, 0⟩)
abbrev s_is_whole : Stmt := top 4
abbrev s_is_pair : Stmt := top 13
abbrev s__law_mix : Stmt := top 15
abbrev s__law_flat : Stmt := top 16
abbrev s__law_spec : Stmt := top 17
abbrev s__law_kind : Stmt := top 18
abbrev s__law_note : Stmt := top 19
abbrev s__law_plus : Stmt := top 20
abbrev s__law_times : Stmt := top 21
abbrev s__law_ends : Stmt := top 22
abbrev s__law_shown : Stmt := top 23
abbrev s__law_same : Stmt := top 24
abbrev s__law_met : Stmt := top 25
abbrev s_law : Stmt := top 26
abbrev s_Counts_nought : Stmt := inCls (top 8) 0
abbrev s_Counts_one : Stmt := inCls (top 8) 1
abbrev s_Counts_plus : Stmt := inCls (top 8) 2
abbrev s_Counts_times : Stmt := inCls (top 8) 3
abbrev s_Counts_holds : Stmt := inCls (top 8) 5
abbrev s_Counts_shown : Stmt := inCls (top 8) 6
abbrev s_Truth_nought : Stmt := inCls (top 9) 0
abbrev s_Truth_one : Stmt := inCls (top 9) 1
abbrev s_Truth_plus : Stmt := inCls (top 9) 2
abbrev s_Truth_times : Stmt := inCls (top 9) 3
abbrev s_Truth_holds : Stmt := inCls (top 9) 4
abbrev s_Truth_shown : Stmt := inCls (top 9) 5
abbrev s_Costs_nought : Stmt := inCls (top 10) 0
abbrev s_Costs_one : Stmt := inCls (top 10) 1
abbrev s_Costs_plus : Stmt := inCls (top 10) 2
abbrev s_Costs_times : Stmt := inCls (top 10) 3
abbrev s_Costs_holds : Stmt := inCls (top 10) 4
abbrev s_Costs_shown : Stmt := inCls (top 10) 5
abbrev s_Wheel_nought : Stmt := inCls (top 11) 1
abbrev s_Wheel_one : Stmt := inCls (top 11) 2
abbrev s_Wheel_plus : Stmt := inCls (top 11) 3
abbrev s_Wheel_times : Stmt := inCls (top 11) 4
abbrev s_Wheel_holds : Stmt := inCls (top 11) 6
abbrev s_Wheel_shown : Stmt := inCls (top 11) 7
abbrev s_Pair_nought : Stmt := inCls (top 12) 1
abbrev s_Pair_one : Stmt := inCls (top 12) 2
abbrev s_Pair_plus : Stmt := inCls (top 12) 3
abbrev s_Pair_times : Stmt := inCls (top 12) 4
abbrev s_Pair_holds : Stmt := inCls (top 12) 7
abbrev s_Pair_shown : Stmt := inCls (top 12) 8
abbrev s_Wheel___init__ : Stmt := inCls (top 11) 0
abbrev s_Pair___init__ : Stmt := inCls (top 12) 0
theorem u_is_whole (k : Nat) : (WT TT (k + 1)).Φ "is_whole" = phi 1 1 (evB (WT TT k) b_is_whole) := wt_Φ (d := d_is_whole) rfl
theorem u_is_pair (k : Nat) : (WT TT (k + 1)).Φ "is_pair" = phi 1 1 (evB (WT TT k) b_is_pair) := wt_Φ (d := d_is_pair) rfl
theorem u__law_mix (k : Nat) : (WT TT (k + 1)).Φ "_law_mix" = phi 2 3 (evB (WT TT k) b__law_mix) := wt_Φ (d := d__law_mix) rfl
theorem u__law_flat (k : Nat) : (WT TT (k + 1)).Φ "_law_flat" = phi 2 3 (evB (WT TT k) b__law_flat) := wt_Φ (d := d__law_flat) rfl
theorem u__law_spec (k : Nat) : (WT TT (k + 1)).Φ "_law_spec" = phi 1 3 (evB (WT TT k) b__law_spec) := wt_Φ (d := d__law_spec) rfl
theorem u__law_kind (k : Nat) : (WT TT (k + 1)).Φ "_law_kind" = phi 1 1 (evB (WT TT k) b__law_kind) := wt_Φ (d := d__law_kind) rfl
theorem u__law_note (k : Nat) : (WT TT (k + 1)).Φ "_law_note" = phi 3 4 (evB (WT TT k) b__law_note) := wt_Φ (d := d__law_note) rfl
theorem u__law_plus (k : Nat) : (WT TT (k + 1)).Φ "_law_plus" = phi 3 3 (evB (WT TT k) b__law_plus) := wt_Φ (d := d__law_plus) rfl
theorem u__law_times (k : Nat) : (WT TT (k + 1)).Φ "_law_times" = phi 3 3 (evB (WT TT k) b__law_times) := wt_Φ (d := d__law_times) rfl
theorem u__law_ends (k : Nat) : (WT TT (k + 1)).Φ "_law_ends" = phi 1 3 (evB (WT TT k) b__law_ends) := wt_Φ (d := d__law_ends) rfl
theorem u__law_shown (k : Nat) : (WT TT (k + 1)).Φ "_law_shown" = phi 2 2 (evB (WT TT k) b__law_shown) := wt_Φ (d := d__law_shown) rfl
theorem u__law_same (k : Nat) : (WT TT (k + 1)).Φ "_law_same" = phi 2 2 (evB (WT TT k) b__law_same) := wt_Φ (d := d__law_same) rfl
theorem u__law_met (k : Nat) : (WT TT (k + 1)).Φ "_law_met" = phi 4 5 (evB (WT TT k) b__law_met) := wt_Φ (d := d__law_met) rfl
theorem u_law (k : Nat) : (WT TT (k + 1)).Φ "law" = phi 1 8 (evB (WT TT k) b_law) := wt_Φ (d := d_law) rfl
theorem u_Counts_nought (k : Nat) : (WT TT (k + 1)).Φ "Counts.nought" = phi 1 1 (evB (WT TT k) b_Counts_nought) := wt_Φ (d := d_Counts_nought) rfl
theorem u_Counts_one (k : Nat) : (WT TT (k + 1)).Φ "Counts.one" = phi 1 1 (evB (WT TT k) b_Counts_one) := wt_Φ (d := d_Counts_one) rfl
theorem u_Counts_plus (k : Nat) : (WT TT (k + 1)).Φ "Counts.plus" = phi 3 3 (evB (WT TT k) b_Counts_plus) := wt_Φ (d := d_Counts_plus) rfl
theorem u_Counts_times (k : Nat) : (WT TT (k + 1)).Φ "Counts.times" = phi 3 3 (evB (WT TT k) b_Counts_times) := wt_Φ (d := d_Counts_times) rfl
theorem u_Counts_holds (k : Nat) : (WT TT (k + 1)).Φ "Counts.holds" = phi 2 2 (evB (WT TT k) b_Counts_holds) := wt_Φ (d := d_Counts_holds) rfl
theorem u_Counts_shown (k : Nat) : (WT TT (k + 1)).Φ "Counts.shown" = phi 2 2 (evB (WT TT k) b_Counts_shown) := wt_Φ (d := d_Counts_shown) rfl
theorem u_Truth_nought (k : Nat) : (WT TT (k + 1)).Φ "Truth.nought" = phi 1 1 (evB (WT TT k) b_Truth_nought) := wt_Φ (d := d_Truth_nought) rfl
theorem u_Truth_one (k : Nat) : (WT TT (k + 1)).Φ "Truth.one" = phi 1 1 (evB (WT TT k) b_Truth_one) := wt_Φ (d := d_Truth_one) rfl
theorem u_Truth_plus (k : Nat) : (WT TT (k + 1)).Φ "Truth.plus" = phi 3 3 (evB (WT TT k) b_Truth_plus) := wt_Φ (d := d_Truth_plus) rfl
theorem u_Truth_times (k : Nat) : (WT TT (k + 1)).Φ "Truth.times" = phi 3 3 (evB (WT TT k) b_Truth_times) := wt_Φ (d := d_Truth_times) rfl
theorem u_Truth_holds (k : Nat) : (WT TT (k + 1)).Φ "Truth.holds" = phi 2 2 (evB (WT TT k) b_Truth_holds) := wt_Φ (d := d_Truth_holds) rfl
theorem u_Truth_shown (k : Nat) : (WT TT (k + 1)).Φ "Truth.shown" = phi 2 2 (evB (WT TT k) b_Truth_shown) := wt_Φ (d := d_Truth_shown) rfl
theorem u_Costs_nought (k : Nat) : (WT TT (k + 1)).Φ "Costs.nought" = phi 1 1 (evB (WT TT k) b_Costs_nought) := wt_Φ (d := d_Costs_nought) rfl
theorem u_Costs_one (k : Nat) : (WT TT (k + 1)).Φ "Costs.one" = phi 1 1 (evB (WT TT k) b_Costs_one) := wt_Φ (d := d_Costs_one) rfl
theorem u_Costs_plus (k : Nat) : (WT TT (k + 1)).Φ "Costs.plus" = phi 3 3 (evB (WT TT k) b_Costs_plus) := wt_Φ (d := d_Costs_plus) rfl
theorem u_Costs_times (k : Nat) : (WT TT (k + 1)).Φ "Costs.times" = phi 3 3 (evB (WT TT k) b_Costs_times) := wt_Φ (d := d_Costs_times) rfl
theorem u_Costs_holds (k : Nat) : (WT TT (k + 1)).Φ "Costs.holds" = phi 2 2 (evB (WT TT k) b_Costs_holds) := wt_Φ (d := d_Costs_holds) rfl
theorem u_Costs_shown (k : Nat) : (WT TT (k + 1)).Φ "Costs.shown" = phi 2 2 (evB (WT TT k) b_Costs_shown) := wt_Φ (d := d_Costs_shown) rfl
theorem u_Wheel_nought (k : Nat) : (WT TT (k + 1)).Φ "Wheel.nought" = phi 1 1 (evB (WT TT k) b_Wheel_nought) := wt_Φ (d := d_Wheel_nought) rfl
theorem u_Wheel_one (k : Nat) : (WT TT (k + 1)).Φ "Wheel.one" = phi 1 1 (evB (WT TT k) b_Wheel_one) := wt_Φ (d := d_Wheel_one) rfl
theorem u_Wheel_plus (k : Nat) : (WT TT (k + 1)).Φ "Wheel.plus" = phi 3 3 (evB (WT TT k) b_Wheel_plus) := wt_Φ (d := d_Wheel_plus) rfl
theorem u_Wheel_times (k : Nat) : (WT TT (k + 1)).Φ "Wheel.times" = phi 3 3 (evB (WT TT k) b_Wheel_times) := wt_Φ (d := d_Wheel_times) rfl
theorem u_Wheel_holds (k : Nat) : (WT TT (k + 1)).Φ "Wheel.holds" = phi 2 2 (evB (WT TT k) b_Wheel_holds) := wt_Φ (d := d_Wheel_holds) rfl
theorem u_Wheel_shown (k : Nat) : (WT TT (k + 1)).Φ "Wheel.shown" = phi 2 2 (evB (WT TT k) b_Wheel_shown) := wt_Φ (d := d_Wheel_shown) rfl
theorem u_Pair_nought (k : Nat) : (WT TT (k + 1)).Φ "Pair.nought" = phi 1 1 (evB (WT TT k) b_Pair_nought) := wt_Φ (d := d_Pair_nought) rfl
theorem u_Pair_one (k : Nat) : (WT TT (k + 1)).Φ "Pair.one" = phi 1 1 (evB (WT TT k) b_Pair_one) := wt_Φ (d := d_Pair_one) rfl
theorem u_Pair_plus (k : Nat) : (WT TT (k + 1)).Φ "Pair.plus" = phi 3 3 (evB (WT TT k) b_Pair_plus) := wt_Φ (d := d_Pair_plus) rfl
theorem u_Pair_times (k : Nat) : (WT TT (k + 1)).Φ "Pair.times" = phi 3 3 (evB (WT TT k) b_Pair_times) := wt_Φ (d := d_Pair_times) rfl
theorem u_Pair_holds (k : Nat) : (WT TT (k + 1)).Φ "Pair.holds" = phi 2 2 (evB (WT TT k) b_Pair_holds) := wt_Φ (d := d_Pair_holds) rfl
theorem u_Pair_shown (k : Nat) : (WT TT (k + 1)).Φ "Pair.shown" = phi 2 2 (evB (WT TT k) b_Pair_shown) := wt_Φ (d := d_Pair_shown) rfl
theorem m_Counts_nought : CI.meth TT.cl "Counts" "nought" = some (("Counts.nought" : Str), 1) := rfl
theorem mm_Counts_nought {Φ : Str → List D → Res} {as : ResL} {fs : List (Str × D)} (hl : fs.lookup ("nought" : Str) = none) : methR TT.cl Φ "nought" (.ok .fz (.ins "Counts" fs)) as = callF 1 (Φ "Counts.nought") (consL (.ok .fz (.ins "Counts" fs)) as) := x_meth m_Counts_nought hl
theorem mz_Counts_nought {Φ : Str → List D → Res} {as : ResL} : methR TT.cl Φ "nought" (.ok .fz (.ins "Counts" [])) as = callF 1 (Φ "Counts.nought") (consL (.ok .fz (.ins "Counts" [])) as) := x_meth m_Counts_nought rfl
theorem m_Counts_one : CI.meth TT.cl "Counts" "one" = some (("Counts.one" : Str), 1) := rfl
theorem mm_Counts_one {Φ : Str → List D → Res} {as : ResL} {fs : List (Str × D)} (hl : fs.lookup ("one" : Str) = none) : methR TT.cl Φ "one" (.ok .fz (.ins "Counts" fs)) as = callF 1 (Φ "Counts.one") (consL (.ok .fz (.ins "Counts" fs)) as) := x_meth m_Counts_one hl
theorem mz_Counts_one {Φ : Str → List D → Res} {as : ResL} : methR TT.cl Φ "one" (.ok .fz (.ins "Counts" [])) as = callF 1 (Φ "Counts.one") (consL (.ok .fz (.ins "Counts" [])) as) := x_meth m_Counts_one rfl
theorem m_Counts_plus : CI.meth TT.cl "Counts" "plus" = some (("Counts.plus" : Str), 3) := rfl
theorem mm_Counts_plus {Φ : Str → List D → Res} {as : ResL} {fs : List (Str × D)} (hl : fs.lookup ("plus" : Str) = none) : methR TT.cl Φ "plus" (.ok .fz (.ins "Counts" fs)) as = callF 3 (Φ "Counts.plus") (consL (.ok .fz (.ins "Counts" fs)) as) := x_meth m_Counts_plus hl
theorem mz_Counts_plus {Φ : Str → List D → Res} {as : ResL} : methR TT.cl Φ "plus" (.ok .fz (.ins "Counts" [])) as = callF 3 (Φ "Counts.plus") (consL (.ok .fz (.ins "Counts" [])) as) := x_meth m_Counts_plus rfl
theorem m_Counts_times : CI.meth TT.cl "Counts" "times" = some (("Counts.times" : Str), 3) := rfl
theorem mm_Counts_times {Φ : Str → List D → Res} {as : ResL} {fs : List (Str × D)} (hl : fs.lookup ("times" : Str) = none) : methR TT.cl Φ "times" (.ok .fz (.ins "Counts" fs)) as = callF 3 (Φ "Counts.times") (consL (.ok .fz (.ins "Counts" fs)) as) := x_meth m_Counts_times hl
theorem mz_Counts_times {Φ : Str → List D → Res} {as : ResL} : methR TT.cl Φ "times" (.ok .fz (.ins "Counts" [])) as = callF 3 (Φ "Counts.times") (consL (.ok .fz (.ins "Counts" [])) as) := x_meth m_Counts_times rfl
theorem m_Counts_holds : CI.meth TT.cl "Counts" "holds" = some (("Counts.holds" : Str), 2) := rfl
theorem mm_Counts_holds {Φ : Str → List D → Res} {as : ResL} {fs : List (Str × D)} (hl : fs.lookup ("holds" : Str) = none) : methR TT.cl Φ "holds" (.ok .fz (.ins "Counts" fs)) as = callF 2 (Φ "Counts.holds") (consL (.ok .fz (.ins "Counts" fs)) as) := x_meth m_Counts_holds hl
theorem mz_Counts_holds {Φ : Str → List D → Res} {as : ResL} : methR TT.cl Φ "holds" (.ok .fz (.ins "Counts" [])) as = callF 2 (Φ "Counts.holds") (consL (.ok .fz (.ins "Counts" [])) as) := x_meth m_Counts_holds rfl
theorem m_Counts_shown : CI.meth TT.cl "Counts" "shown" = some (("Counts.shown" : Str), 2) := rfl
theorem mm_Counts_shown {Φ : Str → List D → Res} {as : ResL} {fs : List (Str × D)} (hl : fs.lookup ("shown" : Str) = none) : methR TT.cl Φ "shown" (.ok .fz (.ins "Counts" fs)) as = callF 2 (Φ "Counts.shown") (consL (.ok .fz (.ins "Counts" fs)) as) := x_meth m_Counts_shown hl
theorem mz_Counts_shown {Φ : Str → List D → Res} {as : ResL} : methR TT.cl Φ "shown" (.ok .fz (.ins "Counts" [])) as = callF 2 (Φ "Counts.shown") (consL (.ok .fz (.ins "Counts" [])) as) := x_meth m_Counts_shown rfl
theorem m_Truth_nought : CI.meth TT.cl "Truth" "nought" = some (("Truth.nought" : Str), 1) := rfl
theorem mm_Truth_nought {Φ : Str → List D → Res} {as : ResL} {fs : List (Str × D)} (hl : fs.lookup ("nought" : Str) = none) : methR TT.cl Φ "nought" (.ok .fz (.ins "Truth" fs)) as = callF 1 (Φ "Truth.nought") (consL (.ok .fz (.ins "Truth" fs)) as) := x_meth m_Truth_nought hl
theorem mz_Truth_nought {Φ : Str → List D → Res} {as : ResL} : methR TT.cl Φ "nought" (.ok .fz (.ins "Truth" [])) as = callF 1 (Φ "Truth.nought") (consL (.ok .fz (.ins "Truth" [])) as) := x_meth m_Truth_nought rfl
theorem m_Truth_one : CI.meth TT.cl "Truth" "one" = some (("Truth.one" : Str), 1) := rfl
theorem mm_Truth_one {Φ : Str → List D → Res} {as : ResL} {fs : List (Str × D)} (hl : fs.lookup ("one" : Str) = none) : methR TT.cl Φ "one" (.ok .fz (.ins "Truth" fs)) as = callF 1 (Φ "Truth.one") (consL (.ok .fz (.ins "Truth" fs)) as) := x_meth m_Truth_one hl
theorem mz_Truth_one {Φ : Str → List D → Res} {as : ResL} : methR TT.cl Φ "one" (.ok .fz (.ins "Truth" [])) as = callF 1 (Φ "Truth.one") (consL (.ok .fz (.ins "Truth" [])) as) := x_meth m_Truth_one rfl
theorem m_Truth_plus : CI.meth TT.cl "Truth" "plus" = some (("Truth.plus" : Str), 3) := rfl
theorem mm_Truth_plus {Φ : Str → List D → Res} {as : ResL} {fs : List (Str × D)} (hl : fs.lookup ("plus" : Str) = none) : methR TT.cl Φ "plus" (.ok .fz (.ins "Truth" fs)) as = callF 3 (Φ "Truth.plus") (consL (.ok .fz (.ins "Truth" fs)) as) := x_meth m_Truth_plus hl
theorem mz_Truth_plus {Φ : Str → List D → Res} {as : ResL} : methR TT.cl Φ "plus" (.ok .fz (.ins "Truth" [])) as = callF 3 (Φ "Truth.plus") (consL (.ok .fz (.ins "Truth" [])) as) := x_meth m_Truth_plus rfl
theorem m_Truth_times : CI.meth TT.cl "Truth" "times" = some (("Truth.times" : Str), 3) := rfl
theorem mm_Truth_times {Φ : Str → List D → Res} {as : ResL} {fs : List (Str × D)} (hl : fs.lookup ("times" : Str) = none) : methR TT.cl Φ "times" (.ok .fz (.ins "Truth" fs)) as = callF 3 (Φ "Truth.times") (consL (.ok .fz (.ins "Truth" fs)) as) := x_meth m_Truth_times hl
theorem mz_Truth_times {Φ : Str → List D → Res} {as : ResL} : methR TT.cl Φ "times" (.ok .fz (.ins "Truth" [])) as = callF 3 (Φ "Truth.times") (consL (.ok .fz (.ins "Truth" [])) as) := x_meth m_Truth_times rfl
theorem m_Truth_holds : CI.meth TT.cl "Truth" "holds" = some (("Truth.holds" : Str), 2) := rfl
theorem mm_Truth_holds {Φ : Str → List D → Res} {as : ResL} {fs : List (Str × D)} (hl : fs.lookup ("holds" : Str) = none) : methR TT.cl Φ "holds" (.ok .fz (.ins "Truth" fs)) as = callF 2 (Φ "Truth.holds") (consL (.ok .fz (.ins "Truth" fs)) as) := x_meth m_Truth_holds hl
theorem mz_Truth_holds {Φ : Str → List D → Res} {as : ResL} : methR TT.cl Φ "holds" (.ok .fz (.ins "Truth" [])) as = callF 2 (Φ "Truth.holds") (consL (.ok .fz (.ins "Truth" [])) as) := x_meth m_Truth_holds rfl
theorem m_Truth_shown : CI.meth TT.cl "Truth" "shown" = some (("Truth.shown" : Str), 2) := rfl
theorem mm_Truth_shown {Φ : Str → List D → Res} {as : ResL} {fs : List (Str × D)} (hl : fs.lookup ("shown" : Str) = none) : methR TT.cl Φ "shown" (.ok .fz (.ins "Truth" fs)) as = callF 2 (Φ "Truth.shown") (consL (.ok .fz (.ins "Truth" fs)) as) := x_meth m_Truth_shown hl
theorem mz_Truth_shown {Φ : Str → List D → Res} {as : ResL} : methR TT.cl Φ "shown" (.ok .fz (.ins "Truth" [])) as = callF 2 (Φ "Truth.shown") (consL (.ok .fz (.ins "Truth" [])) as) := x_meth m_Truth_shown rfl
theorem m_Costs_nought : CI.meth TT.cl "Costs" "nought" = some (("Costs.nought" : Str), 1) := rfl
theorem mm_Costs_nought {Φ : Str → List D → Res} {as : ResL} {fs : List (Str × D)} (hl : fs.lookup ("nought" : Str) = none) : methR TT.cl Φ "nought" (.ok .fz (.ins "Costs" fs)) as = callF 1 (Φ "Costs.nought") (consL (.ok .fz (.ins "Costs" fs)) as) := x_meth m_Costs_nought hl
theorem mz_Costs_nought {Φ : Str → List D → Res} {as : ResL} : methR TT.cl Φ "nought" (.ok .fz (.ins "Costs" [])) as = callF 1 (Φ "Costs.nought") (consL (.ok .fz (.ins "Costs" [])) as) := x_meth m_Costs_nought rfl
theorem m_Costs_one : CI.meth TT.cl "Costs" "one" = some (("Costs.one" : Str), 1) := rfl
theorem mm_Costs_one {Φ : Str → List D → Res} {as : ResL} {fs : List (Str × D)} (hl : fs.lookup ("one" : Str) = none) : methR TT.cl Φ "one" (.ok .fz (.ins "Costs" fs)) as = callF 1 (Φ "Costs.one") (consL (.ok .fz (.ins "Costs" fs)) as) := x_meth m_Costs_one hl
theorem mz_Costs_one {Φ : Str → List D → Res} {as : ResL} : methR TT.cl Φ "one" (.ok .fz (.ins "Costs" [])) as = callF 1 (Φ "Costs.one") (consL (.ok .fz (.ins "Costs" [])) as) := x_meth m_Costs_one rfl
theorem m_Costs_plus : CI.meth TT.cl "Costs" "plus" = some (("Costs.plus" : Str), 3) := rfl
theorem mm_Costs_plus {Φ : Str → List D → Res} {as : ResL} {fs : List (Str × D)} (hl : fs.lookup ("plus" : Str) = none) : methR TT.cl Φ "plus" (.ok .fz (.ins "Costs" fs)) as = callF 3 (Φ "Costs.plus") (consL (.ok .fz (.ins "Costs" fs)) as) := x_meth m_Costs_plus hl
theorem mz_Costs_plus {Φ : Str → List D → Res} {as : ResL} : methR TT.cl Φ "plus" (.ok .fz (.ins "Costs" [])) as = callF 3 (Φ "Costs.plus") (consL (.ok .fz (.ins "Costs" [])) as) := x_meth m_Costs_plus rfl
theorem m_Costs_times : CI.meth TT.cl "Costs" "times" = some (("Costs.times" : Str), 3) := rfl
theorem mm_Costs_times {Φ : Str → List D → Res} {as : ResL} {fs : List (Str × D)} (hl : fs.lookup ("times" : Str) = none) : methR TT.cl Φ "times" (.ok .fz (.ins "Costs" fs)) as = callF 3 (Φ "Costs.times") (consL (.ok .fz (.ins "Costs" fs)) as) := x_meth m_Costs_times hl
theorem mz_Costs_times {Φ : Str → List D → Res} {as : ResL} : methR TT.cl Φ "times" (.ok .fz (.ins "Costs" [])) as = callF 3 (Φ "Costs.times") (consL (.ok .fz (.ins "Costs" [])) as) := x_meth m_Costs_times rfl
theorem m_Costs_holds : CI.meth TT.cl "Costs" "holds" = some (("Costs.holds" : Str), 2) := rfl
theorem mm_Costs_holds {Φ : Str → List D → Res} {as : ResL} {fs : List (Str × D)} (hl : fs.lookup ("holds" : Str) = none) : methR TT.cl Φ "holds" (.ok .fz (.ins "Costs" fs)) as = callF 2 (Φ "Costs.holds") (consL (.ok .fz (.ins "Costs" fs)) as) := x_meth m_Costs_holds hl
theorem mz_Costs_holds {Φ : Str → List D → Res} {as : ResL} : methR TT.cl Φ "holds" (.ok .fz (.ins "Costs" [])) as = callF 2 (Φ "Costs.holds") (consL (.ok .fz (.ins "Costs" [])) as) := x_meth m_Costs_holds rfl
theorem m_Costs_shown : CI.meth TT.cl "Costs" "shown" = some (("Costs.shown" : Str), 2) := rfl
theorem mm_Costs_shown {Φ : Str → List D → Res} {as : ResL} {fs : List (Str × D)} (hl : fs.lookup ("shown" : Str) = none) : methR TT.cl Φ "shown" (.ok .fz (.ins "Costs" fs)) as = callF 2 (Φ "Costs.shown") (consL (.ok .fz (.ins "Costs" fs)) as) := x_meth m_Costs_shown hl
theorem mz_Costs_shown {Φ : Str → List D → Res} {as : ResL} : methR TT.cl Φ "shown" (.ok .fz (.ins "Costs" [])) as = callF 2 (Φ "Costs.shown") (consL (.ok .fz (.ins "Costs" [])) as) := x_meth m_Costs_shown rfl
theorem m_Wheel_nought : CI.meth TT.cl "Wheel" "nought" = some (("Wheel.nought" : Str), 1) := rfl
theorem mm_Wheel_nought {Φ : Str → List D → Res} {as : ResL} {fs : List (Str × D)} (hl : fs.lookup ("nought" : Str) = none) : methR TT.cl Φ "nought" (.ok .fz (.ins "Wheel" fs)) as = callF 1 (Φ "Wheel.nought") (consL (.ok .fz (.ins "Wheel" fs)) as) := x_meth m_Wheel_nought hl
theorem mz_Wheel_nought {Φ : Str → List D → Res} {as : ResL} : methR TT.cl Φ "nought" (.ok .fz (.ins "Wheel" [])) as = callF 1 (Φ "Wheel.nought") (consL (.ok .fz (.ins "Wheel" [])) as) := x_meth m_Wheel_nought rfl
theorem m_Wheel_one : CI.meth TT.cl "Wheel" "one" = some (("Wheel.one" : Str), 1) := rfl
theorem mm_Wheel_one {Φ : Str → List D → Res} {as : ResL} {fs : List (Str × D)} (hl : fs.lookup ("one" : Str) = none) : methR TT.cl Φ "one" (.ok .fz (.ins "Wheel" fs)) as = callF 1 (Φ "Wheel.one") (consL (.ok .fz (.ins "Wheel" fs)) as) := x_meth m_Wheel_one hl
theorem mz_Wheel_one {Φ : Str → List D → Res} {as : ResL} : methR TT.cl Φ "one" (.ok .fz (.ins "Wheel" [])) as = callF 1 (Φ "Wheel.one") (consL (.ok .fz (.ins "Wheel" [])) as) := x_meth m_Wheel_one rfl
theorem m_Wheel_plus : CI.meth TT.cl "Wheel" "plus" = some (("Wheel.plus" : Str), 3) := rfl
theorem mm_Wheel_plus {Φ : Str → List D → Res} {as : ResL} {fs : List (Str × D)} (hl : fs.lookup ("plus" : Str) = none) : methR TT.cl Φ "plus" (.ok .fz (.ins "Wheel" fs)) as = callF 3 (Φ "Wheel.plus") (consL (.ok .fz (.ins "Wheel" fs)) as) := x_meth m_Wheel_plus hl
theorem mz_Wheel_plus {Φ : Str → List D → Res} {as : ResL} : methR TT.cl Φ "plus" (.ok .fz (.ins "Wheel" [])) as = callF 3 (Φ "Wheel.plus") (consL (.ok .fz (.ins "Wheel" [])) as) := x_meth m_Wheel_plus rfl
theorem m_Wheel_times : CI.meth TT.cl "Wheel" "times" = some (("Wheel.times" : Str), 3) := rfl
theorem mm_Wheel_times {Φ : Str → List D → Res} {as : ResL} {fs : List (Str × D)} (hl : fs.lookup ("times" : Str) = none) : methR TT.cl Φ "times" (.ok .fz (.ins "Wheel" fs)) as = callF 3 (Φ "Wheel.times") (consL (.ok .fz (.ins "Wheel" fs)) as) := x_meth m_Wheel_times hl
theorem mz_Wheel_times {Φ : Str → List D → Res} {as : ResL} : methR TT.cl Φ "times" (.ok .fz (.ins "Wheel" [])) as = callF 3 (Φ "Wheel.times") (consL (.ok .fz (.ins "Wheel" [])) as) := x_meth m_Wheel_times rfl
theorem m_Wheel_holds : CI.meth TT.cl "Wheel" "holds" = some (("Wheel.holds" : Str), 2) := rfl
theorem mm_Wheel_holds {Φ : Str → List D → Res} {as : ResL} {fs : List (Str × D)} (hl : fs.lookup ("holds" : Str) = none) : methR TT.cl Φ "holds" (.ok .fz (.ins "Wheel" fs)) as = callF 2 (Φ "Wheel.holds") (consL (.ok .fz (.ins "Wheel" fs)) as) := x_meth m_Wheel_holds hl
theorem mz_Wheel_holds {Φ : Str → List D → Res} {as : ResL} : methR TT.cl Φ "holds" (.ok .fz (.ins "Wheel" [])) as = callF 2 (Φ "Wheel.holds") (consL (.ok .fz (.ins "Wheel" [])) as) := x_meth m_Wheel_holds rfl
theorem m_Wheel_shown : CI.meth TT.cl "Wheel" "shown" = some (("Wheel.shown" : Str), 2) := rfl
theorem mm_Wheel_shown {Φ : Str → List D → Res} {as : ResL} {fs : List (Str × D)} (hl : fs.lookup ("shown" : Str) = none) : methR TT.cl Φ "shown" (.ok .fz (.ins "Wheel" fs)) as = callF 2 (Φ "Wheel.shown") (consL (.ok .fz (.ins "Wheel" fs)) as) := x_meth m_Wheel_shown hl
theorem mz_Wheel_shown {Φ : Str → List D → Res} {as : ResL} : methR TT.cl Φ "shown" (.ok .fz (.ins "Wheel" [])) as = callF 2 (Φ "Wheel.shown") (consL (.ok .fz (.ins "Wheel" [])) as) := x_meth m_Wheel_shown rfl
theorem m_Pair_nought : CI.meth TT.cl "Pair" "nought" = some (("Pair.nought" : Str), 1) := rfl
theorem mm_Pair_nought {Φ : Str → List D → Res} {as : ResL} {fs : List (Str × D)} (hl : fs.lookup ("nought" : Str) = none) : methR TT.cl Φ "nought" (.ok .fz (.ins "Pair" fs)) as = callF 1 (Φ "Pair.nought") (consL (.ok .fz (.ins "Pair" fs)) as) := x_meth m_Pair_nought hl
theorem mz_Pair_nought {Φ : Str → List D → Res} {as : ResL} : methR TT.cl Φ "nought" (.ok .fz (.ins "Pair" [])) as = callF 1 (Φ "Pair.nought") (consL (.ok .fz (.ins "Pair" [])) as) := x_meth m_Pair_nought rfl
theorem m_Pair_one : CI.meth TT.cl "Pair" "one" = some (("Pair.one" : Str), 1) := rfl
theorem mm_Pair_one {Φ : Str → List D → Res} {as : ResL} {fs : List (Str × D)} (hl : fs.lookup ("one" : Str) = none) : methR TT.cl Φ "one" (.ok .fz (.ins "Pair" fs)) as = callF 1 (Φ "Pair.one") (consL (.ok .fz (.ins "Pair" fs)) as) := x_meth m_Pair_one hl
theorem mz_Pair_one {Φ : Str → List D → Res} {as : ResL} : methR TT.cl Φ "one" (.ok .fz (.ins "Pair" [])) as = callF 1 (Φ "Pair.one") (consL (.ok .fz (.ins "Pair" [])) as) := x_meth m_Pair_one rfl
theorem m_Pair_plus : CI.meth TT.cl "Pair" "plus" = some (("Pair.plus" : Str), 3) := rfl
theorem mm_Pair_plus {Φ : Str → List D → Res} {as : ResL} {fs : List (Str × D)} (hl : fs.lookup ("plus" : Str) = none) : methR TT.cl Φ "plus" (.ok .fz (.ins "Pair" fs)) as = callF 3 (Φ "Pair.plus") (consL (.ok .fz (.ins "Pair" fs)) as) := x_meth m_Pair_plus hl
theorem mz_Pair_plus {Φ : Str → List D → Res} {as : ResL} : methR TT.cl Φ "plus" (.ok .fz (.ins "Pair" [])) as = callF 3 (Φ "Pair.plus") (consL (.ok .fz (.ins "Pair" [])) as) := x_meth m_Pair_plus rfl
theorem m_Pair_times : CI.meth TT.cl "Pair" "times" = some (("Pair.times" : Str), 3) := rfl
theorem mm_Pair_times {Φ : Str → List D → Res} {as : ResL} {fs : List (Str × D)} (hl : fs.lookup ("times" : Str) = none) : methR TT.cl Φ "times" (.ok .fz (.ins "Pair" fs)) as = callF 3 (Φ "Pair.times") (consL (.ok .fz (.ins "Pair" fs)) as) := x_meth m_Pair_times hl
theorem mz_Pair_times {Φ : Str → List D → Res} {as : ResL} : methR TT.cl Φ "times" (.ok .fz (.ins "Pair" [])) as = callF 3 (Φ "Pair.times") (consL (.ok .fz (.ins "Pair" [])) as) := x_meth m_Pair_times rfl
theorem m_Pair_holds : CI.meth TT.cl "Pair" "holds" = some (("Pair.holds" : Str), 2) := rfl
theorem mm_Pair_holds {Φ : Str → List D → Res} {as : ResL} {fs : List (Str × D)} (hl : fs.lookup ("holds" : Str) = none) : methR TT.cl Φ "holds" (.ok .fz (.ins "Pair" fs)) as = callF 2 (Φ "Pair.holds") (consL (.ok .fz (.ins "Pair" fs)) as) := x_meth m_Pair_holds hl
theorem mz_Pair_holds {Φ : Str → List D → Res} {as : ResL} : methR TT.cl Φ "holds" (.ok .fz (.ins "Pair" [])) as = callF 2 (Φ "Pair.holds") (consL (.ok .fz (.ins "Pair" [])) as) := x_meth m_Pair_holds rfl
theorem m_Pair_shown : CI.meth TT.cl "Pair" "shown" = some (("Pair.shown" : Str), 2) := rfl
theorem mm_Pair_shown {Φ : Str → List D → Res} {as : ResL} {fs : List (Str × D)} (hl : fs.lookup ("shown" : Str) = none) : methR TT.cl Φ "shown" (.ok .fz (.ins "Pair" fs)) as = callF 2 (Φ "Pair.shown") (consL (.ok .fz (.ins "Pair" fs)) as) := x_meth m_Pair_shown hl
theorem mz_Pair_shown {Φ : Str → List D → Res} {as : ResL} : methR TT.cl Φ "shown" (.ok .fz (.ins "Pair" [])) as = callF 2 (Φ "Pair.shown") (consL (.ok .fz (.ins "Pair" [])) as) := x_meth m_Pair_shown rfl
theorem is_Kind_Kind {m : Md} {fs : List (Str × D)} : isoR TT.cl "Kind" (.ok m (.ins "Kind" fs)) = .ok .fz (.bl true) := rfl
theorem is_Single_Kind {m : Md} {fs : List (Str × D)} : isoR TT.cl "Kind" (.ok m (.ins "Single" fs)) = .ok .fz (.bl true) := rfl
theorem is_Counts_Kind {m : Md} {fs : List (Str × D)} : isoR TT.cl "Kind" (.ok m (.ins "Counts" fs)) = .ok .fz (.bl true) := rfl
theorem is_Truth_Kind {m : Md} {fs : List (Str × D)} : isoR TT.cl "Kind" (.ok m (.ins "Truth" fs)) = .ok .fz (.bl true) := rfl
theorem is_Costs_Kind {m : Md} {fs : List (Str × D)} : isoR TT.cl "Kind" (.ok m (.ins "Costs" fs)) = .ok .fz (.bl true) := rfl
theorem is_Wheel_Kind {m : Md} {fs : List (Str × D)} : isoR TT.cl "Kind" (.ok m (.ins "Wheel" fs)) = .ok .fz (.bl true) := rfl
theorem is_Pair_Kind {m : Md} {fs : List (Str × D)} : isoR TT.cl "Kind" (.ok m (.ins "Pair" fs)) = .ok .fz (.bl true) := rfl
theorem is_Kind_Single {m : Md} {fs : List (Str × D)} : isoR TT.cl "Single" (.ok m (.ins "Kind" fs)) = .ok .fz (.bl false) := rfl
theorem is_Single_Single {m : Md} {fs : List (Str × D)} : isoR TT.cl "Single" (.ok m (.ins "Single" fs)) = .ok .fz (.bl true) := rfl
theorem is_Counts_Single {m : Md} {fs : List (Str × D)} : isoR TT.cl "Single" (.ok m (.ins "Counts" fs)) = .ok .fz (.bl false) := rfl
theorem is_Truth_Single {m : Md} {fs : List (Str × D)} : isoR TT.cl "Single" (.ok m (.ins "Truth" fs)) = .ok .fz (.bl true) := rfl
theorem is_Costs_Single {m : Md} {fs : List (Str × D)} : isoR TT.cl "Single" (.ok m (.ins "Costs" fs)) = .ok .fz (.bl true) := rfl
theorem is_Wheel_Single {m : Md} {fs : List (Str × D)} : isoR TT.cl "Single" (.ok m (.ins "Wheel" fs)) = .ok .fz (.bl false) := rfl
theorem is_Pair_Single {m : Md} {fs : List (Str × D)} : isoR TT.cl "Single" (.ok m (.ins "Pair" fs)) = .ok .fz (.bl false) := rfl
theorem ui_Wheel___init__ (k : Nat) : (WT TT (k + 2)).I "Wheel.__init__" = some (phiI (WT TT k) i_Wheel___init__) := rfl
theorem ui_Pair___init__ (k : Nat) : (WT TT (k + 2)).I "Pair.__init__" = some (phiI (WT TT k) i_Pair___init__) := rfl
end K09

namespace K09
open PySem L2 D3
def ten60 : Int := 1000000000000000000000000000000000000000000000000000000000000
theorem pow60 : op2 (fBin .Pow) (.ok .fz (.int 10)) (.ok .fz (.int 60)) = .ok .fz (.int ten60) := by rfl
theorem z60 : (0 : Int) < ten60 := by decide
def mx (c p : Int) : Int := ((c % ten60 + 1) * (48271 + 130 * p) % 2147483647) * ((c % ten60 + 1) * (48271 + 130 * p) % 2147483647) % 2147483629
theorem mx0 (c p : Int) : 0 ≤ mx c p := Int.emod_nonneg _ (by decide)
theorem mix (k : Nat) {c p : Int} (h0 : 0 ≤ p) (h1 : p ≤ 200) : (WT TT (k + 1)).Φ "_law_mix" [.int c, .int p] = .ok .fz (.int (mx c p)) := by
  have hm := Int.emod_nonneg c (show ten60 ≠ 0 by decide)
  have hM := Int.emod_lt_of_pos c (show 0 < ten60 by decide)
  have b1 : bits (c % ten60 + 1) = true := bits_le (N := 1000000000000000000000000000000000000000000000000000000000001) (by unfold ten60 at *; omega)
  have b2 : bits (48271 + 130 * p) = true := bits_le (N := 1000000) (by omega)
  have b3 : bits p = true := bits_le (N := 200) (by omega)
  have b4 : bits 130 = true := by decide +kernel
  have f0 := Int.emod_nonneg ((c % ten60 + 1) * (48271 + 130 * p)) (show (2147483647 : Int) ≠ 0 by decide)
  have f1 := Int.emod_lt_of_pos ((c % ten60 + 1) * (48271 + 130 * p)) (show (0 : Int) < 2147483647 by decide)
  have b5 : bits ((c % ten60 + 1) * (48271 + 130 * p) % 2147483647) = true := bits_le (N := 2147483647) (by omega)
  rw [u__law_mix]
  refine phi_ok rfl ?_
  show evB _ b__law_mix [some (false, .int c), some (false, .int p), none] = _
  simp [b__law_mix, pow60, x_mul, b1, b2, b3, b4, b5, z60, mx]
theorem Mx (k : Nat) {c p : Int} (h0 : 0 ≤ p) (h1 : p ≤ 200) : callF 2 ((WT TT (k + 1)).Φ "_law_mix") (.ok [(.fz, .int c), (.fz, .int p)]) = .ok .fz (.int (mx c p)) := call2 (mix k h0 h1)
theorem ix_l {ds : List D} {m m' : Md} {i : Int} {d : D} (h : atI ds i = some d) : op2 ixD (.ok m (.lst ds)) (.ok m' (.int i)) = .ok .fz d := op2_of (by show (atI ds i).map _ = _; rw [h]; rfl)
theorem ix_t {ds : List D} {m m' : Md} {i : Int} {d : D} (h : atI ds i = some d) : op2 ixD (.ok m (.tup ds)) (.ok m' (.int i)) = .ok .fz d := op2_of (by show (atI ds i).map _ = _; rw [h]; rfl)
theorem atI_mod {α : Type} (xs : List α) (v : Int) (n : Int) (hn : n = xs.length) (h : 0 < n) : ∃ c, c ∈ xs ∧ atI xs (v % n) = some c := by
  have h0 := Int.emod_nonneg v (show n ≠ 0 by omega)
  have h1 := Int.emod_lt_of_pos v h
  obtain ⟨j, hj⟩ := Int.eq_ofNat_of_zero_le h0
  have hl : j < xs.length := by omega
  exact ⟨xs[j], List.getElem_mem hl, by rw [hj]; exact atI_nat (List.getElem?_eq_getElem hl)⟩
theorem mem_range {d : D} {n : Nat} (h : d ∈ rangeD 0 n) : ∃ i : Nat, i < n ∧ d = .int i := by
  simp only [rangeD, List.mem_map, List.mem_range] at h
  obtain ⟨i, hi, rfl⟩ := h
  exact ⟨i, by simpa using hi, by simp⟩
theorem rng_len {n : Nat} (h : n ≤ 63) : rng1R (.ok [(.fz, .int n)]) = .ok .fz (.lst (rangeD 0 n)) := by
  unfold rng1R
  rw [ResL.thn_ok]
  dsimp only
  rw [if_pos]
  simp only [Bool.and_eq_true, decide_eq_true_eq]
  omega
theorem script_at {ns : List Int} {i : Nat} (h : i < ns.length) {m m' : Md} : ∃ c, op2 ixD (.ok m (.lst (ns.map .int))) (.ok m' (.int i)) = .ok .fz (.int c) := by
  refine ⟨ns[i], ix_l ?_⟩
  exact atI_nat (by rw [List.getElem?_map, List.getElem?_eq_getElem h]; rfl)
theorem script_mod {ns : List Int} {i : Int} (h : 0 < ns.length) {m m' : Md} : ∃ c, op2 ixD (.ok m (.lst (ns.map .int))) (.ok m' (.int (i % ns.length))) = .ok .fz (.int c) := by
  obtain ⟨d, hd, e⟩ := atI_mod (ns.map D.int) i ns.length (by simp) (by omega)
  obtain ⟨c, _, rfl⟩ := List.mem_map.mp hd
  exact ⟨c, ix_l e⟩

def ten59 : Int := 100000000000000000000000000000000000000000000000000000000000
theorem pow59 : op2 (fBin .Pow) (.ok .fz (.int 10)) (.ok .fz (.int 59)) = .ok .fz (.int ten59) := by rfl
theorem z59 : (0 : Int) < ten59 := by decide
theorem mx1 (c p : Int) : mx c p < 2147483629 := Int.emod_lt_of_pos _ (by decide)
theorem bls_true : ∀ (ds : List D), blsD (ds.map fun _ => D.bl true) = some (ds.map fun _ => true)
  | [] => rfl
  | d :: ds => by
    show blsD (.bl true :: ds.map fun _ => .bl true) = _
    simp only [blsD, bls_true ds]; rfl
/-- plain data: what _law_same compares -/
inductive Pl : Nat → D → Prop where
  | non {n} : Pl n .non
  | bl {n} (b : Bool) : Pl n (.bl b)
  | int {n} (i : Int) : Pl n (.int i)
  | str {n} (s : Str) : Pl n (.str s)
  | two {n} {x y : D} (hx : Pl n x) (hy : Pl n y) : Pl (n + 1) (.tup [x, y])
theorem same : ∀ {n : Nat} {d : D}, Pl n d → ∀ {m : Nat}, n < m → (WT TT m).Φ "_law_same" [d, d] = .ok .fz (.bl true)
  | n, _, .non, m + 1, _ => by
    rw [u__law_same]
    refine phi_ok rfl ?_
    show evB _ b__law_same [some (false, .non), some (false, .non)] = _
    have i1 : isiD [(.fz, .non), (.fz, .ty "tuple")] = some (.fz, .bl false) := rfl
    simp [b__law_same, i1, Ty.id]
  | n, _, .bl b, m + 1, _ => by
    rw [u__law_same]
    refine phi_ok rfl ?_
    show evB _ b__law_same [some (false, .bl b), some (false, .bl b)] = _
    have i1 : isiD [(.fz, .bl b), (.fz, .ty "tuple")] = some (.fz, .bl false) := rfl
    have i2 : isiD [(.fz, .bl b), (.fz, .ty "bool")] = some (.fz, .bl true) := rfl
    simp [b__law_same, i1, i2, Ty.id]
  | n, _, .int b, m + 1, _ => by
    rw [u__law_same]
    refine phi_ok rfl ?_
    show evB _ b__law_same [some (false, .int b), some (false, .int b)] = _
    have i1 : isiD [(.fz, .int b), (.fz, .ty "tuple")] = some (.fz, .bl false) := rfl
    have i2 : isiD [(.fz, .int b), (.fz, .ty "bool")] = some (.fz, .bl false) := rfl
    have i3 : isiD [(.fz, .int b), (.fz, .ty "int")] = some (.fz, .bl true) := rfl
    simp [b__law_same, i1, i2, i3, Ty.id]
  | n, _, .str b, m + 1, _ => by
    rw [u__law_same]
    refine phi_ok rfl ?_
    show evB _ b__law_same [some (false, .str b), some (false, .str b)] = _
    have i1 : isiD [(.fz, .str b), (.fz, .ty "tuple")] = some (.fz, .bl false) := rfl
    have i2 : isiD [(.fz, .str b), (.fz, .ty "bool")] = some (.fz, .bl false) := rfl
    have i3 : isiD [(.fz, .str b), (.fz, .ty "int")] = some (.fz, .bl false) := rfl
    have i4 : isiD [(.fz, .str b), (.fz, .ty "str")] = some (.fz, .bl true) := rfl
    simp [b__law_same, i1, i2, i3, i4, Ty.id]
  | n + 1, _, .two (x := x) (y := y) hx hy, m + 1, h => by
    have sx := call2 (same hx (m := m) (by omega))
    have sy := call2 (same hy (m := m) (by omega))
    rw [u__law_same]
    refine phi_ok rfl ?_
    show evB _ b__law_same [some (false, .tup [x, y]), some (false, .tup [x, y])] = _
    have i1 : isiD [(.fz, .tup [x, y]), (.fz, .ty "tuple")] = some (.fz, .bl true) := rfl
    have ez : zipR (.ok [(.fz, .tup [x, y]), (.fz, .tup [x, y])]) = .ok .fz (.lst [.tup [x, x], .tup [y, y]]) := rfl
    have ec : compR (.ok .fz (.lst [.tup [x, x], .tup [y, y]])) [some (false, .tup [x, y]), some (false, .tup [x, y])] [] 2 (setG (.tp [.nm 0, .nm 1])) (fun ρ => evF (WT TT m) [] ρ) (fun ρ => evE (WT TT m) (.call "_law_same" 2 [(.var 0), (.var 1)]) ρ) = .ok .fr (.lst [.bl true, .bl true]) := by
      refine compR_map (ds := [.tup [x, x], .tup [y, y]]) (fun _ => .bl true) (show 2 < sizeLine by decide) fun z hz => ?_
      simp only [List.mem_cons, List.not_mem_nil, or_false] at hz
      rcases hz with rfl | rfl
      · exact ⟨[some (false, x), some (false, x)], .fz, rfl, by simp, .fz, by simp [sx]⟩
      · exact ⟨[some (false, y), some (false, y)], .fz, rfl, by simp, .fz, by simp [sy]⟩
    have ea : allD [(.fr, .lst [.bl true, .bl true])] = some (.fz, .bl true) := rfl
    have el : lenD [(.fz, .tup [x, y])] = some (.fz, .int 2) := rfl
    unfold b__law_same
    generalize D.tup [x, y] = A at *
    simp [Ty.id] at ec
    simp [Ty.id, i1, el, ez, ec, ea]
end K09

namespace K09
open PySem L2 D3
inductive Kd where | counts (n : Int) | truth (n : Int) | costs (n : Int) | wheel (n : Int) | pair (a b : Kd)
def sp : Kd → D
  | .counts n => .tup [.str "counts", .int n]
  | .truth n => .tup [.str "truth", .int n]
  | .costs n => .tup [.str "costs", .int n]
  | .wheel n => .tup [.str "wheel", .int n]
  | .pair a b => .tup [.str "pair", sp a, sp b]
def ob : Kd → D
  | .counts _ => .ins "Counts" []
  | .truth _ => .ins "Truth" []
  | .costs _ => .ins "Costs" []
  | .wheel n => .ins "Wheel" [("size", .int n)]
  | .pair a b => .ins "Pair" [("first", ob a), ("second", ob b)]
def dep : Kd → Nat
  | .pair a b => dep a + dep b + 1
  | _ => 0
def good : Kd → Prop
  | .wheel n => 2 ≤ n ∧ n ≤ 100
  | .pair a b => good a ∧ good b
  | _ => True
def Nt : Kd → D → Prop
  | .counts _, d => ∃ i : Int, d = .int i ∧ 0 ≤ i ∧ i < 10 ^ 61
  | .truth _, d => ∃ b : Bool, d = .bl b
  | .costs _, d => d = .non ∨ ∃ i : Int, d = .int i ∧ i.natAbs < 10 ^ 61
  | .wheel n, d => ∃ i : Int, d = .int i ∧ 0 ≤ i ∧ i < n
  | .pair a b, d => ∃ x y, d = .tup [x, y] ∧ Nt a x ∧ Nt b y
@[simp] theorem ne_counts_truth : (Str.ofString "counts" == Str.ofString "truth") = false := by decide
@[simp] theorem ne_counts_costs : (Str.ofString "counts" == Str.ofString "costs") = false := by decide
@[simp] theorem ne_counts_wheel : (Str.ofString "counts" == Str.ofString "wheel") = false := by decide
@[simp] theorem ne_counts_pair : (Str.ofString "counts" == Str.ofString "pair") = false := by decide
@[simp] theorem ne_truth_counts : (Str.ofString "truth" == Str.ofString "counts") = false := by decide
@[simp] theorem ne_truth_costs : (Str.ofString "truth" == Str.ofString "costs") = false := by decide
@[simp] theorem ne_truth_wheel : (Str.ofString "truth" == Str.ofString "wheel") = false := by decide
@[simp] theorem ne_truth_pair : (Str.ofString "truth" == Str.ofString "pair") = false := by decide
@[simp] theorem ne_costs_counts : (Str.ofString "costs" == Str.ofString "counts") = false := by decide
@[simp] theorem ne_costs_truth : (Str.ofString "costs" == Str.ofString "truth") = false := by decide
@[simp] theorem ne_costs_wheel : (Str.ofString "costs" == Str.ofString "wheel") = false := by decide
@[simp] theorem ne_costs_pair : (Str.ofString "costs" == Str.ofString "pair") = false := by decide
@[simp] theorem ne_wheel_counts : (Str.ofString "wheel" == Str.ofString "counts") = false := by decide
@[simp] theorem ne_wheel_truth : (Str.ofString "wheel" == Str.ofString "truth") = false := by decide
@[simp] theorem ne_wheel_costs : (Str.ofString "wheel" == Str.ofString "costs") = false := by decide
@[simp] theorem ne_wheel_pair : (Str.ofString "wheel" == Str.ofString "pair") = false := by decide
@[simp] theorem ne_pair_counts : (Str.ofString "pair" == Str.ofString "counts") = false := by decide
@[simp] theorem ne_pair_truth : (Str.ofString "pair" == Str.ofString "truth") = false := by decide
@[simp] theorem ne_pair_costs : (Str.ofString "pair" == Str.ofString "costs") = false := by decide
@[simp] theorem ne_pair_wheel : (Str.ofString "pair" == Str.ofString "wheel") = false := by decide
theorem callF_fr {n : Nat} {Φ : List D → Res} {xs : List (Md × D)} {ds : List D} {d : D} (hl : ds.length = n) (ha : allFz xs = some ds) (h : Φ ds = .ok .fr d) : callF n Φ (.ok xs) = .ok .fr d := by
  show (match allFz xs with | some ds => if ds.length = n then (match Φ ds with | .ok .bo _ => Res.stuck | r => r) else .stuck | none => .stuck) = _
  rw [ha]
  show (if ds.length = n then _ else _) = _
  rw [if_pos hl, h]
theorem callr1 {Φ : List D → Res} {a d : D} (h : Φ [a] = .ok .fr d) : callF 1 Φ (.ok [(.fz, a)]) = .ok .fr d := callF_fr (ds := [a]) rfl rfl h
theorem phi_fr {n N : Nat} {g : Rho → SRes} {ds : List D} {d : D} (hl : ds.length = n) (h : g (startR N ds) = .rt .fr d) : phi n N g ds = .ok .fr d := phi_ok hl h
theorem ix2_0 {m m' : Md} {x y : D} : op2 ixD (.ok m (.tup [x, y])) (.ok m' (.int 0)) = .ok .fz x := ix_t rfl
theorem ix2_1 {m m' : Md} {x y : D} : op2 ixD (.ok m (.tup [x, y])) (.ok m' (.int 1)) = .ok .fz y := ix_t rfl
theorem ix3_0 {m m' : Md} {x y z : D} : op2 ixD (.ok m (.tup [x, y, z])) (.ok m' (.int 0)) = .ok .fz x := ix_t rfl
theorem ix3_1 {m m' : Md} {x y z : D} : op2 ixD (.ok m (.tup [x, y, z])) (.ok m' (.int 1)) = .ok .fz y := ix_t rfl
theorem ix3_2 {m m' : Md} {x y z : D} : op2 ixD (.ok m (.tup [x, y, z])) (.ok m' (.int 2)) = .ok .fz z := ix_t rfl
theorem tup2 {x y : D} : tupR (.ok [(.fz, x), (.fz, y)]) = .ok .fz (.tup [x, y]) := rfl
theorem whole (k : Nat) {d : D} {a b : Bool} (h1 : isiD [(.fz, d), (.fz, .ty "int")] = some (.fz, .bl a)) (h2 : isiD [(.fz, d), (.fz, .ty "bool")] = some (.fz, .bl b)) : (WT TT (k + 1)).Φ "is_whole" [d] = .ok .fz (.bl (a && !b)) := by
  rw [u_is_whole]
  refine phi_ok rfl ?_
  show evB _ b_is_whole [some (false, d)] = _
  simp [b_is_whole, h1, h2, Ty.id]
theorem wholeI (k : Nat) (i : Int) : (WT TT (k + 1)).Φ "is_whole" [.int i] = .ok .fz (.bl true) := whole k (d := .int i) rfl rfl
/-! ### the kinds made -/
theorem wI (k : Nat) : (WT TT (k + 2)).I "Wheel.__init__" = some (phiI (WT TT k) i_Wheel___init__) := rfl
theorem pI (k : Nat) : (WT TT (k + 2)).I "Pair.__init__" = some (phiI (WT TT k) i_Pair___init__) := rfl
theorem mk_wheel (k : Nat) {s : Int} (h : 2 ≤ s) : makeR 1 (phiI (WT TT (k + 1)) i_Wheel___init__) (.ok [(.fz, .int s)]) = .ok .fr (ob (.wheel s)) := by
  have w := wholeI k s
  have h' : ¬ s < 2 := by omega
  have e : phiI (WT TT (k + 1)) i_Wheel___init__ [.int s] = .ok .fr (ob (.wheel s)) := by
    show (match evIB (WT TT (k + 1)) "Wheel" (.guard (.orL [(.not (.tru (.call "is_whole" 1 [(.var 1)]))), (.cmp .Lt (.var 1) (.int 2))]) [.rz "NoKind" [(.str "the size of a wheel is a whole number from 2 on")]] (.fset "size" (.var 1) .done)) [none, some (false, .int s)] [] with | .ok fs => Res.ok .fr (.ins "Wheel" fs) | .exc c => .exc c | .stuck => .stuck) = _
    simp [evIB, w, h']
    rfl
  show (match phiI (WT TT (k + 1)) i_Wheel___init__ [.int s] with | .ok _ d => Res.ok .fr d | r => r) = _
  rw [e]
theorem mk_pair (k : Nat) (a b : D) : makeR 2 (phiI (WT TT k) i_Pair___init__) (.ok [(.fz, a), (.fz, b)]) = .ok .fr (.ins "Pair" [("first", a), ("second", b)]) := by
  have e : phiI (WT TT k) i_Pair___init__ [a, b] = .ok .fr (.ins "Pair" [("first", a), ("second", b)]) := by
    show (match evIB (WT TT k) "Pair" (.fset "first" (.var 1) (.fset "second" (.var 2) .done)) [none, some (false, a), some (false, b)] [] with | .ok fs => Res.ok .fr (.ins "Pair" fs) | .exc c => .exc c | .stuck => .stuck) = _
    simp [evIB]
    rfl
  show (match phiI (WT TT k) i_Pair___init__ [a, b] with | .ok _ d => Res.ok .fr d | r => r) = _
  rw [e]
theorem kind : ∀ (K : Kd), good K → ∀ {m : Nat}, dep K + 4 ≤ m → (WT TT m).Φ "_law_kind" [sp K] = .ok .fr (ob K)
  | .counts n, _, m + 1, _ => by
    rw [u__law_kind]
    refine phi_ok rfl ?_
    show evB _ b__law_kind [some (false, .tup [.str "counts", .int n])] = _
    simp [b__law_kind, ix2_0, ob]
  | .truth n, _, m + 1, _ => by
    rw [u__law_kind]
    refine phi_ok rfl ?_
    show evB _ b__law_kind [some (false, .tup [.str "truth", .int n])] = _
    simp [b__law_kind, ix2_0, ob]
  | .costs n, _, m + 1, _ => by
    rw [u__law_kind]
    refine phi_ok rfl ?_
    show evB _ b__law_kind [some (false, .tup [.str "costs", .int n])] = _
    simp [b__law_kind, ix2_0, ob]
  | .wheel n, g, m + 4, _ => by
    rw [u__law_kind]
    refine phi_ok rfl ?_
    show evB _ b__law_kind [some (false, .tup [.str "wheel", .int n])] = _
    simp [b__law_kind, ix2_0, ix2_1, e_make (wI (m + 1)), mk_wheel m g.1]
  | .pair a b, g, m + 4, h => by
    have ha := callr1 (kind a g.1 (m := m + 3) (by simp only [dep] at h; omega))
    have hb := callr1 (kind b g.2 (m := m + 3) (by simp only [dep] at h; omega))
    rw [u__law_kind]
    refine phi_ok rfl ?_
    show evB _ b__law_kind [some (false, .tup [.str "pair", sp a, sp b])] = _
    simp [b__law_kind, ix3_0, ix3_1, ix3_2, e_make (pI (m + 1)), ha, hb, mk_pair, ob]
end K09

namespace K09
open PySem L2 D3
theorem flat (k : Nat) (c : Int) {p : Int} (h0 : 0 ≤ p) (h1 : p ≤ 100) : ∃ K, dep K = 0 ∧ good K ∧ (WT TT (k + 2)).Φ "_law_flat" [.int c, .int p] = .ok .fz (sp K) := by
  have M1 := Mx k (c := c) h0 (show p ≤ 200 by omega)
  have M2 := Mx k (c := c) (show 0 ≤ p + 1 by omega) (show p + 1 ≤ 200 by omega)
  have a0 := Int.emod_nonneg (mx c (p + 1)) (show (12 : Int) ≠ 0 by decide)
  have a1 := Int.emod_lt_of_pos (mx c (p + 1)) (show (0 : Int) < 12 by decide)
  have l1 : lstR (.ok [(.fz, .str "counts"), (.fz, .str "truth"), (.fz, .str "costs"), (.fz, .str "wheel")]) = .ok .fr (.lst [.str "counts", .str "truth", .str "costs", .str "wheel"]) := rfl
  obtain ⟨w, hw, ew⟩ := atI_mod [D.str "counts", .str "truth", .str "costs", .str "wheel"] (mx c p) 4 rfl (by decide)
  have xo := ix_l (m := .fr) (m' := .fz) ew
  have key : (WT TT (k + 2)).Φ "_law_flat" [.int c, .int p] = .ok .fz (.tup [w, .int (2 + mx c (p + 1) % 12)]) := by
    rw [u__law_flat]
    refine phi_ok rfl ?_
    show evB _ b__law_flat [some (false, .int c), some (false, .int p), none] = _
    simp [b__law_flat]
    rw [l1]
    simp [M1, M2, xo, tup2]
  rw [key]
  simp only [List.mem_cons, List.not_mem_nil, or_false] at hw
  rcases hw with rfl | rfl | rfl | rfl
  · exact ⟨.counts _, rfl, trivial, rfl⟩
  · exact ⟨.truth _, rfl, trivial, rfl⟩
  · exact ⟨.costs _, rfl, trivial, rfl⟩
  · exact ⟨.wheel _, rfl, ⟨by omega, by omega⟩, rfl⟩
theorem tup3 {x y z : D} : tupR (.ok [(.fz, x), (.fz, y), (.fz, z)]) = .ok .fz (.tup [x, y, z]) := rfl
theorem spec (k : Nat) (c : Int) : ∃ a b, dep (.pair a b) ≤ 2 ∧ good (.pair a b) ∧ (WT TT (k + 3)).Φ "_law_spec" [.int c] = .ok .fz (sp (.pair a b)) := by
  obtain ⟨A, dA, gA, eA⟩ := flat k c (p := 0) (by decide) (by decide)
  obtain ⟨B, dB, gB, eB⟩ := flat k c (p := 2) (by decide) (by decide)
  obtain ⟨C, dC, gC, eC⟩ := flat k c (p := 5) (by decide) (by decide)
  have M := Mx (k + 1) (c := c) (show (0 : Int) ≤ 4 by decide) (show (4 : Int) ≤ 200 by decide)
  have e : ∀ r, evB (WT TT (k + 2)) b__law_spec [some (false, .int c), none, none] = .rt .fz r → (WT TT (k + 3)).Φ "_law_spec" [.int c] = .ok .fz r := fun r h => by
    rw [u__law_spec]; exact phi_ok rfl h
  by_cases h0 : mx c 4 % 4 = 0
  · refine ⟨C, .pair A B, by simp only [dep]; omega, ⟨gC, gA, gB⟩, e _ ?_⟩
    simp [b__law_spec, eA, eB, eC, M, h0, tup3, sp]
  · have h0' : (mx c 4 % 4 == 0) = false := by simpa using h0
    by_cases h1 : mx c 4 % 4 = 1
    · refine ⟨.pair A B, C, by simp only [dep]; omega, ⟨⟨gA, gB⟩, gC⟩, e _ ?_⟩
      simp [b__law_spec, eA, eB, eC, M, h1, tup3, sp]
    · have h1' : (mx c 4 % 4 == 1) = false := by simpa using h1
      refine ⟨A, B, by simp only [dep]; omega, ⟨gA, gB⟩, e _ ?_⟩
      simp [b__law_spec, eA, eB, eC, M, h0', h1', tup3, sp]
/-! ### the notes -/
theorem num (k : Nat) (c : Int) {p : Int} (h0 : 0 ≤ p) (h1 : p ≤ 100) (X : D) : ∃ n : Int, 0 ≤ n ∧ n < 10 ^ 61 ∧ ∀ R, evB (WT TT (k + 1)) ((b__law_note.drop 1).take 2 ++ R) [some (false, X), some (false, .int c), some (false, .int p), none] = evB (WT TT (k + 1)) R [some (false, X), some (false, .int c), some (false, .int p), some (false, .int n)] := by
  have M1 := Mx k (c := c) (show 0 ≤ p + 20 by omega) (show p + 20 ≤ 200 by omega)
  have M2 := Mx k (c := c) (show 0 ≤ p + 30 by omega) (show p + 30 ≤ 200 by omega)
  have M3 := Mx k (c := c) (show 0 ≤ p + 40 by omega) (show p + 40 ≤ 200 by omega)
  have M4 := Mx k (c := c) h0 (show p ≤ 200 by omega)
  have a0 := Int.emod_nonneg (mx c (p + 20)) (show (9 : Int) ≠ 0 by decide)
  have a1 := Int.emod_lt_of_pos (mx c (p + 20)) (show (0 : Int) < 9 by decide)
  have b0 := Int.emod_nonneg (mx c (p + 40)) (show (4 : Int) ≠ 0 by decide)
  have b1 := Int.emod_lt_of_pos (mx c (p + 40)) (show (0 : Int) < 4 by decide)
  have c0 := Int.emod_nonneg c (show ten59 ≠ 0 by decide)
  have c1 := Int.emod_lt_of_pos c z59
  have x1 : bits (c % ten59) = true := bits_le (N := 100000000000000000000000000000000000000000000000000000000000) (by unfold ten59 at *; omega)
  have x2 : bits (1 + mx c (p + 20) % 9) = true := bits_le (N := 100) (by omega)
  have y0 := mx0 c (p + 30)
  have y1 := mx1 c (p + 30)
  by_cases h : mx c p % 2 = 1
  · refine ⟨mx c (p + 40) % 4, b0, by omega, fun R => ?_⟩
    simp [b__law_note, M1, M2, M3, M4, pow59, z59, x_mul x1 x2, h]
  · have h' : (mx c p % 2 == 1) = false := by simpa using h
    refine ⟨c % ten59 * (1 + mx c (p + 20) % 9) + mx c (p + 30), ?_, ?_, fun R => ?_⟩
    · have := Int.mul_nonneg c0 (show 0 ≤ 1 + mx c (p + 20) % 9 by omega); omega
    · have : c % ten59 * (1 + mx c (p + 20) % 9) ≤ ten59 * 9 := Int.mul_le_mul (by omega) (by omega) (by omega) (by decide)
      unfold ten59 at *
      omega
    · simp [b__law_note, M1, M2, M3, M4, pow59, z59, x_mul x1 x2, h']
theorem note : ∀ (K : Kd), good K → ∀ {m : Nat} (c : Int) {p : Int}, dep K + 3 ≤ m → 0 ≤ p → (dep K = 0 ∧ p ≤ 100 ∨ dep K = 1 ∧ p ≤ 30 ∨ dep K = 2 ∧ p ≤ 9) → ∃ d, Nt K d ∧ (WT TT m).Φ "_law_note" [sp K, .int c, .int p] = .ok .fz d
  | .counts n, _, m + 2, c, p, _, h0, h1 => by
    obtain ⟨x, x0, x1, e⟩ := num m c h0 (by simp only [dep] at h1; omega) (sp (.counts n))
    refine ⟨.int x, ⟨x, rfl, x0, x1⟩, ?_⟩
    rw [u__law_note]
    refine phi_ok rfl ?_
    show evB _ (b__law_note.take 1 ++ ((b__law_note.drop 1).take 2 ++ b__law_note.drop 3)) [some (false, sp (.counts n)), some (false, .int c), some (false, .int p), none] = _
    rw [b_app, show evB (WT TT (m + 1)) (b__law_note.take 1) [some (false, sp (.counts n)), some (false, .int c), some (false, .int p), none] = .nx [some (false, sp (.counts n)), some (false, .int c), some (false, .int p), none] by simp [b__law_note, sp, ix2_0], SRes.thn_nx, e]
    simp [b__law_note, sp, ix2_0]
  | .truth n, _, m + 2, c, p, _, h0, h1 => by
    obtain ⟨x, x0, x1, e⟩ := num m c h0 (by simp only [dep] at h1; omega) (sp (.truth n))
    refine ⟨.bl (x % 2 == 1), ⟨_, rfl⟩, ?_⟩
    rw [u__law_note]
    refine phi_ok rfl ?_
    show evB _ (b__law_note.take 1 ++ ((b__law_note.drop 1).take 2 ++ b__law_note.drop 3)) [some (false, sp (.truth n)), some (false, .int c), some (false, .int p), none] = _
    rw [b_app, show evB (WT TT (m + 1)) (b__law_note.take 1) [some (false, sp (.truth n)), some (false, .int c), some (false, .int p), none] = .nx [some (false, sp (.truth n)), some (false, .int c), some (false, .int p), none] by simp [b__law_note, sp, ix2_0], SRes.thn_nx, e]
    simp [b__law_note, sp, ix2_0]
  | .wheel n, g, m + 2, c, p, _, h0, h1 => by
    obtain ⟨x, x0, x1, e⟩ := num m c h0 (by simp only [dep] at h1; omega) (sp (.wheel n))
    have p0 : 0 < n := by have := g.1; omega
    refine ⟨.int (x % n), ⟨_, rfl, Int.emod_nonneg _ (by omega), Int.emod_lt_of_pos _ p0⟩, ?_⟩
    rw [u__law_note]
    refine phi_ok rfl ?_
    show evB _ (b__law_note.take 1 ++ ((b__law_note.drop 1).take 2 ++ b__law_note.drop 3)) [some (false, sp (.wheel n)), some (false, .int c), some (false, .int p), none] = _
    rw [b_app, show evB (WT TT (m + 1)) (b__law_note.take 1) [some (false, sp (.wheel n)), some (false, .int c), some (false, .int p), none] = .nx [some (false, sp (.wheel n)), some (false, .int c), some (false, .int p), none] by simp [b__law_note, sp, ix2_0], SRes.thn_nx, e]
    simp [b__law_note, sp, ix2_0, ix2_1, p0]
  | .costs n, _, m + 2, c, p, _, h0, h1 => by
    have hp : p ≤ 100 := by simp only [dep] at h1; omega
    obtain ⟨x, x0, x1, e⟩ := num m c h0 hp (sp (.costs n))
    have M := Mx m (c := c) (show 0 ≤ p + 80 by omega) (show p + 80 ≤ 200 by omega)
    have l1 : lstR (.ok [(.fz, .int x), (.fz, .int (-x)), (.fz, .non)]) = .ok .fr (.lst [.int x, .int (-x), .non]) := rfl
    obtain ⟨w, hw, ew⟩ := atI_mod [D.int x, .int (-x), .non] (mx c (p + 80)) 3 rfl (by decide)
    have xo := ix_l (m := .fr) (m' := .fz) ew
    refine ⟨w, ?_, ?_⟩
    · simp only [List.mem_cons, List.not_mem_nil, or_false] at hw
      rcases hw with rfl | rfl | rfl
      · exact .inr ⟨x, rfl, by omega⟩
      · exact .inr ⟨-x, rfl, by omega⟩
      · exact .inl rfl
    · rw [u__law_note]
      refine phi_ok rfl ?_
      show evB _ (b__law_note.take 1 ++ ((b__law_note.drop 1).take 2 ++ b__law_note.drop 3)) [some (false, sp (.costs n)), some (false, .int c), some (false, .int p), none] = _
      rw [b_app, show evB (WT TT (m + 1)) (b__law_note.take 1) [some (false, sp (.costs n)), some (false, .int c), some (false, .int p), none] = .nx [some (false, sp (.costs n)), some (false, .int c), some (false, .int p), none] by simp [b__law_note, sp, ix2_0], SRes.thn_nx, e]
      simp [b__law_note, sp, ix2_0]
      rw [l1]
      simp [M, xo]
  | .pair a b, g, m + 1, c, p, h, h0, h1 => by
    simp only [dep] at h h1
    obtain ⟨x, nx, ex⟩ := note a g.1 (m := m) c (p := 3 * p) (by omega) (by omega) (by omega)
    obtain ⟨y, ny, ey⟩ := note b g.2 (m := m) c (p := 3 * p + 1) (by omega) (by omega) (by omega)
    refine ⟨.tup [x, y], ⟨x, y, rfl, nx, ny⟩, ?_⟩
    have x1 : bits 3 = true := by decide +kernel
    have x2 : bits p = true := bits_le (N := 200) (by omega)
    rw [u__law_note]
    refine phi_ok rfl ?_
    show evB _ b__law_note [some (false, .tup [.str "pair", sp a, sp b]), some (false, .int c), some (false, .int p), none] = _
    simp [b__law_note, ix3_0, ix3_1, ix3_2, x_mul x1 x2, ex, ey, tup2]
end K09

namespace K09
open PySem L2 D3
theorem Pl.mono {n : Nat} {d : D} (h : Pl n d) : ∀ {n' : Nat}, n ≤ n' → Pl n' d := by
  induction h with
  | non => intro _ _; exact .non
  | bl b => intro _ _; exact .bl b
  | int b => intro _ _; exact .int b
  | str b => intro _ _; exact .str b
  | two _ _ ih1 ih2 =>
    intro n' hn
    cases n' with
    | zero => omega
    | succ n' => exact .two (ih1 (by omega)) (ih2 (by omega))
theorem ph1 {k : Nat} {key : Str} {b : List D3.S} {x d : D} (u : (WT TT (k + 1)).Φ key = phi 1 1 (evB (WT TT k) b)) (h : evB (WT TT k) b [some (false, x)] = .rt .fz d) : callF 1 ((WT TT (k + 1)).Φ key) (.ok [(.fz, x)]) = .ok .fz d := call1 (by rw [u]; exact phi_ok rfl h)
theorem ph2 {k : Nat} {key : Str} {b : List D3.S} {x y d : D} (u : (WT TT (k + 1)).Φ key = phi 2 2 (evB (WT TT k) b)) (h : evB (WT TT k) b [some (false, x), some (false, y)] = .rt .fz d) : callF 2 ((WT TT (k + 1)).Φ key) (.ok [(.fz, x), (.fz, y)]) = .ok .fz d := call2 (by rw [u]; exact phi_ok rfl h)
theorem ph3 {k : Nat} {key : Str} {b : List D3.S} {x y z d : D} (u : (WT TT (k + 1)).Φ key = phi 3 3 (evB (WT TT k) b)) (h : evB (WT TT k) b [some (false, x), some (false, y), some (false, z)] = .rt .fz d) : callF 3 ((WT TT (k + 1)).Φ key) (.ok [(.fz, x), (.fz, y), (.fz, z)]) = .ok .fz d := call3 (by rw [u]; exact phi_ok rfl h)
noncomputable abbrev mt (m : Nat) (nm : Str) (K : Kd) (as : List (Md × D)) : Res := methR TT.cl (WT TT m).Φ nm (.ok .fz (ob K)) (.ok as)
theorem f1 {m : Md} {a b : D} : fldR TT.cl "first" (.ok m (.ins "Pair" [("first", a), ("second", b)])) = .ok .fz a := by rfl
theorem f2 {m : Md} {a b : D} : fldR TT.cl "second" (.ok m (.ins "Pair" [("first", a), ("second", b)])) = .ok .fz b := by rfl
theorem fS {m : Md} {n : Int} : fldR TT.cl "size" (.ok m (.ins "Wheel" [("size", .int n)])) = .ok .fz (.int n) := by rfl
theorem cL {d : D} {as : List (Md × D)} : consL (.ok .fz d) (.ok as) = .ok ((.fz, d) :: as) := rfl
theorem up {m n : Nat} (h : n < m) : ∃ k, m = k + 1 := ⟨m - 1, by omega⟩
theorem ends : ∀ K : Kd, ∃ x y, Pl (dep K) x ∧ Pl (dep K) y ∧ (∀ m, dep K < m → mt m "nought" K [] = .ok .fz x) ∧ (∀ m, dep K < m → mt m "one" K [] = .ok .fz y) ∧ ∀ m, dep K < m → (WT TT m).Φ "_law_ends" [sp K] = .ok .fz (.tup [x, y])
  | .counts n => ⟨.int 0, .int 1, .int _, .int _, fun m h => by
      obtain ⟨k, rfl⟩ := up h
      exact mz_Counts_nought.trans (ph1 (u_Counts_nought k) (by simp [b_Counts_nought])), fun m h => by
      obtain ⟨k, rfl⟩ := up h
      exact mz_Counts_one.trans (ph1 (u_Counts_one k) (by simp [b_Counts_one])), fun m h => by
      obtain ⟨k, rfl⟩ := up h
      rw [u__law_ends]
      refine phi_ok rfl ?_
      show evB _ b__law_ends [some (false, .tup [.str "counts", .int n]), none, none] = _
      simp [b__law_ends, ix2_0, tup2]⟩
  | .truth n => ⟨.bl false, .bl true, .bl _, .bl _, fun m h => by
      obtain ⟨k, rfl⟩ := up h
      exact mz_Truth_nought.trans (ph1 (u_Truth_nought k) (by simp [b_Truth_nought])), fun m h => by
      obtain ⟨k, rfl⟩ := up h
      exact mz_Truth_one.trans (ph1 (u_Truth_one k) (by simp [b_Truth_one])), fun m h => by
      obtain ⟨k, rfl⟩ := up h
      rw [u__law_ends]
      refine phi_ok rfl ?_
      show evB _ b__law_ends [some (false, .tup [.str "truth", .int n]), none, none] = _
      simp [b__law_ends, ix2_0, tup2]⟩
  | .costs n => ⟨.non, .int 0, .non, .int _, fun m h => by
      obtain ⟨k, rfl⟩ := up h
      exact mz_Costs_nought.trans (ph1 (u_Costs_nought k) (by simp [b_Costs_nought])), fun m h => by
      obtain ⟨k, rfl⟩ := up h
      exact mz_Costs_one.trans (ph1 (u_Costs_one k) (by simp [b_Costs_one])), fun m h => by
      obtain ⟨k, rfl⟩ := up h
      rw [u__law_ends]
      refine phi_ok rfl ?_
      show evB _ b__law_ends [some (false, .tup [.str "costs", .int n]), none, none] = _
      simp [b__law_ends, ix2_0, tup2]⟩
  | .wheel n => ⟨.int 0, .int 1, .int _, .int _, fun m h => by
      obtain ⟨k, rfl⟩ := up h
      exact (mm_Wheel_nought rfl).trans (ph1 (u_Wheel_nought k) (by simp [b_Wheel_nought])), fun m h => by
      obtain ⟨k, rfl⟩ := up h
      exact (mm_Wheel_one rfl).trans (ph1 (u_Wheel_one k) (by simp [b_Wheel_one])), fun m h => by
      obtain ⟨k, rfl⟩ := up h
      rw [u__law_ends]
      refine phi_ok rfl ?_
      show evB _ b__law_ends [some (false, .tup [.str "wheel", .int n]), none, none] = _
      simp [b__law_ends, ix2_0, tup2]⟩
  | .pair a b => by
    obtain ⟨x, y, px, py, nx, ox, lx⟩ := ends a
    obtain ⟨x', y', px', py', nx', ox', lx'⟩ := ends b
    refine ⟨.tup [x, x'], .tup [y, y'], .two (px.mono (by omega)) (px'.mono (by omega)), .two (py.mono (by omega)) (py'.mono (by omega)), fun m h => ?_, fun m h => ?_, fun m h => ?_⟩ <;> obtain ⟨k, rfl⟩ := up h <;> simp only [dep] at h
    · exact (mm_Pair_nought rfl).trans (ph1 (u_Pair_nought k) (by simp [b_Pair_nought, f1, f2, nx k (by omega), nx' k (by omega), tup2]))
    · exact (mm_Pair_one rfl).trans (ph1 (u_Pair_one k) (by simp [b_Pair_one, f1, f2, ox k (by omega), ox' k (by omega), tup2]))
    · rw [u__law_ends]
      refine phi_ok rfl ?_
      show evB _ b__law_ends [some (false, .tup [.str "pair", sp a, sp b]), none, none] = _
      simp [b__law_ends, ix3_0, ix3_1, ix3_2, lx k (by omega), lx' k (by omega), ix2_0, ix2_1, tup2]
/-! ### shown -/
theorem jf_nil {out : Str} {ρ : Rho} (h : out.length ≤ sizeLine) : joinF out [] ρ = .ok .fz (.str out) := by
  unfold joinF; rw [if_pos h]
theorem jf_cons {out y : Str} {ρ : Rho} {g : Rho → Res} {gs : List (Rho → Res)} {m : Md} (e : g ρ = .ok m (.str y)) (h : (out ++ y).length ≤ sizeLine) : joinF out (g :: gs) ρ = joinF (out ++ y) gs ρ := by
  rw [joinF, e, Res.thn_ok]; dsimp only; rw [if_pos h]
theorem empty_add (s : Str) : Str.empty ++ s = s := PySem.Str.empty_append s
theorem sm {i : Int} (h : i.natAbs < 10 ^ 61) : small i = true := small_of (Nat.lt_trans h (by decide +kernel))
theorem shown : ∀ (K : Kd) {a : D}, good K → Nt K a → ∃ s : Str, s.length + 4 ≤ 2004 * (dep K + 1) ∧ (∀ m, dep K < m → dep K ≤ 100 → mt m "shown" K [(.fz, a)] = .ok .fz (.str s)) ∧ ∀ m, dep K < m → dep K ≤ 100 → (WT TT m).Φ "_law_shown" [sp K, a] = .ok .fz (.str s)
  | .counts n, _, _, ⟨i, rfl, h0, h1⟩ => by
    have s := sm (i := i) (by omega)
    refine ⟨numS i, by have := numS_len s; simp only [dep]; omega, fun m h _ => ?_, fun m h _ => ?_⟩ <;> obtain ⟨k, rfl⟩ := up h
    · exact mz_Counts_shown.trans (ph2 (u_Counts_shown k) (by simp [b_Counts_shown, s]))
    · rw [u__law_shown]
      refine phi_ok rfl ?_
      show evB _ b__law_shown [some (false, .tup [.str "counts", .int n]), some (false, .int i)] = _
      simp [b__law_shown, ix2_0, s]
  | .truth n, _, _, ⟨i, rfl⟩ => by
    have l1 : lstR (.ok [(.fz, .str "no"), (.fz, .str "yes")]) = .ok .fr (.lst [.str "no", .str "yes"]) := rfl
    refine ⟨if i then "yes" else "no", by cases i <;> (show _ ≤ 2004 * (0 + 1); decide), fun m h _ => ?_, fun m h _ => ?_⟩ <;> obtain ⟨k, rfl⟩ := up h
    · exact mz_Truth_shown.trans (ph2 (u_Truth_shown k) (by cases i <;> simp [b_Truth_shown]))
    · rw [u__law_shown]
      refine phi_ok rfl ?_
      show evB _ b__law_shown [some (false, .tup [.str "truth", .int n]), some (false, .bl i)] = _
      cases i
      · have x := ix_l (ds := [.str "no", .str "yes"]) (m := .fr) (m' := .fz) (i := 0) (d := .str "no") rfl
        simp [b__law_shown, ix2_0]
        rw [l1, x]; rfl
      · have x := ix_l (ds := [.str "no", .str "yes"]) (m := .fr) (m' := .fz) (i := 1) (d := .str "yes") rfl
        simp [b__law_shown, ix2_0]
        rw [l1, x]; rfl
  | .costs n, _, _, .inl rfl => by
    refine ⟨"never", by show _ ≤ 2004 * (0 + 1); decide, fun m h _ => ?_, fun m h _ => ?_⟩ <;> obtain ⟨k, rfl⟩ := up h
    · exact mz_Costs_shown.trans (ph2 (u_Costs_shown k) (by simp [b_Costs_shown]))
    · rw [u__law_shown]
      refine phi_ok rfl ?_
      show evB _ b__law_shown [some (false, .tup [.str "costs", .int n]), some (false, .non)] = _
      simp [b__law_shown, ix2_0]
  | .costs n, _, _, .inr ⟨i, rfl, h1⟩ => by
    have s := sm h1
    refine ⟨numS i, by have := numS_len s; simp only [dep]; omega, fun m h _ => ?_, fun m h _ => ?_⟩ <;> obtain ⟨k, rfl⟩ := up h
    · exact mz_Costs_shown.trans (ph2 (u_Costs_shown k) (by simp [b_Costs_shown, s]))
    · rw [u__law_shown]
      refine phi_ok rfl ?_
      show evB _ b__law_shown [some (false, .tup [.str "costs", .int n]), some (false, .int i)] = _
      simp [b__law_shown, ix2_0, s]
  | .wheel n, _, g, ⟨i, rfl, h0, h1⟩ => by
    have s := sm (i := i) (by have := g.2; omega)
    refine ⟨numS i, by have := numS_len s; simp only [dep]; omega, fun m h _ => ?_, fun m h _ => ?_⟩ <;> obtain ⟨k, rfl⟩ := up h
    · exact (mm_Wheel_shown rfl).trans (ph2 (u_Wheel_shown k) (by simp [b_Wheel_shown, s]))
    · rw [u__law_shown]
      refine phi_ok rfl ?_
      show evB _ b__law_shown [some (false, .tup [.str "wheel", .int n]), some (false, .int i)] = _
      simp [b__law_shown, ix2_0, s]
  | .pair a b, _, g, ⟨x, y, rfl, nx, ny⟩ => by
    obtain ⟨s, ls, es, fs⟩ := shown a g.1 nx
    obtain ⟨t, lt, et, ft⟩ := shown b g.2 ny
    have q0 : ("[" : Str).length = 1 := rfl
    have q1 : (", " : Str).length = 2 := rfl
    have q2 : ("]" : Str).length = 1 := rfl
    have sl : sizeLine = 16777216 := sizeLine_eq
    refine ⟨"[" ++ s ++ ", " ++ t ++ "]", ?_, fun m h hd => ?_, fun m h hd => ?_⟩
    · simp only [PySem.Str.length_append, dep] at *; omega
    · obtain ⟨k, rfl⟩ := up h
      simp only [dep] at h hd
      refine (mm_Pair_shown rfl).trans (ph2 (u_Pair_shown k) ?_)
      have g1 : evE (WT TT k) (.fmt (.meth (.fld (.var 0) "first") "shown" [(.ix (.var 1) (.int 0))])) [some (false, .ins "Pair" [("first", ob a), ("second", ob b)]), some (false, .tup [x, y])] = .ok .fz (.str s) := by
        simp [f1, ix2_0, es k (by omega) (by omega)]
      have g2 : evE (WT TT k) (.fmt (.meth (.fld (.var 0) "second") "shown" [(.ix (.var 1) (.int 1))])) [some (false, .ins "Pair" [("first", ob a), ("second", ob b)]), some (false, .tup [x, y])] = .ok .fz (.str t) := by
        simp [f2, ix2_1, et k (by omega) (by omega)]
      have key : joinF Str.empty [evE (WT TT k) (.str "["), evE (WT TT k) (.fmt (.meth (.fld (.var 0) "first") "shown" [(.ix (.var 1) (.int 0))])), evE (WT TT k) (.str ", "), evE (WT TT k) (.fmt (.meth (.fld (.var 0) "second") "shown" [(.ix (.var 1) (.int 1))])), evE (WT TT k) (.str "]")] [some (false, .ins "Pair" [("first", ob a), ("second", ob b)]), some (false, .tup [x, y])] = .ok .fz (.str ("[" ++ s ++ ", " ++ t ++ "]")) := by
        rw [jf_cons e_str (by rw [empty_add]; decide), empty_add, jf_cons g1 (by rw [PySem.Str.length_append]; omega), jf_cons e_str (by rw [PySem.Str.length_append, PySem.Str.length_append]; omega), jf_cons g2 (by rw [PySem.Str.length_append, PySem.Str.length_append, PySem.Str.length_append]; omega),
          jf_cons e_str (by rw [PySem.Str.length_append, PySem.Str.length_append, PySem.Str.length_append, PySem.Str.length_append]; omega), jf_nil (by rw [PySem.Str.length_append, PySem.Str.length_append, PySem.Str.length_append, PySem.Str.length_append]; omega)]
      unfold b_Pair_shown
      rw [b_cons, s_ret, e_fstr, el_cons, el_cons, el_cons, el_cons, el_cons, el_nil]
      show (retR (joinF _ _ _) _).thn _ = _
      rw [key]
      rfl
    · obtain ⟨k, rfl⟩ := up h
      simp only [dep] at h hd
      rw [u__law_shown]
      refine phi_ok rfl ?_
      show evB _ b__law_shown [some (false, .tup [.str "pair", sp a, sp b]), some (false, .tup [x, y])] = _
      have e1 := x_addS (m := .fz) (n := .fz) (a := "[") (b := s) (by omega)
      have e2 := x_addS (m := .fz) (n := .fz) (a := "[" ++ s) (b := ", ") (by rw [PySem.Str.length_append]; omega)
      have e3 := x_addS (m := .fz) (n := .fz) (a := "[" ++ s ++ ", ") (b := t) (by rw [PySem.Str.length_append, PySem.Str.length_append]; omega)
      have e4 := x_addS (m := .fz) (n := .fz) (a := "[" ++ s ++ ", " ++ t) (b := "]") (by rw [PySem.Str.length_append, PySem.Str.length_append, PySem.Str.length_append]; omega)
      simp [b__law_shown, ix3_0, ix3_1, ix3_2, ix2_0, ix2_1, fs k (by omega) (by omega), ft k (by omega) (by omega), e1, e2, e3, e4]
end K09

namespace K09
open PySem L2 D3
theorem bt {i : Int} (h : i.natAbs < 10 ^ 61) : bits i = true := bits_le (N := 10 ^ 61) (by omega)
theorem plus : ∀ (K : Kd) {a b : D}, good K → Nt K a → Nt K b → ∃ r, Pl (dep K) r ∧ (∀ m, dep K < m → mt m "plus" K [(.fz, a), (.fz, b)] = .ok .fz r) ∧ ∀ m, dep K < m → (WT TT m).Φ "_law_plus" [sp K, a, b] = .ok .fz r
  | .counts n, _, _, _, ⟨i, rfl, _, _⟩, ⟨j, rfl, _, _⟩ => by
    refine ⟨.int (i + j), .int _, fun m h => ?_, fun m h => ?_⟩ <;> obtain ⟨k, rfl⟩ := up h
    · exact mz_Counts_plus.trans (ph3 (u_Counts_plus k) (by simp [b_Counts_plus]))
    · rw [u__law_plus]
      refine phi_ok rfl ?_
      show evB _ b__law_plus [some (false, .tup [.str "counts", .int n]), some (false, .int i), some (false, .int j)] = _
      simp [b__law_plus, ix2_0]
  | .truth n, _, _, _, ⟨i, rfl⟩, ⟨j, rfl⟩ => by
    refine ⟨.bl (i || j), .bl _, fun m h => ?_, fun m h => ?_⟩ <;> obtain ⟨k, rfl⟩ := up h
    · exact mz_Truth_plus.trans (ph3 (u_Truth_plus k) (by simp [b_Truth_plus]))
    · rw [u__law_plus]
      refine phi_ok rfl ?_
      show evB _ b__law_plus [some (false, .tup [.str "truth", .int n]), some (false, .bl i), some (false, .bl j)] = _
      simp [b__law_plus, ix2_0]
  | .wheel n, _, _, g, ⟨i, rfl, _, _⟩, ⟨j, rfl, _, _⟩ => by
    have p0 : 0 < n := by have := g.1; omega
    refine ⟨.int ((i + j) % n), .int _, fun m h => ?_, fun m h => ?_⟩ <;> obtain ⟨k, rfl⟩ := up h
    · exact (mm_Wheel_plus rfl).trans (ph3 (u_Wheel_plus k) (by simp [b_Wheel_plus, fS, p0]))
    · rw [u__law_plus]
      refine phi_ok rfl ?_
      show evB _ b__law_plus [some (false, .tup [.str "wheel", .int n]), some (false, .int i), some (false, .int j)] = _
      simp [b__law_plus, ix2_0, ix2_1, p0]
  | .costs n, a, b, _, ha, hb => by
    have l1 : ∀ x y : D, lstR (.ok [(.fz, x), (.fz, y)]) = .ok .fr (.lst [x, y]) := fun _ _ => rfl
    have lw : ∀ (k : Nat) (r : D), evE (WT TT k) (.minN (.comp (.var 0) (.items (.lst [(.var 1), (.var 2)])) [(.cmp .IsNot (.var 0) .non)] [] (.nm 0) 1)) [some (false, .tup [.str "costs", .int n]), some (false, a), some (false, b)] = .ok .fz r → (WT TT (k + 1)).Φ "_law_plus" [sp (.costs n), a, b] = .ok .fz r := fun k r h => by
      rw [u__law_plus]
      refine phi_ok rfl ?_
      show evB _ b__law_plus [some (false, .tup [.str "costs", .int n]), some (false, a), some (false, b)] = _
      unfold b__law_plus
      generalize E.minN _ = E0 at *
      simp [ix2_0, h]
    have ec : ∀ (k : Nat) (l : List D), compL (setG (.nm 0)) (fun ρ => evF (WT TT k) [(.cmp .IsNot (.var 0) .non)] ρ) (fun ρ => evE (WT TT k) (.var 0) ρ) (subR [] [some (false, .tup [.str "costs", .int n]), some (false, a), some (false, b)] ++ List.replicate 1 none) l = some (l.filter fun d => !isNonD d) := by
      intro k l
      induction l with
      | nil => rfl
      | cons d l ih =>
        have e0 : (subR [] [some (false, .tup [.str "costs", .int n]), some (false, a), some (false, b)] ++ List.replicate 1 none : Rho) = [none] := rfl
        rw [e0] at ih ⊢
        unfold compL
        rw [sg_nm]
        dsimp only
        rw [r_set0, show evF (WT TT k) [(.cmp .IsNot (.var 0) .non)] [some (false, d)] = .ok .fz (.bl (!isNonD d)) by simp, show evE (WT TT k) (.var 0) [some (false, d)] = .ok .fz d by simp, x_frz]
        cases hd : isNonD d with
        | true => rw [List.filter_cons_of_neg (by simp [hd])]; exact ih
        | false =>
          rw [List.filter_cons_of_pos (by simp [hd])]
          dsimp only [Bool.not_false]
          rw [ih]; rfl
    have ev : ∀ (k : Nat) (r : D), minNR (.ok .fr (.lst ([a, b].filter fun d => !isNonD d))) = .ok .fz r → evE (WT TT k) (.minN (.comp (.var 0) (.items (.lst [(.var 1), (.var 2)])) [(.cmp .IsNot (.var 0) .non)] [] (.nm 0) 1)) [some (false, .tup [.str "costs", .int n]), some (false, a), some (false, b)] = .ok .fz r := fun k r h => by
      rw [e_minN, e_comp, e_items, e_lst, es_cons, es_cons, es_nil, e_var, e_var]
      rw [show getS [some (false, .tup [.str "costs", .int n]), some (false, a), some (false, b)] 1 = .ok .fz a from rfl, show getS [some (false, .tup [.str "costs", .int n]), some (false, a), some (false, b)] 2 = .ok .fz b from rfl]
      rw [show consL (.ok .fz a) (consL (.ok .fz b) (.ok [])) = .ok [(.fz, a), (.fz, b)] from rfl, l1, x_frr, itm_l]
      unfold compR
      rw [Res.thn_ok]
      dsimp only
      rw [if_pos (show [a, b].length < sizeLine from (by decide : 2 < sizeLine)), ec]
      exact h
    rcases ha with rfl | ⟨i, rfl, hi⟩ <;> rcases hb with rfl | ⟨j, rfl, hj⟩
    · refine ⟨.non, .non, fun m h => ?_, fun m h => ?_⟩ <;> obtain ⟨k, rfl⟩ := up h
      · exact mz_Costs_plus.trans (ph3 (u_Costs_plus k) (by simp [b_Costs_plus]))
      · exact lw k _ (ev k _ rfl)
    · refine ⟨.int j, .int _, fun m h => ?_, fun m h => ?_⟩ <;> obtain ⟨k, rfl⟩ := up h
      · exact mz_Costs_plus.trans (ph3 (u_Costs_plus k) (by simp [b_Costs_plus]))
      · exact lw k _ (ev k _ rfl)
    · refine ⟨.int i, .int _, fun m h => ?_, fun m h => ?_⟩ <;> obtain ⟨k, rfl⟩ := up h
      · exact mz_Costs_plus.trans (ph3 (u_Costs_plus k) (by simp [b_Costs_plus]))
      · exact lw k _ (ev k _ rfl)
    · refine ⟨.int (if j < i then j else i), .int _, fun m h => ?_, fun m h => ?_⟩ <;> obtain ⟨k, rfl⟩ := up h
      · exact mz_Costs_plus.trans (ph3 (u_Costs_plus k) (by simp [b_Costs_plus]))
      · exact lw k _ (ev k _ rfl)
  | .pair a b, _, _, g, ⟨x, y, rfl, nx, ny⟩, ⟨x', y', rfl, nx', ny'⟩ => by
    obtain ⟨r, pr, er, fr⟩ := plus a g.1 nx nx'
    obtain ⟨s, ps, es, fs⟩ := plus b g.2 ny ny'
    refine ⟨.tup [r, s], .two (pr.mono (by omega)) (ps.mono (by omega)), fun m h => ?_, fun m h => ?_⟩ <;> obtain ⟨k, rfl⟩ := up h <;> simp only [dep] at h
    · exact (mm_Pair_plus rfl).trans (ph3 (u_Pair_plus k) (by simp [b_Pair_plus, f1, f2, ix2_0, ix2_1, er k (by omega), es k (by omega), tup2]))
    · rw [u__law_plus]
      refine phi_ok rfl ?_
      show evB _ b__law_plus [some (false, .tup [.str "pair", sp a, sp b]), some (false, .tup [x, y]), some (false, .tup [x', y'])] = _
      simp [b__law_plus, ix3_0, ix3_1, ix3_2, ix2_0, ix2_1, fr k (by omega), fs k (by omega), tup2]
theorem times : ∀ (K : Kd) {a b : D}, good K → Nt K a → Nt K b → ∃ r, Pl (dep K) r ∧ (∀ m, dep K < m → mt m "times" K [(.fz, a), (.fz, b)] = .ok .fz r) ∧ ∀ m, dep K < m → (WT TT m).Φ "_law_times" [sp K, a, b] = .ok .fz r
  | .counts n, _, _, _, ⟨i, rfl, _, _⟩, ⟨j, rfl, _, _⟩ => by
    have b1 := bt (i := i) (by omega)
    have b2 := bt (i := j) (by omega)
    refine ⟨.int (i * j), .int _, fun m h => ?_, fun m h => ?_⟩ <;> obtain ⟨k, rfl⟩ := up h
    · exact mz_Counts_times.trans (ph3 (u_Counts_times k) (by simp [b_Counts_times, x_mul b1 b2]))
    · rw [u__law_times]
      refine phi_ok rfl ?_
      show evB _ b__law_times [some (false, .tup [.str "counts", .int n]), some (false, .int i), some (false, .int j)] = _
      simp [b__law_times, ix2_0, x_mul b1 b2]
  | .truth n, _, _, _, ⟨i, rfl⟩, ⟨j, rfl⟩ => by
    refine ⟨.bl (i && j), .bl _, fun m h => ?_, fun m h => ?_⟩ <;> obtain ⟨k, rfl⟩ := up h
    · exact mz_Truth_times.trans (ph3 (u_Truth_times k) (by simp [b_Truth_times]))
    · rw [u__law_times]
      refine phi_ok rfl ?_
      show evB _ b__law_times [some (false, .tup [.str "truth", .int n]), some (false, .bl i), some (false, .bl j)] = _
      simp [b__law_times, ix2_0]
  | .wheel n, _, _, g, ⟨i, rfl, _, _⟩, ⟨j, rfl, _, _⟩ => by
    have g1 := g.1
    have g2 := g.2
    have p0 : 0 < n := by omega
    have b1 := bt (i := i) (by omega)
    have b2 := bt (i := j) (by omega)
    refine ⟨.int ((i * j) % n), .int _, fun m h => ?_, fun m h => ?_⟩ <;> obtain ⟨k, rfl⟩ := up h
    · exact (mm_Wheel_times rfl).trans (ph3 (u_Wheel_times k) (by simp [b_Wheel_times, fS, p0, x_mul b1 b2]))
    · rw [u__law_times]
      refine phi_ok rfl ?_
      show evB _ b__law_times [some (false, .tup [.str "wheel", .int n]), some (false, .int i), some (false, .int j)] = _
      simp [b__law_times, ix2_0, ix2_1, p0, x_mul b1 b2]
  | .costs n, a, b, _, ha, hb => by
    have r : ∃ r, Pl 0 r ∧ (∀ k, evB (WT TT k) b_Costs_times [some (false, .ins "Costs" []), some (false, a), some (false, b)] = .rt .fz r) ∧ ∀ k, evB (WT TT k) b__law_times [some (false, .tup [.str "costs", .int n]), some (false, a), some (false, b)] = .rt .fz r := by
      rcases ha with rfl | ⟨i, rfl, hi⟩ <;> rcases hb with rfl | ⟨j, rfl, hj⟩
      · exact ⟨.non, .non, fun k => by simp [b_Costs_times], fun k => by simp [b__law_times, ix2_0]⟩
      · exact ⟨.non, .non, fun k => by simp [b_Costs_times], fun k => by simp [b__law_times, ix2_0]⟩
      · exact ⟨.non, .non, fun k => by simp [b_Costs_times], fun k => by simp [b__law_times, ix2_0]⟩
      · exact ⟨.int (i + j), .int _, fun k => by simp [b_Costs_times], fun k => by simp [b__law_times, ix2_0]⟩
    obtain ⟨r, pr, e1, e2⟩ := r
    refine ⟨r, pr, fun m h => ?_, fun m h => ?_⟩ <;> obtain ⟨k, rfl⟩ := up h
    · exact mz_Costs_times.trans (ph3 (u_Costs_times k) (e1 k))
    · rw [u__law_times]
      exact phi_ok rfl (e2 k)
  | .pair a b, _, _, g, ⟨x, y, rfl, nx, ny⟩, ⟨x', y', rfl, nx', ny'⟩ => by
    obtain ⟨r, pr, er, fr⟩ := times a g.1 nx nx'
    obtain ⟨s, ps, es, fs⟩ := times b g.2 ny ny'
    refine ⟨.tup [r, s], .two (pr.mono (by omega)) (ps.mono (by omega)), fun m h => ?_, fun m h => ?_⟩ <;> obtain ⟨k, rfl⟩ := up h <;> simp only [dep] at h
    · exact (mm_Pair_times rfl).trans (ph3 (u_Pair_times k) (by simp [b_Pair_times, f1, f2, ix2_0, ix2_1, er k (by omega), es k (by omega), tup2]))
    · rw [u__law_times]
      refine phi_ok rfl ?_
      show evB _ b__law_times [some (false, .tup [.str "pair", sp a, sp b]), some (false, .tup [x, y]), some (false, .tup [x', y'])] = _
      simp [b__law_times, ix3_0, ix3_1, ix3_2, ix2_0, ix2_1, fr k (by omega), fs k (by omega), tup2]
end K09

namespace K09
open PySem L2 D3
theorem isp (k : Nat) {d : D} {b : Bool} (h : evB (WT TT k) b_is_pair [some (false, d)] = .rt .fz (.bl b)) : (WT TT (k + 1)).Φ "is_pair" [d] = .ok .fz (.bl b) := by
  rw [u_is_pair]; exact phi_ok rfl h
theorem ispT (k : Nat) (x y : D) : (WT TT (k + 1)).Φ "is_pair" [.tup [x, y]] = .ok .fz (.bl true) := isp k (by
  have i1 : isiD [(.fz, .tup [x, y]), (.fz, .ty "tuple")] = some (.fz, .bl true) := rfl
  simp [b_is_pair, i1, Ty.id])
theorem ispN (k : Nat) {d : D} (h : isiD [(.fz, d), (.fz, .ty "tuple")] = some (.fz, .bl false)) : (WT TT (k + 1)).Φ "is_pair" [d] = .ok .fz (.bl false) := isp k (by simp [b_is_pair, h, Ty.id])
theorem ispL (k : Nat) {l : List D} (h : l.length ≠ 2) : (WT TT (k + 1)).Φ "is_pair" [.tup l] = .ok .fz (.bl false) := isp k (by
  have i1 : isiD [(.fz, .tup l), (.fz, .ty "tuple")] = some (.fz, .bl true) := rfl
  have : ((l.length : Int) == 2) = false := by simp; omega
  simp [b_is_pair, i1, Ty.id, this])
theorem up2 {m n : Nat} (h : n + 1 < m) : ∃ k, m = k + 2 := ⟨m - 2, by omega⟩
theorem hp {k : Nat} {p q : Kd} {d : D} {b : Bool} (h : evB (WT TT k) b_Pair_holds [some (false, .ins "Pair" [("first", ob p), ("second", ob q)]), some (false, d)] = .rt .fz (.bl b)) : mt (k + 1) "holds" (.pair p q) [(.fz, d)] = .ok .fz (.bl b) := (mm_Pair_holds rfl).trans (ph2 (u_Pair_holds k) h)
theorem holds : ∀ (K : Kd) {a : D}, good K → Nt K a → ∀ {m}, dep K + 1 < m → mt m "holds" K [(.fz, a)] = .ok .fz (.bl true)
  | .counts n, _, _, ⟨i, rfl, h0, _⟩, m, h => by
    obtain ⟨k, rfl⟩ := up2 h
    exact mz_Counts_holds.trans (ph2 (u_Counts_holds (k + 1)) (by simp [b_Counts_holds, wholeI k i, h0]))
  | .truth n, _, _, ⟨i, rfl⟩, m, h => by
    obtain ⟨k, rfl⟩ := up2 h
    have i1 : isiD [(.fz, .bl i), (.fz, .ty "bool")] = some (.fz, .bl true) := rfl
    exact mz_Truth_holds.trans (ph2 (u_Truth_holds (k + 1)) (by simp [b_Truth_holds, i1, Ty.id]))
  | .costs n, _, _, .inl rfl, m, h => by
    obtain ⟨k, rfl⟩ := up2 h
    exact mz_Costs_holds.trans (ph2 (u_Costs_holds (k + 1)) (by simp [b_Costs_holds]))
  | .costs n, _, _, .inr ⟨i, rfl, _⟩, m, h => by
    obtain ⟨k, rfl⟩ := up2 h
    exact mz_Costs_holds.trans (ph2 (u_Costs_holds (k + 1)) (by simp [b_Costs_holds, wholeI k i]))
  | .wheel n, _, _, ⟨i, rfl, h0, h1⟩, m, h => by
    obtain ⟨k, rfl⟩ := up2 h
    exact (mm_Wheel_holds rfl).trans (ph2 (u_Wheel_holds (k + 1)) (by simp [b_Wheel_holds, wholeI k i, fS, h0, h1]))
  | .pair p q, _, g, ⟨x, y, rfl, nx, ny⟩, m, h => by
    simp only [dep] at h
    obtain ⟨k, rfl⟩ := up2 h
    have e1 := holds p g.1 nx (m := k + 1) (by omega)
    have e2 := holds q g.2 ny (m := k + 1) (by omega)
    exact hp (by simp [b_Pair_holds, f1, f2, ispT k, ix2_0, ix2_1, e1, e2])
theorem wholeX (k : Nat) (s : Str) : (WT TT (k + 1)).Φ "is_whole" [.str s] = .ok .fz (.bl false) := whole k (d := .str s) (a := false) (b := false) rfl rfl
theorem holdsX : ∀ (K : Kd) (s : Str) {m}, 1 < m → mt m "holds" K [(.fz, .str s)] = .ok .fz (.bl false)
  | .counts n, s, m, h => by
    obtain ⟨k, rfl⟩ := up2 (n := 0) h
    exact mz_Counts_holds.trans (ph2 (u_Counts_holds (k + 1)) (by simp [b_Counts_holds, wholeX k]))
  | .truth n, s, m, h => by
    obtain ⟨k, rfl⟩ := up2 (n := 0) h
    have i1 : isiD [(.fz, .str s), (.fz, .ty "bool")] = some (.fz, .bl false) := rfl
    exact mz_Truth_holds.trans (ph2 (u_Truth_holds (k + 1)) (by simp [b_Truth_holds, i1, Ty.id]))
  | .costs n, s, m, h => by
    obtain ⟨k, rfl⟩ := up2 (n := 0) h
    exact mz_Costs_holds.trans (ph2 (u_Costs_holds (k + 1)) (by simp [b_Costs_holds, wholeX k]))
  | .wheel n, s, m, h => by
    obtain ⟨k, rfl⟩ := up2 (n := 0) h
    exact (mm_Wheel_holds rfl).trans (ph2 (u_Wheel_holds (k + 1)) (by simp [b_Wheel_holds, wholeX k]))
  | .pair p q, s, m, h => by
    obtain ⟨k, rfl⟩ := up2 (n := 0) h
    exact hp (by simp [b_Pair_holds, ispN k (d := .str s) rfl])
theorem odd0 : ∀ (p q : Kd) {x : D}, Nt p x → ∀ {m}, dep p + 1 < m → mt m "holds" (.pair p q) [(.fz, x)] = .ok .fz (.bl false)
  | .counts n, q, _, ⟨i, rfl, _, _⟩, m, h => by
    obtain ⟨k, rfl⟩ := up2 h
    exact hp (by simp [b_Pair_holds, ispN k (d := .int i) rfl])
  | .truth n, q, _, ⟨i, rfl⟩, m, h => by
    obtain ⟨k, rfl⟩ := up2 h
    exact hp (by simp [b_Pair_holds, ispN k (d := .bl i) rfl])
  | .costs n, q, _, .inl rfl, m, h => by
    obtain ⟨k, rfl⟩ := up2 h
    exact hp (by simp [b_Pair_holds, ispN k (d := .non) rfl])
  | .costs n, q, _, .inr ⟨i, rfl, _⟩, m, h => by
    obtain ⟨k, rfl⟩ := up2 h
    exact hp (by simp [b_Pair_holds, ispN k (d := .int i) rfl])
  | .wheel n, q, _, ⟨i, rfl, _, _⟩, m, h => by
    obtain ⟨k, rfl⟩ := up2 h
    exact hp (by simp [b_Pair_holds, ispN k (d := .int i) rfl])
  | .pair p1 p2, q, _, ⟨u, v, rfl, nu, nv⟩, m, h => by
    simp only [dep] at h
    obtain ⟨k, rfl⟩ := up2 h
    have e := odd0 p1 p2 nu (m := k + 1) (by omega)
    exact hp (by simp [b_Pair_holds, f1, ispT k, ix2_0, e])
/-! ### what is met -/
theorem met {k : Nat} (K : Kd) {a b : D} (g : good K) (hd : dep K ≤ 2) (na : Nt K a) (nb : Nt K b) : (WT TT (k + 5)).Φ "_law_met" [ob K, sp K, a, b] = .ok .fz (.bl true) := by
  obtain ⟨x, y, px, py, ex, ey, el⟩ := ends K
  obtain ⟨s, _, es, ls⟩ := shown K g na
  obtain ⟨p, pp, ep, lp⟩ := plus K g na nb
  obtain ⟨t, pt, et, lt⟩ := times K g na nb
  have eh := holds K g na (m := k + 4) (by omega)
  have q1 := same (Pl.two px py) (m := k + 4) (by omega)
  have q2 := same (Pl.str (n := 0) s) (m := k + 4) (by omega)
  have q3 := same pp (m := k + 4) (by omega)
  have q4 := same pt (m := k + 4) (by omega)
  have q5 := same (Pl.bl (n := 0) true) (m := k + 4) (by omega)
  have z1 := ex (k + 4) (by omega)
  have z2 := ey (k + 4) (by omega)
  have z3 := el (k + 4) (by omega)
  have z4 := es (k + 4) (by omega) (by omega)
  have z5 := ls (k + 4) (by omega) (by omega)
  have z6 := ep (k + 4) (by omega)
  have z7 := lp (k + 4) (by omega)
  have z8 := et (k + 4) (by omega)
  have z9 := lt (k + 4) (by omega)
  rw [u__law_met]
  refine phi_ok rfl ?_
  show evB _ b__law_met [some (false, ob K), some (false, sp K), some (false, a), some (false, b), none] = _
  unfold mt at *
  generalize ob K = O at *
  generalize sp K = P at *
  simp [b__law_met, z1, z2, z3, z4, z5, z6, z7, z8, z9, q1, q2, q3, q4, q5, eh, tup2]
end K09

namespace K09
open PySem L2 D3
theorem mem_enum : ∀ {ds : List D} {j : Nat} {d : D}, d ∈ enumD j ds → ∃ i x, x ∈ ds ∧ d = .tup [.int (i : Nat), x]
  | [], _, _, h => by cases h
  | x :: ds, j, d, h => by
    rcases List.mem_cons.mp h with rfl | h
    · exact ⟨j, x, List.mem_cons_self, rfl⟩
    · obtain ⟨i, y, hy, e⟩ := mem_enum h
      exact ⟨i, y, List.mem_cons_of_mem _ hy, e⟩
theorem isoK {p q : Kd} : isoR TT.cl "Kind" (.ok .fz (ob (.pair p q))) = .ok .fz (.bl true) := rfl
theorem isoS {p q : Kd} : isoR TT.cl "Single" (.ok .fz (ob (.pair p q))) = .ok .fz (.bl false) := rfl
def tc : Kd := .pair (.truth 0) (.counts 0)
theorem tcF (k : Nat) (i : Int) (b : Bool) : mt (k + 3) "holds" tc [(.fz, .tup [.int i, .bl b])] = .ok .fz (.bl false) := by
  have i1 : isiD [(.fz, .int i), (.fz, .ty "bool")] = some (.fz, .bl false) := rfl
  have e : mt (k + 2) "holds" (.truth 0) [(.fz, .int i)] = .ok .fz (.bl false) := mz_Truth_holds.trans (ph2 (u_Truth_holds (k + 1)) (by simp [b_Truth_holds, i1, Ty.id]))
  exact hp (by simp [b_Pair_holds, f1, ispT (k + 1), ix2_0, e])
theorem odd (k : Nat) {p q : Kd} {x y : D} (g : good (.pair p q)) (hd : dep (.pair p q) ≤ 2) (nx : Nt p x) (ny : Nt q y) : ∀ o ∈ [D.lst [x, y], .tup [x, y, x], .tup [x], .tup [.str "x", y], .tup [x, .str "x"], .non, .tup [], x], mt (k + 5) "holds" (.pair p q) [(.fz, o)] = .ok .fz (.bl false) := by
  simp only [dep] at hd
  intro o ho
  simp only [List.mem_cons, List.not_mem_nil, or_false] at ho
  rcases ho with rfl | rfl | rfl | rfl | rfl | rfl | rfl | rfl
  · exact hp (by simp [b_Pair_holds, ispN (k + 3) (d := .lst [x, y]) rfl])
  · exact hp (by simp [b_Pair_holds, ispL (k + 3) (l := [x, y, x]) (show 3 ≠ 2 by decide)])
  · exact hp (by simp [b_Pair_holds, ispL (k + 3) (l := [x]) (show 1 ≠ 2 by decide)])
  · have e := holdsX p "x" (m := k + 4) (by omega)
    exact hp (by simp [b_Pair_holds, f1, ispT (k + 3), ix2_0, e])
  · have e := holdsX q "x" (m := k + 4) (by omega)
    have e' := holds p g.1 nx (m := k + 4) (by omega)
    exact hp (by simp [b_Pair_holds, f1, f2, ispT (k + 3), ix2_0, ix2_1, e, e'])
  · exact hp (by simp [b_Pair_holds, ispN (k + 3) (d := .non) rfl])
  · exact hp (by simp [b_Pair_holds, ispL (k + 3) (l := []) (by decide)])
  · exact odd0 p q nx (by omega)
theorem body (k : Nat) (ns : List Int) (hn : 0 < ns.length) (i c : Int) (x3 x4 x5 x6 x7 : Option (Bool × D)) : ∃ y3 y4 y5 y6 y7, evB (WT TT (k + 6)) b_law_L1 [some (false, .lst (ns.map .int)), some (false, .int i), some (false, .int c), x3, x4, x5, x6, x7] = .nx [some (false, .lst (ns.map .int)), some (false, .int i), some (false, .int c), y3, y4, y5, y6, y7] := by
  obtain ⟨b, eb⟩ := script_mod (ns := ns) (i := i + 1) hn (m := .fz) (m' := .fz)
  have hp' : ∀ {m n : Md} {i : Int}, op2 (fBin .Mod) (.ok m (.int i)) (.ok n (.int (ns.length : Int))) = .ok .fz (.int (i % (ns.length : Int))) := x_mod (by omega)
  obtain ⟨p, q, hd, g, es⟩ := spec (k + 3) c
  have ek := callr1 (kind (.pair p q) g (m := k + 6) (by omega))
  have hd2 : dep (.pair p q) = 0 ∨ dep (.pair p q) = 1 ∨ dep (.pair p q) = 2 := by omega
  obtain ⟨a, na, ea⟩ := note (.pair p q) g (m := k + 6) c (p := 1) (by omega) (by decide) (by omega)
  obtain ⟨a', na', ea'⟩ := note (.pair p q) g (m := k + 6) b (p := 2) (by omega) (by decide) (by omega)
  have em := met (k := k + 1) (.pair p q) g hd na na'
  obtain ⟨x, y, rfl, nx, ny⟩ := na
  have od := odd (k + 1) g hd nx ny
  have M := Mx (k + 5) (c := c) (show (0 : Int) ≤ 7 by decide) (show (7 : Int) ≤ 200 by decide)
  obtain ⟨o, ho, eo⟩ := atI_mod [D.lst [x, y], .tup [x, y, x], .tup [x], .tup [.str "x", y], .tup [x, .str "x"], .non, .tup [], x] (mx c 7) 8 rfl (by decide)
  have xo := ix_l (m := .fr) (m' := .fz) eo
  have eh := od o ho
  have et : methR TT.cl (WT TT (k + 6)).Φ "holds" (.ok .fz (.ins "Pair" [("first", .ins "Truth" []), ("second", .ins "Counts" [])])) (.ok [(.fz, .tup [.int (c % 9), .bl (c % 2 == 1)])]) = .ok .fz (.bl false) := tcF (k + 3) (c % 9) (c % 2 == 1)
  have sF := same (Pl.bl (n := 0) false) (m := k + 6) (by omega)
  have l1 : lstR (.ok [(.fz, .lst [x, y]), (.fz, .tup [x, y, x]), (.fz, .tup [x]), (.fz, .tup [.str "x", y]), (.fz, .tup [x, .str "x"]), (.fz, .non), (.fz, .tup []), (.fz, x)]) = .ok .fr (.lst [.lst [x, y], .tup [x, y, x], .tup [x], .tup [.str "x", y], .tup [x, .str "x"], .non, .tup [], x]) := rfl
  have t1 : ∀ z : D, tupR (.ok [(.fz, z)]) = .ok .fz (.tup [z]) := fun _ => rfl
  have t0 : tupR (.ok []) = .ok .fz (.tup []) := rfl
  have ct : op2 (fBin .Add) (.ok .fz (.tup [x, y])) (.ok .fz (.tup [x])) = .ok .fz (.tup [x, y, x]) := x_catT (by show 3 ≤ sizeLine; decide)
  have mkp := mk_pair (k + 4) (.ins "Truth" []) (.ins "Counts" [])
  refine ⟨some (false, sp (.pair p q)), some (false, ob (.pair p q)), some (false, .tup [x, y]), some (false, a'), some (false, o), ?_⟩
  have iK := isoK (p := p) (q := q)
  have iS := isoS (p := p) (q := q)
  unfold mt at *
  generalize ob (.pair p q) = O at *
  generalize sp (.pair p q) = P at *
  have e1 : b_law_L1 = b_law_L1.take 6 ++ b_law_L1.drop 6 := rfl
  rw [e1, b_app, show evB (WT TT (k + 6)) (b_law_L1.take 6) [some (false, .lst (ns.map .int)), some (false, .int i), some (false, .int c), x3, x4, x5, x6, x7] = .nx [some (false, .lst (ns.map .int)), some (false, .int i), some (false, .int c), some (false, P), some (false, O), some (false, .tup [x, y]), some (false, a'), x7] by
    simp [b_law_L1, es, ek, iK, iS, ea, eb, hp', ea', em], SRes.thn_nx]
  have e2 : b_law_L1.drop 6 = (b_law_L1.drop 6).take 1 ++ b_law_L1.drop 7 := rfl
  rw [e2, b_app, show evB (WT TT (k + 6)) ((b_law_L1.drop 6).take 1) [some (false, .lst (ns.map .int)), some (false, .int i), some (false, .int c), some (false, P), some (false, O), some (false, .tup [x, y]), some (false, a'), x7] = .nx [some (false, .lst (ns.map .int)), some (false, .int i), some (false, .int c), some (false, P), some (false, O), some (false, .tup [x, y]), some (false, a'), some (false, o)] by
    simp [b_law_L1, ix2_0, ix2_1, t1, t0, tup2, ct]
    rw [l1]
    simp [M, xo], SRes.thn_nx]
  simp [b_law_L1, eh, sF, e_make (pI (k + 4)), mkp, et, tup2]
def kk : Nat := 6
theorem main (ns : List Int) (h : ns.length ≤ 63) : (WT TT (kk + 1)).Φ ("law" : Str) (lawIn ns) = .ok .fz (.bl true) := by
  rw [u_law]
  refine phi_ok rfl ?_
  show evB (WT TT 6) b_law [some (false, .lst (ns.map .int)), none, none, none, none, none, none, none] = _
  have en : enumR (.ok [(.fz, .lst (ns.map .int))]) = .ok .fz (.lst (enumD 0 (ns.map .int))) := rfl
  obtain ⟨ρ', e, x1, x2, x3, x4, x5, x6, x7, rfl⟩ := forR_inv (m := .fz) (ds := enumD 0 (ns.map .int)) (k := setG (.tp [(.nm 1), (.nm 2)])) (body := evB (WT TT 6) b_law_L1) (ρ := [some (false, .lst (ns.map .int)), none, none, none, none, none, none, none])
    (fun ρ => ∃ x1 x2 x3 x4 x5 x6 x7, ρ = [some (false, .lst (ns.map .int)), x1, x2, x3, x4, x5, x6, x7]) (fun d hd ρ hρ => by
      obtain ⟨x1, x2, x3, x4, x5, x6, x7, rfl⟩ := hρ
      obtain ⟨i, x, hx, rfl⟩ := mem_enum hd
      obtain ⟨c, hc, rfl⟩ := List.mem_map.mp hx
      have hn : 0 < ns.length := List.length_pos_of_mem hc
      obtain ⟨y3, y4, y5, y6, y7, e⟩ := body 0 ns hn i c x3 x4 x5 x6 x7
      refine ⟨[some (false, .lst (ns.map .int)), some (false, .int (i : Int)), some (false, .int c), x3, x4, x5, x6, x7], _, by simp, .inl e, _, _, _, _, _, _, _, rfl⟩) ⟨_, _, _, _, _, _, _, rfl⟩
  simp [b_law, en, e]
end K09

-- Tp.twA
namespace K09
open PySem PySem.W Tp
theorem tw : Prod.fst (true, PySem.Challenge.pw_whencewise_k09_pairs) = true := by k_qdec
def as : List Addr := [2,3,15,22,23,24,25,28,35,36,37,40,42,43,45,46,54,56,57,59,60,61,62,63,64,65,68,75,77,78,80,81,82,83,84,87,94,96,97,99,100,101,103,104,106,107,108,110,111,113,114,115,117,118,120,121,122,124,125,127,128,129,131,132,134,135,136,138,139,141,142,143,144,145,148,155,157,158,160,161,162,164,165,167,168,169,171,172,174,175,176,178,179,181,182,183,185,186,188,189,190,192,193,195,196,197,198,199,202,209,211,212,214,215,216,218,219,221,222,223,225,226,228,229,230,232,233,235,236,237,239,240,242,243,244,246,247,249,250,251,252,253,256,263,265,266,268,269,270,272,273,275,276,277,279,280,282,283,284,286,287,289,290,291,293,294,296,297,298,300,301,303,304,305,307,308,310,311,312,314,315,317,318,319,320,321,324,331,333,334,336,337,338,340,341,343,344,345,347,348,350,351,352,354,355,357,358,359,361,362,364,365,366,368,369,371,372,373,375,376,378,379,380,382,383,385,386,387,389,390,392,393,394,395,396,399,401,402,404,405,406,408,409,411,412,413,415,416,418,419,420,422,423,425,426,427,429,430,432,433,434,436,437,439,440,441,444,445,446,448,449,451,452,453,455,456,458,459,460,462,463,465,466,467,470,471,472,474,475,477,478,479,481,482,484,485]
theorem pre (w : World) (os : OsState) : topGo treeTable PySem.Challenge.pw_whencewise_k09_pairs w 11 an 12 ⟨boot_heap w.params, #[], boot_drawn, boot_toks, os⟩ (topStub PySem.Challenge.pw_whencewise_k09_pairs) = some ((sh w.params (sA w.params) 15 187 os).abs, ⟨denote treeTable (cd PySem.Challenge.pw_whencewise_k09_pairs), cd PySem.Challenge.pw_whencewise_k09_pairs, z0, [topFrame z0]⟩) := by
  rw [Fast.te6319051107669643771, Fast.te203182992438928480, Fast.te13144403056285818395, Fast.te15667345088766844465, Fast.te14364793385576792824, Fast.te11892475500146522536]
  kernel_rfl
theorem blk (w : World) (s : Shared) : segRun treeTable PySem.Challenge.pw_whencewise_k09_pairs w 11 an 1 1 s (blockOf PySem.Challenge.pw_whencewise_k09_pairs.main.body (ev PySem.Challenge.pw_whencewise_k09_pairs) (cd PySem.Challenge.pw_whencewise_k09_pairs) z0 [topFrame z0]) = some (.next, s, cd PySem.Challenge.pw_whencewise_k09_pairs, z0) := by kernel_rfl
theorem run (w : World) (os : OsState) : go treeTable PySem.Challenge.pw_whencewise_k09_pairs w 1000 PySem.Challenge.pw_whencewise_k09_pairs.main.body (sh w.params (sA w.params) 15 187 os) (cd PySem.Challenge.pw_whencewise_k09_pairs) z0 = some (sh w.params (lay w.params PySem.Challenge.pw_whencewise_k09_pairs.main.body (sA w.params)) 486 778 os, cd PySem.Challenge.pw_whencewise_k09_pairs, ⟨247, 0, 262, 15⟩) := by
  rw [Fast.te6319051107669643771, Fast.te203182992438928480, Fast.te13144403056285818395, Fast.te5678740263434597267, Fast.te14364793385576792824, Fast.te10212481707522018265]
  kernel_rfl
theorem looks (w : World) : (fun os => ((staticsOk (importedModules PySem.Challenge.pw_whencewise_k09_pairs.main.body) (boot_heap w.params) (H1 PySem.Challenge.pw_whencewise_k09_pairs.main.body 486 w.params) && namesBound PySem.Challenge.pw_whencewise_k09_pairs (H1 PySem.Challenge.pw_whencewise_k09_pairs.main.body 486 w.params) && gensDone (S1 PySem.Challenge.pw_whencewise_k09_pairs.main.body 486 778 w.params os) && laidKept (boot_heap w.params) (H1 PySem.Challenge.pw_whencewise_k09_pairs.main.body 486 w.params)), openSeen (vw PySem.Challenge.pw_whencewise_k09_pairs) (los PySem.Challenge.pw_whencewise_k09_pairs.main.body) (importedModules PySem.Challenge.pw_whencewise_k09_pairs.main.body) (xt PySem.Challenge.rw_whencewise_k09_pairs.row) true (S1 PySem.Challenge.pw_whencewise_k09_pairs.main.body 486 778 w.params os), (hk PySem.Challenge.pw_whencewise_k09_pairs.main.body as).obs (S1 PySem.Challenge.pw_whencewise_k09_pairs.main.body 486 778 w.params os))) = fun _ => (true, openGood (vw PySem.Challenge.pw_whencewise_k09_pairs) (los PySem.Challenge.pw_whencewise_k09_pairs.main.body), (hk PySem.Challenge.pw_whencewise_k09_pairs.main.body as).val w) := by
  rw [Fast.te14387180822208032119, Fast.te6319051107669643771, Fast.te5923862056798008813, Fast.te9407923862454927560, Fast.te15884229538025494872, Fast.te4187177175401517315, Fast.te18076920544200396443, Fast.te9318435048543301240, Fast.te17808466708180730929, Fast.te2368527892694137696]
  kernel_rfl
theorem gf (P : Params) : D3.lawB (KK PySem.Challenge.pw_whencewise_k09_pairs.main.body as P) GG TT = true := by
  kernel_rfl
abbrev dl : DefRec := ⟨"law", L2.defArgs s_law, L2.defBody s_law, L2.defScope s_law, ⟨247, 0, 262, 15⟩⟩
end K09

open PySem PySem.W PyProof.Rows
set_option maxRecDepth 100000 in
set_option maxHeartbeats 0 in
theorem PySem.Challenge.cw_whencewise_k09_pairs_holds : PySem.Challenge.rw_whencewise_k09_pairs.Holds := by
  w_on; o_law
  exact Tp.head (p := PySem.Challenge.rw_whencewise_k09_pairs) (d := K09.dl) (Tp.left (by kernel_rfl) K09.pre K09.blk K09.run (by kernel_rfl) (by kernel_rfl) (fun _ => by kernel_rfl) K09.looks) (by assumption) (by kernel_rfl) (by kernel_rfl) rfl rfl (by decide +kernel) ⟨rfl, rfl, rfl, rfl, rfl, by decide +kernel⟩ (by w_witness2)
    (D3.walkG (K := Tp.KK PySem.Challenge.pw_whencewise_k09_pairs.main.body K09.as) (kk := K09.kk) (e := K09.d_law) rfl rfl rfl (fun w h Y => PySem.W.kIn_of Y) K09.gf (D3.tabs_none (g := K09.GG) (by decide +kernel)) rfl rfl ⟨rfl, by decide, by decide⟩ K09.main)
