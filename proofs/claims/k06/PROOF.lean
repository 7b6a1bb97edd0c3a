import PyProof.Rows.All
import Wide.All
import OpenK.AllK
import Wide.FinOn
import Lean
import PyProof.EqAt
import PyProof.EqKinds
import PyProof.TupleCall
import PySem.Challenge.RW_whencewise_k06_voices
set_option Elab.async false
set_option linter.all false
set_option maxRecDepth 100000
/-! THE HAND LAYER, for ints, bools, texts, own classes, LISTS and tuples (index, slices, in, append, pop ..), calls, loops. Paste it whole ahead of your own text; what your proof does not reach may be deleted. -/
namespace L2
open PySem PySem.Spec PyProof.Rows

/-- a key: an int or a str -/
abbrev Key := Sum Int Str
def keyIs : Key → Value → Bool
  | .inl k, v => Value.isInt k v
  | .inr x, v => Value.isStrOf x v
def keyH (w : World) : Key → Int
  | .inl k => hashInt k
  | .inr x => hashStr w x
theorem keyIs_shape : ∀ {k : Key} {v : Value}, keyIs k v = true → (∃ i t, k = Sum.inl i ∧ v = Value.int i t) ∨ (∃ x t, k = Sum.inr x ∧ v = Value.str x t)
  | .inl i, v, h => by
    obtain ⟨t, e⟩ := Value.isInt_shape (k := i) (v := v) h
    exact .inl ⟨i, t, rfl, e⟩
  | .inr x, v, h => by
    obtain ⟨t, e⟩ := Value.isStrOf_shape (x := x) (v := v) h
    exact .inr ⟨x, t, rfl, e⟩
theorem key_ll (a b : Int) : decide ((Sum.inl a : Key) = Sum.inl b) = (a == b) := by
  by_cases e : a = b
  · subst e; simp
  · have h : ¬ (Sum.inl a : Key) = Sum.inl b := fun q => e (Sum.inl.inj q)
    rw [decide_eq_false h]
    exact (beq_eq_false_iff_ne.mpr e).symm
theorem key_rr (a b : Str) : decide ((Sum.inr a : Key) = Sum.inr b) = decide (a = b) := by
  by_cases e : a = b
  · subst e; simp
  · have h : ¬ (Sum.inr a : Key) = Sum.inr b := fun q => e (Sum.inr.inj q)
    rw [decide_eq_false h, decide_eq_false e]
theorem key_lr (a : Int) (b : Str) : decide ((Sum.inl a : Key) = Sum.inr b) = false := decide_eq_false (fun q => nomatch q)
theorem key_rl (a : Str) (b : Int) : decide ((Sum.inr a : Key) = Sum.inl b) = false := decide_eq_false (fun q => nomatch q)

def mixKind (prog : Program) (w : World) : PySem.KeyKind prog w Key where
  is := keyIs
  hash := keyH w
  inj := fun v a b ha hb => by
    rcases keyIs_shape ha with ⟨i, t, rfl, rfl⟩ | ⟨x, t, rfl, rfl⟩
    · rcases keyIs_shape hb with ⟨j, u, rfl, e⟩ | ⟨y, u, rfl, e⟩
      · injection e with e1 _; rw [e1]
      · exact nomatch e
    · rcases keyIs_shape hb with ⟨j, u, rfl, e⟩ | ⟨y, u, rfl, e⟩
      · exact nomatch e
      · injection e with e1 _; rw [e1]
  byValue := fun k v h => by
    rcases keyIs_shape h with ⟨i, t, rfl, rfl⟩ | ⟨x, t, rfl, rfl⟩ <;> rfl
  pyHash := fun hv h => by
    rcases keyIs_shape hv with ⟨i, t, rfl, rfl⟩ | ⟨x, t, rfl, rfl⟩
    · exact wpAny_pyHash_int h
    · exact wpAny_pyHash_str h
  eqBool := fun hu hv h => by
    rcases keyIs_shape hu with ⟨i, t, rfl, rfl⟩ | ⟨x, t, rfl, rfl⟩
    · rcases keyIs_shape hv with ⟨j, u, rfl, rfl⟩ | ⟨y, u, rfl, rfl⟩
      · rw [key_ll] at h; exact wpAny_eqBool_int h
      · rw [key_lr] at h; exact SeqAt.EqAt.int_str i t y u _ _ _ _ h
    · rcases keyIs_shape hv with ⟨j, u, rfl, rfl⟩ | ⟨y, u, rfl, rfl⟩
      · rw [key_rl] at h; exact SeqAt.EqAt.str_int x t j u _ _ _ _ h
      · rw [key_rr] at h; exact wpAny_eqBool_str h
  «strs» := fun k x t v h => by
    rcases keyIs_shape h with ⟨i, u, rfl, e⟩ | ⟨y, u, rfl, e⟩
    · exact nomatch e
    · injection e with e1 _
      subst e1
      cases v <;> rfl

end L2

namespace L2
open PySem PySem.Spec PyProof.Rows

/-- a value, without the heap -/
inductive V where
  | non | bl (b : Bool) | int (i : Int) | str (x : Str) | byt (b : Array UInt8) | flt (b : UInt64) | ref (a : Addr) | ty (n : String)
  deriving DecidableEq

def RelV : V → Value → Prop
  | .non, u => u = Value.none
  | .bl b, u => u = Value.bool b
  | .int i, u => ∃ t, u = Value.int i t
  | .str x, u => ∃ t, u = Value.str x t
  | .byt b, u => ∃ t, u = Value.bytes b t
  | .flt b, u => ∃ t, u = Value.float b t
  | .ref a, u => u = Value.ref a
  | .ty n, u => u = Value.type n

abbrev Vals : List V → List Value → Prop := Paired RelV
theorem Vals.length {xs : List V} {us : List Value} (r : Vals xs us) : xs.length = us.length := Paired.length r
theorem Vals.get : ∀ {xs : List V} {us : List Value} {i : Nat} {x : V}, Vals xs us → xs[i]? = some x → ∃ u, us[i]? = some u ∧ RelV x u
  | _, _, _, _, .nil, e => by simp at e
  | _, _, 0, _, .cons r _, e => by simp at e; subst e; exact ⟨_, rfl, r⟩
  | _, _, i + 1, x, .cons _ t, e => by
    obtain ⟨u, h1, h2⟩ := Vals.get (i := i) (x := x) t (by simpa using e)
    exact ⟨u, by simpa using h1, h2⟩
theorem Vals.append : ∀ {xs ys : List V} {us ws : List Value}, Vals xs us → Vals ys ws → Vals (xs ++ ys) (us ++ ws)
  | _, _, _, _, .nil, s => s
  | _, _, _, _, .cons r t, s => .cons r (Vals.append t s)
theorem Vals.take : ∀ {xs : List V} {us : List Value} (n : Nat), Vals xs us → Vals (xs.take n) (us.take n)
  | _, _, 0, _ => .nil
  | _, _, _ + 1, .nil => .nil
  | _, _, n + 1, .cons r t => .cons r (Vals.take n t)
theorem Vals.drop : ∀ {xs : List V} {us : List Value} (n : Nat), Vals xs us → Vals (xs.drop n) (us.drop n)
  | _, _, 0, r => r
  | _, _, _ + 1, .nil => .nil
  | _, _, n + 1, .cons _ t => Vals.drop n t
def RelO : Option V → Option Value → Prop
  | some v, some u => RelV v u
  | none, none => True
  | _, _ => False
def KV {κ : Type} : List (κ × V) → List (κ × Value) → Prop := Paired fun (p : κ × V) (q : κ × Value) => p.1 = q.1 ∧ RelV p.2 q.2

/-- a key of a dict (00_mix): an int or a text -/
def kV : Key → V
  | .inl i => .int i
  | .inr x => .str x

/-- what stands at a tracked address -/
inductive HO where
  /-- a list -/
  | lst (xs : List V)
  /-- a tuple (never changes) -/
  | tup (xs : List V)
  /-- a dict whose keys are ints and texts; one whose keys are tuples of ints and texts (the empty one is both) -/
  | dK (kvs : List (Key × V)) | dT (kvs : List (List Key × V))
  /-- a set of ints: its members, its size -/
  | set (S : Key → Bool) (n : Nat)
  /-- an instance of the class at C, its dict at dx, its attributes -/
  | ins (C dx : Addr) (fs : List (Str × V))
  /-- the dict of the instance at x -/
  | own (x : Addr)
  /-- the dict of an exception -/
  | xd (fs : List (Str × V))
  /-- a bound method, f of x -/
  | met (f x : Addr)
  /-- a range object lo, lo + 1, .. below hi -/
  | rng (lo hi : Int)
  /-- a thing that is known to the object (the script; a dict while a loop walks it): read, never written while it is so -/
  | frz (o : Obj) (u : HO)
  /-- a code object's table -/
  | tbl (ps : Array Value)
  /-- any other thing, by what is true of its one object (a def of one's own: SetO a S n := HO.ext fun h => ..) -/
  | ext (φ : Heap → Prop)

abbrev Hp := Addr → Option HO
def upd (H : Hp) (a : Addr) (o : HO) : Hp := fun b => if b = a then some o else H b
theorem upd_same {H : Hp} {a : Addr} {o : HO} : upd H a o a = some o := by unfold upd; rw [if_pos rfl]
theorem upd_ne {H : Hp} {a b : Addr} {o : HO} (h : b ≠ a) : upd H a o b = H b := by unfold upd; rw [if_neg h]
theorem ne_of_none {H : Hp} {a b : Addr} {o : HO} (h : H a = some o) (h' : H b = none) : a ≠ b := by
  intro e; subst e; rw [h] at h'; cases h'

/-- a tuple without a dict of its own -/
def PlainTp (h : Heap) (a : Addr) (items : Array Value) : Prop := ∃ o, h.get? a = some o ∧ o.cls = .type "tuple" ∧ o.dict = none ∧ ∃ n, o.data = .seq items n
theorem PlainTp.isTup {h : Heap} {a : Addr} {items : Array Value} (x : PlainTp h a items) : IsTup h a items := by
  obtain ⟨o, e, c, _, n, d⟩ := x
  exact ⟨o, e, c, n, d⟩
theorem PlainTp.new (h : Heap) (items : Array Value) : PlainTp (h.push { cls := .type "tuple", data := .seq items }) h.objs.size items := ⟨_, Heap.get?_push_size _ rfl, rfl, rfl, _, rfl⟩
section
variable (P : Program) (w : World)
def ObjOk (H : Hp) (h : Heap) (a : Addr) : HO → Prop
  | .lst xs => xs.length ≤ sizeLine ∧ ∃ (its : List Value) (n : Nat), Vals xs its ∧ h.get? a = some { cls := .type "list", data := .seq its.toArray n }
  | .tup xs => xs.length ≤ sizeLine ∧ ∃ its : List Value, Vals xs its ∧ PlainTp h a its.toArray
  | .dK kvs => kvs.length ≤ sizeLine ∧ (a == sysModules) = false ∧ ∃ vs, KV kvs vs ∧ h.DictOf (mixKind P w) a vs
  | .dT kvs => kvs.length ≤ sizeLine ∧ (a == sysModules) = false ∧ ∃ xs : List (List Key × Addr × Value),
      Paired (fun (p : List Key × V) (q : List Key × Addr × Value) => p.1 = q.1 ∧ H q.2.1 = some (.tup (p.1.map kV)) ∧ RelV p.2 q.2.2) kvs xs ∧
      ∃ o es ep, h.get? a = some o ∧ o.ExactDict ∧ o.data = .dict es ep ∧ es.toList = xs.map (entryOfKey (tupleKind (mixKind P w))) ∧ (xs.map (·.1)).Nodup
  | .set S n => h.SetOf (mixKind P w) a S n
  | .ins C dx fs => H dx = some (.own a) ∧ fs.length ≤ 1000 ∧ dx ≠ a ∧ h.get? a = some (PySem.W.instObj C dx) ∧
      ∃ mA, h.Ns1 dx mA ∧ (∀ f, RelO (fs.lookup f) (mA f)) ∧ PySem.Within mA (fs.map (·.1))
  | .own _ => ∃ o, h.get? a = some o
  | .xd fs => ∃ mA, h.Ns1 a mA ∧ ∀ f, RelO (fs.lookup f) (mA f)
  | .rng lo hi => ∃ t u v, h.get? a = some { cls := .type "range", data := .fields #[.int lo t, .int hi u, .int 1 v] }
  | .frz o u => h.get? a = some o ∧ ObjOk H h a u
  | .tbl ps => h.get? a = some { cls := .none, data := .fields ps }
  | .met f x => h.get? a = some (PySem.W.methodObj (.ref f) (.ref x))
  | .ext φ => φ h ∧ (∃ o, h.get? a = some o) ∧ ∀ h1 h2 : Heap, φ h1 → (∀ o, h1.get? a = some o → h2.get? a = some o) → φ h2
/-- the abstract heap is held -/
def HOk (H : Hp) (h : Heap) : Prop := ∀ a o, H a = some o → ObjOk P w H h a o
end

section
variable {P : Program} {w : World} {H H' : Hp} {h h' : Heap} {a : Addr} {o : HO}
theorem ObjOk.lt (x : ObjOk P w H h a o) : a < h.objs.size := by
  cases o with
  | lst xs => obtain ⟨_, _, _, _, e⟩ := x; exact Heap.lt_size e
  | tup xs => obtain ⟨_, _, _, p⟩ := x; exact p.isTup.lt
  | dK kvs => obtain ⟨_, _, _, _, o, _, _, e, _⟩ := x; exact Heap.lt_size e
  | dT kvs => obtain ⟨_, _, _, _, o, _, _, e, _⟩ := x; exact Heap.lt_size e
  | set S n => obtain ⟨o, _, _, _, e, _⟩ := x; exact Heap.lt_size e
  | ins C dx fs => obtain ⟨_, _, _, e, _⟩ := x; exact Heap.lt_size e
  | own y => obtain ⟨_, e⟩ := x; exact Heap.lt_size e
  | xd fs => obtain ⟨_, ⟨_, _, _, e, _⟩, _⟩ := x; exact Heap.lt_size e
  | rng lo hi => obtain ⟨_, _, _, e⟩ := x; exact Heap.lt_size e
  | frz ob u => obtain ⟨e, _⟩ := x; exact Heap.lt_size e
  | tbl ps => exact Heap.lt_size (show h.get? a = some _ from x)
  | met f y => exact Heap.lt_size (show h.get? a = some _ from x)
  | ext φ => obtain ⟨_, ⟨_, e⟩, _⟩ := x; exact Heap.lt_size e
theorem Paired.mapP {α β : Type} {F G : α → β → Prop} : ∀ {l₁ : List α} {l₂ : List β}, Paired F l₁ l₂ → (∀ a b, F a b → G a b) → Paired G l₁ l₂
  | _, _, .nil, _ => .nil
  | _, _, .cons r t, f => .cons (f _ _ r) (Paired.mapP t f)
/-- what an object's description leans on: its own object, its own dict, the tuples -/
theorem ObjOk.stay (x : ObjOk P w H h a o) (k : ∀ b u, (b = a ∨ H b = some (.own a)) → h.get? b = some u → h'.get? b = some u)
    (ho : ∀ b, H b = some (.own a) → H' b = some (.own a)) (ht : ∀ b xs, H b = some (.tup xs) → H' b = some (.tup xs)) : ObjOk P w H' h' a o := by
  induction o with
  | lst xs => obtain ⟨z, its, n, r, e⟩ := x; exact ⟨z, its, n, r, k _ _ (.inl rfl) e⟩
  | tup xs => obtain ⟨z, its, r, ob, e, c⟩ := x; exact ⟨z, its, r, ob, k _ _ (.inl rfl) e, c⟩
  | dK kvs => obtain ⟨z, y, vs, r, ob, es, ep, e, c⟩ := x; exact ⟨z, y, vs, r, ob, es, ep, k _ _ (.inl rfl) e, c⟩
  | dT kvs =>
    obtain ⟨z, y, xs, r, ob, es, ep, e, c⟩ := x
    exact ⟨z, y, xs, Paired.mapP r fun p q z => ⟨z.1, ht _ _ z.2.1, z.2.2⟩, ob, es, ep, k _ _ (.inl rfl) e, c⟩
  | set S n => obtain ⟨ob, es, ep, t, e, c⟩ := x; exact ⟨ob, es, ep, t, k _ _ (.inl rfl) e, c⟩
  | ins C dx fs =>
    obtain ⟨d, z, ne, e, mA, ⟨od, es, ep, e2, c⟩, r⟩ := x
    exact ⟨ho _ d, z, ne, k _ _ (.inl rfl) e, mA, ⟨od, es, ep, k _ _ (.inr d) e2, c⟩, r⟩
  | own y => obtain ⟨ob, e⟩ := x; exact ⟨ob, k _ _ (.inl rfl) e⟩
  | xd fs => obtain ⟨mA, ⟨od, es, ep, e, c⟩, r⟩ := x; exact ⟨mA, ⟨od, es, ep, k _ _ (.inl rfl) e, c⟩, r⟩
  | rng lo hi => obtain ⟨t, u, v, e⟩ := x; exact ⟨t, u, v, k _ _ (.inl rfl) e⟩
  | frz ob u ih => obtain ⟨e, q⟩ := x; exact ⟨k _ _ (.inl rfl) e, ih q⟩
  | tbl ps =>
    have e : h.get? a = some { cls := .none, data := .fields ps } := x
    show h'.get? a = some { cls := .none, data := .fields ps }
    exact k a _ (.inl rfl) e
  | met f y =>
    have e : h.get? a = some (PySem.W.methodObj (.ref f) (.ref y)) := x
    show h'.get? a = some (PySem.W.methodObj (.ref f) (.ref y))
    exact k a _ (.inl rfl) e
  | ext φ => obtain ⟨p, ⟨o, e⟩, st⟩ := x; exact ⟨st _ _ p fun o q => k _ _ (.inl rfl) q, ⟨o, k _ _ (.inl rfl) e⟩, st⟩
theorem HOk.lt (x : HOk P w H h) (e : H a = some o) : a < h.objs.size := (x a o e).lt
theorem HOk.fresh (x : HOk P w H h) (e : h.objs.size ≤ a) : H a = none := by
  cases q : H a with
  | none => rfl
  | some u => exact absurd (Nat.lt_of_lt_of_le (x.lt q) e) (Nat.lt_irrefl _)
/-- every object of the heap is kept -/
theorem HOk.kept (x : HOk P w H h) (k : ∀ b u, h.get? b = some u → h'.get? b = some u) : HOk P w H h' := fun a o e =>
  (x a o e).stay (fun b u _ q => k b u q) (fun _ q => q) fun _ _ q => q
/-- a new object is laid and tracked -/
theorem HOk.laid (x : HOk P w H h) (k : ∀ b u, h.get? b = some u → h'.get? b = some u) (hp : h.objs.size ≤ a) (new : ObjOk P w (upd H a o) h' a o) : HOk P w (upd H a o) h' := fun b u e => by
  have hn := x.fresh hp
  by_cases hb : b = a
  · subst hb; rw [upd_same] at e; cases e; exact new
  · rw [upd_ne hb] at e
    exact (x b u e).stay (fun c v _ q => k c v q) (fun c q => by rw [upd_ne (ne_of_none q hn)]; exact q) fun c xs q => by rw [upd_ne (ne_of_none q hn)]; exact q
end

/-- what may be read as u: it is u, or a known u -/
def Rd (H : Hp) (a : Addr) (u : HO) : Prop := H a = some u ∨ ∃ o, H a = some (.frz o u)
theorem Rd.ok {P : Program} {w : World} {H : Hp} {h : Heap} {a : Addr} {u : HO} (r : Rd H a u) (x : HOk P w H h) : ObjOk P w H h a u := by
  rcases r with r | ⟨o, r⟩
  · exact x a u r
  · obtain ⟨_, q⟩ := x a _ r
    exact q
/-- what may be written -/
def Mut : Option HO → Prop
  | some (.lst _) => True
  | some (.dK _) => True
  | some (.dT _) => True
  | some (.set _ _) => True
  | some (.ins _ _ _) => True
  | some (.ext _) => True
  | _ => False
section
variable {P : Program} {w : World} {H : Hp} {h h' : Heap} {x e : Addr} {o' : HO}
/-- the object at e is changed: x itself, or the dict of the instance x -/
theorem HOk.write (ok : HOk P w H h) (mu : Mut (H x)) (he : e = x ∨ H e = some (.own x)) (k : ∀ b u, b ≠ e → h.get? b = some u → h'.get? b = some u) (heo : ∃ u, h'.get? e = some u)
    (new : ObjOk P w (upd H x o') h' x o') : HOk P w (upd H x o') h' := fun b u q => by
  have nown : ∀ c y, H c = some (.own y) → c ≠ x := fun c y r z => by subst z; rw [r] at mu; exact mu
  have ntup : ∀ c xs, H c = some (.tup xs) → c ≠ x := fun c xs r z => by subst z; rw [r] at mu; exact mu
  by_cases hb : b = x
  · subst hb; rw [upd_same] at q; cases q; exact new
  · rw [upd_ne hb] at q
    by_cases hbe : b = e
    · have q' : H b = some (.own x) := by
        rcases he with z | z
        · exact absurd (hbe.trans z) hb
        · rw [hbe]; exact z
      rw [q] at q'; cases q'
      obtain ⟨v, hv⟩ := heo
      exact ⟨v, by rw [hbe]; exact hv⟩
    · refine (ok b u q).stay (fun c v hc r => k c v ?_ r) (fun c r => by rw [upd_ne (nown c b r)]; exact r) fun c xs r => by rw [upd_ne (ntup c xs r)]; exact r
      rcases hc with rfl | hc
      · exact hbe
      · rintro rfl
        rcases he with z | z
        · exact nown c b hc z
        · rw [hc] at z; cases z; exact hb rfl
end

/-! ### kept unless tracked; of the frames at fs (the callers') the slots may change (an exception that passes writes there); of the records at ex (iterators) nothing is said -/
structure Un (fs ex : List Addr) (H H' : Hp) (h h' : Heap) : Prop where
  keep : ∀ b o, h.get? b = some o → H b = none → b ∉ fs → b ∉ ex → h'.get? b = some o
  slot : ∀ b o, h.get? b = some o → H b = none → b ∈ fs → b ∉ ex → ∃ sl, h'.get? b = some { o with slots := sl }
  free : ∀ b o, h.get? b = some o → H b = none → b ∉ ex → H' b = none
  there : ∀ b o, h.get? b = some o → b ∉ ex → ∃ o', h'.get? b = some o'
  tups : ∀ b xs, H b = some (.tup xs) → H' b = some (.tup xs)
  frzs : ∀ b o u, H b = some (.frz o u) → H' b = some (.frz o u)
  tbls : ∀ b ps, H b = some (.tbl ps) → ∃ more, H' b = some (.tbl (ps ++ more))
section
variable {fs fs' ex ex' : List Addr} {H H1 H2 : Hp} {h h1 h2 h' : Heap} {a x e : Addr} {o : HO}
theorem Un.any (u : Un fs ex H H1 h h1) {b : Addr} {ob : Obj} (q : h.get? b = some ob) (n : H b = none) (hx : b ∉ ex) : ∃ sl, h1.get? b = some { ob with slots := sl } := by
  by_cases hb : b ∈ fs
  · exact u.slot b ob q n hb hx
  · exact ⟨ob.slots, u.keep b ob q n hb hx⟩
theorem Un.kept (k : ∀ b u, h.get? b = some u → h'.get? b = some u) : Un fs ex H H h h' :=
  ⟨fun b ob q _ _ _ => k b ob q, fun b ob q _ _ _ => ⟨ob.slots, k b ob q⟩, fun _ _ _ n _ => n, fun b ob q _ => ⟨ob, k b ob q⟩, fun _ _ q => q, fun _ _ _ q => q, fun _ ps q => ⟨#[], by rw [q]; simp⟩⟩
theorem Un.refl : Un fs ex H H h h := Un.kept fun _ _ q => q
theorem Un.laid (k : ∀ b u, h.get? b = some u → h'.get? b = some u) (hp : h.objs.size ≤ a) (hn : H a = none) : Un fs ex H (upd H a o) h h' where
  keep := fun b u q _ _ _ => k b u q
  slot := fun b u q _ _ _ => ⟨u.slots, k b u q⟩
  free := fun b u q n _ => by rw [upd_ne (Nat.ne_of_lt (Nat.lt_of_lt_of_le (Heap.lt_size q) hp))]; exact n
  there := fun b u q _ => ⟨u, k b u q⟩
  tups := fun b xs q => by rw [upd_ne (ne_of_none q hn)]; exact q
  frzs := fun b u xs q => by rw [upd_ne (ne_of_none q hn)]; exact q
  tbls := fun b ps q => ⟨#[], by rw [upd_ne (ne_of_none q hn), q]; simp⟩
theorem Un.write (mu : Mut (H x)) (he : e = x ∨ H e = some (.own x)) (k : ∀ b u, b ≠ e → h.get? b = some u → h'.get? b = some u) (heo : ∃ u, h'.get? e = some u) : Un fs ex H (upd H x o) h h' := by
  have hx : ∀ b, H b = none → b ≠ x := fun b n z => by subst z; rw [n] at mu; exact mu
  have hb : ∀ b, H b = none → b ≠ e := fun b n z => by
    subst z
    rcases he with r | r
    · exact hx b n r
    · rw [n] at r; cases r
  have hm : ∀ b u, H b = some u → ¬ Mut (some u) → b ≠ x := fun b u q nm z => by subst z; rw [q] at mu; exact nm mu
  refine ⟨fun b u q n _ _ => k b u (hb b n) q, fun b u q n _ _ => ⟨u.slots, k b u (hb b n) q⟩, fun b u q n _ => by rw [upd_ne (hx b n)]; exact n, fun b u q _ => ?_,
    fun b xs q => by rw [upd_ne (hm b _ q fun z => z)]; exact q, fun b u xs q => by rw [upd_ne (hm b _ q fun z => z)]; exact q, fun b ps q => ⟨#[], by rw [upd_ne (hm b _ q fun z => z), q]; simp⟩⟩
  by_cases hbe : b = e
  · subst hbe; exact heo
  · exact ⟨u, k b u hbe q⟩
end

/-! ### the heap without what is tracked -/
def trk (h : Heap) (H : Hp) : List Addr := (List.range h.objs.size).filter fun a => (H a).isSome
def hidT (h : Heap) (H : Hp) : Heap := PySem.W.hideAll h (trk h H)
theorem hidT_size (h : Heap) (H : Hp) : (hidT h H).objs.size = h.objs.size := PySem.W.hideAll_size _ _
theorem hidT_get {h : Heap} {H : Hp} {b : Addr} {o : Obj} (e : h.get? b = some o) (n : H b = none) : (hidT h H).get? b = some o :=
  PySem.W.hideAll_get _ e fun hm => by
    have q : (H b).isSome = true := (List.mem_filter.mp hm).2
    rw [n] at q; simp at q
theorem of_hidT {h : Heap} {H : Hp} {b : Addr} {o : Obj} (e : (hidT h H).get? b = some o) : h.get? b = some o ∧ H b = none := by
  have e' : h.get? b = some o := PySem.W.of_hideAll (trk h H) e
  refine ⟨e', ?_⟩
  cases q : H b with
  | none => rfl
  | some x =>
    have hm : b ∈ trk h H := List.mem_filter.mpr ⟨List.mem_range.mpr (Heap.lt_size e'), by simp [q]⟩
    have z : (hidT h H).get? b = none := PySem.W.hideAll_none (trk h H) hm
    rw [z] at e; cases e

/-! ### OpenK's ledger, filled with every new object but one -/
def allNews (g h : Heap) (L : Addr) : List (Addr × Obj) := (List.range h.objs.size).filterMap fun a => if a = L ∨ (g.get? a).isSome = true then none else (h.get? a).map fun o => (a, o)
def rest (g h : Heap) (L d : Addr) : List (Addr × Obj) := (allNews g h L).filter fun p => decide (p.1 ≠ d)
end L2

namespace L2
open PySem PySem.Spec PyProof.Rows

/-- the module's facts, over the base: the heap at the law's entry without what is tracked there -/
structure Mod (K : PySem.W.Frag) (mg : Str → Option Value) (base : Heap) : Prop where
  kin : K.In base
  glob : base.Ns mainGlobals mg
  blt : ∃ mb, base.Ns builtinsNs mb ∧ ∀ x : Str, x ≠ "__name__" → mb x = bootBuiltins x
  nolimit : base.NoLimit

/-- the context: a def's body (or a comprehension's block) running. base: fixed through the whole law; s₀, H₀: the entry; outer: the frames whose slots others may change (a def's callers); stack: all frames that run;
   ex: iterators that were made ahead of the entry and are walked here (a comprehension's); fn: the names whose cells were made at the entry (a def: all; a comprehension's block: its own); calm: not within an except suite; pn: pins that every state bears; xe: what is wanted of an exception that leaves the code -/
structure Cx where
  prog : Program
  w : World
  K : PySem.W.Frag
  mg : Str → Option Value
  base : Heap
  A : Around
  N : List Str
  s₀ : Shared
  H₀ : Hp
  env : Env
  outer : List Env
  stack : List Env
  ex : List Addr
  fn : Str → Bool
  calm : Bool
  pn : List (Addr × Obj)
  xe : Value → Shared → Prop
/-- the callers' frames -/
def frs (l : List Env) : List Addr := l.filterMap (·.frame)
abbrev Cx.fs (X : Cx) : List Addr := frs X.outer

def Vis (sc : Scope) (x : Str) : Prop := sc.names.lookup x = some .local ∨ sc.names.lookup x = some .cell ∨ sc.names.lookup x = some .free
def Loc (sc : Scope) (x : Str) : Prop := sc.names.lookup x = some .local ∨ sc.names.lookup x = some .cell
def Look (env : Env) (h : Heap) (m : Str → Option Value) (x : Str) (u : Value) : Prop :=
  (env.kindOf x = some .local ∧ m x = some u) ∨ ((env.kindOf x = some .cell ∨ env.kindOf x = some .free) ∧ ∃ c, env.cells.lookup x = some c ∧ h.IsCell c (some u))

structure Cx.Ok (X : Cx) : Prop where
  mod : Mod X.K X.mg X.base
  kind : X.env.scope.kind = .function
  glob : X.env.globals = mainGlobals
  blt : X.env.builtins = builtinsNs
  above : X.s₀.heap.objs.size ≤ X.env.locals
  inj : ∀ x y c, X.env.cells.lookup x = some c → X.env.cells.lookup y = some c → x = y
  has : ∀ x, (X.env.kindOf x = some .cell ∨ X.env.kindOf x = some .free) → ∃ c, X.env.cells.lookup x = some c
  cab : ∀ x c, X.fn x = true → X.env.cells.lookup x = some c → X.s₀.heap.objs.size ≤ c
  hd : X.calm = true → X.A.handled = none
  frames : X.A.frames = some X.stack
  stk : X.stack = X.outer ∨ (X.stack = X.env :: X.outer ∧ X.env.frame = some X.env.locals)
  exf : ∀ b ∈ X.ex, b ≠ X.env.locals ∧ ∀ x c, X.env.cells.lookup x = some c → c ≠ b
  bs : ∀ b o, X.base.get? b = some o → X.s₀.heap.get? b = some o ∧ X.H₀ b = none
  bsz : X.base.objs.size ≤ X.s₀.heap.objs.size
  noex : ∀ b o, X.base.get? b = some o → b ∉ X.ex
  exfs : ∀ b ∈ X.ex, b ∉ X.fs
  funs : X.s₀.heap.FunFrames X.base X.outer
  frf : ∀ b ∈ X.fs, X.H₀ b = none

structure Inv (X : Cx) (pins : List (Addr × Obj)) (σ : List (Option V)) (H : Hp) (s : Shared) : Prop where
  ok : X.Ok
  os : s.os = X.s₀.os
  bare : AllBare s.gens
  base : Un X.fs X.ex X.H₀ H X.s₀.heap s.heap
  loc : ∃ m, s.heap.Ns X.env.locals m ∧ ∀ (i : Nat) (x : Str) (v : V), X.N[i]? = some x → σ[i]? = some (some v) → Vis X.env.scope x → ∃ u, RelV v u ∧ Look X.env s.heap m x u
  cell : ∀ x c, X.env.cells.lookup x = some c → ∃ v, s.heap.IsCell c v
  free : H X.env.locals = none
  freeC : ∀ x c, X.env.cells.lookup x = some c → H c = none
  pin : ∀ p ∈ X.pn ++ pins, s.heap.get? p.1 = some p.2 ∧ H p.1 = none ∧ p.1 ≠ X.env.locals ∧ p.1 ∉ X.fs ∧ ∀ v, p.2.data ≠ .cell v
  hok : HOk X.prog X.w H s.heap
  len : σ.length = X.N.length

section
variable {X : Cx} {pins : List (Addr × Obj)} {σ : List (Option V)} {H H' : Hp} {s : Shared} {h' : Heap}

theorem Cx.Ok.nofr (ok : X.Ok) {b : Addr} {o : Obj} (e : X.base.get? b = some o) : b ∉ X.fs := fun hb => by
  have := (ok.funs.mem hb).1
  rw [e] at this; cases this
theorem Inv.bs (I : Inv X pins σ H s) : ∀ b o, X.base.get? b = some o → s.heap.get? b = some o ∧ H b = none := fun b o e =>
  ⟨I.base.keep b o (I.ok.bs b o e).1 (I.ok.bs b o e).2 (I.ok.nofr e) (I.ok.noex b o e), I.base.free b o (I.ok.bs b o e).1 (I.ok.bs b o e).2 (I.ok.noex b o e)⟩
theorem Inv.bk (I : Inv X pins σ H s) : ∀ b o, X.base.get? b = some o → s.heap.get? b = some o := fun b o e => (I.bs b o e).1
theorem Inv.mod (I : Inv X pins σ H s) : Mod X.K X.mg X.base := I.ok.mod
theorem Inv.kIn (I : Inv X pins σ H s) : X.K.In s.heap := I.ok.mod.kin.keeps I.bk
theorem Inv.lt (I : Inv X pins σ H s) : X.env.locals < s.heap.objs.size := let ⟨_, hn, _⟩ := I.loc; hn.lt
theorem Inv.sz (I : Inv X pins σ H s) : X.s₀.heap.objs.size ≤ s.heap.objs.size := Nat.le_trans I.ok.above (Nat.le_of_lt I.lt)
theorem Inv.nofs (I : Inv X pins σ H s) {a : Addr} (h : s.heap.objs.size ≤ a) : a ∉ X.fs := fun hb => by
  obtain ⟨_, o, ho, _⟩ := I.ok.funs.mem hb
  exact absurd (Nat.lt_of_lt_of_le (Heap.lt_size ho) (Nat.le_trans I.sz h)) (Nat.lt_irrefl _)
theorem Inv.cne (I : Inv X pins σ H s) : ∀ x c, X.env.cells.lookup x = some c → c ≠ X.env.locals := fun x c e z => by
  obtain ⟨v, o, ho, hd⟩ := I.cell x c e
  obtain ⟨m, ⟨o', es, ep, ho', hd', _⟩, _⟩ := I.loc
  rw [z, ho'] at ho; cases ho; rw [hd'] at hd; cases hd
theorem Inv.funs (I : Inv X pins σ H s) : s.heap.FunFrames X.base X.outer := by
  have all : ∀ (l : List Env), (∀ b ∈ frs l, b ∈ X.fs) → X.s₀.heap.FunFrames X.base l → s.heap.FunFrames X.base l := by
    intro l
    induction l with
    | nil => intro _ _; trivial
    | cons env r ih =>
      intro hs hl
      obtain ⟨hk, ⟨L, o, hf, hn, ho, hd⟩, hr⟩ := hl
      have hL : L ∈ X.fs := hs L (by unfold frs; rw [List.filterMap_cons, hf]; exact List.mem_cons_self)
      obtain ⟨sl, e⟩ := I.base.slot L o ho (I.ok.frf L hL) hL fun z => I.ok.exfs L z hL
      exact ⟨hk, ⟨L, _, hf, hn, e, hd⟩, ih (fun b hb => hs b (by unfold frs; rw [List.filterMap_cons, hf]; exact List.mem_cons_of_mem _ hb)) hr⟩
  exact all X.outer (fun _ hb => hb) I.ok.funs

/-- the frames that run, for a call -/
theorem Inv.stack (I : Inv X pins σ H s) : s.heap.FunFrames X.base X.stack := by
  rcases I.ok.stk with e | ⟨e, hf⟩
  · rw [e]; exact I.funs
  · rw [e]
    obtain ⟨m, hn, _⟩ := I.loc
    refine .cons (by rw [I.ok.kind]; decide) hf hn ?_ I.funs
    exact Heap.get?_none_of_le (Nat.le_trans I.ok.bsz I.ok.above)
theorem Inv.stkSub (I : Inv X pins σ H s) : ∀ b ∈ frs X.stack, b ∈ X.env.locals :: X.fs := fun b hb => by
  rcases I.ok.stk with e | ⟨e, hf⟩
  · rw [e] at hb; exact List.mem_cons_of_mem _ hb
  · rw [e] at hb
    unfold frs at hb
    rw [List.filterMap_cons, hf] at hb
    exact hb
theorem Inv.stkFree (I : Inv X pins σ H s) : ∀ b ∈ frs X.stack, H b = none := fun b hb => by
  rcases List.mem_cons.mp (I.stkSub b hb) with e | hb
  · rw [e]; exact I.free
  · obtain ⟨_, o, ho, _⟩ := I.ok.funs.mem hb
    exact I.base.free b o ho (I.ok.frf b hb) fun z => I.ok.exfs b z hb

/-- THE STEP: the untracked objects but the frame and the records at ch are kept (the callers' frames up to slots), the frame's map is kept, the new abstract heap is held -/
theorem Inv.step {g' : Array GenState} {t' : Nat} {d' : Drawn} {ch : List Addr} (I : Inv X pins σ H s)
    (hch : ∀ b ∈ ch, (b ∈ X.ex ∨ X.s₀.heap.objs.size ≤ b) ∧ b ≠ X.env.locals ∧ (∀ x c, X.env.cells.lookup x = some c → c ≠ b) ∧ ∀ p ∈ X.pn ++ pins, p.1 ≠ b)
    (keep : ∀ b o, b ≠ X.env.locals → b ∉ X.fs → b ∉ ch → s.heap.get? b = some o → H b = none → h'.get? b = some o)
    (slot : ∀ b o, b ≠ X.env.locals → b ∈ X.fs → b ∉ ch → s.heap.get? b = some o → H b = none → ∃ sl, h'.get? b = some { o with slots := sl }) (free : ∀ b o, b ∉ ch → s.heap.get? b = some o → H b = none → H' b = none)
    (there : ∀ b o, b ∉ ch → s.heap.get? b = some o → ∃ o', h'.get? b = some o')
    (tups : ∀ b xs, H b = some (.tup xs) → H' b = some (.tup xs)) (frzs : ∀ b o u, H b = some (.frz o u) → H' b = some (.frz o u)) (tbls : ∀ b ps, H b = some (.tbl ps) → ∃ more, H' b = some (.tbl (ps ++ more)))
    (ns : ∀ m, s.heap.Ns X.env.locals m → h'.Ns X.env.locals m) (hok : HOk X.prog X.w H' h') (hg : AllBare g') :
    Inv X pins σ H' { s with heap := h', gens := g', drawn := d', toks := t' } := by
  have neL : ∀ b o, X.s₀.heap.get? b = some o → b ≠ X.env.locals := fun b o e => Nat.ne_of_lt (Nat.lt_of_lt_of_le (Heap.lt_size e) I.ok.above)
  have neC : ∀ b o, X.s₀.heap.get? b = some o → b ∉ X.ex → b ∉ ch := fun b o e hx hb => by
    rcases (hch b hb).1 with z | z
    · exact hx z
    · exact absurd (Nat.lt_of_lt_of_le (Heap.lt_size e) z) (Nat.lt_irrefl _)
  have cellK : ∀ x c, X.env.cells.lookup x = some c → ∀ v, s.heap.IsCell c v → h'.IsCell c v := fun x c e v ⟨o, ho, hd⟩ => by
    have nch : c ∉ ch := fun z => (hch c z).2.2.1 x c e rfl
    by_cases hc : c ∈ X.fs
    · obtain ⟨sl, q⟩ := slot c o (I.cne x c e) hc nch ho (I.freeC x c e)
      exact ⟨_, q, hd⟩
    · exact ⟨o, keep c o (I.cne x c e) hc nch ho (I.freeC x c e), hd⟩
  refine ⟨I.ok, I.os, hg, ⟨fun b o e n hb hx => ?_, fun b o e n hb hx => ?_, fun b o e n hx => ?_, fun b o e hx => ?_, fun b xs e => tups b xs (I.base.tups b xs e), fun b o xs e => frzs b o xs (I.base.frzs b o xs e), fun b ps e => ?_⟩, ?_, fun x c e => ?_, ?_, fun x c e => ?_, fun p hp => ?_, hok, I.len⟩
  · exact keep b o (neL b o e) hb (neC b o e hx) (I.base.keep b o e n hb hx) (I.base.free b o e n hx)
  · obtain ⟨sl, e1⟩ := I.base.slot b o e n hb hx
    obtain ⟨sl', e2⟩ := slot b _ (neL b o e) hb (neC b o e hx) e1 (I.base.free b o e n hx)
    exact ⟨sl', e2⟩
  · obtain ⟨o', e1⟩ := I.base.there b o e hx
    exact free b o' (neC b o e hx) e1 (I.base.free b o e n hx)
  · obtain ⟨o', e1⟩ := I.base.there b o e hx
    exact there b o' (neC b o e hx) e1
  · obtain ⟨m1, e1⟩ := I.base.tbls b ps e
    obtain ⟨m2, e2⟩ := tbls b _ e1
    exact ⟨m1 ++ m2, by rw [e2, Array.append_assoc]⟩
  · obtain ⟨m, hn, hl⟩ := I.loc
    refine ⟨m, ns m hn, fun i x v e1 e2 e3 => ?_⟩
    obtain ⟨u, r, l⟩ := hl i x v e1 e2 e3
    refine ⟨u, r, ?_⟩
    rcases l with l | ⟨k, c, e, z⟩
    · exact .inl l
    · exact .inr ⟨k, c, e, cellK x c e _ z⟩
  · obtain ⟨v, z⟩ := I.cell x c e
    exact ⟨v, cellK x c e v z⟩
  · obtain ⟨m, ⟨o, _, _, ho, _⟩, _⟩ := I.loc
    exact free _ o (fun z => (hch _ z).2.1 rfl) ho I.free
  · obtain ⟨v, o, ho, hd⟩ := I.cell x c e
    exact free c o (fun z => (hch c z).2.2.1 x c e rfl) ho (I.freeC x c e)
  · obtain ⟨e, n, ne, nf, d⟩ := I.pin p hp
    have nch : p.1 ∉ ch := fun z => (hch p.1 z).2.2.2 p hp rfl
    exact ⟨keep p.1 p.2 ne nf nch e n, free p.1 p.2 nch e n, ne, nf, d⟩
/-- .. where the frame's own object is kept too -/
theorem Inv.un {t' : Nat} (I : Inv X pins σ H s) (u : Un X.fs [] H H' s.heap h') (hok : HOk X.prog X.w H' h') : Inv X pins σ H' { s with heap := h', toks := t' } := by
  obtain ⟨m, ⟨o, es, ep, ho, r⟩, _⟩ := id I.loc
  obtain ⟨sl, hL⟩ := u.any ho I.free (by simp)
  exact I.step (g' := s.gens) (d' := s.drawn) (ch := []) (fun _ z => nomatch z) (fun b o _ hb _ e n => u.keep b o e n hb (by simp)) (fun b o _ hb _ e n => u.slot b o e n hb (by simp)) (fun b o _ e n => u.free b o e n (by simp)) (fun b o _ e => u.there b o e (by simp)) u.tups u.frzs u.tbls (fun m' hm => by
    obtain ⟨o', es', ep', ho', r'⟩ := hm
    rw [ho] at ho'; cases ho'
    exact ⟨_, es', ep', hL, r'⟩) hok I.bare
/-- behind a call (or a comprehension's block): the slots of this frame may have changed too, the records at ch may have turned -/
theorem Inv.call {g' : Array GenState} {t' : Nat} {d' : Drawn} {ch : List Addr} (I : Inv X pins σ H s) (u : Un (frs X.stack) ch H H' s.heap h') (hok : HOk X.prog X.w H' h') (hg : AllBare g')
    (hch : ∀ b ∈ ch, (b ∈ X.ex ∨ X.s₀.heap.objs.size ≤ b) ∧ b ≠ X.env.locals ∧ (∀ x c, X.env.cells.lookup x = some c → c ≠ b) ∧ ∀ p ∈ X.pn ++ pins, p.1 ≠ b) :
    Inv X pins σ H' { s with heap := h', gens := g', drawn := d', toks := t' } := by
  obtain ⟨m, ⟨o, es, ep, ho, r⟩, _⟩ := id I.loc
  obtain ⟨sl, hL⟩ := u.any ho I.free fun z => (hch _ z).2.1 rfl
  exact I.step (ch := ch) hch (fun b o hL hb hc e n => u.keep b o e n (fun z => (List.mem_cons.mp (I.stkSub b z)).elim hL hb) hc) (fun b o _ _ hc e n => u.any e n hc) (fun b o hc e n => u.free b o e n hc) (fun b o hc e => u.there b o e hc) u.tups u.frzs u.tbls (fun m' hm => by
    obtain ⟨o', es', ep', ho', r'⟩ := hm
    rw [ho] at ho'; cases ho'
    exact ⟨_, es', ep', hL, r'⟩) hok hg
/-- an untracked record of ours (an iterator) has turned -/
theorem Inv.turned {t' : Nat} {it : Addr} (I : Inv X pins σ H s) (k : ∀ b o, b ≠ it → s.heap.get? b = some o → h'.get? b = some o) (hn : H it = none) (hL : it ≠ X.env.locals)
    (h1 : it ∈ X.ex ∨ X.s₀.heap.objs.size ≤ it) (h2 : ∀ x c, X.env.cells.lookup x = some c → c ≠ it) (h3 : ∀ p ∈ X.pn ++ pins, p.1 ≠ it) : Inv X pins σ H { s with heap := h', toks := t' } := by
  have nit : ∀ b u, H b = some u → b ≠ it := fun b u e z => by rw [z, hn] at e; cases e
  refine I.step (g' := s.gens) (d' := s.drawn) (ch := [it]) (fun b hb => ?_) (fun b o _ _ hc e _ => k b o (fun z => hc (by simp [z])) e) (fun b o _ _ hc e _ => ⟨o.slots, k b o (fun z => hc (by simp [z])) e⟩) (fun _ _ _ _ n => n)
    (fun b o hc e => ⟨o, k b o (fun z => hc (by simp [z])) e⟩) (fun _ _ e => e) (fun _ _ _ e => e) (fun b ps e => ⟨#[], by rw [e]; simp⟩) (fun m hm => ?_) (fun b u e => ?_) I.bare
  · have e : b = it := by simpa using hb
    subst e
    exact ⟨h1, hL, h2, h3⟩
  · obtain ⟨o, es, ep, ho, r⟩ := hm
    exact ⟨o, es, ep, k _ o (Ne.symm hL) ho, r⟩
  · refine (I.hok b u e).stay (fun c v hc q => k c v ?_ q) (fun _ q => q) fun _ _ q => q
    rcases hc with z | z
    · rw [z]; exact nit b u e
    · exact nit c _ z
theorem Inv.tok (I : Inv X pins σ H s) (t : Nat) : Inv X pins σ H { s with toks := t } := I.un (h' := s.heap) (t' := t) Un.refl I.hok
/-- all objects kept -/
theorem Inv.kept {t' : Nat} (I : Inv X pins σ H s) (k : ∀ b u, s.heap.get? b = some u → h'.get? b = some u) : Inv X pins σ H { s with heap := h', toks := t' } := I.un (Un.kept k) (I.hok.kept k)
/-- a new object laid and tracked -/
theorem Inv.laid {a : Addr} {o : HO} {t' : Nat} (I : Inv X pins σ H s) (k : ∀ b u, s.heap.get? b = some u → h'.get? b = some u) (hp : s.heap.objs.size ≤ a) (new : ObjOk X.prog X.w (upd H a o) h' a o) :
    Inv X pins σ (upd H a o) { s with heap := h', toks := t' } := I.un (Un.laid k hp (I.hok.fresh hp)) (I.hok.laid k hp new)
/-- an object written -/
theorem Inv.write {x e : Addr} {o : HO} {t' : Nat} (I : Inv X pins σ H s) (mu : Mut (H x)) (he : e = x ∨ H e = some (.own x)) (k : ∀ b u, b ≠ e → s.heap.get? b = some u → h'.get? b = some u) (heo : ∃ u, h'.get? e = some u)
    (new : ObjOk X.prog X.w (upd H x o) h' x o) : Inv X pins σ (upd H x o) { s with heap := h', toks := t' } := I.un (Un.write mu he k heo) (I.hok.write mu he k heo new)
/-- forgetting slots, pins -/
theorem Inv.weak {σ' : List (Option V)} (I : Inv X pins σ H s) (hl : σ'.length = σ.length) (w : ∀ (i : Nat) v, σ'[i]? = some (some v) → σ[i]? = some (some v)) : Inv X pins σ' H s :=
  ⟨I.ok, I.os, I.bare, I.base, let ⟨m, hn, hl'⟩ := I.loc; ⟨m, hn, fun i x v e1 e2 e3 => hl' i x v e1 (w i v e2) e3⟩, I.cell, I.free, I.freeC, I.pin, I.hok, hl.trans I.len⟩
theorem Inv.pins_of {pins' : List (Addr × Obj)} (I : Inv X pins σ H s) (h : ∀ p ∈ pins', s.heap.get? p.1 = some p.2 ∧ H p.1 = none ∧ p.1 ≠ X.env.locals ∧ p.1 ∉ X.fs ∧ ∀ v, p.2.data ≠ .cell v) : Inv X pins' σ H s :=
  ⟨I.ok, I.os, I.bare, I.base, I.loc, I.cell, I.free, I.freeC, fun p hp => (List.mem_append.mp hp).elim (fun z => I.pin p (List.mem_append_left _ z)) (h p), I.hok, I.len⟩

theorem nodup_ix {N : List Str} (hN : N.Nodup) {i j : Nat} {x : Str} (a : N[i]? = some x) (b : N[j]? = some x) : i = j := by
  obtain ⟨h1, e1⟩ := List.getElem?_eq_some_iff.mp a
  obtain ⟨h2, e2⟩ := List.getElem?_eq_some_iff.mp b
  exact (List.getElem_inj hN).mp (e1.trans e2.symm)

/-- a name is stored; what changed -/
theorem store_ok2 {M : Model} {A : Around} {E : Value → Shared → Prop} {i : Nat} {x : Str} {v : V} {u : Value} {Q : Unit → Shared → Prop} (I : Inv X pins σ H s) (hN : X.N.Nodup) (hi : X.N[i]? = some x) (hx : Loc X.env.scope x) (r : RelV v u)
    (h : ∀ s', Inv X pins (σ.set i (some v)) H s' → (∃ a, Heap.SameBut a s.heap s'.heap ∧ (a = X.env.locals ∨ X.env.cells.lookup x = some a)) → Q () s') (hf : X.fn x = true ∨ X.env.scope.names.lookup x = some .local := by first | exact .inl rfl | exact .inr rfl | assumption) : wpAny M A (storeName X.env x u) Q E s := by
  obtain ⟨m, hn, hl⟩ := id I.loc
  have hcls : (X.env.scope.kind == .class || (X.env.scope.kind == .module && X.env.locals != X.env.globals)) = false := by rw [I.ok.kind]; rfl
  have hiσ : i < σ.length := by rw [I.len]; exact (List.getElem?_eq_some_iff.mp hi).1
  have cne := I.cne
  have tracked : ∀ {a : Addr} {h' : Heap}, (∃ o, s.heap.get? a = some o ∧ H a = none) → Heap.SameBut a s.heap h' → HOk X.prog X.w H h' := fun {a h'} ha hs b ob e => by
    obtain ⟨_, _, hfree⟩ := ha
    refine (I.hok b ob e).stay (fun c w' hc q => (hs.2 c ?_).trans q) (fun _ q => q) fun _ _ q => q
    rintro rfl
    rcases hc with rfl | hc
    · rw [hfree] at e; cases e
    · rw [hfree] at hc; cases hc
  rcases hx with hk | hk
  · refine wpAny_storeName_local hk hn (fun h' hn' hs => ?_) hcls
    obtain ⟨oL, _, _, hoL, _⟩ := id hn
    refine h _ ⟨I.ok, I.os, I.bare, ⟨fun b o e n hb hx => ?_, fun b o e n hb hx => ?_, I.base.free, fun b o e hx => ?_, I.base.tups, I.base.frzs, I.base.tbls⟩, ⟨_, hn', fun j y v' e1 e2 e3 => ?_⟩, fun y c e => ?_, I.free, I.freeC, fun p hp => ?_, tracked ⟨oL, hoL, I.free⟩ hs, by simpa using I.len⟩ ⟨_, hs, .inl rfl⟩
    · exact (hs.2 b (Nat.ne_of_lt (Nat.lt_of_lt_of_le (Heap.lt_size e) I.ok.above))).trans (I.base.keep b o e n hb hx)
    · obtain ⟨sl, e1⟩ := I.base.slot b o e n hb hx
      exact ⟨sl, (hs.2 b (Nat.ne_of_lt (Nat.lt_of_lt_of_le (Heap.lt_size e) I.ok.above))).trans e1⟩
    · obtain ⟨o', e1⟩ := I.base.there b o e hx
      exact ⟨o', (hs.2 b (Nat.ne_of_lt (Nat.lt_of_lt_of_le (Heap.lt_size e) I.ok.above))).trans e1⟩
    · by_cases hj : j = i
      · subst hj
        rw [hi] at e1; cases e1
        rw [List.getElem?_set_self hiσ] at e2
        cases e2
        exact ⟨u, r, .inl ⟨hk, by simp⟩⟩
      · rw [List.getElem?_set_ne (Ne.symm hj)] at e2
        obtain ⟨u', r', q⟩ := hl j y v' e1 e2 e3
        refine ⟨u', r', ?_⟩
        rcases q with ⟨k, e⟩ | ⟨k, c, e, z⟩
        · refine .inl ⟨k, ?_⟩
          have : y ≠ x := fun e => hj (nodup_ix hN e1 (e ▸ hi))
          simp [this, e]
        · exact .inr ⟨k, c, e, z.sameBut hs (cne y c e)⟩
    · obtain ⟨w', z⟩ := I.cell y c e
      exact ⟨w', z.sameBut hs (cne y c e)⟩
    · obtain ⟨e, n, ne, nf, d⟩ := I.pin p hp
      exact ⟨(hs.2 p.1 ne).trans e, n, ne, nf, d⟩
  · have hfn : X.fn x = true := by
      rcases hf with z | z
      · exact z
      · rw [z] at hk; cases hk
    obtain ⟨c, hc⟩ := I.ok.has x (.inl hk)
    obtain ⟨w', z⟩ := I.cell x c hc
    refine wpAny_storeName_cell I.ok.kind hk hc z (fun h' hc' hs => ?_)
    obtain ⟨oc, hoc, hocd⟩ := id z
    refine h { s with heap := h' } ⟨I.ok, I.os, I.bare, ⟨fun b o e n hb hx => ?_, fun b o e n hb hx => ?_, I.base.free, fun b o e hx => ?_, I.base.tups, I.base.frzs, I.base.tbls⟩, ⟨m, hn.sameBut hs (Ne.symm (cne x c hc)), fun j y v' e1 e2 e3 => ?_⟩, fun y c' e => ?_, I.free, I.freeC, fun p hp => ?_, tracked ⟨oc, hoc, I.freeC x c hc⟩ hs, by simpa using I.len⟩ ⟨c, hs, .inr hc⟩
    · exact (hs.2 b (Nat.ne_of_lt (Nat.lt_of_lt_of_le (Heap.lt_size e) (I.ok.cab x c hfn hc)))).trans (I.base.keep b o e n hb hx)
    · obtain ⟨sl, e1⟩ := I.base.slot b o e n hb hx
      exact ⟨sl, (hs.2 b (Nat.ne_of_lt (Nat.lt_of_lt_of_le (Heap.lt_size e) (I.ok.cab x c hfn hc)))).trans e1⟩
    · obtain ⟨o', e1⟩ := I.base.there b o e hx
      exact ⟨o', (hs.2 b (Nat.ne_of_lt (Nat.lt_of_lt_of_le (Heap.lt_size e) (I.ok.cab x c hfn hc)))).trans e1⟩
    · by_cases hj : j = i
      · subst hj
        rw [hi] at e1; cases e1
        rw [List.getElem?_set_self hiσ] at e2
        cases e2
        exact ⟨u, r, .inr ⟨.inl hk, c, hc, hc'⟩⟩
      · rw [List.getElem?_set_ne (Ne.symm hj)] at e2
        obtain ⟨u', r', q⟩ := hl j y v' e1 e2 e3
        refine ⟨u', r', ?_⟩
        rcases q with q | ⟨k, c', e, z'⟩
        · exact .inl q
        · refine .inr ⟨k, c', e, z'.sameBut hs ?_⟩
          rintro rfl
          exact hj (nodup_ix hN e1 (I.ok.inj _ _ _ e hc ▸ hi))
    · by_cases hcc : c' = c
      · subst hcc; exact ⟨_, hc'⟩
      · obtain ⟨w2, z2⟩ := I.cell y c' e
        exact ⟨w2, z2.sameBut hs hcc⟩
    · obtain ⟨e, n, ne, nf, d⟩ := I.pin p hp
      refine ⟨(hs.2 p.1 ?_).trans e, n, ne, nf, d⟩
      intro q
      rw [q, hoc] at e
      have q' : oc = p.2 := Option.some.inj e
      exact d w' (by rw [← q']; exact hocd)
theorem store_ok {M : Model} {A : Around} {E : Value → Shared → Prop} {i : Nat} {x : Str} {v : V} {u : Value} {Q : Unit → Shared → Prop} (I : Inv X pins σ H s) (hN : X.N.Nodup) (hi : X.N[i]? = some x) (hx : Loc X.env.scope x) (r : RelV v u)
    (h : ∀ s', Inv X pins (σ.set i (some v)) H s' → Q () s') (hf : X.fn x = true ∨ X.env.scope.names.lookup x = some .local := by first | exact .inl rfl | exact .inr rfl | assumption) : wpAny M A (storeName X.env x u) Q E s :=
  store_ok2 I hN hi hx r (fun s' I' _ => h s' I') hf
/-- behind a call or a block, the state as it is -/
theorem Inv.call' {s' : Shared} {ch : List Addr} (I : Inv X pins σ H s) (ho : s'.os = s.os) (u : Un (frs X.stack) ch H H' s.heap s'.heap) (hok : HOk X.prog X.w H' s'.heap) (hg : AllBare s'.gens)
    (hch : ∀ b ∈ ch, (b ∈ X.ex ∨ X.s₀.heap.objs.size ≤ b) ∧ b ≠ X.env.locals ∧ (∀ x c, X.env.cells.lookup x = some c → c ≠ b) ∧ ∀ p ∈ X.pn ++ pins, p.1 ≠ b) : Inv X pins σ H' s' := by
  obtain ⟨h', g', d', t', o'⟩ := s'
  have e : o' = s.os := ho
  subst e
  exact I.call (g' := g') (t' := t') (d' := d') u hok hg hch
end

/-! ### the judgements -/
/-- an exception: its class, its own dict's address (where it has one), the abstract heap behind it -/
abbrev XK := Value → Option Addr → Hp → Prop
abbrev St := List (Option V)
abbrev VK := V → Hp → Prop
/-- an expression's reading; a test's; an argument list's -/
abbrev TE := St → Hp → VK → Prop
abbrev TT := St → Hp → (Bool → Hp → Prop) → Prop
abbrev TA := St → Hp → (List V → Hp → Prop) → Prop
/-- what is wanted behind a statement -/
structure Ends where
  nx : St → Hp → Prop
  rt : VK
  bk : St → Hp → Prop := fun _ _ => False
  ct : St → Hp → Prop := fun _ _ => False
abbrev TS := Ends → St → Hp → Prop

def EP (X : Cx) (pins : List (Addr × Obj)) (σ : St) (Q : VK) (u : Value) (s' : Shared) : Prop := ∃ v H', Inv X pins σ H' s' ∧ RelV v u ∧ Q v H'
def TP (X : Cx) (pins : List (Addr × Obj)) (σ : St) (Q : Bool → Hp → Prop) (b : Bool) (s' : Shared) : Prop := ∃ H', Inv X pins σ H' s' ∧ Q b H'
def AP (X : Cx) (pins : List (Addr × Obj)) (σ : St) (Q : List V → Hp → Prop) (us : List Value) (s' : Shared) : Prop := ∃ vs H', Inv X pins σ H' s' ∧ Vals vs us ∧ Q vs H'
def SP (X : Cx) (pins : List (Addr × Obj)) (D : Ends) (f : Flow) (s' : Shared) : Prop :=
  match f with
  | .next => ∃ σ' H', Inv X pins σ' H' s' ∧ D.nx σ' H'
  | .brk => ∃ σ' H', Inv X pins σ' H' s' ∧ D.bk σ' H'
  | .cont => ∃ σ' H', Inv X pins σ' H' s' ∧ D.ct σ' H'
  | .ret u => ∃ v σ' H', Inv X pins σ' H' s' ∧ RelV v u ∧ D.rt v H'

def PE (X : Cx) (e : Expr) (t : TE) : Prop :=
  ∀ (pins : List (Addr × Obj)) (s : Shared) (σ : St) (H : Hp) (Q : VK), Inv X pins σ H s → t σ H Q → wpAny (model X.prog X.w) X.A (eval e X.env) (EP X pins σ Q) X.xe s
def PT (X : Cx) (e : Expr) (t : TT) : Prop :=
  ∀ (pins : List (Addr × Obj)) (s : Shared) (σ : St) (H : Hp) (Q : Bool → Hp → Prop), Inv X pins σ H s → t σ H Q → wpAny (model X.prog X.w) X.A (isTrue e X.env (eval e X.env)) (TP X pins σ Q) X.xe s
/-- a test whatever its 'whole' is (and, or) -/
def PW (X : Cx) (e : Expr) (t : TT) : Prop :=
  ∀ (whole : Sem Value) (pins : List (Addr × Obj)) (s : Shared) (σ : St) (H : Hp) (Q : Bool → Hp → Prop), Inv X pins σ H s → t σ H Q → wpAny (model X.prog X.w) X.A (isTrue e X.env whole) (TP X pins σ Q) X.xe s
theorem PW.pt {X : Cx} {e : Expr} {t : TT} (h : PW X e t) : PT X e t := h _
/-- an argument list (no star), from the left -/
def PA (X : Cx) (es : List Expr) (t : TA) : Prop :=
  ∀ (pos : Pos) (pins : List (Addr × Obj)) (s : Shared) (σ : St) (H : Hp) (Q : List V → Hp → Prop), Inv X pins σ H s → t σ H Q → wpAny (model X.prog X.w) X.A (spliced (backTo pos (starEach es X.env))) (AP X pins σ Q) X.xe s
def PS (X : Cx) (st : Stmt) (t : TS) : Prop :=
  ∀ (pins : List (Addr × Obj)) (s : Shared) (σ : St) (H : Hp) (D : Ends), Inv X pins σ H s → t D σ H → wpAny (model X.prog X.w) X.A (exec st X.env) (SP X pins D) X.xe s
def PSs (X : Cx) (st : List Stmt) (t : TS) : Prop :=
  ∀ (pins : List (Addr × Obj)) (s : Shared) (σ : St) (H : Hp) (D : Ends), Inv X pins σ H s → t D σ H → wpAny (model X.prog X.w) X.A (execs st X.env) (SP X pins D) X.xe s
/-- weaken the end -/
theorem thn {α : Type} {t : Sem α} {Q Q' : α → Shared → Prop} {M : Model} {A : Around} {E : Value → Shared → Prop} {s : Shared} (h : wpAny M A t Q E s) (hQ : ∀ a s, Q a s → Q' a s) : wpAny M A t Q' E s := wpAny_mono h hQ fun _ _ x => x
end L2

namespace L2
open PySem PySem.Spec PyProof.Rows
section
variable {X : Cx}

/-! ### names and constants -/
def tVar (i : Nat) : TE := fun σ H Q => ∃ v, σ[i]? = some (some v) ∧ Q v H
def tC (v : V) : TE := fun _ H Q => Q v H
theorem pe_var {i : Nat} {x : Str} {pos : Pos} (hN : X.N[i]? = some x) (hv : Vis X.env.scope x) (hd : (x == ("__debug__" : Str)) = false := by decide) (hcd : (x == ("__classdict__" : Str)) = false := by decide) : PE X (.Name x pos) (tVar i) := by
  intro pins s σ H Q I h
  obtain ⟨v, e, h⟩ := h
  obtain ⟨m, hn, hl⟩ := I.loc
  obtain ⟨u, r, l⟩ := hl i x v hN e hv
  have fin : EP X pins σ Q u s := ⟨v, H, I, r, h⟩
  rcases l with ⟨hk, hm⟩ | ⟨hk, c, hc, hcell⟩
  · exact wpAny_Name (wpAny_loadName_local I.ok.kind hk hn hm fin) hd
  · rcases hk with hk | hk
    · exact wpAny_Name (wpAny_loadName_cell I.ok.kind hk hc hcell fin) hd
    · exact wpAny_Name (wpAny_loadName_free I.ok.kind hk hc hcell fin hcd) hd
theorem pe_int {i j pos} : PE X (.Constant (.int i) j pos) (tC (.int i)) := fun _ _ _ H _ I h => wpAny_Constant_int ⟨.int i, H, I.tok _, ⟨_, rfl⟩, h⟩
theorem pe_bl {b j pos} : PE X (.Constant (.bool b) j pos) (tC (.bl b)) := fun _ _ _ H _ I h => Constant_bool ⟨.bl b, H, I, rfl, h⟩
theorem pe_non {j pos} : PE X (.Constant .none j pos) (tC .non) := fun _ _ _ H _ I h => Constant_none ⟨.non, H, I, rfl, h⟩
theorem pe_str {x j pos} : PE X (.Constant (.str x) j pos) (tC (.str x)) := fun _ _ _ H _ I h => Calls.Constant_str ⟨.str x, H, I.tok _, ⟨_, rfl⟩, h⟩

/-- a global name of the def -/
def Gl (X : Cx) (x : Str) : Prop := X.env.kindOf x = some .globalImplicit
theorem ld_glob {E : Value → Shared → Prop} {pins : List (Addr × Obj)} {s : Shared} {σ : St} {H : Hp} {x : Str} {u : Value} {pos : Pos} {Q : Value → Shared → Prop} (I : Inv X pins σ H s) (hg : Gl X x) (hm : X.mg x = some u) (h : Q u s)
    (hd : (x == ("__debug__" : Str)) = false := by decide) : wpAny (model X.prog X.w) X.A (eval (.Name x pos) X.env) Q E s :=
  Calls.Name_function_global I.ok.kind hg (Calls.loadGlobal_global (by rw [I.ok.glob]; exact I.mod.glob.keeps I.bk) hm h) hd
theorem ld_blt {E : Value → Shared → Prop} {pins : List (Addr × Obj)} {s : Shared} {σ : St} {H : Hp} {x : Str} {u : Value} {pos : Pos} {Q : Value → Shared → Prop} (I : Inv X pins σ H s) (hg : Gl X x) (hm : X.mg x = none) (hv : bootBuiltins x = some u) (h : Q u s)
    (hn : x ≠ "__name__" := by decide) (hd : (x == ("__debug__" : Str)) = false := by decide) : wpAny (model X.prog X.w) X.A (eval (.Name x pos) X.env) Q E s := by
  obtain ⟨mb, h1, h2⟩ := I.mod.blt
  exact Calls.Name_function_global I.ok.kind hg (Calls.loadGlobal_builtin (by rw [I.ok.glob]; exact I.mod.glob.keeps I.bk) hm (by rw [I.ok.blt]; exact h1.keeps I.bk) ((h2 x hn).trans hv) h) hd
/-- a module's constant, a class, a function, as a value -/
theorem pe_glob {x : Str} {v : V} {u : Value} {pos : Pos} (hg : Gl X x) (hm : X.mg x = some u) (r : RelV v u) (hd : (x == ("__debug__" : Str)) = false := by decide) : PE X (.Name x pos) (tC v) :=
  fun _ _ _ H _ I h => ld_glob I hg hm ⟨v, H, I, r, h⟩ hd
theorem pe_bltn {x : Str} {v : V} {u : Value} {pos : Pos} (hg : Gl X x) (hm : X.mg x = none) (hv : bootBuiltins x = some u) (r : RelV v u) (hn : x ≠ "__name__" := by decide) (hd : (x == ("__debug__" : Str)) = false := by decide) : PE X (.Name x pos) (tC v) :=
  fun _ _ _ H _ I h => ld_blt I hg hm hv ⟨v, H, I, r, h⟩ hn hd

/-! ### arithmetic -/
variable {a b : Expr} {ta tb : TE} {pos : Pos}
/-! ### comparisons -/
/-! ### and, or, not -/
variable {tA tB' : TT} {rest : List Expr}
def tAnd (t u : TT) : TT := fun σ H Q => t σ H fun c H1 => if c = true then u σ H1 Q else Q false H1
def tOr (t u : TT) : TT := fun σ H Q => t σ H fun c H1 => if c = true then Q true H1 else u σ H1 Q
def tNot (t : TT) : TT := fun σ H Q => t σ H fun c H1 => Q (!c) H1
theorem pw_and1 (ha : PT X a tA) : PW X (.BoolOp .And [a] pos) tA := by
  intro wh pins s σ H Q I h
  refine isTrue_and (thn (ha pins s σ H Q I h) fun c s1 e => ?_)
  cases c with
  | true => exact isTrue_and_nil e
  | false => exact e
theorem pw_or1 (ha : PT X a tA) : PW X (.BoolOp .Or [a] pos) tA := by
  intro wh pins s σ H Q I h
  refine isTrue_or (thn (ha pins s σ H Q I h) fun c s1 e => ?_)
  cases c with
  | false => exact isTrue_or_nil e
  | true => exact e
theorem pw_and (ha : PT X a tA) (hb : PW X (.BoolOp .And (b :: rest) pos) tB') : PW X (.BoolOp .And (a :: b :: rest) pos) (tAnd tA tB') := by
  intro wh pins s σ H Q I h
  refine isTrue_and (thn (ha pins s σ H _ I h) fun c s1 ⟨H1, I1, q1⟩ => ?_)
  cases c with
  | true => exact hb wh pins s1 σ H1 Q I1 q1
  | false => exact ⟨H1, I1, q1⟩
theorem pw_or (ha : PT X a tA) (hb : PW X (.BoolOp .Or (b :: rest) pos) tB') : PW X (.BoolOp .Or (a :: b :: rest) pos) (tOr tA tB') := by
  intro wh pins s σ H Q I h
  refine isTrue_or (thn (ha pins s σ H _ I h) fun c s1 ⟨H1, I1, q1⟩ => ?_)
  cases c with
  | true => exact ⟨H1, I1, q1⟩
  | false => exact hb wh pins s1 σ H1 Q I1 q1
theorem pt_not (ha : PT X a tA) : PT X (.UnaryOp .Not a pos) (tNot tA) := by
  intro pins s σ H Q I h
  exact isTrue_not (ha pins s σ H (fun c H1 => Q (!c) H1) I h)
/-- .. as values (bools) -/
def tAndV (ta tb : TE) : TE := fun σ H Q => ta σ H fun x H1 => ∃ c, x = .bl c ∧ if c = true then tb σ H1 Q else Q (.bl false) H1
def tOrV (ta tb : TE) : TE := fun σ H Q => ta σ H fun x H1 => ∃ c, x = .bl c ∧ if c = true then Q (.bl true) H1 else tb σ H1 Q
def tNotV (ta : TE) : TE := fun σ H Q => ta σ H fun x H1 => ∃ c, x = .bl c ∧ Q (.bl (!c)) H1
theorem pe_one {op} {t : TE} (h : PE X a t) : PE X (.BoolOp op [a] pos) t := fun pins s σ H Q I hw => BoolOp_one (h pins s σ H Q I hw)
theorem pe_and (ha : PE X a ta) (hb : PE X (.BoolOp .And (b :: rest) pos) tb) : PE X (.BoolOp .And (a :: b :: rest) pos) (tAndV ta tb) := by
  intro pins s σ H Q I h
  refine BoolOp_and (thn (ha pins s σ H _ I h) fun v s1 ⟨x, H1, I1, r1, q1⟩ => ?_)
  obtain ⟨c, rfl, q1⟩ := q1
  cases r1
  refine wpAny_truthy_bool ?_
  cases c with
  | true => exact hb pins s1 σ H1 Q I1 q1
  | false => exact ⟨.bl false, H1, I1, rfl, q1⟩
theorem pe_or (ha : PE X a ta) (hb : PE X (.BoolOp .Or (b :: rest) pos) tb) : PE X (.BoolOp .Or (a :: b :: rest) pos) (tOrV ta tb) := by
  intro pins s σ H Q I h
  refine BoolOp_or (thn (ha pins s σ H _ I h) fun v s1 ⟨x, H1, I1, r1, q1⟩ => ?_)
  obtain ⟨c, rfl, q1⟩ := q1
  cases r1
  refine wpAny_truthy_bool ?_
  cases c with
  | false => exact hb pins s1 σ H1 Q I1 q1
  | true => exact ⟨.bl true, H1, I1, rfl, q1⟩
theorem pe_not (ha : PE X a ta) : PE X (.UnaryOp .Not a pos) (tNotV ta) := by
  intro pins s σ H Q I h
  refine UnaryOp_ (thn (ha pins s σ H _ I h) fun v s1 ⟨x, H1, I1, r1, q1⟩ => ?_)
  obtain ⟨c, rfl, q1⟩ := q1
  cases r1
  exact not_of (wpAny_truthy_bool ⟨.bl (!c), H1, I1, rfl, q1⟩)
end
end L2

namespace L2
open PySem PySem.Spec PyProof.Rows

/-! ### a list, a tuple that is read: tracked, frozen, or an object of the module -/
def SqL (K : PySem.W.Frag) (H : Hp) (a : Addr) (xs : List V) : Prop :=
  Rd H a (.lst xs) ∨
    ∃ (o : Obj) (its : Array Value) (n : Nat), K.lookup a = some o ∧ o.cls = .type "list" ∧ o.dict = none ∧ o.data = .seq its n ∧ its.size ≤ sizeLine ∧ Vals xs its.toList
def SqT (K : PySem.W.Frag) (H : Hp) (a : Addr) (xs : List V) : Prop :=
  Rd H a (.tup xs) ∨
    ∃ (o : Obj) (its : Array Value) (n : Nat), K.lookup a = some o ∧ o.cls = .type "tuple" ∧ o.dict = none ∧ o.data = .seq its n ∧ its.size ≤ sizeLine ∧ Vals xs its.toList
def absV : Value → Option V
  | .none => some .non
  | .bool b => some (.bl b)
  | .int i _ => some (.int i)
  | .str x _ => some (.str x)
  | .bytes b _ => some (.byt b)
  | .float b _ => some (.flt b)
  | .ref a => some (.ref a)
  | .type n => some (.ty n)
  | _ => none
theorem RelV.abs {x : V} {u : Value} (r : RelV x u) : absV u = some x := by
  cases x with
  | non => cases r; rfl
  | bl _ => cases r; rfl
  | int _ => obtain ⟨t, rfl⟩ := r; rfl
  | str _ => obtain ⟨t, rfl⟩ := r; rfl
  | byt _ => obtain ⟨t, rfl⟩ := r; rfl
  | flt _ => obtain ⟨t, rfl⟩ := r; rfl
  | ref _ => cases r; rfl
  | ty _ => cases r; rfl
theorem RelV.inj {x y : V} {u : Value} (r : RelV x u) (q : RelV y u) : x = y := Option.some.inj (r.abs.symm.trans q.abs)
theorem Vals.inj : ∀ {xs ys : List V} {us : List Value}, Vals xs us → Vals ys us → xs = ys
  | _, _, _, .nil, .nil => rfl
  | _, _, _, .cons r t, .cons r' t' => by rw [r.inj r', Vals.inj t t']
section
variable {X : Cx} {pins : List (Addr × Obj)} {σ : St} {H : Hp} {s : Shared} {a : Addr} {xs ys : List V}
theorem SqL.of {K : PySem.W.Frag} (h : H a = some (.lst xs)) : SqL K H a xs := .inl (.inl h)
theorem SqT.of {K : PySem.W.Frag} (h : H a = some (.tup xs)) : SqT K H a xs := .inl (.inl h)
theorem Inv.list (I : Inv X pins σ H s) (h : SqL X.K H a xs) : ∃ its : List Value, Vals xs its ∧ PlainL s.heap a its.toArray ∧ xs.length ≤ sizeLine := by
  rcases h with h | ⟨o, its, n, hk, hc, hd, hs, hz, r⟩
  · obtain ⟨z, its, n, r, e⟩ := h.ok I.hok
    exact ⟨its, r, ⟨_, n, e, rfl, rfl, rfl⟩, z⟩
  · refine ⟨its.toList, r, ⟨o, n, I.kIn a o hk, hc, hd, by simpa using hs⟩, ?_⟩
    have e := r.length
    simp only [Array.length_toList] at e
    omega
theorem Inv.tuple (I : Inv X pins σ H s) (h : SqT X.K H a xs) : ∃ its : List Value, Vals xs its ∧ IsTup s.heap a its.toArray ∧ xs.length ≤ sizeLine := by
  rcases h with h | ⟨o, its, n, hk, hc, hdt, hs, hz, r⟩
  · obtain ⟨z, its, r, p⟩ := h.ok I.hok
    exact ⟨its, r, p.isTup, z⟩
  · refine ⟨its.toList, r, ⟨o, I.kIn a o hk, hc, n, by simpa using hs⟩, ?_⟩
    have e := r.length
    simp only [Array.length_toList] at e
    omega
theorem Inv.list_inj (I : Inv X pins σ H s) (h : SqL X.K H a xs) (h' : SqL X.K H a ys) : xs = ys := by
  obtain ⟨its, r, ⟨o, n, e, _, _, d⟩, _⟩ := I.list h
  obtain ⟨its', r', ⟨o', n', e', _, _, d'⟩, _⟩ := I.list h'
  rw [e] at e'; cases e'
  rw [d] at d'
  injection d' with d1 _
  have : its = its' := by simpa using congrArg Array.toList d1
  subst this
  exact r.inj r'
theorem Inv.tuple_inj (I : Inv X pins σ H s) (h : SqT X.K H a xs) (h' : SqT X.K H a ys) : xs = ys := by
  obtain ⟨its, r, ⟨o, e, _, n, d⟩, _⟩ := I.tuple h
  obtain ⟨its', r', ⟨o', e', _, n', d'⟩, _⟩ := I.tuple h'
  rw [e] at e'; cases e'
  rw [d] at d'
  injection d' with d1 _
  have : its = its' := by simpa using congrArg Array.toList d1
  subst this
  exact r.inj r'
end

/-! ### another wish about exceptions -/
abbrev Cx.wish (X : Cx) (E : Value → Shared → Prop) : Cx := { X with xe := E }
section
variable {X : Cx} {pins : List (Addr × Obj)} {σ : St} {H : Hp} {s : Shared} {E : Value → Shared → Prop}
end

/-! ### blocks and small statements -/
section
variable {X : Cx} {st : Stmt} {rest : List Stmt} {t u : TS} {e : Expr} {te : TE} {pos : Pos}
def tNext : TS := fun D σ H => D.nx σ H
def tSeq (t u : TS) : TS := fun D σ H => t { D with nx := u D } σ H
theorem pss_nil : PSs X [] tNext := fun _ _ σ H _ I h => wpAny_execs_nil ⟨σ, H, I, h⟩
theorem pss_cons (h1 : PS X st t) (h2 : PSs X rest u) : PSs X (st :: rest) (tSeq t u) := by
  intro pins s σ H D I h
  refine wpAny_execs_cons (thn (h1 pins s σ H { D with nx := u D } I h) fun f s1 q => ?_)
  cases f with
  | next =>
    obtain ⟨σ', H', I', q⟩ := q
    exact h2 pins s1 σ' H' D I' q
  | ret v => exact q
  | brk => exact q
  | cont => exact q
/-- in a def's body nothing is shown -/
theorem Inv.quiet {pins : List (Addr × Obj)} {σ : St} {H : Hp} {s : Shared} (I : Inv X pins σ H s) : interactive X.env = false := by simp [interactive, I.ok.kind]
/-- an expression whose value is dropped -/
def tDrop (te : TE) : TS := fun D σ H => te σ H fun _ H1 => D.nx σ H1
theorem ps_expr (he : PE X e te) (hs : swapsWith e none pos.line X.env = pure false := by rfl) : PS X (.Expr e pos) (tDrop te) := by
  intro pins s σ H D I h
  exact wpAny_Expr_any (thn (he pins s σ H _ I h) fun v s1 ⟨x, H1, I1, r1, q1⟩ => ⟨σ, H1, I1, q1⟩) I.quiet hs
def tRet (te : TE) : TS := fun D σ H => te σ H D.rt
theorem ps_ret (he : PE X e te) : PS X (.Return (some e) pos) (tRet te) := by
  intro pins s σ H D I h
  exact wpAny_Return_some (thn (he pins s σ H _ I h) fun v s1 ⟨x, H1, I1, r1, q1⟩ => ⟨x, σ, H1, I1, r1, q1⟩)
def tIfS (c : TT) (t u : TS) : TS := fun D σ H => c σ H fun b H1 => if b = true then t D σ H1 else u D σ H1
theorem ps_if {c : Expr} {a b : List Stmt} {tc : TT} (hc : PT X c tc) (ha : PSs X a t) (hb : PSs X b u) : PS X (.If c a b pos) (tIfS tc t u) := by
  intro pins s σ H D I h
  refine wpAny_If (thn (hc pins s σ H _ I h) fun d s1 ⟨H1, I1, q1⟩ => ?_)
  cases d with
  | true => exact ha pins s1 σ H1 D I1 q1
  | false => exact hb pins s1 σ H1 D I1 q1
end

/-! ### targets -/
abbrev TG := V → St → Hp → (St → Hp → Prop) → Prop
abbrev TGs := List V → St → Hp → (St → Hp → Prop) → Prop
def PG (X : Cx) (target : Expr) (t : TG) : Prop :=
  ∀ (pins : List (Addr × Obj)) (s : Shared) (σ : St) (H : Hp) (v : V) (u : Value) (Q : St → Hp → Prop), Inv X pins σ H s → RelV v u → t v σ H Q →
    wpAny (model X.prog X.w) X.A (assign target X.env u) (fun _ s' => ∃ σ' H', Inv X pins σ' H' s' ∧ Q σ' H') X.xe s
/-- several targets, one after another -/
def PGs (X : Cx) (ts : List Expr) (t : TGs) : Prop :=
  ∀ (pins : List (Addr × Obj)) (s : Shared) (σ : St) (H : Hp) (vs : List V) (us : List Value) (Q : St → Hp → Prop), Inv X pins σ H s → Vals vs us → t vs σ H Q →
    wpAny (model X.prog X.w) X.A (assignInOrder ((assignEach ts X.env).map (·.2)) us) (fun _ s' => ∃ σ' H', Inv X pins σ' H' s' ∧ Q σ' H') X.xe s
section
variable {X : Cx} {pos : Pos}
def gName (i : Nat) : TG := fun v σ H Q => Q (σ.set i (some v)) H
theorem pg_name {i : Nat} {x : Str} (hN : X.N.Nodup) (hi : X.N[i]? = some x) (hx : Loc X.env.scope x) (hf : X.fn x = true ∨ X.env.scope.names.lookup x = some .local := by first | exact .inl rfl | exact .inr rfl | assumption) : PG X (.Name x pos) (gName i) := by
  intro pins s σ H v u Q I r h
  exact wpAny_assign_Name (store_ok I hN hi hx r (fun s' I' => ⟨_, H, I', h⟩) hf)
def gNil : TGs := fun vs σ H Q => vs = [] ∧ Q σ H
def gCons (t : TG) (u : TGs) : TGs := fun vs σ H Q => ∃ v r, vs = v :: r ∧ t v σ H fun σ' H' => u r σ' H' Q
theorem pgs_nil : PGs X [] gNil := by
  intro pins s σ H vs us Q I r h
  obtain ⟨e, h⟩ := h
  subst e
  cases r
  exact assignInOrder_nil ⟨σ, H, I, h⟩
theorem pgs_cons {e : Expr} {es : List Expr} {t : TG} {u : TGs} (h1 : PG X e t) (h2 : PGs X es u)
    (hs : (assignEach (e :: es) X.env).map (·.2) = assign e X.env :: (assignEach es X.env).map (·.2) := by rfl) : PGs X (e :: es) (gCons t u) := by
  intro pins s σ H vs us Q I r h
  obtain ⟨v, vr, e1, h⟩ := h
  subst e1
  cases r with
  | cons r rr =>
    rw [hs]
    refine assignInOrder_cons (thn (h1 pins s σ H _ _ _ I r h) fun _ s1 ⟨σ1, H1, I1, q1⟩ => ?_)
    exact h2 pins s1 σ1 H1 _ _ Q I1 rr q1
/-- (a, b, ..) = a tuple of that length -/
def gTup (K : PySem.W.Frag) (n : Nat) (t : TGs) : TG := fun v σ H Q => ∃ a xs, v = .ref a ∧ SqT K H a xs ∧ xs.length = n ∧ t xs σ H Q
theorem pg_tup {es : List Expr} {k : Nat} {t : TGs} {n : Nat} (hc : X.calm = true) (h : PGs X es t)
    (hn : (assignEach es X.env).length = n := by rfl) (hst : (assignEach es X.env).findIdx? (·.1) = none := by rfl) : PG X (.Tuple es k pos) (gTup X.K n t) := by
  intro pins s σ H v u Q I r hw
  obtain ⟨a, xs, e1, hq, hl, hw⟩ := hw
  subst e1
  cases r
  obtain ⟨its, rv, ht, hz⟩ := I.tuple hq
  refine assign_Tuple_tuple (I.ok.hd hc) ht (by simp [hn, ← hl, rv.length]) hst fun h' hx => ?_
  have I1 : Inv X pins σ H { s with heap := h' } := I.kept (t' := s.toks) fun b o e => hx b o (Nat.ne_of_lt (Heap.lt_size e)) e
  exact h pins _ σ H xs _ Q I1 (by simpa using rv) hw
/-- target = value -/
def tAsg (te : TE) (g : TG) : TS := fun D σ H => te σ H fun x H1 => g x σ H1 D.nx
/-- name = value -/
theorem ps_set {i : Nat} {x : Str} {e : Expr} {te : TE} {pos' : Pos} (hN : X.N.Nodup) (hi : X.N[i]? = some x) (hx : Loc X.env.scope x) (he : PE X e te) (hs : swapsWith e (some (.Name x pos')) pos.line X.env = pure false := by rfl) (hf : X.fn x = true ∨ X.env.scope.names.lookup x = some .local := by first | exact .inl rfl | exact .inr rfl | assumption) :
    PS X (.Assign [.Name x pos'] e pos) (tAsg te (gName i)) := by
  intro pins s σ H D I h
  refine wpAny_Assign_Name (thn (he pins s σ H _ I h) fun v s1 ⟨y, H1, I1, r1, q1⟩ => ?_) hs
  exact store_ok I1 hN hi hx r1 (fun s2 I2 => ⟨_, H1, I2, q1⟩) hf
end

/-! ### while -/
section
variable {X : Cx} {pos : Pos}
end

/-! ### what a loop or a comprehension walks -/
/-- at turn i: it yields x (the heap may grow), or it stops -/
structure It where
  go : Nat → Hp → Prop
  yld : Nat → Hp → V → Hp → Prop
  stop : Nat → Hp → Prop
/-- the iterator's own objects may turn: they are not the frame's, not pinned, younger than the entry (or a comprehension's own) -/
def FpOk (X : Cx) (pins : List (Addr × Obj)) (H : Hp) (b : Addr) : Prop :=
  H b = none ∧ b ≠ X.env.locals ∧ b ∉ X.fs ∧ (b ∈ X.ex ∨ X.s₀.heap.objs.size ≤ b) ∧ (∀ x c, X.env.cells.lookup x = some c → c ≠ b) ∧ ∀ p ∈ X.pn ++ pins, p.1 ≠ b
theorem Inv.fpOk {X : Cx} {pins : List (Addr × Obj)} {σ : St} {H H' : Hp} {s : Shared} {b : Addr} (I : Inv X pins σ H s) (hb : s.heap.objs.size ≤ b) (hn : H' b = none) : FpOk X pins H' b := by
  refine ⟨hn, Nat.ne_of_gt (Nat.lt_of_lt_of_le I.lt hb), I.nofs hb, .inr (Nat.le_trans I.sz hb), fun x c e z => ?_, fun p hp z => ?_⟩
  · obtain ⟨v, q⟩ := I.cell x c e
    exact absurd (Nat.lt_of_lt_of_le q.lt (by rw [z]; exact hb)) (Nat.lt_irrefl _)
  · exact absurd (Nat.lt_of_lt_of_le (Heap.lt_size (I.pin p hp).1) (by rw [z]; exact hb)) (Nat.lt_irrefl _)
structure Turn (P : Program) (w : World) (K : PySem.W.Frag) (tg : Expr) (J : It) (fp : List Addr) (it : Addr) (tn : Nat → Heap → Prop) : Prop where
  mem : it ∈ fp
  obj : ∀ i h, tn i h → ∀ b ∈ fp, ∃ o, h.get? b = some o ∧ ∀ v, o.data ≠ .cell v
  keep : ∀ i h h', tn i h → (∀ b ∈ fp, ∀ o, h.get? b = some o → h'.get? b = some o) → tn i h'
  item : ∀ (X : Cx), X.prog = P → X.w = w → X.K = K → X.calm = true → ∀ (i : Nat) (pins : List (Addr × Obj)) (s : Shared) (σ : St) (H : Hp) (E : Value → Shared → Prop), Inv X pins σ H s → (∀ b ∈ fp, FpOk X pins H b) → tn i s.heap → J.go i H →
    wpAny (model P w) X.A (pyNext (.ref it)) (fun r s1 => ∃ u, r = some u ∧
      wpAny (model P w) X.A (letOwnedTupleGo tg (.ref it) u) (fun _ s2 => ∃ x H', Inv X pins σ H' s2 ∧ RelV x u ∧ J.yld i H x H' ∧ tn (i + 1) s2.heap ∧ ∀ b ∈ fp, H' b = none) E s1) E s
  done : ∀ (X : Cx), X.prog = P → X.w = w → X.K = K → X.calm = true → ∀ (i : Nat) (pins : List (Addr × Obj)) (s : Shared) (σ : St) (H : Hp) (E : Value → Shared → Prop), Inv X pins σ H s → (∀ b ∈ fp, FpOk X pins H b) → tn i s.heap → J.stop i H →
    wpAny (model P w) X.A (pyNext (.ref it)) (fun r s1 => r = none ∧ Inv X pins σ H s1) E s
  self : ∀ (A : Around) (i : Nat) (s : Shared) (Q : Value → Shared → Prop) (E : Value → Shared → Prop), tn i s.heap → Q (.ref it) s → wpAny (model P w) A (pyIter (.ref it)) Q E s
abbrev TI := St → Hp → (It → Hp → Prop) → Prop
/-- an iterator has come -/
def PIE (X : Cx) (pins : List (Addr × Obj)) (σ : St) (tg : Expr) (R : It → Hp → Prop) (itv : Value) (s2 : Shared) : Prop :=
  ∃ (it : Addr) (fp : List Addr) (tn : Nat → Heap → Prop) (J : It) (H' : Hp), itv = .ref it ∧ Inv X pins σ H' s2 ∧ Turn X.prog X.w X.K tg J fp it tn ∧ tn 0 s2.heap ∧ (∀ b ∈ fp, FpOk X pins H' b) ∧ R J H'
def PI (X : Cx) (tg iter : Expr) (wi : TI) : Prop :=
  ∀ (pins : List (Addr × Obj)) (s : Shared) (σ : St) (H : Hp) (R : It → Hp → Prop), Inv X pins σ H s → wi σ H R →
    wpAny (model X.prog X.w) X.A (eval iter X.env) (fun v s1 => wpAny (model X.prog X.w) X.A (pyIter v) (PIE X pins σ tg R) X.xe s1) X.xe s

/-- the step ahead of the store is nothing for an iterator that keeps no tuple -/
theorem go_of {M : Model} {A : Around} {E : Value → Shared → Prop} {s : Shared} {tg : Expr} {it : Addr} {u : Value} {o : Obj} {n : String} {vs : Array Value} {Q : Unit → Shared → Prop} (ho : s.heap.get? it = some o) (hc : o.cls = .type n) (hd : o.data = .fields vs)
    (hn : ["enumerate", "zip", "dict_itemiterator", "dict_reverseitemiterator", "odict_iterator", "itertools.zip_longest", "itertools.pairwise"].contains n = false) (hQ : Q () s) : wpAny M A (letOwnedTupleGo tg (.ref it) u) Q E s := by
  unfold letOwnedTupleGo
  cases tg <;> first
    | exact wpAny_pure hQ
    | (cases u <;> first
        | exact wpAny_pure hQ
        | (refine wpAny_bind (wpAny_load ho ?_)
           rw [hc, hd]
           show wpAny M A (if (["enumerate", "zip", "dict_itemiterator", "dict_reverseitemiterator", "odict_iterator", "itertools.zip_longest", "itertools.pairwise"].contains n && vs[0]? == some (rawInt _)) = true then _ else _) Q E s
           rw [if_neg (by intro h; rw [hn, Bool.false_and] at h; cases h)]
           exact wpAny_pure hQ))

/-- the list at a, as it stands at each turn (a loop may append to it) -/
def Itl (K : PySem.W.Frag) (a : Addr) : It :=
  ⟨fun i H => ∃ xs x, SqL K H a xs ∧ xs[i]? = some x, fun i H x H' => H' = H ∧ ∀ xs, SqL K H a xs → xs[i]? = some x, fun i H => ∃ xs, SqL K H a xs ∧ xs.length ≤ i⟩
def Itt (K : PySem.W.Frag) (a : Addr) : It :=
  ⟨fun i H => ∃ xs x, SqT K H a xs ∧ xs[i]? = some x, fun i H x H' => H' = H ∧ ∀ xs, SqT K H a xs → xs[i]? = some x, fun i H => ∃ xs, SqT K H a xs ∧ xs.length ≤ i⟩
/-- lo, lo + 1, .. (n of them) -/
def Itr (lo : Int) (n : Nat) : It := ⟨fun i _ => i < n, fun i H x H' => H' = H ∧ x = .int (lo + i), fun i _ => n ≤ i⟩
theorem turn_list {P : Program} {w : World} {K : PySem.W.Frag} {tg : Expr} (a it : Addr) : Turn P w K tg (Itl K a) [it] it (fun i h => h.IsListIter it a i) where
  mem := by simp
  obj := fun i h st b hb => by
    have e : b = it := by simpa using hb
    subst e
    obtain ⟨o, e, c, d⟩ := st
    exact ⟨o, e, fun v z => by rw [d] at z; cases z⟩
  keep := fun i h h' st k => st.at fun o e => k it (by simp) o e
  item := by
    intro X hP hw hK hc i pins s σ H E I hf st hg
    subst hP hw hK
    obtain ⟨xs, x, hq, hx⟩ := hg
    obtain ⟨its, rv, p, hz⟩ := I.list hq
    obtain ⟨u, hu, ru⟩ := rv.get hx
    obtain ⟨f0, f1, f2, f3, f4, f5⟩ := hf it (by simp)
    refine wpAny_pyNext_list_item st p.isList (x := u) (by simpa using hu) fun h' st' sb => ?_
    have I1 : Inv X pins σ H { s with heap := h' } := I.turned (t' := s.toks) (fun b o hb e => (sb.2 b hb).trans e) f0 f1 f3 f4 f5
    obtain ⟨o, e, c, d⟩ := id st'
    exact ⟨u, rfl, go_of (s := { s with heap := h' }) e c d (by decide) ⟨x, H, I1, ru, ⟨rfl, fun ys hy => by rw [I.list_inj hy hq]; exact hx⟩, st', fun b hb => (hf b hb).1⟩⟩
  done := by
    intro X hP hw hK hc i pins s σ H E I hf st hg
    subst hP hw hK
    obtain ⟨xs, hq, hx⟩ := hg
    obtain ⟨its, rv, p, hz⟩ := I.list hq
    obtain ⟨f0, f1, f2, f3, f4, f5⟩ := hf it (by simp)
    have hl := rv.length
    exact wpAny_pyNext_list_end (I.ok.hd hc) st p.isList (by simp; omega) fun h' eb => ⟨rfl, I.turned (t' := s.toks) (fun b o hb e => eb b o hb e) f0 f1 f3 f4 f5⟩
  self := fun _ _ _ _ _ st h => wpAny_pyIter_listiter st h
theorem turn_tuple {P : Program} {w : World} {K : PySem.W.Frag} {tg : Expr} (a it : Addr) : Turn P w K tg (Itt K a) [it] it (fun i h => h.IsTupleIter it a i) where
  mem := by simp
  obj := fun i h st b hb => by
    have e : b = it := by simpa using hb
    subst e
    obtain ⟨o, e, c, d⟩ := st
    exact ⟨o, e, fun v z => by rw [d] at z; cases z⟩
  keep := fun i h h' st k => st.at fun o e => k it (by simp) o e
  item := by
    intro X hP hw hK hc i pins s σ H E I hf st hg
    subst hP hw hK
    obtain ⟨xs, x, hq, hx⟩ := hg
    obtain ⟨its, rv, p, hz⟩ := I.tuple hq
    obtain ⟨u, hu, ru⟩ := rv.get hx
    obtain ⟨f0, f1, f2, f3, f4, f5⟩ := hf it (by simp)
    refine wpAny_pyNext_tuple_item st (show s.heap.IsTuple a its.toArray from p) (x := u) (by simpa using hu) fun h' st' sb => ?_
    have I1 : Inv X pins σ H { s with heap := h' } := I.turned (t' := s.toks) (fun b o hb e => (sb.2 b hb).trans e) f0 f1 f3 f4 f5
    obtain ⟨o, e, c, d⟩ := id st'
    exact ⟨u, rfl, go_of (s := { s with heap := h' }) e c d (by decide) ⟨x, H, I1, ru, ⟨rfl, fun ys hy => by rw [I.tuple_inj hy hq]; exact hx⟩, st', fun b hb => (hf b hb).1⟩⟩
  done := by
    intro X hP hw hK hc i pins s σ H E I hf st hg
    subst hP hw hK
    obtain ⟨xs, hq, hx⟩ := hg
    obtain ⟨its, rv, p, hz⟩ := I.tuple hq
    obtain ⟨f0, f1, f2, f3, f4, f5⟩ := hf it (by simp)
    have hl := rv.length
    exact wpAny_pyNext_tuple_end (I.ok.hd hc) st (show s.heap.IsTuple a its.toArray from p) (by simp; omega) fun h' eb => ⟨rfl, I.turned (t' := s.toks) (fun b o hb e => eb b o hb e) f0 f1 f3 f4 f5⟩
  self := fun _ _ _ _ _ st h => wpAny_pyIter_tupleiter st h
theorem turn_range {P : Program} {w : World} {K : PySem.W.Frag} {tg : Expr} (it : Addr) (lo : Int) (n : Nat) : Turn P w K tg (Itr lo n) [it] it (fun i h => IsRangeIter h it (lo + (i : Nat) * 1) ((n : Int) - (i : Nat)) 1) where
  mem := by simp
  obj := fun i h st b hb => by
    have e : b = it := by simpa using hb
    subst e
    exact ⟨_, st, fun v z => by
      have z' : Data.fields _ = Data.cell v := z
      cases z'⟩
  keep := fun i h h' st k => k it (by simp) _ st
  item := by
    intro X hP hw hK hc i pins s σ H E I hf st hg
    subst hP hw hK
    obtain ⟨f0, f1, f2, f3, f4, f5⟩ := hf it (by simp)
    have W := Walks.range (prog := X.prog) (w := X.w) (I.ok.hd hc) it lo 1 n
    refine W.item i s _ _ hg st fun v h' tk hv st' kk => ?_
    obtain ⟨t, rfl⟩ := hv
    have I1 : Inv X pins σ H { s with heap := h', toks := tk } := I.turned (fun b o hb e => kk b o (by simpa using hb) e) f0 f1 f3 f4 f5
    refine ⟨_, rfl, go_of (s := { s with heap := h', toks := tk }) (n := "range_iterator") st' rfl rfl (by decide) ⟨.int (lo + i), H, I1, ⟨t, ?_⟩, ⟨rfl, rfl⟩, st', fun b hb => (hf b hb).1⟩⟩
    rw [Int.mul_one]
  done := by
    intro X hP hw hK hc i pins s σ H E I hf st hg
    subst hP hw hK
    obtain ⟨f0, f1, f2, f3, f4, f5⟩ := hf it (by simp)
    exact wpAny_pyNext_range_end (I.ok.hd hc) st (by have : n ≤ i := hg; omega) fun h' eb => ⟨rfl, I.turned (t' := s.toks) (fun b o hb e => eb b o hb e) f0 f1 f3 f4 f5⟩
  self := fun _ _ _ _ _ st h => wpAny_pyIter_rangeiter st h
end L2

namespace L2
open PySem PySem.Spec PyProof.Rows
section
variable {X : Cx} {tg : Expr}
def iList (K : PySem.W.Frag) (tl : TE) : TI := fun σ H R => tl σ H fun x H1 => ∃ a, x = .ref a ∧ (∃ xs, SqL K H1 a xs) ∧ R (Itl K a) H1
def iTup (K : PySem.W.Frag) (tl : TE) : TI := fun σ H R => tl σ H fun x H1 => ∃ a, x = .ref a ∧ (∃ xs, SqT K H1 a xs) ∧ R (Itt K a) H1
theorem pi_list {l : Expr} {tl : TE} (hl : PE X l tl) : PI X tg l (iList X.K tl) := by
  intro pins s σ H R I h
  refine thn (hl pins s σ H _ I h) fun v s1 ⟨x, H1, I1, r1, q1⟩ => ?_
  obtain ⟨a, e, ⟨xs, hq⟩, q⟩ := q1
  subst e
  cases r1
  obtain ⟨its, rv, p, hz⟩ := I1.list hq
  refine wpAny_pyIter_list p.isList ?_
  refine ⟨s1.heap.objs.size, [s1.heap.objs.size], _, _, H1, rfl, I1.kept (t' := s1.toks) fun b o e => Heap.get?_push_of_some _ e, turn_list a _, ⟨_, Heap.get?_push_size _ rfl, rfl, rfl⟩, fun b hb => ?_, q⟩
  have e : b = s1.heap.objs.size := by simpa using hb
  subst e
  exact I1.fpOk (Nat.le_refl _) (I1.hok.fresh (Nat.le_refl _))
theorem pi_tup {l : Expr} {tl : TE} (hl : PE X l tl) : PI X tg l (iTup X.K tl) := by
  intro pins s σ H R I h
  refine thn (hl pins s σ H _ I h) fun v s1 ⟨x, H1, I1, r1, q1⟩ => ?_
  obtain ⟨a, e, ⟨xs, hq⟩, q⟩ := q1
  subst e
  cases r1
  obtain ⟨its, rv, p, hz⟩ := I1.tuple hq
  refine wpAny_pyIter_tuple (show s1.heap.IsTuple a its.toArray from p) ?_
  refine ⟨s1.heap.objs.size, [s1.heap.objs.size], _, _, H1, rfl, I1.kept (t' := s1.toks) fun b o e => Heap.get?_push_of_some _ e, turn_tuple a _, ⟨_, Heap.get?_push_size _ rfl, rfl, rfl⟩, fun b hb => ?_, q⟩
  have e : b = s1.heap.objs.size := by simpa using hb
  subst e
  exact I1.fpOk (Nat.le_refl _) (I1.hok.fresh (Nat.le_refl _))
/-- a range object just made, walked -/
theorem range_it {pins : List (Addr × Obj)} {σ : St} {H : Hp} {s : Shared} {R : It → Hp → Prop} {E : Value → Shared → Prop} {lo hi : Int} {t u v : Tok} {tk : Nat} (I : Inv X pins σ H s) (h1 : -(2 ^ 62) ≤ lo) (h2 : lo < 2 ^ 62) (h3 : -(2 ^ 62) ≤ hi) (h4 : hi < 2 ^ 62)
    (q : R (Itr lo (hi - lo).toNat) H) : wpAny (model X.prog X.w) X.A (pyIter (.ref s.heap.objs.size)) (PIE X pins σ tg R) E { s with heap := s.heap.push { cls := .type "range", data := .fields #[.int lo t, .int hi u, .int 1 v] }, toks := tk } := by
  refine wpAny_pyIter_range (IsRange.new ..) (small_one h1 h2 h3 h4) ?_
  have I1 : Inv X pins σ H { s with heap := s.heap.push { cls := .type "range", data := .fields #[.int lo t, .int hi u, .int 1 v] }, toks := tk } := I.kept fun b o e => Heap.get?_push_of_some _ e
  refine ⟨(s.heap.push { cls := .type "range", data := .fields #[.int lo t, .int hi u, .int 1 v] }).objs.size, [(s.heap.push { cls := .type "range", data := .fields #[.int lo t, .int hi u, .int 1 v] }).objs.size], _, _, H, rfl,
    I1.kept (t' := tk) fun b o e => Heap.get?_push_of_some _ e, turn_range _ lo (hi - lo).toNat, ?_, fun b hb => ?_, q⟩
  · have e1 : lo + ((0 : Nat) : Int) * 1 = lo := by simp
    have e2 : (((hi - lo).toNat : Nat) : Int) - ((0 : Nat) : Int) = Builtin.Range.rangeSize lo hi 1 := by rw [rangeSize_one]; split <;> omega
    show IsRangeIter _ _ (lo + ((0 : Nat) : Int) * 1) ((((hi - lo).toNat : Nat) : Int) - ((0 : Nat) : Int)) 1
    rw [e1, e2]
    exact Heap.get?_push_size _ rfl
  · have e : b = (s.heap.push { cls := .type "range", data := .fields #[.int lo t, .int hi u, .int 1 v] }).objs.size := by simpa using hb
    subst e
    exact I1.fpOk (Nat.le_refl _) (I1.hok.fresh (Nat.le_refl _))
def iRng1 (ta : TA) : TI := fun σ H R => ta σ H fun vs H1 => ∃ j : Int, vs = [.int j] ∧ -(2 ^ 62) ≤ j ∧ j < 2 ^ 62 ∧ R (Itr 0 j.toNat) H1
theorem pi_range1 {a : Expr} {ta : TA} {p pos : Pos} (hg : Gl X "range") (hm : X.mg "range" = none) (ha : PA X [a] ta) (hs : starEach [a] X.env = [(false, eval a X.env)] := by rfl) : PI X tg (.Call (.Name "range" p) [a] [] pos) (iRng1 ta) := by
  intro pins s σ H R I h
  refine Call_ (ld_blt I hg hm boot_range (PyProof.Rows.callWith_type1 (thn (ha pos pins s σ H _ I h) fun us s1 ⟨vs, H1, I1, r1, q1⟩ => ?_) hs rfl))
  obtain ⟨j, e, q1, q2, q⟩ := q1
  subst e
  cases r1 with
  | cons r rr =>
    cases rr
    obtain ⟨t, rfl⟩ := r
    exact call_range_1 (range_it I1 (by omega) (by omega) q1 q2 (by simpa using q))
/-! ### for -/
/-- W: the invariant by the turn and a measure; N: what the body is to reach -/
def tFor (wi : TI) (g : TG) (tb : TS) : TS := fun D σ H => wi σ H fun J H1 => ∃ W : Nat → Nat → St → Hp → Prop, (∃ m, W 0 m σ H1) ∧ ∀ i m σ H, W i m σ H →
  (J.stop i H ∧ D.nx σ H) ∨ (J.go i H ∧ ∃ N : St → Hp → Prop, (∀ σ' H', N σ' H' → ∃ m', m' < m ∧ W (i + 1) m' σ' H') ∧ ∀ x H', J.yld i H x H' → g x σ H' fun σ2 H2 => tb { D with nx := N, ct := N, bk := D.nx } σ2 H2)
/-- the records at fp as they stand -/
def pinsAt (fp : List Addr) (h : Heap) : List (Addr × Obj) := fp.filterMap fun b => (h.get? b).map fun o => (b, o)
theorem mem_pinsAt {fp : List Addr} {h : Heap} {b : Addr} {o : Obj} (hb : b ∈ fp) (e : h.get? b = some o) : (b, o) ∈ pinsAt fp h := List.mem_filterMap.mpr ⟨b, hb, by rw [e]; rfl⟩
theorem of_pinsAt {fp : List Addr} {h : Heap} {p : Addr × Obj} (hp : p ∈ pinsAt fp h) : p.1 ∈ fp ∧ h.get? p.1 = some p.2 := by
  obtain ⟨b, hb, e⟩ := List.mem_filterMap.mp hp
  cases q : h.get? b with
  | none => rw [q] at e; cases e
  | some o =>
    rw [q] at e
    have e' : (b, o) = p := Option.some.inj e
    subst e'
    exact ⟨hb, q⟩
theorem Inv.pinned {pins : List (Addr × Obj)} {σ : St} {H : Hp} {s : Shared} {fp : List Addr} (I : Inv X pins σ H s) (hf : ∀ b ∈ fp, FpOk X pins H b) (ho : ∀ b ∈ fp, ∃ o, s.heap.get? b = some o ∧ ∀ v, o.data ≠ .cell v) : Inv X (pins ++ pinsAt fp s.heap) σ H s :=
  I.pins_of fun p hp => (List.mem_append.mp hp).elim (fun z => I.pin p (List.mem_append_right _ z)) fun z => by
    obtain ⟨hb, e⟩ := of_pinsAt z
    obtain ⟨f0, f1, f2, _⟩ := hf p.1 hb
    obtain ⟨o, e', d⟩ := ho p.1 hb
    rw [e] at e'; cases e'
    exact ⟨e, f0, f1, f2, d⟩
theorem Inv.unpinned {pins pl : List (Addr × Obj)} {σ : St} {H : Hp} {s : Shared} (I : Inv X (pins ++ pl) σ H s) : Inv X pins σ H s := I.pins_of fun p hp => I.pin p (List.mem_append_right _ (List.mem_append_left _ hp))
theorem ps_for {iter : Expr} {body : List Stmt} {wi : TI} {g : TG} {tb : TS} {pos : Pos} (hp : PassesOwn (model X.prog X.w) X.A X.env X.xe) (hc : X.calm = true) (hi : PI X tg iter wi) (hg : PG X tg g) (hb : PSs X body tb)
    (hs : ∀ x, foldedSetIterable iter X.env x = pure x := by intro _; rfl) : PS X (.For tg iter body [] pos) (tFor wi g tb) := by
  intro pins s σ H D I h
  refine wpAny_For (thn (hi pins s σ H _ I h) fun v s1 h1 => thn h1 fun itv s2 h2 => ?_) hs
  obtain ⟨it, fp, tn, J, H2, e, I2, T, st2, f2, W, ⟨m0, w0⟩, turn⟩ := h2
  subst e
  -- what stays true of the iterator's objects through the loop
  have stat : ∀ {H' : Hp}, (∀ b ∈ fp, H' b = none) → ∀ b ∈ fp, FpOk X pins H' b := fun hn b hb => ⟨hn b hb, (f2 b hb).2⟩
  refine codeAny_forLoop_any (fun n s' => ∃ i σ' H', Inv X pins σ' H' s' ∧ tn i s'.heap ∧ (∀ b ∈ fp, H' b = none) ∧ W i n σ' H') ?_ m0 ⟨0, σ, H2, I2, st2, fun b hb => (f2 b hb).1, w0⟩
  rintro n s3 ⟨i, σ3, H3, I3, st3, fr3, w3⟩
  rcases turn i n σ3 H3 w3 with ⟨stop, qn⟩ | ⟨go, N, hN, step⟩
  · refine wpAny_passesOwn hp (thn (T.done X rfl rfl rfl hc i pins s3 σ3 H3 X.xe I3 (stat fr3) st3 stop) fun r s4 ⟨hr, I4⟩ => ?_)
    subst hr
    exact wpAny_execs_nil ⟨σ3, H3, I4, qn⟩
  · refine wpAny_passesOwn hp (thn (T.item X rfl rfl rfl hc i pins s3 σ3 H3 X.xe I3 (stat fr3) st3 go) fun r s4 ⟨u, hr, h4⟩ => ?_)
    subst hr
    refine wpAny_passesOwn hp (thn h4 fun _ s5 ⟨x, H5, I5, r5, y5, st5, fr5⟩ => ?_)
    have I5' := I5.pinned (stat fr5) (T.obj _ _ st5)
    refine wpAny_passesOwn hp (thn (hg _ s5 σ3 H5 x u _ I5' r5 (step x H5 y5)) fun _ s6 ⟨σ6, H6, I6, q6⟩ => ?_)
    refine wpAny_passesOwn hp (thn (hb _ s6 σ6 H6 _ I6 q6) fun f s7 q7 => ?_)
    have again : ∀ {σ7 : St} {H7 : Hp}, Inv X (pins ++ pinsAt fp s5.heap) σ7 H7 s7 → N σ7 H7 → ∃ m, m < n ∧ ∃ i σ' H', Inv X pins σ' H' s7 ∧ tn i s7.heap ∧ (∀ b ∈ fp, H' b = none) ∧ W i m σ' H' := fun {σ7 H7} I7 n7 => by
      obtain ⟨m', hm, w7⟩ := hN σ7 H7 n7
      refine ⟨m', hm, i + 1, σ7, H7, I7.unpinned, T.keep _ _ _ st5 fun b hb o e => (I7.pin (b, o) (List.mem_append_right _ (List.mem_append_right _ (mem_pinsAt hb e)))).1, fun b hb => ?_, w7⟩
      obtain ⟨o, e, d⟩ := T.obj _ _ st5 b hb
      exact (I7.pin (b, o) (List.mem_append_right _ (List.mem_append_right _ (mem_pinsAt hb e)))).2.1
    cases f with
    | next => obtain ⟨σ7, H7, I7, n7⟩ := q7; exact again I7 n7
    | cont => obtain ⟨σ7, H7, I7, n7⟩ := q7; exact again I7 n7
    | brk => obtain ⟨σ7, H7, I7, q7⟩ := q7; exact ⟨σ7, H7, I7.unpinned, q7⟩
    | ret v => obtain ⟨x7, σ7, H7, I7, r7, q7⟩ := q7; exact ⟨x7, σ7, H7, I7.unpinned, r7, q7⟩
end

/-! ### the forms one uses -/
end L2

namespace L2
open PySem PySem.Spec PyProof.Rows

abbrev R2 := V → V → Hp → VK → Prop
/-- a two-place operation on values: f is binaryOp op, inplaceOp op or compareOp op -/
def OpR (X : Cx) (f : Value → Value → Sem Value) (r : R2) : Prop :=
  ∀ (pins : List (Addr × Obj)) (s : Shared) (σ : St) (H : Hp) (x y : V) (v u : Value) (Q : VK), Inv X pins σ H s → RelV x v → RelV y u → r x y H Q →
    wpAny (model X.prog X.w) X.A (f v u) (EP X pins σ Q) X.xe s
/-- a call of a value that is known (a builtin, a type) with values -/
def CallR (X : Cx) (f : Value) (r : List V → Hp → VK → Prop) : Prop :=
  ∀ (pins : List (Addr × Obj)) (s : Shared) (σ : St) (H : Hp) (xs : List V) (us : List Value) (Q : VK), Inv X pins σ H s → Vals xs us → r xs H Q →
    wpAny (model X.prog X.w) X.A (call f us) (EP X pins σ Q) X.xe s
/-- a value's truth -/
def TruR (X : Cx) (r : V → Hp → (Bool → Hp → Prop) → Prop) : Prop :=
  ∀ (pins : List (Addr × Obj)) (s : Shared) (σ : St) (H : Hp) (x : V) (v : Value) (Q : Bool → Hp → Prop), Inv X pins σ H s → RelV x v → r x H Q →
    wpAny (model X.prog X.w) X.A (truthy v) (TP X pins σ Q) X.xe s

def tOp (r : R2) (ta tb : TE) : TE := fun σ H Q => ta σ H fun x H1 => tb σ H1 fun y H2 => r x y H2 Q
/-- ints in, under C, and a value out -/
def rI (C : Int → Int → Prop) (g : Int → Int → V) : R2 := fun x y H Q => ∃ i j, x = .int i ∧ y = .int j ∧ C i j ∧ Q (g i j) H
def rI0 (g : Int → Int → V) : R2 := fun x y H Q => ∃ i j, x = .int i ∧ y = .int j ∧ Q (g i j) H
section
variable {X : Cx} {a b c : Expr} {ta tb tc : TE} {pos : Pos}

theorem binT (ha : PE X a ta) (hb : PE X b tb) {pins : List (Addr × Obj)} {s : Shared} {σ : St} {H : Hp} {R : V → V → Hp → Prop} (I : Inv X pins σ H s)
    (h : ta σ H fun x H1 => tb σ H1 fun y H2 => R x y H2) {Q : Value → Shared → Prop} {f : Value → Value → Sem Value}
    (hf : ∀ v u s2 x y H2, Inv X pins σ H2 s2 → RelV x v → RelV y u → R x y H2 → wpAny (model X.prog X.w) X.A (f v u) Q X.xe s2) :
    wpAny (model X.prog X.w) X.A (eval a X.env) (fun v s₁ => wpAny (model X.prog X.w) X.A (eval b X.env) (fun u s₂ => wpAny (model X.prog X.w) X.A (f v u) Q X.xe s₂) X.xe s₁) X.xe s := by
  refine thn (ha pins s σ H _ I h) fun v s1 ⟨x, H1, I1, r1, q1⟩ => ?_
  refine thn (hb pins s1 σ H1 _ I1 q1) fun u s2 ⟨y, H2, I2, r2, q2⟩ => ?_
  exact hf v u s2 x y H2 I2 r1 r2 q2

theorem pe_op {op : Operator} {r : R2} (ho : OpR X (binaryOp op) r) (ha : PE X a ta) (hb : PE X b tb) : PE X (.BinOp a op b pos) (tOp r ta tb) := by
  intro pins s σ H Q I h
  exact wpAny_BinOp (binT ha hb I h fun v u s2 x y H2 I2 rx ry q => ho pins s2 σ H2 x y v u Q I2 rx ry q)
/-! ### ints -/
theorem opI {f : Value → Value → Sem Value} {C : Int → Int → Prop} {g : Int → Int → Int}
    (rule : ∀ (i j : Int) (t u : Tok) (s : Shared) (Q : Value → Shared → Prop) (E : Value → Shared → Prop), C i j → Q (.int (g i j) s.toks) { s with toks := s.toks + 1 } → wpAny (model X.prog X.w) X.A (f (.int i t) (.int j u)) Q E s) :
    OpR X f (rI C fun i j => .int (g i j)) := by
  intro pins s σ H x y v u Q I rx ry h
  obtain ⟨i, j, rfl, rfl, hc, q⟩ := h
  obtain ⟨t, rfl⟩ := rx
  obtain ⟨t', rfl⟩ := ry
  exact rule i j t t' s _ _ hc ⟨.int (g i j), H, I.tok _, ⟨_, rfl⟩, q⟩
theorem opI0 {f : Value → Value → Sem Value} {g : Int → Int → Int}
    (rule : ∀ (i j : Int) (t u : Tok) (s : Shared) (Q : Value → Shared → Prop) (E : Value → Shared → Prop), Q (.int (g i j) s.toks) { s with toks := s.toks + 1 } → wpAny (model X.prog X.w) X.A (f (.int i t) (.int j u)) Q E s) :
    OpR X f (rI0 fun i j => .int (g i j)) := by
  intro pins s σ H x y v u Q I rx ry h
  obtain ⟨i, j, rfl, rfl, q⟩ := h
  obtain ⟨t, rfl⟩ := rx
  obtain ⟨t', rfl⟩ := ry
  exact rule i j t t' s _ _ ⟨.int (g i j), H, I.tok _, ⟨_, rfl⟩, q⟩
theorem opB0 {f : Value → Value → Sem Value} {g : Int → Int → Bool}
    (rule : ∀ (i j : Int) (t u : Tok) (s : Shared) (Q : Value → Shared → Prop) (E : Value → Shared → Prop), Q (.bool (g i j)) s → wpAny (model X.prog X.w) X.A (f (.int i t) (.int j u)) Q E s) :
    OpR X f (rI0 fun i j => .bl (g i j)) := by
  intro pins s σ H x y v u Q I rx ry h
  obtain ⟨i, j, rfl, rfl, q⟩ := h
  obtain ⟨t, rfl⟩ := rx
  obtain ⟨t', rfl⟩ := ry
  exact rule i j t t' s _ _ ⟨.bl (g i j), H, I, rfl, q⟩

def CPow (i j : Int) : Prop := 0 ≤ j ∧ j ≤ 1000000 ∧ i.natAbs < 2 ^ 64
theorem op_add : OpR X (binaryOp .Add) (rI0 fun i j => .int (i + j)) := opI0 fun _ _ _ _ _ _ _ q => add_int q
theorem op_sub : OpR X (binaryOp .Sub) (rI0 fun i j => .int (i - j)) := opI0 fun _ _ _ _ _ _ _ q => sub_int q
/-- % by a positive divisor of any size -/
theorem op_mod : OpR X (binaryOp .Mod) (rI (fun _ j => 0 < j) fun i j => .int (i % j)) := opI fun i j _ _ _ _ _ hc q => by
  have h1 : (0 : Int) < j := hc
  exact mod_int' (by omega) (by rw [Int.fmod_eq_emod_of_nonneg i (by omega)]; exact q)
theorem op_pow : OpR X (binaryOp .Pow) (rI CPow fun i j => .int (i ^ j.toNat)) := opI fun _ _ _ _ _ _ _ hc q => pow_int_small hc.1 hc.2.1 hc.2.2 q
/-! ### bools among ints: n += (a < b) -/
end

/-! ### comparisons -/
section
variable {X : Cx} {a b c : Expr} {ta tb tc : TE} {pos : Pos}
theorem fin_bl {pins : List (Addr × Obj)} {σ : St} {H : Hp} {s : Shared} {Q : VK} {k k' : Bool} (I : Inv X pins σ H s) (q : Q (.bl k) H) (e : k = k') : EP X pins σ Q (.bool k') s := by
  subst e
  exact ⟨.bl k, H, I, rfl, q⟩
theorem op_lt : OpR X (compareOp .Lt) (rI0 fun i j => .bl (decide (i < j))) := opB0 fun _ _ _ _ _ _ _ q => lt_int q
theorem op_le : OpR X (compareOp .LtE) (rI0 fun i j => .bl (decide (i ≤ j))) := opB0 fun _ _ _ _ _ _ _ q => le_int q
theorem op_gt : OpR X (compareOp .Gt) (rI0 fun i j => .bl (decide (j < i))) := opB0 fun _ _ _ _ _ _ _ q => gt_int q
theorem op_ge : OpR X (compareOp .GtE) (rI0 fun i j => .bl (decide (j ≤ i))) := opB0 fun _ _ _ _ _ _ _ q => ge_int q
theorem op_lt_str : OpR X (compareOp .Lt) (fun x y H Q => ∃ i j, x = .str i ∧ y = .str j ∧ Q (.bl (decide (i.cps.toList < j.cps.toList))) H) := by
  intro pins s σ H x y v u Q I rx ry h
  obtain ⟨i, j, rfl, rfl, q⟩ := h
  obtain ⟨t, rfl⟩ := rx
  obtain ⟨t', rfl⟩ := ry
  exact lt_str (fin_bl I q rfl)
/-- the one string within the other -/
theorem op_in_str : OpR X (compareOp .In) (fun x y H Q => ∃ i j, x = .str i ∧ y = .str j ∧ Q (.bl (!(Builtin.Str.occurrences j i 0 j.length 1).isEmpty)) H) := by
  intro pins s σ H x y v u Q I rx ry h
  obtain ⟨i, j, rfl, rfl, q⟩ := h
  obtain ⟨t, rfl⟩ := rx
  obtain ⟨t', rfl⟩ := ry
  exact in_str (fin_bl I q rfl)

/-- is None, is not None: the right side a value none -/
theorem op_isN : OpR X (compareOp .Is) (fun x y H Q => y = .non ∧ Q (.bl (decide (x = .non))) H) := by
  intro pins s σ H x y v u Q I rx ry h
  obtain ⟨rfl, q⟩ := h
  cases ry
  refine is_none_gen (fin_bl I q ?_)
  cases x <;> first
    | (cases rx; rfl)
    | (obtain ⟨t, rfl⟩ := rx; rfl)
theorem op_notN : OpR X (compareOp .IsNot) (fun x y H Q => y = .non ∧ Q (.bl (!decide (x = .non))) H) := by
  intro pins s σ H x y v u Q I rx ry h
  obtain ⟨rfl, q⟩ := h
  cases ry
  refine isnot_none_gen (fin_bl I q ?_)
  cases x <;> first
    | (cases rx; rfl)
    | (obtain ⟨t, rfl⟩ := rx; rfl)

theorem op_notin_str : OpR X (compareOp .NotIn) (fun x y H Q => ∃ i j, x = .str i ∧ y = .str j ∧ Q (.bl (!(!(Builtin.Str.occurrences j i 0 j.length 1).isEmpty))) H) := by
  intro pins s σ H x y v u Q I rx ry h
  obtain ⟨i, j, rfl, rfl, q⟩ := h
  obtain ⟨t, rfl⟩ := rx
  obtain ⟨t', rfl⟩ := ry
  exact notIn_str (fin_bl I q rfl)
/-- two rules for one operation: by cases -/
theorem OpR.or {f : Value → Value → Sem Value} {r r' : R2} (h : OpR X f r) (h' : OpR X f r') : OpR X f (fun x y H Q => r x y H Q ∨ r' x y H Q) := by
  intro pins s σ H x y v u Q I rx ry q
  rcases q with q | q
  · exact h pins s σ H x y v u Q I rx ry q
  · exact h' pins s σ H x y v u Q I rx ry q

/-- a comparison as a value; hm: nomark b, or (for in, not in) by with_unfolding_all rfl -/
theorem pe_cmpR {op : CmpOp} {r : R2} (ho : OpR X (compareOp op) r) (ha : PE X a ta) (hb : PE X b tb) (hm : behindInMarks op b = false) : PE X (.Compare a [op] [b] pos) (tOp r ta tb) := by
  intro pins s σ H Q I h
  exact wpAny_Compare1 (binT ha hb I h fun v u s2 x y H2 I2 rx ry q => ho pins s2 σ H2 x y v u Q I2 rx ry q) hm
/-- a reading of a value as a test -/
def tTest (t : TE) : TT := fun σ H Q => t σ H fun x H' => ∃ k, x = .bl k ∧ Q k H'
theorem pt_cmpR {op : CmpOp} {r : R2} (ho : OpR X (compareOp op) r) (ha : PE X a ta) (hb : PE X b tb) (hm : behindInMarks op b = false) : PT X (.Compare a [op] [b] pos) (tTest (tOp r ta tb)) := by
  intro pins s σ H Q I h
  refine wpAny_isTrue_Compare1 (thn (ha pins s σ H _ I h) fun v s1 ⟨x, H1, I1, r1, q1⟩ => thn (hb pins s1 σ H1 _ I1 q1) fun u s2 ⟨y, H2, I2, r2, q2⟩ =>
    thn (ho pins s2 σ H2 x y v u _ I2 r1 r2 q2) fun c s3 ⟨z, H3, I3, r3, k, e, q3⟩ => ?_) hm
  subst e
  cases r3
  exact wpAny_truthy_bool ⟨H3, I3, q3⟩
/-! ### truth -/
/-- a value's truth by the abstract heap -/
def TruV (K : PySem.W.Frag) (x : V) (H : Hp) (k : Bool) : Prop :=
  match x with
  | .non => k = false
  | .bl b => k = b
  | .int i => k = (i != 0)
  | .str y => y.length ≤ sizeLine ∧ k = ((y.length : Int) != 0)
  | .byt y => y.size ≤ sizeLine ∧ k = ((y.size : Int) != 0)
  | .ref p => (∃ xs, SqL K H p xs ∧ k = !xs.isEmpty) ∨ (∃ xs, SqT K H p xs ∧ k = !xs.isEmpty) ∨ ∃ kvs, H p = some (.dK kvs) ∧ k = !kvs.isEmpty
  | _ => False
theorem isEmpty_kv {κ : Type} {kvs : List (κ × V)} {vs : List (κ × Value)} (r : KV kvs vs) : (!vs.isEmpty) = !kvs.isEmpty := by
  cases r <;> rfl
theorem isEmpty_of {xs : List V} {its : List Value} (r : Vals xs its) : (!its.toArray.isEmpty) = !xs.isEmpty := by
  cases r <;> simp
theorem line63 : (sizeLine : Nat) < 2 ^ 63 := by rw [sizeLine_eq]; decide
theorem tru_ok : TruR X (fun x H Q => ∃ k, TruV X.K x H k ∧ Q k H) := by
  intro pins s σ H x v Q I rx h
  obtain ⟨k, e, q⟩ := h
  have hl := line63
  have hs : sizeLine = 16777216 := sizeLine_eq
  cases x with
  | non =>
    cases rx
    have e' : k = false := e
    subst e'
    exact truthy_none ⟨H, I, q⟩
  | bl b =>
    cases rx
    have e' : k = b := e
    subst e'
    exact wpAny_truthy_bool ⟨H, I, q⟩
  | int i =>
    obtain ⟨t, rfl⟩ := rx
    have e' : k = (i != 0) := e
    subst e'
    exact PySem.P.truthy_int ⟨H, I, q⟩
  | str y =>
    obtain ⟨t, rfl⟩ := rx
    obtain ⟨hy, e'⟩ : y.length ≤ sizeLine ∧ k = ((y.length : Int) != 0) := e
    subst e'
    exact PySem.P.truthy_str (by omega) ⟨H, I.tok _, q⟩
  | byt y =>
    obtain ⟨t, rfl⟩ := rx
    obtain ⟨hy, e'⟩ : y.size ≤ sizeLine ∧ k = ((y.size : Int) != 0) := e
    subst e'
    exact PySem.W.truthy_bytes (by omega) ⟨H, I.tok _, q⟩
  | ref p =>
    cases rx
    have e' : (∃ xs, SqL X.K H p xs ∧ k = !xs.isEmpty) ∨ (∃ xs, SqT X.K H p xs ∧ k = !xs.isEmpty) ∨ ∃ kvs, H p = some (.dK kvs) ∧ k = !kvs.isEmpty := e
    rcases e' with ⟨xs, hx, e'⟩ | ⟨xs, hx, e'⟩ | ⟨kvs, hx, e'⟩
    · subst e'
      obtain ⟨its, r, pl, hz⟩ := I.list hx
      have hlen := r.length
      exact wpAny_truthy_list pl.isList (by simp only [List.size_toArray]; omega) ⟨H, I.tok _, by rw [isEmpty_of r]; exact q⟩
    · subst e'
      obtain ⟨its, r, pl, hz⟩ := I.tuple hx
      have hlen := r.length
      exact truthy_tuple pl (by simp only [List.size_toArray]; omega) ⟨H, I.tok _, by rw [isEmpty_of r]; exact q⟩
    · subst e'
      obtain ⟨hz, hS, vs, r, m⟩ : kvs.length ≤ sizeLine ∧ (p == sysModules) = false ∧ ∃ vs, KV kvs vs ∧ s.heap.DictOf (mixKind X.prog X.w) p vs := I.hok p _ hx
      have hlen : kvs.length = vs.length := Paired.length r
      exact wpAny_truthy_dict hS m (by omega) ⟨H, I.tok _, by rw [isEmpty_kv r]; exact q⟩
  | _ => exact (show False from e).elim
/-- any expression whose test is its value's truth (a name, a call, a subscript, a field ..: he by fun _ => rfl) -/
theorem pt_truth (ha : PE X a ta) (he : ∀ whole, isTrue a X.env whole = (do let v ← whole; standAt a.pos; holding [v] (truthy v))) :
    PT X a (fun σ H Q => ta σ H fun x H' => ∃ k, TruV X.K x H' k ∧ Q k H') := by
  intro pins s σ H Q I h
  exact isTrue_plain (thn (ha pins s σ H _ I h) fun v s1 ⟨x, H1, I1, r1, q1⟩ => tru_ok pins s1 σ H1 x v Q I1 r1 q1) (he _)

/-! ### strs and bytes -/
theorem op_add_str : OpR X (binaryOp .Add) (fun x y H Q => ∃ i j, x = .str i ∧ y = .str j ∧ i.length + j.length ≤ sizeLine ∧ Q (.str (i ++ j)) H) := by
  intro pins s σ H x y v u Q I rx ry h
  obtain ⟨i, j, rfl, rfl, hz, q⟩ := h
  obtain ⟨t, rfl⟩ := rx
  obtain ⟨t', rfl⟩ := ry
  exact add_str (fun t' tk => ⟨.str (i ++ j), H, I.tok _, ⟨_, rfl⟩, q⟩) hz
/-! ### scalar builtins, by CallR -/
theorem vals1 {x : V} {us : List Value} (r : Vals [x] us) : ∃ u, us = [u] ∧ RelV x u := by
  cases r with
  | cons r1 r2 => cases r2; exact ⟨_, rfl, r1⟩
theorem vals2 {x y : V} {us : List Value} (r : Vals [x, y] us) : ∃ u w', us = [u, w'] ∧ RelV x u ∧ RelV y w' := by
  cases r with
  | cons r1 r2 =>
    cases r2 with
    | cons r3 r4 => cases r4; exact ⟨_, _, rfl, r1, r3⟩
theorem call_int1 : CallR X (.type "int") (fun xs H Q => (∃ i, xs = [.int i] ∧ Q (.int i) H) ∨ ∃ k, xs = [.bl k] ∧ Q (.int (if k then 1 else 0)) H) := by
  intro pins s σ H xs us Q I r h
  rcases h with ⟨i, rfl, q⟩ | ⟨k, rfl, q⟩
  · obtain ⟨u, rfl, t, rfl⟩ := vals1 r
    exact call_int_int ⟨.int i, H, I, ⟨_, rfl⟩, q⟩
  · obtain ⟨u, rfl, r1⟩ := vals1 r
    cases r1
    exact call_int_bool ⟨.int (if k then 1 else 0), H, I.tok _, ⟨_, rfl⟩, q⟩
theorem call_str_int : CallR X (.type "str") (fun xs H Q => ∃ i, xs = [.int i] ∧ i.natAbs.log2 < 1920 ∧ Q (.str (toString i)) H) := by
  intro pins s σ H xs us Q I r h
  obtain ⟨i, rfl, hz, q⟩ := h
  obtain ⟨u, rfl, t, rfl⟩ := vals1 r
  exact PySem.P.str_of_int hz ⟨.str _, H, I.tok _, ⟨_, rfl⟩, q⟩
/-- len of a str, a bytes, a list, a tuple -/
def LenV (K : PySem.W.Frag) (x : V) (H : Hp) (n : Nat) : Prop :=
  match x with
  | .str y => y.length ≤ sizeLine ∧ n = y.length
  | .byt y => y.size ≤ sizeLine ∧ n = y.size
  | .ref p => (∃ xs, SqL K H p xs ∧ n = xs.length) ∨ ∃ xs, SqT K H p xs ∧ n = xs.length
  | _ => False
theorem call_len : CallR X (.builtin "len") (fun xs H Q => ∃ x n, xs = [x] ∧ LenV X.K x H n ∧ Q (.int n) H) := by
  intro pins s σ H xs us Q I r h
  obtain ⟨x, n, rfl, e, q⟩ := h
  obtain ⟨u, rfl, rx⟩ := vals1 r
  have hl := line63
  have hs : sizeLine = 16777216 := sizeLine_eq
  cases x with
  | str y =>
    obtain ⟨t, rfl⟩ := rx
    obtain ⟨hy, e'⟩ : y.length ≤ sizeLine ∧ n = y.length := e
    subst e'
    exact len_str (by omega) ⟨.int _, H, I.tok _, ⟨_, rfl⟩, q⟩
  | byt y =>
    obtain ⟨t, rfl⟩ := rx
    obtain ⟨hy, e'⟩ : y.size ≤ sizeLine ∧ n = y.size := e
    subst e'
    exact PySem.W.len_bytes (by omega) ⟨.int _, H, I.tok _, ⟨_, rfl⟩, q⟩
  | ref p =>
    cases rx
    have e' : (∃ xs, SqL X.K H p xs ∧ n = xs.length) ∨ ∃ xs, SqT X.K H p xs ∧ n = xs.length := e
    rcases e' with ⟨xs, hx, e'⟩ | ⟨xs, hx, e'⟩
    · subst e'
      obtain ⟨its, r', pl, hz⟩ := I.list hx
      have hlen := r'.length
      exact Calls.call_len_list pl.isList (by simp only [List.size_toArray]; omega) ⟨.int xs.length, H, I.tok _, ⟨_, by simp only [List.size_toArray]; rw [hlen]⟩, q⟩
    · subst e'
      obtain ⟨its, r', pl, hz⟩ := I.tuple hx
      have hlen := r'.length
      exact len_tuple pl (by simp only [List.size_toArray]; omega) ⟨.int xs.length, H, I.tok _, ⟨_, by simp only [List.size_toArray]; rw [hlen]⟩, q⟩
  | _ => exact (show False from e).elim
end
end L2

namespace L2
open PySem PySem.Spec PyProof.Rows

/-! ### an instance, its attributes a map -/
structure ObjM (h : Heap) (x dx C : Addr) (mA : Str → Option Value) : Prop where
  obj : h.get? x = some (PySem.W.instObj C dx)
  ns : h.Ns1 dx mA
  ne : dx ≠ x

theorem lookIn_ns {h : Heap} {dx : Addr} {mA : Str → Option Value} (n : h.Ns1 dx mA) : ∃ od, h.get? dx = some od ∧ ∀ name, PySem.W.lookIn name od = some (mA name) := by
  obtain ⟨o, es, ep, ho, hd, hk, _, hm⟩ := n
  refine ⟨o, ho, fun name => ?_⟩
  have e := hm name
  unfold nsFind findBy at e
  rw [← Array.find?_toList] at e
  unfold PySem.W.lookIn
  rw [hd]
  dsimp only
  split
  · rename_i y q
    rw [q] at e
    exact congrArg some e
  · rename_i q
    rw [q] at e
    have a : es.toList.any (·.refKey) = false := by
      rw [List.any_eq_false]
      intro y hy
      obtain ⟨z, t, hkey⟩ := hk y (Array.mem_toList_iff.mp hy)
      simp [DictEntry.refKey, hkey]
    have a' : ¬ es.toList.any (·.refKey) = true := by rw [a]; exact Bool.false_ne_true
    rw [if_neg a']
    exact congrArg some e

theorem ObjM.look {h : Heap} {x dx C : Addr} {mA : Str → Option Value} (I : ObjM h x dx C mA) : ∃ od, PySem.W.InstAt h x (PySem.W.instObj C dx) C (some od) ∧ ∀ name, PySem.W.lookIn name od = some (mA name) :=
  let ⟨od, ho, hl⟩ := lookIn_ns I.ns
  ⟨od, ⟨I.obj, rfl, rfl, ho⟩, hl⟩

section
variable {prog : Program} {w : World} {A : Around} {E : Value → Shared → Prop} {s : Shared} {K : PySem.W.Frag} {x dx C f : Addr} {mA : Str → Option Value} {name : Str} {v : Value}

theorem get_meth {pl : Sem Bool} {Q : Value × List Value → Shared → Prop} (X : K.In s.heap) (I : ObjM s.heap x dx C mA) (hg : PySem.W.plainGet K C name = true)
    (hf : PySem.W.findIn K (.ref C) name = some (some (.ref f))) (ht : PySem.W.isFn K (.ref f) = true) (hv : mA name = none) (h : Q (.ref f, [.ref x]) s) :
    wpAny (model prog w) A (getMethod (.ref x) name pl) Q E s := by
  obtain ⟨od, J, hl⟩ := I.look
  exact PySem.W.method_fn X J (PySem.W.plainGet_of hg).1 (PySem.W.plainGet_of hg).2 hf (beq_iff_eq.mp ht) (by show (PySem.W.lookIn name od).map (·.isSome) = some false; rw [hl, hv]; rfl) h

/-- C() where there is no __init__ but object's -/
theorem make_map0 {R : Result → Shared → Prop} (X : K.In s.heap) (hm : PySem.W.makesIn K C = true)
    (hi : PySem.W.findIn K (.ref C) "__init__" = some (some (.builtin "object.__init__")))
    (hb : ∀ self, PySem.W.Looks (model prog w) s.heap (bindSpecial (.builtin "object.__init__") self) (.builtin "object.__init__", [self]))
    (h : codeAny (model prog w) (A.under (.builtin "type.__call__" ⟨[.ref C], []⟩)) (.call (.builtin "object.__init__") ⟨[.ref (s.heap.objs.size + 1)], []⟩) (PySem.W.InitBack (s.heap.objs.size + 1) R)
      { s with heap := (s.heap.push PySem.W.emptyDict).push (PySem.W.instObj C s.heap.objs.size) }) :
    codeAny (model prog w) A (.call (.ref C) ⟨[], []⟩) R s := by
  obtain ⟨hh, g, d, t, os⟩ := s
  exact PySem.W.make_core (PySem.W.makes_of X hm) (PySem.W.looks_findIn X hi) hb (.inr ⟨rfl, rfl⟩) h
end

/-! ### the attributes as a list of pairs -/
def putF (f : Str) (v : V) : List (Str × V) → List (Str × V)
  | [] => [(f, v)]
  | (g, x) :: r => if g = f then (g, v) :: r else (g, x) :: putF f v r
theorem RelO.none_of {o : Option Value} (r : RelO none o) : o = none := by
  cases o with
  | none => rfl
  | some u => exact (show False from r).elim
section
variable {P : Program} {w : World} {H H' : Hp} {h h' : Heap} {a C dx : Addr} {fs fs' : List (Str × V)}
theorem ins_get (hok : HOk P w H h) (e : H a = some (.ins C dx fs)) : ∃ mA, ObjM h a dx C mA ∧ (∀ f, RelO (fs.lookup f) (mA f)) ∧ PySem.Within mA (fs.map (·.1)) ∧ fs.length ≤ 1000 ∧ H dx = some (.own a) := by
  obtain ⟨d, z, ne, ob, mA, n, r, q⟩ := (show ObjOk P w H h a (.ins C dx fs) from hok a _ e)
  exact ⟨mA, ⟨ob, n, ne⟩, r, q, z, d⟩
end

/-! ### what of the text a class must have -/
structure Cls (K : PySem.W.Frag) (C : Addr) : Prop where
  pg : PySem.W.plainGet K C Str.empty = true
  hd : PySem.W.hasDictIn K C = true
  po : PySem.W.plainOver K C = true
  sa : PySem.W.findIn K (.ref C) "__setattr__" = some (some (.builtin "object.__setattr__"))
theorem Cls.get {K : PySem.W.Frag} {C : Addr} (c : Cls K C) (f : Str) : PySem.W.plainGet K C f = true := c.pg
/-- no class of it has the name -/
def NoAttr (K : PySem.W.Frag) (C : Addr) (f : Str) : Prop := PySem.W.findIn K (.ref C) f = some none
/-- a method: a plain def of the class or of one above it -/
structure Meth (K : PySem.W.Frag) (C : Addr) (m : Str) (f : Addr) : Prop where
  at_ : PySem.W.findIn K (.ref C) m = some (some (.ref f))
  fn : PySem.W.isFn K (.ref f) = true
  kp : PySem.W.keepIn K (.ref f) = true

section
variable {X : Cx} {pins : List (Addr × Obj)} {σ : St} {H : Hp} {s : Shared} {a C dx : Addr} {fs : List (Str × V)} {f : Str} {v : V} {A : Around} {E : Value → Shared → Prop}

theorem getmeth_ok {m : Str} {g : Addr} {pl : Sem Bool} {Q : Value × List Value → Shared → Prop} (I : Inv X pins σ H s) (e : H a = some (.ins C dx fs)) (c : Cls X.K C) (k : Meth X.K C m g) (l : fs.lookup m = none)
    (h : Q (.ref g, [.ref a]) s) : wpAny (model X.prog X.w) A (getMethod (.ref a) m pl) Q E s := by
  obtain ⟨mA, O, r, _, _, _⟩ := ins_get I.hok e
  have hn : mA m = none := RelO.none_of (by rw [← l]; exact r m)
  exact get_meth I.kIn O (c.get m) k.at_ k.fn hn h

/-- a new instance, tracked, without attributes -/
theorem Inv.made (I : Inv X pins σ H s) : Inv X pins σ (upd (upd H s.heap.objs.size (.own (s.heap.objs.size + 1))) (s.heap.objs.size + 1) (.ins C s.heap.objs.size []))
    { s with heap := (s.heap.push PySem.W.emptyDict).push (PySem.W.instObj C s.heap.objs.size) } := by
  have e1 : (s.heap.push PySem.W.emptyDict).get? s.heap.objs.size = some PySem.W.emptyDict := Heap.get?_push_size s.heap rfl
  have e2 : ((s.heap.push PySem.W.emptyDict).push (PySem.W.instObj C s.heap.objs.size)).get? (s.heap.objs.size + 1) = some (PySem.W.instObj C s.heap.objs.size) := by
    have := Heap.get?_push_size (s.heap.push PySem.W.emptyDict) (o := PySem.W.instObj C s.heap.objs.size) rfl
    rwa [Heap.size_push] at this
  have e3 : (s.heap.push PySem.W.emptyDict).Ns s.heap.objs.size (fun _ => none) := ⟨PySem.W.emptyDict, #[], _, e1, rfl, (fun e he => absurd he (by simp)), fun _ => rfl⟩
  have I1 := I.laid (a := s.heap.objs.size) (o := .own (s.heap.objs.size + 1)) (h' := s.heap.push PySem.W.emptyDict) (t' := s.toks) (fun b u q => Heap.get?_push_of_some _ q) (Nat.le_refl _) ⟨_, e1⟩
  refine I1.laid (a := s.heap.objs.size + 1) (o := .ins C s.heap.objs.size []) (t' := s.toks) (fun b u q => Heap.get?_push_of_some _ q) (Nat.le_of_eq (Heap.size_push _ _)) ?_
  have ne : s.heap.objs.size ≠ s.heap.objs.size + 1 := Nat.ne_of_lt (Nat.lt_succ_self _)
  refine ⟨by rw [upd_ne ne, upd_same], Nat.zero_le _, ne, e2, fun _ => none, (Heap.Ns1.of_empty e3).at fun o q => Heap.get?_push_of_some _ q, fun _ => True.intro, fun y hy => absurd rfl hy⟩

end

/-! ### readings and rules -/
section
variable {X : Cx} {o e value : Expr} {f : Str} {pos pos' tpos : Pos} {ta tv : TE}
/-- what is between an instance and its method: the tree of a method call -/
theorem methcall_of {pl : Sem Bool} {m : Str} {apos : Pos} {args : List Expr} {pins : List (Addr × Obj)} {s : Shared} {σ : St} {H : Hp} {Q : Value → Shared → Prop} {te : TE} (he : PE X e te) (I : Inv X pins σ H s)
    (h : te σ H fun x H1 => ∃ a C dx fs g, x = .ref a ∧ H1 a = some (.ins C dx fs) ∧ Cls X.K C ∧ Meth X.K C m g ∧ fs.lookup m = none ∧
      ∀ s1, Inv X pins σ H1 s1 → wpAny (model X.prog X.w) X.A (callWith pos (.ref g) [.ref a] (backTo pos (starEach args X.env)) (backToKw pos (keywordEach [] X.env))) Q X.xe s1)
    (ht : eval (.Call (.Attribute e m apos) args [] pos) X.env = (do
      let ov ← eval e X.env
      standAt apos.atName
      let (f, first) ← holding [ov] (getMethod ov m pl)
      callWith pos f first (backTo pos (starEach args X.env)) (backToKw pos (keywordEach [] X.env)))) :
    wpAny (model X.prog X.w) X.A (eval (.Call (.Attribute e m apos) args [] pos) X.env) Q X.xe s := by
  refine PySem.W.methodCall_KW (pl := pl) (thn (he pins s σ H _ I h) fun u s1 ⟨x, H1, I1, rx, a, C, dx, fs, g, ex, ea, c, k, l, q⟩ => ?_) ht
  subst ex
  obtain rfl : u = Value.ref a := rx
  exact getmeth_ok I1 ea c k l (q s1 I1)
end

/-! ### isinstance -/
section
variable {X : Cx} {pins : List (Addr × Obj)} {σ : St} {H : Hp} {s : Shared} {A : Around} {E : Value → Shared → Prop} {Q : Value → Shared → Prop} {c : Value} {b : Bool}
/-- the type of a value, as the fragment's deciders take it; for an instance its class -/
inductive TyOf (K : PySem.W.Frag) (H : Hp) : V → Value → Prop where
  | non : TyOf K H .non (.type "NoneType")
  | bl (x : Bool) : TyOf K H (.bl x) (.type "bool")
  | int (i : Int) : TyOf K H (.int i) (.type "int")
  | str (x : Str) : TyOf K H (.str x) (.type "str")
  | flt (x : UInt64) : TyOf K H (.flt x) (.type "float")
  | lst {a : Addr} {xs : List V} (e : H a = some (.lst xs)) : TyOf K H (.ref a) (.type "list")
  | frz {a : Addr} {o : Obj} {xs : List V} (e : H a = some (.frz o (.lst xs))) : TyOf K H (.ref a) (.type "list")
  | tup {a : Addr} {xs : List V} (e : H a = some (.tup xs)) : TyOf K H (.ref a) (.type "tuple")
  | dK {a : Addr} {kvs : List (Key × V)} (e : H a = some (.dK kvs)) : TyOf K H (.ref a) (.type "dict")
  | dT {a : Addr} {kvs : List (List Key × V)} (e : H a = some (.dT kvs)) : TyOf K H (.ref a) (.type "dict")
  | ins {a C dx : Addr} {fs : List (Str × V)} (e : H a = some (.ins C dx fs)) (cl : Cls K C) (ha : PySem.W.findIn K (.ref C) "__class__" = some (some (.builtin "object.__class__")))
      (hn : PySem.W.specialIn K (.builtin "object.__class__") "__get__" = some (some (.builtin "getset_descriptor.__get__"))) (htk : PySem.W.takesIn K (.builtin "object.__class__") = some true)
      (hm : PySem.W.mroIn K C (.type "object") = some true) : TyOf K H (.ref a) (.ref C)
/-- isinstance(x, c) for one class c, a built-in or an own one: kitOne's answer -/
theorem isinst_ok {x : V} {u t : Value} (I : Inv X pins σ H s) (rx : RelV x u) (ty : TyOf X.K H x t) (e : PySem.W.kitOne X.K t c = some b) (h : ∀ tk, Q (.bool b) { s with toks := tk }) :
    wpAny (model X.prog X.w) A (call (.builtin "isinstance") [u, c]) Q E s := by
  cases ty with
  | non => cases (show u = Value.none from rx); exact PySem.W.kia_one PySem.W.kitx_none I.kIn True.intro e (fun z => nomatch z) h
  | bl y => cases (show u = Value.bool y from rx); exact PySem.W.kia_one PySem.W.kitx_bool I.kIn True.intro e (fun z => nomatch z) h
  | int i => obtain ⟨t, q⟩ := (show ∃ t, u = Value.int i t from rx); cases q; exact PySem.W.kia_one PySem.W.kitx_int I.kIn True.intro e (fun z => nomatch z) h
  | str y => obtain ⟨t, q⟩ := (show ∃ t, u = Value.str y t from rx); cases q; exact PySem.W.kia_one PySem.W.kitx_str I.kIn True.intro e (fun z => nomatch z) h
  | flt y => obtain ⟨t, q⟩ := (show ∃ t, u = Value.float y t from rx); cases q; exact PySem.W.kia_one PySem.W.kitx_float I.kIn True.intro e (fun z => nomatch z) h
  | @lst a xs ea =>
    cases (show u = Value.ref a from rx)
    obtain ⟨_, _, n, _, h1⟩ := (show ObjOk X.prog X.w H s.heap a (.lst xs) from I.hok a _ ea)
    exact PySem.W.kia_one PySem.W.kitx_list I.kIn ⟨_, h1, rfl⟩ e (fun z => nomatch z) h
  | @frz a ob xs ea =>
    cases (show u = Value.ref a from rx)
    obtain ⟨_, _, _, n, _, h1⟩ := (show ObjOk X.prog X.w H s.heap a (.frz ob (.lst xs)) from I.hok a _ ea)
    exact PySem.W.kia_one PySem.W.kitx_list I.kIn ⟨_, h1, rfl⟩ e (fun z => nomatch z) h
  | @tup a xs ea =>
    cases (show u = Value.ref a from rx)
    obtain ⟨_, _, _, p⟩ := (show ObjOk X.prog X.w H s.heap a (.tup xs) from I.hok a _ ea)
    obtain ⟨o, h1, h2, _⟩ := p
    exact PySem.W.kia_one PySem.W.kitx_tuple I.kIn ⟨o, h1, h2⟩ e (fun z => nomatch z) h
  | @dK a kvs ea =>
    cases (show u = Value.ref a from rx)
    obtain ⟨_, _, vs, _, p⟩ := (show ObjOk X.prog X.w H s.heap a (.dK kvs) from I.hok a _ ea)
    obtain ⟨o, es, ep, h1, h2, _⟩ := p
    exact PySem.W.kia_one PySem.W.kitx_dict I.kIn ⟨o, h1, h2.1⟩ e (fun z => nomatch z) h
  | @dT a kvs ea =>
    cases (show u = Value.ref a from rx)
    obtain ⟨_, _, xs, _, o, es, ep, h1, h2, _⟩ := (show ObjOk X.prog X.w H s.heap a (.dT kvs) from I.hok a _ ea)
    exact PySem.W.kia_one PySem.W.kitx_dict I.kIn ⟨o, h1, h2.1⟩ e (fun z => nomatch z) h
  | @ins a C dx fs ea cl ha hn htk hm =>
    cases (show u = Value.ref a from rx)
    obtain ⟨mA, O, _⟩ := ins_get I.hok ea
    obtain ⟨od, J, _⟩ := O.look
    exact PySem.W.kia_one (PySem.W.kitx_own (cl.get _) cl.hd ha hn htk hm) I.kIn J e (fun z => nomatch z) h
end
end L2

namespace L2
open PySem PySem.Spec PyProof.Rows

/-! ### room -/
structure Room (k : Nat) (A : Around) : Prop where
  hd : A.handled = none
  dp : A.depth + 3 * k + 5 < recursionLimit
  un : A.units + 16 * k + 200 < cLine
theorem Room.deeper {k : Nat} {A : Around} (r : Room (k + 1) A) (env : Env) : Room k (A.deeper env) :=
  ⟨r.hd, by have := r.dp; show A.depth + 1 + 3 * k + 5 < _; omega, by have := r.un; show A.units + 3 + 16 * k + 200 < _; omega⟩
theorem Room.depth {k : Nat} {A : Around} (r : Room k A) : A.depth < recursionLimit := by have := r.dp; omega
theorem Room.units {k : Nat} {A : Around} (r : Room k A) : A.units + 64 < cLine := by have := r.un; omega
/-! ### argument lists and displays -/
def tNil : TA := fun _ H Q => Q [] H
def tCons (ta : TE) (tr : TA) : TA := fun σ H Q => ta σ H fun x H1 => tr σ H1 fun xs H2 => Q (x :: xs) H2
section
variable {X : Cx} {e : Expr} {es : List Expr} {te : TE} {t : TA} {pos : Pos}
theorem pa_nil : PA X [] tNil := fun _ _ _ _ H Q I h => Calls.spliced_nil ⟨[], H, I, .nil, h⟩
theorem pa_cons (ha : PE X e te) (hr : PA X es t) (hs : starEach (e :: es) X.env = (false, eval e X.env) :: starEach es X.env := by rfl) : PA X (e :: es) (tCons te t) := by
  intro pos pins s σ H Q I h
  rw [hs]
  show wpAny _ _ (spliced ((false, eval e X.env) :: backTo pos (starEach es X.env))) _ _ s
  refine Calls.spliced_cons (thn (ha pins s σ H _ I h) fun u s1 ⟨x, H1, I1, r1, q1⟩ => ?_)
  exact thn (hr pos pins s1 σ H1 _ I1 q1) fun us s2 ⟨xs, H2, I2, r2, q2⟩ => ⟨x :: xs, H2, I2, .cons r1 r2, q2⟩

/-- a tuple, a list of written items -/
def tTup (t : TA) : TE := fun σ H Q => t σ H fun xs H1 => xs.length ≤ sizeLine ∧ ∀ p, H1 p = none → Q (.ref p) (upd H1 p (.tup xs))
def tLst (t : TA) : TE := fun σ H Q => t σ H fun xs H1 => xs.length ≤ sizeLine ∧ ∀ p, H1 p = none → Q (.ref p) (upd H1 p (.lst xs))
theorem pe_tup {x1} (h : PA X es t) : PE X (.Tuple es x1 pos) (tTup t) := by
  intro pins s σ H Q I hq
  refine wpAny_Tuple_spliced (thn (h pos pins s σ H _ I hq) fun us s1 ⟨xs, H1, I1, r, z, q⟩ => ⟨by rw [← r.length]; exact z, ?_⟩)
  have hf : H1 s1.heap.objs.size = none := I1.hok.fresh (Nat.le_refl _)
  refine ⟨.ref s1.heap.objs.size, upd H1 s1.heap.objs.size (.tup xs), I1.laid (t' := s1.toks) (fun b u e => Heap.get?_push_of_some _ e) (Nat.le_refl _) ?_, rfl, q _ hf⟩
  exact ⟨z, us, r, ⟨_, Heap.get?_push_size _ rfl, rfl, rfl, _, rfl⟩⟩
theorem pe_lst (h : PA X es t) : PE X (.List es pos) (tLst t) := by
  intro pins s σ H Q I hq
  refine wpAny_List_spliced (thn (h pos pins s σ H _ I hq) fun us s1 ⟨xs, H1, I1, r, z, q⟩ => ⟨by rw [← r.length]; exact z, ?_⟩)
  have hf : H1 s1.heap.objs.size = none := I1.hok.fresh (Nat.le_refl _)
  refine ⟨.ref s1.heap.objs.size, upd H1 s1.heap.objs.size (.lst xs), I1.laid (t' := s1.toks) (fun b u e => Heap.get?_push_of_some _ e) (Nat.le_refl _) ?_, rfl, q _ hf⟩
  exact ⟨z, us, 0, r, Heap.get?_push_size _ rfl⟩
end

/-! ### what a def promises -/
/-- a def's promise: the bound arguments in the parameters' order, the heap, the wanted end, the wanted exception -/
abbrev Sp := List V → Hp → VK → XK → Prop
/-- how an exception lies behind a call (file 08 gives it): the callers' frames, abstract heap and state ahead of the call, the wish, the exception, the state -/
abbrev CXT := List Env → Hp → Shared → XK → Value → Shared → Prop

/-- the state at a call -/
structure Env0 (P : Program) (w : World) (K : PySem.W.Frag) (mg : Str → Option Value) (base : Heap) (A : Around) (outer : List Env) (s : Shared) (H : Hp) : Prop where
  frames : A.frames = some outer
  mod : Mod K mg base
  bs : ∀ b o, base.get? b = some o → s.heap.get? b = some o ∧ H b = none
  bsz : base.objs.size ≤ s.heap.objs.size
  funs : s.heap.FunFrames base outer
  frf : ∀ b ∈ frs outer, H b = none
  hok : HOk P w H s.heap
  bare : AllBare s.gens
/-- a call's end -/
def CE (outer : List Env) (P : Program) (w : World) (H : Hp) (s : Shared) (Q : VK) (u : Value) (s' : Shared) : Prop :=
  ∃ v H', s'.os = s.os ∧ AllBare s'.gens ∧ Un (frs outer) [] H H' s.heap s'.heap ∧ HOk P w H' s'.heap ∧ RelV v u ∧ Q v H'
def CR (CX : CXT) (outer : List Env) (P : Program) (w : World) (H : Hp) (s : Shared) (Q : VK) (E : XK) (r : Result) (s' : Shared) : Prop :=
  match r with
  | .ok (.ret u) => CE outer P w H s Q u s'
  | .ok _ => False
  | .error e => CX outer H s E e s'
structure FnOk (P : Program) (w : World) (K : PySem.W.Frag) (mg : Str → Option Value) (base : Heap) (CX : CXT) (k : Nat) (f : Addr) (fd : FuncData) (ps : List Str) (sp : Sp) : Prop where
  len : ∀ vs H Q E, sp vs H Q E → vs.length = ps.length
  run : ∀ (A : Around) (outer : List Env) (s : Shared) (H : Hp) (args : Args) (us : List Value) (vs : List V) (Q : VK) (E : XK), Room k A → Env0 P w K mg base A outer s H → BindsTo s fd args (ps.zip us) → Vals vs us → sp vs H Q E →
    codeAny (model P w) A (.call (.ref f) args) (CR CX outer P w H s Q E) s
/-- a weaker promise -/
theorem FnOk.imp {P : Program} {w : World} {K : PySem.W.Frag} {mg : Str → Option Value} {base : Heap} {CX : CXT} {k : Nat} {f : Addr} {fd : FuncData} {ps : List Str} {sp sp' : Sp} (F : FnOk P w K mg base CX k f fd ps sp)
    (h : ∀ vs H Q E, sp' vs H Q E → sp vs H Q E) : FnOk P w K mg base CX k f fd ps sp' :=
  ⟨fun vs H Q E q => F.len vs H Q E (h _ _ _ _ q), fun A outer s H args us vs Q E hr he hb hv hs => F.run A outer s H args us vs Q E hr he hb hv (h _ _ _ _ hs)⟩

section
variable {X : Cx} {pins : List (Addr × Obj)} {σ : St} {H : Hp} {s s' : Shared}
/-- from a body: what a callee wants -/
theorem Inv.env0 (I : Inv X pins σ H s) : Env0 X.prog X.w X.K X.mg X.base X.A X.stack s H :=
  ⟨I.ok.frames, I.ok.mod, I.bs, Nat.le_trans I.ok.bsz I.sz, I.stack, I.stkFree, I.hok, I.bare⟩
/-- behind a call -/
theorem Inv.after {Q : VK} {u : Value} (I : Inv X pins σ H s) (h : CE X.stack X.prog X.w H s Q u s') : EP X pins σ Q u s' := by
  obtain ⟨v, H', os, bare, un, hok, r, q⟩ := h
  obtain ⟨hh, g, d, t, os'⟩ := s'
  obtain rfl : os' = s.os := os
  exact ⟨v, H', I.call (h' := hh) (g' := g) (d' := d) (t' := t) (ch := []) un hok bare (fun b z => absurd z (by simp)), r, q⟩
end

/-! ### calls -/
/-- how the parameters are bound: us the positional arguments, kw the keywords' values by name, ds the defaults that fill up -/
def Binds (K : PySem.W.Frag) (fd : FuncData) (ps : List Str) (ds : List Value) : Prop :=
  ∀ (s : Shared) (us : List Value), K.In s.heap → (us ++ ds).length = ps.length → BindsTo s fd ⟨us, []⟩ (ps.zip (us ++ ds))
/-- every parameter is given -/
theorem Binds.all {K : PySem.W.Frag} {fd : FuncData} {ps : List Str} (h : ∀ us : List Value, us.length = ps.length → bindArgs fd ⟨us, []⟩ = pure (ps.zip us)) : Binds K fd ps [] := fun s us _ hl => by
  rw [List.append_nil] at hl ⊢
  exact .of_eq (h us hl)

section
variable {X : Cx} {CX : CXT} {k : Nat} {f C : Addr} {fd : FuncData} {ps : List Str} {sp : Sp} {dvs : List V} {ds : List Value} {E : XK} {x m : Str} {p pos apos : Pos} {e o : Expr} {es : List Expr} {ta : TE} {t : TA}

/-- what a class must have to be made -/
structure Mk (K : PySem.W.Frag) (C f : Addr) : Prop where
  makes : PySem.W.makesIn K C = true
  init : PySem.W.findIn K (.ref C) "__init__" = some (some (.ref f))
  fn : PySem.W.isFn K (.ref f) = true
  kp : PySem.W.keepIn K (.ref C) = true

end

/-! ### keywords -/
section
variable {X : Cx} {CX : CXT} {k : Nat} {f C : Addr} {fd : FuncData} {ps ks : List Str} {sp : Sp} {E : XK} {x m : Str} {p pos apos kpos : Pos} {e o : Expr} {es : List Expr} {kws : List Keyword} {te ta : TE} {t tk : TA} {nm : Option Str}
variable {g : List Value → List Value → List Value} {gV : List V → List V → List V}
end

/-! ### a def's body keeps its promise -/
/-- names: the parameters first -/
structure FnScope (N P : List Str) (sc : Scope) : Prop where
  kind : sc.kind = .function
  co : sc.isCoroutine = false
  gen : sc.isGenerator = false
  nd : N.Nodup
  pre : N.take P.length = P
  par : ∀ x ∈ P, sc.names.lookup x = some .local ∨ sc.names.lookup x = some .cell
  nofree : ∀ y ∈ sc.names, y.2 ≠ .free

theorem bindL_out {kindOf : Str → Option NameKind} {x : Str} : ∀ {binds : List (Str × Value)} {m : Str → Option Value}, (∀ v, (x, v) ∉ binds) → bindL kindOf binds m x = m x
  | [], _, _ => rfl
  | (n, v) :: r, m, h => by
    unfold bindL
    rw [bindL_out fun w hw => h w (List.mem_cons_of_mem _ hw)]
    split
    · have : x ≠ n := by rintro rfl; exact h v List.mem_cons_self
      simp [this]
    · rfl
theorem bindC_out {kindOf : Str → Option NameKind} {x : Str} : ∀ {binds : List (Str × Value)} {m : Str → Option Value}, (∀ v, (x, v) ∉ binds) → bindC kindOf binds m x = m x
  | [], _, _ => rfl
  | (n, v) :: r, m, h => by
    unfold bindC
    rw [bindC_out fun w hw => h w (List.mem_cons_of_mem _ hw)]
    split
    · rfl
    · have : x ≠ n := by rintro rfl; exact h v List.mem_cons_self
      simp [this]
theorem bindL_get {kindOf : Str → Option NameKind} {x : Str} {v : Value} : ∀ {P : List Str} {vs : List Value} {i : Nat} {m : Str → Option Value}, P.Nodup → P[i]? = some x → vs[i]? = some v → kindOf x = some .local →
    bindL kindOf (P.zip vs) m x = some v
  | [], _, _, _, _, h, _, _ => by simp at h
  | _ :: _, [], _, _, _, _, h, _ => by simp at h
  | p :: P, w :: vs, 0, m, nd, h1, h2, hk => by
    simp at h1 h2; subst h1; subst h2
    show bindL kindOf ((p, w) :: P.zip vs) m p = _
    unfold bindL
    rw [bindL_out fun v hv => (List.nodup_cons.mp nd).1 (List.of_mem_zip hv).1, if_pos hk]
    simp
  | p :: P, w :: vs, i + 1, m, nd, h1, h2, hk => by
    show bindL kindOf ((p, w) :: P.zip vs) m x = _
    unfold bindL
    exact bindL_get (i := i) (List.nodup_cons.mp nd).2 (by simpa using h1) (by simpa using h2) hk
theorem bindC_get {kindOf : Str → Option NameKind} {x : Str} {v : Value} : ∀ {P : List Str} {vs : List Value} {i : Nat} {m : Str → Option Value}, P.Nodup → P[i]? = some x → vs[i]? = some v → kindOf x ≠ some .local →
    bindC kindOf (P.zip vs) m x = some v
  | [], _, _, _, _, h, _, _ => by simp at h
  | _ :: _, [], _, _, _, _, h, _ => by simp at h
  | p :: P, w :: vs, 0, m, nd, h1, h2, hk => by
    simp at h1 h2; subst h1; subst h2
    show bindC kindOf ((p, w) :: P.zip vs) m p = _
    unfold bindC
    rw [bindC_out fun v hv => (List.nodup_cons.mp nd).1 (List.of_mem_zip hv).1, if_neg hk]
    simp
  | p :: P, w :: vs, i + 1, m, nd, h1, h2, hk => by
    show bindC kindOf ((p, w) :: P.zip vs) m x = _
    unfold bindC
    exact bindC_get (i := i) (List.nodup_cons.mp nd).2 (by simpa using h1) (by simpa using h2) hk

/-- the names' values at the entry -/
def start (N : List Str) (vs : List V) : St := vs.map some ++ List.replicate (N.length - vs.length) none

/-- the context of a def's body, at its entry; an exception leaves the frame, then lies as CX says -/
def cxOf (CX : CXT) (P : Program) (w : World) (K : PySem.W.Frag) (mg : Str → Option Value) (base : Heap) (N : List Str) (qual : Str) (scope : Scope) (f : Addr) (cd : Value) (A : Around) (outer : List Env) (s : Shared) (H : Hp) (E : XK) : Cx where
  prog := P
  w := w
  K := K
  mg := mg
  base := base
  A := A.deeper (envOfC qual scope s.heap.objs.size f cd)
  N := N
  s₀ := s
  H₀ := H
  env := envOfC qual scope s.heap.objs.size f cd
  outer := outer
  stack := envOfC qual scope s.heap.objs.size f cd :: outer
  ex := []
  calm := true
  fn := fun _ => true
  pn := []
  xe := fun e s' => wpAny (model P w) (A.deeper (envOfC qual scope s.heap.objs.size f cd)) (leaving (envOfC qual scope s.heap.objs.size f cd) e) (fun _ s'' => CX outer H s E e s'') (fun e' s'' => CX outer H s E e' s'') s'

theorem cell_has {sc : Scope} {n : Nat} {x : Str} (h : sc.names.lookup x = some .cell) : ∃ c, (cellsFrom n sc.names []).lookup x = some c := by
  have q := PySem.W.cellsFrom_some sc.names n [] (.inl h)
  exact Option.isSome_iff_exists.mp q

theorem inv_start {CX : CXT} {P : Program} {w : World} {K : PySem.W.Frag} {mg : Str → Option Value} {base : Heap} {N ps : List Str} {qual : Str} {scope : Scope} {f : Addr} {cd : Value} {A : Around} {outer : List Env} {s s1 : Shared} {H : Hp} {E : XK} {us : List Value} {vs : List V}
    (S : FnScope N ps scope) (hd : A.handled = none) (e0 : Env0 P w K mg base A outer s H) (hl : vs.length = ps.length) (r : Vals vs us)
    (x : InCallC s s.heap.objs.size (bindL (envOfC qual scope s.heap.objs.size f cd).kindOf (ps.zip us) fun _ => none) (cellsFrom (s.heap.objs.size + 1) scope.names []) (bindC (envOfC qual scope s.heap.objs.size f cd).kindOf (ps.zip us) fun _ => none) s1) :
    Inv (cxOf CX P w K mg base N qual scope f cd A outer s H E) [] (start N vs) H s1 := by
  have hpl : ps.length ≤ N.length := by have := congrArg List.length S.pre; rw [List.length_take] at this; omega
  obtain ⟨h1, tk, rfl, hk⟩ := x.done
  have noA : ∀ b : Addr, b ∉ (cxOf CX P w K mg base N qual scope f cd A outer s H E).ex := fun b z => absurd (show b ∈ ([] : List Addr) from z) (by simp)
  refine ⟨⟨e0.mod, S.kind, rfl, rfl, Nat.le_refl _, fun y z c h1 h2 => ?_, fun y hy => ?_, fun y c _ h => ?_, fun _ => hd, Around.frames_deeper e0.frames, .inr ⟨rfl, rfl⟩, fun b z => absurd z (noA b), e0.bs, e0.bsz, fun b _ _ => noA b, fun b z => absurd z (noA b), e0.funs, e0.frf⟩,
    rfl, e0.bare, Un.kept hk, ⟨_, x.toInCall.ns, fun i y v h1 h2 h3 => ?_⟩, fun y c h => ⟨_, x.cell y c h⟩, e0.hok.fresh (Nat.le_refl _), fun y c h => ?_, fun p hp => absurd (show p ∈ ([] : List (Addr × Obj)) from hp) (by simp), e0.hok.kept hk, ?_⟩
  · exact name_of_addr x.apart (PySem.mem_of_lookup h1) (PySem.mem_of_lookup h2)
  · have hy : scope.names.lookup y = some .cell ∨ scope.names.lookup y = some .free := hy
    rcases hy with hy | hy
    · exact cell_has hy
    · exact absurd rfl (S.nofree _ (PySem.mem_of_lookup hy))
  · exact Nat.le_of_lt (x.above y c (PySem.mem_of_lookup h))
  · have hi : i < vs.length := by
      unfold start at h2
      by_cases hi : i < vs.length
      · exact hi
      · rw [List.getElem?_append_right (by simpa using hi)] at h2
        rw [List.getElem?_replicate] at h2
        split at h2 <;> cases h2
    have ha : vs[i]? = some v := by
      unfold start at h2
      rw [List.getElem?_append_left (by simpa using hi), List.getElem?_map] at h2
      cases e : vs[i]? with
      | none => rw [e] at h2; cases h2
      | some a => rw [e] at h2; cases h2; rfl
    obtain ⟨u, hu, rv⟩ := r.get ha
    have hp : ps[i]? = some y := by
      rw [← S.pre, List.getElem?_take_of_lt (by omega)]; exact h1
    have ndP : ps.Nodup := by rw [← S.pre]; exact S.nd.sublist (List.take_sublist _ _)
    refine ⟨u, rv, ?_⟩
    rcases S.par y (List.mem_of_getElem? hp) with k | k
    · exact .inl ⟨k, bindL_get ndP hp hu k⟩
    · obtain ⟨c, e⟩ := cell_has (n := s.heap.objs.size + 1) k
      refine .inr ⟨.inl k, c, e, ?_⟩
      have q := x.cell y c e
      rw [bindC_get ndP hp hu (by show scope.names.lookup y ≠ _; rw [k]; decide)] at q
      exact q
  · exact e0.hok.fresh (Nat.le_of_lt (x.above y c (PySem.mem_of_lookup h)))
  · unfold start
    show _ = N.length
    rw [List.length_append, List.length_map, List.length_replicate]
    omega

/-- THE RULE: a def (or a method) of the text, by its body. The body's reading t is chosen for each entry; it is run at the parameters' values -/
theorem fn_of {CX : CXT} {P : Program} {w : World} {K : PySem.W.Frag} {mg : Str → Option Value} {base : Heap} {k : Nat} {f : Addr} {name qual : Str} {params : Arguments} {body : List Stmt} {scope : Scope} {dV kV doc pm cdv ct oc : Value} {an od : Option Addr}
    {osl : Array (Option Value)} {N ps : List Str} {sp : Sp} (lk : K.lookup f = some ⟨oc, od, .func (PySem.W.fnOf name qual params body scope dV kV doc pm an cdv ct), osl⟩) (hcd : PySem.W.codeIn K cdv qual = true) (S : FnScope N ps scope)
    (len : ∀ vs H Q E, sp vs H Q E → vs.length = ps.length)
    (hbody : ∀ (A : Around) (outer : List Env) (s : Shared) (H : Hp) (vs : List V) (Q : VK) (E : XK), Room k (A.deeper (envOfC qual scope s.heap.objs.size f cdv)) → sp vs H Q E →
      ∃ t, PSs (cxOf CX P w K mg base N qual scope f cdv A outer s H E) body t ∧ t { nx := fun _ H' => Q .non H', rt := Q } (start N vs) H) :
    FnOk P w K mg base CX (k + 1) f (PySem.W.fnOf name qual params body scope dV kV doc pm an cdv ct) ps sp := by
  refine ⟨len, fun A outer s H args us vs Q E hr e0 hb r hsp => ?_⟩
  have hl := len _ _ _ _ hsp
  have KX : K.In s.heap := e0.mod.kin.keeps fun b o e => (e0.bs b o e).1
  have lim : s.heap.NoLimit := e0.mod.nolimit.keeps fun b o e => (e0.bs b o e).1
  have hkind : ∀ y ∈ ps.zip us, scope.names.lookup y.1 = some .local ∨ (scope.names.lookup y.1 = some .cell ∧ ((cellsFrom (s.heap.objs.size + 1) scope.names []).lookup y.1).isSome = true) := fun ⟨n, v⟩ hy => by
    rcases S.par n (List.of_mem_zip hy).1 with q | q
    · exact .inl q
    · exact .inr ⟨q, PySem.W.cellsFrom_some _ _ _ (.inl q)⟩
  refine codeAny_call_function hr.depth (KX _ _ lk) rfl S.co S.gen rfl (PySem.W.codeRec_of KX hcd) (hb _ _ _ _ ?_)
  refine wpAny_newFunctionEnv_cells S.kind hkind fun env he s1 x => ?_
  subst he
  refine ⟨lim.keeps x.toInCall.keep, codeAny_func ?_⟩
  obtain ⟨t, ht, hq⟩ := hbody A outer s H vs Q E (hr.deeper _) hsp
  have I : Inv (cxOf CX P w K mg base N qual scope f cdv A outer s H E) [] (start N vs) H s1 := inv_start S hr.hd e0 hl r x
  refine wpAny_mono (ht [] s1 (start N vs) H _ I hq) (fun fl s' hs => ?_) fun e s' hs => hs
  have fin : ∀ {σ' : St} {H' : Hp} {v : V} {u : Value}, Inv (cxOf CX P w K mg base N qual scope f cdv A outer s H E) [] σ' H' s' → RelV v u → Q v H' → CE outer P w H s Q u s' :=
    fun {σ' H' v u} J rv q => ⟨v, H', J.os, J.bare, J.base, J.hok, rv, q⟩
  cases fl with
  | ret u =>
    obtain ⟨v, σ', H', J, rv, q⟩ := hs
    exact fin J rv q
  | next =>
    obtain ⟨σ', H', J, q⟩ := hs
    exact fin (v := V.non) (u := Value.none) J rfl q
  | brk =>
    obtain ⟨_, _, _, q⟩ := hs
    exact False.elim q
  | cont =>
    obtain ⟨_, _, _, q⟩ := hs
    exact False.elim q
end L2

namespace L2
open PySem PySem.Spec PyProof.Rows
section
variable {X : Cx} {x : Str} {p pos : Pos} {e : Expr} {es : List Expr} {t : TA} {id T : String} {r : List V → Hp → VK → Prop}

def tCB (r : List V → Hp → VK → Prop) (t : TA) : TE := fun σ H Q => t σ H fun vs H1 => r vs H1 Q
/-- f(e, ..), f a built-in function -/
theorem pe_callB (hc : CallR X (.builtin id) r) (hg : Gl X x) (hm : X.mg x = none) (hv : bootBuiltins x = some (.builtin id)) (ha : PA X (e :: es) t) (hn : x ≠ "__name__" := by decide) (hdb : (x == ("__debug__" : Str)) = false := by decide)
    (he : starEach (e :: es) X.env = (false, eval e X.env) :: starEach es X.env := by rfl) (hpl : (backTo pos (starEach es X.env)).any (·.1) = false := by rfl) : PE X (.Call (.Name x p) (e :: es) [] pos) (tCB r t) := by
  intro pins s σ H Q I h
  refine wpAny_Call_Name_kw (ld_blt I hg hm hv ?_ hn hdb)
  exact PyProof.Rows.callWith_builtin1 (thn (ha pos pins s σ H _ I h) fun us s1 ⟨vs, H1, I1, r1, q1⟩ => hc pins s1 σ H1 vs us Q I1 r1 q1) he hpl
/-- T(e, ..), T a built-in type -/
theorem pe_callTy (hc : CallR X (.type T) r) (hg : Gl X x) (hm : X.mg x = none) (hv : bootBuiltins x = some (.type T)) (ha : PA X (e :: es) t) (hn : x ≠ "__name__" := by decide) (hdb : (x == ("__debug__" : Str)) = false := by decide)
    (he : starEach (e :: es) X.env = (false, eval e X.env) :: starEach es X.env := by rfl) (hpl : (backTo pos (starEach es X.env)).any (·.1) = false := by rfl) : PE X (.Call (.Name x p) (e :: es) [] pos) (tCB r t) := by
  intro pins s σ H Q I h
  refine wpAny_Call_Name_kw (ld_blt I hg hm hv ?_ hn hdb)
  exact PyProof.Rows.callWith_type1 (thn (ha pos pins s σ H _ I h) fun us s1 ⟨vs, H1, I1, r1, q1⟩ => hc pins s1 σ H1 vs us Q I1 r1 q1) he hpl
end
end L2

namespace HT
open PySem PyProof.Rows

section
open PySem.SeqAt
open PySem.AutoSeq1 (wpAny_loadPart')
open PySem.MeetsSeq PySem.MeetsSeq2 PySem.MeetsSeq3

end

section
variable {prog : Program} {w : World} {A : Around} {E : Value → Shared → Prop} {s : Shared}

/-- t + u, t not empty -/
theorem cat_tup {t b : Addr} {vs ws : List Value} {Q : Value → Shared → Prop} (ht : IsTup s.heap t vs.toArray) (hb : IsTup s.heap b ws.toArray) (hv : vs ≠ [])
    (h1 : ws = [] → Q (.ref t) s) (h2 : ws ≠ [] → Q (.ref s.heap.objs.size) { s with heap := s.heap.push { cls := .type "tuple", data := .seq (vs ++ ws).toArray } })
    (hsz : vs.length + ws.length ≤ sizeLine) : wpAny (model prog w) A (binaryOp .Add (.ref t) (.ref b)) Q E s := by
  obtain ⟨⟨cls, dd, data, sl⟩, ho, hc, n, hd⟩ := id ht
  obtain ⟨⟨cls2, dd2, data2, sl2⟩, ho2, hc2, n2, hd2⟩ := id hb
  simp only at hc hd hc2 hd2
  subst hc hd hc2 hd2
  have e : vs.toArray ++ ws.toArray = (vs ++ ws).toArray := by simp
  by_cases hw : ws = []
  · exact concat_meets ⟨_, ho, rfl⟩ ⟨_, ho2, rfl⟩ noFill_tuple_add seq_tuple_add PySem.F.slot_tuple_add PySem.F.entry_tuple_add (PySem.F.args_tuple_add_2 _ _)
      (tuple_addW1 t b vs.toArray ws.toArray n n2 dd dd2 sl sl2 (by simpa using hv) (by simp [hw])) ⟨ho, ho2, h1 hw⟩
  · refine concat_meets ⟨_, ho, rfl⟩ ⟨_, ho2, rfl⟩ noFill_tuple_add seq_tuple_add PySem.F.slot_tuple_add PySem.F.entry_tuple_add (PySem.F.args_tuple_add_2 _ _)
      (tuple_addW2 t b vs.toArray ws.toArray n n2 dd dd2 sl sl2 (by simpa using hv) (by simpa using hw) (by rw [List.size_toArray, List.size_toArray]; exact hsz)) ⟨ho, ho2, ?_⟩
    rw [e]
    exact h2 hw

/-! ### t[a:b], not the whole -/
/-- a slice's bound as a place among n (d where it is left out) -/
def sIx (n d : Nat) : Option Int → Nat
  | none => d
  | some v => if v < 0 then (v + (n : Int)).toNat else min v.toNat n
theorem sIx_none (n d : Nat) : sIx n d none = d := rfl
theorem sIx_nat (n d k : Nat) : sIx n d (some (k : Int)) = min k n := by
  show (if (k : Int) < 0 then ((k : Int) + (n : Int)).toNat else min (k : Int).toNat n) = min k n
  rw [if_neg (by omega), Int.toNat_natCast]
theorem sIx_le (n d : Nat) (hd : d ≤ n) (o : Option Int) : sIx n d o ≤ n := by
  cases o with
  | none => exact hd
  | some v =>
    show (if v < 0 then (v + (n : Int)).toNat else min v.toNat n) ≤ n
    by_cases hv : v < 0
    · rw [if_pos hv]; omega
    · rw [if_neg hv]; exact Nat.min_le_right _ _
theorem clip_eq (v : Int) (n d : Nat) : (if v < 0 then max (v + (n : Int)) 0 else min v (n : Int)) = ((sIx n d (some v) : Nat) : Int) := by
  show (if v < 0 then max (v + (n : Int)) 0 else min v (n : Int)) = (((if v < 0 then (v + (n : Int)).toNat else min v.toNat n) : Nat) : Int)
  by_cases hv : v < 0
  · simp only [if_pos hv]; omega
  · simp only [if_neg hv]; omega
theorem adjust_gen (lo hi : Option Int) (n : Nat) : Builtin.Slice.sliceAdjust lo hi 1 (n : Int) = (((sIx n 0 lo : Nat) : Int), ((sIx n n hi : Nat) : Int)) := by
  have h1 : ¬ ((1 : Int) < 0) := by omega
  unfold Builtin.Slice.sliceAdjust
  simp only [h1, if_false]
  refine Prod.ext ?_ ?_
  · cases lo with
    | none => rfl
    | some v => exact clip_eq v n 0
  · cases hi with
    | none => rfl
    | some v => exact clip_eq v n n
theorem places_gen (i j : Nat) : Builtin.Slice.slicePlaces (i : Int) (j : Int) 1 = j - i := by
  unfold Builtin.Slice.slicePlaces
  have h1 : (1 : Int) > 0 := by omega
  simp only [h1, if_true, Int.ediv_one]
  split <;> omega
theorem slicePart_ {v : Value} {o : Option Int} {Q : Option Int → Shared → Prop} (p : IsPart v o) (h : Q o s) : wpAny (model prog w) A (Builtin.Slice.slicePartIndex v) Q E s := by
  cases p with
  | none => exact slicePart_none h
  | int i t => exact slicePart_int h
theorem sliceApplied_gen {sl : Addr} {vl vu : Value} {lo hi : Option Int} {n : Nat} {Q : Int × Int × Nat → Shared → Prop} (hs : s.heap.IsSliceOf sl vl vu .none) (pl : IsPart vl lo) (pu : IsPart vu hi)
    (h : Q (((sIx n 0 lo : Nat) : Int), 1, sIx n n hi - sIx n 0 lo) s) : wpAny (model prog w) A (Builtin.Slice.sliceApplied (.ref sl) (pure (n : Int))) Q E s := by
  obtain ⟨os, hos, hcs, hds⟩ := id hs
  unfold Builtin.Slice.sliceApplied Builtin.Slice.sliceFields
  refine wpAny_bind (wpAny_bind (wpAny_field hos hds (x := vl) rfl (wpAny_bind (wpAny_field hos hds (x := vu) rfl (wpAny_bind (wpAny_field hos hds (x := .none) rfl (wpAny_pure ?_)))))))
  refine wpAny_bind (slicePart_none ?_)
  show wpAny _ _ (if ((1 : Int) == 0) = true then _ else _) _ _ s
  rw [if_neg (by decide)]
  refine wpAny_bind (slicePart_ pl (wpAny_bind (slicePart_ pu (wpAny_bind (wpAny_pure ?_)))))
  show wpAny _ _ (match Builtin.Slice.sliceAdjust lo hi 1 (n : Int) with | (lo, hi) => pure (lo, (1 : Int), Builtin.Slice.slicePlaces lo hi 1)) _ _ s
  rw [adjust_gen lo hi n]
  show wpAny _ _ (pure (((sIx n 0 lo : Nat) : Int), (1 : Int), Builtin.Slice.slicePlaces ((sIx n 0 lo : Nat) : Int) ((sIx n n hi : Nat) : Int) 1)) _ _ s
  rw [places_gen]
  exact wpAny_pure h
theorem pick_gen (xs : Array Value) (i k : Nat) : ((List.range k).filterMap fun (m : Nat) => xs[((i : Int) + (m : Int) * 1).toNat]?).toArray = ((xs.toList.drop i).take k).toArray := by
  have e : (fun (m : Nat) => xs[((i : Int) + (m : Int) * 1).toNat]?) = fun m => xs[i + m]? := by
    funext m
    have : ((i : Int) + (m : Int) * 1).toNat = i + m := by omega
    rw [this]
  rw [e]
  have := pick_run xs i k
  rw [List.filterMap_map] at this
  have e2 : ((fun x => xs[x]?) ∘ fun x => i + x) = fun m => xs[i + m]? := rfl
  rw [e2] at this
  rw [this]

theorem getItem_tuple_cut {t sl : Addr} {items : Array Value} {vl vu : Value} {lo hi : Option Int} {Q : Value → Shared → Prop} (ht : IsTup s.heap t items) (hs : s.heap.IsSliceOf sl vl vu .none) (pl : IsPart vl lo) (pu : IsPart vu hi)
    (hw : ¬ (sIx items.size 0 lo = 0 ∧ sIx items.size items.size hi = items.size))
    (h : Q (.ref s.heap.objs.size) { s with heap := s.heap.push { cls := .type "tuple", data := .seq ((items.toList.drop (sIx items.size 0 lo)).take (sIx items.size items.size hi - sIx items.size 0 lo)).toArray } })
    (hsz : items.size ≤ sizeLine) : wpAny (model prog w) A (getItem (.ref t) (.ref sl)) Q E s := by
  have htake : sizeOk (.seq ((items.toList.drop (sIx items.size 0 lo)).take (sIx items.size items.size hi - sIx items.size 0 lo)).toArray) := by
    show ((items.toList.drop (sIx items.size 0 lo)).take (sIx items.size items.size hi - sIx items.size 0 lo)).toArray.size ≤ sizeLine
    rw [List.size_toArray, List.length_take, List.length_drop, Array.length_toList]
    omega
  have hj : sIx items.size items.size hi ≤ items.size := sIx_le _ _ (Nat.le_refl _) hi
  obtain ⟨os, hos, hcs, hds⟩ := id hs
  have hTs : s.TypeIs (.ref sl) "slice" := ⟨os, hos, hcs⟩
  unfold getItem
  try with_reducible refine wpAny_holding ?_
  first | refine wpAny_bind (wpAny_pure ?_) | skip
  refine wpAny_bind (wpAny_sequenceKey ht.typeIs (by decide) ?_)
  refine wpAny_bind (wpAny_callSpecial?_slot (name := Str.ofString "__getitem__") ht.typeIs PyProof.Rows.slot_tuple_getitem
    (wpAny_call_entry PyProof.Rows.slot_tuple_getitem ht.typeIs entry_tuple_getitem ?_ (args_tuple_getitem _ _)))
  show wpAny _ _ (Builtin.Tuple.tupleItemsOf (.ref t) >>= _) _ _ s
  refine wpAny_bind (tupleItemsOf_ ht ?_)
  refine wpAny_bind (wpAny_typeOf hTs ?_)
  rw [if_pos (by decide)]
  refine wpAny_bind (sliceApplied_gen hs pl pu ?_)
  have hno : ¬ ((((sIx items.size 0 lo : Nat) : Int) == 0 && (1 : Int) == 1 && (sIx items.size items.size hi - sIx items.size 0 lo) == items.size) = true) := by
    intro q
    rw [Bool.and_eq_true, Bool.and_eq_true] at q
    have q1 : ((sIx items.size 0 lo : Nat) : Int) = 0 := eq_of_beq q.1.1
    have q2 : sIx items.size items.size hi - sIx items.size 0 lo = items.size := eq_of_beq q.2
    exact hw ⟨by omega, by omega⟩
  show wpAny _ _ (if (((sIx items.size 0 lo : Nat) : Int) == 0 && (1 : Int) == 1 && (sIx items.size items.size hi - sIx items.size 0 lo) == items.size) = true then _ else _) _ _ s
  rw [if_neg hno, pick_gen]
  first
    | exact wpAny_bind (m := Builtin.Tuple.tupleExact _) (wpAny_newObj_type (wpAny_pure ⟨_, rfl, wpAny_pure h⟩) htake)
    | exact wpAny_bind (m := Builtin.Tuple.tupleExact _) (wpAny_newObj_type (wpAny_bind (wpAny_pure (wpAny_pure ⟨_, rfl, wpAny_pure h⟩))) htake)
    | exact wpAny_bind (wpAny_bind (m := Builtin.Tuple.tupleExact _) (wpAny_newObj_type (wpAny_pure (wpAny_pure ⟨_, rfl, wpAny_pure h⟩)) htake))
    | exact wpAny_bind (wpAny_bind (m := Builtin.Tuple.tupleExact _) (wpAny_newObj_type (wpAny_pure ⟨_, rfl, wpAny_pure h⟩) htake))
end
end HT

namespace L2
open PySem PySem.Spec PyProof.Rows

/-! ### the parts of a slice -/
abbrev TO := St → Hp → (Option Int → Hp → Prop) → Prop
/-- a slice's part (left out, or an int) -/
def PO (X : Cx) (e : Option Expr) (t : TO) : Prop :=
  ∀ (pins : List (Addr × Obj)) (s : Shared) (σ : St) (H : Hp) (Q : Option Int → Hp → Prop), Inv X pins σ H s → t σ H Q →
    wpAny (model X.prog X.w) X.A (evalPart e X.env) (fun u s' => ∃ o H', Inv X pins σ H' s' ∧ IsPart u o ∧ Q o H') X.xe s
def tNoPart : TO := fun _ H Q => Q none H
def tPart (t : TE) : TO := fun σ H Q => t σ H fun x H1 => ∃ i, x = .int i ∧ Q (some i) H1

section
variable {X : Cx} {e : Expr} {te : TE} {lo hi : Option Expr} {tl th : TO} {pos p2 : Pos}

theorem po_none : PO X none tNoPart := by
  intro pins s σ H Q I h
  rw [evalPart_none]
  exact wpAny_pure ⟨none, H, I, .none, h⟩
theorem po_some (h : PE X e te) : PO X (some e) (tPart te) := by
  intro pins s σ H Q I hw
  rw [evalPart_some]
  refine thn (h pins s σ H _ I hw) fun u s1 ⟨x, H1, I1, r1, q1⟩ => ?_
  obtain ⟨i, rfl, q⟩ := q1
  obtain ⟨t, rfl⟩ := r1
  exact ⟨some i, H1, I1, .int i t, q⟩

/-- what a slice of a value is, by values: the slice object stands at sl -/
def SlR (X : Cx) (r : V → Option Int → Option Int → Hp → VK → Prop) : Prop :=
  ∀ (pins : List (Addr × Obj)) (s : Shared) (σ : St) (H : Hp) (x : V) (v vl vu : Value) (lo hi : Option Int) (sl : Addr) (Q : VK), Inv X pins σ H s → RelV x v → s.heap.IsSliceOf sl vl vu .none → IsPart vl lo → IsPart vu hi → r x lo hi H Q →
    ∃ T id, typeLookup (.type T) "__getitem__" = pure (some (.builtin id)) ∧ s.TypeIs v T ∧ wpAny (model X.prog X.w) X.A (getItem v (.ref sl)) (EP X pins σ Q) X.xe s
theorem SlR.or {r r' : V → Option Int → Option Int → Hp → VK → Prop} (h : SlR X r) (h' : SlR X r') : SlR X (fun x lo hi H Q => r x lo hi H Q ∨ r' x lo hi H Q) := by
  intro pins s σ H x v vl vu lo hi sl Q I rx hs pl pu q
  rcases q with q | q
  · exact h pins s σ H x v vl vu lo hi sl Q I rx hs pl pu q
  · exact h' pins s σ H x v vl vu lo hi sl Q I rx hs pl pu q
def tSl (r : V → Option Int → Option Int → Hp → VK → Prop) (te : TE) (tl th : TO) : TE := fun σ H Q => te σ H fun x H1 => tl σ H1 fun l H2 => th σ H2 fun u H3 => r x l u H3 Q
/-- a[lo:hi], any a -/
theorem pe_slice {r : V → Option Int → Option Int → Hp → VK → Prop} (hr : SlR X r) (he : PE X e te) (hl : PO X lo tl) (hu : PO X hi th) : PE X (.Subscript e (.Slice lo hi none p2) pos) (tSl r te tl th) := by
  intro pins s σ H Q I h
  refine Subscript_ (thn (he pins s σ H _ I h) fun v s1 ⟨x, H1, I1, r1, q1⟩ => ?_)
  refine wpAny_Slice (thn (hl pins s1 σ H1 _ I1 q1) fun vl s2 ⟨l, H2, I2, pl, q2⟩ => thn (hu pins s2 σ H2 _ I2 q2) fun vu s3 ⟨u, H3, I3, pu, q3⟩ => ?_)
  rw [evalPart_none]
  refine wpAny_pure ?_
  have I4 : Inv X pins σ H3 { s3 with heap := s3.heap.push { cls := .type "slice", data := .fields #[vl, vu, .none] } } := I3.kept (t' := s3.toks) fun b ob q => Heap.get?_push_of_some _ q
  obtain ⟨T, id, hT, ht, hg⟩ := hr pins { s3 with heap := s3.heap.push { cls := .type "slice", data := .fields #[vl, vu, .none] } } σ H3 x v vl vu l u s3.heap.objs.size Q I4 r1 (Heap.IsSliceOf.new ..) pl pu q3
  show wpAny (model X.prog X.w) X.A (subscriptTail e (.Slice lo hi none p2) v (.ref s3.heap.objs.size)) (EP X pins σ Q) X.xe { s3 with heap := s3.heap.push { cls := .type "slice", data := .fields #[vl, vu, .none] } }
  exact tail_any (ops := [.ref s3.heap.objs.size, v]) ht hT hg (by with_unfolding_all rfl)

/-- the items of xs[lo:hi] -/
def cutV (xs : List V) (lo hi : Option Int) : List V := (xs.drop (HT.sIx xs.length 0 lo)).take (HT.sIx xs.length xs.length hi - HT.sIx xs.length 0 lo)
theorem cutV_length (xs : List V) (lo hi : Option Int) : (cutV xs lo hi).length ≤ xs.length := by
  unfold cutV
  rw [List.length_take, List.length_drop]
  omega
/-- t[lo:hi], not the whole of it (the whole would be t itself) -/
def rSlT (K : PySem.W.Frag) : V → Option Int → Option Int → Hp → VK → Prop := fun x lo hi H Q => ∃ a xs, x = .ref a ∧ SqT K H a xs ∧
  ¬ (HT.sIx xs.length 0 lo = 0 ∧ HT.sIx xs.length xs.length hi = xs.length) ∧ ∀ p, H p = none → Q (.ref p) (upd H p (.tup (cutV xs lo hi)))
theorem sl_tup : SlR X (rSlT X.K) := by
  intro pins s σ H x v vl vu lo hi sl Q I rx hs pl pu h
  obtain ⟨a, xs, rfl, hx, hw, q⟩ := h
  cases rx
  obtain ⟨its, r, ht, hz⟩ := I.tuple hx
  have hlen : its.toArray.size = xs.length := by rw [List.size_toArray]; exact r.length.symm
  refine ⟨"tuple", _, PyProof.Rows.slot_tuple_getitem.lookup, ht.typeIs, ?_⟩
  refine HT.getItem_tuple_cut ht hs pl pu (by rw [hlen]; exact hw) ?_ (by rw [hlen]; exact hz)
  rw [hlen]
  refine ⟨.ref s.heap.objs.size, _, I.laid (t' := s.toks) (o := .tup (cutV xs lo hi)) (fun b ob q => Heap.get?_push_of_some _ q) (Nat.le_refl _) ?_, rfl, q _ (I.hok.fresh (Nat.le_refl _))⟩
  exact ⟨Nat.le_trans (cutV_length xs lo hi) hz, _, (r.drop (HT.sIx xs.length 0 lo)).take (HT.sIx xs.length xs.length hi - HT.sIx xs.length 0 lo), PlainTp.new _ _⟩

/-! ### t < u, t + u -/
theorem Vals.nil_iff {xs : List V} {us : List Value} (r : Vals xs us) : us = [] ↔ xs = [] := by
  cases r with
  | nil => simp
  | cons _ _ => simp
end
end L2

namespace L2
open PySem PySem.Spec PyProof.Rows

/-! ### places -/
/-- the place that an index of any sign means -/
def ixN (n : Nat) (i : Int) : Option Nat := if 0 ≤ i then (if i < n then some i.toNat else none) else if -(n : Int) ≤ i then some (i + n).toNat else none
def atI {α : Type} (xs : List α) (i : Int) : Option α := (ixN xs.length i).bind fun j => xs[j]?
theorem ixN_seq {n : Nat} {i : Int} {j : Nat} (h : ixN n i = some j) : seqIndex? i n = some j ∧ j < n ∧ -(n : Int) ≤ i ∧ i < n := by
  unfold ixN at h
  by_cases h0 : 0 ≤ i
  · rw [if_pos h0] at h
    by_cases h1 : i < n
    · rw [if_pos h1] at h
      have e : i.toNat = j := Option.some.inj h
      exact ⟨by rw [seqIndex_of h0 h1, e], by omega, by omega, h1⟩
    · rw [if_neg h1] at h; cases h
  · rw [if_neg h0] at h
    by_cases h1 : -(n : Int) ≤ i
    · rw [if_pos h1] at h
      have e : (i + n).toNat = j := Option.some.inj h
      exact ⟨by rw [seqIndex_neg (by omega) h1, e], by omega, h1, by omega⟩
    · rw [if_neg h1] at h; cases h
theorem atI_get {α : Type} {xs : List α} {i : Int} {v : α} (h : atI xs i = some v) : ∃ j, seqIndex? i xs.length = some j ∧ xs[j]? = some v ∧ j < xs.length ∧ -(xs.length : Int) ≤ i ∧ i < xs.length := by
  unfold atI at h
  cases e : ixN xs.length i with
  | none => rw [e] at h; cases h
  | some j =>
    rw [e] at h
    obtain ⟨h1, h2, h3, h4⟩ := ixN_seq e
    exact ⟨j, h1, h, h2, h3, h4⟩
theorem atI_nat {α : Type} {xs : List α} {j : Nat} {v : α} (h : xs[j]? = some v) : atI xs (j : Int) = some v := by
  have hj : j < xs.length := (List.getElem?_eq_some_iff.mp h).1
  have e : ixN xs.length (j : Int) = some j := by
    unfold ixN
    rw [if_pos (by omega), if_pos (by omega)]; simp
  unfold atI; rw [e]; exact h
/-! ### what may be subscripted -/
/-- what stands as an index of a plain subscript -/
def PlainIx (b : Expr) : Prop := ∀ o i, subscripted b false o i = operate [o, i] (getItem o i)
/-- a subscript by values -/
def IxR (X : Cx) (r : R2) : Prop :=
  ∀ (value slice : Expr) (pins : List (Addr × Obj)) (s : Shared) (σ : St) (H : Hp) (x y : V) (v u : Value) (Q : VK), Inv X pins σ H s → RelV x v → RelV y u → r x y H Q →
    subscripted slice false v u = operate [v, u] (getItem v u) → wpAny (model X.prog X.w) X.A (subscriptTail value slice v u) (EP X pins σ Q) X.xe s
/-- a call of a builtin's method by values: the receiver, the arguments -/
def MtR (X : Cx) (id : String) (r : V → List V → Hp → VK → Prop) : Prop :=
  ∀ (pins : List (Addr × Obj)) (s : Shared) (σ : St) (H : Hp) (x : V) (xs : List V) (v : Value) (us : List Value) (Q : VK), Inv X pins σ H s → RelV x v → Vals xs us → r x xs H Q →
    wpAny (model X.prog X.w) X.A (call (.builtin id) (v :: us)) (EP X pins σ Q) X.xe s
section
variable {X : Cx} {a b : Expr} {ta tb : TE} {pos : Pos}
theorem IxR.or {r r' : R2} (h : IxR X r) (h' : IxR X r') : IxR X (fun x y H Q => r x y H Q ∨ r' x y H Q) := by
  intro value slice pins s σ H x y v u Q I rx ry q hs
  rcases q with q | q
  · exact h value slice pins s σ H x y v u Q I rx ry q hs
  · exact h' value slice pins s σ H x y v u Q I rx ry q hs
/-- a[b] -/
theorem pe_ix {r : R2} (hr : IxR X r) (ha : PE X a ta) (hb : PE X b tb) (hs : PlainIx b) : PE X (.Subscript a b pos) (tOp r ta tb) := by
  intro pins s σ H Q I h
  exact Subscript_ (binT ha hb I h fun v u s2 x y H2 I2 rx ry q => hr a b pins s2 σ H2 x y v u Q I2 rx ry q (hs _ _))

def rIxL (K : PySem.W.Frag) : R2 := fun x y H Q => ∃ p xs i v, x = .ref p ∧ y = .int i ∧ SqL K H p xs ∧ atI xs i = some v ∧ Q v H
def rIxT (K : PySem.W.Frag) : R2 := fun x y H Q => ∃ p xs i v, x = .ref p ∧ y = .int i ∧ SqT K H p xs ∧ atI xs i = some v ∧ Q v H
def rIxS : R2 := fun x y H Q => ∃ z i c, x = .str z ∧ y = .int i ∧ z.length ≤ sizeLine ∧ atI z.cps.toList i = some c ∧ Q (.str ⟨#[c]⟩) H
theorem ix_list : IxR X (rIxL X.K) := by
  intro value slice pins s σ H x y v u Q I rx ry h hs
  obtain ⟨p, xs, i, z, rfl, rfl, hq, he, q⟩ := h
  cases rx
  obtain ⟨t, rfl⟩ := ry
  obtain ⟨its, r, pl, hz⟩ := I.list hq
  obtain ⟨j, h1, h2, h3, h4, h5⟩ := atI_get he
  obtain ⟨w, ew, rw'⟩ := r.get h2
  have hl := r.length
  have hn := line63
  have fin : EP X pins σ Q w s := ⟨z, H, I, rw', q⟩
  by_cases h0 : 0 ≤ i
  · have hj : i.toNat = j := by
      rw [seqIndex_of h0 h5] at h1
      exact Option.some.inj h1
    exact item_listR pl.isList h0 (by omega) (by rw [hj]; simpa using ew) fin hs
  · have hj : (i + (its.toArray.size : Int)).toNat = j := by
      rw [seqIndex_neg (by omega) h4] at h1
      rw [List.size_toArray, ← hl]
      exact Option.some.inj h1
    exact subscriptTail_builtinR (x := w) pl.isList.typeIs slot_list_getitem.lookup
      (wpAny_getItem_list_neg (Q := fun r s' => r = w ∧ EP X pins σ Q r s') pl.isList (by omega) (by rw [List.size_toArray] <;> omega) (by omega) (by rw [hj]; simpa using ew) ⟨rfl, fin⟩) hs
theorem ix_tup : IxR X (rIxT X.K) := by
  intro value slice pins s σ H x y v u Q I rx ry h hs
  obtain ⟨p, xs, i, z, rfl, rfl, hq, he, q⟩ := h
  cases rx
  obtain ⟨t, rfl⟩ := ry
  obtain ⟨its, r, pl, hz⟩ := I.tuple hq
  obtain ⟨j, h1, h2, h3, h4, h5⟩ := atI_get he
  obtain ⟨w, ew, rw'⟩ := r.get h2
  have hl := r.length
  have hn := line63
  have fin : EP X pins σ Q w s := ⟨z, H, I, rw', q⟩
  exact subscriptTail_builtinR (x := w) pl.typeIs slot_tuple_getitem.lookup
    (getItem_tuple (j := j) (Q := fun r s' => r = w ∧ EP X pins σ Q r s') pl (by omega) (by omega) (by rw [List.size_toArray, ← hl]; exact h1) (by simpa using ew) ⟨rfl, fin⟩) hs
theorem ix_str : IxR X rIxS := by
  intro value slice pins s σ H x y v u Q I rx ry h hs
  obtain ⟨z, i, c, rfl, rfl, hz, he, q⟩ := h
  obtain ⟨t, rfl⟩ := rx
  obtain ⟨t', rfl⟩ := ry
  obtain ⟨j, h1, h2, h3, h4, h5⟩ := atI_get he
  have hl : z.cps.toList.length = z.length := by simp [Str.length]
  rw [hl] at h1 h4 h5
  have hn := line63
  exact tail_any (typeIs_str s z t) slot_str_getitem.lookup (getItem_str (c := c) (by
    have e1 : decide (i < -(2 ^ 63 : Int)) = false := decide_eq_false (by omega)
    have e2 : decide (i ≥ 2 ^ 63) = false := decide_eq_false (by omega)
    rw [e1, e2, Bool.or_false]) (by rw [h1]; simpa using h2) ⟨.str ⟨#[c]⟩, H, I.tok _, ⟨_, rfl⟩, q⟩) hs
/-- list, tuple or str -/
def rIx (K : PySem.W.Frag) : R2 := fun x y H Q => rIxL K x y H Q ∨ rIxT K x y H Q ∨ rIxS x y H Q
theorem ix_seq : IxR X (rIx X.K) := ix_list.or (ix_tup.or ix_str)

/-! ### xs[i] = v, any sign -/
/-! ### slices -/
theorem slice_bounds (lo hi : Option Int) (n : Nat) : (sliceBounds lo hi none n).1 = ((HT.sIx n 0 lo : Nat) : Int) ∧ (sliceBounds lo hi none n).2.1 = ((HT.sIx n n hi : Nat) : Int) ∧ (sliceBounds lo hi none n).2.2 = 1 := by
  refine ⟨?_, ?_, rfl⟩
  · cases lo with
    | none => simp [sliceBounds, HT.sIx]
    | some i =>
      simp only [sliceBounds, HT.sIx, Option.getD_none, show (1 : Int) > 0 by decide, if_true]
      by_cases h : i < 0
      · simp only [h, if_true] <;> omega
      · simp only [h, if_false] <;> omega
  · cases hi with
    | none => simp [sliceBounds, HT.sIx]
    | some i =>
      simp only [sliceBounds, HT.sIx, Option.getD_none, show (1 : Int) > 0 by decide, if_true]
      by_cases h : i < 0
      · simp only [h, if_true] <;> omega
      · simp only [h, if_false] <;> omega
theorem slicePick_cut (its : List Value) (lo hi : Option Int) : slicePick its.toArray lo hi none = ((its.drop (HT.sIx its.length 0 lo)).take (HT.sIx its.length its.length hi - HT.sIx its.length 0 lo)).toArray := by
  obtain ⟨h1, h2, h3⟩ := slice_bounds lo hi its.toArray.size
  unfold slicePick
  rw [h1, h2, h3]
  simp only [sliceRange_one, pick_run, List.size_toArray] <;> rfl
/-- xs[lo:hi] of a list: a new list -/
def rSlL (K : PySem.W.Frag) : V → Option Int → Option Int → Hp → VK → Prop := fun x lo hi H Q => ∃ a xs, x = .ref a ∧ SqL K H a xs ∧ ∀ p, H p = none → Q (.ref p) (upd H p (.lst (cutV xs lo hi)))
theorem sl_list : SlR X (rSlL X.K) := by
  intro pins s σ H x v vl vu lo hi sl Q I rx hs pl pu h
  obtain ⟨a, xs, rfl, hx, q⟩ := h
  cases rx
  obtain ⟨its, r, ht, hz⟩ := I.list hx
  have hlen := r.length
  refine ⟨"list", _, slot_list_getitem.lookup, ht.isList.typeIs, ?_⟩
  refine wpAny_getItem_list_slice ht.isList hs pl pu .none (by simp) ?_ (by rw [List.size_toArray] <;> omega)
  rw [slicePick_cut, ← hlen]
  refine ⟨.ref s.heap.objs.size, _, I.laid (t' := s.toks) (o := .lst (cutV xs lo hi)) (fun b ob q => Heap.get?_push_of_some _ q) (Nat.le_refl _) ?_, rfl, q _ (I.hok.fresh (Nat.le_refl _))⟩
  exact ⟨Nat.le_trans (cutV_length xs lo hi) hz, _, 0, (r.drop (HT.sIx xs.length 0 lo)).take (HT.sIx xs.length xs.length hi - HT.sIx xs.length 0 lo), Heap.get?_push_size _ rfl⟩

/-! ### in, not in: flat items -/
def flatV : V → Bool
  | .non => true
  | .bl _ => true
  | .int _ => true
  | .str _ => true
  | _ => false
/-- == of flat values -/
def eqV : V → V → Bool
  | .non, .non => true
  | .bl a, .bl b => a == b
  | .bl a, .int b => (if a then 1 else 0) == b
  | .int a, .bl b => a == (if b then 1 else 0)
  | .int a, .int b => a == b
  | .str a, .str b => a == b
  | _, _ => false
theorem eqAt_V {A : Around} {s : Shared} {y x : V} {u v : Value} (ry : RelV y u) (rx : RelV x v) (fy : flatV y = true) (fx : flatV x = true) : SeqAt.EqAt A s u v (eqV y x) := by
  cases y with
  | non =>
    cases ry
    cases x with
    | non => cases rx; exact SeqAt.EqAt.same _
    | bl b => cases rx; exact SeqAt.EqAt.none_bool b
    | int b => obtain ⟨t, rfl⟩ := rx; exact SeqAt.EqAt.none_int b t
    | str b => obtain ⟨t, rfl⟩ := rx; exact SeqAt.EqAt.none_str b t
    | _ => exact absurd (show false = true from fx) Bool.false_ne_true
  | bl a =>
    cases ry
    cases x with
    | non => cases rx; exact SeqAt.EqAt.bool_none a
    | bl b => cases rx; exact SeqAt.EqAt.bool_bool a b
    | int b => obtain ⟨t, rfl⟩ := rx; exact SeqAt.EqAt.bool_int a b t
    | str b => obtain ⟨t, rfl⟩ := rx; exact SeqAt.EqAt.bool_str a b t
    | _ => exact absurd (show false = true from fx) Bool.false_ne_true
  | int a =>
    obtain ⟨t', rfl⟩ := ry
    cases x with
    | non => cases rx; exact SeqAt.EqAt.int_none a t'
    | bl b => cases rx; exact SeqAt.EqAt.int_bool a t' b
    | int b => obtain ⟨t, rfl⟩ := rx; exact SeqAt.EqAt.int_int a t' b t
    | str b => obtain ⟨t, rfl⟩ := rx; exact SeqAt.EqAt.int_str a t' b t
    | _ => exact absurd (show false = true from fx) Bool.false_ne_true
  | str a =>
    obtain ⟨t', rfl⟩ := ry
    cases x with
    | non => cases rx; exact SeqAt.EqAt.str_none a t'
    | bl b => cases rx; exact SeqAt.EqAt.str_bool a t' b
    | int b => obtain ⟨t, rfl⟩ := rx; exact SeqAt.EqAt.str_int a t' b t
    | str b => obtain ⟨t, rfl⟩ := rx; exact SeqAt.EqAt.str_str a t' b t
    | _ => exact absurd (show false = true from fx) Bool.false_ne_true
  | _ => exact absurd (show false = true from fy) Bool.false_ne_true
/-- the items' answers, read off the values (a value's own answer does not lean on its token) -/
def eqU (x : V) (u : Value) : Bool := match u with
  | .none => eqV .non x
  | .bool b => eqV (.bl b) x
  | .int i _ => eqV (.int i) x
  | .str z _ => eqV (.str z) x
  | _ => false
theorem eqU_of {x y : V} {u : Value} (r : RelV y u) (f : flatV y = true) : eqU x u = eqV y x := by
  cases y with
  | non => cases r; rfl
  | bl b => cases r; rfl
  | int i => obtain ⟨t, rfl⟩ := r; rfl
  | str z => obtain ⟨t, rfl⟩ := r; rfl
  | _ => exact absurd (show false = true from f) Bool.false_ne_true
theorem any_eqU {x : V} : ∀ {xs : List V} {us : List Value}, Vals xs us → xs.all flatV = true → us.any (eqU x) = xs.any fun y => eqV y x
  | _, _, .nil, _ => rfl
  | y :: xs, u :: us, .cons r t, f => by
    rw [List.all_cons, Bool.and_eq_true] at f
    rw [List.any_cons, List.any_cons, eqU_of r f.1, any_eqU t f.2]
theorem mem_eqAt {A : Around} {s : Shared} {x : V} {v : Value} (rx : RelV x v) (fx : flatV x = true) : ∀ {xs : List V} {us : List Value}, Vals xs us → xs.all flatV = true → ∀ u ∈ us, SeqAt.EqAt A s u v (eqU x u)
  | _, _, .nil, _ => fun u hu => by cases hu
  | y :: xs, u :: us, .cons r t, f => fun u' hu => by
    rw [List.all_cons, Bool.and_eq_true] at f
    rcases List.mem_cons.mp hu with rfl | hu
    · rw [eqU_of r f.1]; exact eqAt_V r rx f.1 fx
    · exact mem_eqAt rx fx t f.2 u' hu
def inV (x : V) (xs : List V) : Bool := xs.any fun y => eqV y x
/-- x in a list or tuple of flat items -/
def rIn (K : PySem.W.Frag) (neg : Bool) : R2 := fun x y H Q => ∃ p xs, y = .ref p ∧ (SqL K H p xs ∨ SqT K H p xs) ∧ flatV x = true ∧ xs.all flatV = true ∧ Q (.bl (if neg then !inV x xs else inV x xs)) H
theorem op_in_seq : OpR X (compareOp .In) (rIn X.K false) := by
  intro pins s σ H x y v u Q I rx ry h
  obtain ⟨p, xs, rfl, hq, fx, fs, q⟩ := h
  cases ry
  rcases hq with hq | hq
  · obtain ⟨its, r, pl, hz⟩ := I.list hq
    refine SeqAt.in_listAt (eqU x) pl.isList (fun w hw => mem_eqAt rx fx r fs w (by simpa using hw)) ⟨.bl _, H, I, rfl, ?_⟩
    rw [show its.toArray.any (eqU x) = its.any (eqU x) by simp, any_eqU r fs]
    exact q
  · obtain ⟨its, r, pl, hz⟩ := I.tuple hq
    refine SeqAt.in_tupleAt (eqU x) pl (fun w hw => mem_eqAt rx fx r fs w (by simpa using hw)) ⟨.bl _, H, I, rfl, ?_⟩
    rw [show its.toArray.any (eqU x) = its.any (eqU x) by simp, any_eqU r fs]
    exact q
theorem op_notIn_seq : OpR X (compareOp .NotIn) (rIn X.K true) := by
  intro pins s σ H x y v u Q I rx ry h
  obtain ⟨p, xs, rfl, hq, fx, fs, q⟩ := h
  cases ry
  rcases hq with hq | hq
  · obtain ⟨its, r, pl, hz⟩ := I.list hq
    refine SeqAt.notIn_listAt (eqU x) pl.isList (fun w hw => mem_eqAt rx fx r fs w (by simpa using hw)) ⟨.bl _, H, I, rfl, ?_⟩
    rw [show its.toArray.any (eqU x) = its.any (eqU x) by simp, any_eqU r fs]
    exact q
  · obtain ⟨its, r, pl, hz⟩ := I.tuple hq
    refine SeqAt.notIn_tupleAt (eqU x) pl (fun w hw => mem_eqAt rx fx r fs w (by simpa using hw)) ⟨.bl _, H, I, rfl, ?_⟩
    rw [show its.toArray.any (eqU x) = its.any (eqU x) by simp, any_eqU r fs]
    exact q
/-! ### len, list(x), tuple(x) of any list or tuple that is read -/
theorem call_list_of : CallR X (.type "list") (fun xs H Q => ∃ p ys, xs = [.ref p] ∧ (SqL X.K H p ys ∨ SqT X.K H p ys) ∧ ∀ l, H l = none → Q (.ref l) (upd H l (.lst ys))) := by
  intro pins s σ H xs us Q I r h
  obtain ⟨p, ys, rfl, hq, q⟩ := h
  obtain ⟨u, rfl, rx⟩ := vals1 r
  cases rx
  have fin : ∀ (its : List Value), Vals ys its → ys.length ≤ sizeLine → ∀ (h' : Heap) (c' : Nat), (∀ b o', s.heap.get? b = some o' → h'.get? b = some o') →
      h'.get? s.heap.objs.size = some { cls := .type "list", dict := none, data := .seq its.toArray c', slots := #[] } → EP X pins σ Q (.ref s.heap.objs.size) { s with heap := h' } := fun its r' hz h' c' kp e =>
    ⟨.ref s.heap.objs.size, _, I.laid (t' := s.toks) kp (Nat.le_refl _) (show ObjOk X.prog X.w _ h' _ (.lst ys) from ⟨hz, its, c', r', e⟩), rfl, q _ (I.hok.fresh (Nat.le_refl _))⟩
  rcases hq with hq | hq
  · obtain ⟨its, r', pl, hz⟩ := I.list hq
    have hlen := r'.length
    obtain ⟨o, ho, hc, n, hd⟩ := pl.isList
    exact call_list_seq p (.inl rfl) ho hc hd (fun h' c' kp e => fin its r' hz h' c' kp e) (by simp only [List.size_toArray] <;> omega)
  · obtain ⟨its, r', pl, hz⟩ := I.tuple hq
    have hlen := r'.length
    obtain ⟨o, ho, hc, n, hd⟩ := pl
    exact call_list_seq p (.inr rfl) ho hc hd (fun h' c' kp e => fin its r' hz h' c' kp e) (by simp only [List.size_toArray] <;> omega)
theorem call_tuple_of : CallR X (.type "tuple") (fun xs H Q => ∃ p ys, xs = [.ref p] ∧ ((SqL X.K H p ys ∧ ∀ l, H l = none → Q (.ref l) (upd H l (.tup ys))) ∨ (SqT X.K H p ys ∧ Q (.ref p) H))) := by
  intro pins s σ H xs us Q I r h
  obtain ⟨p, ys, rfl, h⟩ := h
  obtain ⟨u, rfl, rx⟩ := vals1 r
  cases rx
  rcases h with ⟨hq, q⟩ | ⟨hq, q⟩
  · obtain ⟨its, r', pl, hz⟩ := I.list hq
    have hlen := r'.length
    refine call_tuple_list pl.isList (fun h' kp => ?_) (by simp only [List.size_toArray] <;> omega)
    have I1 : Inv X pins σ H { s with heap := h' } := I.kept (t' := s.toks) kp
    have I2 : Inv X pins σ (upd H h'.objs.size (.tup ys)) { s with heap := h'.push { cls := .type "tuple", data := .seq its.toArray } } :=
      I1.laid (t' := s.toks) (fun b o e => Heap.get?_push_of_some _ e) (Nat.le_refl _) (show ObjOk X.prog X.w _ _ _ (.tup ys) from ⟨hz, its, r', PlainTp.new _ _⟩)
    exact ⟨.ref h'.objs.size, _, I2, rfl, q _ (I1.hok.fresh (Nat.le_refl _))⟩
  · obtain ⟨its, r', pl, hz⟩ := I.tuple hq
    exact call_tuple_same pl ⟨.ref p, H, I, rfl, q⟩

/-! ### the call of a builtin's method: o.m(..) -/
/-- the value is of that builtin type -/
def tyV (K : PySem.W.Frag) (T : String) (x : V) (H : Hp) : Prop := match x with
  | .str _ => T = "str"
  | .int _ => T = "int"
  | .ref p => (T = "list" ∧ ∃ xs, SqL K H p xs) ∨ (T = "tuple" ∧ ∃ o, K.lookup p = some o ∧ o.cls = .type "tuple" ∧ o.dict = none) ∨
      (T = "dict" ∧ ((∃ kvs, H p = some (.dK kvs)) ∨ ∃ kvs, H p = some (.dT kvs))) ∨ (T = "set" ∧ ∃ S n, H p = some (.set S n))
  | _ => False
theorem tyV_is {pins : List (Addr × Obj)} {σ : St} {H : Hp} {s : Shared} {T : String} {x : V} {v : Value} (I : Inv X pins σ H s) (r : RelV x v) (ty : tyV X.K T x H) :
    s.TypeIs v T ∧ ∀ a, v = .ref a → ∃ ob, s.heap.get? a = some ob ∧ ob.dict = none := by
  cases x with
  | str z =>
    obtain ⟨t, rfl⟩ := r
    cases (show T = "str" from ty)
    exact ⟨typeIs_str s z t, fun _ e => nomatch e⟩
  | int i =>
    obtain ⟨t, rfl⟩ := r
    cases (show T = "int" from ty)
    exact ⟨typeIs_int s i t, fun _ e => nomatch e⟩
  | ref p =>
    cases r
    rcases ty with ⟨rfl, xs, hq⟩ | ⟨rfl, o, hk, hc, hd⟩ | ⟨rfl, hk⟩ | ⟨rfl, S, n, hk⟩
    · obtain ⟨its, _, pl, _⟩ := I.list hq
      refine ⟨pl.isList.typeIs, fun a e => ?_⟩
      cases e
      obtain ⟨o, n, e, c, hd, _⟩ := pl
      exact ⟨o, e, hd⟩
    · refine ⟨⟨o, I.kIn p o hk, hc⟩, fun a e => ?_⟩
      cases e
      exact ⟨o, I.kIn _ o hk, hd⟩
    · have z : ∃ o, s.heap.get? p = some o ∧ o.ExactDict := by
        rcases hk with ⟨kvs, hk⟩ | ⟨kvs, hk⟩
        · obtain ⟨_, _, _, _, o, _, _, e, ex, _⟩ := I.hok p _ hk
          exact ⟨o, e, ex⟩
        · obtain ⟨_, _, _, _, o, _, _, e, ex, _⟩ := I.hok p _ hk
          exact ⟨o, e, ex⟩
      obtain ⟨o, e, ex⟩ := z
      refine ⟨⟨o, e, ex.1⟩, fun a e2 => ?_⟩
      cases e2
      exact ⟨o, e, ex.2.1⟩
    · obtain ⟨o, _, _, _, e, ex, _⟩ := I.hok p _ hk
      refine ⟨⟨o, e, ex.1⟩, fun a e2 => ?_⟩
      cases e2
      exact ⟨o, e, ex.2.1⟩
  | _ => exact False.elim ty
def tBM (K : PySem.W.Frag) (T : String) (r : V → List V → Hp → VK → Prop) (to : TE) (t : TA) : TE := fun σ H Q => to σ H fun x H1 => tyV K T x H1 ∧ t σ H1 fun xs H2 => r x xs H2 Q
variable {o e : Expr} {es : List Expr} {to : TE} {t : TA} {name : Str} {apos cpos : Pos} {T id : String} {r : V → List V → Hp → VK → Prop}
theorem pe_bm (pa : PlainAttrs T) (slot : Slot T name id) (hty : typeOf (.builtin id) = pure (.type "method_descriptor")) (hm : MtR X id r) (ho : PE X o to) (ha : PA X (e :: es) t)
    (hbase : attributeBase o name X.env (eval o X.env) = eval o X.env := by rfl)
    (hfew : ((backTo cpos (starEach (e :: es) X.env)).all (fun x => !x.1) && (backToKw cpos (keywordEach [] X.env)).all (fun x => x.1.isSome)
      && decide ((e :: es).length + ([] : List Keyword).length + (if ([] : List Keyword).isEmpty then 0 else 1) < 30)) = true := by rfl)
    (hline : (apos.endLine == cpos.line) = true := by rfl) (hs : starEach (e :: es) X.env = (false, eval e X.env) :: starEach es X.env := by rfl) (hplain : (backTo cpos (starEach es X.env)).any (·.1) = false := by rfl) :
    PE X (.Call (.Attribute o name apos) (e :: es) [] cpos) (tBM X.K T r to t) := by
  intro pins s σ H Q I h
  refine wpAny_Call_method_late hbase hfew hline rfl (thn (ho pins s σ H _ I h) fun v s1 ⟨x, H1, I1, r1, ty, q1⟩ => ?_)
  obtain ⟨h1, h2⟩ := tyV_is I1 r1 ty
  refine ⟨T, id, pa, slot, hty, h1, h2, ?_⟩
  have hA := ha cpos pins s1 σ H1 _ I1 q1
  rw [hs] at hA ⊢
  refine Calls.callWith_builtin (by show (false || (backTo cpos (starEach es X.env)).any (·.1)) = false; rw [hplain] <;> rfl) (Calls.evalArgs_plain ?_)
  exact thn hA fun us s2 ⟨vs, H2, I2, r2, q2⟩ => hm pins s2 σ H2 x vs v us Q I2 r1 r2 q2
/- xs.append(e), list.index on a module's tuple .. are MtR facts of 06m -/
end
end L2

namespace L2
open PySem PySem.Spec PyProof.Rows

def MtM (X : Cx) (id : String) (r : V → List V → Hp → VK → Prop) : Prop :=
  ∀ (pins : List (Addr × Obj)) (s : Shared) (σ : St) (H : Hp) (x : V) (xs : List V) (v : Value) (us : List Value) (Q : VK), Inv X pins σ H s → RelV x v → Vals xs us → r x xs H Q →
    wpAny (model X.prog X.w) X.A (call (.builtin id) (v :: us)) (EP X pins σ Q) X.xe s

/-! ### lists of values -/
theorem Vals.one : ∀ {x : V} {us : List Value}, Vals [x] us → ∃ u, us = [u] ∧ RelV x u
  | _, _, .cons r .nil => ⟨_, rfl, r⟩
section
variable {X : Cx} {pins : List (Addr × Obj)} {σ : St} {H : Hp} {s : Shared} {l b : Addr} {xs ys zs : List V}

/-! ### the two steps: a tracked list is rewritten, a new list is laid -/
theorem Inv.lset {its its' : List Value} {n : Nat} {f : Array Value → Array Value} {t' : Nat} (I : Inv X pins σ H s) (hH : H l = some (.lst xs))
    (e : s.heap.get? l = some { cls := .type "list", data := .seq its.toArray n }) (hf : f its.toArray = its'.toArray) (hv : Vals ys its') (hz : ys.length ≤ sizeLine) :
    Inv X pins σ (upd H l (.lst ys)) { s with heap := s.heap.update l (Obj.mapSeq f), toks := t' } := by
  have q := PySem.IsL.update e f
  rw [hf] at q
  refine I.write (x := l) (e := l) (by rw [hH]; exact trivial) (.inl rfl) (fun b' u hb hu => (Heap.get?_update_other s.heap (Obj.mapSeq f) (Ne.symm hb)).trans hu) ⟨_, q⟩ ?_
  exact ⟨hz, its', _, hv, q⟩
theorem Inv.lstM (I : Inv X pins σ H s) (hH : H l = some (.lst xs)) : xs.length ≤ sizeLine ∧ ∃ (its : List Value) (n : Nat), Vals xs its ∧ xs.length = its.length ∧ s.heap.get? l = some { cls := .type "list", data := .seq its.toArray n } := by
  obtain ⟨z, its, n, r, e⟩ := I.hok l _ hH
  exact ⟨z, its, n, r, r.length, e⟩

end

section
variable {X : Cx}

/-! ### methods -/
def rAppend : V → List V → Hp → VK → Prop := fun x vs H Q => ∃ l xs y, x = .ref l ∧ vs = [y] ∧ H l = some (.lst xs) ∧ xs.length < sizeLine ∧ Q .non (upd H l (.lst (xs ++ [y])))
theorem mt_append : MtM X "list.append" rAppend := by
  intro pins s σ H x vs v us Q I rx rv h
  obtain ⟨l, xs, y, rfl, rfl, hH, hz, q⟩ := h
  cases rx
  obtain ⟨u, rfl, ru⟩ := rv.one
  obtain ⟨z, its, n, r, hl, e⟩ := I.lstM hH
  refine call_meets F.slot_list_append ⟨_, e, rfl⟩ F.entry_list_append (F.args_list_append_2 _ _) (PySem.list_append l its.toArray n u (by rw [List.size_toArray]; omega)) ⟨e, ?_⟩
  refine ⟨.non, _, I.lset (its' := its ++ [u]) hH e (by simp) (r.append (.cons ru .nil)) ?_, rfl, q⟩
  rw [List.length_append, List.length_singleton]
  omega

/-! ### list + list, list += list, list * int -/
/-! ### del xs[i] -/
end

/-! ### xs[a:b] = ys -/
section
variable {prog : Program} {w : World} {A : Around} {E : Value → Shared → Prop} {s : Shared}
end

section
variable {X : Cx}
end
end L2

namespace L2
open PySem PySem.Spec PyProof.Rows

/-! ### lists of pairs as tables -/
section
variable {κ : Type} [DecidableEq κ]
def valV (kvs : List (κ × V)) (k : κ) : Option V := (kvs.find? fun kv => decide (kv.1 = k)).map (·.2)
/-- in its place, or at the end -/
def putK (kvs : List (κ × V)) (k : κ) (v : V) : List (κ × V) :=
  if (kvs.any fun kv => decide (kv.1 = k)) = true then kvs.map (fun kv => if kv.1 = k then (kv.1, v) else kv) else kvs ++ [(k, v)]
theorem KV.length {kvs : List (κ × V)} {vs : List (κ × Value)} (r : KV kvs vs) : kvs.length = vs.length := Paired.length r
end


/-! ### a tracked dict, its keys ints and texts or tuples of these -/
/-- raw entries of a dict with tuple keys -/
abbrev KT (H : Hp) : List (List Key × V) → List (List Key × Addr × Value) → Prop := Paired fun p q => p.1 = q.1 ∧ H q.2.1 = some (.tup (p.1.map kV)) ∧ RelV p.2 q.2.2
section
variable {P : Program} {w : World} {H : Hp} {h : Heap} {a : Addr}
theorem rd_of {u : HO} (ok : HOk P w H h) (e : Rd H a u) : ObjOk P w H h a u := e.ok ok
theorem dk_rd {kvs : List (Key × V)} (ok : HOk P w H h) (e : Rd H a (.dK kvs)) : kvs.length ≤ sizeLine ∧ (a == sysModules) = false ∧ ∃ vs, KV kvs vs ∧ h.DictOf (mixKind P w) a vs :=
  show ObjOk P w H h a (.dK kvs) from rd_of ok e
end

/-- what the dict at a holds at the key y -/
def DGet (H : Hp) (a : Addr) (y : V) (r : Option V) : Prop :=
  (∃ kvs k, Rd H a (.dK kvs) ∧ y = kV k ∧ r = valV kvs k) ∨ ∃ kvs k b, Rd H a (.dT kvs) ∧ y = .ref b ∧ H b = some (.tup (k.map kV)) ∧ r = valV kvs k
/-- the heap behind a[y] = v -/
def DPut (H : Hp) (a : Addr) (y v : V) (H' : Hp) : Prop :=
  (∃ kvs k, H a = some (.dK kvs) ∧ y = kV k ∧ kvs.length < sizeLine ∧ H' = upd H a (.dK (putK kvs k v))) ∨
  ∃ kvs k b, H a = some (.dT kvs) ∧ y = .ref b ∧ H b = some (.tup (k.map kV)) ∧ kvs.length < sizeLine ∧ H' = upd H a (.dT (putK kvs k v))
section
variable {X : Cx} {pins : List (Addr × Obj)} {σ : St} {H : Hp} {s : Shared} {a : Addr} {y v : V} {u r : Value} {o : Option V} {A : Around} {E : Value → Shared → Prop}

theorem Inv.big (I : Inv X pins σ H s) : sysModules < s.heap.objs.size := by
  have h : mainGlobals < s.heap.objs.size := (I.mod.glob.keeps I.bk).lt
  exact Nat.lt_trans (by decide) h

theorem dk_new {P : Program} {w : World} {H' : Hp} {h' : Heap} {kvs : List (Key × V)} {vs : List (Key × Value)} (z : kvs.length ≤ sizeLine) (hd : (a == sysModules) = false) (rel : KV kvs vs) (dd : h'.DictOf (mixKind P w) a vs) :
    ObjOk P w H' h' a (.dK kvs) := ⟨z, hd, vs, rel, dd⟩
end

section
variable {X : Cx} {pins : List (Addr × Obj)} {σ : St} {H : Hp} {s : Shared} {a : Addr} {kvs : List (Key × V)} {k : Key} {u : Value} {A : Around} {E : Value → Shared → Prop}
end


/-! ### readings and rules -/
section
variable {X : Cx} {o i e value : Expr} {pos pos' tpos : Pos} {td ty tv : TE}
end


/-! ### displays -/
section
variable {X : Cx} {pos : Pos}
end

def mergeK (kvs more : List (Key × V)) : List (Key × V) := more.foldl (fun acc kv => putK acc kv.1 kv.2) kvs
/-! ### methods -/
section
variable {X : Cx} {pins : List (Addr × Obj)} {σ : St} {H : Hp} {s : Shared} {a : Addr} {y d : V} {u r : Value} {o : Option V} {A : Around} {E : Value → Shared → Prop}
end

section
variable {X : Cx} {o e f : Expr} {apos cpos : Pos} {td ty tx : TE}
end

/-! ### dict(d): a copy -/
section
variable {X : Cx} {pins : List (Addr × Obj)} {σ : St} {H : Hp} {s : Shared} {a : Addr} {kvs : List (Key × V)} {A : Around} {E : Value → Shared → Prop}
theorem d_copyOf {Q : Value → Shared → Prop} (I : Inv X pins σ H s) (e : Rd H a (.dK kvs)) (h : ∀ p s', H p = none → Inv X pins σ (upd H p (.dK kvs)) s' → Q (.ref p) s') : wpAny (model X.prog X.w) A (call (.type "dict") [.ref a]) Q E s := by
  obtain ⟨z, hd, vs, rel, dd⟩ := dk_rd I.hok e
  refine kt_call_dict hd dd (by rw [← rel.length]; exact z) fun h' dd' hs => ?_
  refine h _ _ (I.hok.fresh (Nat.le_refl _)) (I.laid (a := s.heap.objs.size) (o := .dK kvs) (t' := s.toks) (fun b q hq => ?_) (Nat.le_refl _) (dk_new z (beq_eq_false_iff_ne.mpr (Ne.symm (Nat.ne_of_lt I.big))) rel dd'))
  exact (hs.2 b (Nat.ne_of_lt (Heap.lt_size hq))).trans (Heap.get?_push_of_some _ hq)
end


section
variable {X : Cx} {pins : List (Addr × Obj)} {σ : St} {H : Hp} {s : Shared} {a : Addr} {y : V} {u : Value} {A : Around} {E : Value → Shared → Prop}
end
end L2

namespace Att
open PySem PySem.W PySem.Calls PyProof.Rows

/-! ### the script -/
theorem ints_of_wellAll {P : Params} {h : Heap} : ∀ (ns : List Int) (vs : List Value), WellAll P h vs (ns.map WData.int) → IntsAre vs ns := by
  intro ns
  induction ns with
  | nil =>
    intro vs w
    rw [List.map_nil] at w
    cases w
    exact .nil
  | cons n ns ih =>
    intro vs w
    rw [List.map_cons] at w
    cases w with
    | cons a b =>
      cases a
      exact .cons _ _ (ih _ b)

theorem script_of {l : OpenLaw} {n : Nat} (hn : l.most = some n) {P : Params} {h : Heap} {args : List WData} {vals : List Value}
    (hpre : l.row.toRowW.claim.pre args = true) (hwl : WellAll P h vals args) :
    ∃ a vs ns, vals = [Value.ref a] ∧ args = [WData.list (ns.map WData.int)] ∧ h.get? a = some { cls := .type "list", data := .seq vs.toArray } ∧ IntsAre vs ns ∧ ns.length ≤ n := by
  have hsh : WShape.hasAll [] args [.list .int] = true := (pre_splitW hpre).1
  have hc : l.pre.holds [] { args := args } = true := (pre_splitW hpre).2
  obtain ⟨d, r, rfl, h1, h2⟩ := hasAllW_cons hsh
  obtain rfl := hasAllW_nil h2
  obtain ⟨xs, rfl, h3⟩ := hasW_list h1
  obtain ⟨ns, rfl⟩ := items_int h3
  have hlen : ns.length ≤ n := by
    unfold OpenLaw.pre at hc
    have h4 : (WTm.not (.lt (.lit (.int (n : Int))) (.len (.arg 0)))).holds [] { args := [.list (ns.map .int)] } = true := by
      have h4 := (holds_andW hc).1
      rw [hn] at h4
      exact h4
    have h5 := condW_of h4 (w_not (w_lt w_lit (w_len_list (w_arg rfl))))
    rw [List.length_map] at h5
    refine Nat.le_of_not_lt fun q => ?_
    have q' : (n : Int) < ((ns.length : Nat) : Int) := by omega
    first
      | (rw [decide_eq_true q'] at h5; exact absurd h5 (by decide))
      | (simp at h5; omega)
  cases hwl with
  | cons w1 w2 =>
    cases w2
    cases w1 with
    | list ho hall => exact ⟨_, _, ns, rfl, rfl, ho, ints_of_wellAll ns _ hall, hlen⟩

theorem post_true (l : OpenLaw) (args : List WData) : l.row.toRowW.claim.post args (.bool true) args = true :=
  postW_of (r := l.row.toRowW) (X := (true == true))
    (show WShape.has [] (.bool true) .bool = true by first | rfl | decide | simp [WShape.has, WShape.arms, WShape.armsAll])
    (show (WTm.eq .res (.lit (.bool true))).value [] { args := args, res := some (.bool true), after := args } = some (.bool (true == true)) from w_eq_bool (w_res rfl) w_lit) rfl

/-! ### the attachment: holds_open's last premise (the goal 'hc' behind k_head) from a wpAny of the law's body -/
/-- the same from a codeAny of the CALL (for a layer whose function contracts speak of calls) -/
theorem attach_call {l : OpenLaw} {n : Nat} {q : Program} {loose : List Str} {XP : (Str → Option Value) → Heap → Prop} {YP : World → Heap → Prop} {d : DefRec}
    (hn : l.most = some n) (hdf : d.params.defaults = [])
    (call : ∀ (w : World) (s₀ s₁ : Shared) (mg mb : Str → Option Value) (fa : Addr) (o : Obj) (pm cd doc : Value) (a : Addr) (vs : List Value) (ns : List Int),
      Ground q loose [] XP w s₀ mg mb s₁.heap → YP w s₁.heap →
      s₁.heap.get? fa = some o → o.data = .func (docDef d.name d.params d.body d.scope pm cd doc) → s₁.heap.CodeRec cd d.name → mg d.name = some (.ref fa) →
      s₁.heap.get? a = some { cls := .type "list", data := .seq vs.toArray } → IntsAre vs ns → ns.length ≤ n → s₁.gens = #[] →
      codeAny (model l.prog w) callerA (.call (.ref fa) ⟨[.ref a], []⟩) (fun r s' => r = .ok (.ret (.bool true)) ∧ OldK s₁.heap s'.heap ∧ s'.os = s₁.os ∧ AllBare s'.gens) s₁) :
    WalkO q loose XP YP l.row.toRowW d [] (fun f vs => PySem.call f vs) := by
  intro w s₀ s₁ mg mb G Y fa o pm cd doc dV kV ho hd hcd hD hmg hg args vals as hpre hlay hrd hwl hlo
  obtain rfl : dV = .none := Dflts.none hD hdf
  obtain rfl : kV = .none := Dflts.noKw hD
  obtain ⟨a, vs, ns, rfl, rfl, hobj, hints, hlen⟩ := script_of hn hpre hwl
  refine enter_call (codeAny_mono (call w s₀ s₁ mg mb fa o pm cd doc a vs ns G Y ho (fd_plain hd) hcd hmg hobj hints hlen hg) fun r s' hq => ?_)
  obtain ⟨rfl, h2, h3, h4⟩ := hq
  exact ⟨.inl ⟨.bool true, .bool true, [], rfl, fun _ => rfl, .bool true, post_true l _, fun _ => ⟨List.Pairwise.nil, fun _ hm => (nomatch hm)⟩⟩, h2, h3, h4⟩

/-! ### rules over ANY heap (no ledger) from facts about the written part K: the library's own take a ledger (News) for what they write -/
section
variable {prog : Program} {w : World} {A : Around} {E : Value → Shared → Prop} {s : Shared} {K : Frag}

/-! the whole heap as the ledger: makes every rule that writes through a ledger a rule over any heap -/
def ledger (h : Heap) (L d : Addr) : List (Addr × Obj) := (List.range h.objs.size).filterMap fun a => if a = L ∨ a = d then none else (h.get? a).map fun o => (a, o)
end
end Att

namespace L2
open PySem PySem.Spec PyProof.Rows

theorem vals_ints : ∀ {vs : List Value} {ns : List Int}, IntsAre vs ns → Vals (ns.map V.int) vs
  | _, _, .nil => .nil
  | _, _, .cons n t h => .cons ⟨t, rfl⟩ (vals_ints h)

/-- nothing is tracked but the script, known to the object (or it is an object of the module) -/
def Only (H : Hp) : Prop := ∀ b, H b = none ∨ ∃ o xs, H b = some (.frz o (.lst xs))

/-- THE HEAD: the law's promise, at the heap behind the top. F, the promise of the law's def, may use that base is part of the heap (so K.In base, base.Ns mainGlobals mg stand in Mod) -/
theorem law_call {P : Program} {w : World} {K : PySem.W.Frag} {mg mb : Str → Option Value} {CX : CXT} {k : Nat} {fa a : Addr} {fd : FuncData} {x : Str} {sp : Sp} {s₁ : Shared} {vs : List Value} {ns : List Int}
    (KX : K.In s₁.heap) (hns : s₁.heap.Ns mainGlobals mg) (hb : s₁.heap.Ns builtinsNs mb) (hbb : ∀ x : Str, x ≠ "__name__" → mb x = bootBuiltins x) (hlim : s₁.heap.NoLimit) (hg : s₁.gens = #[])
    (ha : s₁.heap.get? a = some { cls := .type "list", data := .seq vs.toArray }) (hi : IntsAre vs ns) (hl : ns.length ≤ sizeLine) (hr : Room k callerA)
    (F : ∀ base : Heap, K.In base → base.Ns mainGlobals mg → FnOk P w K mg base CX k fa fd [x] sp) (hbind : ∀ (s : Shared) (u : Value), BindsTo s fd ⟨[u], []⟩ [(x, u)])
    (hsp : ∀ H : Hp, Only H → SqL K H a (ns.map V.int) → sp [.ref a] H (fun v _ => v = .bl true) fun _ _ _ => False)
    (hCX : ∀ H e s', CX [] H s₁ (fun _ _ _ => False) e s' → False) :
    codeAny (model P w) callerA (.call (.ref fa) ⟨[.ref a], []⟩) (fun r s' => r = .ok (.ret (.bool true)) ∧ OldK s₁.heap s'.heap ∧ s'.os = s₁.os ∧ AllBare s'.gens) s₁ := by
  have rv := vals_ints hi
  have lenV := hi.length
  -- from an abstract heap in which nothing but the script may be tracked
  have core : ∀ H : Hp, Only H → SqL K H a (ns.map V.int) → HOk P w H s₁.heap → (∀ b, H b ≠ none → b = a) → (H a ≠ none → K.lookup a = none) →
      codeAny (model P w) callerA (.call (.ref fa) ⟨[.ref a], []⟩) (fun r s' => r = .ok (.ret (.bool true)) ∧ OldK s₁.heap s'.heap ∧ s'.os = s₁.os ∧ AllBare s'.gens) s₁ := by
    intro H hO hS hok hA hK
    have base_of : ∀ {b : Addr} {o : Obj}, s₁.heap.get? b = some o → H b = none → (hidT s₁.heap H).get? b = some o := fun e n => hidT_get e n
    have noA : ∀ {b : Addr} {o : Obj} {es : Array DictEntry} {ep : Nat}, s₁.heap.get? b = some o → o.data = .dict es ep → H b = none := fun {b o es ep} e d => by
      cases q : H b with
      | none => rfl
      | some u =>
        have e' : b = a := hA b (by rw [q]; simp)
        subst e'
        rw [ha] at e; cases e
        have d' : Data.seq vs.toArray _ = Data.dict es ep := d
        cases d'
    have nsK : ∀ {b : Addr} {m : Str → Option Value}, s₁.heap.Ns b m → (hidT s₁.heap H).Ns b m := fun {b m} ⟨o, es, ep, e, d, r⟩ => ⟨o, es, ep, base_of e (noA e d), d, r⟩
    have hKb : K.In (hidT s₁.heap H) := fun b o e => base_of (KX b o e) (by
      cases q : H b with
      | none => rfl
      | some u =>
        have e' : b = a := hA b (by rw [q]; simp)
        subst e'
        rw [hK (by rw [q]; simp)] at e; cases e)
    have hM : Mod K mg (hidT s₁.heap H) := ⟨hKb, nsK hns, ⟨mb, nsK hb, hbb⟩, let ⟨mc, h1, h2⟩ := hlim; ⟨mc, nsK h1, h2⟩⟩
    have e0 : Env0 P w K mg (hidT s₁.heap H) callerA [] s₁ H := ⟨rfl, hM, fun b o e => of_hidT e, Nat.le_of_eq (hidT_size _ _), trivial, fun b hb => absurd (show b ∈ ([] : List Addr) from hb) (by simp), hok, .of_eq hg⟩
    refine codeAny_mono ((F _ hKb (nsK hns)).run callerA [] s₁ H ⟨[.ref a], []⟩ [.ref a] [.ref a] _ _ hr e0 (hbind s₁ (.ref a)) (.cons rfl .nil) (hsp H hO hS)) fun r s' h => ?_
    cases r with
    | error e => exact (hCX H e s' h).elim
    | ok fl =>
      cases fl with
      | next => exact False.elim h
      | brk => exact False.elim h
      | cont => exact False.elim h
      | ret u =>
        obtain ⟨v, H', os, bare, un, hok', r', q⟩ := h
        have q' : v = .bl true := q
        subst q'
        obtain rfl : u = Value.bool true := r'
        refine ⟨rfl, OldK.of_keep fun b o e => ?_, os, bare⟩
        cases q : H b with
        | none => exact un.keep b o e q (by intro z; exact absurd (show b ∈ ([] : List Addr) from z) (by simp)) (by simp)
        | some u =>
          rcases hO b with z | ⟨ob, xs, z⟩
          · rw [q] at z; cases z
          · have z2 := un.frzs b ob _ z
            obtain ⟨e1, _⟩ := hok b _ z
            obtain ⟨e2, _⟩ := hok' b _ z2
            rw [e] at e1; cases e1
            exact e2
  cases hk : K.lookup a with
  | some o =>
    -- the script is one of the module's own objects
    have e := KX a o hk
    rw [ha] at e
    cases e
    refine core (fun _ => none) (fun _ => .inl rfl) (.inr ⟨_, vs.toArray, _, hk, rfl, rfl, rfl, by rw [List.size_toArray, lenV]; exact hl, by simpa using rv⟩) (fun b u z => by have z' : (none : Option HO) = some u := z; cases z') (fun b z => absurd rfl z) fun z => absurd rfl z
  | none =>
    refine core (fun b => if b = a then some (.frz { cls := .type "list", data := .seq vs.toArray } (.lst (ns.map V.int))) else none) (fun b => ?_) (.inl (.inr ⟨{ cls := .type "list", data := .seq vs.toArray }, if_pos rfl⟩)) (fun b u z => ?_) (fun b z => ?_) fun _ => hk
    · by_cases hb : b = a
      · exact .inr ⟨_, _, if_pos hb⟩
      · exact .inl (if_neg hb)
    · by_cases hb : b = a
      · have z' := (if_pos hb).symm.trans z
        cases z'
        subst hb
        exact ⟨ha, by rw [List.length_map]; exact hl, vs, _, rv, ha⟩
      · have z' := (if_neg hb).symm.trans z
        cases z'
    · by_cases hb : b = a
      · exact hb
      · exact absurd (if_neg hb) z
end L2

namespace L2
open PySem PySem.Spec PyProof.Rows

abbrev KOf {K : PySem.W.Frag} {h : Heap} (_ : K.In h) : PySem.W.Frag := K

/-- the goal that k_head leaves (case hc), from the law's promise. F gives the function object fd (K's own) once, then the promise over every base -/
theorem walk_of {l : PySem.W.OpenLaw} {n k : Nat} {q : Program} {loose : List Str} {XP : (Str → Option Value) → Heap → Prop} {YP : World → Heap → Prop} {d : DefRec} {K : Params → PySem.W.Frag} {CX : World → CXT} {sp : World → Sp} {x : Str}
    (hn : l.most = some n) (hn2 : n ≤ sizeLine) (hdf : d.params.defaults = []) (hr : Room k callerA)
    (hY : ∀ (w : World) (h : Heap), YP w h → (K w.params).In h)
    (F : ∀ (w : World) (mg : Str → Option Value) (fa : Addr) (h : Heap), (K w.params).In h → h.Ns mainGlobals mg → mg d.name = some (.ref fa) →
      ∃ fd : FuncData, (∀ (s : Shared) (u : Value), BindsTo s fd ⟨[u], []⟩ [(x, u)]) ∧
        ∀ base : Heap, (K w.params).In base → base.Ns mainGlobals mg → FnOk l.prog w (K w.params) mg base (CX w) k fa fd [x] (sp w))
    (hsp : ∀ (w : World) (H : Hp) (a : Addr) (ns : List Int), ns.length ≤ n → Only H → SqL (K w.params) H a (ns.map V.int) → sp w [.ref a] H (fun v _ => v = .bl true) fun _ _ _ => False)
    (hCX : ∀ (w : World) (H : Hp) (s : Shared) (e : Value) (s' : Shared), CX w [] H s (fun _ _ _ => False) e s' → False) :
    PySem.W.WalkO q loose XP YP l.row.toRowW d [] (fun f vs => PySem.call f vs) := by
  refine Att.attach_call hn hdf fun w s₀ s₁ mg mb fa o pm cd doc a vs ns G Y ho hd hcd hmg hobj hints hlen hg => ?_
  have KX := hY w _ Y
  obtain ⟨fd, hb, hF⟩ := F w mg fa _ KX G.T.g hmg
  exact law_call KX G.T.g G.T.b G.T.builtins G.T.nolimit hg hobj hints (Nat.le_trans hlen hn2) hr hF hb (fun H hO hS => hsp w H a ns hlen hO hS) fun H e s' => hCX w H s₁ e s'
end L2

/- THE LAST THEOREM (shape; LID, My.* are yours):
   My.Adr: a structure of the addresses that your layer names (classes, functions); My.Txt K t: a structure (Prop) of the equations over K;
   My.txt_mk : {K} {implicit addresses ..} (e1 : nsIn K mainGlobals "law" = some (some (.ref f))) (e2 : K.lookup f = some ⟨oc, od, .func (fnOf "law" "law" params body scope dV kV doc pm an cdv ct), sl⟩) (e3 : codeIn K cdv "law" = true) .. : ∃ t, My.Txt K t

set_option maxRecDepth 100000 in
set_option maxHeartbeats 0 in
theorem PySem.Challenge.cw_LID_holds : PySem.Challenge.rw_LID.Holds := by
  w_on; o_law; k_head; (case hw => w_witness2)
  k_fill
  refine L2.walk_of (l := PySem.Challenge.rw_LID) (n := 63) (k := 40) (x := "script") (CX := fun w => ..) (sp := fun _ => My.sp_law) rfl (by decide) rfl ⟨rfl, by decide, by decide⟩ (fun w h Y => PySem.W.kIn_of Y) ?F ?S ?C
  case F =>
    intro w mg fa h KX G hmg
    have T : ∃ t, My.Txt (L2.KOf KX) t := by
      dsimp only [L2.KOf]                          -- K must stand as «<heap const> w.params» for k_is
      refine' My.txt_mk ?e1 ?e2 ?e3 ..
      (case e1 => PySem.W.k_is)                    -- in the order: a name -> its address -> its object -> its parts
      (case e2 => PySem.W.k_is)
      ..
    obtain ⟨t, T⟩ := T
    have e0 := hmg.symm.trans (PySem.W.mg_of KX G T.law)
    cases e0                                       -- fa is the law's own address
    exact ⟨_, fun s u => .of_eq rfl, fun base kb nb => My.law_fn T kb nb⟩     -- if «.of_eq rfl» comes too early: refine' ⟨_, ?b, fun base kb nb => My.law_fn T kb nb⟩; exact fun s u => .of_eq rfl
  case S => exact fun w H a ns hl hO hS => ..
  case C => exact ..
(the tactic k_is has no namespace: write k_is) -/

/-! SHORT WORDS over the layer: a def of the text, its body, what a loop and a test want. -/
namespace L2
open PySem PySem.Spec PyProof.Rows

/-! ### the text by places -/
def defArgs (s : Stmt) : Arguments := match s with
  | .FunctionDef _ a _ _ _ _ _ _ _ _ => a
  | _ => { posonlyargs := [], args := [], vararg := none, kwonlyargs := [], kw_defaults := [], kwarg := none, defaults := [] }
def defBody (s : Stmt) : List Stmt := match s with
  | .FunctionDef _ _ b _ _ _ _ _ _ _ => b
  | _ => []
def defScope (s : Stmt) : Scope := match s with
  | .FunctionDef _ _ _ _ _ _ sc _ _ _ => sc
  | _ => { kind := .function, names := [], isGenerator := false, isCoroutine := false }

/-! ### no exception leaves a def -/
abbrev E0 : XK := fun _ _ _ => False
/-! ### a def (or method) of the text as it stands behind the top -/
structure Fun (K : PySem.W.Frag) (x qual : Str) (st : Stmt) (f : Addr) (fd : FuncData) : Prop where
  ex : ∃ (oc : Value) (od : Option Addr) (kV doc pm : Value) (an : Option Addr) (cdv ct : Value) (osl : Array (Option Value)),
    fd = PySem.W.fnOf x qual (defArgs st) (defBody st) (defScope st) .none kV doc pm an cdv ct ∧ K.lookup f = some ⟨oc, od, .func fd, osl⟩ ∧ PySem.W.codeIn K cdv qual = true
  kp : PySem.W.keepIn K (.ref f) = true
section
variable {P : Program} {w : World} {K : PySem.W.Frag} {mg : Str → Option Value} {base : Heap}
/-- how its arguments bind (no defaults): h is «fun _ _ _ _ _ _ us hl => match us, hl with | [_, _], _ => rfl», one _ a parameter -/
theorem Fun.binds {x qual : Str} {st : Stmt} {f : Addr} {fd : FuncData} {ps : List Str} (F : Fun K x qual st f fd)
    (h : ∀ (kV doc pm : Value) (an : Option Addr) (cdv ct : Value) (us : List Value), us.length = ps.length → bindArgs (PySem.W.fnOf x qual (defArgs st) (defBody st) (defScope st) .none kV doc pm an cdv ct) ⟨us, []⟩ = pure (ps.zip us)) : Binds K fd ps [] := by
  obtain ⟨oc, od, kV, doc, pm, an, cdv, ct, osl, rfl, lk, hcd⟩ := F.ex
  exact .all (h kV doc pm an cdv ct)
theorem fun_mk {x qual : Str} {st : Stmt} {f : Addr} {oc : Value} {od an : Option Addr} {osl : Array (Option Value)} {kV doc pm cdv ct : Value} (l : K.lookup f = some ⟨oc, od, .func (PySem.W.fnOf x qual (defArgs st) (defBody st) (defScope st) .none kV doc pm an cdv ct), osl⟩)
    (c : PySem.W.codeIn K cdv qual = true) (k : PySem.W.keepIn K (.ref f) = true) : Fun K x qual st f (PySem.W.fnOf x qual (defArgs st) (defBody st) (defScope st) .none kV doc pm an cdv ct) := ⟨⟨oc, od, kV, doc, pm, an, cdv, ct, osl, rfl, l, c⟩, k⟩
end
/-! ### expressions in short: the name that stands in the i-th slot -/
section
variable {X : Cx}
end

/-! ### tests -/
/-! ### heaps -/
/-- all that was tracked is as it was -/
def Same (H H' : Hp) : Prop := ∀ b o, H b = some o → H' b = some o
theorem Same.refl (H : Hp) : Same H H := fun _ _ h => h
theorem Same.trans {H H1 H2 : Hp} (a : Same H H1) (b : Same H1 H2) : Same H H2 := fun c o h => b c o (a c o h)
theorem Same.free {H H' : Hp} (e : Same H H') {l : Addr} (h : H' l = Option.none) : H l = Option.none := by
  cases q : H l with
  | none => rfl
  | some o =>
    rw [e l o q] at h
    cases h
theorem Same.seq {K : PySem.W.Frag} {H H' : Hp} {a : Addr} {xs : List V} (e : Same H H') (h : SqL K H a xs) : SqL K H' a xs := by
  rcases h with (h | ⟨o, h⟩) | h
  · exact .inl (.inl (e _ _ h))
  · exact .inl (.inr ⟨o, e _ _ h⟩)
  · exact .inr h

/-! ### a dict's pairs: keys that differ -/
section
variable {κ : Type} [DecidableEq κ]
end
end L2

namespace D3
open PySem PySem.Spec PyProof.Rows L2

/-! ### data: trees of values; lists and dicts as they stand -/
inductive D where
  | non | bl (b : Bool) | int (i : Int) | str (x : Str) | tup (xs : List D) | lst (xs : List D) | dct (kvs : List (Key × D)) | ty (n : String) | ob (a : Addr) | ins (c : Str) (fs : List (Str × D)) | fn (x : Str) | exn (c : Str) | set (ks : List Key)
/-- frozen (nobody changes it any more), fresh (nobody else has it), borrowed (a name of the frame owns it) -/
inductive Md where | fz | fr | bo
  deriving DecidableEq
inductive Res where
  | ok (m : Md) (d : D) | exc (c : Str) | stuck

/-- an error of the class at C -/
def xobj (a C : Addr) : HO := .ext fun h => ∃ o, h.get? a = some o ∧ o.cls = .ref C
def SetIs (S : Key → Bool) (ks : List Key) : Prop := ks.Nodup ∧ ∀ k, S k = true ↔ k ∈ ks
mutual
def RepV (K : PySem.W.Frag) (F : Hp) : D → V → Prop
  | .non, v => v = .non
  | .bl b, v => v = .bl b
  | .int i, v => v = .int i
  | .str x, v => v = .str x ∧ x.length ≤ sizeLine ∧ PyData.strOk x = true
  | .tup ds, v => ∃ a xs, v = .ref a ∧ SqT K F a xs ∧ RepL K F ds xs
  | .lst ds, v => ∃ a xs, v = .ref a ∧ SqL K F a xs ∧ RepL K F ds xs
  | .dct kvs, v => ∃ a xs, v = .ref a ∧ F a = some (.dK xs) ∧ RepK K F kvs xs
  | .ty n, v => v = .ty n
  | .ob a, v => v = .ref a
  | .ins c fs, v => ∃ a C dx gs, v = .ref a ∧ PySem.W.nsIn K mainGlobals c = some (some (.ref C)) ∧ F a = some (.ins C dx gs) ∧ RepF K F fs gs
  | .fn x, v => ∃ a, v = .ref a ∧ PySem.W.nsIn K mainGlobals x = some (some (.ref a))
  | .exn c, v => ∃ a C, v = .ref a ∧ PySem.W.nsIn K mainGlobals c = some (some (.ref C)) ∧ F a = some (xobj a C)
  | .set ks, v => ∃ a S, v = .ref a ∧ F a = some (.set S ks.length) ∧ SetIs S ks
def RepL (K : PySem.W.Frag) (F : Hp) : List D → List V → Prop
  | [], xs => xs = []
  | d :: ds, xs => ∃ y ys, xs = y :: ys ∧ RepV K F d y ∧ RepL K F ds ys
def RepK (K : PySem.W.Frag) (F : Hp) : List (Key × D) → List (Key × V) → Prop
  | [], xs => xs = []
  | (k, d) :: ds, xs => ∃ y ys, xs = (k, y) :: ys ∧ RepV K F d y ∧ RepK K F ds ys
def RepF (K : PySem.W.Frag) (F : Hp) : List (Str × D) → List (Str × V) → Prop
  | [], xs => xs = []
  | (k, d) :: ds, xs => ∃ y ys, xs = (k, y) :: ys ∧ RepV K F d y ∧ RepF K F ds ys
end

theorem Same.seqT {K : PySem.W.Frag} {H H' : Hp} {a : Addr} {xs : List V} (e : Same H H') (h : SqT K H a xs) : SqT K H' a xs := by
  rcases h with (h | ⟨o, h⟩) | h
  · exact .inl (.inl (e _ _ h))
  · exact .inl (.inr ⟨o, e _ _ h⟩)
  · exact .inr h

section
variable {K : PySem.W.Frag} {F F' : Hp}
mutual
theorem RepV.mono (s : Same F F') : ∀ (d : D) (v : V), RepV K F d v → RepV K F' d v
  | .non, _, h => by simpa only [RepV] using h
  | .bl _, _, h => by simpa only [RepV] using h
  | .int _, _, h => by simpa only [RepV] using h
  | .str _, _, h => by simpa only [RepV] using h
  | .tup ds, v, h => by
    simp only [RepV] at h ⊢
    obtain ⟨a, xs, e, q, r⟩ := h
    exact ⟨a, xs, e, Same.seqT s q, RepL.mono s ds xs r⟩
  | .lst ds, v, h => by
    simp only [RepV] at h ⊢
    obtain ⟨a, xs, e, q, r⟩ := h
    exact ⟨a, xs, e, s.seq q, RepL.mono s ds xs r⟩
  | .dct ds, v, h => by
    simp only [RepV] at h ⊢
    obtain ⟨a, xs, e, q, r⟩ := h
    exact ⟨a, xs, e, s _ _ q, RepK.mono s ds xs r⟩
  | .ty _, _, h => by simpa only [RepV] using h
  | .ob _, _, h => by simpa only [RepV] using h
  | .fn _, _, h => by simpa only [RepV] using h
  | .exn _, _, h => by
    simp only [RepV] at h ⊢
    obtain ⟨a, C, e, n, q⟩ := h
    exact ⟨a, C, e, n, s _ _ q⟩
  | .set _, _, h => by
    simp only [RepV] at h ⊢
    obtain ⟨a, S, e, q, r⟩ := h
    exact ⟨a, S, e, s _ _ q, r⟩
  | .ins c fs, v, h => by
    simp only [RepV] at h ⊢
    obtain ⟨a, C, dx, gs, e, n, q, r⟩ := h
    exact ⟨a, C, dx, gs, e, n, s _ _ q, RepF.mono s fs gs r⟩
theorem RepL.mono (s : Same F F') : ∀ (ds : List D) (xs : List V), RepL K F ds xs → RepL K F' ds xs
  | [], _, h => by simpa only [RepL] using h
  | d :: ds, xs, h => by
    simp only [RepL] at h ⊢
    obtain ⟨y, ys, e, q, r⟩ := h
    exact ⟨y, ys, e, RepV.mono s d y q, RepL.mono s ds ys r⟩
theorem RepK.mono (s : Same F F') : ∀ (ds : List (Key × D)) (xs : List (Key × V)), RepK K F ds xs → RepK K F' ds xs
  | [], _, h => by simpa only [RepK] using h
  | (k, d) :: ds, xs, h => by
    simp only [RepK] at h ⊢
    obtain ⟨y, ys, e, q, r⟩ := h
    exact ⟨y, ys, e, RepV.mono s d y q, RepK.mono s ds ys r⟩
theorem RepF.mono (s : Same F F') : ∀ (ds : List (Str × D)) (xs : List (Str × V)), RepF K F ds xs → RepF K F' ds xs
  | [], _, h => by simpa only [RepF] using h
  | (k, d) :: ds, xs, h => by
    simp only [RepF] at h ⊢
    obtain ⟨y, ys, e, q, r⟩ := h
    exact ⟨y, ys, e, RepV.mono s d y q, RepF.mono s ds ys r⟩
end
theorem RepF.lookN : ∀ {ds : List (Str × D)} {xs : List (Str × V)} {f : Str}, RepF K F ds xs → ds.lookup f = none → xs.lookup f = none
  | [], _, _, h, e => by simp only [RepF] at h; subst h; rfl
  | (k, d') :: ds, _, f, h, e => by
    simp only [RepF] at h
    obtain ⟨y, ys, rfl, q, r⟩ := h
    rw [List.lookup_cons] at e ⊢
    split at e
    · cases e
    · exact RepF.lookN r e
theorem RepL.length : ∀ {ds : List D} {xs : List V}, RepL K F ds xs → xs.length = ds.length
  | [], _, h => by simp only [RepL] at h; subst h; rfl
  | d :: ds, _, h => by
    simp only [RepL] at h
    obtain ⟨y, ys, rfl, _, r⟩ := h
    rw [List.length_cons, List.length_cons, RepL.length r]
theorem RepL.get : ∀ {ds : List D} {xs : List V} {i : Nat} {x : V}, RepL K F ds xs → xs[i]? = some x → ∃ d, ds[i]? = some d ∧ RepV K F d x
  | [], _, _, _, h, e => by simp only [RepL] at h; subst h; simp at e
  | d :: ds, _, 0, _, h, e => by
    simp only [RepL] at h
    obtain ⟨y, ys, rfl, r, _⟩ := h
    simp at e; subst e; exact ⟨d, rfl, r⟩
  | d :: ds, _, i + 1, _, h, e => by
    simp only [RepL] at h
    obtain ⟨y, ys, rfl, _, r⟩ := h
    obtain ⟨d', e', r'⟩ := RepL.get (i := i) r (by simpa using e)
    exact ⟨d', by simpa using e', r'⟩
theorem RepL.get' : ∀ {ds : List D} {xs : List V} {i : Nat} {d : D}, RepL K F ds xs → ds[i]? = some d → ∃ x, xs[i]? = some x ∧ RepV K F d x
  | [], _, _, _, h, e => by simp at e
  | d :: ds, _, 0, _, h, e => by
    simp only [RepL] at h
    obtain ⟨y, ys, rfl, r, _⟩ := h
    simp at e; subst e; exact ⟨y, rfl, r⟩
  | d :: ds, _, i + 1, _, h, e => by
    simp only [RepL] at h
    obtain ⟨y, ys, rfl, _, r⟩ := h
    obtain ⟨d', e', r'⟩ := RepL.get' (i := i) r (by simpa using e)
    exact ⟨d', by simpa using e', r'⟩
theorem RepL.append : ∀ {ds es : List D} {xs ys : List V}, RepL K F ds xs → RepL K F es ys → RepL K F (ds ++ es) (xs ++ ys)
  | [], _, _, _, h, r => by simp only [RepL] at h; subst h; exact r
  | d :: ds, _, _, _, h, r => by
    simp only [RepL] at h
    obtain ⟨y, ys, rfl, q, t⟩ := h
    show RepL K F (d :: (ds ++ _)) (y :: (ys ++ _))
    simp only [RepL]
    exact ⟨y, _, rfl, q, RepL.append t r⟩
theorem RepL.nil : RepL K F [] [] := by simp only [RepL]
theorem RepL.cons {d : D} {ds : List D} {x : V} {xs : List V} (h : RepV K F d x) (r : RepL K F ds xs) : RepL K F (d :: ds) (x :: xs) := by simp only [RepL]; exact ⟨x, xs, rfl, h, r⟩
end

/-- the list or dict at a in H, its contents frozen -/
def Top (K : PySem.W.Frag) (F H : Hp) (a : Addr) : D → Prop
  | .lst ds => ∃ xs, H a = some (.lst xs) ∧ RepL K F ds xs
  | .dct ds => ∃ xs, H a = some (.dK xs) ∧ RepK K F ds xs
  | .ins c fs => ∃ C dx gs, PySem.W.nsIn K mainGlobals c = some (some (.ref C)) ∧ H a = some (.ins C dx gs) ∧ RepF K F fs gs
  | .set ks => ∃ S, H a = some (.set S ks.length) ∧ SetIs S ks
  | _ => False
def Rp (K : PySem.W.Frag) (F H : Hp) (m : Md) (d : D) (v : V) : Prop :=
  match m with
  | .fz => RepV K F d v
  | _ => ∃ a, v = .ref a ∧ F a = none ∧ Top K F H a d
/-- from a state to a later one: nothing that stood is changed; what is newly frozen is new -/
structure Step (F H F' H' : Hp) : Prop where
  same : Same H H'
  fsame : Same F F'
  sub : Same F' H'
  new : ∀ a, F a = none → H a ≠ none → F' a = none
theorem Step.refl {F H : Hp} (h : Same F H) : Step F H F H := ⟨Same.refl _, Same.refl _, h, fun _ h _ => h⟩
theorem Step.trans {F H F1 H1 F2 H2 : Hp} (a : Step F H F1 H1) (b : Step F1 H1 F2 H2) : Step F H F2 H2 :=
  ⟨a.same.trans b.same, a.fsame.trans b.fsame, b.sub, fun x h1 h2 => b.new x (a.new x h1 h2) (by
    cases e : H x with
    | none => exact absurd e h2
    | some o => rw [a.same x o e]; exact fun z => nomatch z)⟩
/-- a new object, frozen at once -/
theorem Step.laid {F H : Hp} {p : Addr} (o : HO) (h : Same F H) (hp : H p = none) : Step F H (upd F p o) (upd H p o) := by
  have hf : F p = none := h.free hp
  refine ⟨fun b u e => ?_, fun b u e => ?_, fun b u e => ?_, fun a h1 h2 => ?_⟩
  · rw [upd_ne (ne_of_none e hp)]; exact e
  · rw [upd_ne (ne_of_none e hf)]; exact e
  · by_cases hb : b = p
    · subst hb; rw [upd_same] at e ⊢; exact e
    · rw [upd_ne hb] at e ⊢; exact h b u e
  · have : a ≠ p := by rintro rfl; exact h2 hp
    rw [upd_ne this]; exact h1
/-- a new object, not frozen -/
theorem Step.fresh {F H : Hp} {p : Addr} (o : HO) (h : Same F H) (hp : H p = none) : Step F H F (upd H p o) := by
  refine ⟨fun b u e => ?_, Same.refl _, fun b u e => ?_, fun a h1 _ => h1⟩
  · rw [upd_ne (ne_of_none e hp)]; exact e
  · rw [upd_ne (ne_of_none (h b u e) hp)]; exact h b u e
theorem Top.step {K : PySem.W.Frag} {F H F' H' : Hp} {a : Addr} {d : D} (st : Step F H F' H') (h : Top K F H a d) : Top K F' H' a d := by
  cases d with
  | lst ds => obtain ⟨xs, e, r⟩ := h; exact ⟨xs, st.same _ _ e, r.mono st.fsame _ _⟩
  | dct ds => obtain ⟨xs, e, r⟩ := h; exact ⟨xs, st.same _ _ e, r.mono st.fsame _ _⟩
  | ins c fs => obtain ⟨C, dx, gs, n, e, r⟩ := h; exact ⟨C, dx, gs, n, st.same _ _ e, r.mono st.fsame _ _⟩
  | set ks => obtain ⟨S, e, r⟩ := h; exact ⟨S, st.same _ _ e, r⟩
  | _ => exact h.elim
theorem Top.there {K : PySem.W.Frag} {F H : Hp} {a : Addr} {d : D} (h : Top K F H a d) : H a ≠ none := by
  cases d with
  | lst ds => obtain ⟨xs, e, r⟩ := h; rw [e]; exact fun z => nomatch z
  | dct ds => obtain ⟨xs, e, r⟩ := h; rw [e]; exact fun z => nomatch z
  | ins c fs => obtain ⟨C, dx, gs, n, e, r⟩ := h; rw [e]; exact fun z => nomatch z
  | set ks => obtain ⟨S, e, r⟩ := h; rw [e]; exact fun z => nomatch z
  | _ => exact h.elim
theorem Rp.step {K : PySem.W.Frag} {F H F' H' : Hp} {m : Md} {d : D} {v : V} (st : Step F H F' H') (h : Rp K F H m d v) : Rp K F' H' m d v := by
  cases m with
  | fz => exact RepV.mono st.fsame d v h
  | fr => obtain ⟨a, e, n, t⟩ := h; exact ⟨a, e, st.new a n t.there, t.step st⟩
  | bo => obtain ⟨a, e, n, t⟩ := h; exact ⟨a, e, st.new a n t.there, t.step st⟩
theorem Rp.seqL {K : PySem.W.Frag} {F H : Hp} {m : Md} {ds : List D} {v : V} (s : Same F H) (h : Rp K F H m (.lst ds) v) : ∃ a xs, v = .ref a ∧ SqL K H a xs ∧ RepL K F ds xs := by
  cases m with
  | fz =>
    have h : RepV K F (.lst ds) v := h
    simp only [RepV] at h
    obtain ⟨a, xs, e, q, r⟩ := h
    exact ⟨a, xs, e, s.seq q, r⟩
  | fr => obtain ⟨a, e, n, xs, q, r⟩ := h; exact ⟨a, xs, e, SqL.of q, r⟩
  | bo => obtain ⟨a, e, n, xs, q, r⟩ := h; exact ⟨a, xs, e, SqL.of q, r⟩
theorem Rp.seqT {K : PySem.W.Frag} {F H : Hp} {m : Md} {ds : List D} {v : V} (s : Same F H) (h : Rp K F H m (.tup ds) v) : ∃ a xs, v = .ref a ∧ SqT K H a xs ∧ RepL K F ds xs := by
  cases m with
  | fz =>
    have h : RepV K F (.tup ds) v := h
    simp only [RepV] at h
    obtain ⟨a, xs, e, q, r⟩ := h
    exact ⟨a, xs, e, Same.seqT s q, r⟩
  | fr => obtain ⟨a, e, n, q⟩ := h; exact q.elim
  | bo => obtain ⟨a, e, n, q⟩ := h; exact q.elim
theorem Rp.dict {K : PySem.W.Frag} {F H : Hp} {m : Md} {ds : List (Key × D)} {v : V} (s : Same F H) (h : Rp K F H m (.dct ds) v) : ∃ a xs, v = .ref a ∧ H a = some (.dK xs) ∧ RepK K F ds xs := by
  cases m with
  | fz =>
    have h : RepV K F (.dct ds) v := h
    simp only [RepV] at h
    obtain ⟨a, xs, e, q, r⟩ := h
    exact ⟨a, xs, e, s _ _ q, r⟩
  | fr => obtain ⟨a, e, n, xs, q, r⟩ := h; exact ⟨a, xs, e, q, r⟩
  | bo => obtain ⟨a, e, n, xs, q, r⟩ := h; exact ⟨a, xs, e, q, r⟩
theorem Rp.ins {K : PySem.W.Frag} {F H : Hp} {m : Md} {c : Str} {fs : List (Str × D)} {v : V} (s : Same F H) (h : Rp K F H m (.ins c fs) v) : ∃ a C dx gs, v = .ref a ∧ PySem.W.nsIn K mainGlobals c = some (some (.ref C)) ∧ H a = some (.ins C dx gs) ∧ RepF K F fs gs := by
  cases m with
  | fz =>
    have h : RepV K F (.ins c fs) v := h
    simp only [RepV] at h
    obtain ⟨a, C, dx, gs, e, n, q, r⟩ := h
    exact ⟨a, C, dx, gs, e, n, s _ _ q, r⟩
  | fr => obtain ⟨a, e, n, C, dx, gs, z, q, r⟩ := h; exact ⟨a, C, dx, gs, e, z, q, r⟩
  | bo => obtain ⟨a, e, n, C, dx, gs, z, q, r⟩ := h; exact ⟨a, C, dx, gs, e, z, q, r⟩
theorem Rp.int {K : PySem.W.Frag} {F H : Hp} {m : Md} {i : Int} {v : V} (h : Rp K F H m (.int i) v) : v = .int i := by
  cases m with
  | fz => have h : RepV K F (.int i) v := h; simpa only [RepV] using h
  | fr => obtain ⟨a, e, n, q⟩ := h; exact q.elim
  | bo => obtain ⟨a, e, n, q⟩ := h; exact q.elim
theorem Rp.bl {K : PySem.W.Frag} {F H : Hp} {m : Md} {i : Bool} {v : V} (h : Rp K F H m (.bl i) v) : v = .bl i := by
  cases m with
  | fz => have h : RepV K F (.bl i) v := h; simpa only [RepV] using h
  | fr => obtain ⟨a, e, n, q⟩ := h; exact q.elim
  | bo => obtain ⟨a, e, n, q⟩ := h; exact q.elim
theorem Rp.non {K : PySem.W.Frag} {F H : Hp} {m : Md} {v : V} (h : Rp K F H m .non v) : v = .non := by
  cases m with
  | fz => have h : RepV K F .non v := h; simpa only [RepV] using h
  | fr => obtain ⟨a, e, n, q⟩ := h; exact q.elim
  | bo => obtain ⟨a, e, n, q⟩ := h; exact q.elim
theorem Rp.str {K : PySem.W.Frag} {F H : Hp} {m : Md} {x : Str} {v : V} (h : Rp K F H m (.str x) v) : v = .str x ∧ x.length ≤ sizeLine ∧ PyData.strOk x = true := by
  cases m with
  | fz => have h : RepV K F (.str x) v := h; simpa only [RepV] using h
  | fr => obtain ⟨a, e, n, q⟩ := h; exact q.elim
  | bo => obtain ⟨a, e, n, q⟩ := h; exact q.elim
theorem Rp.ty {K : PySem.W.Frag} {F H : Hp} {m : Md} {n : String} {v : V} (h : Rp K F H m (.ty n) v) : v = .ty n := by
  cases m with
  | fz => have h : RepV K F (.ty n) v := h; simpa only [RepV] using h
  | fr => obtain ⟨a, e, n, q⟩ := h; exact q.elim
  | bo => obtain ⟨a, e, n, q⟩ := h; exact q.elim
theorem Rp.ob {K : PySem.W.Frag} {F H : Hp} {m : Md} {n : Addr} {v : V} (h : Rp K F H m (.ob n) v) : v = .ref n := by
  cases m with
  | fz => have h : RepV K F (.ob n) v := h; simpa only [RepV] using h
  | fr => obtain ⟨a, e, n, q⟩ := h; exact q.elim
  | bo => obtain ⟨a, e, n, q⟩ := h; exact q.elim
theorem rp_ty {K : PySem.W.Frag} {F H : Hp} (i : String) : Rp K F H .fz (.ty i) (.ty i) := by show RepV K F _ _; simp only [RepV]
theorem rp_int {K : PySem.W.Frag} {F H : Hp} (i : Int) : Rp K F H .fz (.int i) (.int i) := by show RepV K F _ _; simp only [RepV]
theorem rp_bl {K : PySem.W.Frag} {F H : Hp} (i : Bool) : Rp K F H .fz (.bl i) (.bl i) := by show RepV K F _ _; simp only [RepV]
theorem rp_non {K : PySem.W.Frag} {F H : Hp} : Rp K F H .fz .non .non := by show RepV K F _ _; simp only [RepV]
theorem rp_str {K : PySem.W.Frag} {F H : Hp} {x : Str} (h : x.length ≤ sizeLine ∧ PyData.strOk x = true) : Rp K F H .fz (.str x) (.str x) := by show RepV K F _ _; simp only [RepV, true_and]; exact h

/-! ### the frame -/
/-- a name's value: owned (true) or frozen -/
abbrev Rho := List (Option (Bool × D))
structure RelSt (K : PySem.W.Frag) (F0 H0 F H : Hp) (σ : L2.St) (ρ : Rho) : Prop where
  st : Step F0 H0 F H
  slot : ∀ (i : Nat) (m : Bool) (d : D), ρ[i]? = some (some (m, d)) → ∃ v, σ[i]? = some (some v) ∧ Rp K F H (if m then .bo else .fz) d v ∧ (m = true → ∀ a, v = .ref a → H0 a = none)
  apart : ∀ (i j : Nat) (d d' : D) (a : Addr), i ≠ j → ρ[i]? = some (some (true, d)) → ρ[j]? = some (some (true, d')) → σ[i]? = some (some (.ref a)) → σ[j]? = some (some (.ref a)) → False
  len : σ.length = ρ.length
theorem RelSt.step {K : PySem.W.Frag} {F0 H0 F H F' H' : Hp} {σ : L2.St} {ρ : Rho} (r : RelSt K F0 H0 F H σ ρ) (st : Step F H F' H') : RelSt K F0 H0 F' H' σ ρ :=
  ⟨r.st.trans st, fun i m d e => by obtain ⟨v, e1, e2, e3⟩ := r.slot i m d e; exact ⟨v, e1, e2.step st, e3⟩, r.apart, r.len⟩
theorem RelSt.sub {K : PySem.W.Frag} {F0 H0 F H : Hp} {σ : L2.St} {ρ : Rho} (r : RelSt K F0 H0 F H σ ρ) : Same F H := r.st.sub

/-- what is wanted of an exception of that class: the names as they stand, the heap -/
abbrev XE := Str → L2.St → Hp → Prop
structure Cw where
  K : PySem.W.Frag
  F0 : Hp
  H0 : Hp
  EE : XE
/-- an expression by its value -/
def tG (C : Cw) (g : Rho → Res) : TE := fun σ H Q => ∃ ρ F, RelSt C.K C.F0 C.H0 F H σ ρ ∧ match g ρ with
  | .ok m d => ∀ v F' H', Step F H F' H' → Rp C.K F' H' m d v → (m = .fr → ∀ a, v = .ref a → H a = none) → Q v H'
  | .exc c => ∀ F' H', Step F H F' H' → C.EE c σ H'
  | .stuck => False
abbrev Cw.at (C : Cw) (X : Cx) : Cw := { C with K := X.K }
def PV (C : Cw) (X : Cx) (e : Expr) (g : Rho → Res) : Prop := PE X e (tG (C.at X) g)
theorem PE.imp {X : Cx} {e : Expr} {t t' : TE} (h : PE X e t) (i : ∀ σ H Q, t' σ H Q → t σ H Q) : PE X e t' := fun pins s σ H Q I q => h pins s σ H Q I (i σ H Q q)
end D3

namespace D3
open PySem PySem.Spec PyProof.Rows L2

def Res.thn (r : Res) (k : Md → D → Res) : Res := match r with
  | .ok m d => k m d
  | .exc c => .exc c
  | .stuck => .stuck
@[simp] theorem Res.thn_ok (m : Md) (d : D) (k : Md → D → Res) : (Res.ok m d).thn k = k m d := rfl
@[simp] theorem Res.thn_exc (c : Str) (k : Md → D → Res) : (Res.exc c).thn k = .exc c := rfl
@[simp] theorem Res.thn_stuck (k : Md → D → Res) : Res.stuck.thn k = .stuck := rfl
def Res.of : Option (Md × D) → Res
  | some (m, d) => .ok m d
  | none => .stuck
@[simp] theorem Res.of_some (m : Md) (d : D) : Res.of (some (m, d)) = .ok m d := rfl
@[simp] theorem Res.of_none : Res.of none = .stuck := rfl
/-- what a result asks of the state behind -/
def Want (C : Cw) (F H : Hp) (σ : L2.St) (r : Res) (Q : VK) : Prop := match r with
  | .ok m d => ∀ v F' H', Step F H F' H' → Rp C.K F' H' m d v → (m = .fr → ∀ a, v = .ref a → H a = none) → Q v H'
  | .exc c => ∀ F' H', Step F H F' H' → C.EE c σ H'
  | .stuck => False
theorem tG_eq {C : Cw} {g : Rho → Res} {σ : L2.St} {H : Hp} {Q : VK} : tG C g σ H Q = ∃ ρ F, RelSt C.K C.F0 C.H0 F H σ ρ ∧ Want C F H σ (g ρ) Q := by
  unfold tG Want
  rfl
theorem Want.step {C : Cw} {F H F1 H1 : Hp} {σ : L2.St} {r : Res} {Q : VK} (st : Step F H F1 H1) (h : Want C F H σ r Q) : Want C F1 H1 σ r Q := by
  cases r with
  | ok m d => exact fun v F' H' s2 rp hf => h v F' H' (st.trans s2) rp fun e a ea => st.same.free (hf e a ea)
  | exc c => exact fun F' H' s2 => h F' H' (st.trans s2)
  | stuck => exact h
section
variable {C : Cw} {X : Cx} {a b : Expr} {ga gb : Rho → Res} {pos : Pos}
/-! ### names, constants -/
def getS (ρ : Rho) (i : Nat) : Res := match ρ[i]? with
  | some (some (false, d)) => .ok .fz d
  | some (some (true, d)) => .ok .bo d
  | _ => .stuck
theorem pv_var (i : Nat) {x : Str} (h : PE X (.Name x pos) (tVar i)) : PV C X (.Name x pos) (fun ρ => getS ρ i) := by
  refine PE.imp h fun σ H Q q => ?_
  rw [tG_eq] at q
  obtain ⟨ρ, F, R, w⟩ := q
  unfold getS at w
  cases e : ρ[i]? with
  | none => rw [e] at w; exact w.elim
  | some o =>
    cases o with
    | none => rw [e] at w; exact w.elim
    | some p =>
      obtain ⟨m, d⟩ := p
      obtain ⟨v, e1, r, _⟩ := R.slot i m d e
      rw [e] at w
      cases m with
      | false => exact ⟨v, e1, w v F H (.refl R.sub) r (by intro z; cases z)⟩
      | true => exact ⟨v, e1, w v F H (.refl R.sub) r (by intro z; cases z)⟩
theorem pv_con {e : Expr} {v : V} (d : D) (h : PE X e (tC v)) (r : ∀ F H, Rp X.K F H .fz d v) : PV C X e (fun _ => .ok .fz d) := by
  refine PE.imp h fun σ H Q q => ?_
  rw [tG_eq] at q
  obtain ⟨ρ, F, R, w⟩ := q
  exact w v F H (.refl R.sub) (r F H) (by intro z; cases z)
theorem pv_int {i j} : PV C X (.Constant (.int i) j pos) (fun _ => .ok .fz (.int i)) := pv_con _ pe_int fun _ _ => rp_int i
theorem pv_bl {i j} : PV C X (.Constant (.bool i) j pos) (fun _ => .ok .fz (.bl i)) := pv_con _ pe_bl fun _ _ => rp_bl i
theorem pv_non {j} : PV C X (.Constant .none j pos) (fun _ => .ok .fz .non) := pv_con _ pe_non fun _ _ => rp_non
theorem pv_str {x : Str} {j} (h : (decide (x.length ≤ sizeLine) && PyData.strOk x) = true := by decide +kernel) : PV C X (.Constant (.str x) j pos) (fun _ => .ok .fz (.str x)) :=
  pv_con _ pe_str fun _ _ => rp_str (by rw [Bool.and_eq_true, decide_eq_true_eq] at h; exact h)

/-! ### two operands -/
def op2 (φ : Md → D → Md → D → Option (Md × D)) (x y : Res) : Res := x.thn fun m d => y.thn fun n e => Res.of (φ m d n e)
/-- an operation on values by data -/
def OpD (C : Cw) (X : Cx) (f : Value → Value → Sem Value) (φ : Md → D → Md → D → Option (Md × D)) : Prop :=
  ∃ r : R2, OpR X f r ∧ ∀ F H m x n y v u k d Q, Same F H → Rp X.K F H m x v → Rp X.K F H n y u → φ m x n y = some (k, d) →
    (∀ v' F' H', Step F H F' H' → Rp X.K F' H' k d v' → (k = .fr → ∀ a, v' = .ref a → H a = none) → Q v' H') → r v u H Q
theorem tG_op2 {φ : Md → D → Md → D → Option (Md × D)} {r : R2} (h : ∀ F H m x n y v u k d Q, Same F H → Rp C.K F H m x v → Rp C.K F H n y u → φ m x n y = some (k, d) →
    (∀ v' F' H', Step F H F' H' → Rp C.K F' H' k d v' → (k = .fr → ∀ a, v' = .ref a → H a = none) → Q v' H') → r v u H Q) {σ : L2.St} {H : Hp} {Q : VK}
    (q : tG C (fun ρ => op2 φ (ga ρ) (gb ρ)) σ H Q) : tOp r (tG C ga) (tG C gb) σ H Q := by
  unfold tOp
  rw [tG_eq] at q ⊢
  obtain ⟨ρ, F, R, w⟩ := q
  refine ⟨ρ, F, R, ?_⟩
  cases ea : ga ρ with
  | stuck => simp only [op2, ea, Res.thn] at w; exact w
  | exc c => simp only [op2, ea, Res.thn] at w; exact w
  | ok m d =>
    intro v F1 H1 s1 r1 _
    rw [tG_eq]
    refine ⟨ρ, F1, R.step s1, ?_⟩
    have w1 := w.step s1
    simp only [op2, ea, Res.thn] at w1
    cases eb : gb ρ with
    | stuck => rw [eb] at w1; exact w1
    | exc c => rw [eb] at w1; exact w1
    | ok n e =>
      rw [eb] at w1
      intro u F2 H2 s2 r2 _
      have w2 : Want C F2 H2 σ (Res.of (φ m d n e)) Q := Want.step s2 w1
      cases ef : φ m d n e with
      | none => rw [ef] at w2; exact w2.elim
      | some kd =>
        obtain ⟨k, d'⟩ := kd
        rw [ef] at w2
        exact h F2 H2 m d n e v u k d' Q s2.sub (r1.step s2) r2 ef w2
theorem pv_op {op : Operator} {φ} (o : OpD C X (binaryOp op) φ) (ha : PV C X a ga) (hb : PV C X b gb) : PV C X (.BinOp a op b pos) (fun ρ => op2 φ (ga ρ) (gb ρ)) := by
  obtain ⟨r, h1, h2⟩ := o
  exact PE.imp (pe_op h1 ha hb) fun σ H Q q => tG_op2 h2 q
theorem pv_cmp {op : CmpOp} {φ} (o : OpD C X (compareOp op) φ) (ha : PV C X a ga) (hb : PV C X b gb) (hm : behindInMarks op b = false) : PV C X (.Compare a [op] [b] pos) (fun ρ => op2 φ (ga ρ) (gb ρ)) := by
  obtain ⟨r, h1, h2⟩ := o
  exact PE.imp (pe_cmpR h1 ha hb hm) fun σ H Q q => tG_op2 h2 q
def orO (φ ψ : Md → D → Md → D → Option (Md × D)) : Md → D → Md → D → Option (Md × D) := fun m x n y => (φ m x n y).orElse fun _ => ψ m x n y
theorem OpD.or {f : Value → Value → Sem Value} {φ ψ} (h : OpD C X f φ) (h' : OpD C X f ψ) : OpD C X f (orO φ ψ) := by
  obtain ⟨r, h1, h2⟩ := h
  obtain ⟨r', h1', h2'⟩ := h'
  refine ⟨_, h1.or h1', fun F H m x n y v u k d Q s rx ry e w => ?_⟩
  unfold orO at e
  cases e1 : φ m x n y with
  | none => rw [e1] at e; exact .inr (h2' F H m x n y v u k d Q s rx ry e w)
  | some p => rw [e1] at e; cases e; exact .inl (h2 F H m x n y v u k d Q s rx ry e1 w)
/-- two ints -/
def fI (c : Int → Int → Bool) (g : Int → Int → D) : Md → D → Md → D → Option (Md × D) := fun _ x _ y => match x, y with
  | .int i, .int j => if c i j = true then some (.fz, g i j) else none
  | _, _ => none
theorem opd_I {f : Value → Value → Sem Value} {Cc : Int → Int → Prop} {c : Int → Int → Bool} {g : Int → Int → V} {g' : Int → Int → D} (o : OpR X f (rI Cc g)) (hc : ∀ i j, c i j = true → Cc i j) (hg : ∀ F H i j, Rp X.K F H .fz (g' i j) (g i j)) : OpD C X f (fI c g') := by
  refine ⟨_, o, fun F H m x n y v u k d Q s rx ry e w => ?_⟩
  unfold fI at e
  split at e
  · rename_i i j
    cases rx.int
    cases ry.int
    split at e
    · rename_i hcc
      cases e
      exact ⟨i, j, rfl, rfl, hc i j hcc, w _ F H (.refl s) (hg F H i j) (by intro z; cases z)⟩
    · cases e
  · cases e
theorem opd_I0 {f : Value → Value → Sem Value} {g : Int → Int → V} {g' : Int → Int → D} (o : OpR X f (rI0 g)) (hg : ∀ F H i j, Rp X.K F H .fz (g' i j) (g i j)) : OpD C X f (fI (fun _ _ => true) g') := by
  refine ⟨_, o, fun F H m x n y v u k d Q s rx ry e w => ?_⟩
  unfold fI at e
  split at e
  · rename_i i j
    cases rx.int
    cases ry.int
    rw [if_pos rfl] at e
    cases e
    exact ⟨i, j, rfl, rfl, w _ F H (.refl s) (hg F H i j) (by intro z; cases z)⟩
  · cases e
def bits (i : Int) : Bool := decide (i.natAbs.log2 < 9000)
theorem opd_add : OpD C X (binaryOp .Add) (fI (fun _ _ => true) fun i j => .int (i + j)) := opd_I0 op_add fun _ _ i j => rp_int _
theorem opd_sub : OpD C X (binaryOp .Sub) (fI (fun _ _ => true) fun i j => .int (i - j)) := opd_I0 op_sub fun _ _ i j => rp_int _
theorem mulOk_of {i j : Int} (h : (bits i && bits j) = true) : IntMulOk i j := by
  rw [Bool.and_eq_true] at h
  have b : ∀ {i : Int}, bits i = true → Builtin.Int.intBits i ≤ 2 ^ 20 := fun {i} h => by
    unfold bits at h
    have := of_decide_eq_true h
    unfold Builtin.Int.intBits
    split
    · exact Nat.zero_le _
    · have e : (2 : Nat) ^ 20 = 1048576 := by decide
      omega
  exact IntMulOk.of_bits (b h.1) (b h.2)
def w64 (i : Int) : Bool := decide (i.natAbs < 2 ^ 63)
theorem w64_bits {i : Int} (h : w64 i = true) : Builtin.Int.intBits i ≤ 64 := by
  have h := of_decide_eq_true h
  unfold Builtin.Int.intBits
  split
  · exact Nat.zero_le _
  · rename_i hz
    have : i.natAbs.log2 < 63 := (Nat.log2_lt (by simpa using hz)).mpr h
    omega
theorem opd_mul : OpD C X (binaryOp .Mult) (fI (fun i j => (bits i && bits j) || (w64 i || w64 j)) fun i j => .int (i * j)) :=
  opd_I (Cc := fun i j => IntMulOk i j) (opI fun _ _ _ _ _ _ _ hc q => mul_int q hc) (fun i j h => by
    rcases (Bool.or_eq_true _ _).mp h with h | h
    · exact mulOk_of h
    · rcases (Bool.or_eq_true _ _).mp h with h | h
      · exact IntMulOk.of_left (w64_bits h)
      · exact IntMulOk.of_right (w64_bits h)) fun _ _ i j => rp_int _
theorem opd_mod : OpD C X (binaryOp .Mod) (fI (fun _ j => decide (0 < j)) fun i j => .int (i % j)) := opd_I op_mod (fun i j h => of_decide_eq_true h) fun _ _ i j => rp_int _
theorem op_fdivB : OpR X (binaryOp .FloorDiv) (rI (fun _ j => 0 < j ∧ bits j = true) fun i j => .int (i / j)) := opI fun i j _ _ _ _ _ hc q => by
  obtain ⟨h1, h2⟩ := hc
  refine floordiv_int (by omega) ?_ (.inl (PyProof.noPylong_of_log2 (of_decide_eq_true h2)))
  rw [Int.fdiv_eq_ediv_of_nonneg i (by omega)]
  exact q
theorem opd_fdiv : OpD C X (binaryOp .FloorDiv) (fI (fun _ j => decide (0 < j) && bits j) fun i j => .int (i / j)) := opd_I op_fdivB (fun i j h => by rw [Bool.and_eq_true, decide_eq_true_eq] at h; exact h) fun _ _ i j => rp_int _
theorem opd_pow : OpD C X (binaryOp .Pow) (fI (fun i j => decide (0 ≤ j) && decide (j ≤ 1000000) && decide (i.natAbs < 2 ^ 64)) fun i j => .int (i ^ j.toNat)) :=
  opd_I op_pow (fun i j h => by simp only [Bool.and_eq_true, decide_eq_true_eq] at h; exact ⟨h.1.1, h.1.2, h.2⟩) fun _ _ i j => rp_int _
theorem opd_lt : OpD C X (compareOp .Lt) (fI (fun _ _ => true) fun i j => .bl (decide (i < j))) := opd_I0 op_lt fun _ _ i j => rp_bl _
theorem opd_le : OpD C X (compareOp .LtE) (fI (fun _ _ => true) fun i j => .bl (decide (i ≤ j))) := opd_I0 op_le fun _ _ i j => rp_bl _
theorem opd_gt : OpD C X (compareOp .Gt) (fI (fun _ _ => true) fun i j => .bl (decide (j < i))) := opd_I0 op_gt fun _ _ i j => rp_bl _
theorem opd_ge : OpD C X (compareOp .GtE) (fI (fun _ _ => true) fun i j => .bl (decide (j ≤ i))) := opd_I0 op_ge fun _ _ i j => rp_bl _
/-- two texts -/
def fS (c : Str → Str → Bool) (g : Str → Str → D) : Md → D → Md → D → Option (Md × D) := fun _ x _ y => match x, y with
  | .str i, .str j => if c i j = true then some (.fz, g i j) else none
  | _, _ => none
theorem strOk_append {x y : Str} (hx : PyData.strOk x = true) (hy : PyData.strOk y = true) : PyData.strOk (x ++ y) = true := by
  unfold PyData.strOk at *
  show (x.cps ++ y.cps).all _ = true
  rw [Array.all_append, hx, hy]; rfl
theorem opd_addS : OpD C X (binaryOp .Add) (fS (fun i j => decide (i.length + j.length ≤ sizeLine)) fun i j => .str (i ++ j)) := by
  refine ⟨_, op_add_str, fun F H m x n y v u k d Q s rx ry e w => ?_⟩
  unfold fS at e
  split at e
  · rename_i i j
    obtain ⟨rfl, h1⟩ := rx.str
    obtain ⟨rfl, h2⟩ := ry.str
    split at e
    · rename_i hc
      cases e
      have hc := of_decide_eq_true hc
      exact ⟨i, j, rfl, rfl, hc, w _ F H (.refl s) (rp_str ⟨by rw [strLen_append]; exact hc, strOk_append h1.2 h2.2⟩) (by intro z; cases z)⟩
    · cases e
  · cases e
def isIn (i j : Str) : Bool := !(Builtin.Str.occurrences j i 0 j.length 1).isEmpty
theorem opd_inS : OpD C X (compareOp .In) (fS (fun _ _ => true) fun i j => .bl (isIn i j)) := by
  refine ⟨_, op_in_str, fun F H m x n y v u k d Q s rx ry e w => ?_⟩
  unfold fS at e
  split at e
  · rename_i i j
    obtain ⟨rfl, h1⟩ := rx.str
    obtain ⟨rfl, h2⟩ := ry.str
    rw [if_pos rfl] at e
    cases e
    exact ⟨i, j, rfl, rfl, w _ F H (.refl s) (rp_bl _) (by intro z; cases z)⟩
  · cases e
theorem opd_notinS : OpD C X (compareOp .NotIn) (fS (fun _ _ => true) fun i j => .bl (!isIn i j)) := by
  refine ⟨_, op_notin_str, fun F H m x n y v u k d Q s rx ry e w => ?_⟩
  unfold fS at e
  split at e
  · rename_i i j
    obtain ⟨rfl, h1⟩ := rx.str
    obtain ⟨rfl, h2⟩ := ry.str
    rw [if_pos rfl] at e
    cases e
    exact ⟨i, j, rfl, rfl, w _ F H (.refl s) (rp_bl _) (by intro z; cases z)⟩
  · cases e
end
end D3

namespace D3
open PySem PySem.Spec PyProof.Rows L2
section
variable {C : Cw} {X : Cx} {a b c e : Expr} {ga gb gc g : Rho → Res} {pos : Pos}

/-! ### freezing a fresh value -/
def frzR : Res → Res
  | .ok .bo _ => .stuck
  | .ok _ d => .ok .fz d
  | r => r
theorem Step.freeze {F H F' H' : Hp} {x : Addr} {o : HO} (st : Step F H F' H') (hx : H x = none) (hx' : F' x = none) (ho : H' x = some o) : Step F H (upd F' x o) H' := by
  refine ⟨st.same, fun b u q => ?_, fun b u q => ?_, fun y h1 h2 => ?_⟩
  · rw [upd_ne (ne_of_none (st.fsame b u q) hx')]; exact st.fsame b u q
  · by_cases hb : b = x
    · subst hb; rw [upd_same] at q; rw [← q]; exact ho
    · rw [upd_ne hb] at q; exact st.sub b u q
  · have : y ≠ x := by rintro rfl; exact h2 hx
    rw [upd_ne this]; exact st.new y h1 h2
theorem Top.freeze {K : PySem.W.Frag} {F H : Hp} {x : Addr} {d : D} (hx : F x = none) (h : Top K F H x d) : ∃ o, H x = some o ∧ RepV K (upd F x o) d (.ref x) := by
  have s : ∀ o, Same F (upd F x o) := fun o b u q => by rw [upd_ne (ne_of_none q hx)]; exact q
  cases d with
  | lst ds =>
    obtain ⟨xs, q, r⟩ := h
    refine ⟨_, q, ?_⟩
    simp only [RepV]
    exact ⟨x, xs, rfl, SqL.of upd_same, r.mono (s _) _ _⟩
  | dct ds =>
    obtain ⟨xs, q, r⟩ := h
    refine ⟨_, q, ?_⟩
    simp only [RepV]
    exact ⟨x, xs, rfl, upd_same, r.mono (s _) _ _⟩
  | ins c fs =>
    obtain ⟨C, dx, gs, n, q, r⟩ := h
    refine ⟨_, q, ?_⟩
    simp only [RepV]
    exact ⟨x, C, dx, gs, rfl, n, upd_same, r.mono (s _) _ _⟩
  | set ks =>
    obtain ⟨S, q, r⟩ := h
    refine ⟨_, q, ?_⟩
    simp only [RepV]
    exact ⟨x, S, rfl, upd_same, r⟩
  | _ => exact h.elim
theorem Want.frz {F H : Hp} {σ : L2.St} {r : Res} {Q : VK} (w : Want C F H σ (frzR r) Q) : Want C F H σ r Q := by
  cases r with
  | exc c => exact w
  | stuck => exact w
  | ok m d =>
    cases m with
    | fz => exact w
    | bo => exact (show False from w).elim
    | fr =>
      intro v F' H' st rp fr
      obtain ⟨x, rfl, n, t⟩ := rp
      obtain ⟨o, ho, r⟩ := t.freeze n
      exact w (.ref x) (upd F' x o) H' (st.freeze (fr rfl x rfl) n ho) r (by intro z; cases z)
theorem pv_frz (h : PV C X e g) : PV C X e (fun ρ => frzR (g ρ)) := PE.imp h fun σ H Q q => by
  rw [tG_eq] at q ⊢
  obtain ⟨ρ, F, R, w⟩ := q
  try dsimp only at w
  exact ⟨ρ, F, R, w.frz⟩

/-! ### tests -/
def WantB (C : Cw) (F H : Hp) (σ : L2.St) (r : Res) (Q : Bool → Hp → Prop) : Prop := match r with
  | .ok _ (.bl b) => ∀ F' H', Step F H F' H' → Q b H'
  | .exc c => ∀ F' H', Step F H F' H' → C.EE c σ H'
  | _ => False
theorem WantB.step {F H F1 H1 : Hp} {σ : L2.St} {r : Res} {Q : Bool → Hp → Prop} (st : Step F H F1 H1) (h : WantB C F H σ r Q) : WantB C F1 H1 σ r Q := by
  cases r with
  | ok m d =>
    cases d with
    | bl b => exact fun F' H' s2 => h F' H' (st.trans s2)
    | _ => exact h
  | exc c => exact fun F' H' s2 => h F' H' (st.trans s2)
  | stuck => exact h
def tT (C : Cw) (g : Rho → Res) : TT := fun σ H Q => ∃ ρ F, RelSt C.K C.F0 C.H0 F H σ ρ ∧ WantB C F H σ (g ρ) Q
def PTv (C : Cw) (X : Cx) (e : Expr) (g : Rho → Res) : Prop := PT X e (tT (C.at X) g)
def PWv (C : Cw) (X : Cx) (e : Expr) (g : Rho → Res) : Prop := PW X e (tT (C.at X) g)
theorem PT.imp {X : Cx} {e : Expr} {t t' : TT} (h : PT X e t) (i : ∀ σ H Q, t' σ H Q → t σ H Q) : PT X e t' := fun pins s σ H Q I q => h pins s σ H Q I (i σ H Q q)
theorem PW.imp {X : Cx} {e : Expr} {t t' : TT} (h : PW X e t) (i : ∀ σ H Q, t' σ H Q → t σ H Q) : PW X e t' := fun whole pins s σ H Q I q => h whole pins s σ H Q I (i σ H Q q)
def truD : D → Option Bool
  | .non => some false
  | .bl b => some b
  | .int i => some (i != 0)
  | .str x => some ((x.length : Int) != 0)
  | .tup ds => some (!ds.isEmpty)
  | .lst ds => some (!ds.isEmpty)
  | .dct ds => some (!ds.isEmpty)
  | _ => none
def truR (r : Res) : Res := r.thn fun _ d => match truD d with | some b => .ok .fz (.bl b) | none => .stuck
theorem RepL.isEmpty {K : PySem.W.Frag} {F : Hp} {ds : List D} {xs : List V} (h : RepL K F ds xs) : ds.isEmpty = xs.isEmpty := by
  cases ds with
  | nil => simp only [RepL] at h; subst h; rfl
  | cons d ds => simp only [RepL] at h; obtain ⟨y, ys, rfl, _⟩ := h; rfl
theorem RepK.isEmpty {K : PySem.W.Frag} {F : Hp} {ds : List (Key × D)} {xs : List (Key × V)} (h : RepK K F ds xs) : ds.isEmpty = xs.isEmpty := by
  cases ds with
  | nil => simp only [RepK] at h; subst h; rfl
  | cons d ds => obtain ⟨k, d⟩ := d; simp only [RepK] at h; obtain ⟨y, ys, rfl, _⟩ := h; rfl
theorem truV_of {K : PySem.W.Frag} {F H : Hp} {m : Md} {d : D} {v : V} {k : Bool} (s : Same F H) (h : Rp K F H m d v) (e : truD d = some k) : TruV K v H k := by
  cases d with
  | non => cases h.non; cases e; rfl
  | bl b => cases h.bl; cases e; rfl
  | int i => cases h.int; cases e; rfl
  | str x => obtain ⟨rfl, hl, _⟩ := h.str; cases e; exact ⟨hl, rfl⟩
  | tup ds =>
    obtain ⟨a, xs, rfl, q, r⟩ := h.seqT s
    cases e
    exact .inr (.inl ⟨xs, q, by rw [r.isEmpty]⟩)
  | lst ds =>
    obtain ⟨a, xs, rfl, q, r⟩ := h.seqL s
    cases e
    exact .inl ⟨xs, q, by rw [r.isEmpty]⟩
  | dct ds =>
    obtain ⟨a, xs, rfl, q, r⟩ := h.dict s
    cases e
    exact .inr (.inr ⟨xs, q, by rw [r.isEmpty]⟩)
  | ty n => cases e
  | ob n => cases e
  | ins n => cases e
  | fn n => cases e
  | exn n => cases e
  | set n => cases e
/-- any expression whose test is its value's truth (he by fun _ => rfl) -/
theorem pt_tru (h : PV C X e g) (he : ∀ whole, isTrue e X.env whole = (do let v ← whole; standAt e.pos; holding [v] (truthy v)) := by intro _; rfl) : PTv C X e (fun ρ => truR (g ρ)) := by
  refine PT.imp (pt_truth h he) fun σ H Q q => ?_
  obtain ⟨ρ, F, R, w⟩ := q
  try dsimp only at w
  rw [tG_eq]
  refine ⟨ρ, F, R, ?_⟩
  cases er : g ρ with
  | stuck => rw [er] at w; exact w
  | exc c => rw [er] at w; exact w
  | ok m d =>
    rw [er] at w
    intro v F' H' st rp _
    have w : WantB (C.at X) F H σ (match truD d with | some b => .ok .fz (.bl b) | none => .stuck) Q := w
    cases ed : truD d with
    | none => rw [ed] at w; exact w.elim
    | some k => rw [ed] at w; exact ⟨k, truV_of st.sub rp ed, w F' H' st⟩
/-- a comparison as a test: its value is a bool -/
theorem pt_cmpv {op : CmpOp} {φ} (o : OpD C X (compareOp op) φ) (hb' : ∀ m x n y k d, φ m x n y = some (k, d) → ∃ t, k = .fz ∧ d = .bl t) (ha : PV C X a ga) (hb : PV C X b gb) (hm : behindInMarks op b = false) : PTv C X (.Compare a [op] [b] pos) (fun ρ => op2 φ (ga ρ) (gb ρ)) := by
  obtain ⟨r, h1, h2⟩ := o
  refine PT.imp (pt_cmpR h1 ha hb hm) fun σ H Q q => ?_
  obtain ⟨ρ, F, R, w⟩ := q
  try dsimp only at w
  unfold tTest
  refine tG_op2 h2 ?_
  rw [tG_eq]
  refine ⟨ρ, F, R, ?_⟩
  cases er : op2 φ (ga ρ) (gb ρ) with
  | stuck => rw [er] at w; exact w
  | exc c => rw [er] at w; exact w
  | ok m d =>
    rw [er] at w
    have : ∃ t, m = .fz ∧ d = .bl t := by
      unfold op2 at er
      cases e1 : ga ρ with
      | stuck => rw [e1] at er; cases er
      | exc c => rw [e1] at er; cases er
      | ok m1 d1 =>
        cases e2 : gb ρ with
        | stuck => rw [e1, e2] at er; cases er
        | exc c => rw [e1, e2] at er; cases er
        | ok m2 d2 =>
          rw [e1, e2] at er
          have er : Res.of (φ m1 d1 m2 d2) = .ok m d := er
          cases e3 : φ m1 d1 m2 d2 with
          | none => rw [e3] at er; cases er
          | some kd => rw [e3] at er; obtain ⟨k, d'⟩ := kd; cases er; exact hb' _ _ _ _ _ _ e3
    obtain ⟨t, rfl, rfl⟩ := this
    intro v F' H' st rp _
    cases rp.bl
    exact ⟨t, rfl, w F' H' st⟩
def andR (x : Res) (y : Res) : Res := x.thn fun _ d => match d with | .bl true => y | .bl false => .ok .fz (.bl false) | _ => .stuck
def orR (x : Res) (y : Res) : Res := x.thn fun _ d => match d with | .bl true => .ok .fz (.bl true) | .bl false => y | _ => .stuck
def notR (x : Res) : Res := x.thn fun _ d => match d with | .bl b => .ok .fz (.bl (!b)) | _ => .stuck
theorem pt_notv (ha : PTv C X a ga) : PTv C X (.UnaryOp .Not a pos) (fun ρ => notR (ga ρ)) := by
  refine PT.imp (pt_not ha) fun σ H Q q => ?_
  obtain ⟨ρ, F, R, w⟩ := q
  try dsimp only at w
  refine ⟨ρ, F, R, ?_⟩
  cases er : ga ρ with
  | stuck => rw [er] at w; exact w
  | exc c => rw [er] at w; exact w
  | ok m d =>
    rw [er] at w
    cases d with
    | bl b => exact w
    | _ => exact w
theorem pw_onev {op : BoolOp} (h : PTv C X a ga) : PWv C X (.BoolOp op [a] pos) ga := by
  cases op with
  | And => exact pw_and1 h
  | Or => exact pw_or1 h
theorem tT_and {σ : L2.St} {H : Hp} {Q : Bool → Hp → Prop} (q : tT C (fun ρ => andR (ga ρ) (gb ρ)) σ H Q) : tAnd (tT C ga) (tT C gb) σ H Q := by
  obtain ⟨ρ, F, R, w⟩ := q
  try dsimp only at w
  refine ⟨ρ, F, R, ?_⟩
  cases er : ga ρ with
  | stuck => rw [er] at w; exact w
  | exc c => rw [er] at w; exact w
  | ok m d =>
    rw [er] at w
    cases d with
    | bl b =>
      intro F' H' st
      cases b with
      | true =>
        rw [if_pos rfl]
        exact ⟨ρ, F', R.step st, WantB.step st w⟩
      | false =>
        rw [if_neg Bool.false_ne_true]
        exact w F' H' st
    | _ => exact w
theorem tT_or {σ : L2.St} {H : Hp} {Q : Bool → Hp → Prop} (q : tT C (fun ρ => orR (ga ρ) (gb ρ)) σ H Q) : tOr (tT C ga) (tT C gb) σ H Q := by
  obtain ⟨ρ, F, R, w⟩ := q
  try dsimp only at w
  refine ⟨ρ, F, R, ?_⟩
  cases er : ga ρ with
  | stuck => rw [er] at w; exact w
  | exc c => rw [er] at w; exact w
  | ok m d =>
    rw [er] at w
    cases d with
    | bl b =>
      intro F' H' st
      cases b with
      | true =>
        rw [if_pos rfl]
        exact w F' H' st
      | false =>
        rw [if_neg Bool.false_ne_true]
        exact ⟨ρ, F', R.step st, WantB.step st w⟩
    | _ => exact w
theorem pw_andv {rest : List Expr} (ha : PTv C X a ga) (hb : PWv C X (.BoolOp .And (b :: rest) pos) gb) : PWv C X (.BoolOp .And (a :: b :: rest) pos) (fun ρ => andR (ga ρ) (gb ρ)) := PW.imp (pw_and ha hb) fun _ _ _ q => tT_and q
theorem pw_orv {rest : List Expr} (ha : PTv C X a ga) (hb : PWv C X (.BoolOp .Or (b :: rest) pos) gb) : PWv C X (.BoolOp .Or (a :: b :: rest) pos) (fun ρ => orR (ga ρ) (gb ρ)) := PW.imp (pw_or ha hb) fun _ _ _ q => tT_or q
theorem pt_w (h : PWv C X e g) : PTv C X e g := PW.pt h
/-! .. as values -/
theorem pv_onev {op} (h : PV C X a ga) : PV C X (.BoolOp op [a] pos) ga := pe_one h
theorem pv_andv {rest : List Expr} (ha : PV C X a ga) (hb : PV C X (.BoolOp .And (b :: rest) pos) gb) : PV C X (.BoolOp .And (a :: b :: rest) pos) (fun ρ => andR (ga ρ) (gb ρ)) := by
  refine PE.imp (pe_and ha hb) fun σ H Q q => ?_
  unfold tAndV
  rw [tG_eq] at q ⊢
  obtain ⟨ρ, F, R, w⟩ := q
  try dsimp only at w
  refine ⟨ρ, F, R, ?_⟩
  cases er : ga ρ with
  | stuck => rw [er] at w; exact w
  | exc c => rw [er] at w; exact w
  | ok m d =>
    rw [er] at w
    cases d with
    | bl k =>
      intro v F' H' st rp _
      cases rp.bl
      refine ⟨k, rfl, ?_⟩
      cases k with
      | true =>
        rw [if_pos rfl, tG_eq]
        exact ⟨ρ, F', R.step st, Want.step st w⟩
      | false =>
        rw [if_neg Bool.false_ne_true]
        exact w (.bl false) F' H' st (rp_bl _) (by intro z; cases z)
    | _ => exact w.elim
theorem pv_orv {rest : List Expr} (ha : PV C X a ga) (hb : PV C X (.BoolOp .Or (b :: rest) pos) gb) : PV C X (.BoolOp .Or (a :: b :: rest) pos) (fun ρ => orR (ga ρ) (gb ρ)) := by
  refine PE.imp (pe_or ha hb) fun σ H Q q => ?_
  unfold tOrV
  rw [tG_eq] at q ⊢
  obtain ⟨ρ, F, R, w⟩ := q
  try dsimp only at w
  refine ⟨ρ, F, R, ?_⟩
  cases er : ga ρ with
  | stuck => rw [er] at w; exact w
  | exc c => rw [er] at w; exact w
  | ok m d =>
    rw [er] at w
    cases d with
    | bl k =>
      intro v F' H' st rp _
      cases rp.bl
      refine ⟨k, rfl, ?_⟩
      cases k with
      | true =>
        rw [if_pos rfl]
        exact w (.bl true) F' H' st (rp_bl _) (by intro z; cases z)
      | false =>
        rw [if_neg Bool.false_ne_true, tG_eq]
        exact ⟨ρ, F', R.step st, Want.step st w⟩
    | _ => exact w.elim
theorem pv_notv (ha : PV C X a ga) : PV C X (.UnaryOp .Not a pos) (fun ρ => notR (ga ρ)) := by
  refine PE.imp (pe_not ha) fun σ H Q q => ?_
  unfold tNotV
  rw [tG_eq] at q ⊢
  obtain ⟨ρ, F, R, w⟩ := q
  try dsimp only at w
  refine ⟨ρ, F, R, ?_⟩
  cases er : ga ρ with
  | stuck => rw [er] at w; exact w
  | exc c => rw [er] at w; exact w
  | ok m d =>
    rw [er] at w
    cases d with
    | bl k =>
      intro v F' H' st rp _
      cases rp.bl
      exact ⟨k, rfl, w _ F' H' st (rp_bl _) (by intro z; cases z)⟩
    | _ => exact w.elim
/-! ### subscripts -/
def ixD : Md → D → Md → D → Option (Md × D) := fun _ x _ y => match x, y with
  | .lst ds, .int i => (atI ds i).map fun d => (.fz, d)
  | .tup ds, .int i => (atI ds i).map fun d => (.fz, d)
  | .str z, .int i => (atI z.cps.toList i).map fun c => (.fz, .str ⟨#[c]⟩)
  | _, _ => none
theorem RepL.atI {K : PySem.W.Frag} {F : Hp} {ds : List D} {xs : List V} {i : Int} {d : D} (h : RepL K F ds xs) (e : atI ds i = some d) : ∃ x, L2.atI xs i = some x ∧ RepV K F d x := by
  unfold L2.atI at *
  rw [h.length]
  cases q : ixN ds.length i with
  | none => rw [q] at e; cases e
  | some j => rw [q] at e; exact h.get' e
theorem ixD_rule {F H : Hp} {m n k : Md} {x y d : D} {v u : V} {Q : VK} (s : Same F H) (rx : Rp X.K F H m x v) (ry : Rp X.K F H n y u) (e : ixD m x n y = some (k, d))
    (w : ∀ v' F' H', Step F H F' H' → Rp X.K F' H' k d v' → (k = .fr → ∀ a, v' = .ref a → H a = none) → Q v' H') : rIx X.K v u H Q := by
  unfold ixD at e
  split at e
  · rename_i ds i
    cases ry.int
    obtain ⟨p, xs, rfl, hq, r⟩ := rx.seqL s
    cases ei : atI ds i with
    | none => rw [ei] at e; cases e
    | some d' =>
      rw [ei] at e; cases e
      obtain ⟨x', ex, rx'⟩ := r.atI ei
      exact .inl ⟨p, xs, i, x', rfl, rfl, hq, ex, w x' F H (.refl s) rx' (by intro z; cases z)⟩
  · rename_i ds i
    cases ry.int
    obtain ⟨p, xs, rfl, hq, r⟩ := rx.seqT s
    cases ei : atI ds i with
    | none => rw [ei] at e; cases e
    | some d' =>
      rw [ei] at e; cases e
      obtain ⟨x', ex, rx'⟩ := r.atI ei
      exact .inr (.inl ⟨p, xs, i, x', rfl, rfl, hq, ex, w x' F H (.refl s) rx' (by intro z; cases z)⟩)
  · rename_i z i
    cases ry.int
    obtain ⟨rfl, hl, hk⟩ := rx.str
    cases ei : atI z.cps.toList i with
    | none => rw [ei] at e; cases e
    | some c =>
      rw [ei] at e; cases e
      refine .inr (.inr ⟨z, i, c, rfl, rfl, hl, ei, w _ F H (.refl s) (rp_str ⟨?_, ?_⟩) (by intro z; cases z)⟩)
      · show 1 ≤ sizeLine; decide
      · obtain ⟨j, _, hj, _⟩ := atI_get ei
        unfold PyData.strOk at hk ⊢
        rw [Array.all_eq_true_iff_forall_mem] at hk
        have hc := hk c (by rw [← Array.mem_toList_iff]; exact List.mem_of_getElem? hj)
        simpa using hc
  · cases e
theorem pv_ix (ha : PV C X a ga) (hb : PV C X b gb) (hs : PlainIx b := by intro _ _; rfl) : PV C X (.Subscript a b pos) (fun ρ => op2 ixD (ga ρ) (gb ρ)) := by
  exact PE.imp (pe_ix ix_seq ha hb hs) fun σ H Q q => tG_op2 (fun F H m x n y v u k d Q s rx ry e w => ixD_rule s rx ry e w) q
/-! ### slices of texts -/
theorem sl_str : SlR X (fun x lo hi H Q => ∃ z, x = .str z ∧ z.length ≤ sizeLine ∧ Q (.str (Txt.slice z lo hi)) H) := by
  intro pins s σ H x v vl vu lo hi sl Q I rx hs pl pu h
  obtain ⟨z, rfl, hz, q⟩ := h
  obtain ⟨t, rfl⟩ := rx
  refine ⟨"str", _, PySem.F.slot_str_getitem.lookup, typeIs_str _ _ _, ?_⟩
  have fin : ∀ t' k, EP X pins σ Q (.str (Txt.slice z lo hi) t') { s with toks := k } := fun t' k => ⟨.str (Txt.slice z lo hi), H, I.tok _, ⟨_, rfl⟩, q⟩
  cases pl with
  | none =>
    cases pu with
    | none => exact wpAny_getItem_str_slice (l := none) (u := none) (st := none) hs rfl (post_val_or_str ⟨Nat.le_trans (Txt.slice_le z _ _) hz, fun t' k => fin t' k⟩)
    | int j tj => exact wpAny_getItem_str_slice (l := none) (u := some (j, tj)) (st := none) hs rfl (post_val_or_str ⟨Nat.le_trans (Txt.slice_le z _ _) hz, fun t' k => fin t' k⟩)
  | int i ti =>
    cases pu with
    | none => exact wpAny_getItem_str_slice (l := some (i, ti)) (u := none) (st := none) hs rfl (post_val_or_str ⟨Nat.le_trans (Txt.slice_le z _ _) hz, fun t' k => fin t' k⟩)
    | int j tj => exact wpAny_getItem_str_slice (l := some (i, ti)) (u := some (j, tj)) (st := none) hs rfl (post_val_or_str ⟨Nat.le_trans (Txt.slice_le z _ _) hz, fun t' k => fin t' k⟩)
theorem strOk_slice {z : Str} {lo hi : Option Int} (h : PyData.strOk z = true) : PyData.strOk (Txt.slice z lo hi) = true := by
  unfold Txt.slice
  split
  · exact h
  · unfold PyData.strOk at *
    rw [Array.all_eq_true_iff_forall_mem] at h ⊢
    intro c hc
    rw [← Array.mem_toList_iff, List.toList_toArray, List.mem_filterMap] at hc
    obtain ⟨j, _, hj⟩ := hc
    exact h c (Array.mem_of_getElem? hj)
def POv (C : Cw) (X : Cx) : Option Expr → Option (Rho → Res) → Prop
  | none, none => True
  | some e, some g => PV C X e g
  | _, _ => False
def partT (C : Cw) : Option (Rho → Res) → TO
  | none => tNoPart
  | some g => tPart (tG C g)
theorem po_of {e : Option Expr} {g : Option (Rho → Res)} (h : POv C X e g) : PO X e (partT (C.at X) g) := by
  cases e with
  | none => cases g with
    | none => exact po_none
    | some g => exact h.elim
  | some e => cases g with
    | none => exact h.elim
    | some g => exact po_some h
/-- the value of a part, then on -/
def partThn (g : Option (Rho → Res)) (ρ : Rho) (k : Option Int → Res) : Res := match g with
  | none => k none
  | some g => (g ρ).thn fun _ d => match d with | .int i => k (some i) | _ => .stuck
theorem want_part {F H : Hp} {σ : L2.St} {g : Option (Rho → Res)} {ρ : Rho} {k : Option Int → Res} {Q : VK} {R : Option Int → Hp → Prop} (RS : RelSt C.K C.F0 C.H0 F H σ ρ) (w : Want C F H σ (partThn g ρ k) Q)
    (h : ∀ i F' H', Step F H F' H' → RelSt C.K C.F0 C.H0 F' H' σ ρ → Want C F' H' σ (k i) Q → R i H') : partT C g σ H R := by
  cases g with
  | none => exact h none F H (.refl RS.sub) RS w
  | some g =>
    show tPart (tG C g) σ H R
    unfold tPart
    rw [tG_eq]
    refine ⟨ρ, F, RS, ?_⟩
    have w : Want C F H σ ((g ρ).thn fun _ d => match d with | .int i => k (some i) | _ => .stuck) Q := w
    cases er : g ρ with
    | stuck => rw [er] at w; exact w
    | exc c => rw [er] at w; exact w
    | ok m d =>
      rw [er] at w
      intro v F' H' st rp _
      cases d with
      | int i => cases rp.int; exact ⟨i, rfl, h (some i) F' H' st (RS.step st) (Want.step st w)⟩
      | _ => exact (show False from w).elim
/-! ### a text times a number -/
def mulS : Md → D → Md → D → Option (Md × D) := fun _ x _ y => match x, y with
  | .str z, .int n => if (decide (1 ≤ n) && decide (n ≤ 1000000) && decide (z.length * n.toNat ≤ sizeLine)) = true then some (.fz, .str (Txt.mul z n)) else none
  | _, _ => none
theorem foldl_append_size {α : Type} (xs : Array α) : ∀ (k : Nat) (acc : Array α), ((List.replicate k xs).foldl (· ++ ·) acc).size = acc.size + k * xs.size
  | 0, acc => by simp
  | k + 1, acc => by
    rw [List.replicate_succ, List.foldl_cons, foldl_append_size xs k, Array.size_append, Nat.succ_mul]
    omega
theorem foldl_append_all {α : Type} (p : α → Bool) (xs : Array α) (h : xs.all p = true) : ∀ (k : Nat) (acc : Array α), acc.all p = true → ((List.replicate k xs).foldl (· ++ ·) acc).all p = true
  | 0, acc, q => q
  | k + 1, acc, q => by
    rw [List.replicate_succ, List.foldl_cons]
    exact foldl_append_all p xs h k _ (by rw [Array.all_append, q, h]; rfl)
theorem mul_len (z : Str) {n : Int} (h : 1 ≤ n) : (Txt.mul z n).length = z.length * n.toNat := by
  unfold Txt.mul
  rw [if_neg (by omega)]
  split
  · rename_i hc
    rcases (Bool.or_eq_true _ _).mp hc with hc | hc
    · have : n = 1 := by simpa using hc
      subst this; simp
    · have : z.length = 0 := by simpa using hc
      rw [this]; simp
  · show Array.size (List.foldl (· ++ ·) #[] (List.replicate n.toNat z.cps)) = _
    rw [foldl_append_size, Nat.mul_comm]; simp [Str.length]
theorem strOk_mul {z : Str} {n : Int} (h : PyData.strOk z = true) : PyData.strOk (Txt.mul z n) = true := by
  unfold Txt.mul
  split
  · decide +kernel
  · split
    · exact h
    · unfold PyData.strOk at *
      exact foldl_append_all _ _ h _ _ (by simp)
theorem opd_mulS : OpD C X (binaryOp .Mult) mulS := by
  refine ⟨fun x y H Q => ∃ z n, x = .str z ∧ y = .int n ∧ MulOk z n ∧ Q (.str (Txt.mul z n)) H, ?_, ?_⟩
  · intro pins s σ H x y v u Q I rx ry h
    obtain ⟨z, n, rfl, rfl, hm, q⟩ := h
    obtain ⟨t, rfl⟩ := rx
    obtain ⟨t', rfl⟩ := ry
    exact SB.mul hm fun t' k => ⟨.str (Txt.mul z n), H, I.tok _, ⟨_, rfl⟩, q⟩
  · intro F H m x n y v u k d Q s rx ry e w
    unfold mulS at e
    split at e
    · rename_i z i
      obtain ⟨rfl, hz, hk⟩ := rx.str
      cases ry.int
      split at e
      · rename_i hc
        simp only [Bool.and_eq_true, decide_eq_true_eq] at hc
        obtain ⟨⟨h1, h2⟩, h3⟩ := hc
        cases e
        refine ⟨z, i, rfl, rfl, ⟨?_, fun _ _ => ?_, fun _ _ => ?_⟩, w _ F H (.refl s) (rp_str ⟨by rw [mul_len z h1]; exact h3, strOk_mul hk⟩) (by intro z; cases z)⟩
        · rw [Bool.or_eq_false_iff]; exact ⟨decide_eq_false (by omega), decide_eq_false (by omega)⟩
        · have hs : sizeLine = 16777216 := sizeLine_eq
          have : (2 ^ 63 - 1 : Int) / i ≥ (2 ^ 63 - 1) / 1000000 := by
            apply Int.le_ediv_of_mul_le (by omega)
            have e1 : (2 ^ 63 - 1 : Int) / 1000000 = 9223372036854 := by decide
            rw [e1]
            have : (9223372036854 : Int) * i ≤ 9223372036854 * 1000000 := Int.mul_le_mul_of_nonneg_left h2 (by decide)
            have e2 : (9223372036854 : Int) * 1000000 ≤ 2 ^ 63 - 1 := by decide
            omega
          have e1 : (2 ^ 63 - 1 : Int) / 1000000 = 9223372036854 := by decide
          omega
        · unfold Builtin.Str.tooLong
          exact decide_eq_false (by omega)
      · cases e
    · cases e
end
end D3

namespace D3
open PySem PySem.Spec PyProof.Rows L2

/-! ### argument lists -/
inductive ResL where
  | ok (xs : List (Md × D)) | exc (c : Str) | stuck
def RpL (K : PySem.W.Frag) (F H : Hp) : List (Md × D) → List V → Prop
  | [], vs => vs = []
  | (m, d) :: r, vs => ∃ v us, vs = v :: us ∧ Rp K F H m d v ∧ RpL K F H r us
def ResL.thn (r : ResL) (k : List (Md × D) → Res) : Res := match r with
  | .ok xs => k xs
  | .exc c => .exc c
  | .stuck => .stuck
@[simp] theorem ResL.thn_ok (xs : List (Md × D)) (k : List (Md × D) → Res) : (ResL.ok xs).thn k = k xs := rfl
@[simp] theorem ResL.thn_exc (c : Str) (k : List (Md × D) → Res) : (ResL.exc c).thn k = .exc c := rfl
@[simp] theorem ResL.thn_stuck (k : List (Md × D) → Res) : ResL.stuck.thn k = .stuck := rfl
def WantL (C : Cw) (F H : Hp) (σ : L2.St) (r : ResL) (Q : List V → Hp → Prop) : Prop := match r with
  | .ok xs => ∀ vs F' H', Step F H F' H' → RpL C.K F' H' xs vs → Q vs H'
  | .exc c => ∀ F' H', Step F H F' H' → C.EE c σ H'
  | .stuck => False
theorem WantL.step {C : Cw} {F H F1 H1 : Hp} {σ : L2.St} {r : ResL} {Q : List V → Hp → Prop} (st : Step F H F1 H1) (h : WantL C F H σ r Q) : WantL C F1 H1 σ r Q := by
  cases r with
  | ok m => exact fun v F' H' s2 rp => h v F' H' (st.trans s2) rp
  | exc c => exact fun F' H' s2 => h F' H' (st.trans s2)
  | stuck => exact h
def tAv (C : Cw) (g : Rho → ResL) : TA := fun σ H Q => ∃ ρ F, RelSt C.K C.F0 C.H0 F H σ ρ ∧ WantL C F H σ (g ρ) Q
def PAv (C : Cw) (X : Cx) (es : List Expr) (g : Rho → ResL) : Prop := PA X es (tAv (C.at X) g)
theorem PA.imp {X : Cx} {e : List Expr} {t t' : TA} (h : PA X e t) (i : ∀ σ H Q, t' σ H Q → t σ H Q) : PA X e t' := fun p pins s σ H Q I q => h p pins s σ H Q I (i σ H Q q)
def consL (x : Res) (y : ResL) : ResL := match x with
  | .ok m d => (match y with | .ok r => .ok ((m, d) :: r) | .exc c => .exc c | .stuck => .stuck)
  | .exc c => .exc c
  | .stuck => .stuck
@[simp] theorem consL_ok (m : Md) (d : D) (r : List (Md × D)) : consL (.ok m d) (.ok r) = .ok ((m, d) :: r) := rfl
section
variable {C : Cw} {X : Cx} {a b c e : Expr} {es : List Expr} {ga gb gc g : Rho → Res} {gs : Rho → ResL} {pos p : Pos} {x : Str}
theorem pav_nil : PAv C X [] (fun _ => .ok []) := PA.imp pa_nil fun σ H Q q => by
  obtain ⟨ρ, F, R, w⟩ := q
  exact w [] F H (.refl R.sub) rfl
theorem pav_cons (ha : PV C X e g) (hr : PAv C X es gs) (hs : starEach (e :: es) X.env = (false, eval e X.env) :: starEach es X.env := by rfl) : PAv C X (e :: es) (fun ρ => consL (g ρ) (gs ρ)) := by
  refine PA.imp (pa_cons ha hr hs) fun σ H Q q => ?_
  unfold tCons
  obtain ⟨ρ, F, R, w⟩ := q
  dsimp only at w
  rw [tG_eq]
  refine ⟨ρ, F, R, ?_⟩
  cases er : g ρ with
  | stuck => rw [er] at w; exact w
  | exc c => rw [er] at w; exact w
  | ok m d =>
    rw [er] at w
    intro v F1 H1 s1 r1 _
    refine ⟨ρ, F1, R.step s1, ?_⟩
    have w1 := WantL.step s1 w
    cases es' : gs ρ with
    | stuck => rw [es'] at w1; exact w1
    | exc c => rw [es'] at w1; exact w1
    | ok r =>
      rw [es'] at w1
      intro vs F2 H2 s2 r2
      exact w1 (v :: vs) F2 H2 s2 ⟨v, vs, rfl, r1.step s2, r2⟩
/-! ### displays -/
/-- all frozen: the data alone -/
def allFz : List (Md × D) → Option (List D)
  | [] => some []
  | (.fz, d) :: r => (allFz r).map (d :: ·)
  | _ :: _ => none
theorem RpL.fz {K : PySem.W.Frag} {F H : Hp} : ∀ {xs : List (Md × D)} {vs : List V} {ds : List D}, RpL K F H xs vs → allFz xs = some ds → RepL K F ds vs
  | [], _, _, h, e => by cases e; rw [show _ = [] from h]; exact RepL.nil
  | (.fz, d) :: r, _, _, h, e => by
    obtain ⟨v, us, rfl, r1, r2⟩ := h
    unfold allFz at e
    cases q : allFz r with
    | none => rw [q] at e; cases e
    | some ds' => rw [q] at e; cases e; exact RepL.cons r1 (RpL.fz r2 q)
  | (.fr, d) :: r, _, _, h, e => by cases e
  | (.bo, d) :: r, _, _, h, e => by cases e
def tupR (r : ResL) : Res := r.thn fun xs => match allFz xs with | some ds => if ds.length ≤ sizeLine then .ok .fz (.tup ds) else .stuck | none => .stuck
def lstR (r : ResL) : Res := r.thn fun xs => match allFz xs with | some ds => if ds.length ≤ sizeLine then .ok .fr (.lst ds) else .stuck | none => .stuck
theorem RepV.tup_of {K : PySem.W.Frag} {F : Hp} {p : Addr} {ds : List D} {xs : List V} (hp : F p = none) (r : RepL K F ds xs) : RepV K (upd F p (.tup xs)) (.tup ds) (.ref p) := by
  simp only [RepV]
  exact ⟨p, xs, rfl, SqT.of upd_same, r.mono (fun b u q => by rw [upd_ne (ne_of_none q hp)]; exact q) _ _⟩
theorem pv_tup {x1} (h : PAv C X es gs) : PV C X (.Tuple es x1 pos) (fun ρ => tupR (gs ρ)) := by
  refine PE.imp (pe_tup h) fun σ H Q q => ?_
  unfold tTup
  rw [tG_eq] at q
  obtain ⟨ρ, F, R, w⟩ := q
  refine ⟨ρ, F, R, ?_⟩
  cases er : gs ρ with
  | stuck => rw [er] at w; exact w
  | exc c => rw [er] at w; exact w
  | ok xs =>
    rw [er] at w
    intro vs F1 H1 s1 r1
    have w1 : Want (C.at X) F1 H1 σ (match allFz xs with | some ds => if ds.length ≤ sizeLine then .ok .fz (.tup ds) else .stuck | none => .stuck) Q := Want.step s1 w
    cases ef : allFz xs with
    | none => rw [ef] at w1; exact w1.elim
    | some ds =>
      rw [ef] at w1
      dsimp only at w1
      split at w1
      · rename_i hl
        have r2 := r1.fz ef
        refine ⟨by rw [r2.length]; exact hl, fun p hp => ?_⟩
        exact w1 (.ref p) _ _ (Step.laid (.tup vs) s1.sub hp) (RepV.tup_of (s1.sub.free hp) r2) (by intro z; cases z)
      · exact w1.elim
theorem pv_lst (h : PAv C X es gs) : PV C X (.List es pos) (fun ρ => lstR (gs ρ)) := by
  refine PE.imp (pe_lst h) fun σ H Q q => ?_
  unfold tLst
  rw [tG_eq] at q
  obtain ⟨ρ, F, R, w⟩ := q
  refine ⟨ρ, F, R, ?_⟩
  cases er : gs ρ with
  | stuck => rw [er] at w; exact w
  | exc c => rw [er] at w; exact w
  | ok xs =>
    rw [er] at w
    intro vs F1 H1 s1 r1
    have w1 : Want (C.at X) F1 H1 σ (match allFz xs with | some ds => if ds.length ≤ sizeLine then .ok .fr (.lst ds) else .stuck | none => .stuck) Q := Want.step s1 w
    cases ef : allFz xs with
    | none => rw [ef] at w1; exact w1.elim
    | some ds =>
      rw [ef] at w1
      dsimp only at w1
      split at w1
      · rename_i hl
        have r2 := r1.fz ef
        refine ⟨by rw [r2.length]; exact hl, fun p hp => ?_⟩
        refine w1 (.ref p) F1 _ (Step.fresh (.lst vs) s1.sub hp) ⟨p, rfl, s1.sub.free hp, vs, upd_same, r2⟩ fun _ a ea => by cases ea; exact hp
      · exact w1.elim
/-! ### calls of what Python has -/
def CallD (X : Cx) (f : Value) (φ : List (Md × D) → Option (Md × D)) : Prop :=
  ∃ r : List V → Hp → VK → Prop, CallR X f r ∧ ∀ F H xs vs k d Q, Same F H → RpL X.K F H xs vs → φ xs = some (k, d) →
    (∀ v' F' H', Step F H F' H' → Rp X.K F' H' k d v' → (k = .fr → ∀ a, v' = .ref a → H a = none) → Q v' H') → r vs H Q
def callR (φ : List (Md × D) → Option (Md × D)) (r : ResL) : Res := r.thn fun xs => Res.of (φ xs)
theorem tG_call {φ : List (Md × D) → Option (Md × D)} {r : List V → Hp → VK → Prop} (h : ∀ F H xs vs k d Q, Same F H → RpL C.K F H xs vs → φ xs = some (k, d) →
    (∀ v' F' H', Step F H F' H' → Rp C.K F' H' k d v' → (k = .fr → ∀ a, v' = .ref a → H a = none) → Q v' H') → r vs H Q) {σ : L2.St} {H : Hp} {Q : VK}
    (q : tG C (fun ρ => callR φ (gs ρ)) σ H Q) : tCB r (tAv C gs) σ H Q := by
  unfold tCB
  rw [tG_eq] at q
  obtain ⟨ρ, F, R, w⟩ := q
  refine ⟨ρ, F, R, ?_⟩
  cases er : gs ρ with
  | stuck => rw [er] at w; exact w
  | exc c => rw [er] at w; exact w
  | ok xs =>
    rw [er] at w
    intro vs F1 H1 s1 r1
    have w1 : Want C F1 H1 σ (Res.of (φ xs)) Q := Want.step s1 w
    cases ef : φ xs with
    | none => rw [ef] at w1; exact w1.elim
    | some kd => obtain ⟨k, d⟩ := kd; rw [ef] at w1; exact h F1 H1 xs vs k d Q s1.sub r1 ef w1
theorem pv_callB {id : String} {φ} (o : CallD X (.builtin id) φ) (hg : Gl X x) (hm : X.mg x = none) (hv : bootBuiltins x = some (.builtin id)) (ha : PAv C X (e :: es) gs) (hn : x ≠ "__name__" := by decide) (hdb : (x == ("__debug__" : Str)) = false := by decide)
    (he : starEach (e :: es) X.env = (false, eval e X.env) :: starEach es X.env := by rfl) (hpl : (backTo pos (starEach es X.env)).any (·.1) = false := by rfl) : PV C X (.Call (.Name x p) (e :: es) [] pos) (fun ρ => callR φ (gs ρ)) := by
  obtain ⟨r, h1, h2⟩ := o
  exact PE.imp (pe_callB h1 hg hm hv ha hn hdb he hpl) fun σ H Q q => tG_call h2 q
/-! len -/
def lenD : List (Md × D) → Option (Md × D)
  | [(_, .str z)] => some (.fz, .int z.length)
  | [(_, .lst ds)] => some (.fz, .int ds.length)
  | [(_, .tup ds)] => some (.fz, .int ds.length)
  | _ => none
theorem RpL.one {K : PySem.W.Frag} {F H : Hp} {m : Md} {d : D} {vs : List V} (h : RpL K F H [(m, d)] vs) : ∃ v, vs = [v] ∧ Rp K F H m d v := by
  obtain ⟨v, us, rfl, r, e⟩ := h
  exact ⟨v, by rw [show us = [] from e], r⟩
theorem RpL.two {K : PySem.W.Frag} {F H : Hp} {m n : Md} {d e : D} {vs : List V} (h : RpL K F H [(m, d), (n, e)] vs) : ∃ v u, vs = [v, u] ∧ Rp K F H m d v ∧ Rp K F H n e u := by
  obtain ⟨v, us, rfl, r, v', us', rfl, r', e⟩ := h
  exact ⟨v, v', by rw [show us' = [] from e], r, r'⟩
theorem calld_len : CallD X (.builtin "len") lenD := by
  refine ⟨_, call_len, fun F H xs vs k d Q s rx e w => ?_⟩
  unfold lenD at e
  split at e
  · rename_i m z
    cases e
    obtain ⟨v, rfl, r⟩ := rx.one
    obtain ⟨rfl, hz, _⟩ := r.str
    exact ⟨_, z.length, rfl, ⟨hz, rfl⟩, w _ F H (.refl s) (rp_int _) (by intro z; cases z)⟩
  · rename_i m ds
    cases e
    obtain ⟨v, rfl, r⟩ := rx.one
    obtain ⟨a, xs, rfl, q, rl⟩ := r.seqL s
    exact ⟨_, xs.length, rfl, .inl ⟨xs, q, rfl⟩, by rw [rl.length]; exact w _ F H (.refl s) (rp_int _) (by intro z; cases z)⟩
  · rename_i m ds
    cases e
    obtain ⟨v, rfl, r⟩ := rx.one
    obtain ⟨a, xs, rfl, q, rl⟩ := r.seqT s
    exact ⟨_, xs.length, rfl, .inr ⟨xs, q, rfl⟩, by rw [rl.length]; exact w _ F H (.refl s) (rp_int _) (by intro z; cases z)⟩
  · cases e
/-! isinstance by a type of Python's own -/
def tyN : D → Option String
  | .non => some "NoneType" | .bl _ => some "bool" | .int _ => some "int" | .str _ => some "str" | .tup _ => some "tuple" | .lst _ => some "list" | .dct _ => some "dict" | _ => none
def isTy (t c : String) : Option Bool := if ["int", "bool", "str", "list", "tuple", "dict"].contains c = true then some (t == c || (t == "bool" && c == "int")) else none
def isiD : List (Md × D) → Option (Md × D)
  | [(_, d), (_, .ty c)] => match tyN d with | some t => (isTy t c).map fun b => (.fz, .bl b) | none => none
  | _ => none
theorem kit_of {K : PySem.W.Frag} {d : D} {t c : String} {b : Bool} (ht : tyN d = some t) (e : isTy t c = some b) : PySem.W.kitOne K (.type t) (.type c) = some b := by
  unfold isTy at e
  split at e
  · rename_i hc
    simp only [List.contains_cons, List.contains_nil, Bool.or_false, Bool.or_eq_true, beq_iff_eq] at hc
    cases e
    have ht' : t = "NoneType" ∨ t = "bool" ∨ t = "int" ∨ t = "str" ∨ t = "tuple" ∨ t = "list" ∨ t = "dict" := by
      cases d <;> cases ht <;> simp
    rcases hc with rfl | rfl | rfl | rfl | rfl | rfl <;> rcases ht' with rfl | rfl | rfl | rfl | rfl | rfl | rfl <;> rfl
  · cases e
theorem calld_isi : CallD X (.builtin "isinstance") isiD := by
  refine ⟨fun vs H Q => ∃ (F : Hp) (m : Md) (d : D) (v : V) (t c : String) (b : Bool), Same F H ∧ Rp X.K F H m d v ∧ vs = [v, .ty c] ∧ tyN d = some t ∧ isTy t c = some b ∧ Q (.bl b) H, ?_, ?_⟩
  · intro pins s σ H xs us Q I r h
    obtain ⟨F, m, d, v, t, c, b, sF, rp, rfl, ht, hb, q⟩ := h
    obtain ⟨u, u', rfl, ru, ru'⟩ := vals2 r
    cases (show u' = Value.type c from ru')
    have e := kit_of (K := X.K) ht hb
    have fin : ∀ tk, EP X pins σ Q (.bool b) { s with toks := tk } := fun tk => ⟨.bl b, H, I.tok _, rfl, q⟩
    cases d with
    | non => cases rp.non; cases ht; cases (show u = Value.none from ru); exact PySem.W.kia_one PySem.W.kitx_none I.kIn True.intro e (fun z => nomatch z) fin
    | bl y => cases rp.bl; cases ht; cases (show u = Value.bool y from ru); exact PySem.W.kia_one PySem.W.kitx_bool I.kIn True.intro e (fun z => nomatch z) fin
    | int i => cases rp.int; cases ht; obtain ⟨t, q⟩ := (show ∃ t, u = Value.int i t from ru); cases q; exact PySem.W.kia_one PySem.W.kitx_int I.kIn True.intro e (fun z => nomatch z) fin
    | str y => obtain ⟨rfl, _⟩ := rp.str; cases ht; obtain ⟨t, q⟩ := (show ∃ t, u = Value.str y t from ru); cases q; exact PySem.W.kia_one PySem.W.kitx_str I.kIn True.intro e (fun z => nomatch z) fin
    | tup ds =>
      obtain ⟨a, xs, rfl, hq, _⟩ := rp.seqT sF
      cases ht
      cases (show u = Value.ref a from ru)
      obtain ⟨its, _, ⟨o, h1, h2, _⟩, _⟩ := I.tuple hq
      exact PySem.W.kia_one PySem.W.kitx_tuple I.kIn ⟨o, h1, h2⟩ e (fun z => nomatch z) fin
    | lst ds =>
      obtain ⟨a, xs, rfl, hq, _⟩ := rp.seqL sF
      cases ht
      cases (show u = Value.ref a from ru)
      obtain ⟨its, _, ⟨o, n, h1, h2, _⟩, _⟩ := I.list hq
      exact PySem.W.kia_one PySem.W.kitx_list I.kIn ⟨o, h1, h2⟩ e (fun z => nomatch z) fin
    | dct ds =>
      obtain ⟨a, xs, rfl, hq, _⟩ := rp.dict sF
      cases ht
      cases (show u = Value.ref a from ru)
      obtain ⟨_, _, vs, _, p⟩ := (show ObjOk X.prog X.w H s.heap a (.dK xs) from I.hok a _ hq)
      obtain ⟨o, es, ep, h1, h2, _⟩ := p
      exact PySem.W.kia_one PySem.W.kitx_dict I.kIn ⟨o, h1, h2.1⟩ e (fun z => nomatch z) fin
    | _ => cases ht
  · intro F H xs vs k d Q s rx e w
    unfold isiD at e
    split at e
    · rename_i m d' n c
      obtain ⟨v, u, rfl, r1, r2⟩ := rx.two
      cases r2.ty
      cases et : tyN d' with
      | none => rw [et] at e; cases e
      | some t =>
        rw [et] at e
        dsimp only at e
        cases eb : isTy t c with
        | none => rw [eb] at e; cases e
        | some b => rw [eb] at e; cases e; exact ⟨F, m, d', v, t, c, b, s, r1, rfl, et, eb, w _ F H (.refl s) (rp_bl _) (by intro z; cases z)⟩
    · cases e
/-- the name of a type of Python's own, as a value -/
theorem pv_ty {T : String} (hg : Gl X x) (hm : X.mg x = none) (hv : bootBuiltins x = some (.type T)) (hn : x ≠ "__name__" := by decide) (hd : (x == ("__debug__" : Str)) = false := by decide) : PV C X (.Name x pos) (fun _ => .ok .fz (.ty T)) :=
  pv_con _ (pe_bltn (v := .ty T) hg hm hv rfl hn hd) fun _ _ => rp_ty T
/-- a module's value: a text, a number -/
theorem pv_globS {y : Str} {t : Tok} (hg : Gl X x) (hm : X.mg x = some (.str y t)) (h : (decide (y.length ≤ sizeLine) && PyData.strOk y) = true := by decide +kernel) (hd : (x == ("__debug__" : Str)) = false := by decide) : PV C X (.Name x pos) (fun _ => .ok .fz (.str y)) :=
  pv_con _ (pe_glob (v := .str y) hg hm ⟨t, rfl⟩ hd) fun _ _ => rp_str (by rw [Bool.and_eq_true, decide_eq_true_eq] at h; exact h)
theorem pv_globI {y : Int} {t : Tok} (hg : Gl X x) (hm : X.mg x = some (.int y t)) (hd : (x == ("__debug__" : Str)) = false := by decide) : PV C X (.Name x pos) (fun _ => .ok .fz (.int y)) :=
  pv_con _ (pe_glob (v := .int y) hg hm ⟨t, rfl⟩ hd) fun _ _ => rp_int _
/-! all, any over a list of bools -/
def blsD : List D → Option (List Bool)
  | [] => some []
  | .bl b :: r => (blsD r).map (b :: ·)
  | _ => none
def allD : List (Md × D) → Option (Md × D)
  | [(_, .lst ds)] => (blsD ds).map fun bs => (.fz, .bl (bs.all id))
  | _ => none
theorem blsD_rep {K : PySem.W.Frag} {F : Hp} : ∀ {ds : List D} {xs : List V} {bs : List Bool}, RepL K F ds xs → blsD ds = some bs → xs = bs.map V.bl
  | [], _, _, h, e => by cases e; simp only [RepL] at h; exact h
  | d :: ds, _, _, h, e => by
    simp only [RepL] at h
    obtain ⟨y, ys, rfl, r, t⟩ := h
    cases d with
    | bl b =>
      unfold blsD at e
      cases q : blsD ds with
      | none => rw [q] at e; cases e
      | some bs =>
        rw [q] at e; cases e
        simp only [RepV] at r
        subst r
        rw [blsD_rep t q]; rfl
    | _ => cases e
theorem range_all_get (bs : List Bool) : (List.range bs.length).all (fun i => bs.getD i true) = bs.all id := by
  rw [Bool.eq_iff_iff, List.all_eq_true, List.all_eq_true]
  constructor
  · intro h b hb
    obtain ⟨i, hi, e⟩ := List.getElem_of_mem hb
    have := h i (List.mem_range.mpr hi)
    rw [List.getD_eq_getElem?_getD, List.getElem?_eq_getElem hi] at this
    rw [← e]; exact this
  · intro h i hi
    have hi := List.mem_range.mp hi
    rw [List.getD_eq_getElem?_getD, List.getElem?_eq_getElem hi]
    exact h _ (List.getElem_mem hi)
theorem calls_bls {prog : Program} {w : World} {pins : List (Addr × Obj)} {σ : L2.St} {H : Hp} {s : Shared} {a : Addr} {bs : List Bool} (hc : X.calm = true) (I : Inv X pins σ H s) (hq : SqL X.K H a (bs.map V.bl)) {E : Value → Shared → Prop} {Q : Value → Shared → Prop}
    (h : ∀ (it : Value) (s2 : Shared), (∃ I' fp wr n P St tr, it = .ref I' ∧ Walks prog w X.A.in1 I' fp wr n P St ∧ St 0 s2.heap ∧ TruthOf prog w X.A.in1 P tr ∧ n = bs.length ∧ (∀ i, tr i = bs.getD i true) ∧
      ∀ h' tk, (∀ b o, b ∉ wr → s2.heap.get? b = some o → h'.get? b = some o) → ∃ s3 : Shared, s3 = { s2 with heap := h', toks := tk } ∧ Inv X pins σ H s3) → Q it s2) :
    wpAny (model prog w) X.A.in1 (pyIter (.ref a)) Q E s := by
  obtain ⟨its, rv, p, hz⟩ := I.list hq
  have hlen := rv.length
  rw [List.length_map] at hlen
  refine wpAny_pyIter_list p.isList (h _ _ ⟨s.heap.objs.size, _, _, _, _, _, fun i => bs.getD i true, rfl, Walks.list (by show X.A.handled = none; exact I.ok.hd hc) s.heap.objs.size a ?_ its.toArray, ⟨⟨_, Heap.get?_push_size _ rfl, rfl, rfl⟩, ?_⟩, ?_, ?_, fun _ => rfl, ?_⟩)
  · obtain ⟨o, n, e, _⟩ := p
    exact Nat.ne_of_lt (Heap.lt_size e)
  · obtain ⟨o, n, e, c, d, dd⟩ := p
    exact ⟨o, Heap.get?_push_of_some _ e, c, n, dd⟩
  · intro i v s' Q' E' hP hQ
    have hv : its[i]? = some v := by simpa using hP
    have hi : i < bs.length := by rw [hlen]; exact (List.getElem?_eq_some_iff.mp hv).1
    have hx : (bs.map V.bl)[i]? = some (V.bl bs[i]) := by rw [List.getElem?_map, List.getElem?_eq_getElem hi]; rfl
    obtain ⟨u, hu, ru⟩ := rv.get hx
    rw [hv] at hu; cases hu
    cases (show v = Value.bool _ from ru)
    have hQ : Q' (bs.getD i true) s' := hQ
    rw [List.getD_eq_getElem?_getD, List.getElem?_eq_getElem hi] at hQ
    exact wpAny_truthy_bool hQ
  · rw [List.size_toArray, hlen]
  · intro h' tk hk
    refine ⟨_, rfl, ?_⟩
    refine (I.kept (t' := tk) (h' := h') fun b o e => ?_)
    refine hk b o (by intro hb; have : b = s.heap.objs.size := by simpa using hb
                      subst this; exact absurd (Heap.lt_size e) (Nat.lt_irrefl _)) (Heap.get?_push_of_some _ e)
theorem calld_all (hc : X.calm = true) : CallD X (.builtin "all") allD := by
  refine ⟨fun vs H Q => ∃ (a : Addr) (bs : List Bool), vs = [.ref a] ∧ SqL X.K H a (bs.map V.bl) ∧ Q (.bl (bs.all id)) H, ?_, ?_⟩
  · intro pins s σ H xs us Q I r h
    obtain ⟨a, bs, rfl, hq, q⟩ := h
    obtain ⟨u, rfl, ru⟩ := vals1 r
    cases (show u = Value.ref a from ru)
    refine call_all_walk (calls_bls hc I hq fun it s2 hh => ?_)
    obtain ⟨I', fp, wr, n, P, St, tr, rfl, W, st, T, rfl, htr, fin⟩ := hh
    refine ⟨I', fp, wr, _, P, St, tr, rfl, W, st, T, fun h' tk hk => ?_⟩
    obtain ⟨s3, rfl, I3⟩ := fin h' tk hk
    have e : (List.range bs.length).all tr = bs.all id := by rw [← range_all_get]; congr 1; funext i; exact htr i
    rw [e]
    exact ⟨.bl (bs.all id), H, I3, rfl, q⟩
  · intro F H xs vs k d Q s rx e w
    unfold allD at e
    split at e
    · rename_i m ds
      obtain ⟨v, rfl, r⟩ := rx.one
      obtain ⟨a, xs, rfl, hq, rl⟩ := r.seqL s
      cases eb : blsD ds with
      | none => rw [eb] at e; cases e
      | some bs =>
        rw [eb] at e; cases e
        have := blsD_rep rl eb
        subst this
        exact ⟨a, bs, rfl, hq, w _ F H (.refl s) (rp_bl _) (by intro z; cases z)⟩
    · cases e
end
end D3

namespace D3
open PySem PySem.Spec PyProof.Rows L2

inductive SRes where
  | nx (ρ : Rho) | rt (m : Md) (d : D) | bk (ρ : Rho) | ct (ρ : Rho) | exc (c : Str) (ρ : Rho) | stuck
def WantS (C : Cw) (Fa : Hp) (r : SRes) (E : Ends) : Prop := match r with
  | .nx ρ => ∀ σ F H, Same Fa F → RelSt C.K C.F0 C.H0 F H σ ρ → E.nx σ H
  | .bk ρ => ∀ σ F H, Same Fa F → RelSt C.K C.F0 C.H0 F H σ ρ → E.bk σ H
  | .ct ρ => ∀ σ F H, Same Fa F → RelSt C.K C.F0 C.H0 F H σ ρ → E.ct σ H
  | .exc c ρ => ∀ σ F H, Same Fa F → RelSt C.K C.F0 C.H0 F H σ ρ → C.EE c σ H
  | .rt m d => ∀ v F H, Step C.F0 C.H0 F H → Rp C.K F H m d v → (m = .fr → ∀ a, v = .ref a → C.H0 a = none) → E.rt v H
  | .stuck => False
theorem WantS.mono {C : Cw} {F F1 : Hp} {r : SRes} {E : Ends} (s : Same F F1) (w : WantS C F r E) : WantS C F1 r E := by
  cases r with
  | nx ρ => exact fun σ F' H' z R => w σ F' H' (s.trans z) R
  | bk ρ => exact fun σ F' H' z R => w σ F' H' (s.trans z) R
  | ct ρ => exact fun σ F' H' z R => w σ F' H' (s.trans z) R
  | exc c ρ => exact fun σ F' H' z R => w σ F' H' (s.trans z) R
  | rt m d => exact w
  | stuck => exact w
def tH (C : Cw) (g : Rho → SRes) : TS := fun E σ H => ∃ ρ F, RelSt C.K C.F0 C.H0 F H σ ρ ∧ WantS C F (g ρ) E
def PSv (C : Cw) (X : Cx) (st : Stmt) (g : Rho → SRes) : Prop := PS X st (tH (C.at X) g)
def PBv (C : Cw) (X : Cx) (st : List Stmt) (g : Rho → SRes) : Prop := PSs X st (tH (C.at X) g)
theorem PS.imp {X : Cx} {e : Stmt} {t t' : TS} (h : PS X e t) (i : ∀ E σ H, t' E σ H → t E σ H) : PS X e t' := fun pins s σ H E I q => h pins s σ H E I (i E σ H q)
theorem PSs.imp {X : Cx} {e : List Stmt} {t t' : TS} (h : PSs X e t) (i : ∀ E σ H, t' E σ H → t E σ H) : PSs X e t' := fun pins s σ H E I q => h pins s σ H E I (i E σ H q)
def SRes.thn (r : SRes) (k : Rho → SRes) : SRes := match r with
  | .nx ρ => k ρ
  | r => r
@[simp] theorem SRes.thn_nx (ρ : Rho) (k : Rho → SRes) : (SRes.nx ρ).thn k = k ρ := rfl
@[simp] theorem SRes.thn_rt (m : Md) (d : D) (k : Rho → SRes) : (SRes.rt m d).thn k = .rt m d := rfl
@[simp] theorem SRes.thn_bk (ρ : Rho) (k : Rho → SRes) : (SRes.bk ρ).thn k = .bk ρ := rfl
@[simp] theorem SRes.thn_ct (ρ : Rho) (k : Rho → SRes) : (SRes.ct ρ).thn k = .ct ρ := rfl
@[simp] theorem SRes.thn_exc (c : Str) (ρ : Rho) (k : Rho → SRes) : (SRes.exc c ρ).thn k = .exc c ρ := rfl
@[simp] theorem SRes.thn_stuck (k : Rho → SRes) : SRes.stuck.thn k = .stuck := rfl
section
variable {C : Cw} {X : Cx} {a b c e : Expr} {es : List Expr} {ga gb gc g : Rho → Res} {gs : Rho → ResL} {pos p : Pos} {x : Str} {st : Stmt} {sts : List Stmt} {h1 h2 : Rho → SRes}
/-! ### blocks -/
theorem pbv_nil : PBv C X [] (fun ρ => .nx ρ) := PSs.imp pss_nil fun E σ H q => by
  obtain ⟨ρ, F, R, w⟩ := q
  exact w σ F H (Same.refl _) R
theorem tH_seq {E : Ends} {σ : L2.St} {H : Hp} (q : tH C (fun ρ => (h1 ρ).thn h2) E σ H) : tSeq (tH C h1) (tH C h2) E σ H := by
  obtain ⟨ρ, F, R, w⟩ := q
  refine ⟨ρ, F, R, ?_⟩
  dsimp only at w
  cases er : h1 ρ with
  | nx ρ' =>
    rw [er] at w
    exact fun σ' F' H' z R' => ⟨ρ', F', R', WantS.mono z w⟩
  | rt m d => rw [er] at w; exact w
  | bk ρ' => rw [er] at w; exact w
  | ct ρ' => rw [er] at w; exact w
  | exc c ρ' => rw [er] at w; exact w
  | stuck => rw [er] at w; exact w
theorem pbv_cons (ha : PSv C X st h1) (hb : PBv C X sts h2) : PBv C X (st :: sts) (fun ρ => (h1 ρ).thn h2) := PSs.imp (pss_cons ha hb) fun E σ H q => tH_seq q
/-! ### plain statements -/
/-- by a value -/
def Res.thS (r : Res) (ρ : Rho) (k : Md → D → SRes) : SRes := match r with
  | .ok m d => k m d
  | .exc c => .exc c ρ
  | .stuck => .stuck
@[simp] theorem Res.thS_ok (m : Md) (d : D) (ρ : Rho) (k : Md → D → SRes) : (Res.ok m d).thS ρ k = k m d := rfl
@[simp] theorem Res.thS_exc (c : Str) (ρ : Rho) (k : Md → D → SRes) : (Res.exc c).thS ρ k = .exc c ρ := rfl
@[simp] theorem Res.thS_stuck (ρ : Rho) (k : Md → D → SRes) : Res.stuck.thS ρ k = .stuck := rfl
theorem tG_thS {F : Hp} {σ : L2.St} {H : Hp} {ρ : Rho} {k : Md → D → SRes} {E : Ends} {Q : VK} (R : RelSt C.K C.F0 C.H0 F H σ ρ) (w : WantS C F ((g ρ).thS ρ k) E)
    (h : ∀ m d v F' H', WantS C F' (k m d) E → Step F H F' H' → RelSt C.K C.F0 C.H0 F' H' σ ρ → Rp C.K F' H' m d v → (m = .fr → ∀ a, v = .ref a → H a = none) → Q v H') : tG C g σ H Q := by
  rw [tG_eq]
  refine ⟨ρ, F, R, ?_⟩
  cases er : g ρ with
  | stuck => rw [er] at w; exact w
  | exc c => rw [er] at w; exact fun F' H' s => w σ F' H' s.fsame (R.step s)
  | ok m d => rw [er] at w; exact fun v F' H' s rp fr => h m d v F' H' (WantS.mono s.fsame w) s (R.step s) rp fr
def retR (r : Res) (ρ : Rho) : SRes := r.thS ρ fun m d => match m with | .bo => .stuck | m => .rt m d
theorem psv_ret (he : PV C X e g) : PSv C X (.Return (some e) pos) (fun ρ => retR (g ρ) ρ) := PS.imp (ps_ret he) fun E σ H q => by
  obtain ⟨ρ, F, R, w⟩ := q
  refine tG_thS R w fun m d v F' H' w' s R' rp fr => ?_
  cases m with
  | bo => exact (show False from w').elim
  | fz => exact w' v F' H' R'.st rp (by intro z; cases z)
  | fr => exact w' v F' H' R'.st rp fun _ a ea => R.st.same.free (fr rfl a ea)
/-- a name that owns its list is told on -/
def retS (ρ : Rho) (i : Nat) : SRes := match ρ[i]? with
  | some (some (false, d)) => .rt .fz d
  | some (some (true, d)) => .rt .fr d
  | _ => .stuck
theorem psv_retV (i : Nat) (h : PE X (.Name x p) (tVar i)) : PSv C X (.Return (some (.Name x p)) pos) (fun ρ => retS ρ i) := PS.imp (ps_ret h) fun E σ H q => by
  obtain ⟨ρ, F, R, w⟩ := q
  dsimp only at w
  unfold retS at w
  cases e : ρ[i]? with
  | none => rw [e] at w; exact w.elim
  | some o =>
    cases o with
    | none => rw [e] at w; exact w.elim
    | some q =>
      obtain ⟨m, d⟩ := q
      obtain ⟨v, e1, r, hh⟩ := R.slot i m d e
      rw [e] at w
      cases m with
      | false => exact ⟨v, e1, w v F H R.st r (by intro z; cases z)⟩
      | true => exact ⟨v, e1, w v F H R.st r fun _ => hh rfl⟩
def ifS (t : Res) (ρ : Rho) (x y : SRes) : SRes := t.thS ρ fun _ d => match d with | .bl true => x | .bl false => y | _ => .stuck
theorem psv_if {s1 s2 : List Stmt} (hc : PTv C X c gc) (ha : PBv C X s1 h1) (hb : PBv C X s2 h2) : PSv C X (.If c s1 s2 pos) (fun ρ => ifS (gc ρ) ρ (h1 ρ) (h2 ρ)) := by
  refine PS.imp (ps_if hc ha hb) fun E σ H q => ?_
  obtain ⟨ρ, F, R, w⟩ := q
  dsimp only at w
  refine ⟨ρ, F, R, ?_⟩
  cases er : gc ρ with
  | stuck => rw [er] at w; exact w
  | exc c => rw [er] at w; exact fun F' H' s => w σ F' H' s.fsame (R.step s)
  | ok m d =>
    rw [er] at w
    cases d with
    | bl k =>
      intro F' H' s
      cases k with
      | true => rw [if_pos rfl]; exact ⟨ρ, F', R.step s, WantS.mono s.fsame w⟩
      | false => rw [if_neg Bool.false_ne_true]; exact ⟨ρ, F', R.step s, WantS.mono s.fsame w⟩
    | _ => exact w.elim
/-! ### names given -/
def setS (ρ : Rho) (i : Nat) (r : Res) : SRes := r.thS ρ fun m d => match m with
  | .fz => .nx (ρ.set i (some (false, d)))
  | .fr => .nx (ρ.set i (some (true, d)))
  | .bo => .stuck
theorem RelSt.set {K : PySem.W.Frag} {F0 H0 F H F' H' : Hp} {σ : L2.St} {ρ : Rho} {i : Nat} {m : Bool} {d : D} {v : V} (R0 : RelSt K F0 H0 F H σ ρ) (s : Step F H F' H') (rp : Rp K F' H' (if m then .bo else .fz) d v)
    (fr : m = true → ∀ a, v = .ref a → H a = none) : RelSt K F0 H0 F' H' (σ.set i (some v)) (ρ.set i (some (m, d))) := by
  have R := R0.step s
  refine ⟨R.st, fun j m' d' e => ?_, fun j k d1 d2 a hjk e1 e2 q1 q2 => ?_, by rw [List.length_set, List.length_set]; exact R.len⟩
  · by_cases hj : j = i
    · subst hj
      rw [List.getElem?_set] at e
      by_cases hl : j < ρ.length
      · rw [if_pos rfl, if_pos hl] at e
        cases e
        refine ⟨v, by rw [List.getElem?_set, if_pos rfl, if_pos (by rw [R.len]; exact hl)], rp, fun z a ea => R0.st.same.free (fr z a ea)⟩
      · rw [if_pos rfl, if_neg hl] at e; cases e
    · rw [List.getElem?_set_ne (fun z => hj z.symm)] at e ⊢
      exact R.slot j m' d' e
  · have old : ∀ (l : Nat) (d : D) (b : Addr), l ≠ i → ρ[l]? = some (some (true, d)) → σ[l]? = some (some (.ref b)) → H b ≠ none := fun l d b hl e q => by
      obtain ⟨u, q', r, _⟩ := R0.slot l true d e
      rw [q] at q'; cases q'
      obtain ⟨b', eb, _, t⟩ := r
      cases eb
      exact t.there
    by_cases hj : j = i
    · subst hj
      rw [List.getElem?_set_ne hjk] at e2 q2
      rw [List.getElem?_set] at e1 q1
      by_cases hl : j < ρ.length
      · rw [if_pos rfl, if_pos hl] at e1
        rw [if_pos rfl, if_pos (by rw [R.len]; exact hl)] at q1
        cases e1; cases q1
        exact old k d2 a (fun z => hjk z.symm) e2 q2 (fr rfl a rfl)
      · rw [if_pos rfl, if_neg hl] at e1; cases e1
    · by_cases hk : k = i
      · subst hk
        rw [List.getElem?_set_ne (fun z => hjk z.symm)] at e1 q1
        rw [List.getElem?_set] at e2 q2
        by_cases hl : k < ρ.length
        · rw [if_pos rfl, if_pos hl] at e2
          rw [if_pos rfl, if_pos (by rw [R.len]; exact hl)] at q2
          cases e2; cases q2
          exact old j d1 a hjk e1 q1 (fr rfl a rfl)
        · rw [if_pos rfl, if_neg hl] at e2; cases e2
      · rw [List.getElem?_set_ne (fun z => hj z.symm)] at e1 q1
        rw [List.getElem?_set_ne (fun z => hk z.symm)] at e2 q2
        exact R.apart j k d1 d2 a hjk e1 e2 q1 q2
theorem set_tG {g : Rho → Res} {i : Nat} {E : Ends} {σ : L2.St} {H : Hp} (q : tH (C.at X) (fun ρ => setS ρ i (g ρ)) E σ H) : tAsg (tG (C.at X) g) (gName i) E σ H := by
  obtain ⟨ρ, F, R, w⟩ := q
  dsimp only at w
  refine tG_thS R w fun m d v F' H' w' s R' rp fr => ?_
  cases m with
  | bo => exact (show False from w').elim
  | fz => exact w' _ F' H' (Same.refl _) (R.set (m := false) s rp (by intro z; cases z))
  | fr => exact w' _ F' H' (Same.refl _) (R.set (m := true) s rp fun _ a ea => fr rfl a ea)
theorem psv_set {i : Nat} {pos' : Pos} (hN : X.N.Nodup) (hi : X.N[i]? = some x) (hx : Loc X.env.scope x) (he : PV C X e g) (hs : swapsWith e (some (.Name x pos')) pos.line X.env = pure false := by rfl)
    (hf : X.fn x = true ∨ X.env.scope.names.lookup x = some .local := by first | exact .inl rfl | exact .inr rfl | assumption) : PSv C X (.Assign [.Name x pos'] e pos) (fun ρ => setS ρ i (g ρ)) := PS.imp (ps_set hN hi hx he hs hf) fun E σ H q => set_tG q
end
end D3

namespace D3
open PySem PySem.Spec PyProof.Rows L2

/-! ### the signs of a text -/
def Its (x : Str) : It := ⟨fun i _ => i < x.cps.size, fun i H v H' => H' = H ∧ ∃ c, x.cps[i]? = some c ∧ v = .str ⟨#[c]⟩, fun i _ => x.cps.size ≤ i⟩
theorem turn_strT {P : Program} {w : World} {K : PySem.W.Frag} {tg : Expr} (it : Addr) (x : Str) (t : Tok) (ty : String) (hty : ["enumerate", "zip", "dict_itemiterator", "dict_reverseitemiterator", "odict_iterator", "itertools.zip_longest", "itertools.pairwise"].contains ty = false)
    (W : ∀ A' : Around, A'.handled = none → Walks P w A' it [it] [it] x.cps.size (SignAt x) (fun i h => h.IsStrIter it ty x t i)) (Sf : ∀ (A : Around) (i : Nat) (s : Shared) (Q : Value → Shared → Prop) (E : Value → Shared → Prop), s.heap.IsStrIter it ty x t i → Q (.ref it) s → wpAny (model P w) A (pyIter (.ref it)) Q E s) :
    Turn P w K tg (Its x) [it] it (fun i h => i ≤ x.cps.size ∧ h.IsStrIter it ty x t i) where
  mem := by simp
  obj := fun i h st b hb => by
    have e : b = it := by simpa using hb
    subst e
    obtain ⟨_, o, e, c, d⟩ := st
    exact ⟨o, e, fun v z => by rw [d] at z; cases z⟩
  keep := fun i h h' st k => ⟨st.1, let ⟨o, e, r⟩ := st.2; ⟨o, k it (by simp) o e, r⟩⟩
  item := by
    intro X hP hw hK hc i pins s σ H E I hf st hg
    subst hP hw hK
    obtain ⟨f0, f1, f2, f3, f4, f5⟩ := hf it (by simp)
    refine (W X.A (I.ok.hd hc)).item i s _ _ hg st.2 fun v h' tk hv st' kk => ?_
    obtain ⟨c, u, hc', rfl⟩ := hv
    have I1 : Inv X pins σ H { s with heap := h', toks := tk } := I.turned (fun b o hb e => kk b o (by simpa using hb) e) f0 f1 f3 f4 f5
    obtain ⟨o, e, oc, d⟩ := id st'
    exact ⟨_, rfl, go_of (s := { s with heap := h', toks := tk }) e oc d hty ⟨.str ⟨#[c]⟩, H, I1, ⟨u, rfl⟩, ⟨rfl, c, hc', rfl⟩, ⟨hg, st'⟩, fun b hb => (hf b hb).1⟩⟩
  done := by
    intro X hP hw hK hc i pins s σ H E I hf st hg
    subst hP hw hK
    obtain ⟨f0, f1, f2, f3, f4, f5⟩ := hf it (by simp)
    have e : i = x.cps.size := Nat.le_antisymm st.1 hg
    subst e
    exact (W X.A (I.ok.hd hc)).done s _ _ st.2 fun h' tk kk => ⟨rfl, I.turned (fun b o hb e => kk b o (by simpa using hb) e) f0 f1 f3 f4 f5⟩
  self := fun A i s Q E st h => Sf A i s Q E st.2 h
/-! ### what a loop walks -/
def iStr (te : TE) : TI := fun σ H R => te σ H fun x H1 => ∃ z, x = .str z ∧ R (Its z) H1
theorem pi_str {X : Cx} {tg l : Expr} {tl : TE} (hl : PE X l tl) : PI X tg l (iStr tl) := by
  intro pins s σ H R I h
  refine thn (hl pins s σ H _ I h) fun v s1 ⟨x, H1, I1, r1, q1⟩ => ?_
  obtain ⟨z, e, q⟩ := q1
  subst e
  obtain ⟨t, rfl⟩ := r1
  have fin : ∀ (ty : String) (o : Obj), o = { cls := .type ty, data := .fields #[.str z t, .int ((0 : Nat) : Int) 0] } → (∀ b : Addr, b ∈ [s1.heap.objs.size] → FpOk X pins H1 b) ∧ Inv X pins σ H1 { s1 with heap := s1.heap.push o } ∧ (s1.heap.push o).IsStrIter s1.heap.objs.size ty z t 0 := fun ty o eo => by
    refine ⟨fun b hb => ?_, I1.kept (t' := s1.toks) fun b o e => Heap.get?_push_of_some _ e, ⟨o, Heap.get?_push_size _ (by rw [eo]; rfl), by rw [eo], by rw [eo]⟩⟩
    have e : b = s1.heap.objs.size := by simpa using hb
    subst e
    exact I1.fpOk (Nat.le_refl _) (I1.hok.fresh (Nat.le_refl _))
  cases ha : z.cps.all (· < 128)
  · refine wpAny_pyIter_wide ha ?_
    obtain ⟨f1, f2, f3⟩ := fin "str_iterator" _ rfl
    exact ⟨s1.heap.objs.size, [s1.heap.objs.size], _, Its z, H1, rfl, f2, turn_strT _ z t "str_iterator" (by decide) (fun A' hA => Walks.strWide hA _ z t) (fun A i s Q E st h => wpAny_pyIter_striter_wide st h), ⟨Nat.zero_le _, f3⟩, f1, q⟩
  · refine wpAny_pyIter_ascii ha ?_
    obtain ⟨f1, f2, f3⟩ := fin "str_ascii_iterator" _ rfl
    exact ⟨s1.heap.objs.size, [s1.heap.objs.size], _, Its z, H1, rfl, f2, turn_strT _ z t "str_ascii_iterator" (by decide) (fun A' hA => Walks.strAscii hA _ z t) (fun A i s Q E st h => wpAny_pyIter_striter_ascii st h), ⟨Nat.zero_le _, f3⟩, f1, q⟩
theorem PI.imp {X : Cx} {tg e : Expr} {t t' : TI} (h : PI X tg e t) (i : ∀ σ H R, t' σ H R → t σ H R) : PI X tg e t' := fun pins s σ H R I q => h pins s σ H R I (i σ H R q)
theorem PI.or {X : Cx} {tg e : Expr} {t t' : TI} (h : PI X tg e t) (h' : PI X tg e t') : PI X tg e (fun σ H R => t σ H R ∨ t' σ H R) := fun pins s σ H R I q => by
  rcases q with q | q
  · exact h pins s σ H R I q
  · exact h' pins s σ H R I q
/-- the iterator tells these data -/
structure IterOf (K : PySem.W.Frag) (F : Hp) (J : It) (ds : List D) : Prop where
  go : ∀ i H, Same F H → i < ds.length → J.go i H
  stop : ∀ i H, Same F H → ds.length ≤ i → J.stop i H
  yld : ∀ i Fc H x H', Same F Fc → Same Fc H → i < ds.length → J.yld i H x H' → ∃ F' d, ds[i]? = some d ∧ Step Fc H F' H' ∧ RepV K F' d x
def WantI (C : Cw) (F H : Hp) (σ : L2.St) (r : Res) (R : It → Hp → Prop) : Prop := match r with
  | .ok _ (.lst ds) => ∀ J F' H', Step F H F' H' → IterOf C.K F' J ds → R J H'
  | .exc c => ∀ F' H', Step F H F' H' → C.EE c σ H'
  | _ => False
def tIv (C : Cw) (g : Rho → Res) : TI := fun σ H R => ∃ ρ F, RelSt C.K C.F0 C.H0 F H σ ρ ∧ WantI C F H σ (g ρ) R
def PIv (C : Cw) (X : Cx) (tg e : Expr) (g : Rho → Res) : Prop := PI X tg e (tIv (C.at X) g)
def charsD (z : Str) : List D := z.cps.toList.map fun c => .str ⟨#[c]⟩
def itemsR (r : Res) : Res := r.thn fun _ d => match d with
  | .lst ds => .ok .fz (.lst ds)
  | .tup ds => .ok .fz (.lst ds)
  | .str z => .ok .fz (.lst (charsD z))
  | _ => .stuck
section
variable {C : Cw} {X : Cx} {tg e : Expr} {g : Rho → Res} {gs : Rho → ResL} {pos p : Pos}
theorem iterOf_tup {K : PySem.W.Frag} {F : Hp} {a : Addr} {ds : List D} {xs : List V} (hq : SqT K F a xs) (r : RepL K F ds xs) : IterOf K F (Itt K a) ds where
  go := fun i H s hi => by
    have hl : i < xs.length := by rw [r.length]; exact hi
    exact ⟨xs, xs[i], Same.seqT s hq, by simp [hl]⟩
  stop := fun i H s hi => ⟨xs, Same.seqT s hq, by rw [r.length]; exact hi⟩
  yld := fun i Fc H x H' s1 s2 hi y => by
    obtain ⟨rfl, y⟩ := y
    have hx := y xs (Same.seqT s2 (Same.seqT s1 hq))
    obtain ⟨d, e, rd⟩ := r.get hx
    exact ⟨Fc, d, e, .refl s2, rd.mono s1 _ _⟩
theorem iterOf_str {K : PySem.W.Frag} {F : Hp} {z : Str} (hk : PyData.strOk z = true) : IterOf K F (Its z) (charsD z) where
  go := fun i H s hi => by simpa [charsD, Its] using hi
  stop := fun i H s hi => by simpa [charsD, Its] using hi
  yld := fun i Fc H x H' s1 s2 hi y => by
    obtain ⟨rfl, c, hc, rfl⟩ := y
    refine ⟨Fc, .str ⟨#[c]⟩, by simp [charsD, hc], .refl s2, ?_⟩
    simp only [RepV, true_and]
    refine ⟨by show 1 ≤ sizeLine; decide, ?_⟩
    unfold PyData.strOk at hk ⊢
    rw [Array.all_eq_true_iff_forall_mem] at hk
    simpa using hk c (Array.mem_of_getElem? hc)
/-- a list, a tuple, a text -/
theorem piv_seq (h : PV C X e g) : PIv C X tg e (fun ρ => itemsR (frzR (g ρ))) := by
  have h := pv_frz h
  refine PI.imp (PI.or (pi_list h) (PI.or (pi_tup h) (pi_str h))) fun σ H R q => ?_
  obtain ⟨ρ, F, RS, w⟩ := q
  dsimp only at w
  cases er : frzR (g ρ) with
  | stuck => rw [er] at w; exact w.elim
  | exc c =>
    refine .inl ?_
    unfold iList
    rw [tG_eq]
    refine ⟨ρ, F, RS, ?_⟩
    rw [er] at w ⊢
    exact w
  | ok m d =>
    rw [er] at w
    have hm : m = .fz := by
      cases h : g ρ with
      | ok m' d' => rw [h] at er; cases m' <;> cases er <;> rfl
      | exc c => rw [h] at er; cases er
      | stuck => rw [h] at er; cases er
    subst hm
    cases d with
    | lst ds =>
      refine .inl ?_
      unfold iList
      rw [tG_eq]
      refine ⟨ρ, F, RS, ?_⟩
      rw [er]
      intro v F' H' st rp _
      have rp : RepV X.K F' (.lst ds) v := rp
      simp only [RepV] at rp
      obtain ⟨a, xs, rfl, hq, r⟩ := rp
      exact ⟨a, rfl, ⟨xs, st.sub.seq hq⟩, w _ F' H' st ⟨fun i H s hi => by
          have hl : i < xs.length := by rw [r.length]; exact hi
          exact ⟨xs, xs[i], s.seq hq, by simp [hl]⟩, fun i H s hi => ⟨xs, s.seq hq, by rw [r.length]; exact hi⟩, fun i Fc H x H' s1 s2 hi y => by
          obtain ⟨rfl, y⟩ := y
          have hx := y xs (s2.seq (s1.seq hq))
          obtain ⟨d, e, rd⟩ := r.get hx
          exact ⟨Fc, d, e, .refl s2, rd.mono s1 _ _⟩⟩⟩
    | tup ds =>
      refine .inr (.inl ?_)
      unfold iTup
      rw [tG_eq]
      refine ⟨ρ, F, RS, ?_⟩
      rw [er]
      intro v F' H' st rp _
      have rp : RepV X.K F' (.tup ds) v := rp
      simp only [RepV] at rp
      obtain ⟨a, xs, rfl, hq, r⟩ := rp
      exact ⟨a, rfl, ⟨xs, Same.seqT st.sub hq⟩, w _ F' H' st (iterOf_tup hq r)⟩
    | str z =>
      refine .inr (.inr ?_)
      unfold iStr
      rw [tG_eq]
      refine ⟨ρ, F, RS, ?_⟩
      rw [er]
      intro v F' H' st rp _
      obtain ⟨rfl, hz, hk⟩ := Rp.str rp
      exact ⟨z, rfl, w _ F' H' st (iterOf_str hk)⟩
    | _ => exact w.elim
/-- range(n) -/
def rangeD (lo hi : Int) : List D := (List.range (hi - lo).toNat).map fun i => .int (lo + (i : Nat))
def rng1R (r : ResL) : Res := r.thn fun xs => match xs with
  | [(_, .int n)] => if (decide (-(2 ^ 62) ≤ n) && decide (n < 2 ^ 62)) = true then .ok .fz (.lst (rangeD 0 n)) else .stuck
  | _ => .stuck
theorem iterOf_range {K : PySem.W.Frag} {F : Hp} {lo hi : Int} : IterOf K F (Itr lo (hi - lo).toNat) (rangeD lo hi) where
  go := fun i H s h => by simpa [rangeD, Itr] using h
  stop := fun i H s h => by simpa [rangeD, Itr] using h
  yld := fun i Fc H x H' s1 s2 h y => by
    obtain ⟨rfl, rfl⟩ := y
    have h' : i < (hi - lo).toNat := by simpa [rangeD] using h
    refine ⟨Fc, .int (lo + i), ?_, .refl s2, by simp only [RepV]⟩
    simp only [rangeD, List.getElem?_map, List.getElem?_range h', Option.map_some]
theorem piv_range1 {a : Expr} (hg : Gl X "range") (hm : X.mg "range" = none) (ha : PAv C X [a] gs) (hs : starEach [a] X.env = [(false, eval a X.env)] := by rfl) : PIv C X tg (.Call (.Name "range" p) [a] [] pos) (fun ρ => rng1R (gs ρ)) := by
  refine PI.imp (pi_range1 hg hm ha hs) fun σ H R q => ?_
  obtain ⟨ρ, F, RS, w⟩ := q
  dsimp only at w
  unfold iRng1
  refine ⟨ρ, F, RS, ?_⟩
  cases er : gs ρ with
  | stuck => rw [er] at w; exact w
  | exc c => rw [er] at w; exact w
  | ok xs =>
    rw [er] at w
    intro vs F' H' st rp
    unfold rng1R at w
    rw [ResL.thn_ok] at w
    split at w
    · rename_i m n
      split at w
      · rename_i hc
        rw [Bool.and_eq_true, decide_eq_true_eq, decide_eq_true_eq] at hc
        obtain ⟨v, rfl, r⟩ := rp.one
        cases r.int
        have := iterOf_range (K := X.K) (F := F') (lo := 0) (hi := n)
        rw [Int.sub_zero] at this
        exact ⟨n, rfl, hc.1, hc.2, w _ F' H' st this⟩
      · exact w.elim
    · exact w.elim
/-! ### for -/
/-- what a target does with an item: the names behind it -/
def PGv (C : Cw) (X : Cx) (tg : Expr) (k : D → Rho → Option Rho) : Prop := ∃ t : TG, PG X tg t ∧ ∀ F H σ ρ ρ' d v Q, RelSt X.K C.F0 C.H0 F H σ ρ → RepV X.K F d v → k d ρ = some ρ' →
  (∀ σ' F' H', Same F F' → RelSt X.K C.F0 C.H0 F' H' σ' ρ' → Q σ' H') → t v σ H Q
def forS (k : D → Rho → Option Rho) (body : Rho → SRes) : List D → Rho → SRes
  | [], ρ => .nx ρ
  | d :: ds, ρ => match k d ρ with
    | none => .stuck
    | some ρ1 => match body ρ1 with
      | .nx ρ2 => forS k body ds ρ2
      | .ct ρ2 => forS k body ds ρ2
      | .bk ρ2 => .nx ρ2
      | r => r
def forR (r : Res) (ρ : Rho) (k : D → Rho → Option Rho) (body : Rho → SRes) : SRes := r.thS ρ fun _ d => match d with | .lst ds => forS k body ds ρ | _ => .stuck
theorem psv_for {body : List Stmt} {k : D → Rho → Option Rho} {h1 : Rho → SRes} (hp : PassesOwn (model X.prog X.w) X.A X.env X.xe) (hc : X.calm = true) (hi : PIv C X tg e g) (hg : PGv C X tg k) (hb : PBv C X body h1)
    (hs : ∀ x, foldedSetIterable e X.env x = pure x := by intro _; rfl) : PSv C X (.For tg e body [] pos) (fun ρ => forR (g ρ) ρ k h1) := by
  obtain ⟨t, ht, hk⟩ := hg
  refine PS.imp (ps_for hp hc hi ht hb hs) fun E σ H q => ?_
  obtain ⟨ρ, F, RS, w⟩ := q
  dsimp only at w
  unfold tFor
  refine ⟨ρ, F, RS, ?_⟩
  cases er : g ρ with
  | stuck => rw [er] at w; exact w
  | exc c => rw [er] at w; exact fun F' H' s => w σ F' H' s.fsame (RS.step s)
  | ok m d =>
    rw [er] at w
    cases d with
    | lst ds =>
      intro J F1 H1 s1 hJ
      have w : WantS (C.at X) F1 (forS k h1 ds ρ) E := WantS.mono s1.fsame w
      refine ⟨fun i m σ' H' => m = ds.length - i ∧ i ≤ ds.length ∧ ∃ ρ' F', Same F1 F' ∧ RelSt X.K C.F0 C.H0 F' H' σ' ρ' ∧ WantS (C.at X) F' (forS k h1 (ds.drop i) ρ') E, ⟨ds.length, by simp, Nat.zero_le _, ρ, F1, Same.refl _, RS.step s1, by simpa using w⟩, ?_⟩
      rintro i m σ' H' ⟨rfl, hi, ρ', F', sF, R', w'⟩
      by_cases hlt : i < ds.length
      · refine .inr ⟨hJ.go i H' (sF.trans R'.sub) hlt, fun σ2 H2 => ∃ ρ2 F2, Same F1 F2 ∧ RelSt X.K C.F0 C.H0 F2 H2 σ2 ρ2 ∧ WantS (C.at X) F2 (forS k h1 (ds.drop (i + 1)) ρ2) E, fun σ2 H2 ⟨ρ2, F2, a, b, c⟩ => ⟨ds.length - (i + 1), by omega, rfl, hlt, ρ2, F2, a, b, c⟩, fun x H2 y => ?_⟩
        obtain ⟨F2, d, ed, s2, rd⟩ := hJ.yld i F' H' x H2 sF R'.sub hlt y
        have hd : ds.drop i = d :: ds.drop (i + 1) := by
          rw [List.drop_eq_getElem_cons hlt]
          rw [List.getElem?_eq_getElem hlt] at ed
          cases ed; rfl
        rw [hd] at w'
        unfold forS at w'
        cases ek : k d ρ' with
        | none => rw [ek] at w'; exact w'.elim
        | some ρ1 =>
          rw [ek] at w'
          dsimp only at w'
          refine hk F2 H2 σ' ρ' ρ1 d x _ (R'.step s2) rd ek fun σ3 F3 H3 z3 R3 => ?_
          have z13 : Same F1 F3 := (sF.trans s2.fsame).trans z3
          have w3 := WantS.mono (s2.fsame.trans z3) w'
          refine ⟨ρ1, F3, R3, ?_⟩
          cases eb : h1 ρ1 with
          | nx ρ2 => rw [eb] at w3; exact fun σ4 F4 H4 z4 R4 => ⟨ρ2, F4, z13.trans z4, R4, WantS.mono z4 w3⟩
          | ct ρ2 => rw [eb] at w3; exact fun σ4 F4 H4 z4 R4 => ⟨ρ2, F4, z13.trans z4, R4, WantS.mono z4 w3⟩
          | bk ρ2 => rw [eb] at w3; exact fun σ4 F4 H4 z4 R4 => w3 σ4 F4 H4 z4 R4
          | rt m d => rw [eb] at w3; exact w3
          | exc c ρ2 => rw [eb] at w3; exact w3
          | stuck => rw [eb] at w3; exact w3
      · have ei : i = ds.length := by omega
        subst ei
        refine .inl ⟨hJ.stop _ H' (sF.trans R'.sub) (Nat.le_refl _), ?_⟩
        rw [List.drop_length] at w'
        exact w' σ' F' H' (Same.refl _) R'
    | _ => exact w.elim
end
end D3

namespace L2
open PySem PySem.Spec PyProof.Rows
/-! ### the cells that a comprehension reads -/
theorem closureFor_ok {env : Env} : ∀ (names : List (Str × NameKind)) (acc : List (Str × Addr)), (∀ y ∈ names, y.2 = .free → ∃ c, env.cells.lookup y.1 = some c) → (∀ y c, acc.lookup y = some c → env.cells.lookup y = some c) →
    ∃ cl, (forIn names acc fun (x : Str × NameKind) (cs : List (Str × Addr)) => (if x.2 == .free then (do let c ← cellOf env x.1; pure (ForInStep.yield ((x.1, c) :: cs))) else pure (ForInStep.yield cs) : Sem (ForInStep (List (Str × Addr))))) = pure cl ∧
      (∀ y c, cl.lookup y = some c → env.cells.lookup y = some c) ∧ (∀ y c, acc.lookup y = some c → cl.lookup y = some c) ∧ ∀ y, (y, NameKind.free) ∈ names → ∃ c, cl.lookup y = some c
  | [], acc, _, ha => ⟨acc, by rw [List.forIn_nil], ha, fun _ _ h => h, fun _ h => by cases h⟩
  | (n, k) :: r, acc, h, ha => by
    rw [List.forIn_cons]
    by_cases hk : k = .free
    · subst hk
      obtain ⟨c, ec⟩ := h (n, .free) List.mem_cons_self rfl
      have hc : cellOf env n = pure c := by unfold cellOf; rw [ec]
      have e : ((if (NameKind.free == NameKind.free) = true then (do let c ← cellOf env n; pure (ForInStep.yield ((n, c) :: acc))) else pure (ForInStep.yield acc)) : Sem (ForInStep (List (Str × Addr)))) = pure (ForInStep.yield ((n, c) :: acc)) := by
        rw [if_pos (by decide), hc, pure_bind]
      obtain ⟨cl, e1, e2, e3, e4⟩ := closureFor_ok (env := env) r ((n, c) :: acc) (fun y hy => h y (List.mem_cons_of_mem _ hy)) (fun y c' q => by
        rw [List.lookup_cons] at q
        cases hyn : y == n with
        | true => rw [hyn] at q; cases q; rw [beq_iff_eq.mp hyn]; exact ec
        | false => rw [hyn] at q; exact ha y c' q)
      refine ⟨cl, ?_, e2, fun y c' q => ?_, fun y hy => ?_⟩
      · dsimp only
        rw [e, pure_bind]
        exact e1
      · cases hyn : y == n with
        | true =>
          have := beq_iff_eq.mp hyn
          subst this
          have q' := ha y c' q
          rw [ec] at q'; cases q'
          exact e3 y c (by rw [List.lookup_cons, hyn])
        | false => exact e3 y c' (by rw [List.lookup_cons, hyn]; exact q)
      · rcases List.mem_cons.mp hy with z | z
        · cases z
          exact ⟨c, e3 n c (by rw [List.lookup_cons, beq_self_eq_true])⟩
        · exact e4 y z
    · have e : ((if (k == NameKind.free) = true then (do let c ← cellOf env n; pure (ForInStep.yield ((n, c) :: acc))) else pure (ForInStep.yield acc)) : Sem (ForInStep (List (Str × Addr)))) = pure (ForInStep.yield acc) := by
        rw [if_neg (by simpa using hk)]
      obtain ⟨cl, e1, e2, e3, e4⟩ := closureFor_ok (env := env) r acc (fun y hy => h y (List.mem_cons_of_mem _ hy)) ha
      refine ⟨cl, ?_, e2, e3, fun y hy => ?_⟩
      · dsimp only
        rw [e, pure_bind]
        exact e1
      · rcases List.mem_cons.mp hy with z | z
        · cases z; exact absurd rfl hk
        · exact e4 y z
theorem closure_of {scope : Scope} {env : Env} (h : ∀ y ∈ scope.names, y.2 = .free → ∃ c, env.cells.lookup y.1 = some c) :
    ∃ cl, closureFor scope env = pure cl ∧ (∀ y c, cl.lookup y = some c → env.cells.lookup y = some c) ∧ ∀ y, (y, NameKind.free) ∈ scope.names → ∃ c, cl.lookup y = some c := by
  obtain ⟨cl, e1, e2, _, e4⟩ := closureFor_ok (env := env) scope.names [] h (fun y c q => by simp at q)
  refine ⟨cl, ?_, e2, e4⟩
  unfold closureFor
  rw [bind_pure]
  exact e1
/-- a name of the block: its kind there -/
theorem relabel_free {scope : Scope} {env : Env} (hcell : ∀ y ∈ scope.names, y.2 ≠ .cell) {x : Str} (h : (relabel scope env).names.lookup x = some .cell ∨ (relabel scope env).names.lookup x = some .free) : (x, NameKind.free) ∈ scope.names := by
  unfold relabel at h
  dsimp only at h
  have go : ∀ (l : List (Str × NameKind)), (∀ y ∈ l, y.2 ≠ .cell) → ((l.map fun (n, k) => if (k == NameKind.free && env.scope.kind == .function && env.kindOf n == some .cell) then (n, NameKind.cell) else (n, k)).lookup x = some .cell ∨ (l.map fun (n, k) => if (k == NameKind.free && env.scope.kind == .function && env.kindOf n == some .cell) then (n, NameKind.cell) else (n, k)).lookup x = some .free) → (x, NameKind.free) ∈ l := by
    intro l
    induction l with
    | nil => intro _ h; simp at h
    | cons y l ih =>
      intro hc h
      obtain ⟨n, k⟩ := y
      rw [List.map_cons] at h
      by_cases hx : x = n
      · subst hx
        have hk : k = .free := by
          by_cases hk : k = .free
          · exact hk
          · have e : (k == NameKind.free && env.scope.kind == .function && env.kindOf x == some .cell) = false := by
              have : (k == NameKind.free) = false := by simpa using hk
              rw [this]; rfl
            simp only [e, Bool.false_eq_true, if_false, List.lookup_cons, beq_self_eq_true] at h
            rcases h with h | h
            · cases h; exact absurd rfl (hc _ List.mem_cons_self)
            · cases h; exact absurd rfl hk
        subst hk
        exact List.mem_cons_self
      · have hb : (x == n) = false := by simpa using hx
        have hh : ∀ (kk : NameKind) (l' : List (Str × NameKind)), ((n, kk) :: l').lookup x = l'.lookup x := fun kk l' => by rw [List.lookup_cons, hb]
        by_cases hcond : (k == NameKind.free && env.scope.kind == .function && env.kindOf n == some .cell) = true
        · dsimp only at h
          rw [if_pos hcond, hh] at h
          exact List.mem_cons_of_mem _ (ih (fun y hy => hc y (List.mem_cons_of_mem _ hy)) h)
        dsimp only at h
        rw [if_neg hcond, hh] at h
        exact List.mem_cons_of_mem _ (ih (fun y hy => hc y (List.mem_cons_of_mem _ hy)) h)
  exact go scope.names hcell h
/-- the context of a comprehension's block -/
def compCx (X : Cx) (scope : Scope) (N : List Str) (cl : List (Str × Addr)) (C : Addr) (fp : List Addr) (s3 : Shared) (H3 : Hp) : Cx where
  prog := X.prog
  w := X.w
  K := X.K
  mg := X.mg
  base := X.base
  A := X.A
  N := N
  s₀ := s3
  H₀ := H3
  env := compEnvC scope cl C X.env
  outer := X.stack
  stack := X.stack
  ex := fp
  fn := fun _ => false
  calm := X.calm
  pn := []
  xe := fun _ _ => False
/-- the tests of a comprehension -/
def PIfs (X : Cx) (cs : List Expr) (t : TT) : Prop :=
  ∀ (pins : List (Addr × Obj)) (s : Shared) (σ : St) (H : Hp) (Q : Bool → Hp → Prop), Inv X pins σ H s → t σ H Q →
    wpAny (model X.prog X.w) X.A (forIn cs true fun c r => if r = true then do let ok ← isTrue c X.env (eval c X.env); pure (ForInStep.yield ok) else pure (ForInStep.yield r)) (TP X pins σ Q) X.xe s
theorem pifs_nil {X : Cx} : PIfs X [] (fun _ H Q => Q true H) := fun pins s σ H Q I h => by
  rw [List.forIn_nil]
  exact wpAny_pure ⟨H, I, h⟩
theorem forIn_no {X : Cx} : ∀ cs : List Expr, (forIn cs false fun c r => if r = true then do let ok ← isTrue c X.env (eval c X.env); pure (ForInStep.yield ok) else pure (ForInStep.yield r) : Sem Bool) = pure false
  | [] => by rw [List.forIn_nil]
  | c :: cs => by
    rw [List.forIn_cons, if_neg Bool.false_ne_true, pure_bind]
    exact forIn_no cs
theorem pifs_cons {X : Cx} {c : Expr} {cs : List Expr} {t u : TT} (hc : PT X c t) (hr : PIfs X cs u) : PIfs X (c :: cs) (tAnd t u) := fun pins s σ H Q I h => by
  rw [List.forIn_cons, if_pos rfl]
  refine wpAny_bind (wpAny_bind (thn (hc pins s σ H _ I h) fun b s1 ⟨H1, I1, q1⟩ => wpAny_pure ?_))
  cases b with
  | true => rw [if_pos rfl] at q1; exact hr pins s1 σ H1 Q I1 q1
  | false =>
    rw [if_neg Bool.false_ne_true] at q1
    dsimp only
    rw [forIn_no]
    exact wpAny_pure ⟨H1, I1, q1⟩

section
variable {prog : Program} {w : World} {A : Around} {R : Result → Shared → Prop} {s : Shared}
theorem compLoop_g {elt target iter : Expr} {ifs : List Expr} {scope : Scope} {pos : Pos} {it acc : Value} {env : Env} (I : Nat → Shared → Prop)
    (turn : ∀ n s, I n s → wpAny (model prog w) A (pyNext it) (fun r s1 => match r with
      | none => R (.ok .next) s1
      | some v => wpAny (model prog w) A (letOwnedTupleGo target it v) (fun _ s1' => wpAny (model prog w) A (assign target env v) (fun _ s2 =>
          wpAny (model prog w) A (forIn ifs true fun c r => if r = true then do let ok ← isTrue c env (eval c env); pure (ForInStep.yield ok) else pure (ForInStep.yield r)) (fun ok s3 =>
            if ok = true then wpAny (model prog w) A (eval elt env) (fun x s4 =>
              wpAny (model prog w) A (call (.builtin "list.append") [acc, x]) (fun _ s5 => ∃ m, m < n ∧ I m s5) (fun _ _ => False) s4) (fun _ _ => False) s3
            else ∃ m, m < n ∧ I m s3) (fun _ _ => False) s2) (fun _ _ => False) s1') (fun _ _ => False) s1) (fun _ _ => False) s)
    (n : Nat) (h : I n s) :
    codeAny (model prog w) A (.compLoop (.ListComp elt [⟨target, iter, ifs, 0⟩] scope pos) 0 it acc env) R s := by
  refine codeAny_loop rfl I (fun n s hI => ?_) n h
  show wpAny _ A ((compTurn (.ListComp elt [⟨target, iter, ifs, 0⟩] scope pos) 0 it acc env).onRaise (fun x => do noteFrame x env; theTreesLotGoes x)) _ _ s
  refine wpAny_noted ?_
  rw [compTurn_list]
  refine wpAny_bind (wpAny_standAt (wpAny_bind (wpAny_mono (turn n s hI) (fun r s1 h1 => ?_) fun _ _ h' => h'.elim)))
  cases r with
  | none => exact wpAny_pure h1
  | some v =>
    refine wpAny_bind (wpAny_mono h1 (fun _ s1' h1' => ?_) fun _ _ h' => h'.elim)
    refine wpAny_bind (wpAny_mono h1' (fun _ s2 h2 => wpAny_bind (wpAny_mono h2 (fun ok s3 h3 => ?_) fun _ _ h' => h'.elim)) fun _ _ h' => h'.elim)
    cases ok with
    | false => exact wpAny_pure ⟨rfl, h3⟩
    | true =>
      exact wpAny_bind (wpAny_bind (wpAny_mono h3 (fun x s4 h4 => wpAny_bind (wpAny_mono h4 (fun _ s5 h5 => wpAny_pure (wpAny_pure ⟨rfl, h5⟩)) fun _ _ h' => h'.elim)) fun _ _ h' => h'.elim))
end
/-- the values of the names that a block reads -/
def subS (caps : List Nat) (σ : St) : St := caps.map fun i => (σ[i]?).getD none
def Weak (σ σ' : St) : Prop := σ.length = σ'.length ∧ ∀ (j : Nat) v, σ[j]? = some (some v) → σ'[j]? = some (some v)
def tComp (caps : List Nat) (k : Nat) (wi : TI) (gt : TG) (tt : TT) (te : TE) : TE := fun σ H Q => wi σ H fun J H1 => ∀ D, H1 D = none →
  ∃ W : Nat → Nat → List V → Hp → Prop, (∃ m, W 0 m [] (upd H1 D (.lst []))) ∧ ∀ i m ys H, W i m ys H → H D = some (.lst ys) ∧
    ((J.stop i H ∧ Q (.ref D) H) ∨ (J.go i H ∧ ys.length < sizeLine ∧ ∀ x H', J.yld i H x H' → gt x (subS caps σ ++ List.replicate k none) H' fun σ2 H2 => Weak (subS caps σ ++ List.replicate k none) σ2 ∧ tt σ2 H2 fun b H3 =>
      if b = true then te σ2 H3 fun y H4 => H4 D = some (.lst ys) ∧ ∃ m', m' < m ∧ W (i + 1) m' (ys ++ [y]) (upd H4 D (.lst (ys ++ [y]))) else ∃ m', m' < m ∧ W (i + 1) m' ys H3))
/-- a list comprehension, used at its end as `use` says -/
theorem comp_core {X : Cx} {elt iter tg : Expr} {ifs : List Expr} {scope : Scope} {pos : Pos} {caps : List Nat} {capN tgN : List Str} {wi : TI} {gt : TG} {tt : TT} {te : TE} {use : Option (Value → Sem Unit)} {QQ : Value → Shared → Prop} {pins : List (Addr × Obj)} {s : Shared} {σ : St} {H : Hp} {Q : VK}
    (hc : X.calm = true) (hi : PI X tg iter wi) (hcell : ∀ y ∈ scope.names, y.2 ≠ .cell) (hkind : scope.kind = .function) (hnames : ∀ y ∈ scope.names, y.2 = .local → scope.names.lookup y.1 = some .local)
    (hfree : ∀ y ∈ scope.names, y.2 = .free → X.env.kindOf y.1 = some .cell ∨ X.env.kindOf y.1 = some .free)
    (hcapN : capN.map some = caps.map fun i => X.N[i]?) (hcapF : ∀ y ∈ capN, (y, NameKind.free) ∈ scope.names)
    (hcapK : ∀ y ∈ capN, (relabel scope X.env).names.lookup y = some .cell ∨ (relabel scope X.env).names.lookup y = some .free)
    (hg : ∀ cl C fp s3 H3, PG (compCx X scope (capN ++ tgN) cl C fp s3 H3) tg gt) (hf : ∀ cl C fp s3 H3, PIfs (compCx X scope (capN ++ tgN) cl C fp s3 H3) ifs tt) (he : ∀ cl C fp s3 H3, PE (compCx X scope (capN ++ tgN) cl C fp s3 H3) elt te)
    (hs : ∀ x, foldedSetIterable iter X.env x = pure x) (I : Inv X pins σ H s) (h : tComp caps tgN.length wi gt tt te σ H Q)
    (hend : ∀ (D Z : Addr) (s6 : Shared) (H5 : Hp), (∃ m, s6.heap.Ns Z m) → (∀ h'', Heap.SameBut Z s6.heap h'' → Inv X pins σ H5 { s6 with heap := h'' }) → H5 Z = none → X.s₀.heap.objs.size ≤ Z → Z ≠ X.env.locals → (∀ x c, X.env.cells.lookup x = some c → c ≠ Z) →
      (∀ p ∈ X.pn ++ pins, p.1 ≠ Z) → Q (.ref D) H5 → compPost (model X.prog X.w) X.A X.xe use QQ (.ref D) Z (.ok .next) s6) :
    wpAny (model X.prog X.w) X.A (comprehension (.ListComp elt [⟨tg, iter, ifs, 0⟩] scope pos) scope X.env (firstIterPos [⟨tg, iter, ifs, 0⟩] pos) (newList []) (firstAsync [⟨tg, iter, ifs, 0⟩]) (firstIter [⟨tg, iter, ifs, 0⟩] X.env) use) QQ X.xe s := by
  obtain ⟨cl, hclos, clsub, clhas⟩ := closure_of (scope := scope) (env := X.env) fun y hy hk => I.ok.has y.1 (hfree y hy hk)
  refine wpAny_comprehension_free (use := use) rfl hs hclos hkind hnames (thn (hi pins s σ H _ I h) fun v s1 h1 => thn h1 fun itv s2 h2 => ?_)
  obtain ⟨it, fp, tn, J, H2, e, I2, T, st2, f2, q⟩ := h2
  subst e
  refine wpAny_newObj_type ?_
  have hn : H2 s2.heap.objs.size = none := I2.hok.fresh (Nat.le_refl _)
  obtain ⟨W, ⟨m0, w0⟩, turn⟩ := q s2.heap.objs.size hn
  have I3 : Inv X pins σ (upd H2 s2.heap.objs.size (.lst [])) { s2 with heap := s2.heap.push { cls := .type "list", dict := none, data := .seq ([] : List Value).toArray } } :=
    I2.laid (t' := s2.toks) (fun b u e => Heap.get?_push_of_some _ e) (Nat.le_refl _) ⟨Nat.zero_le _, [], 0, .nil, Heap.get?_push_size _ rfl⟩
  generalize hs3 : ({ s2 with heap := s2.heap.push { cls := .type "list", dict := none, data := .seq ([] : List Value).toArray } } : Shared) = s3 at I3 ⊢
  generalize hH3 : upd H2 s2.heap.objs.size (.lst []) = H3 at I3 w0
  have fpl : ∀ b ∈ fp, b < s2.heap.objs.size := fun b hb => by
    obtain ⟨o, eo, _⟩ := T.obj 0 _ st2 b hb
    exact Heap.lt_size eo
  have sz3 : s3.heap.objs.size = s2.heap.objs.size + 1 := by rw [← hs3]; exact Heap.size_push _ _
  have keep23 : ∀ b o, s2.heap.get? b = some o → s3.heap.get? b = some o := fun b o e => by rw [← hs3]; exact Heap.get?_push_of_some _ e
  have hDf : s2.heap.objs.size ∉ fp := fun hb => Nat.lt_irrefl _ (fpl _ hb)
  refine wpAny_newFunctionEnv hcell (by intro y hy; simp at hy) (fun h4 hns hsb => ?_) hkind
  try dsimp only at hns hsb ⊢
  have keep34 : ∀ b o, s3.heap.get? b = some o → h4.get? b = some o := fun b o e => hsb.extBut b o (Nat.ne_of_lt (Heap.lt_size e)) (Heap.get?_push_of_some _ e)
  have nostk : ∀ b ∈ fp, b ∉ frs X.stack := fun b hb z => by
    obtain ⟨_, f1, f2', _⟩ := f2 b hb
    rcases List.mem_cons.mp (I2.stkSub b z) with q | q
    · exact f1 q
    · exact f2' q
  have okc : (compCx X scope (capN ++ tgN) cl s3.heap.objs.size fp s3 H3).Ok :=
    { mod := I3.ok.mod
      kind := hkind
      glob := I3.ok.glob
      blt := I3.ok.blt
      above := Nat.le_refl _
      inj := fun x y c h1 h2 => I3.ok.inj x y c (clsub x c h1) (clsub y c h2)
      has := fun x hx => clhas x (relabel_free hcell hx)
      cab := fun x c z => by cases z
      hd := I3.ok.hd
      frames := I3.ok.frames
      stk := .inl rfl
      exf := fun b hb => ⟨Nat.ne_of_lt (by show b < s3.heap.objs.size; rw [sz3]; exact Nat.lt_succ_of_lt (fpl b hb)), fun x c e => (f2 b hb).2.2.2.2.1 x c (clsub x c e)⟩
      bs := I3.bs
      bsz := Nat.le_trans I3.ok.bsz I3.sz
      noex := fun b o e hb => by
        obtain ⟨_, _, _, f3, _⟩ := f2 b hb
        rcases f3 with z | z
        · exact I2.ok.noex b o e z
        · exact absurd (Heap.lt_size (I2.ok.bs b o e).1) (Nat.not_lt.mpr z)
      exfs := nostk
      funs := I3.stack
      frf := I3.stkFree }
  have capLen : capN.length = caps.length := by
    have := congrArg List.length hcapN
    simpa using this
  generalize hσ0 : subS caps σ ++ List.replicate tgN.length none = σ0 at turn
  have Ic : Inv (compCx X scope (capN ++ tgN) cl s3.heap.objs.size fp s3 H3) [] σ0 H3 { s3 with heap := h4, toks := s3.toks + ([] : List (Str × Value)).length } := by
    refine ⟨okc, rfl, I3.bare, Un.kept keep34, ⟨_, hns, fun i y v h1 h2 h3 => ?_⟩, fun x c e => ?_, I3.hok.fresh (Nat.le_refl _), fun x c e => I3.freeC x c (clsub x c e), fun p hp => absurd (show p ∈ ([] : List (Addr × Obj)) from hp) (by simp), I3.hok.kept keep34, ?_⟩
    · by_cases hi : i < caps.length
      · have ey : capN[i]? = some y := by
          have h1 : (capN ++ tgN)[i]? = some y := h1
          rw [List.getElem?_append_left (by rw [capLen]; exact hi)] at h1; exact h1
        have hj : X.N[caps[i]]? = some y := by
          have e1 : (capN.map some)[i]? = (caps.map fun i => X.N[i]?)[i]? := by rw [hcapN]
          rw [List.getElem?_map, List.getElem?_map, ey, List.getElem?_eq_getElem hi] at e1
          simpa using e1.symm
        have ev : σ[caps[i]]? = some (some v) := by
          rw [← hσ0, List.getElem?_append_left (by simpa [subS] using hi)] at h2
          unfold subS at h2
          rw [List.getElem?_map, List.getElem?_eq_getElem hi] at h2
          simp only [Option.map_some, Option.some.injEq] at h2
          cases z : σ[caps[i]]? with
          | none => rw [z] at h2; cases h2
          | some o => rw [z] at h2; exact congrArg some h2
        have hyf := hcapF y (List.mem_of_getElem? ey)
        have hkX := hfree _ hyf rfl
        obtain ⟨m, _, hl⟩ := I3.loc
        obtain ⟨u, ru, lk⟩ := hl caps[i] y v hj ev (by rcases hkX with z | z; exact .inr (.inl z); exact .inr (.inr z))
        refine ⟨u, ru, .inr ⟨hcapK y (List.mem_of_getElem? ey), ?_⟩⟩
        rcases lk with ⟨hk, _⟩ | ⟨_, c, ec, ic⟩
        · rcases hkX with z | z
          · rw [show X.env.kindOf y = some .cell from z] at hk; cases hk
          · rw [show X.env.kindOf y = some .free from z] at hk; cases hk
        · obtain ⟨c', ec'⟩ := clhas y hyf
          have := clsub y c' ec'
          rw [ec] at this; cases this
          exact ⟨c, ec', ic.keeps keep34⟩
      · rw [← hσ0, List.getElem?_append_right (by simpa [subS] using hi), List.getElem?_replicate] at h2
        split at h2 <;> cases h2
    · obtain ⟨v, q⟩ := I3.cell x c (clsub x c e)
      exact ⟨v, q.keeps keep34⟩
    · rw [← hσ0]
      show (subS caps σ ++ List.replicate tgN.length none).length = (capN ++ tgN).length
      simp [subS, capLen]
  have fpc : ∀ {H' : Hp}, (∀ b ∈ fp, H' b = none) → ∀ b ∈ fp, FpOk (compCx X scope (capN ++ tgN) cl s3.heap.objs.size fp s3 H3) [] H' b := fun hn b hb =>
    ⟨hn b hb, (okc.exf b hb).1, nostk b hb, .inl hb, (okc.exf b hb).2, fun p hp => absurd (show p ∈ ([] : List (Addr × Obj)) from hp) (by simp)⟩
  have loop : codeAny (model X.prog X.w) X.A (.compLoop (.ListComp elt [⟨tg, iter, ifs, 0⟩] scope pos) 0 (.ref it) (.ref s2.heap.objs.size) (compEnvC scope cl s3.heap.objs.size X.env)) (compPost (model X.prog X.w) X.A X.xe use QQ (.ref s2.heap.objs.size) s3.heap.objs.size) { s3 with heap := h4, toks := s3.toks + ([] : List (Str × Value)).length } := by
    refine compLoop_g (fun n s' => ∃ i ys H', Inv (compCx X scope (capN ++ tgN) cl s3.heap.objs.size fp s3 H3) [] σ0 H' s' ∧ tn i s'.heap ∧ (∀ b ∈ fp, H' b = none) ∧ W i n ys H') ?_ m0
      ⟨0, [], H3, Ic, T.keep _ _ _ st2 (fun b hb o e => keep34 b o (keep23 b o e)), fun b hb => by rw [← hH3, upd_ne (by intro z; rw [z] at hb; exact hDf hb)]; exact (f2 b hb).1, w0⟩
    rintro n s5 ⟨i, ys, H5, I5, st5, fr5, w5⟩
    obtain ⟨hD, hw⟩ := turn i n ys H5 w5
    rcases hw with ⟨stop, qq⟩ | ⟨go, hlen, step⟩
    · refine thn (T.done (compCx X scope (capN ++ tgN) cl s3.heap.objs.size fp s3 H3) rfl rfl rfl hc i [] s5 σ0 H5 _ I5 (fpc fr5) st5 stop) fun r s6 ⟨hr, I6⟩ => ?_
      subst hr
      obtain ⟨m, hm, _⟩ := id I6.loc
      refine hend s2.heap.objs.size s3.heap.objs.size s6 H5 ⟨m, hm⟩ (fun h'' hsb2 => ?_) I6.free I3.sz (fun z => ?_) (fun x c ec z => ?_) (fun p hp z => ?_) qq
      rotate_left
      · obtain ⟨m, ⟨o, es, ep, ho, _⟩, _⟩ := id I3.loc
        rw [← z] at ho
        exact Nat.lt_irrefl _ (Heap.lt_size ho)
      · obtain ⟨v, o, ho, _⟩ := I3.cell x c ec
        rw [z] at ho
        exact Nat.lt_irrefl _ (Heap.lt_size ho)
      · have := (I3.pin p hp).1
        rw [z] at this
        exact Nat.lt_irrefl _ (Heap.lt_size this)
      have u := I6.base
      have neC : ∀ b o, s3.heap.get? b = some o → b ≠ s3.heap.objs.size := fun b o e => Nat.ne_of_lt (Heap.lt_size e)
      have un : Un (frs X.stack) fp H3 H5 s3.heap h'' := by
        refine ⟨fun b o e n hb hx => hsb2.extBut b o (neC b o e) (u.keep b o e n hb hx), fun b o e n hb hx => ?_, u.free, fun b o e hx => ?_, u.tups, u.frzs, u.tbls⟩
        · obtain ⟨sl, q⟩ := u.slot b o e n hb hx
          exact ⟨sl, hsb2.extBut b _ (neC b o e) q⟩
        · obtain ⟨o', q⟩ := u.there b o e hx
          exact ⟨o', hsb2.extBut b _ (neC b o e) q⟩
      have hok : HOk X.prog X.w H5 h'' := fun a o e => (I6.hok a o e).stay (fun b v hb q => hsb2.extBut b v (by
          intro z
          have fr := I6.free
          rcases hb with hb | hb
          · rw [hb] at z; rw [z] at e; rw [show H5 s3.heap.objs.size = none from fr] at e; cases e
          · rw [z, show H5 s3.heap.objs.size = none from fr] at hb; cases hb) q) (fun _ q => q) fun _ _ q => q
      have os6 := I6.os
      obtain ⟨hh, g6, d6, t6, o6⟩ := s6
      obtain rfl : o6 = s3.os := os6
      have I8 := I3.call (h' := h'') (g' := g6) (d' := d6) (t' := t6) (ch := fp) un hok I6.bare fun b hb => by
        obtain ⟨_, f1, _, f3, f4, f5⟩ := f2 b hb
        exact ⟨f3, f1, f4, f5⟩
      exact I8
    · refine thn (T.item (compCx X scope (capN ++ tgN) cl s3.heap.objs.size fp s3 H3) rfl rfl rfl hc i [] s5 σ0 H5 _ I5 (fpc fr5) st5 go) fun r s6 ⟨u, hr, h6⟩ => ?_
      subst hr
      refine thn h6 fun _ s7 ⟨x, H7, I7, r7, y7, st7, fr7⟩ => ?_
      have I7' := I7.pinned (fpc fr7) (T.obj _ _ st7)
      refine thn (hg cl s3.heap.objs.size fp s3 H3 _ s7 σ0 H7 x u _ I7' r7 (step x H7 y7)) fun _ s8 ⟨σ8, H8, I8, wk, q8⟩ => ?_
      have back : ∀ {H' : Hp} {s' : Shared} {m' : Nat} {ys' : List V}, Inv (compCx X scope (capN ++ tgN) cl s3.heap.objs.size fp s3 H3) ([] ++ pinsAt fp s7.heap) σ8 H' s' → m' < n → W (i + 1) m' ys' H' →
          ∃ m, m < n ∧ ∃ i ys H', Inv (compCx X scope (capN ++ tgN) cl s3.heap.objs.size fp s3 H3) [] σ0 H' s' ∧ tn i s'.heap ∧ (∀ b ∈ fp, H' b = none) ∧ W i m ys H' := fun {H' s' m' ys'} I' hm w' => by
        have pinned : ∀ b ∈ fp, ∀ o, s7.heap.get? b = some o → s'.heap.get? b = some o ∧ H' b = none := fun b hb o e => by
          have := I'.pin (b, o) (List.mem_append_right _ (List.mem_append_right _ (mem_pinsAt hb e)))
          exact ⟨this.1, this.2.1⟩
        refine ⟨m', hm, i + 1, ys', H', I'.unpinned.weak wk.1 wk.2, T.keep _ _ _ st7 fun b hb o e => (pinned b hb o e).1, fun b hb => ?_, w'⟩
        obtain ⟨o, e, _⟩ := T.obj _ _ st7 b hb
        exact (pinned b hb o e).2
      refine thn (hf cl s3.heap.objs.size fp s3 H3 _ s8 σ8 H8 _ I8 q8) fun b s9 ⟨H9, I9, q9⟩ => ?_
      cases b with
      | false =>
        rw [if_neg Bool.false_ne_true] at q9 ⊢
        obtain ⟨m', hm, w9⟩ := q9
        exact back I9 hm w9
      | true =>
        rw [if_pos rfl] at q9 ⊢
        refine thn (he cl s3.heap.objs.size fp s3 H3 _ s9 σ8 H9 _ I9 q9) fun y s10 ⟨yv, H10, I10, r10, hD10, m', hm, w10⟩ => ?_
        refine thn (mt_append (X := compCx X scope (capN ++ tgN) cl s3.heap.objs.size fp s3 H3) _ s10 σ8 H10 (.ref s2.heap.objs.size) [yv] (.ref s2.heap.objs.size) [y] (fun v H' => v = .non ∧ H' = upd H10 s2.heap.objs.size (.lst (ys ++ [yv]))) I10 rfl (.cons r10 .nil)
          ⟨s2.heap.objs.size, ys, yv, rfl, rfl, hD10, hlen, rfl, rfl⟩) fun _ s11 ⟨v, H11, I11, _, _, e11⟩ => ?_
        subst e11
        exact back I11 hm w10
  exact codeAny_compStart_list loop (T.self _ 0 _ _ _ (T.keep _ _ _ st2 (fun b hb o e => keep34 b o (keep23 b o e))) loop)
theorem pe_comp {X : Cx} {elt iter tg : Expr} {ifs : List Expr} {scope : Scope} {pos : Pos} {caps : List Nat} {capN tgN : List Str} {wi : TI} {gt : TG} {tt : TT} {te : TE}
    (hc : X.calm = true) (hi : PI X tg iter wi) (hcell : ∀ y ∈ scope.names, y.2 ≠ .cell) (hkind : scope.kind = .function) (hnames : ∀ y ∈ scope.names, y.2 = .local → scope.names.lookup y.1 = some .local)
    (hfree : ∀ y ∈ scope.names, y.2 = .free → X.env.kindOf y.1 = some .cell ∨ X.env.kindOf y.1 = some .free)
    (hcapN : capN.map some = caps.map fun i => X.N[i]?) (hcapF : ∀ y ∈ capN, (y, NameKind.free) ∈ scope.names)
    (hcapK : ∀ y ∈ capN, (relabel scope X.env).names.lookup y = some .cell ∨ (relabel scope X.env).names.lookup y = some .free)
    (hg : ∀ cl C fp s3 H3, PG (compCx X scope (capN ++ tgN) cl C fp s3 H3) tg gt) (hf : ∀ cl C fp s3 H3, PIfs (compCx X scope (capN ++ tgN) cl C fp s3 H3) ifs tt) (he : ∀ cl C fp s3 H3, PE (compCx X scope (capN ++ tgN) cl C fp s3 H3) elt te)
    (hs : ∀ x, foldedSetIterable iter X.env x = pure x := by intro _; rfl) :
    PE X (.ListComp elt [⟨tg, iter, ifs, 0⟩] scope pos) (tComp caps tgN.length wi gt tt te) := by
  intro pins s σ H Q I h
  rw [eval_ListComp]
  exact comp_core (use := none) hc hi hcell hkind hnames hfree hcapN hcapF hcapK hg hf he hs I h fun D Z s6 H5 hm hI _ _ _ _ _ q => by
    obtain ⟨m, hm⟩ := hm
    exact ⟨m, hm, fun h'' hs => ⟨.ref D, H5, hI h'' hs, rfl, q⟩⟩
/-- behind a block's own frame -/
theorem Inv.dropped {X : Cx} {pins : List (Addr × Obj)} {σ : St} {H : Hp} {s : Shared} {h'' : Heap} {Z : Addr} (I : Inv X pins σ H s) (hs : Heap.SameBut Z s.heap h'') (hz : H Z = none) (h0 : X.s₀.heap.objs.size ≤ Z) (h1 : Z ≠ X.env.locals) (h2 : ∀ x c, X.env.cells.lookup x = some c → c ≠ Z) (h3 : ∀ p ∈ X.pn ++ pins, p.1 ≠ Z) :
    Inv X pins σ H { s with heap := h'' } := by
  have un : Un (frs X.stack) [Z] H H s.heap h'' := by
    have k : ∀ b o, s.heap.get? b = some o → b ∉ [Z] → h''.get? b = some o := fun b o e hb => hs.extBut b o (fun z => hb (by rw [z]; exact List.mem_cons_self)) e
    exact ⟨fun b o e _ _ hx => k b o e hx, fun b o e _ _ hx => ⟨o.slots, k b o e hx⟩, fun _ _ _ n _ => n, fun b o e hx => ⟨o, k b o e hx⟩, fun _ _ q => q, fun _ _ _ q => q, fun _ ps q => ⟨#[], by simpa using q⟩⟩
  have hok : HOk X.prog X.w H h'' := fun a o e => (I.hok a o e).stay (fun b v hb q => hs.extBut b v (by
    rintro rfl
    rcases hb with hb | hb
    · rw [hb, e] at hz; cases hz
    · rw [hz] at hb; cases hb) q) (fun _ q => q) fun _ _ q => q
  obtain ⟨hh, g, d, t, o⟩ := s
  exact I.call (g' := g) (d' := d) (t' := t) (ch := [Z]) un hok I.bare fun b hb => by
    obtain rfl : b = Z := by simpa using hb
    exact ⟨.inr h0, h1, h2, h3⟩
/-- x = [.. for ..], x a local name: stored while the comprehension still stands -/
theorem ps_compA {i : Nat} {x : Str} {pos' spos : Pos} {X : Cx} {elt iter tg : Expr} {ifs : List Expr} {scope : Scope} {pos : Pos} {caps : List Nat} {capN tgN : List Str} {wi : TI} {gt : TG} {tt : TT} {te : TE}
    (hc : X.calm = true) (hi : PI X tg iter wi) (hcell : ∀ y ∈ scope.names, y.2 ≠ .cell) (hkind : scope.kind = .function) (hnames : ∀ y ∈ scope.names, y.2 = .local → scope.names.lookup y.1 = some .local)
    (hfree : ∀ y ∈ scope.names, y.2 = .free → X.env.kindOf y.1 = some .cell ∨ X.env.kindOf y.1 = some .free)
    (hcapN : capN.map some = caps.map fun i => X.N[i]?) (hcapF : ∀ y ∈ capN, (y, NameKind.free) ∈ scope.names)
    (hcapK : ∀ y ∈ capN, (relabel scope X.env).names.lookup y = some .cell ∨ (relabel scope X.env).names.lookup y = some .free)
    (hg : ∀ cl C fp s3 H3, PG (compCx X scope (capN ++ tgN) cl C fp s3 H3) tg gt) (hf : ∀ cl C fp s3 H3, PIfs (compCx X scope (capN ++ tgN) cl C fp s3 H3) ifs tt) (he : ∀ cl C fp s3 H3, PE (compCx X scope (capN ++ tgN) cl C fp s3 H3) elt te)
    (hN : X.N.Nodup) (hx : X.N[i]? = some x) (hk : X.env.scope.names.lookup x = some .local) (hsw : swapsWith (.ListComp elt [⟨tg, iter, ifs, 0⟩] scope pos) (some (.Name x pos')) spos.line X.env = pure true)
    (hs : ∀ x, foldedSetIterable iter X.env x = pure x := by intro _; rfl) :
    PS X (.Assign [.Name x pos'] (.ListComp elt [⟨tg, iter, ifs, 0⟩] scope pos) spos) (tAsg (tComp caps tgN.length wi gt tt te) (gName i)) := by
  intro pins s σ H En I h
  rw [exec_Assign_Name_used _ _ _ _ hsw]
  refine wpAny_bind (wpAny_standAt (wpAny_bind ?_))
  show wpAny _ X.A (comprehension (.ListComp elt [⟨tg, iter, ifs, 0⟩] scope pos) scope X.env (firstIterPos [⟨tg, iter, ifs, 0⟩] pos) (newList []) (firstAsync [⟨tg, iter, ifs, 0⟩]) (firstIter [⟨tg, iter, ifs, 0⟩] X.env) (some (assign (.Name x pos') X.env)) >>= _) _ _ s
  refine wpAny_bind (comp_core (use := some (assign (.Name x pos') X.env)) hc hi hcell hkind hnames hfree hcapN hcapF hcapK hg hf he hs I h fun D Z s6 H5 hm hI hz h0 h1 h2 h3 q => ?_)
  obtain ⟨m, hm⟩ := hm
  have I6 := hI s6.heap (Heap.SameBut.refl _ _)
  refine wpAny_assign_Name (store_ok2 I6 hN hx (.inl hk) (show RelV (.ref D) (.ref D) from rfl) (fun s' I' hch => ?_) (.inr hk))
  obtain ⟨a, sb, ha⟩ := hch
  have na : Z ≠ a := by
    rcases ha with rfl | ha
    · exact h1
    · exact fun z => h2 x a ha z.symm
  exact ⟨m, hm.sameBut sb na, fun h'' hs2 => wpAny_pure (wpAny_pure ⟨_, H5, I'.dropped hs2 hz h0 h1 h2 h3, q⟩)⟩
end L2

namespace D3
open PySem PySem.Spec PyProof.Rows L2
/-! ### list comprehensions -/
def subR (caps : List Nat) (ρ : Rho) : Rho := caps.map fun i => match ρ[i]? with | some (some (false, d)) => some (false, d) | _ => none
def compL (k : D → Rho → Option Rho) (t e : Rho → Res) (ρ0 : Rho) : List D → Option (List D)
  | [] => some []
  | d :: ds => match k d ρ0 with
    | none => none
    | some ρ1 => match t ρ1 with
      | .ok _ (.bl true) => (match frzR (e ρ1) with | .ok _ y => (compL k t e ρ0 ds).map (y :: ·) | _ => none)
      | .ok _ (.bl false) => compL k t e ρ0 ds
      | _ => none
def compR (src : Res) (ρ : Rho) (caps : List Nat) (n : Nat) (k : D → Rho → Option Rho) (t e : Rho → Res) : Res := src.thn fun _ d => match d with
  | .lst ds => if ds.length < sizeLine then (match compL k t e (subR caps ρ ++ List.replicate n none) ds with | some ys => .ok .fr (.lst ys) | none => .stuck) else .stuck
  | _ => .stuck
abbrev Cw.nox (C : Cw) : Cw := { C with EE := fun _ _ _ => False }
theorem Step.upd {F H F' H' : Hp} {x : Addr} {o : HO} (st : Step F H F' H') (hx : H x = none) (hx' : F' x = none) : Step F H F' (L2.upd H' x o) :=
  ⟨fun b u q => by rw [upd_ne (ne_of_none q hx)]; exact st.same b u q, st.fsame, fun b u q => by rw [upd_ne (ne_of_none q hx')]; exact st.sub b u q, st.new⟩
section
variable {C : Cw} {X : Cx} {e : Expr} {g : Rho → Res} {pos p : Pos}
theorem pifs_nilv : PIfs X [] (tT (C.at X) fun _ => .ok .fz (.bl true)) := fun pins s σ H Q I h => by
  obtain ⟨ρ, F, R, w⟩ := h
  exact pifs_nil pins s σ H Q I (w F H (.refl R.sub))
theorem pifs_consv {c : Expr} {cs : List Expr} {ga gb : Rho → Res} (hc : PTv C X c ga) (hr : PIfs X cs (tT (C.at X) gb)) : PIfs X (c :: cs) (tT (C.at X) fun ρ => andR (ga ρ) (gb ρ)) := fun pins s σ H Q I h =>
  pifs_cons hc hr pins s σ H Q I (tT_and h)
theorem relSt_sub {K : PySem.W.Frag} {F0 H0 F H : Hp} {σ : L2.St} {ρ : Rho} (caps : List Nat) (n : Nat) (R : RelSt K F0 H0 F H σ ρ) : RelSt K F0 H0 F H (subS caps σ ++ List.replicate n none) (subR caps ρ ++ List.replicate n none) := by
  have low : ∀ (i : Nat) (m : Bool) (d : D), (subR caps ρ ++ List.replicate n none)[i]? = some (some (m, d)) → m = false ∧ ∃ v, (subS caps σ ++ List.replicate n none)[i]? = some (some v) ∧ RepV K F d v := fun i m d e => by
    by_cases hi : i < caps.length
    · rw [List.getElem?_append_left (by simpa [subR] using hi)] at e
      rw [List.getElem?_append_left (by simpa [subS] using hi)]
      unfold subR at e
      unfold subS
      rw [List.getElem?_map, List.getElem?_eq_getElem hi] at e ⊢
      simp only [Option.map_some, Option.some.injEq] at e
      cases z : ρ[caps[i]]? with
      | none => rw [z] at e; cases e
      | some o =>
        rw [z] at e
        cases o with
        | none => cases e
        | some q =>
          obtain ⟨b, d'⟩ := q
          cases b with
          | true => cases e
          | false =>
            cases e
            obtain ⟨v, e1, r, _⟩ := R.slot _ _ _ z
            exact ⟨rfl, v, by simp [e1], r⟩
    · rw [List.getElem?_append_right (by simpa [subR] using hi), List.getElem?_replicate] at e
      split at e <;> cases e
  refine ⟨R.st, fun i m d e => ?_, fun i j d d' a _ e1 _ _ _ => ?_, by simp [subS, subR]⟩
  · obtain ⟨rfl, v, e1, r⟩ := low i m d e
    exact ⟨v, e1, r, by intro z; cases z⟩
  · have := (low i true d e1).1; cases this
end
end D3

namespace D3
open PySem PySem.Spec PyProof.Rows L2
/-! ### == and != of data -/
mutual
def toPy : D → Option PyData
  | .non => some .none
  | .bl b => some (.bool b)
  | .int i => some (.int i)
  | .str x => some (.str x)
  | .tup ds => (toPyL ds).map .tuple
  | .lst ds => (toPyL ds).map .list
  | _ => none
def toPyL : List D → Option (List PyData)
  | [] => some []
  | d :: ds => match toPy d, toPyL ds with
    | some p, some ps => some (p :: ps)
    | _, _ => none
end
section
variable {X : Cx} {pins : List (Addr × Obj)} {σ : L2.St} {F H : Hp} {s : Shared}
mutual
theorem reads_of (I : Inv X pins σ H s) (sF : Same F H) : ∀ (d : D) (p : PyData) (v : V) (u : Value), RepV X.K F d v → RelV v u → toPy d = some p → (∃ as, Reads s.heap u p as) ∧ p.canLay0 = true
  | .non, p, v, u, h, r, e => by simp only [RepV] at h; subst h; cases r; simp only [toPy] at e; cases e; exact ⟨⟨_, .none⟩, rfl⟩
  | .bl b, p, v, u, h, r, e => by simp only [RepV] at h; subst h; cases r; simp only [toPy] at e; cases e; exact ⟨⟨_, .bool b⟩, rfl⟩
  | .int i, p, v, u, h, r, e => by simp only [RepV] at h; subst h; obtain ⟨t, rfl⟩ := r; simp only [toPy] at e; cases e; exact ⟨⟨_, .int i t⟩, rfl⟩
  | .str x, p, v, u, h, r, e => by simp only [RepV] at h; obtain ⟨rfl, _, hk⟩ := h; obtain ⟨t, rfl⟩ := r; simp only [toPy] at e; cases e; exact ⟨⟨_, .str x t⟩, by simpa only [PyData.canLay0] using hk⟩
  | .tup ds, p, v, u, h, r, e => by
    simp only [RepV] at h
    obtain ⟨a, xs, rfl, q, rl⟩ := h
    cases r
    simp only [toPy] at e
    cases ep : toPyL ds with
    | none => rw [ep] at e; cases e
    | some ps =>
      rw [ep] at e; cases e
      obtain ⟨its, rv, ⟨o, h1, h2, n, h3⟩, _⟩ := I.tuple (Same.seqT sF q)
      obtain ⟨⟨as, ra⟩, hc⟩ := readsL_of I sF ds ps xs its rl rv ep
      exact ⟨⟨_, .tuple h1 h2 h3 (by simpa using ra)⟩, by simpa only [PyData.canLay0] using hc⟩
  | .lst ds, p, v, u, h, r, e => by
    simp only [RepV] at h
    obtain ⟨a, xs, rfl, q, rl⟩ := h
    cases r
    simp only [toPy] at e
    cases ep : toPyL ds with
    | none => rw [ep] at e; cases e
    | some ps =>
      rw [ep] at e; cases e
      obtain ⟨its, rv, ⟨o, n, h1, h2, _, h3⟩, _⟩ := I.list (sF.seq q)
      obtain ⟨⟨as, ra⟩, hc⟩ := readsL_of I sF ds ps xs its rl rv ep
      exact ⟨⟨_, .list h1 h2 h3 (by simpa using ra)⟩, by simpa only [PyData.canLay0] using hc⟩
  | .dct _, p, v, u, h, r, e => by simp only [toPy] at e; cases e
  | .ty _, p, v, u, h, r, e => by simp only [toPy] at e; cases e
  | .ob _, p, v, u, h, r, e => by simp only [toPy] at e; cases e
  | .ins _ _, p, v, u, h, r, e => by simp only [toPy] at e; cases e
  | .fn _, p, v, u, h, r, e => by simp only [toPy] at e; cases e
  | .exn _, p, v, u, h, r, e => by simp only [toPy] at e; cases e
  | .set _, p, v, u, h, r, e => by simp only [toPy] at e; cases e
theorem readsL_of (I : Inv X pins σ H s) (sF : Same F H) : ∀ (ds : List D) (ps : List PyData) (xs : List V) (us : List Value), RepL X.K F ds xs → Vals xs us → toPyL ds = some ps → (∃ as, ReadsAll s.heap us ps as) ∧ PyData.canLayAll0 ps = true
  | [], ps, xs, us, h, r, e => by simp only [RepL] at h; subst h; cases r; simp only [toPyL] at e; cases e; exact ⟨⟨_, .nil⟩, rfl⟩
  | d :: ds, ps, xs, us, h, r, e => by
    simp only [RepL] at h
    obtain ⟨y, ys, rfl, hd, hl⟩ := h
    cases r with
    | cons r1 r2 =>
      simp only [toPyL] at e
      cases e1 : toPy d with
      | none => rw [e1] at e; cases e
      | some p =>
        cases e2 : toPyL ds with
        | none => rw [e1, e2] at e; cases e
        | some ps' =>
          rw [e1, e2] at e; cases e
          obtain ⟨⟨as, ra⟩, hc⟩ := reads_of I sF d p y _ hd r1 e1
          obtain ⟨⟨bs, rb⟩, hc'⟩ := readsL_of I sF ds ps' ys _ hl r2 e2
          exact ⟨⟨_, .cons ra rb⟩, by simp only [PyData.canLayAll0, hc, hc', Bool.and_self]⟩
end
/-- also a list or dict that is not frozen -/
theorem reads_rp (I : Inv X pins σ H s) (sF : Same F H) {m : Md} {d : D} {p : PyData} {v : V} {u : Value} (h : Rp X.K F H m d v) (r : RelV v u) (e : toPy d = some p) : (∃ as, Reads s.heap u p as) ∧ p.canLay0 = true := by
  cases m with
  | fz => exact reads_of I sF d p v u h r e
  | _ =>
    obtain ⟨a, rfl, n, t⟩ := h
    cases d with
    | lst ds =>
      obtain ⟨xs, q, rl⟩ := t
      cases r
      simp only [toPy] at e
      cases ep : toPyL ds with
      | none => rw [ep] at e; cases e
      | some ps =>
        rw [ep] at e; cases e
        obtain ⟨its, rv, ⟨o, n, h1, h2, _, h3⟩, _⟩ := I.list (SqL.of q)
        obtain ⟨⟨as, ra⟩, hc⟩ := readsL_of I sF ds ps xs its rl rv ep
        exact ⟨⟨_, .list h1 h2 h3 (by simpa using ra)⟩, by simpa only [PyData.canLay0] using hc⟩
    | dct ds => simp only [toPy] at e; cases e
    | ins _ _ => simp only [toPy] at e; cases e
    | set _ => simp only [toPy] at e; cases e
    | _ => exact t.elim
end
def shal (p : PyData) : Bool := decide (p.depth ≤ 50)
def eqF (neg : Bool) : Md → D → Md → D → Option (Md × D) := fun _ x _ y => match toPy x, toPy y with
  | some p, some q => if (shal p && shal q) = true then some (.fz, .bl (if neg then !PyData.eqv p q else PyData.eqv p q)) else none
  | _, _ => none
section
variable {C : Cw} {X : Cx}
theorem opd_cmpD {f : Value → Value → Sem Value} {neg : Bool} (hu : X.A.units + 64 < cLine)
    (rule : ∀ (s : Shared) (a b : Value) (da db : PyData) (as bs : List Addr) (Q : Value → Shared → Prop), Reads s.heap a da as → Reads s.heap b db bs → da.canLay0 = true → db.canLay0 = true → X.A.units + min da.depth db.depth < cLine →
      Q (.bool (if neg then !PyData.eqv da db else PyData.eqv da db)) s → wpAny (model X.prog X.w) X.A (f a b) Q X.xe s) : OpD C X f (eqF neg) := by
  refine ⟨fun x y H Q => ∃ F m n d e p q, Same F H ∧ Rp X.K F H m d x ∧ Rp X.K F H n e y ∧ toPy d = some p ∧ toPy e = some q ∧ (shal p && shal q) = true ∧ Q (.bl (if neg then !PyData.eqv p q else PyData.eqv p q)) H, ?_, ?_⟩
  · intro pins s σ H x y v u Q I rx ry h
    obtain ⟨F, m, n, d, e, p, q, sF, hd, he, ep, eq, hs, hQ⟩ := h
    obtain ⟨⟨as, ra⟩, ca⟩ := reads_rp I sF hd rx ep
    obtain ⟨⟨bs, rb⟩, cb⟩ := reads_rp I sF he ry eq
    rw [Bool.and_eq_true] at hs
    have h1 := of_decide_eq_true hs.1
    refine rule s v u p q as bs _ ra rb ca cb (by have := Nat.min_le_left p.depth q.depth; omega) ⟨.bl _, H, I, rfl, hQ⟩
  · intro F H m x n y v u k d Q s rx ry e w
    unfold eqF at e
    split at e
    · rename_i p q ep eq
      split at e
      · rename_i hc
        cases e
        exact ⟨F, m, n, x, y, p, q, s, rx, ry, ep, eq, hc, w _ F H (.refl s) (rp_bl _) (by intro z; cases z)⟩
      · cases e
    · cases e
theorem opd_eq (hu : X.A.units + 64 < cLine) : OpD C X (compareOp .Eq) (eqF false) := opd_cmpD hu fun s a b da db as bs Q ra rb ca cb hd q => SeqAt.compareEq_reads ra rb ca cb hd q
theorem opd_ne (hu : X.A.units + 64 < cLine) : OpD C X (compareOp .NotEq) (eqF true) := opd_cmpD hu fun s a b da db as bs Q ra rb ca cb hd q => SeqAt.compareNe_reads ra rb ca cb hd q
end
end D3

namespace D3
open PySem PySem.Spec PyProof.Rows L2
/-! ### the methods of Python's own values -/
def MtD (X : Cx) (id : String) (φ : Md → D → List (Md × D) → Option (Md × D)) : Prop :=
  ∃ r : V → List V → Hp → VK → Prop, MtR X id r ∧ ∀ F H m x xs v vs k d Q, Same F H → Rp X.K F H m x v → RpL X.K F H xs vs → φ m x xs = some (k, d) →
    (∀ v' F' H', Step F H F' H' → Rp X.K F' H' k d v' → (k = .fr → ∀ a, v' = .ref a → H a = none) → Q v' H') → r v vs H Q
def isTyD (T : String) (d : D) : Bool := tyN d == some T
def mthR (T : String) (φ : Md → D → List (Md × D) → Option (Md × D)) (o : Res) (r : ResL) : Res := o.thn fun m x => if isTyD T x = true then r.thn fun xs => Res.of (φ m x xs) else .stuck
section
variable {C : Cw} {X : Cx} {o e : Expr} {es : List Expr} {go : Rho → Res} {gs : Rho → ResL} {apos cpos : Pos} {T id : String} {name : Str}
theorem tyV_of {K : PySem.W.Frag} {F H : Hp} {m : Md} {d : D} {v : V} (s : Same F H) (r : Rp K F H m d v) (h : isTyD T d = true) : T = "str" ∨ T = "list" → tyV K T v H := by
  have h : tyN d = some T := by simpa [isTyD] using h
  intro hT
  cases d with
  | str x => cases h; obtain ⟨rfl, _⟩ := r.str; exact rfl
  | lst ds =>
    cases h
    obtain ⟨a, xs, rfl, q, _⟩ := r.seqL s
    exact .inl ⟨rfl, xs, q⟩
  | tup ds => cases h; rcases hT with z | z <;> exact absurd z (by decide)
  | non => cases h; rcases hT with z | z <;> exact absurd z (by decide)
  | bl b => cases h; rcases hT with z | z <;> exact absurd z (by decide)
  | int b => cases h; rcases hT with z | z <;> exact absurd z (by decide)
  | dct b => cases h; rcases hT with z | z <;> exact absurd z (by decide)
  | ty b => cases h
  | ob b => cases h
  | ins b _ => cases h
  | fn b => cases h
  | exn b => cases h
  | set b => cases h
theorem pv_mt {φ} (hT : T = "str" ∨ T = "list") (pa : PlainAttrs T) (slot : Slot T name id) (hty : typeOf (.builtin id) = pure (.type "method_descriptor")) (hm : MtD X id φ) (ho : PV C X o go) (ha : PAv C X (e :: es) gs)
    (hbase : attributeBase o name X.env (eval o X.env) = eval o X.env := by rfl)
    (hfew : ((backTo cpos (starEach (e :: es) X.env)).all (fun x => !x.1) && (backToKw cpos (keywordEach [] X.env)).all (fun x => x.1.isSome)
      && decide ((e :: es).length + ([] : List Keyword).length + (if ([] : List Keyword).isEmpty then 0 else 1) < 30)) = true := by rfl)
    (hline : (apos.endLine == cpos.line) = true := by rfl) (hs : starEach (e :: es) X.env = (false, eval e X.env) :: starEach es X.env := by rfl) (hplain : (backTo cpos (starEach es X.env)).any (·.1) = false := by rfl) :
    PV C X (.Call (.Attribute o name apos) (e :: es) [] cpos) (fun ρ => mthR T φ (go ρ) (gs ρ)) := by
  obtain ⟨r, h1, h2⟩ := hm
  refine PE.imp (pe_bm pa slot hty h1 ho ha hbase hfew hline hs hplain) fun σ H Q q => ?_
  unfold tBM
  rw [tG_eq] at q ⊢
  obtain ⟨ρ, F, R, w⟩ := q
  refine ⟨ρ, F, R, ?_⟩
  cases er : go ρ with
  | stuck => rw [er] at w; exact w
  | exc c => rw [er] at w; exact w
  | ok m d =>
    rw [er] at w
    intro v F1 H1 s1 r1 _
    have w1 : Want (C.at X) F1 H1 σ (if isTyD T d = true then (gs ρ).thn fun xs => Res.of (φ m d xs) else .stuck) Q := Want.step s1 w
    split at w1
    · rename_i ht
      refine ⟨tyV_of s1.sub r1 ht hT, ρ, F1, R.step s1, ?_⟩
      cases es' : gs ρ with
      | stuck => rw [es'] at w1; exact w1
      | exc c => rw [es'] at w1; exact w1
      | ok xs =>
        rw [es'] at w1
        intro vs F2 H2 s2 r2
        have w2 : Want (C.at X) F2 H2 σ (Res.of (φ m d xs)) Q := Want.step s2 w1
        cases ef : φ m d xs with
        | none => rw [ef] at w2; exact w2.elim
        | some kd => obtain ⟨k, d'⟩ := kd; rw [ef] at w2; exact h2 F2 H2 m d xs v vs k d' Q s2.sub (r1.step s2) r2 ef w2
    · exact w1.elim
/-! join -/
def strsD : List D → Option (List Str)
  | [] => some []
  | .str x :: r => (strsD r).map (x :: ·)
  | _ => none
def joinD : Md → D → List (Md × D) → Option (Md × D) := fun _ x xs => match x, xs with
  | .str z, [(_, .lst ds)] => (match strsD ds with
    | some ys => if (ys.map (·.length)).sum + ys.length * z.length ≤ sizeLine then some (.fz, .str (Txt.join z ys)) else none
    | none => none)
  | _, _ => none
theorem strsD_rep {K : PySem.W.Frag} {F : Hp} : ∀ {ds : List D} {xs : List V} {ys : List Str}, RepL K F ds xs → strsD ds = some ys → xs = ys.map V.str ∧ ∀ y ∈ ys, PyData.strOk y = true
  | [], _, _, h, e => by cases e; simp only [RepL] at h; exact ⟨h, fun _ z => by cases z⟩
  | d :: ds, _, _, h, e => by
    simp only [RepL] at h
    obtain ⟨y, ys, rfl, r, t⟩ := h
    cases d with
    | str b =>
      unfold strsD at e
      cases q : strsD ds with
      | none => rw [q] at e; cases e
      | some bs =>
        rw [q] at e; cases e
        simp only [RepV] at r
        obtain ⟨rfl, _, hk⟩ := r
        obtain ⟨rfl, hh⟩ := strsD_rep t q
        refine ⟨rfl, fun y hy => ?_⟩
        rcases List.mem_cons.mp hy with rfl | hy
        · exact hk
        · exact hh y hy
    | _ => cases e
theorem strsAre_of : ∀ {ys : List Str} {us : List Value}, Vals (ys.map V.str) us → StrsAre us ys
  | [], _, h => by cases h; exact .nil
  | y :: ys, _, h => by
    cases h with
    | cons r t =>
      obtain ⟨tk, rfl⟩ := r
      exact .cons y tk (strsAre_of t)
theorem strOk_join {z : Str} (hz : PyData.strOk z = true) : ∀ {ys : List Str}, (∀ y ∈ ys, PyData.strOk y = true) → PyData.strOk (Str.join z ys) = true
  | [], _ => by show PyData.strOk Str.empty = true; decide +kernel
  | [x], h => h x List.mem_cons_self
  | x :: y :: r, h => by
    show PyData.strOk (x ++ z ++ Str.join z (y :: r)) = true
    exact strOk_append (strOk_append (h x List.mem_cons_self) hz) (strOk_join hz fun w hw => h w (List.mem_cons_of_mem _ hw))
theorem txt_join (z : Str) (ys : List Str) : Txt.join z ys = Str.join z ys := StrLaws.glued_eq_join z ys
theorem mtd_join : MtD X "str.join" joinD := by
  refine ⟨fun v vs H Q => ∃ (z : Str) (a : Addr) (ys : List Str), v = .str z ∧ vs = [.ref a] ∧ SqL X.K H a (ys.map V.str) ∧ (ys.map (·.length)).sum + ys.length * z.length ≤ sizeLine ∧ Q (.str (Txt.join z ys)) H, ?_, ?_⟩
  · intro pins s σ H x xs v us Q I rx r h
    obtain ⟨z, a, ys, rfl, rfl, hq, hl, q⟩ := h
    obtain ⟨t, rfl⟩ := rx
    obtain ⟨u, rfl, ru⟩ := vals1 r
    cases (show u = Value.ref a from ru)
    obtain ⟨its, rv, p, hz⟩ := I.list hq
    have hs : sizeLine = 16777216 := sizeLine_eq
    exact join_list p.isList (by simpa using strsAre_of rv) (by omega) fun t' k => ⟨.str (Txt.join z ys), H, I.tok _, ⟨_, rfl⟩, q⟩
  · intro F H m x xs v vs k d Q s rx rl e w
    unfold joinD at e
    split at e
    · rename_i z m' ds
      obtain ⟨rfl, hz, hk⟩ := rx.str
      obtain ⟨u, rfl, r⟩ := rl.one
      obtain ⟨a, ws, rfl, hq, rr⟩ := r.seqL s
      split at e
      · rename_i ys ey
        split at e
        · rename_i hl
          cases e
          obtain ⟨rfl, hys⟩ := strsD_rep rr ey
          refine ⟨z, a, ys, rfl, rfl, hq, hl, w _ F H (.refl s) (rp_str ⟨?_, ?_⟩) (by intro z; cases z)⟩
          · rw [txt_join]; exact Nat.le_trans (StrLaws.join_length_le z ys) hl
          · rw [txt_join]; exact strOk_join hk hys
        · cases e
      · cases e
    · cases e
end
/-! ### own defs -/
def spV (K : PySem.W.Frag) (mg : Str → Option Value) (n : Nat) (Φ : List D → Res) : Sp := fun vs H Q E => vs.length = n ∧ ∃ F ds, Same F H ∧ RepL K F ds vs ∧ match Φ ds with
  | .ok m d => m ≠ .bo ∧ ∀ v F' H', Step F H F' H' → Rp K F' H' m d v → (m = .fr → ∀ a, v = .ref a → H a = none) → Q v H'
  | .exc c => ∀ F' H' u, Step F H F' H' → mg c = some u → E u none H'
  | .stuck => False
structure FnV (P : Program) (w : World) (K : PySem.W.Frag) (mg : Str → Option Value) (base : Heap) (CX : CXT) (k : Nat) (x : Str) (n : Nat) (Φ : List D → Res) : Prop where
  ex : ∃ f fd ps, FnOk P w K mg base CX k f fd ps (spV K mg n Φ) ∧ mg x = some (.ref f) ∧ PySem.W.keepIn K (.ref f) = true ∧ Binds K fd ps []
def callF (n : Nat) (Φ : List D → Res) (r : ResL) : Res := r.thn fun xs => match allFz xs with
  | some ds => if ds.length = n then (match Φ ds with | .ok .bo _ => .stuck | r => r) else .stuck
  | none => .stuck
/-- what the body wants of a callee's exception -/
def XOk (CX : CXT) (C : Cw) (X : Cx) : Prop := ∀ (pins : List (Addr × Obj)) (σ : L2.St) (H : Hp) (s : Shared) (e : Value) (s' : Shared), Inv X pins σ H s → CX X.stack H s (fun u _ H' => ∃ c, X.mg c = some u ∧ C.EE c σ H') e s' → X.xe e s'
section
variable {C : Cw} {X : Cx} {e : Expr} {es : List Expr} {gs : Rho → ResL} {p pos : Pos} {x : Str} {k n : Nat} {Φ : List D → Res} {CX : CXT}
theorem run_V {f : Addr} {fd : FuncData} {ps : List Str} {pins : List (Addr × Obj)} {σ : L2.St} {H : Hp} {s : Shared} {Q : VK} {us : List Value} {vs : List V} {E : XK} (F : FnOk X.prog X.w X.K X.mg X.base CX k f fd ps (spV X.K X.mg n Φ)) (hr : Room k X.A) (hb : Binds X.K fd ps [])
    (hx : ∀ e s', CX X.stack H s E e s' → X.xe e s') (I : Inv X pins σ H s) (r : Vals vs us) (h : spV X.K X.mg n Φ vs H Q E) : wpAny (model X.prog X.w) X.A (call (.ref f) us) (EP X pins σ Q) X.xe s := by
  have hl : (us ++ []).length = ps.length := by rw [List.append_nil, ← r.length]; exact F.len _ _ _ _ h
  have hb' := hb s us I.kIn hl
  rw [List.append_nil] at hb'
  refine wpAny_call (codeAny_mono (F.run X.A X.stack s H ⟨us, []⟩ us vs Q E hr I.env0 hb' r h) fun r s' hq => ?_)
  cases r with
  | error e => exact hx e s' hq
  | ok fl =>
    cases fl with
    | ret u => exact I.after hq
    | next => exact False.elim hq
    | brk => exact False.elim hq
    | cont => exact False.elim hq
theorem pv_call (F : FnV X.prog X.w X.K X.mg X.base CX k x n Φ) (hr : Room k X.A) (hx : XOk CX (C.at X) X) (hg : Gl X x) (ha : PAv C X (e :: es) gs)
    (hdb : (x == ("__debug__" : Str)) = false := by decide) (he : starEach (e :: es) X.env = (false, eval e X.env) :: starEach es X.env := by rfl) (hpl : (backTo pos (starEach es X.env)).any (·.1) = false := by rfl) :
    PV C X (.Call (.Name x p) (e :: es) [] pos) (fun ρ => callF n Φ (gs ρ)) := by
  obtain ⟨f, fd, ps, FF, hm, hk, hb⟩ := F.ex
  intro pins s σ H Q I h
  rw [tG_eq] at h
  obtain ⟨ρ, F, R, w⟩ := h
  refine wpAny_Call_Name_kw (ld_glob I hg hm ?_ hdb)
  refine PySem.W.callWith_K (h₀ := X.base) I.ok.mod.kin hk (thn (ha pos pins s σ H (fun vs H1 => spV X.K X.mg n Φ vs H1 Q fun u _ H' => ∃ c, X.mg c = some u ∧ C.EE c σ H') I ?_) fun us s1 ⟨vs, H1, I1, r, q⟩ => ⟨I1.kIn, run_V FF hr hb (fun e s' hc => hx pins σ H1 s1 e s' I1 hc) I1 r q⟩) he hpl
  refine ⟨ρ, F, R, ?_⟩
  cases er : gs ρ with
  | stuck => rw [er] at w; exact w
  | exc c => rw [er] at w; exact w
  | ok xs =>
    rw [er] at w
    intro vs F1 H1 s1 r1
    have w1 : Want (C.at X) F1 H1 σ (callF n Φ (.ok xs)) Q := Want.step s1 w
    unfold callF at w1
    rw [ResL.thn_ok] at w1
    cases ef : allFz xs with
    | none => rw [ef] at w1; exact w1.elim
    | some ds =>
      rw [ef] at w1
      dsimp only at w1
      split at w1
      · rename_i hn
        have rl := r1.fz ef
        refine ⟨by rw [rl.length]; exact hn, F1, ds, s1.sub, rl, ?_⟩
        cases ep : Φ ds with
        | stuck => rw [ep] at w1; exact w1
        | exc c => rw [ep] at w1; exact fun F' H' u st hu => ⟨c, hu, w1 F' H' st⟩
        | ok m d =>
          rw [ep] at w1
          cases m with
          | bo => exact w1.elim
          | fz => exact ⟨by decide, w1⟩
          | fr => exact ⟨by decide, w1⟩
      · exact w1.elim
end
/-! ### a def by its body -/
def endR : SRes → Res
  | .nx _ => .ok .fz .non
  | .rt m d => .ok m d
  | .exc c _ => .exc c
  | _ => .stuck
def startR (n : Nat) (ds : List D) : Rho := ds.map (fun d => some (false, d)) ++ List.replicate (n - ds.length) none
theorem relSt_start {K : PySem.W.Frag} {F H : Hp} {N : List Str} {ds : List D} {vs : List V} (s : Same F H) (r : RepL K F ds vs) : RelSt K F H F H (start N vs) (startR N.length ds) := by
  have low : ∀ (i : Nat) (m : Bool) (d : D), (startR N.length ds)[i]? = some (some (m, d)) → m = false ∧ ∃ v, (start N vs)[i]? = some (some v) ∧ RepV K F d v := fun i m d e => by
    unfold startR at e
    unfold L2.start
    by_cases hi : i < ds.length
    · rw [List.getElem?_append_left (by simpa using hi), List.getElem?_map, List.getElem?_eq_getElem hi] at e
      cases e
      obtain ⟨v, ev, rv⟩ := r.get' (List.getElem?_eq_getElem hi)
      exact ⟨rfl, v, by rw [List.getElem?_append_left (by simpa [r.length] using hi), List.getElem?_map, ev]; rfl, rv⟩
    · rw [List.getElem?_append_right (by simpa using hi), List.getElem?_replicate] at e
      split at e <;> cases e
  refine ⟨.refl s, fun i m d e => ?_, fun i j d d' a _ e1 _ _ _ => ?_, by simp [L2.start, startR, r.length]⟩
  · obtain ⟨rfl, v, e1, rv⟩ := low i m d e
    exact ⟨v, e1, rv, by intro z; cases z⟩
  · have := (low i true d e1).1; cases this
/-! ### the law's own head -/
def lawIn (ns : List Int) : List D := [.lst (ns.map .int)]
theorem repL_ints {K : PySem.W.Frag} {F : Hp} : ∀ ns : List Int, RepL K F (ns.map D.int) (ns.map V.int)
  | [] => RepL.nil
  | n :: ns => RepL.cons (by simp only [RepV]) (repL_ints ns)
end D3

namespace D3
open PySem PySem.Spec PyProof.Rows L2
/-! ### short names for the writer of proofs -/
def noK : Md → D → Md → D → Option (Md × D) := fun _ _ _ _ => none
abbrev fAdd : Md → D → Md → D → Option (Md × D) := orO (fI (fun _ _ => true) fun i j => .int (i + j)) (fS (fun i j => decide (i.length + j.length ≤ sizeLine)) fun i j => .str (i ++ j))
abbrev fSub : Md → D → Md → D → Option (Md × D) := fI (fun _ _ => true) fun i j => .int (i - j)
abbrev fMul : Md → D → Md → D → Option (Md × D) := orO (fI (fun i j => (bits i && bits j) || (w64 i || w64 j)) fun i j => .int (i * j)) mulS
abbrev fMod : Md → D → Md → D → Option (Md × D) := fI (fun _ j => decide (0 < j)) fun i j => .int (i % j)
abbrev fDiv : Md → D → Md → D → Option (Md × D) := fI (fun _ j => decide (0 < j) && bits j) fun i j => .int (i / j)
abbrev fPow : Md → D → Md → D → Option (Md × D) := fI (fun i j => decide (0 ≤ j) && decide (j ≤ 1000000) && decide (i.natAbs < 2 ^ 64)) fun i j => .int (i ^ j.toNat)
abbrev fLt : Md → D → Md → D → Option (Md × D) := fI (fun _ _ => true) fun i j => .bl (decide (i < j))
abbrev fLe : Md → D → Md → D → Option (Md × D) := fI (fun _ _ => true) fun i j => .bl (decide (i ≤ j))
abbrev fGt : Md → D → Md → D → Option (Md × D) := fI (fun _ _ => true) fun i j => .bl (decide (j < i))
abbrev fGe : Md → D → Md → D → Option (Md × D) := fI (fun _ _ => true) fun i j => .bl (decide (j ≤ i))
abbrev fEq : Md → D → Md → D → Option (Md × D) := orO (eqF false) noK
abbrev fNe : Md → D → Md → D → Option (Md × D) := orO (eqF true) noK
abbrev fIn : Md → D → Md → D → Option (Md × D) := fS (fun _ _ => true) fun i j => .bl (isIn i j)
abbrev fNotIn : Md → D → Md → D → Option (Md × D) := fS (fun _ _ => true) fun i j => .bl (!isIn i j)
def IsB (φ : Md → D → Md → D → Option (Md × D)) : Prop := ∀ m x n y k d, φ m x n y = some (k, d) → ∃ t, k = .fz ∧ d = .bl t
theorem isB_I {c : Int → Int → Bool} {g : Int → Int → Bool} : IsB (fI c fun i j => .bl (g i j)) := fun m x n y k d e => by
  unfold fI at e
  split at e
  · split at e
    · cases e; exact ⟨_, rfl, rfl⟩
    · cases e
  · cases e
theorem isB_S {c : Str → Str → Bool} {g : Str → Str → Bool} : IsB (fS c fun i j => .bl (g i j)) := fun m x n y k d e => by
  unfold fS at e
  split at e
  · split at e
    · cases e; exact ⟨_, rfl, rfl⟩
    · cases e
  · cases e
theorem isB_or {φ ψ} (h : IsB φ) (h' : IsB ψ) : IsB (orO φ ψ) := fun m x n y k d e => by
  unfold orO at e
  cases e1 : φ m x n y with
  | none => rw [e1] at e; exact h' _ _ _ _ _ _ e
  | some p => rw [e1] at e; cases e; exact h _ _ _ _ _ _ e1
theorem isB_eqF {neg : Bool} : IsB (eqF neg) := fun m x n y k d e => by
  unfold eqF at e
  split at e
  · split at e
    · cases e; exact ⟨_, rfl, rfl⟩
    · cases e
  · cases e
section
variable {C : Cw} {X : Cx}
theorem opd_noK {f : Value → Value → Sem Value} : OpD C X f noK := ⟨fun _ _ _ _ => False, fun _ _ _ _ _ _ _ _ _ _ _ _ h => h.elim, fun _ _ _ _ _ _ _ _ _ _ _ _ _ _ e _ => by cases e⟩
theorem o_add : OpD C X (binaryOp .Add) fAdd := opd_add.or opd_addS
theorem o_mul : OpD C X (binaryOp .Mult) fMul := opd_mul.or opd_mulS
theorem o_eq (hu : X.A.units + 64 < cLine) : OpD C X (compareOp .Eq) fEq := (opd_eq hu).or opd_noK
theorem o_ne (hu : X.A.units + 64 < cLine) : OpD C X (compareOp .NotEq) fNe := (opd_ne hu).or opd_noK
/-- a def by its body -/
def phi (n N : Nat) (g : Rho → SRes) : List D → Res := fun ds => if ds.length = n then endR (g (startR N ds)) else .stuck
end
/-! comprehensions: one check -/
def relSc (scope sc : Scope) : List (Str × NameKind) := scope.names.map fun (n, k) => if (k == .free && sc.kind == .function && sc.names.lookup n == some .cell) then (n, .cell) else (n, k)
theorem bb_len : bootBuiltins "len" = some (.builtin "len") := by decide +kernel
theorem bb_isinstance : bootBuiltins "isinstance" = some (.builtin "isinstance") := by decide +kernel
theorem bb_all : bootBuiltins "all" = some (.builtin "all") := by decide +kernel
theorem bb_int : bootBuiltins "int" = some (.type "int") := by decide +kernel
theorem bb_bool : bootBuiltins "bool" = some (.type "bool") := by decide +kernel
theorem bb_str : bootBuiltins "str" = some (.type "str") := by decide +kernel
theorem bb_tuple : bootBuiltins "tuple" = some (.type "tuple") := by decide +kernel
theorem bb_list : bootBuiltins "list" = some (.type "list") := by decide +kernel
theorem bb_dict : bootBuiltins "dict" = some (.type "dict") := by decide +kernel
end D3

namespace D3
open PySem PySem.Spec PyProof.Rows L2
/-! ### own classes: what stands there -/
structure CI where
  name : Str
  ups : List Str
  flds : List Str
  meths : List (Str × Str × Nat)
def notStar : Expr → Bool | .Starred .. => false | _ => true
def notSup : Expr → Bool | .Call (.Name x _) [] [] _ => x != "super" | _ => true
theorem star_cons {x : Expr} {es : List Expr} {env : Env} (h : notStar x = true) : starEach (x :: es) env = (false, eval x env) :: starEach es env := by
  cases x <;> first | rfl | cases h
theorem star_any (pos : Pos) (env : Env) : ∀ {es : List Expr}, (∀ x ∈ es, notStar x = true) → (backTo pos (starEach es env)).any (·.1) = false
  | [], _ => rfl
  | x :: es, h => by
    rw [star_cons (h x List.mem_cons_self)]
    show ((false || (backTo pos (starEach es env)).any (·.1)) = false)
    rw [star_any pos env fun y hy => h y (List.mem_cons_of_mem _ hy)]; rfl
theorem star_all (pos : Pos) (env : Env) : ∀ {es : List Expr}, (∀ x ∈ es, notStar x = true) → (backTo pos (starEach es env)).all (fun x => !x.1) = true
  | [], _ => rfl
  | x :: es, h => by
    rw [star_cons (h x List.mem_cons_self)]
    show ((true && (backTo pos (starEach es env)).all (fun x => !x.1)) = true)
    rw [star_all pos env fun y hy => h y (List.mem_cons_of_mem _ hy)]; rfl
theorem attrBase {o : Expr} {n : Str} {env : Env} {w : Sem Value} (h : notSup o = true) : attributeBase o n env w = w := by
  cases o with
  | Call f as ks pos =>
    cases f with
    | Name x p =>
      cases as with
      | nil =>
        cases ks with
        | nil =>
          show (if x != "super" || n == "__class__" || env.kindOf "super" != some .globalImplicit || env.kindOf "__class__" != some .free then w else _) = w
          have : (x != ("super" : Str)) = true := h
          rw [if_pos (by rw [this]; rfl)]
        | cons _ _ => rfl
      | cons _ _ => rfl
    | _ => rfl
  | _ => rfl
theorem meth_eval {o : Expr} {m : Str} {apos pos : Pos} {args : List Expr} {env : Env} (hb : notSup o = true) (hst : ∀ x ∈ args, notStar x = true) (hn : args.length < 30) (hl : apos.endLine = pos.line) :
    eval (.Call (.Attribute o m apos) args [] pos) env = (do
      let ov ← eval o env
      standAt apos.atName
      let (f, first) ← holding [ov] (getMethod ov m (do return (← importBound o env).getD true))
      callWith pos f first (backTo pos (starEach args env)) (backToKw pos (keywordEach [] env))) := by
  have few : methodCallForm (args.length + ([] : List Keyword).length) (backTo pos (starEach args env)) (backToKw pos (keywordEach [] env)) = true := by
    unfold methodCallForm
    rw [star_all pos env hst]
    show (true && true && decide (args.length + 0 + 0 < 30)) = true
    rw [decide_eq_true (by omega)]; rfl
  show (do
    let ov ← attributeBase o m env (eval o env)
    standAt apos.atName
    methodCall o m apos pos env ov (args.length + ([] : List Keyword).length) (backTo pos (starEach args env)) (backToKw pos (keywordEach [] env))) = _
  rw [attrBase hb]
  unfold methodCall
  rw [few]
  have hp : methodCallPos true o env apos pos = pure pos := by
    unfold methodCallPos
    rw [if_pos (by rw [hl]; simp)]
  rw [hp]
  show (do
    let ov ← eval o env
    standAt apos.atName
    let (f, first) ← holding [ov] (getMethod ov m (do return (← importBound o env).getD true))
    let callPos ← pure pos
    callWith callPos f first (backTo pos (starEach args env)) (backToKw pos (keywordEach [] env))) = _
  simp only [pure_bind]
/-- the method m of the class c -/
structure MtV (P : Program) (w : World) (K : PySem.W.Frag) (mg : Str → Option Value) (base : Heap) (CX : CXT) (k : Nat) (c m : Str) (n : Nat) (Φ : List D → Res) : Prop where
  ex : ∃ C f fd ps, PySem.W.nsIn K mainGlobals c = some (some (.ref C)) ∧ Cls K C ∧ Meth K C m f ∧ FnOk P w K mg base CX k f fd ps (spV K mg n Φ) ∧ Binds K fd ps []
/-- a class's own attributes of its objects -/
structure FlV (K : PySem.W.Frag) (c f : Str) : Prop where
  ex : ∃ C, PySem.W.nsIn K mainGlobals c = some (some (.ref C)) ∧ Cls K C ∧ NoAttr K C f
def CI.meth (cl : List CI) (c m : Str) : Option (Str × Nat) := match cl.find? (fun i => i.name == c) with
  | some i => i.meths.lookup m
  | none => none
def methR (cl : List CI) (Φ : Str → List D → Res) (m : Str) (o : Res) (as : ResL) : Res := o.thn fun md d => match md, d with
  | .fz, .ins c fs => (match CI.meth cl c m with
    | some (key, n) => if fs.lookup m = none then callF n (Φ key) (consL (.ok .fz (.ins c fs)) as) else .stuck
    | none => .stuck)
  | _, _ => .stuck
section
variable {C : Cw} {X : Cx} {o e : Expr} {es : List Expr} {go : Rho → Res} {gs : Rho → ResL} {apos pos : Pos} {m f : Str} {k : Nat} {Φ : Str → List D → Res} {CX : CXT} {cl : List CI}
theorem methcall_V (hM : ∀ c m key n, CI.meth cl c m = some (key, n) → MtV X.prog X.w X.K X.mg X.base CX k c m n (Φ key)) (hr : Room k X.A) (hx : XOk CX (C.at X) X) (ho : PV C X o go) (ha : PAv C X es gs) (hb : notSup o = true) (hst : ∀ x ∈ es, notStar x = true) (hn : es.length < 30) (hl : apos.endLine = pos.line) (hes : es = [] → gs = fun _ => .ok []) :
    PV C X (.Call (.Attribute o m apos) es [] pos) (fun ρ => methR cl Φ m (go ρ) (gs ρ)) := by
  intro pins s σ H Q I q
  rw [tG_eq] at q
  obtain ⟨ρ, F, R, w⟩ := q
  refine methcall_of (pl := (do return (← importBound o X.env).getD true)) ho I ?_ (meth_eval hb hst hn hl)
  show tG (C.at X) go σ H _
  rw [tG_eq]
  refine ⟨ρ, F, R, ?_⟩
  cases er : go ρ with
  | stuck => rw [er] at w; exact w
  | exc c => rw [er] at w; exact w
  | ok md d =>
    rw [er] at w
    intro v F1 H1 s1 r1 _
    have w1 : Want (C.at X) F1 H1 σ (methR cl Φ m (.ok md d) (gs ρ)) Q := Want.step s1 w
    unfold methR at w1
    rw [Res.thn_ok] at w1
    cases md with
    | fr => exact w1.elim
    | bo => exact w1.elim
    | fz =>
    cases d with
    | ins c fs =>
      dsimp only at w1
      cases em : CI.meth cl c m with
      | none => rw [em] at w1; exact w1.elim
      | some kn =>
        obtain ⟨key, n⟩ := kn
        rw [em] at w1
        dsimp only at w1
        split at w1
        · rename_i hnl
          obtain ⟨C', f', fd, ps, n1, cl', me, FO, hbd⟩ := (hM c m key n em).ex
          have r1' := r1
          obtain ⟨a, C2, dx, gs', ev, n2, ea, rf⟩ := r1.ins s1.sub
          rw [n1] at n2; cases n2
          subst ev
          refine ⟨a, C', dx, gs', f', rfl, ea, cl', me, rf.lookN hnl, fun s1' I1 => ?_⟩
          have fin : ∀ (vs : List V) (us : List Value) (s2 : Shared) (F2 H2 : Hp) (xs : List (Md × D)), Step F1 H1 F2 H2 → RpL X.K F2 H2 xs vs → Inv X pins σ H2 s2 → Vals vs us → gs ρ = .ok xs → wpAny (model X.prog X.w) X.A (call (.ref f') (.ref a :: us)) (EP X pins σ Q) X.xe s2 := by
            intro vs us s2 F2 H2 xs s2' rl I2 rv eg
            rw [eg] at w1
            have w2 : Want (C.at X) F2 H2 σ (callF n (Φ key) (consL (.ok .fz (.ins c fs)) (.ok xs))) Q := Want.step s2' w1
            rw [consL_ok] at w2
            unfold callF at w2
            rw [ResL.thn_ok] at w2
            have rl2 : RpL X.K F2 H2 ((.fz, .ins c fs) :: xs) (.ref a :: vs) := ⟨_, _, rfl, r1'.step s2', rl⟩
            cases ef : allFz ((.fz, .ins c fs) :: xs) with
            | none => rw [ef] at w2; exact w2.elim
            | some ds =>
              rw [ef] at w2
              dsimp only at w2
              split at w2
              · rename_i hnn
                have rl3 := rl2.fz ef
                refine run_V (E := fun u _ H' => ∃ c, X.mg c = some u ∧ C.EE c σ H') (vs := .ref a :: vs) (us := .ref a :: us) FO hr hbd (fun e s' hc => hx pins σ H2 s2 e s' I2 hc) I2 (.cons rfl rv) ⟨by rw [rl3.length]; exact hnn, F2, ds, s2'.sub, rl3, ?_⟩
                cases ep : Φ key ds with
                | stuck => rw [ep] at w2; exact w2
                | exc c => rw [ep] at w2; exact fun F' H' u st hu => ⟨c, hu, w2 F' H' st⟩
                | ok m d =>
                  rw [ep] at w2
                  cases m with
                  | bo => exact w2.elim
                  | fz => exact ⟨by decide, w2⟩
                  | fr => exact ⟨by decide, w2⟩
              · exact w2.elim
          cases es with
          | nil =>
            refine PySem.W.callWith_K0 (first := [.ref a]) I1.kIn me.kp ?_
            have eg : gs ρ = .ok [] := by rw [hes rfl]
            exact fin [] [] s1' F1 H1 [] (.refl s1.sub) rfl I1 .nil eg
          | cons e es =>
            refine PySem.W.callWith_K (first := [.ref a]) (h₀ := X.base) I.ok.mod.kin me.kp (thn (ha pos pins s1' σ H1 (fun vs H2 => ∃ F2 xs, Step F1 H1 F2 H2 ∧ RpL X.K F2 H2 xs vs ∧ gs ρ = .ok xs) I1 ?_) fun us s2 ⟨vs, H2, I2, r, F2, xs, st2, rl, eg⟩ => ⟨I2.kIn, ?_⟩) (star_cons (hst e List.mem_cons_self)) (star_any _ _ fun y hy => hst y (List.mem_cons_of_mem _ hy))
            · refine ⟨ρ, F1, R.step s1, ?_⟩
              cases eg : gs ρ with
              | stuck => rw [eg] at w1; exact w1
              | exc c => rw [eg] at w1; exact w1
              | ok xs => exact fun vs F2 H2 s2 rl => ⟨F2, xs, s2, rl, rfl⟩
            · exact fin vs us s2 F2 H2 xs st2 rl I2 r eg
        · exact w1.elim
    | _ => exact w1.elim
end
end D3

namespace D3
open PySem PySem.Spec PyProof.Rows L2
/-! ### an owned thing changes -/
theorem RelSt.mut {K : PySem.W.Frag} {F0 H0 F H : Hp} {σ : L2.St} {ρ : Rho} {i : Nat} {d d' : D} {a : Addr} {o : HO} (R : RelSt K F0 H0 F H σ ρ) (e : ρ[i]? = some (some (true, d))) (ev : σ[i]? = some (some (.ref a)))
    (t : Top K F (upd H a o) a d') : RelSt K F0 H0 F (upd H a o) σ (ρ.set i (some (true, d'))) := by
  obtain ⟨v, ev', rp, hn⟩ := R.slot i true d e
  rw [ev] at ev'
  cases ev'
  have h0 : H0 a = none := hn rfl a rfl
  obtain ⟨a', ea, hf, tt⟩ := rp
  cases ea
  have hl : i < ρ.length := (List.getElem?_eq_some_iff.mp e).1
  have st : Step F0 H0 F (upd H a o) := ⟨fun b u q => by rw [upd_ne (ne_of_none q h0)]; exact R.st.same b u q, R.st.fsame, fun b u q => by rw [upd_ne (ne_of_none q hf)]; exact R.st.sub b u q, R.st.new⟩
  refine ⟨st, fun j m d2 e2 => ?_, fun j l d1 d2 b hjl e1 e2 q1 q2 => ?_, by rw [List.length_set]; exact R.len⟩
  · by_cases hj : j = i
    · subst hj
      rw [List.getElem?_set_self hl] at e2
      cases e2
      exact ⟨.ref a, ev, ⟨a, rfl, hf, t⟩, fun _ b eb => by cases eb; exact h0⟩
    · rw [List.getElem?_set_ne (fun z => hj z.symm)] at e2
      obtain ⟨u, eu, ru, hu⟩ := R.slot j m d2 e2
      refine ⟨u, eu, ?_, hu⟩
      cases m with
      | false => exact ru
      | true =>
        obtain ⟨b, eb, hb, tb⟩ := ru
        subst eb
        have hba : b ≠ a := fun z => by subst z; exact R.apart j i d2 d b hj e2 e eu ev
        refine ⟨b, rfl, hb, ?_⟩
        cases d2 with
        | lst ds => obtain ⟨xs, q, r⟩ := tb; exact ⟨xs, by rw [upd_ne hba]; exact q, r⟩
        | dct ds => obtain ⟨xs, q, r⟩ := tb; exact ⟨xs, by rw [upd_ne hba]; exact q, r⟩
        | ins c fs => obtain ⟨C, dx, gs, n, q, r⟩ := tb; exact ⟨C, dx, gs, n, by rw [upd_ne hba]; exact q, r⟩
        | set ks => obtain ⟨S, q, r⟩ := tb; exact ⟨S, by rw [upd_ne hba]; exact q, r⟩
        | _ => exact tb.elim
  · have back : ∀ (l : Nat) (d2 : D), (ρ.set i (some (true, d')))[l]? = some (some (true, d2)) → ∃ d3, ρ[l]? = some (some (true, d3)) := fun l d2 q => by
      by_cases hl' : l = i
      · subst hl'; exact ⟨d, e⟩
      · rw [List.getElem?_set_ne (fun z => hl' z.symm)] at q; exact ⟨d2, q⟩
    obtain ⟨d3, q3⟩ := back j d1 e1
    obtain ⟨d4, q4⟩ := back l d2 e2
    exact R.apart j l d3 d4 b hjl q3 q4 q1 q2
def putFD (f : Str) (v : D) : List (Str × D) → List (Str × D)
  | [] => [(f, v)]
  | (g, u) :: r => if g = f then (g, v) :: r else (g, u) :: putFD f v r
section
variable {C : Cw} {X : Cx} {e : Expr} {g : Rho → Res} {pos p pos' : Pos} {f x : Str} {cl : List CI}
end
/-! ### new objects -/
structure MkV0 (K : PySem.W.Frag) (mg : Str → Option Value) (c : Str) : Prop where
  ex : ∃ C, PySem.W.nsIn K mainGlobals c = some (some (.ref C)) ∧ mg c = some (.ref C) ∧ PySem.W.makesIn K C = true ∧ PySem.W.findIn K (.ref C) "__init__" = some (some (.builtin "object.__init__")) ∧ PySem.W.keepIn K (.ref C) = true
theorem pe_mk0 {X : Cx} {C : Addr} {x : Str} {p pos : Pos} (hm : X.mg x = some (.ref C)) (h1 : PySem.W.makesIn X.K C = true) (h2 : PySem.W.findIn X.K (.ref C) "__init__" = some (some (.builtin "object.__init__"))) (h3 : PySem.W.keepIn X.K (.ref C) = true)
    (hg : Gl X x) (hdb : (x == ("__debug__" : Str)) = false) : PE X (.Call (.Name x p) [] [] pos) (fun σ H Q => ∀ a dx, H a = none → H dx = none → dx ≠ a → Q (.ref a) (upd (upd H dx (.own a)) a (.ins C dx []))) := by
  intro pins s σ H Q I h
  refine wpAny_Call_Name_kw (ld_glob I hg hm ?_ hdb)
  refine PySem.W.callWith_K0 I.kIn h3 (wpAny_call (make_map0 I.kIn h1 h2 (fun self => PySem.W.Looks.of_pure (PySem.W.oi_bind self)) ?_))
  have I2 := Inv.made (C := C) I
  have Y := PySem.W.makes_of (M := model X.prog X.w) I.kIn h1
  have hh : ((s.heap.push PySem.W.emptyDict).push (PySem.W.instObj C s.heap.objs.size)).get? (s.heap.objs.size + 1) = some (PySem.W.instObj C s.heap.objs.size) := by
    have := Heap.get?_push_size (s.heap.push PySem.W.emptyDict) (o := PySem.W.instObj C s.heap.objs.size) rfl
    rwa [Heap.size_push] at this
  have t1 : PySem.W.Looks (model X.prog X.w) ((s.heap.push PySem.W.emptyDict).push (PySem.W.instObj C s.heap.objs.size)) (typeOf (.ref (s.heap.objs.size + 1))) (.ref C) := (PySem.W.Looks.ld hh).andThen .now
  have t2 : PySem.W.Looks (model X.prog X.w) ((s.heap.push PySem.W.emptyDict).push (PySem.W.instObj C s.heap.objs.size)) (isInstance (.ref (s.heap.objs.size + 1)) (.type "object")) true := t1.andThen (Y.top.keeps fun b o e => Heap.get?_push_of_some _ (Heap.get?_push_of_some _ e))
  refine codeAny_call_builtin PySem.W.oi_plain PySem.W.entry_oi (@PySem.W.check_slot (model X.prog X.w) _ _ _ "object.__init__" "object" "__init__" (.ref (s.heap.objs.size + 1)) [] [] _ PySem.W.oi_kind PySem.W.oi_split t2 (PySem.W.oi_args (.ref (s.heap.objs.size + 1))) ?_)
  rw [PySem.W.oi_run]
  refine wpAny_pure (And.intro rfl ⟨.ref (s.heap.objs.size + 1), _, I2, rfl, ?_⟩)
  exact h (s.heap.objs.size + 1) s.heap.objs.size (I.hok.fresh (Nat.le_succ _)) (I.hok.fresh (Nat.le_refl _)) (Nat.ne_of_lt (Nat.lt_succ_self _))
theorem step_made {F H : Hp} {a dx C : Addr} (s : Same F H) (ha : H a = none) (hd : H dx = none) (hne : dx ≠ a) : Step F H F (upd (upd H dx (.own a)) a (.ins C dx [])) := by
  have s1 := Step.fresh (.own a) s hd
  refine s1.trans (Step.fresh _ s1.sub ?_)
  rw [upd_ne (fun z => hne z.symm)]; exact ha
theorem pv_mk0 {C : Cw} {X : Cx} {c : Str} {p pos : Pos} (M : MkV0 X.K X.mg c) (hg : Gl X c) (hdb : (c == ("__debug__" : Str)) = false) : PV C X (.Call (.Name c p) [] [] pos) (fun _ => .ok .fr (.ins c [])) := by
  obtain ⟨C', n, hm, h1, h2, h3⟩ := M.ex
  refine PE.imp (pe_mk0 hm h1 h2 h3 hg hdb) fun σ H Q q => ?_
  rw [tG_eq] at q
  obtain ⟨ρ, F, R, w⟩ := q
  intro a dx ha hd hne
  refine w (.ref a) F _ (step_made R.sub ha hd hne) ⟨a, rfl, R.sub.free ha, C', dx, [], n, upd_same, ?_⟩ fun _ b eb => by cases eb; exact ha
  simp only [RepF]
end D3

namespace D3
open PySem PySem.Spec PyProof.Rows L2
/-! ### objects made by an own __init__ -/
def spI (K : PySem.W.Frag) (mg : Str → Option Value) (c : Str) (n : Nat) (Φ : List D → Res) : Sp := fun vs H Q E => ∃ x us dx C H1 F ds, vs = .ref x :: us ∧ us.length = n ∧ PySem.W.nsIn K mainGlobals c = some (some (.ref C)) ∧
  H = upd (upd H1 dx (.own x)) x (.ins C dx []) ∧ H1 x = none ∧ H1 dx = none ∧ dx ≠ x ∧ Same F H1 ∧ RepL K F ds us ∧ match Φ ds with
  | .ok _ d => ∀ F' H', Step F H1 F' H' → Rp K F' H' .fr d (.ref x) → Q .non H'
  | .exc c => ∀ F' H' u, Step F H1 F' H' → mg c = some u → E u none H'
  | .stuck => False
structure InV (P : Program) (w : World) (K : PySem.W.Frag) (mg : Str → Option Value) (base : Heap) (CX : CXT) (k : Nat) (c : Str) (n : Nat) (Φ : List D → Res) : Prop where
  ex : ∃ C f fd ps, PySem.W.nsIn K mainGlobals c = some (some (.ref C)) ∧ mg c = some (.ref C) ∧ Mk K C f ∧ FnOk P w K mg base CX k f fd ps (spI K mg c n Φ) ∧ Binds K fd ps []
section
variable {C : Cw} {X : Cx} {e : Expr} {es : List Expr} {gs : Rho → ResL} {p pos : Pos} {x c : Str} {k n : Nat} {Φ : List D → Res} {CX : CXT}
end
end D3

namespace D3
open PySem PySem.Spec PyProof.Rows L2
/-! ### isinstance by an own class -/
/-- class c of the text: its answer for each of Python's own kinds is no; for the classes of cl by their ups -/
structure IsV (K : PySem.W.Frag) (mg : Str → Option Value) (cl : List CI) (c : Str) : Prop where
  ex : ∃ C, mg c = some (.ref C) ∧ (∀ t ∈ ["NoneType", "bool", "int", "str", "tuple", "list", "dict"], PySem.W.kitOne K (.type t) (.ref C) = some false) ∧
    ∀ i ∈ cl, ∃ C', PySem.W.nsIn K mainGlobals i.name = some (some (.ref C')) ∧ Cls K C' ∧ PySem.W.findIn K (.ref C') "__class__" = some (some (.builtin "object.__class__")) ∧
      PySem.W.specialIn K (.builtin "object.__class__") "__get__" = some (some (.builtin "getset_descriptor.__get__")) ∧ PySem.W.takesIn K (.builtin "object.__class__") = some true ∧ PySem.W.mroIn K C' (.type "object") = some true ∧
      PySem.W.kitOne K (.ref C') (.ref C) = some (i.ups.contains c)
def isoR (cl : List CI) (c : Str) (r : Res) : Res := r.thn fun _ d => match d with
  | .ins x _ => (match cl.find? (fun i => i.name == x) with | some i => .ok .fz (.bl (i.ups.contains c)) | none => .stuck)
  | d => (match tyN d with | some _ => .ok .fz (.bl false) | none => .stuck)
section
variable {C : Cw} {X : Cx} {e : Expr} {g : Rho → Res} {p q pos : Pos} {c : Str} {cl : List CI}
/-- isinstance(e, c) -/
theorem pv_isi (hI : IsV X.K X.mg cl c) (hg : Gl X "isinstance") (hn : X.mg "isinstance" = none) (hgc : Gl X c) (hdb : (c == ("__debug__" : Str)) = false) (he : PV C X e g) (hs : notStar e = true) :
    PV C X (.Call (.Name "isinstance" p) [e, .Name c q] [] pos) (fun ρ => isoR cl c (g ρ)) := by
  obtain ⟨C', hm, hty, hcl⟩ := hI.ex
  have ha : PA X [e, .Name c q] (tCons (tG (C.at X) g) (tCons (tC (.ref C')) tNil)) := pa_cons he (pa_cons (pe_glob (v := .ref C') hgc hm rfl hdb) pa_nil) (star_cons hs)
  have hc : CallR X (.builtin "isinstance") (fun vs H Q => ∃ v t b, vs = [v, .ref C'] ∧ (∃ (F : Hp) (m : Md) (d : D), Same F H ∧ Rp X.K F H m d v ∧ isoR cl c (.ok m d) = .ok .fz (.bl b)) ∧ t = () ∧ Q (.bl b) H) := by
    intro pins s σ H vs us Q I r h
    obtain ⟨v, _, b, rfl, ⟨F, m, d, sF, rp, hb⟩, _, hq⟩ := h
    obtain ⟨u, u', rfl, ru, ru'⟩ := vals2 r
    cases (show u' = Value.ref C' from ru')
    have fin : ∀ tk, EP X pins σ Q (.bool b) { s with toks := tk } := fun tk => ⟨.bl b, H, I.tok _, rfl, hq⟩
    unfold isoR at hb
    rw [Res.thn_ok] at hb
    cases d with
    | non => cases hb; cases rp.non; cases (show u = Value.none from ru); exact PySem.W.kia_one PySem.W.kitx_none I.kIn True.intro (hty _ (by decide)) (fun z => nomatch z) fin
    | bl y => cases hb; cases rp.bl; cases (show u = Value.bool y from ru); exact PySem.W.kia_one PySem.W.kitx_bool I.kIn True.intro (hty _ (by decide)) (fun z => nomatch z) fin
    | int i => cases hb; cases rp.int; obtain ⟨t, q⟩ := (show ∃ t, u = Value.int i t from ru); cases q; exact PySem.W.kia_one PySem.W.kitx_int I.kIn True.intro (hty _ (by decide)) (fun z => nomatch z) fin
    | str y => cases hb; obtain ⟨rfl, _⟩ := rp.str; obtain ⟨t, q⟩ := (show ∃ t, u = Value.str y t from ru); cases q; exact PySem.W.kia_one PySem.W.kitx_str I.kIn True.intro (hty _ (by decide)) (fun z => nomatch z) fin
    | tup ds =>
      cases hb
      obtain ⟨a, xs, rfl, hq', _⟩ := rp.seqT sF
      cases (show u = Value.ref a from ru)
      obtain ⟨its, _, ⟨o, h1, h2, _⟩, _⟩ := I.tuple hq'
      exact PySem.W.kia_one PySem.W.kitx_tuple I.kIn ⟨o, h1, h2⟩ (hty _ (by decide)) (fun z => nomatch z) fin
    | lst ds =>
      cases hb
      obtain ⟨a, xs, rfl, hq', _⟩ := rp.seqL sF
      cases (show u = Value.ref a from ru)
      obtain ⟨its, _, ⟨o, n, h1, h2, _⟩, _⟩ := I.list hq'
      exact PySem.W.kia_one PySem.W.kitx_list I.kIn ⟨o, h1, h2⟩ (hty _ (by decide)) (fun z => nomatch z) fin
    | dct ds =>
      cases hb
      obtain ⟨a, xs, rfl, hq', _⟩ := rp.dict sF
      cases (show u = Value.ref a from ru)
      obtain ⟨_, _, vs, _, p⟩ := (show ObjOk X.prog X.w H s.heap a (.dK xs) from I.hok a _ hq')
      obtain ⟨o, es, ep, h1, h2, _⟩ := p
      exact PySem.W.kia_one PySem.W.kitx_dict I.kIn ⟨o, h1, h2.1⟩ (hty _ (by decide)) (fun z => nomatch z) fin
    | ins x fs =>
      dsimp only at hb
      cases ef : cl.find? (fun i => i.name == x) with
      | none => rw [ef] at hb; cases hb
      | some i =>
        rw [ef] at hb
        cases hb
        have hi : i.name = x := by simpa using List.find?_some ef
        obtain ⟨C2, n1, cc, f1, f2, f3, f4, f5⟩ := hcl i (List.mem_of_find?_eq_some ef)
        rw [hi] at n1
        obtain ⟨a, C3, dx, gs, rfl, n2, ea, _⟩ := rp.ins sF
        rw [n1] at n2; cases n2
        exact isinst_ok I ru (.ins ea cc f1 f2 f3 f4) f5 fin
    | ty n => cases hb
    | exn n => cases hb
    | set n => cases hb
    | ob a => cases hb
    | fn a => cases hb
  refine PE.imp (pe_callB hc hg hn bb_isinstance ha (by decide) (by decide) (star_cons hs) rfl) fun σ H Q qq => ?_
  rw [tG_eq] at qq
  obtain ⟨ρ, F, R, w⟩ := qq
  unfold tCB tCons
  rw [tG_eq]
  refine ⟨ρ, F, R, ?_⟩
  cases er : g ρ with
  | stuck => rw [er] at w; exact w
  | exc c => rw [er] at w; exact w
  | ok m d =>
    rw [er] at w
    intro v F1 H1 s1 r1 _
    have w1 : Want (C.at X) F1 H1 σ (isoR cl c (.ok m d)) Q := Want.step s1 w
    cases eb : isoR cl c (.ok m d) with
    | stuck => rw [eb] at w1; exact w1.elim
    | exc c' =>
      exfalso
      unfold isoR at eb
      rw [Res.thn_ok] at eb
      cases d with
      | ins x fs => dsimp only at eb; cases ef : cl.find? (fun i => i.name == x) <;> rw [ef] at eb <;> cases eb
      | _ => cases eb
    | ok m' d' =>
      have : ∃ b, m' = .fz ∧ d' = .bl b := by
        unfold isoR at eb
        rw [Res.thn_ok] at eb
        cases d with
        | ins x fs => dsimp only at eb; cases ef : cl.find? (fun i => i.name == x) with
          | none => rw [ef] at eb; cases eb
          | some i => rw [ef] at eb; cases eb; exact ⟨_, rfl, rfl⟩
        | non => cases eb; exact ⟨_, rfl, rfl⟩
        | bl _ => cases eb; exact ⟨_, rfl, rfl⟩
        | int _ => cases eb; exact ⟨_, rfl, rfl⟩
        | str _ => cases eb; exact ⟨_, rfl, rfl⟩
        | tup _ => cases eb; exact ⟨_, rfl, rfl⟩
        | lst _ => cases eb; exact ⟨_, rfl, rfl⟩
        | dct _ => cases eb; exact ⟨_, rfl, rfl⟩
        | _ => cases eb
      obtain ⟨b, rfl, rfl⟩ := this
      rw [eb] at w1
      exact ⟨v, (), b, rfl, ⟨F1, m, d, s1.sub, r1, eb⟩, rfl, w1 _ F1 H1 (.refl s1.sub) (rp_bl _) (by intro z; cases z)⟩
end
end D3

namespace D3
open PySem PySem.Spec PyProof.Rows L2
section
variable {C : Cw} {X : Cx} {a b c e : Expr} {ga gb gc g : Rho → Res} {gs : Rho → ResL} {pos : Pos}
/-! ### is None -/
def isNonD : D → Bool | .non => true | _ => false
theorem rp_nonIff {K : PySem.W.Frag} {F H : Hp} {m : Md} {d : D} {v : V} (s : Same F H) (r : Rp K F H m d v) : decide (v = .non) = isNonD d := by
  cases d with
  | non => cases r.non; rfl
  | bl _ => cases r.bl; rfl
  | int _ => cases r.int; rfl
  | str _ => cases r.str.1; rfl
  | tup _ => obtain ⟨_, _, rfl, _⟩ := r.seqT s; rfl
  | lst _ => obtain ⟨_, _, rfl, _⟩ := r.seqL s; rfl
  | dct _ => obtain ⟨_, _, rfl, _⟩ := r.dict s; rfl
  | ty _ => cases r.ty; rfl
  | ob _ => cases r.ob; rfl
  | ins _ _ => obtain ⟨_, _, _, _, rfl, _⟩ := r.ins s; rfl
  | fn _ =>
    cases m with
    | fz => have r : RepV K F _ v := r; simp only [RepV] at r; obtain ⟨_, rfl, _⟩ := r; rfl
    | fr => obtain ⟨_, _, _, q⟩ := r; exact q.elim
    | bo => obtain ⟨_, _, _, q⟩ := r; exact q.elim
  | exn _ =>
    cases m with
    | fz => have r : RepV K F _ v := r; simp only [RepV] at r; obtain ⟨_, _, rfl, _⟩ := r; rfl
    | fr => obtain ⟨_, _, _, q⟩ := r; exact q.elim
    | bo => obtain ⟨_, _, _, q⟩ := r; exact q.elim
  | set _ =>
    cases m with
    | fz => have r : RepV K F _ v := r; simp only [RepV] at r; obtain ⟨_, _, rfl, _⟩ := r; rfl
    | fr => obtain ⟨_, rfl, _, _⟩ := r; rfl
    | bo => obtain ⟨_, rfl, _, _⟩ := r; rfl
def fIs (neg : Bool) : Md → D → Md → D → Option (Md × D) := fun _ x _ y => match y with
  | .non => some (.fz, .bl (if neg then !isNonD x else isNonD x))
  | _ => none
theorem opd_is : OpD C X (compareOp .Is) (fIs false) := by
  refine ⟨_, op_isN, fun F H m x n y v u k d Q s rx ry e w => ?_⟩
  unfold fIs at e
  split at e
  · cases e
    cases ry.non
    exact ⟨rfl, by rw [rp_nonIff s rx]; exact w _ F H (.refl s) (rp_bl _) (by intro z; cases z)⟩
  · cases e
theorem opd_isnot : OpD C X (compareOp .IsNot) (fIs true) := by
  refine ⟨_, op_notN, fun F H m x n y v u k d Q s rx ry e w => ?_⟩
  unfold fIs at e
  split at e
  · cases e
    cases ry.non
    exact ⟨rfl, by rw [rp_nonIff s rx]; exact w _ F H (.refl s) (rp_bl _) (by intro z; cases z)⟩
  · cases e
theorem isB_is {neg : Bool} : IsB (fIs neg) := fun m x n y k d e => by
  unfold fIs at e
  split at e
  · cases e; exact ⟨_, rfl, rfl⟩
  · cases e
/-! ### chains -/
/-! ### lists and tuples put together -/
theorem op_catL : OpR X (binaryOp .Add) (fun x y H Q => ∃ l b xs ys, x = .ref l ∧ y = .ref b ∧ SqL X.K H l xs ∧ SqL X.K H b ys ∧ xs.length + ys.length ≤ sizeLine ∧ ∀ p, H p = none → Q (.ref p) (upd H p (.lst (xs ++ ys)))) := by
  intro pins s σ H x y v u Q I rx ry h
  obtain ⟨l, b, xs, ys, rfl, rfl, hl, hb, hz, q⟩ := h
  cases rx
  cases ry
  obtain ⟨its, r1, p1, _⟩ := I.list hl
  obtain ⟨its2, r2, p2, _⟩ := I.list hb
  obtain ⟨⟨cls, dd, data, sl⟩, n, ho, hc, hd1, hd⟩ := p1
  obtain ⟨⟨cls2, dd2, data2, sl2⟩, n2, ho2, hc2, hd2', hd2⟩ := p2
  simp only at hc hd hc2 hd2
  subst hc hd hc2 hd2
  have e : its.toArray ++ its2.toArray = (its ++ its2).toArray := by simp
  have l1 := r1.length
  have l2 := r2.length
  refine concat_meets ⟨_, ho, rfl⟩ ⟨_, ho2, rfl⟩ noFill_list_add seq_list_add PySem.F.slot_list_add PySem.F.entry_list_add (PySem.F.args_list_add_2 _ _) (list_addW l b its.toArray its2.toArray n n2 dd dd2 sl sl2 (by simp; omega)) ⟨ho, ho2, ?_⟩
  rw [e]
  refine ⟨.ref s.heap.objs.size, _, I.laid (t' := s.toks) (o := .lst (xs ++ ys)) (fun b ob q => Heap.get?_push_of_some _ q) (Nat.le_refl _) ?_, rfl, q _ (I.hok.fresh (Nat.le_refl _))⟩
  exact ⟨by rw [List.length_append]; exact hz, _, 0, r1.append r2, Heap.get?_push_size _ rfl⟩
theorem op_catT' : OpR X (binaryOp .Add) (fun x y H Q => ∃ l b xs ys, x = .ref l ∧ y = .ref b ∧ SqT X.K H l xs ∧ SqT X.K H b ys ∧ xs.length + ys.length ≤ sizeLine ∧ (xs = [] → Q (.ref b) H) ∧ (xs ≠ [] → ys = [] → Q (.ref l) H) ∧
    (xs ≠ [] → ys ≠ [] → ∀ p, H p = none → Q (.ref p) (upd H p (.tup (xs ++ ys))))) := by
  intro pins s σ H x y v u Q I rx ry h
  obtain ⟨l, b, xs, ys, rfl, rfl, hl, hb, hz, q0, q1, q2⟩ := h
  cases rx
  cases ry
  obtain ⟨its, r1, p1, _⟩ := I.tuple hl
  obtain ⟨its2, r2, p2, _⟩ := I.tuple hb
  have n1 := r1.nil_iff
  have n2 := r2.nil_iff
  have l1 := r1.length
  have l2 := r2.length
  by_cases hv : its = []
  · obtain ⟨⟨cls, dd, data, sl⟩, ho, hc, n, hd⟩ := id p1
    obtain ⟨⟨cls2, dd2, data2, sl2⟩, ho2, hc2, n2', hd2⟩ := id p2
    simp only at hc hd hc2 hd2
    subst hc hd hc2 hd2
    exact concat_meets ⟨_, ho, rfl⟩ ⟨_, ho2, rfl⟩ noFill_tuple_add seq_tuple_add PySem.F.slot_tuple_add PySem.F.entry_tuple_add (PySem.F.args_tuple_add_2 _ _)
      (tuple_addW0 l b its.toArray its2.toArray n n2' dd dd2 sl sl2 (by simp [hv])) ⟨ho, ho2, ⟨.ref b, H, I, rfl, q0 (n1.mp hv)⟩⟩
  · refine HT.cat_tup p1 p2 hv (fun z => ⟨.ref l, H, I, rfl, q1 (fun w => hv (n1.mpr w)) (n2.mp z)⟩) (fun z => ?_) (by omega)
    refine ⟨.ref s.heap.objs.size, _, I.laid (t' := s.toks) (o := .tup (xs ++ ys)) (fun b ob q => Heap.get?_push_of_some _ q) (Nat.le_refl _) ?_, rfl, q2 (fun w => hv (n1.mpr w)) (fun w => z (n2.mpr w)) _ (I.hok.fresh (Nat.le_refl _))⟩
    exact ⟨by rw [List.length_append]; exact hz, _, r1.append r2, PlainTp.new _ _⟩
def catD : Md → D → Md → D → Option (Md × D) := fun m x n y => match x, y with
  | .lst xs, .lst ys => if xs.length + ys.length ≤ sizeLine then some (.fr, .lst (xs ++ ys)) else none
  | .tup xs, .tup ys => if xs.length + ys.length ≤ sizeLine then some (.fz, .tup (xs ++ ys)) else none
  | _, _ => none
theorem RepL.nilIff {K : PySem.W.Frag} {F : Hp} {ds : List D} {xs : List V} (h : RepL K F ds xs) : xs = [] ↔ ds = [] := by
  have := h.length
  constructor
  · intro e; subst e; cases ds with | nil => rfl | cons _ _ => simp at this
  · intro e; subst e; cases xs with | nil => rfl | cons _ _ => simp at this
theorem opd_cat : OpD C X (binaryOp .Add) catD := by
  refine ⟨_, op_catL.or op_catT', fun F H m x n y v u k d Q s rx ry e w => ?_⟩
  unfold catD at e
  split at e
  · rename_i xs ys
    split at e
    · rename_i hz
      cases e
      obtain ⟨a, us, rfl, q1, r1⟩ := rx.seqL s
      obtain ⟨b, vs, rfl, q2, r2⟩ := ry.seqL s
      refine .inl ⟨a, b, us, vs, rfl, rfl, q1, q2, by rw [r1.length, r2.length]; exact hz, fun p hp => ?_⟩
      exact w (.ref p) F _ (Step.fresh _ s hp) ⟨p, rfl, s.free hp, _, upd_same, r1.append r2⟩ fun _ a ea => by cases ea; exact hp
    · cases e
  · rename_i xs ys
    split at e
    · rename_i hz
      cases e
      have ex := rx
      have ey := ry
      obtain ⟨a, us, rfl, q1, r1⟩ := rx.seqT s
      obtain ⟨b, vs, rfl, q2, r2⟩ := ry.seqT s
      have fz : ∀ {m : Md} {zs : List D} {c : Addr}, Rp X.K F H m (.tup zs) (.ref c) → RepV X.K F (.tup zs) (.ref c) := fun {m zs c} h => by
        cases m with
        | fz => exact h
        | fr => obtain ⟨_, _, _, q⟩ := h; exact q.elim
        | bo => obtain ⟨_, _, _, q⟩ := h; exact q.elim
      refine .inr ⟨a, b, us, vs, rfl, rfl, q1, q2, by rw [r1.length, r2.length]; exact hz, fun z => ?_, fun _ z => ?_, fun _ _ p hp => ?_⟩
      · have : xs = [] := r1.nilIff.mp z
        subst this
        exact w (.ref b) F H (.refl s) (fz ey) (by intro z; cases z)
      · have : ys = [] := r2.nilIff.mp z
        subst this
        rw [List.append_nil] at w
        exact w (.ref a) F H (.refl s) (fz ex) (by intro z; cases z)
      · exact w (.ref p) _ _ (Step.laid (.tup (us ++ vs)) s hp) (RepV.tup_of (s.free hp) (r1.append r2)) (by intro z; cases z)
    · cases e
  · cases e
/-! ### in: a flat thing in a list or tuple of flat things -/
def flatD : D → Bool | .non | .bl _ | .int _ | .str _ => true | _ => false
def eqD : D → D → Bool
  | .non, .non => true
  | .bl a, .bl b => a == b
  | .bl a, .int b => (if a then 1 else 0) == b
  | .int a, .bl b => a == (if b then 1 else 0)
  | .int a, .int b => a == b
  | .str a, .str b => a == b
  | _, _ => false
def inSq (neg : Bool) : Md → D → Md → D → Option (Md × D) := fun _ x _ y => match y with
  | .lst ys => if (flatD x && ys.all flatD) = true then some (.fz, .bl (if neg then !(ys.any fun y => eqD y x) else (ys.any fun y => eqD y x))) else none
  | .tup ys => if (flatD x && ys.all flatD) = true then some (.fz, .bl (if neg then !(ys.any fun y => eqD y x) else (ys.any fun y => eqD y x))) else none
  | _ => none
def vOf : D → V | .non => .non | .bl b => .bl b | .int i => .int i | .str x => .str x | _ => .non
theorem rep_flat {K : PySem.W.Frag} {F H : Hp} {m : Md} {d : D} {v : V} (h : flatD d = true) (r : Rp K F H m d v) : v = vOf d := by
  cases d with
  | non => exact r.non
  | bl _ => exact r.bl
  | int _ => exact r.int
  | str _ => exact r.str.1
  | _ => cases h
theorem repL_flat {K : PySem.W.Frag} {F : Hp} : ∀ {ds : List D} {xs : List V}, ds.all flatD = true → RepL K F ds xs → xs = ds.map vOf
  | [], _, _, r => by simp only [RepL] at r; exact r
  | d :: ds, _, h, r => by
    simp only [RepL] at r
    obtain ⟨y, ys, rfl, r1, r2⟩ := r
    rw [List.all_cons, Bool.and_eq_true] at h
    rw [List.map_cons, rep_flat (H := F) (m := .fz) h.1 r1, repL_flat h.2 r2]
theorem flat_vOf {d : D} (h : flatD d = true) : flatV (vOf d) = true := by cases d <;> first | rfl | cases h
theorem eqV_vOf {x y : D} (hx : flatD x = true) (hy : flatD y = true) : eqV (vOf x) (vOf y) = eqD x y := by
  cases x <;> cases y <;> first | rfl | (cases hx; done) | (cases hy; done)
theorem any_vOf {x : D} (hx : flatD x = true) : ∀ {ds : List D}, ds.all flatD = true → inV (vOf x) (ds.map vOf) = ds.any fun y => eqD y x
  | [], _ => rfl
  | d :: ds, h => by
    rw [List.all_cons, Bool.and_eq_true] at h
    show (eqV (vOf d) (vOf x) || inV (vOf x) (ds.map vOf)) = (eqD d x || ds.any _)
    rw [eqV_vOf h.1 hx, any_vOf hx h.2]
theorem all_vOf : ∀ {ds : List D}, ds.all flatD = true → (ds.map vOf).all flatV = true
  | [], _ => rfl
  | d :: ds, h => by
    rw [List.all_cons, Bool.and_eq_true] at h
    rw [List.map_cons, List.all_cons, flat_vOf h.1, all_vOf h.2]; rfl
theorem opd_insq {neg : Bool} {f : Value → Value → Sem Value} (o : OpR X f (rIn X.K neg)) : OpD C X f (inSq neg) := by
  refine ⟨_, o, fun F H m x n y v u k d Q s rx ry e w => ?_⟩
  unfold inSq at e
  split at e
  · rename_i ys
    split at e
    · rename_i hf
      rw [Bool.and_eq_true] at hf
      cases e
      obtain ⟨b, vs, rfl, q2, r2⟩ := ry.seqL s
      have ev := rep_flat hf.1 rx
      have es := repL_flat hf.2 r2
      subst ev; subst es
      exact ⟨b, _, rfl, .inl q2, flat_vOf hf.1, all_vOf hf.2, by rw [any_vOf hf.1 hf.2]; exact w _ F H (.refl s) (rp_bl _) (by intro z; cases z)⟩
    · cases e
  · rename_i ys
    split at e
    · rename_i hf
      rw [Bool.and_eq_true] at hf
      cases e
      obtain ⟨b, vs, rfl, q2, r2⟩ := ry.seqT s
      have ev := rep_flat hf.1 rx
      have es := repL_flat hf.2 r2
      subst ev; subst es
      exact ⟨b, _, rfl, .inr q2, flat_vOf hf.1, all_vOf hf.2, by rw [any_vOf hf.1 hf.2]; exact w _ F H (.refl s) (rp_bl _) (by intro z; cases z)⟩
    · cases e
  · cases e
theorem isB_insq {neg : Bool} : IsB (inSq neg) := fun m x n y k d e => by
  unfold inSq at e
  split at e
  · split at e
    · cases e; exact ⟨_, rfl, rfl⟩
    · cases e
  · split at e
    · cases e; exact ⟨_, rfl, rfl⟩
    · cases e
  · cases e
/-! ### the types called: tuple, list, int, str; min, max of two -/
def tcTuple : List (Md × D) → Option (Md × D)
  | [(_, .lst ds)] => some (.fz, .tup ds)
  | [(.fz, .tup ds)] => some (.fz, .tup ds)
  | _ => none
def tcList : List (Md × D) → Option (Md × D)
  | [(_, .lst ds)] => some (.fr, .lst ds)
  | [(_, .tup ds)] => some (.fr, .lst ds)
  | _ => none
def tcInt : List (Md × D) → Option (Md × D)
  | [(_, .int i)] => some (.fz, .int i)
  | [(_, .bl b)] => some (.fz, .int (if b then 1 else 0))
  | _ => none
def small (i : Int) : Bool := decide (i.natAbs.log2 < 1920)
/-- the figures of a number -/
def numS (i : Int) : Str := Str.ofString (toString i)
def tcStr : List (Md × D) → Option (Md × D)
  | [(_, .int i)] => if small i = true then some (.fz, .str (numS i)) else none
  | _ => none
theorem calld_tuple : CallD X (.type "tuple") tcTuple := by
  refine ⟨_, call_tuple_of, fun F H xs vs k d Q s rx e w => ?_⟩
  unfold tcTuple at e
  split at e
  · rename_i m ds
    cases e
    obtain ⟨v, rfl, r⟩ := rx.one
    obtain ⟨a, xs, rfl, q, rl⟩ := r.seqL s
    exact ⟨a, xs, rfl, .inl ⟨q, fun l hl => w (.ref l) _ _ (Step.laid (.tup xs) s hl) (RepV.tup_of (s.free hl) rl) (by intro z; cases z)⟩⟩
  · rename_i ds
    cases e
    obtain ⟨v, rfl, r⟩ := rx.one
    have r0 := r
    obtain ⟨a, xs, rfl, q, rl⟩ := r.seqT s
    exact ⟨a, xs, rfl, .inr ⟨q, w (.ref a) F H (.refl s) r0 (by intro z; cases z)⟩⟩
  · cases e
theorem calld_list : CallD X (.type "list") tcList := by
  refine ⟨_, call_list_of, fun F H xs vs k d Q s rx e w => ?_⟩
  unfold tcList at e
  split at e
  · rename_i m ds
    cases e
    obtain ⟨v, rfl, r⟩ := rx.one
    obtain ⟨a, xs, rfl, q, rl⟩ := r.seqL s
    exact ⟨a, xs, rfl, .inl q, fun l hl => w (.ref l) F _ (Step.fresh _ s hl) ⟨l, rfl, s.free hl, xs, upd_same, rl⟩ fun _ a ea => by cases ea; exact hl⟩
  · rename_i m ds
    cases e
    obtain ⟨v, rfl, r⟩ := rx.one
    obtain ⟨a, xs, rfl, q, rl⟩ := r.seqT s
    exact ⟨a, xs, rfl, .inr q, fun l hl => w (.ref l) F _ (Step.fresh _ s hl) ⟨l, rfl, s.free hl, xs, upd_same, rl⟩ fun _ a ea => by cases ea; exact hl⟩
  · cases e
theorem calld_int : CallD X (.type "int") tcInt := by
  refine ⟨_, call_int1, fun F H xs vs k d Q s rx e w => ?_⟩
  unfold tcInt at e
  split at e
  · cases e
    obtain ⟨v, rfl, r⟩ := rx.one
    cases r.int
    exact .inl ⟨_, rfl, w _ F H (.refl s) (rp_int _) (by intro z; cases z)⟩
  · cases e
    obtain ⟨v, rfl, r⟩ := rx.one
    cases r.bl
    exact .inr ⟨_, rfl, w _ F H (.refl s) (rp_int _) (by intro z; cases z)⟩
  · cases e
end
end D3

namespace D3
open PySem PySem.Spec PyProof.Rows L2
theorem strOk_num (i : Int) : PyData.strOk (Str.ofString (toString i)) = true := by
  unfold PyData.strOk
  rw [Array.all_eq_true_iff_forall_mem]
  intro c hc
  have hc' : c ∈ (Str.ofString (toString i)).cps.toList := by rw [Array.mem_toList_iff]; exact hc
  have : ¬ (c ≠ 45 ∧ (c < 48 ∨ 57 < c)) := fun h => int_text_free' c h i hc'
  have hb : c < 58 := by omega
  simp
  omega
section
variable {X : Cx}
theorem calld_str : CallD X (.type "str") tcStr := by
  refine ⟨_, call_str_int, fun F H xs vs k d Q s rx e w => ?_⟩
  unfold tcStr at e
  split at e
  · rename_i m i
    split at e
    · rename_i hs
      cases e
      obtain ⟨v, rfl, r⟩ := rx.one
      cases r.int
      have hl : i.natAbs.log2 < 1920 := of_decide_eq_true hs
      have h1 : (numS i).length ≤ 1921 := int_text_len_1921 hl
      have hz : sizeLine = 16777216 := sizeLine_eq
      exact ⟨i, rfl, hl, w _ F H (.refl s) (rp_str ⟨by omega, strOk_num i⟩) (by intro z; cases z)⟩
    · cases e
  · cases e
end
/-! a type called -/
theorem pv_callTy {C : Cw} {X : Cx} {T : String} {φ} {x : Str} {e : Expr} {es : List Expr} {gs : Rho → ResL} {p pos : Pos} (o : CallD X (.type T) φ) (hg : Gl X x) (hm : X.mg x = none) (hv : bootBuiltins x = some (.type T)) (ha : PAv C X (e :: es) gs) (hn : x ≠ "__name__") (hdb : (x == ("__debug__" : Str)) = false)
    (hst : ∀ x ∈ e :: es, notStar x = true) : PV C X (.Call (.Name x p) (e :: es) [] pos) (fun ρ => callR φ (gs ρ)) := by
  obtain ⟨r, h1, h2⟩ := o
  exact PE.imp (pe_callTy h1 hg hm hv ha hn hdb (star_cons (hst e List.mem_cons_self)) (star_any _ _ fun y hy => hst y (List.mem_cons_of_mem _ hy))) fun σ H Q q => tG_call h2 q
end D3

namespace D3
open PySem PySem.Spec PyProof.Rows L2
/-! ### a list unpacked -/
section
variable {prog : Program} {w : World} {A : Around} {E : Value → Shared → Prop} {s : Shared}
theorem unpackItems_list {l : Addr} {items : Array Value} {Q : List Value → Shared → Prop} (hA : A.handled = none) (ht : s.heap.IsList l items)
    (h : ∀ h', Heap.ExtBut s.heap.objs.size s.heap h' → ∀ tk, Q items.toList { s with heap := h', toks := tk }) : wpAny (model prog w) A (unpackItems (.ref l) items.size none) Q E s := by
  unfold unpackItems notIterableAtAll
  refine wpAny_bind (wpAny_bind (wpAny_specialOf ht.typeIs PySem.F.slot_list_iter.lookup ?_))
  refine wpAny_pure ?_
  dsimp only
  rw [if_neg Bool.false_ne_true]
  refine wpAny_bind (wpAny_holding (wpAny_pyIter_list ht ?_))
  have hlt : l < s.heap.objs.size := by obtain ⟨o, e, _⟩ := ht; exact Heap.lt_size e
  have hne : l ≠ s.heap.objs.size := Nat.ne_of_lt hlt
  have keep : ∀ b o, s.heap.get? b = some o → (s.heap.push { cls := Value.type "list_iterator", data := Data.fields #[Value.ref l, Value.int 0 0] }).get? b = some o := fun b o q => Heap.get?_push_of_some _ q
  have ht' : (s.heap.push { cls := Value.type "list_iterator", data := Data.fields #[Value.ref l, Value.int 0 0] }).IsList l items := by
    obtain ⟨o, e, c⟩ := ht
    exact ⟨o, keep l o e, c⟩
  have hi' : (s.heap.push { cls := Value.type "list_iterator", data := Data.fields #[Value.ref l, Value.int 0 0] }).IsListIter s.heap.objs.size l 0 := ⟨_, Heap.get?_push_size _ rfl, rfl, rfl⟩
  refine wpAny_bind (wpAny_holding (PySem.W.kun_draw hne items.size 0 _ _ hi' ht' (by omega) fun h' hi hsb => ?_))
  have ei : List.take items.size (List.drop 0 items.toList) = items.toList := by rw [List.drop_zero]; exact List.take_of_length_le (by simp)
  rw [ei]
  rw [if_neg (by simp)]
  have hl2 : h'.IsList l items := by
    obtain ⟨o, e, c⟩ := ht'
    exact ⟨o, by rw [hsb.2 l hne]; exact e, c⟩
  rw [Nat.zero_add] at hi
  refine wpAny_bind (wpAny_holding ((Walks.list hA s.heap.objs.size l hne items).done _ _ _ ⟨hi, hl2⟩ fun h2 tk k2 => ?_))
  rw [if_neg (by simp)]
  refine wpAny_pure (h h2 (fun b o hb e => k2 b o (by simpa using hb) ?_) tk)
  show h'.get? b = some o
  rw [hsb.2 b hb]
  exact keep b o e
theorem assign_Tuple_list {env : Env} {elts : List Expr} {k : Nat} {pos : Pos} {l : Addr} {items : Array Value} {Q : Unit → Shared → Prop} (hA : A.handled = none) (ht : s.heap.IsList l items)
    (hn : (assignEach elts env).length = items.size) (hst : (assignEach elts env).findIdx? (·.1) = none)
    (h : ∀ h', Heap.ExtBut s.heap.objs.size s.heap h' → ∀ tk, wpAny (model prog w) A (assignInOrder ((assignEach elts env).map (·.2)) items.toList) Q E { s with heap := h', toks := tk }) :
    wpAny (model prog w) A (assign (.Tuple elts k pos) env (.ref l)) Q E s := by
  rw [assign_Tuple]
  refine wpAny_bind (wpAny_standAt ?_)
  unfold unpack
  rw [hst, hn]
  exact wpAny_bind (wpAny_holding (unpackItems_list hA ht h))
/-! ### a tuple cut whole is the tuple itself -/
theorem getItem_tuple_whole {t sl : Addr} {items : Array Value} {vl vu : Value} {lo hi : Option Int} {Q : Value → Shared → Prop} (ht : IsTup s.heap t items) (hs : s.heap.IsSliceOf sl vl vu .none) (pl : IsPart vl lo)
    (pu : IsPart vu hi) (h0 : HT.sIx items.size 0 lo = 0) (h1 : HT.sIx items.size items.size hi = items.size) (h : Q (.ref t) s) : wpAny (model prog w) A (getItem (.ref t) (.ref sl)) Q E s := by
  obtain ⟨os, hos, hcs, hds⟩ := id hs
  have tS : s.TypeIs (.ref sl) "slice" := ⟨os, hos, hcs⟩
  unfold getItem
  try with_reducible refine wpAny_holding ?_
  first | refine wpAny_bind (wpAny_pure ?_) | skip
  refine wpAny_bind (wpAny_sequenceKey ht.typeIs (by decide) (wpAny_bind (wpAny_callSpecial?_slot (name := Str.ofString "__getitem__") ht.typeIs PyProof.Rows.slot_tuple_getitem (wpAny_call_entry PyProof.Rows.slot_tuple_getitem ht.typeIs entry_tuple_getitem ?_ (args_tuple_getitem _ _)))))
  show wpAny _ _ (Builtin.Tuple.tupleItemsOf (.ref t) >>= _) _ _ s
  refine wpAny_bind (tupleItemsOf_ ht (wpAny_bind (wpAny_typeOf tS ?_)))
  rw [if_pos (by decide)]
  refine wpAny_bind (HT.sliceApplied_gen hs pl pu ?_)
  have yes : (((HT.sIx items.size 0 lo : Nat) : Int) == 0 && (1 : Int) == 1 && (HT.sIx items.size items.size hi - HT.sIx items.size 0 lo) == items.size) = true := by rw [h0, h1]; simp
  show wpAny _ _ (if (((HT.sIx items.size 0 lo : Nat) : Int) == 0 && (1 : Int) == 1 && (HT.sIx items.size items.size hi - HT.sIx items.size 0 lo) == items.size) = true then _ else _) _ _ s
  rw [if_pos yes]
  unfold Builtin.Tuple.tupleIsExact
  refine wpAny_bind (wpAny_bind (wpAny_typeOf ht.typeIs (wpAny_pure ?_)))
  rw [if_pos (by decide)]
  refine wpAny_bind (wpAny_rule ?_)
  first
    | exact wpAny_pure ⟨_, rfl, wpAny_pure h⟩
    | exact ⟨_, rfl, wpAny_pure h⟩
end
section
variable {X : Cx} {pos : Pos}
def rSlW (K : PySem.W.Frag) : V → Option Int → Option Int → Hp → VK → Prop := fun x lo hi H Q => ∃ a xs, x = .ref a ∧ SqT K H a xs ∧ (HT.sIx xs.length 0 lo = 0 ∧ HT.sIx xs.length xs.length hi = xs.length) ∧ Q x H
theorem sl_whole : SlR X (rSlW X.K) := by
  intro pins s σ H x v vl vu lo hi sl Q I rx hs pl pu h
  obtain ⟨a, xs, rfl, hx, hw, q⟩ := h
  cases rx
  obtain ⟨its, r, ht, hz⟩ := I.tuple hx
  have hlen : its.toArray.size = xs.length := by rw [List.size_toArray]; exact r.length.symm
  exact ⟨"tuple", _, PyProof.Rows.slot_tuple_getitem.lookup, ht.typeIs, getItem_tuple_whole ht hs pl pu (by rw [hlen]; exact hw.1) (by rw [hlen]; exact hw.2) ⟨.ref a, H, I, rfl, q⟩⟩
/-- (a, b, ..) = a tuple or a list of that length -/
def gSeq (K : PySem.W.Frag) (n : Nat) (t : TGs) : TG := fun v σ H Q => ∃ a xs, v = .ref a ∧ (SqT K H a xs ∨ SqL K H a xs) ∧ xs.length = n ∧ t xs σ H Q
theorem pg_seq {es : List Expr} {k : Nat} {t : TGs} {n : Nat} (hc : X.calm = true) (h : PGs X es t) (hn : (assignEach es X.env).length = n) (hst : (assignEach es X.env).findIdx? (·.1) = none) : PG X (.Tuple es k pos) (gSeq X.K n t) := by
  intro pins s σ H v u Q I r hw
  obtain ⟨a, xs, e1, hq, hl, hw⟩ := hw
  rcases hq with hq | hq
  · exact pg_tup hc h hn hst pins s σ H v u Q I r ⟨a, xs, e1, hq, hl, hw⟩
  · subst e1
    cases r
    obtain ⟨its, rv, ht, hz⟩ := I.list hq
    refine assign_Tuple_list (I.ok.hd hc) ht.isList (by simp [hn, ← hl, rv.length]) hst fun h' hx tk => ?_
    have I1 : Inv X pins σ H { s with heap := h', toks := tk } := I.kept (t' := tk) fun b o e => hx b o (Nat.ne_of_lt (Heap.lt_size e)) e
    exact h pins _ σ H xs _ Q I1 (by simpa using rv) hw
end
end D3

namespace D3
open PySem PySem.Spec PyProof.Rows L2
/-! ### targets: names, brackets of names -/
inductive Tg where
  | nm (i : Nat) | tp (ts : List Tg)
mutual
def setG : Tg → D → Rho → Option Rho
  | .nm i, d, ρ => some (ρ.set i (some (false, d)))
  | .tp ts, d, ρ => match d with
    | .tup ds => setGs ts ds ρ
    | .lst ds => setGs ts ds ρ
    | _ => none
def setGs : List Tg → List D → Rho → Option Rho
  | [], ds, ρ => if ds.isEmpty then some ρ else none
  | t :: ts, ds, ρ => match ds with
    | d :: ds => (match setG t d ρ with | some ρ1 => setGs ts ds ρ1 | none => none)
    | [] => none
end
mutual
def slotsG : Tg → List Nat
  | .nm i => [i]
  | .tp ts => slotsGs ts
def slotsGs : List Tg → List Nat
  | [] => []
  | t :: ts => slotsG t ++ slotsGs ts
end

mutual
def gOf (K : PySem.W.Frag) : Tg → TG
  | .nm i => gName i
  | .tp ts => gSeq K ts.length (gsOf K ts)
def gsOf (K : PySem.W.Frag) : List Tg → TGs
  | [] => gNil
  | t :: ts => gCons (gOf K t) (gsOf K ts)
end
def PGw (X : Cx) (tg : Expr) (t : Tg) : Prop := PG X tg (gOf X.K t)
def PGws (X : Cx) (tgs : List Expr) (ts : List Tg) : Prop := PGs X tgs (gsOf X.K ts)
def notStarT : Expr → Bool | .Starred .. => false | _ => true
theorem assignEach_cons {e : Expr} {es : List Expr} {env : Env} (h : notStarT e = true) : assignEach (e :: es) env = (false, assign e env) :: assignEach es env := by
  cases e <;> first | rfl | cases h
theorem setGs_len : ∀ {ts : List Tg} {ds : List D} {ρ ρ' : Rho}, setGs ts ds ρ = some ρ' → ds.length = ts.length
  | [], ds, ρ, ρ', e => by
    simp only [setGs] at e
    split at e
    · rename_i h; have : ds = [] := by simpa using h
      subst this; rfl
    · cases e
  | t :: ts, ds, ρ, ρ', e => by
    simp only [setGs] at e
    split at e
    · split at e
      · rw [List.length_cons, List.length_cons, setGs_len e]
      · cases e
    · cases e
mutual
theorem gOf_ok {K : PySem.W.Frag} {F0 H0 : Hp} : ∀ (t : Tg) {F H : Hp} {σ : L2.St} {ρ ρ' : Rho} {d : D} {v : V} {Q : L2.St → Hp → Prop}, RelSt K F0 H0 F H σ ρ → RepV K F d v → setG t d ρ = some ρ' →
    (∀ σ', RelSt K F0 H0 F H σ' ρ' → σ'.length = σ.length → (∀ j, j ∉ slotsG t → σ'[j]? = σ[j]?) → Q σ' H) → gOf K t v σ H Q
  | .nm i, F, H, σ, ρ, ρ', d, v, Q, R, r, e, w => by
    simp only [setG] at e
    cases e
    simp only [gOf]
    refine w _ (R.set (m := false) (.refl R.sub) r (by intro z; cases z)) (by rw [List.length_set]) fun j hj => ?_
    simp only [slotsG, List.mem_singleton] at hj
    rw [List.getElem?_set_ne (fun z => hj z.symm)]
  | .tp ts, F, H, σ, ρ, ρ', d, v, Q, R, r, e, w => by
    simp only [setG] at e
    split at e
    · rename_i ds
      simp only [RepV] at r
      obtain ⟨a, xs, rfl, hq, rl⟩ := r
      simp only [gOf]
      refine ⟨a, xs, rfl, .inl (Same.seqT R.sub hq), by rw [rl.length]; exact setGs_len e, gsOf_ok ts R rl e ?_⟩
      simp only [slotsG] at w
      exact w
    · rename_i ds
      simp only [RepV] at r
      obtain ⟨a, xs, rfl, hq, rl⟩ := r
      simp only [gOf]
      refine ⟨a, xs, rfl, .inr (R.sub.seq hq), by rw [rl.length]; exact setGs_len e, gsOf_ok ts R rl e ?_⟩
      simp only [slotsG] at w
      exact w
    · cases e
theorem gsOf_ok {K : PySem.W.Frag} {F0 H0 : Hp} : ∀ (ts : List Tg) {F H : Hp} {σ : L2.St} {ρ ρ' : Rho} {ds : List D} {vs : List V} {Q : L2.St → Hp → Prop}, RelSt K F0 H0 F H σ ρ → RepL K F ds vs → setGs ts ds ρ = some ρ' →
    (∀ σ', RelSt K F0 H0 F H σ' ρ' → σ'.length = σ.length → (∀ j, j ∉ slotsGs ts → σ'[j]? = σ[j]?) → Q σ' H) → gsOf K ts vs σ H Q
  | [], F, H, σ, ρ, ρ', ds, vs, Q, R, r, e, w => by
    simp only [setGs] at e
    split at e
    · cases e
      rename_i hd
      have : ds = [] := by simpa using hd
      subst this
      simp only [RepL] at r
      simp only [gsOf]
      exact ⟨r, w σ R rfl fun _ _ => rfl⟩
    · cases e
  | t :: ts, F, H, σ, ρ, ρ', ds, vs, Q, R, r, e, w => by
    simp only [setGs] at e
    split at e
    · rename_i d ds'
      split at e
      · rename_i ρ1 e1
        simp only [RepL] at r
        obtain ⟨y, ys, rfl, r1, r2⟩ := r
        simp only [gsOf]
        refine ⟨y, ys, rfl, gOf_ok t R r1 e1 fun σ1 R1 l1 k1 => gsOf_ok ts R1 r2 e fun σ2 R2 l2 k2 => w σ2 R2 (l2.trans l1) fun j hj => ?_⟩
        simp only [slotsGs, List.mem_append, not_or] at hj
        rw [k2 j hj.2, k1 j hj.1]
      · cases e
    · cases e
end
section
variable {C : Cw} {X : Cx} {pos : Pos}
theorem pgw_name {x : Str} {i : Nat} (hN : X.N.Nodup) (hi : X.N[i]? = some x) (hx : L2.Loc X.env.scope x) (hf : X.fn x = true ∨ X.env.scope.names.lookup x = some .local) : PGw X (.Name x pos) (.nm i) := by
  unfold PGw
  simp only [gOf]
  exact pg_name hN hi hx hf
theorem pgws_nil : PGws X [] [] := by unfold PGws; simp only [gsOf]; exact pgs_nil
theorem pgws_cons {e : Expr} {es : List Expr} {t : Tg} {ts : List Tg} (h1 : PGw X e t) (h2 : PGws X es ts) (hs : notStarT e = true) : PGws X (e :: es) (t :: ts) := by
  unfold PGws
  simp only [gsOf]
  exact pgs_cons h1 h2 (by rw [assignEach_cons hs]; rfl)
theorem star_none {es : List Expr} {env : Env} (hs : ∀ e ∈ es, notStarT e = true) : (assignEach es env).length = es.length ∧ (assignEach es env).findIdx? (·.1) = none := by
  induction es with
  | nil => exact ⟨rfl, rfl⟩
  | cons e es ih =>
    obtain ⟨h1, h2⟩ := ih fun x hx => hs x (List.mem_cons_of_mem _ hx)
    rw [assignEach_cons (hs e List.mem_cons_self)]
    refine ⟨by rw [List.length_cons, List.length_cons, h1], ?_⟩
    rw [List.findIdx?_cons]
    simp [h2]
theorem pgw_tup {es : List Expr} {ts : List Tg} {k : Nat} (hc : X.calm = true) (h : PGws X es ts) (hs : ∀ e ∈ es, notStarT e = true) (hl : es.length = ts.length) : PGw X (.Tuple es k pos) (.tp ts) := by
  have st := star_none (env := X.env) hs
  unfold PGw
  simp only [gOf]
  exact pg_seq (n := ts.length) hc h (by rw [st.1, hl]) st.2
theorem pgv_of {tg : Expr} {t : Tg} (h : PGw X tg t) : PGv C X tg (setG t) :=
  ⟨_, h, fun F H σ ρ ρ' d v Q R r e w => gOf_ok t R r e fun σ' R' _ _ => w σ' F H (Same.refl _) R'⟩
/-! ### while -/
/-! ### a, b = x, y -/
end
end D3

namespace D3
open PySem PySem.Spec PyProof.Rows L2
section
variable {C : Cw} {X : Cx} {e : Expr} {g : Rho → Res} {pos p : Pos}
theorem comp_tG {t : Tg} {tgN : List Str} {caps : List Nat} {gi gt ge : Rho → Res} (hsl : ∀ j ∈ slotsG t, caps.length ≤ j) {σ : L2.St} {H : Hp} {Q : VK} (q : tG (C.at X) (fun ρ => compR (gi ρ) ρ caps tgN.length (setG t) gt ge) σ H Q) :
    tComp caps tgN.length (tIv (C.at X) gi) (gOf X.K t) (tT (C.nox.at X) gt) (tG (C.nox.at X) fun ρ => frzR (ge ρ)) σ H Q := by
  rw [tG_eq] at q
  obtain ⟨ρ, F, RS, w⟩ := q
  unfold tComp
  refine ⟨ρ, F, RS, ?_⟩
  cases er : gi ρ with
  | stuck => rw [er] at w; exact w
  | exc c => rw [er] at w; exact w
  | ok m d =>
    rw [er] at w
    cases d with
    | lst ds =>
      unfold compR at w
      rw [Res.thn_ok] at w
      dsimp only at w
      split at w
      · rename_i hsz
        intro J F1 H1 s1 hJ Da hDa
        cases et : compL (setG t) gt ge (subR caps ρ ++ List.replicate tgN.length none) ds with
        | none => rw [et] at w; exact w.elim
        | some total =>
          rw [et] at w
          have hD0 : H Da = none := s1.same.free hDa
          have hF1 : F1 Da = none := s1.sub.free hDa
          have R0 := relSt_sub caps tgN.length RS
          refine ⟨fun i m ys H' => m = ds.length - i ∧ i ≤ ds.length ∧ H' Da = some (.lst ys) ∧ ∃ F' zs, Step F H F' H' ∧ Same F1 F' ∧ F' Da = none ∧ RepL X.K F' zs ys ∧ zs.length ≤ i ∧
            ∃ rest, compL (setG t) gt ge (subR caps ρ ++ List.replicate tgN.length none) (ds.drop i) = some rest ∧ total = zs ++ rest,
            ⟨ds.length, by simp, Nat.zero_le _, upd_same, F1, [], s1.upd hD0 hF1, Same.refl _, hF1, RepL.nil, Nat.le_refl _, total, by simpa using et, rfl⟩, ?_⟩
          rintro i m ys H' ⟨rfl, hile, hD, F', zs, st, sF, hFD, rz, hzl, rest, ec, etot⟩
          refine ⟨hD, ?_⟩
          by_cases hlt : i < ds.length
          · refine .inr ⟨hJ.go i H' (sF.trans st.sub) hlt, by rw [rz.length]; omega, fun v H2 y => ?_⟩
            obtain ⟨F2, d, ed, s2, rd⟩ := hJ.yld i F' H' v H2 sF st.sub hlt y
            have hd : ds.drop i = d :: ds.drop (i + 1) := by
              rw [List.drop_eq_getElem_cons hlt]
              rw [List.getElem?_eq_getElem hlt] at ed
              cases ed; rfl
            rw [hd] at ec
            unfold compL at ec
            have hD2 : H2 Da = some (.lst ys) := s2.same _ _ hD
            have hF2 : F2 Da = none := s2.new _ hFD (by rw [hD]; exact fun z => nomatch z)
            cases eg : setG t d (subR caps ρ ++ List.replicate tgN.length none) with
            | none => rw [eg] at ec; cases ec
            | some ρ1 =>
            rw [eg] at ec
            dsimp only at ec
            have R2 := (R0.step st).step s2
            refine gOf_ok t R2 rd eg fun σ1 R1 len1 keep1 => ?_
            refine ⟨⟨len1.symm, fun j u ej => ?_⟩, ρ1, F2, R1, ?_⟩
            · by_cases hj : j ∈ slotsG t
              · have := hsl j hj
                rw [List.getElem?_append_right (by simpa [subS] using this), List.getElem?_replicate] at ej
                split at ej <;> cases ej
              · rw [keep1 j hj]; exact ej
            cases ett : gt ρ1 with
            | stuck => rw [ett] at ec; cases ec
            | exc c => rw [ett] at ec; cases ec
            | ok mt dt =>
              cases dt with
              | bl b =>
                rw [ett] at ec
                intro F3 H3 s3
                have hD3 : H3 Da = some (.lst ys) := s3.same _ _ hD2
                have hF3 : F3 Da = none := s3.new _ hF2 (by rw [hD2]; exact fun z => nomatch z)
                cases b with
                | false =>
                  rw [if_neg Bool.false_ne_true]
                  exact ⟨ds.length - (i + 1), by omega, rfl, hlt, hD3, F3, zs, (st.trans s2).trans s3, (sF.trans s2.fsame).trans s3.fsame, hF3, rz.mono (s2.fsame.trans s3.fsame) _ _, Nat.le_succ_of_le hzl, rest, ec, etot⟩
                | true =>
                  rw [if_pos rfl, tG_eq]
                  refine ⟨_, F3, R1.step s3, ?_⟩
                  dsimp only at ec
                  cases ee : frzR (ge ρ1) with
                  | stuck => rw [ee] at ec; cases ec
                  | exc c => rw [ee] at ec; cases ec
                  | ok me ye =>
                    rw [ee] at ec
                    dsimp only at ec
                    have hme : me = .fz := by
                      cases h : ge ρ1 with
                      | ok m' d' => rw [h] at ee; cases m' <;> cases ee <;> rfl
                      | exc c => rw [h] at ee; cases ee
                      | stuck => rw [h] at ee; cases ee
                    subst hme
                    cases er2 : compL (setG t) gt ge (subR caps ρ ++ List.replicate tgN.length none) (ds.drop (i + 1)) with
                    | none => rw [er2] at ec; cases ec
                    | some rest' =>
                      rw [er2] at ec
                      cases ec
                      intro u F4 H4 s4 ru _
                      have hD4 : H4 Da = some (.lst ys) := s4.same _ _ hD3
                      have hF4 : F4 Da = none := s4.new _ hF3 (by rw [hD3]; exact fun z => nomatch z)
                      refine ⟨hD4, ds.length - (i + 1), by omega, rfl, hlt, upd_same, F4, zs ++ [ye], (((st.trans s2).trans s3).trans s4).upd hD0 hF4, ((sF.trans s2.fsame).trans s3.fsame).trans s4.fsame, hF4, ?_, by simp; omega, rest', er2, by rw [etot]; simp⟩
                      exact RepL.append (rz.mono ((s2.fsame.trans s3.fsame).trans s4.fsame) _ _) (RepL.cons ru RepL.nil)
              | _ => rw [ett] at ec; cases ec
          · have ei : i = ds.length := by omega
            subst ei
            rw [List.drop_length] at ec
            cases ec
            rw [List.append_nil] at etot
            subst etot
            exact .inl ⟨hJ.stop _ H' (sF.trans st.sub) (Nat.le_refl _), w (.ref Da) F' H' st ⟨Da, rfl, hFD, ys, hD, rz⟩ fun _ a ea => by cases ea; exact hD0⟩
      · exact w.elim
    | _ => exact w.elim
theorem pv_compT {iter elt tg : Expr} {t : Tg} {tgN : List Str} {ifs : List Expr} {scope : Scope} {caps : List Nat} {capN : List Str} {gi gt ge : Rho → Res}
    (hc : X.calm = true) (hi : PIv C X tg iter gi) (hcell : ∀ y ∈ scope.names, y.2 ≠ .cell) (hkind : scope.kind = .function) (hnames : ∀ y ∈ scope.names, y.2 = .local → scope.names.lookup y.1 = some .local)
    (hfree : ∀ y ∈ scope.names, y.2 = .free → X.env.kindOf y.1 = some .cell ∨ X.env.kindOf y.1 = some .free)
    (hcapN : capN.map some = caps.map fun i => X.N[i]?) (hcapF : ∀ y ∈ capN, (y, NameKind.free) ∈ scope.names)
    (hcapK : ∀ y ∈ capN, (relabel scope X.env).names.lookup y = some .cell ∨ (relabel scope X.env).names.lookup y = some .free)
    (hsl : ∀ j ∈ slotsG t, caps.length ≤ j) (hg : ∀ cl A fp s3 H3, PGw (compCx X scope (capN ++ tgN) cl A fp s3 H3) tg t)
    (hf : ∀ cl A fp s3 H3, PIfs (compCx X scope (capN ++ tgN) cl A fp s3 H3) ifs (tT (C.nox.at X) gt)) (he : ∀ cl A fp s3 H3, PV C.nox (compCx X scope (capN ++ tgN) cl A fp s3 H3) elt ge)
    (hs : ∀ x, foldedSetIterable iter X.env x = pure x := by intro _; rfl) :
    PV C X (.ListComp elt [⟨tg, iter, ifs, 0⟩] scope pos) (fun ρ => compR (gi ρ) ρ caps tgN.length (setG t) gt ge) := by
  have capLen : capN.length = caps.length := by simpa using congrArg List.length hcapN
  refine PE.imp (pe_comp (capN := capN) (tgN := tgN) (gt := gOf X.K t) (tt := tT (C.nox.at X) gt) (te := tG (C.nox.at X) fun ρ => frzR (ge ρ)) hc hi hcell hkind hnames hfree hcapN hcapF hcapK
    hg hf (fun cl A fp s3 H3 => pv_frz (he cl A fp s3 H3)) hs) fun σ H Q q => comp_tG hsl q
/-- x = [.. for ..] -/
theorem psv_setC (fz : Bool) {i : Nat} {x : Str} {pos' spos : Pos} {iter elt tg : Expr} {t : Tg} {tgN : List Str} {ifs : List Expr} {scope : Scope} {caps : List Nat} {capN : List Str} {gi gt ge : Rho → Res}
    (hc : X.calm = true) (hi : PIv C X tg iter gi) (hcell : ∀ y ∈ scope.names, y.2 ≠ .cell) (hkind : scope.kind = .function) (hnames : ∀ y ∈ scope.names, y.2 = .local → scope.names.lookup y.1 = some .local)
    (hfree : ∀ y ∈ scope.names, y.2 = .free → X.env.kindOf y.1 = some .cell ∨ X.env.kindOf y.1 = some .free)
    (hcapN : capN.map some = caps.map fun i => X.N[i]?) (hcapF : ∀ y ∈ capN, (y, NameKind.free) ∈ scope.names)
    (hcapK : ∀ y ∈ capN, (relabel scope X.env).names.lookup y = some .cell ∨ (relabel scope X.env).names.lookup y = some .free)
    (hsl : ∀ j ∈ slotsG t, caps.length ≤ j) (hg : ∀ cl A fp s3 H3, PGw (compCx X scope (capN ++ tgN) cl A fp s3 H3) tg t)
    (hf : ∀ cl A fp s3 H3, PIfs (compCx X scope (capN ++ tgN) cl A fp s3 H3) ifs (tT (C.nox.at X) gt)) (he : ∀ cl A fp s3 H3, PV C.nox (compCx X scope (capN ++ tgN) cl A fp s3 H3) elt ge)
    (hN : X.N.Nodup) (hx : X.N[i]? = some x) (hk : X.env.scope.names.lookup x = some .local) (hsw : swapsWith (.ListComp elt [⟨tg, iter, ifs, 0⟩] scope pos) (some (.Name x pos')) spos.line X.env = pure true)
    (hs : ∀ x, foldedSetIterable iter X.env x = pure x := by intro _; rfl) :
    PSv C X (.Assign [.Name x pos'] (.ListComp elt [⟨tg, iter, ifs, 0⟩] scope pos) spos) (fun ρ => setS ρ i (if fz = true then frzR (compR (gi ρ) ρ caps tgN.length (setG t) gt ge) else compR (gi ρ) ρ caps tgN.length (setG t) gt ge)) := by
  refine PS.imp (ps_compA (capN := capN) (tgN := tgN) (gt := gOf X.K t) (tt := tT (C.nox.at X) gt) (te := tG (C.nox.at X) fun ρ => frzR (ge ρ)) hc hi hcell hkind hnames hfree hcapN hcapF hcapK
    hg hf (fun cl A fp s3 H3 => pv_frz (he cl A fp s3 H3)) hN hx hk hsw hs) fun E σ H q => comp_tG hsl ?_
  cases fz with
  | false => exact set_tG q
  | true =>
    have q := set_tG q
    unfold tAsg at q
    rw [tG_eq] at q ⊢
    obtain ⟨ρ, F, R, w⟩ := q
    exact ⟨ρ, F, R, Want.frz w⟩
end
end D3

namespace D3
open PySem PySem.Spec PyProof.Rows L2
/-! ### a value within braces -/
section
variable {C : Cw} {X : Cx} {e : Expr} {g : Rho → Res} {pos p : Pos}
end
inductive PVL (C : Cw) (X : Cx) : List Expr → List (Rho → Res) → Prop where
  | nil : PVL C X [] []
  | cons {e : Expr} {g : Rho → Res} {es : List Expr} {gs : List (Rho → Res)} (h : PV C X e g) (r : PVL C X es gs) : PVL C X (e :: es) (g :: gs)
end D3

namespace D3
open PySem PySem.Spec PyProof.Rows L2
/-! ### < of tuples -/
inductive LtI (A : Around) (s : Shared) : List Value → List Value → Bool → Prop where
  | nn : LtI A s [] [] false
  | nc {w : Value} {ws : List Value} : LtI A s [] (w :: ws) true
  | cn {v : Value} {vs : List Value} : LtI A s (v :: vs) [] false
  | eq {v w : Value} {vs ws : List Value} {b : Bool} (h : SeqAt.EqAt A s v w true) (r : LtI A s vs ws b) : LtI A s (v :: vs) (w :: ws) b
  | ne {v w : Value} {vs ws : List Value} {b : Bool} (h : SeqAt.EqAt A s v w false) (l : ∀ (prog : Program) (w' : World) (E : Value → Shared → Prop) (Q : Value → Shared → Prop), Q (.bool b) s → wpAny (model prog w') A (richCompare .Lt v w) Q E s) : LtI A s (v :: vs) (w :: ws) b
section
open PySem.SeqAt
open PySem.AutoSeq1 (wpAny_loadPart')
open PySem.MeetsSeq PySem.MeetsSeq2 PySem.MeetsSeq3
theorem tuple_lt_gen (l b : Addr) (items items2 : Array Value) (n n2 : Nat) (dd dd2 : Option Addr) (sl sl2 : Array (Option Value)) (r : Bool) :
    Meets (Builtin.«tuple.__lt__» ⟨[.ref l, .ref b], []⟩)
      (fun A R s => s.heap.get? l = some { cls := .type "tuple", dict := dd, data := .seq items n, slots := sl } ∧ s.heap.get? b = some { cls := .type "tuple", dict := dd2, data := .seq items2 n2, slots := sl2 } ∧
        LtI A.in1 s items.toList items2.toList r ∧ R (.ok (.ret (.bool r))) s) :=
  .of_wp fun prog w A R s h => by
    obtain ⟨hp, g, d, tk, os⟩ := s; obtain ⟨hl, hb, hi, h⟩ := h
    have f2 := AutoSeq1.sub_tuple_tuple
    wp_walk using wpAny_loadPart' hl, wpAny_loadPart' hb, wpAny_forIn_list _ (fun rest b s' => b.1 = none ∧ s' = ⟨hp, g, d, tk, os⟩ ∧ ∃ (vs ws : List Value), rest = vs.zip ws ∧
      LtI A.in1 ⟨hp, g, d, tk, os⟩ vs ws r ∧ vs.length + items2.size = ws.length + items.size) _
    case turn =>
      rintro ⟨y, x⟩ rest b s' ⟨hb', rfl, vs, ws, hz, hvi, hlen⟩
      cases hvi with
      | nn => rw [List.zip_nil_left] at hz; cases hz
      | nc => rw [List.zip_nil_left] at hz; cases hz
      | cn => rw [List.zip_nil_right] at hz; cases hz
      | eq he hr =>
        rw [List.zip_cons_cons] at hz
        injection hz with hyx hrest
        injection hyx with hy hx
        subst hy hx
        simp only [List.length_cons] at hlen
        refine wpAny_bind (he prog w _ _ ?_)
        wp_walk
        exact ⟨rfl, rfl, _, _, hrest, hr, by omega⟩
      | ne he hr =>
        rw [List.zip_cons_cons] at hz
        injection hz with hyx hrest
        injection hyx with hy hx
        subst hy hx
        refine wpAny_bind (he prog w _ _ ?_)
        have hri := hr prog w
        wp_walk using hri
        exact ⟨_, rfl, by simpa using h⟩
    case fin =>
      rintro ⟨b1, b2⟩ s' ⟨hb', rfl, vs, ws, hz, hvi, hlen⟩
      simp only at hb'
      subst hb'
      have hv : r = decide (items.size < items2.size) := by
        cases hvi with
        | nn => simp only [List.length_nil] at hlen; exact (decide_eq_false (by omega)).symm
        | nc => simp only [List.length_nil, List.length_cons] at hlen; exact (decide_eq_true (by omega)).symm
        | cn => simp only [List.length_nil, List.length_cons] at hlen; exact (decide_eq_false (by omega)).symm
        | eq he hr => rw [List.zip_cons_cons] at hz; cases hz
        | ne he hr => rw [List.zip_cons_cons] at hz; cases hz
      rw [hv] at h
      wp_walk
      exact ⟨_, rfl, by simpa [Builtin.Tuple.tupleCompareSizes] using h⟩
    case h =>
      exact ⟨rfl, rfl, items.toList, items2.toList, rfl, hi, by simp [Nat.add_comm]⟩
end
section
variable {prog : Program} {w : World} {A : Around} {E : Value → Shared → Prop} {s : Shared}
theorem lt_tupGen {l b : Addr} {items items2 : Array Value} {r : Bool} {Q : Value → Shared → Prop} (hl : IsTup s.heap l items) (hb : IsTup s.heap b items2) (hi : LtI (A.in1) s items.toList items2.toList r)
    (hu : A.units < cLine) (h : Q (.bool r) s) : wpAny (model prog w) A (compareOp .Lt (.ref l) (.ref b)) Q E s := by
  obtain ⟨⟨cls, dd, data, sl⟩, ho, hc, n, hd⟩ := id hl
  obtain ⟨⟨cls2, dd2, data2, sl2⟩, ho2, hc2, n2, hd2⟩ := id hb
  simp only at hc hd hc2 hd2
  subst hc hd hc2 hd2
  exact richCompare_meets_room (op := .Lt) ⟨_, ho, rfl⟩ ⟨_, ho2, rfl⟩ PySem.F.slot_tuple_lt PySem.F.entry_tuple_lt (PySem.F.args_tuple_lt_2 _ _) (tuple_lt_gen l b items items2 n n2 dd dd2 sl sl2 r)
    ⟨ho, ho2, hi, show Value.bool r ≠ Value.notImplemented ∧ Q (.bool r) s from ⟨(fun x => nomatch x), h⟩⟩ hu
end
end D3

namespace D3
open PySem PySem.Spec PyProof.Rows L2
section
variable {C : Cw} {X : Cx}
/-! ### < of texts, of tuples of flat things -/
def ltS (x y : Str) : Bool := decide (x.cps.toList < y.cps.toList)
def ltV1 : V → V → Option Bool
  | .int i, .int j => some (decide (i < j))
  | .str i, .str j => some (ltS i j)
  | _, _ => none
def ltVL : List V → List V → Option Bool
  | [], [] => some false
  | [], _ :: _ => some true
  | _ :: _, [] => some false
  | x :: xs, y :: ys => if eqV x y = true then ltVL xs ys else ltV1 x y
theorem ltI_of {A : Around} {s : Shared} {r : Bool} : ∀ {xs ys : List V} {us vs : List Value}, Vals xs us → Vals ys vs → xs.all flatV = true → ys.all flatV = true → ltVL xs ys = some r → LtI A s us vs r
  | _, _, _, _, .nil, .nil, _, _, h => by cases h; exact .nn
  | _, _, _, _, .nil, .cons _ _, _, _, h => by cases h; exact .nc
  | _, _, _, _, .cons _ _, .nil, _, _, h => by cases h; exact .cn
  | x :: xs, y :: ys, u :: us, v :: vs, .cons r1 t1, .cons r2 t2, f, g, h => by
    rw [List.all_cons, Bool.and_eq_true] at f g
    unfold ltVL at h
    cases e : eqV x y with
    | true =>
      rw [e, if_pos rfl] at h
      exact .eq (by rw [← e]; exact eqAt_V r1 r2 f.1 g.1) (ltI_of t1 t2 f.2 g.2 h)
    | false =>
      rw [e, if_neg Bool.false_ne_true] at h
      refine .ne (by rw [← e]; exact eqAt_V r1 r2 f.1 g.1) fun prog w' E Q q => ?_
      unfold ltV1 at h
      split at h
      · cases h; obtain ⟨t, rfl⟩ := r1; obtain ⟨t', rfl⟩ := r2; exact lt_int q
      · cases h; obtain ⟨t, rfl⟩ := r1; obtain ⟨t', rfl⟩ := r2; exact lt_str q
      · cases h
theorem op_ltT (hu : X.A.units + 64 < cLine) : OpR X (compareOp .Lt) (fun x y H Q => ∃ l b xs ys r, x = .ref l ∧ y = .ref b ∧ SqT X.K H l xs ∧ SqT X.K H b ys ∧ xs.all flatV = true ∧ ys.all flatV = true ∧ ltVL xs ys = some r ∧ Q (.bl r) H) := by
  intro pins s σ H x y v u Q I rx ry h
  obtain ⟨l, b, xs, ys, r, rfl, rfl, hl, hb, f, g, e, q⟩ := h
  cases rx
  cases ry
  obtain ⟨us, r1, p1, _⟩ := I.tuple hl
  obtain ⟨vs, r2, p2, _⟩ := I.tuple hb
  exact lt_tupGen p1 p2 (by simpa using ltI_of r1 r2 f g e) (by omega) ⟨.bl r, H, I, rfl, q⟩
def ltD1 : D → D → Option Bool
  | .int i, .int j => some (decide (i < j))
  | .str i, .str j => some (ltS i j)
  | _, _ => none
def ltL : List D → List D → Option Bool
  | [], [] => some false
  | [], _ :: _ => some true
  | _ :: _, [] => some false
  | x :: xs, y :: ys => if eqD x y = true then ltL xs ys else ltD1 x y
theorem lt_vOf : ∀ {xs ys : List D}, xs.all flatD = true → ys.all flatD = true → ltVL (xs.map vOf) (ys.map vOf) = ltL xs ys
  | [], [], _, _ => rfl
  | [], _ :: _, _, _ => rfl
  | _ :: _, [], _, _ => rfl
  | x :: xs, y :: ys, f, g => by
    rw [List.all_cons, Bool.and_eq_true] at f g
    show (if eqV (vOf x) (vOf y) = true then ltVL (xs.map vOf) (ys.map vOf) else ltV1 (vOf x) (vOf y)) = if eqD x y = true then ltL xs ys else ltD1 x y
    rw [eqV_vOf f.1 g.1, lt_vOf f.2 g.2]
    congr 1
    cases x <;> cases y <;> first | rfl | (cases f.1; done) | (cases g.1; done)
def ltF : Md → D → Md → D → Option (Md × D) := fun _ x _ y => match x, y with
  | .str i, .str j => some (.fz, .bl (ltS i j))
  | .tup xs, .tup ys => if (xs.all flatD && ys.all flatD) = true then (ltL xs ys).map fun b => (.fz, .bl b) else none
  | _, _ => none
theorem opd_ltF (hu : X.A.units + 64 < cLine) : OpD C X (compareOp .Lt) ltF := by
  refine ⟨_, op_lt_str.or (op_ltT hu), fun F H m x n y v u k d Q s rx ry e w => ?_⟩
  unfold ltF at e
  split at e
  · rename_i i j
    cases e
    obtain ⟨rfl, _⟩ := rx.str
    obtain ⟨rfl, _⟩ := ry.str
    exact .inl ⟨i, j, rfl, rfl, w _ F H (.refl s) (rp_bl _) (by intro z; cases z)⟩
  · rename_i xs ys
    split at e
    · rename_i hf
      rw [Bool.and_eq_true] at hf
      obtain ⟨a, us, rfl, q1, r1⟩ := rx.seqT s
      obtain ⟨b, vs, rfl, q2, r2⟩ := ry.seqT s
      have e1 := repL_flat hf.1 r1
      have e2 := repL_flat hf.2 r2
      subst e1; subst e2
      cases el : ltL xs ys with
      | none => rw [el] at e; cases e
      | some r =>
        rw [el] at e
        cases e
        exact .inr ⟨a, b, _, _, r, rfl, rfl, q1, q2, all_vOf hf.1, all_vOf hf.2, by rw [lt_vOf hf.1 hf.2]; exact el, w _ F H (.refl s) (rp_bl _) (by intro z; cases z)⟩
    · cases e
  · cases e
theorem isB_ltF : IsB ltF := fun m x n y k d e => by
  unfold ltF at e
  split at e
  · cases e; exact ⟨_, rfl, rfl⟩
  · split at e
    · rename_i xs ys _
      cases el : ltL xs ys with
      | none => rw [el] at e; cases e
      | some r => rw [el] at e; cases e; exact ⟨_, rfl, rfl⟩
    · cases e
  · cases e
/-! ### int of a text -/
def tcInt2 : List (Md × D) → Option (Md × D) := fun xs => match xs with
  | [(_, .str z)] => if z.length ≤ 640 then (PySem.intText? z).map fun n => (.fz, .int n) else none
  | _ => tcInt xs
theorem calld_int2 : CallD X (.type "int") tcInt2 := by
  obtain ⟨r, h1, h2⟩ := calld_int (X := X)
  refine ⟨fun xs H Q => r xs H Q ∨ ∃ z n, xs = [.str z] ∧ z.length ≤ 640 ∧ PySem.intText? z = some n ∧ Q (.int n) H, ?_, fun F H xs vs k d Q s rx e w => ?_⟩
  · intro pins s σ H xs us Q I rr h
    rcases h with h | ⟨z, n, rfl, hl, hn, q⟩
    · exact h1 pins s σ H xs us Q I rr h
    · obtain ⟨u, rfl, t, rfl⟩ := vals1 rr
      exact PySem.W.KIN.call_text hn hl ⟨.int n, H, I.tok _, ⟨_, rfl⟩, q⟩
  · unfold tcInt2 at e
    split at e
    · rename_i m z
      split at e
      · rename_i hl
        cases en : PySem.intText? z with
        | none => rw [en] at e; cases e
        | some n =>
          rw [en] at e
          cases e
          obtain ⟨v, rfl, r0⟩ := rx.one
          obtain ⟨rfl, _⟩ := r0.str
          exact .inr ⟨z, n, rfl, hl, en, w _ F H (.refl s) (rp_int _) (by intro z; cases z)⟩
      · cases e
    · exact .inl (h2 F H xs vs k d Q s rx e w)
/-! ### a text no times -/
def mulS0 : Md → D → Md → D → Option (Md × D) := fun _ x _ y => match x, y with
  | .str z, .int n => if (decide (n < 1) && decide (-1000 ≤ n)) = true then some (.fz, .str Str.empty) else none
  | _, _ => none
theorem opd_mulS0 : OpD C X (binaryOp .Mult) mulS0 := by
  refine ⟨fun x y H Q => ∃ z n, x = .str z ∧ y = .int n ∧ n < 1 ∧ -1000 ≤ n ∧ Q (.str Str.empty) H, ?_, ?_⟩
  · intro pins s σ H x y v u Q I rx ry h
    obtain ⟨z, n, rfl, rfl, h1, h2, q⟩ := h
    obtain ⟨t, rfl⟩ := rx
    obtain ⟨t', rfl⟩ := ry
    exact PySem.P.mul_str_none h1 (by omega) ⟨.str Str.empty, H, I.tok _, ⟨_, rfl⟩, q⟩
  · intro F H m x n y v u k d Q s rx ry e w
    unfold mulS0 at e
    split at e
    · rename_i z i
      obtain ⟨rfl, hz, hk⟩ := rx.str
      cases ry.int
      split at e
      · rename_i hc
        simp only [Bool.and_eq_true, decide_eq_true_eq] at hc
        cases e
        exact ⟨z, i, rfl, rfl, hc.1, hc.2, w _ F H (.refl s) (rp_str ⟨by decide +kernel, by decide +kernel⟩) (by intro z; cases z)⟩
      · cases e
    · cases e
end
end D3

namespace D3
open PySem PySem.Spec PyProof.Rows L2
section
open PySem.SeqAt
open PySem.AutoSeq1 (wpAny_loadPart')
open PySem.MeetsSeq PySem.MeetsSeq2 PySem.MeetsSeq3
variable {prog : Program} {w : World} {A : Around} {E : Value → Shared → Prop} {s : Shared}
/-- the next item of a tuple's iterator, asked from within a type of the kit -/
theorem nextT_item {it t : Addr} {i : Nat} {xs : Array Value} {x : Value} {Q : Value → Shared → Prop} (hi : s.heap.IsTupleIter it t i) (ht : IsTup s.heap t xs) (hx : xs[i]? = some x)
    (q : ∀ h', h'.IsTupleIter it t (i + 1) → Heap.SameBut it s.heap h' → Q x { s with heap := h' }) : wpAny (model prog w) A (Builtin.SmallTypes.nextOf (.ref it)) Q E s := by
  have ty := hi.typeIs
  obtain ⟨o, ho, hc, hd⟩ := hi
  obtain ⟨p, hp, _, n, hs⟩ := ht
  delta Builtin.SmallTypes.nextOf
  apply wpAny_bind
  apply wpAny_callSpecial?_slot (name := Str.ofString "__next__") ty F.slot_tuple_iterator_next
  refine wpAny_call_entry F.slot_tuple_iterator_next ty F.entry_tuple_iterator_next ?w (F.args_tuple_iterator_next_1 _)
  case w =>
    refine wpAny_bind (m := field (.ref it) 0) (wpAny_field ho hd (x := .ref t) rfl ?_)
    rw [show (Value.ref t == Value.none) = false from rfl, if_neg Bool.false_ne_true]
    refine wpAny_bind (m := field (.ref it) 1) (wpAny_field ho hd (x := .int i 0) rfl ?_)
    apply wpAny_bind
    apply wpAny_seqItems hp hs
    rw [Int.toNat_natCast]
    simp only [hx]
    apply wpAny_bind
    apply wpAny_setField ho hd (by simp)
    refine wpAny_pure ⟨x, rfl, wpAny_pure (q _ ⟨_, Heap.get?_update_self _ ho (Obj.isFreed_of_fields (Obj.data_mapFields hd _)), ?_, ?_⟩ (Heap.SameBut.update ..))⟩
    · rw [Obj.cls_mapFields, hc]
    · rw [Obj.data_mapFields hd]; simp [rawInt]
/-- no next item -/
theorem nextT_end {it t : Addr} {i : Nat} {xs : Array Value} {Q : Value → Shared → Prop} (h0 : A.handled = none) (hi : s.heap.IsTupleIter it t i) (ht : IsTup s.heap t xs) (hx : xs[i]? = none)
    (q : ∀ h' e, Heap.ExtBut it s.heap h' → (∃ o, h'.get? e = some o ∧ o.cls = .type "StopIteration") → E (.ref e) { s with heap := h' }) : wpAny (model prog w) A (Builtin.SmallTypes.nextOf (.ref it)) Q E s := by
  have ty := hi.typeIs
  obtain ⟨o, ho, hc, hd⟩ := hi
  obtain ⟨p, hp, _, n, hs⟩ := ht
  delta Builtin.SmallTypes.nextOf
  apply wpAny_bind
  apply wpAny_callSpecial?_slot (name := Str.ofString "__next__") ty F.slot_tuple_iterator_next
  refine wpAny_call_entry F.slot_tuple_iterator_next ty F.entry_tuple_iterator_next ?w (F.args_tuple_iterator_next_1 _)
  case w =>
    refine wpAny_bind (m := field (.ref it) 0) (wpAny_field ho hd (x := .ref t) rfl ?_)
    rw [show (Value.ref t == Value.none) = false from rfl, if_neg Bool.false_ne_true]
    refine wpAny_bind (m := field (.ref it) 1) (wpAny_field ho hd (x := .int i 0) rfl ?_)
    apply wpAny_bind
    apply wpAny_seqItems hp hs
    rw [Int.toNat_natCast]
    simp only [hx]
    apply wpAny_bind
    apply wpAny_rule
    apply wpAny_bind
    apply wpAny_setField ho hd (by simp)
    refine wpAny_bind (m := newExc (.type "StopIteration") []) ?_
    simp only [newExc, newTuple]
    apply wpAny_bind
    refine wpAny_newObj_type ?_ (by size_fits)
    apply wpAny_bind (m := firstArgMember _ _)
    refine wpAny_of_eq (a := .none) ?_ ?_
    · first | rfl | (unfold firstArgMember; rfl)
    refine wpAny_newObj_type (hd := by size_fits) ?_
    simp only [raiseNew]
    apply wpAny_bind
    apply wpAny_handled
    first | rw [show A.in1.handled = none from h0] | rw [h0]
    refine wpAny_throw ?_
    exact q _ _ ((Heap.SameBut.extBut (Heap.SameBut.update ..)).push _ |>.push _) ⟨_, Heap.get?_push_size _ rfl, rfl⟩
theorem tup_at {h h' : Heap} {a : Addr} {xs : Array Value} (x : IsTup h a xs) (k : ∀ o, h.get? a = some o → h'.get? a = some o) : IsTup h' a xs := by
  obtain ⟨o, ho, r⟩ := x
  exact ⟨o, k o ho, r⟩
/-- zip over two tuples: one more pair -/
theorem zipT_item {z TI TO i j l m : Addr} {ki kj : Nat} {xs ys : Array Value} {x y a b : Value} {Q : Value → Shared → Prop} (D : ZipApart z TI TO i j l m)
    (hz : IsZip s.heap z TI TO .none) (hI : IsPair s.heap TI (.ref i) (.ref j)) (hO : IsPair s.heap TO a b) (hi : s.heap.IsTupleIter i l ki) (hj : s.heap.IsTupleIter j m kj) (hl : IsTup s.heap l xs) (hm : IsTup s.heap m ys)
    (hx : xs[ki]? = some x) (hy : ys[kj]? = some y)
    (q : ∀ h', IsZip h' z TI TO (rawInt s.heap.objs.size) → IsPair h' TO x y → h'.IsTupleIter i l (ki + 1) → h'.IsTupleIter j m (kj + 1) → IsPair h' s.heap.objs.size x y → h'.objs.size = s.heap.objs.size + 1 →
      (∀ c o, c ≠ z → c ≠ TO → c ≠ i → c ≠ j → s.heap.get? c = some o → h'.get? c = some o) → Q (.ref s.heap.objs.size) { s with heap := h' }) :
    wpAny (model prog w) A (Builtin.«zip.__next__» ⟨[.ref z], []⟩) (fun f s' => ∃ v, f = .done (.ret v) ∧ Q v s') E s := by
  refine wpAny_bind (m := field (.ref z) 2) (wpAny_field hz rfl (x := .bool false) rfl ?_)
  refine wpAny_bind (m := field (.ref z) 3) (wpAny_field hz rfl (x := .ref TI) rfl ?_)
  apply wpAny_bind
  apply wpAny_seqItems hI rfl
  refine wpAny_bind (m := Builtin.SmallTypes.ownedTupleIsFree (.ref z)) ?_
  delta Builtin.SmallTypes.ownedTupleIsFree
  apply wpAny_bind
  refine wpAny_field hz rfl (x := .none) rfl ?_
  apply wpAny_pure
  simp only [if_true]
  apply wpAny_bind
  apply wpAny_rule
  apply wpAny_bind
  refine wpAny_field hz rfl (x := .ref TO) rfl ?_
  apply wpAny_bind
  refine wpAny_setField_rec hz (by simp) fun H1 z1 s1 => ?_
  have z1 : IsZip H1 z TI TO .ellipsis := z1
  apply wpAny_bind
  simp only [List.zipIdx_cons, List.zipIdx_nil, List.forIn_cons, List.forIn_nil]
  apply wpAny_bind
  apply wpAny_bind
  apply wpAny_onRaise
  refine wpAny_bind (m := Builtin.SmallTypes.nextOf (.ref i)) ?_
  refine nextT_item (hi.extBut s1.extBut D.i1z) (tup_at hl fun o e => s1.extBut _ o D.l1z e) hx fun H2 i2 s2 => ?_
  apply wpAny_pure
  have o2 : IsPair H2 TO a b := s2.extBut _ _ D.TOi1 (s1.extBut _ _ D.TOz hO)
  apply wpAny_bind
  apply wpAny_seqItems o2 rfl
  apply wpAny_bind
  refine wpAny_updateSeq_pair o2 fun H3 o3 s3 => ?_
  have o3 : IsPair H3 TO x b := o3
  apply wpAny_bind
  apply wpAny_letGo
  apply wpAny_pure
  apply wpAny_bind
  apply wpAny_bind
  apply wpAny_onRaise
  refine wpAny_bind (m := Builtin.SmallTypes.nextOf (.ref j)) ?_
  have j3 : H3.IsTupleIter j m kj := ((hj.extBut s1.extBut D.i2z).extBut s2.extBut D.i12.symm).extBut s3.extBut D.TOi2.symm
  have m3 : IsTup H3 m ys := tup_at hm fun o e => s3.extBut _ o D.l2TO (s2.extBut _ o D.l2i1 (s1.extBut _ o D.l2z e))
  refine nextT_item j3 m3 hy fun H4 j4 s4 => ?_
  apply wpAny_pure
  have o4 : IsPair H4 TO x b := s4.extBut _ _ D.TOi2 o3
  apply wpAny_bind
  apply wpAny_seqItems o4 rfl
  apply wpAny_bind
  refine wpAny_updateSeq_pair o4 fun H5 o5 s5 => ?_
  have o5 : IsPair H5 TO x y := o5
  apply wpAny_bind
  apply wpAny_letGo
  refine wpAny_pure (wpAny_pure ?_)
  apply wpAny_bind
  apply wpAny_seqItems o5 rfl
  apply wpAny_bind
  refine wpAny_newTuple ?_
  have sz : H5.objs.size = s.heap.objs.size := by rw [s5.1, s4.1, s3.1, s2.1, s1.1]
  have z5 : IsZip H5 z TI TO .ellipsis := s5.extBut _ _ D.TOz.symm (s4.extBut _ _ D.i2z.symm (s3.extBut _ _ D.TOz.symm (s2.extBut _ _ D.i1z.symm z1)))
  have k5 : ∀ c o, c ≠ z → c ≠ TO → c ≠ i → c ≠ j → s.heap.get? c = some o → H5.get? c = some o := fun c o c1 c2 c3 c4 e =>
    s5.extBut _ _ c2 (s4.extBut _ _ c4 (s3.extBut _ _ c2 (s2.extBut _ _ c3 (s1.extBut _ _ c1 e))))
  have i5 : H5.IsTupleIter i l (ki + 1) := ((i2.extBut s3.extBut D.TOi1.symm).extBut s4.extBut D.i12).extBut s5.extBut D.TOi1.symm
  have j5 : H5.IsTupleIter j m (kj + 1) := j4.extBut s5.extBut D.TOi2.symm
  have zl : z < H5.objs.size := Heap.lt_size z5
  refine wpAny_bind (m := Builtin.SmallTypes.ownedTupleHandOut (.ref z) (.ref H5.objs.size)) ?_
  delta Builtin.SmallTypes.ownedTupleHandOut
  have z6 : IsZip (H5.push { cls := .type "tuple", data := .seq #[x, y] }) z TI TO .ellipsis := Heap.get?_push_of_some _ z5
  apply wpAny_bind
  refine wpAny_setField_rec z6 (by simp) fun H7 z7 s7 => ?_
  have z7 : IsZip H7 z TI TO (rawInt H5.objs.size) := z7
  refine wpAny_setField_rec z7 (by simp) fun H8 z8 s8 => ?_
  have z8 : IsZip H8 z TI TO (rawInt H5.objs.size) := z8
  have up : ∀ c o, c ≠ z → H5.get? c = some o → H8.get? c = some o := fun c o c1 e => s8.extBut _ _ c1 (s7.extBut _ _ c1 (Heap.get?_push_of_some _ e))
  have t8 : IsPair H8 H5.objs.size x y := s8.extBut _ _ (Nat.ne_of_gt zl) (s7.extBut _ _ (Nat.ne_of_gt zl) (Heap.get?_push_size _ rfl))
  have n8 : H8.objs.size = H5.objs.size + 1 := by rw [s8.1, s7.1, Heap.size_push]
  rw [sz] at z8 t8 n8
  apply wpAny_pure
  refine ⟨_, rfl, ?_⟩
  show Q (.ref H5.objs.size) _
  rw [sz]
  exact q H8 z8 (up _ _ D.TOz o5) (i5.at fun o e => up _ o D.i1z e) (j5.at fun o e => up _ o D.i2z e) t8 n8 fun c o c1 c2 c3 c4 e => up c o c1 (k5 c o c1 c2 c3 c4 e)
/-- zip over two tuples: one of them is at its end -/
theorem zipT_end {z TI TO i j l m : Addr} {ki kj : Nat} {xs ys : Array Value} {a b : Value} {Q : Fin → Shared → Prop} (h0 : A.handled = none) (D : ZipApart z TI TO i j l m)
    (hz : IsZip s.heap z TI TO .none) (hI : IsPair s.heap TI (.ref i) (.ref j)) (hO : IsPair s.heap TO a b) (hi : s.heap.IsTupleIter i l ki) (hj : s.heap.IsTupleIter j m kj) (hl : IsTup s.heap l xs) (hm : IsTup s.heap m ys)
    (hn : xs[ki]? = none ∨ ys[kj]? = none)
    (q : ∀ h' e, (∀ c o, c ≠ z → c ≠ TO → c ≠ i → c ≠ j → s.heap.get? c = some o → h'.get? c = some o) → (∃ o, h'.get? e = some o ∧ o.cls = .type "StopIteration") → E (.ref e) { s with heap := h' }) :
    wpAny (model prog w) A (Builtin.«zip.__next__» ⟨[.ref z], []⟩) Q E s := by
  refine wpAny_bind (m := field (.ref z) 2) (wpAny_field hz rfl (x := .bool false) rfl ?_)
  refine wpAny_bind (m := field (.ref z) 3) (wpAny_field hz rfl (x := .ref TI) rfl ?_)
  apply wpAny_bind
  apply wpAny_seqItems hI rfl
  refine wpAny_bind (m := Builtin.SmallTypes.ownedTupleIsFree (.ref z)) ?_
  delta Builtin.SmallTypes.ownedTupleIsFree
  apply wpAny_bind
  refine wpAny_field hz rfl (x := .none) rfl ?_
  apply wpAny_pure
  simp only [if_true]
  apply wpAny_bind
  apply wpAny_rule
  apply wpAny_bind
  refine wpAny_field hz rfl (x := .ref TO) rfl ?_
  apply wpAny_bind
  refine wpAny_setField_rec hz (by simp) fun H1 z1 s1 => ?_
  have z1 : IsZip H1 z TI TO .ellipsis := z1
  apply wpAny_bind
  simp only [List.zipIdx_cons, List.zipIdx_nil, List.forIn_cons, List.forIn_nil]
  apply wpAny_bind
  apply wpAny_bind
  apply wpAny_onRaise
  refine wpAny_bind (m := Builtin.SmallTypes.nextOf (.ref i)) ?_
  have i1 := hi.extBut s1.extBut D.i1z
  have l1 : IsTup H1 l xs := tup_at hl fun o e => s1.extBut _ o D.l1z e
  cases hx : xs[ki]? with
  | none =>
    refine nextT_end h0 i1 l1 hx fun H2 e s2 he => ?_
    obtain ⟨oe, g, c⟩ := he
    have z2 : IsZip H2 z TI TO .ellipsis := s2 _ _ D.i1z.symm z1
    have ez : e ≠ z := by
      rintro rfl
      rw [z2] at g
      cases g
      simp at c
    refine wpAny_setField_rec z2 (by simp) fun H3 _ s3 => ?_
    exact q H3 e (fun c o c1 _ c3 _ x => s3.extBut _ _ c1 (s2 _ _ c3 (s1.extBut _ _ c1 x))) ⟨oe, s3.extBut _ _ ez g, c⟩
  | some x =>
    have hy : ys[kj]? = none := by
      rcases hn with h | h
      · rw [hx] at h; cases h
      · exact h
    refine nextT_item i1 l1 hx fun H2 i2 s2 => ?_
    apply wpAny_pure
    have o2 : IsPair H2 TO a b := s2.extBut _ _ D.TOi1 (s1.extBut _ _ D.TOz hO)
    apply wpAny_bind
    apply wpAny_seqItems o2 rfl
    apply wpAny_bind
    refine wpAny_updateSeq_pair o2 fun H3 o3 s3 => ?_
    apply wpAny_bind
    apply wpAny_letGo
    apply wpAny_pure
    apply wpAny_bind
    apply wpAny_bind
    apply wpAny_onRaise
    refine wpAny_bind (m := Builtin.SmallTypes.nextOf (.ref j)) ?_
    have j3 : H3.IsTupleIter j m kj := ((hj.extBut s1.extBut D.i2z).extBut s2.extBut D.i12.symm).extBut s3.extBut D.TOi2.symm
    have m3 : IsTup H3 m ys := tup_at hm fun o e => s3.extBut _ o D.l2TO (s2.extBut _ o D.l2i1 (s1.extBut _ o D.l2z e))
    refine nextT_end h0 j3 m3 hy fun H4 e s4 he => ?_
    obtain ⟨oe, g, c⟩ := he
    have z4 : IsZip H4 z TI TO .ellipsis := s4 _ _ D.i2z.symm (s3.extBut _ _ D.TOz.symm (s2.extBut _ _ D.i1z.symm z1))
    have ez : e ≠ z := by
      rintro rfl
      rw [z4] at g
      cases g
      simp at c
    refine wpAny_setField_rec z4 (by simp) fun H5 _ s5 => ?_
    exact q H5 e (fun c o c1 c2 c3 c4 x => s5.extBut _ _ c1 (s4 _ _ c4 (s3.extBut _ _ c2 (s2.extBut _ _ c3 (s1.extBut _ _ c1 x))))) ⟨oe, s5.extBut _ _ ez g, c⟩
/-- the same, as a loop asks -/
theorem pyNextZ_item {z TI TO i j l m : Addr} {ki kj : Nat} {xs ys : Array Value} {x y a b : Value} {Q : Option Value → Shared → Prop} (D : ZipApart z TI TO i j l m)
    (hz : IsZip s.heap z TI TO .none) (hI : IsPair s.heap TI (.ref i) (.ref j)) (hO : IsPair s.heap TO a b) (hi : s.heap.IsTupleIter i l ki) (hj : s.heap.IsTupleIter j m kj) (hl : IsTup s.heap l xs) (hm : IsTup s.heap m ys)
    (hx : xs[ki]? = some x) (hy : ys[kj]? = some y)
    (q : ∀ h', IsZip h' z TI TO (rawInt s.heap.objs.size) → IsPair h' TO x y → h'.IsTupleIter i l (ki + 1) → h'.IsTupleIter j m (kj + 1) → IsPair h' s.heap.objs.size x y → h'.objs.size = s.heap.objs.size + 1 →
      (∀ c o, c ≠ z → c ≠ TO → c ≠ i → c ≠ j → s.heap.get? c = some o → h'.get? c = some o) → Q (some (.ref s.heap.objs.size)) { s with heap := h' }) :
    wpAny (model prog w) A (pyNext (.ref z)) Q E s := by
  have ty : s.TypeIs (.ref z) "zip" := ⟨_, hz, rfl⟩
  delta pyNext
  apply wpAny_bind
  apply wpAny_attempt
  apply wpAny_callSpecial?_slot (name := Str.ofString "__next__") ty F.slot_zip_next
  refine wpAny_call_entry F.slot_zip_next ty F.entry_zip_next ?w (F.args_zip_next_1 _)
  case w => exact zipT_item D hz hI hO hi hj hl hm hx hy fun h' a1 a2 a3 a4 a5 a6 a7 => wpAny_pure (q h' a1 a2 a3 a4 a5 a6 a7)
theorem pyNextZ_end {z TI TO i j l m : Addr} {ki kj : Nat} {xs ys : Array Value} {a b : Value} {Q : Option Value → Shared → Prop} (h0 : A.handled = none) (D : ZipApart z TI TO i j l m)
    (hz : IsZip s.heap z TI TO .none) (hI : IsPair s.heap TI (.ref i) (.ref j)) (hO : IsPair s.heap TO a b) (hi : s.heap.IsTupleIter i l ki) (hj : s.heap.IsTupleIter j m kj) (hl : IsTup s.heap l xs) (hm : IsTup s.heap m ys)
    (hn : xs[ki]? = none ∨ ys[kj]? = none)
    (q : ∀ h', (∀ c o, c ≠ z → c ≠ TO → c ≠ i → c ≠ j → s.heap.get? c = some o → h'.get? c = some o) → Q none { s with heap := h' }) : wpAny (model prog w) A (pyNext (.ref z)) Q E s := by
  have ty : s.TypeIs (.ref z) "zip" := ⟨_, hz, rfl⟩
  delta pyNext
  apply wpAny_bind
  apply wpAny_attempt
  apply wpAny_callSpecial?_slot (name := Str.ofString "__next__") ty F.slot_zip_next
  refine wpAny_call_entry F.slot_zip_next ty F.entry_zip_next ?w (F.args_zip_next_1 _)
  case w =>
    refine zipT_end h0 D hz hI hO hi hj hl hm hn fun h' e k he => ?_
    obtain ⟨o, g, c⟩ := he
    apply wpAny_bind
    refine wpAny_isInstance (T := "StopIteration") (b := true) ⟨o, g, c⟩ isSubtype_stop ?_
    exact wpAny_pure (q _ k)
/-! ### zip called -/
def tIt (l : Addr) : Obj := { cls := .type "tuple_iterator", data := .fields #[.ref l, .int 0 0] }
def zp2 (h : Heap) (l m : Addr) : Heap := (h.push (tIt l)).push (tIt m)
def zp3 (h : Heap) (l m : Addr) : Heap := (zp2 h l m).push { cls := .type "tuple", data := .seq #[.ref h.objs.size, .ref (h.push (tIt l)).objs.size] }
def zp4 (h : Heap) (l m : Addr) : Heap := (zp3 h l m).push { cls := .type "tuple", data := .seq #[.none, .none] }
def zp5 (h : Heap) (l m : Addr) : Heap := (zp4 h l m).push { cls := .type "zip", data := .fields #[.none, .bool false, .bool false, .ref (zp2 h l m).objs.size, .ref (zp3 h l m).objs.size] }
theorem zs2 (h : Heap) (l m : Addr) : (zp2 h l m).objs.size = h.objs.size + 2 := by unfold zp2; rw [Heap.size_push, Heap.size_push]
theorem zs3 (h : Heap) (l m : Addr) : (zp3 h l m).objs.size = h.objs.size + 3 := by unfold zp3; rw [Heap.size_push, zs2]
theorem zs4 (h : Heap) (l m : Addr) : (zp4 h l m).objs.size = h.objs.size + 4 := by unfold zp4; rw [Heap.size_push, zs3]
theorem zs5 (h : Heap) (l m : Addr) : (zp5 h l m).objs.size = h.objs.size + 5 := by unfold zp5; rw [Heap.size_push, zs4]
theorem zipT_new (l m : Addr) (xs ys : Array Value) :
    Meets (Builtin.«zip.__new__» ⟨[.type "zip", .ref l, .ref m], []⟩) (fun _ R s => s.heap.IsTuple l xs ∧ s.heap.IsTuple m ys ∧ R (.ok (.ret (.ref (zp4 s.heap l m).objs.size))) { s with heap := zp5 s.heap l m }) :=
  .of_wp fun prog w A R s h => by
    obtain ⟨hp, g, d, tk, os⟩ := s; obtain ⟨hl, hm, h⟩ := h
    have f := sub_zip
    have e1 : Heap.IsTuple (Shared.heap ⟨hp, g, d, tk, os⟩) l xs := hl
    have e2 : Heap.IsTuple (Shared.heap ⟨hp.push { cls := .type "tuple_iterator", data := .fields #[.ref l, .int 0 0] }, g, d, tk, os⟩) m ys := Heap.IsTuple.push hm _
    wp_walk using wpAny_pyIter_tuple e1, wpAny_pyIter_tuple e2
    exact ⟨_, rfl, h⟩
theorem call_zipT {l m : Addr} {xs ys : Array Value} {Q : Value → Shared → Prop} (hl : s.heap.IsTuple l xs) (hm : s.heap.IsTuple m ys)
    (q : ∀ h', IsZip h' (s.heap.objs.size + 4) (s.heap.objs.size + 2) (s.heap.objs.size + 3) .none → IsPair h' (s.heap.objs.size + 2) (.ref s.heap.objs.size) (.ref (s.heap.objs.size + 1)) → IsPair h' (s.heap.objs.size + 3) .none .none →
      h'.IsTupleIter s.heap.objs.size l 0 → h'.IsTupleIter (s.heap.objs.size + 1) m 0 → h'.objs.size = s.heap.objs.size + 5 → (∀ c o, s.heap.get? c = some o → h'.get? c = some o) → Q (.ref (s.heap.objs.size + 4)) { s with heap := h' }) :
    wpAny (model prog w) A (call (.type "zip") [.ref l, .ref m]) Q E s := by
  have p4 : ∀ {c : Addr} {o : Obj}, (zp4 s.heap l m).get? c = some o → (zp5 s.heap l m).get? c = some o := fun e => Heap.get?_push_of_some _ e
  have p3 : ∀ {c : Addr} {o : Obj}, (zp3 s.heap l m).get? c = some o → (zp5 s.heap l m).get? c = some o := fun e => p4 (Heap.get?_push_of_some _ e)
  have p2 : ∀ {c : Addr} {o : Obj}, (zp2 s.heap l m).get? c = some o → (zp5 s.heap l m).get? c = some o := fun e => p3 (Heap.get?_push_of_some _ e)
  have p1 : ∀ {c : Addr} {o : Obj}, (s.heap.push (tIt l)).get? c = some o → (zp5 s.heap l m).get? c = some o := fun e => p2 (Heap.get?_push_of_some _ e)
  have w1 : (s.heap.push (tIt l)).objs.size = s.heap.objs.size + 1 := Heap.size_push ..
  have g5 : (zp5 s.heap l m).get? (zp4 s.heap l m).objs.size = some _ := Heap.get?_push_size _ rfl
  have g4 : (zp5 s.heap l m).get? (zp3 s.heap l m).objs.size = some _ := p4 (Heap.get?_push_size _ rfl)
  have g3 : (zp5 s.heap l m).get? (zp2 s.heap l m).objs.size = some _ := p3 (Heap.get?_push_size _ rfl)
  have g2 : (zp5 s.heap l m).get? (s.heap.push (tIt l)).objs.size = some (tIt m) := p2 (Heap.get?_push_size _ rfl)
  have g1 : (zp5 s.heap l m).get? s.heap.objs.size = some (tIt l) := p1 (Heap.get?_push_size _ rfl)
  refine callType_new F.called_zip (by decide) (F.typeCall_zip_2 _ _) (F.newCall_zip_2 _ _) (fun obj => F.args_object_init_3 obj _ _) F.entry_zip_new (zipT_new l m xs ys) ⟨hl, hm, ?_⟩
  show _ ∧ _
  rw [zs2, zs3, zs4] at g5
  rw [w1, zs2] at g3
  rw [zs3] at g4
  rw [w1] at g2
  rw [zs4]
  refine ⟨⟨_, g5, rfl⟩, q _ g5 g3 g4 ⟨_, g1, rfl, rfl⟩ ⟨_, g2, rfl, rfl⟩ (zs5 ..) fun c o x => p1 (Heap.get?_push_of_some _ x)⟩
end
end D3

namespace D3
open PySem PySem.Spec PyProof.Rows L2
section
variable {X : Cx} {pins : List (Addr × Obj)} {σ : L2.St} {H : Hp} {s : Shared} {h' : Heap}
/-- records of ours have turned, a tuple has been laid -/
theorem inv_pair {t' : Nat} {its : List Addr} {n : Addr} {xs : List V} (I : Inv X pins σ H s) (k : ∀ b o, b ∉ its → s.heap.get? b = some o → h'.get? b = some o) (hf : ∀ b ∈ its, FpOk X pins H b)
    (hn : s.heap.objs.size ≤ n) (new : ∃ us, Vals xs us ∧ PlainTp h' n us.toArray) (hz : xs.length ≤ sizeLine) : Inv X pins σ (upd H n (.tup xs)) { s with heap := h', toks := t' } := by
  have fr : H n = none := I.hok.fresh hn
  have lt : ∀ {b o}, s.heap.get? b = some o → b ≠ n := fun e z => absurd (Heap.lt_size e) (by rw [z]; exact Nat.not_lt.mpr hn)
  have nb : ∀ {b u}, H b = some u → b ≠ n := fun e z => by rw [z, fr] at e; cases e
  have ni : ∀ {b u}, H b = some u → b ∉ its := fun e z => by rw [(hf _ z).1] at e; cases e
  refine I.call (g' := s.gens) (d' := s.drawn) (ch := its) ⟨fun b o e _ _ hx => k b o hx e, fun b o e _ _ hx => ⟨o.slots, k b o hx e⟩, fun b o e h0 _ => by rw [upd_ne (lt e)]; exact h0, fun b o e hx => ⟨o, k b o hx e⟩,
    fun b u e => by rw [upd_ne (nb e)]; exact e, fun b u v e => by rw [upd_ne (nb e)]; exact e, fun b u e => ⟨#[], by rw [upd_ne (nb e), e]; simp⟩⟩ (fun b u e => ?_) I.bare fun b hb => ?_
  · by_cases hb : b = n
    · subst hb
      rw [upd_same] at e
      cases e
      exact ⟨hz, new⟩
    · rw [upd_ne hb] at e
      refine (I.hok b u e).stay (fun c v hc q => k c v ?_ q) (fun c q => ?_) fun c v q => ?_
      · rcases hc with z | z
        · rw [z]; exact ni e
        · exact ni z
      · rw [upd_ne (nb q)]; exact q
      · rw [upd_ne (nb q)]; exact q
  · obtain ⟨f0, f1, f2, f3, f4, f5⟩ := hf b hb
    exact ⟨f3, f1, f4, f5⟩
theorem inv_turned {t' : Nat} {its : List Addr} (I : Inv X pins σ H s) (k : ∀ b o, b ∉ its → s.heap.get? b = some o → h'.get? b = some o) (hf : ∀ b ∈ its, FpOk X pins H b) : Inv X pins σ H { s with heap := h', toks := t' } := by
  have ni : ∀ {b u}, H b = some u → b ∉ its := fun e z => by rw [(hf _ z).1] at e; cases e
  refine I.call (g' := s.gens) (d' := s.drawn) (ch := its) ⟨fun b o e _ _ hx => k b o hx e, fun b o e _ _ hx => ⟨o.slots, k b o hx e⟩, fun b o e h0 _ => h0, fun b o e hx => ⟨o, k b o hx e⟩,
    fun b u e => e, fun b u v e => e, fun b u e => ⟨#[], by rw [e]; simp⟩⟩ (fun b u e => ?_) I.bare fun b hb => ?_
  · refine (I.hok b u e).stay (fun c v hc q => k c v ?_ q) (fun _ q => q) fun _ _ q => q
    rcases hc with z | z
    · rw [z]; exact ni e
    · exact ni z
  · obtain ⟨f0, f1, f2, f3, f4, f5⟩ := hf b hb
    exact ⟨f3, f1, f4, f5⟩
/-- pairs of two tuples' items, each a new tuple -/
def Itz (K : PySem.W.Frag) (a b : Addr) : It :=
  ⟨fun i H => ∃ xs ys x y, SqT K H a xs ∧ SqT K H b ys ∧ xs[i]? = some x ∧ ys[i]? = some y,
   fun i H v H' => ∃ p x y, v = .ref p ∧ H p = none ∧ H' = upd H p (.tup [x, y]) ∧ (∀ xs, SqT K H a xs → xs[i]? = some x) ∧ ∀ ys, SqT K H b ys → ys[i]? = some y,
   fun i H => ∃ xs ys, SqT K H a xs ∧ SqT K H b ys ∧ (xs.length ≤ i ∨ ys.length ≤ i)⟩
theorem turn_zip {P : Program} {w : World} {K : PySem.W.Frag} {elts : List Expr} {cx} {pos : Pos} (z TI TO i j l m : Addr) (D : ZipApart z TI TO i j l m) :
    Turn P w K (.Tuple elts cx pos) (Itz K l m) [z, TI, TO, i, j] z (fun k h => IsZip h z TI TO .none ∧ IsPair h TI (.ref i) (.ref j) ∧ (∃ a b, IsPair h TO a b) ∧ h.IsTupleIter i l k ∧ h.IsTupleIter j m k) where
  mem := by simp
  obj := fun k h st b hb => by
    obtain ⟨hz, hI, ⟨a, c, hO⟩, hi, hj⟩ := st
    simp only [List.mem_cons, List.mem_nil_iff, or_false] at hb
    rcases hb with rfl | rfl | rfl | rfl | rfl
    · exact ⟨_, hz, fun v e => by cases e⟩
    · exact ⟨_, hI, fun v e => by cases e⟩
    · exact ⟨_, hO, fun v e => by cases e⟩
    · obtain ⟨o, e, _, d⟩ := hi
      exact ⟨o, e, fun v q => by rw [d] at q; cases q⟩
    · obtain ⟨o, e, _, d⟩ := hj
      exact ⟨o, e, fun v q => by rw [d] at q; cases q⟩
  keep := fun k h h' st q => by
    obtain ⟨hz, hI, ⟨a, c, hO⟩, hi, hj⟩ := st
    exact ⟨q z (by simp) _ hz, q TI (by simp) _ hI, ⟨a, c, q TO (by simp) _ hO⟩, hi.at fun o e => q i (by simp) o e, hj.at fun o e => q j (by simp) o e⟩
  item := by
    intro X hP hw hK hc k pins s σ H E I hf st hg
    subst hP hw hK
    obtain ⟨hz, hI, ⟨a, c, hO⟩, hi, hj⟩ := st
    obtain ⟨xs, ys, x, y, ql, qm, hx, hy⟩ := hg
    obtain ⟨us, r1, p1, _⟩ := I.tuple ql
    obtain ⟨vs, r2, p2, _⟩ := I.tuple qm
    obtain ⟨u, hu, ru⟩ := r1.get hx
    obtain ⟨v, hv, rv⟩ := r2.get hy
    refine pyNextZ_item D hz hI hO hi hj p1 p2 (x := u) (y := v) (by simpa using hu) (by simpa using hv) fun h' a1 a2 a3 a4 a5 a6 a7 => ?_
    refine ⟨_, rfl, wpAny_letOwnedTupleGo_zip (s := { s with heap := h' }) a1 fun h2 b1 b2 => ?_⟩
    have zn : s.heap.objs.size ≠ z := fun q => absurd (Heap.lt_size hz) (by rw [← q]; exact Nat.lt_irrefl _)
    have up : ∀ b o, b ∉ [z, TI, TO, i, j] → s.heap.get? b = some o → h2.get? b = some o := fun b o hb e => by
      simp only [List.mem_cons, List.mem_nil_iff, or_false, not_or] at hb
      exact b2.extBut _ _ hb.1 (a7 b o hb.1 hb.2.2.1 hb.2.2.2.1 hb.2.2.2.2 e)
    have I2 := inv_pair (t' := s.toks) (xs := [x, y]) I up hf (Nat.le_refl _) ⟨[u, v], .cons ru (.cons rv .nil), ⟨_, b2.extBut _ _ zn a5, rfl, rfl, _, rfl⟩⟩ (show 2 ≤ sizeLine by decide +kernel)
    refine ⟨.ref s.heap.objs.size, _, I2, rfl, ⟨_, x, y, rfl, I.hok.fresh (Nat.le_refl _), rfl, fun zs q => by rw [I.tuple_inj q ql]; exact hx, fun zs q => by rw [I.tuple_inj q qm]; exact hy⟩, ?_, fun b hb => ?_⟩
    · exact ⟨b1, b2.extBut _ _ D.TIz (a7 _ _ D.TIz D.TITO D.TIi1 D.TIi2 hI), ⟨_, _, b2.extBut _ _ D.TOz a2⟩, a3.extBut b2.extBut D.i1z, a4.extBut b2.extBut D.i2z⟩
    · have hb0 := hb
      obtain ⟨o, e, _⟩ : ∃ o, s.heap.get? b = some o ∧ True := by
        simp only [List.mem_cons, List.mem_nil_iff, or_false] at hb
        rcases hb with rfl | rfl | rfl | rfl | rfl
        · exact ⟨_, hz, trivial⟩
        · exact ⟨_, hI, trivial⟩
        · exact ⟨_, hO, trivial⟩
        · obtain ⟨o, e, _⟩ := hi; exact ⟨o, e, trivial⟩
        · obtain ⟨o, e, _⟩ := hj; exact ⟨o, e, trivial⟩
      rw [upd_ne fun q => absurd (Heap.lt_size e) (by rw [q]; exact Nat.lt_irrefl _)]
      exact (hf b hb0).1
  done := by
    intro X hP hw hK hc k pins s σ H E I hf st hg
    subst hP hw hK
    obtain ⟨hz, hI, ⟨a, c, hO⟩, hi, hj⟩ := st
    obtain ⟨xs, ys, ql, qm, hn⟩ := hg
    obtain ⟨us, r1, p1, _⟩ := I.tuple ql
    obtain ⟨vs, r2, p2, _⟩ := I.tuple qm
    have e1 := r1.length
    have e2 := r2.length
    refine pyNextZ_end (I.ok.hd hc) D hz hI hO hi hj p1 p2 (hn.imp (fun q => by simp; omega) fun q => by simp; omega) fun h' a7 => ⟨rfl, ?_⟩
    exact inv_turned (t' := s.toks) I (fun b o hb e => by
      simp only [List.mem_cons, List.mem_nil_iff, or_false, not_or] at hb
      exact a7 b o hb.1 hb.2.2.1 hb.2.2.2.1 hb.2.2.2.2 e) hf
  self := fun _ _ _ _ _ st h => wpAny_pyIter_zip st.1 h
end
end D3

namespace D3
open PySem PySem.Spec PyProof.Rows L2
section
variable {C : Cw} {X : Cx} {tg e : Expr} {g : Rho → Res} {gs : Rho → ResL} {pos p : Pos}
theorem z_apart (n l m : Nat) (hl : l < n) (hm : m < n) : ZipApart (n + 4) (n + 2) (n + 3) n (n + 1) l m := by
  constructor <;> (refine fun (q : @Eq Nat _ _) => ?_; omega)
theorem boot_zip : bootBuiltins ("zip" : Str) = some (.type "zip") := by first | rfl | decide +kernel | kernel_rfl
def iZip (K : PySem.W.Frag) (ta : TA) : TI := fun σ H R => ta σ H fun vs H1 => ∃ a b xs ys, vs = [.ref a, .ref b] ∧ SqT K H1 a xs ∧ SqT K H1 b ys ∧ R (Itz K a b) H1
theorem pi_zip {a b : Expr} {ta : TA} {elts : List Expr} {cx} {pp : Pos} (hg : Gl X "zip") (hm : X.mg "zip" = none) (ha : PA X [a, b] ta) (hs : starEach [a, b] X.env = [(false, eval a X.env), (false, eval b X.env)] := by rfl) (hs2 : starEach [b] X.env = [(false, eval b X.env)] := by rfl) :
    PI X (.Tuple elts cx pp) (.Call (.Name "zip" p) [a, b] [] pos) (iZip X.K ta) := by
  intro pins s σ H R I h
  refine Call_ (ld_blt I hg hm boot_zip (PyProof.Rows.callWith_type1 (thn (ha pos pins s σ H _ I h) fun us s1 q1 => ?_) (by rw [hs, hs2]) (by rw [hs2]; rfl)))
  obtain ⟨vs, H1, I1, r1, l, m, xs, ys, rfl, ql, qm, q⟩ := q1
  obtain ⟨ls, _, p1, _⟩ := I1.tuple ql
  obtain ⟨ms, _, p2, _⟩ := I1.tuple qm
  have ll : l < s1.heap.objs.size := by obtain ⟨o, e, _⟩ := id p1; exact Heap.lt_size e
  have ml : m < s1.heap.objs.size := by obtain ⟨o, e, _⟩ := id p2; exact Heap.lt_size e
  cases r1 with
  | cons r rr =>
    cases rr with
    | cons r' rr =>
      cases rr
      cases r
      cases r'
      refine call_zipT (show s1.heap.IsTuple l ls.toArray from p1) (show s1.heap.IsTuple m ms.toArray from p2) fun h' a1 a2 a3 a4 a5 a6 a7 => ?_
      refine wpAny_pyIter_zip (s := { s1 with heap := h' }) a1 ?_
      have I2 : Inv X pins σ H1 { s1 with heap := h' } := I1.kept (t' := s1.toks) a7
      have D := z_apart s1.heap.objs.size l m ll ml
      have fb : ∀ b : Addr, s1.heap.objs.size ≤ b → FpOk X pins H1 b := fun b hb => I1.fpOk hb (I1.hok.fresh hb)
      generalize s1.heap.objs.size = n at *
      refine ⟨n + 4, [n + 4, n + 2, n + 3, n, n + 1], _, _, H1, rfl, I2, turn_zip (n + 4) (n + 2) (n + 3) n (n + 1) l m D, ⟨a1, a2, ⟨_, _, a3⟩, a4, a5⟩, fun b hb => ?_, q⟩
      simp only [List.mem_cons, List.mem_nil_iff, or_false] at hb
      rcases hb with rfl | rfl | rfl | rfl | rfl
      · exact fb _ (Nat.le_add_right n 4)
      · exact fb _ (Nat.le_add_right n 2)
      · exact fb _ (Nat.le_add_right n 3)
      · exact fb _ (Nat.le_refl _)
      · exact fb _ (Nat.le_add_right n 1)
/-- the pairs -/
def zipD : List D → List D → List D
  | d :: ds, e :: es => .tup [d, e] :: zipD ds es
  | _, _ => []
theorem zipD_len : ∀ {ds es : List D}, (zipD ds es).length = min ds.length es.length
  | [], es => by simp [zipD]
  | d :: ds, [] => by simp [zipD]
  | d :: ds, e :: es => by simp only [zipD, List.length_cons, zipD_len]; omega
theorem zipD_get : ∀ {ds es : List D} {i : Nat} {d e : D}, ds[i]? = some d → es[i]? = some e → (zipD ds es)[i]? = some (.tup [d, e])
  | [], _, _, _, _, h, _ => by simp at h
  | _ :: _, [], _, _, _, _, h => by simp at h
  | x :: ds, y :: es, 0, d, e, h, h' => by simp at h h'; subst h; subst h'; rfl
  | x :: ds, y :: es, i + 1, d, e, h, h' => by
    have := zipD_get (ds := ds) (es := es) (i := i) (by simpa using h) (by simpa using h')
    simpa [zipD] using this
theorem iterOf_zip {K : PySem.W.Frag} {F : Hp} {a b : Addr} {ds es : List D} {xs ys : List V} (qa : SqT K F a xs) (qb : SqT K F b ys) (ra : RepL K F ds xs) (rb : RepL K F es ys) : IterOf K F (Itz K a b) (zipD ds es) where
  go := fun i H s hi => by
    rw [zipD_len] at hi
    have h1 : i < xs.length := by rw [ra.length]; omega
    have h2 : i < ys.length := by rw [rb.length]; omega
    exact ⟨xs, ys, xs[i], ys[i], Same.seqT s qa, Same.seqT s qb, by simp [h1], by simp [h2]⟩
  stop := fun i H s hi => by
    rw [zipD_len] at hi
    refine ⟨xs, ys, Same.seqT s qa, Same.seqT s qb, ?_⟩
    rw [ra.length, rb.length]; omega
  yld := fun i Fc H x H' s1 s2 hi y => by
    rw [zipD_len] at hi
    obtain ⟨p, u, v, rfl, hp, rfl, hx, hy⟩ := y
    have ex := hx xs (Same.seqT (s1.trans s2) qa)
    have ey := hy ys (Same.seqT (s1.trans s2) qb)
    have h1 : i < ds.length := by omega
    have h2 : i < es.length := by omega
    obtain ⟨u', e1, r1⟩ := ra.get' (List.getElem?_eq_getElem h1)
    obtain ⟨v', e2, r2⟩ := rb.get' (List.getElem?_eq_getElem h2)
    rw [ex] at e1; cases e1
    rw [ey] at e2; cases e2
    refine ⟨_, _, zipD_get (List.getElem?_eq_getElem h1) (List.getElem?_eq_getElem h2), Step.laid (.tup [u, v]) s2 hp, ?_⟩
    refine RepV.tup_of (s2.free hp) ?_
    simp only [RepL]
    exact ⟨u, [v], rfl, r1.mono s1 _ _, v, [], rfl, r2.mono s1 _ _, rfl⟩
theorem rp_tupF {K : PySem.W.Frag} {F H : Hp} {m : Md} {ds : List D} {v : V} (h : Rp K F H m (.tup ds) v) : ∃ a xs, v = .ref a ∧ SqT K F a xs ∧ RepL K F ds xs := by
  cases m with
  | fz => exact (show RepV K F (.tup ds) v from h) |> fun h => by simp only [RepV] at h; exact h
  | fr => obtain ⟨_, _, _, q⟩ := h; exact q.elim
  | bo => obtain ⟨_, _, _, q⟩ := h; exact q.elim
def zipR (r : ResL) : Res := r.thn fun xs => match xs with
  | [(_, .tup ds), (_, .tup es)] => .ok .fz (.lst (zipD ds es))
  | _ => .stuck
theorem piv_zip {a b : Expr} {elts : List Expr} {cx} {pp : Pos} (hg : Gl X "zip") (hm : X.mg "zip" = none) (ha : PAv C X [a, b] gs) (hs : starEach [a, b] X.env = [(false, eval a X.env), (false, eval b X.env)] := by rfl) (hs2 : starEach [b] X.env = [(false, eval b X.env)] := by rfl) :
    PIv C X (.Tuple elts cx pp) (.Call (.Name "zip" p) [a, b] [] pos) (fun ρ => zipR (gs ρ)) := by
  refine PI.imp (pi_zip hg hm ha hs hs2) fun σ H R q => ?_
  obtain ⟨ρ, F, RS, w⟩ := q
  dsimp only at w
  unfold iZip
  refine ⟨ρ, F, RS, ?_⟩
  cases er : gs ρ with
  | stuck => rw [er] at w; exact w
  | exc c => rw [er] at w; exact w
  | ok xs =>
    rw [er] at w
    intro vs F' H' st rp
    unfold zipR at w
    rw [ResL.thn_ok] at w
    split at w
    · obtain ⟨v, u, rfl, r, r'⟩ := rp.two
      obtain ⟨a1, x1, rfl, q1, l1⟩ := rp_tupF r
      obtain ⟨a2, x2, rfl, q2, l2⟩ := rp_tupF r'
      exact ⟨a1, a2, x1, x2, rfl, Same.seqT st.sub q1, Same.seqT st.sub q2, w _ F' H' st (iterOf_zip q1 q2 l1 l2)⟩
    · exact w.elim
end
end D3

namespace D3
open PySem PySem.Spec PyProof.Rows L2
open PySem.AutoSeq1 (wpAny_loadPart')
/-! ### enumerate of a list, of a tuple -/
theorem draws_tuple {prog : Program} {w : World} {A : Around} (hh : A.handled = none) (it t : Addr) (hne : t ≠ it) (items : Array Value) :
    Draws prog w A it [it, t] items.size (fun i v => items[i]? = some v) (fun i h => h.IsTupleIter it t i ∧ IsTup h t items) where
  live := fun _ _ st => let ⟨o, ho, _⟩ := st.1; ⟨o, ho⟩
  frame := fun _ _ _ st hk => ⟨st.1.at fun o e => hk it (by simp) o e, tup_at st.2 fun o e => hk t (by simp) o e⟩
  item := fun i s Q E hi st hQ => by
    refine nextT_item st.1 st.2 (x := items[i]) (by simp [hi]) fun h' hit' hs' => ?_
    exact hQ _ h' s.toks (by simp [hi]) ⟨hit', tup_at st.2 fun o e => hs'.extBut _ o hne e⟩ hs'
  done := fun s Q E st hE => nextT_end hh st.1 st.2 (by simp) hE
theorem meets_enumT (l : Addr) (items : Array Value) :
    Meets (Builtin.«enumerate.__new__» ⟨[.type "enumerate", .ref l], []⟩) (fun _ R s => s.heap.IsTuple l items ∧
      R (.ok (.ret (.ref (s.heap.push { cls := .type "tuple_iterator", data := .fields #[.ref l, .int 0 0] }).objs.size)))
        { s with heap := (s.heap.push { cls := .type "tuple_iterator", data := .fields #[.ref l, .int 0 0] }).push { cls := .type "enumerate", data := .fields #[.none, .bool false, .ref s.heap.objs.size, rawInt 0, .none, .none] } }) :=
  .of_wp fun prog w A R s h => by
    obtain ⟨hp, g, d, tk, os⟩ := s; obtain ⟨hL, h⟩ := h
    have hsub := sub_enumerate
    have hL : Heap.IsTuple (Shared.heap ⟨hp, g, d, tk, os⟩) l items := hL
    obtain ⟨o, ho, hc, n, hd⟩ := id hL
    wp_walk using wpAny_loadPart' ho
    refine wpAny_stack_any fun st => wpAny_pure ?_
    split
    · rename_i c _ _ _ _ _
      cases (c == Value.type "enumerate")
      · wp_walk using wpAny_loadPart' ho, wpAny_pyIter_tuple hL
        exact ⟨_, rfl, h⟩
      · wp_walk using wpAny_loadPart' ho, wpAny_pyIter_tuple hL
        exact ⟨_, rfl, h⟩
    · wp_walk using wpAny_loadPart' ho, wpAny_pyIter_tuple hL
      exact ⟨_, rfl, h⟩
section
variable {prog : Program} {w : World} {A : Around} {E : Value → Shared → Prop} {s : Shared}
theorem call_enumT {a : Addr} {us : Array Value} {Q : Value → Shared → Prop} (ha : s.heap.IsTuple a us)
    (q : ∀ g, IsEnum g (s.heap.objs.size + 1) s.heap.objs.size 0 .none → g.IsTupleIter s.heap.objs.size a 0 → (∀ c u, s.heap.get? c = some u → g.get? c = some u) → Q (.ref (s.heap.objs.size + 1)) { s with heap := g }) :
    wpAny (model prog w) A (call (.type "enumerate") [.ref a]) Q E s := by
  let i0 : Obj := { cls := .type "tuple_iterator", data := .fields #[.ref a, .int 0 0] }
  let e0 : Obj := { cls := .type "enumerate", data := .fields #[.none, .bool false, .ref s.heap.objs.size, rawInt 0, .none, .none] }
  have z1 : (s.heap.push i0).objs.size = s.heap.objs.size + 1 := Heap.size_push ..
  have g1 : ((s.heap.push i0).push e0).get? (s.heap.objs.size + 1) = some e0 := by rw [← z1]; exact Heap.get?_push_size _ rfl
  have g0 : ((s.heap.push i0).push e0).get? s.heap.objs.size = some i0 := Heap.get?_push_of_some _ (Heap.get?_push_size _ rfl)
  have up : ∀ c u, s.heap.get? c = some u → ((s.heap.push i0).push e0).get? c = some u := fun c u z => Heap.get?_push_of_some _ (Heap.get?_push_of_some _ z)
  have fin : (∃ o, ((s.heap.push i0).push e0).get? (s.heap.objs.size + 1) = some o ∧ o.cls = .type "enumerate") ∧ Q (.ref (s.heap.objs.size + 1)) { s with heap := (s.heap.push i0).push e0 } := ⟨⟨e0, g1, rfl⟩, q _ g1 ⟨i0, g0, rfl, rfl⟩ up⟩
  rw [← z1] at fin
  exact callType_new F.called_enumerate (by decide) (F.typeCall_enumerate_1 _) (F.newCall_enumerate_1 _) (fun o => F.args_object_init_2 o _) F.entry_enumerate_new (meets_enumT a us) ⟨ha, fin⟩
end
/-- pairs of a place and an item, each a new tuple; Sq: how the items lie -/
def Ite (Sq : Hp → List V → Prop) : It :=
  ⟨fun i H => ∃ xs x, Sq H xs ∧ xs[i]? = some x,
   fun i H v H' => ∃ p x, v = .ref p ∧ H p = none ∧ H' = upd H p (.tup [.int i, x]) ∧ ∀ xs, Sq H xs → xs[i]? = some x,
   fun i H => ∃ xs, Sq H xs ∧ xs.length ≤ i⟩
section
variable {P : Program} {w : World} {K : PySem.W.Frag} {elts : List Expr} {cx : Nat} {pos : Pos}
/-- one turn of enumerate, by what the iterator within draws -/
theorem turn_enumG {Sq : Hp → List V → Prop} (e it l : Addr) (hei : e ≠ it) (hel : e ≠ l) (hli : l ≠ it) (It' : Nat → Heap → Prop) (At : Heap → Array Value → Prop)
    (live : ∀ i h, It' i h → ∃ o, h.get? it = some o ∧ ∀ v, o.data ≠ .cell v) (keep : ∀ i h h', It' i h → (∀ o, h.get? it = some o → h'.get? it = some o) → It' i h')
    (dr : ∀ A : Around, A.handled = none → ∀ items : Array Value, Draws P w A it [it, l] items.size (fun i v => items[i]? = some v) (fun i h => It' i h ∧ At h items))
    (dn : ∀ (A : Around) (s : Shared) (items : Array Value) (k : Nat) (Q E : Value → Shared → Prop), A.handled = none → It' k s.heap → At s.heap items → items[k]? = none →
      (∀ h' x, Heap.ExtBut it s.heap h' → (∃ o, h'.get? x = some o ∧ o.cls = .type "StopIteration") → E (.ref x) { s with heap := h' }) → wpAny (model P w) A (Builtin.SmallTypes.nextOf (.ref it)) Q E s)
    (look : ∀ (X : Cx) (pins : List (Addr × Obj)) (s : Shared) (σ : L2.St) (H : Hp) (xs : List V), X.prog = P → X.w = w → X.K = K → Inv X pins σ H s → Sq H xs → ∃ us, Vals xs us ∧ At s.heap us.toArray)
    (inj : ∀ (X : Cx) (pins : List (Addr × Obj)) (s : Shared) (σ : L2.St) (H : Hp) (xs ys : List V), X.prog = P → X.w = w → X.K = K → Inv X pins σ H s → Sq H xs → Sq H ys → ys = xs) :
    Turn P w K (.Tuple elts cx pos) (Ite Sq) [e, it] e (fun k h => (∃ old, IsEnum h e it k old) ∧ It' k h) where
  mem := by simp
  obj := fun k h st b hb => by
    obtain ⟨⟨old, he⟩, hi⟩ := st
    simp only [List.mem_cons, List.mem_nil_iff, or_false] at hb
    rcases hb with rfl | rfl
    · exact ⟨_, he, fun v e => by cases e⟩
    · obtain ⟨o, e, d⟩ := live k h hi
      exact ⟨o, e, d⟩
  keep := fun k h h' st q => by
    obtain ⟨⟨old, he⟩, hi⟩ := st
    exact ⟨⟨old, q e (by simp) _ he⟩, keep k h h' hi fun o e => q it (by simp) o e⟩
  item := by
    intro X hP hw hK hc k pins s σ H E I hf st hg
    obtain ⟨⟨old, he⟩, hi⟩ := st
    obtain ⟨xs, x, ql, hx⟩ := hg
    obtain ⟨us, r1, p1⟩ := look X pins s σ H xs hP hw hK I ql
    obtain ⟨u, hu, ru⟩ := r1.get hx
    have hlt : k < us.toArray.size := by
      rw [List.size_toArray]
      exact (List.getElem?_eq_some_iff.mp hu).1
    refine wpAny_pyNext_enum_itemD (dr X.A.in1 (I.ok.hd hc) us.toArray) he ⟨hi, p1⟩ hlt hei (by simp [hei, hel]) fun x' h' tk hx' a1 a2 a3 a4 a5 => ?_
    have : x' = u := by
      rw [List.getElem?_toArray] at hx'
      rw [hu] at hx'
      exact (Option.some.inj hx').symm
    subst this
    refine ⟨_, rfl, wpAny_letOwnedTupleGo_enum (s := { s with heap := h', toks := tk + 1 }) a1 fun h2 b1 b2 => ?_⟩
    have en : s.heap.objs.size ≠ e := fun q => absurd (Heap.lt_size he) (by rw [← q]; exact Nat.lt_irrefl _)
    have up : ∀ b o, b ∉ [e, it] → s.heap.get? b = some o → h2.get? b = some o := fun b o hb z => by
      simp only [List.mem_cons, List.mem_nil_iff, or_false, not_or] at hb
      exact b2.extBut _ _ hb.1 (a5 b o hb.1 hb.2 z)
    have I2 := inv_pair (t' := tk + 1) (xs := [.int k, x]) I up hf (Nat.le_refl _) ⟨[.int k tk, x'], .cons ⟨tk, rfl⟩ (.cons ru .nil), ⟨_, b2.extBut _ _ en a3, rfl, rfl, _, rfl⟩⟩ (show 2 ≤ sizeLine by decide +kernel)
    refine ⟨.ref s.heap.objs.size, _, I2, rfl, ⟨_, x, rfl, I.hok.fresh (Nat.le_refl _), rfl, fun zs q => by rw [inj X pins s σ H xs zs hP hw hK I ql q]; exact hx⟩, ?_, fun b hb => ?_⟩
    · have ek : ((k : Int) + 1) = ((k + 1 : Nat) : Int) := by omega
      rw [ek] at b1
      exact ⟨⟨x', b1⟩, keep _ _ _ a2.1 fun o z => b2.extBut _ o hei.symm z⟩
    · have hb0 := hb
      obtain ⟨o, z⟩ : ∃ o, s.heap.get? b = some o := by
        simp only [List.mem_cons, List.mem_nil_iff, or_false] at hb
        rcases hb with rfl | rfl
        · exact ⟨_, he⟩
        · obtain ⟨o, z, _⟩ := live _ _ hi; exact ⟨o, z⟩
      rw [upd_ne fun q => absurd (Heap.lt_size z) (by rw [q]; exact Nat.lt_irrefl _)]
      exact (hf b hb0).1
  done := by
    intro X hP hw hK hc k pins s σ H E I hf st hg
    obtain ⟨⟨old, he⟩, hi⟩ := st
    obtain ⟨xs, ql, hn⟩ := hg
    obtain ⟨us, r1, p1⟩ := look X pins s σ H xs hP hw hK I ql
    have e1 := r1.length
    have te : s.TypeIs (.ref e) "enumerate" := ⟨_, he, rfl⟩
    delta pyNext
    apply wpAny_bind
    apply wpAny_attempt
    apply wpAny_callSpecial?_slot (name := Str.ofString "__next__") te F.slot_enumerate_next
    refine wpAny_call_entry F.slot_enumerate_next te F.entry_enumerate_next ?nx (F.args_enumerate_next_1 _)
    refine wpAny_bind (m := field (.ref e) 2) (wpAny_field he rfl (x := .ref it) rfl ?_)
    refine wpAny_bind (dn X.A.in1 s us.toArray k _ _ (I.ok.hd hc) hi p1 (by simp; omega) fun h' x he' hx' => ?_)
    obtain ⟨o, ho, hc'⟩ := hx'
    refine wpAny_bind (wpAny_isInstance (T := "StopIteration") (b := true) ⟨o, ho, hc'⟩ isSubtype_stop ?_)
    refine wpAny_pure ⟨rfl, inv_turned (t' := s.toks) I (fun b o hb z => he' b o (by
      simp only [List.mem_cons, List.mem_nil_iff, or_false, not_or] at hb
      exact hb.2) z) hf⟩
  self := fun _ _ _ _ _ st h => by
    obtain ⟨⟨old, he⟩, _⟩ := st
    exact wpAny_pyIter_enum he h
theorem turn_enumL (e it l : Addr) (hei : e ≠ it) (hel : e ≠ l) (hli : l ≠ it) : Turn P w K (.Tuple elts cx pos) (Ite fun H => SqL K H l) [e, it] e (fun k h => (∃ old, IsEnum h e it k old) ∧ h.IsListIter it l k) :=
  turn_enumG e it l hei hel hli (fun k h => h.IsListIter it l k) (fun h xs => h.IsList l xs) (fun i h st => by
      obtain ⟨o, e, _, d⟩ := st
      exact ⟨o, e, fun v q => by rw [d] at q; cases q⟩) (fun i h h' st k => st.at k) (fun A hA items => Draws.list hA it l hli items)
    (fun A s items k Q E hA st ha hx q => wpAny_nextOf_list_end hA st ha hx q)
    (fun X pins s σ H xs hP hw hK I q => by
      subst hK
      obtain ⟨us, r, p, _⟩ := I.list q
      exact ⟨us, r, p.isList⟩)
    (fun X pins s σ H xs ys hP hw hK I q q' => by subst hK; exact I.list_inj q' q)
theorem turn_enumT (e it l : Addr) (hei : e ≠ it) (hel : e ≠ l) (hli : l ≠ it) : Turn P w K (.Tuple elts cx pos) (Ite fun H => SqT K H l) [e, it] e (fun k h => (∃ old, IsEnum h e it k old) ∧ h.IsTupleIter it l k) :=
  turn_enumG e it l hei hel hli (fun k h => h.IsTupleIter it l k) (fun h xs => IsTup h l xs) (fun i h st => by
      obtain ⟨o, e, _, d⟩ := st
      exact ⟨o, e, fun v q => by rw [d] at q; cases q⟩) (fun i h h' st k => st.at k) (fun A hA items => draws_tuple hA it l hli items)
    (fun A s items k Q E hA st ha hx q => nextT_end hA st ha hx q)
    (fun X pins s σ H xs hP hw hK I q => by
      subst hK
      obtain ⟨us, r, p, _⟩ := I.tuple q
      exact ⟨us, r, p⟩)
    (fun X pins s σ H xs ys hP hw hK I q q' => by subst hK; exact I.tuple_inj q' q)
end
section
variable {C : Cw} {X : Cx} {tg e : Expr} {g : Rho → Res} {gs : Rho → ResL} {pos p : Pos}
theorem boot_enum : bootBuiltins ("enumerate" : Str) = some (.type "enumerate") := by first | rfl | decide +kernel | kernel_rfl
def iEnum (K : PySem.W.Frag) (ta : TA) : TI := fun σ H R => ta σ H fun vs H1 => ∃ a xs, vs = [.ref a] ∧ ((SqL K H1 a xs ∧ R (Ite fun H => SqL K H a) H1) ∨ (SqT K H1 a xs ∧ R (Ite fun H => SqT K H a) H1))
theorem pi_enum {a : Expr} {ta : TA} {elts : List Expr} {cx} {pp : Pos} (hg : Gl X "enumerate") (hm : X.mg "enumerate" = none) (ha : PA X [a] ta) (hs : starEach [a] X.env = [(false, eval a X.env)] := by rfl) :
    PI X (.Tuple elts cx pp) (.Call (.Name "enumerate" p) [a] [] pos) (iEnum X.K ta) := by
  intro pins s σ H R I h
  refine Call_ (ld_blt I hg hm boot_enum (PyProof.Rows.callWith_type1 (thn (ha pos pins s σ H _ I h) fun us s1 q1 => ?_) (by rw [hs]; rfl) (by rfl)))
  obtain ⟨vs, H1, I1, r1, l, xs, rfl, q⟩ := q1
  cases r1 with
  | cons r rr =>
    cases rr
    cases r
    have fb : ∀ b : Addr, s1.heap.objs.size ≤ b → FpOk X pins H1 b := fun b hb => I1.fpOk hb (I1.hok.fresh hb)
    have fin : ∀ b : Addr, b ∈ [s1.heap.objs.size + 1, s1.heap.objs.size] → FpOk X pins H1 b := fun b hb => by
      simp only [List.mem_cons, List.mem_nil_iff, or_false] at hb
      rcases hb with rfl | rfl
      · exact fb _ (Nat.le_succ _)
      · exact fb _ (Nat.le_refl _)
    rcases q with ⟨ql, q⟩ | ⟨ql, q⟩
    · obtain ⟨ls, _, p1, _⟩ := I1.list ql
      have ll : l < s1.heap.objs.size := by obtain ⟨o, n, e, _⟩ := id p1; exact Heap.lt_size e
      refine call_enumerate_list p1.isList fun h' a1 a2 a3 a4 => wpAny_pyIter_enum (s := { s1 with heap := h' }) a1 ?_
      exact ⟨_, [s1.heap.objs.size + 1, s1.heap.objs.size], _, _, H1, rfl, I1.kept (t' := s1.toks) a4, turn_enumL _ _ l (Nat.succ_ne_self _) (Nat.ne_of_gt (Nat.lt_succ_of_lt ll)) (Nat.ne_of_lt ll), ⟨⟨_, a1⟩, a2⟩, fin, q⟩
    · obtain ⟨ls, _, p1, _⟩ := I1.tuple ql
      have ll : l < s1.heap.objs.size := by obtain ⟨o, e, _⟩ := id p1; exact Heap.lt_size e
      refine call_enumT (show s1.heap.IsTuple l ls.toArray from p1) fun h' a1 a2 a4 => wpAny_pyIter_enum (s := { s1 with heap := h' }) a1 ?_
      exact ⟨_, [s1.heap.objs.size + 1, s1.heap.objs.size], _, _, H1, rfl, I1.kept (t' := s1.toks) a4, turn_enumT _ _ l (Nat.succ_ne_self _) (Nat.ne_of_gt (Nat.lt_succ_of_lt ll)) (Nat.ne_of_lt ll), ⟨⟨_, a1⟩, a2⟩, fin, q⟩
/-- the pairs -/
def enumD : Nat → List D → List D
  | _, [] => []
  | i, d :: ds => .tup [.int i, d] :: enumD (i + 1) ds
theorem enumD_len : ∀ {ds : List D} {i : Nat}, (enumD i ds).length = ds.length
  | [], _ => rfl
  | d :: ds, i => by simp only [enumD, List.length_cons, enumD_len]
theorem enumD_get : ∀ {ds : List D} {j i : Nat} {d : D}, ds[i]? = some d → (enumD j ds)[i]? = some (.tup [.int ((j + i : Nat) : Int), d])
  | [], _, _, _, h => by simp at h
  | x :: ds, j, 0, d, h => by simp at h; subst h; rfl
  | x :: ds, j, i + 1, d, h => by
    have := enumD_get (ds := ds) (j := j + 1) (i := i) (by simpa using h)
    have e : j + 1 + i = j + (i + 1) := by omega
    rw [e] at this
    simpa [enumD] using this
theorem iterOf_enum {K : PySem.W.Frag} {F : Hp} {Sq : Hp → List V → Prop} {ds : List D} {xs : List V} (qa : ∀ H, Same F H → Sq H xs) (ra : RepL K F ds xs) : IterOf K F (Ite Sq) (enumD 0 ds) where
  go := fun i H s hi => by
    rw [enumD_len] at hi
    have h1 : i < xs.length := by rw [ra.length]; omega
    exact ⟨xs, xs[i], qa H s, by simp [h1]⟩
  stop := fun i H s hi => by
    rw [enumD_len] at hi
    exact ⟨xs, qa H s, by rw [ra.length]; omega⟩
  yld := fun i Fc H x H' s1 s2 hi y => by
    rw [enumD_len] at hi
    obtain ⟨p, u, rfl, hp, rfl, hx⟩ := y
    have ex := hx xs (qa H (s1.trans s2))
    obtain ⟨u', e1, r1⟩ := ra.get' (List.getElem?_eq_getElem hi)
    rw [ex] at e1; cases e1
    refine ⟨_, _, enumD_get (List.getElem?_eq_getElem hi), Step.laid (.tup [.int i, u]) s2 hp, ?_⟩
    refine RepV.tup_of (s2.free hp) ?_
    simp only [RepL]
    exact ⟨.int i, [u], rfl, by simp only [RepV, Nat.zero_add], u, [], rfl, r1.mono s1 _ _, rfl⟩
def enumR (r : ResL) : Res := r.thn fun xs => match xs with
  | [(.fz, .lst ds)] => .ok .fz (.lst (enumD 0 ds))
  | [(.fz, .tup ds)] => .ok .fz (.lst (enumD 0 ds))
  | _ => .stuck
theorem piv_enum {a : Expr} {elts : List Expr} {cx} {pp : Pos} (hg : Gl X "enumerate") (hm : X.mg "enumerate" = none) (ha : PAv C X [a] gs) (hs : starEach [a] X.env = [(false, eval a X.env)] := by rfl) :
    PIv C X (.Tuple elts cx pp) (.Call (.Name "enumerate" p) [a] [] pos) (fun ρ => enumR (gs ρ)) := by
  refine PI.imp (pi_enum hg hm ha hs) fun σ H R q => ?_
  obtain ⟨ρ, F, RS, w⟩ := q
  dsimp only at w
  unfold iEnum
  refine ⟨ρ, F, RS, ?_⟩
  cases er : gs ρ with
  | stuck => rw [er] at w; exact w
  | exc c => rw [er] at w; exact w
  | ok xs =>
    rw [er] at w
    intro vs F' H' st rp
    unfold enumR at w
    rw [ResL.thn_ok] at w
    split at w
    · rename_i ds
      obtain ⟨v, rfl, r⟩ := rp.one
      have r : RepV X.K F' (.lst ds) v := r
      simp only [RepV] at r
      obtain ⟨a1, x1, rfl, q1, l1⟩ := r
      exact ⟨a1, x1, rfl, .inl ⟨st.sub.seq q1, w _ F' H' st (iterOf_enum (fun H s => s.seq q1) l1)⟩⟩
    · rename_i ds
      obtain ⟨v, rfl, r⟩ := rp.one
      have r : RepV X.K F' (.tup ds) v := r
      simp only [RepV] at r
      obtain ⟨a1, x1, rfl, q1, l1⟩ := r
      exact ⟨a1, x1, rfl, .inr ⟨Same.seqT st.sub q1, w _ F' H' st (iterOf_enum (fun H s => Same.seqT s q1) l1)⟩⟩
    · exact w.elim
end
end D3

namespace D3
open PySem PySem.Spec PySem.Calls PyProof.Rows L2 PySem.W
section
variable {prog : Program} {w : World} {A : Around} {E : Value → Shared → Prop} {s : Shared} {K : PySem.W.Frag} {x D : Addr} {ox : Obj} {od : Option Obj}
/-- an object of that class -/
def XAt (h : Heap) (x : Addr) (ox : Obj) (D : Addr) : Prop := h.get? x = some ox ∧ ox.cls = .ref D
/-- what is known of a class of errors -/
structure XCls (K : PySem.W.Frag) (D : Addr) : Prop where
  ga : PySem.W.findIn K (.ref D) "__getattribute__" = some (some (.builtin "BaseException.__getattribute__"))
  gn : PySem.W.findIn K (.ref D) "__getattr__" = some none
  ca : PySem.W.findIn K (.ref D) "__class__" = some (some (.builtin "object.__class__"))
  bx : PySem.W.mroIn K D (.type "BaseException") = some true
  ob : PySem.W.mroIn K D (.type "object") = some true
  hn : PySem.W.specialIn K (.builtin "object.__class__") "__get__" = some (some (.builtin "getset_descriptor.__get__"))
  tk : PySem.W.takesIn K (.builtin "object.__class__") = some true
end
end D3

namespace D3
open PySem PySem.Spec PySem.Calls PyProof.Rows L2
/-! ### an error in flight -/
structure Fly (P : Program) (w : World) (outer : List Env) (H : Hp) (s : Shared) (H1 : Hp) (B hp : Heap) : Prop where
  un : Un (frs outer) [] H H1 s.heap hp
  ok : HOk P w H1 hp
  kb : ∀ b o, hp.get? b = some o → s.heap.get? b ≠ none → b ∉ frs outer → B.get? b = some o
  kh : ∀ b u, H1 b = some u → ∃ o, hp.get? b = some o ∧ B.get? b = some o
  fr : ∀ b ∈ frs outer, H b = none ∧ ∃ o, s.heap.get? b = some o ∧ ∀ vs, o.data ≠ .fields vs
section
variable {P : Program} {w : World} {outer : List Env} {H H1 : Hp} {s : Shared} {B hp h' : Heap}
theorem no_nil {b : Addr} : b ∉ ([] : List Addr) := by simp
theorem Fly.slots (f : Fly P w outer H s H1 B hp) (up : hp.UpToSlots h') {b : Addr} (hb : b ∈ frs outer) : ∃ o sl sl', s.heap.get? b = some o ∧ hp.get? b = some { o with slots := sl } ∧ h'.get? b = some { o with slots := sl' } := by
  obtain ⟨hn, o, e, nf⟩ := f.fr b hb
  obtain ⟨sl, e1⟩ := f.un.slot b o e hn hb no_nil
  obtain ⟨sl', e2⟩ := up b _ e1 nf
  exact ⟨o, sl, sl', e, e1, e2⟩
theorem Fly.on (f : Fly P w outer H s H1 B hp) (st : B.StaysIn h') (up : hp.UpToSlots h') : Fly P w outer H s H1 B h' where
  un := {
    keep := fun b o e n hb _ => st b o (f.kb b o (f.un.keep b o e n hb no_nil) (by rw [e]; exact fun z => nomatch z) hb)
    slot := fun b o e n hb _ => by
      obtain ⟨o', sl, sl', e0, _, e2⟩ := f.slots up hb
      rw [e] at e0; cases e0
      exact ⟨sl', e2⟩
    free := f.un.free
    there := fun b o e _ => by
      by_cases hb : b ∈ frs outer
      · obtain ⟨o', sl, sl', e0, _, e2⟩ := f.slots up hb
        exact ⟨_, e2⟩
      · obtain ⟨o', e1⟩ := f.un.there b o e no_nil
        exact ⟨o', st b o' (f.kb b o' e1 (by rw [e]; exact fun z => nomatch z) hb)⟩
    tups := f.un.tups
    frzs := f.un.frzs
    tbls := f.un.tbls }
  ok := fun a o e => (f.ok a o e).stay (fun b u hb q => by
      have : ∃ u', H1 b = some u' := by
        rcases hb with rfl | hb
        · exact ⟨o, e⟩
        · exact ⟨_, hb⟩
      obtain ⟨u', eu⟩ := this
      obtain ⟨o', e1, e2⟩ := f.kh b u' eu
      rw [q] at e1; cases e1
      exact st b u e2) (fun _ q => q) fun _ _ q => q
  kb := fun b o e ns hb => by
    cases e0 : s.heap.get? b with
    | none => exact absurd e0 ns
    | some o0 =>
      obtain ⟨o', e1⟩ := f.un.there b o0 e0 no_nil
      have e2 := f.kb b o' e1 ns hb
      have e3 := st b o' e2
      rw [e] at e3; cases e3
      exact e2
  kh := fun b u e => by
    obtain ⟨o, _, e2⟩ := f.kh b u e
    exact ⟨o, st b o e2, e2⟩
  fr := f.fr
end
/-- how an error lies behind a call -/
def CX1 (P : Program) (w : World) : CXT := fun outer H s E ev s' => ∃ (e C : Addr) (a0 : Value) (H1 : Hp) (B : Heap),
  ev = .ref e ∧ s'.os = s.os ∧ AllBare s'.gens ∧ Heap.FlyingW B outer e (.ref C) a0 s'.heap ∧ Fly P w outer H s H1 B s'.heap ∧ E (.ref C) none H1
section
variable {X : Cx} {pins : List (Addr × Obj)} {σ : L2.St} {H H1 : Hp} {s s' : Shared} {B hp : Heap} {E : XK}
theorem inv_frs (I : Inv X pins σ H s) : ∀ b ∈ frs X.stack, H b = none ∧ ∃ o, s.heap.get? b = some o ∧ ∀ vs, o.data ≠ .fields vs := fun b hb =>
  ⟨I.stkFree b hb, (I.stack.mem hb).2⟩
/-- behind a call that has raised: the caller's state, while the error flies -/
theorem Fly.inv (I : Inv X pins σ H s) (f : Fly X.prog X.w X.stack H s H1 B s'.heap) (ho : s'.os = s.os) (hg : AllBare s'.gens) : Inv X pins σ H1 s' :=
  Inv.call' (ch := []) I ho f.un f.ok hg (fun b z => absurd z no_nil)
/-- .. and one frame further -/
theorem Fly.out (I : Inv X pins σ H s) (f : Fly X.prog X.w X.stack H s H1 B s'.heap) (ho : s'.os = s.os) (hg : AllBare s'.gens) (hx : X.ex = []) (hs : X.stack = X.env :: X.outer) (hf : X.env.frame = some X.env.locals)
    {h' : Heap} (st : B.StaysIn h') (up : s'.heap.UpToSlots h') : Fly X.prog X.w X.outer X.H₀ X.s₀ H1 B h' := by
  have I1 := f.inv I ho hg
  have f1 := f.on st up
  have ub := I1.base
  rw [hx] at ub
  have old : ∀ b o, X.s₀.heap.get? b = some o → ∃ o', s.heap.get? b = some o' := fun b o e => I.base.there b o e (by rw [hx]; exact no_nil)
  have nl : ∀ b o, X.s₀.heap.get? b = some o → b ≠ X.env.locals := fun b o e z => absurd (Heap.lt_size e) (by rw [z]; exact Nat.not_lt.mpr I.ok.above)
  have sub : ∀ b, b ∉ frs X.outer → b ≠ X.env.locals → b ∉ frs X.stack := fun b h1 h2 z => by
    rcases List.mem_cons.mp (I.stkSub b z) with q | q
    · exact h2 q
    · exact h1 q
  have sup : ∀ b, b ∈ frs X.outer → b ∈ frs X.stack := fun b hb => by
    rw [hs]; unfold frs; rw [List.filterMap_cons, hf]; exact List.mem_cons_of_mem _ hb
  refine ⟨⟨fun b o e n hb _ => ?_, fun b o e n hb _ => ?_, ub.free, fun b o e _ => ?_, ub.tups, ub.frzs, ub.tbls⟩, f1.ok, fun b o e ns hb => ?_, f1.kh, fun b hb => ?_⟩
  · have e1 := ub.keep b o e n hb no_nil
    obtain ⟨o', e0⟩ := old b o e
    exact st b o (f.kb b o e1 (by rw [e0]; exact fun z => nomatch z) (sub b hb (nl b o e)))
  · obtain ⟨sl, e1⟩ := ub.slot b o e n hb no_nil
    obtain ⟨o', sl1, sl2, e0, e1', e2⟩ := f.slots up (sup b hb)
    have q := Option.some.inj (e1.symm.trans e1')
    refine ⟨sl2, ?_⟩
    rw [e2]
    obtain ⟨c1, d1, t1, l1⟩ := o
    obtain ⟨c2, d2, t2, l2⟩ := o'
    simp only [Obj.mk.injEq] at q
    obtain ⟨rfl, rfl, rfl, _⟩ := q
    rfl
  · obtain ⟨o', e0⟩ := old b o e
    exact f1.un.there b o' e0 no_nil
  · cases e0 : X.s₀.heap.get? b with
    | none => exact absurd e0 ns
    | some o0 =>
      obtain ⟨o', e1⟩ := old b o0 e0
      exact f1.kb b o e (by rw [e1]; exact fun z => nomatch z) (sub b hb (nl b o0 e0))
  · exact ⟨I.ok.frf b hb, (I.ok.funs.mem hb).2⟩
/-- the state at a raise, as one that flies: all but the frames is kept -/
def hidF (h : Heap) (l : List Env) : Heap := PySem.W.hideAll h (frs l)
theorem Fly.raise (I : Inv X pins σ H s) (hx : X.ex = []) (hs : X.stack = X.env :: X.outer) (hf : X.env.frame = some X.env.locals) {h' : Heap} (st : (hidF s.heap X.stack).StaysIn h') (up : s.heap.UpToSlots h') : Fly X.prog X.w X.outer X.H₀ X.s₀ H (hidF s.heap X.stack) h' := by
  have f : Fly X.prog X.w X.stack H s H (hidF s.heap X.stack) s.heap :=
    ⟨Un.refl, I.hok, fun b o e _ hb => PySem.W.hideAll_get _ e hb, fun b u e => by
      have hn : b ∉ frs X.stack := fun z => by rw [I.stkFree b z] at e; cases e
      have : ∃ o, s.heap.get? b = some o := by
        have := I.hok b u e
        cases u with
        | lst xs => obtain ⟨_, _, _, _, e⟩ := this; exact ⟨_, e⟩
        | tup xs => obtain ⟨_, _, _, o, e, _⟩ := this; exact ⟨_, e⟩
        | dK kvs => obtain ⟨_, _, _, _, o, _, _, e, _⟩ := this; exact ⟨_, e⟩
        | dT kvs => obtain ⟨_, _, _, _, o, _, _, e, _⟩ := this; exact ⟨_, e⟩
        | set S n => obtain ⟨o, _, _, _, e, _⟩ := this; exact ⟨_, e⟩
        | ins C dx fs => obtain ⟨_, _, _, e, _⟩ := this; exact ⟨_, e⟩
        | own y => obtain ⟨_, e⟩ := this; exact ⟨_, e⟩
        | xd fs => obtain ⟨_, ⟨_, _, _, e, _⟩, _⟩ := this; exact ⟨_, e⟩
        | rng lo hi => obtain ⟨_, _, _, e⟩ := this; exact ⟨_, e⟩
        | frz ob u => obtain ⟨e, _⟩ := this; exact ⟨_, e⟩
        | tbl ps => exact ⟨_, this⟩
        | met f y => exact ⟨_, this⟩
        | ext φ => obtain ⟨_, ⟨_, e⟩, _⟩ := this; exact ⟨_, e⟩
      obtain ⟨o, eo⟩ := this
      exact ⟨o, eo, PySem.W.hideAll_get _ eo hn⟩, inv_frs I⟩
  exact f.out I rfl I.bare hx hs hf st up
end
end D3

namespace D3
open PySem PySem.Spec PySem.Calls PyProof.Rows L2
/-! ### raise -/
/-- a class of errors of the text, straight or not under ValueError: what a raise wants -/
def vErr : List Value := [.type "ValueError", .type "Exception", .type "BaseException", .type "object"]
def RzCls (K : PySem.W.Frag) (C : Addr) : Prop := PySem.W.excIn K C vErr "ValueError.__new__" = true
/-- what the surroundings want of an error that is made here -/
def RzOk (C : Cw) (X : Cx) : Prop := ∀ (pins : List (Addr × Obj)) (σ : L2.St) (H : Hp) (s : Shared) (c : Str) (Cc : Addr) (vs : List Value) (h' : Heap) (e : Addr), Inv X pins σ H s → X.mg c = some (.ref Cc) → C.EE c σ H →
  Heap.MadeExcOf s.heap h' e (.ref Cc) vs → X.xe (.ref e) { s with heap := h' }
section
variable {C : Cw} {X : Cx} {e : Expr} {es : List Expr} {gs : Rho → ResL} {x : Str} {np cpos pos : Pos}
/-! ### contexts: a def's body -/
structure FnCx (X : Cx) : Prop where
  hx : X.ex = []
  hs : X.stack = X.env :: X.outer
  hf : X.env.frame = some X.env.locals
end
section
variable {P : Program} {w : World} {K : PySem.W.Frag} {mg : Str → Option Value} {base : Heap} {N : List Str} {qual : Str} {scope : Scope} {f : Addr} {cdv : Value} {A : Around} {outer : List Env} {s : Shared} {H : Hp} {E : XK}
theorem fnCx : FnCx (cxOf (CX1 P w) P w K mg base N qual scope f cdv A outer s H E) := ⟨rfl, rfl, rfl⟩
/-- the wish about errors, by names of classes -/
def eeOf (mg : Str → Option Value) (E : XK) : XE := fun c _ H' => ∀ u, mg c = some u → E u none H'
theorem xok_fn {C : Cw} (hE : C.EE = eeOf mg E) : XOk (CX1 P w) C (cxOf (CX1 P w) P w K mg base N qual scope f cdv A outer s H E) := by
  intro pins σ H1 s1 ev s' I h
  obtain ⟨e, Cc, a0, H2, B, rfl, ho, hg, fl, fy, c, hm, he⟩ := h
  rw [hE] at he
  have I0 := I.ok.frames
  refine wpAny_leaves_onW I0 rfl fl fun h' fl' up => ?_
  exact ⟨e, Cc, a0, H2, B, rfl, ho.trans I.os, hg, fl', fy.out I ho hg rfl rfl rfl fl'.1 up, he _ hm⟩
theorem rzok_fn {C : Cw} (hE : C.EE = eeOf mg E) : RzOk C (cxOf (CX1 P w) P w K mg base N qual scope f cdv A outer s H E) := by
  intro pins σ H1 s1 c Cc vs h1 e I hm he made
  rw [hE] at he
  have I0 := I.ok.frames
  have hin : ∀ env ∈ (cxOf (CX1 P w) P w K mg base N qual scope f cdv A outer s H E).stack, ∀ a, env.frame = some a → a ∈ frs (cxOf (CX1 P w) P w K mg base N qual scope f cdv A outer s H E).stack := fun env he a ha => List.mem_filterMap.mpr ⟨env, he, ha⟩
  have FF : s1.heap.FunFrames (hidF s1.heap (cxOf (CX1 P w) P w K mg base N qual scope f cdv A outer s H E).stack) _ := PySem.W.funFrames_hide I.stack hin
  have st0 : (hidF s1.heap (cxOf (CX1 P w) P w K mg base N qual scope f cdv A outer s H E).stack).StaysIn s1.heap := fun b o q => PySem.W.of_hideAll _ q
  refine wpAny_leaves_madeW (s := { s1 with heap := h1 }) I0 rfl st0 FF made fun h' t fl _ _ up => ?_
  have up0 : s1.heap.UpToSlots h' := (Heap.UpToSlots.of_keeps made.keeps).trans up
  exact ⟨e, Cc, .ref t, H1, _, rfl, I.os, I.bare, fl, Fly.raise I rfl rfl rfl fl.1 up0, he _ hm⟩
end
end D3

namespace D3
open PySem PySem.Spec PySem.Calls PyProof.Rows L2
/-! ### try, except -/
structure HX where
  cls : Str
  slot : Option Nat
  g : Rho → SRes
/-- the classes of errors among one another -/
def XtOk (K : PySem.W.Frag) (mg : Str → Option Value) (xt : Str → Str → Option Bool) : Prop := ∀ c x b, xt c x = some b → ∃ C C2, PySem.W.nsIn K mainGlobals c = some (some (.ref C)) ∧ mg c = some (.ref C) ∧ mg x = some (.ref C2) ∧
  PySem.W.mroIn K C2 (.type "BaseException") = some true ∧ PySem.W.typeIn K (.ref C2) = some (.type "type") ∧ PySem.W.mroIn K C (.ref C2) = some b
section
variable {X : Cx} {pins : List (Addr × Obj)} {σ : L2.St} {H : Hp} {s : Shared} {e : Addr}
end
end D3

namespace D3
open PySem PySem.Spec PySem.Calls PyProof.Rows L2
section
variable {C : Cw} {X : Cx} {pins : List (Addr × Obj)} {σ : L2.St} {H H1 : Hp} {s s0 : Shared} {e Cc : Addr} {a0 : Value} {B : Heap}
end
end D3

namespace D3
open PySem PySem.Spec PySem.Calls PyProof.Rows L2
section
variable {C : Cw} {X : Cx} {pins : List (Addr × Obj)} {σ : L2.St} {H : Hp} {s : Shared} {D : Ends} {hs : List ExceptHandler} {hx : List HX} {xt : Str → Str → Option Bool}
end
/-! ### isinstance of an error -/
/-- a class by its name: one of the text, or one of Python's own -/
def ClsV (mg : Str → Option Value) (n : Str) (cv : V) : Prop := (∃ C, mg n = some (.ref C) ∧ cv = .ref C) ∨ (mg n = none ∧ n ≠ "__name__" ∧ ∃ T, bootBuiltins n = some (.type T) ∧ cv = .ty T)
def valV' : V → Value | .ref a => .ref a | .ty T => .type T | _ => .none
def XisOk (K : PySem.W.Frag) (mg : Str → Option Value) (xis : Str → Str → Option Bool) : Prop := ∀ c n b, xis c n = some b → ∃ C cv, PySem.W.nsIn K mainGlobals c = some (some (.ref C)) ∧ XCls K C ∧ ClsV mg n cv ∧ PySem.W.kitOne K (.ref C) (valV' cv) = some b
section
variable {C : Cw} {X : Cx} {e : Expr} {g : Rho → Res} {p q pos tp : Pos} {n : Str} {xis : Str → Str → Option Bool}
end
end D3

namespace D3
open PySem PySem.Spec PySem.Calls PyProof.Rows L2
/-! ### a def by its body, errors too -/
theorem fnok_phi {P : Program} {w : World} {K : PySem.W.Frag} {mg : Str → Option Value} {base : Heap} {x qual : Str} {st : Stmt} {f : Addr} {fd : FuncData} {N ps : List Str} {k : Nat} {g : Rho → SRes} (F : Fun K x qual st f fd) (S : FnScope N ps (defScope st))
    (hbody : ∀ (C : Cw) (cdv : Value) (A : Around) (outer : List Env) (s : Shared) (H : Hp) (E : XK), C.EE = eeOf mg E → Room k (A.deeper (envOfC qual (defScope st) s.heap.objs.size f cdv)) → PBv C (cxOf (CX1 P w) P w K mg base N qual (defScope st) f cdv A outer s H E) (defBody st) g) :
    FnOk P w K mg base (CX1 P w) (k + 1) f fd ps (spV K mg ps.length (phi ps.length N.length g)) := by
  obtain ⟨oc, od, kV, doc, pm, an, cdv, ct, osl, rfl, lk, hcd⟩ := F.ex
  refine fn_of lk hcd S (fun vs H Q E h => h.1) fun A outer s H vs Q E hr h => ?_
  obtain ⟨hl, F0, ds, sF, rl, h⟩ := h
  have hl' : ds.length = ps.length := by rw [← rl.length]; exact hl
  let C : Cw := ⟨K, F0, H, eeOf mg E⟩
  refine ⟨_, hbody C cdv A outer s H E rfl hr, startR N.length ds, F0, relSt_start sF rl, ?_⟩
  unfold phi at h
  rw [if_pos hl'] at h
  cases er : g (startR N.length ds) with
  | nx ρ => rw [er] at h; exact fun σ' F' H' _ R => h.2 .non F' H' R.st rp_non (by intro z; cases z)
  | rt m d => rw [er] at h; exact fun v F' H' s rp fr => h.2 v F' H' s rp fr
  | bk ρ => rw [er] at h; exact h.elim
  | ct ρ => rw [er] at h; exact h.elim
  | exc c ρ => rw [er] at h; exact fun σ' F' H' _ R u hu => h F' H' u R.st hu
  | stuck => rw [er] at h; exact h.elim
/-! ### xs.append(e), xs a list of one's own -/
def appS (ρ : Rho) (i : Nat) (r : Res) : SRes := match ρ[i]? with
  | some (some (true, .lst ds)) => (frzR r).thS ρ fun m d => match m with | .fz => if ds.length < sizeLine then .nx (ρ.set i (some (true, .lst (ds ++ [d])))) else .stuck | _ => .stuck
  | _ => .stuck
section
variable {C : Cw} {X : Cx} {e : Expr} {g : Rho → Res} {x : Str} {p ap cp pos : Pos}
theorem psv_app (i : Nat) (hv : PE X (.Name x p) (tVar i)) (he : PV C X e g) (hs : notStar e = true) (hline : ap.endLine = cp.line) :
    PSv C X (.Expr (.Call (.Attribute (.Name x p) "append" ap) [e] [] cp) pos) (fun ρ => appS ρ i (g ρ)) := by
  have h1 := pe_bm (X := X) (o := .Name x p) (e := e) (es := []) (apos := ap) (cpos := cp) PySem.F.plainAttrs_list PySem.F.slot_list_append PySem.F.type_list_append mt_append hv (pa_cons (pv_frz he) pa_nil (star_cons hs)) (attrBase rfl) (by
      rw [star_all _ _ (fun y hy => by simp only [List.mem_cons, List.mem_nil_iff, or_false] at hy; subst hy; exact hs)]; rfl) (beq_iff_eq.mpr hline) (star_cons hs) rfl
  refine PS.imp (ps_expr h1) fun E σ H q => ?_
  obtain ⟨ρ, F, R, w⟩ := q
  dsimp only at w
  unfold tDrop tBM
  cases e0 : ρ[i]? with
  | none => unfold appS at w; rw [e0] at w; exact w.elim
  | some o =>
    cases o with
    | none => unfold appS at w; rw [e0] at w; exact w.elim
    | some bd =>
      obtain ⟨b, d0⟩ := bd
      cases b with
      | false => unfold appS at w; rw [e0] at w; exact w.elim
      | true =>
        cases d0 with
        | lst ds =>
          unfold appS at w
          rw [e0] at w
          dsimp only at w
          obtain ⟨v0, ev0, rp0, hn0⟩ := R.slot i true _ e0
          obtain ⟨a, ea, hfa, xs, hh, rl⟩ := rp0
          subst ea
          refine ⟨.ref a, ev0, .inl ⟨rfl, xs, SqL.of hh⟩, ?_⟩
          unfold tCons
          refine tG_thS R w fun m d v F' H' w' s R' rp fr => ?_
          cases m with
          | fr => exact (show False from w').elim
          | bo => exact (show False from w').elim
          | fz =>
          dsimp only at w'
          split at w'
          · rename_i hl
            have hh' : H' a = some (.lst xs) := s.same _ _ hh
            refine ⟨a, xs, v, rfl, rfl, hh', by rw [rl.length]; exact hl, ?_⟩
            exact w' σ F' _ (Same.refl _) (R'.mut e0 ev0 ⟨_, upd_same, RepL.append (rl.mono s.fsame _ _) (RepL.cons rp RepL.nil)⟩)
          · exact w'.elim
        | _ => unfold appS at w; rw [e0] at w; exact w.elim
end
end D3

namespace D3
open PySem PySem.Spec PyProof.Rows L2
/-! ### min(xs, default=None), xs a list of ints -/
section
variable {prog : Program} {w : World} {A : Around} {R : Result → Shared → Prop} {J : Addr} {fp wr : List Addr} {n : Nat} {P : Nat → Value → Prop} {St : Nat → Heap → Prop} {ns : List Int} {S : Addr}
end
end D3

namespace D3
open PySem PySem.Spec PyProof.Rows L2
section
variable {prog : Program} {w : World} {A : Around} {E : Value → Shared → Prop} {s : Shared}
end
section
variable {C : Cw} {X : Cx} {e : Expr} {g : Rho → Res} {p q kp pos : Pos} {j}
end
end D3

namespace D3
open PySem PySem.Spec PyProof.Rows L2
/-! ### slices of texts, lists, tuples -/
theorem RepL.drop {K : PySem.W.Frag} {F : Hp} : ∀ (n : Nat) {ds : List D} {xs : List V}, RepL K F ds xs → RepL K F (ds.drop n) (xs.drop n)
  | 0, _, _, h => h
  | n + 1, [], xs, h => by
    simp only [RepL] at h
    subst h; simp [RepL]
  | n + 1, d :: ds, xs, h => by
    simp only [RepL] at h
    obtain ⟨v, vs, rfl, _, t⟩ := h
    exact RepL.drop n t
theorem RepL.take {K : PySem.W.Frag} {F : Hp} : ∀ (n : Nat) {ds : List D} {xs : List V}, RepL K F ds xs → RepL K F (ds.take n) (xs.take n)
  | 0, _, _, _ => by simp [RepL]
  | n + 1, [], xs, h => by
    simp only [RepL] at h
    subst h; simp [RepL]
  | n + 1, d :: ds, xs, h => by
    simp only [RepL] at h
    obtain ⟨v, vs, rfl, r, t⟩ := h
    simp only [List.take_succ_cons, RepL]
    exact ⟨v, _, rfl, r, RepL.take n t⟩
def cutD (xs : List D) (lo hi : Option Int) : List D := (xs.drop (HT.sIx xs.length 0 lo)).take (HT.sIx xs.length xs.length hi - HT.sIx xs.length 0 lo)
theorem RepL.cut {K : PySem.W.Frag} {F : Hp} {ds : List D} {xs : List V} (h : RepL K F ds xs) (lo hi : Option Int) : RepL K F (cutD ds lo hi) (cutV xs lo hi) := by
  unfold cutD cutV
  rw [h.length]
  exact (h.drop _).take _
def wholeCut (n : Nat) (lo hi : Option Int) : Bool := HT.sIx n 0 lo == 0 && HT.sIx n n hi == n
def slP (x : Res) (lo hi : Option (Rho → Res)) (ρ : Rho) : Res := x.thn fun m d => match d with
  | .str z => partThn lo ρ fun l => partThn hi ρ fun h => .ok .fz (.str (Txt.slice z l h))
  | .lst ds => partThn lo ρ fun l => partThn hi ρ fun h => .ok .fr (.lst (cutD ds l h))
  | .tup ds => partThn lo ρ fun l => partThn hi ρ fun h => if (wholeCut ds.length l h && m != .fz) = true then .stuck else .ok .fz (.tup (cutD ds l h))
  | _ => .stuck
section
variable {C : Cw} {X : Cx} {a : Expr} {ga : Rho → Res} {pos : Pos}
theorem pv_cut {lo hi : Option Expr} {gl gh : Option (Rho → Res)} {p2 : Pos} (ha : PV C X a ga) (hl : POv C X lo gl) (hh : POv C X hi gh) : PV C X (.Subscript a (.Slice lo hi none p2) pos) (fun ρ => slP (ga ρ) gl gh ρ) := by
  refine PE.imp (pe_slice (sl_str.or (sl_list.or (sl_tup.or sl_whole))) ha (po_of hl) (po_of hh)) fun σ H Q q => ?_
  unfold tSl
  rw [tG_eq] at q ⊢
  obtain ⟨ρ, F, R, w⟩ := q
  try dsimp only at w
  refine ⟨ρ, F, R, ?_⟩
  cases er : ga ρ with
  | stuck => rw [er] at w; exact w
  | exc c => rw [er] at w; exact w
  | ok m d =>
    rw [er] at w
    intro v F1 H1 s1 rp _
    cases d with
    | str z =>
      obtain ⟨rfl, hz, hk⟩ := rp.str
      have w1 : Want (C.at X) F1 H1 σ (partThn gl ρ fun l => partThn gh ρ fun h => .ok .fz (.str (Txt.slice z l h))) Q := Want.step s1 w
      refine want_part (R.step s1) w1 fun l F2 H2 s2 R2 w2 => want_part R2 w2 fun h F3 H3 s3 R3 w3 => .inl ?_
      exact ⟨z, rfl, hz, w3 _ F3 H3 (.refl R3.sub) (rp_str ⟨Nat.le_trans (Txt.slice_le z _ _) hz, strOk_slice hk⟩) (by intro z; cases z)⟩
    | lst ds =>
      have w1 : Want (C.at X) F1 H1 σ (partThn gl ρ fun l => partThn gh ρ fun h => .ok .fr (.lst (cutD ds l h))) Q := Want.step s1 w
      refine want_part (R.step s1) w1 fun l F2 H2 s2 R2 w2 => want_part R2 w2 fun h F3 H3 s3 R3 w3 => .inr (.inl ?_)
      obtain ⟨p, xs, rfl, hq, rl⟩ := ((rp.step s2).step s3).seqL R3.sub
      exact ⟨p, xs, rfl, hq, fun p' hp' => w3 (.ref p') F3 _ (Step.fresh _ R3.sub hp') ⟨p', rfl, R3.sub.free hp', _, upd_same, rl.cut l h⟩ fun _ a ea => by cases ea; exact hp'⟩
    | tup ds =>
      have w1 : Want (C.at X) F1 H1 σ (partThn gl ρ fun l => partThn gh ρ fun h => if (wholeCut ds.length l h && m != .fz) = true then .stuck else .ok .fz (.tup (cutD ds l h))) Q := Want.step s1 w
      refine want_part (R.step s1) w1 fun l F2 H2 s2 R2 w2 => want_part R2 w2 fun h F3 H3 s3 R3 w3 => .inr (.inr ?_)
      obtain ⟨p, xs, rfl, hq, rl⟩ := ((rp.step s2).step s3).seqT R3.sub
      have lw : wholeCut ds.length l h = true ↔ HT.sIx xs.length 0 l = 0 ∧ HT.sIx xs.length xs.length h = xs.length := by
        rw [rl.length]; unfold wholeCut; simp
      cases hw : wholeCut ds.length l h with
      | true =>
        cases m with
        | fz =>
          rw [hw, if_neg (by decide)] at w3
          have e := lw.mp hw
          have ec : cutD ds l h = ds := by
            unfold cutD
            rw [← rl.length, e.1, e.2, rl.length, List.drop_zero, Nat.sub_zero]
            exact List.take_length
          rw [ec] at w3
          exact .inr ⟨p, xs, rfl, hq, e, w3 (.ref p) F3 H3 (.refl R3.sub) ((rp.step s2).step s3) (by intro z; cases z)⟩
        | fr => rw [hw, if_pos (by decide)] at w3; exact w3.elim
        | bo => rw [hw, if_pos (by decide)] at w3; exact w3.elim
      | false =>
        rw [hw, if_neg (by simp)] at w3
        refine .inl ⟨p, xs, rfl, hq, fun z => ?_, fun p' hp' => w3 (.ref p') _ _ (Step.laid (.tup (cutV xs l h)) R3.sub hp') (RepV.tup_of (R3.sub.free hp') (rl.cut l h)) (by intro z; cases z)⟩
        rw [lw.mpr z] at hw
        cases hw
    | _ => exact (show False from w).elim
/-! ### startswith, removeprefix -/
def swD : Md → D → List (Md × D) → Option (Md × D) := fun _ x xs => match x, xs with
  | .str z, [(_, .str y)] => some (.fz, .bl (Txt.startswith z y))
  | _, _ => none
theorem mtd_sw : MtD X "str.startswith" swD := by
  refine ⟨fun v vs H Q => ∃ z y : Str, v = .str z ∧ vs = [.str y] ∧ Q (.bl (Txt.startswith z y)) H, ?_, ?_⟩
  · intro pins s σ H x xs v us Q I rx r h
    obtain ⟨z, y, rfl, rfl, q⟩ := h
    obtain ⟨t, rfl⟩ := rx
    obtain ⟨u, rfl, t', rfl⟩ := vals1 r
    exact SC.startswith ⟨.bl (Txt.startswith z y), H, I, rfl, q⟩
  · intro F H m x xs v vs k d Q s rx rl e w
    unfold swD at e
    split at e
    · rename_i z m' y
      cases e
      obtain ⟨rfl, _⟩ := rx.str
      obtain ⟨u, rfl, r⟩ := rl.one
      obtain ⟨rfl, _⟩ := r.str
      exact ⟨z, y, rfl, rfl, w _ F H (.refl s) (rp_bl _) (by intro z; cases z)⟩
    · cases e
def rpD : Md → D → List (Md × D) → Option (Md × D) := fun _ x xs => match x, xs with
  | .str z, [(_, .str y)] => some (.fz, .str (Txt.removeprefix z y))
  | _, _ => none
theorem strOk_rp {z y : Str} (h : PyData.strOk z = true) : PyData.strOk (Txt.removeprefix z y) = true := by
  rw [StrLaws.removeprefix_eq]
  split
  · unfold PyData.strOk at h ⊢
    rw [Array.all_eq_true_iff_forall_mem] at h ⊢
    intro c hc
    have : c ∈ z.cps.toList := List.mem_of_mem_drop (List.mem_of_mem_take (by simpa using hc))
    exact h c (by simpa using this)
  · exact h
theorem mtd_rp : MtD X "str.removeprefix" rpD := by
  refine ⟨fun v vs H Q => ∃ z y : Str, v = .str z ∧ vs = [.str y] ∧ z.length ≤ sizeLine ∧ Q (.str (Txt.removeprefix z y)) H, ?_, ?_⟩
  · intro pins s σ H x xs v us Q I rx r h
    obtain ⟨z, y, rfl, rfl, hz, q⟩ := h
    obtain ⟨t, rfl⟩ := rx
    obtain ⟨u, rfl, t', rfl⟩ := vals1 r
    exact SC.removeprefix (fun t' k => ⟨.str (Txt.removeprefix z y), H, I.tok _, ⟨_, rfl⟩, q⟩) hz
  · intro F H m x xs v vs k d Q s rx rl e w
    unfold rpD at e
    split at e
    · rename_i z m' y
      cases e
      obtain ⟨rfl, hz, hk⟩ := rx.str
      obtain ⟨u, rfl, r⟩ := rl.one
      obtain ⟨rfl, _⟩ := r.str
      exact ⟨z, y, rfl, rfl, hz, w _ F H (.refl s) (rp_str ⟨Nat.le_trans (len_removeprefix z y) hz, strOk_rp hk⟩) (by intro z; cases z)⟩
    · cases e
end
end D3

namespace D3
open PySem PySem.Spec PyProof.Rows L2
section
variable {C : Cw} {X : Cx} {pos : Pos}
end
end D3

namespace D3
open PySem PySem.Spec PyProof.Rows L2
/-! ### dicts: what stands at a key -/
def getK (kvs : List (Key × D)) (k : Key) : Option D := (kvs.find? fun kv => decide (kv.1 = k)).map (·.2)
section
variable {X : Cx}
end
section
variable {C : Cw} {X : Cx} {a b : Expr} {ga gb : Rho → Res} {pos : Pos}
/-! ### in, not in -/
/-! ### dict(d) -/
def tcDict : List (Md × D) → Option (Md × D)
  | [(_, .dct kvs)] => some (.fr, .dct kvs)
  | _ => none
theorem calld_dict : CallD X (.type "dict") tcDict := by
  refine ⟨fun vs H Q => ∃ a xs, vs = [.ref a] ∧ H a = some (.dK xs) ∧ ∀ p, H p = none → Q (.ref p) (upd H p (.dK xs)), ?_, ?_⟩
  · intro pins s σ H vs us Q I r h
    obtain ⟨a, xs, rfl, hh, q⟩ := h
    obtain ⟨u, rfl, ru⟩ := vals1 r
    cases (show u = Value.ref a from ru)
    exact d_copyOf I (.inl hh) fun p s' hp I' => ⟨.ref p, _, I', rfl, q p hp⟩
  · intro F H xs vs k d Q s rx e w
    unfold tcDict at e
    split at e
    · rename_i m kvs
      cases e
      obtain ⟨v, rfl, r⟩ := rx.one
      obtain ⟨a, ys, rfl, hh, rk⟩ := r.dict s
      exact ⟨a, ys, rfl, hh, fun p hp => w (.ref p) F _ (Step.fresh _ s hp) ⟨p, rfl, s.free hp, ys, upd_same, rk⟩ fun _ b eb => by cases eb; exact hp⟩
    · cases e
end
/-! ### d[k] = v, d a name of the frame that owns it -/
def putD (kvs : List (Key × D)) (k : Key) (d : D) : List (Key × D) := if (kvs.any fun kv => decide (kv.1 = k)) = true then kvs.map (fun kv => if kv.1 = k then (kv.1, d) else kv) else kvs ++ [(k, d)]
end D3

namespace D3
open PySem PySem.Spec PyProof.Rows L2
section
variable {C : Cw} {X : Cx} {e ke : Expr} {g gk : Rho → Res} {x : Str} {p sp pos : Pos}
end
end D3
namespace D3
open PySem PySem.Spec PyProof.Rows L2
section
variable {C : Cw} {X : Cx} {a b : Expr} {ga gb : Rho → Res} {pos : Pos}
end
end D3

namespace D3
open PySem PySem.Spec PyProof.Rows L2 PySem.SeqAt PySem.MeetsSeq
/-! ### t.index(x) of a tuple -/
section
variable {X : Cx} {o e : Expr} {apos cpos : Pos} {td ty : TE}
end
section
variable {C : Cw} {X : Cx} {o e : Expr} {apos cpos : Pos} {go g : Rho → Res}
end
end D3

namespace D3
open PySem PySem.Spec PyProof.Rows L2
/-! ### dicts compared: keys and data that can be laid out -/
section
variable {C : Cw} {X : Cx}
end
end D3

namespace D3
open PySem PySem.Spec PyProof.Rows L2
/-! ### a dict of defs at the top: its item, and the call of what a name holds -/
def TabE (w : World) (K : PySem.W.Frag) : List (Str × Str) → List DictEntry → Prop
  | [], es => es = []
  | (z, f) :: r, es => ∃ t a es', es = ⟨PyData.keyHash w.params z, .str z t, .ref a⟩ :: es' ∧ PySem.W.nsIn K mainGlobals f = some (some (.ref a)) ∧ TabE w K r es'
structure TabV (w : World) (K : PySem.W.Frag) (mg : Str → Option Value) (x : Str) (tb : List (Str × Str)) : Prop where
  ex : ∃ a ob es ep, mg x = some (.ref a) ∧ K.lookup a = some ob ∧ ob.ExactDict ∧ ob.data = .dict es ep ∧ TabE w K tb es.toList
  nd : (tb.map (·.1)).Nodup
section
variable {C : Cw} {X : Cx} {e b : Expr} {es : List Expr} {gs : Rho → ResL} {gb : Rho → Res} {p pos : Pos} {x : Str} {k n : Nat} {tb : List (Str × Str)}
end
end D3

namespace D3
open PySem PySem.Spec PyProof.Rows L2
/-! ### list(d): the keys in their order -/
section
variable {X : Cx}
end
end D3

namespace D3
open PySem PySem.Spec PyProof.Rows L2
/-- a name gives up its right to change what it owns -/
theorem RelSt.frz {K : PySem.W.Frag} {F0 H0 F H : Hp} {σ : L2.St} {ρ : Rho} (R : RelSt K F0 H0 F H σ ρ) {i : Nat} {d : D} (e : ρ[i]? = some (some (true, d))) : ∃ F', Same F F' ∧ RelSt K F0 H0 F' H σ (ρ.set i (some (false, d))) := by
  obtain ⟨v, ev, rp, hn⟩ := R.slot i true d e
  obtain ⟨x, rfl, nx, t⟩ := rp
  obtain ⟨o, ho, r⟩ := t.freeze nx
  have sm : Same F (upd F x o) := fun b u q => by rw [upd_ne (ne_of_none q nx)]; exact q
  have hi : i < ρ.length := (List.getElem?_eq_some_iff.mp e).1
  refine ⟨upd F x o, sm, R.st.freeze (hn rfl x rfl) nx ho, fun j m d' ej => ?_, fun j k d1 d2 a hjk e1 e2 q1 q2 => ?_, by rw [List.length_set]; exact R.len⟩
  · by_cases hj : j = i
    · subst hj
      rw [List.getElem?_set_self hi] at ej
      cases ej
      exact ⟨.ref x, ev, r, by intro z; cases z⟩
    · rw [List.getElem?_set_ne (fun z => hj z.symm)] at ej
      obtain ⟨v', ev', rp', hn'⟩ := R.slot j m d' ej
      refine ⟨v', ev', ?_, hn'⟩
      cases m with
      | false => exact RepV.mono sm _ _ rp'
      | true =>
        obtain ⟨a, rfl, na, t'⟩ := rp'
        have ax : a ≠ x := fun z => by
          subst z
          exact R.apart j i d' d a hj ej e ev' ev
        refine ⟨a, rfl, by rw [upd_ne ax]; exact na, ?_⟩
        cases d' with
        | lst ds => obtain ⟨xs, q, rr⟩ := t'; exact ⟨xs, q, rr.mono sm _ _⟩
        | dct ds => obtain ⟨xs, q, rr⟩ := t'; exact ⟨xs, q, rr.mono sm _ _⟩
        | ins c fs => obtain ⟨C, dx, gs, n, q, rr⟩ := t'; exact ⟨C, dx, gs, n, q, rr.mono sm _ _⟩
        | set ks => obtain ⟨S, q, rr⟩ := t'; exact ⟨S, q, rr⟩
        | _ => exact t'.elim
  · have own : ∀ {j : Nat} {d1 : D}, (ρ.set i (some (false, d)))[j]? = some (some (true, d1)) → ρ[j]? = some (some (true, d1)) := fun {j d1} z => by
      by_cases hj : j = i
      · subst hj
        rw [List.getElem?_set_self hi] at z
        cases z
      · rw [List.getElem?_set_ne (fun y => hj y.symm)] at z; exact z
    exact R.apart j k d1 d2 a hjk (own e1) (own e2) q1 q2
def frzS (ρ : Rho) (i : Nat) : SRes := match ρ[i]? with
  | some (some (true, d)) => .nx (ρ.set i (some (false, d)))
  | _ => .stuck
theorem pbv_frz {C : Cw} {X : Cx} {sts : List Stmt} {i : Nat} {g : Rho → SRes} (h : PBv C X sts g) : PBv C X sts (fun ρ => (frzS ρ i).thn g) := by
  refine PSs.imp h fun E σ H q => ?_
  obtain ⟨ρ, F, R, w⟩ := q
  dsimp only at w
  unfold frzS at w
  split at w
  · rename_i d e
    obtain ⟨F', sm, R'⟩ := R.frz e
    exact ⟨_, F', R', WantS.mono sm w⟩
  · exact w.elim
end D3

namespace D3
open PySem PySem.Spec PyProof.Rows L2
/-! ### sets of texts: their members in the order of the entries, each once; a table that isn't plain as soon as there is one -/
def Ent (w : World) : List Str → List (Int × Value) → Prop
  | [], l => l = []
  | x :: xs, l => ∃ t r, l = (hashStr w x, .str x t) :: r ∧ Ent w xs r
theorem Ent.mem {w : World} : ∀ {xs : List Str} {l : List (Int × Value)}, Ent w xs l → ∀ e ∈ l, ∃ x t, x ∈ xs ∧ e = (hashStr w x, .str x t)
  | [], l, h, e, he => by
    have h : l = [] := h
    subst h; cases he
  | x :: xs, l, h, e, he => by
    obtain ⟨t, r, rfl, hr⟩ := h
    rcases List.mem_cons.mp he with rfl | he
    · exact ⟨x, t, List.mem_cons_self, rfl⟩
    · obtain ⟨y, u, hy, e1⟩ := hr.mem e he
      exact ⟨y, u, List.mem_cons_of_mem _ hy, e1⟩
theorem Ent.mem' {w : World} : ∀ {xs : List Str} {l : List (Int × Value)}, Ent w xs l → ∀ x ∈ xs, ∃ t, (hashStr w x, .str x t) ∈ l
  | x :: xs, l, h, y, hy => by
    obtain ⟨t, r, rfl, hr⟩ := h
    rcases List.mem_cons.mp hy with rfl | hy
    · exact ⟨t, List.mem_cons_self⟩
    · obtain ⟨u, hu⟩ := hr.mem' y hy
      exact ⟨u, List.mem_cons_of_mem _ hu⟩
theorem Ent.length {w : World} : ∀ {xs : List Str} {l : List (Int × Value)}, Ent w xs l → l.length = xs.length
  | [], l, h => by have h : l = [] := h; subst h; rfl
  | x :: xs, l, h => by
    obtain ⟨t, r, rfl, hr⟩ := h
    simp [hr.length]
theorem Ent.snoc {w : World} : ∀ {xs : List Str} {l : List (Int × Value)} {x : Str} {t : Tok}, Ent w xs l → Ent w (xs ++ [x]) (l ++ [(hashStr w x, .str x t)])
  | [], l, x, t, h => by
    have h : l = [] := h
    subst h; exact ⟨t, [], rfl, rfl⟩
  | y :: xs, l, x, t, h => by
    obtain ⟨u, r, rfl, hr⟩ := h
    exact ⟨u, _, rfl, hr.snoc⟩
theorem Ent.perm {w : World} {l l' : List (Int × Value)} (p : l'.Perm l) : ∀ {xs : List Str}, Ent w xs l → ∃ ys : List Str, ys.Perm xs ∧ Ent w ys l' := by
  induction p with
  | nil => exact fun h => ⟨_, .refl _, h⟩
  | cons e _ ih =>
    intro xs h
    cases xs with
    | nil => cases (show _ :: _ = [] from h)
    | cons x xs =>
      obtain ⟨t, r, e1, hr⟩ := h
      cases e1
      obtain ⟨ys, p1, h1⟩ := ih hr
      exact ⟨x :: ys, p1.cons x, t, _, rfl, h1⟩
  | swap a b l =>
    intro xs h
    cases xs with
    | nil => cases (show _ :: _ = [] from h)
    | cons x xs =>
      obtain ⟨t, r, e1, hr⟩ := h
      cases e1
      cases xs with
      | nil => cases (show _ :: _ = [] from hr)
      | cons y xs =>
        obtain ⟨u, r', e2, hr'⟩ := hr
        cases e2
        exact ⟨y :: x :: xs, .swap x y xs, u, _, rfl, t, _, rfl, hr'⟩
  | trans _ _ ih1 ih2 =>
    intro xs h
    obtain ⟨ys, p1, h1⟩ := ih2 h
    obtain ⟨zs, p2, h2⟩ := ih1 h1
    exact ⟨zs, p2.trans p1, h2⟩
theorem is_str {P : Program} {w : World} {x y : Str} {t : Tok} : (PySem.strKind P w).is x (.str y t) = decide (y = x) := by
  show Value.isStrOf x (.str y t) = _
  rw [Bool.eq_iff_iff]
  simp [Value.isStrOf]
theorem Ent.elems {P : Program} {w : World} {xs : List Str} {l : List (Int × Value)} (h : Ent w xs l) : ElemsOf (PySem.strKind P w) l := fun e he => by
  obtain ⟨x, t, _, rfl⟩ := h.mem e he
  exact ⟨⟨x, by rw [is_str]; simp, rfl⟩, rfl⟩
def byText (w : World) : Bool := w.params.followText "set-order"
/-- a set of the texts xs (each once) at a -/
def SetX (w : World) (h : Heap) (a : Addr) (xs : List Str) : Prop := ∃ o es ep t, h.get? a = some o ∧ o.ExactSet ∧ o.data = .set es ep t ∧ Ent w xs es.toList ∧ xs.Nodup ∧ xs.length < scanBound ∧ t.fits es.size = true ∧ t.led = !byText w ∧ (xs = [] ∨ t.plain = false)
theorem stand_in {t : SetTable} {n : Nat} : (t.orStandIn n).led = t.led ∧ ((t.orStandIn n).plain = true → t.plain = true) := by
  unfold SetTable.orStandIn
  split
  · exact ⟨rfl, id⟩
  · exact ⟨rfl, fun h => by cases h⟩
theorem lay_flags {t : SetTable} {es : Array (Int × Value)} {h : Int} {x : Value} : (layNew t es h x).2.1.led = t.led ∧ ((layNew t es h x).2.1.plain = true → t.plain = true) := by
  unfold layNew
  split
  · exact stand_in (t := (t.put _).1)
  · exact ⟨rfl, fun h => by cases h⟩
theorem relay_flags {t : SetTable} {es : Array (Int × Value)} {n : Nat} : (relayAll t es n).2.1.led = t.led ∧ ((relayAll t es n).2.1.plain = true → t.plain = true) := by
  unfold relayAll
  split
  · rename_i t' order e
    have e' : t'.led = t.led ∧ t'.plain = t.plain := by
      unfold SetTable.relaid SetTable.laid at e
      cases hl : SetTable.layClean (SetTable.sizeAbove n - 1) (es.map (·.1)) with
      | none => rw [hl] at e; cases e
      | some ow => rw [hl] at e; cases e; exact ⟨rfl, rfl⟩
    dsimp only
    split
    · exact ⟨e'.1, fun h => by rw [← e'.2]; exact h⟩
    · exact ⟨rfl, fun h => by cases h⟩
  · exact ⟨rfl, fun h => by cases h⟩
section
variable {prog : Program} {w : World} {A : Around} {E : Value → Shared → Prop} {s : Shared}
theorem gave_ok (b : Bool) {s₁ : Shared} {Q' : Unit → Shared → Prop} (hq : Q' () s₁) : wpAny (model prog w) A (match b with | true => rule "set.scan.the-table-gave-way" | false => pure ()) Q' E s₁ := by
  cases b with
  | true => exact wpAny_rule hq
  | false => exact wpAny_pure hq
/-- what is stored is there -/
theorem store_x (P : Program) {h : Heap} {a : Addr} {o : Obj} {es : Array (Int × Value)} {ep : Nat} {t : SetTable} (ho : h.get? a = some o) (hex : o.ExactSet) (hd : o.data = .set es ep t) {es' : Array (Int × Value)} {t' : SetTable} {xs : List Str}
    (he : Ent w xs es'.toList) (hn : xs.Nodup) (hb : xs.length < scanBound) (hf : t'.fits es'.size = true) (hl : t'.led = !byText w) (hp : xs = [] ∨ t'.plain = false) :
    (h.update a (Obj.putSet es' t')).get? a = some { o with data := .set es' (ep + 1) t' } ∧ SetX w (h.update a (Obj.putSet es' t')) a xs := by
  have hs : es'.size = xs.length := by rw [← Array.length_toList]; exact he.length
  have g := (SetOf_store (knd := PySem.strKind P w) (S' := fun k => decide (∃ e ∈ es'.toList, (PySem.strKind P w).is k e.2 = true)) ho hex hd he.elems (fun k => by simp) (by rw [hs]; exact hb) hf).1
  exact ⟨g, _, es', ep + 1, t', g, hex, rfl, he, hn, hb, hf, hl, hp⟩
theorem add_tail (g : Bool → Sem Unit) (hg : ∀ (b : Bool) {s₁ : Shared} {Q' : Unit → Shared → Prop}, Q' () s₁ → wpAny (model prog w) A (g b) Q' E s₁) {a : Addr} {o : Obj} {es : Array (Int × Value)} {ep : Nat} {t : SetTable} (ho : s.heap.get? a = some o) (hex : o.ExactSet) (hd : o.data = .set es ep t) {es1 : Array (Int × Value)} {t2 : SetTable} {xs : List Str}
    (he : Ent w xs es1.toList) (hn : xs.Nodup) (hb : xs.length < scanBound) (hf : t2.fits es1.size = true) (hl : t2.led = !byText w) (hp : t2.plain = false) {wasDummy : Bool} {R : Option Bool → Shared → Prop}
    (h : ∀ h' ys, Heap.SameBut a s.heap h' → SetX w h' a ys → ys.Perm xs → R (some true) { s with heap := h' }) :
    wpAny (model prog w) A (do
        storeSet a es1 t2
        if (!wasDummy && t2.tooFull) = true then do
            g (relayAll t2 es1 (SetTable.grown es1.size)).2.2
            storeSet a (relayAll t2 es1 (SetTable.grown es1.size)).1 (relayAll t2 es1 (SetTable.grown es1.size)).2.1
            pure (some true)
          else pure (some true)) R E s := by
  have z : ∀ {l : Array (Int × Value)} {ys : List Str}, Ent w ys l.toList → ys.length < scanBound → l.size ≤ sizeLine := fun q1 q2 => fits_of_scanBound (by rw [← Array.length_toList, q1.length]; exact q2)
  obtain ⟨g1, X1⟩ := store_x prog ho hex hd he hn hb hf hl (.inr hp)
  refine wpAny_bind (wpAny_storeSet_of ho hd ?_ (z he hb))
  have sb := Heap.SameBut.update s.heap a (Obj.putSet es1 t2)
  split
  · have pm := relayAll_perm t2 es1 (SetTable.grown es1.size)
    have ft := relayAll_fits t2 es1 (SetTable.grown es1.size)
    have fl := relay_flags (t := t2) (es := es1) (n := SetTable.grown es1.size)
    generalize relayAll t2 es1 (SetTable.grown es1.size) = R1 at *
    obtain ⟨es2, t3, gv⟩ := R1
    dsimp only at pm ft fl ⊢
    obtain ⟨ys, p1, e2⟩ := he.perm pm
    have pl : t3.plain = false := by
      cases q : t3.plain with
      | false => rfl
      | true => rw [fl.2 q] at hp; cases hp
    have yb : ys.length < scanBound := by rw [p1.length_eq]; exact hb
    obtain ⟨_, X2⟩ := store_x prog g1 hex rfl e2 (p1.symm.nodup hn) yb ft (fl.1.trans hl) (.inr pl)
    refine wpAny_bind (hg gv ?_)
    exact wpAny_bind (wpAny_storeSet_of g1 rfl (wpAny_pure (h _ ys (sb.trans (Heap.SameBut.update _ a _)) X2 p1)) (z e2 yb))
  · exact wpAny_pure (h _ xs sb X1 (.refl _))
/-- s.add(x), by its hash -/
theorem add_x {a : Addr} {xs : List Str} {x : Str} {tk : Tok} {Q : Bool → Shared → Prop} (h : SetX w s.heap a xs) (hr : xs.length + 1 < scanBound)
    (hq : ∀ h' ys, Heap.SameBut a s.heap h' → SetX w h' a ys → ys.Perm (if x ∈ xs then xs else xs ++ [x]) → Q (!decide (x ∈ xs)) { s with heap := h' }) :
    wpAny (model prog w) A (setAddHashed a (.str x tk) (hashStr w x)) Q E s := by
  obtain ⟨o, es, ep, t, ho, hex, hd, he, hn, hb, hf, hl, hp⟩ := id h
  have el : ElemsOf (PySem.strKind prog w) es.toList := he.elems
  have hz : es.size = xs.length := by rw [← Array.length_toList]; exact he.length
  have hk : (PySem.strKind prog w).is x (.str x tk) = true := by rw [is_str]; simp
  unfold setAddHashed setAddHashedIn
  refine wpAny_holding (wpAny_bind (wpAny_setState_of ho hd hf ?_))
  dsimp only
  rw [byScan_of (knd := PySem.strKind prog w) (x := .str x tk) rfl (by rw [hz]; exact hb) el]
  simp only [↓reduceIte]
  unfold setAddByScan
  refine wpAny_bind (wpAny_bind (wpAny_rule (wpAny_bind (wpAny_setScan_of (knd := PySem.strKind prog w) hk ho hd hf el ?_))))
  cases hf' : List.findIdx? (fun e => (PySem.strKind prog w).is x e.2) es.toList with
  | some j =>
    dsimp only
    obtain ⟨hj, hpj, _⟩ := List.findIdx?_eq_some_iff_getElem.mp hf'
    obtain ⟨y, u, hy, ey⟩ := he.mem _ (List.getElem_mem hj)
    rw [ey, is_str, decide_eq_true_eq] at hpj
    subst hpj
    have := hq s.heap xs (Heap.SameBut.refl a s.heap) h (by rw [if_pos hy])
    rw [decide_eq_true hy] at this
    exact wpAny_pure (wpAny_pure this)
  | none =>
    dsimp only
    have nx : ¬ x ∈ xs := fun hx => by
      obtain ⟨u, hu⟩ := he.mem' x hx
      have := List.findIdx?_eq_none_iff.mp hf' _ hu
      rw [is_str] at this
      simp at this
    have pm := layNew_perm t es (hashStr w x) (.str x tk)
    have ft := layNew_fits t es (hashStr w x) (.str x tk)
    have fl := lay_flags (t := t) (es := es) (h := hashStr w x) (x := .str x tk)
    show wpAny _ _ (match layNew t es (hashStr w x) (.str x tk) with | (es, t, wasDummy, gave) => _) _ _ _
    generalize layNew t es (hashStr w x) (.str x tk) = L at *
    obtain ⟨es1, t1, wd, gv⟩ := L
    dsimp only at pm ft fl ⊢
    rw [Array.toList_push] at pm
    obtain ⟨ys, p1, e1⟩ := (he.snoc (x := x) (t := tk)).perm pm
    have yn : ys.Nodup := p1.symm.nodup (List.nodup_append.mpr ⟨hn, by simp, fun a ha b hb e => by rw [List.mem_singleton] at hb; subst hb; subst e; exact nx ha⟩)
    have yb : ys.length < scanBound := by rw [p1.length_eq, List.length_append]; simpa using hr
    have fin : ∀ h' zs, Heap.SameBut a s.heap h' → SetX w h' a zs → zs.Perm ys → Q true { s with heap := h' } := fun h' zs q1 q2 q3 => by
      have := hq h' zs q1 q2 (by rw [if_neg nx]; exact q3.trans p1)
      rw [decide_eq_false nx] at this; exact this
    refine wpAny_bind ?_
    have gg : ∀ (b : Bool) {s₁ : Shared} {Q' : Unit → Shared → Prop}, Q' () s₁ → wpAny (model prog w) A (match b with | true => rule "set.scan.the-table-gave-way" | false => pure ()) Q' E s₁ := fun b _ _ q => gave_ok b q
    refine gg _ ?_
    split
    · refine wpAny_bind ?_
      rw [hashByValue_scannable 8 (x := .str x tk) rfl]
      refine wpAny_pure ?_
      refine add_tail _ gg (t2 := { t1 with plain := false }) ho hex hd e1 yn yb (SetTable.fits_plain_off ft) (fl.1.trans hl) rfl ?_
      exact fun h' zs q1 q2 q3 => wpAny_pure (fin h' zs q1 q2 q3)
    · rename_i np
      refine wpAny_bind (wpAny_pure ?_)
      refine add_tail _ gg (t2 := t1) ho hex hd e1 yn yb ft (fl.1.trans hl) (by cases q : t1.plain with | true => exact absurd q np | false => rfl) ?_
      exact fun h' zs q1 q2 q3 => wpAny_pure (fin h' zs q1 q2 q3)
end
end D3

namespace D3
open PySem PySem.Spec PyProof.Rows L2
/-! ### set(t), t a tuple of texts -/
theorem plain_uploop : plainId "set.update.loop" = true := by decide +kernel
theorem entry_uploop : entryFor table "set.update.loop" = some Builtin.«set.update.loop» := entryFor_of_tree (by kernel_rfl)
theorem tc_set1 (a : Value) : checkTypeCall "set" ⟨[a], []⟩ = pure () := by kernel_rfl
theorem nc_set1 (a : Value) : checkBuiltinCall "set.__new__" ⟨[.type "set", a], []⟩ = pure () := by kernel_rfl
theorem SetX.kept {w : World} {h h' : Heap} {a : Addr} {xs : List Str} (x : SetX w h a xs) (k : ∀ o, h.get? a = some o → h'.get? a = some o) : SetX w h' a xs := by
  obtain ⟨o, es, ep, t, ho, r⟩ := x
  exact ⟨o, es, ep, t, k o ho, r⟩
theorem SetX.there {w : World} {h : Heap} {a : Addr} {xs : List Str} (x : SetX w h a xs) : a < h.objs.size := by
  obtain ⟨o, es, ep, t, ho, r⟩ := x
  exact Heap.lt_size ho
section
variable {prog : Program} {w : World} {A : Around} {E : Value → Shared → Prop} {s : Shared}
/-- s.add(x) -/
theorem setAdd_x {a : Addr} {xs : List Str} {x : Str} {tk : Tok} {Q : Bool → Shared → Prop} (h : SetX w s.heap a xs) (hr : xs.length + 1 < scanBound)
    (hq : ∀ h' ys, Heap.SameBut a s.heap h' → SetX w h' a ys → ys.Perm (if x ∈ xs then xs else xs ++ [x]) → Q (!decide (x ∈ xs)) { s with heap := h', toks := s.toks + 1 }) :
    wpAny (model prog w) A (setAdd a (.str x tk)) Q E s := by
  unfold setAdd
  refine wpAny_holding (wpAny_bind ((PySem.strKind prog w).pyHash (k := x) (v := .str x tk) (by rw [is_str]; simp) ?_))
  exact add_x (s := { s with toks := s.toks + 1 }) h hr hq
theorem uploop {R : Result → Shared → Prop} {I : Addr} {fp wr : List Addr} {n : Nat} {P : Nat → Value → Prop} {St : Nat → Heap → Prop} (W : Walks prog w A.in1 I fp wr n P St) {ns : List Str} (hn : ns.length = n) (hb : n < scanBound)
    (hP : ∀ i v, P i v → ∃ x t, ns[i]? = some x ∧ v = .str x t) (S : Addr) (hSf : S ∉ fp) :
    ∀ (k i : Nat) (s : Shared) (xs : List Str), n - i = k → i ≤ n → St i s.heap → SetX w s.heap S xs → xs.length ≤ i → (∀ y, y ∈ xs ↔ y ∈ ns.take i) →
    (∀ h' tk ys, (∀ b o, b ≠ S → b ∉ wr → s.heap.get? b = some o → h'.get? b = some o) → SetX w h' S ys → (∀ y, y ∈ ys ↔ y ∈ ns) → R (.ok (.ret .none)) { s with heap := h', toks := tk }) →
    codeAny (model prog w) A (.builtin "set.update.loop" ⟨[.ref S, .ref I], []⟩) R s := by
  have hSw : S ∉ wr := fun h => hSf (W.sub _ h)
  intro k
  induction k with
  | zero =>
    intro i s xs hk hi hst hS hl hm hR
    have hin : i = n := by omega
    subst hin
    refine codeAny_builtin entry_uploop ?_
    rw [Around.under_plainId plain_uploop _]
    show wpAny _ A.in1 (pyNext (.ref I) >>= _) _ _ s
    refine wpAny_bind (W.done s _ _ hst fun h' tk hk' => ?_)
    exact wpAny_pure (hR h' tk xs (fun b o _ hb e => hk' b o hb e) (hS.kept fun o e => hk' S o hSw e) fun y => by rw [hm, List.take_of_length_le (Nat.le_of_eq hn)])
  | succ k ih =>
    intro i s xs hk hi hst hS hl hm hR
    have hlt : i < n := by omega
    refine codeAny_builtin entry_uploop ?_
    rw [Around.under_plainId plain_uploop _]
    show wpAny _ A.in1 (pyNext (.ref I) >>= _) _ _ s
    refine wpAny_bind (W.item i s _ _ hlt hst fun v h1 tk hP1 hst1 hk1 => ?_)
    obtain ⟨x, t, hx, rfl⟩ := hP i v hP1
    have hS1 := hS.kept fun o e => hk1 S o hSw e
    show wpAny _ A.in1 (holding [.str x t] (setAdd S (.str x t)) >>= _) _ _ _
    refine wpAny_bind (wpAny_holding (setAdd_x (s := { s with heap := h1, toks := tk }) hS1 (by omega) fun h2 ys sb X2 pm => ?_))
    refine wpAny_pure ⟨plainId_quiet plain_uploop _, ih (i + 1) _ ys (by omega) hlt (W.frame _ _ _ hst1 fun b hb o e => ?_) X2 ?_ ?_ fun h3 tk3 zs kp X3 m3 => ?_⟩
    · exact sb.extBut b o (fun e' => hSf (e' ▸ hb)) e
    · rw [pm.length_eq]; split
      · omega
      · rw [List.length_append]; simp; omega
    · intro y
      rw [pm.mem_iff, List.take_add_one, hx, List.mem_append]
      split
      · rename_i hxx
        simp only [Option.toList_some, List.mem_singleton]
        exact ⟨fun h => .inl ((hm y).mp h), fun h => h.elim (hm y).mpr fun e => e ▸ hxx⟩
      · rw [List.mem_append, hm y]; simp
    · exact hR h3 tk3 zs (fun b o h1' h2' e => kp b o h1' h2' (sb.extBut b o h1' (hk1 b o h2' e))) X3 m3
end
end D3

namespace D3
open PySem PySem.Spec PyProof.Rows L2
def sob (w : World) : Obj := { cls := .type "set", dict := none, data := .set #[] 0 (.fresh 0 0 (!byText w)) }
theorem sob_x {w : World} {h : Heap} {a : Addr} (g : h.get? a = some (sob w)) : SetX w h a [] :=
  ⟨_, #[], 0, _, g, ⟨rfl, rfl, rfl⟩, rfl, rfl, List.nodup_nil, by decide, rfl, rfl, .inl rfl⟩
theorem tup_no_set : isSubtype (.type "tuple") (.type "set") = pure false := by rw [isSubtype_type]; kernel_rfl
theorem tup_no_frz : isSubtype (.type "tuple") (.type "frozenset") = pure false := by rw [isSubtype_type]; kernel_rfl
theorem strs_at : ∀ {vs : List Value} {ns : List Str}, StrsAre vs ns → ∀ {i : Nat} {v : Value}, vs[i]? = some v → ∃ x t, ns[i]? = some x ∧ v = .str x t
  | _, _, .nil, i, v, h => by simp at h
  | _, _, .cons x t r, 0, v, h => by cases h; exact ⟨x, t, rfl, rfl⟩
  | _, _, .cons x t r, i + 1, v, h => strs_at r (i := i) h
section
variable {prog : Program} {w : World} {A : Around} {E : Value → Shared → Prop} {s : Shared}
theorem new_set1 (v : Value) {Q1 : Value → Shared → Prop} (h : Q1 (.ref s.heap.objs.size) { s with heap := s.heap.push (sob w) }) :
    codeAny (model prog w) A (.call (.builtin "set.__new__") ⟨[.type "set", v], []⟩) (wants Q1 E) s := by
  refine codeAny_call_builtin_code (plainId_quiet PySem.F.plain_set_new _) (wpAny_of_eq (nc_set1 v) (codeAny_builtin PySem.F.entry_set_new ?_))
  rw [Around.under_plainId PySem.F.plain_set_new _]
  have sub := sub_set_self
  obtain ⟨hp, g, d, tk, os⟩ := s
  unfold Builtin.«set.__new__» Builtin.Frozenset.newClass
  dsimp only
  wp_walk
  refine wpAny_askSetting (wpAny_pure ?_)
  dsimp only
  simp only [newObj]
  exact wpAny_bind (wpAny_alloc (wpAny_pure (wpAny_pure h)))
theorem chk_set1 {M : Model} {self v : Value} {Q : Unit → Shared → Prop} (ty : s.TypeIs self "set") (q : Q () s) : wpAny M A (checkBuiltinCall "set.__init__" ⟨[self, v], []⟩) Q E s := by
  unfold checkBuiltinCall
  simp only [kind_set_init, split_set_init, sig_set_init]
  refine wpAny_bind (wpAny_isInstance ty sub_set_self ?_)
  simp only [Bool.not_true, Bool.false_eq_true, ↓reduceIte]
  unfold Bind.checkArgs
  dsimp only
  refine wpAny_bind (m := Bind.printed "set" true _ _) (printed_name (by decide) (wpAny_bind (m := Bind.printed "*" false _ _) (printed_star (self := self) rfl ty fun sh => ?_)))
  have e1 : (if (Manifest.Receiver.self == Manifest.Receiver.none) = true then [self, v].length else [self, v].length - 1) = 1 := rfl
  rw [e1, List.map_nil, show Bind.check ⟨.positional, "set", "*", .self, [⟨"iterable", .posOnly, false⟩]⟩ "set" sh 1 [] = pure () from by kernel_rfl]
  exact wpAny_pure q
theorem any_no {M : Model} {p : Addr} {Q : Bool → Shared → Prop} (tp : s.TypeIs (.ref p) "tuple") (q : Q false s) : wpAny M A (isInstance (.ref p) (.type "set") <||> isInstance (.ref p) (.type "frozenset")) Q E s := by
  unfold orM
  exact wpAny_bind (wpAny_isInstance tp tup_no_set (wpAny_isInstance tp tup_no_frz q))
theorem init_set1 {a p : Addr} {its : Array Value} {ns : List Str} {K : Fin → Shared → Prop} (hh : A.handled = none) (g0 : s.heap.get? a = some (sob w)) (hp : s.heap.IsTuple p its) (ne : a ≠ p) (hv : PyProof.Rows.StrsAre its.toList ns) (hb : ns.length < scanBound)
    (h : ∀ h' tk ys, (∀ b o, b ≠ a → s.heap.get? b = some o → h'.get? b = some o) → SetX w h' a ys → (∀ y, y ∈ ys ↔ y ∈ ns) → K (.done (.ret .none)) { s with heap := h', toks := tk }) :
    wpAny (model prog w) A (Builtin.«set.__init__» ⟨[.ref a, .ref p], []⟩) K E s := by
  have ty : s.TypeIs (.ref a) "set" := ⟨_, g0, rfl⟩
  have tp : s.TypeIs (.ref p) "tuple" := hp.typeIs
  unfold Builtin.«set.__init__»
  refine wpAny_bind (m := noKeywords _ _) (wpAny_pure ?_)
  dsimp only
  unfold typeNameOfCut shownTypeOf
  refine wpAny_bind (wpAny_bind (wpAny_bind (wpAny_typeOf ty ?_)))
  have e1 : (Value.type "set" == Value.type "builtin_function_or_method") = false := by decide
  simp only [e1, Bool.false_eq_true, ↓reduceIte]
  refine wpAny_pure ?_
  refine wpAny_pure (wpAny_bind (m := checkCount _ 0 1 _) (wpAny_pure (wpAny_bind (m := Builtin.Frozenset.addrOf _) (wpAny_pure (wpAny_bind ?_)))))
  unfold setUsed
  refine wpAny_bind (wpAny_setState_of g0 rfl rfl (wpAny_pure ?_))
  have e2 : ((SetTable.fresh 0 0 (!byText w)).fill != 0) = false := rfl
  dsimp only
  rw [e2]
  simp only [Bool.false_eq_true, ↓reduceIte]
  refine wpAny_bind ?_
  unfold Builtin.Frozenset.updateFrom Builtin.Frozenset.isAnySet
  refine wpAny_bind (any_no tp ?_)
  simp only [Bool.false_eq_true, ↓reduceIte]
  refine wpAny_bind (wpAny_typeOf tp ?_)
  have e3 : (Value.type "tuple" == Value.type "dict") = false := by decide
  simp only [e3, Bool.false_eq_true, ↓reduceIte]
  refine wpAny_bind (wpAny_pyIter_tuple hp (wpAny_bind (wpAny_runValue ?_)))
  obtain ⟨op, ho, hrest⟩ := id hp
  have lp : p < s.heap.objs.size := Heap.lt_size ho
  have la : a < s.heap.objs.size := Heap.lt_size g0
  have hz : its.size = ns.length := by rw [← Array.length_toList]; exact hv.length
  refine uploop (A := A) (Walks.tuple (A := A.in1) hh s.heap.objs.size p (Nat.ne_of_lt lp) its) (ns := ns) hz.symm (by rw [hz]; exact hb) (fun i v q => strs_at hv (by rw [Array.getElem?_toList]; exact q)) a
    (by simp only [List.mem_cons, List.not_mem_nil, or_false, not_or]; exact ⟨Nat.ne_of_lt la, ne⟩) _ 0 _ [] rfl (Nat.zero_le _) ⟨⟨_, Heap.get?_push_size _ rfl, rfl, rfl⟩, hp.push _⟩ (sob_x (Heap.get?_push_of_some _ g0)) (Nat.zero_le _) (fun y => by simp) fun h' tk ys kp X m => ?_
  exact wpAny_pure (wpAny_pure (h h' tk ys (fun b o hb e => kp b o hb (by simp only [List.mem_cons, List.not_mem_nil, or_false]; exact Nat.ne_of_lt (Heap.lt_size e)) (Heap.get?_push_of_some _ e)) X m))
/-- set(t) -/
theorem call_set1 {p : Addr} {its : Array Value} {ns : List Str} {Q : Value → Shared → Prop} (hh : A.handled = none) (hp : s.heap.IsTuple p its) (hv : PyProof.Rows.StrsAre its.toList ns) (hb : ns.length < scanBound)
    (h : ∀ h' tk ys, (∀ b o, s.heap.get? b = some o → h'.get? b = some o) → SetX w h' s.heap.objs.size ys → (∀ y, y ∈ ys ↔ y ∈ ns) → Q (.ref s.heap.objs.size) { s with heap := h', toks := tk }) :
    wpAny (model prog w) A (call (.type "set") [.ref p]) Q E s := by
  obtain ⟨c, tl, hmro⟩ := PySem.F.called_set.mro
  have hmade := PySem.F.called_set.made
  have hsub := PySem.F.called_set.sub
  have h1 := PySem.F.called_set.notType
  have h2 := PySem.F.called_set.canCreate
  have hct := tc_set1 (.ref p)
  refine wpAny_call (codeAny_of_tree (show wpAny _ _ (callAny (.type "set") _) _ _ _ from wpAny_pure ⟨Code.quiet_builtin _ (by decide +kernel), codeAny_builtin PySem.F.entry_type_call ?_⟩))
  rw [Around.under_plain (weight_type_call_type "set" [.ref p] []) rfl]
  repeat (any_goals (first | assumption | wp_step))
  refine codeAny_mono (new_set1 (E := E) (.ref p) (Q1 := fun r s1 => r = .ref s.heap.objs.size ∧ s1 = { s with heap := s.heap.push (sob w) }) ⟨rfl, rfl⟩) fun r s1 hr => ?_
  cases r with
  | error e => exact hr
  | ok fl =>
    cases fl with
    | ret obj =>
      obtain ⟨rfl, rfl⟩ := hr
      have g0 : (s.heap.push (sob w)).get? s.heap.objs.size = some (sob w) := Heap.get?_push_size _ rfl
      have ty : Shared.TypeIs { s with heap := s.heap.push (sob w) } (.ref s.heap.objs.size) "set" := ⟨_, g0, rfl⟩
      have hli := PySem.F.called_set.init.lookup
      have hbi := PySem.F.called_set.init.bind (.ref s.heap.objs.size)
      repeat (any_goals (first | assumption | wp_step))
      refine codeAny_mono (codeAny_call_builtin (R := wants (fun r s2 => r = .none ∧ Q (.ref s.heap.objs.size) s2) E) PySem.F.called_set.init.plain PySem.F.entry_set_init (chk_set1 ty ?_)) fun r2 s2 hr2 => ?_
      · refine init_set1 (A := A.in1.in1) (s := { s with heap := s.heap.push (sob w) }) hh g0 (hp.push _) (Nat.ne_of_gt (Heap.lt_size hp.choose_spec.1)) hv hb fun h' tk ys kp X m => ⟨rfl, h h' tk ys (fun b o e => kp b o (Nat.ne_of_lt (Heap.lt_size e)) (Heap.get?_push_of_some _ e)) X m⟩
      · cases r2 with
        | error e => exact hr2
        | ok f2 =>
          cases f2 with
          | ret r =>
            obtain ⟨rfl, hq⟩ := hr2
            repeat (any_goals (first | assumption | wp_step))
          | _ => exact hr2.elim
    | _ => exact hr.elim
end
end D3

namespace D3
open PySem PySem.Spec PyProof.Rows L2
/-! ### a table laid clean: room enough, so that each finds its place -/
def lcg (n i : Nat) : Nat → Nat
  | 0 => i
  | k + 1 => (lcg n i k * 5 + 1) % n
def Small (m : Nat) : Prop := m = 7 ∨ m = 15 ∨ m = 31
theorem lcg_all {m : Nat} (h : Small m) {i j : Nat} (hi : i ≤ m) (hj : j ≤ m) : ∃ k, k ≤ m ∧ lcg (m + 1) i k = j := by
  have d8 : ∀ i : Fin 8, ∀ j : Fin 8, ∃ k : Fin 8, lcg 8 i.1 k.1 = j.1 := by decide +kernel
  have d16 : ∀ i : Fin 16, ∀ j : Fin 16, ∃ k : Fin 16, lcg 16 i.1 k.1 = j.1 := by decide +kernel
  have d32 : ∀ i : Fin 32, ∀ j : Fin 32, ∃ k : Fin 32, lcg 32 i.1 k.1 = j.1 := by decide +kernel
  rcases h with rfl | rfl | rfl
  · obtain ⟨k, hk⟩ := d8 ⟨i, by omega⟩ ⟨j, by omega⟩
    exact ⟨k.1, by have := k.2; omega, hk⟩
  · obtain ⟨k, hk⟩ := d16 ⟨i, by omega⟩ ⟨j, by omega⟩
    exact ⟨k.1, by have := k.2; omega, hk⟩
  · obtain ⟨k, hk⟩ := d32 ⟨i, by omega⟩ ⟨j, by omega⟩
    exact ⟨k.1, by have := k.2; omega, hk⟩
theorem run_ge (m i : Nat) : i ≤ SetTable.runEnd m i := by unfold SetTable.runEnd; split <;> omega
section
variable {m : Nat} {ow : Array (Option Nat)}
/-- where it is laid there was nothing -/
theorem free_none : ∀ {f i p j : Nat}, SetTable.layClean.free m ow f i p = some j → ow.getD j (some 0) = none
  | 0, i, p, j, h => by cases h
  | f + 1, i, p, j, h => by
    unfold SetTable.layClean.free at h
    split at h
    · rename_i k hk
      cases h
      have := List.find?_some hk
      simpa using this
    · exact free_none h
/-- where nothing is found, all that was looked at is taken -/
theorem free_first {f i p : Nat} (h : SetTable.layClean.free m ow (f + 1) i p = none) : (ow.getD i (some 0)).isSome = true ∧ SetTable.layClean.free m ow f (SetTable.leap m i p).1 (SetTable.leap m i p).2 = none := by
  unfold SetTable.layClean.free at h
  split at h
  · cases h
  · rename_i hk
    refine ⟨?_, h⟩
    have := List.find?_eq_none.mp hk 0 (by rw [List.mem_range]; have := run_ge m i; omega)
    cases q : ow.getD i (some 0) with
    | none => rw [Nat.add_zero, q] at this; simp at this
    | some _ => rfl
theorem free_lcg : ∀ {k f i : Nat}, k < f → SetTable.layClean.free m ow f i 0 = none → (ow.getD (lcg (m + 1) i k) (some 0)).isSome = true ∧ SetTable.layClean.free m ow (f - k) (lcg (m + 1) i k) 0 = none
  | 0, f + 1, i, hk, h => ⟨(free_first h).1, h⟩
  | k + 1, f + 1, i, hk, h => by
    have ih := (free_lcg (k := k) (Nat.lt_of_succ_lt hk) h).2
    obtain ⟨g, e⟩ : ∃ g, f + 1 - k = g + 1 + 1 := ⟨f + 1 - k - 2, by omega⟩
    rw [e] at ih
    have n1 := (free_first ih).2
    have e1 : SetTable.leap m (lcg (m + 1) i k) 0 = (lcg (m + 1) i (k + 1), 0) := rfl
    rw [e1] at n1
    exact ⟨(free_first n1).1, by rw [show f + 1 - (k + 1) = g + 1 by omega]; exact n1⟩
theorem free_some {g i p j : Nat} (hm : Small m) (hp : p < 32 ^ g) (hj : j ≤ m) (hi : i ≤ m) (e : ow.getD j (some 0) = none) : ∃ j', SetTable.layClean.free m ow (m + 2 + g) i p = some j' := by
  induction g generalizing i p with
  | zero =>
    have : p = 0 := by simpa using hp
    subst this
    cases q : SetTable.layClean.free m ow (m + 2 + 0) i 0 with
    | some j' => exact ⟨j', rfl⟩
    | none =>
      obtain ⟨k, hk, ek⟩ := lcg_all hm hi hj
      have := (free_lcg (k := k) (by omega) q).1
      rw [ek, e] at this
      cases this
  | succ g ih =>
    cases q : SetTable.layClean.free m ow (m + 2 + (g + 1)) i p with
    | some j' => exact ⟨j', rfl⟩
    | none =>
      have n1 := (free_first (f := m + 2 + g) q).2
      have hl : (SetTable.leap m i p).1 ≤ m := Nat.le_of_lt_succ (Nat.mod_lt _ (Nat.succ_pos m))
      have hp' : (SetTable.leap m i p).2 < 32 ^ g := by
        show p / 32 < 32 ^ g
        rw [Nat.div_lt_iff_lt_mul (by decide)]
        rwa [Nat.pow_succ] at hp
      obtain ⟨j', e'⟩ := ih hp' hl
      rw [n1] at e'
      cases e'
end
theorem bits_lt (h : Int) : SetTable.bits h < 32 ^ 13 := by
  unfold SetTable.bits
  have h1 : h % (2 ^ 64 : Int) < 2 ^ 64 := Int.emod_lt_of_pos _ (by decide)
  have h2 : 0 ≤ h % (2 ^ 64 : Int) := Int.emod_nonneg _ (by decide)
  generalize h % (2 ^ 64 : Int) = z at *
  have : z.toNat < 2 ^ 64 := by omega
  exact Nat.lt_trans this (by decide)
def inn (ow : Array (Option Nat)) : List Nat := ow.toList.filterMap id
theorem set_perm {k : Nat} : ∀ {l : List (Option Nat)} {j : Nat}, l[j]? = some none → ((l.set j (some k)).filterMap id).Perm (k :: l.filterMap id)
  | [], j, h => by simp at h
  | a :: l, 0, h => by
    cases h
    simp
  | a :: l, j + 1, h => by
    have ih := set_perm (k := k) (l := l) (j := j) (by simpa using h)
    rw [List.set_cons_succ]
    cases a with
    | none => simpa using ih
    | some x =>
      simp only [List.filterMap_cons, id]
      exact (ih.cons x).trans (List.Perm.swap k x _)
theorem inn_len_free {ow : Array (Option Nat)} {m : Nat} (hz : ow.size = m + 1) (hl : (inn ow).length ≤ m) : ∃ j, j ≤ m ∧ ow.getD j (some 0) = none := by
  by_cases hx : ∃ j, j ≤ m ∧ ow.getD j (some 0) = none
  · exact hx
  · exfalso
    have all : ∀ x ∈ ow.toList, x.isSome = true := fun x hx' => by
      obtain ⟨j, hj, e⟩ := List.mem_iff_getElem.mp hx'
      cases q : x with
      | some _ => rfl
      | none =>
        refine absurd ⟨j, ?_, ?_⟩ hx
        · rw [Array.length_toList, hz] at hj; omega
        · rw [Array.length_toList] at hj
          rw [Array.getD_eq_getD_getElem?, Array.getElem?_eq_getElem hj]
          rw [Array.getElem_toList] at e
          rw [e, q]; rfl
    have : (inn ow).length = ow.toList.length := by
      unfold inn
      generalize ow.toList = l at all
      induction l with
      | nil => rfl
      | cons a l ih =>
        have h1 := all a List.mem_cons_self
        cases a with
        | none => cases h1
        | some x => simp [ih fun y hy => all y (List.mem_cons_of_mem _ hy)]
    rw [show ow.toList.length = m + 1 from by rw [Array.length_toList, hz]] at this
    omega
/-- one more is laid -/
theorem lay_step {m k : Nat} {ow : Array (Option Nat)} (hm : Small m) (hz : ow.size = m + 1) (hp : (inn ow).Perm (List.range k)) (hk : k ≤ m) (h : Int) :
    ∃ j, SetTable.layClean.free m ow (SetTable.turns m) (SetTable.bits h % (m + 1)) (SetTable.bits h) = some j ∧ (ow.setIfInBounds j (some k)).size = m + 1 ∧ (inn (ow.setIfInBounds j (some k))).Perm (List.range (k + 1)) := by
  obtain ⟨j0, hj0, e0⟩ := inn_len_free hz (by rw [hp.length_eq, List.length_range]; exact hk)
  obtain ⟨j, e⟩ := free_some (g := 13) hm (bits_lt h) hj0 (Nat.le_of_lt_succ (Nat.mod_lt _ (Nat.succ_pos m))) e0
  have ej := free_none e
  refine ⟨j, e, by rw [Array.size_setIfInBounds, hz], ?_⟩
  unfold inn
  rw [Array.toList_setIfInBounds]
  have hj : ow.toList[j]? = some none := by
    rw [Array.getElem?_toList]
    rw [Array.getD_eq_getD_getElem?] at ej
    cases q : ow[j]? with
    | none => rw [q] at ej; cases ej
    | some x => rw [q] at ej; exact congrArg some ej
  refine (set_perm hj).trans ?_
  rw [List.range_succ]
  exact (hp.cons k).trans (List.perm_append_singleton k _).symm
def layF (m : Nat) (acc : Option (Array (Option Nat) × Nat)) (h : Int) : Option (Array (Option Nat) × Nat) := do
  let (owner, k) ← acc
  let j ← SetTable.layClean.free m owner (SetTable.turns m) (SetTable.bits h % (m + 1)) (SetTable.bits h)
  pure (owner.setIfInBounds j (some k), k + 1)
theorem layF_all {m : Nat} (hm : Small m) : ∀ (l : List Int) {ow : Array (Option Nat)} {k : Nat}, ow.size = m + 1 → (inn ow).Perm (List.range k) → k + l.length ≤ m →
    ∃ ow', l.foldl (layF m) (some (ow, k)) = some (ow', k + l.length) ∧ ow'.size = m + 1 ∧ (inn ow').Perm (List.range (k + l.length))
  | [], ow, k, hz, hp, hk => ⟨ow, rfl, hz, hp⟩
  | h :: l, ow, k, hz, hp, hk => by
    rw [List.length_cons] at hk
    obtain ⟨j, e, z1, p1⟩ := lay_step hm hz hp (by omega) h
    obtain ⟨ow', e2, z2, p2⟩ := layF_all hm l z1 p1 (by omega)
    refine ⟨ow', ?_, z2, ?_⟩
    · rw [List.foldl_cons, show layF m (some (ow, k)) h = some (ow.setIfInBounds j (some k), k + 1) from by simp [layF, e], e2, List.length_cons]
      congr 2; omega
    · rw [List.length_cons, show k + (l.length + 1) = k + 1 + l.length by omega]; exact p2
theorem clean_ok {m : Nat} (hm : Small m) (hs : Array Int) (hz : hs.size ≤ m) : ∃ ow, SetTable.layClean m hs = some ow ∧ ow.size = m + 1 ∧ (inn ow).Perm (List.range hs.size) := by
  obtain ⟨ow, e, z, p⟩ := layF_all hm hs.toList (ow := Array.replicate (m + 1) none) (k := 0) (by simp) (by simp [inn]) (by simpa using hz)
  refine ⟨ow, ?_, z, by simpa using p⟩
  unfold SetTable.layClean
  rw [← Array.foldl_toList]
  show (hs.toList.foldl (layF m) (some (Array.replicate (m + 1) none, 0))).map (·.1) = some ow
  rw [e]; rfl
theorem live_eq {m : Nat} {ow : Array (Option Nat)} (hz : ow.size = m + 1) : ((List.range (m + 1)).filterMap fun j => (ow.getD j none).map (j, ·)).map (·.2) = inn ow := by
  rw [List.map_filterMap, ← hz]
  have : ∀ (l : List (Option Nat)), (List.range l.length).filterMap (fun j => ((l[j]?).getD none)) = l.filterMap id := by
    intro l
    induction l with
    | nil => rfl
    | cons a l ih =>
      rw [List.length_cons, List.range_succ_eq_map, List.filterMap_cons, List.filterMap_map]
      have e : (List.range l.length).filterMap ((fun j => (((a :: l)[j]?).getD none)) ∘ Nat.succ) = (List.range l.length).filterMap (fun j => ((l[j]?).getD none)) := by
        congr 1
      rw [e, ih]
      cases a <;> simp
  rw [inn, ← this ow.toList, Array.length_toList]
  congr 1
  funext j
  rw [Array.getElem?_toList, Array.getD_eq_getD_getElem?]
  cases (ow[j]?.getD none) <;> rfl
theorem laid_ok {m f mv : Nat} {led pl : Bool} (hm : Small m) (hs : Array Int) (hz : hs.size ≤ m) : ∃ t od, SetTable.laid m f mv led pl hs = some (t, od) ∧ od.toList.Perm (List.range hs.size) ∧ t.fits hs.size = true ∧ t.mask = m ∧ t.dummies = #[] ∧ t.led = led ∧ t.plain = pl := by
  obtain ⟨ow, e, z, p⟩ := clean_ok hm hs hz
  have lv := live_eq z
  unfold SetTable.laid
  rw [e]
  refine ⟨_, _, rfl, ?_, ?_, rfl, rfl, rfl, rfl⟩
  · rw [lv]; exact p
  · have hl : (((List.range (m + 1)).filterMap fun j => (ow.getD j none).map (j, ·)).map (·.1)).length = hs.size := by
      rw [List.length_map, ← List.length_map (f := (·.2)), lv, p.length_eq, List.length_range]
    unfold SetTable.fits SetTable.fill
    dsimp only
    rw [List.size_toArray, hl]
    simp; exact hz
end D3

namespace D3
open PySem PySem.Spec PyProof.Rows L2
/-! ### one set of texts laid into another -/
/-- a set whose table is small and has no gaps that were taken out -/
def SetM (w : World) (h : Heap) (a : Addr) (xs : List Str) : Prop := ∃ o es ep t, h.get? a = some o ∧ o.ExactSet ∧ o.data = .set es ep t ∧ Ent w xs es.toList ∧ xs.Nodup ∧ xs.length < scanBound ∧ t.fits es.size = true ∧ t.led = !byText w ∧ (xs = [] ∨ t.plain = false) ∧ Small t.mask ∧ t.dummies = #[]
theorem SetM.x {w : World} {h : Heap} {a : Addr} {xs : List Str} (m : SetM w h a xs) : SetX w h a xs := by
  obtain ⟨o, es, ep, t, h1, h2, h3, h4, h5, h6, h7, h8, h9, _, _⟩ := m
  exact ⟨o, es, ep, t, h1, h2, h3, h4, h5, h6, h7, h8, h9⟩
theorem sob_m {w : World} {h : Heap} {a : Addr} (g : h.get? a = some (sob w)) : SetM w h a [] :=
  ⟨_, #[], 0, _, g, ⟨rfl, rfl, rfl⟩, rfl, rfl, List.nodup_nil, by decide, rfl, rfl, .inl rfl, .inl rfl, rfl⟩
theorem erase_perm {α : Type} : ∀ {l : List α} {i : Nat} (h : i < l.length), (l[i] :: l.eraseIdx i).Perm l
  | [], i, h => by simp at h
  | a :: l, 0, h => .refl _
  | a :: l, i + 1, h => by
    have hi : i < l.length := by simpa using h
    exact (List.Perm.swap a l[i] _).trans ((erase_perm hi).cons a)
theorem pick_go {α : Type} {next : Nat → Nat} : ∀ {f k : Nat} {left : List α} {out : Array α}, left.length = f → (pickOrder.go next f k left out).toList.Perm (out.toList ++ left)
  | 0, k, left, out, h => by
    have : left = [] := List.length_eq_zero_iff.mp h
    subst this
    unfold pickOrder.go
    simp
  | f + 1, k, left, out, h => by
    have hl : next k % left.length < left.length := Nat.mod_lt _ (by omega)
    unfold pickOrder.go
    rw [List.getElem?_eq_getElem hl]
    dsimp only
    refine (pick_go (by rw [List.length_eraseIdx, if_pos hl]; omega)).trans ?_
    rw [Array.toList_push, List.append_assoc]
    exact List.Perm.append_left _ (erase_perm hl)
theorem pick_perm {α : Type} {next : Nat → Nat} {xs : Array α} : (pickOrder next xs).toList.Perm xs.toList := by
  unfold pickOrder
  simpa using pick_go (next := next) (f := xs.size) (k := 0) (left := xs.toList) (out := #[]) rfl
section
variable {prog : Program} {w : World} {A : Around} {E : Value → Shared → Prop} {s : Shared}
theorem byText_ok {Q : Bool → Shared → Prop} (q : Q (byText w) s) : wpAny (model prog w) A setsByText Q E s := by
  unfold setsByText
  exact wpAny_bind (wpAny_askSetting (wpAny_pure q))
theorem store_m (P : Program) {h : Heap} {a : Addr} {o : Obj} {es : Array (Int × Value)} {ep : Nat} {t : SetTable} (ho : h.get? a = some o) (hex : o.ExactSet) (hd : o.data = .set es ep t) {es' : Array (Int × Value)} {t' : SetTable} {xs : List Str}
    (he : Ent w xs es'.toList) (hn : xs.Nodup) (hb : xs.length < scanBound) (hf : t'.fits es'.size = true) (hl : t'.led = !byText w) (hp : xs = [] ∨ t'.plain = false) (hm : Small t'.mask) (hu : t'.dummies = #[]) :
    SetM w (h.update a (Obj.putSet es' t')) a xs :=
  ⟨_, es', ep + 1, t', (store_x P ho hex hd he hn hb hf hl hp).1, hex, rfl, he, hn, hb, hf, hl, hp, hm, hu⟩
theorem above_small {n : Nat} (h : n ≤ 30) : Small (SetTable.sizeAbove n - 1) ∧ n < SetTable.sizeAbove n ∧ SetTable.sizeAbove n ≤ 32 := by
  have d : ∀ i : Fin 31, (SetTable.sizeAbove i.1 - 1 = 7 ∨ SetTable.sizeAbove i.1 - 1 = 15 ∨ SetTable.sizeAbove i.1 - 1 = 31) ∧ i.1 < SetTable.sizeAbove i.1 ∧ SetTable.sizeAbove i.1 ≤ 32 := by decide +kernel
  exact d ⟨n, by omega⟩
def Wide (h : Heap) (a : Addr) (n : Nat) : Prop := ∀ o es ep t, h.get? a = some o → o.data = .set es ep t → n ≤ t.mask
/-- a table made bigger -/
theorem relay_m {a : Addr} {xs : List Str} {n : Nat} {Q : Unit → Shared → Prop} (h : SetM w s.heap a xs) (hn : n ≤ 30) (hx : xs.length ≤ n)
    (q : ∀ h' ys, Heap.SameBut a s.heap h' → SetM w h' a ys → ys.Perm xs → Wide h' a n → Q () { s with heap := h' }) : wpAny (model prog w) A (setRelay a n) Q E s := by
  obtain ⟨o, es, ep, t, ho, hex, hd, he, hnd, hb, hf, hl, hp, hm, hu⟩ := h
  obtain ⟨sm, lt, le⟩ := above_small hn
  have hz : es.size = xs.length := by rw [← Array.length_toList]; exact he.length
  obtain ⟨t2, od, e2, p2, f2, m2, u2, l2, pl2⟩ := laid_ok (f := t.finger) (mv := t.movedTo (SetTable.sizeAbove n - 1)) (led := t.led) (pl := t.plain) sm (es.map (·.1)) (by rw [Array.size_map, hz]; omega)
  rw [Array.size_map] at p2 f2
  have pe : (od.filterMap (es[·]?)).toList.Perm es.toList := by
    rw [Array.toList_filterMap]
    exact (p2.filterMap _).trans (by rw [filterMap_getElem?_range])
  have ze : (od.filterMap (es[·]?)).size = es.size := by rw [← Array.length_toList, pe.length_eq, Array.length_toList]
  obtain ⟨ys, py, ey⟩ := he.perm pe
  have by' : ys.length < scanBound := by rw [py.length_eq]; exact hb
  unfold setRelay
  refine wpAny_bind (wpAny_setState_of ho hd hf ?_)
  dsimp only
  rw [if_neg (by rw [sizeLine_eq]; omega)]
  unfold SetTable.relaid
  rw [e2]
  refine wpAny_bind ?_
  show wpAny _ _ (if ((od.filterMap (es[·]?)).size != es.size) = true then _ else _) _ _ _
  rw [if_neg (by rw [ze]; simp)]
  refine wpAny_pure (wpAny_storeSet_of ho hd (q _ ys (Heap.SameBut.update s.heap a _) ?_ py ?_) (by dsimp only; rw [ze, hz]; exact fits_of_scanBound hb))
  · exact store_m prog ho hex hd ey (py.symm.nodup hnd) by' (by rw [ze]; exact f2) (l2.trans hl) (hp.imp (fun e => by subst e; exact py.eq_nil) fun e => pl2.trans e) (by rw [m2]; exact sm) u2
  · intro o' es' ep' t' g1 g2
    rw [(store_x prog ho hex hd ey (py.symm.nodup hnd) by' (by rw [ze]; exact f2) (l2.trans hl) (hp.imp (fun e => by subst e; exact py.eq_nil) fun e => pl2.trans e)).1] at g1
    cases g1
    cases g2
    rw [m2]; omega
/-- room for some more -/
theorem room_m {a : Addr} {xs : List Str} {n : Nat} {Q : Unit → Shared → Prop} (h : SetM w s.heap a xs) (hn : xs.length + n ≤ 15)
    (q : ∀ h' ys, Heap.SameBut a s.heap h' → SetM w h' a ys → ys.Perm xs → Wide h' a n → Q () { s with heap := h' }) : wpAny (model prog w) A (setRoomFor a n) Q E s := by
  obtain ⟨o, es, ep, t, ho, hex, hd, he, hnd, hb, hf, hl, hp, hm, hu⟩ := id h
  have hz : es.size = xs.length := by rw [← Array.length_toList]; exact he.length
  have hpl : t.place.size = es.size := by
    unfold SetTable.fits at hf
    rw [Bool.and_eq_true, beq_iff_eq] at hf
    exact hf.1
  unfold setRoomFor
  refine wpAny_bind (wpAny_setState_of ho hd hf ?_)
  dsimp only
  unfold SetTable.roomFor
  split
  · rename_i k e
    split at e
    · cases e
      exact relay_m h (by rw [hpl, hz]; omega) (by rw [hpl, hz]; omega) fun h' ys r1 r2 r3 r4 => q h' ys r1 r2 r3 fun o' es' ep' t' g1 g2 => Nat.le_trans (by omega) (r4 o' es' ep' t' g1 g2)
    · cases e
  · rename_i e
    refine wpAny_pure (q s.heap xs (Heap.SameBut.refl a s.heap) h (.refl _) fun o' es' ep' t' g1 g2 => ?_)
    rw [ho] at g1
    cases g1
    rw [hd] at g2
    cases g2
    split at e
    · exact (e _ rfl).elim
    · rename_i lt
      omega
/-- the walk that nobody sees -/
theorem quiet_x {a b : Addr} {xs ys : List Str} {Q : Bool → Shared → Prop} (ha : SetX w s.heap a xs) (hb : SetX w s.heap b ys) (q : Q true s) : wpAny (model prog w) A (setsQuiet [a, b]) Q E s := by
  unfold setsQuiet
  refine wpAny_bind (wpAny_forIn_list _ (fun rest c s' => c.1 = none ∧ s' = s ∧ ∀ d ∈ rest, ∃ zs, SetX w s.heap d zs) (fun c s' => wpAny _ A _ Q E s') ?_ ?_ _ _ ⟨rfl, rfl, fun d hd => ?_⟩)
  · rintro d rest c s' ⟨hc, rfl, hr⟩
    obtain ⟨zs, o, es, ep, t, ho, hex, hd, he, _, _, hf, _⟩ := hr d List.mem_cons_self
    refine wpAny_bind (wpAny_setEntries_of ho hd hf (wpAny_bind (PySem.MeetsSeq2.wpAny_forIn_array _ (fun r2 c2 s2 => c2.1 = none ∧ s2 = s' ∧ ∀ e ∈ r2, ∃ x t, e.2 = .str x t) _ ?_ ?_ _ _ ⟨rfl, rfl, fun e he' => ?_⟩)))
    · rintro ⟨hx, v⟩ r2 c2 s2 ⟨h1, rfl, h2⟩
      obtain ⟨x, t', e'⟩ := h2 _ List.mem_cons_self
      have e' : v = .str x t' := e'
      subst e'
      exact wpAny_pure ⟨rfl, rfl, fun e' he'' => h2 e' (List.mem_cons_of_mem _ he'')⟩
    · rintro c2 s2 ⟨h1, rfl, _⟩
      dsimp only
      rw [h1]
      exact wpAny_pure ⟨rfl, rfl, fun d' hd' => hr d' (List.mem_cons_of_mem _ hd')⟩
    · obtain ⟨x, t', _, e'⟩ := he.mem e he'
      exact ⟨x, t', by rw [e']⟩
  · rintro c s' ⟨hc, rfl, _⟩
    dsimp only
    rw [hc]
    exact wpAny_pure q
  · simp only [List.mem_cons, List.not_mem_nil, or_false] at hd
    rcases hd with rfl | rfl
    · exact ⟨xs, ha⟩
    · exact ⟨ys, hb⟩
theorem unseen_x {a b : Addr} {xs ys : List Str} {o : Obj} {es : Array (Int × Value)} {ep : Nat} {t : SetTable} {Q : Array (Int × Value) → Shared → Prop}
    (ha : SetX w s.heap a xs) (nx : xs ≠ []) (hb : SetX w s.heap b ys) (ny : ys ≠ []) (ho : s.heap.get? b = some o) (hd : o.data = .set es ep t)
    (q : ∀ es', es'.toList.Perm es.toList → Q es' s) : wpAny (model prog w) A (setWalkUnseen b [a] (some a)) Q E s := by
  obtain ⟨o', es', ep', t', ho', hex, hd', he, hn, hz, hf, hl, hp⟩ := id hb
  rw [ho] at ho'
  cases ho'
  rw [hd] at hd'
  cases hd'
  have pl : t.plain = false := hp.resolve_left ny
  have walk : (byText w = true ∨ es.size ≤ 1) → wpAny (model prog w) A (setWalk b) Q E s := by
    intro hc
    unfold setWalk
    refine wpAny_bind (wpAny_setState_of ho hd hf (wpAny_bind (byText_ok ?_)))
    cases bt : byText w with
    | true =>
      simp only [↓reduceIte]
      exact wpAny_bind (wpAny_askSetting (wpAny_pure (q _ pick_perm)))
    | false =>
      simp only [Bool.false_eq_true, ↓reduceIte]
      have z1 : es.size ≤ 1 := hc.resolve_left (by rw [bt]; decide)
      have nd : (!t.plain && decide (es.size > 1)) = false := by rw [pl]; simp; omega
      have nl : (!t.led && decide (es.size > 1)) = false := by rw [hl, bt]; rfl
      split
      · rename_i hc'
        have hc' : (!t.plain && decide (es.size > 1)) = true := hc'
        rw [nd] at hc'; cases hc'
      · show wpAny _ _ ((if (!t.led && decide (es.size > 1)) = true then _ else _) >>= _) _ _ _
        rw [nl]
        exact wpAny_bind (wpAny_pure (wpAny_pure (q es (.refl _))))
  unfold setWalkUnseen
  refine wpAny_bind (wpAny_setState_of ho hd hf (wpAny_bind (byText_ok ?_)))
  dsimp only
  split
  · rename_i hc
    rw [pl] at hc
    simp only [Bool.and_false, Bool.or_false, Bool.or_eq_true, decide_eq_true_eq] at hc
    exact walk hc
  · refine wpAny_bind (quiet_x hb ha ?_)
    simp only [Bool.not_true, Bool.false_eq_true, ↓reduceIte]
    obtain ⟨oa, ea, epa, ta, hoa, _, hda, _, _, _, hfa, hla, hpa⟩ := ha
    refine wpAny_bind (wpAny_rule (wpAny_bind (wpAny_setState_of hoa hda hfa ?_)))
    dsimp only
    rw [if_neg (by rw [hpa.resolve_left nx, hla, hl]; cases byText w <;> simp)]
    exact wpAny_pure (q es (.refl _))
/-- the members of one laid into another -/
theorem merge_x {a b : Addr} {xs ys : List Str} {each : Sem Unit} {Q : Unit → Shared → Prop} (ha : SetM w s.heap a xs) (hb : SetX w s.heap b ys) (ne : a ≠ b) (hz : xs.length + ys.length ≤ 15)
    (he : ∀ h' {Q' : Unit → Shared → Prop}, Heap.SameBut a s.heap h' → Q' () { s with heap := h' } → wpAny (model prog w) A each Q' E { s with heap := h' })
    (q : ∀ h' zs, Heap.SameBut a s.heap h' → SetX w h' a zs → (xs = [] → SetM w h' a zs ∧ zs.length = ys.length) → (∀ y, y ∈ zs ↔ y ∈ xs ∨ y ∈ ys) → Q () { s with heap := h' }) :
    wpAny (model prog w) A (setMerge a b each) Q E s := by
  obtain ⟨o, es, ep, t, ho, hex, hd, hen, hn, hbd, hf, hl, hp⟩ := id hb
  have ez : es.size = ys.length := by rw [← Array.length_toList]; exact hen.length
  unfold setMerge
  rw [if_neg (by simpa using ne)]
  refine wpAny_bind (wpAny_setState_of ho hd hf ?_)
  dsimp only
  split
  · rename_i hc
    have y0 : ys = [] := List.length_eq_zero_iff.mp (by rw [← ez]; simpa [Array.isEmpty] using hc)
    subst y0
    exact wpAny_pure (q s.heap xs (Heap.SameBut.refl a s.heap) ha.x (fun e => by subst e; exact ⟨ha, rfl⟩) fun y => by simp)
  · rename_i hc
    have ny : ys ≠ [] := fun e => hc (by subst e; simpa [Array.isEmpty] using ez)
    refine wpAny_bind (room_m ha (by rw [ez]; exact hz) fun h1 xs1 sb1 hm1 p1 wd => ?_)
    have hob : h1.get? b = some o := sb1.extBut b o (Ne.symm ne) ho
    have hb1 : SetX w h1 b ys := hb.kept fun o' e => sb1.extBut b o' (Ne.symm ne) e
    obtain ⟨oa, ea, epa, ta, hoa, hexa, hda, hea, hna, hba, hfa, hla, hpa, hma, hua⟩ := id hm1
    have ezA : ea.size = xs1.length := by rw [← Array.length_toList]; exact hea.length
    have fill : ta.fill = xs1.length := by
      unfold SetTable.fits at hfa
      rw [Bool.and_eq_true, beq_iff_eq] at hfa
      unfold SetTable.fill
      rw [hfa.1, hua, ezA]; rfl
    refine wpAny_bind (wpAny_setState_of (s := { s with heap := h1 }) hoa hda hfa ?_)
    dsimp only
    have pl : t.plain = false := hp.resolve_left ny
    have ll : (ta.led && t.led) = !byText w := by rw [hla, hl, Bool.and_self]
    have lp : (ta.plain && t.plain) = false := by rw [pl, Bool.and_false]
    have wm : ys.length ≤ ta.mask := by rw [← ez]; exact wd oa ea epa ta hoa hda
    have nil1 : xs1.length = 0 → xs = [] := fun e => List.length_eq_zero_iff.mp (by rw [← p1.length_eq]; exact e)
    unfold SetTable.road
    rw [fill]
    by_cases f0 : xs1.length = 0
    · have x0 := nil1 f0
      subst x0
      rw [f0]
      simp only [bne_self_eq_false, Bool.false_eq_true, ↓reduceIte]
      split
      · rename_i e
        split at e
        · rename_i e2
          rw [Bool.and_eq_true, beq_iff_eq] at e2
          have sm := store_m prog hoa hexa hda (t' := { t with finger := ta.finger, led := ta.led && t.led, moves := ta.moves, plain := ta.plain && t.plain }) hen hn hbd hf ll (.inr lp) (by show Small t.mask; rw [← e2.1]; exact hma) (by simpa [Array.isEmpty] using e2.2)
          exact wpAny_storeSet_of (s := { s with heap := h1 }) hoa hda (q _ ys (sb1.trans (Heap.SameBut.update _ a _)) sm.x (fun _ => ⟨sm, rfl⟩) fun y => by simp) (fits_of_scanBound (by rw [ez]; exact hbd))
        · cases e
      · rename_i e
        obtain ⟨t2, od, e2, p2, f2, m2, u2, l2, pl2⟩ := laid_ok (f := ta.finger) (mv := ta.moves) (led := ta.led && t.led) (pl := ta.plain && t.plain) hma (es.map (·.1)) (by rw [Array.size_map, ez]; exact wm)
        rw [Array.size_map] at p2 f2
        have pe : (od.filterMap (es[·]?)).toList.Perm es.toList := by
          rw [Array.toList_filterMap]
          exact (p2.filterMap _).trans (by rw [filterMap_getElem?_range])
        have ze : (od.filterMap (es[·]?)).size = es.size := by rw [← Array.length_toList, pe.length_eq, Array.length_toList]
        obtain ⟨zs, py, ey⟩ := hen.perm pe
        rw [e2]
        refine wpAny_bind ?_
        show wpAny _ _ (if ((od.filterMap (es[·]?)).size != es.size) = true then _ else _) _ _ _
        rw [if_neg (by rw [ze]; simp)]
        have sm := store_m prog hoa hexa hda (t' := t2) ey (py.symm.nodup hn) (by rw [py.length_eq]; exact hbd) (by rw [ze]; exact f2) (l2.trans ll) (.inr (pl2.trans lp)) (by rw [m2]; exact hma) u2
        exact wpAny_pure (wpAny_storeSet_of (s := { s with heap := h1 }) hoa hda (q _ zs (sb1.trans (Heap.SameBut.update _ a _)) sm.x (fun _ => ⟨sm, py.length_eq⟩) fun y => by simp [py.mem_iff]) (by dsimp only; rw [ze]; exact fits_of_scanBound (by rw [ez]; exact hbd)))
      · rename_i e
        split at e <;> cases e
    · have n1 : xs1 ≠ [] := fun e => f0 (by rw [e]; rfl)
      have nx : xs ≠ [] := fun e => by subst e; exact n1 p1.eq_nil
      rw [if_pos (by simpa using f0)]
      dsimp only
      refine wpAny_bind (unseen_x (s := { s with heap := h1 }) hm1.x n1 hb1 ny hob hd fun es' pe => ?_)
      obtain ⟨ds, pd, ed⟩ := hen.perm pe
      refine wpAny_bind (PySem.MeetsSeq2.wpAny_forIn_array _ (fun rest _ s' => ∃ h' zs ds, s' = { s with heap := h' } ∧ Heap.SameBut a s.heap h' ∧ SetX w h' a zs ∧ Ent w ds rest ∧ (∀ y, (y ∈ zs ∨ y ∈ ds) ↔ (y ∈ xs ∨ y ∈ ys)) ∧ zs.length + ds.length ≤ 15) _ ?_ ?_ _ _ ⟨h1, xs1, ds, rfl, sb1, hm1.x, ed, fun y => by rw [p1.mem_iff, pd.mem_iff], by rw [p1.length_eq, pd.length_eq]; exact hz⟩)
      · rintro x rest u s' ⟨h', zs, ds, rfl, sb, X, en, mm, zz⟩
        cases ds with
        | nil => cases (show x :: rest = [] from en)
        | cons y ds =>
          obtain ⟨tk, r, e1, en⟩ := en
          cases e1
          rw [List.length_cons] at zz
          refine wpAny_bind (wpAny_holding (add_x (s := { s with heap := h' }) X (Nat.lt_of_le_of_lt (m := 15) (by omega) (by decide)) fun h2 zs2 sb2 X2 pm => ?_))
          have sb3 := sb.trans sb2
          refine wpAny_bind (he h2 sb3 (wpAny_bind (wpAny_setState_of (s := { s with heap := h2 }) (sb3.extBut b o (Ne.symm ne) ho) hd hf ?_)))
          simp only [bne_self_eq_false, Bool.false_eq_true, ↓reduceIte]
          refine wpAny_pure ⟨h2, zs2, ds, rfl, sb3, X2, en, fun v => ?_, ?_⟩
          · rw [← mm v, pm.mem_iff]
            split
            · rename_i hy
              simp only [List.mem_cons]
              exact ⟨fun h => h.imp id .inr, fun h => h.elim .inl fun h => h.elim (fun e => .inl (e ▸ hy)) .inr⟩
            · simp only [List.mem_append, List.mem_cons, List.not_mem_nil, or_false]
              exact or_assoc
          · rw [pm.length_eq]
            split
            · omega
            · rw [List.length_append]; simp; omega
      · rintro u s' ⟨h', zs, ds, rfl, sb, X, en, mm, zz⟩
        have d0 : ds = [] := List.length_eq_zero_iff.mp (by rw [← en.length]; rfl)
        subst d0
        exact wpAny_pure (q h' zs sb X (fun e => absurd e nx) fun y => by rw [← mm y]; simp)
end
end D3

namespace D3
open PySem PySem.Spec PyProof.Rows L2
/-! ### a | b -/
theorem ent_or : entryFor table "set.__or__" = some Builtin.«frozenset.__or__» := entryFor_alias (id' := "frozenset.__or__") (by kernel_rfl) rfl (by decide +kernel) (by kernel_rfl)
theorem SetX.ty {w : World} {s : Shared} {a : Addr} {xs : List Str} (x : SetX w s.heap a xs) : s.TypeIs (.ref a) "set" := by
  obtain ⟨o, es, ep, t, ho, hex, r⟩ := x
  exact ⟨o, ho, hex.1⟩
section
variable {prog : Program} {w : World} {A : Around} {E : Value → Shared → Prop} {s : Shared}
theorem any_yes {M : Model} {p : Addr} {Q : Bool → Shared → Prop} (tp : s.TypeIs (.ref p) "set") (q : Q true s) : wpAny M A (Builtin.Frozenset.isAnySet (.ref p)) Q E s := by
  unfold Builtin.Frozenset.isAnySet orM
  exact wpAny_bind (wpAny_isInstance tp sub_set_self (wpAny_pure q))
theorem newSet_x {Q : Value → Shared → Prop} (q : Q (.ref s.heap.objs.size) { s with heap := s.heap.push (sob w) }) : wpAny (model prog w) A (newSet (.type "set")) Q E s := by
  unfold newSet
  refine wpAny_bind (byText_ok ?_)
  dsimp only
  simp only [newObj]
  exact wpAny_bind (wpAny_alloc (wpAny_pure q))
theorem epoch_x {a : Addr} {xs : List Str} {Q : Nat → Shared → Prop} (h : SetX w s.heap a xs) (q : ∀ n, (∀ o es ep t, s.heap.get? a = some o → o.data = .set es ep t → n = ep) → Q n s) : wpAny (model prog w) A (setEpoch a) Q E s := by
  obtain ⟨o, es, ep, t, ho, hex, hd, he, hn, hb, hf, hl, hp⟩ := h
  exact wpAny_setEpoch_of ho hd hf (q ep fun o' es' ep' t' e1 e2 => by rw [ho] at e1; cases e1; rw [hd] at e2; cases e2; rfl)
theorem or_x {a b : Addr} {xs ys : List Str} {Q : Value → Shared → Prop} (ha : SetX w s.heap a xs) (hb : SetX w s.heap b ys) (ne : a ≠ b) (hz : xs.length + ys.length ≤ 15)
    (h : ∀ h' zs, (∀ c o, s.heap.get? c = some o → h'.get? c = some o) → SetX w h' s.heap.objs.size zs → (∀ y, y ∈ zs ↔ y ∈ xs ∨ y ∈ ys) → Q (.ref s.heap.objs.size) { s with heap := h' }) :
    wpAny (model prog w) A (binaryOp .BitOr (.ref a) (.ref b)) Q E s := by
  have la := ha.there
  have lb := hb.there
  refine wpAny_binaryOp_same ha.ty hb.ty PySem.F.fills_set_or PySem.F.slot_set_or (wpAny_call_entry PySem.F.slot_set_or ha.ty ent_or ?_ (PySem.F.args_set_or_2 _ _))
  unfold Builtin.«frozenset.__or__»
  show wpAny _ _ (Builtin.Frozenset.slot1 "__or__" _ >>= _) _ _ _
  refine wpAny_bind (m := Builtin.Frozenset.slot1 _ _) (wpAny_pure ?_)
  show wpAny _ _ (andM (Builtin.Frozenset.isAnySet (.ref a)) (Builtin.Frozenset.isAnySet (.ref b)) >>= _) _ _ _
  unfold andM
  refine wpAny_bind (wpAny_bind (any_yes ha.ty (any_yes hb.ty ?_)))
  simp only [Bool.not_true, Bool.false_eq_true, ↓reduceIte]
  refine wpAny_bind (m := Builtin.Frozenset.addrOf _) (wpAny_pure (wpAny_bind ?_))
  show wpAny _ _ (Builtin.Frozenset.copyOf a >>= _) _ _ _
  unfold Builtin.Frozenset.copyOf Builtin.Frozenset.baseOf
  refine wpAny_bind (wpAny_bind (wpAny_bind (wpAny_isInstance ha.ty sub_set_self (wpAny_pure ?_))))
  simp only [↓reduceIte]
  refine wpAny_bind (newSet_x (wpAny_bind (m := Builtin.Frozenset.addrOf _) (wpAny_pure (wpAny_bind ?_))))
  have g0 : (s.heap.push (sob w)).get? s.heap.objs.size = some (sob w) := Heap.get?_push_size _ rfl
  refine merge_x (s := { s with heap := s.heap.push (sob w) }) (sob_m g0) (ha.kept fun o e => Heap.get?_push_of_some _ e) (Nat.ne_of_gt la) (by simp; omega) (fun h' Q' _ q => wpAny_pure q) fun h1 zs sb1 X1 m1 mm1 => ?_
  obtain ⟨m1, lz⟩ := m1 rfl
  refine wpAny_pure ?_
  have nb : (Value.ref b != Value.ref a) = true := by simpa using Ne.symm ne
  rw [if_pos nb]
  have hb1 : SetX w h1 b ys := hb.kept fun o e => sb1.extBut b o (Nat.ne_of_lt lb) (Heap.get?_push_of_some _ e)
  refine wpAny_bind (m := Builtin.Frozenset.addrOf _) (wpAny_pure (wpAny_bind (wpAny_holding ?_)))
  unfold Builtin.Frozenset.updateFrom
  refine wpAny_bind (any_yes (s := { s with heap := h1 }) hb1.ty ?_)
  simp only [↓reduceIte]
  refine wpAny_bind (m := Builtin.Frozenset.addrOf _) (wpAny_pure ?_)
  unfold Builtin.Frozenset.merge
  refine wpAny_bind (epoch_x (s := { s with heap := h1 }) hb1 fun n hn => ?_)
  refine merge_x (s := { s with heap := h1 }) m1 hb1 (Nat.ne_of_gt lb) (by rw [lz]; exact hz) (fun h' Q' sb q => ?_) fun h2 us sb2 X2 _ mm2 => ?_
  · unfold Builtin.Frozenset.unchanged
    have kb : ∀ o, h1.get? b = some o → h'.get? b = some o := fun o e => sb.extBut b o (Nat.ne_of_lt lb) e
    refine wpAny_bind (epoch_x (s := { s with heap := h' }) (hb1.kept kb) fun k hk => ?_)
    obtain ⟨o, es, ep, t, ho, _, hd, _⟩ := hb1
    have e1 : n = ep := hn o es ep t ho hd
    have e2 : k = ep := hk o es ep t (kb o ho) hd
    rw [e1, e2]
    simp only [bne_self_eq_false, Bool.false_eq_true, ↓reduceIte]
    exact wpAny_pure q
  · refine wpAny_pure (wpAny_pure ⟨_, rfl, (by intro e; cases e), h h2 us (fun c o e => sb2.extBut c o (Nat.ne_of_lt (Heap.lt_size e)) (sb1.extBut c o (Nat.ne_of_lt (Heap.lt_size e)) (Heap.get?_push_of_some _ e))) X2 fun y => ?_⟩)
    rw [mm2, mm1]
    simp
end
end D3

namespace D3
open PySem PySem.Spec PyProof.Rows L2
/-! ### walking over a set of texts -/
theorem slot_nxt : Slot "set_iterator" "__next__" "set_iterator.__next__" := .of (owner := "set_iterator") (n := "__next__") (by rw [typeLookup_type, builtinLookup_eq_fast]; kernel_rfl) (by decide +kernel) (by decide +kernel) (by decide +kernel) (by first | exact .inl (by decide +kernel) | exact .inr (by decide +kernel)) (by rw [isSubtype_type]; kernel_rfl)
theorem ent_nxt : entryFor table "set_iterator.__next__" = some Builtin.«set_iterator.__next__» := entryFor_of_tree (by kernel_rfl)
theorem own_sit : Manifest.owners.lookup (String.ofList "rotareti_tes".toList.reverse) = some Manifest.sig_set_iterator := by kernel_rfl
theorem arg_nxt (a : Value) : argsOk "set_iterator.__next__" ⟨[a], []⟩ := by
  unfold argsOk; rw [signature?_of (id := "set_iterator.__next__") (n := "__txen__".toList) (o := "rotareti_tes".toList) (by kernel_rfl) own_sit]; kernel_rfl
theorem slot_sii : Slot "set_iterator" "__iter__" "set_iterator.__iter__" := .of (owner := "set_iterator") (n := "__iter__") (by rw [typeLookup_type, builtinLookup_eq_fast]; kernel_rfl) (by decide +kernel) (by decide +kernel) (by decide +kernel) (by first | exact .inl (by decide +kernel) | exact .inr (by decide +kernel)) (by rw [isSubtype_type]; kernel_rfl)
theorem arg_sii (a : Value) : argsOk "set_iterator.__iter__" ⟨[a], []⟩ := by
  unfold argsOk; rw [signature?_of (id := "set_iterator.__iter__") (n := "__reti__".toList) (o := "rotareti_tes".toList) (by kernel_rfl) own_sit]; kernel_rfl
theorem ent_iter : entryFor table "set.__iter__" = some Builtin.«frozenset.__iter__» := entryFor_alias (id' := "frozenset.__iter__") (by kernel_rfl) rfl (by decide +kernel) (by kernel_rfl)
theorem ent_sii : entryFor table "set_iterator.__iter__" = some Builtin.«dict_keyiterator.__iter__» := entryFor_alias (id' := "dict_keyiterator.__iter__") (by kernel_rfl) rfl (by decide +kernel) (by kernel_rfl)
/-- the walk at I over the set at a: its first field, how many were given -/
def SIt (h : Heap) (I a : Addr) (f : Value) (i n ep : Nat) : Prop := ∃ o, h.get? I = some o ∧ o.cls = .type "set_iterator" ∧ o.data = .fields #[f, .int i 0, .ref a, .int n 0, .int ep 0]
theorem SIt.ty {s : Shared} {I a : Addr} {f : Value} {i n ep : Nat} (x : SIt s.heap I a f i n ep) : s.TypeIs (.ref I) "set_iterator" := let ⟨o, h1, h2, _⟩ := x; ⟨o, h1, h2⟩
theorem SIt.at {h h' : Heap} {I a : Addr} {f : Value} {i n ep : Nat} (x : SIt h I a f i n ep) (k : ∀ o, h.get? I = some o → h'.get? I = some o) : SIt h' I a f i n ep := let ⟨o, h1, r⟩ := x; ⟨o, k o h1, r⟩
section
variable {prog : Program} {w : World} {A : Around} {E : Value → Shared → Prop} {s : Shared} {I a : Addr} {i n ep : Nat} {o : Obj} {es : Array (Int × Value)} {t : SetTable}
theorem sit_self {f : Value} {Q : Value → Shared → Prop} (x : SIt s.heap I a f i n ep) (q : Q (.ref I) s) : wpAny (model prog w) A (pyIter (.ref I)) Q E s := by
  refine wpAny_pyIter_slot x.ty slot_sii (wpAny_call_entry slot_sii x.ty ent_sii ?_ (arg_sii _))
  show wpAny _ _ (ret (.ref I)) _ _ s
  exact wpAny_pure ⟨_, rfl, "set_iterator", _, x.ty, slot_nxt.lookup, q⟩
/-- a place moved on, and how many were given -/
theorem sit_set {β : Type} {m : Sem β} {f f' : Value} {o : Obj} (h0 : s.heap.get? I = some o) (hc : o.cls = .type "set_iterator") (hd : o.data = .fields #[f, .int i 0, .ref a, .int n 0, .int ep 0]) {Q : β → Shared → Prop}
    (q : ∀ h', Heap.SameBut I s.heap h' → SIt h' I a f' (i + 1) n ep → wpAny (model prog w) A m Q E { s with heap := h' }) : wpAny (model prog w) A (do setField (.ref I) 0 f'; setField (.ref I) 1 (rawInt (i + 1)); m) Q E s := by
  refine wpAny_bind (wpAny_setField h0 hd (by simp) ?_)
  have g1 := Heap.get?_update_self (Obj.mapFields (·.setIfInBounds 0 f')) h0 (Obj.isFreed_of_fields (Obj.data_mapFields hd _))
  have d1 := Obj.data_mapFields hd (·.setIfInBounds 0 f')
  refine wpAny_bind (wpAny_setField (s := { s with heap := s.heap.update I (Obj.mapFields (·.setIfInBounds 0 f')) }) g1 d1 (by simp) (q _ ((Heap.SameBut.update _ I _).trans (Heap.SameBut.update _ I _)) ?_))
  refine ⟨_, Heap.get?_update_self _ g1 (Obj.isFreed_of_fields (Obj.data_mapFields d1 _)), (Obj.cls_mapFields ..).trans ((Obj.cls_mapFields ..).trans hc), ?_⟩
  rw [Obj.data_mapFields d1]; simp [rawInt]
theorem sit_set1 {f : Value} {o : Obj} (h0 : s.heap.get? I = some o) (hc : o.cls = .type "set_iterator") (hd : o.data = .fields #[f, .int i 0, .ref a, .int n 0, .int ep 0]) {Q : Unit → Shared → Prop}
    (q : ∀ h', Heap.SameBut I s.heap h' → SIt h' I a f (i + 1) n ep → Q () { s with heap := h' }) : wpAny (model prog w) A (setField (.ref I) 1 (rawInt (i + 1))) Q E s := by
  refine wpAny_setField h0 hd (by simp) (q _ (Heap.SameBut.update _ I _) ⟨_, Heap.get?_update_self _ h0 (Obj.isFreed_of_fields (Obj.data_mapFields hd _)), (Obj.cls_mapFields ..).trans hc, ?_⟩)
  rw [Obj.data_mapFields hd]; simp [rawInt]
/-- the end of a walk -/
theorem stop_x {P : PySem.Fin → Shared → Prop} {Q : Option Value → Shared → Prop} (hh : A.handled = none) (q : ∀ h', (∀ b o, s.heap.get? b = some o → h'.get? b = some o) → Q none { s with heap := h' }) :
    wpAny (model prog w) A.in1 (do let e ← newExc (.type "StopIteration") []; raiseNew e) P (fun e s' => wpAny (model prog w) A (do let c ← isInstance e (.type "StopIteration"); if c = true then pure none else throw e) Q E s') s := by
  refine wpAny_bind ?_
  simp only [newExc, newTuple]
  refine wpAny_bind (wpAny_newObj_type (wpAny_bind (m := firstArgMember _ _) (wpAny_of_eq (a := Value.none) (by first | rfl | (simp only [firstArgMember]; rfl)) (wpAny_newObj_type ?_ (by size_fits)))) (by size_fits))
  simp only [raiseNew]
  refine wpAny_bind (wpAny_handled ?_)
  rw [show A.in1.handled = none from hh]
  refine wpAny_bind (wpAny_pure (wpAny_throw (wpAny_bind ?_)))
  exact wpAny_isInstance (T := "StopIteration") (b := true) ⟨_, Heap.get?_push_size _ rfl, rfl⟩ isSubtype_stop (wpAny_pure (q _ fun b o e => Heap.get?_push_of_some _ (Heap.get?_push_of_some _ e)))
/-- by a number: the next one -/
theorem nxt_int {k k' : Nat} {x : Value} {Q : Option Value → Shared → Prop} (X : SIt s.heap I a (.int k 0) i es.size ep) (ho : s.heap.get? a = some o) (hd : o.data = .set es ep t) (hf : t.fits es.size = true)
    (hn : ∀ {A' : Around} {E' : Value → Shared → Prop} {Q' : Option (Value × Nat) → Shared → Prop}, Q' (some (x, k')) s → wpAny (model prog w) A' (setNext a k i ep) Q' E' s)
    (q : ∀ h', Heap.SameBut I s.heap h' → SIt h' I a (.int k' 0) (i + 1) es.size ep → Q (some x) { s with heap := h' }) : wpAny (model prog w) A (pyNext (.ref I)) Q E s := by
  obtain ⟨oI, h0, hc, hdI⟩ := id X
  unfold pyNext
  refine wpAny_bind (wpAny_attempt (wpAny_callSpecial?_slot (name := Str.ofString "__next__") X.ty slot_nxt (wpAny_call_entry slot_nxt X.ty ent_nxt ?_ (arg_nxt _))))
  unfold Builtin.«set_iterator.__next__»
  refine wpAny_bind (m := slotArgs _ _ _) (wpAny_pure (wpAny_bind (wpAny_fieldsOf h0 hdI ?_)))
  dsimp only
  refine wpAny_bind (wpAny_setEntries_of ho hd hf ?_)
  simp only [bne_self_eq_false, Bool.false_eq_true, ↓reduceIte, Int.toNat_natCast]
  refine wpAny_bind (hn ?_)
  dsimp only
  exact sit_set h0 hc hdI fun h' sb X' => wpAny_pure ⟨_, rfl, wpAny_pure (q h' sb X')⟩
theorem nxt_int_end {k : Nat} {Q : Option Value → Shared → Prop} (hh : A.handled = none) (X : SIt s.heap I a (.int k 0) i es.size ep) (ho : s.heap.get? a = some o) (hd : o.data = .set es ep t) (hf : t.fits es.size = true)
    (hn : ∀ {A' : Around} {E' : Value → Shared → Prop} {Q' : Option (Value × Nat) → Shared → Prop}, Q' none s → wpAny (model prog w) A' (setNext a k i ep) Q' E' s)
    (q : ∀ h', (∀ b o, b ≠ I → s.heap.get? b = some o → h'.get? b = some o) → Q none { s with heap := h' }) : wpAny (model prog w) A (pyNext (.ref I)) Q E s := by
  obtain ⟨oI, h0, hc, hdI⟩ := id X
  unfold pyNext
  refine wpAny_bind (wpAny_attempt (wpAny_callSpecial?_slot (name := Str.ofString "__next__") X.ty slot_nxt (wpAny_call_entry slot_nxt X.ty ent_nxt ?_ (arg_nxt _))))
  unfold Builtin.«set_iterator.__next__»
  refine wpAny_bind (m := slotArgs _ _ _) (wpAny_pure (wpAny_bind (wpAny_fieldsOf h0 hdI ?_)))
  dsimp only
  refine wpAny_bind (wpAny_setEntries_of ho hd hf ?_)
  simp only [bne_self_eq_false, Bool.false_eq_true, ↓reduceIte, Int.toNat_natCast]
  refine wpAny_bind (hn ?_)
  dsimp only
  refine wpAny_bind (wpAny_setField h0 hdI (by simp) (stop_x hh fun h' k' => q h' fun b o' nb e => k' b o' ?_))
  exact (Heap.SameBut.update s.heap I _).extBut b o' nb e
/-- by places that were drawn: the next one -/
theorem nxt_ref {tp : Addr} {ps : Array Value} {p : Nat} {u : Tok} {hx : Int} {x : Value} {Q : Option Value → Shared → Prop} (X : SIt s.heap I a (.ref tp) i es.size ep) (ht : s.heap.IsTuple tp ps) (hp : ps[i]? = some (.int p u)) (ho : s.heap.get? a = some o) (hd : o.data = .set es ep t) (hf : t.fits es.size = true)
    (hx : es[p]? = some (hx, x)) (q : ∀ h', Heap.SameBut I s.heap h' → SIt h' I a (.ref tp) (i + 1) es.size ep → Q (some x) { s with heap := h' }) : wpAny (model prog w) A (pyNext (.ref I)) Q E s := by
  obtain ⟨oI, h0, hc, hdI⟩ := id X
  obtain ⟨ot, hot, hct, nt, hdt⟩ := ht
  unfold pyNext
  refine wpAny_bind (wpAny_attempt (wpAny_callSpecial?_slot (name := Str.ofString "__next__") X.ty slot_nxt (wpAny_call_entry slot_nxt X.ty ent_nxt ?_ (arg_nxt _))))
  unfold Builtin.«set_iterator.__next__»
  refine wpAny_bind (m := slotArgs _ _ _) (wpAny_pure (wpAny_bind (wpAny_fieldsOf h0 hdI ?_)))
  dsimp only
  refine wpAny_bind (wpAny_setEntries_of ho hd hf ?_)
  simp only [bne_self_eq_false, Bool.false_eq_true, ↓reduceIte, Int.toNat_natCast]
  refine wpAny_bind (wpAny_seqItems hot hdt ?_)
  dsimp only
  rw [hp]
  dsimp only
  unfold setNextDrawn
  refine wpAny_bind (wpAny_bind (wpAny_setState_of ho hd hf ?_))
  simp only [bne_self_eq_false, Bool.false_eq_true, ↓reduceIte, Int.toNat_natCast, hx]
  refine wpAny_pure (wpAny_bind (sit_set1 h0 hc hdI fun h' sb X' => wpAny_pure ⟨_, rfl, wpAny_pure (q h' sb X')⟩))
theorem nxt_ref_end {tp : Addr} {ps : Array Value} {Q : Option Value → Shared → Prop} (hh : A.handled = none) (X : SIt s.heap I a (.ref tp) i es.size ep) (ht : s.heap.IsTuple tp ps) (hp : ps[i]? = none) (ho : s.heap.get? a = some o) (hd : o.data = .set es ep t) (hf : t.fits es.size = true)
    (q : ∀ h', (∀ b o, b ≠ I → s.heap.get? b = some o → h'.get? b = some o) → Q none { s with heap := h' }) : wpAny (model prog w) A (pyNext (.ref I)) Q E s := by
  obtain ⟨oI, h0, hc, hdI⟩ := id X
  obtain ⟨ot, hot, hct, nt, hdt⟩ := ht
  unfold pyNext
  refine wpAny_bind (wpAny_attempt (wpAny_callSpecial?_slot (name := Str.ofString "__next__") X.ty slot_nxt (wpAny_call_entry slot_nxt X.ty ent_nxt ?_ (arg_nxt _))))
  unfold Builtin.«set_iterator.__next__»
  refine wpAny_bind (m := slotArgs _ _ _) (wpAny_pure (wpAny_bind (wpAny_fieldsOf h0 hdI ?_)))
  dsimp only
  refine wpAny_bind (wpAny_setEntries_of ho hd hf ?_)
  simp only [bne_self_eq_false, Bool.false_eq_true, ↓reduceIte, Int.toNat_natCast]
  refine wpAny_bind (wpAny_seqItems hot hdt ?_)
  dsimp only
  rw [hp]
  dsimp only
  refine wpAny_bind (wpAny_setField h0 hdI (by simp) ?_)
  have g1 := Heap.get?_update_self (Obj.mapFields (·.setIfInBounds 0 (rawInt 0))) h0 (Obj.isFreed_of_fields (Obj.data_mapFields hdI _))
  have d1 := Obj.data_mapFields hdI (·.setIfInBounds 0 (rawInt 0))
  refine wpAny_bind (wpAny_setField (s := { s with heap := s.heap.update I (Obj.mapFields (·.setIfInBounds 0 (rawInt 0))) }) g1 d1 (by simp) (stop_x hh fun h' k' => q h' fun b o' nb e => k' b o' ?_))
  exact (Heap.SameBut.update _ I _).extBut b o' nb ((Heap.SameBut.update s.heap I _).extBut b o' nb e)
end
end D3

namespace D3
open PySem PySem.Spec PyProof.Rows L2
section
variable {prog : Program} {w : World} {A : Around} {E : Value → Shared → Prop} {s : Shared}
theorem choose_x {M : Model} {src : Source} {n : Nat} {Q : Nat → Shared → Prop} (hn : n ≠ 0) (h : ∀ i, i < n → Q i { s with drawn := s.drawn.bump src }) : wpAny M A (choose src n) Q E s :=
  fun _ _ _ => ⟨hn, h _ (Nat.mod_lt _ (Nat.pos_of_ne_zero hn))⟩
theorem draw_x {M : Model} {α : Type} : ∀ {n : Nat} {l : List α} {s : Shared} {Q : List α → Shared → Prop}, l.length = n → (∀ d l', l'.Perm l → Q l' { s with drawn := d }) → wpAny M A (drawOrder n l) Q E s
  | 0, l, s, Q, hl, h => by
    have : l = [] := List.length_eq_zero_iff.mp hl
    subst this
    unfold drawOrder
    exact wpAny_pure (h s.drawn [] (.refl _))
  | n + 1, [], s, Q, hl, h => by cases hl
  | n + 1, x :: l, s, Q, hl, h => by
    unfold drawOrder
    refine wpAny_bind (choose_x (by simp) fun i hi => ?_)
    rw [List.getElem?_eq_getElem hi]
    dsimp only
    refine wpAny_bind (draw_x (by rw [List.length_eraseIdx, if_pos hi]; omega) fun d l' p => wpAny_pure (h d _ ?_))
    exact (p.cons _).trans (erase_perm hi)
variable {I a : Addr} {ep : Nat} {o : Obj} {es : Array (Int × Value)} {t : SetTable}
/-- by the text's order -/
theorem walk_t (hh : A.handled = none) (hne : a ≠ I) (hd : o.data = .set es ep t) (hf : t.fits es.size = true) (bt : byText w = true) :
    Walks prog w A I [I, a] [I] es.size (fun i v => ((pickOrder (w.params.setOrder a ep) es).map (·.2))[i]? = some v) (fun i h => SIt h I a (.int (0 : Nat) 0) i es.size ep ∧ h.get? a = some o) where
  sub := fun b hb => by simp at hb; simp [hb]
  frame := fun _ _ _ st hk => ⟨st.1.at fun o e => hk I (by simp) o e, hk a (by simp) o st.2⟩
  item := fun i s Q E hi st hQ => by
    have hz : (pickOrder (w.params.setOrder a ep) es).size = es.size := by rw [← Array.length_toList, pick_perm.length_eq, Array.length_toList]
    have hx : (pickOrder (w.params.setOrder a ep) es)[i]? = some (pickOrder (w.params.setOrder a ep) es)[i] := Array.getElem?_eq_getElem (by rw [hz]; exact hi)
    refine nxt_int (k := 0) (k' := 0) st.1 st.2 hd hf (x := ((pickOrder (w.params.setOrder a ep) es)[i]).2) (fun {A' E' Q'} q => ?_) fun h' sb X' => ?_
    · unfold setNext setWalk
      refine wpAny_bind (wpAny_setState_of st.2 hd hf (wpAny_bind (byText_ok ?_)))
      simp only [bt, ↓reduceIte, bne_self_eq_false, Bool.false_eq_true]
      refine wpAny_bind (wpAny_bind (wpAny_setState_of st.2 hd hf (wpAny_bind (byText_ok ?_))))
      simp only [bt, ↓reduceIte]
      refine wpAny_bind (wpAny_askSetting (wpAny_pure (wpAny_pure ?_)))
      show Q' (Option.map _ (pickOrder (w.params.setOrder a ep) es)[i]?) _
      rw [hx]; exact q
    · exact hQ _ h' s.toks (by rw [Array.getElem?_map, hx]; rfl) ⟨X', sb.extBut a o hne st.2⟩ fun b o' hb e => sb.extBut b o' (fun h => hb (by simp [h])) e
  done := fun s Q E st hQ => by
    have hz : (pickOrder (w.params.setOrder a ep) es).size = es.size := by rw [← Array.length_toList, pick_perm.length_eq, Array.length_toList]
    have hx : (pickOrder (w.params.setOrder a ep) es)[es.size]? = none := Array.getElem?_eq_none (by rw [hz]; exact Nat.le_refl _)
    refine nxt_int_end (k := 0) hh st.1 st.2 hd hf (fun {A' E' Q'} q => ?_) fun h' kp => hQ h' s.toks fun b o' hb e => kp b o' (fun h => hb (by simp [h])) e
    unfold setNext setWalk
    refine wpAny_bind (wpAny_setState_of st.2 hd hf (wpAny_bind (byText_ok ?_)))
    simp only [bt, ↓reduceIte, bne_self_eq_false, Bool.false_eq_true]
    refine wpAny_bind (wpAny_bind (wpAny_setState_of st.2 hd hf (wpAny_bind (byText_ok ?_))))
    simp only [bt, ↓reduceIte]
    refine wpAny_bind (wpAny_askSetting (wpAny_pure (wpAny_pure ?_)))
    show Q' (Option.map _ (pickOrder (w.params.setOrder a ep) es)[es.size]?) _
    rw [hx]; exact q
  self := fun _ _ _ _ st hQ => sit_self st.1 hQ
/-- by places that were drawn -/
theorem walk_d {tp : Addr} {ps : Array Value} (hh : A.handled = none) (hne : a ≠ I) (hnt : tp ≠ I) (hd : o.data = .set es ep t) (hf : t.fits es.size = true) {qs : List Nat} (hq : ps = (qs.map fun (i : Nat) => rawInt i).toArray) (hp : qs.Perm (List.range es.size)) :
    Walks prog w A I [I, a, tp] [I] es.size (fun i v => ∃ p hx, qs[i]? = some p ∧ es[p]? = some (hx, v)) (fun i h => SIt h I a (.ref tp) i es.size ep ∧ h.get? a = some o ∧ h.IsTuple tp ps) where
  sub := fun b hb => by simp at hb; simp [hb]
  frame := fun _ _ _ st hk => ⟨st.1.at fun o e => hk I (by simp) o e, hk a (by simp) o st.2.1, st.2.2.at fun o e => hk tp (by simp) o e⟩
  item := fun i s Q E hi st hQ => by
    have hz : qs.length = es.size := by rw [hp.length_eq, List.length_range]
    have hi' : i < qs.length := by rw [hz]; exact hi
    have hx : qs[i]? = some qs[i] := List.getElem?_eq_getElem hi'
    have hm : qs[i] < es.size := List.mem_range.mp (hp.mem_iff.mp (List.getElem_mem hi'))
    have he : es[qs[i]]? = some (es[qs[i]].1, es[qs[i]].2) := Array.getElem?_eq_getElem hm
    refine nxt_ref st.1 st.2.2 (p := qs[i]) (u := 0) (by rw [hq, List.getElem?_toArray, List.getElem?_map, hx]; rfl) st.2.1 hd hf he fun h' sb X' => ?_
    exact hQ _ h' s.toks ⟨_, _, hx, he⟩ ⟨X', sb.extBut a o hne st.2.1, st.2.2.extBut sb.extBut hnt⟩ fun b o' hb e => sb.extBut b o' (fun h => hb (by simp [h])) e
  done := fun s Q E st hQ => by
    have hz : qs.length = es.size := by rw [hp.length_eq, List.length_range]
    refine nxt_ref_end hh st.1 st.2.2 (by rw [hq, List.getElem?_toArray, List.getElem?_map, List.getElem?_eq_none (by rw [hz]; exact Nat.le_refl _)]; rfl) st.2.1 hd hf fun h' kp => hQ h' s.toks fun b o' hb e => kp b o' (fun h => hb (by simp [h])) e
  self := fun _ _ _ _ st hQ => sit_self st.1 hQ
theorem below_one {p j : Nat} : SetTable.below #[p] j = if p < j then 1 else 0 := by
  show SetTable.below.go #[p] j 1 0 1 = _
  unfold SetTable.below.go
  rw [if_pos (by decide)]
  show (if (#[p].getD 0 j) < j then SetTable.below.go #[p] j 0 1 1 else SetTable.below.go #[p] j 0 0 0) = _
  rfl
/-- at most one -/
theorem walk_s (hh : A.handled = none) (hne : a ≠ I) (hd : o.data = .set es ep t) (hf : t.fits es.size = true) (bt : byText w = false) (hl : t.led = true) (h1 : es.size ≤ 1) :
    Walks prog w A I [I, a] [I] es.size (fun i v => (es.map (·.2))[i]? = some v) (fun i h => SIt h I a (.int ((if i = 0 then 0 else t.place.getD 0 0 + 1 : Nat) : Int) 0) i es.size ep ∧ h.get? a = some o) where
  sub := fun b hb => by simp at hb; simp [hb]
  frame := fun _ _ _ st hk => ⟨st.1.at fun o e => hk I (by simp) o e, hk a (by simp) o st.2⟩
  item := fun i s Q E hi st hQ => by
    have i0 : i = 0 := by omega
    subst i0
    have hz : t.place.size = es.size := by
      unfold SetTable.fits at hf
      rw [Bool.and_eq_true, beq_iff_eq] at hf
      exact hf.1
    have e1 : es.size = 1 := by omega
    obtain ⟨p, hp⟩ : ∃ p, t.place = #[p] := ⟨t.place[0]'(by omega), by apply Array.ext <;> simp [hz, e1]; intro k hk; subst hk; rfl⟩
    obtain ⟨⟨hx, x⟩, hes⟩ : ∃ e, es = #[e] := ⟨es[0]'(by omega), by apply Array.ext <;> simp [e1]; intro k hk; subst hk; rfl⟩
    subst hes
    refine nxt_int (k := 0) (k' := p + 1) st.1 st.2 hd hf (x := x) (fun {A' E' Q'} q => ?_) fun h' sb X' => ?_
    · unfold setNext
      refine wpAny_bind (wpAny_setState_of st.2 hd hf (wpAny_bind (byText_ok ?_)))
      simp only [bt, ↓reduceIte, Bool.false_eq_true]
      split
      · rename_i hc
        have hc : (!t.plain && decide (#[(hx, x)].size > 1)) = true := hc
        simp at hc
      · show wpAny _ _ ((if (!t.led && !(#[(hx, x)].isEmpty)) = true then _ else _) >>= _) _ _ _
        rw [hl]
        refine wpAny_bind (wpAny_pure ?_)
        rw [hp, below_one]
        exact wpAny_pure q
    · exact hQ _ h' s.toks (by simp) ⟨by simpa [hp] using X', sb.extBut a o hne st.2⟩ fun b o' hb e => sb.extBut b o' (fun h => hb (by simp [h])) e
  done := fun s Q E st hQ => by
    have hz : t.place.size = es.size := by
      unfold SetTable.fits at hf
      rw [Bool.and_eq_true, beq_iff_eq] at hf
      exact hf.1
    refine nxt_int_end hh st.1 st.2 hd hf (fun {A' E' Q'} q => ?_) fun h' kp => hQ h' s.toks fun b o' hb e => kp b o' (fun h => hb (by simp [h])) e
    unfold setNext
    refine wpAny_bind (wpAny_setState_of st.2 hd hf (wpAny_bind (byText_ok ?_)))
    simp only [bt, ↓reduceIte, Bool.false_eq_true]
    split
    · rename_i hc
      have hc : (!t.plain && decide (es.size > 1)) = true := hc
      simp at hc; omega
    · show wpAny _ _ ((if (!t.led && !(es.isEmpty)) = true then _ else _) >>= _) _ _ _
      rw [hl]
      refine wpAny_bind (wpAny_pure ?_)
      have hnone : es[SetTable.below t.place (if es.size = 0 then 0 else t.place.getD 0 0 + 1)]? = none := by
        refine Array.getElem?_eq_none ?_
        by_cases e0 : es.size = 0
        · rw [e0]; exact Nat.zero_le _
        · have e1 : es.size = 1 := by omega
          obtain ⟨p, hp⟩ : ∃ p, t.place = #[p] := ⟨t.place[0]'(by omega), by apply Array.ext <;> simp [hz, e1]; intro k hk; subst hk; rfl⟩
          rw [if_neg e0, hp, below_one]
          simp [e1]
      rw [hnone]
      exact wpAny_pure q
  self := fun _ _ _ _ st hQ => sit_self st.1 hQ
theorem walks_mono {I : Addr} {fp wr : List Addr} {n n' : Nat} {P P' : Nat → Value → Prop} {St : Nat → Heap → Prop} (W : Walks prog w A I fp wr n P St) (e : n = n') (h : ∀ i v, P i v → P' i v) : Walks prog w A I fp wr n' P' St := by
  subst e
  exact ⟨W.sub, W.frame, fun i s Q E hi st hQ => W.item i s Q E hi st fun v h' tk p => hQ v h' tk (h i v p), W.done, W.self⟩
theorem strs_ent : ∀ {xs : List Str} {l : List (Int × Value)}, Ent w xs l → StrsAre (l.map (·.2)) xs
  | [], l, h => by have h : l = [] := h; subst h; exact .nil
  | x :: xs, l, h => by
    obtain ⟨t, r, rfl, hr⟩ := h
    exact .cons x t (strs_ent hr)
/-- iter(s): a walk that gives each of the texts once -/
theorem iter_x {xs : List Str} {Q : Value → Shared → Prop} (hh : A.handled = none) (X : SetX w s.heap a xs)
    (q : ∀ (I : Addr) (h' : Heap) d (fp : List Addr) (items : List Value) (ys : List Str) (St : Nat → Heap → Prop), Walks prog w A I fp [I] items.length (fun i v => items[i]? = some v) St → St 0 h' → StrsAre items ys → ys.Perm xs →
      (∀ b o, s.heap.get? b = some o → h'.get? b = some o) → s.heap.objs.size ≤ I → (∀ b ∈ fp, b = a ∨ s.heap.objs.size ≤ b) → Q (.ref I) { s with heap := h', drawn := d }) :
    wpAny (model prog w) A (pyIter (.ref a)) Q E s := by
  obtain ⟨o, es, ep, t, ho, hex, hd, he, hn, hb, hf, hl, hp⟩ := id X
  have la := X.there
  have hz : es.size = xs.length := by rw [← Array.length_toList]; exact he.length
  refine wpAny_pyIter_slot X.ty PySem.F.slot_set_iter (wpAny_call_entry PySem.F.slot_set_iter X.ty ent_iter ?_ (PySem.F.args_set_iter_1 _))
  unfold Builtin.«frozenset.__iter__»
  refine wpAny_bind (m := Builtin.Frozenset.slot0 _ _) (wpAny_pure (wpAny_bind ?_))
  unfold Builtin.Frozenset.sizeOf
  refine wpAny_bind (wpAny_setEntries_of ho hd hf (wpAny_pure (wpAny_bind ?_)))
  unfold setDrawn
  refine wpAny_bind (wpAny_setState_of ho hd hf (wpAny_bind (byText_ok (wpAny_pure ?_))))
  dsimp only
  have sz : es.size ≤ sizeLine := by rw [hz]; exact fits_of_scanBound hb
  split
  · rename_i hc
    refine wpAny_bind (draw_x (by simp) fun d l' pl => wpAny_bind (wpAny_newTuple ?_ (by rw [List.length_map, pl.length_eq, List.length_range]; exact sz)))
    have ho1 := Heap.get?_push_of_some (seqObj "tuple" (l'.map fun (i : Nat) => rawInt i).toArray 0) ho
    refine wpAny_bind (wpAny_setEpoch_of (s := { s with heap := s.heap.push (seqObj "tuple" (l'.map fun (i : Nat) => rawInt i).toArray 0), drawn := d }) ho1 hd hf (wpAny_bind (wpAny_newObj_type (wpAny_pure ⟨_, rfl, "set_iterator", _, ⟨_, Heap.get?_push_size _ rfl, rfl⟩, slot_nxt.lookup, ?_⟩))))
    have ls : (s.heap.push (seqObj "tuple" (l'.map fun (i : Nat) => rawInt i).toArray 0)).objs.size = s.heap.objs.size + 1 := size_push' _ _
    have pe : (l'.map fun p => es.getD p (0, .none)).Perm es.toList := by
      refine (pl.map _).trans (.of_eq ?_)
      apply List.ext_getElem
      · simp
      · intro k k1 k2
        simp at k1 ⊢
        rw [Array.getElem?_eq_getElem k1]; rfl
    obtain ⟨ys, py, ey⟩ := he.perm pe
    have W := walk_d (prog := prog) (w := w) (A := A) (I := (s.heap.push (seqObj "tuple" (l'.map fun (i : Nat) => rawInt i).toArray 0)).objs.size) (tp := s.heap.objs.size) hh (by rw [ls]; exact Nat.ne_of_lt (Nat.lt_succ_of_lt la)) (by rw [ls]; exact Nat.ne_of_lt (Nat.lt_succ_self _)) hd hf rfl pl
    refine q _ _ d _ ((l'.map fun p => es.getD p (0, .none)).map (·.2)) ys _ (walks_mono W (by simp [pl.length_eq]) fun i v hv => ?_) ⟨⟨_, Heap.get?_push_size _ rfl, rfl, rfl⟩, Heap.get?_push_of_some _ ho1, ⟨_, Heap.get?_push_of_some _ (Heap.get?_push_size _ rfl), rfl, _, rfl⟩⟩ (strs_ent ey) py
      (fun b o' e => Heap.get?_push_of_some _ (Heap.get?_push_of_some _ e)) (by rw [ls]; exact Nat.le_succ _) fun b hb => ?_
    · obtain ⟨p, hx, e1, e2⟩ := hv
      rw [List.getElem?_map, List.getElem?_map, e1]
      simp [Array.getD_eq_getD_getElem?, e2]
    · simp only [List.mem_cons, List.not_mem_nil, or_false] at hb
      rcases hb with rfl | rfl | rfl
      · right; rw [ls]; exact Nat.le_succ _
      · left; rfl
      · right; exact Nat.le_refl _
  · rename_i hc
    refine wpAny_bind (wpAny_pure (wpAny_bind (wpAny_setEpoch_of ho hd hf (wpAny_bind (wpAny_newObj_type (wpAny_pure ⟨_, rfl, "set_iterator", _, ⟨_, Heap.get?_push_size _ rfl, rfl⟩, slot_nxt.lookup, ?_⟩))))))
    have fpx : ∀ b ∈ [s.heap.objs.size, a], b = a ∨ s.heap.objs.size ≤ b := fun b hb => by
      simp only [List.mem_cons, List.not_mem_nil, or_false] at hb
      rcases hb with rfl | rfl
      · right; exact Nat.le_refl _
      · left; rfl
    cases bt : byText w with
    | true =>
      obtain ⟨ys, py, ey⟩ := he.perm (pick_perm (next := w.params.setOrder a ep) (xs := es))
      have W := walk_t (prog := prog) (w := w) (A := A) (I := s.heap.objs.size) hh (Nat.ne_of_lt la) hd hf bt
      refine q _ _ s.drawn _ ((pickOrder (w.params.setOrder a ep) es).toList.map (·.2)) ys _ (walks_mono W (by rw [List.length_map, pick_perm.length_eq, Array.length_toList]) fun i v hv => ?_) ⟨⟨_, Heap.get?_push_size _ rfl, rfl, rfl⟩, Heap.get?_push_of_some _ ho⟩ (strs_ent ey) py (fun b o' e => Heap.get?_push_of_some _ e) (Nat.le_refl _) fpx
      rw [← hv]; simp
    | false =>
      have h1 : es.size ≤ 1 := by
        have hc : ¬ (!byText w && (!t.plain && decide (es.size > 1))) = true := hc
        rw [bt] at hc
        rcases hp with rfl | hp
        · rw [hz]; exact Nat.zero_le _
        · rw [hp] at hc; simp at hc; omega
      have W := walk_s (prog := prog) (w := w) (A := A) (I := s.heap.objs.size) hh (Nat.ne_of_lt la) hd hf bt (by rw [hl, bt]; rfl) h1
      refine q _ _ s.drawn _ (es.toList.map (·.2)) xs _ (walks_mono W (by simp) fun i v hv => ?_) ⟨⟨_, Heap.get?_push_size _ rfl, rfl, rfl⟩, Heap.get?_push_of_some _ ho⟩ (strs_ent he) (.refl _) (fun b o' e => Heap.get?_push_of_some _ e) (Nat.le_refl _) fpx
      rw [← hv]; simp
end
end D3

namespace D3
open PySem PySem.Spec PyProof.Rows L2
/-! ### sorted(s) -/
section
variable {prog : Program} {w : World} {A : Around} {E : Value → Shared → Prop} {s : Shared} {a : Addr} {xs : List Str}
theorem hint_x {Q : Bool → Shared → Prop} (ty : s.TypeIs (.ref a) "set") (q : Q false s) : wpAny (model prog w) A (Builtin.List.listLengthHint (.ref a)) Q E s := by
  unfold Builtin.List.listLengthHint
  refine wpAny_bind (wpAny_specialOf ty PySem.F.slot_set_len.lookup ?_)
  generalize hi : ("set.__len__" : String) = j
  wp_delta
  rw [show splitId j = some ("set", "__len__") from by subst hi; decide +kernel]
  subst hi
  refine wpAny_bind (wpAny_isInstance ty sub_set_self ?_)
  refine wpAny_ite_split (fun x => absurd x (by decide)) (fun _ => wpAny_ite_split (fun _ => ?_) (fun x => absurd (by decide +kernel) x))
  exact wpAny_bind (wpAny_typeOf ty (wpAny_pure q))
theorem items_of {items : List Value} {acc : Array Value} (h : ItemsOf (fun i v => items[i]? = some v) acc items.length) : acc.toList = items := by
  apply List.ext_getElem?
  intro j
  by_cases hj : j < items.length
  · have e1 : acc[j]? = some (acc[j]'(by rw [h.1]; exact hj)) := Array.getElem?_eq_getElem _
    rw [Array.getElem?_toList, e1]
    exact (h.2 j _ e1).symm
  · have z1 : acc.toList.length = items.length := by rw [Array.length_toList]; exact h.1
    rw [List.getElem?_eq_none (l := acc.toList) (by omega), List.getElem?_eq_none (l := items) (by omega)]
/-- a new list takes up what a set has -/
theorem ext_x {R : Result → Shared → Prop} (hh : A.handled = none) (X : SetX w s.heap a xs) (S : Addr) (hSa : S ≠ a) (res : Value) (hS : s.heap.get? S = some { cls := .type "list", data := .seq #[] })
    (hR : ∀ h' d tk vs ys c, (∀ b o, b ≠ S → s.heap.get? b = some o → h'.get? b = some o) → h'.get? S = some { cls := .type "list", dict := none, data := .seq vs c, slots := #[] } → StrsAre vs.toList ys → ys.Perm xs → R (.ok (.ret res)) { s with heap := h', drawn := d, toks := tk }) :
    wpAny (model prog w) A.in1 (Builtin.List.listExtendWith (.ref S) (.ref a) res)
      (fun fin s' => match fin with | .done f => R (.ok f) s' | .again c' => c'.quiet = true ∧ codeAny (model prog w) A c' R s') (fun e s' => R (.error e) s') s := by
  have hb : xs.length ≤ sizeLine := by
    obtain ⟨o, es, ep, t, ho, hex, hd, he, hn, hb, r⟩ := X
    exact fits_of_scanBound hb
  unfold Builtin.List.listExtendWith
  refine wpAny_bind (wpAny_typeOf X.ty ?_)
  have n1 : Builtin.List.listSameRef (.ref S) (.ref a) = false := by simp [Builtin.List.listSameRef, hSa]
  have n2 : (Value.type "set" == Value.type "list") = false := by decide
  have n3 : (Value.type "set" == Value.type "tuple") = false := by decide
  simp only [n1, n2, n3, Bool.or_false, Bool.false_eq_true, ↓reduceIte]
  refine wpAny_bind (iter_x (A := A.in1) hh X fun I h1 d fp items ys St W st sa py kp hI hfp => ?_)
  have lS : S < s.heap.objs.size := Heap.lt_size hS
  have hSf : S ∉ fp := fun hm => (hfp S hm).elim hSa fun h => absurd lS (Nat.not_lt.mpr h)
  have hSI : S ≠ I := fun e => absurd lS (Nat.not_lt.mpr (e ▸ hI))
  have hil : items.length ≤ sizeLine := by rw [sa.length, py.length_eq]; exact hb
  have hS1 := kp S _ hS
  have key : ∀ (h : Heap) (c : Nat), St 0 h → (∀ b o, b ≠ S → s.heap.get? b = some o → h.get? b = some o) → h.get? S = some { cls := .type "list", data := .seq #[] c } →
      codeAny (model prog w) A (.builtin "list.extend.loop" ⟨[.ref S, .ref I, res], []⟩) R { s with heap := h, drawn := d } := by
    intro h c st' k' hS'
    refine codeAny_extend_loopS W.toS hil S hSf res items.length 0 _ #[] c rfl (Nat.zero_le _) st' hS' (ItemsOf.nil _) fun s' acc c' hm hS2 hacc => ?_
    rw [Moved.eq_with hm]
    refine hR s'.heap d s'.toks acc ys c' (fun b o nb e => hm.heap b o (fun hx => ?_) (k' b o nb e)) hS2 (by rw [items_of hacc]; exact sa) py
    rcases List.mem_cons.mp hx with e' | hx
    · exact nb e'
    · exact absurd (Heap.lt_size e) (by rw [List.mem_singleton.mp hx]; exact Nat.not_lt.mpr hI)
  refine wpAny_bind (wpAny_holding (hint_x (s := { s with heap := h1, drawn := d }) (SetX.ty (s := { s with heap := h1, drawn := d }) (X.kept fun o e => kp a o e)) ?_))
  refine wpAny_ite_split (fun _ => ?_) (fun _ => wpAny_pure ⟨plainId_quiet PySem.F.plain_extend_loop _, key h1 0 st (fun b o _ e => kp b o e) hS1⟩)
  refine wpAny_bind (wpAny_rule (wpAny_bind ?_))
  show wpAny _ _ (updateSeq S (·.push Value.none) >>= fun _ => updateSeq S (·.pop)) _ _ { s with heap := h1, drawn := d }
  refine wpAny_bind (wpAny_updateSeq (s := { s with heap := h1, drawn := d }) hS1 rfl ?_)
  have hS2 := Heap.get?_update_self (Obj.mapSeq (·.push Value.none)) hS1 rfl
  refine wpAny_updateSeq (hz := by seq_fits) hS2 rfl ?_
  have hS3 := Heap.get?_update_self (Obj.mapSeq (·.pop)) hS2 rfl
  have oth : ∀ b, b ≠ S → ∀ o, h1.get? b = some o → ((h1.update S (Obj.mapSeq (·.push Value.none))).update S (Obj.mapSeq (·.pop))).get? b = some o := fun b nb o e =>
    (Heap.get?_update_other _ _ (Ne.symm nb)).trans ((Heap.get?_update_other _ _ (Ne.symm nb)).trans e)
  exact wpAny_pure ⟨plainId_quiet PySem.F.plain_extend_loop _, key _ _ (W.frame 0 _ _ st fun b hb o e => oth b (fun h => hSf (h ▸ hb)) o e) (fun b o nb e => oth b nb o (kp b o e)) hS3⟩
/-- all that a set has, in some order -/
theorem collect_x {R : List Value → Shared → Prop} (hh : A.handled = none) (X : SetX w s.heap a xs)
    (h : ∀ h' d tk vs ys, (∀ b o, s.heap.get? b = some o → h'.get? b = some o) → s.heap.objs.size < h'.objs.size → StrsAre vs ys → ys.Perm xs → R vs { s with heap := h', drawn := d, toks := tk }) : wpAny (model prog w) A (collect (.ref a)) R E s := by
  have la := X.there
  unfold collect
  refine wpAny_bind (wpAny_runValue (codeAny_builtin PySem.F.entry_proto_collect ?_))
  rw [Around.under_plainId PySem.F.plain_proto_collect _]
  show wpAny (model prog w) A.in1 (newList [] >>= fun l => again (.builtin "list.__iadd__" ⟨[l, .ref a], []⟩)) _ _ s
  refine wpAny_bind (wpAny_newObj_type (wpAny_pure ⟨plainId_quiet PySem.F.plain_list_iadd _, codeAny_builtin PySem.F.entry_list_iadd ?_⟩))
  rw [Around.under_plainId PySem.F.plain_list_iadd _]
  have g0 : (s.heap.push { cls := .type "list", data := .seq ([] : List Value).toArray }).get? s.heap.objs.size = some { cls := .type "list", data := .seq #[] } := Heap.get?_push_size _ rfl
  show wpAny (model prog w) A.in1 (Builtin.List.listExtendWith (.ref s.heap.objs.size) (.ref a) (.ref s.heap.objs.size)) _ _ _
  have key := ext_x (A := A) (prog := prog) (s := { s with heap := s.heap.push { cls := .type "list", data := .seq ([] : List Value).toArray } })
    (R := fun q s' => ∃ h' d tk vs ys c, q = .ok (.ret (.ref s.heap.objs.size)) ∧ s' = { s with heap := h', drawn := d, toks := tk } ∧ (∀ b o, s.heap.get? b = some o → h'.get? b = some o) ∧ h'.get? s.heap.objs.size = some { cls := .type "list", dict := none, data := .seq vs c, slots := #[] } ∧ StrsAre vs.toList ys ∧ ys.Perm xs)
    hh (X.kept fun o e => Heap.get?_push_of_some _ e) s.heap.objs.size (Nat.ne_of_gt la) (.ref s.heap.objs.size) g0
    fun h' d tk vs ys c kp gS sa py => ⟨h', d, tk, vs, ys, c, rfl, rfl, fun b o e => kp b o (Nat.ne_of_lt (Heap.lt_size e)) (Heap.get?_push_of_some _ e), gS, sa, py⟩
  refine wpAny_mono key (fun f s' x => ?_) fun e s' x => ?_
  · cases f with
    | done f =>
      obtain ⟨h', d, tk, vs, ys, c, e, rfl, kp, gS, sa, py⟩ := x
      cases e
      show wpAny _ A (load s.heap.objs.size >>= _) _ _ _
      exact wpAny_bind (wpAny_load gS (wpAny_pure (h h' d tk vs.toList ys kp (Heap.lt_size gS) sa py)))
    | again c1 =>
      refine ⟨x.1, codeAny_mono x.2 fun q s2 y => ?_⟩
      obtain ⟨h', d, tk, vs, ys, c, rfl, rfl, kp, gS, sa, py⟩ := y
      show wpAny _ A (load s.heap.objs.size >>= _) _ _ _
      exact wpAny_bind (wpAny_load gS (wpAny_pure (h h' d tk vs.toList ys kp (Heap.lt_size gS) sa py)))
  · obtain ⟨_, _, _, _, _, _, e', _⟩ := x
    cases e'
/-- sorted(s) -/
theorem sorted_x {Q : Value → Shared → Prop} (hh : A.handled = none) (X : SetX w s.heap a xs) (h64 : xs.length < 64)
    (h : ∀ h' d tk D out e ys, (∀ b o, s.heap.get? b = some o → h'.get? b = some o) → s.heap.objs.size ≤ D → h'.get? D = some (seqObj "list" out e) → StrsAre out.toList ys → ys.Perm xs → PyProof.Rows.sortedS ys = true → Q (.ref D) { s with heap := h', drawn := d, toks := tk }) :
    wpAny (model prog w) A (call (.builtin "sorted") [.ref a]) Q E s := by
  refine Calls.call_function_entry kind_sorted plain_sorted entry_sorted (args_sorted1 (.ref a)) ?_
  unfold Builtin.«sorted»
  refine wpAny_bind (m := checkCount "sorted" 1 1 [Value.ref a].length) (wpAny_pure (wpAny_bind (collect_x (A := A.in1) hh X fun h1 d tk vs ys kp lh sa py => ?_)))
  have lv : vs.length = xs.length := by rw [sa.length, py.length_eq]
  refine wpAny_bind (wpAny_newList ?_ (by rw [lv, sizeLine_eq]; omega))
  have g1 : (h1.push (seqObj "list" vs.toArray 0)).get? h1.objs.size = some (seqObj "list" vs.toArray 0) := Heap.get?_push_size _ rfl
  have k1 : ∀ b o, s.heap.get? b = some o → b < h1.objs.size := fun b o e => Heap.lt_size (kp b o e)
  refine wpAny_bind (wpAny_holding (wpAny_call_entry slot_list_sort ⟨_, g1, rfl⟩ entry_list_sort (list_sort_treeK strKind_oneLt (s := { s with heap := h1.push (seqObj "list" vs.toArray 0), drawn := d, toks := tk }) g1 sa.keysOf (fun v1 v2 r e => keyKind_strs (by rw [← e]; exact sa)) (by rw [lv]; exact h64) fun st' p1 p2 => ⟨_, rfl, ?_⟩) (args_list_sort _)))
  obtain ⟨zs, z1, z2, z3⟩ := sorted_out_str sa p1 p2
  obtain ⟨e, he⟩ := sortedHeap_at (out := (arrOf st').map (·.2)) g1
  refine wpAny_pure ⟨_, rfl, h _ d tk _ _ e zs (fun b o hb => ?_) (Nat.le_of_lt lh) he z1 (z2.trans py) z3⟩
  have lb := k1 b o hb
  rw [sortedHeap_old (Nat.ne_of_lt lb) (by rw [size_push']; exact Nat.lt_succ_of_lt lb)]
  exact Heap.get?_push_of_some _ (kp b o hb)
end
end D3

namespace D3
open PySem PySem.Spec PyProof.Rows L2
/-! ### the order of texts, and what is laid out by it -/
def lts (x y : Str) : Bool := ltCps x.cps.toList y.cps.toList
theorem lts_iff {x y : Str} : lts x y = true ↔ x.cps.toList < y.cps.toList := by unfold lts; rw [ltCps_eq, decide_eq_true_eq]
theorem lts_irr (x : Str) : lts x x = false := by
  cases h : lts x x with
  | false => rfl
  | true => exact absurd (lts_iff.mp h) (List.lt_irrefl _)
theorem lts_trans {x y z : Str} (a : lts x y = true) (b : lts y z = true) : lts x z = true := lts_iff.mpr (List.lt_trans (lts_iff.mp a) (lts_iff.mp b))
theorem lts_tri {x y : Str} (a : lts x y = false) (b : lts y x = false) : x = y := by
  have h1 : ¬ x.cps.toList < y.cps.toList := fun h => by rw [lts_iff.mpr h] at a; cases a
  have h2 : ¬ y.cps.toList < x.cps.toList := fun h => by rw [lts_iff.mpr h] at b; cases b
  have e := List.le_antisymm (List.not_lt.mp h2) (List.not_lt.mp h1)
  cases x; cases y
  exact congrArg Str.mk (Array.ext' e)
/-- each before all that follow -/
def Strict (l : List Str) : Prop := l.Pairwise fun x y => lts x y = true
theorem rising_all : ∀ {l : List Str} {p : Str}, risingS p l = true → ∀ x ∈ l, lts x p = false
  | y :: l, p, h, x, hx => by
    have h : (!lts y p && risingS y l) = true := h
    rw [Bool.and_eq_true, Bool.not_eq_true'] at h
    rcases List.mem_cons.mp hx with rfl | hx
    · exact h.1
    · have h2 := rising_all h.2 x hx
      cases q : lts x p with
      | false => rfl
      | true =>
        cases q2 : lts p y with
        | true => rw [lts_trans q q2] at h2; cases h2
        | false => have := lts_tri q2 h.1; subst this; rw [q] at h2; cases h2
theorem strict_of : ∀ {l : List Str}, sortedS l = true → l.Nodup → Strict l
  | [], _, _ => .nil
  | x :: l, h, n => by
    obtain ⟨n1, n2⟩ := List.nodup_cons.mp n
    refine List.pairwise_cons.mpr ⟨fun y hy => ?_, strict_of ?_ n2⟩
    · have h1 := rising_all (show risingS x l = true from h) y hy
      cases q : lts x y with
      | true => rfl
      | false => exact absurd (lts_tri q h1 ▸ hy) n1
    · cases l with
      | nil => rfl
      | cons y l =>
        have h : (!lts y x && risingS y l) = true := h
        rw [Bool.and_eq_true] at h
        exact h.2
theorem strict_ext : ∀ {l l' : List Str}, Strict l → Strict l' → (∀ y, y ∈ l ↔ y ∈ l') → l = l'
  | [], [], _, _, _ => rfl
  | [], x :: l', _, _, h => absurd ((h x).mpr List.mem_cons_self) (by simp)
  | x :: l, [], _, _, h => absurd ((h x).mp List.mem_cons_self) (by simp)
  | x :: l, y :: l', s, s', h => by
    obtain ⟨s1, s2⟩ := List.pairwise_cons.mp s
    obtain ⟨t1, t2⟩ := List.pairwise_cons.mp s'
    have e : x = y := by
      rcases List.mem_cons.mp ((h x).mp List.mem_cons_self) with e | hx
      · exact e
      · rcases List.mem_cons.mp ((h y).mpr List.mem_cons_self) with e | hy
        · exact e.symm
        · have := lts_trans (t1 x hx) (s1 y hy)
          rw [lts_irr] at this; cases this
    subst e
    rw [strict_ext s2 t2 fun z => ?_]
    constructor
    · intro hz
      rcases List.mem_cons.mp ((h z).mp (List.mem_cons_of_mem _ hz)) with e | h'
      · subst e; have := s1 z hz; rw [lts_irr] at this; cases this
      · exact h'
    · intro hz
      rcases List.mem_cons.mp ((h z).mpr (List.mem_cons_of_mem _ hz)) with e | h'
      · subst e; have := t1 z hz; rw [lts_irr] at this; cases this
      · exact h'
def insU (x : Str) : List Str → List Str
  | [] => [x]
  | y :: l => if x = y then y :: l else if lts x y = true then x :: y :: l else y :: insU x l
theorem mem_insU {x z : Str} : ∀ {l : List Str}, z ∈ insU x l ↔ z = x ∨ z ∈ l
  | [] => by simp [insU]
  | y :: l => by
    unfold insU
    split
    · rename_i e; subst e; simp
    · split
      · simp
      · rw [List.mem_cons, mem_insU, List.mem_cons]
        exact ⟨fun h => h.elim (fun e => .inr (.inl e)) fun h => h.imp id .inr, fun h => h.elim (fun e => .inr (.inl e)) fun h => h.imp id .inr⟩
theorem strict_ins {x : Str} : ∀ {l : List Str}, Strict l → Strict (insU x l)
  | [], _ => List.pairwise_singleton _ _
  | y :: l, s => by
    obtain ⟨s1, s2⟩ := List.pairwise_cons.mp s
    unfold insU
    split
    · exact s
    · rename_i ne
      split
      · rename_i lt
        exact List.pairwise_cons.mpr ⟨fun z hz => (List.mem_cons.mp hz).elim (fun e => e ▸ lt) fun h => lts_trans lt (s1 z h), s⟩
      · rename_i nl
        refine List.pairwise_cons.mpr ⟨fun z hz => ?_, strict_ins s2⟩
        rcases mem_insU.mp hz with rfl | hz
        · cases q : lts y z with
          | true => rfl
          | false => exact absurd (lts_tri (by simpa using nl) q) ne
        · exact s1 z hz
/-- texts in their order, each once -/
def uni (l : List Str) : List Str := l.foldr insU []
theorem uni_mem {z : Str} : ∀ {l : List Str}, z ∈ uni l ↔ z ∈ l
  | [] => by simp [uni]
  | x :: l => by
    show z ∈ insU x (uni l) ↔ _
    rw [mem_insU, uni_mem, List.mem_cons]
theorem uni_strict : ∀ (l : List Str), Strict (uni l)
  | [] => .nil
  | x :: l => strict_ins (uni_strict l)
end D3

namespace D3
open PySem PySem.Spec PyProof.Rows L2
/-- a set of the texts ys at l -/
def sx (w : World) (l : Addr) (ys : List Str) : HO := .ext fun h => SetX w h l ys
theorem sx_ok {P : Program} {w : World} {H : Hp} {h : Heap} {l : Addr} {ys : List Str} (x : SetX w h l ys) : ObjOk P w H h l (sx w l ys) := by
  refine ⟨x, ?_, fun h1 h2 x1 k => SetX.kept (show SetX w h1 l ys from x1) k⟩
  obtain ⟨o, es, ep, t, ho, r⟩ := x
  exact ⟨o, ho⟩
theorem SetX.nodup {w : World} {h : Heap} {a : Addr} {xs : List Str} (x : SetX w h a xs) : xs.Nodup := by
  obtain ⟨o, es, ep, t, ho, hex, hd, he, hn, r⟩ := x
  exact hn
theorem vals_strs : ∀ {ys : List Str} {us : List Value}, StrsAre us ys → Vals (ys.map V.str) us
  | [], _, .nil => .nil
  | _ :: ys, _, .cons y t h => .cons ⟨t, rfl⟩ (vals_strs h)
section
variable {X : Cx}
theorem Inv.drew {pins : List (Addr × Obj)} {σ : L2.St} {H : Hp} {s : Shared} (I : L2.Inv X pins σ H s) (d : Drawn) : L2.Inv X pins σ H { s with drawn := d } :=
  ⟨I.ok, I.os, I.bare, I.base, I.loc, I.cell, I.free, I.freeC, I.pin, I.hok, I.len⟩
/-- set(t) -/
def rSet (X : Cx) : List V → Hp → VK → Prop := fun xs H Q => ∃ (p : Addr) (ns : List Str), xs = [.ref p] ∧ SqT X.K H p (ns.map V.str) ∧ ns.length < scanBound ∧ ∀ (l : Addr) (ys : List Str), H l = none → ys.Nodup → (∀ y, y ∈ ys ↔ y ∈ ns) → Q (.ref l) (upd H l (sx X.w l ys))
theorem call_setR (hc : X.calm = true) : CallR X (.type "set") (rSet X) := by
  intro pins s σ H xs us Q I r h
  obtain ⟨p, ns, rfl, hp, hb, q⟩ := h
  obtain ⟨u, rfl, rx⟩ := vals1 r
  cases rx
  obtain ⟨its, rv, tp, _⟩ := I.tuple hp
  refine call_set1 (I.ok.hd hc) tp (by simpa using strsAre_of rv) hb fun h' tk ys kp SX m => ?_
  exact ⟨.ref s.heap.objs.size, _, I.laid (t' := tk) kp (Nat.le_refl _) (sx_ok SX), rfl, q _ ys (I.hok.fresh (Nat.le_refl _)) SX.nodup m⟩
/-- s | t -/
def rOr (X : Cx) : R2 := fun x y H Q => ∃ (a b : Addr) (xs ys : List Str), x = .ref a ∧ y = .ref b ∧ a ≠ b ∧ H a = some (sx X.w a xs) ∧ H b = some (sx X.w b ys) ∧ xs.length + ys.length ≤ 15 ∧
  ∀ (l : Addr) (zs : List Str), H l = none → zs.Nodup → (∀ y, y ∈ zs ↔ y ∈ xs ∨ y ∈ ys) → Q (.ref l) (upd H l (sx X.w l zs))
theorem op_orR : OpR X (binaryOp .BitOr) (rOr X) := by
  intro pins s σ H x y v u Q I rx ry h
  obtain ⟨a, b, xs, ys, rfl, rfl, ne, ha, hb, hz, q⟩ := h
  cases rx
  cases ry
  have xa : SetX X.w s.heap a xs := (I.hok a _ ha).1
  have xb : SetX X.w s.heap b ys := (I.hok b _ hb).1
  refine or_x xa xb ne hz fun h' zs kp SX m => ?_
  exact ⟨.ref s.heap.objs.size, _, I.laid (t' := s.toks) kp (Nat.le_refl _) (sx_ok SX), rfl, q _ zs (I.hok.fresh (Nat.le_refl _)) SX.nodup m⟩
/-- sorted(s) -/
def rSrt (X : Cx) : List V → Hp → VK → Prop := fun xs H Q => ∃ (a : Addr) (zs : List Str), xs = [.ref a] ∧ H a = some (sx X.w a zs) ∧ zs.Nodup ∧ zs.length < 64 ∧ ∀ l, H l = none → Q (.ref l) (upd H l (.lst ((uni zs).map V.str)))
theorem call_srtR (hc : X.calm = true) : CallR X (.builtin "sorted") (rSrt X) := by
  intro pins s σ H xs us Q I r h
  obtain ⟨a, zs, rfl, ha, hn, hz, q⟩ := h
  obtain ⟨u, rfl, rx⟩ := vals1 r
  cases rx
  have xa : SetX X.w s.heap a zs := (I.hok a _ ha).1
  refine sorted_x (I.ok.hd hc) xa hz fun h' d tk D out e ys kp hD g sa py so => ?_
  have e1 : uni zs = ys := strict_ext (uni_strict zs) (strict_of so (py.symm.nodup hn)) fun y => by rw [uni_mem, py.mem_iff]
  have rv : Vals (ys.map V.str) out.toList := vals_strs sa
  have le : ((uni zs).map V.str).length ≤ sizeLine := by rw [List.length_map, e1, py.length_eq, sizeLine_eq]; omega
  exact ⟨.ref D, _, Inv.drew (I.laid (t' := tk) kp hD (show ObjOk X.prog X.w _ h' D (.lst ((uni zs).map V.str)) from ⟨le, out.toList, e, by rw [e1]; exact rv, by simpa using g⟩)) d, rfl, q D (I.hok.fresh hD)⟩
end
end D3

namespace D3
open PySem PySem.Spec PyProof.Rows L2
theorem bb_set : bootBuiltins "set" = some (.type "set") := by decide +kernel
theorem bb_sorted : bootBuiltins "sorted" = some (.builtin "sorted") := by decide +kernel
/-- texts all -/
def txD : List D → Option (List Str)
  | [] => some []
  | .str x :: ds => (txD ds).map (x :: ·)
  | _ :: _ => none
def txT : D → Option (List Str)
  | .tup ds => txD ds
  | _ => none
/-- sorted(set(a) | set(b)) -/
def usR (ra rb : Res) : Res := ra.thn fun _ d => match txT d with
  | some ns => if ns.length ≤ 7 then rb.thn fun _ d' => match txT d' with
      | some ms => if ms.length ≤ 7 then .ok .fr (.lst ((uni (ns ++ ms)).map .str)) else .stuck
      | none => .stuck
    else .stuck
  | none => .stuck
theorem txD_rep {K : PySem.W.Frag} {F : Hp} : ∀ {ds : List D} {xs : List V} {ns : List Str}, txD ds = some ns → RepL K F ds xs → xs = ns.map V.str ∧ ∀ x ∈ ns, x.length ≤ sizeLine ∧ PyData.strOk x = true
  | [], xs, ns, e, r => by
    cases e
    simp only [RepL] at r
    subst r
    exact ⟨rfl, fun x hx => by cases hx⟩
  | d :: ds, xs, ns, e, r => by
    cases d with
    | str x =>
      simp only [txD] at e
      cases q : txD ds with
      | none => rw [q] at e; cases e
      | some ms =>
        rw [q] at e
        cases e
        simp only [RepL] at r
        obtain ⟨v, vs, rfl, rv, rr⟩ := r
        obtain ⟨rfl, h2⟩ := txD_rep q rr
        simp only [RepV] at rv
        obtain ⟨rfl, h1⟩ := rv
        exact ⟨rfl, fun y hy => (List.mem_cons.mp hy).elim (fun e => by subst e; exact h1) (h2 y)⟩
    | _ => cases e
theorem repL_strs {K : PySem.W.Frag} {F : Hp} : ∀ {ns : List Str}, (∀ x ∈ ns, x.length ≤ sizeLine ∧ PyData.strOk x = true) → RepL K F (ns.map .str) (ns.map V.str)
  | [], _ => by simp [RepL]
  | x :: ns, h => by
    simp only [List.map_cons, RepL, RepV]
    exact ⟨_, _, rfl, ⟨rfl, h x List.mem_cons_self⟩, repL_strs fun y hy => h y (List.mem_cons_of_mem _ hy)⟩
theorem len_le : ∀ {ys ns : List Str}, ys.Nodup → (∀ y ∈ ys, y ∈ ns) → ys.length ≤ ns.length
  | [], ns, _, _ => Nat.zero_le _
  | y :: ys, ns, n, h => by
    obtain ⟨n1, n2⟩ := List.nodup_cons.mp n
    have hy := h y List.mem_cons_self
    have := len_le (ns := ns.erase y) n2 fun z hz => (List.mem_erase_of_ne (fun e : z = y => n1 (by rw [← e]; exact hz))).mpr (h z (List.mem_cons_of_mem _ hz))
    rw [List.length_erase_of_mem hy] at this
    have : 0 < ns.length := List.length_pos_of_mem hy
    rw [List.length_cons]; omega
section
variable {C : Cw} {X : Cx} {ga gb : Rho → Res} {ea eb : Expr}
theorem rp_strs {K : PySem.W.Frag} {F H : Hp} {m : Md} {d : D} {v : V} {ns : List Str} (s : Same F H) (r : Rp K F H m d v) (e : txT d = some ns) : (∃ a, v = .ref a ∧ SqT K H a (ns.map V.str)) ∧ ∀ x ∈ ns, x.length ≤ sizeLine ∧ PyData.strOk x = true := by
  cases d with
  | tup ds =>
    obtain ⟨a, xs, rfl, h1, h2⟩ := rp_tupF r
    obtain ⟨rfl, h3⟩ := txD_rep e h2
    exact ⟨⟨a, rfl, Same.seqT s h1⟩, h3⟩
  | _ => cases e
theorem tG_us {σ : L2.St} {H : Hp} {Q : VK} (hK : C.K = X.K) (q : tG C (fun ρ => usR (ga ρ) (gb ρ)) σ H Q) :
    tCB (rSrt X) (tCons (tOp (rOr X) (tCB (rSet X) (tCons (tG C ga) tNil)) (tCB (rSet X) (tCons (tG C gb) tNil))) tNil) σ H Q := by
  show tG C ga σ H fun v H1 => rSet X [v] H1 fun sv H2 => tG C gb σ H2 fun u H3 => rSet X [u] H3 fun su H4 => rOr X sv su H4 fun r H5 => rSrt X [r] H5 Q
  rw [tG_eq] at q ⊢
  obtain ⟨ρ, F, R, w⟩ := q
  refine ⟨ρ, F, R, ?_⟩
  cases e1 : ga ρ with
  | stuck => simp only [usR, e1, Res.thn_stuck] at w; exact w
  | exc c => simp only [usR, e1, Res.thn_exc] at w; exact w
  | ok m d =>
    simp only [usR, e1, Res.thn_ok] at w
    intro v F1 H1 s1 r1 _
    cases t1 : txT d with
    | none => rw [t1] at w; exact w.elim
    | some ns =>
      rw [t1] at w
      dsimp only at w
      have l1 : ns.length ≤ 7 := by
        by_cases h : ns.length ≤ 7
        · exact h
        · rw [if_neg h] at w; exact w.elim
      rw [if_pos l1] at w
      obtain ⟨⟨a, rfl, sq⟩, k1⟩ := rp_strs s1.sub r1 t1
      rw [hK] at sq
      refine ⟨a, ns, rfl, sq, Nat.lt_of_le_of_lt l1 (by decide), fun A1 ys hA1 yn ym => ?_⟩
      have s2 : Step F H F1 (upd H1 A1 (sx X.w A1 ys)) := s1.trans (Step.fresh _ s1.sub hA1)
      have hy : ys.length ≤ ns.length := len_le yn fun y h => (ym y).mp h
      show tG C gb σ _ _
      rw [tG_eq]
      refine ⟨ρ, F1, R.step s2, ?_⟩
      cases e2 : gb ρ with
      | stuck => rw [e2] at w; exact w.elim
      | exc c => rw [e2] at w; exact fun F' H' s' => w F' H' (s2.trans s')
      | ok m' d' =>
        rw [e2] at w
        simp only [Res.thn_ok] at w
        intro u F3 H3 s3 r3 _
        cases t2 : txT d' with
        | none => rw [t2] at w; exact w.elim
        | some ms =>
          rw [t2] at w
          dsimp only at w
          have l2 : ms.length ≤ 7 := by
            by_cases h : ms.length ≤ 7
            · exact h
            · rw [if_neg h] at w; exact w.elim
          rw [if_pos l2] at w
          obtain ⟨⟨b, rfl, sq2⟩, k2⟩ := rp_strs s3.sub r3 t2
          rw [hK] at sq2
          refine ⟨b, ms, rfl, sq2, Nat.lt_of_le_of_lt l2 (by decide), fun B1 us hB1 un um => ?_⟩
          have hA3 : H3 A1 = some (sx X.w A1 ys) := s3.same _ _ upd_same
          have nAB : A1 ≠ B1 := ne_of_none hA3 hB1
          have hu : us.length ≤ ms.length := len_le un fun y h => (um y).mp h
          refine ⟨A1, B1, ys, us, rfl, rfl, nAB, by rw [upd_ne nAB]; exact hA3, upd_same, by omega, fun D1 zs hD1 zn zm => ?_⟩
          have hz : zs.length ≤ (ns ++ ms).length := len_le zn fun y h => List.mem_append.mpr (((zm y).mp h).imp (ym y).mp (um y).mp)
          rw [List.length_append] at hz
          refine ⟨D1, zs, rfl, upd_same, zn, by omega, fun L hL => ?_⟩
          have eu : uni zs = uni (ns ++ ms) := strict_ext (uni_strict _) (uni_strict _) fun y => by
            rw [uni_mem, uni_mem, zm, ym, um, List.mem_append]
          have s4 : Step F3 H3 F3 (upd H3 B1 (sx X.w B1 us)) := Step.fresh _ s3.sub hB1
          have s5 := s4.trans (Step.fresh (sx X.w D1 zs) s4.sub hD1)
          have s6 := s5.trans (Step.fresh (.lst ((uni zs).map V.str)) s5.sub hL)
          have sA := (s2.trans s3).trans s6
          refine w (.ref L) F3 _ sA ⟨L, rfl, s5.sub.free hL, _, upd_same, ?_⟩ fun _ a' ea' => ?_
          · rw [eu]
            exact repL_strs fun x hx => (List.mem_append.mp (uni_mem.mp hx)).elim (k1 x) (k2 x)
          · cases ea'
            cases q : H L with
            | none => rfl
            | some o => rw [((s2.trans s3).trans s5).same _ _ q] at hL; cases hL
end
end D3

namespace D3
open PySem PySem.Spec PyProof.Rows L2
theorem bb_sum : bootBuiltins "sum" = some (.builtin "sum") := by decide +kernel
theorem bb_reversed : bootBuiltins "reversed" = some (.type "reversed") := by decide +kernel
theorem vals_int_at : ∀ {ns : List Int} {its : List Value} {i : Nat} {v : Value}, Vals (ns.map V.int) its → its[i]? = some v → ∃ t, v = .int (ns.getD i 0) t
  | [], _, i, v, h, e => by cases h; simp at e
  | n :: ns, _, 0, v, h, e => by
    cases h with
    | cons r t =>
      obtain ⟨tk, rfl⟩ := r
      cases e
      exact ⟨tk, rfl⟩
  | n :: ns, _, i + 1, v, h, e => by
    cases h with
    | cons r t =>
      obtain ⟨t', h'⟩ := vals_int_at (ns := ns) (i := i) t e
      exact ⟨t', h'⟩
section
variable {C : Cw} {X : Cx} {ga gb : Rho → Res} {ea eb : Expr} {p p1 p2 q q1 q2 pos : Pos}
/-- sorted(set(a) | set(b)) -/
theorem pv_usort (hc : X.calm = true) (gs : Gl X "sorted") (ns : X.mg "sorted" = none) (gt : Gl X "set") (nt : X.mg "set" = none) (ha : PV C X ea ga) (hb : PV C X eb gb) (sa : notStar ea = true) (sb : notStar eb = true) :
    PV C X (.Call (.Name "sorted" p) [.BinOp (.Call (.Name "set" p1) [ea] [] q1) .BitOr (.Call (.Name "set" p2) [eb] [] q2) q] [] pos) (fun ρ => usR (ga ρ) (gb ρ)) := by
  refine PE.imp (pe_callB (call_srtR hc) gs ns bb_sorted (pa_cons (pe_op op_orR (pe_callTy (call_setR hc) gt nt bb_set (pa_cons ha pa_nil (star_cons sa)) (by decide) (by decide) (star_cons sa) rfl) (pe_callTy (call_setR hc) gt nt bb_set (pa_cons hb pa_nil (star_cons sb)) (by decide) (by decide) (star_cons sb) rfl)) pa_nil)) fun σ H Q w => ?_
  exact tG_us (X := X) rfl w
/-- sorted(l), l a list of unlike texts -/
def srtD : List (Md × D) → Option (Md × D)
  | [(_, .lst ds)] => match txD ds with
    | some ns => if ns.Nodup ∧ ns.length < 64 then some (.fr, .lst ((uni ns).map .str)) else none
    | none => none
  | _ => none
theorem call_srtL : CallR X (.builtin "sorted") (fun xs H Q => ∃ (p : Addr) (ns : List Str), xs = [.ref p] ∧ SqL X.K H p (ns.map V.str) ∧ ns.Nodup ∧ ns.length < 64 ∧ ∀ l, H l = none → Q (.ref l) (upd H l (.lst ((uni ns).map V.str)))) := by
  intro pins s σ H xs us Q I r h
  obtain ⟨p, ns, rfl, hp, hn, hz, q⟩ := h
  obtain ⟨u, rfl, rx⟩ := vals1 r
  cases rx
  obtain ⟨its, rv, pl, _⟩ := I.list hp
  have sa := strsAre_of rv
  have lz : its.length = ns.length := sa.length
  refine sorted_strs pl.isList sa (by rw [lz]; exact hz) fun out ys oa py so => ?_
  obtain ⟨e, he⟩ := sortedAll_at s.heap its out
  have e1 : uni ns = ys := strict_ext (uni_strict ns) (strict_of so (py.symm.nodup hn)) fun y => by rw [uni_mem, py.mem_iff]
  have le : ((uni ns).map V.str).length ≤ sizeLine := by rw [List.length_map, e1, py.length_eq, sizeLine_eq]; omega
  exact ⟨.ref (s.heap.objs.size + 1), _, I.laid (t' := s.toks) (fun b o e => sortedAll_old e) (Nat.le_succ _) (show ObjOk X.prog X.w _ _ _ (.lst ((uni ns).map V.str)) from ⟨le, out.toList, e, by rw [e1]; exact vals_strs oa, by simpa using he⟩), rfl, q _ (I.hok.fresh (Nat.le_succ _))⟩
theorem calld_srt : CallD X (.builtin "sorted") srtD := by
  refine ⟨_, call_srtL, fun F H xs vs k d Q s rx e w => ?_⟩
  unfold srtD at e
  split at e
  · rename_i m ds
    split at e
    · rename_i ns en
      split at e
      · rename_i hc
        cases e
        obtain ⟨v, rfl, r⟩ := rx.one
        obtain ⟨a, xs, rfl, q, rl⟩ := r.seqL s
        obtain ⟨rfl, k1⟩ := txD_rep en rl
        exact ⟨a, ns, rfl, q, hc.1, hc.2, fun l hl => w (.ref l) F _ (Step.fresh _ s hl) ⟨l, rfl, s.free hl, _, upd_same, repL_strs fun x hx => k1 x (uni_mem.mp hx)⟩ fun _ a ea => by cases ea; exact hl⟩
      · cases e
    · cases e
  · cases e
/-- sum(l), l a list of at most one int -/
def sumD : List (Md × D) → Option (Md × D)
  | [(_, .lst [])] => some (.fz, .int 0)
  | [(_, .lst [.int i])] => some (.fz, .int i)
  | _ => none
theorem call_sumL (hc : X.calm = true) : CallR X (.builtin "sum") (fun xs H Q => ∃ (p : Addr) (ns : List Int), xs = [.ref p] ∧ SqL X.K H p (ns.map V.int) ∧ Q (.int (preSum (fun i => ns.getD i 0) ns.length)) H) := by
  intro pins s σ H xs us Q I r h
  obtain ⟨p, ns, rfl, hp, q⟩ := h
  obtain ⟨u, rfl, rx⟩ := vals1 r
  cases rx
  obtain ⟨its, rv, pl, _⟩ := I.list hp
  have hl := pl.isList
  obtain ⟨ol, hol, hr⟩ := id hl
  have lp : p < s.heap.objs.size := Heap.lt_size hol
  have lz : its.length = ns.length := by have := rv.length; simpa using this.symm
  refine call_sum_walkG (wpAny_pyIter_list hl ⟨s.heap.objs.size, _, _, _, _, _, fun i => ns.getD i 0, rfl, Walks.list (A := X.A.in1) (I.ok.hd hc) s.heap.objs.size p (Nat.ne_of_lt lp) its.toArray, ⟨⟨_, Heap.get?_push_size _ rfl, rfl, rfl⟩, hl.push _⟩, fun b hb => ?_, fun i v hv => ?_, fun h' tk t' kp => ?_⟩)
  · simp only [List.mem_cons, List.not_mem_nil, or_false] at hb
    show b < (s.heap.push _).objs.size
    rw [size_push']
    rcases hb with rfl | rfl
    · exact Nat.lt_succ_self _
    · exact Nat.lt_succ_of_lt lp
  · have hv : its[i]? = some v := by simpa using hv
    exact vals_int_at rv hv
  · have I1 : L2.Inv X pins σ H { s with heap := h', toks := tk } := I.kept fun b o e => kp b o (by simp only [List.mem_cons, List.not_mem_nil, or_false]; exact Nat.ne_of_lt (Heap.lt_size e)) (Heap.get?_push_of_some _ e)
    refine ⟨.int _, H, I1, ⟨t', rfl⟩, ?_⟩
    simpa [lz] using q
theorem calld_sum (hc : X.calm = true) : CallD X (.builtin "sum") sumD := by
  refine ⟨_, call_sumL hc, fun F H xs vs k d Q s rx e w => ?_⟩
  unfold sumD at e
  split at e
  · cases e
    obtain ⟨v, rfl, r⟩ := rx.one
    obtain ⟨a, xs, rfl, q, rl⟩ := r.seqL s
    simp only [RepL] at rl
    subst rl
    exact ⟨a, [], rfl, q, w (.int 0) F H (.refl s) (by show RepV X.K F (.int 0) (.int 0); simp only [RepV]) (by intro z; cases z)⟩
  · rename_i m i
    cases e
    obtain ⟨v, rfl, r⟩ := rx.one
    obtain ⟨a, xs, rfl, q, rl⟩ := r.seqL s
    simp only [RepL, RepV] at rl
    obtain ⟨y, ys, rfl, rfl, rfl⟩ := rl
    refine ⟨a, [i], rfl, q, w (.int _) F H (.refl s) (by show RepV X.K F (.int i) (.int _); simp [RepV, preSum]) (by intro z; cases z)⟩
  · cases e
/-- a or b, as a value -/
def orVR (ra rb : Res) : Res := ra.thn fun m d => match truD d with
  | some true => .ok m d
  | some false => rb
  | none => .stuck
theorem pv_orV (ha : PV C X ea ga) (hb : PV C X eb gb) : PV C X (.BoolOp .Or [ea, eb] pos) (fun ρ => orVR (ga ρ) (gb ρ)) := by
  intro pins s σ H Q I h
  rw [tG_eq] at h
  obtain ⟨ρ, F, R, w⟩ := h
  refine BoolOp_or (thn (ha pins s σ H (fun x H1 => ∃ k, TruV X.K x H1 k ∧ if k = true then Q x H1 else tG (C.at X) gb σ H1 Q) I ?_) fun v s1 ⟨x, H1, I1, r1, k, tk, q1⟩ => ?_)
  · rw [tG_eq]
    refine ⟨ρ, F, R, ?_⟩
    cases e1 : ga ρ with
    | stuck => simp only [orVR, e1, Res.thn_stuck] at w; exact w
    | exc c => simp only [orVR, e1, Res.thn_exc] at w; exact w
    | ok m d =>
      simp only [orVR, e1, Res.thn_ok] at w
      intro v F1 H1 s1 r1 f1
      cases t1 : truD d with
      | none => rw [t1] at w; exact w.elim
      | some k =>
        rw [t1] at w
        refine ⟨k, truV_of s1.sub r1 t1, ?_⟩
        cases k with
        | true => exact w v F1 H1 s1 r1 f1
        | false =>
          rw [if_neg (by decide), tG_eq]
          exact ⟨ρ, F1, R.step s1, Want.step s1 w⟩
  · refine thn (tru_ok pins s1 σ H1 x v (fun c H2 => if c = true then Q x H2 else tG (C.at X) gb σ H2 Q) I1 r1 ⟨k, tk, q1⟩) fun c s2 ⟨H2, I2, q2⟩ => ?_
    cases c with
    | true => exact ⟨x, H2, I2, r1, by simpa using q2⟩
    | false => exact BoolOp_one (hb pins s2 σ H2 Q I2 (by simpa using q2))
end
end D3

namespace D3
open PySem PySem.Spec PyProof.Rows L2
/-! ### tuple(reversed(l)) -/
theorem rev_nolen : typeLookup (.type "list_reverseiterator") "__len__" = pure none := by rw [typeLookup_type, builtinLookup_eq_fast]; kernel_rfl
theorem rev_hint : typeLookup (.type "list_reverseiterator") "__length_hint__" = pure (some (.builtin "list_reverseiterator.__length_hint__")) := by rw [typeLookup_type, builtinLookup_eq_fast]; kernel_rfl
section
variable {prog : Program} {w : World} {A : Around} {E : Value → Shared → Prop} {s : Shared} {I l : Addr} {items : Array Value}
theorem hint_rev {Q : Bool → Shared → Prop} (ty : s.TypeIs (.ref I) "list_reverseiterator") (q : Q false s) : wpAny (model prog w) A (Builtin.List.listLengthHint (.ref I)) Q E s := by
  unfold Builtin.List.listLengthHint
  refine wpAny_bind (wpAny_specialOf ty rev_nolen ?_)
  show wpAny _ A (specialOf (Value.ref I) (Str.ofString "__length_hint__") >>= _) _ _ _
  refine wpAny_bind (wpAny_specialOf ty rev_hint ?_)
  generalize hi : ("list_reverseiterator.__length_hint__" : String) = j
  wp_delta
  rw [show splitId j = some ("list_reverseiterator", "__length_hint__") from by subst hi; decide +kernel]
  subst hi
  refine wpAny_bind (wpAny_isInstance (b := true) ty (by rw [isSubtype_type]; kernel_rfl) ?_)
  exact wpAny_pure q
theorem collect_rev {R : List Value → Shared → Prop} (hh : A.handled = none) (hne : l ≠ I) (hi : s.heap.IsRevIter I l ((items.size : Int) - 1)) (hl : s.heap.IsList l items) (hz : items.size ≤ sizeLine)
    (h : ∀ (h' : Heap) (tk : Nat), (∀ b o, b ≠ I → s.heap.get? b = some o → h'.get? b = some o) → R items.toList.reverse { s with heap := h', toks := tk }) : wpAny (model prog w) A (collect (.ref I)) R E s := by
  have W := Walks.listRev (prog := prog) (w := w) (A := A.in1) hh I l hne items
  have lI : I < s.heap.objs.size := let ⟨o, ho, _⟩ := hi; Heap.lt_size ho
  have ll : l < s.heap.objs.size := let ⟨o, ho, _⟩ := hl; Heap.lt_size ho
  have st0 : 0 ≤ items.size ∧ s.heap.IsRevIter I l ((items.size : Int) - 1 - ((0 : Nat) : Int)) ∧ s.heap.IsList l items := ⟨Nat.zero_le _, by simpa using hi, hl⟩
  have hSf : s.heap.objs.size ∉ [I, l] := by simp only [List.mem_cons, List.not_mem_nil, or_false, not_or]; exact ⟨Nat.ne_of_gt lI, Nat.ne_of_gt ll⟩
  unfold collect
  refine wpAny_bind (wpAny_runValue (codeAny_builtin PySem.F.entry_proto_collect ?_))
  rw [Around.under_plainId PySem.F.plain_proto_collect _]
  show wpAny (model prog w) A.in1 (newList [] >>= fun l => again (.builtin "list.__iadd__" ⟨[l, .ref I], []⟩)) _ _ s
  refine wpAny_bind (wpAny_newObj_type (wpAny_pure ⟨plainId_quiet PySem.F.plain_list_iadd _, codeAny_builtin PySem.F.entry_list_iadd ?_⟩))
  rw [Around.under_plainId PySem.F.plain_list_iadd _]
  have st1 := W.frame 0 s.heap (s.heap.push { cls := .type "list", data := .seq ([] : List Value).toArray }) st0 fun b _ o e => Heap.get?_push_of_some _ e
  have g0 : (s.heap.push { cls := .type "list", data := .seq ([] : List Value).toArray }).get? s.heap.objs.size = some { cls := .type "list", data := .seq ([] : List Value).toArray } := Heap.get?_push_size _ rfl
  show wpAny (model prog w) A.in1 (Builtin.List.listExtendWith (.ref s.heap.objs.size) (.ref I) (.ref s.heap.objs.size)) _ _ _
  unfold Builtin.List.listExtendWith
  have ty1 : Shared.TypeIs { s with heap := s.heap.push { cls := .type "list", data := .seq ([] : List Value).toArray } } (.ref I) "list_reverseiterator" := Heap.IsRevIter.typeIs (s := { s with heap := s.heap.push { cls := .type "list", data := .seq ([] : List Value).toArray } }) st1.2.1
  refine wpAny_bind (wpAny_typeOf ty1 ?_)
  have n1 : Builtin.List.listSameRef (.ref s.heap.objs.size) (.ref I) = false := by simp [Builtin.List.listSameRef, Nat.ne_of_gt lI]
  rw [if_neg (by rw [n1]; decide)]
  refine wpAny_bind (W.self 0 _ _ _ st1 (wpAny_bind (wpAny_holding (hint_rev ty1 ?_))))
  rw [if_neg (by decide)]
  refine wpAny_pure ⟨plainId_quiet PySem.F.plain_extend_loop _, codeAny_extend_loopS W.toS hz _ hSf _ items.size 0 _ _ _ rfl (Nat.zero_le _) st1 g0 (ItemsOf.nil _) fun s' acc c' hm hS' hacc => ?_⟩
  show wpAny _ A (load s.heap.objs.size >>= _) _ _ s'
  refine wpAny_bind (wpAny_load hS' (wpAny_pure ?_))
  have ea : acc.toList = items.toList.reverse := by
    apply List.ext_getElem
    · rw [Array.length_toList, hacc.1]; simp
    · intro k k1 k2
      have k1' : k < acc.size := by simpa using k1
      have e1 := hacc.2 k _ (Array.getElem?_eq_getElem k1')
      rw [hacc.1] at k1'
      rw [Array.getElem?_eq_getElem (by omega)] at e1
      rw [List.getElem_reverse]
      simp only [Array.getElem_toList, Array.length_toList]
      exact (Option.some.inj e1).symm
  rw [ea, Moved.eq_with hm]
  exact h s'.heap s'.toks fun b o nb e => hm.heap b o (by simp only [List.mem_cons, List.not_mem_nil, or_false, not_or]; exact ⟨Nat.ne_of_lt (Heap.lt_size e), nb⟩) (Heap.get?_push_of_some _ e)
theorem new_rev {Q1 : Value → Shared → Prop} (hh : A.handled = none) (hne : l ≠ I) (hi : s.heap.IsRevIter I l ((items.size : Int) - 1)) (hl : s.heap.IsList l items) (hz : items.size ≤ sizeLine)
    (h : ∀ (h' : Heap) (tk : Nat), (∀ b o, b ≠ I → s.heap.get? b = some o → h'.get? b = some o) → Q1 (.ref h'.objs.size) { s with heap := h'.push { cls := .type "tuple", data := .seq items.toList.reverse.toArray }, toks := tk }) :
    codeAny (model prog w) A (.call (.builtin "tuple.__new__") ⟨[.type "tuple", .ref I], []⟩) (wants Q1 E) s := by
  refine codeAny_call_builtin_code (plainId_quiet PySem.F.plain_tuple_new _) (wpAny_of_eq (PySem.F.newCall_tuple_1 _) (codeAny_builtin PySem.F.entry_tuple_new ?_))
  rw [Around.under_plainId PySem.F.plain_tuple_new _]
  have hsub := PySem.sub_tuple_self
  have hinit := init_tuple_lookup
  have hmh := madeHere_tuple
  have ty : s.TypeIs (.ref I) "list_reverseiterator" := hi.typeIs
  wp_walk using wpAny_typeOf ty, collect_rev (A := A.in1) hh hne hi hl hz
  intro h' tk kp
  show wpAny _ _ (Builtin.Tuple.tupleExact items.toList.reverse.toArray >>= fun v => ret v) _ _ _
  unfold Builtin.Tuple.tupleExact
  exact wpAny_bind (wpAny_newObj_type (wpAny_pure (h h' tk kp)) (by show items.toList.reverse.toArray.size ≤ sizeLine; simpa using hz))
theorem call_tuple_rev {Q : Value → Shared → Prop} (hh : A.handled = none) (hne : l ≠ I) (hi : s.heap.IsRevIter I l ((items.size : Int) - 1)) (hl : s.heap.IsList l items) (hz : items.size ≤ sizeLine)
    (h : ∀ (h' : Heap) (tk : Nat), (∀ b o, b ≠ I → s.heap.get? b = some o → h'.get? b = some o) → Q (.ref h'.objs.size) { s with heap := h'.push { cls := .type "tuple", data := .seq items.toList.reverse.toArray }, toks := tk }) :
    wpAny (model prog w) A (call (.type "tuple") [.ref I]) Q E s := by
  refine callType_codes (Q₁ := fun r s1 => s1.TypeIs r "tuple" ∧ Q r s1) PySem.F.called_tuple (PySem.F.typeCall_tuple_1 _) PySem.F.entry_object_init (new_rev (A := A.in1) hh hne hi hl hz fun h' tk kp => ⟨⟨_, Heap.get?_push_size _ rfl, rfl⟩, h h' tk kp⟩) fun r s1 x => ?_
  exact ⟨x.1, PySem.F.args_object_init_2 r _, object_init_meets PySem.F.called_tuple.init.lookup PySem.F.called_tuple.made (by decide) prog w A.in1 _ s1 ⟨x.1, rfl, x.2⟩⟩
end
def revR (r : Res) : Res := r.thn fun _ d => match d with | .lst ds => .ok .fz (.tup ds.reverse) | _ => .stuck
theorem repL_app {K : PySem.W.Frag} {F : Hp} : ∀ {ds es : List D} {xs ys : List V}, RepL K F ds xs → RepL K F es ys → RepL K F (ds ++ es) (xs ++ ys)
  | [], es, xs, ys, h, h' => by simp only [RepL] at h; subst h; exact h'
  | d :: ds, es, xs, ys, h, h' => by
    simp only [RepL] at h
    obtain ⟨y, zs, rfl, r, t⟩ := h
    simp only [List.cons_append, RepL]
    exact ⟨y, _, rfl, r, repL_app t h'⟩
theorem repL_rev {K : PySem.W.Frag} {F : Hp} : ∀ {ds : List D} {xs : List V}, RepL K F ds xs → RepL K F ds.reverse xs.reverse
  | [], xs, h => by simp only [RepL] at h; subst h; simp [RepL]
  | d :: ds, xs, h => by
    simp only [RepL] at h
    obtain ⟨y, zs, rfl, r, t⟩ := h
    rw [List.reverse_cons, List.reverse_cons]
    exact repL_app (repL_rev t) (by simp only [RepL]; exact ⟨y, [], rfl, r, rfl⟩)
theorem vals_snoc1 {xs : List V} {its : List Value} {x : V} {v : Value} (r : Vals xs its) (h : L2.RelV x v) : Vals (xs ++ [x]) (its ++ [v]) := by
  induction r with
  | nil => exact .cons h .nil
  | cons h' t ih => exact .cons h' ih
theorem vals_rev {xs : List V} {its : List Value} (r : Vals xs its) : Vals xs.reverse its.reverse := by
  induction r with
  | nil => exact .nil
  | cons h t ih =>
    rw [List.reverse_cons, List.reverse_cons]
    exact vals_snoc1 ih h
section
variable {C : Cw} {X : Cx} {ga : Rho → Res} {ea : Expr} {p p1 q1 pos : Pos}
/-- tuple(reversed(l)) -/
theorem pv_revT (hc : X.calm = true) (gt : Gl X "tuple") (nt : X.mg "tuple" = none) (gr : Gl X "reversed") (nr : X.mg "reversed" = none) (ha : PV C X ea ga) (sa : notStar ea = true) :
    PV C X (.Call (.Name "tuple" p) [.Call (.Name "reversed" p1) [ea] [] q1] [] pos) (fun ρ => revR (ga ρ)) := by
  intro pins s σ H Q I h
  refine wpAny_Call_Name_kw (ld_blt I gt nt bb_tuple ?_ (by decide) (by decide))
  refine PyProof.Rows.callWith_type1 ?_ rfl rfl
  show wpAny _ _ (spliced ((false, eval (.Call (.Name "reversed" p1) [ea] [] q1) X.env) :: backTo pos (starEach [] X.env))) _ _ s
  refine Calls.spliced_cons (wpAny_Call_Name_kw (ld_blt I gr nr bb_reversed ?_ (by decide) (by decide)))
  refine PyProof.Rows.callWith_type1 (thn ((pa_cons ha pa_nil (star_cons sa)) q1 pins s σ H (fun vs H1 => ∃ (a : Addr) (xs : List V), vs = [.ref a] ∧ SqL X.K H1 a xs ∧ ∀ l, H1 l = none → Q (.ref l) (upd H1 l (.tup xs.reverse))) I ?_) fun us s1 ⟨vs, H1, I1, r1, a, xs, ev, hq, w⟩ => ?_) (star_cons sa) rfl
  · show tG (C.at X) ga σ H fun v H1 => ∃ (a : Addr) (xs : List V), [v] = [V.ref a] ∧ SqL X.K H1 a xs ∧ ∀ l, H1 l = none → Q (.ref l) (upd H1 l (.tup xs.reverse))
    rw [tG_eq] at h ⊢
    obtain ⟨ρ, F, R, w⟩ := h
    refine ⟨ρ, F, R, ?_⟩
    cases e1 : ga ρ with
    | stuck => simp only [revR, e1, Res.thn_stuck] at w; exact w
    | exc c => simp only [revR, e1, Res.thn_exc] at w; exact w
    | ok m d =>
      simp only [revR, e1, Res.thn_ok] at w
      intro v F1 H1 s1 r1 _
      cases d with
      | lst ds =>
        obtain ⟨a, xs, rfl, q, rl⟩ := r1.seqL s1.sub
        exact ⟨a, xs, rfl, q, fun l hl => w (.ref l) _ _ (s1.trans (Step.laid (.tup xs.reverse) s1.sub hl)) (RepV.tup_of (s1.sub.free hl) (repL_rev rl)) (by intro z; cases z)⟩
      | _ => exact w.elim
  · subst ev
    obtain ⟨u, rfl, rx⟩ := vals1 r1
    cases rx
    obtain ⟨its, rv, pl, hz⟩ := I1.list hq
    have hl := pl.isList
    have la : a < s1.heap.objs.size := let ⟨o, ho, _⟩ := hl; Heap.lt_size ho
    have hz' : its.toArray.size ≤ sizeLine := by rw [List.size_toArray, ← rv.length]; exact hz
    refine call_reversed_list hl (Calls.spliced_nil ?_)
    refine call_tuple_rev (I := s1.heap.objs.size) (l := a) (items := its.toArray) (I1.ok.hd hc) (Nat.ne_of_lt la) ⟨_, Heap.get?_push_size _ rfl, rfl, rfl⟩ (hl.push _) hz' fun h' tk kp => ?_
    have k1 : ∀ b o, s1.heap.get? b = some o → h'.get? b = some o := fun b o e => kp b o (Nat.ne_of_lt (Heap.lt_size e)) (Heap.get?_push_of_some _ e)
    have I2 : L2.Inv X pins σ H1 { s1 with heap := h', toks := tk } := I1.kept k1
    exact ⟨.ref h'.objs.size, _, I2.laid (t' := tk) (fun b o e => Heap.get?_push_of_some _ e) (Nat.le_refl _) (show ObjOk X.prog X.w _ _ _ (.tup xs.reverse) from ⟨by rw [List.length_reverse]; exact hz, its.reverse, vals_rev rv, by simpa using PlainTp.new h' its.reverse.toArray⟩), rfl, w _ (I2.hok.fresh (Nat.le_refl _))⟩
end
end D3

namespace D3
open PySem PySem.Spec PyProof.Rows L2
/-- a text's join of a tuple of texts -/
def joinT : Md → D → List (Md × D) → Option (Md × D) := fun _ x xs => match x, xs with
  | .str z, [(_, d)] => (match txT d with
    | some ys => if (ys.map (·.length)).sum + ys.length * z.length ≤ sizeLine then some (.fz, .str (Txt.join z ys)) else none
    | none => none)
  | _, _ => none
theorem mtd_joinT {X : Cx} : MtD X "str.join" joinT := by
  refine ⟨fun v vs H Q => ∃ (z : Str) (a : Addr) (ys : List Str), v = .str z ∧ vs = [.ref a] ∧ SqT X.K H a (ys.map V.str) ∧ (ys.map (·.length)).sum + ys.length * z.length ≤ sizeLine ∧ Q (.str (Txt.join z ys)) H, ?_, ?_⟩
  · intro pins s σ H x xs v us Q I rx r h
    obtain ⟨z, a, ys, rfl, rfl, hq, hl, q⟩ := h
    obtain ⟨t, rfl⟩ := rx
    obtain ⟨u, rfl, ru⟩ := vals1 r
    cases (show u = Value.ref a from ru)
    obtain ⟨its, rv, p, hz⟩ := I.tuple hq
    have hs : sizeLine = 16777216 := sizeLine_eq
    exact join_tuple p (by simpa using strsAre_of rv) (by omega) fun t' k => ⟨.str (Txt.join z ys), H, I.tok _, ⟨_, rfl⟩, q⟩
  · intro F H m x xs v vs k d Q s rx rl e w
    unfold joinT at e
    split at e
    · rename_i z m' dd
      obtain ⟨rfl, hz, hk⟩ := rx.str
      obtain ⟨u, rfl, r⟩ := rl.one
      split at e
      · rename_i ys ey
        obtain ⟨⟨a, rfl, hq⟩, hys⟩ := rp_strs s r ey
        split at e
        · rename_i hl
          cases e
          refine ⟨z, a, ys, rfl, rfl, hq, hl, w _ F H (.refl s) (rp_str ⟨?_, ?_⟩) (by intro z; cases z)⟩
          · rw [txt_join]; exact Nat.le_trans (StrLaws.join_length_le z ys) hl
          · rw [txt_join]; exact strOk_join hk fun y hy => (hys y hy).2
        · cases e
      · cases e
    · cases e
end D3

set_option genSizeOfSpec false
set_option genInjectivity false
namespace D3
open PySem PySem.Spec PyProof.Rows L2
/-! ### a small language for what is read off the text, its matcher and its values -/
inductive KC where | s (y : Str) | i (n : Int) | t (tb : List (Str × Str))
  deriving DecidableEq
def KC.d : KC → D | .s y => .str y | .i n => .int n | .t _ => .non
inductive GV where | con (c : KC) | fn (n : Nat) | no | cls
  deriving DecidableEq
inductive Bn where | len | isinstance | all
  deriving DecidableEq
def Bn.name : Bn → Str
  | .len => "len" | .isinstance => "isinstance" | .all => "all"
def Bn.f : Bn → List (Md × D) → Option (Md × D)
  | .len => lenD | .isinstance => isiD | .all => allD
def Bn.id : Bn → String
  | .len => "len" | .isinstance => "isinstance" | .all => "all"
inductive Ty where | int | bool | str | tuple | list | dict
  deriving DecidableEq
def Ty.f : Ty → List (Md × D) → Option (Md × D)
  | .tuple => tcTuple | .list => tcList | .int => tcInt2 | .str => tcStr | .dict => tcDict | _ => fun _ => none
def Ty.id : Ty → String
  | .int => "int" | .bool => "bool" | .str => "str" | .tuple => "tuple" | .list => "list" | .dict => "dict"
inductive Mt where | join | startswith | removeprefix | joinT
  deriving DecidableEq
def Mt.name : Mt → Str | .join => "join" | .startswith => "startswith" | .removeprefix => "removeprefix" | .joinT => "join"
def Mt.ty : Mt → String | .join => "str" | .startswith => "str" | .removeprefix => "str" | .joinT => "str"
def Mt.f : Mt → Md → D → List (Md × D) → Option (Md × D) | .join => joinD | .startswith => swD | .removeprefix => rpD | .joinT => D3.joinT
/-- what is known of the whole text: the defs, the objects made, the classes -/
structure WD where
  Φ : Str → List D → Res
  I : Str → Option (List D → Res)
  cl : List CI
  xt : List ((Str × Str) × Bool)
  xi : List ((Str × Str) × Bool)
def WD.xf (W : WD) : Str → Str → Option Bool := fun c x => W.xt.lookup (c, x)
def WD.xg (W : WD) : Str → Str → Option Bool := fun c x => W.xi.lookup (c, x)
inductive E where
  | var (i : Nat) | non | bl (b : Bool) | int (i : Int) | str (x : Str)
  | glob (x : Str) (c : KC) | ty (t : Ty)
  | bin (op : Operator) (a b : E) | cmp (op : CmpOp) (a b : E)
  | andL (es : List E) | orL (es : List E) | not (a : E) | tru (a : E) | frz (a : E)
  | ix (a b : E) | slice (a : E) (lo hi : Option E)
  | tup (es : List E) | lst (es : List E)
  | call (f : Str) (n : Nat) (es : List E) | bcall (b : Bn) (es : List E) | mt (m : Mt) (o : E) (es : List E)
  | items (a : E) | rng1 (a : E) | zip2 (a b : E) | enum1 (a : E)
  | comp (elt it : E) (ts : List E) (caps : List Nat) (t : Tg) (n : Nat)
  | tcall (t : Ty) (es : List E)
 
  | usort (a b : E) | srt (a : E) | sum1 (a : E) | revT (a : E) | orV (a b : E)
 
 
  | isi (a : E) (c : Str) | meth (o : E) (m : Str) (es : List E) | mk0 (c : Str)
def noF : Md → D → Md → D → Option (Md × D) := fun _ _ _ _ => none
def fBin : Operator → Md → D → Md → D → Option (Md × D)
  | .Add => orO fAdd catD | .Sub => fSub | .Mult => orO fMul mulS0 | .Mod => fMod | .FloorDiv => fDiv | .Pow => fPow | _ => noF
def fCmp : CmpOp → Md → D → Md → D → Option (Md × D)
  | .Lt => orO fLt ltF | .LtE => fLe | .Gt => fGt | .GtE => fGe | .Eq => fEq | .NotEq => fNe | .In => orO fIn (inSq false) | .NotIn => orO fNotIn (inSq true) | .Is => fIs false | .IsNot => fIs true
mutual
def evE (W : WD) : E → Rho → Res
  | .var i, ρ => getS ρ i
  | .non, _ => .ok .fz .non
  | .bl b, _ => .ok .fz (.bl b)
  | .int i, _ => .ok .fz (.int i)
  | .str x, _ => .ok .fz (.str x)
  | .glob _ c, _ => .ok .fz c.d
  | .ty t, _ => .ok .fz (.ty t.id)
  | .bin op a b, ρ => op2 (fBin op) (evE W a ρ) (evE W b ρ)
  | .cmp op a b, ρ => op2 (fCmp op) (evE W a ρ) (evE W b ρ)
  | .andL es, ρ => evA W es ρ
  | .orL es, ρ => evO' W es ρ
  | .not a, ρ => notR (evE W a ρ)
  | .tru a, ρ => truR (evE W a ρ)
  | .frz a, ρ => frzR (evE W a ρ)
  | .ix a b, ρ => op2 ixD (evE W a ρ) (evE W b ρ)
  | .slice a lo hi, ρ => slP (evE W a ρ) (evO W lo) (evO W hi) ρ
  | .tup es, ρ => tupR (evEs W es ρ)
  | .lst es, ρ => lstR (evEs W es ρ)
  | .call f n es, ρ => callF n (W.Φ f) (evEs W es ρ)
  | .bcall b es, ρ => callR b.f (evEs W es ρ)
  | .mt m o es, ρ => mthR m.ty m.f (evE W o ρ) (evEs W es ρ)
  | .items a, ρ => itemsR (frzR (evE W a ρ))
  | .rng1 a, ρ => rng1R (consL (evE W a ρ) (.ok []))
  | .zip2 a b, ρ => zipR (consL (evE W a ρ) (consL (evE W b ρ) (.ok [])))
  | .enum1 a, ρ => enumR (consL (frzR (evE W a ρ)) (.ok []))
  | .comp elt it ts caps t n, ρ => compR (evE W it ρ) ρ caps n (setG t) (fun ρ => evF W ts ρ) (fun ρ => evE W elt ρ)
  | .tcall t es, ρ => callR t.f (evEs W es ρ)
  | .usort a b, ρ => usR (evE W a ρ) (evE W b ρ)
  | .srt a, ρ => callR srtD (consL (evE W a ρ) (.ok []))
  | .sum1 a, ρ => callR sumD (consL (evE W a ρ) (.ok []))
  | .revT a, ρ => revR (evE W a ρ)
  | .orV a b, ρ => orVR (evE W a ρ) (evE W b ρ)
  | .isi a c, ρ => isoR W.cl c (evE W a ρ)
  | .meth o m es, ρ => methR W.cl W.Φ m (evE W o ρ) (evEs W es ρ)
  | .mk0 c, _ => .ok .fr (.ins c [])
def evEs (W : WD) : List E → Rho → ResL
  | [], _ => .ok []
  | e :: es, ρ => consL (evE W e ρ) (evEs W es ρ)
def evA (W : WD) : List E → Rho → Res
  | [], _ => .stuck
  | [e], ρ => evE W e ρ
  | e :: es, ρ => andR (evE W e ρ) (evA W es ρ)
def evO' (W : WD) : List E → Rho → Res
  | [], _ => .stuck
  | [e], ρ => evE W e ρ
  | e :: es, ρ => orR (evE W e ρ) (evO' W es ρ)
def evF (W : WD) : List E → Rho → Res
  | [], _ => .ok .fz (.bl true)
  | e :: es, ρ => andR (evE W e ρ) (evF W es ρ)
def evL (W : WD) : List E → List (Rho → Res)
  | [] => []
  | e :: es => evE W e :: evL W es
def evO (W : WD) : Option E → Option (Rho → Res)
  | none => none
  | some e => some (evE W e)
end
/-- the matcher's surroundings -/
structure MG where
  G : List (Str × GV)
  mk0 : List Str
  mki : List (Str × Str × Nat)
  iso : List Str
  xcs : List Str
  xns : List Str
structure MC where
  N : List Str
  sc : Scope
  g : MG
  fn : Bool
  calm : Bool
  rz : Bool
def MC.kind (m : MC) (x : Str) : Option NameKind := m.sc.names.lookup x
def MC.vis (m : MC) (x : Str) : Bool := (m.kind x == some .local || m.kind x == some .cell || m.kind x == some .free) && x != "__debug__" && x != "__classdict__"
def MC.glob (m : MC) (x : Str) (v : GV) : Bool := m.kind x == some .globalImplicit && m.g.G.lookup x == some v && x != "__debug__" && x != "__name__"
def MC.gk (m : MC) (x : Str) : Bool := m.kind x == some .globalImplicit && x != "__debug__"
def strK (x : Str) : Bool := decide (x.length ≤ sizeLine) && PyData.strOk x
def notSl : Expr → Bool | .Slice .. => false | _ => true
def isTupT : Expr → Bool | .Tuple .. => true | _ => false
def notSet : Expr → Bool | .Set .. => false | _ => true
def plainT : Expr → Bool | .UnaryOp .Not _ _ => false | .BoolOp .. => false | .IfExp .. => false | .Compare .. => false | _ => true
def MC.sub (m : MC) (scope : Scope) (capN tgN : List Str) : MC := { m with N := capN ++ tgN, sc := { scope with names := relSc scope m.sc }, fn := false, rz := false }
def MC.loc (m : MC) (i : Nat) (x : Str) : Bool := m.N[i]? == some x && (m.kind x == some .local || (m.fn && m.kind x == some .cell))
mutual
def mG (m : MC) : Tg → Expr → Bool
  | .nm i, e => match e with | .Name x _ => m.loc i x | _ => false
  | .tp ts, e => match e with | .Tuple es _ _ => m.calm && es.all notStarT && mGs m ts es | _ => false
def mGs (m : MC) : List Tg → List Expr → Bool
  | [], es => es.isEmpty
  | t :: ts, l => match l with | e :: es => mG m t e && mGs m ts es | _ => false
end
/-- the names of a target, from the left -/
def tgNames : Nat → Expr → List Str
  | _, .Name x _ => [x]
  | n + 1, .Tuple es _ _ => es.flatMap (tgNames n)
  | _, _ => []
def compOkT (scope sc : Scope) (N : List Str) (caps : List Nat) (capN tgN : List Str) : Bool :=
  scope.names.all (fun y => y.2 != .cell) && scope.kind == .function && scope.names.all (fun y => y.2 != .local || scope.names.lookup y.1 == some .local) &&
  scope.names.all (fun y => y.2 != .free || sc.names.lookup y.1 == some .cell || sc.names.lookup y.1 == some .free) && (capN.map some == caps.map fun i => N[i]?) && capN.all (fun y => scope.names.contains (y, .free)) &&
  capN.all (fun y => (relSc scope sc).lookup y == some .cell || (relSc scope sc).lookup y == some .free) && decide (capN ++ tgN).Nodup
def strK' : KC → Bool | .s y => strK y | .i _ => true | .t _ => false
mutual
def mE (m : MC) : E → Expr → Bool
  | .frz a, e => mE m a e
  | .var i, e => match e with | .Name x _ => m.N[i]? == some x && m.vis x | _ => false
  | .glob y c, e => match e with | .Name x _ => x == y && m.glob x (.con c) && strK' c | _ => false
  | .ty t, e => match e with | .Name x _ => x == (t.id : Str) && m.glob x .no | _ => false
  | .non, e => match e with | .Constant .none _ _ => true | _ => false
  | .bl c, e => match e with | .Constant (.bool b) _ _ => b == c | _ => false
  | .int c, e => match e with | .Constant (.int b) _ _ => b == c | _ => false
  | .str c, e => match e with | .Constant (.str b) _ _ => b == c && strK b | _ => false
  | .bin op a b, e => match e with | .BinOp x o y _ => o == op && (mE m a x && mE m b y) | _ => false
  | .cmp op a b, e => match e with | .Compare x [o] [y] _ => o == op && notSet y && (mE m a x && mE m b y) | _ => false
  | .andL es, e => match e with | .BoolOp .And xs _ => mEs m es xs | _ => false
  | .orL es, e => match e with | .BoolOp .Or xs _ => mEs m es xs | _ => false
  | .not a, e => match e with | .UnaryOp .Not x _ => mE m a x | _ => false
  | .slice a l h, e => match e with | .Subscript x (.Slice lo hi none _) _ => mE m a x && (mO m l lo && mO m h hi) | _ => false
  | .ix a b, e => match e with | .Subscript x y _ => notSl y && (mE m a x && mE m b y) | _ => false
  | .tup fs, e => match e with | .Tuple es _ _ => mEs m fs es | _ => false
  | .lst fs, e => match e with | .List es _ => mEs m fs es | _ => false
  | .call g n es, e => match e with | .Call (.Name f _) (x :: xs) [] _ => m.calm && f == g && m.glob f (.fn n) && mEs m es (x :: xs) | _ => false
  | .bcall b es, e => match e with | .Call (.Name f _) (x :: xs) [] _ => (m.calm || b == .len || b == .isinstance) && f == b.name && m.glob f .no && mEs m es (x :: xs) | _ => false
  | .mt t a es, e => match e with | .Call (.Attribute o f ap) (x :: xs) [] cp => f == t.name && ap.endLine == cp.line && decide ((x :: xs).length < 30) && notSup o && (mE m a o && mEs m es (x :: xs)) | _ => false
  | .tcall t es, e => match e with | .Call (.Name f _) (x :: xs) [] _ => f == (t.id : Str) && m.glob f .no && mEs m es (x :: xs) | _ => false
  | .isi a c, e => match e with | .Call (.Name f _) [x, .Name d _] [] _ => f == "isinstance" && m.glob f .no && d == c && m.glob d .cls && m.g.iso.contains d && notStar x && mE m a x | _ => false
  | .meth a f es, e => match e with | .Call (.Attribute o g ap) xs [] cp => m.calm && g == f && ap.endLine == cp.line && decide (xs.length < 30) && notSup o && (mE m a o && mEs m es xs) | _ => false
  | .mk0 c, e => match e with | .Call (.Name f _) [] [] _ => f == c && m.glob f .cls && m.g.mk0.contains f | _ => false
  | .usort a b, e => match e with | .Call (.Name f _) [.BinOp (.Call (.Name g _) [x] [] _) .BitOr (.Call (.Name g' _) [y] [] _) _] [] _ => m.calm && f == "sorted" && g == "set" && g' == "set" && m.glob f .no && m.glob g .no && notStar x && notStar y && (mE m a x && mE m b y) | _ => false
  | .srt a, e => match e with | .Call (.Name f _) [x] [] _ => f == "sorted" && m.glob f .no && notStar x && mE m a x | _ => false
  | .sum1 a, e => match e with | .Call (.Name f _) [x] [] _ => m.calm && f == "sum" && m.glob f .no && notStar x && mE m a x | _ => false
  | .revT a, e => match e with | .Call (.Name f _) [.Call (.Name g _) [x] [] _] [] _ => m.calm && f == "tuple" && g == "reversed" && m.glob f .no && m.glob g .no && notStar x && mE m a x | _ => false
  | .orV a b, e => match e with | .BoolOp .Or [x, y] _ => mE m a x && mE m b y | _ => false
  | .comp el it ts caps t n, e => match e with
    | .ListComp elt [⟨tg, iter, ifs, 0⟩] scope _ =>
      let capN := caps.filterMap fun i => m.N[i]?
      let tgN := tgNames 4 tg
      m.calm && compOkT scope m.sc m.N caps capN tgN && notSet iter && decide (tgN.length = n) && (slotsG t).all (fun j => decide (caps.length ≤ j)) && mG (m.sub scope capN tgN) t tg && (mI m tg it iter && (mE (m.sub scope capN tgN) el elt && mF (m.sub scope capN tgN) ts ifs))
    | _ => false
  | .tru _, _ => false
  | .items _, _ => false
  | .rng1 _, _ => false
  | .zip2 _ _, _ => false
  | .enum1 _, _ => false
def mT (m : MC) : E → Expr → Bool
  | .tru a, e => plainT e && mE m a e
  | .cmp op a b, e => match e with | .Compare x [o] [y] _ => o == op && notSet y && (mE m a x && mE m b y) | _ => false
  | .andL es, e => match e with | .BoolOp .And xs _ => mF m es xs | _ => false
  | .orL es, e => match e with | .BoolOp .Or xs _ => mF m es xs | _ => false
  | .not a, e => match e with | .UnaryOp .Not x _ => mT m a x | _ => false
  | _, _ => false
def mI (m : MC) (tg : Expr) : E → Expr → Bool
  | .items a, e => mE m a e
  | .rng1 a, e => match e with | .Call (.Name f _) [x] [] _ => f == "range" && m.glob f .no && notStar x && mE m a x | _ => false
  | .zip2 a b, e => match e with | .Call (.Name f _) [x, y] [] _ => f == "zip" && isTupT tg && m.glob f .no && notStar x && notStar y && (mE m a x && mE m b y) | _ => false
  | .enum1 a, e => match e with | .Call (.Name f _) [x] [] _ => f == "enumerate" && isTupT tg && m.glob f .no && notStar x && mE m a x | _ => false
  | _, _ => false
def mEs (m : MC) : List E → List Expr → Bool
  | [], es => es.isEmpty
  | e :: es, l => match l with | x :: xs => notStar x && mE m e x && mEs m es xs | _ => false
def mO (m : MC) : Option E → Option Expr → Bool
  | none, e => e.isNone
  | some e, l => match l with | some x => mE m e x | _ => false
def mF (m : MC) : List E → List Expr → Bool
  | [], es => es.isEmpty
  | e :: es, l => match l with | x :: xs => mT m e x && mF m es xs | _ => false
end
/-- what a text's surroundings give -/
structure SX (k : Nat) (W : WD) (m : MC) (C : Cw) (X : Cx) : Prop where
  hN : X.N = m.N
  hs : X.env.scope = m.sc
  cm : m.calm = true → X.calm = true
  rm : m.calm = true → Room k X.A
  un : X.A.units + 64 < cLine
  xo : m.calm = true → XOk (CX1 X.prog X.w) (C.at X) X
  xt : XtOk X.K X.mg W.xf
  xi : XisOk X.K X.mg W.xg
  xc : ∀ c, c ∈ m.g.xcs → ∃ Cc, X.mg c = some (.ref Cc) ∧ RzCls X.K Cc
  xn : ∀ n, n ∈ m.g.xns → ∃ cv, ClsV X.mg n cv
  con : ∀ x c, m.g.G.lookup x = some (.con c) → match c with | .s y => ∃ t, X.mg x = some (.str y t) | .i n => ∃ t, X.mg x = some (.int n t) | .t tb => TabV X.w X.K X.mg x tb
  no : ∀ x, m.g.G.lookup x = some .no → X.mg x = none
  mk0 : ∀ c, c ∈ m.g.mk0 → MkV0 X.K X.mg c
  mki : ∀ c key n, (c, key, n) ∈ m.g.mki → ∀ Φ, W.I key = some Φ → ∃ j, j + 1 ≤ k ∧ InV X.prog X.w X.K X.mg X.base (CX1 X.prog X.w) j c n Φ
  iso : ∀ c, c ∈ m.g.iso → IsV X.K X.mg W.cl c
  fl : ∀ i f, i ∈ W.cl → f ∈ i.flds → FlV X.K i.name f
  mt : ∀ c m key n, CI.meth W.cl c m = some (key, n) → MtV X.prog X.w X.K X.mg X.base (CX1 X.prog X.w) k c m n (W.Φ key)
  fn : ∀ x n, m.g.G.lookup x = some (.fn n) → FnV X.prog X.w X.K X.mg X.base (CX1 X.prog X.w) k x n (W.Φ x)
  fnn : m.fn = true → ∀ x, X.fn x = true
section
variable {k : Nat} {W : WD} {m : MC} {C : Cw} {X : Cx} {x y : Expr}
theorem SX.gl (S : SX k W m C X) {z : Str} {v : GV} (h : m.glob z v = true) : Gl X z ∧ m.g.G.lookup z = some v ∧ (z == ("__debug__" : Str)) = false ∧ z ≠ "__name__" := by
  unfold MC.glob MC.kind at h
  simp only [Bool.and_eq_true, beq_iff_eq, bne_iff_ne] at h
  obtain ⟨⟨⟨h1, h2⟩, h3⟩, h4⟩ := h
  refine ⟨?_, h2, by simpa using h3, h4⟩
  show X.env.scope.names.lookup z = _
  rw [S.hs]; exact h1
theorem SX.vis (S : SX k W m C X) {z : Str} (h : m.vis z = true) : Vis X.env.scope z ∧ (z == ("__debug__" : Str)) = false ∧ (z == ("__classdict__" : Str)) = false := by
  unfold MC.vis MC.kind at h
  simp only [Bool.and_eq_true, Bool.or_eq_true, beq_iff_eq, bne_iff_ne] at h
  obtain ⟨⟨h1, h2⟩, h3⟩ := h
  refine ⟨?_, by simpa using h2, by simpa using h3⟩
  unfold Vis
  rw [S.hs]
  rcases h1 with (h1 | h1) | h1
  · exact .inl h1
  · exact .inr (.inl h1)
  · exact .inr (.inr h1)
theorem bn_boot (b : Bn) : bootBuiltins b.name = some (.builtin b.id) := by
  cases b
  · exact bb_len
  · exact bb_isinstance
  · exact bb_all
theorem bn_call (b : Bn) {c : Bool} (hc : c = true → X.calm = true) (h : (c || b == .len || b == .isinstance) = true) : CallD X (.builtin b.id) b.f := by
  have hc : (b == .len || b == .isinstance) = false → X.calm = true := fun z => hc (by cases c with | true => rfl | false => rw [Bool.false_or] at h; rw [h] at z; cases z)
  cases b
  · exact calld_len
  · exact calld_isi
  · exact calld_all (hc rfl)
theorem no_call {f : Value} : CallD X f (fun _ => none) := ⟨fun _ _ _ => False, fun _ _ _ _ _ _ _ _ _ h => h.elim, fun _ _ _ _ _ _ _ _ _ e _ => by cases e⟩
theorem ty_call (t : Ty) : CallD X (.type t.id) t.f := by
  cases t
  · exact calld_int2
  · exact no_call
  · exact calld_str
  · exact calld_tuple
  · exact calld_list
  · exact calld_dict
theorem ty_boot (t : Ty) : bootBuiltins (t.id : Str) = some (.type t.id) := by
  cases t
  · exact bb_int
  · exact bb_bool
  · exact bb_str
  · exact bb_tuple
  · exact bb_list
  · exact bb_dict
theorem bin_op (op : Operator) : (∃ φ, fBin op = φ ∧ OpD C X (binaryOp op) φ) ∨ fBin op = noF := by
  cases op
  case Add => exact .inl ⟨_, rfl, o_add.or opd_cat⟩
  case Sub => exact .inl ⟨_, rfl, opd_sub⟩
  case Mult => exact .inl ⟨_, rfl, o_mul.or opd_mulS0⟩
  case Mod => exact .inl ⟨_, rfl, opd_mod⟩
  case FloorDiv => exact .inl ⟨_, rfl, opd_fdiv⟩
  case Pow => exact .inl ⟨_, rfl, opd_pow⟩
  all_goals exact .inr rfl
theorem isB_noK : IsB noK := fun _ _ _ _ _ _ z => by cases z
theorem cmp_op (op : CmpOp) (hu : X.A.units + 64 < cLine) : (OpD C X (compareOp op) (fCmp op) ∧ IsB (fCmp op)) ∨ fCmp op = noF := by
  cases op
  case Lt => exact .inl ⟨opd_lt.or (opd_ltF hu), isB_or isB_I isB_ltF⟩
  case LtE => exact .inl ⟨opd_le, isB_I⟩
  case Gt => exact .inl ⟨opd_gt, isB_I⟩
  case GtE => exact .inl ⟨opd_ge, isB_I⟩
  case Eq => exact .inl ⟨o_eq hu, isB_or isB_eqF isB_noK⟩
  case NotEq => exact .inl ⟨o_ne hu, isB_or isB_eqF isB_noK⟩
  case In => exact .inl ⟨opd_inS.or (opd_insq op_in_seq), isB_or isB_S isB_insq⟩
  case NotIn => exact .inl ⟨opd_notinS.or (opd_insq op_notIn_seq), isB_or isB_S isB_insq⟩
  case Is => exact .inl ⟨opd_is, isB_is⟩
  case IsNot => exact .inl ⟨opd_isnot, isB_is⟩
theorem noF_opd {f : Value → Value → Sem Value} : OpD C X f noF := ⟨fun _ _ _ _ => False, fun _ _ _ _ _ _ _ _ _ _ _ _ h => h.elim, fun _ _ _ _ _ _ _ _ _ _ _ _ _ _ e _ => by cases e⟩
theorem bin_opd (op : Operator) : OpD C X (binaryOp op) (fBin op) := by
  rcases bin_op (C := C) (X := X) op with ⟨φ, e, h⟩ | e
  · rw [e]; exact h
  · rw [e]; exact noF_opd
theorem cmp_opd (op : CmpOp) (hu : X.A.units + 64 < cLine) : OpD C X (compareOp op) (fCmp op) ∧ IsB (fCmp op) := by
  rcases cmp_op (C := C) op hu with h | e
  · exact h
  · rw [e]; exact ⟨noF_opd, fun _ _ _ _ _ _ z => by cases z⟩
theorem nomarkS (op : CmpOp) {e : Expr} (h : notSet e = true) : behindInMarks op e = false := by
  cases e <;> first | rfl | cases h
theorem nofold {e : Expr} {env : Env} (h : notSet e = true) : ∀ v, foldedSetIterable e env v = pure v := by
  intro v
  cases e <;> first | rfl | cases h
theorem plainIx {e : Expr} (h : notSl e = true) : PlainIx e := by
  intro o i
  cases e <;> first | rfl | cases h
theorem plain_true {e : Expr} {env : Env} (h : plainT e = true) : ∀ whole, isTrue e env whole = (do let v ← whole; standAt e.pos; holding [v] (truthy v)) := by
  intro whole
  cases e
  case UnaryOp op _ _ => cases op <;> first | rfl | cases h
  all_goals first | rfl | cases h
theorem SX.sub (S : SX k W m C X) {scope : Scope} {capN tgN : List Str} (cl : List (Str × Addr)) (A : Addr) (fp : List Addr) (s3 : Shared) (H3 : Hp) : SX k W (m.sub scope capN tgN) C.nox (compCx X scope (capN ++ tgN) cl A fp s3 H3) := by
  refine ⟨rfl, ?_, S.cm, S.rm, S.un, fun _ pins σ H s e s' I h => ?_, S.xt, S.xi, S.xc, S.xn, S.con, S.no, S.mk0, S.mki, S.iso, S.fl, S.mt, S.fn, fun z => by cases z⟩
  rotate_left
  · obtain ⟨_, _, _, _, _, _, _, _, _, _, _, _, z⟩ := h
    exact z.elim
  show (compEnvC scope cl A X.env).scope = _
  unfold MC.sub
  rw [← S.hs]
  rfl
theorem SX.loc (S : SX k W m C X) {i : Nat} {z : Str} (h : m.loc i z = true) : X.N[i]? = some z ∧ L2.Loc X.env.scope z ∧ (X.fn z = true ∨ X.env.scope.names.lookup z = some .local) := by
  unfold MC.loc MC.kind at h
  simp only [Bool.and_eq_true, Bool.or_eq_true, beq_iff_eq] at h
  refine ⟨by rw [S.hN]; exact h.1, ?_, ?_⟩
  · unfold L2.Loc
    rw [S.hs]
    rcases h.2 with q | q
    · exact .inl q
    · exact .inr q.2
  · rw [S.hs]
    rcases h.2 with q | q
    · exact .inr q
    · exact .inl (S.fnn q.1 z)
mutual
theorem sG (S : SX k W m C X) (hN : m.N.Nodup) : ∀ (t : Tg) {e : Expr}, mG m t e = true → PGw X e t
  | .nm i, e, h => by
    simp only [mG] at h
    split at h
    · obtain ⟨a, b, c⟩ := S.loc h
      exact pgw_name (by rw [S.hN]; exact hN) a b c
    · cases h
  | .tp ts, e, h => by
    simp only [mG] at h
    split at h
    · rw [Bool.and_eq_true, Bool.and_eq_true, List.all_eq_true] at h
      obtain ⟨p, l⟩ := sGs S hN ts h.2 h.1.2
      exact pgw_tup (S.cm h.1.1) p h.1.2 l
    · cases h
theorem sGs (S : SX k W m C X) (hN : m.N.Nodup) : ∀ (ts : List Tg) {es : List Expr}, mGs m ts es = true → (∀ e ∈ es, notStarT e = true) → PGws X es ts ∧ es.length = ts.length
  | [], [], h, _ => ⟨pgws_nil, rfl⟩
  | [], _ :: _, h, _ => by simp [mGs] at h
  | t :: ts, [], h, _ => by simp [mGs] at h
  | t :: ts, e :: es, h, hs => by
    simp only [mGs, Bool.and_eq_true] at h
    obtain ⟨p, l⟩ := sGs S hN ts h.2 fun x hx => hs x (List.mem_cons_of_mem _ hx)
    exact ⟨pgws_cons (sG S hN t h.1) p (hs e List.mem_cons_self), by rw [List.length_cons, List.length_cons, l]⟩
end
end
end D3

namespace D3
open PySem PySem.Spec PyProof.Rows L2
theorem mEs_star {m : MC} : ∀ {fs : List E} {es : List Expr}, mEs m fs es = true → ∀ x ∈ es, notStar x = true
  | [], [], _ => fun x hx => by cases hx
  | [], _ :: _, h => by simp [mEs] at h
  | f :: fs, [], h => by simp [mEs] at h
  | f :: fs, e :: es, h => by
    simp only [mEs, Bool.and_eq_true] at h
    intro x hx
    rcases List.mem_cons.mp hx with rfl | hx
    · exact h.1.1
    · exact mEs_star h.2 x hx
set_option maxHeartbeats 4000000 in
mutual
theorem sE {k : Nat} {W : WD} : ∀ (f : E) {m : MC} {C : Cw} {X : Cx} {e : Expr}, SX k W m C X → mE m f e = true → PV C X e (evE W f)
  | .frz a, m, C, X, e, S, h => by exact pv_frz (sE a S h)
  | .var i, m, C, X, e, S, h => by
    conv at h => lhs; whnf
    split at h
    · simp only [Bool.and_eq_true, beq_iff_eq] at h
      obtain ⟨h1, h2, h3⟩ := S.vis h.2
      exact pv_var i (pe_var (by rw [S.hN]; exact h.1) h1 h2 h3)
    · cases h
  | .glob y c, m, C, X, e, S, h => by
    conv at h => lhs; whnf
    split at h
    · simp only [Bool.and_eq_true, beq_iff_eq] at h
      obtain ⟨⟨rfl, h1⟩, h2⟩ := h
      obtain ⟨g, l, hd, hn⟩ := S.gl h1
      have := S.con _ _ l
      cases c with
      | s y => obtain ⟨t, ht⟩ := this; exact pv_globS g ht h2 hd
      | i n => obtain ⟨t, ht⟩ := this; exact pv_globI g ht hd
      | t tb => cases h2
    · cases h
  | .ty t, m, C, X, e, S, h => by
    conv at h => lhs; whnf
    split at h
    · simp only [Bool.and_eq_true, beq_iff_eq] at h
      obtain ⟨rfl, h1⟩ := h
      obtain ⟨g, l, hd, hn⟩ := S.gl h1
      exact pv_ty g (S.no _ l) (ty_boot t) hn hd
    · cases h
  | .non, m, C, X, e, S, h => by
    conv at h => lhs; whnf
    split at h
    · exact pv_non
    · cases h
  | .bl c, m, C, X, e, S, h => by
    conv at h => lhs; whnf
    split at h
    · simp only [beq_iff_eq] at h; subst h; exact pv_bl
    · cases h
  | .int c, m, C, X, e, S, h => by
    conv at h => lhs; whnf
    split at h
    · simp only [beq_iff_eq] at h; subst h; exact pv_int
    · cases h
  | .str c, m, C, X, e, S, h => by
    conv at h => lhs; whnf
    split at h
    · simp only [Bool.and_eq_true, beq_iff_eq] at h; obtain ⟨rfl, h⟩ := h; exact pv_str h
    · cases h
  | .bin op a b, m, C, X, e, S, h => by
    conv at h => lhs; whnf
    split at h
    · simp only [Bool.and_eq_true, beq_iff_eq] at h
      obtain ⟨rfl, h1, h2⟩ := h
      exact pv_op (bin_opd _) (sE a S h1) (sE b S h2)
    · cases h
  | .cmp op a b, m, C, X, e, S, h => by
    conv at h => lhs; whnf
    split at h
    · simp only [Bool.and_eq_true, beq_iff_eq] at h
      obtain ⟨⟨rfl, hs⟩, h1, h2⟩ := h
      exact pv_cmp (cmp_opd _ S.un).1 (sE a S h1) (sE b S h2) (nomarkS _ hs)
    · cases h
  | .andL es, m, C, X, e, S, h => by
    conv at h => lhs; whnf
    split at h
    · exact sA es S h
    · cases h
  | .orL es, m, C, X, e, S, h => by
    conv at h => lhs; whnf
    split at h
    · exact sOr es S h
    · cases h
  | .not a, m, C, X, e, S, h => by
    conv at h => lhs; whnf
    split at h
    · exact pv_notv (sE a S h)
    · cases h
  | .tru a, m, C, X, e, S, h => by cases h
  | .items a, m, C, X, e, S, h => by cases h
  | .rng1 a, m, C, X, e, S, h => by cases h
  | .zip2 a b, m, C, X, e, S, h => by cases h
  | .enum1 a, m, C, X, e, S, h => by cases h
  | .tcall t es, m, C, X, e, S, h => by
    conv at h => lhs; whnf
    split at h
    · simp only [Bool.and_eq_true, beq_iff_eq] at h
      obtain ⟨⟨rfl, h1⟩, h2⟩ := h
      obtain ⟨gl, l, hd, hn⟩ := S.gl h1
      exact pv_callTy (ty_call t) gl (S.no _ l) (ty_boot t) (sEs es S h2) hn hd (mEs_star h2)
    · cases h
  | .isi a c, m, C, X, e, S, h => by
    conv at h => lhs; whnf
    split at h
    · simp only [Bool.and_eq_true, beq_iff_eq, List.contains_iff_mem] at h
      obtain ⟨⟨⟨⟨⟨⟨rfl, h1⟩, rfl⟩, h2⟩, h3⟩, h4⟩, h5⟩ := h
      obtain ⟨gl, l, hd, hn⟩ := S.gl h1
      obtain ⟨gl2, l2, hd2, hn2⟩ := S.gl h2
      exact pv_isi (S.iso _ h3) gl (S.no _ l) gl2 hd2 (sE a S h5) h4
    · cases h
  | .meth a f es, m, C, X, e, S, h => by
    conv at h => lhs; whnf
    split at h
    · simp only [Bool.and_eq_true, beq_iff_eq, decide_eq_true_eq] at h
      obtain ⟨⟨⟨⟨⟨hq, rfl⟩, h1⟩, h2⟩, h3⟩, h4, h5⟩ := h
      exact methcall_V S.mt (S.rm hq) (S.xo hq) (sE a S h4) (sEs es S h5) h3 (mEs_star h5) h2 h1 fun e0 => by
        subst e0
        cases es with
        | nil => funext ρ; simp only [evEs]
        | cons _ _ => simp [mEs] at h5
    · cases h
  | .mk0 c, m, C, X, e, S, h => by
    conv at h => lhs; whnf
    split at h
    · simp only [Bool.and_eq_true, beq_iff_eq, List.contains_iff_mem] at h
      obtain ⟨⟨rfl, h1⟩, h2⟩ := h
      obtain ⟨gl, l, hd, hn⟩ := S.gl h1
      exact pv_mk0 (S.mk0 _ h2) gl hd
    · cases h
  | .slice a l u, m, C, X, e, S, h => by
    conv at h => lhs; whnf
    split at h
    · simp only [Bool.and_eq_true] at h
      obtain ⟨h0, h1, h2⟩ := h
      exact pv_cut (sE a S h0) (sO l S h1) (sO u S h2)
    · cases h
  | .ix a b, m, C, X, e, S, h => by
    conv at h => lhs; whnf
    split at h
    · simp only [Bool.and_eq_true] at h
      obtain ⟨h0, h1, h2⟩ := h
      exact pv_ix (sE a S h1) (sE b S h2) (plainIx h0)
    · cases h
  | .usort a b, m, C, X, e, S, h => by
    conv at h => lhs; whnf
    split at h
    · simp only [Bool.and_eq_true, beq_iff_eq] at h
      obtain ⟨⟨⟨⟨⟨⟨⟨⟨hq, rfl⟩, rfl⟩, rfl⟩, h1⟩, h2⟩, s1⟩, s2⟩, h3, h4⟩ := h
      obtain ⟨gl, l, hd, hn⟩ := S.gl h1
      obtain ⟨gl', l', hd', hn'⟩ := S.gl h2
      exact pv_usort (S.cm hq) gl (S.no _ l) gl' (S.no _ l') (sE a S h3) (sE b S h4) s1 s2
    · cases h
  | .srt a, m, C, X, e, S, h => by
    conv at h => lhs; whnf
    split at h
    · simp only [Bool.and_eq_true, beq_iff_eq] at h
      obtain ⟨⟨⟨rfl, h1⟩, hs⟩, h2⟩ := h
      obtain ⟨gl, l, hd, hn⟩ := S.gl h1
      exact pv_callB calld_srt gl (S.no _ l) bb_sorted (pav_cons (sE a S h2) pav_nil (star_cons hs)) hn hd (star_cons hs) rfl
    · cases h
  | .sum1 a, m, C, X, e, S, h => by
    conv at h => lhs; whnf
    split at h
    · simp only [Bool.and_eq_true, beq_iff_eq] at h
      obtain ⟨⟨⟨⟨hq, rfl⟩, h1⟩, hs⟩, h2⟩ := h
      obtain ⟨gl, l, hd, hn⟩ := S.gl h1
      exact pv_callB (calld_sum (S.cm hq)) gl (S.no _ l) bb_sum (pav_cons (sE a S h2) pav_nil (star_cons hs)) hn hd (star_cons hs) rfl
    · cases h
  | .revT a, m, C, X, e, S, h => by
    conv at h => lhs; whnf
    split at h
    · simp only [Bool.and_eq_true, beq_iff_eq] at h
      obtain ⟨⟨⟨⟨⟨⟨hq, rfl⟩, rfl⟩, h1⟩, h2⟩, hs⟩, h3⟩ := h
      obtain ⟨gl, l, hd, hn⟩ := S.gl h1
      obtain ⟨gl', l', hd', hn'⟩ := S.gl h2
      exact pv_revT (S.cm hq) gl (S.no _ l) gl' (S.no _ l') (sE a S h3) hs
    · cases h
  | .orV a b, m, C, X, e, S, h => by
    conv at h => lhs; whnf
    split at h
    · simp only [Bool.and_eq_true] at h
      exact pv_orV (sE a S h.1) (sE b S h.2)
    · cases h
  | .tup es, m, C, X, e, S, h => by
    conv at h => lhs; whnf
    split at h
    · exact pv_tup (sEs es S h)
    · cases h
  | .lst es, m, C, X, e, S, h => by
    conv at h => lhs; whnf
    split at h
    · exact pv_lst (sEs es S h)
    · cases h
  | .call g n es, m, C, X, e, S, h => by
    conv at h => lhs; whnf
    split at h
    · rename_i f p x xs cp
      simp only [Bool.and_eq_true, beq_iff_eq] at h
      obtain ⟨⟨⟨hq, rfl⟩, h1⟩, h2⟩ := h
      obtain ⟨gl, l, hd, hn⟩ := S.gl h1
      have st := mEs_star h2
      exact pv_call (S.fn _ _ l) (S.rm hq) (S.xo hq) gl (sEs es S h2) hd (star_cons (st x List.mem_cons_self)) (star_any _ _ fun y hy => st y (List.mem_cons_of_mem _ hy))
    · cases h
  | .bcall b es, m, C, X, e, S, h => by
    conv at h => lhs; whnf
    split at h
    · rename_i f p x xs cp
      rw [Bool.and_eq_true, Bool.and_eq_true, Bool.and_eq_true] at h
      obtain ⟨⟨⟨hq, hz⟩, h1⟩, h2⟩ := h
      cases (beq_iff_eq.mp hz)
      obtain ⟨gl, l, hd, hn⟩ := S.gl h1
      have st := mEs_star h2
      exact pv_callB (bn_call b S.cm hq) gl (S.no _ l) (bn_boot b) (sEs es S h2) hn hd (star_cons (st x List.mem_cons_self)) (star_any _ _ fun y hy => st y (List.mem_cons_of_mem _ hy))
    · cases h
  | .mt t a es, m, C, X, e, S, h => by
    conv at h => lhs; whnf
    split at h
    · rename_i o f ap x xs cp
      simp only [Bool.and_eq_true, beq_iff_eq, decide_eq_true_eq] at h
      obtain ⟨⟨⟨⟨rfl, hl⟩, h30⟩, hc⟩, h1, h2⟩ := h
      have st := mEs_star h2
      cases t with
      | join => exact pv_mt (.inl rfl) PySem.F.plainAttrs_str PySem.F.slot_str_join PySem.F.type_str_join mtd_join (sE a S h1) (sEs es S h2) (attrBase hc) (by
          rw [star_all _ _ st]
          show (true && true && decide ((x :: xs).length + 0 + 0 < 30)) = true
          rw [decide_eq_true (by simpa using h30)]; rfl) (beq_iff_eq.mpr hl) (star_cons (st x List.mem_cons_self)) (star_any _ _ fun y hy => st y (List.mem_cons_of_mem _ hy))
      | joinT => exact pv_mt (.inl rfl) PySem.F.plainAttrs_str PySem.F.slot_str_join PySem.F.type_str_join mtd_joinT (sE a S h1) (sEs es S h2) (attrBase hc) (by
          rw [star_all _ _ st]
          show (true && true && decide ((x :: xs).length + 0 + 0 < 30)) = true
          rw [decide_eq_true (by simpa using h30)]; rfl) (beq_iff_eq.mpr hl) (star_cons (st x List.mem_cons_self)) (star_any _ _ fun y hy => st y (List.mem_cons_of_mem _ hy))
      | startswith => exact pv_mt (.inl rfl) PySem.F.plainAttrs_str PySem.F.slot_str_startswith PySem.F.type_str_startswith mtd_sw (sE a S h1) (sEs es S h2) (attrBase hc) (by
          rw [star_all _ _ st]
          show (true && true && decide ((x :: xs).length + 0 + 0 < 30)) = true
          rw [decide_eq_true (by simpa using h30)]; rfl) (beq_iff_eq.mpr hl) (star_cons (st x List.mem_cons_self)) (star_any _ _ fun y hy => st y (List.mem_cons_of_mem _ hy))
      | removeprefix => exact pv_mt (.inl rfl) PySem.F.plainAttrs_str PySem.F.slot_str_removeprefix PySem.F.type_str_removeprefix mtd_rp (sE a S h1) (sEs es S h2) (attrBase hc) (by
          rw [star_all _ _ st]
          show (true && true && decide ((x :: xs).length + 0 + 0 < 30)) = true
          rw [decide_eq_true (by simpa using h30)]; rfl) (beq_iff_eq.mpr hl) (star_cons (st x List.mem_cons_self)) (star_any _ _ fun y hy => st y (List.mem_cons_of_mem _ hy))
    · cases h
  | .comp el it ts caps t n, m, C, X, e, S, h => by
    conv at h => lhs; whnf
    split at h
    · rename_i elt tg iter ifs scope cp
      simp only [Bool.and_eq_true, decide_eq_true_eq, List.all_eq_true] at h
      obtain ⟨⟨⟨⟨⟨⟨hq, ho⟩, hn⟩, hl⟩, hs⟩, hg⟩, h1, h2, h3⟩ := h
      unfold compOkT at ho
      simp only [Bool.and_eq_true, List.all_eq_true, Bool.or_eq_true, bne_iff_ne, beq_iff_eq, decide_eq_true_eq, List.contains_iff_mem] at ho
      obtain ⟨⟨⟨⟨⟨⟨⟨g1, g2⟩, g3⟩, g4⟩, g5⟩, g6⟩, g7⟩, g8⟩ := ho
      have er : (relabel scope X.env).names = relSc scope m.sc := by rw [← S.hs]; rfl
      have := pv_compT (pos := cp) (tgN := tgNames 4 tg) (t := t) (S.cm hq) (sI it S h1) g1 g2 (fun y hy e => (g3 y hy).resolve_left fun z => z e) (fun y hy e => by
          have := g4 y hy
          show X.env.scope.names.lookup y.1 = _ ∨ X.env.scope.names.lookup y.1 = _
          rw [S.hs]
          rcases this with (z | z) | z
          · exact absurd e z
          · exact .inl z
          · exact .inr z) (by rw [S.hN]; exact g5) g6 (fun y hy => by rw [er]; exact g7 y hy) (fun j hj => hs j hj) (fun cl A fp s3 H3 => sG (S.sub cl A fp s3 H3) g8 t hg)
          (fun cl A fp s3 H3 => sF ts (S.sub cl A fp s3 H3) h3) (fun cl A fp s3 H3 => sE el (S.sub cl A fp s3 H3) h2) (nofold hn)
      rw [hl] at this
      exact this
    · cases h
theorem sT {k : Nat} {W : WD} : ∀ (f : E) {m : MC} {C : Cw} {X : Cx} {e : Expr}, SX k W m C X → mT m f e = true → PTv C X e (evE W f)
  | .tru a, m, C, X, e, S, h => by
    simp only [mT, Bool.and_eq_true] at h
    exact pt_tru (sE a S h.2) (plain_true h.1)
  | .cmp op a b, m, C, X, e, S, h => by
    conv at h => lhs; whnf
    split at h
    · simp only [Bool.and_eq_true, beq_iff_eq] at h
      obtain ⟨⟨rfl, hs⟩, h1, h2⟩ := h
      exact pt_cmpv (cmp_opd _ S.un).1 (cmp_opd (C := C) _ S.un).2 (sE a S h1) (sE b S h2) (nomarkS _ hs)
    · cases h
  | .andL es, m, C, X, e, S, h => by
    conv at h => lhs; whnf
    split at h
    · exact pt_w (sWA es S h)
    · cases h
  | .orL es, m, C, X, e, S, h => by
    conv at h => lhs; whnf
    split at h
    · exact pt_w (sWO es S h)
    · cases h
  | .not a, m, C, X, e, S, h => by
    conv at h => lhs; whnf
    split at h
    · exact pt_notv (sT a S h)
    · cases h
  | .frz a, m, C, X, e, S, h => by cases h
  | .var i, m, C, X, e, S, h => by cases h
  | .glob y c, m, C, X, e, S, h => by cases h
  | .ty t, m, C, X, e, S, h => by cases h
  | .non, m, C, X, e, S, h => by cases h
  | .bl c, m, C, X, e, S, h => by cases h
  | .int c, m, C, X, e, S, h => by cases h
  | .str c, m, C, X, e, S, h => by cases h
  | .bin op a b, m, C, X, e, S, h => by cases h
  | .items a, m, C, X, e, S, h => by cases h
  | .rng1 a, m, C, X, e, S, h => by cases h
  | .zip2 a b, m, C, X, e, S, h => by cases h
  | .enum1 a, m, C, X, e, S, h => by cases h
  | .usort a b, m, C, X, e, S, h => by cases h
  | .srt a, m, C, X, e, S, h => by cases h
  | .sum1 a, m, C, X, e, S, h => by cases h
  | .revT a, m, C, X, e, S, h => by cases h
  | .orV a b, m, C, X, e, S, h => by cases h
  | .slice a l u, m, C, X, e, S, h => by cases h
  | .ix a b, m, C, X, e, S, h => by cases h
  | .tup es, m, C, X, e, S, h => by cases h
  | .lst es, m, C, X, e, S, h => by cases h
  | .call g n es, m, C, X, e, S, h => by cases h
  | .bcall b es, m, C, X, e, S, h => by cases h
  | .mt t a es, m, C, X, e, S, h => by cases h
  | .comp el it ts caps t n, m, C, X, e, S, h => by cases h
  | .tcall t es, m, C, X, e, S, h => by cases h
  | .isi a c, m, C, X, e, S, h => by cases h
  | .meth o f es, m, C, X, e, S, h => by cases h
  | .mk0 c, m, C, X, e, S, h => by cases h
theorem sI {k : Nat} {W : WD} : ∀ (f : E) {m : MC} {C : Cw} {X : Cx} {tg e : Expr}, SX k W m C X → mI m tg f e = true → PIv C X tg e (evE W f)
  | .items a, m, C, X, tg, e, S, h => by
    conv at h => lhs; whnf
    exact piv_seq (sE a S h)
  | .rng1 a, m, C, X, tg, e, S, h => by
    conv at h => lhs; whnf
    split at h
    · simp only [Bool.and_eq_true, beq_iff_eq] at h
      obtain ⟨⟨⟨rfl, h1⟩, h2⟩, h3⟩ := h
      obtain ⟨gl, l, hd, hn⟩ := S.gl h1
      exact piv_range1 gl (S.no _ l) (pav_cons (sE a S h3) pav_nil (star_cons h2)) (star_cons h2)
    · cases h
  | .zip2 a b, m, C, X, tg, e, S, h => by
    conv at h => lhs; whnf
    split at h
    · simp only [Bool.and_eq_true, beq_iff_eq] at h
      obtain ⟨⟨⟨⟨⟨rfl, ht⟩, h1⟩, h2⟩, h2'⟩, h3, h4⟩ := h
      obtain ⟨gl, l, hd, hn⟩ := S.gl h1
      cases tg <;> first
        | (cases ht; done)
        | exact piv_zip gl (S.no _ l) (pav_cons (sE a S h3) (pav_cons (sE b S h4) pav_nil (star_cons h2')) (star_cons h2)) (by rw [star_cons h2, star_cons h2']; rfl) (star_cons h2')
    · cases h
  | .enum1 a, m, C, X, tg, e, S, h => by
    conv at h => lhs; whnf
    split at h
    · simp only [Bool.and_eq_true, beq_iff_eq] at h
      obtain ⟨⟨⟨⟨rfl, ht⟩, h1⟩, h2⟩, h3⟩ := h
      obtain ⟨gl, l, hd, hn⟩ := S.gl h1
      cases tg <;> first
        | (cases ht; done)
        | exact piv_enum gl (S.no _ l) (pav_cons (pv_frz (sE a S h3)) pav_nil (star_cons h2)) (star_cons h2)
    · cases h
  | .usort a b, m, C, X, tg, e, S, h => by cases h
  | .srt a, m, C, X, tg, e, S, h => by cases h
  | .sum1 a, m, C, X, tg, e, S, h => by cases h
  | .revT a, m, C, X, tg, e, S, h => by cases h
  | .orV a b, m, C, X, tg, e, S, h => by cases h
  | .frz a, m, C, X, tg, e, S, h => by cases h
  | .var i, m, C, X, tg, e, S, h => by cases h
  | .glob y c, m, C, X, tg, e, S, h => by cases h
  | .ty t, m, C, X, tg, e, S, h => by cases h
  | .non, m, C, X, tg, e, S, h => by cases h
  | .bl c, m, C, X, tg, e, S, h => by cases h
  | .int c, m, C, X, tg, e, S, h => by cases h
  | .str c, m, C, X, tg, e, S, h => by cases h
  | .bin op a b, m, C, X, tg, e, S, h => by cases h
  | .cmp op a b, m, C, X, tg, e, S, h => by cases h
  | .andL es, m, C, X, tg, e, S, h => by cases h
  | .orL es, m, C, X, tg, e, S, h => by cases h
  | .not a, m, C, X, tg, e, S, h => by cases h
  | .tru a, m, C, X, tg, e, S, h => by cases h
  | .slice a l u, m, C, X, tg, e, S, h => by cases h
  | .ix a b, m, C, X, tg, e, S, h => by cases h
  | .tup es, m, C, X, tg, e, S, h => by cases h
  | .lst es, m, C, X, tg, e, S, h => by cases h
  | .call g n es, m, C, X, tg, e, S, h => by cases h
  | .bcall b es, m, C, X, tg, e, S, h => by cases h
  | .mt t a es, m, C, X, tg, e, S, h => by cases h
  | .comp el it ts caps t n, m, C, X, tg, e, S, h => by cases h
  | .tcall t es, m, C, X, tg, e, S, h => by cases h
  | .isi a c, m, C, X, tg, e, S, h => by cases h
  | .meth o f es, m, C, X, tg, e, S, h => by cases h
  | .mk0 c, m, C, X, tg, e, S, h => by cases h
theorem sEs {k : Nat} {W : WD} : ∀ (fs : List E) {m : MC} {C : Cw} {X : Cx} {es : List Expr}, SX k W m C X → mEs m fs es = true → PAv C X es (evEs W fs)
  | [], m, C, X, [], S, h => by simp only [evEs]; exact pav_nil
  | [], m, C, X, _ :: _, S, h => by simp [mEs] at h
  | f :: fs, m, C, X, [], S, h => by simp [mEs] at h
  | f :: fs, m, C, X, e :: es, S, h => by
    simp only [mEs, Bool.and_eq_true] at h
    simp only [evEs]; exact pav_cons (sE f S h.1.2) (sEs fs S h.2) (star_cons h.1.1)
theorem sL {k : Nat} {W : WD} : ∀ (fs : List E) {m : MC} {C : Cw} {X : Cx} {es : List Expr}, SX k W m C X → mEs m fs es = true → PVL C X es (evL W fs)
  | [], m, C, X, [], S, h => by simp only [evL]; exact .nil
  | [], m, C, X, _ :: _, S, h => by simp [mEs] at h
  | f :: fs, m, C, X, [], S, h => by simp [mEs] at h
  | f :: fs, m, C, X, e :: es, S, h => by
    simp only [mEs, Bool.and_eq_true] at h
    simp only [evL]; exact .cons (sE f S h.1.2) (sL fs S h.2)
theorem sO {k : Nat} {W : WD} : ∀ (f : Option E) {m : MC} {C : Cw} {X : Cx} {e : Option Expr}, SX k W m C X → mO m f e = true → POv C X e (evO W f)
  | none, m, C, X, none, S, h => True.intro
  | none, m, C, X, some _, S, h => by simp [mO] at h
  | some f, m, C, X, none, S, h => by simp [mO] at h
  | some f, m, C, X, some e, S, h => by
    simp only [mO] at h
    simp only [evO]; exact sE f S h
theorem sA {k : Nat} {W : WD} : ∀ (fs : List E) {m : MC} {C : Cw} {X : Cx} {es : List Expr} {pos : Pos}, SX k W m C X → mEs m fs es = true → PV C X (.BoolOp .And es pos) (evA W fs)
  | [], m, C, X, [], pos, S, h => fun pins s σ H Q I q => by
    rw [tG_eq] at q
    obtain ⟨ρ, F, R, w⟩ := q
    exact w.elim
  | [], m, C, X, _ :: _, pos, S, h => by simp [mEs] at h
  | f :: fs, m, C, X, [], pos, S, h => by simp [mEs] at h
  | [f], m, C, X, [e], pos, S, h => by
    simp only [mEs, Bool.and_eq_true] at h
    simp only [evA]; exact pv_onev (sE f S h.1.2)
  | [f], m, C, X, e :: e2 :: es, pos, S, h => by simp [mEs] at h
  | f :: f2 :: fs, m, C, X, [e], pos, S, h => by simp [mEs] at h
  | f :: f2 :: fs, m, C, X, e :: e2 :: es, pos, S, h => by
    have h' := h
    simp only [mEs, Bool.and_eq_true] at h
    simp only [evA]; exact pv_andv (sE f S h.1.2) (sA (f2 :: fs) S (by simp only [mEs, Bool.and_eq_true]; exact h.2))
theorem sOr {k : Nat} {W : WD} : ∀ (fs : List E) {m : MC} {C : Cw} {X : Cx} {es : List Expr} {pos : Pos}, SX k W m C X → mEs m fs es = true → PV C X (.BoolOp .Or es pos) (evO' W fs)
  | [], m, C, X, [], pos, S, h => fun pins s σ H Q I q => by
    rw [tG_eq] at q
    obtain ⟨ρ, F, R, w⟩ := q
    exact w.elim
  | [], m, C, X, _ :: _, pos, S, h => by simp [mEs] at h
  | f :: fs, m, C, X, [], pos, S, h => by simp [mEs] at h
  | [f], m, C, X, [e], pos, S, h => by
    simp only [mEs, Bool.and_eq_true] at h
    simp only [evO']; exact pv_onev (sE f S h.1.2)
  | [f], m, C, X, e :: e2 :: es, pos, S, h => by simp [mEs] at h
  | f :: f2 :: fs, m, C, X, [e], pos, S, h => by simp [mEs] at h
  | f :: f2 :: fs, m, C, X, e :: e2 :: es, pos, S, h => by
    simp only [mEs, Bool.and_eq_true] at h
    simp only [evO']; exact pv_orv (sE f S h.1.2) (sOr (f2 :: fs) S (by simp only [mEs, Bool.and_eq_true]; exact h.2))
theorem sWA {k : Nat} {W : WD} : ∀ (fs : List E) {m : MC} {C : Cw} {X : Cx} {es : List Expr} {pos : Pos}, SX k W m C X → mF m fs es = true → PWv C X (.BoolOp .And es pos) (evA W fs)
  | [], m, C, X, [], pos, S, h => fun whole pins s σ H Q I q => by
    obtain ⟨ρ, F, R, w⟩ := q
    exact w.elim
  | [], m, C, X, _ :: _, pos, S, h => by simp [mF] at h
  | f :: fs, m, C, X, [], pos, S, h => by simp [mF] at h
  | [f], m, C, X, [e], pos, S, h => by
    simp only [mF, Bool.and_eq_true] at h
    simp only [evA]; exact pw_onev (sT f S h.1)
  | [f], m, C, X, e :: e2 :: es, pos, S, h => by simp [mF] at h
  | f :: f2 :: fs, m, C, X, [e], pos, S, h => by simp [mF] at h
  | f :: f2 :: fs, m, C, X, e :: e2 :: es, pos, S, h => by
    simp only [mF, Bool.and_eq_true] at h
    simp only [evA]; exact pw_andv (sT f S h.1) (sWA (f2 :: fs) S (by simp only [mF, Bool.and_eq_true]; exact h.2))
theorem sWO {k : Nat} {W : WD} : ∀ (fs : List E) {m : MC} {C : Cw} {X : Cx} {es : List Expr} {pos : Pos}, SX k W m C X → mF m fs es = true → PWv C X (.BoolOp .Or es pos) (evO' W fs)
  | [], m, C, X, [], pos, S, h => fun whole pins s σ H Q I q => by
    obtain ⟨ρ, F, R, w⟩ := q
    exact w.elim
  | [], m, C, X, _ :: _, pos, S, h => by simp [mF] at h
  | f :: fs, m, C, X, [], pos, S, h => by simp [mF] at h
  | [f], m, C, X, [e], pos, S, h => by
    simp only [mF, Bool.and_eq_true] at h
    simp only [evO']; exact pw_onev (sT f S h.1)
  | [f], m, C, X, e :: e2 :: es, pos, S, h => by simp [mF] at h
  | f :: f2 :: fs, m, C, X, [e], pos, S, h => by simp [mF] at h
  | f :: f2 :: fs, m, C, X, e :: e2 :: es, pos, S, h => by
    simp only [mF, Bool.and_eq_true] at h
    simp only [evO']; exact pw_orv (sT f S h.1) (sWO (f2 :: fs) S (by simp only [mF, Bool.and_eq_true]; exact h.2))
theorem sF {k : Nat} {W : WD} : ∀ (fs : List E) {m : MC} {C : Cw} {X : Cx} {es : List Expr}, SX k W m C X → mF m fs es = true → PIfs X es (tT (C.at X) (evF W fs))
  | [], m, C, X, [], S, h => by
    have : evF W [] = fun _ => .ok .fz (.bl true) := by funext ρ; simp only [evF]
    rw [this]; exact pifs_nilv
  | [], m, C, X, _ :: _, S, h => by simp [mF] at h
  | f :: fs, m, C, X, [], S, h => by simp [mF] at h
  | f :: fs, m, C, X, e :: es, S, h => by
    simp only [mF, Bool.and_eq_true] at h
    have : evF W (f :: fs) = fun ρ => andR (evE W f ρ) (evF W fs ρ) := by funext ρ; simp only [evF]
    rw [this]; exact pifs_consv (sT f S h.1) (sF fs S h.2)
end
end D3

set_option genSizeOfSpec false
set_option genInjectivity false
namespace D3
open PySem PySem.Spec PyProof.Rows L2
/-! ### statements -/
inductive S where
  | ret (e : E) | retV (i : Nat) | set (i : Nat) (e : E) | ite (c : E) (a b : List S) | for (it : E) (t : Tg) (body : List S)
 
  | app (i : Nat) (e : E) | setC (i : Nat) (fz : Bool) (e : E) | frzV (i : Nat)
mutual
def evS (W : WD) : S → Rho → SRes
  | .ret e, ρ => retR (evE W e ρ) ρ
  | .retV i, ρ => retS ρ i
  | .set i e, ρ => setS ρ i (evE W e ρ)
  | .ite c a b, ρ => ifS (evE W c ρ) ρ (evB W a ρ) (evB W b ρ)
  | .for it t body, ρ => forR (evE W it ρ) ρ (setG t) (evB W body)
  | .app i e, ρ => appS ρ i (evE W e ρ)
  | .frzV i, ρ => frzS ρ i
  | .setC i fz e, ρ => setS ρ i (if fz = true then frzR (evE W e ρ) else evE W e ρ)
def evB (W : WD) : List S → Rho → SRes
  | [], ρ => .nx ρ
  | s :: r, ρ => (evS W s ρ).thn (evB W r)
end
def notComp : Expr → Bool | .ListComp .. => false | .SetComp .. => false | .DictComp .. => false | _ => true
def isComp : E → Bool | .comp .. => true | _ => false
mutual
def mS (m : MC) : S → Stmt → Bool
  | .ret f, st => match st with | .Return (some e) _ => mE m f e | _ => false
  | .retV i, st => match st with | .Return (some (.Name x _)) _ => m.N[i]? == some x && m.vis x | _ => false
  | .set i f, st => match st with | .Assign [.Name x _] e _ => m.loc i x && (notComp e || m.kind x == some .cell) && mE m f e | _ => false
  | .frzV _, _ => false
  | .setC i _ f, st => match st with
    | .Assign [.Name x px] (.ListComp elt gens scope cp) _ => m.N[i]? == some x && m.kind x == some .local && m.sc.kind == .function && px.line == cp.line && !(scope.names.any fun y => y.1 == x && (y.2 == .local || y.2 == .cell)) && isComp f && mE m f (.ListComp elt gens scope cp)
    | _ => false
  | .ite f a b, st => match st with | .If c x y _ => mT m f c && (mB m a x && mB m b y) | _ => false
  | .for f t b, st => match st with | .For tg e body [] _ => m.calm && mG m t tg && notSet e && (mI m tg f e && mB m b body) | _ => false
  | .app i f, st => match st with | .Expr (.Call (.Attribute (.Name x _) a ap) [e] [] cp) _ => m.N[i]? == some x && m.vis x && a == "append" && ap.endLine == cp.line && notStar e && mE m f e | _ => false
def mB (m : MC) : List S → List Stmt → Bool
  | [], l => l.isEmpty
  | .frzV _ :: r, l => mB m r l
  | s :: r, l => match l with | st :: sts => mS m s st && mB m r sts | _ => false
end
theorem noswap {e : Expr} {t : Option Expr} {n : Nat} {env : Env} (h : notComp e = true) : swapsWith e t n env = pure false := by
  cases e <;> first | rfl | cases h
theorem noswap' {m : MC} {e : Expr} {x : Str} {p : Pos} {n : Nat} {env : Env} (hs : env.scope = m.sc) (h : (notComp e || m.kind x == some .cell) = true) : swapsWith e (some (.Name x p)) n env = pure false := by
  rw [Bool.or_eq_true, beq_iff_eq] at h
  rcases h with h | h
  · exact noswap h
  · have hk : env.kindOf x = some .cell := by
      show env.scope.names.lookup x = _
      rw [hs]; exact h
    unfold swapsWith
    have kc : (NameKind.cell == NameKind.local) = false := by decide
    cases e <;> first | rfl | (simp [hk, kc])
section
variable {k : Nat} {W : WD} {m : MC} {C : Cw} {X : Cx}
/-- a body's own surroundings -/
structure SB (k : Nat) (W : WD) (m : MC) (C : Cw) (X : Cx) : Prop extends SX k W m C X where
  nd : m.N.Nodup
  hp : PassesOwn (model X.prog X.w) X.A X.env X.xe
  ro : m.rz = true → RzOk (C.at X) X ∧ FnCx X
end
theorem s_comp {k : Nat} {W : WD} {m : MC} {C : Cw} {X : Cx} (S : SB k W m C X) (fz : Bool) {i : Nat} {el it : E} {ts : List E} {caps : List Nat} {t : Tg} {n : Nat} {x : Str} {px cp sp : Pos} {elt : Expr} {gens : List Comprehension} {scope : Scope}
    (h1 : m.N[i]? = some x) (h2 : m.kind x = some .local) (h3 : m.sc.kind = .function) (h4 : px.line = cp.line) (h5 : (scope.names.any fun y => y.1 == x && (y.2 == .local || y.2 == .cell)) = false) (h : mE m (.comp el it ts caps t n) (.ListComp elt gens scope cp) = true) :
    PSv C X (.Assign [.Name x px] (.ListComp elt gens scope cp) sp) (fun ρ => setS ρ i (if fz = true then frzR (evE W (.comp el it ts caps t n) ρ) else evE W (.comp el it ts caps t n) ρ)) := by
  have hk : X.env.scope.names.lookup x = some .local := by rw [S.hs]; exact h2
  conv at h => lhs; whnf
  split at h
  · rename_i elt' tg iter ifs scope' cp' e
    cases e
    simp only [Bool.and_eq_true, decide_eq_true_eq, List.all_eq_true] at h
    obtain ⟨⟨⟨⟨⟨⟨hq, ho⟩, hn⟩, hl⟩, hs⟩, hg⟩, k1, k2, k3⟩ := h
    unfold compOkT at ho
    simp only [Bool.and_eq_true, List.all_eq_true, Bool.or_eq_true, bne_iff_ne, beq_iff_eq, decide_eq_true_eq, List.contains_iff_mem] at ho
    obtain ⟨⟨⟨⟨⟨⟨⟨g1, g2⟩, g3⟩, g4⟩, g5⟩, g6⟩, g7⟩, g8⟩ := ho
    have er : (relabel scope X.env).names = relSc scope m.sc := by rw [← S.hs]; rfl
    have bk : X.env.blockKind = .function := by unfold Env.blockKind; rw [S.hs, h3]; rfl
    have hsw : swapsWith (.ListComp elt [⟨tg, iter, ifs, 0⟩] scope cp) (some (.Name x px)) sp.line X.env = pure true := by
      have kx : X.env.kindOf x = some .local := hk
      unfold swapsWith
      have k1 : (ScopeKind.function == ScopeKind.function) = true := by decide
      have k2 : (some NameKind.local == some NameKind.local) = true := by decide
      simp only [bk, kx, Expr.pos, h4, h5, k1, k2, beq_self_eq_true]
      rfl
    have := psv_setC fz (pos := cp) (pos' := px) (spos := sp) (i := i) (x := x) (tgN := tgNames 4 tg) (t := t) (S.cm hq) (sI it S.toSX k1) g1 g2 (fun y hy e => (g3 y hy).resolve_left fun z => z e) (fun y hy e => by
        have := g4 y hy
        show X.env.scope.names.lookup y.1 = _ ∨ X.env.scope.names.lookup y.1 = _
        rw [S.hs]
        rcases this with (z | z) | z
        · exact absurd e z
        · exact .inl z
        · exact .inr z) (by rw [S.hN]; exact g5) g6 (fun y hy => by rw [er]; exact g7 y hy) (fun j hj => hs j hj) (fun cl A fp s3 H3 => sG (S.toSX.sub cl A fp s3 H3) g8 t hg)
        (fun cl A fp s3 H3 => sF ts (S.toSX.sub cl A fp s3 H3) k3) (fun cl A fp s3 H3 => sE el (S.toSX.sub cl A fp s3 H3) k2) (by rw [S.hN]; exact S.nd) (by rw [S.hN]; exact h1) hk hsw (nofold hn)
    rw [hl] at this
    exact this
  · cases h
set_option maxHeartbeats 4000000 in
mutual
theorem sS {k : Nat} {W : WD} {m : MC} {C : Cw} {X : Cx} (S : SB k W m C X) : ∀ (f : D3.S) {st : Stmt}, mS m f st = true → PSv C X st (evS W f)
  | .ret f, st, h => by
    conv at h => lhs; whnf
    split at h
    · exact psv_ret (sE f S.toSX h)
    · cases h
  | .retV i, st, h => by
    conv at h => lhs; whnf
    split at h
    · simp only [Bool.and_eq_true, beq_iff_eq] at h
      obtain ⟨h1, h2, h3⟩ := S.toSX.vis h.2
      exact psv_retV i (pe_var (by rw [S.hN]; exact h.1) h1 h2 h3)
    · cases h
  | .set i f, st, h => by
    conv at h => lhs; whnf
    split at h
    · simp only [Bool.and_eq_true] at h
      obtain ⟨⟨h1, h2⟩, h3⟩ := h
      obtain ⟨b, c, d⟩ := S.toSX.loc h1
      exact psv_set (by rw [S.hN]; exact S.nd) b c (sE f S.toSX h3) (noswap' S.hs h2) d
    · cases h
  | .frzV i, st, h => by cases h
  | .setC i fz f, st, h => by
    conv at h => lhs; whnf
    split at h
    · simp only [Bool.and_eq_true, beq_iff_eq, Bool.not_eq_true'] at h
      obtain ⟨⟨⟨⟨⟨⟨h1, h2⟩, h3⟩, h4⟩, h5⟩, h6⟩, h7⟩ := h
      cases f with
      | comp el it ts caps t n => exact s_comp S fz h1 h2 h3 h4 h5 h7
      | _ => cases h6
    · cases h
  | .ite f a b, st, h => by
    conv at h => lhs; whnf
    split at h
    · simp only [Bool.and_eq_true] at h
      obtain ⟨h1, h2, h3⟩ := h
      exact psv_if (sT f S.toSX h1) (sB S a h2) (sB S b h3)
    · cases h
  | .for f t b, st, h => by
    conv at h => lhs; whnf
    split at h
    · simp only [Bool.and_eq_true] at h
      obtain ⟨⟨⟨hq, h1⟩, h2⟩, h3, h4⟩ := h
      exact psv_for S.hp (S.cm hq) (sI f S.toSX h3) (pgv_of (sG S.toSX S.nd t h1)) (sB S b h4) (nofold h2)
    · cases h
  | .app i f, st, h => by
    conv at h => lhs; whnf
    split at h
    · simp only [Bool.and_eq_true, beq_iff_eq] at h
      obtain ⟨⟨⟨⟨⟨h1, h2⟩, rfl⟩, h3⟩, h4⟩, h5⟩ := h
      obtain ⟨v1, v2, v3⟩ := S.toSX.vis h2
      exact psv_app i (pe_var (by rw [S.hN]; exact h1) v1 v2 v3) (sE f S.toSX h5) h4 h3
    · cases h
theorem sB {k : Nat} {W : WD} {m : MC} {C : Cw} {X : Cx} (S : SB k W m C X) : ∀ (f : List D3.S) {sts : List Stmt}, mB m f sts = true → PBv C X sts (evB W f)
  | [], [], h => by
    have : evB W [] = fun ρ => .nx ρ := by funext ρ; simp only [evB]
    rw [this]; exact pbv_nil
  | [], _ :: _, h => by simp [mB] at h
  | f :: fs, sts, h => by
    by_cases hf : ∃ i, f = .frzV i
    · obtain ⟨i, rfl⟩ := hf
      simp only [mB] at h
      have : evB W (.frzV i :: fs) = fun ρ => (frzS ρ i).thn (evB W fs) := by funext ρ; rfl
      rw [this]; exact pbv_frz (sB S fs h)
    · cases sts with
      | nil => cases f <;> first | exact absurd ⟨_, rfl⟩ hf | (simp [mB] at h)
      | cons st sts =>
        have h : (mS m f st && mB m fs sts) = true := by cases f <;> first | exact absurd ⟨_, rfl⟩ hf | exact h
        rw [Bool.and_eq_true] at h
        have : evB W (f :: fs) = fun ρ => (evS W f ρ).thn (evB W fs) := by funext ρ; simp only [evB]
        rw [this]; exact pbv_cons (sS S f h.1) (sB S fs h.2)
end
abbrev IB := Unit
/-! ### the defs of a text, by fuel -/
structure FD where
  ps : List Str
  N : List Str
  b : List D3.S
structure ID where
  c : Str
  ps : List Str
  N : List Str
  ib : IB
structure TB where
  T : List (Str × FD)
  I : List (Str × ID)
  cl : List CI
  xt : List ((Str × Str) × Bool)
  xi : List ((Str × Str) × Bool)
def phiI (W : WD) (i : ID) : List D → Res := fun _ => .stuck
def PhiF (t : TB) (W : WD) (f : Str) : List D → Res := match t.T.lookup f with
  | some d => phi d.ps.length d.N.length (evB W d.b)
  | none => fun _ => .stuck
def WT (t : TB) : Nat → WD
  | 0 => ⟨fun _ _ => .stuck, fun _ => none, t.cl, t.xt, t.xi⟩
  | 1 => ⟨fun f => PhiF t ⟨fun _ _ => .stuck, fun _ => none, t.cl, t.xt, t.xi⟩ f, fun _ => none, t.cl, t.xt, t.xi⟩
  | k + 2 => ⟨fun f => PhiF t (WT t (k + 1)) f, fun key => match t.I.lookup key with | some i => some (phiI (WT t k) i) | none => none, t.cl, t.xt, t.xi⟩
theorem WT_cl (t : TB) : ∀ k, (WT t k).cl = t.cl
  | 0 => rfl
  | 1 => rfl
  | k + 2 => rfl
theorem WT_xt (t : TB) : ∀ k, (WT t k).xt = t.xt
  | 0 => rfl
  | 1 => rfl
  | k + 2 => rfl
theorem WT_xi (t : TB) : ∀ k, (WT t k).xi = t.xi
  | 0 => rfl
  | 1 => rfl
  | k + 2 => rfl
theorem WT_Φ (t : TB) : ∀ k f, (WT t (k + 1)).Φ f = PhiF t (WT t k) f
  | 0, f => rfl
  | k + 1, f => rfl
def scOk (N ps : List Str) (sc : Scope) : Bool := sc.kind == .function && !sc.isCoroutine && !sc.isGenerator && decide N.Nodup && (N.take ps.length == ps) && ps.all (fun x => sc.names.lookup x == some .local || sc.names.lookup x == some .cell) && sc.names.all (fun y => y.2 != .free)
theorem scOk_of {N ps : List Str} {sc : Scope} (h : scOk N ps sc = true) : FnScope N ps sc := by
  unfold scOk at h
  simp only [Bool.and_eq_true, List.all_eq_true, Bool.or_eq_true, bne_iff_ne, beq_iff_eq, decide_eq_true_eq, Bool.not_eq_true'] at h
  obtain ⟨⟨⟨⟨⟨⟨h1, h2⟩, h3⟩, h4⟩, h5⟩, h6⟩, h7⟩ := h
  exact ⟨h1, h2, h3, h4, h5, h6, h7⟩
def fdOk (g : MG) (st : Stmt) (d : FD) : Bool := scOk d.N d.ps (defScope st) && mB ⟨d.N, defScope st, g, true, true, true⟩ d.b (defBody st)
def idOk (g : MG) (st : Stmt) (d : ID) : Bool := false
/-- a def that stands behind the top, at its address -/
def Stands (K : PySem.W.Frag) (g : MG) (fa : Str → Addr) (key : Str) (d : FD) : Prop :=
  ∃ name st fd, Fun K name key st (fa key) fd ∧ Binds K fd d.ps [] ∧ fdOk g st d = true
def StandAll (K : PySem.W.Frag) (g : MG) (fa : Str → Addr) : List (Str × FD) → Prop
  | [] => True
  | (x, d) :: r => Stands K g fa x d ∧ StandAll K g fa r
theorem StandAll.at {K : PySem.W.Frag} {g : MG} {fa : Str → Addr} : ∀ {T : List (Str × FD)} {x : Str} {d : FD}, StandAll K g fa T → T.lookup x = some d → Stands K g fa x d
  | [], _, _, _, e => by cases e
  | (y, d') :: r, x, d, h, e => by
    rw [List.lookup_cons] at e
    split at e
    · rename_i hb
      cases e
      rw [beq_iff_eq] at hb
      subst hb
      exact h.1
    · exact h.2.at e
def StandsI (K : PySem.W.Frag) (mg : Str → Option Value) (g : MG) (key : Str) (d : ID) : Prop :=
  ∃ name st C f fd, PySem.W.nsIn K mainGlobals d.c = some (some (.ref C)) ∧ mg d.c = some (.ref C) ∧ Mk K C f ∧ Fun K name key st f fd ∧ Binds K fd d.ps [] ∧ idOk g st d = true
def StandAllI (K : PySem.W.Frag) (mg : Str → Option Value) (g : MG) : List (Str × ID) → Prop
  | [] => True
  | (x, d) :: r => StandsI K mg g x d ∧ StandAllI K mg g r
theorem StandAllI.at {K : PySem.W.Frag} {mg : Str → Option Value} {g : MG} : ∀ {T : List (Str × ID)} {x : Str} {d : ID}, StandAllI K mg g T → T.lookup x = some d → StandsI K mg g x d
  | [], _, _, _, e => by cases e
  | (y, d') :: r, x, d, h, e => by
    rw [List.lookup_cons] at e
    split at e
    · rename_i hb
      cases e
      rw [beq_iff_eq] at hb
      subst hb
      exact h.1
    · exact h.2.at e
def GVOk (w : World) (K : PySem.W.Frag) (mg : Str → Option Value) (fa : Str → Addr) (x : Str) : GV → Prop
  | .con (.s y) => ∃ t, mg x = some (.str y t)
  | .con (.i n) => ∃ t, mg x = some (.int n t)
  | .con (.t tb) => TabV w K mg x tb
  | .no => mg x = none
  | .fn _ => mg x = some (.ref (fa x))
  | .cls => True
def GCon (w : World) (K : PySem.W.Frag) (mg : Str → Option Value) (fa : Str → Addr) : List (Str × GV) → Prop
  | [] => True
  | (x, v) :: r => GVOk w K mg fa x v ∧ GCon w K mg fa r
theorem GCon.at {w : World} {K : PySem.W.Frag} {mg : Str → Option Value} {fa : Str → Addr} : ∀ {G : List (Str × GV)} {x : Str} {v : GV}, GCon w K mg fa G → G.lookup x = some v → GVOk w K mg fa x v
  | [], _, _, _, e => by cases e
  | (y, v') :: r, x, v, h, e => by
    rw [List.lookup_cons] at e
    split at e
    · rename_i hb
      cases e
      rw [beq_iff_eq] at hb
      subst hb
      exact h.1
    · exact h.2.at e
def gOk (G : List (Str × GV)) (T : List (Str × FD)) : Bool := G.all fun (x, v) => match v with | .fn n => (match T.lookup x with | some d => d.ps.length == n | none => false) | _ => true
theorem gOk_at {T : List (Str × FD)} : ∀ {G : List (Str × GV)} {x : Str} {n : Nat}, gOk G T = true → G.lookup x = some (.fn n) → ∃ d, T.lookup x = some d ∧ d.ps.length = n
  | [], _, _, _, e => by cases e
  | (y, v') :: r, x, n, h, e => by
    unfold gOk at h
    rw [List.all_cons, Bool.and_eq_true] at h
    rw [List.lookup_cons] at e
    split at e
    · rename_i hb
      cases e
      rw [beq_iff_eq] at hb
      subst hb
      have h1 := h.1
      dsimp only at h1
      cases q : T.lookup x with
      | none => rw [q] at h1; cases h1
      | some d => rw [q] at h1; exact ⟨d, rfl, by simpa using h1⟩
    · exact gOk_at (G := r) h.2 e
/-- each class's methods: where each stands, and its number of parameters -/
def mtOk (cl : List CI) (T : List (Str × FD)) : Bool := cl.all fun i => i.meths.all fun (_, key, n) => match T.lookup key with | some d => d.ps.length == n | none => false
def mkiOk (mki : List (Str × Str × Nat)) (I : List (Str × ID)) : Bool := mki.all fun (c, key, n) => match I.lookup key with | some d => d.c == c && d.ps.length == n + 1 | none => false
def ClsM (K : PySem.W.Frag) (fa : Str → Addr) (C : Addr) : List (Str × Str × Nat) → Prop
  | [] => True
  | (m, key, _) :: r => Meth K C m (fa key) ∧ ClsM K fa C r
def ClsF (K : PySem.W.Frag) (C : Addr) : List Str → Prop
  | [] => True
  | f :: r => NoAttr K C f ∧ ClsF K C r
def ClsAll (K : PySem.W.Frag) (fa : Str → Addr) : List CI → Prop
  | [] => True
  | i :: r => (∃ C, PySem.W.nsIn K mainGlobals i.name = some (some (.ref C)) ∧ Cls K C ∧ ClsM K fa C i.meths ∧ ClsF K C i.flds) ∧ ClsAll K fa r
theorem ClsAll.at {K : PySem.W.Frag} {fa : Str → Addr} : ∀ {cl : List CI} {i : CI}, ClsAll K fa cl → i ∈ cl → ∃ C, PySem.W.nsIn K mainGlobals i.name = some (some (.ref C)) ∧ Cls K C ∧ ClsM K fa C i.meths ∧ ClsF K C i.flds
  | [], _, _, h => by cases h
  | j :: r, i, h, hi => by
    rcases List.mem_cons.mp hi with rfl | hi
    · exact h.1
    · exact h.2.at hi
theorem ClsF.at {K : PySem.W.Frag} {C : Addr} : ∀ {l : List Str} {f : Str}, ClsF K C l → f ∈ l → NoAttr K C f
  | [], _, _, h => by cases h
  | j :: r, i, h, hi => by
    rcases List.mem_cons.mp hi with rfl | hi
    · exact h.1
    · exact h.2.at hi
theorem ClsM.at {K : PySem.W.Frag} {fa : Str → Addr} {C : Addr} : ∀ {l : List (Str × Str × Nat)} {m key : Str} {n : Nat}, ClsM K fa C l → l.lookup m = some (key, n) → Meth K C m (fa key)
  | [], _, _, _, _, e => by cases e
  | (m', key', n') :: r, m, key, n, h, e => by
    rw [List.lookup_cons] at e
    split at e
    · rename_i hb
      cases e
      rw [beq_iff_eq] at hb
      subst hb
      exact h.1
    · exact h.2.at e
/-- all that the head must give -/
structure GF (w : World) (K : PySem.W.Frag) (mg : Str → Option Value) (g : MG) (t : TB) (fa : Str → Addr) : Prop where
  con : GCon w K mg fa g.G
  gok : gOk g.G t.T = true
  all : StandAll K g fa t.T
  alli : StandAllI K mg g t.I
  mk0 : ∀ c, c ∈ g.mk0 → MkV0 K mg c
  mkok : mkiOk g.mki t.I = true
  iso : ∀ c, c ∈ g.iso → IsV K mg t.cl c
  cls : ClsAll K fa t.cl
  mtok : mtOk t.cl t.T = true
  xtok : XtOk K mg (fun c x => t.xt.lookup (c, x))
  xiok : XisOk K mg (fun c x => t.xi.lookup (c, x))
  xcok : ∀ c, c ∈ g.xcs → ∃ Cc, mg c = some (.ref Cc) ∧ RzCls K Cc
  xnok : ∀ n, n ∈ g.xns → ∃ cv, ClsV mg n cv
theorem spV_stuck {K : PySem.W.Frag} {mg : Str → Option Value} {n : Nat} {Φ : List D → Res} {vs : List V} {H : Hp} {Q : VK} {E : XK} (hz : ∀ ds, Φ ds = .stuck) (h : spV K mg n Φ vs H Q E) : False := by
  obtain ⟨_, F, ds, _, _, h⟩ := h
  rw [hz] at h
  exact h
section
variable {P : Program} {w : World} {K : PySem.W.Frag} {mg : Str → Option Value} {base : Heap} {g : MG} {t : TB} {fa : Str → Addr}
/-- every def keeps its promise at every depth -/
structure AllOk (P : Program) (w : World) (K : PySem.W.Frag) (mg : Str → Option Value) (base : Heap) (t : TB) (fa : Str → Addr) (k : Nat) : Prop where
  fn : ∀ key d, t.T.lookup key = some d → ∃ fd, FnOk P w K mg base (CX1 P w) k (fa key) fd d.ps (spV K mg d.ps.length ((WT t k).Φ key)) ∧ Binds K fd d.ps [] ∧ PySem.W.keepIn K (.ref (fa key)) = true
  ini : ∀ key d Φ, t.I.lookup key = some d → (WT t k).I key = some Φ → ∃ j, j + 1 ≤ k ∧ InV P w K mg base (CX1 P w) j d.c (d.ps.length - 1) Φ
theorem sx_of (f : GF w K mg g t fa) {k : Nat} (A : AllOk P w K mg base t fa k) {N : List Str} {sc : Scope} {C : Cw} {X : Cx} (hP : X.prog = P) (hw : X.w = w) (hK : X.K = K) (hmg : X.mg = mg) (hb : X.base = base) (hN : X.N = N) (hs : X.env.scope = sc) (cm : X.calm = true) (rm : Room k X.A) (hfn : ∀ x, X.fn x = true) (xo : XOk (CX1 X.prog X.w) (C.at X) X) :
    SX k (WT t k) ⟨N, sc, g, true, true, true⟩ C X := by
  subst hP hw hK hmg hb
  refine ⟨hN, hs, fun _ => cm, fun _ => rm, rm.units, fun _ => xo, ?_, ?_, f.xcok, f.xnok, fun y c l => ?_, fun y l => f.con.at l, fun c hc => f.mk0 c hc, fun c key n hm Φ e => ?_, fun c hc => by rw [WT_cl]; exact f.iso c hc, fun i f' hi hf => ?_, fun c m key n e => ?_, fun y n l => ?_, fun _ => hfn⟩
  · unfold WD.xf; rw [WT_xt]; exact f.xtok
  · unfold WD.xg; rw [WT_xi]; exact f.xiok
  · have := f.con.at l
    cases c <;> exact this
  · have h1 := List.all_eq_true.mp f.mkok (c, key, n) hm
    dsimp only at h1
    cases q : t.I.lookup key with
    | none => rw [q] at h1; cases h1
    | some d =>
      rw [q] at h1
      simp only [Bool.and_eq_true, beq_iff_eq] at h1
      obtain ⟨j, hj, M⟩ := A.ini key d Φ q e
      rw [h1.1, h1.2] at M
      exact ⟨j, hj, M⟩
  · rw [WT_cl] at hi
    obtain ⟨C', h1, h2, _, h4⟩ := f.cls.at hi
    exact ⟨C', h1, h2, h4.at hf⟩
  · rw [WT_cl] at e
    unfold CI.meth at e
    split at e
    · rename_i i ei
      have hi := List.mem_of_find?_eq_some ei
      have hn : i.name = c := by simpa using List.find?_some ei
      obtain ⟨C', h1, h2, h3, _⟩ := f.cls.at hi
      have hmo := List.all_eq_true.mp (List.all_eq_true.mp f.mtok i hi) (m, key, n) (PySem.mem_of_lookup e)
      dsimp only at hmo
      cases q : t.T.lookup key with
      | none => rw [q] at hmo; cases hmo
      | some d =>
        rw [q] at hmo
        rw [beq_iff_eq] at hmo
        obtain ⟨fd, FO, hb, _⟩ := A.fn key d q
        rw [hmo] at FO
        exact ⟨C', fa key, fd, d.ps, by rw [← hn]; exact h1, h2, h3.at e, FO, hb⟩
    · cases e
  · obtain ⟨d, e, rfl⟩ := gOk_at f.gok l
    obtain ⟨fd, FO, hb, hk⟩ := A.fn y d e
    exact ⟨fa y, fd, d.ps, FO, f.con.at l, hk, hb⟩
theorem fn_step (f : GF w K mg g t fa) {k : Nat} (A : AllOk P w K mg base t fa k) {key : Str} {d : FD} {name : Str} {st : Stmt} {fd : FuncData} {a : Addr} (F : Fun K name key st a fd) (e : t.T.lookup key = some d) (ok : fdOk g st d = true) :
    FnOk P w K mg base (CX1 P w) (k + 1) a fd d.ps (spV K mg d.ps.length ((WT t (k + 1)).Φ key)) := by
  unfold fdOk at ok
  rw [Bool.and_eq_true] at ok
  have sc := scOk_of ok.1
  have : (WT t (k + 1)).Φ key = phi d.ps.length d.N.length (evB (WT t k) d.b) := by rw [WT_Φ]; unfold PhiF; rw [e]
  rw [this]
  exact fnok_phi (k := k) F sc fun C cdv A' outer s H En hE hr => sB (m := ⟨d.N, defScope st, g, true, true, true⟩) (X := cxOf (CX1 P w) P w K mg base d.N key (defScope st) a cdv A' outer s H En) ⟨sx_of f A rfl rfl rfl rfl rfl rfl rfl rfl hr (fun _ => rfl) (xok_fn (K := K) (H := H) (outer := outer) hE), sc.nd, PassesOwn.leaving, fun _ => ⟨rzok_fn (K := K) (H := H) (outer := outer) hE, fnCx⟩⟩ d.b ok.2
theorem init_step (f : GF w K mg g t fa) {k : Nat} (A : AllOk P w K mg base t fa k) {key : Str} {d : ID} (e : t.I.lookup key = some d) : InV P w K mg base (CX1 P w) (k + 1) d.c (d.ps.length - 1) (phiI (WT t k) d) := by
  obtain ⟨name, st, C2, a, fd, ns, hm, M, F, hb, ok⟩ := f.alli.at e
  cases ok
theorem all_ok (f : GF w K mg g t fa) : ∀ k, AllOk P w K mg base t fa k ∧ AllOk P w K mg base t fa (k + 1)
  | 0 => by
    have A0 : AllOk P w K mg base t fa 0 := ⟨fun key d e => by
      obtain ⟨name, st, fd, F, hb, _⟩ := f.all.at e
      exact ⟨fd, ⟨fun vs H Q En h => (spV_stuck (fun _ => rfl) h).elim, fun A outer s H args us vs Q En _ _ _ _ h => (spV_stuck (fun _ => rfl) h).elim⟩, hb, F.kp⟩, fun key d Φ _ e => by cases e⟩
    refine ⟨A0, fun key d e => ?_, fun key d Φ _ e => by cases e⟩
    obtain ⟨name, st, fd, F, hb, ok⟩ := f.all.at e
    exact ⟨fd, fn_step f A0 F e ok, hb, F.kp⟩
  | k + 1 => by
    obtain ⟨A0, A1⟩ := all_ok f k
    refine ⟨A1, fun key d e => ?_, fun key d Φ e ei => ?_⟩
    · obtain ⟨name, st, fd, F, hb, ok⟩ := f.all.at e
      exact ⟨fd, fn_step f A1 F e ok, hb, F.kp⟩
    · have ei : (match t.I.lookup key with | some i => some (phiI (WT t k) i) | none => none) = some Φ := ei
      rw [e] at ei
      cases ei
      exact ⟨k + 1, Nat.le_refl _, init_step f A0 e⟩
end
/-- the law's promise, without the module's names -/
def spLw (K : PySem.W.Frag) (Φ : List D → Res) : Sp := fun vs H Q E => ∃ a ns, vs = [.ref a] ∧ SqL K H a (ns.map V.int) ∧ Φ (lawIn ns) = .ok .fz (.bl true) ∧ ∀ H', Q (.bl true) H'
theorem fnok_lw {P : Program} {w : World} {K : PySem.W.Frag} {mg : Str → Option Value} {base : Heap} {CX : CXT} {k : Nat} {f : Addr} {fd : FuncData} {ps : List Str} {Φ : List D → Res} (h : FnOk P w K mg base CX k f fd ps (spV K mg 1 Φ)) : FnOk P w K mg base CX k f fd ps (spLw K Φ) :=
  h.imp fun vs H Q E ⟨a, ns, e, hq, hp, q⟩ => by
    subst e
    refine ⟨rfl, H, lawIn ns, Same.refl _, RepL.cons ?_ RepL.nil, ?_⟩
    · simp only [RepV]
      exact ⟨a, _, rfl, hq, repL_ints ns⟩
    · rw [hp]
      exact ⟨by decide, fun v F' H' s rp _ => by rw [rp.bl]; exact q H'⟩
theorem fnok_law {P : Program} {w : World} {K : PySem.W.Frag} {mg : Str → Option Value} {base : Heap} {g : MG} {t : TB} {fa : Str → Addr} (f : GF w K mg g t fa) (k : Nat) {a : Addr} {fd : FuncData} {d : FD} {st : Stmt} (F : Fun K "law" "law" st a fd) (e : t.T.lookup ("law" : Str) = some d) (ok : fdOk g st d = true) (hl : d.ps.length = 1) :
    FnOk P w K mg base (CX1 P w) (k + 1) a fd d.ps (spLw K ((WT t (k + 1)).Φ ("law" : Str))) := by
  have := fn_step (P := P) (w := w) (base := base) f (all_ok f k).1 F e ok
  rw [hl] at this
  exact fnok_lw this
end D3

namespace D3
open PySem L2
/-! ### values by what is written (for simp) -/
section
variable {W : WD} {ρ : Rho} {a b c : E} {es : List E}
@[simp] theorem e_var {i} : evE W (.var i) ρ = getS ρ i := Eq.trans rfl rfl
@[simp] theorem e_non : evE W .non ρ = .ok .fz .non := Eq.trans rfl rfl
@[simp] theorem e_bl {b} : evE W (.bl b) ρ = .ok .fz (.bl b) := Eq.trans rfl rfl
@[simp] theorem e_int {i} : evE W (.int i) ρ = .ok .fz (.int i) := Eq.trans rfl rfl
@[simp] theorem e_str {x} : evE W (.str x) ρ = .ok .fz (.str x) := Eq.trans rfl rfl
@[simp] theorem e_globS {x y} : evE W (.glob x (.s y)) ρ = .ok .fz (.str y) := Eq.trans rfl rfl
@[simp] theorem e_globI {x y} : evE W (.glob x (.i y)) ρ = .ok .fz (.int y) := Eq.trans rfl rfl
@[simp] theorem e_ty {t : Ty} : evE W (.ty t) ρ = .ok .fz (.ty t.id) := Eq.trans rfl rfl
@[simp] theorem e_bin {op} : evE W (.bin op a b) ρ = op2 (fBin op) (evE W a ρ) (evE W b ρ) := Eq.trans rfl rfl
@[simp] theorem e_cmp {op} : evE W (.cmp op a b) ρ = op2 (fCmp op) (evE W a ρ) (evE W b ρ) := Eq.trans rfl rfl
@[simp] theorem e_andL : evE W (.andL es) ρ = evA W es ρ := Eq.trans rfl rfl
@[simp] theorem e_orL : evE W (.orL es) ρ = evO' W es ρ := Eq.trans rfl rfl
@[simp] theorem e_not : evE W (.not a) ρ = notR (evE W a ρ) := Eq.trans rfl rfl
@[simp] theorem e_tru : evE W (.tru a) ρ = truR (evE W a ρ) := Eq.trans rfl rfl
@[simp] theorem e_frz : evE W (.frz a) ρ = frzR (evE W a ρ) := Eq.trans rfl rfl
@[simp] theorem e_ix : evE W (.ix a b) ρ = op2 ixD (evE W a ρ) (evE W b ρ) := Eq.trans rfl rfl
@[simp] theorem e_slice {l h} : evE W (.slice a l h) ρ = slP (evE W a ρ) (evO W l) (evO W h) ρ := Eq.trans rfl rfl
@[simp] theorem e_tup : evE W (.tup es) ρ = tupR (evEs W es ρ) := Eq.trans rfl rfl
@[simp] theorem e_lst : evE W (.lst es) ρ = lstR (evEs W es ρ) := Eq.trans rfl rfl
@[simp] theorem e_call {f n} : evE W (.call f n es) ρ = callF n (W.Φ f) (evEs W es ρ) := Eq.trans rfl rfl
@[simp] theorem e_bcall {f : Bn} : evE W (.bcall f es) ρ = callR f.f (evEs W es ρ) := Eq.trans rfl rfl
@[simp] theorem e_mt {t : Mt} : evE W (.mt t a es) ρ = mthR t.ty t.f (evE W a ρ) (evEs W es ρ) := Eq.trans rfl rfl
@[simp] theorem e_items : evE W (.items a) ρ = itemsR (frzR (evE W a ρ)) := Eq.trans rfl rfl
@[simp] theorem e_rng1 : evE W (.rng1 a) ρ = rng1R (consL (evE W a ρ) (.ok [])) := Eq.trans rfl rfl
@[simp] theorem e_zip2 : evE W (.zip2 a b) ρ = zipR (consL (evE W a ρ) (consL (evE W b ρ) (.ok []))) := Eq.trans rfl rfl
@[simp] theorem e_enum1 : evE W (.enum1 a) ρ = enumR (consL (frzR (evE W a ρ)) (.ok [])) := Eq.trans rfl rfl
@[simp] theorem e_usort : evE W (.usort a b) ρ = usR (evE W a ρ) (evE W b ρ) := Eq.trans rfl rfl
@[simp] theorem e_srt : evE W (.srt a) ρ = callR srtD (consL (evE W a ρ) (.ok [])) := Eq.trans rfl rfl
@[simp] theorem e_sum1 : evE W (.sum1 a) ρ = callR sumD (consL (evE W a ρ) (.ok [])) := Eq.trans rfl rfl
@[simp] theorem e_revT : evE W (.revT a) ρ = revR (evE W a ρ) := Eq.trans rfl rfl
@[simp] theorem e_orV : evE W (.orV a b) ρ = orVR (evE W a ρ) (evE W b ρ) := Eq.trans rfl rfl
@[simp] theorem e_comp {ts : List E} {caps t n} : evE W (.comp a b ts caps t n) ρ = compR (evE W b ρ) ρ caps n (setG t) (fun ρ => evF W ts ρ) (fun ρ => evE W a ρ) := Eq.trans rfl rfl
@[simp] theorem el_nil : evL W [] = [] := by simp only [evL]
@[simp] theorem el_cons : evL W (a :: es) = evE W a :: evL W es := by simp only [evL]
@[simp] theorem sg_nm {i : Nat} {d : D} : setG (.nm i) d ρ = some (ρ.set i (some (false, d))) := by simp only [setG]
@[simp] theorem sg_tp {ts : List Tg} {ds : List D} : setG (.tp ts) (.tup ds) ρ = setGs ts ds ρ := by simp only [setG]
@[simp] theorem sg_tpl {ts : List Tg} {ds : List D} : setG (.tp ts) (.lst ds) ρ = setGs ts ds ρ := by simp only [setG]
@[simp] theorem sgs_nil : setGs [] [] ρ = some ρ := by simp [setGs]
@[simp] theorem sgs_cons {t : Tg} {ts : List Tg} {d : D} {ds : List D} : setGs (t :: ts) (d :: ds) ρ = (setG t d ρ).bind (setGs ts ds) := by
  simp only [setGs]
  cases setG t d ρ <;> rfl
@[simp] theorem e_tcall {t : Ty} : evE W (.tcall t es) ρ = callR t.f (evEs W es ρ) := Eq.trans rfl rfl
@[simp] theorem e_isi {x} : evE W (.isi a x) ρ = isoR W.cl x (evE W a ρ) := Eq.trans rfl rfl
@[simp] theorem e_meth {x} : evE W (.meth a x es) ρ = methR W.cl W.Φ x (evE W a ρ) (evEs W es ρ) := Eq.trans rfl rfl
@[simp] theorem e_mk0 {x} : evE W (.mk0 x) ρ = .ok .fr (.ins x []) := Eq.trans rfl rfl
@[simp] theorem es_nil : evEs W [] ρ = .ok [] := by simp only [evEs]
@[simp] theorem es_cons : evEs W (a :: es) ρ = consL (evE W a ρ) (evEs W es ρ) := by simp only [evEs]
@[simp] theorem ea_one : evA W [a] ρ = evE W a ρ := by simp only [evA]
@[simp] theorem ea_cons : evA W (a :: b :: es) ρ = andR (evE W a ρ) (evA W (b :: es) ρ) := by simp only [evA]
@[simp] theorem eo_one : evO' W [a] ρ = evE W a ρ := by simp only [evO']
@[simp] theorem eo_cons : evO' W (a :: b :: es) ρ = orR (evE W a ρ) (evO' W (b :: es) ρ) := by simp only [evO']
@[simp] theorem ef_nil : evF W [] ρ = .ok .fz (.bl true) := by simp only [evF]
@[simp] theorem ef_cons : evF W (a :: es) ρ = andR (evE W a ρ) (evF W es ρ) := by simp only [evF]
@[simp] theorem eo_none : evO W none = none := by simp only [evO]
@[simp] theorem eo_some : evO W (some a) = some (evE W a) := by simp only [evO]
@[simp] theorem s_ret : evS W (.ret a) ρ = retR (evE W a ρ) ρ := Eq.trans rfl rfl
@[simp] theorem s_retV {i} : evS W (.retV i) ρ = retS ρ i := Eq.trans rfl rfl
@[simp] theorem s_set {i} : evS W (.set i a) ρ = setS ρ i (evE W a ρ) := Eq.trans rfl rfl
@[simp] theorem s_ite {x y : List S} : evS W (.ite a x y) ρ = ifS (evE W a ρ) ρ (evB W x ρ) (evB W y ρ) := Eq.trans rfl rfl
@[simp] theorem s_for {t : Tg} {y : List S} : evS W (.for a t y) ρ = forR (evE W a ρ) ρ (setG t) (evB W y) := Eq.trans rfl rfl
@[simp] theorem s_app {i} : evS W (.app i a) ρ = appS ρ i (evE W a ρ) := Eq.trans rfl rfl
@[simp] theorem s_frzV {i} : evS W (.frzV i) ρ = frzS ρ i := Eq.trans rfl rfl
@[simp] theorem s_setC {i} : evS W (.setC i false a) ρ = setS ρ i (evE W a ρ) := Eq.trans rfl rfl
@[simp] theorem s_setCf {i} : evS W (.setC i true a) ρ = setS ρ i (frzR (evE W a ρ)) := Eq.trans rfl rfl
@[simp] theorem b_nil : evB W [] ρ = .nx ρ := by simp only [evB]
@[simp] theorem b_cons {s : S} {r : List S} : evB W (s :: r) ρ = (evS W s ρ).thn (evB W r) := by simp only [evB]
end
section
variable {m n : Md} {i j : Int} {ρ : Rho} {d : D}
@[simp] theorem x_add : op2 (fBin .Add) (.ok m (.int i)) (.ok n (.int j)) = .ok .fz (.int (i + j)) := rfl
@[simp] theorem x_sub : op2 (fBin .Sub) (.ok m (.int i)) (.ok n (.int j)) = .ok .fz (.int (i - j)) := rfl
@[simp] theorem x_lt : op2 (fCmp .Lt) (.ok m (.int i)) (.ok n (.int j)) = .ok .fz (.bl (decide (i < j))) := rfl
@[simp] theorem x_le : op2 (fCmp .LtE) (.ok m (.int i)) (.ok n (.int j)) = .ok .fz (.bl (decide (i ≤ j))) := rfl
@[simp] theorem x_gt : op2 (fCmp .Gt) (.ok m (.int i)) (.ok n (.int j)) = .ok .fz (.bl (decide (j < i))) := rfl
@[simp] theorem x_ge : op2 (fCmp .GtE) (.ok m (.int i)) (.ok n (.int j)) = .ok .fz (.bl (decide (j ≤ i))) := rfl
@[simp] theorem x_mod (h : 0 < j) : op2 (fBin .Mod) (.ok m (.int i)) (.ok n (.int j)) = .ok .fz (.int (i % j)) := by
  show Res.of (if decide (0 < j) = true then _ else _) = _
  rw [if_pos (decide_eq_true h)]; rfl
theorem x_div (h : 0 < j) (hb : bits j = true) : op2 (fBin .FloorDiv) (.ok m (.int i)) (.ok n (.int j)) = .ok .fz (.int (i / j)) := by
  show Res.of (if (decide (0 < j) && bits j) = true then _ else _) = _
  rw [if_pos (by rw [hb, decide_eq_true h]; rfl)]; rfl
theorem bits_of (h : i.natAbs < 10 ^ 2000) : bits i = true := by
  unfold bits
  refine decide_eq_true ?_
  by_cases h0 : i.natAbs = 0
  · rw [h0]; decide
  · refine (Nat.log2_lt h0).mpr (Nat.lt_trans h ?_)
    decide +kernel
theorem bits_le {N : Nat} (h : i.natAbs ≤ N) (hN : N < 10 ^ 2000 := by decide +kernel) : bits i = true := bits_of (Nat.lt_of_le_of_lt h hN)
@[simp] theorem x_divS (h : 0 < j) (hb : j.natAbs ≤ 1000000000) : op2 (fBin .FloorDiv) (.ok m (.int i)) (.ok n (.int j)) = .ok .fz (.int (i / j)) := x_div h (bits_le hb)
theorem x_mulC (h : ((bits i && bits j) || (w64 i || w64 j)) = true) : op2 (fBin .Mult) (.ok m (.int i)) (.ok n (.int j)) = .ok .fz (.int (i * j)) := by
  show Res.of (((if ((bits i && bits j) || (w64 i || w64 j)) = true then _ else _ : Option (Md × D)).orElse _).orElse _) = _
  rw [if_pos h]; rfl
theorem x_mul (h1 : bits i = true) (h2 : bits j = true) : op2 (fBin .Mult) (.ok m (.int i)) (.ok n (.int j)) = .ok .fz (.int (i * j)) := x_mulC (by rw [h1, h2]; rfl)
theorem op2_of {φ : Md → D → Md → D → Option (Md × D)} {x y d : D} {k : Md} (h : φ m x n y = some (k, d)) : op2 φ (.ok m x) (.ok n y) = .ok k d := by
  show Res.of (φ m x n y) = _
  rw [h]; rfl
@[simp] theorem x_eqI : op2 (fCmp .Eq) (.ok m (.int i)) (.ok n (.int j)) = .ok .fz (.bl (i == j)) := op2_of rfl
@[simp] theorem x_neI : op2 (fCmp .NotEq) (.ok m (.int i)) (.ok n (.int j)) = .ok .fz (.bl (i != j)) := op2_of rfl
@[simp] theorem x_eqB {a b : Bool} : op2 (fCmp .Eq) (.ok m (.bl a)) (.ok n (.bl b)) = .ok .fz (.bl (a == b)) := op2_of rfl
@[simp] theorem x_neB {a b : Bool} : op2 (fCmp .NotEq) (.ok m (.bl a)) (.ok n (.bl b)) = .ok .fz (.bl (a != b)) := op2_of rfl
@[simp] theorem x_eqS {a b : Str} : op2 (fCmp .Eq) (.ok m (.str a)) (.ok n (.str b)) = .ok .fz (.bl (a == b)) := op2_of (by rfl)
@[simp] theorem x_neS {a b : Str} : op2 (fCmp .NotEq) (.ok m (.str a)) (.ok n (.str b)) = .ok .fz (.bl (a != b)) := op2_of (by rfl)
@[simp] theorem x_inS {a b : Str} : op2 (fCmp .In) (.ok m (.str a)) (.ok n (.str b)) = .ok .fz (.bl (isIn a b)) := op2_of rfl
@[simp] theorem x_notinS {a b : Str} : op2 (fCmp .NotIn) (.ok m (.str a)) (.ok n (.str b)) = .ok .fz (.bl (!isIn a b)) := op2_of rfl
@[simp] theorem x_addS {a b : Str} (h : a.length + b.length ≤ sizeLine) : op2 (fBin .Add) (.ok m (.str a)) (.ok n (.str b)) = .ok .fz (.str (a ++ b)) :=
  op2_of (by
    have : fS (fun i j => decide (i.length + j.length ≤ sizeLine)) (fun i j => D.str (i ++ j)) m (.str a) n (.str b) = some (Md.fz, D.str (a ++ b)) := by
      show (if decide (a.length + b.length ≤ sizeLine) = true then some (Md.fz, D.str (a ++ b)) else none) = _
      rw [if_pos (decide_eq_true h)]
    show orO (orO (fI (fun _ _ => true) fun i j => .int (i + j)) (fS (fun i j => decide (i.length + j.length ≤ sizeLine)) fun i j => .str (i ++ j))) catD m (.str a) n (.str b) = _
    simp only [orO, this]
    rfl)
@[simp] theorem x_isN {d : D} : op2 (fCmp .Is) (.ok m d) (.ok n .non) = .ok .fz (.bl (isNonD d)) := op2_of rfl
@[simp] theorem x_isnotN {d : D} : op2 (fCmp .IsNot) (.ok m d) (.ok n .non) = .ok .fz (.bl (!isNonD d)) := op2_of rfl
@[simp] theorem x_catL {x y : List D} (h : x.length + y.length ≤ sizeLine) : op2 (fBin .Add) (.ok m (.lst x)) (.ok n (.lst y)) = .ok .fr (.lst (x ++ y)) := op2_of (by
  show (if x.length + y.length ≤ sizeLine then some (Md.fr, D.lst (x ++ y)) else none) = _
  rw [if_pos h])
@[simp] theorem x_catT {x y : List D} (h : x.length + y.length ≤ sizeLine) : op2 (fBin .Add) (.ok m (.tup x)) (.ok n (.tup y)) = .ok .fz (.tup (x ++ y)) := op2_of (by
  show (if x.length + y.length ≤ sizeLine then some (Md.fz, D.tup (x ++ y)) else none) = _
  rw [if_pos h])
@[simp] theorem isn_n : isNonD .non = true := rfl
@[simp] theorem isn_i {i : Int} : isNonD (.int i) = false := rfl
@[simp] theorem isn_b {i : Bool} : isNonD (.bl i) = false := rfl
@[simp] theorem isn_s {i : Str} : isNonD (.str i) = false := rfl
@[simp] theorem isn_t {i : List D} : isNonD (.tup i) = false := rfl
@[simp] theorem isn_l {i : List D} : isNonD (.lst i) = false := rfl
@[simp] theorem x_andT {y : Res} : andR (.ok m (.bl true)) y = y := rfl
@[simp] theorem x_andF {y : Res} : andR (.ok m (.bl false)) y = .ok .fz (.bl false) := rfl
@[simp] theorem x_orT {y : Res} : orR (.ok m (.bl true)) y = .ok .fz (.bl true) := rfl
@[simp] theorem x_orF {y : Res} : orR (.ok m (.bl false)) y = y := rfl
@[simp] theorem x_and {a b : Bool} : andR (.ok m (.bl a)) (.ok .fz (.bl b)) = .ok .fz (.bl (a && b)) := by cases a <;> rfl
@[simp] theorem x_or {a b : Bool} : orR (.ok m (.bl a)) (.ok .fz (.bl b)) = .ok .fz (.bl (a || b)) := by cases a <;> rfl
@[simp] theorem x_not {a : Bool} : notR (.ok m (.bl a)) = .ok .fz (.bl (!a)) := rfl
@[simp] theorem x_tru {a : Bool} : truR (.ok m (.bl a)) = .ok .fz (.bl a) := rfl
@[simp] theorem x_truI : truR (.ok m (.int i)) = .ok .fz (.bl (i != 0)) := rfl
@[simp] theorem x_ifT {x y : SRes} : ifS (.ok m (.bl true)) ρ x y = x := rfl
@[simp] theorem x_ifF {x y : SRes} : ifS (.ok m (.bl false)) ρ x y = y := rfl
@[simp] theorem x_frz : frzR (.ok .fz d) = .ok .fz d := rfl
@[simp] theorem x_frr : frzR (.ok .fr d) = .ok .fz d := rfl
@[simp] theorem x_set {k : Nat} : setS ρ k (.ok .fz d) = .nx (ρ.set k (some (false, d))) := rfl
@[simp] theorem x_setr {k : Nat} : setS ρ k (.ok .fr d) = .nx (ρ.set k (some (true, d))) := rfl
@[simp] theorem x_ret : retR (.ok .fz d) ρ = .rt .fz d := rfl
@[simp] theorem x_retr : retR (.ok .fr d) ρ = .rt .fr d := rfl
@[simp] theorem g_0 {r : Rho} : getS (some (false, d) :: r) 0 = .ok .fz d := rfl
@[simp] theorem g_0b {r : Rho} : getS (some (true, d) :: r) 0 = .ok .bo d := rfl
@[simp] theorem g_s {x : Option (Bool × D)} {r : Rho} {i : Nat} : getS (x :: r) (i + 1) = getS r i := rfl
@[simp] theorem g_1 {x : Option (Bool × D)} {r : Rho} : getS (x :: r) 1 = getS r 0 := rfl
@[simp] theorem rs_0 {r : Rho} : retS (some (false, d) :: r) 0 = .rt .fz d := rfl
@[simp] theorem rs_0b {r : Rho} : retS (some (true, d) :: r) 0 = .rt .fr d := rfl
@[simp] theorem rs_1 {x : Option (Bool × D)} {r : Rho} : retS (x :: r) 1 = retS r 0 := rfl
@[simp] theorem rs_s {x : Option (Bool × D)} {r : Rho} {i : Nat} : retS (x :: r) (i + 1) = retS r i := rfl
@[simp] theorem r_set0 {x y : Option (Bool × D)} {r : Rho} : (x :: r).set 0 y = y :: r := rfl
@[simp] theorem x_callR {f : List (Md × D) → Option (Md × D)} {xs : List (Md × D)} : callR f (.ok xs) = Res.of (f xs) := rfl
@[simp] theorem bn_len : Bn.f .len = lenD := rfl
@[simp] theorem bn_isi : Bn.f .isinstance = isiD := rfl
@[simp] theorem ty_int : Ty.f .int = tcInt2 := rfl
@[simp] theorem ty_str : Ty.f .str = tcStr := rfl
@[simp] theorem ty_tuple : Ty.f .tuple = tcTuple := rfl
@[simp] theorem ty_dict : Ty.f .dict = tcDict := rfl
@[simp] theorem ty_list : Ty.f .list = tcList := rfl
@[simp] theorem tci_i {i : Int} : tcInt2 [(m, .int i)] = some (.fz, .int i) := rfl
@[simp] theorem tci_b {i : Bool} : tcInt2 [(m, .bl i)] = some (.fz, .int (if i then 1 else 0)) := rfl
@[simp] theorem tct_l {i : List D} : tcTuple [(m, .lst i)] = some (.fz, .tup i) := rfl
@[simp] theorem tct_t {i : List D} : tcTuple [(.fz, .tup i)] = some (.fz, .tup i) := rfl
@[simp] theorem tcl_l {i : List D} : tcList [(m, .lst i)] = some (.fr, .lst i) := rfl
@[simp] theorem tcl_t {i : List D} : tcList [(m, .tup i)] = some (.fr, .lst i) := rfl
@[simp] theorem tcs_i {i : Int} (h : small i = true) : tcStr [(m, .int i)] = some (.fz, .str (numS i)) := by show (if small i = true then _ else _) = _; rw [if_pos h]
@[simp] theorem mt_ty : Mt.ty .join = "str" := rfl
@[simp] theorem mt_f : Mt.f .join = joinD := rfl
@[simp] theorem mt_tyT : Mt.ty .joinT = "str" := rfl
@[simp] theorem mt_fT : Mt.f .joinT = D3.joinT := rfl
@[simp] theorem mt_tyS : Mt.ty .startswith = "str" := rfl
@[simp] theorem mt_fS : Mt.f .startswith = swD := rfl
@[simp] theorem mt_tyR : Mt.ty .removeprefix = "str" := rfl
@[simp] theorem mt_fR : Mt.f .removeprefix = rpD := rfl
@[simp] theorem bn_all : Bn.f .all = allD := rfl
@[simp] theorem len_s {z : Str} : lenD [(m, .str z)] = some (.fz, .int z.length) := rfl
@[simp] theorem len_l {z : List D} : lenD [(m, .lst z)] = some (.fz, .int z.length) := rfl
@[simp] theorem len_t {z : List D} : lenD [(m, .tup z)] = some (.fz, .int z.length) := rfl
@[simp] theorem itm_l {z : List D} : itemsR (.ok m (.lst z)) = .ok .fz (.lst z) := rfl
@[simp] theorem itm_t {z : List D} : itemsR (.ok m (.tup z)) = .ok .fz (.lst z) := rfl
@[simp] theorem itm_s {z : Str} : itemsR (.ok m (.str z)) = .ok .fz (.lst (charsD z)) := rfl
end
@[simp] theorem WT_xf {t : TB} {k : Nat} : (WT t k).xf = fun c x => t.xt.lookup (c, x) := by unfold WD.xf; rw [WT_xt]
@[simp] theorem WT_xg {t : TB} {k : Nat} : (WT t k).xg = fun c x => t.xi.lookup (c, x) := by unfold WD.xg; rw [WT_xi]
section
variable {c x : Str} {ρ ρ' : Rho} {m : Md} {d : D} {xt : Str → Str → Option Bool} {hs : List HX} {g : Rho → SRes}
@[simp] theorem x_frx : frzR (.exc c) = .exc c := rfl
@[simp] theorem x_setx {k : Nat} : setS ρ k (.exc c) = .exc c ρ := rfl
@[simp] theorem x_retx : retR (.exc c) ρ = .exc c ρ := rfl
end
theorem xt_nil {K : PySem.W.Frag} {mg : Str → Option Value} : XtOk K mg (fun c x => ([] : List ((Str × Str) × Bool)).lookup (c, x)) := fun c x b h => by cases h
theorem xi_nil {K : PySem.W.Frag} {mg : Str → Option Value} : XisOk K mg (fun c x => ([] : List ((Str × Str) × Bool)).lookup (c, x)) := fun c x b h => by cases h
theorem phi_ok {n N : Nat} {g : Rho → SRes} {ds : List D} {m : Md} {d : D} (hl : ds.length = n) (h : g (startR N ds) = .rt m d) : phi n N g ds = .ok m d := by
  unfold phi
  rw [if_pos hl, h]; rfl
theorem callF_ok {n : Nat} {Φ : List D → Res} {xs : List (Md × D)} {ds : List D} {d : D} (hl : ds.length = n) (ha : allFz xs = some ds) (h : Φ ds = .ok .fz d) : callF n Φ (.ok xs) = .ok .fz d := by
  show (match allFz xs with | some ds => if ds.length = n then (match Φ ds with | .ok .bo _ => Res.stuck | r => r) else .stuck | none => .stuck) = _
  rw [ha]
  show (if ds.length = n then _ else _) = _
  rw [if_pos hl, h]
@[simp] theorem call1 {Φ : List D → Res} {a d : D} (h : Φ [a] = .ok .fz d) : callF 1 Φ (.ok [(.fz, a)]) = .ok .fz d := callF_ok (ds := [a]) rfl rfl h
@[simp] theorem call2 {Φ : List D → Res} {a b d : D} (h : Φ [a, b] = .ok .fz d) : callF 2 Φ (.ok [(.fz, a), (.fz, b)]) = .ok .fz d := callF_ok (ds := [a, b]) rfl rfl h
@[simp] theorem call3 {Φ : List D → Res} {a b c d : D} (h : Φ [a, b, c] = .ok .fz d) : callF 3 Φ (.ok [(.fz, a), (.fz, b), (.fz, c)]) = .ok .fz d := callF_ok (ds := [a, b, c]) rfl rfl h
theorem len1 {α : Type} {P : List α → Prop} (h : ∀ a, P [a]) : ∀ us : List α, us.length = 1 → P us
  | [a], _ => h a
theorem len2 {α : Type} {P : List α → Prop} (h : ∀ a b, P [a, b]) : ∀ us : List α, us.length = 2 → P us
  | [a, b], _ => h a b
theorem len3 {α : Type} {P : List α → Prop} (h : ∀ a b c, P [a, b, c]) : ∀ us : List α, us.length = 3 → P us
  | [a, b, c], _ => h a b c
theorem len4 {α : Type} {P : List α → Prop} (h : ∀ a b c d, P [a, b, c, d]) : ∀ us : List α, us.length = 4 → P us
  | [a, b, c, d], _ => h a b c d
def inCls (s : Stmt) (j : Nat) : Stmt := match s with
  | .ClassDef _ _ _ body _ _ _ _ _ _ _ => body.getD j (.Pass ⟨0, 0, 0, 0⟩)
  | _ => .Pass ⟨0, 0, 0, 0⟩
theorem mem_cons {α : Type} {P : α → Prop} {a : α} {l : List α} (h : P a) (r : ∀ c, c ∈ l → P c) : ∀ c, c ∈ a :: l → P c := fun c hc => by
  rcases List.mem_cons.mp hc with rfl | hc
  · exact h
  · exact r c hc
theorem kit_t {K : PySem.W.Frag} {C : Addr} {t : String} {b : Bool} (h1 : PySem.W.isClsIn K C = true) (h2 : PySem.W.typeIn K (.ref C) = some (.type "type")) (h3 : PySem.W.subIn K (.type t) (.ref C) = some b) : PySem.W.kitOne K (.type t) (.ref C) = some b := by
  unfold PySem.W.kitOne
  rw [if_neg (by intro z; cases (beq_iff_eq.mp z))]
  show (if ((PySem.W.clsIn K C).isSome && PySem.W.typeIn K (.ref C) == some (.type "type")) = true then PySem.W.subIn K (.type t) (.ref C) else none) = _
  rw [if_pos (by rw [h2, show (PySem.W.clsIn K C).isSome = true from h1]; rfl)]
  exact h3
theorem kit_s {K : PySem.W.Frag} {C : Addr} : PySem.W.kitOne K (.ref C) (.ref C) = some true := by
  unfold PySem.W.kitOne
  rw [if_pos (beq_self_eq_true _)]
theorem kit_r {K : PySem.W.Frag} {C C' : Addr} {b : Bool} (h1 : PySem.W.isClsIn K C = true) (h2 : PySem.W.typeIn K (.ref C) = some (.type "type")) (h3 : PySem.W.subIn K (.ref C') (.ref C) = some b) (hne : (C' == C) = false) : PySem.W.kitOne K (.ref C') (.ref C) = some b := by
  unfold PySem.W.kitOne
  rw [if_neg (by intro z; cases (beq_iff_eq.mp z); simp at hne)]
  show (if ((PySem.W.clsIn K C).isSome && PySem.W.typeIn K (.ref C) == some (.type "type")) = true then PySem.W.subIn K (.ref C') (.ref C) else none) = _
  rw [if_pos (by rw [h2, show (PySem.W.clsIn K C).isSome = true from h1]; rfl)]
  exact h3
@[simp] theorem x_meth {cl : List CI} {Φ : Str → List D → Res} {c m key : Str} {n : Nat} {fs : List (Str × D)} {as : ResL} (h : CI.meth cl c m = some (key, n)) (hl : fs.lookup m = none) : methR cl Φ m (.ok .fz (.ins c fs)) as = callF n (Φ key) (consL (.ok .fz (.ins c fs)) as) := by
  show (match CI.meth cl c m with | some (key, n) => if fs.lookup m = none then callF n (Φ key) (consL (.ok .fz (.ins c fs)) as) else .stuck | none => .stuck) = _
  rw [h]
  show (if fs.lookup m = none then _ else _) = _
  rw [if_pos hl]
@[simp] theorem wt_cl {t : TB} {k : Nat} : (WT t k).cl = t.cl := WT_cl t k
theorem wt_Φ {t : TB} {k : Nat} {f : Str} {d : FD} (h : t.T.lookup f = some d) : (WT t (k + 1)).Φ f = phi d.ps.length d.N.length (evB (WT t k) d.b) := by
  rw [WT_Φ]; unfold PhiF; rw [h]
@[simp] theorem call4 {Φ : List D → Res} {a b c e d : D} (h : Φ [a, b, c, e] = .ok .fz d) : callF 4 Φ (.ok [(.fz, a), (.fz, b), (.fz, c), (.fz, e)]) = .ok .fz d := callF_ok (ds := [a, b, c, e]) rfl rfl h
theorem b_app {W : WD} : ∀ {x y : List D3.S} {ρ : Rho}, evB W (x ++ y) ρ = (evB W x ρ).thn (evB W y)
  | [], y, ρ => by simp
  | s :: x, y, ρ => by
    show evB W (s :: (x ++ y)) ρ = _
    rw [b_cons, b_cons]
    cases evS W s ρ with
    | nx ρ' => exact b_app
    | _ => rfl
/-! ### loops -/
theorem forS_inv {k : D → Rho → Option Rho} {body : Rho → SRes} (I : Rho → Prop) : ∀ {ds : List D} {ρ : Rho}, (∀ d ∈ ds, ∀ ρ, I ρ → ∃ ρ1 ρ2, k d ρ = some ρ1 ∧ (body ρ1 = .nx ρ2 ∨ body ρ1 = .ct ρ2) ∧ I ρ2) → I ρ → ∃ ρ', forS k body ds ρ = .nx ρ' ∧ I ρ'
  | [], ρ, _, h => ⟨ρ, rfl, h⟩
  | d :: ds, ρ, hs, h => by
    obtain ⟨ρ1, ρ2, e1, e2, h2⟩ := hs d List.mem_cons_self ρ h
    obtain ⟨ρ', e3, h3⟩ := forS_inv I (fun d hd => hs d (List.mem_cons_of_mem _ hd)) h2
    refine ⟨ρ', ?_, h3⟩
    unfold forS
    rw [e1]
    dsimp only
    rcases e2 with e2 | e2 <;> rw [e2] <;> exact e3
theorem forR_inv {k : D → Rho → Option Rho} {body : Rho → SRes} {m : Md} {ds : List D} {ρ : Rho} (I : Rho → Prop) (hs : ∀ d ∈ ds, ∀ ρ, I ρ → ∃ ρ1 ρ2, k d ρ = some ρ1 ∧ (body ρ1 = .nx ρ2 ∨ body ρ1 = .ct ρ2) ∧ I ρ2) (h : I ρ) :
    ∃ ρ', forR (.ok m (.lst ds)) ρ k body = .nx ρ' ∧ I ρ' := forS_inv I hs h
/-! ### the greatest divisor -/
theorem compL_map {k : D → Rho → Option Rho} {t e : Rho → Res} {ρ0 : Rho} {f : D → D} : ∀ {ds : List D}, (∀ d ∈ ds, ∃ ρ1 m, k d ρ0 = some ρ1 ∧ t ρ1 = .ok m (.bl true) ∧ ∃ m', frzR (e ρ1) = .ok m' (f d)) → compL k t e ρ0 ds = some (ds.map f)
  | [], _ => rfl
  | d :: ds, h => by
    obtain ⟨ρ1, m, e1, e2, m', e3⟩ := h d List.mem_cons_self
    unfold compL
    rw [e1]
    dsimp only
    rw [e2]
    dsimp only
    rw [e3]
    dsimp only
    rw [compL_map fun d hd => h d (List.mem_cons_of_mem _ hd)]
    rfl
/-- a comprehension without tests over a list: the map -/
theorem compR_map {ρ : Rho} {caps : List Nat} {n : Nat} {k : D → Rho → Option Rho} {t e : Rho → Res} {m : Md} {ds : List D} (f : D → D) (hl : ds.length < sizeLine)
    (h : ∀ d ∈ ds, ∃ ρ1 m, k d (subR caps ρ ++ List.replicate n none) = some ρ1 ∧ t ρ1 = .ok m (.bl true) ∧ ∃ m', frzR (e ρ1) = .ok m' (f d)) : compR (.ok m (.lst ds)) ρ caps n k t e = .ok .fr (.lst (ds.map f)) := by
  unfold compR
  rw [Res.thn_ok]
  dsimp only
  rw [if_pos hl, compL_map h]
end D3

namespace K06
open PySem L2 D3
def b__law_shown_L1 : List D3.S := [.ite (.cmp .Eq (.var 3) (.int 0)) [.set 2 (.var 4)] [.set 2 (.frz (.bin .Add (.bin .Add (.var 2) (.str "+")) (.var 4)))]]
def b_law_L1 : List D3.S := [.set 4 (.frz (.call "_law_note_by" 3 [(.var 2), (.ix (.var 0) (.var 3)), (.int 10)])),
      .set 5 (.frz (.call "_law_note_by" 3 [(.var 2), (.ix (.var 0) (.bin .Mod (.bin .Add (.var 3) (.int 1)) (.bcall .len [(.var 0)]))), (.int 30)])),
      .ite (.orL [(.not (.tru (.call "_law_met" 4 [(.var 1), (.var 2), (.var 4), (.var 5)]))), (.not (.tru (.call "_law_shown" 2 [(.frz (.meth (.var 1) "shown" [(.var 4)])), (.var 4)])))]) [.ret (.bl false)] [],
      .ite (.orL [(.not (.tru (.call "_law_told" 2 [(.frz (.meth (.var 1) "holds" [(.var 4)])), (.bl true)]))), (.not (.tru (.call "_law_told" 2 [(.frz (.meth (.var 1) "holds" [(.frz (.call "_law_odd" 2 [(.var 2), (.ix (.var 0) (.var 3))]))])), (.bl false)])))]) [.ret (.bl false)] []]
def b_is_name : List D3.S := [.ite (.not (.tru (.bcall .isinstance [(.var 0), (.ty .str)]))) [.ret (.bl false)] [],
      .ite (.orL [(.cmp .Lt (.bcall .len [(.var 0)]) (.int 1)), (.cmp .Gt (.bcall .len [(.var 0)]) (.glob "LONGEST" (.i 40)))]) [.ret (.bl false)] [],
      .ret (.andL [(.cmp .In (.ix (.var 0) (.int 0)) (.glob "LETTERS" (.s "abcdefghijklmnopqrstuvwxyz"))), (.bcall .all [(.comp (.call "is_name_sign" 1 [(.var 0)]) (.items (.var 0)) [] [] (.nm 0) 1)])])]
def b_is_name_sign : List D3.S := [.ret (.orL [(.cmp .In (.var 0) (.glob "LETTERS" (.s "abcdefghijklmnopqrstuvwxyz"))), (.cmp .In (.var 0) (.glob "FIGURES" (.s "0123456789")))])]
def b_is_name_set : List D3.S := [.ite (.orL [(.not (.tru (.bcall .isinstance [(.var 0), (.ty .tuple)]))), (.not (.tru (.bcall .all [(.comp (.call "is_name" 1 [(.var 0)]) (.items (.var 0)) [] [] (.nm 0) 1)])))]) [.ret (.bl false)] [],
      .ret (.call "is_rising" 1 [(.var 0)])]
def b_is_rising : List D3.S := [.ret (.bcall .all [(.comp (.cmp .Lt (.ix (.var 0) (.var 1)) (.ix (.var 0) (.bin .Add (.var 1) (.int 1)))) (.rng1 (.bin .Sub (.bcall .len [(.var 0)]) (.int 1))) [] [0] (.nm 1) 1)])]
def b_names_of_both : List D3.S := [.ret (.tcall .tuple [(.usort (.var 0) (.var 1))])]
def b__law_mix : List D3.S := [.set 2 (.frz (.bin .Mod (.bin .Mult (.bin .Add (.bin .Mod (.var 0) (.bin .Pow (.int 10) (.int 60))) (.int 1)) (.bin .Add (.int 48271) (.bin .Mult (.int 130) (.var 1)))) (.int 2147483647))),
      .ret (.bin .Mod (.bin .Mult (.var 2) (.var 2)) (.int 2147483629))]
def b__law_names : List D3.S := [.set 2 (.str "abcdefghijklmnopqrstuvwxyz"),
      .set 3 (.frz (.mt .join (.str "") [(.comp (.ix (.var 0) (.bin .Mod (.call "_law_mix" 2 [(.var 1), (.var 2)]) (.int 26))) (.rng1 (.int 5)) [] [2, 0] (.nm 2) 1)])),
      .set 4 (.frz (.bin .Mod (.call "_law_mix" 2 [(.var 0), (.int 5)]) (.int 5))),
      .set 5 (.frz (.bin .Mod (.call "_law_mix" 2 [(.var 0), (.int 6)]) (.int 26))),
      .set 6 (.frz (.bin .Mod (.call "_law_mix" 2 [(.var 0), (.int 7)]) (.int 4))),
      .set 7 (.str ""),
      .ite (.cmp .Eq (.var 6) (.int 1)) [.set 7 (.frz (.bin .Mult (.str "7") (.bin .Mod (.call "_law_mix" 2 [(.var 0), (.int 8)]) (.int 36))))] [],
      .setC 8 true (.comp (.bin .Add (.slice (.var 0) none (some (.var 2))) (.ix (.var 1) (.bin .Mod (.bin .Add (.var 3) (.bin .Mult (.int 7) (.var 4))) (.int 26)))) (.rng1 (.var 1)) [] [3, 2, 4, 5] (.nm 4) 1),
      .setC 8 true (.comp (.bin .Add (.bin .Add (.var 3) (.slice (.var 1) (some (.bin .Add (.var 2) (.int 1))) none)) (.var 0)) (.items (.var 8)) [] [7, 3, 4] (.nm 3) 1),
      .ite (.cmp .Eq (.var 6) (.int 2)) [.setC 8 true (.comp (.bin .Add (.var 0) (.bin .Mult (.str "9") (.var 1))) (.rng1 (.var 1)) [] [3] (.nm 1) 1)] [],
      .ite (.cmp .Eq (.var 6) (.int 3)) [.setC 8 true (.comp (.bin .Add (.ix (.var 0) (.bin .Mod (.bin .Add (.var 2) (.bin .Mult (.int 7) (.var 3))) (.int 26))) (.slice (.var 1) none (some (.bin .Mod (.bin .Add (.var 2) (.var 3)) (.int 4))))) (.rng1 (.var 1)) [] [2, 3, 5] (.nm 3) 1)] [],
      .ret (.srt (.var 8))]
def b__law_note_by : List D3.S := [.ite (.cmp .Eq (.bin .Mod (.call "_law_mix" 2 [(.var 1), (.var 2)]) (.int 6)) (.int 0)) [.ret .non] [],
      .ret (.tcall .tuple [(.comp (.var 3) (.enum1 (.var 0)) [(.cmp .Eq (.bin .Mod (.call "_law_mix" 2 [(.var 0), (.frz (.bin .Add (.bin .Add (.var 1) (.int 1)) (.var 2)))]) (.int 2)) (.int 1))] [1, 2] (.tp [(.nm 2), (.nm 3)]) 2)])]
def b__law_like : List D3.S := [.ite (.cmp .Is (.var 1) .non) [.ret (.cmp .Is (.var 0) .non)] [],
      .ite (.orL [(.not (.tru (.bcall .isinstance [(.var 0), (.ty .tuple)]))), (.cmp .NotEq (.bcall .len [(.var 0)]) (.bcall .len [(.var 1)]))]) [.ret (.bl false)] [],
      .ret (.bcall .all [(.comp (.andL [(.bcall .isinstance [(.var 0), (.ty .str)]), (.cmp .Eq (.var 0) (.var 1))]) (.zip2 (.var 0) (.var 1)) [] [] (.tp [(.nm 0), (.nm 1)]) 2)])]
def b__law_told : List D3.S := [.ret (.andL [(.bcall .isinstance [(.var 0), (.ty .bool)]), (.cmp .Eq (.var 0) (.var 1))])]
def b__law_shown : List D3.S := [.ite (.cmp .Is (.var 1) .non) [.ret (.andL [(.bcall .isinstance [(.var 0), (.ty .str)]), (.cmp .Eq (.var 0) (.str "never"))])] [],
      .set 2 (.str "nobody"),
      .for (.enum1 (.var 1)) (.tp [(.nm 3), (.nm 4)]) b__law_shown_L1,
      .ret (.andL [(.bcall .isinstance [(.var 0), (.ty .str)]), (.cmp .Eq (.var 0) (.var 2))])]
def b__law_odd : List D3.S := [.set 2 (.frz (.bin .Mod (.call "_law_mix" 2 [(.var 1), (.int 20)]) (.bcall .len [(.var 0)]))),
      .set 3 (.lst [(.frz (.tcall .list [(.var 0)])), (.frz (.revT (.var 0))), (.frz (.tcall .tuple [(.bin .Add (.slice (.var 0) none (some (.bin .Add (.var 2) (.int 1)))) (.slice (.var 0) (some (.var 2)) none))])), (.tup [(.str "")]), (.tup [(.str "a"), (.int 3)]), (.ix (.var 0) (.var 2)), (.int 0), (.bl true)]),
      .set 4 (.ix (.str "A-_ .+*~") (.bin .Mod (.call "_law_mix" 2 [(.var 1), (.int 22)]) (.int 8))),
      .app 3 (.tcall .tuple [(.bin .Add (.bin .Add (.slice (.var 0) none (some (.var 2))) (.lst [(.frz (.bin .Add (.bin .Add (.ix (.var 0) (.var 2)) (.var 4)) (.str "a")))])) (.slice (.var 0) (some (.bin .Add (.var 2) (.int 1))) none))]),
      .frzV 3,
      .ret (.ix (.var 3) (.bin .Mod (.call "_law_mix" 2 [(.var 1), (.int 21)]) (.int 9)))]
def b__law_met : List D3.S := [.set 4 (.frz (.tcall .tuple [(.comp (.var 2) (.items (.var 1)) [(.orL [(.cmp .In (.var 2) (.orV (.var 0) (.tup []))), (.cmp .In (.var 2) (.orV (.var 1) (.tup [])))])] [2, 3] (.nm 2) 1)])),
      .set 5 (.var 4),
      .ite (.andL [(.cmp .Is (.var 2) .non), (.cmp .Is (.var 3) .non)]) [.set 5 .non] [],
      .set 6 (.var 4),
      .ite (.orL [(.cmp .Is (.var 2) .non), (.cmp .Is (.var 3) .non)]) [.set 6 .non] [],
      .ret (.andL [(.call "_law_like" 2 [(.frz (.meth (.var 0) "plus" [(.var 2), (.var 3)])), (.var 5)]), (.call "_law_like" 2 [(.frz (.meth (.var 0) "times" [(.var 2), (.var 3)])), (.var 6)])])]
def b_law : List D3.S := [.set 1 (.frz (.mk0 "Voices")),
      .ite (.orL [(.not (.tru (.isi (.var 1) "Kind"))), (.not (.tru (.isi (.var 1) "Single")))]) [.ret (.bl false)] [],
      .ite (.orL [(.cmp .IsNot (.meth (.var 1) "nought" []) .non), (.not (.tru (.call "_law_like" 2 [(.frz (.meth (.var 1) "one" [])), (.tup [])])))]) [.ret (.bl false)] [],
      .set 2 (.frz (.call "_law_names" 2 [(.frz (.sum1 (.slice (.var 0) none (some (.int 1))))), (.int 5)])),
      .for (.rng1 (.bcall .len [(.var 0)])) (.nm 3) b_law_L1,
      .ret (.bl true)]
def b_Voices_nought : List D3.S := [.ret .non]
def b_Voices_one : List D3.S := [.ret (.tup [])]
def b_Voices_plus : List D3.S := [.ite (.cmp .Is (.var 1) .non) [.retV 2] [],
      .ite (.cmp .Is (.var 2) .non) [.retV 1] [],
      .ret (.call "names_of_both" 2 [(.var 1), (.var 2)])]
def b_Voices_times : List D3.S := [.ite (.orL [(.cmp .Is (.var 1) .non), (.cmp .Is (.var 2) .non)]) [.ret .non] [],
      .ret (.call "names_of_both" 2 [(.var 1), (.var 2)])]
def b_Voices_holds : List D3.S := [.ret (.orL [(.cmp .Is (.var 1) .non), (.call "is_name_set" 1 [(.var 1)])])]
def b_Voices_shown : List D3.S := [.ite (.cmp .Is (.var 1) .non) [.ret (.str "never")] [],
      .ite (.cmp .Eq (.var 1) (.tup [])) [.ret (.str "nobody")] [],
      .ret (.mt .joinT (.str "+") [(.var 1)])]
def d_is_name : FD := ⟨["thing"], ["thing"], b_is_name⟩
def d_is_name_sign : FD := ⟨["sign"], ["sign"], b_is_name_sign⟩
def d_is_name_set : FD := ⟨["thing"], ["thing"], b_is_name_set⟩
def d_is_rising : FD := ⟨["things"], ["things"], b_is_rising⟩
def d_names_of_both : FD := ⟨["one", "other"], ["one", "other"], b_names_of_both⟩
def d__law_mix : FD := ⟨["_law_cell", "_law_place"], ["_law_cell", "_law_place", "_law_first"], b__law_mix⟩
def d__law_names : FD := ⟨["_law_cell", "_law_many"], ["_law_cell", "_law_many", "_law_letters", "_law_stem", "_law_at", "_law_start", "_law_way", "_law_tail", "_law_names_here"], b__law_names⟩
def d__law_note_by : FD := ⟨["_law_pool", "_law_cell", "_law_place"], ["_law_pool", "_law_cell", "_law_place"], b__law_note_by⟩
def d__law_like : FD := ⟨["_law_found", "_law_due"], ["_law_found", "_law_due"], b__law_like⟩
def d__law_told : FD := ⟨["_law_found", "_law_due"], ["_law_found", "_law_due"], b__law_told⟩
def d__law_shown : FD := ⟨["_law_text", "_law_a"], ["_law_text", "_law_a", "_law_due", "_law_k", "_law_name"], b__law_shown⟩
def d__law_odd : FD := ⟨["_law_pool", "_law_cell"], ["_law_pool", "_law_cell", "_law_at", "_law_some", "_law_sign"], b__law_odd⟩
def d__law_met : FD := ⟨["_law_voices", "_law_pool", "_law_a", "_law_b"], ["_law_voices", "_law_pool", "_law_a", "_law_b", "_law_union", "_law_total", "_law_product"], b__law_met⟩
def d_law : FD := ⟨["_law_script"], ["_law_script", "_law_voices", "_law_pool", "_law_k", "_law_a", "_law_b"], b_law⟩
def d_Voices_nought : FD := ⟨["self"], ["self"], b_Voices_nought⟩
def d_Voices_one : FD := ⟨["self"], ["self"], b_Voices_one⟩
def d_Voices_plus : FD := ⟨["self", "a", "b"], ["self", "a", "b"], b_Voices_plus⟩
def d_Voices_times : FD := ⟨["self", "a", "b"], ["self", "a", "b"], b_Voices_times⟩
def d_Voices_holds : FD := ⟨["self", "thing"], ["self", "thing"], b_Voices_holds⟩
def d_Voices_shown : FD := ⟨["self", "a"], ["self", "a"], b_Voices_shown⟩
def c_Kind : CI := ⟨"Kind", ["Kind"], [], []⟩
def c_Single : CI := ⟨"Single", ["Single", "Kind"], [], []⟩
def c_Voices : CI := ⟨"Voices", ["Voices", "Single", "Kind"], [], [("nought", "Voices.nought", 1), ("one", "Voices.one", 1), ("plus", "Voices.plus", 3), ("times", "Voices.times", 3), ("holds", "Voices.holds", 2), ("shown", "Voices.shown", 2)]⟩
def T : List (Str × FD) := [(("is_name" : Str), d_is_name), (("is_name_sign" : Str), d_is_name_sign), (("is_name_set" : Str), d_is_name_set), (("is_rising" : Str), d_is_rising), (("names_of_both" : Str), d_names_of_both), (("_law_mix" : Str), d__law_mix), (("_law_names" : Str), d__law_names), (("_law_note_by" : Str), d__law_note_by), (("_law_like" : Str), d__law_like), (("_law_told" : Str), d__law_told), (("_law_shown" : Str), d__law_shown), (("_law_odd" : Str), d__law_odd), (("_law_met" : Str), d__law_met), (("law" : Str), d_law), (("Voices.nought" : Str), d_Voices_nought), (("Voices.one" : Str), d_Voices_one), (("Voices.plus" : Str), d_Voices_plus), (("Voices.times" : Str), d_Voices_times), (("Voices.holds" : Str), d_Voices_holds), (("Voices.shown" : Str), d_Voices_shown)]
def TT : TB := ⟨T, [], [c_Kind, c_Single, c_Voices], [], []⟩
def GG : MG := ⟨[(("FIGURES" : Str), (GV.con (.s "0123456789"))), (("Kind" : Str), (GV.cls)), (("LETTERS" : Str), (GV.con (.s "abcdefghijklmnopqrstuvwxyz"))), (("LONGEST" : Str), (GV.con (.i 40))), (("Single" : Str), (GV.cls)), (("Voices" : Str), (GV.cls)), (("_law_like" : Str), (GV.fn 2)), (("_law_met" : Str), (GV.fn 4)), (("_law_mix" : Str), (GV.fn 2)), (("_law_names" : Str), (GV.fn 2)), (("_law_note_by" : Str), (GV.fn 3)), (("_law_odd" : Str), (GV.fn 2)), (("_law_shown" : Str), (GV.fn 2)), (("_law_told" : Str), (GV.fn 2)), (("all" : Str), (GV.no)), (("bool" : Str), (GV.no)), (("enumerate" : Str), (GV.no)), (("is_name" : Str), (GV.fn 1)), (("is_name_set" : Str), (GV.fn 1)), (("is_name_sign" : Str), (GV.fn 1)), (("is_rising" : Str), (GV.fn 1)), (("isinstance" : Str), (GV.no)), (("len" : Str), (GV.no)), (("list" : Str), (GV.no)), (("names_of_both" : Str), (GV.fn 2)), (("range" : Str), (GV.no)), (("reversed" : Str), (GV.no)), (("set" : Str), (GV.no)), (("sorted" : Str), (GV.no)), (("str" : Str), (GV.no)), (("sum" : Str), (GV.no)), (("tuple" : Str), (GV.no)), (("zip" : Str), (GV.no))], ["Voices"], [], ["Kind", "Single"], [], []⟩
def top (i : Nat) : Stmt := PySem.Challenge.pw_whencewise_k06_voices.main.body.getD i (.Pass ⟨0, 0, 0, 0⟩)
abbrev s_is_name : Stmt := top 4
abbrev s_is_name_sign : Stmt := top 5
abbrev s_is_name_set : Stmt := top 10
abbrev s_is_rising : Stmt := top 11
abbrev s_names_of_both : Stmt := top 12
abbrev s__law_mix : Stmt := top 14
abbrev s__law_names : Stmt := top 15
abbrev s__law_note_by : Stmt := top 16
abbrev s__law_like : Stmt := top 17
abbrev s__law_told : Stmt := top 18
abbrev s__law_shown : Stmt := top 19
abbrev s__law_odd : Stmt := top 20
abbrev s__law_met : Stmt := top 21
abbrev s_law : Stmt := top 22
abbrev s_Voices_nought : Stmt := inCls (top 9) 0
abbrev s_Voices_one : Stmt := inCls (top 9) 1
abbrev s_Voices_plus : Stmt := inCls (top 9) 2
abbrev s_Voices_times : Stmt := inCls (top 9) 3
abbrev s_Voices_holds : Stmt := inCls (top 9) 4
abbrev s_Voices_shown : Stmt := inCls (top 9) 5
theorem u_is_name (k : Nat) : (WT TT (k + 1)).Φ "is_name" = phi 1 1 (evB (WT TT k) b_is_name) := wt_Φ (d := d_is_name) rfl
theorem u_is_name_sign (k : Nat) : (WT TT (k + 1)).Φ "is_name_sign" = phi 1 1 (evB (WT TT k) b_is_name_sign) := wt_Φ (d := d_is_name_sign) rfl
theorem u_is_name_set (k : Nat) : (WT TT (k + 1)).Φ "is_name_set" = phi 1 1 (evB (WT TT k) b_is_name_set) := wt_Φ (d := d_is_name_set) rfl
theorem u_is_rising (k : Nat) : (WT TT (k + 1)).Φ "is_rising" = phi 1 1 (evB (WT TT k) b_is_rising) := wt_Φ (d := d_is_rising) rfl
theorem u_names_of_both (k : Nat) : (WT TT (k + 1)).Φ "names_of_both" = phi 2 2 (evB (WT TT k) b_names_of_both) := wt_Φ (d := d_names_of_both) rfl
theorem u__law_mix (k : Nat) : (WT TT (k + 1)).Φ "_law_mix" = phi 2 3 (evB (WT TT k) b__law_mix) := wt_Φ (d := d__law_mix) rfl
theorem u__law_names (k : Nat) : (WT TT (k + 1)).Φ "_law_names" = phi 2 9 (evB (WT TT k) b__law_names) := wt_Φ (d := d__law_names) rfl
theorem u__law_note_by (k : Nat) : (WT TT (k + 1)).Φ "_law_note_by" = phi 3 3 (evB (WT TT k) b__law_note_by) := wt_Φ (d := d__law_note_by) rfl
theorem u__law_like (k : Nat) : (WT TT (k + 1)).Φ "_law_like" = phi 2 2 (evB (WT TT k) b__law_like) := wt_Φ (d := d__law_like) rfl
theorem u__law_told (k : Nat) : (WT TT (k + 1)).Φ "_law_told" = phi 2 2 (evB (WT TT k) b__law_told) := wt_Φ (d := d__law_told) rfl
theorem u__law_shown (k : Nat) : (WT TT (k + 1)).Φ "_law_shown" = phi 2 5 (evB (WT TT k) b__law_shown) := wt_Φ (d := d__law_shown) rfl
theorem u__law_odd (k : Nat) : (WT TT (k + 1)).Φ "_law_odd" = phi 2 5 (evB (WT TT k) b__law_odd) := wt_Φ (d := d__law_odd) rfl
theorem u__law_met (k : Nat) : (WT TT (k + 1)).Φ "_law_met" = phi 4 7 (evB (WT TT k) b__law_met) := wt_Φ (d := d__law_met) rfl
theorem u_law (k : Nat) : (WT TT (k + 1)).Φ "law" = phi 1 6 (evB (WT TT k) b_law) := wt_Φ (d := d_law) rfl
theorem u_Voices_nought (k : Nat) : (WT TT (k + 1)).Φ "Voices.nought" = phi 1 1 (evB (WT TT k) b_Voices_nought) := wt_Φ (d := d_Voices_nought) rfl
theorem u_Voices_one (k : Nat) : (WT TT (k + 1)).Φ "Voices.one" = phi 1 1 (evB (WT TT k) b_Voices_one) := wt_Φ (d := d_Voices_one) rfl
theorem u_Voices_plus (k : Nat) : (WT TT (k + 1)).Φ "Voices.plus" = phi 3 3 (evB (WT TT k) b_Voices_plus) := wt_Φ (d := d_Voices_plus) rfl
theorem u_Voices_times (k : Nat) : (WT TT (k + 1)).Φ "Voices.times" = phi 3 3 (evB (WT TT k) b_Voices_times) := wt_Φ (d := d_Voices_times) rfl
theorem u_Voices_holds (k : Nat) : (WT TT (k + 1)).Φ "Voices.holds" = phi 2 2 (evB (WT TT k) b_Voices_holds) := wt_Φ (d := d_Voices_holds) rfl
theorem u_Voices_shown (k : Nat) : (WT TT (k + 1)).Φ "Voices.shown" = phi 2 2 (evB (WT TT k) b_Voices_shown) := wt_Φ (d := d_Voices_shown) rfl
theorem ok_g : gOk GG.G TT.T = true := by decide +kernel
theorem ok_mt : mtOk TT.cl TT.T = true := by decide +kernel
theorem ok_mk : mkiOk GG.mki TT.I = true := by decide +kernel
theorem ok_is_name : fdOk GG s_is_name d_is_name = true := by decide +kernel
theorem ok_is_name_sign : fdOk GG s_is_name_sign d_is_name_sign = true := by decide +kernel
theorem ok_is_name_set : fdOk GG s_is_name_set d_is_name_set = true := by decide +kernel
theorem ok_is_rising : fdOk GG s_is_rising d_is_rising = true := by decide +kernel
theorem ok_names_of_both : fdOk GG s_names_of_both d_names_of_both = true := by decide +kernel
theorem ok__law_mix : fdOk GG s__law_mix d__law_mix = true := by decide +kernel
theorem ok__law_names : fdOk GG s__law_names d__law_names = true := by decide +kernel
theorem ok__law_note_by : fdOk GG s__law_note_by d__law_note_by = true := by decide +kernel
theorem ok__law_like : fdOk GG s__law_like d__law_like = true := by decide +kernel
theorem ok__law_told : fdOk GG s__law_told d__law_told = true := by decide +kernel
theorem ok__law_shown : fdOk GG s__law_shown d__law_shown = true := by decide +kernel
theorem ok__law_odd : fdOk GG s__law_odd d__law_odd = true := by decide +kernel
theorem ok__law_met : fdOk GG s__law_met d__law_met = true := by decide +kernel
theorem ok_law : fdOk GG s_law d_law = true := by decide +kernel
theorem ok_Voices_nought : fdOk GG s_Voices_nought d_Voices_nought = true := by decide +kernel
theorem ok_Voices_one : fdOk GG s_Voices_one d_Voices_one = true := by decide +kernel
theorem ok_Voices_plus : fdOk GG s_Voices_plus d_Voices_plus = true := by decide +kernel
theorem ok_Voices_times : fdOk GG s_Voices_times d_Voices_times = true := by decide +kernel
theorem ok_Voices_holds : fdOk GG s_Voices_holds d_Voices_holds = true := by decide +kernel
theorem ok_Voices_shown : fdOk GG s_Voices_shown d_Voices_shown = true := by decide +kernel
set_option maxHeartbeats 0 in
theorem all_mk {l : PySem.W.OpenLaw} {w : World} {K : PySem.W.Frag} {h : Heap} {mg : Str → Option Value} {fa : Addr} (k : Nat) (X : K.In h) (G : h.Ns mainGlobals mg) (hfa : mg "law" = some (.ref fa))
    {C_Kind : Addr} (aC_Kind : PySem.W.nsIn K mainGlobals "Kind" = some (some (.ref C_Kind)))
    {C_Single : Addr} (aC_Single : PySem.W.nsIn K mainGlobals "Single" = some (some (.ref C_Single)))
    {C_Voices : Addr} (aC_Voices : PySem.W.nsIn K mainGlobals "Voices" = some (some (.ref C_Voices)))
    {f0 : Addr} {od0 an0 : Option Addr} {sl0 : Array (Option Value)} {oc0 kV0 dc0 pm0 cd0 ct0 : Value} (a0 : PySem.W.nsIn K mainGlobals "is_name" = some (some (.ref f0)))
    (l0 : K.lookup f0 = some ⟨oc0, od0, .func (PySem.W.fnOf "is_name" "is_name" (defArgs s_is_name) (defBody s_is_name) (defScope s_is_name) .none kV0 dc0 pm0 an0 cd0 ct0), sl0⟩)
    (c0 : PySem.W.codeIn K cd0 "is_name" = true)
    (k0 : PySem.W.keepIn K (.ref f0) = true)
    {f1 : Addr} {od1 an1 : Option Addr} {sl1 : Array (Option Value)} {oc1 kV1 dc1 pm1 cd1 ct1 : Value} (a1 : PySem.W.nsIn K mainGlobals "is_name_sign" = some (some (.ref f1)))
    (l1 : K.lookup f1 = some ⟨oc1, od1, .func (PySem.W.fnOf "is_name_sign" "is_name_sign" (defArgs s_is_name_sign) (defBody s_is_name_sign) (defScope s_is_name_sign) .none kV1 dc1 pm1 an1 cd1 ct1), sl1⟩)
    (c1 : PySem.W.codeIn K cd1 "is_name_sign" = true)
    (k1 : PySem.W.keepIn K (.ref f1) = true)
    {f2 : Addr} {od2 an2 : Option Addr} {sl2 : Array (Option Value)} {oc2 kV2 dc2 pm2 cd2 ct2 : Value} (a2 : PySem.W.nsIn K mainGlobals "is_name_set" = some (some (.ref f2)))
    (l2 : K.lookup f2 = some ⟨oc2, od2, .func (PySem.W.fnOf "is_name_set" "is_name_set" (defArgs s_is_name_set) (defBody s_is_name_set) (defScope s_is_name_set) .none kV2 dc2 pm2 an2 cd2 ct2), sl2⟩)
    (c2 : PySem.W.codeIn K cd2 "is_name_set" = true)
    (k2 : PySem.W.keepIn K (.ref f2) = true)
    {f3 : Addr} {od3 an3 : Option Addr} {sl3 : Array (Option Value)} {oc3 kV3 dc3 pm3 cd3 ct3 : Value} (a3 : PySem.W.nsIn K mainGlobals "is_rising" = some (some (.ref f3)))
    (l3 : K.lookup f3 = some ⟨oc3, od3, .func (PySem.W.fnOf "is_rising" "is_rising" (defArgs s_is_rising) (defBody s_is_rising) (defScope s_is_rising) .none kV3 dc3 pm3 an3 cd3 ct3), sl3⟩)
    (c3 : PySem.W.codeIn K cd3 "is_rising" = true)
    (k3 : PySem.W.keepIn K (.ref f3) = true)
    {f4 : Addr} {od4 an4 : Option Addr} {sl4 : Array (Option Value)} {oc4 kV4 dc4 pm4 cd4 ct4 : Value} (a4 : PySem.W.nsIn K mainGlobals "names_of_both" = some (some (.ref f4)))
    (l4 : K.lookup f4 = some ⟨oc4, od4, .func (PySem.W.fnOf "names_of_both" "names_of_both" (defArgs s_names_of_both) (defBody s_names_of_both) (defScope s_names_of_both) .none kV4 dc4 pm4 an4 cd4 ct4), sl4⟩)
    (c4 : PySem.W.codeIn K cd4 "names_of_both" = true)
    (k4 : PySem.W.keepIn K (.ref f4) = true)
    {f5 : Addr} {od5 an5 : Option Addr} {sl5 : Array (Option Value)} {oc5 kV5 dc5 pm5 cd5 ct5 : Value} (a5 : PySem.W.nsIn K mainGlobals "_law_mix" = some (some (.ref f5)))
    (l5 : K.lookup f5 = some ⟨oc5, od5, .func (PySem.W.fnOf "_law_mix" "_law_mix" (defArgs s__law_mix) (defBody s__law_mix) (defScope s__law_mix) .none kV5 dc5 pm5 an5 cd5 ct5), sl5⟩)
    (c5 : PySem.W.codeIn K cd5 "_law_mix" = true)
    (k5 : PySem.W.keepIn K (.ref f5) = true)
    {f6 : Addr} {od6 an6 : Option Addr} {sl6 : Array (Option Value)} {oc6 kV6 dc6 pm6 cd6 ct6 : Value} (a6 : PySem.W.nsIn K mainGlobals "_law_names" = some (some (.ref f6)))
    (l6 : K.lookup f6 = some ⟨oc6, od6, .func (PySem.W.fnOf "_law_names" "_law_names" (defArgs s__law_names) (defBody s__law_names) (defScope s__law_names) .none kV6 dc6 pm6 an6 cd6 ct6), sl6⟩)
    (c6 : PySem.W.codeIn K cd6 "_law_names" = true)
    (k6 : PySem.W.keepIn K (.ref f6) = true)
    {f7 : Addr} {od7 an7 : Option Addr} {sl7 : Array (Option Value)} {oc7 kV7 dc7 pm7 cd7 ct7 : Value} (a7 : PySem.W.nsIn K mainGlobals "_law_note_by" = some (some (.ref f7)))
    (l7 : K.lookup f7 = some ⟨oc7, od7, .func (PySem.W.fnOf "_law_note_by" "_law_note_by" (defArgs s__law_note_by) (defBody s__law_note_by) (defScope s__law_note_by) .none kV7 dc7 pm7 an7 cd7 ct7), sl7⟩)
    (c7 : PySem.W.codeIn K cd7 "_law_note_by" = true)
    (k7 : PySem.W.keepIn K (.ref f7) = true)
    {f8 : Addr} {od8 an8 : Option Addr} {sl8 : Array (Option Value)} {oc8 kV8 dc8 pm8 cd8 ct8 : Value} (a8 : PySem.W.nsIn K mainGlobals "_law_like" = some (some (.ref f8)))
    (l8 : K.lookup f8 = some ⟨oc8, od8, .func (PySem.W.fnOf "_law_like" "_law_like" (defArgs s__law_like) (defBody s__law_like) (defScope s__law_like) .none kV8 dc8 pm8 an8 cd8 ct8), sl8⟩)
    (c8 : PySem.W.codeIn K cd8 "_law_like" = true)
    (k8 : PySem.W.keepIn K (.ref f8) = true)
    {f9 : Addr} {od9 an9 : Option Addr} {sl9 : Array (Option Value)} {oc9 kV9 dc9 pm9 cd9 ct9 : Value} (a9 : PySem.W.nsIn K mainGlobals "_law_told" = some (some (.ref f9)))
    (l9 : K.lookup f9 = some ⟨oc9, od9, .func (PySem.W.fnOf "_law_told" "_law_told" (defArgs s__law_told) (defBody s__law_told) (defScope s__law_told) .none kV9 dc9 pm9 an9 cd9 ct9), sl9⟩)
    (c9 : PySem.W.codeIn K cd9 "_law_told" = true)
    (k9 : PySem.W.keepIn K (.ref f9) = true)
    {f10 : Addr} {od10 an10 : Option Addr} {sl10 : Array (Option Value)} {oc10 kV10 dc10 pm10 cd10 ct10 : Value} (a10 : PySem.W.nsIn K mainGlobals "_law_shown" = some (some (.ref f10)))
    (l10 : K.lookup f10 = some ⟨oc10, od10, .func (PySem.W.fnOf "_law_shown" "_law_shown" (defArgs s__law_shown) (defBody s__law_shown) (defScope s__law_shown) .none kV10 dc10 pm10 an10 cd10 ct10), sl10⟩)
    (c10 : PySem.W.codeIn K cd10 "_law_shown" = true)
    (k10 : PySem.W.keepIn K (.ref f10) = true)
    {f11 : Addr} {od11 an11 : Option Addr} {sl11 : Array (Option Value)} {oc11 kV11 dc11 pm11 cd11 ct11 : Value} (a11 : PySem.W.nsIn K mainGlobals "_law_odd" = some (some (.ref f11)))
    (l11 : K.lookup f11 = some ⟨oc11, od11, .func (PySem.W.fnOf "_law_odd" "_law_odd" (defArgs s__law_odd) (defBody s__law_odd) (defScope s__law_odd) .none kV11 dc11 pm11 an11 cd11 ct11), sl11⟩)
    (c11 : PySem.W.codeIn K cd11 "_law_odd" = true)
    (k11 : PySem.W.keepIn K (.ref f11) = true)
    {f12 : Addr} {od12 an12 : Option Addr} {sl12 : Array (Option Value)} {oc12 kV12 dc12 pm12 cd12 ct12 : Value} (a12 : PySem.W.nsIn K mainGlobals "_law_met" = some (some (.ref f12)))
    (l12 : K.lookup f12 = some ⟨oc12, od12, .func (PySem.W.fnOf "_law_met" "_law_met" (defArgs s__law_met) (defBody s__law_met) (defScope s__law_met) .none kV12 dc12 pm12 an12 cd12 ct12), sl12⟩)
    (c12 : PySem.W.codeIn K cd12 "_law_met" = true)
    (k12 : PySem.W.keepIn K (.ref f12) = true)
    {f13 : Addr} {od13 an13 : Option Addr} {sl13 : Array (Option Value)} {oc13 kV13 dc13 pm13 cd13 ct13 : Value} (a13 : PySem.W.nsIn K mainGlobals "law" = some (some (.ref f13)))
    (l13 : K.lookup f13 = some ⟨oc13, od13, .func (PySem.W.fnOf "law" "law" (defArgs s_law) (defBody s_law) (defScope s_law) .none kV13 dc13 pm13 an13 cd13 ct13), sl13⟩)
    (c13 : PySem.W.codeIn K cd13 "law" = true)
    (k13 : PySem.W.keepIn K (.ref f13) = true)
    {f14 : Addr} {od14 an14 : Option Addr} {sl14 : Array (Option Value)} {oc14 kV14 dc14 pm14 cd14 ct14 : Value} (a14 : PySem.W.findIn K (.ref C_Voices) "nought" = some (some (.ref f14)))
    (j14 : PySem.W.isFn K (.ref f14) = true)
    (l14 : K.lookup f14 = some ⟨oc14, od14, .func (PySem.W.fnOf "nought" "Voices.nought" (defArgs s_Voices_nought) (defBody s_Voices_nought) (defScope s_Voices_nought) .none kV14 dc14 pm14 an14 cd14 ct14), sl14⟩)
    (c14 : PySem.W.codeIn K cd14 "Voices.nought" = true)
    (k14 : PySem.W.keepIn K (.ref f14) = true)
    {f15 : Addr} {od15 an15 : Option Addr} {sl15 : Array (Option Value)} {oc15 kV15 dc15 pm15 cd15 ct15 : Value} (a15 : PySem.W.findIn K (.ref C_Voices) "one" = some (some (.ref f15)))
    (j15 : PySem.W.isFn K (.ref f15) = true)
    (l15 : K.lookup f15 = some ⟨oc15, od15, .func (PySem.W.fnOf "one" "Voices.one" (defArgs s_Voices_one) (defBody s_Voices_one) (defScope s_Voices_one) .none kV15 dc15 pm15 an15 cd15 ct15), sl15⟩)
    (c15 : PySem.W.codeIn K cd15 "Voices.one" = true)
    (k15 : PySem.W.keepIn K (.ref f15) = true)
    {f16 : Addr} {od16 an16 : Option Addr} {sl16 : Array (Option Value)} {oc16 kV16 dc16 pm16 cd16 ct16 : Value} (a16 : PySem.W.findIn K (.ref C_Voices) "plus" = some (some (.ref f16)))
    (j16 : PySem.W.isFn K (.ref f16) = true)
    (l16 : K.lookup f16 = some ⟨oc16, od16, .func (PySem.W.fnOf "plus" "Voices.plus" (defArgs s_Voices_plus) (defBody s_Voices_plus) (defScope s_Voices_plus) .none kV16 dc16 pm16 an16 cd16 ct16), sl16⟩)
    (c16 : PySem.W.codeIn K cd16 "Voices.plus" = true)
    (k16 : PySem.W.keepIn K (.ref f16) = true)
    {f17 : Addr} {od17 an17 : Option Addr} {sl17 : Array (Option Value)} {oc17 kV17 dc17 pm17 cd17 ct17 : Value} (a17 : PySem.W.findIn K (.ref C_Voices) "times" = some (some (.ref f17)))
    (j17 : PySem.W.isFn K (.ref f17) = true)
    (l17 : K.lookup f17 = some ⟨oc17, od17, .func (PySem.W.fnOf "times" "Voices.times" (defArgs s_Voices_times) (defBody s_Voices_times) (defScope s_Voices_times) .none kV17 dc17 pm17 an17 cd17 ct17), sl17⟩)
    (c17 : PySem.W.codeIn K cd17 "Voices.times" = true)
    (k17 : PySem.W.keepIn K (.ref f17) = true)
    {f18 : Addr} {od18 an18 : Option Addr} {sl18 : Array (Option Value)} {oc18 kV18 dc18 pm18 cd18 ct18 : Value} (a18 : PySem.W.findIn K (.ref C_Voices) "holds" = some (some (.ref f18)))
    (j18 : PySem.W.isFn K (.ref f18) = true)
    (l18 : K.lookup f18 = some ⟨oc18, od18, .func (PySem.W.fnOf "holds" "Voices.holds" (defArgs s_Voices_holds) (defBody s_Voices_holds) (defScope s_Voices_holds) .none kV18 dc18 pm18 an18 cd18 ct18), sl18⟩)
    (c18 : PySem.W.codeIn K cd18 "Voices.holds" = true)
    (k18 : PySem.W.keepIn K (.ref f18) = true)
    {f19 : Addr} {od19 an19 : Option Addr} {sl19 : Array (Option Value)} {oc19 kV19 dc19 pm19 cd19 ct19 : Value} (a19 : PySem.W.findIn K (.ref C_Voices) "shown" = some (some (.ref f19)))
    (j19 : PySem.W.isFn K (.ref f19) = true)
    (l19 : K.lookup f19 = some ⟨oc19, od19, .func (PySem.W.fnOf "shown" "Voices.shown" (defArgs s_Voices_shown) (defBody s_Voices_shown) (defScope s_Voices_shown) .none kV19 dc19 pm19 an19 cd19 ct19), sl19⟩)
    (c19 : PySem.W.codeIn K cd19 "Voices.shown" = true)
    (k19 : PySem.W.keepIn K (.ref f19) = true)
    {t_FIGURES : Tok} (u_FIGURES : PySem.W.nsIn K mainGlobals "FIGURES" = some (some (.str "0123456789" t_FIGURES)))
    {t_LETTERS : Tok} (u_LETTERS : PySem.W.nsIn K mainGlobals "LETTERS" = some (some (.str "abcdefghijklmnopqrstuvwxyz" t_LETTERS)))
    {t_LONGEST : Tok} (u_LONGEST : PySem.W.nsIn K mainGlobals "LONGEST" = some (some (.int 40 t_LONGEST)))
    (u_all : PySem.W.nsIn K mainGlobals "all" = some none)
    (u_bool : PySem.W.nsIn K mainGlobals "bool" = some none)
    (u_enumerate : PySem.W.nsIn K mainGlobals "enumerate" = some none)
    (u_isinstance : PySem.W.nsIn K mainGlobals "isinstance" = some none)
    (u_len : PySem.W.nsIn K mainGlobals "len" = some none)
    (u_list : PySem.W.nsIn K mainGlobals "list" = some none)
    (u_range : PySem.W.nsIn K mainGlobals "range" = some none)
    (u_reversed : PySem.W.nsIn K mainGlobals "reversed" = some none)
    (u_set : PySem.W.nsIn K mainGlobals "set" = some none)
    (u_sorted : PySem.W.nsIn K mainGlobals "sorted" = some none)
    (u_str : PySem.W.nsIn K mainGlobals "str" = some none)
    (u_sum : PySem.W.nsIn K mainGlobals "sum" = some none)
    (u_tuple : PySem.W.nsIn K mainGlobals "tuple" = some none)
    (u_zip : PySem.W.nsIn K mainGlobals "zip" = some none)
    (pg_Kind : PySem.W.plainGet K C_Kind Str.empty = true)
    (hd_Kind : PySem.W.hasDictIn K C_Kind = true)
    (po_Kind : PySem.W.plainOver K C_Kind = true)
    (sa_Kind : PySem.W.findIn K (.ref C_Kind) "__setattr__" = some (some (.builtin "object.__setattr__")))
    (pg_Single : PySem.W.plainGet K C_Single Str.empty = true)
    (hd_Single : PySem.W.hasDictIn K C_Single = true)
    (po_Single : PySem.W.plainOver K C_Single = true)
    (sa_Single : PySem.W.findIn K (.ref C_Single) "__setattr__" = some (some (.builtin "object.__setattr__")))
    (pg_Voices : PySem.W.plainGet K C_Voices Str.empty = true)
    (hd_Voices : PySem.W.hasDictIn K C_Voices = true)
    (po_Voices : PySem.W.plainOver K C_Voices = true)
    (sa_Voices : PySem.W.findIn K (.ref C_Voices) "__setattr__" = some (some (.builtin "object.__setattr__")))
    (mk_Voices : PySem.W.makesIn K C_Voices = true)
    (in_Voices : PySem.W.findIn K (.ref C_Voices) "__init__" = some (some (.builtin "object.__init__")))
    (kc_Voices : PySem.W.keepIn K (.ref C_Voices) = true)
    (og : PySem.W.specialIn K (.builtin "object.__class__") "__get__" = some (some (.builtin "getset_descriptor.__get__")))
    (ot : PySem.W.takesIn K (.builtin "object.__class__") = some true)
    (oc_Kind : PySem.W.findIn K (.ref C_Kind) "__class__" = some (some (.builtin "object.__class__")))
    (om_Kind : PySem.W.mroIn K C_Kind (.type "object") = some true)
    (oc_Single : PySem.W.findIn K (.ref C_Single) "__class__" = some (some (.builtin "object.__class__")))
    (om_Single : PySem.W.mroIn K C_Single (.type "object") = some true)
    (oc_Voices : PySem.W.findIn K (.ref C_Voices) "__class__" = some (some (.builtin "object.__class__")))
    (om_Voices : PySem.W.mroIn K C_Voices (.type "object") = some true)
    (ic_Kind : PySem.W.isClsIn K C_Kind = true)
    (ty_Kind : PySem.W.typeIn K (.ref C_Kind) = some (.type "type"))
    (t_Kind_NoneType : PySem.W.subIn K (.type "NoneType") (.ref C_Kind) = some false)
    (t_Kind_bool : PySem.W.subIn K (.type "bool") (.ref C_Kind) = some false)
    (t_Kind_int : PySem.W.subIn K (.type "int") (.ref C_Kind) = some false)
    (t_Kind_str : PySem.W.subIn K (.type "str") (.ref C_Kind) = some false)
    (t_Kind_tuple : PySem.W.subIn K (.type "tuple") (.ref C_Kind) = some false)
    (t_Kind_list : PySem.W.subIn K (.type "list") (.ref C_Kind) = some false)
    (t_Kind_dict : PySem.W.subIn K (.type "dict") (.ref C_Kind) = some false)
    (k_Single_Kind : PySem.W.subIn K (.ref C_Single) (.ref C_Kind) = some true)
    (ne_Single_Kind : (C_Single == C_Kind) = false)
    (k_Voices_Kind : PySem.W.subIn K (.ref C_Voices) (.ref C_Kind) = some true)
    (ne_Voices_Kind : (C_Voices == C_Kind) = false)
    (ic_Single : PySem.W.isClsIn K C_Single = true)
    (ty_Single : PySem.W.typeIn K (.ref C_Single) = some (.type "type"))
    (t_Single_NoneType : PySem.W.subIn K (.type "NoneType") (.ref C_Single) = some false)
    (t_Single_bool : PySem.W.subIn K (.type "bool") (.ref C_Single) = some false)
    (t_Single_int : PySem.W.subIn K (.type "int") (.ref C_Single) = some false)
    (t_Single_str : PySem.W.subIn K (.type "str") (.ref C_Single) = some false)
    (t_Single_tuple : PySem.W.subIn K (.type "tuple") (.ref C_Single) = some false)
    (t_Single_list : PySem.W.subIn K (.type "list") (.ref C_Single) = some false)
    (t_Single_dict : PySem.W.subIn K (.type "dict") (.ref C_Single) = some false)
    (k_Kind_Single : PySem.W.subIn K (.ref C_Kind) (.ref C_Single) = some false)
    (ne_Kind_Single : (C_Kind == C_Single) = false)
    (k_Voices_Single : PySem.W.subIn K (.ref C_Voices) (.ref C_Single) = some true)
    (ne_Voices_Single : (C_Voices == C_Single) = false)
    : ∃ fd : FuncData, (∀ (s : Shared) (v : Value), BindsTo s fd ⟨[v], []⟩ [("_law_script", v)]) ∧ ∀ base : Heap, K.In base → base.Ns mainGlobals mg → FnOk l.prog w K mg base (CX1 l.prog w) (k + 1) fa fd ["_law_script"] (spLw K ((WT TT (k + 1)).Φ ("law" : Str))) := by
  have e := hfa.symm.trans (PySem.W.mg_of X G a13)
  cases e
  have F0 := fun_mk (st := s_is_name) l0 c0 k0
  have b0 := F0.binds (ps := ["thing"]) fun _ _ _ _ _ _ => len1 fun _ => rfl
  have F1 := fun_mk (st := s_is_name_sign) l1 c1 k1
  have b1 := F1.binds (ps := ["sign"]) fun _ _ _ _ _ _ => len1 fun _ => rfl
  have F2 := fun_mk (st := s_is_name_set) l2 c2 k2
  have b2 := F2.binds (ps := ["thing"]) fun _ _ _ _ _ _ => len1 fun _ => rfl
  have F3 := fun_mk (st := s_is_rising) l3 c3 k3
  have b3 := F3.binds (ps := ["things"]) fun _ _ _ _ _ _ => len1 fun _ => rfl
  have F4 := fun_mk (st := s_names_of_both) l4 c4 k4
  have b4 := F4.binds (ps := ["one", "other"]) fun _ _ _ _ _ _ => len2 fun _ _ => rfl
  have F5 := fun_mk (st := s__law_mix) l5 c5 k5
  have b5 := F5.binds (ps := ["_law_cell", "_law_place"]) fun _ _ _ _ _ _ => len2 fun _ _ => rfl
  have F6 := fun_mk (st := s__law_names) l6 c6 k6
  have b6 := F6.binds (ps := ["_law_cell", "_law_many"]) fun _ _ _ _ _ _ => len2 fun _ _ => rfl
  have F7 := fun_mk (st := s__law_note_by) l7 c7 k7
  have b7 := F7.binds (ps := ["_law_pool", "_law_cell", "_law_place"]) fun _ _ _ _ _ _ => len3 fun _ _ _ => rfl
  have F8 := fun_mk (st := s__law_like) l8 c8 k8
  have b8 := F8.binds (ps := ["_law_found", "_law_due"]) fun _ _ _ _ _ _ => len2 fun _ _ => rfl
  have F9 := fun_mk (st := s__law_told) l9 c9 k9
  have b9 := F9.binds (ps := ["_law_found", "_law_due"]) fun _ _ _ _ _ _ => len2 fun _ _ => rfl
  have F10 := fun_mk (st := s__law_shown) l10 c10 k10
  have b10 := F10.binds (ps := ["_law_text", "_law_a"]) fun _ _ _ _ _ _ => len2 fun _ _ => rfl
  have F11 := fun_mk (st := s__law_odd) l11 c11 k11
  have b11 := F11.binds (ps := ["_law_pool", "_law_cell"]) fun _ _ _ _ _ _ => len2 fun _ _ => rfl
  have F12 := fun_mk (st := s__law_met) l12 c12 k12
  have b12 := F12.binds (ps := ["_law_voices", "_law_pool", "_law_a", "_law_b"]) fun _ _ _ _ _ _ => len4 fun _ _ _ _ => rfl
  have F13 := fun_mk (st := s_law) l13 c13 k13
  have b13 := F13.binds (ps := ["_law_script"]) fun _ _ _ _ _ _ => len1 fun _ => rfl
  have F14 := fun_mk (st := s_Voices_nought) l14 c14 k14
  have b14 := F14.binds (ps := ["self"]) fun _ _ _ _ _ _ => len1 fun _ => rfl
  have F15 := fun_mk (st := s_Voices_one) l15 c15 k15
  have b15 := F15.binds (ps := ["self"]) fun _ _ _ _ _ _ => len1 fun _ => rfl
  have F16 := fun_mk (st := s_Voices_plus) l16 c16 k16
  have b16 := F16.binds (ps := ["self", "a", "b"]) fun _ _ _ _ _ _ => len3 fun _ _ _ => rfl
  have F17 := fun_mk (st := s_Voices_times) l17 c17 k17
  have b17 := F17.binds (ps := ["self", "a", "b"]) fun _ _ _ _ _ _ => len3 fun _ _ _ => rfl
  have F18 := fun_mk (st := s_Voices_holds) l18 c18 k18
  have b18 := F18.binds (ps := ["self", "thing"]) fun _ _ _ _ _ _ => len2 fun _ _ => rfl
  have F19 := fun_mk (st := s_Voices_shown) l19 c19 k19
  have b19 := F19.binds (ps := ["self", "a"]) fun _ _ _ _ _ _ => len2 fun _ _ => rfl
  let ff : Str → Addr := fun x => (([(("is_name" : Str), f0), (("is_name_sign" : Str), f1), (("is_name_set" : Str), f2), (("is_rising" : Str), f3), (("names_of_both" : Str), f4), (("_law_mix" : Str), f5), (("_law_names" : Str), f6), (("_law_note_by" : Str), f7), (("_law_like" : Str), f8), (("_law_told" : Str), f9), (("_law_shown" : Str), f10), (("_law_odd" : Str), f11), (("_law_met" : Str), f12), (("law" : Str), fa), (("Voices.nought" : Str), f14), (("Voices.one" : Str), f15), (("Voices.plus" : Str), f16), (("Voices.times" : Str), f17), (("Voices.holds" : Str), f18), (("Voices.shown" : Str), f19)] : List (Str × Addr)).lookup x).getD 0
  have hc : GCon w K mg ff GG.G := ⟨⟨t_FIGURES, PySem.W.mg_of X G u_FIGURES⟩, True.intro, ⟨t_LETTERS, PySem.W.mg_of X G u_LETTERS⟩, ⟨t_LONGEST, PySem.W.mg_of X G u_LONGEST⟩, True.intro, True.intro, PySem.W.mg_of X G a8, PySem.W.mg_of X G a12, PySem.W.mg_of X G a5, PySem.W.mg_of X G a6, PySem.W.mg_of X G a7, PySem.W.mg_of X G a11, PySem.W.mg_of X G a10, PySem.W.mg_of X G a9, PySem.W.mg_none_of X G u_all, PySem.W.mg_none_of X G u_bool, PySem.W.mg_none_of X G u_enumerate, PySem.W.mg_of X G a0, PySem.W.mg_of X G a2, PySem.W.mg_of X G a1, PySem.W.mg_of X G a3, PySem.W.mg_none_of X G u_isinstance, PySem.W.mg_none_of X G u_len, PySem.W.mg_none_of X G u_list, PySem.W.mg_of X G a4, PySem.W.mg_none_of X G u_range, PySem.W.mg_none_of X G u_reversed, PySem.W.mg_none_of X G u_set, PySem.W.mg_none_of X G u_sorted, PySem.W.mg_none_of X G u_str, PySem.W.mg_none_of X G u_sum, PySem.W.mg_none_of X G u_tuple, PySem.W.mg_none_of X G u_zip, True.intro⟩
  have hT : StandAll K GG ff T := ⟨⟨_, _, _, F0, b0, ok_is_name⟩, ⟨_, _, _, F1, b1, ok_is_name_sign⟩, ⟨_, _, _, F2, b2, ok_is_name_set⟩, ⟨_, _, _, F3, b3, ok_is_rising⟩, ⟨_, _, _, F4, b4, ok_names_of_both⟩, ⟨_, _, _, F5, b5, ok__law_mix⟩, ⟨_, _, _, F6, b6, ok__law_names⟩, ⟨_, _, _, F7, b7, ok__law_note_by⟩, ⟨_, _, _, F8, b8, ok__law_like⟩, ⟨_, _, _, F9, b9, ok__law_told⟩, ⟨_, _, _, F10, b10, ok__law_shown⟩, ⟨_, _, _, F11, b11, ok__law_odd⟩, ⟨_, _, _, F12, b12, ok__law_met⟩, ⟨_, _, _, F13, b13, ok_law⟩, ⟨_, _, _, F14, b14, ok_Voices_nought⟩, ⟨_, _, _, F15, b15, ok_Voices_one⟩, ⟨_, _, _, F16, b16, ok_Voices_plus⟩, ⟨_, _, _, F17, b17, ok_Voices_times⟩, ⟨_, _, _, F18, b18, ok_Voices_holds⟩, ⟨_, _, _, F19, b19, ok_Voices_shown⟩, True.intro⟩
  have hI : StandAllI K mg GG TT.I := True.intro
  have hC : ClsAll K ff TT.cl := ⟨⟨C_Kind, aC_Kind, ⟨pg_Kind, hd_Kind, po_Kind, sa_Kind⟩, True.intro, True.intro⟩, ⟨C_Single, aC_Single, ⟨pg_Single, hd_Single, po_Single, sa_Single⟩, True.intro, True.intro⟩, ⟨C_Voices, aC_Voices, ⟨pg_Voices, hd_Voices, po_Voices, sa_Voices⟩, ⟨⟨a14, j14, k14⟩, ⟨a15, j15, k15⟩, ⟨a16, j16, k16⟩, ⟨a17, j17, k17⟩, ⟨a18, j18, k18⟩, ⟨a19, j19, k19⟩, True.intro⟩, True.intro⟩, True.intro⟩
  have h0 : ∀ c, c ∈ GG.mk0 → MkV0 K mg c := mem_cons (⟨C_Voices, aC_Voices, PySem.W.mg_of X G aC_Voices, mk_Voices, in_Voices, kc_Voices⟩) (fun _ h => nomatch h)
  have h1 : ∀ c, c ∈ GG.iso → IsV K mg TT.cl c := mem_cons (⟨C_Kind, PySem.W.mg_of X G aC_Kind, mem_cons (kit_t ic_Kind ty_Kind t_Kind_NoneType) (mem_cons (kit_t ic_Kind ty_Kind t_Kind_bool) (mem_cons (kit_t ic_Kind ty_Kind t_Kind_int) (mem_cons (kit_t ic_Kind ty_Kind t_Kind_str) (mem_cons (kit_t ic_Kind ty_Kind t_Kind_tuple) (mem_cons (kit_t ic_Kind ty_Kind t_Kind_list) (mem_cons (kit_t ic_Kind ty_Kind t_Kind_dict) (fun _ h => nomatch h))))))), mem_cons (⟨C_Kind, aC_Kind, ⟨pg_Kind, hd_Kind, po_Kind, sa_Kind⟩, oc_Kind, og, ot, om_Kind, kit_s⟩) (mem_cons (⟨C_Single, aC_Single, ⟨pg_Single, hd_Single, po_Single, sa_Single⟩, oc_Single, og, ot, om_Single, kit_r ic_Kind ty_Kind k_Single_Kind ne_Single_Kind⟩) (mem_cons (⟨C_Voices, aC_Voices, ⟨pg_Voices, hd_Voices, po_Voices, sa_Voices⟩, oc_Voices, og, ot, om_Voices, kit_r ic_Kind ty_Kind k_Voices_Kind ne_Voices_Kind⟩) (fun _ h => nomatch h)))⟩) (mem_cons (⟨C_Single, PySem.W.mg_of X G aC_Single, mem_cons (kit_t ic_Single ty_Single t_Single_NoneType) (mem_cons (kit_t ic_Single ty_Single t_Single_bool) (mem_cons (kit_t ic_Single ty_Single t_Single_int) (mem_cons (kit_t ic_Single ty_Single t_Single_str) (mem_cons (kit_t ic_Single ty_Single t_Single_tuple) (mem_cons (kit_t ic_Single ty_Single t_Single_list) (mem_cons (kit_t ic_Single ty_Single t_Single_dict) (fun _ h => nomatch h))))))), mem_cons (⟨C_Kind, aC_Kind, ⟨pg_Kind, hd_Kind, po_Kind, sa_Kind⟩, oc_Kind, og, ot, om_Kind, kit_r ic_Single ty_Single k_Kind_Single ne_Kind_Single⟩) (mem_cons (⟨C_Single, aC_Single, ⟨pg_Single, hd_Single, po_Single, sa_Single⟩, oc_Single, og, ot, om_Single, kit_s⟩) (mem_cons (⟨C_Voices, aC_Voices, ⟨pg_Voices, hd_Voices, po_Voices, sa_Voices⟩, oc_Voices, og, ot, om_Voices, kit_r ic_Single ty_Single k_Voices_Single ne_Voices_Single⟩) (fun _ h => nomatch h)))⟩) (fun _ h => nomatch h))
  refine ⟨_, fun s v => .of_eq (by exact rfl : bindArgs (PySem.W.fnOf "law" "law" (defArgs s_law) (defBody s_law) (defScope s_law) .none kV13 dc13 pm13 an13 cd13 ct13) ⟨[v], []⟩ = _), fun base _ _ => ?_⟩
  have x1 : XtOk K mg (fun c x => TT.xt.lookup (c, x)) := xt_nil
  have x2 : XisOk K mg (fun c x => TT.xi.lookup (c, x)) := xi_nil
  have x3 : ∀ c, c ∈ GG.xcs → ∃ Cc, mg c = some (.ref Cc) ∧ RzCls K Cc := fun _ h => nomatch h
  have x4 : ∀ n, n ∈ GG.xns → ∃ cv, ClsV mg n cv := fun _ h => nomatch h
  exact fnok_law (d := d_law) ⟨hc, ok_g, hT, hI, h0, ok_mk, h1, hC, ok_mt, x1, x2, x3, x4⟩ k F13 rfl ok_law rfl
end K06

namespace K06
open PySem L2 D3
theorem ix_l {ds : List D} {m m' : Md} {i : Int} {d : D} (h : atI ds i = some d) : op2 ixD (.ok m (.lst ds)) (.ok m' (.int i)) = .ok .fz d := op2_of (by show (atI ds i).map _ = _; rw [h]; rfl)
theorem ix_t {ds : List D} {m m' : Md} {i : Int} {d : D} (h : atI ds i = some d) : op2 ixD (.ok m (.tup ds)) (.ok m' (.int i)) = .ok .fz d := op2_of (by show (atI ds i).map _ = _; rw [h]; rfl)
theorem ix_s {z : Str} {m m' : Md} {i : Int} {c : Nat} (h : atI z.cps.toList i = some c) : op2 ixD (.ok m (.str z)) (.ok m' (.int i)) = .ok .fz (.str ⟨#[c]⟩) := op2_of (by show (atI z.cps.toList i).map _ = _; rw [h]; rfl)
theorem atI_mod {α : Type} (xs : List α) (v : Int) (n : Int) (hn : n = xs.length) (h : 0 < n) : ∃ c, c ∈ xs ∧ atI xs (v % n) = some c := by
  have h0 := Int.emod_nonneg v (show n ≠ 0 by omega)
  have h1 := Int.emod_lt_of_pos v h
  obtain ⟨j, hj⟩ := Int.eq_ofNat_of_zero_le h0
  have hl : j < xs.length := by omega
  exact ⟨xs[j], List.getElem_mem hl, by rw [hj]; exact atI_nat (List.getElem?_eq_getElem hl)⟩
/-! ### names -/
def nameSign (c : D) : Bool := match c with | .str x => isIn x (Str.ofString "abcdefghijklmnopqrstuvwxyz") || isIn x (Str.ofString "0123456789") | _ => false
def hd (z : Str) : Str := ⟨#[z.cps.toList.headD 0]⟩
def nameB (z : Str) : Bool := !(decide (z.length < 1) || decide (40 < z.length)) && (isIn (hd z) (Str.ofString "abcdefghijklmnopqrstuvwxyz") && (charsD z).all nameSign)
theorem name_sign (k : Nat) {x : Str} : (WT TT (k + 1)).Φ "is_name_sign" [.str x] = .ok .fz (.bl (nameSign (.str x))) := by
  rw [u_is_name_sign]
  refine phi_ok rfl ?_
  show evB _ b_is_name_sign [some (false, .str x)] = _
  simp [b_is_name_sign, nameSign]
theorem chars_str {z : Str} {d : D} (h : d ∈ charsD z) : ∃ x : Str, d = .str x := by
  simp only [charsD, List.mem_map] at h
  obtain ⟨c, _, rfl⟩ := h
  exact ⟨_, rfl⟩
theorem blsD_map {f : D → Bool} : ∀ {ds : List D}, blsD (ds.map fun d => .bl (f d)) = some (ds.map f)
  | [] => rfl
  | d :: ds => by show (blsD (ds.map _)).map _ = _; rw [blsD_map]; rfl
theorem chars_len {z : Str} : (charsD z).length = z.length := by simp [charsD, Str.length]
theorem all_map {m : Md} {f : D → Bool} {ds : List D} : allD [(m, .lst (ds.map fun d => .bl (f d)))] = some (.fz, .bl (ds.all f)) := by
  show (blsD _).map _ = _
  rw [blsD_map]
  simp [Function.comp_def]
theorem first {z : Str} (h : 1 ≤ z.length) {m m' : Md} : op2 ixD (.ok m (.str z)) (.ok m' (.int 0)) = .ok .fz (.str (hd z)) := by
  refine op2_of ?_
  show (atI z.cps.toList 0).map _ = _
  have : z.cps.toList ≠ [] := by intro e; simp [Str.length, ← Array.length_toList, e] at h
  obtain ⟨a, l, e⟩ := List.exists_cons_of_ne_nil this
  rw [e, show atI (a :: l) (0 : Int) = some a from atI_nat (j := 0) rfl]
  unfold hd; rw [e]; rfl
theorem is_name_str (k : Nat) {z : Str} : (WT TT (k + 2)).Φ "is_name" [.str z] = .ok .fz (.bl (nameB z)) := by
  rw [u_is_name]
  refine phi_ok rfl ?_
  show evB _ b_is_name [some (false, .str z)] = _
  have ei : isiD [(.fz, .str z), (.fz, .ty "str")] = some (.fz, .bl true) := rfl
  by_cases h1 : (decide (z.length < 1) || decide (40 < z.length)) = true
  · have h1' : (decide ((z.length : Int) < 1) || decide (40 < (z.length : Int))) = true := by
      simp only [Bool.or_eq_true, decide_eq_true_eq] at h1 ⊢; omega
    have hn : nameB z = false := by unfold nameB; rw [h1]; rfl
    simp [b_is_name, ei, h1', hn, Ty.id]
  · have h2 : 1 ≤ z.length ∧ z.length ≤ 40 := by simp at h1; omega
    have h1' : (decide ((z.length : Int) < 1) || decide (40 < (z.length : Int))) = false := by
      simp only [Bool.or_eq_false_iff, decide_eq_false_iff_not]; omega
    rw [Bool.not_eq_true] at h1
    have hl : (charsD z).length < sizeLine := by rw [chars_len]; have : sizeLine = 16777216 := sizeLine_eq; omega
    have ec : compR (.ok .fz (.lst (charsD z))) [some (false, .str z)] [] 1 (setG (.nm 0)) (fun ρ => .ok .fz (.bl true)) (fun ρ => callF 1 ((WT TT (k + 1)).Φ "is_name_sign") (consL (getS ρ 0) (.ok []))) = .ok .fr (.lst ((charsD z).map fun d => .bl (nameSign d))) := by
      refine compR_map _ hl fun d hd => ?_
      obtain ⟨x, rfl⟩ := chars_str hd
      exact ⟨[some (false, .str x)], .fz, by simp [subR], rfl, .fz, by simp [name_sign k]⟩
    have hn : nameB z = (isIn (hd z) (Str.ofString "abcdefghijklmnopqrstuvwxyz") && (charsD z).all nameSign) := by unfold nameB; rw [h1]; rfl
    simp [b_is_name, ei, h1', hn, first h2.1, Ty.id, ec, all_map]
theorem is_name_no (k : Nat) {d : D} (h : isiD [(.fz, d), (.fz, .ty "str")] = some (.fz, .bl false)) : (WT TT (k + 2)).Φ "is_name" [d] = .ok .fz (.bl false) := by
  rw [u_is_name]
  refine phi_ok rfl ?_
  show evB _ b_is_name [some (false, d)] = _
  simp [b_is_name, h, Ty.id]
/-! ### signs -/
def letters : List Nat := (Str.ofString "abcdefghijklmnopqrstuvwxyz").cps.toList
def signs36 : List Nat := (Str.ofString "abcdefghijklmnopqrstuvwxyz0123456789").cps.toList
theorem let_in : ∀ c ∈ letters, isIn ⟨#[c]⟩ (Str.ofString "abcdefghijklmnopqrstuvwxyz") = true := by decide +kernel
theorem sg_in : ∀ c ∈ signs36, nameSign (.str ⟨#[c]⟩) = true := by decide +kernel
theorem let_sg : ∀ c ∈ letters, c ∈ signs36 := by decide +kernel
def ten60 : Int := 1000000000000000000000000000000000000000000000000000000000000
theorem pow60 : op2 (fBin .Pow) (.ok .fz (.int 10)) (.ok .fz (.int 60)) = .ok .fz (.int ten60) := by rfl
theorem z60 : (0 : Int) < ten60 := by decide
def mx (c p : Int) : Int := ((c % ten60 + 1) * (48271 + 130 * p) % 2147483647) * ((c % ten60 + 1) * (48271 + 130 * p) % 2147483647) % 2147483629
theorem mix (k : Nat) {c p : Int} (h0 : 0 ≤ p) (h1 : p ≤ 100) : (WT TT (k + 1)).Φ "_law_mix" [.int c, .int p] = .ok .fz (.int (mx c p)) := by
  have hm := Int.emod_nonneg c (show ten60 ≠ 0 by decide)
  have hM := Int.emod_lt_of_pos c (show 0 < ten60 by decide)
  have b1 : bits (c % ten60 + 1) = true := bits_le (N := 1000000000000000000000000000000000000000000000000000000000001) (by unfold ten60 at *; omega)
  have b2 : bits (48271 + 130 * p) = true := bits_le (N := 1000000) (by omega)
  have b3 : bits p = true := bits_le (N := 100) (by omega)
  have b4 : bits 130 = true := by decide +kernel
  have f0 := Int.emod_nonneg ((c % ten60 + 1) * (48271 + 130 * p)) (show (2147483647 : Int) ≠ 0 by decide)
  have f1 := Int.emod_lt_of_pos ((c % ten60 + 1) * (48271 + 130 * p)) (show (0 : Int) < 2147483647 by decide)
  have b5 : bits ((c % ten60 + 1) * (48271 + 130 * p) % 2147483647) = true := bits_le (N := 2147483647) (by omega)
  rw [u__law_mix]
  refine phi_ok rfl ?_
  show evB _ b__law_mix [some (false, .int c), some (false, .int p), none] = _
  simp [b__law_mix, pow60, x_mul, b1, b2, b3, b4, b5, z60, mx]
theorem Mx (k : Nat) {c p : Int} (h0 : 0 ≤ p) (h1 : p ≤ 100) : callF 2 ((WT TT (k + 1)).Φ "_law_mix") (.ok [(.fz, .int c), (.fz, .int p)]) = .ok .fz (.int (mx c p)) := call2 (mix k h0 h1)
theorem mem_range {d : D} {n : Nat} (h : d ∈ rangeD 0 n) : ∃ i : Nat, i < n ∧ d = .int i := by
  simp only [rangeD, List.mem_map, List.mem_range] at h
  obtain ⟨i, hi, rfl⟩ := h
  exact ⟨i, by simpa using hi, by simp⟩
theorem rng_len {n : Nat} (h : n ≤ 63) : rng1R (.ok [(.fz, .int n)]) = .ok .fz (.lst (rangeD 0 n)) := by
  unfold rng1R
  rw [ResL.thn_ok]
  dsimp only
  rw [if_pos]
  simp only [Bool.and_eq_true, decide_eq_true_eq]
  omega
theorem script_at {ns : List Int} {i : Nat} (h : i < ns.length) {m m' : Md} : ∃ c, op2 ixD (.ok m (.lst (ns.map .int))) (.ok m' (.int i)) = .ok .fz (.int c) := by
  refine ⟨ns[i], ix_l ?_⟩
  exact atI_nat (by rw [List.getElem?_map, List.getElem?_eq_getElem h]; rfl)
theorem script_mod {ns : List Int} {i : Int} (h : 0 < ns.length) {m m' : Md} : ∃ c, op2 ixD (.ok m (.lst (ns.map .int))) (.ok m' (.int (i % ns.length))) = .ok .fz (.int c) := by
  obtain ⟨d, hd, e⟩ := atI_mod (ns.map D.int) i ns.length (by simp) (by omega)
  obtain ⟨c, _, rfl⟩ := List.mem_map.mp hd
  exact ⟨c, ix_l e⟩
theorem told (k : Nat) (b : Bool) : (WT TT (k + 1)).Φ "_law_told" [.bl b, .bl b] = .ok .fz (.bl true) := by
  rw [u__law_told]
  refine phi_ok rfl ?_
  show evB _ b__law_told [some (false, .bl b), some (false, .bl b)] = _
  have ei : isiD [(.fz, .bl b), (.fz, .ty "bool")] = some (.fz, .bl true) := rfl
  simp [b__law_told, ei, Ty.id]
end K06

namespace K06
open PySem L2 D3
/-- texts, as a tuple, as a list -/
abbrev tx (l : List Str) : D := .tup (l.map .str)
abbrev lx (l : List Str) : D := .lst (l.map .str)
theorem bls_true : ∀ (ds : List D), blsD (ds.map fun _ => D.bl true) = some (ds.map fun _ => true)
  | [] => rfl
  | d :: ds => by
    show blsD (.bl true :: ds.map fun _ => .bl true) = _
    simp only [blsD, bls_true ds]; rfl
theorem zip_self : ∀ {ds : List D}, ∀ x ∈ zipD ds ds, ∃ d ∈ ds, x = .tup [d, d]
  | [], x, h => by cases h
  | d :: ds, x, h => by
    rcases List.mem_cons.mp h with rfl | h
    · exact ⟨d, List.mem_cons_self, rfl⟩
    · obtain ⟨e, he, q⟩ := zip_self x h
      exact ⟨e, List.mem_cons_of_mem _ he, q⟩
theorem like_non (k : Nat) : (WT TT (k + 1)).Φ "_law_like" [.non, .non] = .ok .fz (.bl true) := by
  rw [u__law_like]
  refine phi_ok rfl ?_
  show evB _ b__law_like [some (false, .non), some (false, .non)] = _
  simp [b__law_like]
theorem like (k : Nat) (l : List Str) (hl : l.length ≤ 100) : (WT TT (k + 1)).Φ "_law_like" [tx l, tx l] = .ok .fz (.bl true) := by
  rw [u__law_like]
  refine phi_ok rfl ?_
  show evB _ b__law_like [some (false, tx l), some (false, tx l)] = _
  have hz : (zipD (l.map D.str) (l.map D.str)).length < sizeLine := by
    rw [zipD_len]
    have : sizeLine = 16777216 := sizeLine_eq
    simp; omega
  have ec : compR (.ok .fz (.lst (zipD (l.map D.str) (l.map D.str)))) [some (false, tx l), some (false, tx l)] [] 2 (setG (.tp [.nm 0, .nm 1])) (fun ρ => evF (WT TT k) [] ρ) (fun ρ => evE (WT TT k) (.andL [(.bcall .isinstance [(.var 0), (.ty .str)]), (.cmp .Eq (.var 0) (.var 1))]) ρ) = .ok .fr (.lst ((zipD (l.map D.str) (l.map D.str)).map fun _ => .bl true)) := by
    refine compR_map (fun _ => .bl true) hz fun x hx => ?_
    obtain ⟨d, hd, rfl⟩ := zip_self x hx
    obtain ⟨z, _, rfl⟩ := List.mem_map.mp hd
    refine ⟨[some (false, .str z), some (false, .str z)], .fz, rfl, by simp, .fz, ?_⟩
    have i1 : isiD [(.fz, .str z), (.fz, .ty "str")] = some (.fz, .bl true) := rfl
    simp [i1, Ty.id]
  have ez : zipR (.ok [(.fz, tx l), (.fz, tx l)]) = .ok .fz (.lst (zipD (l.map D.str) (l.map D.str))) := rfl
  have ea : allD [(.fr, .lst ((zipD (l.map D.str) (l.map D.str)).map fun _ => .bl true))] = some (.fz, .bl true) := by
    show (blsD _).map _ = _
    rw [bls_true]
    simp
  have nn : isNonD (tx l) = false := rfl
  have it : isiD [(.fz, tx l), (.fz, .ty "tuple")] = some (.fz, .bl true) := rfl
  have el : lenD [(.fz, tx l)] = some (.fz, .int (l.map D.str).length) := rfl
  unfold b__law_like
  generalize hzz : (zipD (l.map D.str) (l.map D.str)).map (fun _ => D.bl true) = Z at *
  generalize tx l = A at *
  simp [Ty.id] at ec
  simp [Ty.id, it, el, ez, ec, ea, nn]
theorem likeC (k : Nat) (l : List Str) (hl : l.length ≤ 100) : callF 2 ((WT TT (k + 1)).Φ "_law_like") (.ok [(.fz, tx l), (.fz, tx l)]) = .ok .fz (.bl true) := call2 (like k l hl)
/-! a comprehension with tests -/
theorem compL_filter {k : D → Rho → Option Rho} {t e : Rho → Res} {ρ0 : Rho} {f : D → D} {p : D → Bool} : ∀ {ds : List D}, (∀ d ∈ ds, ∃ ρ1 m, k d ρ0 = some ρ1 ∧ t ρ1 = .ok m (.bl (p d)) ∧ ∃ m', frzR (e ρ1) = .ok m' (f d)) → compL k t e ρ0 ds = some ((ds.filter p).map f)
  | [], _ => rfl
  | d :: ds, h => by
    obtain ⟨ρ1, m, e1, e2, m', e3⟩ := h d List.mem_cons_self
    have ih := compL_filter fun d hd => h d (List.mem_cons_of_mem _ hd)
    unfold compL
    rw [e1]
    dsimp only
    rw [e2]
    cases q : p d with
    | true => simp [e3, ih, List.filter_cons, q]
    | false => simp [ih, List.filter_cons, q]
theorem compR_filter {ρ : Rho} {caps : List Nat} {n : Nat} {k : D → Rho → Option Rho} {t e : Rho → Res} {m : Md} {ds : List D} (p : D → Bool) (f : D → D) (hl : ds.length < sizeLine)
    (h : ∀ d ∈ ds, ∃ ρ1 m, k d (subR caps ρ ++ List.replicate n none) = some ρ1 ∧ t ρ1 = .ok m (.bl (p d)) ∧ ∃ m', frzR (e ρ1) = .ok m' (f d)) : compR (.ok m (.lst ds)) ρ caps n k t e = .ok .fr (.lst ((ds.filter p).map f)) := by
  unfold compR
  rw [Res.thn_ok]
  dsimp only
  rw [if_pos hl, compL_filter h]
/-! a note: those names that the figures name -/
def pick (c p : Int) : Nat → List Str → List Str
  | _, [] => []
  | i, x :: xs => if mx c (p + 1 + i) % 2 = 1 then x :: pick c p (i + 1) xs else pick c p (i + 1) xs
theorem pick_sub {c p : Int} : ∀ {l : List Str} {i : Nat}, (pick c p i l).Sublist l
  | [], _ => .slnil
  | x :: xs, i => by
    unfold pick
    split
    · exact pick_sub.cons₂ x
    · exact pick_sub.cons x
def pickP (c p : Int) : D → Bool
  | .tup [.int i, _] => decide (mx c (p + 1 + i) % 2 = 1)
  | _ => false
def pickF : D → D
  | .tup [_, x] => x
  | d => d
theorem pick_enum {c p : Int} : ∀ {l : List Str} {i : Nat}, ((enumD i (l.map D.str)).filter (pickP c p)).map pickF = (pick c p i l).map D.str
  | [], _ => rfl
  | x :: xs, i => by
    have ih := pick_enum (c := c) (p := p) (l := xs) (i := i + 1)
    simp only [List.map_cons, enumD, List.filter_cons]
    have e : pickP c p (.tup [.int (i : Int), .str x]) = decide (mx c (p + 1 + i) % 2 = 1) := rfl
    rw [e]
    unfold pick
    by_cases h : mx c (p + 1 + i) % 2 = 1
    · simp only [h, decide_true, ↓reduceIte, List.map_cons, pickF, ih]
    · simp only [h, decide_false, Bool.false_eq_true, ↓reduceIte, ih]
theorem enum_mem : ∀ {ds : List D} {i : Nat} {d : D}, d ∈ enumD i ds → ∃ (j : Nat) (x : D), i ≤ j ∧ j < i + ds.length ∧ x ∈ ds ∧ d = .tup [.int (j : Int), x]
  | [], i, d, h => by cases h
  | y :: ds, i, d, h => by
    rcases List.mem_cons.mp h with rfl | h
    · exact ⟨i, y, Nat.le_refl _, by simp, List.mem_cons_self, rfl⟩
    · obtain ⟨j, x, h1, h2, h3, h4⟩ := enum_mem h
      exact ⟨j, x, by omega, by simp; omega, List.mem_cons_of_mem _ h3, h4⟩
/-- a note: None, or names -/
def noteD (l : List Str) (c p : Int) : D := if mx c p % 6 = 0 then .non else tx (pick c p 0 l)
theorem note (k : Nat) (l : List Str) (hl : l.length ≤ 5) (c : Int) {p : Int} (h0 : 0 ≤ p) (h1 : p ≤ 90) : (WT TT (k + 2)).Φ "_law_note_by" [lx l, .int c, .int p] = .ok .fz (noteD l c p) := by
  rw [u__law_note_by]
  refine phi_ok rfl ?_
  show evB _ b__law_note_by [some (false, lx l), some (false, .int c), some (false, .int p)] = _
  have m1 := Mx k (c := c) (p := p) h0 (by omega)
  have hz : (enumD 0 (l.map D.str)).length < sizeLine := by
    rw [enumD_len]
    have : sizeLine = 16777216 := sizeLine_eq
    simp; omega
  have ec : compR (.ok .fz (.lst (enumD 0 (l.map D.str)))) [some (false, lx l), some (false, .int c), some (false, .int p)] [1, 2] 2 (setG (.tp [.nm 2, .nm 3])) (fun ρ => evF (WT TT (k + 1)) [(.cmp .Eq (.bin .Mod (.call "_law_mix" 2 [(.var 0), (.frz (.bin .Add (.bin .Add (.var 1) (.int 1)) (.var 2)))]) (.int 2)) (.int 1))] ρ) (fun ρ => evE (WT TT (k + 1)) (.var 3) ρ) = .ok .fr (lx (pick c p 0 l)) := by
    show _ = Res.ok Md.fr (.lst ((pick c p 0 l).map D.str))
    rw [← pick_enum]
    refine compR_filter _ _ hz fun d hd => ?_
    obtain ⟨j, x, _, h2, h3, rfl⟩ := enum_mem hd
    obtain ⟨z, _, rfl⟩ := List.mem_map.mp h3
    have hj : (j : Int) < 5 := by simp at h2; omega
    have m2 := Mx k (c := c) (p := p + 1 + j) (by omega) (by omega)
    refine ⟨[some (false, .int c), some (false, .int p), some (false, .int j), some (false, .str z)], .fz, rfl, ?_, .fz, ?_⟩
    · simp [m2, pickP]; rfl
    · simp [pickF]
  have en : enumR (.ok [(.fz, lx l)]) = .ok .fz (.lst (enumD 0 (l.map D.str))) := rfl
  have tt : tcTuple [(.fr, lx (pick c p 0 l))] = some (.fz, tx (pick c p 0 l)) := rfl
  unfold noteD
  generalize lx l = A at *
  generalize lx (pick c p 0 l) = B at *
  generalize tx (pick c p 0 l) = G at *
  generalize enumD 0 (l.map D.str) = Z at *
  by_cases h : mx c p % 6 = 0
  · simp [b__law_note_by, m1, h]
  · simp at ec
    have h' : (mx c p % 6 == 0) = false := by simpa using h
    simp [b__law_note_by, m1, h, h', en, ec, tt, Ty.f]
end K06

namespace K06
open PySem L2 D3
/-- a note -/
def nd : Option (List Str) → D
  | none => .non
  | some l => tx l
def vo : D := .ins "Voices" []
theorem txD_map : ∀ (l : List Str), txD (l.map D.str) = some l
  | [] => rfl
  | x :: l => by show (txD (l.map D.str)).map _ = _; rw [txD_map l]; rfl
theorem us {a b : List Str} (ha : a.length ≤ 7) (hb : b.length ≤ 7) {m m' : Md} : usR (.ok m (tx a)) (.ok m' (tx b)) = .ok .fr (lx (uni (a ++ b))) := by
  have e1 : txT (tx a) = some a := txD_map a
  have e2 : txT (tx b) = some b := txD_map b
  simp only [usR, Res.thn_ok, e1, e2, ha, hb, ↓reduceIte]
theorem both (k : Nat) {a b : List Str} (ha : a.length ≤ 7) (hb : b.length ≤ 7) : (WT TT (k + 1)).Φ "names_of_both" [tx a, tx b] = .ok .fz (tx (uni (a ++ b))) := by
  rw [u_names_of_both]
  refine phi_ok rfl ?_
  show evB _ b_names_of_both [some (false, tx a), some (false, tx b)] = _
  have u := us ha hb (m := .fz) (m' := .fz)
  have tt : tcTuple [(.fr, lx (uni (a ++ b)))] = some (.fz, tx (uni (a ++ b))) := rfl
  generalize tx a = A at *
  generalize tx b = B at *
  generalize lx (uni (a ++ b)) = G at *
  simp [b_names_of_both, u, tt, Ty.f]
def plusN : Option (List Str) → Option (List Str) → Option (List Str)
  | none, b => b
  | some a, none => some a
  | some a, some b => some (uni (a ++ b))
def timesN : Option (List Str) → Option (List Str) → Option (List Str)
  | some a, some b => some (uni (a ++ b))
  | _, _ => none
/-- at most seven names -/
def Few (a : Option (List Str)) : Prop := ∀ l, a = some l → l.length ≤ 7
theorem nn (l : List Str) : isNonD (tx l) = false := rfl
theorem v_plus (k : Nat) {a b : Option (List Str)} (ha : Few a) (hb : Few b) : (WT TT (k + 2)).Φ "Voices.plus" [vo, nd a, nd b] = .ok .fz (nd (plusN a b)) := by
  rw [u_Voices_plus]
  refine phi_ok rfl ?_
  show evB _ b_Voices_plus [some (false, vo), some (false, nd a), some (false, nd b)] = _
  cases a with
  | none => simp [b_Voices_plus, nd, plusN]
  | some a =>
    cases b with
    | none =>
      have n1 := nn a
      show evB _ b_Voices_plus [some (false, vo), some (false, tx a), some (false, .non)] = .rt .fz (tx a)
      generalize tx a = A at *
      simp [b_Voices_plus, n1]
    | some b =>
      have n1 := nn a
      have n2 := nn b
      have u := call2 (both k (ha a rfl) (hb b rfl))
      show evB _ b_Voices_plus [some (false, vo), some (false, tx a), some (false, tx b)] = .rt .fz (tx (uni (a ++ b)))
      generalize tx a = A at *
      generalize tx b = B at *
      generalize tx (uni (a ++ b)) = G at *
      simp [b_Voices_plus, n1, n2, u]
theorem v_times (k : Nat) {a b : Option (List Str)} (ha : Few a) (hb : Few b) : (WT TT (k + 2)).Φ "Voices.times" [vo, nd a, nd b] = .ok .fz (nd (timesN a b)) := by
  rw [u_Voices_times]
  refine phi_ok rfl ?_
  show evB _ b_Voices_times [some (false, vo), some (false, nd a), some (false, nd b)] = _
  cases a with
  | none => simp [b_Voices_times, nd, timesN]
  | some a =>
    cases b with
    | none =>
      have n1 := nn a
      show evB _ b_Voices_times [some (false, vo), some (false, tx a), some (false, .non)] = .rt .fz .non
      generalize tx a = A at *
      simp [b_Voices_times, n1]
    | some b =>
      have n1 := nn a
      have n2 := nn b
      have u := call2 (both k (ha a rfl) (hb b rfl))
      show evB _ b_Voices_times [some (false, vo), some (false, tx a), some (false, tx b)] = .rt .fz (tx (uni (a ++ b)))
      generalize tx a = A at *
      generalize tx b = B at *
      generalize tx (uni (a ++ b)) = G at *
      simp [b_Voices_times, n1, n2, u]
theorem orV {a : Option (List Str)} {m : Md} : orVR (.ok .fz (nd a)) (.ok .fz (.tup [])) = .ok .fz (tx (a.getD [])) := by
  cases a with
  | none => rfl
  | some l =>
    cases l with
    | nil => rfl
    | cons x l => rfl
theorem flat_all : ∀ (l : List Str), (l.map D.str).all flatD = true
  | [] => rfl
  | x :: l => by rw [List.map_cons, List.all_cons, flat_all l]; rfl
theorem in_t {z : Str} {l : List Str} {m m' : Md} : op2 (fCmp .In) (.ok m (.str z)) (.ok m' (tx l)) = .ok .fz (.bl (decide (z ∈ l))) := by
  refine op2_of ?_
  show (orO fIn (inSq false)) m (.str z) m' (tx l) = _
  have e1 : (l.map D.str).any (fun y => eqD y (.str z)) = decide (z ∈ l) := by
    induction l with
    | nil => rfl
    | cons x l ih =>
      rw [List.map_cons, List.any_cons, ih]
      have : eqD (.str x) (.str z) = decide (x = z) := by
        rfl
      rw [this, Bool.eq_iff_iff, Bool.or_eq_true, decide_eq_true_eq, decide_eq_true_eq, decide_eq_true_eq, List.mem_cons]
      exact ⟨fun h => h.imp Eq.symm id, fun h => h.imp Eq.symm id⟩
  have e2 : inSq false m (.str z) m' (tx l) = some (.fz, .bl (decide (z ∈ l))) := by
    show (if (flatD (.str z) && (l.map D.str).all flatD) = true then _ else _) = _
    rw [flat_all, e1]
    rfl
  have e3 : fIn m (.str z) m' (tx l) = none := rfl
  unfold orO
  rw [e3]
  exact e2
end K06

namespace K06
open PySem L2 D3
/-- those of the pool that stand in one of the two -/
def uP (a b : Option (List Str)) (x : Str) : Bool := decide (x ∈ a.getD []) || decide (x ∈ b.getD [])
def uU (pool : List Str) (a b : Option (List Str)) : List Str := pool.filter (uP a b)
/-- a note of the pool's names -/
def Nt (pool : List Str) (a : Option (List Str)) : Prop := ∀ l, a = some l → Strict l ∧ (∀ x ∈ l, x ∈ pool) ∧ l.length ≤ 5
theorem Nt.few {pool : List Str} {a : Option (List Str)} (h : Nt pool a) : Few a := fun l e => Nat.le_trans (h l e).2.2 (by decide)
theorem is_union {pool l : List Str} {a b : Option (List Str)} (hp : Strict pool) (hl : Strict l) (h : ∀ y, y ∈ l ↔ y ∈ pool ∧ (y ∈ a.getD [] ∨ y ∈ b.getD [])) : l = uU pool a b :=
  strict_ext hl (List.Pairwise.filter _ hp) fun y => by
    rw [h, uU, List.mem_filter]
    simp [uP]
theorem plus_is {pool : List Str} {a b : Option (List Str)} (hp : Strict pool) (ha : Nt pool a) (hb : Nt pool b) : nd (plusN a b) = if a = none ∧ b = none then .non else tx (uU pool a b) := by
  cases a with
  | none =>
    cases b with
    | none => simp [plusN, nd]
    | some b =>
      rw [if_neg (by simp), ← is_union (a := none) (b := some b) hp (hb b rfl).1 fun y => ?_]
      · rfl
      · simp only [Option.getD_none, Option.getD_some, List.not_mem_nil, false_or]
        exact ⟨fun h => ⟨(hb b rfl).2.1 y h, h⟩, fun h => h.2⟩
  | some a =>
    cases b with
    | none =>
      rw [if_neg (by simp), ← is_union (a := some a) (b := none) hp (ha a rfl).1 fun y => ?_]
      · rfl
      · simp only [Option.getD_none, Option.getD_some, List.not_mem_nil, or_false]
        exact ⟨fun h => ⟨(ha a rfl).2.1 y h, h⟩, fun h => h.2⟩
    | some b =>
      rw [if_neg (by simp), ← is_union (a := some a) (b := some b) hp (uni_strict (a ++ b)) fun y => ?_]
      · rfl
      · rw [uni_mem, List.mem_append]
        simp only [Option.getD_some]
        exact ⟨fun h => ⟨h.elim ((ha a rfl).2.1 y) ((hb b rfl).2.1 y), h⟩, fun h => h.2⟩
theorem times_is {pool : List Str} {a b : Option (List Str)} (hp : Strict pool) (ha : Nt pool a) (hb : Nt pool b) : nd (timesN a b) = if a = none ∨ b = none then .non else tx (uU pool a b) := by
  cases a with
  | none => simp [timesN, nd]
  | some a =>
    cases b with
    | none => simp [timesN, nd]
    | some b =>
      rw [if_neg (by simp), ← is_union (a := some a) (b := some b) hp (uni_strict (a ++ b)) fun y => ?_]
      · rfl
      · rw [uni_mem, List.mem_append]
        simp only [Option.getD_some]
        exact ⟨fun h => ⟨h.elim ((ha a rfl).2.1 y) ((hb b rfl).2.1 y), h⟩, fun h => h.2⟩
def uPD (a b : Option (List Str)) : D → Bool
  | .str x => uP a b x
  | _ => false
theorem filt (a b : Option (List Str)) (pool : List Str) : ((pool.map D.str).filter (uPD a b)).map id = (uU pool a b).map D.str := by
  rw [List.map_id, List.filter_map]
  rfl
theorem union (k : Nat) {pool : List Str} (hl : pool.length ≤ 5) (a b : Option (List Str)) :
    compR (.ok .fz (lx pool)) [some (false, vo), some (false, lx pool), some (false, nd a), some (false, nd b), none, none, none] [2, 3] 1 (setG (.nm 2)) (fun ρ => evF (WT TT k) [(.orL [(.cmp .In (.var 2) (.orV (.var 0) (.tup []))), (.cmp .In (.var 2) (.orV (.var 1) (.tup [])))])] ρ) (fun ρ => evE (WT TT k) (.var 2) ρ) = .ok .fr (lx (uU pool a b)) := by
  show _ = Res.ok Md.fr (.lst ((uU pool a b).map D.str))
  rw [← filt]
  refine compR_filter _ _ (by have : sizeLine = 16777216 := sizeLine_eq; simp; omega) fun d hd => ?_
  obtain ⟨x, _, rfl⟩ := List.mem_map.mp hd
  have o1 := orV (a := a) (m := .fz)
  have o2 := orV (a := b) (m := .fz)
  have i1 := in_t (z := x) (l := a.getD []) (m := .fz) (m' := .fz)
  have i2 := in_t (z := x) (l := b.getD []) (m := .fz) (m' := .fz)
  refine ⟨[some (false, nd a), some (false, nd b), some (false, .str x)], .fz, rfl, ?_, .fz, by simp⟩
  have e0 : tupR (.ok []) = .ok .fz (.tup []) := rfl
  generalize nd a = A at *
  generalize nd b = B at *
  generalize tx (a.getD []) = A' at *
  generalize tx (b.getD []) = B' at *
  simp [e0, o1, o2, i1, i2, uPD, uP]
end K06

namespace K06
open PySem L2 D3
theorem likeN (k : Nat) {d : D} (h : d = .non ∨ ∃ l : List Str, l.length ≤ 100 ∧ d = tx l) : callF 2 ((WT TT (k + 1)).Φ "_law_like") (.ok [(.fz, d), (.fz, d)]) = .ok .fz (.bl true) := by
  rcases h with rfl | ⟨l, hl, rfl⟩
  · exact call2 (like_non k)
  · exact likeC k l hl
theorem methV {m : Str} {key : Str} {n : Nat} {k : Nat} {as : ResL} (h : CI.meth TT.cl "Voices" m = some (key, n)) : methR TT.cl (WT TT k).Φ m (.ok .fz vo) as = callF n ((WT TT k).Φ key) (consL (.ok .fz vo) as) := x_meth h rfl
theorem met_pre (k : Nat) {pool : List Str} (hl : pool.length ≤ 5) (a b : Option (List Str)) :
    evB (WT TT k) (b__law_met.take 1) [some (false, vo), some (false, lx pool), some (false, nd a), some (false, nd b), none, none, none] = .nx [some (false, vo), some (false, lx pool), some (false, nd a), some (false, nd b), some (false, tx (uU pool a b)), none, none] := by
  have ec := union k hl a b
  have tt : tcTuple [(.fr, lx (uU pool a b))] = some (.fz, tx (uU pool a b)) := rfl
  have it : itemsR (.ok .fz (lx pool)) = .ok .fz (lx pool) := rfl
  generalize lx pool = P at *
  generalize lx (uU pool a b) = L at *
  generalize tx (uU pool a b) = G at *
  generalize nd a = A at *
  generalize nd b = B at *
  simp at ec
  simp [b__law_met, ec, tt, it, Ty.f]
theorem isN {a : Option (List Str)} : isNonD (nd a) = decide (a = none) := by cases a <;> simp [nd, isNonD]
theorem met_mid (k : Nat) {P V A B G : D} {a b : Bool} (h1 : isNonD A = a) (h2 : isNonD B = b) :
    evB (WT TT k) ((b__law_met.drop 1).take 4) [some (false, V), some (false, P), some (false, A), some (false, B), some (false, G), none, none] = .nx [some (false, V), some (false, P), some (false, A), some (false, B), some (false, G), some (false, if a && b then .non else G), some (false, if a || b then .non else G)] := by
  cases a <;> cases b <;> simp [b__law_met, h1, h2]
theorem met (k : Nat) {pool : List Str} (hp : Strict pool) (hl : pool.length ≤ 5) {a b : Option (List Str)} (ha : Nt pool a) (hb : Nt pool b) : (WT TT (k + 3)).Φ "_law_met" [vo, lx pool, nd a, nd b] = .ok .fz (.bl true) := by
  rw [u__law_met]
  refine phi_ok rfl ?_
  show evB (WT TT (k + 2)) b__law_met [some (false, vo), some (false, lx pool), some (false, nd a), some (false, nd b), none, none, none] = _
  have ea : b__law_met = b__law_met.take 1 ++ ((b__law_met.drop 1).take 4 ++ b__law_met.drop 5) := rfl
  rw [ea, b_app, met_pre (k + 2) hl a b, SRes.thn_nx, b_app, met_mid (k + 2) isN isN, SRes.thn_nx]
  have p1 := call3 (v_plus k ha.few hb.few)
  have t1 := call3 (v_times k ha.few hb.few)
  have r1 := methV (k := k + 2) (as := .ok [(.fz, nd a), (.fz, nd b)]) (m := "plus") (key := "Voices.plus") (n := 3) rfl
  have r2 := methV (k := k + 2) (as := .ok [(.fz, nd a), (.fz, nd b)]) (m := "times") (key := "Voices.times") (n := 3) rfl
  have hu : (uU pool a b).length ≤ 100 := Nat.le_trans (List.length_filter_le _ _) (by omega)
  have e1 : (if (decide (a = none) && decide (b = none)) = true then D.non else tx (uU pool a b)) = nd (plusN a b) := by
    rw [plus_is hp ha hb]; simp
  have e2 : (if (decide (a = none) || decide (b = none)) = true then D.non else tx (uU pool a b)) = nd (timesN a b) := by
    rw [times_is hp ha hb]; simp
  rw [e1, e2]
  have l1 := likeN (k + 1) (d := nd (plusN a b)) (by
    rw [plus_is hp ha hb]; split
    · exact .inl rfl
    · exact .inr ⟨_, hu, rfl⟩)
  have l2 := likeN (k + 1) (d := nd (timesN a b)) (by
    rw [times_is hp ha hb]; split
    · exact .inl rfl
    · exact .inr ⟨_, hu, rfl⟩)
  generalize nd (plusN a b) = S1 at *
  generalize nd (timesN a b) = S2 at *
  generalize tx (uU pool a b) = G at *
  generalize lx pool = P at *
  generalize nd a = A at *
  generalize nd b = B at *
  have hv : frzR (.ok .fz vo) = .ok .fz vo := rfl
  generalize vo = V at *
  simp [b__law_met, r1, r2, p1, t1, l1, l2]
end K06

namespace K06
open PySem L2 D3
/-! ### shown -/
/-- names bound by plus signs -/
def sh : List Str → Str
  | [] => "nobody"
  | l => Str.join "+" l
def shT : Option (List Str) → Str
  | none => "never"
  | some l => sh l
theorem joinR {l : List Str} (h : (l.map (·.length)).sum + l.length ≤ 1000) : joinT .fz (.str "+") [(.fz, tx l)] = some (.fz, .str (Str.join "+" l)) := by
  show (match txT (tx l) with | some ys => _ | none => _) = _
  rw [show txT (tx l) = some l from txD_map l]
  dsimp only
  rw [if_pos (by have : sizeLine = 16777216 := sizeLine_eq; have e : (("+" : Str).length : Nat) = 1 := rfl; rw [e]; omega), txt_join]
theorem py_strs : ∀ (l : List Str), toPyL (l.map D.str) = some (l.map PyData.str)
  | [] => rfl
  | x :: l => by simp [toPyL, toPy, py_strs l]
theorem dep_strs : ∀ (l : List Str), PyData.depthAll (l.map PyData.str) ≤ 1
  | [] => by simp [PyData.depthAll]
  | x :: l => by
    have := dep_strs l
    simp only [List.map_cons, PyData.depthAll, PyData.depth]
    omega
theorem shal_tx (l : List Str) : shal (.tuple (l.map PyData.str)) = true := by
  have := dep_strs l
  unfold shal
  rw [decide_eq_true_eq]
  have e : PyData.depth (.tuple (l.map PyData.str)) = PyData.depthAll (l.map PyData.str) + 1 := by simp [PyData.depth, Nat.add_comm]
  rw [e]; omega
theorem v_shown (k : Nat) {a : Option (List Str)} (h : ∀ l, a = some l → (l.map (·.length)).sum + l.length ≤ 1000) : (WT TT (k + 1)).Φ "Voices.shown" [vo, nd a] = .ok .fz (.str (shT a)) := by
  rw [u_Voices_shown]
  refine phi_ok rfl ?_
  show evB _ b_Voices_shown [some (false, vo), some (false, nd a)] = _
  cases a with
  | none => simp [b_Voices_shown, nd, shT]
  | some l =>
    cases l with
    | nil =>
      show evB _ b_Voices_shown [some (false, vo), some (false, .tup [])] = .rt .fz (.str "nobody")
      have q : op2 (fCmp .Eq) (.ok .fz (.tup [])) (.ok .fz (.tup [])) = .ok .fz (.bl true) := op2_of rfl
      have e0 : tupR (.ok []) = .ok .fz (.tup []) := rfl
      simp [b_Voices_shown, e0, q]
    | cons x l =>
      have n1 := nn (x :: l)
      have j := joinR (h (x :: l) rfl)
      show evB _ b_Voices_shown [some (false, vo), some (false, tx (x :: l))] = .rt .fz (.str (Str.join "+" (x :: l)))
      have q : op2 (fCmp .Eq) (.ok .fz (tx (x :: l))) (.ok .fz (.tup [])) = .ok .fz (.bl false) := by
        refine op2_of ?_
        have f := flat_all (x :: l)
        show (orO (eqF false) _) _ _ _ _ = _
        have e : eqF false .fz (tx (x :: l)) .fz (.tup []) = some (.fz, .bl false) := by
          unfold eqF
          rw [show toPy (tx (x :: l)) = some (.tuple ((x :: l).map PyData.str)) from by show (toPyL _).map _ = _; rw [py_strs]; rfl, show toPy (.tup []) = some (.tuple []) from rfl]
          dsimp only
          rw [shal_tx, show shal (.tuple []) = true from shal_tx [], Bool.and_self, if_pos rfl]
          simp [PyData.eqv, PyData.eqvAll]
        unfold orO
        rw [e]; rfl
      have mj : mthR "str" joinT (.ok .fz (.str "+")) (.ok [(.fz, tx (x :: l))]) = .ok .fz (.str (Str.join "+" (x :: l))) := by
        show (if isTyD "str" (.str "+") = true then Res.of (joinT .fz (.str "+") [(.fz, tx (x :: l))]) else .stuck) = _
        rw [j]; rfl
      have e0 : tupR (.ok []) = .ok .fz (.tup []) := rfl
      generalize Str.join "+" (x :: l) = J at *
      generalize tx (x :: l) = A at *
      simp [b_Voices_shown, n1, q, mj, e0]
/-- the law's own: bound one by one -/
def bind : Str → Nat → List Str → Str
  | d, _, [] => d
  | d, i, x :: l => bind (if i = 0 then x else d ++ "+" ++ x) (i + 1) l
theorem bind_join : ∀ (l : List Str) (d : Str) (i : Nat), bind d (i + 1) l = Str.join "+" (d :: l)
  | [], d, i => rfl
  | x :: l, d, i => by
    show bind (if i + 1 = 0 then x else d ++ "+" ++ x) (i + 2) l = _
    rw [if_neg (by omega), bind_join l]
    cases l with
    | nil => rfl
    | cons y l =>
      show (d ++ "+" ++ x) ++ "+" ++ Str.join "+" (y :: l) = d ++ "+" ++ (x ++ "+" ++ Str.join "+" (y :: l))
      simp only [PySem.Str.append_assoc]
theorem bind_sh (l : List Str) : bind "nobody" 0 l = sh l := by
  cases l with
  | nil => rfl
  | cons x l => exact bind_join l x 0
theorem add_s {x y : Str} {m m' : Md} (h : x.length + y.length ≤ 2000) : op2 (fBin .Add) (.ok m (.str x)) (.ok m' (.str y)) = .ok .fz (.str (x ++ y)) := by
  exact x_addS (by have : sizeLine = 16777216 := sizeLine_eq; omega)
theorem sh_loop (k : Nat) {T A : D} : ∀ (l : List Str) (d : Str) (i : Nat) (u v : Option (Bool × D)), d.length + (l.map (·.length)).sum + l.length ≤ 1500 →
    ∃ u' v', forS (setG (.tp [(.nm 3), (.nm 4)])) (evB (WT TT k) b__law_shown_L1) (enumD i (l.map D.str)) [some (false, T), some (false, A), some (false, .str d), u, v] = .nx [some (false, T), some (false, A), some (false, .str (bind d i l)), u', v']
  | [], d, i, u, v, _ => ⟨u, v, rfl⟩
  | x :: l, d, i, u, v, h => by
    simp only [List.map_cons, List.sum_cons, List.length_cons] at h
    have e1 : evB (WT TT k) b__law_shown_L1 [some (false, T), some (false, A), some (false, .str d), some (false, .int (i : Int)), some (false, .str x)] = .nx [some (false, T), some (false, A), some (false, .str (if i = 0 then x else d ++ "+" ++ x)), some (false, .int (i : Int)), some (false, .str x)] := by
      by_cases h0 : i = 0
      · subst h0
        simp [b__law_shown_L1]
      · have h1 : ((i : Int) == 0) = false := by simpa using h0
        have a1 := add_s (x := d) (y := "+") (m := .fz) (m' := .fz) (by have : (("+" : Str).length : Nat) = 1 := rfl; omega)
        have a2 := add_s (x := d ++ "+") (y := x) (m := .fz) (m' := .fz) (by rw [PySem.Str.length_append]; have : (("+" : Str).length : Nat) = 1 := rfl; omega)
        simp [b__law_shown_L1, h0, h1, a1, a2]
    have hl : (if i = 0 then x else d ++ "+" ++ x).length + (l.map (·.length)).sum + l.length ≤ 1500 := by
      split
      · omega
      · rw [PySem.Str.length_append, PySem.Str.length_append]
        have : (("+" : Str).length : Nat) = 1 := rfl
        omega
    obtain ⟨u', v', e2⟩ := sh_loop k (T := T) (A := A) l (if i = 0 then x else d ++ "+" ++ x) (i + 1) (some (false, .int (i : Int))) (some (false, .str x)) hl
    refine ⟨u', v', ?_⟩
    show forS _ _ (.tup [.int (i : Int), .str x] :: enumD (i + 1) (l.map D.str)) _ = _
    unfold forS
    rw [show setG (.tp [(.nm 3), (.nm 4)]) (.tup [.int (i : Int), .str x]) [some (false, T), some (false, A), some (false, .str d), u, v] = some [some (false, T), some (false, A), some (false, .str d), some (false, .int (i : Int)), some (false, .str x)] from rfl]
    dsimp only
    rw [e1]
    exact e2
theorem law_sh (k : Nat) {a : Option (List Str)} (h : ∀ l, a = some l → (l.map (·.length)).sum + l.length ≤ 1000) : (WT TT (k + 1)).Φ "_law_shown" [.str (shT a), nd a] = .ok .fz (.bl true) := by
  rw [u__law_shown]
  refine phi_ok rfl ?_
  cases a with
  | none =>
    show evB _ b__law_shown [some (false, .str "never"), some (false, .non), none, none, none] = _
    have i1 : isiD [(.fz, .str "never"), (.fz, .ty "str")] = some (.fz, .bl true) := rfl
    simp [b__law_shown, i1, Ty.id]
  | some l =>
    show evB _ b__law_shown [some (false, .str (sh l)), some (false, tx l), none, none, none] = _
    have n1 := nn l
    obtain ⟨u, v, e⟩ := sh_loop k (T := .str (sh l)) (A := tx l) l "nobody" 0 none none (by have := h l rfl; have : (("nobody" : Str).length : Nat) = 6 := rfl; omega)
    rw [bind_sh] at e
    have en : enumR (.ok [(.fz, tx l)]) = .ok .fz (.lst (enumD 0 (l.map D.str))) := rfl
    have ef : forR (.ok .fz (.lst (enumD 0 (l.map D.str)))) [some (false, .str (sh l)), some (false, tx l), some (false, .str "nobody"), none, none] (setG (.tp [(.nm 3), (.nm 4)])) (evB (WT TT k) b__law_shown_L1) = .nx [some (false, .str (sh l)), some (false, tx l), some (false, .str (sh l)), u, v] := e
    have i1 : isiD [(.fz, .str (sh l)), (.fz, .ty "str")] = some (.fz, .bl true) := rfl
    generalize sh l = S at *
    generalize tx l = A at *
    generalize enumD 0 (l.map D.str) = Z at *
    simp [b__law_shown, n1, en, ef, i1, Ty.id]
end K06

namespace K06
open PySem L2 D3
/-! ### rising names -/
theorem lt_s {x y : Str} {m m' : Md} : op2 (fCmp .Lt) (.ok m (.str x)) (.ok m' (.str y)) = .ok .fz (.bl (lts x y)) := by
  refine op2_of ?_
  have e : ltF m (.str x) m' (.str y) = some (.fz, .bl (lts x y)) := by
    show some (Md.fz, D.bl (ltS x y)) = _
    rw [show ltS x y = lts x y from by unfold lts; rw [PyProof.Rows.ltCps_eq]; rfl]
  show (orO fLt ltF) _ _ _ _ = _
  unfold orO
  rw [e]; rfl
/-- each before the next -/
def rs (l : List Str) (i : Nat) : Bool := lts (l.getD i "") (l.getD (i + 1) "")
theorem rngN {n : Int} (h0 : -1 ≤ n) (h1 : n ≤ 1000) {m : Md} : rng1R (.ok [(m, .int n)]) = .ok .fz (.lst (rangeD 0 n)) := by
  unfold rng1R
  rw [ResL.thn_ok]
  dsimp only
  rw [if_pos]
  simp only [Bool.and_eq_true, decide_eq_true_eq]
  omega
theorem mem_rangeI {d : D} {n : Int} (h : d ∈ rangeD 0 n) : ∃ i : Nat, (i : Int) < n ∧ d = .int i := by
  simp only [rangeD, List.mem_map, List.mem_range] at h
  obtain ⟨i, hi, rfl⟩ := h
  exact ⟨i, by omega, by simp⟩
def rsD (l : List Str) : D → Bool
  | .int i => rs l i.toNat
  | _ => false
theorem ix_tx {l : List Str} {i : Nat} (h : i < l.length) {m m' : Md} : op2 ixD (.ok m (tx l)) (.ok m' (.int (i : Int))) = .ok .fz (.str (l.getD i "")) := by
  refine ix_t ?_
  exact atI_nat (by rw [List.getElem?_map, List.getElem?_eq_getElem h]; simp [h])
theorem rising (k : Nat) {l : List Str} (hl : l.length ≤ 100) : (WT TT (k + 1)).Φ "is_rising" [tx l] = .ok .fz (.bl ((rangeD 0 ((l.length : Int) - 1)).all (rsD l))) := by
  rw [u_is_rising]
  refine phi_ok rfl ?_
  show evB _ b_is_rising [some (false, tx l)] = _
  have el : lenD [(.fz, tx l)] = some (.fz, .int (l.length : Int)) := by show some (Md.fz, D.int ((l.map D.str).length : Nat)) = _; simp
  have er := rngN (m := .fz) (n := (l.length : Int) - 1) (by omega) (by omega)
  have hz : (rangeD 0 ((l.length : Int) - 1)).length < sizeLine := by
    have : sizeLine = 16777216 := sizeLine_eq
    simp [rangeD]; omega
  have ec : compR (.ok .fz (.lst (rangeD 0 ((l.length : Int) - 1)))) [some (false, tx l)] [0] 1 (setG (.nm 1)) (fun ρ => evF (WT TT k) [] ρ) (fun ρ => evE (WT TT k) (.cmp .Lt (.ix (.var 0) (.var 1)) (.ix (.var 0) (.bin .Add (.var 1) (.int 1)))) ρ) = .ok .fr (.lst ((rangeD 0 ((l.length : Int) - 1)).map fun d => .bl (rsD l d))) := by
    refine compR_map _ hz fun d hd => ?_
    obtain ⟨i, hi, rfl⟩ := mem_rangeI hd
    have x1 := ix_tx (l := l) (i := i) (m := .fz) (m' := .fz) (by omega)
    have x2 := ix_tx (l := l) (i := i + 1) (m := .fz) (m' := .fz) (by omega)
    rw [show ((i + 1 : Nat) : Int) = (i : Int) + 1 by omega] at x2
    refine ⟨[some (false, tx l), some (false, .int i)], .fz, rfl, by simp, .fz, ?_⟩
    have lt := lt_s (x := l.getD i "") (y := l.getD (i + 1) "") (m := .fz) (m' := .fz)
    have ef : rsD l (.int (i : Int)) = lts (l.getD i "") (l.getD (i + 1) "") := rfl
    rw [ef]
    generalize tx l = A at *
    generalize l.getD i "" = X1 at *
    generalize l.getD (i + 1) "" = X2 at *
    simp [x1, x2, lt]
  have ea := all_map (m := .fr) (f := rsD l) (ds := rangeD 0 ((l.length : Int) - 1))
  generalize (rangeD 0 ((l.length : Int) - 1)).all (rsD l) = R at *
  generalize (rangeD 0 ((l.length : Int) - 1)).map (fun d => D.bl (rsD l d)) = Z at *
  generalize rangeD 0 ((l.length : Int) - 1) = G at *
  generalize tx l = A at *
  simp at ec
  simp [b_is_rising, el, er, ec, ea]
theorem getD_mem {l : List Str} {i : Nat} (h : i < l.length) : l.getD i "" = l[i] := by simp [h]
theorem ris_true {l : List Str} (h : Strict l) : (rangeD 0 ((l.length : Int) - 1)).all (rsD l) = true := by
  rw [List.all_eq_true]
  intro d hd
  obtain ⟨i, hi, rfl⟩ := mem_rangeI hd
  show lts (l.getD i "") (l.getD (i + 1) "") = true
  rw [getD_mem (by omega), getD_mem (by omega)]
  exact List.pairwise_iff_getElem.mp h i (i + 1) (by omega) (by omega) (by omega)
theorem ris_false {l : List Str} {i : Nat} (hi : i + 1 < l.length) (h : lts (l.getD i "") (l.getD (i + 1) "") = false) : (rangeD 0 ((l.length : Int) - 1)).all (rsD l) = false := by
  rw [List.all_eq_false]
  refine ⟨.int (i : Int), ?_, ?_⟩
  · simp only [rangeD, List.mem_map, List.mem_range]
    exact ⟨i, by omega, by simp⟩
  · rw [show rsD l (.int (i : Int)) = lts (l.getD i "") (l.getD (i + 1) "") from rfl, h]; decide
/-! ### a note's names -/
theorem set_no (k : Nat) {d : D} (h : isiD [(.fz, d), (.fz, .ty "tuple")] = some (.fz, .bl false)) : (WT TT (k + 1)).Φ "is_name_set" [d] = .ok .fz (.bl false) := by
  rw [u_is_name_set]
  refine phi_ok rfl ?_
  show evB _ b_is_name_set [some (false, d)] = _
  simp [b_is_name_set, h, Ty.id]
def nmD : D → Bool
  | .str z => nameB z
  | _ => false
/-- a tuple: names all, and rising -/
theorem set_tup (k : Nat) {ds : List D} (hl : ds.length ≤ 100) (hd : ∀ d ∈ ds, (∃ z, d = .str z) ∨ isiD [(.fz, d), (.fz, .ty "str")] = some (.fz, .bl false) ∧ nmD d = false) {b : Bool} (hb : ds.all nmD = true → (WT TT (k + 2)).Φ "is_rising" [.tup ds] = .ok .fz (.bl b)) :
    (WT TT (k + 3)).Φ "is_name_set" [.tup ds] = .ok .fz (.bl (ds.all nmD && b)) := by
  rw [u_is_name_set]
  refine phi_ok rfl ?_
  show evB _ b_is_name_set [some (false, .tup ds)] = _
  have it : isiD [(.fz, .tup ds), (.fz, .ty "tuple")] = some (.fz, .bl true) := rfl
  have ii : itemsR (.ok .fz (.tup ds)) = .ok .fz (.lst ds) := rfl
  have ec : compR (.ok .fz (.lst ds)) [some (false, .tup ds)] [] 1 (setG (.nm 0)) (fun ρ => evF (WT TT (k + 2)) [] ρ) (fun ρ => evE (WT TT (k + 2)) (.call "is_name" 1 [(.var 0)]) ρ) = .ok .fr (.lst (ds.map fun d => .bl (nmD d))) := by
    refine compR_map _ (by have : sizeLine = 16777216 := sizeLine_eq; omega) fun d h => ?_
    refine ⟨[some (false, d)], .fz, rfl, by simp, .fz, ?_⟩
    rcases hd d h with ⟨z, rfl⟩ | ⟨h1, h2⟩
    · have := call1 (is_name_str k (z := z))
      rw [show nmD (.str z) = nameB z from rfl]
      simp [this]
    · have := call1 (is_name_no k h1)
      rw [h2]
      simp [this]
  have ea := all_map (m := .fr) (f := nmD) (ds := ds)
  cases q : ds.all nmD with
  | false =>
    rw [q] at ea
    generalize ds.map (fun d => D.bl (nmD d)) = Z at *
    generalize D.tup ds = A at *
    simp at ec
    simp [b_is_name_set, it, ii, ec, ea, Ty.id]
  | true =>
    have r := call1 (hb q)
    rw [q] at ea
    generalize ds.map (fun d => D.bl (nmD d)) = Z at *
    generalize D.tup ds = A at *
    simp at ec
    simp [b_is_name_set, it, ii, ec, ea, r, Ty.id]
end K06

namespace K06
open PySem L2 D3
theorem holds_of (k : Nat) {d : D} {b : Bool} (n : isNonD d = false) (h : (WT TT k).Φ "is_name_set" [d] = .ok .fz (.bl b)) : (WT TT (k + 1)).Φ "Voices.holds" [vo, d] = .ok .fz (.bl b) := by
  rw [u_Voices_holds]
  refine phi_ok rfl ?_
  show evB _ b_Voices_holds [some (false, vo), some (false, d)] = _
  have c := call1 h
  cases b <;> simp [b_Voices_holds, n, c]
theorem holds_non (k : Nat) : (WT TT (k + 1)).Φ "Voices.holds" [vo, .non] = .ok .fz (.bl true) := by
  rw [u_Voices_holds]
  refine phi_ok rfl ?_
  show evB _ b_Voices_holds [some (false, vo), some (false, .non)] = _
  simp [b_Voices_holds]
/-- names all -/
def Nm (l : List Str) : Prop := ∀ x ∈ l, nameB x = true
theorem all_nm {l : List Str} : (l.map D.str).all nmD = l.all nameB := by
  rw [List.all_map]; rfl
theorem set_tx (k : Nat) {l : List Str} (hl : l.length ≤ 100) : (WT TT (k + 3)).Φ "is_name_set" [tx l] = .ok .fz (.bl (l.all nameB && (rangeD 0 ((l.length : Int) - 1)).all (rsD l))) := by
  rw [← all_nm]
  exact set_tup k (by simpa using hl) (fun d hd => by obtain ⟨z, _, rfl⟩ := List.mem_map.mp hd; exact .inl ⟨z, rfl⟩) fun _ => rising (k + 1) hl
theorem holds_note (k : Nat) {pool : List Str} (hn : Nm pool) {a : Option (List Str)} (ha : Nt pool a) : (WT TT (k + 4)).Φ "Voices.holds" [vo, nd a] = .ok .fz (.bl true) := by
  cases a with
  | none => exact holds_non (k + 3)
  | some l =>
    obtain ⟨h1, h2, h3⟩ := ha l rfl
    have := set_tx k (l := l) (by omega)
    rw [ris_true h1, show l.all nameB = true from List.all_eq_true.mpr fun x hx => hn x (h2 x hx)] at this
    exact holds_of (k + 3) rfl this
/-! what is no note -/
def Odd (k : Nat) (d : D) : Prop := isNonD d = false ∧ (WT TT (k + 3)).Φ "is_name_set" [d] = .ok .fz (.bl false)
theorem odd_lst (k : Nat) (ds : List D) : Odd k (.lst ds) := ⟨rfl, set_no (k + 2) rfl⟩
theorem odd_str (k : Nat) (z : Str) : Odd k (.str z) := ⟨rfl, set_no (k + 2) rfl⟩
theorem odd_int (k : Nat) (i : Int) : Odd k (.int i) := ⟨rfl, set_no (k + 2) rfl⟩
theorem odd_bl (k : Nat) (b : Bool) : Odd k (.bl b) := ⟨rfl, set_no (k + 2) rfl⟩
theorem odd_fall (k : Nat) {l : List Str} {i : Nat} (hl : l.length ≤ 100) (hi : i + 1 < l.length) (h : lts (l.getD i "") (l.getD (i + 1) "") = false) : Odd k (tx l) := by
  refine ⟨rfl, ?_⟩
  have := set_tx k hl
  rw [ris_false hi h, Bool.and_false] at this
  exact this
theorem odd_name (k : Nat) {l : List Str} {x : Str} (hl : l.length ≤ 100) (hx : x ∈ l) (h : nameB x = false) : Odd k (tx l) := by
  refine ⟨rfl, ?_⟩
  have := set_tx k hl
  rw [show l.all nameB = false from by rw [List.all_eq_false]; exact ⟨x, hx, by rw [h]; decide⟩, Bool.false_and] at this
  exact this
theorem odd_a3 (k : Nat) : Odd k (.tup [.str "a", .int 3]) := by
  refine ⟨rfl, ?_⟩
  have := set_tup k (ds := [.str "a", .int 3]) (b := true) (by decide) (fun d hd => ?_) (fun h => ?_)
  · rw [show ([D.str "a", .int 3].all nmD) = false from by simp [nmD]] at this
    exact this
  · simp only [List.mem_cons, List.not_mem_nil, or_false] at hd
    rcases hd with rfl | rfl
    · exact .inl ⟨_, rfl⟩
    · exact .inr ⟨rfl, rfl⟩
  · simp [nmD] at h
end K06

namespace K06
open PySem L2 D3
theorem cut_to {ds : List D} {n : Nat} (h : n ≤ ds.length) : cutD ds none (some (n : Int)) = ds.take n := by
  unfold cutD
  rw [HT.sIx_none, HT.sIx_nat, Nat.min_eq_left h]
  simp
theorem cut_from {ds : List D} {n : Nat} (h : n ≤ ds.length) : cutD ds (some (n : Int)) none = ds.drop n := by
  unfold cutD
  rw [HT.sIx_none, HT.sIx_nat, Nat.min_eq_left h, List.take_of_length_le (by simp)]
theorem sl_to {W : WD} {e : E} {ρ : Rho} {l : List Str} {n : Nat} {m m' : Md} (h : n ≤ l.length) (he : evE W e ρ = .ok m' (.int (n : Int))) : slP (.ok m (lx l)) none (some (evE W e)) ρ = .ok .fr (lx (l.take n)) := by
  show (evE W e ρ).thn (fun _ d => match d with | .int i => .ok .fr (.lst (cutD (l.map D.str) none (some i))) | _ => .stuck) = _
  rw [he, Res.thn_ok]
  dsimp only
  rw [cut_to (by simpa using h), ← List.map_take]
theorem sl_from {W : WD} {e : E} {ρ : Rho} {l : List Str} {n : Nat} {m m' : Md} (h : n ≤ l.length) (he : evE W e ρ = .ok m' (.int (n : Int))) : slP (.ok m (lx l)) (some (evE W e)) none ρ = .ok .fr (lx (l.drop n)) := by
  show (evE W e ρ).thn (fun _ d => match d with | .int i => .ok .fr (.lst (cutD (l.map D.str) (some i) none)) | _ => .stuck) = _
  rw [he, Res.thn_ok]
  dsimp only
  rw [cut_from (by simpa using h), ← List.map_drop]
theorem cat_lx {a b : List Str} {m m' : Md} (h : a.length + b.length ≤ 1000) : op2 (fBin .Add) (.ok m (lx a)) (.ok m' (lx b)) = .ok .fr (lx (a ++ b)) := by
  rw [x_catL (by have : sizeLine = 16777216 := sizeLine_eq; simp; omega)]
  simp
theorem ix_lx {l : List Str} {i : Nat} (h : i < l.length) {m m' : Md} : op2 ixD (.ok m (lx l)) (.ok m' (.int (i : Int))) = .ok .fz (.str (l.getD i "")) := by
  refine ix_l ?_
  exact atI_nat (by rw [List.getElem?_map, List.getElem?_eq_getElem h]; simp [h])
/-- the eight that stand at first -/
def eight (l : List Str) (j : Nat) : List D := [lx l, tx l.reverse, tx (l.take (j + 1) ++ l.drop j), .tup [.str ""], .tup [.str "a", .int 3], .str (l.getD j ""), .int 0, .bl true]
theorem odd_eight (k : Nat) {l : List Str} (hl : l.length = 5) {j : Nat} (hj : j < 5) {s : Option (Bool × D)} {c : Int} :
    evB (WT TT k) ((b__law_odd.drop 1).take 1) [some (false, lx l), some (false, .int c), some (false, .int (j : Int)), none, none] = .nx [some (false, lx l), some (false, .int c), some (false, .int (j : Int)), some (true, .lst (eight l j)), none] := by
  have s1 := sl_to (W := WT TT k) (e := .bin .Add (.var 2) (.int 1)) (ρ := [some (false, lx l), some (false, .int c), some (false, .int (j : Int)), none, none]) (l := l) (n := j + 1) (m := .fz) (m' := .fz) (by omega) (by simp)
  have s2 := sl_from (W := WT TT k) (e := .var 2) (ρ := [some (false, lx l), some (false, .int c), some (false, .int (j : Int)), none, none]) (l := l) (n := j) (m := .fz) (m' := .fz) (by omega) (by simp)
  have c1 := cat_lx (a := l.take (j + 1)) (b := l.drop j) (m := .fr) (m' := .fr) (by simp; omega)
  have x1 := ix_lx (l := l) (i := j) (m := .fz) (m' := .fz) (by omega)
  have t1 : tcList [(.fz, lx l)] = some (.fr, lx l) := rfl
  have t2 : tcTuple [(.fr, lx (l.take (j + 1) ++ l.drop j))] = some (.fz, tx (l.take (j + 1) ++ l.drop j)) := rfl
  have r1 : revR (.ok .fz (lx l)) = .ok .fz (tx l.reverse) := by
    show Res.ok Md.fz (.tup (l.map D.str).reverse) = _
    rw [← List.map_reverse]
  have f1 : frzR (.ok .fr (lx l)) = .ok .fz (lx l) := rfl
  have e3 : tupR (.ok [(.fz, .str "")]) = .ok .fz (.tup [.str ""]) := rfl
  have e4 : tupR (.ok [(.fz, .str "a"), (.fz, .int 3)]) = .ok .fz (.tup [.str "a", .int 3]) := rfl
  unfold eight
  generalize tx (l.take (j + 1) ++ l.drop j) = A2 at *
  generalize lx (l.take (j + 1) ++ l.drop j) = B2 at *
  generalize lx (l.take (j + 1)) = B3 at *
  generalize lx (l.drop j) = B4 at *
  generalize tx l.reverse = A1 at *
  generalize lx l = P at *
  generalize l.getD j "" = X at *
  have el : lstR (.ok [(.fz, P), (.fz, A1), (.fz, A2), (.fz, .tup [.str ""]), (.fz, .tup [.str "a", .int 3]), (.fz, .str X), (.fz, .int 0), (.fz, .bl true)]) = .ok .fr (.lst [P, A1, A2, .tup [.str ""], .tup [.str "a", .int 3], .str X, .int 0, .bl true]) := rfl
  simp [b__law_odd, s1, s2, c1, x1, t1, t2, r1, f1, e3, e4, Ty.f, el]
def signs : List Nat := (Str.ofString "A-_ .+*~").cps.toList
def last (l : List Str) (j : Nat) (sg : Str) : List Str := l.take j ++ [l.getD j "" ++ sg ++ "a"] ++ l.drop (j + 1)
theorem odd_tail (k : Nat) {l : List Str} (hl : l.length = 5) {j : Nat} (hj : j < 5) (hX : (l.getD j "").length ≤ 40) (c : Int) :
    ∃ sg ∈ signs, ∃ d ∈ eight l j ++ [tx (last l j ⟨#[sg]⟩)], evB (WT TT (k + 1)) (b__law_odd.drop 2) [some (false, lx l), some (false, .int c), some (false, .int (j : Int)), some (true, .lst (eight l j)), none] = .rt .fz d := by
  have m21 := Mx k (c := c) (p := 21) (by decide) (by decide)
  have m22 := Mx k (c := c) (p := 22) (by decide) (by decide)
  obtain ⟨sg, hsg, es⟩ := atI_mod signs (mx c 22) 8 (by decide) (by decide)
  have xs : op2 ixD (.ok .fz (.str "A-_ .+*~")) (.ok .fz (.int (mx c 22 % 8))) = .ok .fz (.str ⟨#[sg]⟩) := ix_s es
  obtain ⟨d, hd, ed⟩ := atI_mod (eight l j ++ [tx (last l j ⟨#[sg]⟩)]) (mx c 21) 9 (by simp [eight]) (by decide)
  have xd : op2 ixD (.ok .fz (.lst (eight l j ++ [tx (last l j ⟨#[sg]⟩)]))) (.ok .fz (.int (mx c 21 % 9))) = .ok .fz d := ix_l ed
  refine ⟨sg, hsg, d, hd, ?_⟩
  have hs1 : (⟨#[sg]⟩ : Str).length = 1 := rfl
  have x1 := ix_lx (l := l) (i := j) (m := .fz) (m' := .fz) (by omega)
  have a1 := add_s (x := l.getD j "") (y := ⟨#[sg]⟩) (m := .fz) (m' := .fz) (by omega)
  have a2 := add_s (x := l.getD j "" ++ ⟨#[sg]⟩) (y := "a") (m := .fz) (m' := .fz) (by rw [PySem.Str.length_append]; have : (("a" : Str).length : Nat) = 1 := rfl; omega)
  have s1 := sl_to (W := WT TT (k + 1)) (e := .var 2) (ρ := [some (false, lx l), some (false, .int c), some (false, .int (j : Int)), some (true, .lst (eight l j)), some (false, .str ⟨#[sg]⟩)]) (l := l) (n := j) (m := .fz) (m' := .fz) (by omega) (by simp)
  have s2 := sl_from (W := WT TT (k + 1)) (e := .bin .Add (.var 2) (.int 1)) (ρ := [some (false, lx l), some (false, .int c), some (false, .int (j : Int)), some (true, .lst (eight l j)), some (false, .str ⟨#[sg]⟩)]) (l := l) (n := j + 1) (m := .fz) (m' := .fz) (by omega) (by simp)
  have c1 := cat_lx (a := l.take j) (b := [l.getD j "" ++ ⟨#[sg]⟩ ++ "a"]) (m := .fr) (m' := .fr) (by simp; omega)
  have c2 := cat_lx (a := l.take j ++ [l.getD j "" ++ ⟨#[sg]⟩ ++ "a"]) (b := l.drop (j + 1)) (m := .fr) (m' := .fr) (by simp; omega)
  have t2 : tcTuple [(.fr, lx (last l j ⟨#[sg]⟩))] = some (.fz, tx (last l j ⟨#[sg]⟩)) := rfl
  have el : lstR (.ok [(.fz, .str (l.getD j "" ++ ⟨#[sg]⟩ ++ "a"))]) = .ok .fr (lx [l.getD j "" ++ ⟨#[sg]⟩ ++ "a"]) := rfl
  have c2' : op2 (fBin .Add) (.ok .fr (lx (l.take j ++ [l.getD j "" ++ ⟨#[sg]⟩ ++ "a"]))) (.ok .fr (lx (l.drop (j + 1)))) = .ok .fr (lx (last l j ⟨#[sg]⟩)) := c2
  have ap : appS [some (false, lx l), some (false, .int c), some (false, .int (j : Int)), some (true, .lst (eight l j)), some (false, .str ⟨#[sg]⟩)] 3 (.ok .fz (tx (last l j ⟨#[sg]⟩))) = .nx [some (false, lx l), some (false, .int c), some (false, .int (j : Int)), some (true, .lst (eight l j ++ [tx (last l j ⟨#[sg]⟩)])), some (false, .str ⟨#[sg]⟩)] := by
    have hz : (eight l j).length < sizeLine := by have : sizeLine = 16777216 := sizeLine_eq; simp [eight]; omega
    exact (if_pos hz : (if (eight l j).length < sizeLine then SRes.nx [some (false, lx l), some (false, .int c), some (false, .int (j : Int)), some (true, .lst (eight l j ++ [tx (last l j ⟨#[sg]⟩)])), some (false, .str ⟨#[sg]⟩)] else .stuck) = _)
  have fv : frzS [some (false, lx l), some (false, .int c), some (false, .int (j : Int)), some (true, .lst (eight l j ++ [tx (last l j ⟨#[sg]⟩)])), some (false, .str ⟨#[sg]⟩)] 3 = .nx [some (false, lx l), some (false, .int c), some (false, .int (j : Int)), some (false, .lst (eight l j ++ [tx (last l j ⟨#[sg]⟩)])), some (false, .str ⟨#[sg]⟩)] := rfl
  generalize tx (last l j ⟨#[sg]⟩) = T8 at *
  generalize lx (last l j ⟨#[sg]⟩) = L8 at *
  generalize lx (l.take j ++ [l.getD j "" ++ ⟨#[sg]⟩ ++ "a"]) = B1 at *
  generalize lx [l.getD j "" ++ ⟨#[sg]⟩ ++ "a"] = B2 at *
  generalize lx (l.take j) = B3 at *
  generalize lx (l.drop (j + 1)) = B4 at *
  generalize lx l = P at *
  generalize eight l j = Z at *
  generalize l.getD j "" = X at *
  generalize (⟨#[sg]⟩ : Str) = SG at *
  simp [b__law_odd, m21, m22, xs, xd, x1, a1, a2, s1, s2, c1, c2', t2, el, Ty.f, ap, fv]
theorem odd_all (k : Nat) {l : List Str} (hl : l.length = 5) (hX : ∀ x ∈ l, x.length ≤ 40) (c : Int) :
    ∃ j, j < 5 ∧ ∃ sg ∈ signs, ∃ d ∈ eight l j ++ [tx (last l j ⟨#[sg]⟩)], (WT TT (k + 2)).Φ "_law_odd" [lx l, .int c] = .ok .fz d := by
  have m20 := Mx k (c := c) (p := 20) (by decide) (by decide)
  have h0 := Int.emod_nonneg (mx c 20) (show (5 : Int) ≠ 0 by decide)
  have h1 := Int.emod_lt_of_pos (mx c 20) (show (0 : Int) < 5 by decide)
  obtain ⟨j, hj⟩ := Int.eq_ofNat_of_zero_le h0
  have hj5 : j < 5 := by omega
  obtain ⟨sg, hsg, d, hd, e⟩ := odd_tail k hl hj5 (hX _ (by rw [getD_mem (by omega)]; exact List.getElem_mem _)) c
  refine ⟨j, hj5, sg, hsg, d, hd, ?_⟩
  rw [u__law_odd]
  refine phi_ok rfl ?_
  show evB (WT TT (k + 1)) b__law_odd [some (false, lx l), some (false, .int c), none, none, none] = _
  have ea : b__law_odd = b__law_odd.take 1 ++ ((b__law_odd.drop 1).take 1 ++ b__law_odd.drop 2) := rfl
  have e1 : evB (WT TT (k + 1)) (b__law_odd.take 1) [some (false, lx l), some (false, .int c), none, none, none] = .nx [some (false, lx l), some (false, .int c), some (false, .int (j : Int)), none, none] := by
    have el : lenD [(.fz, lx l)] = some (.fz, .int 5) := by show some (Md.fz, D.int ((l.map D.str).length : Nat)) = _; simp [hl]
    generalize lx l = P at *
    simp [b__law_odd, m20, el, hj]
  rw [ea, b_app, e1, SRes.thn_nx, b_app, odd_eight (k + 1) hl hj5 (s := none), SRes.thn_nx]
  exact e
end K06

namespace K06
open PySem L2 D3
theorem sg_no : ∀ c ∈ signs, nameSign (.str ⟨#[c]⟩) = false := by decide +kernel
theorem no_name {x y : Str} {sg : Nat} (h : sg ∈ signs) : nameB (x ++ ⟨#[sg]⟩ ++ y) = false := by
  have : (charsD (x ++ ⟨#[sg]⟩ ++ y)).all nameSign = false := by
    rw [List.all_eq_false]
    refine ⟨.str ⟨#[sg]⟩, ?_, by rw [sg_no sg h]; decide⟩
    simp only [charsD, List.mem_map]
    refine ⟨sg, ?_, rfl⟩
    rw [PySem.Str.cps_append, PySem.Str.cps_append]
    simp
  unfold nameB
  rw [this]
  simp
theorem name_len {x : Str} (h : nameB x = true) : 1 ≤ x.length ∧ x.length ≤ 40 := by
  unfold nameB at h
  simp at h
  omega
theorem odd_last (k : Nat) {l : List Str} (hl : l.length = 5) {j : Nat} (hj : j < 5) {sg : Nat} (hg : sg ∈ signs) : Odd k (tx (last l j ⟨#[sg]⟩)) := by
  have hx := no_name (x := l.getD j "") (y := "a") hg
  unfold last
  generalize l.getD j "" ++ ⟨#[sg]⟩ ++ "a" = X at *
  exact odd_name k (x := X) (by simp only [List.length_append, List.length_take, List.length_drop, List.length_cons, List.length_nil]; omega) (by simp) hx
theorem odd_mem (k : Nat) {l : List Str} (hs : Strict l) (hl : l.length = 5) {j : Nat} (hj : j < 5) {sg : Nat} (hg : sg ∈ signs) {d : D} (hd : d ∈ eight l j ++ [tx (last l j ⟨#[sg]⟩)]) : Odd k d := by
  simp only [eight, List.cons_append, List.nil_append, List.mem_cons, List.not_mem_nil, or_false] at hd
  rcases hd with rfl | rfl | rfl | rfl | rfl | rfl | rfl | rfl | rfl
  · exact odd_lst k _
  · refine odd_fall k (i := 0) (by simp [hl]) (by simp [hl]) ?_
    rw [getD_mem (by simp [hl]), getD_mem (by simp [hl]), List.getElem_reverse, List.getElem_reverse]
    have h1 := List.pairwise_iff_getElem.mp hs (l.length - 1 - 1) (l.length - 1 - 0) (by omega) (by omega) (by omega)
    cases q : lts l[l.length - 1 - 0] l[l.length - 1 - (0 + 1)] with
    | false => rfl
    | true => have := lts_trans q h1; rw [lts_irr] at this; cases this
  · refine odd_fall k (i := j) (by simp; omega) (by simp; omega) ?_
    have e1 : (l.take (j + 1) ++ l.drop j).getD j "" = l.getD j "" := by
      rw [List.getD_eq_getElem?_getD, List.getD_eq_getElem?_getD, List.getElem?_append_left (by simp; omega), List.getElem?_take_of_lt (by omega)]
    have e2 : (l.take (j + 1) ++ l.drop j).getD (j + 1) "" = l.getD j "" := by
      rw [List.getD_eq_getElem?_getD, List.getD_eq_getElem?_getD, List.getElem?_append_right (by simp; omega), List.getElem?_drop]
      congr 2
      simp; omega
    rw [e1, e2, lts_irr]
  · exact odd_name k (l := [""]) (x := "") (by decide) (by simp) (by decide +kernel)
  · exact odd_a3 k
  · exact odd_str k _
  · exact odd_int k _
  · exact odd_bl k _
  · exact odd_last k hl hj hg
/-- the turn of a cell -/
def Pool (l : List Str) : Prop := Strict l ∧ l.length = 5 ∧ Nm l
theorem nt_note {l : List Str} (h : Pool l) (c p : Int) : ∃ a, noteD l c p = nd a ∧ Nt l a := by
  unfold noteD
  split
  · exact ⟨none, rfl, fun l e => by cases e⟩
  · refine ⟨some (pick c p 0 l), rfl, fun l' e => ?_⟩
    cases e
    exact ⟨List.Pairwise.sublist pick_sub h.1, fun x hx => pick_sub.subset hx, by rw [← h.2.1]; exact pick_sub.length_le⟩
theorem len_sum : ∀ {l : List Str}, (∀ x ∈ l, x.length ≤ 40) → (l.map (·.length)).sum ≤ 40 * l.length
  | [], _ => by simp
  | x :: l, h => by
    have := len_sum fun y hy => h y (List.mem_cons_of_mem _ hy)
    have := h x List.mem_cons_self
    simp only [List.map_cons, List.sum_cons, List.length_cons]
    omega
theorem note_len {l : List Str} (h : Pool l) {a : Option (List Str)} (ha : Nt l a) : ∀ l', a = some l' → (l'.map (·.length)).sum + l'.length ≤ 1000 := fun l' e => by
  obtain ⟨_, h2, h3⟩ := ha l' e
  have := len_sum (l := l') fun x hx => (name_len (h.2.2 x (h2 x hx))).2
  omega
end K06

namespace K06
open PySem L2 D3
theorem t_pre (k : Nat) {l : List Str} (hl : l.length ≤ 5) {ns : List Int} {i : Nat} (hi : i < ns.length) (x y : Option (Bool × D)) : ∃ c c', 
    evB (WT TT (k + 2)) (b_law_L1.take 2) [some (false, .lst (ns.map .int)), some (false, vo), some (false, lx l), some (false, .int (i : Int)), x, y] = .nx [some (false, .lst (ns.map .int)), some (false, vo), some (false, lx l), some (false, .int (i : Int)), some (false, noteD l c 10), some (false, noteD l c' 30)] ∧ op2 ixD (.ok .fz (.lst (ns.map .int))) (.ok .fz (.int (i : Int))) = .ok .fz (.int c) := by
  obtain ⟨c, e1⟩ := script_at (ns := ns) hi (m := .fz) (m' := .fz)
  obtain ⟨c', e2⟩ := script_mod (ns := ns) (i := (i : Int) + 1) (by omega) (m := .fz) (m' := .fz)
  refine ⟨c, c', ?_, e1⟩
  have n1 := call3 (note k l hl c (p := 10) (by decide) (by decide))
  have n2 := call3 (note k l hl c' (p := 30) (by decide) (by decide))
  have ll : lenD [(.fz, .lst (ns.map D.int))] = some (.fz, .int (ns.length : Int)) := by show some (Md.fz, D.int ((ns.map D.int).length : Nat)) = _; simp
  have hp : (0 : Int) < (ns.length : Int) := by omega
  have md : op2 (fBin .Mod) (.ok .fz (.int ((i : Int) + 1))) (.ok .fz (.int (ns.length : Int))) = .ok .fz (.int (((i : Int) + 1) % (ns.length : Int))) := x_mod hp
  generalize noteD l c 10 = A at *
  generalize noteD l c' 30 = B at *
  generalize lx l = P at *
  generalize D.lst (ns.map D.int) = S at *
  generalize ((i : Int) + 1) % (ns.length : Int) = Q at *
  generalize (ns.length : Int) = N at *
  generalize vo = V at *
  simp [b_law_L1, e1, e2, n1, n2, ll, md]
theorem t_met (k : Nat) {S V P I A B T : D} (h1 : callF 4 ((WT TT k).Φ "_law_met") (.ok [(.fz, V), (.fz, P), (.fz, A), (.fz, B)]) = .ok .fz (.bl true)) (h2 : methR TT.cl (WT TT k).Φ "shown" (.ok .fz V) (.ok [(.fz, A)]) = .ok .fz T)
    (h3 : callF 2 ((WT TT k).Φ "_law_shown") (.ok [(.fz, T), (.fz, A)]) = .ok .fz (.bl true)) :
    evB (WT TT k) ((b_law_L1.drop 2).take 1) [some (false, S), some (false, V), some (false, P), some (false, I), some (false, A), some (false, B)] = .nx [some (false, S), some (false, V), some (false, P), some (false, I), some (false, A), some (false, B)] := by
  simp [b_law_L1, h1, h2, h3]
theorem t_told (k : Nat) {S V P I A B O : D} {c : Int} (h0 : op2 ixD (.ok .fz S) (.ok .fz I) = .ok .fz (.int c)) (h1 : methR TT.cl (WT TT k).Φ "holds" (.ok .fz V) (.ok [(.fz, A)]) = .ok .fz (.bl true)) (h2 : callF 2 ((WT TT k).Φ "_law_odd") (.ok [(.fz, P), (.fz, .int c)]) = .ok .fz O)
    (h3 : methR TT.cl (WT TT k).Φ "holds" (.ok .fz V) (.ok [(.fz, O)]) = .ok .fz (.bl false)) (h4 : ∀ b : Bool, callF 2 ((WT TT k).Φ "_law_told") (.ok [(.fz, .bl b), (.fz, .bl b)]) = .ok .fz (.bl true)) :
    evB (WT TT k) (b_law_L1.drop 3) [some (false, S), some (false, V), some (false, P), some (false, I), some (false, A), some (false, B)] = .nx [some (false, S), some (false, V), some (false, P), some (false, I), some (false, A), some (false, B)] := by
  have t1 := h4 true
  have t2 := h4 false
  simp [b_law_L1, h0, h1, h2, h3, t1, t2]
theorem turn (k : Nat) {l : List Str} (P : Pool l) {ns : List Int} {i : Nat} (hi : i < ns.length) (x y : Option (Bool × D)) : ∃ x' y',
    evB (WT TT (k + 5)) b_law_L1 [some (false, .lst (ns.map .int)), some (false, vo), some (false, lx l), some (false, .int (i : Int)), x, y] = .nx [some (false, .lst (ns.map .int)), some (false, vo), some (false, lx l), some (false, .int (i : Int)), x', y'] := by
  obtain ⟨c, c', e1, e0⟩ := t_pre (k + 3) (l := l) (by have := P.2.1; omega) hi x y
  obtain ⟨a, ea, ha⟩ := nt_note P c 10
  obtain ⟨b, eb, hb⟩ := nt_note P c' 30
  rw [ea, eb] at e1
  refine ⟨some (false, nd a), some (false, nd b), ?_⟩
  have ee : b_law_L1 = b_law_L1.take 2 ++ ((b_law_L1.drop 2).take 1 ++ b_law_L1.drop 3) := rfl
  obtain ⟨j, hj, sg, hsg, d, hd, eo⟩ := odd_all (k + 3) (l := l) P.2.1 (fun z hz => (name_len (P.2.2 z hz)).2) c
  obtain ⟨o1, o2⟩ := odd_mem (k + 1) P.1 P.2.1 hj hsg hd
  have c1 : callF 4 ((WT TT (k + 5)).Φ "_law_met") (.ok [(.fz, vo), (.fz, lx l), (.fz, nd a), (.fz, nd b)]) = .ok .fz (.bl true) := callF_ok (ds := [vo, lx l, nd a, nd b]) rfl rfl (met (k + 2) P.1 (by have := P.2.1; omega) ha hb)
  have c2 : methR TT.cl (WT TT (k + 5)).Φ "shown" (.ok .fz vo) (.ok [(.fz, nd a)]) = .ok .fz (.str (shT a)) := by
    rw [methV (m := "shown") (key := "Voices.shown") (n := 2) rfl]
    exact call2 (v_shown (k + 4) (note_len P ha))
  have c3 := call2 (law_sh (k + 4) (note_len P ha))
  have c4 : methR TT.cl (WT TT (k + 5)).Φ "holds" (.ok .fz vo) (.ok [(.fz, nd a)]) = .ok .fz (.bl true) := by
    rw [methV (m := "holds") (key := "Voices.holds") (n := 2) rfl]
    exact call2 (holds_note (k + 1) P.2.2 ha)
  have c5 := call2 eo
  have c6 : methR TT.cl (WT TT (k + 5)).Φ "holds" (.ok .fz vo) (.ok [(.fz, d)]) = .ok .fz (.bl false) := by
    rw [methV (m := "holds") (key := "Voices.holds") (n := 2) rfl]
    exact call2 (holds_of (k + 4) o1 o2)
  rw [ee, b_app, e1, SRes.thn_nx, b_app, t_met (k + 5) c1 c2 c3, SRes.thn_nx]
  exact t_told (k + 5) e0 c4 c5 c6 fun b => call2 (told (k + 4) b)
theorem loop (k : Nat) {l : List Str} (P : Pool l) {ns : List Int} (hn : ns.length ≤ 63) : ∃ u v w,
    forR (rng1R (.ok [(.fz, .int (ns.length : Int))])) [some (false, .lst (ns.map .int)), some (false, vo), some (false, lx l), none, none, none] (setG (.nm 3)) (evB (WT TT (k + 5)) b_law_L1) = .nx [some (false, .lst (ns.map .int)), some (false, vo), some (false, lx l), u, v, w] := by
  rw [rng_len hn]
  obtain ⟨ρ', e, u, v, w, rfl⟩ := forR_inv (m := .fz) (ds := rangeD 0 (ns.length : Int)) (k := setG (.nm 3)) (body := evB (WT TT (k + 5)) b_law_L1) (ρ := [some (false, .lst (ns.map .int)), some (false, vo), some (false, lx l), none, none, none])
    (fun ρ => ∃ u v w, ρ = [some (false, .lst (ns.map .int)), some (false, vo), some (false, lx l), u, v, w]) (fun d hd ρ hρ => by
      obtain ⟨u, v, w, rfl⟩ := hρ
      obtain ⟨i, hi, rfl⟩ := mem_range hd
      obtain ⟨x, y, e⟩ := turn k P hi v w
      exact ⟨_, _, rfl, .inl e, _, _, _, rfl⟩) ⟨_, _, _, rfl⟩
  exact ⟨u, v, w, e⟩
end K06

namespace K06
open PySem L2 D3
theorem one_of (k : Nat) : (WT TT (k + 1)).Φ "Voices.one" [vo] = .ok .fz (tx []) := by
  rw [u_Voices_one]
  refine phi_ok rfl ?_
  show evB _ b_Voices_one [some (false, vo)] = _
  have e0 : tupR (.ok []) = .ok .fz (tx []) := rfl
  simp [b_Voices_one, e0]
theorem nought_of (k : Nat) : (WT TT (k + 1)).Φ "Voices.nought" [vo] = .ok .fz .non := by
  rw [u_Voices_nought]
  refine phi_ok rfl ?_
  show evB _ b_Voices_nought [some (false, vo)] = _
  simp [b_Voices_nought]
/-- the first cell, or 0 -/
def c0 (ns : List Int) : Int := (ns.take 1).headD 0
theorem sum_cut (W : WD) (ns : List Int) (ρ : Rho) {m : Md} : callR sumD (consL (slP (.ok m (.lst (ns.map D.int))) none (some (evE W (.int 1))) ρ) (.ok [])) = .ok .fz (.int (c0 ns)) := by
  cases ns with
  | nil => rfl
  | cons n ns =>
    have e : cutD ((n :: ns).map D.int) none (some 1) = [D.int n] := by
      have := cut_to (ds := (n :: ns).map D.int) (n := 1) (by simp)
      simpa using this
    have e1 : slP (.ok m (.lst ((n :: ns).map D.int))) none (some (evE W (.int 1))) ρ = .ok .fr (.lst [D.int n]) := by
      show Res.ok Md.fr (.lst (cutD ((n :: ns).map D.int) none (some 1))) = _
      rw [e]
    rw [e1]
    rfl
theorem callG {n : Nat} {Φ : List D → Res} {xs : List (Md × D)} {ds : List D} {d : D} (hl : ds.length = n) (ha : allFz xs = some ds) (h : Φ ds = .ok .fr d) : callF n Φ (.ok xs) = .ok .fr d := by
  show (match allFz xs with | some ds => if ds.length = n then (match Φ ds with | .ok .bo _ => Res.stuck | r => r) else .stuck | none => .stuck) = _
  rw [ha]
  show (if ds.length = n then (match Φ ds with | .ok .bo _ => Res.stuck | r => r) else .stuck) = _
  rw [if_pos hl, h]
theorem m_one (k : Nat) {S V E0 : D} (f0 : frzR (.ok .fr (.ins "Voices" [])) = .ok .fz V) (i1 : isoR TT.cl "Kind" (.ok .fz V) = .ok .fz (.bl true)) (i2 : isoR TT.cl "Single" (.ok .fz V) = .ok .fz (.bl true)) :
    evB (WT TT k) (b_law.take 2) [some (false, S), none, none, none, none, none] = .nx [some (false, S), some (false, V), none, none, none, none] := by
  simp [b_law, f0, i1, i2]
theorem m_two (k : Nat) {S V E0 : D} (m1 : methR TT.cl (WT TT k).Φ "nought" (.ok .fz V) (.ok []) = .ok .fz .non) (m2 : methR TT.cl (WT TT k).Φ "one" (.ok .fz V) (.ok []) = .ok .fz E0) (lk : callF 2 ((WT TT k).Φ "_law_like") (.ok [(.fz, E0), (.fz, E0)]) = .ok .fz (.bl true)) (e0 : tupR (.ok []) = .ok .fz E0) :
    evB (WT TT k) ((b_law.drop 2).take 1) [some (false, S), some (false, V), none, none, none, none] = .nx [some (false, S), some (false, V), none, none, none, none] := by
  simp [b_law, m1, m2, lk, e0]
theorem m_three (k : Nat) {S V Q : D} {Z : Int} (sc : callR sumD (consL (slP (.ok .fz S) none (some (evE (WT TT k) (.int 1))) [some (false, S), some (false, V), none, none, none, none]) (.ok [])) = .ok .fz (.int Z)) (cn : callF 2 ((WT TT k).Φ "_law_names") (.ok [(.fz, .int Z), (.fz, .int 5)]) = .ok .fr Q) (f1 : frzR (.ok .fr Q) = .ok .fz Q) :
    evB (WT TT k) ((b_law.drop 3).take 1) [some (false, S), some (false, V), none, none, none, none] = .nx [some (false, S), some (false, V), some (false, Q), none, none, none] := by
  simp [b_law, sc, cn, f1]
theorem m_four (k : Nat) {S V Q : D} {N : Int} {u v w : Option (Bool × D)} (ll : lenD [(.fz, S)] = some (.fz, .int N)) (el : forR (rng1R (.ok [(.fz, .int N)])) [some (false, S), some (false, V), some (false, Q), none, none, none] (setG (.nm 3)) (evB (WT TT k) b_law_L1) = .nx [some (false, S), some (false, V), some (false, Q), u, v, w]) :
    evB (WT TT k) (b_law.drop 4) [some (false, S), some (false, V), some (false, Q), none, none, none] = .rt .fz (.bl true) := by
  simp [b_law, ll, el]
theorem main_of (k : Nat) (ns : List Int) (hn : ns.length ≤ 63) {l : List Str} (P : Pool l) (h : (WT TT (k + 5)).Φ "_law_names" [.int (c0 ns), .int 5] = .ok .fr (lx l)) : (WT TT (k + 6)).Φ ("law" : Str) (lawIn ns) = .ok .fz (.bl true) := by
  rw [u_law]
  refine phi_ok rfl ?_
  show evB (WT TT (k + 5)) b_law [some (false, .lst (ns.map .int)), none, none, none, none, none] = _
  obtain ⟨u, v, w, el⟩ := loop k P hn
  have sc := sum_cut (WT TT (k + 5)) ns [some (false, .lst (ns.map .int)), some (false, vo), none, none, none, none] (m := .fz)
  have cn : callF 2 ((WT TT (k + 5)).Φ "_law_names") (.ok [(.fz, .int (c0 ns)), (.fz, .int 5)]) = .ok .fr (lx l) := callG (ds := [.int (c0 ns), .int 5]) rfl rfl h
  have m1 : methR TT.cl (WT TT (k + 5)).Φ "nought" (.ok .fz vo) (.ok []) = .ok .fz .non := by
    rw [methV (m := "nought") (key := "Voices.nought") (n := 1) rfl]
    exact call1 (nought_of (k + 4))
  have m2 : methR TT.cl (WT TT (k + 5)).Φ "one" (.ok .fz vo) (.ok []) = .ok .fz (tx []) := by
    rw [methV (m := "one") (key := "Voices.one") (n := 1) rfl]
    exact call1 (one_of (k + 4))
  have lk : callF 2 ((WT TT (k + 5)).Φ "_law_like") (.ok [(.fz, tx []), (.fz, tx [])]) = .ok .fz (.bl true) := call2 (like (k + 4) [] (by decide))
  have ll : lenD [(.fz, .lst (ns.map D.int))] = some (.fz, .int (ns.length : Int)) := by show some (Md.fz, D.int ((ns.map D.int).length : Nat)) = _; simp
  have ee : b_law = b_law.take 2 ++ ((b_law.drop 2).take 1 ++ ((b_law.drop 3).take 1 ++ b_law.drop 4)) := rfl
  rw [ee, b_app, m_one (k + 5) (V := vo) (E0 := .non) rfl rfl rfl, SRes.thn_nx, b_app, m_two (k + 5) m1 m2 lk rfl, SRes.thn_nx, b_app, m_three (k + 5) sc cn rfl, SRes.thn_nx]
  exact m_four (k + 5) ll el
end K06

namespace K06
open PySem L2 D3
/-! ### the pool of names -/
/-- the letter at v % 26 -/
def lt (v : Int) : Nat := letters.getD (v % 26).toNat 0
theorem lt_mem (v : Int) : lt v ∈ letters := by
  have h0 := Int.emod_nonneg v (show (26 : Int) ≠ 0 by decide)
  have h1 := Int.emod_lt_of_pos v (show (0 : Int) < 26 by decide)
  have hl : letters.length = 26 := by decide +kernel
  unfold lt
  have h2 : (v % 26).toNat < letters.length := by omega
  rw [List.getD_eq_getElem?_getD, List.getElem?_eq_getElem h2]
  exact List.getElem_mem h2
theorem lt_ix (v : Int) {m m' : Md} : op2 ixD (.ok m (.str "abcdefghijklmnopqrstuvwxyz")) (.ok m' (.int (v % 26))) = .ok .fz (.str ⟨#[lt v]⟩) := by
  have h0 := Int.emod_nonneg v (show (26 : Int) ≠ 0 by decide)
  have h1 := Int.emod_lt_of_pos v (show (0 : Int) < 26 by decide)
  have hl : letters.length = 26 := by decide +kernel
  obtain ⟨j, hj⟩ := Int.eq_ofNat_of_zero_le h0
  refine ix_s ?_
  show atI letters (v % 26) = some (lt v)
  unfold lt
  rw [hj]
  have h2 : j < letters.length := by omega
  rw [Int.toNat_natCast, List.getD_eq_getElem?_getD, List.getElem?_eq_getElem h2]
  exact atI_nat (List.getElem?_eq_getElem h2)
theorem join_one : ∀ (l : List Nat), Str.join "" (l.map fun x => (⟨#[x]⟩ : Str)) = ⟨l.toArray⟩
  | [] => rfl
  | [x] => rfl
  | x :: y :: l => by
    have ih := join_one (y :: l)
    show (⟨#[x]⟩ : Str) ++ "" ++ Str.join "" ((y :: l).map fun x => (⟨#[x]⟩ : Str)) = _
    rw [ih]
    refine PySem.Str.ext' ?_
    rw [PySem.Str.cps_append, PySem.Str.cps_append, show (Str.ofString "").cps = #[] from rfl]
    simp
theorem str_map : ∀ (l : List Nat), strsD (l.map fun x => D.str ⟨#[x]⟩) = some (l.map fun x => (⟨#[x]⟩ : Str))
  | [] => rfl
  | x :: l => by show (strsD (l.map _)).map _ = _; rw [str_map l]; rfl
theorem len_one : ∀ (l : List Nat), ((l.map fun x => (⟨#[x]⟩ : Str)).map (·.length)).sum = l.length
  | [] => rfl
  | x :: l => by simp only [List.map_cons, List.sum_cons, len_one l, List.length_cons]; show 1 + _ = _; omega
def stemL (c : Int) : List Nat := [lt (mx c 0), lt (mx c 1), lt (mx c 2), lt (mx c 3), lt (mx c 4)]
theorem stem (k : Nat) (c : Int) (ρ : Rho) (h0 : ρ[0]? = some (some (false, .int c))) (h2 : ρ[2]? = some (some (false, .str "abcdefghijklmnopqrstuvwxyz"))) :
    mthR "str" joinD (.ok .fz (.str "")) (consL (compR (.ok .fz (.lst (rangeD 0 5))) ρ [2, 0] 1 (setG (.nm 2)) (fun ρ => evF (WT TT (k + 1)) [] ρ) (fun ρ => evE (WT TT (k + 1)) (.ix (.var 0) (.bin .Mod (.call "_law_mix" 2 [(.var 1), (.var 2)]) (.int 26))) ρ)) (.ok [])) = .ok .fz (.str ⟨(stemL c).toArray⟩) := by
  have er : rangeD 0 5 = [.int 0, .int 1, .int 2, .int 3, .int 4] := rfl
  have ec : compR (.ok .fz (.lst (rangeD 0 5))) ρ [2, 0] 1 (setG (.nm 2)) (fun ρ => evF (WT TT (k + 1)) [] ρ) (fun ρ => evE (WT TT (k + 1)) (.ix (.var 0) (.bin .Mod (.call "_law_mix" 2 [(.var 1), (.var 2)]) (.int 26))) ρ) = .ok .fr (.lst ((stemL c).map fun x => D.str ⟨#[x]⟩)) := by
    have := compR_map (ρ := ρ) (caps := [2, 0]) (n := 1) (k := setG (.nm 2)) (t := fun ρ => evF (WT TT (k + 1)) [] ρ) (e := fun ρ => evE (WT TT (k + 1)) (.ix (.var 0) (.bin .Mod (.call "_law_mix" 2 [(.var 1), (.var 2)]) (.int 26))) ρ) (m := .fz) (ds := rangeD 0 5)
      (fun d => match d with | .int i => .str ⟨#[lt (mx c i)]⟩ | d => d) (by rw [er]; decide) (fun d hd => by
        obtain ⟨i, hi, rfl⟩ := mem_rangeI hd
        have m := Mx k (c := c) (p := i) (by omega) (by omega)
        have x := lt_ix (mx c i) (m := .fz) (m' := .fz)
        refine ⟨[some (false, .str "abcdefghijklmnopqrstuvwxyz"), some (false, .int c), some (false, .int i)], .fz, by simp [subR, h0, h2], by simp, .fz, ?_⟩
        simp [m, x])
    rw [this, er]
    rfl
  rw [ec]
  show (if isTyD "str" (.str "") = true then Res.of (joinD .fz (.str "") [(.fr, .lst ((stemL c).map fun x => D.str ⟨#[x]⟩))]) else .stuck) = _
  rw [if_pos (by decide)]
  show Res.of (match strsD ((stemL c).map fun x => D.str ⟨#[x]⟩) with | some ys => if (ys.map (·.length)).sum + ys.length * (Str.ofString "").length ≤ sizeLine then some (Md.fz, D.str (Txt.join (Str.ofString "") ys)) else none | none => none) = _
  rw [str_map]
  dsimp only
  rw [len_one, if_pos (by have : sizeLine = 16777216 := sizeLine_eq; have e : (Str.ofString "").length = 0 := rfl; rw [e]; simp [stemL]; omega), txt_join, show Str.join (Str.ofString "") ((stemL c).map fun x => (⟨#[x]⟩ : Str)) = ⟨(stemL c).toArray⟩ from join_one _]
  rfl
end K06

namespace K06
open PySem L2 D3
/-- a name, by its signs -/
theorem name_is {a : Nat} {l : List Nat} (ha : a ∈ letters) (hl : l.length ≤ 39) (h : ∀ x ∈ l, x ∈ signs36) : nameB ⟨(a :: l).toArray⟩ = true := by
  have h1 : (charsD ⟨(a :: l).toArray⟩).all nameSign = true := by
    rw [List.all_eq_true]
    intro d hd
    simp only [charsD, List.mem_map] at hd
    obtain ⟨x, hx, rfl⟩ := hd
    have hx : x ∈ a :: l := by simpa using hx
    rcases List.mem_cons.mp hx with rfl | hx
    · exact sg_in _ (let_sg _ ha)
    · exact sg_in _ (h x hx)
  have h2 : isIn (hd ⟨(a :: l).toArray⟩) (Str.ofString "abcdefghijklmnopqrstuvwxyz") = true := let_in a ha
  have h3 : (⟨(a :: l).toArray⟩ : Str).length = l.length + 1 := by simp [PySem.Str.length]
  unfold nameB
  rw [h1, h2, h3]
  simp
  omega
theorem stem_len (c : Int) : (stemL c).length = 5 := rfl
theorem stem_let (c : Int) : ∀ x ∈ stemL c, x ∈ letters := fun x hx => by
  simp only [stemL, List.mem_cons, List.not_mem_nil, or_false] at hx
  rcases hx with rfl | rfl | rfl | rfl | rfl <;> exact lt_mem _
/-- letters seven apart differ -/
theorem lt_apart : ∀ (s : Fin 26) (i j : Fin 5), i ≠ j → letters.getD ((s.1 + 7 * i.1) % 26) 0 ≠ letters.getD ((s.1 + 7 * j.1) % 26) 0 := by decide +kernel
end K06

namespace K06
open PySem L2 D3
abbrev st5 (f : Nat → List Nat) : List Str := (List.range 5).map fun j => ⟨(f j).toArray⟩
theorem nd_map {f : Nat → List Nat} (h : ∀ i j, i < 5 → j < 5 → i ≠ j → f i ≠ f j) : (st5 f).Nodup := by
  show List.Pairwise (· ≠ ·) _
  rw [List.pairwise_map]
  refine List.Pairwise.imp_of_mem (fun {a b} ha hb r e => ?_) (List.nodup_range (n := 5))
  have e1 : (f a).toArray = (f b).toArray := congrArg Str.cps e
  have e2 : f a = f b := by simpa using e1
  exact h a b (List.mem_range.mp ha) (List.mem_range.mp hb) r e2
def nA (s tl : List Nat) (t st j : Nat) : List Nat := s.take t ++ [letters.getD ((st + 7 * j) % 26) 0] ++ s.drop (t + 1) ++ tl
def nB (s : List Nat) (j : Nat) : List Nat := s ++ List.replicate j 57
def nC (s : List Nat) (st j : Nat) : List Nat := letters.getD ((st + 7 * j) % 26) 0 :: s.take ((st + j) % 4)
theorem let7 (v : Nat) : letters.getD (v % 26) 0 ∈ letters := by
  have hl : letters.length = 26 := by decide +kernel
  have h2 : v % 26 < letters.length := by rw [hl]; exact Nat.mod_lt _ (by decide)
  rw [List.getD_eq_getElem?_getD, List.getElem?_eq_getElem h2]
  exact List.getElem_mem h2
theorem apartN {st i j : Nat} (hs : st < 26) (hi : i < 5) (hj : j < 5) (h : i ≠ j) : letters.getD ((st + 7 * i) % 26) 0 ≠ letters.getD ((st + 7 * j) % 26) 0 :=
  lt_apart ⟨st, hs⟩ ⟨i, hi⟩ ⟨j, hj⟩ fun e => h (congrArg Fin.val e)
theorem ndA {s tl : List Nat} {t st : Nat} (hs : st < 26) : (st5 (nA s tl t st)).Nodup := nd_map fun i j hi hj h e => by
  unfold nA at e
  rw [List.append_assoc, List.append_assoc, List.append_assoc, List.append_assoc] at e
  have e := List.append_cancel_left e
  exact apartN hs hi hj h (List.cons.inj e).1
theorem ndB {s : List Nat} : (st5 (nB s)).Nodup := nd_map fun i j hi hj h e => by
  unfold nB at e
  have := congrArg List.length e
  simp at this
  exact h this
theorem ndC {s : List Nat} {st : Nat} (hs : st < 26) : (st5 (nC s st)).Nodup := nd_map fun i j hi hj h e => apartN hs hi hj h (List.cons.inj e).1
/-- five unlike names in their order: a pool -/
theorem pool_of {L : List Str} (hn : L.Nodup) (hl : L.length = 5) (h : Nm L) : Pool (uni L) := by
  have nu : (uni L).Nodup := (uni_strict L).imp fun {a b} h e => by subst e; rw [lts_irr] at h; cases h
  refine ⟨uni_strict L, Nat.le_antisymm ?_ ?_, fun x hx => h x (uni_mem.mp hx)⟩
  · rw [← hl]; exact len_le nu fun y hy => uni_mem.mp hy
  · rw [← hl]; exact len_le hn fun y hy => uni_mem.mpr hy
theorem nmB {s : List Nat} (h5 : s.length = 5) (h : ∀ x ∈ s, x ∈ letters) : Nm (st5 (nB s)) := fun x hx => by
  obtain ⟨j, hj, rfl⟩ := List.mem_map.mp hx
  have hj := List.mem_range.mp hj
  obtain ⟨a, l, rfl⟩ : ∃ a l, s = a :: l := by cases s with | nil => cases h5 | cons a l => exact ⟨a, l, rfl⟩
  refine name_is (a := a) (l := l ++ List.replicate j 57) (h a List.mem_cons_self) (by simp at h5 ⊢; omega) fun x hx => ?_
  rcases List.mem_append.mp hx with hx | hx
  · exact let_sg _ (h x (List.mem_cons_of_mem _ hx))
  · rw [(List.mem_replicate.mp hx).2]; decide +kernel
theorem nmC {s : List Nat} {st : Nat} (h5 : s.length = 5) (h : ∀ x ∈ s, x ∈ letters) : Nm (st5 (nC s st)) := fun x hx => by
  obtain ⟨j, hj, rfl⟩ := List.mem_map.mp hx
  exact name_is (let7 _) (by simp; omega) fun x hx => let_sg _ (h x (List.mem_of_mem_take hx))
end K06

namespace K06
open PySem L2 D3
theorem nmA {s tl : List Nat} {t st : Nat} (h5 : s.length = 5) (ht : t < 5) (h : ∀ x ∈ s, x ∈ letters) (hl : tl.length ≤ 35) (h7 : ∀ x ∈ tl, x = 55) : Nm (st5 (nA s tl t st)) := fun x hx => by
  obtain ⟨j, hj, rfl⟩ := List.mem_map.mp hx
  have hp : ∀ x ∈ s.take t ++ [letters.getD ((st + 7 * j) % 26) 0] ++ s.drop (t + 1), x ∈ letters := fun x hx => by
    rcases List.mem_append.mp hx with hx | hx
    · rcases List.mem_append.mp hx with hx | hx
      · exact h x (List.mem_of_mem_take hx)
      · rw [List.mem_singleton.mp hx]; exact let7 _
    · exact h x (List.mem_of_mem_drop hx)
  have hn : (s.take t ++ [letters.getD ((st + 7 * j) % 26) 0] ++ s.drop (t + 1)).length = 5 := by simp; omega
  show nameB ⟨(s.take t ++ [letters.getD ((st + 7 * j) % 26) 0] ++ s.drop (t + 1) ++ tl).toArray⟩ = true
  generalize s.take t ++ [letters.getD ((st + 7 * j) % 26) 0] ++ s.drop (t + 1) = q at *
  cases q with
  | nil => cases hn
  | cons a l =>
    refine name_is (a := a) (l := l ++ tl) (hp a List.mem_cons_self) (by simp at hn ⊢; omega) fun x hx => ?_
    rcases List.mem_append.mp hx with hx | hx
    · exact let_sg _ (hp x (List.mem_cons_of_mem _ hx))
    · rw [h7 x hx]; decide +kernel
/-- what the names are, by the cell -/
def tl (c : Int) : List Nat := if mx c 7 % 4 = 1 then List.replicate (mx c 8 % 36).toNat 55 else []
def namesL (c : Int) : List Str :=
  if mx c 7 % 4 = 2 then st5 (nB (stemL c)) else if mx c 7 % 4 = 3 then st5 (nC (stemL c) (mx c 6 % 26).toNat) else st5 (nA (stemL c) (tl c) (mx c 5 % 5).toNat (mx c 6 % 26).toNat)
theorem names_pool (c : Int) : Pool (uni (namesL c)) ∧ (namesL c).Nodup ∧ (namesL c).length = 5 := by
  have h26 : (mx c 6 % 26).toNat < 26 := by have := Int.emod_lt_of_pos (mx c 6) (show (0 : Int) < 26 by decide); omega
  have h5 : (mx c 5 % 5).toNat < 5 := by have := Int.emod_lt_of_pos (mx c 5) (show (0 : Int) < 5 by decide); omega
  have h36 : (mx c 8 % 36).toNat < 36 := by have := Int.emod_lt_of_pos (mx c 8) (show (0 : Int) < 36 by decide); omega
  have key : (namesL c).Nodup ∧ (namesL c).length = 5 ∧ Nm (namesL c) := by
    unfold namesL
    split
    · exact ⟨ndB, by simp, nmB (stem_len c) (stem_let c)⟩
    · split
      · exact ⟨ndC h26, by simp, nmC (stem_len c) (stem_let c)⟩
      · refine ⟨ndA h26, by simp, nmA (stem_len c) h5 (stem_let c) ?_ fun x hx => ?_⟩
        · unfold tl; split
          · simp; omega
          · simp
        · unfold tl at hx; split at hx
          · exact (List.mem_replicate.mp hx).2
          · cases hx
  exact ⟨pool_of key.1 key.2.1 key.2.2, key.1, key.2.1⟩
end K06

namespace K06
open PySem L2 D3
theorem fold_rep (x : Nat) : ∀ (k : Nat) (acc : Array Nat), (List.replicate k #[x]).foldl (· ++ ·) acc = acc ++ (List.replicate k x).toArray
  | 0, acc => by simp
  | k + 1, acc => by
    rw [List.replicate_succ, List.foldl_cons, fold_rep x k, List.replicate_succ]
    apply Array.ext'
    simp
theorem mul_rep (x k : Nat) : Txt.mul ⟨#[x]⟩ ((k + 1 : Nat) : Int) = ⟨(List.replicate (k + 1) x).toArray⟩ := by
  unfold Txt.mul
  rw [if_neg (by omega)]
  cases k with
  | zero => rfl
  | succ k =>
    have h : ((((k + 1 + 1 : Nat) : Int) == 1) || ((⟨#[x]⟩ : Str).length == 0)) = false := by
      have : (⟨#[x]⟩ : Str).length = 1 := rfl
      rw [this, Bool.or_eq_false_iff]
      exact ⟨by simpa using (by omega : ¬ ((k + 1 + 1 : Nat) : Int) = 1), rfl⟩
    rw [h]
    rw [if_neg (by decide), Int.toNat_natCast, fold_rep]
    simp
theorem mul_s (x n : Nat) (hn : n ≤ 1000) {m m' : Md} : op2 (fBin .Mult) (.ok m (.str ⟨#[x]⟩)) (.ok m' (.int (n : Int))) = .ok .fz (.str ⟨(List.replicate n x).toArray⟩) := by
  have hs : sizeLine = 16777216 := sizeLine_eq
  have l1 : (⟨#[x]⟩ : Str).length = 1 := rfl
  refine op2_of ?_
  show orO (orO _ mulS) mulS0 m (.str ⟨#[x]⟩) m' (.int (n : Int)) = _
  unfold orO
  cases n with
  | zero =>
    have e1 : mulS m (.str ⟨#[x]⟩) m' (.int ((0 : Nat) : Int)) = none := by
      simp [mulS]
    rw [e1]
    rfl
  | succ k =>
    have e1 : mulS m (.str ⟨#[x]⟩) m' (.int ((k + 1 : Nat) : Int)) = some (.fz, .str ⟨(List.replicate (k + 1) x).toArray⟩) := by
      show (if (decide ((1 : Int) ≤ ((k + 1 : Nat) : Int)) && decide (((k + 1 : Nat) : Int) ≤ 1000000) && decide ((⟨#[x]⟩ : Str).length * (((k + 1 : Nat) : Int)).toNat ≤ sizeLine)) = true then some (Md.fz, D.str (Txt.mul ⟨#[x]⟩ ((k + 1 : Nat) : Int))) else none) = _
      rw [if_pos (by rw [l1, Int.toNat_natCast]; simp only [Bool.and_eq_true, decide_eq_true_eq]; omega), mul_rep]
    rw [e1]
    rfl
abbrev ab : Str := "abcdefghijklmnopqrstuvwxyz"
theorem p_stem (k : Nat) (c : Int) : evB (WT TT (k + 1)) (b__law_names.take 2) [some (false, .int c), some (false, .int 5), none, none, none, none, none, none, none] = .nx [some (false, .int c), some (false, .int 5), some (false, .str ab), some (false, .str ⟨(stemL c).toArray⟩), none, none, none, none, none] := by
  have st := stem k c [some (false, .int c), some (false, .int 5), some (false, .str ab), none, none, none, none, none, none] rfl rfl
  have er := rngN (n := 5) (m := .fz) (by decide) (by decide)
  generalize (⟨(stemL c).toArray⟩ : Str) = S at *
  simp at st
  simp [b__law_names, st, er]
theorem p_tail (k : Nat) (c : Int) {S : D} : evB (WT TT (k + 1)) ((b__law_names.drop 2).take 5) [some (false, .int c), some (false, .int 5), some (false, .str ab), some (false, S), none, none, none, none, none] = .nx [some (false, .int c), some (false, .int 5), some (false, .str ab), some (false, S), some (false, .int (mx c 5 % 5)), some (false, .int (mx c 6 % 26)), some (false, .int (mx c 7 % 4)), some (false, .str ⟨(tl c).toArray⟩), none] := by
  have m5 := Mx k (c := c) (p := 5) (by decide) (by decide)
  have m6 := Mx k (c := c) (p := 6) (by decide) (by decide)
  have m7 := Mx k (c := c) (p := 7) (by decide) (by decide)
  have m8 := Mx k (c := c) (p := 8) (by decide) (by decide)
  have h0 := Int.emod_nonneg (mx c 8) (show (36 : Int) ≠ 0 by decide)
  have h1 := Int.emod_lt_of_pos (mx c 8) (show (0 : Int) < 36 by decide)
  obtain ⟨n, hn⟩ := Int.eq_ofNat_of_zero_le h0
  have ml := mul_s 55 n (by omega) (m := .fz) (m' := .fz)
  have e7 : (⟨#[55]⟩ : Str) = "7" := rfl
  rw [e7] at ml
  unfold tl
  by_cases h : mx c 7 % 4 = 1
  · rw [if_pos h, hn, Int.toNat_natCast]
    simp [b__law_names, m5, m6, m7, m8, h, hn, ml]
  · have h' : (mx c 7 % 4 == 1) = false := by simpa using h
    rw [if_neg h]
    simp [b__law_names, m5, m6, m7, m8, h, h']
    try rfl
end K06

namespace K06
open PySem L2 D3 PySem.Builtin.Str
theorem slP_hi {z : Str} {m m' : Md} {g : Rho → Res} {ρ : Rho} {i : Int} (h : g ρ = .ok m' (.int i)) : slP (.ok m (.str z)) none (some g) ρ = .ok .fz (.str (Txt.slice z none (some i))) := by
  show ((g ρ).thn fun _ d => match d with | .int i => Res.ok .fz (.str (Txt.slice z none (some i))) | _ => .stuck) = _
  rw [h]; rfl
theorem slP_lo {z : Str} {m m' : Md} {g : Rho → Res} {ρ : Rho} {i : Int} (h : g ρ = .ok m' (.int i)) : slP (.ok m (.str z)) (some g) none ρ = .ok .fz (.str (Txt.slice z (some i) none)) := by
  show ((g ρ).thn fun _ d => match d with | .int i => Res.ok .fz (.str (Txt.slice z (some i) none)) | _ => .stuck) = _
  rw [h]; rfl
theorem cut5 (a b c d e : Nat) : ∀ n : Nat, n ≤ 5 → Txt.slice ⟨[a, b, c, d, e].toArray⟩ none (some (n : Int)) = ⟨([a, b, c, d, e].take n).toArray⟩
  | 0, _ => rfl | 1, _ => rfl | 2, _ => rfl | 3, _ => rfl | 4, _ => rfl | 5, _ => rfl
  | n + 6, h => by omega
theorem from5 (a b c d e : Nat) {n : Nat} (h : n ≤ 5) : Txt.slice ⟨[a, b, c, d, e].toArray⟩ (some (n : Int)) none = ⟨([a, b, c, d, e].drop n).toArray⟩ := by
  have hl : (⟨[a, b, c, d, e].toArray⟩ : Str).length = 5 := rfl
  have i0 : strSliceIndices (some 0) none 1 5 = [0, 1, 2, 3, 4] := by decide +kernel
  have i1 : strSliceIndices (some 1) none 1 5 = [1, 2, 3, 4] := by decide +kernel
  have i2 : strSliceIndices (some 2) none 1 5 = [2, 3, 4] := by decide +kernel
  have i3 : strSliceIndices (some 3) none 1 5 = [3, 4] := by decide +kernel
  have i4 : strSliceIndices (some 4) none 1 5 = [4] := by decide +kernel
  have i5 : strSliceIndices (some 5) none 1 5 = [] := by decide +kernel
  unfold Txt.slice
  rw [hl]
  have : n = 0 ∨ n = 1 ∨ n = 2 ∨ n = 3 ∨ n = 4 ∨ n = 5 := by omega
  rcases this with rfl | rfl | rfl | rfl | rfl | rfl
  · show (if (_ && (strSliceIndices (some 0) none 1 5).length == 5) = true then _ else _) = _
    rw [i0]; rfl
  · show (if (_ && (strSliceIndices (some 1) none 1 5).length == 5) = true then _ else (⟨((strSliceIndices (some 1) none 1 5).filterMap _).toArray⟩ : Str)) = _
    rw [i1]; rfl
  · show (if (_ && (strSliceIndices (some 2) none 1 5).length == 5) = true then _ else (⟨((strSliceIndices (some 2) none 1 5).filterMap _).toArray⟩ : Str)) = _
    rw [i2]; rfl
  · show (if (_ && (strSliceIndices (some 3) none 1 5).length == 5) = true then _ else (⟨((strSliceIndices (some 3) none 1 5).filterMap _).toArray⟩ : Str)) = _
    rw [i3]; rfl
  · show (if (_ && (strSliceIndices (some 4) none 1 5).length == 5) = true then _ else (⟨((strSliceIndices (some 4) none 1 5).filterMap _).toArray⟩ : Str)) = _
    rw [i4]; rfl
  · show (if (_ && (strSliceIndices (some 5) none 1 5).length == 5) = true then _ else (⟨((strSliceIndices (some 5) none 1 5).filterMap _).toArray⟩ : Str)) = _
    rw [i5]; rfl
theorem app_l (a b : List Nat) : (⟨a.toArray⟩ : Str) ++ ⟨b.toArray⟩ = ⟨(a ++ b).toArray⟩ := by
  refine PySem.Str.ext' ?_
  rw [PySem.Str.cps_append]
  simp
theorem add_l {a b : List Nat} (h : a.length + b.length ≤ 2000) {m m' : Md} : op2 (fBin .Add) (.ok m (.str ⟨a.toArray⟩)) (.ok m' (.str ⟨b.toArray⟩)) = .ok .fz (.str ⟨(a ++ b).toArray⟩) := by
  rw [add_s (by simpa [PySem.Str.length] using h), app_l]
/-- five, one by one -/
def fv (f : Nat → List Nat) : D → D
  | .int i => .str ⟨(f i.toNat).toArray⟩
  | d => d
theorem fv_map (f : Nat → List Nat) : (rangeD 0 5).map (fv f) = (st5 f).map D.str := rfl
theorem lt_nat {st : Nat} {j : Nat} {m m' : Md} : op2 ixD (.ok m (.str ab)) (.ok m' (.int (((st : Int) + 7 * (j : Int)) % 26))) = .ok .fz (.str ⟨[letters.getD ((st + 7 * j) % 26) 0].toArray⟩) := by
  rw [lt_ix]
  have : (((st : Int) + 7 * (j : Int)) % 26).toNat = (st + 7 * j) % 26 := by omega
  unfold lt
  rw [this]
theorem way2 (k : Nat) (S : List Nat) (hS : S.length = 5) (ρ : Rho) (h3 : ρ[3]? = some (some (false, .str ⟨S.toArray⟩))) :
    compR (.ok .fz (.lst (rangeD 0 5))) ρ [3] 1 (setG (.nm 1)) (fun ρ => evF (WT TT k) [] ρ) (fun ρ => evE (WT TT k) (.bin .Add (.var 0) (.bin .Mult (.str "9") (.var 1))) ρ) = .ok .fr (lx (st5 (nB S))) := by
  show _ = Res.ok Md.fr (.lst ((st5 (nB S)).map D.str))
  rw [← fv_map]
  refine compR_map _ (by decide) fun d hd => ?_
  obtain ⟨i, hi, rfl⟩ := mem_rangeI hd
  have ml := mul_s 57 i (by omega) (m := .fz) (m' := .fz)
  rw [show (⟨#[57]⟩ : Str) = "9" from rfl] at ml
  have a1 := add_l (a := S) (b := List.replicate i 57) (m := .fz) (m' := .fz) (by simp; omega)
  refine ⟨[some (false, .str ⟨S.toArray⟩), some (false, .int i)], .fz, by simp [subR, h3], by simp, .fz, ?_⟩
  show _ = Res.ok Md.fz (.str ⟨(nB S i).toArray⟩)
  unfold nB
  generalize (⟨S.toArray⟩ : Str) = Z at *
  generalize (⟨(List.replicate i 57).toArray⟩ : Str) = Z1 at *
  generalize (⟨(S ++ List.replicate i 57).toArray⟩ : Str) = Z2 at *
  simp [ml, a1]
end K06

namespace K06
open PySem L2 D3
theorem way3 (k : Nat) {a b c d e : Nat} {st : Nat} (hs : st < 26) (ρ : Rho) (h2 : ρ[2]? = some (some (false, .str ab))) (h3 : ρ[3]? = some (some (false, .str ⟨[a, b, c, d, e].toArray⟩))) (h5 : ρ[5]? = some (some (false, .int (st : Int)))) :
    compR (.ok .fz (.lst (rangeD 0 5))) ρ [2, 3, 5] 1 (setG (.nm 3)) (fun ρ => evF (WT TT k) [] ρ) (fun ρ => evE (WT TT k) (.bin .Add (.ix (.var 0) (.bin .Mod (.bin .Add (.var 2) (.bin .Mult (.int 7) (.var 3))) (.int 26))) (.slice (.var 1) none (some (.bin .Mod (.bin .Add (.var 2) (.var 3)) (.int 4))))) ρ) = .ok .fr (lx (st5 (nC [a, b, c, d, e] st))) := by
  show _ = Res.ok Md.fr (.lst ((st5 (nC [a, b, c, d, e] st)).map D.str))
  rw [← fv_map]
  refine compR_map _ (by decide) fun d' hd => ?_
  obtain ⟨i, hi, rfl⟩ := mem_rangeI hd
  have x1 := lt_nat (st := st) (j := i) (m := .fz) (m' := .fz)
  have b7 : bits 7 = true := by decide +kernel
  have bi : bits (i : Int) = true := bits_le (N := 100) (by omega)
  have em : ((st : Int) + (i : Int)) % 4 = (((st + i) % 4 : Nat) : Int) := by omega
  have hm : (st + i) % 4 ≤ 5 := by omega
  have sl : slP (.ok .fz (.str ⟨[a, b, c, d, e].toArray⟩)) none (some (evE (WT TT k) (.bin .Mod (.bin .Add (.var 2) (.var 3)) (.int 4)))) [some (false, .str ab), some (false, .str ⟨[a, b, c, d, e].toArray⟩), some (false, .int (st : Int)), some (false, .int (i : Int))] = .ok .fz (.str ⟨([a, b, c, d, e].take ((st + i) % 4)).toArray⟩) := by
    rw [slP_hi (i := (((st + i) % 4 : Nat) : Int)) (m' := .fz) (by rw [← em]; simp), cut5 a b c d e _ hm]
  have a1 := add_l (a := [letters.getD ((st + 7 * i) % 26) 0]) (b := [a, b, c, d, e].take ((st + i) % 4)) (m := .fz) (m' := .fz) (by simp; omega)
  refine ⟨[some (false, .str ab), some (false, .str ⟨[a, b, c, d, e].toArray⟩), some (false, .int (st : Int)), some (false, .int (i : Int))], .fz, by simp [subR, h2, h3, h5], by simp, .fz, ?_⟩
  show _ = Res.ok Md.fz (.str ⟨([letters.getD ((st + 7 * i) % 26) 0] ++ [a, b, c, d, e].take ((st + i) % 4)).toArray⟩)
  generalize (⟨([letters.getD ((st + 7 * i) % 26) 0] ++ [a, b, c, d, e].take ((st + i) % 4)).toArray⟩ : Str) = Z2 at *
  generalize (⟨([a, b, c, d, e].take ((st + i) % 4)).toArray⟩ : Str) = Z1 at *
  generalize (⟨[letters.getD ((st + 7 * i) % 26) 0].toArray⟩ : Str) = Z0 at *
  generalize (⟨[a, b, c, d, e].toArray⟩ : Str) = S at *
  generalize ab = AB at *
  simp [x1, sl, a1, x_mul, b7, bi]
end K06

namespace K06
open PySem L2 D3
/-- the first part of a name of the ways 0 and 1 -/
def nP (s : List Nat) (t st j : Nat) : List Nat := s.take t ++ [letters.getD ((st + 7 * j) % 26) 0]
theorem comp1 (k : Nat) {a b c d e : Nat} {t st : Nat} (ht : t < 5) (ρ : Rho) (h3 : ρ[3]? = some (some (false, .str ⟨[a, b, c, d, e].toArray⟩))) (h2 : ρ[2]? = some (some (false, .str ab))) (h4 : ρ[4]? = some (some (false, .int (t : Int)))) (h5 : ρ[5]? = some (some (false, .int (st : Int)))) :
    compR (.ok .fz (.lst (rangeD 0 5))) ρ [3, 2, 4, 5] 1 (setG (.nm 4)) (fun ρ => evF (WT TT k) [] ρ) (fun ρ => evE (WT TT k) (.bin .Add (.slice (.var 0) none (some (.var 2))) (.ix (.var 1) (.bin .Mod (.bin .Add (.var 3) (.bin .Mult (.int 7) (.var 4))) (.int 26)))) ρ) = .ok .fr (lx (st5 (nP [a, b, c, d, e] t st))) := by
  show _ = Res.ok Md.fr (.lst ((st5 (nP [a, b, c, d, e] t st)).map D.str))
  rw [← fv_map]
  refine compR_map _ (by decide) fun d' hd => ?_
  obtain ⟨i, hi, rfl⟩ := mem_rangeI hd
  have x1 := lt_nat (st := st) (j := i) (m := .fz) (m' := .fz)
  have b7 : bits 7 = true := by decide +kernel
  have bi : bits (i : Int) = true := bits_le (N := 100) (by omega)
  have sl : slP (.ok .fz (.str ⟨[a, b, c, d, e].toArray⟩)) none (some (evE (WT TT k) (.var 2))) [some (false, .str ⟨[a, b, c, d, e].toArray⟩), some (false, .str ab), some (false, .int (t : Int)), some (false, .int (st : Int)), some (false, .int (i : Int))] = .ok .fz (.str ⟨([a, b, c, d, e].take t).toArray⟩) := by
    rw [slP_hi (i := (t : Int)) (m' := .fz) (by simp), cut5 a b c d e _ (by omega)]
  have a1 := add_l (a := [a, b, c, d, e].take t) (b := [letters.getD ((st + 7 * i) % 26) 0]) (m := .fz) (m' := .fz) (by simp; omega)
  refine ⟨[some (false, .str ⟨[a, b, c, d, e].toArray⟩), some (false, .str ab), some (false, .int (t : Int)), some (false, .int (st : Int)), some (false, .int (i : Int))], .fz, by simp [subR, h2, h3, h4, h5], by simp, .fz, ?_⟩
  show _ = Res.ok Md.fz (.str ⟨([a, b, c, d, e].take t ++ [letters.getD ((st + 7 * i) % 26) 0]).toArray⟩)
  generalize (⟨([a, b, c, d, e].take t ++ [letters.getD ((st + 7 * i) % 26) 0]).toArray⟩ : Str) = Z2 at *
  generalize (⟨([a, b, c, d, e].take t).toArray⟩ : Str) = Z1 at *
  generalize (⟨[letters.getD ((st + 7 * i) % 26) 0].toArray⟩ : Str) = Z0 at *
  generalize (⟨[a, b, c, d, e].toArray⟩ : Str) = S at *
  generalize ab = AB at *
  simp [x1, sl, a1, x_mul, b7, bi]
def gA (s tl : List Nat) (t : Nat) : D → D
  | .str z => .str ⟨(z.cps.toList ++ s.drop (t + 1) ++ tl).toArray⟩
  | d => d
theorem gA_map (s tl : List Nat) (t st : Nat) : ((st5 (nP s t st)).map D.str).map (gA s tl t) = (st5 (nA s tl t st)).map D.str := rfl
theorem comp2 (k : Nat) {a b c d e : Nat} {tl : List Nat} {t st : Nat} (ht : t < 5) (hl : tl.length ≤ 35) (ρ : Rho) (h7 : ρ[7]? = some (some (false, .str ⟨tl.toArray⟩))) (h3 : ρ[3]? = some (some (false, .str ⟨[a, b, c, d, e].toArray⟩))) (h4 : ρ[4]? = some (some (false, .int (t : Int)))) :
    compR (.ok .fz (lx (st5 (nP [a, b, c, d, e] t st)))) ρ [7, 3, 4] 1 (setG (.nm 3)) (fun ρ => evF (WT TT k) [] ρ) (fun ρ => evE (WT TT k) (.bin .Add (.bin .Add (.var 3) (.slice (.var 1) (some (.bin .Add (.var 2) (.int 1))) none)) (.var 0)) ρ) = .ok .fr (lx (st5 (nA [a, b, c, d, e] tl t st))) := by
  show _ = Res.ok Md.fr (.lst ((st5 (nA [a, b, c, d, e] tl t st)).map D.str))
  rw [← gA_map]
  refine compR_map _ (by have : sizeLine = 16777216 := sizeLine_eq; simp; omega) fun d' hd => ?_
  obtain ⟨z, hz, rfl⟩ := List.mem_map.mp hd
  obtain ⟨i, hi, rfl⟩ := List.mem_map.mp hz
  have hq : (nP [a, b, c, d, e] t st i).length ≤ 6 := by unfold nP; simp; omega
  generalize nP [a, b, c, d, e] t st i = q at *
  have sl : slP (.ok .fz (.str ⟨[a, b, c, d, e].toArray⟩)) (some (evE (WT TT k) (.bin .Add (.var 2) (.int 1)))) none [some (false, .str ⟨tl.toArray⟩), some (false, .str ⟨[a, b, c, d, e].toArray⟩), some (false, .int (t : Int)), some (false, .str ⟨q.toArray⟩)] = .ok .fz (.str ⟨([a, b, c, d, e].drop (t + 1)).toArray⟩) := by
    rw [slP_lo (i := ((t + 1 : Nat) : Int)) (m' := .fz) (by simp), from5 a b c d e (by omega)]
  have a1 := add_l (a := q) (b := [a, b, c, d, e].drop (t + 1)) (m := .fz) (m' := .fz) (by simp; omega)
  have a2 := add_l (a := q ++ [a, b, c, d, e].drop (t + 1)) (b := tl) (m := .fz) (m' := .fz) (by simp; omega)
  refine ⟨[some (false, .str ⟨tl.toArray⟩), some (false, .str ⟨[a, b, c, d, e].toArray⟩), some (false, .int (t : Int)), some (false, .str ⟨q.toArray⟩)], .fz, by simp [subR, h7, h3, h4], by simp, .fz, ?_⟩
  show _ = Res.ok Md.fz (.str ⟨(q ++ [a, b, c, d, e].drop (t + 1) ++ tl).toArray⟩)
  generalize (⟨(q ++ [a, b, c, d, e].drop (t + 1) ++ tl).toArray⟩ : Str) = Z2 at *
  generalize (⟨(q ++ [a, b, c, d, e].drop (t + 1)).toArray⟩ : Str) = Z1 at *
  generalize (⟨([a, b, c, d, e].drop (t + 1)).toArray⟩ : Str) = Z0 at *
  generalize (⟨[a, b, c, d, e].toArray⟩ : Str) = S at *
  generalize (⟨tl.toArray⟩ : Str) = TL at *
  generalize (⟨q.toArray⟩ : Str) = QQ at *
  simp [sl, a1, a2]
end K06

namespace K06
open PySem L2 D3
theorem p_list (k : Nat) {c w : Int} {AB S TL A0 ST : D} {P1 P2 P3 P4 Q : D} (er : rng1R (.ok [(.fz, .int 5)]) = .ok .fz (.lst (rangeD 0 5)))
    (c1 : compR (.ok .fz (.lst (rangeD 0 5))) [some (false, .int c), some (false, .int 5), some (false, AB), some (false, S), some (false, A0), some (false, ST), some (false, .int w), some (false, TL), none] [3, 2, 4, 5] 1 (setG (.nm 4)) (fun ρ => evF (WT TT k) [] ρ) (fun ρ => evE (WT TT k) (.bin .Add (.slice (.var 0) none (some (.var 2))) (.ix (.var 1) (.bin .Mod (.bin .Add (.var 3) (.bin .Mult (.int 7) (.var 4))) (.int 26)))) ρ) = .ok .fr P1)
    (f1 : frzR (.ok .fr P1) = .ok .fz P1) (i1 : itemsR (.ok .fz P1) = .ok .fz P1)
    (c2 : compR (.ok .fz P1) [some (false, .int c), some (false, .int 5), some (false, AB), some (false, S), some (false, A0), some (false, ST), some (false, .int w), some (false, TL), some (false, P1)] [7, 3, 4] 1 (setG (.nm 3)) (fun ρ => evF (WT TT k) [] ρ) (fun ρ => evE (WT TT k) (.bin .Add (.bin .Add (.var 3) (.slice (.var 1) (some (.bin .Add (.var 2) (.int 1))) none)) (.var 0)) ρ) = .ok .fr P2) (f2 : frzR (.ok .fr P2) = .ok .fz P2) :
    evB (WT TT k) ((b__law_names.drop 7).take 2) [some (false, .int c), some (false, .int 5), some (false, AB), some (false, S), some (false, A0), some (false, ST), some (false, .int w), some (false, TL), none] = .nx [some (false, .int c), some (false, .int 5), some (false, AB), some (false, S), some (false, A0), some (false, ST), some (false, .int w), some (false, TL), some (false, P2)] := by
  simp at c1 c2
  simp [b__law_names, er, c1, f1, i1, c2, f2]
end K06

namespace K06
open PySem L2 D3
theorem p_end (k : Nat) {c w : Int} {AB S TL A0 ST P2 P3 P4 G : D} (er : rng1R (.ok [(.fz, .int 5)]) = .ok .fz (.lst (rangeD 0 5)))
    (c3 : ∀ x, compR (.ok .fz (.lst (rangeD 0 5))) [some (false, .int c), some (false, .int 5), some (false, AB), some (false, S), some (false, A0), some (false, ST), some (false, .int w), some (false, TL), x] [3] 1 (setG (.nm 1)) (fun ρ => evF (WT TT k) [] ρ) (fun ρ => evE (WT TT k) (.bin .Add (.var 0) (.bin .Mult (.str "9") (.var 1))) ρ) = .ok .fr P3) (f3 : frzR (.ok .fr P3) = .ok .fz P3)
    (c4 : ∀ x, compR (.ok .fz (.lst (rangeD 0 5))) [some (false, .int c), some (false, .int 5), some (false, AB), some (false, S), some (false, A0), some (false, ST), some (false, .int w), some (false, TL), x] [2, 3, 5] 1 (setG (.nm 3)) (fun ρ => evF (WT TT k) [] ρ) (fun ρ => evE (WT TT k) (.bin .Add (.ix (.var 0) (.bin .Mod (.bin .Add (.var 2) (.bin .Mult (.int 7) (.var 3))) (.int 26))) (.slice (.var 1) none (some (.bin .Mod (.bin .Add (.var 2) (.var 3)) (.int 4))))) ρ) = .ok .fr P4) (f4 : frzR (.ok .fr P4) = .ok .fz P4)
    (sr : srtD [(.fz, if w = 2 then P3 else if w = 3 then P4 else P2)] = some (.fr, G)) :
    evB (WT TT k) (b__law_names.drop 9) [some (false, .int c), some (false, .int 5), some (false, AB), some (false, S), some (false, A0), some (false, ST), some (false, .int w), some (false, TL), some (false, P2)] = .rt .fr G := by
  simp at c3 c4
  by_cases h2 : w = 2
  · have h3 : (w == 3) = false := by subst h2; rfl
    rw [if_pos h2] at sr
    subst h2
    simp [b__law_names, er, c3, f3, sr]
  · have h2' : (w == 2) = false := by simpa using h2
    rw [if_neg h2] at sr
    by_cases h3 : w = 3
    · rw [if_pos h3] at sr
      subst h3
      simp [b__law_names, er, c4, f4, sr]
    · have h3' : (w == 3) = false := by simpa using h3
      rw [if_neg h3] at sr
      simp [b__law_names, h2', h3', sr]
end K06

namespace K06
open PySem L2 D3
theorem srt_of {L : List Str} (hn : L.Nodup) (hl : L.length = 5) {m : Md} : srtD [(m, lx L)] = some (.fr, lx (uni L)) := by
  show (match txD (L.map D.str) with | some ns => if ns.Nodup ∧ ns.length < 64 then some (Md.fr, D.lst ((uni ns).map .str)) else none | none => none) = _
  rw [txD_map]
  dsimp only
  rw [if_pos ⟨hn, by omega⟩]
theorem names (k : Nat) (c : Int) : (WT TT (k + 2)).Φ "_law_names" [.int c, .int 5] = .ok .fr (lx (uni (namesL c))) := by
  rw [u__law_names]
  refine phi_ok rfl ?_
  show evB (WT TT (k + 1)) b__law_names [some (false, .int c), some (false, .int 5), none, none, none, none, none, none, none] = _
  have ee : b__law_names = b__law_names.take 2 ++ ((b__law_names.drop 2).take 5 ++ ((b__law_names.drop 7).take 2 ++ b__law_names.drop 9)) := rfl
  have er := rngN (n := 5) (m := .fz) (by decide) (by decide)
  have h6 := Int.emod_nonneg (mx c 6) (show (26 : Int) ≠ 0 by decide)
  have h6' := Int.emod_lt_of_pos (mx c 6) (show (0 : Int) < 26 by decide)
  have h5 := Int.emod_nonneg (mx c 5) (show (5 : Int) ≠ 0 by decide)
  have h5' := Int.emod_lt_of_pos (mx c 5) (show (0 : Int) < 5 by decide)
  obtain ⟨st, hst⟩ := Int.eq_ofNat_of_zero_le h6
  obtain ⟨t, ht⟩ := Int.eq_ofNat_of_zero_le h5
  have hs26 : st < 26 := by omega
  have ht5 : t < 5 := by omega
  have hl : (tl c).length ≤ 35 := by
    have h8 := Int.emod_lt_of_pos (mx c 8) (show (0 : Int) < 36 by decide)
    unfold tl; split
    · simp; omega
    · simp
  obtain ⟨_, nd1, ln⟩ := names_pool c
  rw [ee, b_app, p_stem k c, SRes.thn_nx, b_app, p_tail k c, SRes.thn_nx, hst, ht, b_app]
  obtain ⟨x1, x2, x3, x4, x5, hS⟩ : ∃ x1 x2 x3 x4 x5, stemL c = [x1, x2, x3, x4, x5] := ⟨_, _, _, _, _, rfl⟩
  rw [hS]
  rw [p_list (k + 1) (P3 := .non) (P4 := .non) (Q := .non) er (comp1 (k + 1) (st := st) ht5 _ rfl rfl rfl rfl) rfl rfl (comp2 (k + 1) (tl := tl c) (st := st) ht5 hl _ rfl rfl rfl) rfl, SRes.thn_nx]
  refine p_end (k + 1) er (fun x => way2 (k + 1) [x1, x2, x3, x4, x5] rfl _ rfl) rfl (fun x => way3 (k + 1) hs26 _ rfl rfl rfl) rfl ?_
  have e : (if mx c 7 % 4 = 2 then lx (st5 (nB [x1, x2, x3, x4, x5])) else if mx c 7 % 4 = 3 then lx (st5 (nC [x1, x2, x3, x4, x5] st)) else lx (st5 (nA [x1, x2, x3, x4, x5] (tl c) t st))) = lx (namesL c) := by
    unfold namesL
    rw [hS, hst, ht, Int.toNat_natCast, Int.toNat_natCast]
    split
    · rfl
    · split <;> rfl
  exact (congrArg (fun z => srtD [(.fz, z)]) e).trans (srt_of nd1 ln)
def kk : Nat := 25
theorem main (ns : List Int) (hn : ns.length ≤ 63) : (WT TT (kk + 1)).Φ ("law" : Str) (lawIn ns) = .ok .fz (.bl true) :=
  main_of 20 ns hn (names_pool (c0 ns)).1 (names 23 (c0 ns))
end K06

namespace K06
open PySem L2 D3
theorem walk {l : PySem.W.OpenLaw} {q : Program} {loose : List Str} {XP : (Str → Option Value) → Heap → Prop} {YP : World → Heap → Prop} {d : DefRec} {K : Params → PySem.W.Frag} (hn : l.most = some 63) (hdf : d.params.defaults = [])
    (hY : ∀ (w : World) (h : Heap), YP w h → (K w.params).In h)
    (F : ∀ (w : World) (mg : Str → Option Value) (fa : Addr) (h : Heap), (K w.params).In h → h.Ns mainGlobals mg → mg d.name = some (.ref fa) →
      ∃ fd : FuncData, (∀ (s : Shared) (u : Value), BindsTo s fd ⟨[u], []⟩ [("_law_script", u)]) ∧ ∀ base : Heap, (K w.params).In base → base.Ns mainGlobals mg → FnOk l.prog w (K w.params) mg base (CX1 l.prog w) (kk + 1) fa fd ["_law_script"] (spLw (K w.params) ((WT TT (kk + 1)).Φ ("law" : Str)))) :
    PySem.W.WalkO q loose XP YP l.row.toRowW d [] (fun f vs => PySem.call f vs) :=
  L2.walk_of (n := 63) (k := kk + 1) (x := "_law_script") (CX := fun w => CX1 l.prog w) (sp := fun w => spLw (K w.params) ((WT TT (kk + 1)).Φ ("law" : Str))) hn (by decide) hdf ⟨rfl, by decide, by decide⟩ hY F (fun _ _ a ns hl _ hS => ⟨a, ns, rfl, hS, main ns hl, fun _ => rfl⟩) fun _ _ _ _ _ z => by obtain ⟨_, _, _, _, _, _, _, _, _, _, z⟩ := z; exact z
end K06
open PySem PySem.W PyProof.Rows
set_option maxRecDepth 100000 in
set_option maxHeartbeats 0 in
theorem PySem.Challenge.cw_whencewise_k06_voices_holds : PySem.Challenge.rw_whencewise_k06_voices.Holds := by
  w_on; o_law; k_head; (case hw => w_witness2)
  k_fill
  refine K06.walk (l := PySem.Challenge.rw_whencewise_k06_voices) rfl rfl (fun w h Y => PySem.W.kIn_of Y) ?F
  case F =>
    intro w mg fa h KX G hmg
    refine' K06.all_mk K06.kk KX G hmg ?aC_Kind ?aC_Single ?aC_Voices ?a0 ?l0 ?c0 ?k0 ?a1 ?l1 ?c1 ?k1 ?a2 ?l2 ?c2 ?k2 ?a3 ?l3 ?c3 ?k3 ?a4 ?l4 ?c4 ?k4 ?a5 ?l5 ?c5 ?k5 ?a6 ?l6 ?c6 ?k6 ?a7 ?l7 ?c7 ?k7 ?a8 ?l8 ?c8 ?k8 ?a9 ?l9 ?c9 ?k9 ?a10 ?l10 ?c10 ?k10 ?a11 ?l11 ?c11 ?k11 ?a12 ?l12 ?c12 ?k12 ?a13 ?l13 ?c13 ?k13 ?a14 ?j14 ?l14 ?c14 ?k14 ?a15 ?j15 ?l15 ?c15 ?k15 ?a16 ?j16 ?l16 ?c16 ?k16 ?a17 ?j17 ?l17 ?c17 ?k17 ?a18 ?j18 ?l18 ?c18 ?k18 ?a19 ?j19 ?l19 ?c19 ?k19 ?u_FIGURES ?u_LETTERS ?u_LONGEST ?u_all ?u_bool ?u_enumerate ?u_isinstance ?u_len ?u_list ?u_range ?u_reversed ?u_set ?u_sorted ?u_str ?u_sum ?u_tuple ?u_zip ?pg_Kind ?hd_Kind ?po_Kind ?sa_Kind ?pg_Single ?hd_Single ?po_Single ?sa_Single ?pg_Voices ?hd_Voices ?po_Voices ?sa_Voices ?mk_Voices ?in_Voices ?kc_Voices ?og ?ot ?oc_Kind ?om_Kind ?oc_Single ?om_Single ?oc_Voices ?om_Voices ?ic_Kind ?ty_Kind ?t_Kind_NoneType ?t_Kind_bool ?t_Kind_int ?t_Kind_str ?t_Kind_tuple ?t_Kind_list ?t_Kind_dict ?k_Single_Kind ?ne_Single_Kind ?k_Voices_Kind ?ne_Voices_Kind ?ic_Single ?ty_Single ?t_Single_NoneType ?t_Single_bool ?t_Single_int ?t_Single_str ?t_Single_tuple ?t_Single_list ?t_Single_dict ?k_Kind_Single ?ne_Kind_Single ?k_Voices_Single ?ne_Voices_Single
    (case aC_Kind => k_is)
    (case aC_Single => k_is)
    (case aC_Voices => k_is)
    (case a0 => k_is)
    (case l0 => k_is)
    (case c0 => k_is)
    (case k0 => k_is)
    (case a1 => k_is)
    (case l1 => k_is)
    (case c1 => k_is)
    (case k1 => k_is)
    (case a2 => k_is)
    (case l2 => k_is)
    (case c2 => k_is)
    (case k2 => k_is)
    (case a3 => k_is)
    (case l3 => k_is)
    (case c3 => k_is)
    (case k3 => k_is)
    (case a4 => k_is)
    (case l4 => k_is)
    (case c4 => k_is)
    (case k4 => k_is)
    (case a5 => k_is)
    (case l5 => k_is)
    (case c5 => k_is)
    (case k5 => k_is)
    (case a6 => k_is)
    (case l6 => k_is)
    (case c6 => k_is)
    (case k6 => k_is)
    (case a7 => k_is)
    (case l7 => k_is)
    (case c7 => k_is)
    (case k7 => k_is)
    (case a8 => k_is)
    (case l8 => k_is)
    (case c8 => k_is)
    (case k8 => k_is)
    (case a9 => k_is)
    (case l9 => k_is)
    (case c9 => k_is)
    (case k9 => k_is)
    (case a10 => k_is)
    (case l10 => k_is)
    (case c10 => k_is)
    (case k10 => k_is)
    (case a11 => k_is)
    (case l11 => k_is)
    (case c11 => k_is)
    (case k11 => k_is)
    (case a12 => k_is)
    (case l12 => k_is)
    (case c12 => k_is)
    (case k12 => k_is)
    (case a13 => k_is)
    (case l13 => k_is)
    (case c13 => k_is)
    (case k13 => k_is)
    (case a14 => k_is)
    (case j14 => k_is)
    (case l14 => k_is)
    (case c14 => k_is)
    (case k14 => k_is)
    (case a15 => k_is)
    (case j15 => k_is)
    (case l15 => k_is)
    (case c15 => k_is)
    (case k15 => k_is)
    (case a16 => k_is)
    (case j16 => k_is)
    (case l16 => k_is)
    (case c16 => k_is)
    (case k16 => k_is)
    (case a17 => k_is)
    (case j17 => k_is)
    (case l17 => k_is)
    (case c17 => k_is)
    (case k17 => k_is)
    (case a18 => k_is)
    (case j18 => k_is)
    (case l18 => k_is)
    (case c18 => k_is)
    (case k18 => k_is)
    (case a19 => k_is)
    (case j19 => k_is)
    (case l19 => k_is)
    (case c19 => k_is)
    (case k19 => k_is)
    (case u_FIGURES => k_is)
    (case u_LETTERS => k_is)
    (case u_LONGEST => k_is)
    (case u_all => k_is)
    (case u_bool => k_is)
    (case u_enumerate => k_is)
    (case u_isinstance => k_is)
    (case u_len => k_is)
    (case u_list => k_is)
    (case u_range => k_is)
    (case u_reversed => k_is)
    (case u_set => k_is)
    (case u_sorted => k_is)
    (case u_str => k_is)
    (case u_sum => k_is)
    (case u_tuple => k_is)
    (case u_zip => k_is)
    (case pg_Kind => k_is)
    (case hd_Kind => k_is)
    (case po_Kind => k_is)
    (case sa_Kind => k_is)
    (case pg_Single => k_is)
    (case hd_Single => k_is)
    (case po_Single => k_is)
    (case sa_Single => k_is)
    (case pg_Voices => k_is)
    (case hd_Voices => k_is)
    (case po_Voices => k_is)
    (case sa_Voices => k_is)
    (case mk_Voices => k_is)
    (case in_Voices => k_is)
    (case kc_Voices => k_is)
    (case og => k_is)
    (case ot => k_is)
    (case oc_Kind => k_is)
    (case om_Kind => k_is)
    (case oc_Single => k_is)
    (case om_Single => k_is)
    (case oc_Voices => k_is)
    (case om_Voices => k_is)
    (case ic_Kind => k_is)
    (case ty_Kind => k_is)
    (case t_Kind_NoneType => k_is)
    (case t_Kind_bool => k_is)
    (case t_Kind_int => k_is)
    (case t_Kind_str => k_is)
    (case t_Kind_tuple => k_is)
    (case t_Kind_list => k_is)
    (case t_Kind_dict => k_is)
    (case k_Single_Kind => k_is)
    (case ne_Single_Kind => rfl)
    (case k_Voices_Kind => k_is)
    (case ne_Voices_Kind => rfl)
    (case ic_Single => k_is)
    (case ty_Single => k_is)
    (case t_Single_NoneType => k_is)
    (case t_Single_bool => k_is)
    (case t_Single_int => k_is)
    (case t_Single_str => k_is)
    (case t_Single_tuple => k_is)
    (case t_Single_list => k_is)
    (case t_Single_dict => k_is)
    (case k_Kind_Single => k_is)
    (case ne_Kind_Single => rfl)
    (case k_Voices_Single => k_is)
    (case ne_Voices_Single => rfl)
