import PyProof.Rows.All
import Wide.All
import OpenK.AllK
import Wide.FinOn
import Lean
import PyProof.EqAt
import PyProof.EqKinds
import PyProof.TupleCall
import PySem.Challenge.RW_whencewise_k13_cuts
abbrev VSP := PySem.Value -> PySem.Shared -> Prop
abbrev Fg := PySem.W.Frag
abbrev LAO := List (PySem.Addr × PySem.Obj)
abbrev SOV := PySem.Str -> Option PySem.Value
theorem mcm {α : Type} {a b : α} {l : List α} (h : a ∈ l) : a ∈ b :: l := List.mem_cons_of_mem _ h
theorem mcs {α : Type} {a : α} {l : List α} : a ∈ a :: l := List.mem_cons_self
theorem hps {h : PySem.Heap} {o p : PySem.Obj} {b : PySem.Addr} (e : h.get? b = some o) : (h.push p).get? b = some o := PySem.Heap.get?_push_of_some _ e
set_option Elab.async false
set_option linter.all false
set_option maxRecDepth 100000
namespace L2
open PySem PySem.Spec PyProof.Rows
abbrev Key := Sum Int Str
def keyIs : Key -> Value -> Bool
 | .inl k,v=>Value.isInt k v
 | .inr x,v=>Value.isStrOf x v
def keyH (w : World) : Key -> Int
 | .inl k=>hashInt k
 | .inr x=>hashStr w x
theorem keyIs_shape : ∀ {k : Key} {v : Value},keyIs k v = true -> (∃ i t,k = Sum.inl i /\ v = Value.int i t) \/ (∃ x t,k = Sum.inr x /\ v = Value.str x t)
 | .inl i,v,h=>by obtain ⟨t,e⟩ := Value.isInt_shape (k := i) (v := v) h;exact .inl ⟨i,t,rfl,e⟩
 | .inr x,v,h=>by obtain ⟨t,e⟩ := Value.isStrOf_shape (x := x) (v := v) h;exact .inr ⟨x,t,rfl,e⟩
theorem keyIs_int (i : Int) (t : Tok) : keyIs (.inl i) (.int i t) = true := by simp [keyIs,Value.isInt]
theorem keyIs_str (x : Str) (t : Tok) : keyIs (.inr x) (.str x t) = true := by simp [keyIs,Value.isStrOf]
theorem key_ll (a b : Int) : decide ((Sum.inl a : Key) = Sum.inl b) = (a == b) := by
 by_cases e : a = b
 . subst e;simp
 . have h : ¬ (Sum.inl a : Key) = Sum.inl b := fun q=>e (Sum.inl.inj q);rw [decide_eq_false h];exact (beq_eq_false_iff_ne.mpr e).symm
theorem key_rr (a b : Str) : decide ((Sum.inr a : Key) = Sum.inr b) = decide (a = b) := by
 by_cases e : a = b
 . subst e;simp
 . have h : ¬ (Sum.inr a : Key) = Sum.inr b := fun q=>e (Sum.inr.inj q);rw [decide_eq_false h,decide_eq_false e]
theorem key_lr (a : Int) (b : Str) : decide ((Sum.inl a : Key) = Sum.inr b) = false := decide_eq_false (fun q=>nomatch q)
theorem key_rl (a : Str) (b : Int) : decide ((Sum.inr a : Key) = Sum.inl b) = false := decide_eq_false (fun q=>nomatch q)
def mixKind (prog : Program) (w : World) : PySem.KeyKind prog w Key where
 is := keyIs
 hash := keyH w
 inj := fun v a b ha hb=>by
  rcases keyIs_shape ha with ⟨i,t,rfl,rfl⟩ | ⟨x,t,rfl,rfl⟩
  . rcases keyIs_shape hb with ⟨j,u,rfl,e⟩ | ⟨y,u,rfl,e⟩
    . injection e with e1 _;rw [e1]
    . exact nomatch e
  . rcases keyIs_shape hb with ⟨j,u,rfl,e⟩ | ⟨y,u,rfl,e⟩
    . exact nomatch e
    . injection e with e1 _;rw [e1]
 byValue := fun k v h=>by rcases keyIs_shape h with ⟨i,t,rfl,rfl⟩ | ⟨x,t,rfl,rfl⟩ <;> rfl
 pyHash := fun hv h=>by
  rcases keyIs_shape hv with ⟨i,t,rfl,rfl⟩ | ⟨x,t,rfl,rfl⟩
  . exact wpAny_pyHash_int h
  . exact wpAny_pyHash_str h
 eqBool := fun hu hv h=>by
  rcases keyIs_shape hu with ⟨i,t,rfl,rfl⟩ | ⟨x,t,rfl,rfl⟩
  . rcases keyIs_shape hv with ⟨j,u,rfl,rfl⟩ | ⟨y,u,rfl,rfl⟩
    . rw [key_ll] at h;exact wpAny_eqBool_int h
    . rw [key_lr] at h;exact SeqAt.EqAt.int_str i t y u _ _ _ _ h
  . rcases keyIs_shape hv with ⟨j,u,rfl,rfl⟩ | ⟨y,u,rfl,rfl⟩
    . rw [key_rl] at h;exact SeqAt.EqAt.str_int x t j u _ _ _ _ h
    . rw [key_rr] at h;exact wpAny_eqBool_str h
 «strs» := fun k x t v h=>by
  rcases keyIs_shape h with ⟨i,u,rfl,e⟩ | ⟨y,u,rfl,e⟩
  . exact nomatch e
  . injection e with e1 _
    subst e1;cases v <;> rfl
theorem mixKind_int (prog : Program) (w : World) (i : Int) (t : Tok) : (mixKind prog w).is (.inl i) (.int i t) = true := keyIs_int i t
theorem mixKind_str (prog : Program) (w : World) (x : Str) (t : Tok) : (mixKind prog w).is (.inr x) (.str x t) = true := keyIs_str x t
inductive V where
 | non | bl (b : Bool) | int (i : Int) | str (x : Str) | byt (b : Array UInt8) | flt (b : UInt64) | ref (a : Addr) | ty (n : String)
 deriving DecidableEq
def RelV : V -> Value -> Prop
 | .non,u=>u = Value.none
 | .bl b,u=>u = Value.bool b
 | .int i,u=>∃ t,u = Value.int i t
 | .str x,u=>∃ t,u = Value.str x t
 | .byt b,u=>∃ t,u = Value.bytes b t
 | .flt b,u=>∃ t,u = Value.float b t
 | .ref a,u=>u = Value.ref a
 | .ty n,u=>u = Value.type n
abbrev Vals : List V -> List Value -> Prop := Paired RelV
theorem Vals.length {xs : List V} {us : List Value} (r : Vals xs us) : xs.length = us.length := Paired.length r
theorem Vals.get : ∀ {xs : List V} {us : List Value} {i : Nat} {x : V},Vals xs us -> xs[i]? = some x -> ∃ u,us[i]? = some u /\ RelV x u
 | _,_,_,_,.nil,e=>by simp at e
 | _,_,0,_,.cons r _,e=>by simp at e;subst e;exact ⟨_,rfl,r⟩
 | _,_,i + 1,x,.cons _ t,e=>by
  obtain ⟨u,h1,h2⟩ := Vals.get (i := i) (x := x) t (by simpa using e)
  exact ⟨u,by simpa using h1,h2⟩
theorem Vals.append : ∀ {xs ys : List V} {us ws : List Value},Vals xs us -> Vals ys ws -> Vals (xs ++ ys) (us ++ ws)
 | _,_,_,_,.nil,s=>s
 | _,_,_,_,.cons r t,s=>.cons r (Vals.append t s)
theorem Vals.take : ∀ {xs : List V} {us : List Value} (n : Nat),Vals xs us -> Vals (xs.take n) (us.take n)
 | _,_,0,_=>.nil
 | _,_,_ + 1,.nil=>.nil
 | _,_,n + 1,.cons r t=>.cons r (Vals.take n t)
theorem Vals.drop : ∀ {xs : List V} {us : List Value} (n : Nat),Vals xs us -> Vals (xs.drop n) (us.drop n)
 | _,_,0,r=>r
 | _,_,_ + 1,.nil=>.nil
 | _,_,n + 1,.cons _ t=>Vals.drop n t
def RelO : Option V -> Option Value -> Prop
 | some v,some u=>RelV v u
 | none,none=>True
 | _,_=>False
def KV {κ : Type} : List (κ × V) -> List (κ × Value) -> Prop := Paired fun (p : κ × V) (q : κ × Value)=>p.1 = q.1 /\ RelV p.2 q.2
def kV : Key -> V
 | .inl i=>.int i
 | .inr x=>.str x
inductive HO where
 /-- a list -/
 | lst (xs : List V)
 /-- a tuple (never changes) -/
 | tup (xs : List V)
 /-- a dict whose keys are ints and texts;one whose keys are tuples of ints and texts (the empty one is both) -/
 | dK (kvs : List (Key × V)) | dT (kvs : List (List Key × V))
 /-- a set of ints: its members,its size -/
 | set (S : Key -> Bool) (n : Nat)
 /-- an instance of the class at C,its dict at dx,its attributes -/
 | ins (C dx : Addr) (fs : List (Str × V))
 /-- the dict of the instance at x -/
 | own (x : Addr)
 /-- the dict of an exception -/
 | xd (fs : List (Str × V))
 /-- a bound method,f of x -/
 | met (f x : Addr)
 /-- a range object lo,lo + 1,.. below hi -/
 | rng (lo hi : Int)
 /-- a thing that is known to the object (the script;a dict while a loop walks it): read,never written while it is so -/
 | frz (o : Obj) (u : HO)
 /-- a code object's table -/
 | tbl (ps : Array Value)
 /-- any other thing,by what is true of its one object (a def of one's own: SetO a S n := HO.ext fun h=>..) -/
 | ext (φ : Heap -> Prop)
abbrev Hp := Addr -> Option HO
def upd (H : Hp) (a : Addr) (o : HO) : Hp := fun b=>if b = a then some o else H b
theorem upd_same {H : Hp} {a : Addr} {o : HO} : upd H a o a = some o := by unfold upd;rw [if_pos rfl]
theorem upd_ne {H : Hp} {a b : Addr} {o : HO} (h : b ≠ a) : upd H a o b = H b := by unfold upd;rw [if_neg h]
theorem ne_of {H : Hp} {a b : Addr} {o u : HO} (h : H a = some o) (h' : H b = some u) (d : o ≠ u) : a ≠ b := by intro e;subst e;rw [h] at h';exact d (Option.some.inj h')
theorem ne_of_none {H : Hp} {a b : Addr} {o : HO} (h : H a = some o) (h' : H b = none) : a ≠ b := by intro e;subst e;rw [h] at h';cases h'
def PlainTp (h : Heap) (a : Addr) (items : Array Value) : Prop := ∃ o,h.get? a = some o /\ o.cls = .type "tuple" /\ o.dict = none /\ ∃ n,o.data = .seq items n
theorem PlainTp.isTup {h : Heap} {a : Addr} {items : Array Value} (x : PlainTp h a items) : IsTup h a items := by obtain ⟨o,e,c,_,n,d⟩ := x;exact ⟨o,e,c,n,d⟩
theorem PlainTp.new (h : Heap) (items : Array Value) : PlainTp (h.push { cls := .type "tuple", data := .seq items }) h.objs.size items := ⟨_,Heap.get?_push_size _ rfl,rfl,rfl,_,rfl⟩
section
variable (P : Program) (w : World)
def ObjOk (H : Hp) (h : Heap) (a : Addr) : HO -> Prop
 | .lst xs=>xs.length <= sizeLine /\ ∃ (its : List Value) (n : Nat),Vals xs its /\ h.get? a = some { cls := .type "list", data := .seq its.toArray n }
 | .tup xs=>xs.length <= sizeLine /\ ∃ its : List Value,Vals xs its /\ PlainTp h a its.toArray
 | .dK kvs=>kvs.length <= sizeLine /\ (a == sysModules) = false /\ ∃ vs,KV kvs vs /\ h.DictOf (mixKind P w) a vs
 | .dT kvs => kvs.length ≤ sizeLine ∧ (a == sysModules) = false ∧ ∃ xs : List (List Key × Addr × Value),
     Paired (fun (p : List Key × V) (q : List Key × Addr × Value)=>p.1 = q.1 /\ H q.2.1 = some (.tup (p.1.map kV)) /\ RelV p.2 q.2.2) kvs xs /\
     ∃ o es ep,h.get? a = some o /\ o.ExactDict /\ o.data = .dict es ep /\ es.toList = xs.map (entryOfKey (tupleKind (mixKind P w))) /\ (xs.map (·.1)).Nodup
 | .set S n=>h.SetOf (mixKind P w) a S n
 | .ins C dx fs => H dx = some (.own a) ∧ fs.length ≤ 1000 ∧ dx ≠ a ∧ h.get? a = some (PySem.W.instObj C dx) ∧
     ∃ mA,h.Ns1 dx mA /\ (∀ f,RelO (fs.lookup f) (mA f)) /\ PySem.Within mA (fs.map (·.1))
 | .own _=>∃ o,h.get? a = some o
 | .xd fs=>∃ mA,h.Ns1 a mA /\ ∀ f,RelO (fs.lookup f) (mA f)
 | .rng lo hi=>∃ t u v,h.get? a = some { cls := .type "range", data := .fields #[.int lo t,.int hi u,.int 1 v] }
 | .frz o u=>h.get? a = some o /\ ObjOk H h a u
 | .tbl ps=>h.get? a = some { cls := .none,data := .fields ps }
 | .met f x=>h.get? a = some (PySem.W.methodObj (.ref f) (.ref x))
 | .ext φ=>φ h /\ (∃ o,h.get? a = some o) /\ ∀ h1 h2 : Heap,φ h1 -> (∀ o,h1.get? a = some o -> h2.get? a = some o) -> φ h2
def HOk (H : Hp) (h : Heap) : Prop := ∀ a o,H a = some o -> ObjOk P w H h a o
end
section
variable {P : Program} {w : World} {H H' : Hp} {h h' : Heap} {a : Addr} {o : HO}
theorem ObjOk.lt (x : ObjOk P w H h a o) : a < h.objs.size := by
 cases o with
 | lst xs=>obtain ⟨_,_,_,_,e⟩ := x;exact Heap.lt_size e
 | tup xs=>obtain ⟨_,_,_,p⟩ := x;exact p.isTup.lt
 | dK kvs=>obtain ⟨_,_,_,_,o,_,_,e,_⟩ := x;exact Heap.lt_size e
 | dT kvs=>obtain ⟨_,_,_,_,o,_,_,e,_⟩ := x;exact Heap.lt_size e
 | set S n=>obtain ⟨o,_,_,_,e,_⟩ := x;exact Heap.lt_size e
 | ins C dx fs=>obtain ⟨_,_,_,e,_⟩ := x;exact Heap.lt_size e
 | own y=>obtain ⟨_,e⟩ := x;exact Heap.lt_size e
 | xd fs=>obtain ⟨_,⟨_,_,_,e,_⟩,_⟩ := x;exact Heap.lt_size e
 | rng lo hi=>obtain ⟨_,_,_,e⟩ := x;exact Heap.lt_size e
 | frz ob u=>obtain ⟨e,_⟩ := x;exact Heap.lt_size e
 | tbl ps=>exact Heap.lt_size (show h.get? a = some _ from x)
 | met f y=>exact Heap.lt_size (show h.get? a = some _ from x)
 | ext φ=>obtain ⟨_,⟨_,e⟩,_⟩ := x;exact Heap.lt_size e
theorem Paired.mapP {α β : Type} {F G : α -> β -> Prop} : ∀ {l₁ : List α} {l₂ : List β},Paired F l₁ l₂ -> (∀ a b,F a b -> G a b) -> Paired G l₁ l₂
 | _,_,.nil,_=>.nil
 | _,_,.cons r t,f=>.cons (f _ _ r) (Paired.mapP t f)
theorem ObjOk.stay (x : ObjOk P w H h a o) (k : ∀ b u,(b = a \/ H b = some (.own a)) -> h.get? b = some u -> h'.get? b = some u) (ho : ∀ b,H b = some (.own a) -> H' b = some (.own a)) (ht : ∀ b xs,H b = some (.tup xs) -> H' b = some (.tup xs)) : ObjOk P w H' h' a o := by
 induction o with
 | lst xs=>obtain ⟨z,its,n,r,e⟩ := x;exact ⟨z,its,n,r,k _ _ (.inl rfl) e⟩
 | tup xs=>obtain ⟨z,its,r,ob,e,c⟩ := x;exact ⟨z,its,r,ob,k _ _ (.inl rfl) e,c⟩
 | dK kvs=>obtain ⟨z,y,vs,r,ob,es,ep,e,c⟩ := x;exact ⟨z,y,vs,r,ob,es,ep,k _ _ (.inl rfl) e,c⟩
 | dT kvs=>obtain ⟨z,y,xs,r,ob,es,ep,e,c⟩ := x;exact ⟨z,y,xs,Paired.mapP r fun p q z=>⟨z.1,ht _ _ z.2.1,z.2.2⟩,ob,es,ep,k _ _ (.inl rfl) e,c⟩
 | set S n=>obtain ⟨ob,es,ep,t,e,c⟩ := x;exact ⟨ob,es,ep,t,k _ _ (.inl rfl) e,c⟩
 | ins C dx fs=>obtain ⟨d,z,ne,e,mA,⟨od,es,ep,e2,c⟩,r⟩ := x;exact ⟨ho _ d,z,ne,k _ _ (.inl rfl) e,mA,⟨od,es,ep,k _ _ (.inr d) e2,c⟩,r⟩
 | own y=>obtain ⟨ob,e⟩ := x;exact ⟨ob,k _ _ (.inl rfl) e⟩
 | xd fs=>obtain ⟨mA,⟨od,es,ep,e,c⟩,r⟩ := x;exact ⟨mA,⟨od,es,ep,k _ _ (.inl rfl) e,c⟩,r⟩
 | rng lo hi=>obtain ⟨t,u,v,e⟩ := x;exact ⟨t,u,v,k _ _ (.inl rfl) e⟩
 | frz ob u ih=>obtain ⟨e,q⟩ := x;exact ⟨k _ _ (.inl rfl) e,ih q⟩
 | tbl ps=>have e : h.get? a = some { cls := .none,data := .fields ps } := x;show h'.get? a = some { cls := .none,data := .fields ps };exact k a _ (.inl rfl) e
 | met f y=>have e : h.get? a = some (PySem.W.methodObj (.ref f) (.ref y)) := x;show h'.get? a = some (PySem.W.methodObj (.ref f) (.ref y));exact k a _ (.inl rfl) e
 | ext φ=>obtain ⟨p,⟨o,e⟩,st⟩ := x;exact ⟨st _ _ p fun o q=>k _ _ (.inl rfl) q,⟨o,k _ _ (.inl rfl) e⟩,st⟩
theorem HOk.lt (x : HOk P w H h) (e : H a = some o) : a < h.objs.size := (x a o e).lt
theorem HOk.fresh (x : HOk P w H h) (e : h.objs.size <= a) : H a = none := by
 cases q : H a with
 | none=>rfl
 | some u=>exact absurd (Nat.lt_of_lt_of_le (x.lt q) e) (Nat.lt_irrefl _)
theorem HOk.kept (x : HOk P w H h) (k : ∀ b u,h.get? b = some u -> h'.get? b = some u) : HOk P w H h' := fun a o e =>
 (x a o e).stay (fun b u _ q=>k b u q) (fun _ q=>q) fun _ _ q=>q
theorem HOk.laid (x : HOk P w H h) (k : ∀ b u,h.get? b = some u -> h'.get? b = some u) (hp : h.objs.size <= a) (new : ObjOk P w (upd H a o) h' a o) : HOk P w (upd H a o) h' := fun b u e=>by
 have hn := x.fresh hp;by_cases hb : b = a
 . subst hb;rw [upd_same] at e;cases e;exact new
 . rw [upd_ne hb] at e;exact (x b u e).stay (fun c v _ q=>k c v q) (fun c q=>by rw [upd_ne (ne_of_none q hn)];exact q) fun c xs q=>by rw [upd_ne (ne_of_none q hn)];exact q
end
def Rd (H : Hp) (a : Addr) (u : HO) : Prop := H a = some u \/ ∃ o,H a = some (.frz o u)
theorem Rd.ok {P : Program} {w : World} {H : Hp} {h : Heap} {a : Addr} {u : HO} (r : Rd H a u) (x : HOk P w H h) : ObjOk P w H h a u := by
 rcases r with r | ⟨o,r⟩
 . exact x a u r
 . obtain ⟨_,q⟩ := x a _ r;exact q
def Mut : Option HO -> Prop
 | some (.lst _)=>True
 | some (.dK _)=>True
 | some (.dT _)=>True
 | some (.set _ _)=>True
 | some (.ins _ _ _)=>True
 | some (.ext _)=>True
 | _=>False
section
variable {P : Program} {w : World} {H : Hp} {h h' : Heap} {x e : Addr} {o' : HO}
theorem HOk.write (ok : HOk P w H h) (mu : Mut (H x)) (he : e = x \/ H e = some (.own x)) (k : ∀ b u,b ≠ e -> h.get? b = some u -> h'.get? b = some u) (heo : ∃ u,h'.get? e = some u) (new : ObjOk P w (upd H x o') h' x o') : HOk P w (upd H x o') h' := fun b u q=>by
 have nown : ∀ c y,H c = some (.own y) -> c ≠ x := fun c y r z=>by subst z;rw [r] at mu;exact mu
 have ntup : ∀ c xs,H c = some (.tup xs) -> c ≠ x := fun c xs r z=>by subst z;rw [r] at mu;exact mu
 by_cases hb : b = x
 . subst hb;rw [upd_same] at q;cases q;exact new
 . rw [upd_ne hb] at q;by_cases hbe : b = e
   . have q' : H b = some (.own x) := by
       rcases he with z | z
       . exact absurd (hbe.trans z) hb
       . rw [hbe];exact z
     rw [q] at q';cases q';obtain ⟨v,hv⟩ := heo;exact ⟨v,by rw [hbe];exact hv⟩
   . refine (ok b u q).stay (fun c v hc r=>k c v ?_ r) (fun c r=>by rw [upd_ne (nown c b r)];exact r) fun c xs r=>by rw [upd_ne (ntup c xs r)];exact r
     rcases hc with rfl | hc
     . exact hbe
     . rintro rfl;rcases he with z | z
       . exact nown c b hc z
       . rw [hc] at z;cases z;exact hb rfl
end
structure Un (fs ex : List Addr) (H H' : Hp) (h h' : Heap) : Prop where
 keep : ∀ b o,h.get? b = some o -> H b = none -> b ∉ fs -> b ∉ ex -> h'.get? b = some o
 slot : ∀ b o,h.get? b = some o -> H b = none -> b ∈ fs -> b ∉ ex -> ∃ sl,h'.get? b = some { o with slots := sl }
 free : ∀ b o,h.get? b = some o -> H b = none -> b ∉ ex -> H' b = none
 there : ∀ b o,h.get? b = some o -> b ∉ ex -> ∃ o',h'.get? b = some o'
 tups : ∀ b xs,H b = some (.tup xs) -> H' b = some (.tup xs)
 frzs : ∀ b o u,H b = some (.frz o u) -> H' b = some (.frz o u)
 tbls : ∀ b ps,H b = some (.tbl ps) -> ∃ more,H' b = some (.tbl (ps ++ more))
section
variable {fs fs' ex ex' : List Addr} {H H1 H2 : Hp} {h h1 h2 h' : Heap} {a x e : Addr} {o : HO}
theorem Un.any (u : Un fs ex H H1 h h1) {b : Addr} {ob : Obj} (q : h.get? b = some ob) (n : H b = none) (hx : b ∉ ex) : ∃ sl,h1.get? b = some { ob with slots := sl } := by
 by_cases hb : b ∈ fs
 . exact u.slot b ob q n hb hx
 . exact ⟨ob.slots,u.keep b ob q n hb hx⟩
theorem Un.kept (k : ∀ b u,h.get? b = some u -> h'.get? b = some u) : Un fs ex H H h h' :=
 ⟨fun b ob q _ _ _=>k b ob q,fun b ob q _ _ _=>⟨ob.slots,k b ob q⟩,fun _ _ _ n _=>n,fun b ob q _=>⟨ob,k b ob q⟩,fun _ _ q=>q,fun _ _ _ q=>q,fun _ ps q=>⟨#[],by rw [q];simp⟩⟩
theorem Un.refl : Un fs ex H H h h := Un.kept fun _ _ q=>q
theorem Un.laid (k : ∀ b u,h.get? b = some u -> h'.get? b = some u) (hp : h.objs.size <= a) (hn : H a = none) : Un fs ex H (upd H a o) h h' where
 keep := fun b u q _ _ _=>k b u q
 slot := fun b u q _ _ _=>⟨u.slots,k b u q⟩
 free := fun b u q n _=>by rw [upd_ne (Nat.ne_of_lt (Nat.lt_of_lt_of_le (Heap.lt_size q) hp))];exact n
 there := fun b u q _=>⟨u,k b u q⟩
 tups := fun b xs q=>by rw [upd_ne (ne_of_none q hn)];exact q
 frzs := fun b u xs q=>by rw [upd_ne (ne_of_none q hn)];exact q
 tbls := fun b ps q=>⟨#[],by rw [upd_ne (ne_of_none q hn),q];simp⟩
theorem Un.write (mu : Mut (H x)) (he : e = x \/ H e = some (.own x)) (k : ∀ b u,b ≠ e -> h.get? b = some u -> h'.get? b = some u) (heo : ∃ u,h'.get? e = some u) : Un fs ex H (upd H x o) h h' := by
 have hx : ∀ b,H b = none -> b ≠ x := fun b n z=>by subst z;rw [n] at mu;exact mu
 have hb : ∀ b,H b = none -> b ≠ e := fun b n z=>by
  subst z;rcases he with r | r
  . exact hx b n r
  . rw [n] at r;cases r
 have hm : ∀ b u,H b = some u -> ¬ Mut (some u) -> b ≠ x := fun b u q nm z=>by subst z;rw [q] at mu;exact nm mu
 refine ⟨fun b u q n _ _=>k b u (hb b n) q,fun b u q n _ _=>⟨u.slots,k b u (hb b n) q⟩,fun b u q n _=>by rw [upd_ne (hx b n)];exact n,fun b u q _=>?_,
  fun b xs q=>by rw [upd_ne (hm b _ q fun z=>z)];exact q,fun b u xs q=>by rw [upd_ne (hm b _ q fun z=>z)];exact q,fun b ps q=>⟨#[],by rw [upd_ne (hm b _ q fun z=>z),q];simp⟩⟩
 by_cases hbe : b = e
 . subst hbe;exact heo
 . exact ⟨u,k b u hbe q⟩
end
def trk (h : Heap) (H : Hp) : List Addr := (List.range h.objs.size).filter fun a=>(H a).isSome
def hidT (h : Heap) (H : Hp) : Heap := PySem.W.hideAll h (trk h H)
theorem hidT_size (h : Heap) (H : Hp) : (hidT h H).objs.size = h.objs.size := PySem.W.hideAll_size _ _
theorem hidT_get {h : Heap} {H : Hp} {b : Addr} {o : Obj} (e : h.get? b = some o) (n : H b = none) : (hidT h H).get? b = some o :=
 PySem.W.hideAll_get _ e fun hm=>by have q : (H b).isSome = true := (List.mem_filter.mp hm).2;rw [n] at q;simp at q
theorem of_hidT {h : Heap} {H : Hp} {b : Addr} {o : Obj} (e : (hidT h H).get? b = some o) : h.get? b = some o /\ H b = none := by
 have e' : h.get? b = some o := PySem.W.of_hideAll (trk h H) e;refine ⟨e',?_⟩;cases q : H b with
 | none=>rfl
 | some x =>
  have hm : b ∈ trk h H := List.mem_filter.mpr ⟨List.mem_range.mpr (Heap.lt_size e'),by simp [q]⟩
  have z : (hidT h H).get? b = none := PySem.W.hideAll_none (trk h H) hm;rw [z] at e;cases e
def allNews (g h : Heap) (L : Addr) : LAO := (List.range h.objs.size).filterMap fun a=>if a = L \/ (g.get? a).isSome = true then none else (h.get? a).map fun o=>(a,o)
def rest (g h : Heap) (L d : Addr) : LAO := (allNews g h L).filter fun p=>decide (p.1 ≠ d)
structure Mod (K : Fg) (mg : SOV) (base : Heap) : Prop where
 kin : K.In base
 glob : base.Ns mainGlobals mg
 blt : ∃ mb,base.Ns builtinsNs mb /\ ∀ x : Str,x ≠ "__name__" -> mb x = bootBuiltins x
 nolimit : base.NoLimit
structure Cx where
 prog : Program
 w : World
 K : Fg
 mg : SOV
 base : Heap
 A : Around
 N : List Str
 s₀ : Shared
 H₀ : Hp
 env : Env
 outer : List Env
 stack : List Env
 ex : List Addr
 fn : Str -> Bool
 calm : Bool
 pn : LAO
 xe : VSP
def frs (l : List Env) : List Addr := l.filterMap (·.frame)
abbrev Cx.fs (X : Cx) : List Addr := frs X.outer
def Vis (sc : Scope) (x : Str) : Prop := sc.names.lookup x = some .local \/ sc.names.lookup x = some .cell \/ sc.names.lookup x = some .free
def Loc (sc : Scope) (x : Str) : Prop := sc.names.lookup x = some .local \/ sc.names.lookup x = some .cell
def Look (env : Env) (h : Heap) (m : SOV) (x : Str) (u : Value) : Prop :=
 (env.kindOf x = some .local /\ m x = some u) \/ ((env.kindOf x = some .cell \/ env.kindOf x = some .free) /\ ∃ c,env.cells.lookup x = some c /\ h.IsCell c (some u))
structure Cx.Ok (X : Cx) : Prop where
 mod : Mod X.K X.mg X.base
 kind : X.env.scope.kind = .function
 glob : X.env.globals = mainGlobals
 blt : X.env.builtins = builtinsNs
 above : X.s₀.heap.objs.size <= X.env.locals
 inj : ∀ x y c,X.env.cells.lookup x = some c -> X.env.cells.lookup y = some c -> x = y
 has : ∀ x,(X.env.kindOf x = some .cell \/ X.env.kindOf x = some .free) -> ∃ c,X.env.cells.lookup x = some c
 cab : ∀ x c,X.fn x = true -> X.env.cells.lookup x = some c -> X.s₀.heap.objs.size <= c
 hd : X.calm = true -> X.A.handled = none
 frames : X.A.frames = some X.stack
 stk : X.stack = X.outer \/ (X.stack = X.env :: X.outer /\ X.env.frame = some X.env.locals)
 exf : ∀ b ∈ X.ex,b ≠ X.env.locals /\ ∀ x c,X.env.cells.lookup x = some c -> c ≠ b
 bs : ∀ b o,X.base.get? b = some o -> X.s₀.heap.get? b = some o /\ X.H₀ b = none
 bsz : X.base.objs.size <= X.s₀.heap.objs.size
 noex : ∀ b o,X.base.get? b = some o -> b ∉ X.ex
 exfs : ∀ b ∈ X.ex,b ∉ X.fs
 funs : X.s₀.heap.FunFrames X.base X.outer
 frf : ∀ b ∈ X.fs,X.H₀ b = none
structure Inv (X : Cx) (pins : LAO) (σ : List (Option V)) (H : Hp) (s : Shared) : Prop where
 ok : X.Ok
 os : s.os = X.s₀.os
 bare : AllBare s.gens
 base : Un X.fs X.ex X.H₀ H X.s₀.heap s.heap
 loc : ∃ m,s.heap.Ns X.env.locals m /\ ∀ (i : Nat) (x : Str) (v : V),X.N[i]? = some x -> σ[i]? = some (some v) -> Vis X.env.scope x -> ∃ u,RelV v u /\ Look X.env s.heap m x u
 cell : ∀ x c,X.env.cells.lookup x = some c -> ∃ v,s.heap.IsCell c v
 free : H X.env.locals = none
 freeC : ∀ x c,X.env.cells.lookup x = some c -> H c = none
 pin : ∀ p ∈ X.pn ++ pins,s.heap.get? p.1 = some p.2 /\ H p.1 = none /\ p.1 ≠ X.env.locals /\ p.1 ∉ X.fs /\ ∀ v,p.2.data ≠ .cell v
 hok : HOk X.prog X.w H s.heap
 len : σ.length = X.N.length
section
variable {X : Cx} {pins : LAO} {σ : List (Option V)} {H H' : Hp} {s : Shared} {h' : Heap}
theorem Cx.Ok.nofr (ok : X.Ok) {b : Addr} {o : Obj} (e : X.base.get? b = some o) : b ∉ X.fs := fun hb=>by have := (ok.funs.mem hb).1;rw [e] at this;cases this
theorem Inv.bs (I : Inv X pins σ H s) : ∀ b o,X.base.get? b = some o -> s.heap.get? b = some o /\ H b = none := fun b o e =>
 ⟨I.base.keep b o (I.ok.bs b o e).1 (I.ok.bs b o e).2 (I.ok.nofr e) (I.ok.noex b o e),I.base.free b o (I.ok.bs b o e).1 (I.ok.bs b o e).2 (I.ok.noex b o e)⟩
theorem Inv.bk (I : Inv X pins σ H s) : ∀ b o,X.base.get? b = some o -> s.heap.get? b = some o := fun b o e=>(I.bs b o e).1
theorem Inv.mod (I : Inv X pins σ H s) : Mod X.K X.mg X.base := I.ok.mod
theorem Inv.kIn (I : Inv X pins σ H s) : X.K.In s.heap := I.ok.mod.kin.keeps I.bk
theorem Inv.lt (I : Inv X pins σ H s) : X.env.locals < s.heap.objs.size := let ⟨_,hn,_⟩ := I.loc;hn.lt
theorem Inv.sz (I : Inv X pins σ H s) : X.s₀.heap.objs.size <= s.heap.objs.size := Nat.le_trans I.ok.above (Nat.le_of_lt I.lt)
theorem Inv.nofs (I : Inv X pins σ H s) {a : Addr} (h : s.heap.objs.size <= a) : a ∉ X.fs := fun hb=>by obtain ⟨_,o,ho,_⟩ := I.ok.funs.mem hb;exact absurd (Nat.lt_of_lt_of_le (Heap.lt_size ho) (Nat.le_trans I.sz h)) (Nat.lt_irrefl _)
theorem Inv.cne (I : Inv X pins σ H s) : ∀ x c,X.env.cells.lookup x = some c -> c ≠ X.env.locals := fun x c e z=>by obtain ⟨v,o,ho,hd⟩ := I.cell x c e;obtain ⟨m,⟨o',es,ep,ho',hd',_⟩,_⟩ := I.loc;rw [z,ho'] at ho;cases ho;rw [hd'] at hd;cases hd
theorem Inv.funs (I : Inv X pins σ H s) : s.heap.FunFrames X.base X.outer := by
 have all : ∀ (l : List Env),(∀ b ∈ frs l,b ∈ X.fs) -> X.s₀.heap.FunFrames X.base l -> s.heap.FunFrames X.base l := by
  intro l
  induction l with
  | nil=>intro _ _;trivial
  | cons env r ih =>
   intro hs hl;obtain ⟨hk,⟨L,o,hf,hn,ho,hd⟩,hr⟩ := hl;have hL : L ∈ X.fs := hs L (by unfold frs;rw [List.filterMap_cons,hf];exact mcs)
   obtain ⟨sl,e⟩ := I.base.slot L o ho (I.ok.frf L hL) hL fun z=>I.ok.exfs L z hL;exact ⟨hk,⟨L,_,hf,hn,e,hd⟩,ih (fun b hb=>hs b (by unfold frs;rw [List.filterMap_cons,hf];exact mcm hb)) hr⟩
 exact all X.outer (fun _ hb=>hb) I.ok.funs
theorem Inv.stack (I : Inv X pins σ H s) : s.heap.FunFrames X.base X.stack := by
 rcases I.ok.stk with e | ⟨e,hf⟩
 . rw [e];exact I.funs
 . rw [e];obtain ⟨m,hn,_⟩ := I.loc;refine .cons (by rw [I.ok.kind];decide) hf hn ?_ I.funs
   exact Heap.get?_none_of_le (Nat.le_trans I.ok.bsz I.ok.above)
theorem Inv.stkSub (I : Inv X pins σ H s) : ∀ b ∈ frs X.stack,b ∈ X.env.locals :: X.fs := fun b hb=>by
 rcases I.ok.stk with e | ⟨e,hf⟩
 . rw [e] at hb;exact mcm hb
 . rw [e] at hb;unfold frs at hb;rw [List.filterMap_cons,hf] at hb;exact hb
theorem Inv.stkFree (I : Inv X pins σ H s) : ∀ b ∈ frs X.stack,H b = none := fun b hb=>by
 rcases List.mem_cons.mp (I.stkSub b hb) with e | hb
 . rw [e];exact I.free
 . obtain ⟨_,o,ho,_⟩ := I.ok.funs.mem hb;exact I.base.free b o ho (I.ok.frf b hb) fun z=>I.ok.exfs b z hb
theorem Inv.step {g' : Array GenState} {t' : Nat} {d' : Drawn} {ch : List Addr} (I : Inv X pins σ H s) (hch : ∀ b ∈ ch,(b ∈ X.ex \/ X.s₀.heap.objs.size <= b) /\ b ≠ X.env.locals /\ (∀ x c,X.env.cells.lookup x = some c -> c ≠ b) /\ ∀ p ∈ X.pn ++ pins,p.1 ≠ b) (keep : ∀ b o,b ≠ X.env.locals -> b ∉ X.fs -> b ∉ ch -> s.heap.get? b = some o -> H b = none -> h'.get? b = some o) (slot : ∀ b o,b ≠ X.env.locals -> b ∈ X.fs -> b ∉ ch -> s.heap.get? b = some o -> H b = none -> ∃ sl,h'.get? b = some { o with slots := sl }) (free : ∀ b o,b ∉ ch -> s.heap.get? b = some o -> H b = none -> H' b = none) (there : ∀ b o,b ∉ ch -> s.heap.get? b = some o -> ∃ o',h'.get? b = some o') (tups : ∀ b xs,H b = some (.tup xs) -> H' b = some (.tup xs)) (frzs : ∀ b o u,H b = some (.frz o u) -> H' b = some (.frz o u)) (tbls : ∀ b ps,H b = some (.tbl ps) -> ∃ more,H' b = some (.tbl (ps ++ more))) (ns : ∀ m,s.heap.Ns X.env.locals m -> h'.Ns X.env.locals m) (hok : HOk X.prog X.w H' h') (hg : AllBare g') : Inv X pins σ H' { s with heap := h',gens := g',drawn := d',toks := t' } := by
 have neL : ∀ b o,X.s₀.heap.get? b = some o -> b ≠ X.env.locals := fun b o e=>Nat.ne_of_lt (Nat.lt_of_lt_of_le (Heap.lt_size e) I.ok.above);have neC : ∀ b o,X.s₀.heap.get? b = some o -> b ∉ X.ex -> b ∉ ch := fun b o e hx hb=>by
  rcases (hch b hb).1 with z | z
  . exact hx z
  . exact absurd (Nat.lt_of_lt_of_le (Heap.lt_size e) z) (Nat.lt_irrefl _)
 have cellK : ∀ x c,X.env.cells.lookup x = some c -> ∀ v,s.heap.IsCell c v -> h'.IsCell c v := fun x c e v ⟨o,ho,hd⟩=>by
  have nch : c ∉ ch := fun z=>(hch c z).2.2.1 x c e rfl;by_cases hc : c ∈ X.fs
  . obtain ⟨sl,q⟩ := slot c o (I.cne x c e) hc nch ho (I.freeC x c e);exact ⟨_,q,hd⟩
  . exact ⟨o,keep c o (I.cne x c e) hc nch ho (I.freeC x c e),hd⟩
 refine ⟨I.ok,I.os,hg,⟨fun b o e n hb hx=>?_,fun b o e n hb hx=>?_,fun b o e n hx=>?_,fun b o e hx=>?_,fun b xs e=>tups b xs (I.base.tups b xs e),fun b o xs e=>frzs b o xs (I.base.frzs b o xs e),fun b ps e=>?_⟩,?_,fun x c e=>?_,?_,fun x c e=>?_,fun p hp=>?_,hok,I.len⟩
 . exact keep b o (neL b o e) hb (neC b o e hx) (I.base.keep b o e n hb hx) (I.base.free b o e n hx)
 . obtain ⟨sl,e1⟩ := I.base.slot b o e n hb hx;obtain ⟨sl',e2⟩ := slot b _ (neL b o e) hb (neC b o e hx) e1 (I.base.free b o e n hx);exact ⟨sl',e2⟩
 . obtain ⟨o',e1⟩ := I.base.there b o e hx;exact free b o' (neC b o e hx) e1 (I.base.free b o e n hx)
 . obtain ⟨o',e1⟩ := I.base.there b o e hx;exact there b o' (neC b o e hx) e1
 . obtain ⟨m1,e1⟩ := I.base.tbls b ps e;obtain ⟨m2,e2⟩ := tbls b _ e1;exact ⟨m1 ++ m2,by rw [e2,Array.append_assoc]⟩
 . obtain ⟨m,hn,hl⟩ := I.loc;refine ⟨m,ns m hn,fun i x v e1 e2 e3=>?_⟩;obtain ⟨u,r,l⟩ := hl i x v e1 e2 e3;refine ⟨u,r,?_⟩;rcases l with l | ⟨k,c,e,z⟩
   . exact .inl l
   . exact .inr ⟨k,c,e,cellK x c e _ z⟩
 . obtain ⟨v,z⟩ := I.cell x c e;exact ⟨v,cellK x c e v z⟩
 . obtain ⟨m,⟨o,_,_,ho,_⟩,_⟩ := I.loc;exact free _ o (fun z=>(hch _ z).2.1 rfl) ho I.free
 . obtain ⟨v,o,ho,hd⟩ := I.cell x c e;exact free c o (fun z=>(hch c z).2.2.1 x c e rfl) ho (I.freeC x c e)
 . obtain ⟨e,n,ne,nf,d⟩ := I.pin p hp;have nch : p.1 ∉ ch := fun z=>(hch p.1 z).2.2.2 p hp rfl;exact ⟨keep p.1 p.2 ne nf nch e n,free p.1 p.2 nch e n,ne,nf,d⟩
theorem Inv.un {t' : Nat} (I : Inv X pins σ H s) (u : Un X.fs [] H H' s.heap h') (hok : HOk X.prog X.w H' h') : Inv X pins σ H' { s with heap := h',toks := t' } := by
 obtain ⟨m,⟨o,es,ep,ho,r⟩,_⟩ := id I.loc;obtain ⟨sl,hL⟩ := u.any ho I.free (by simp)
 exact I.step (g' := s.gens) (d' := s.drawn) (ch := []) (fun _ z=>nomatch z) (fun b o _ hb _ e n=>u.keep b o e n hb (by simp)) (fun b o _ hb _ e n=>u.slot b o e n hb (by simp)) (fun b o _ e n=>u.free b o e n (by simp)) (fun b o _ e=>u.there b o e (by simp)) u.tups u.frzs u.tbls (fun m' hm=>by
  obtain ⟨o',es',ep',ho',r'⟩ := hm;rw [ho] at ho';cases ho';exact ⟨_,es',ep',hL,r'⟩) hok I.bare
theorem Inv.call {g' : Array GenState} {t' : Nat} {d' : Drawn} {ch : List Addr} (I : Inv X pins σ H s) (u : Un (frs X.stack) ch H H' s.heap h') (hok : HOk X.prog X.w H' h') (hg : AllBare g') (hch : ∀ b ∈ ch,(b ∈ X.ex \/ X.s₀.heap.objs.size <= b) /\ b ≠ X.env.locals /\ (∀ x c,X.env.cells.lookup x = some c -> c ≠ b) /\ ∀ p ∈ X.pn ++ pins,p.1 ≠ b) : Inv X pins σ H' { s with heap := h',gens := g',drawn := d',toks := t' } := by
 obtain ⟨m,⟨o,es,ep,ho,r⟩,_⟩ := id I.loc;obtain ⟨sl,hL⟩ := u.any ho I.free fun z=>(hch _ z).2.1 rfl;exact I.step (ch := ch) hch (fun b o hL hb hc e n=>u.keep b o e n (fun z=>(List.mem_cons.mp (I.stkSub b z)).elim hL hb) hc) (fun b o _ _ hc e n=>u.any e n hc) (fun b o hc e n=>u.free b o e n hc) (fun b o hc e=>u.there b o e hc) u.tups u.frzs u.tbls (fun m' hm=>by
  obtain ⟨o',es',ep',ho',r'⟩ := hm;rw [ho] at ho';cases ho';exact ⟨_,es',ep',hL,r'⟩) hok hg
theorem Inv.turned {t' : Nat} {it : Addr} (I : Inv X pins σ H s) (k : ∀ b o,b ≠ it -> s.heap.get? b = some o -> h'.get? b = some o) (hn : H it = none) (hL : it ≠ X.env.locals) (h1 : it ∈ X.ex \/ X.s₀.heap.objs.size <= it) (h2 : ∀ x c,X.env.cells.lookup x = some c -> c ≠ it) (h3 : ∀ p ∈ X.pn ++ pins,p.1 ≠ it) : Inv X pins σ H { s with heap := h',toks := t' } := by
 have nit : ∀ b u,H b = some u -> b ≠ it := fun b u e z=>by rw [z,hn] at e;cases e
 refine I.step (g' := s.gens) (d' := s.drawn) (ch := [it]) (fun b hb=>?_) (fun b o _ _ hc e _=>k b o (fun z=>hc (by simp [z])) e) (fun b o _ _ hc e _=>⟨o.slots,k b o (fun z=>hc (by simp [z])) e⟩) (fun _ _ _ _ n=>n)
  (fun b o hc e=>⟨o,k b o (fun z=>hc (by simp [z])) e⟩) (fun _ _ e=>e) (fun _ _ _ e=>e) (fun b ps e=>⟨#[],by rw [e];simp⟩) (fun m hm=>?_) (fun b u e=>?_) I.bare
 . have e : b = it := by simpa using hb
   subst e;exact ⟨h1,hL,h2,h3⟩
 . obtain ⟨o,es,ep,ho,r⟩ := hm;exact ⟨o,es,ep,k _ o (Ne.symm hL) ho,r⟩
 . refine (I.hok b u e).stay (fun c v hc q=>k c v ?_ q) (fun _ q=>q) fun _ _ q=>q;rcases hc with z | z
   . rw [z];exact nit b u e
   . exact nit c _ z
theorem Inv.tok (I : Inv X pins σ H s) (t : Nat) : Inv X pins σ H { s with toks := t } := I.un (h' := s.heap) (t' := t) Un.refl I.hok
theorem Inv.kept {t' : Nat} (I : Inv X pins σ H s) (k : ∀ b u,s.heap.get? b = some u -> h'.get? b = some u) : Inv X pins σ H { s with heap := h',toks := t' } := I.un (Un.kept k) (I.hok.kept k)
theorem Inv.laid {a : Addr} {o : HO} {t' : Nat} (I : Inv X pins σ H s) (k : ∀ b u,s.heap.get? b = some u -> h'.get? b = some u) (hp : s.heap.objs.size <= a) (new : ObjOk X.prog X.w (upd H a o) h' a o) : Inv X pins σ (upd H a o) { s with heap := h',toks := t' } := I.un (Un.laid k hp (I.hok.fresh hp)) (I.hok.laid k hp new)
theorem Inv.write {x e : Addr} {o : HO} {t' : Nat} (I : Inv X pins σ H s) (mu : Mut (H x)) (he : e = x \/ H e = some (.own x)) (k : ∀ b u,b ≠ e -> s.heap.get? b = some u -> h'.get? b = some u) (heo : ∃ u,h'.get? e = some u) (new : ObjOk X.prog X.w (upd H x o) h' x o) : Inv X pins σ (upd H x o) { s with heap := h',toks := t' } := I.un (Un.write mu he k heo) (I.hok.write mu he k heo new)
theorem Inv.weak {σ' : List (Option V)} (I : Inv X pins σ H s) (hl : σ'.length = σ.length) (w : ∀ (i : Nat) v,σ'[i]? = some (some v) -> σ[i]? = some (some v)) : Inv X pins σ' H s :=
 ⟨I.ok,I.os,I.bare,I.base,let ⟨m,hn,hl'⟩ := I.loc;⟨m,hn,fun i x v e1 e2 e3=>hl' i x v e1 (w i v e2) e3⟩,I.cell,I.free,I.freeC,I.pin,I.hok,hl.trans I.len⟩
theorem Inv.pins_of {pins' : LAO} (I : Inv X pins σ H s) (h : ∀ p ∈ pins',s.heap.get? p.1 = some p.2 /\ H p.1 = none /\ p.1 ≠ X.env.locals /\ p.1 ∉ X.fs /\ ∀ v,p.2.data ≠ .cell v) : Inv X pins' σ H s :=
 ⟨I.ok,I.os,I.bare,I.base,I.loc,I.cell,I.free,I.freeC,fun p hp=>(List.mem_append.mp hp).elim (fun z=>I.pin p (List.mem_append_left _ z)) (h p),I.hok,I.len⟩
theorem nodup_ix {N : List Str} (hN : N.Nodup) {i j : Nat} {x : Str} (a : N[i]? = some x) (b : N[j]? = some x) : i = j := by obtain ⟨h1,e1⟩ := List.getElem?_eq_some_iff.mp a;obtain ⟨h2,e2⟩ := List.getElem?_eq_some_iff.mp b;exact (List.getElem_inj hN).mp (e1.trans e2.symm)
theorem store_ok2 {M : Model} {A : Around} {E : VSP} {i : Nat} {x : Str} {v : V} {u : Value} {Q : Unit -> Shared -> Prop} (I : Inv X pins σ H s) (hN : X.N.Nodup) (hi : X.N[i]? = some x) (hx : Loc X.env.scope x) (r : RelV v u) (h : ∀ s',Inv X pins (σ.set i (some v)) H s' -> (∃ a,Heap.SameBut a s.heap s'.heap /\ (a = X.env.locals \/ X.env.cells.lookup x = some a)) -> Q () s') (hf : X.fn x = true \/ X.env.scope.names.lookup x = some .local := by first | exact .inl rfl | exact .inr rfl | assumption) : wpAny M A (storeName X.env x u) Q E s := by
 obtain ⟨m,hn,hl⟩ := id I.loc;have hcls : (X.env.scope.kind == .class || (X.env.scope.kind == .module && X.env.locals != X.env.globals)) = false := by rw [I.ok.kind];rfl
 have hiσ : i < σ.length := by rw [I.len];exact (List.getElem?_eq_some_iff.mp hi).1
 have cne := I.cne;have tracked : ∀ {a : Addr} {h' : Heap},(∃ o,s.heap.get? a = some o /\ H a = none) -> Heap.SameBut a s.heap h' -> HOk X.prog X.w H h' := fun {a h'} ha hs b ob e=>by
  obtain ⟨_,_,hfree⟩ := ha;refine (I.hok b ob e).stay (fun c w' hc q=>(hs.2 c ?_).trans q) (fun _ q=>q) fun _ _ q=>q;rintro rfl;rcases hc with rfl | hc
  . rw [hfree] at e;cases e
  . rw [hfree] at hc;cases hc
 rcases hx with hk | hk
 . refine wpAny_storeName_local hk hn (fun h' hn' hs=>?_) hcls;obtain ⟨oL,_,_,hoL,_⟩ := id hn;refine h _ ⟨I.ok,I.os,I.bare,⟨fun b o e n hb hx=>?_,fun b o e n hb hx=>?_,I.base.free,fun b o e hx=>?_,I.base.tups,I.base.frzs,I.base.tbls⟩,⟨_,hn',fun j y v' e1 e2 e3=>?_⟩,fun y c e=>?_,I.free,I.freeC,fun p hp=>?_,tracked ⟨oL,hoL,I.free⟩ hs,by simpa using I.len⟩ ⟨_,hs,.inl rfl⟩
   . exact (hs.2 b (Nat.ne_of_lt (Nat.lt_of_lt_of_le (Heap.lt_size e) I.ok.above))).trans (I.base.keep b o e n hb hx)
   . obtain ⟨sl,e1⟩ := I.base.slot b o e n hb hx;exact ⟨sl,(hs.2 b (Nat.ne_of_lt (Nat.lt_of_lt_of_le (Heap.lt_size e) I.ok.above))).trans e1⟩
   . obtain ⟨o',e1⟩ := I.base.there b o e hx;exact ⟨o',(hs.2 b (Nat.ne_of_lt (Nat.lt_of_lt_of_le (Heap.lt_size e) I.ok.above))).trans e1⟩
   . by_cases hj : j = i
     . subst hj;rw [hi] at e1;cases e1;rw [List.getElem?_set_self hiσ] at e2;cases e2;exact ⟨u,r,.inl ⟨hk,by simp⟩⟩
     . rw [List.getElem?_set_ne (Ne.symm hj)] at e2;obtain ⟨u',r',q⟩ := hl j y v' e1 e2 e3;refine ⟨u',r',?_⟩;rcases q with ⟨k,e⟩ | ⟨k,c,e,z⟩
       . refine .inl ⟨k,?_⟩;have : y ≠ x := fun e=>hj (nodup_ix hN e1 (e ▸ hi));simp [this,e]
       . exact .inr ⟨k,c,e,z.sameBut hs (cne y c e)⟩
   . obtain ⟨w',z⟩ := I.cell y c e;exact ⟨w',z.sameBut hs (cne y c e)⟩
   . obtain ⟨e,n,ne,nf,d⟩ := I.pin p hp;exact ⟨(hs.2 p.1 ne).trans e,n,ne,nf,d⟩
 . have hfn : X.fn x = true := by
     rcases hf with z | z
     . exact z
     . rw [z] at hk;cases hk
   obtain ⟨c,hc⟩ := I.ok.has x (.inl hk);obtain ⟨w',z⟩ := I.cell x c hc;refine wpAny_storeName_cell I.ok.kind hk hc z (fun h' hc' hs=>?_);obtain ⟨oc,hoc,hocd⟩ := id z;refine h { s with heap := h' } ⟨I.ok,I.os,I.bare,⟨fun b o e n hb hx=>?_,fun b o e n hb hx=>?_,I.base.free,fun b o e hx=>?_,I.base.tups,I.base.frzs,I.base.tbls⟩,⟨m,hn.sameBut hs (Ne.symm (cne x c hc)),fun j y v' e1 e2 e3=>?_⟩,fun y c' e=>?_,I.free,I.freeC,fun p hp=>?_,tracked ⟨oc,hoc,I.freeC x c hc⟩ hs,by simpa using I.len⟩ ⟨c,hs,.inr hc⟩
   . exact (hs.2 b (Nat.ne_of_lt (Nat.lt_of_lt_of_le (Heap.lt_size e) (I.ok.cab x c hfn hc)))).trans (I.base.keep b o e n hb hx)
   . obtain ⟨sl,e1⟩ := I.base.slot b o e n hb hx;exact ⟨sl,(hs.2 b (Nat.ne_of_lt (Nat.lt_of_lt_of_le (Heap.lt_size e) (I.ok.cab x c hfn hc)))).trans e1⟩
   . obtain ⟨o',e1⟩ := I.base.there b o e hx;exact ⟨o',(hs.2 b (Nat.ne_of_lt (Nat.lt_of_lt_of_le (Heap.lt_size e) (I.ok.cab x c hfn hc)))).trans e1⟩
   . by_cases hj : j = i
     . subst hj;rw [hi] at e1;cases e1;rw [List.getElem?_set_self hiσ] at e2;cases e2;exact ⟨u,r,.inr ⟨.inl hk,c,hc,hc'⟩⟩
     . rw [List.getElem?_set_ne (Ne.symm hj)] at e2;obtain ⟨u',r',q⟩ := hl j y v' e1 e2 e3;refine ⟨u',r',?_⟩;rcases q with q | ⟨k,c',e,z'⟩
       . exact .inl q
       . refine .inr ⟨k,c',e,z'.sameBut hs ?_⟩;rintro rfl;exact hj (nodup_ix hN e1 (I.ok.inj _ _ _ e hc ▸ hi))
   . by_cases hcc : c' = c
     . subst hcc;exact ⟨_,hc'⟩
     . obtain ⟨w2,z2⟩ := I.cell y c' e;exact ⟨w2,z2.sameBut hs hcc⟩
   . obtain ⟨e,n,ne,nf,d⟩ := I.pin p hp;refine ⟨(hs.2 p.1 ?_).trans e,n,ne,nf,d⟩;intro q;rw [q,hoc] at e;have q' : oc = p.2 := Option.some.inj e;exact d w' (by rw [<- q'];exact hocd)
theorem store_ok {M : Model} {A : Around} {E : VSP} {i : Nat} {x : Str} {v : V} {u : Value} {Q : Unit -> Shared -> Prop} (I : Inv X pins σ H s) (hN : X.N.Nodup) (hi : X.N[i]? = some x) (hx : Loc X.env.scope x) (r : RelV v u) (h : ∀ s',Inv X pins (σ.set i (some v)) H s' -> Q () s') (hf : X.fn x = true \/ X.env.scope.names.lookup x = some .local := by first | exact .inl rfl | exact .inr rfl | assumption) : wpAny M A (storeName X.env x u) Q E s :=
 store_ok2 I hN hi hx r (fun s' I' _=>h s' I') hf
theorem Inv.call' {s' : Shared} {ch : List Addr} (I : Inv X pins σ H s) (ho : s'.os = s.os) (u : Un (frs X.stack) ch H H' s.heap s'.heap) (hok : HOk X.prog X.w H' s'.heap) (hg : AllBare s'.gens) (hch : ∀ b ∈ ch,(b ∈ X.ex \/ X.s₀.heap.objs.size <= b) /\ b ≠ X.env.locals /\ (∀ x c,X.env.cells.lookup x = some c -> c ≠ b) /\ ∀ p ∈ X.pn ++ pins,p.1 ≠ b) : Inv X pins σ H' s' := by obtain ⟨h',g',d',t',o'⟩ := s';have e : o' = s.os := ho;subst e;exact I.call (g' := g') (t' := t') (d' := d') u hok hg hch
end
abbrev XK := Value -> Option Addr -> Hp -> Prop
abbrev St := List (Option V)
abbrev VK := V -> Hp -> Prop
abbrev TE := St -> Hp -> VK -> Prop
abbrev TT := St -> Hp -> (Bool -> Hp -> Prop) -> Prop
abbrev TA := St -> Hp -> (List V -> Hp -> Prop) -> Prop
structure Ends where
 nx : St -> Hp -> Prop
 rt : VK
 bk : St -> Hp -> Prop := fun _ _=>False
 ct : St -> Hp -> Prop := fun _ _=>False
abbrev TS := Ends -> St -> Hp -> Prop
def EP (X : Cx) (pins : LAO) (σ : St) (Q : VK) (u : Value) (s' : Shared) : Prop := ∃ v H',Inv X pins σ H' s' /\ RelV v u /\ Q v H'
def TP (X : Cx) (pins : LAO) (σ : St) (Q : Bool -> Hp -> Prop) (b : Bool) (s' : Shared) : Prop := ∃ H',Inv X pins σ H' s' /\ Q b H'
def AP (X : Cx) (pins : LAO) (σ : St) (Q : List V -> Hp -> Prop) (us : List Value) (s' : Shared) : Prop := ∃ vs H',Inv X pins σ H' s' /\ Vals vs us /\ Q vs H'
def SP (X : Cx) (pins : LAO) (D : Ends) (f : Flow) (s' : Shared) : Prop :=
 match f with
 | .next=>∃ σ' H',Inv X pins σ' H' s' /\ D.nx σ' H'
 | .brk=>∃ σ' H',Inv X pins σ' H' s' /\ D.bk σ' H'
 | .cont=>∃ σ' H',Inv X pins σ' H' s' /\ D.ct σ' H'
 | .ret u=>∃ v σ' H',Inv X pins σ' H' s' /\ RelV v u /\ D.rt v H'
def PE (X : Cx) (e : Expr) (t : TE) : Prop :=
 ∀ (pins : LAO) (s : Shared) (σ : St) (H : Hp) (Q : VK),Inv X pins σ H s -> t σ H Q -> wpAny (model X.prog X.w) X.A (eval e X.env) (EP X pins σ Q) X.xe s
def PT (X : Cx) (e : Expr) (t : TT) : Prop :=
 ∀ (pins : LAO) (s : Shared) (σ : St) (H : Hp) (Q : Bool -> Hp -> Prop),Inv X pins σ H s -> t σ H Q -> wpAny (model X.prog X.w) X.A (isTrue e X.env (eval e X.env)) (TP X pins σ Q) X.xe s
def PW (X : Cx) (e : Expr) (t : TT) : Prop :=
 ∀ (whole : Sem Value) (pins : LAO) (s : Shared) (σ : St) (H : Hp) (Q : Bool -> Hp -> Prop),Inv X pins σ H s -> t σ H Q -> wpAny (model X.prog X.w) X.A (isTrue e X.env whole) (TP X pins σ Q) X.xe s
theorem PW.pt {X : Cx} {e : Expr} {t : TT} (h : PW X e t) : PT X e t := h _
def PA (X : Cx) (es : List Expr) (t : TA) : Prop :=
 ∀ (pos : Pos) (pins : LAO) (s : Shared) (σ : St) (H : Hp) (Q : List V -> Hp -> Prop),Inv X pins σ H s -> t σ H Q -> wpAny (model X.prog X.w) X.A (spliced (backTo pos (starEach es X.env))) (AP X pins σ Q) X.xe s
def PS (X : Cx) (st : Stmt) (t : TS) : Prop :=
 ∀ (pins : LAO) (s : Shared) (σ : St) (H : Hp) (D : Ends),Inv X pins σ H s -> t D σ H -> wpAny (model X.prog X.w) X.A (exec st X.env) (SP X pins D) X.xe s
def PSs (X : Cx) (st : List Stmt) (t : TS) : Prop :=
 ∀ (pins : LAO) (s : Shared) (σ : St) (H : Hp) (D : Ends),Inv X pins σ H s -> t D σ H -> wpAny (model X.prog X.w) X.A (execs st X.env) (SP X pins D) X.xe s
theorem thn {α : Type} {t : Sem α} {Q Q' : α -> Shared -> Prop} {M : Model} {A : Around} {E : VSP} {s : Shared} (h : wpAny M A t Q E s) (hQ : ∀ a s,Q a s -> Q' a s) : wpAny M A t Q' E s := wpAny_mono h hQ fun _ _ x=>x
section
variable {X : Cx}
def tVar (i : Nat) : TE := fun σ H Q=>∃ v,σ[i]? = some (some v) /\ Q v H
def tC (v : V) : TE := fun _ H Q=>Q v H
theorem pe_var {i : Nat} {x : Str} {pos : Pos} (hN : X.N[i]? = some x) (hv : Vis X.env.scope x) (hd : (x == ("__debug__" : Str)) = false := by decide) (hcd : (x == ("__classdict__" : Str)) = false := by decide) : PE X (.Name x pos) (tVar i) := by
 intro pins s σ H Q I h;obtain ⟨v,e,h⟩ := h;obtain ⟨m,hn,hl⟩ := I.loc;obtain ⟨u,r,l⟩ := hl i x v hN e hv;have fin : EP X pins σ Q u s := ⟨v,H,I,r,h⟩;rcases l with ⟨hk,hm⟩ | ⟨hk,c,hc,hcell⟩
 . exact wpAny_Name (wpAny_loadName_local I.ok.kind hk hn hm fin) hd
 . rcases hk with hk | hk
   . exact wpAny_Name (wpAny_loadName_cell I.ok.kind hk hc hcell fin) hd
   . exact wpAny_Name (wpAny_loadName_free I.ok.kind hk hc hcell fin hcd) hd
theorem pe_int {i j pos} : PE X (.Constant (.int i) j pos) (tC (.int i)) := fun _ _ _ H _ I h=>wpAny_Constant_int ⟨.int i,H,I.tok _,⟨_,rfl⟩,h⟩
theorem pe_bl {b j pos} : PE X (.Constant (.bool b) j pos) (tC (.bl b)) := fun _ _ _ H _ I h=>Constant_bool ⟨.bl b,H,I,rfl,h⟩
theorem pe_non {j pos} : PE X (.Constant .none j pos) (tC .non) := fun _ _ _ H _ I h=>Constant_none ⟨.non,H,I,rfl,h⟩
theorem pe_str {x j pos} : PE X (.Constant (.str x) j pos) (tC (.str x)) := fun _ _ _ H _ I h=>Calls.Constant_str ⟨.str x,H,I.tok _,⟨_,rfl⟩,h⟩
def Gl (X : Cx) (x : Str) : Prop := X.env.kindOf x = some .globalImplicit
theorem ld_glob {E : VSP} {pins : LAO} {s : Shared} {σ : St} {H : Hp} {x : Str} {u : Value} {pos : Pos} {Q : VSP} (I : Inv X pins σ H s) (hg : Gl X x) (hm : X.mg x = some u) (h : Q u s) (hd : (x == ("__debug__" : Str)) = false := by decide) : wpAny (model X.prog X.w) X.A (eval (.Name x pos) X.env) Q E s :=
 Calls.Name_function_global I.ok.kind hg (Calls.loadGlobal_global (by rw [I.ok.glob];exact I.mod.glob.keeps I.bk) hm h) hd
theorem ld_blt {E : VSP} {pins : LAO} {s : Shared} {σ : St} {H : Hp} {x : Str} {u : Value} {pos : Pos} {Q : VSP} (I : Inv X pins σ H s) (hg : Gl X x) (hm : X.mg x = none) (hv : bootBuiltins x = some u) (h : Q u s) (hn : x ≠ "__name__" := by decide) (hd : (x == ("__debug__" : Str)) = false := by decide) : wpAny (model X.prog X.w) X.A (eval (.Name x pos) X.env) Q E s := by obtain ⟨mb,h1,h2⟩ := I.mod.blt;exact Calls.Name_function_global I.ok.kind hg (Calls.loadGlobal_builtin (by rw [I.ok.glob];exact I.mod.glob.keeps I.bk) hm (by rw [I.ok.blt];exact h1.keeps I.bk) ((h2 x hn).trans hv) h) hd
theorem pe_glob {x : Str} {v : V} {u : Value} {pos : Pos} (hg : Gl X x) (hm : X.mg x = some u) (r : RelV v u) (hd : (x == ("__debug__" : Str)) = false := by decide) : PE X (.Name x pos) (tC v) :=
 fun _ _ _ H _ I h=>ld_glob I hg hm ⟨v,H,I,r,h⟩ hd
theorem pe_bltn {x : Str} {v : V} {u : Value} {pos : Pos} (hg : Gl X x) (hm : X.mg x = none) (hv : bootBuiltins x = some u) (r : RelV v u) (hn : x ≠ "__name__" := by decide) (hd : (x == ("__debug__" : Str)) = false := by decide) : PE X (.Name x pos) (tC v) :=
 fun _ _ _ H _ I h=>ld_blt I hg hm hv ⟨v,H,I,r,h⟩ hn hd
variable {a b : Expr} {ta tb : TE} {pos : Pos}
variable {tA tB' : TT} {rest : List Expr}
def tAnd (t u : TT) : TT := fun σ H Q=>t σ H fun c H1=>if c = true then u σ H1 Q else Q false H1
def tOr (t u : TT) : TT := fun σ H Q=>t σ H fun c H1=>if c = true then Q true H1 else u σ H1 Q
def tNot (t : TT) : TT := fun σ H Q=>t σ H fun c H1=>Q (!c) H1
theorem pw_and1 (ha : PT X a tA) : PW X (.BoolOp .And [a] pos) tA := by
 intro wh pins s σ H Q I h;refine isTrue_and (thn (ha pins s σ H Q I h) fun c s1 e=>?_);cases c with
 | true=>exact isTrue_and_nil e
 | false=>exact e
theorem pw_or1 (ha : PT X a tA) : PW X (.BoolOp .Or [a] pos) tA := by
 intro wh pins s σ H Q I h;refine isTrue_or (thn (ha pins s σ H Q I h) fun c s1 e=>?_);cases c with
 | false=>exact isTrue_or_nil e
 | true=>exact e
theorem pw_and (ha : PT X a tA) (hb : PW X (.BoolOp .And (b :: rest) pos) tB') : PW X (.BoolOp .And (a :: b :: rest) pos) (tAnd tA tB') := by
 intro wh pins s σ H Q I h;refine isTrue_and (thn (ha pins s σ H _ I h) fun c s1 ⟨H1,I1,q1⟩=>?_);cases c with
 | true=>exact hb wh pins s1 σ H1 Q I1 q1
 | false=>exact ⟨H1,I1,q1⟩
theorem pw_or (ha : PT X a tA) (hb : PW X (.BoolOp .Or (b :: rest) pos) tB') : PW X (.BoolOp .Or (a :: b :: rest) pos) (tOr tA tB') := by
 intro wh pins s σ H Q I h;refine isTrue_or (thn (ha pins s σ H _ I h) fun c s1 ⟨H1,I1,q1⟩=>?_);cases c with
 | true=>exact ⟨H1,I1,q1⟩
 | false=>exact hb wh pins s1 σ H1 Q I1 q1
theorem pt_not (ha : PT X a tA) : PT X (.UnaryOp .Not a pos) (tNot tA) := by intro pins s σ H Q I h;exact isTrue_not (ha pins s σ H (fun c H1=>Q (!c) H1) I h)
def tAndV (ta tb : TE) : TE := fun σ H Q=>ta σ H fun x H1=>∃ c,x = .bl c /\ if c = true then tb σ H1 Q else Q (.bl false) H1
def tOrV (ta tb : TE) : TE := fun σ H Q=>ta σ H fun x H1=>∃ c,x = .bl c /\ if c = true then Q (.bl true) H1 else tb σ H1 Q
def tNotV (ta : TE) : TE := fun σ H Q=>ta σ H fun x H1=>∃ c,x = .bl c /\ Q (.bl (!c)) H1
theorem pe_one {op} {t : TE} (h : PE X a t) : PE X (.BoolOp op [a] pos) t := fun pins s σ H Q I hw=>BoolOp_one (h pins s σ H Q I hw)
theorem pe_and (ha : PE X a ta) (hb : PE X (.BoolOp .And (b :: rest) pos) tb) : PE X (.BoolOp .And (a :: b :: rest) pos) (tAndV ta tb) := by
 intro pins s σ H Q I h;refine BoolOp_and (thn (ha pins s σ H _ I h) fun v s1 ⟨x,H1,I1,r1,q1⟩=>?_);obtain ⟨c,rfl,q1⟩ := q1;cases r1;refine wpAny_truthy_bool ?_;cases c with
 | true=>exact hb pins s1 σ H1 Q I1 q1
 | false=>exact ⟨.bl false,H1,I1,rfl,q1⟩
theorem pe_or (ha : PE X a ta) (hb : PE X (.BoolOp .Or (b :: rest) pos) tb) : PE X (.BoolOp .Or (a :: b :: rest) pos) (tOrV ta tb) := by
 intro pins s σ H Q I h;refine BoolOp_or (thn (ha pins s σ H _ I h) fun v s1 ⟨x,H1,I1,r1,q1⟩=>?_);obtain ⟨c,rfl,q1⟩ := q1;cases r1;refine wpAny_truthy_bool ?_;cases c with
 | false=>exact hb pins s1 σ H1 Q I1 q1
 | true=>exact ⟨.bl true,H1,I1,rfl,q1⟩
theorem pe_not (ha : PE X a ta) : PE X (.UnaryOp .Not a pos) (tNotV ta) := by intro pins s σ H Q I h;refine UnaryOp_ (thn (ha pins s σ H _ I h) fun v s1 ⟨x,H1,I1,r1,q1⟩=>?_);obtain ⟨c,rfl,q1⟩ := q1;cases r1;exact not_of (wpAny_truthy_bool ⟨.bl (!c),H1,I1,rfl,q1⟩)
end
def SqL (K : Fg) (H : Hp) (a : Addr) (xs : List V) : Prop :=
 Rd H a (.lst xs) \/
  ∃ (o : Obj) (its : Array Value) (n : Nat),K.lookup a = some o /\ o.cls = .type "list" /\ o.dict = none /\ o.data = .seq its n /\ its.size <= sizeLine /\ Vals xs its.toList
def SqT (K : Fg) (H : Hp) (a : Addr) (xs : List V) : Prop :=
 Rd H a (.tup xs) \/
  ∃ (o : Obj) (its : Array Value) (n : Nat),K.lookup a = some o /\ o.cls = .type "tuple" /\ o.dict = none /\ o.data = .seq its n /\ its.size <= sizeLine /\ Vals xs its.toList
def absV : Value -> Option V
 | .none=>some .non
 | .bool b=>some (.bl b)
 | .int i _=>some (.int i)
 | .str x _=>some (.str x)
 | .bytes b _=>some (.byt b)
 | .float b _=>some (.flt b)
 | .ref a=>some (.ref a)
 | .type n=>some (.ty n)
 | _=>none
theorem RelV.abs {x : V} {u : Value} (r : RelV x u) : absV u = some x := by
 cases x with
 | non=>cases r;rfl
 | bl _=>cases r;rfl
 | int _=>obtain ⟨t,rfl⟩ := r;rfl
 | str _=>obtain ⟨t,rfl⟩ := r;rfl
 | byt _=>obtain ⟨t,rfl⟩ := r;rfl
 | flt _=>obtain ⟨t,rfl⟩ := r;rfl
 | ref _=>cases r;rfl
 | ty _=>cases r;rfl
theorem RelV.inj {x y : V} {u : Value} (r : RelV x u) (q : RelV y u) : x = y := Option.some.inj (r.abs.symm.trans q.abs)
theorem Vals.inj : ∀ {xs ys : List V} {us : List Value},Vals xs us -> Vals ys us -> xs = ys
 | _,_,_,.nil,.nil=>rfl
 | _,_,_,.cons r t,.cons r' t'=>by rw [r.inj r',Vals.inj t t']
section
variable {X : Cx} {pins : LAO} {σ : St} {H : Hp} {s : Shared} {a : Addr} {xs ys : List V}
theorem SqL.of {K : Fg} (h : H a = some (.lst xs)) : SqL K H a xs := .inl (.inl h)
theorem SqT.of {K : Fg} (h : H a = some (.tup xs)) : SqT K H a xs := .inl (.inl h)
theorem Inv.list (I : Inv X pins σ H s) (h : SqL X.K H a xs) : ∃ its : List Value,Vals xs its /\ PlainL s.heap a its.toArray /\ xs.length <= sizeLine := by
 rcases h with h | ⟨o,its,n,hk,hc,hd,hs,hz,r⟩
 . obtain ⟨z,its,n,r,e⟩ := h.ok I.hok;exact ⟨its,r,⟨_,n,e,rfl,rfl,rfl⟩,z⟩
 . refine ⟨its.toList,r,⟨o,n,I.kIn a o hk,hc,hd,by simpa using hs⟩,?_⟩
   have e := r.length;simp only [Array.length_toList] at e;omega
theorem Inv.tuple (I : Inv X pins σ H s) (h : SqT X.K H a xs) : ∃ its : List Value,Vals xs its /\ IsTup s.heap a its.toArray /\ xs.length <= sizeLine := by
 rcases h with h | ⟨o,its,n,hk,hc,hdt,hs,hz,r⟩
 . obtain ⟨z,its,r,p⟩ := h.ok I.hok;exact ⟨its,r,p.isTup,z⟩
 . refine ⟨its.toList,r,⟨o,I.kIn a o hk,hc,n,by simpa using hs⟩,?_⟩
   have e := r.length;simp only [Array.length_toList] at e;omega
theorem Inv.list_inj (I : Inv X pins σ H s) (h : SqL X.K H a xs) (h' : SqL X.K H a ys) : xs = ys := by
 obtain ⟨its,r,⟨o,n,e,_,_,d⟩,_⟩ := I.list h;obtain ⟨its',r',⟨o',n',e',_,_,d'⟩,_⟩ := I.list h';rw [e] at e';cases e';rw [d] at d';injection d' with d1 _
 have : its = its' := by simpa using congrArg Array.toList d1
 subst this;exact r.inj r'
theorem Inv.tuple_inj (I : Inv X pins σ H s) (h : SqT X.K H a xs) (h' : SqT X.K H a ys) : xs = ys := by
 obtain ⟨its,r,⟨o,e,_,n,d⟩,_⟩ := I.tuple h;obtain ⟨its',r',⟨o',e',_,n',d'⟩,_⟩ := I.tuple h';rw [e] at e';cases e';rw [d] at d';injection d' with d1 _
 have : its = its' := by simpa using congrArg Array.toList d1
 subst this;exact r.inj r'
end
abbrev Cx.wish (X : Cx) (E : VSP) : Cx := { X with xe := E }
section
variable {X : Cx} {pins : LAO} {σ : St} {H : Hp} {s : Shared} {E : VSP}
end
section
variable {X : Cx} {st : Stmt} {rest : List Stmt} {t u : TS} {e : Expr} {te : TE} {pos : Pos}
def tNext : TS := fun D σ H=>D.nx σ H
def tSeq (t u : TS) : TS := fun D σ H=>t { D with nx := u D } σ H
theorem pss_nil : PSs X [] tNext := fun _ _ σ H _ I h=>wpAny_execs_nil ⟨σ,H,I,h⟩
theorem pss_cons (h1 : PS X st t) (h2 : PSs X rest u) : PSs X (st :: rest) (tSeq t u) := by
 intro pins s σ H D I h;refine wpAny_execs_cons (thn (h1 pins s σ H { D with nx := u D } I h) fun f s1 q=>?_)
 cases f with
 | next=>obtain ⟨σ',H',I',q⟩ := q;exact h2 pins s1 σ' H' D I' q
 | ret v=>exact q
 | brk=>exact q
 | cont=>exact q
def tRet (te : TE) : TS := fun D σ H=>te σ H D.rt
theorem ps_ret (he : PE X e te) : PS X (.Return (some e) pos) (tRet te) := by intro pins s σ H D I h;exact wpAny_Return_some (thn (he pins s σ H _ I h) fun v s1 ⟨x,H1,I1,r1,q1⟩=>⟨x,σ,H1,I1,r1,q1⟩)
def tIfS (c : TT) (t u : TS) : TS := fun D σ H=>c σ H fun b H1=>if b = true then t D σ H1 else u D σ H1
theorem ps_if {c : Expr} {a b : List Stmt} {tc : TT} (hc : PT X c tc) (ha : PSs X a t) (hb : PSs X b u) : PS X (.If c a b pos) (tIfS tc t u) := by
 intro pins s σ H D I h;refine wpAny_If (thn (hc pins s σ H _ I h) fun d s1 ⟨H1,I1,q1⟩=>?_);cases d with
 | true=>exact ha pins s1 σ H1 D I1 q1
 | false=>exact hb pins s1 σ H1 D I1 q1
end
abbrev TG := V -> St -> Hp -> (St -> Hp -> Prop) -> Prop
abbrev TGs := List V -> St -> Hp -> (St -> Hp -> Prop) -> Prop
def PG (X : Cx) (target : Expr) (t : TG) : Prop :=
 ∀ (pins : LAO) (s : Shared) (σ : St) (H : Hp) (v : V) (u : Value) (Q : St -> Hp -> Prop),Inv X pins σ H s -> RelV v u -> t v σ H Q ->
  wpAny (model X.prog X.w) X.A (assign target X.env u) (fun _ s'=>∃ σ' H',Inv X pins σ' H' s' /\ Q σ' H') X.xe s
def PGs (X : Cx) (ts : List Expr) (t : TGs) : Prop :=
 ∀ (pins : LAO) (s : Shared) (σ : St) (H : Hp) (vs : List V) (us : List Value) (Q : St -> Hp -> Prop),Inv X pins σ H s -> Vals vs us -> t vs σ H Q ->
  wpAny (model X.prog X.w) X.A (assignInOrder ((assignEach ts X.env).map (·.2)) us) (fun _ s'=>∃ σ' H',Inv X pins σ' H' s' /\ Q σ' H') X.xe s
section
variable {X : Cx} {pos : Pos}
def gName (i : Nat) : TG := fun v σ H Q=>Q (σ.set i (some v)) H
theorem pg_name {i : Nat} {x : Str} (hN : X.N.Nodup) (hi : X.N[i]? = some x) (hx : Loc X.env.scope x) (hf : X.fn x = true \/ X.env.scope.names.lookup x = some .local := by first | exact .inl rfl | exact .inr rfl | assumption) : PG X (.Name x pos) (gName i) := by intro pins s σ H v u Q I r h;exact wpAny_assign_Name (store_ok I hN hi hx r (fun s' I'=>⟨_,H,I',h⟩) hf)
def gNil : TGs := fun vs σ H Q=>vs = [] /\ Q σ H
def gCons (t : TG) (u : TGs) : TGs := fun vs σ H Q=>∃ v r,vs = v :: r /\ t v σ H fun σ' H'=>u r σ' H' Q
theorem pgs_nil : PGs X [] gNil := by intro pins s σ H vs us Q I r h;obtain ⟨e,h⟩ := h;subst e;cases r;exact assignInOrder_nil ⟨σ,H,I,h⟩
theorem pgs_cons {e : Expr} {es : List Expr} {t : TG} {u : TGs} (h1 : PG X e t) (h2 : PGs X es u) (hs : (assignEach (e :: es) X.env).map (·.2) = assign e X.env :: (assignEach es X.env).map (·.2) := by rfl) : PGs X (e :: es) (gCons t u) := by
 intro pins s σ H vs us Q I r h;obtain ⟨v,vr,e1,h⟩ := h;subst e1;cases r with
 | cons r rr=>rw [hs];refine assignInOrder_cons (thn (h1 pins s σ H _ _ _ I r h) fun _ s1 ⟨σ1,H1,I1,q1⟩=>?_);exact h2 pins s1 σ1 H1 _ _ Q I1 rr q1
def gTup (K : Fg) (n : Nat) (t : TGs) : TG := fun v σ H Q=>∃ a xs,v = .ref a /\ SqT K H a xs /\ xs.length = n /\ t xs σ H Q
theorem pg_tup {es : List Expr} {k : Nat} {t : TGs} {n : Nat} (hc : X.calm = true) (h : PGs X es t) (hn : (assignEach es X.env).length = n := by rfl) (hst : (assignEach es X.env).findIdx? (·.1) = none := by rfl) : PG X (.Tuple es k pos) (gTup X.K n t) := by
 intro pins s σ H v u Q I r hw;obtain ⟨a,xs,e1,hq,hl,hw⟩ := hw;subst e1;cases r;obtain ⟨its,rv,ht,hz⟩ := I.tuple hq;refine assign_Tuple_tuple (I.ok.hd hc) ht (by simp [hn,<- hl,rv.length]) hst fun h' hx=>?_
 have I1 : Inv X pins σ H { s with heap := h' } := I.kept (t' := s.toks) fun b o e=>hx b o (Nat.ne_of_lt (Heap.lt_size e)) e
 exact h pins _ σ H xs _ Q I1 (by simpa using rv) hw
def tAsg (te : TE) (g : TG) : TS := fun D σ H=>te σ H fun x H1=>g x σ H1 D.nx
theorem ps_set {i : Nat} {x : Str} {e : Expr} {te : TE} {pos' : Pos} (hN : X.N.Nodup) (hi : X.N[i]? = some x) (hx : Loc X.env.scope x) (he : PE X e te) (hs : swapsWith e (some (.Name x pos')) pos.line X.env = pure false := by rfl) (hf : X.fn x = true \/ X.env.scope.names.lookup x = some .local := by first | exact .inl rfl | exact .inr rfl | assumption) : PS X (.Assign [.Name x pos'] e pos) (tAsg te (gName i)) := by intro pins s σ H D I h;refine wpAny_Assign_Name (thn (he pins s σ H _ I h) fun v s1 ⟨y,H1,I1,r1,q1⟩=>?_) hs;exact store_ok I1 hN hi hx r1 (fun s2 I2=>⟨_,H1,I2,q1⟩) hf
end
section
variable {X : Cx} {pos : Pos}
end
structure It where
 go : Nat -> Hp -> Prop
 yld : Nat -> Hp -> V -> Hp -> Prop
 stop : Nat -> Hp -> Prop
def FpOk (X : Cx) (pins : LAO) (H : Hp) (b : Addr) : Prop :=
 H b = none /\ b ≠ X.env.locals /\ b ∉ X.fs /\ (b ∈ X.ex \/ X.s₀.heap.objs.size <= b) /\ (∀ x c,X.env.cells.lookup x = some c -> c ≠ b) /\ ∀ p ∈ X.pn ++ pins,p.1 ≠ b
theorem Inv.fpOk {X : Cx} {pins : LAO} {σ : St} {H H' : Hp} {s : Shared} {b : Addr} (I : Inv X pins σ H s) (hb : s.heap.objs.size <= b) (hn : H' b = none) : FpOk X pins H' b := by
 refine ⟨hn,Nat.ne_of_gt (Nat.lt_of_lt_of_le I.lt hb),I.nofs hb,.inr (Nat.le_trans I.sz hb),fun x c e z=>?_,fun p hp z=>?_⟩
 . obtain ⟨v,q⟩ := I.cell x c e;exact absurd (Nat.lt_of_lt_of_le q.lt (by rw [z];exact hb)) (Nat.lt_irrefl _)
 . exact absurd (Nat.lt_of_lt_of_le (Heap.lt_size (I.pin p hp).1) (by rw [z];exact hb)) (Nat.lt_irrefl _)
structure Turn (P : Program) (w : World) (K : Fg) (tg : Expr) (J : It) (fp : List Addr) (it : Addr) (tn : Nat -> Heap -> Prop) : Prop where
 mem : it ∈ fp
 obj : ∀ i h,tn i h -> ∀ b ∈ fp,∃ o,h.get? b = some o /\ ∀ v,o.data ≠ .cell v
 keep : ∀ i h h',tn i h -> (∀ b ∈ fp,∀ o,h.get? b = some o -> h'.get? b = some o) -> tn i h'
 item : ∀ (X : Cx),X.prog = P -> X.w = w -> X.K = K -> X.calm = true -> ∀ (i : Nat) (pins : LAO) (s : Shared) (σ : St) (H : Hp) (E : VSP),Inv X pins σ H s -> (∀ b ∈ fp,FpOk X pins H b) -> tn i s.heap -> J.go i H ->
  wpAny (model P w) X.A (pyNext (.ref it)) (fun r s1=>∃ u,r = some u /\
   wpAny (model P w) X.A (letOwnedTupleGo tg (.ref it) u) (fun _ s2=>∃ x H',Inv X pins σ H' s2 /\ RelV x u /\ J.yld i H x H' /\ tn (i + 1) s2.heap /\ ∀ b ∈ fp,H' b = none) E s1) E s
 done : ∀ (X : Cx),X.prog = P -> X.w = w -> X.K = K -> X.calm = true -> ∀ (i : Nat) (pins : LAO) (s : Shared) (σ : St) (H : Hp) (E : VSP),Inv X pins σ H s -> (∀ b ∈ fp,FpOk X pins H b) -> tn i s.heap -> J.stop i H ->
  wpAny (model P w) X.A (pyNext (.ref it)) (fun r s1=>r = none /\ Inv X pins σ H s1) E s
 self : ∀ (A : Around) (i : Nat) (s : Shared) (Q : VSP) (E : VSP),tn i s.heap -> Q (.ref it) s -> wpAny (model P w) A (pyIter (.ref it)) Q E s
abbrev TI := St -> Hp -> (It -> Hp -> Prop) -> Prop
def PIE (X : Cx) (pins : LAO) (σ : St) (tg : Expr) (R : It -> Hp -> Prop) (itv : Value) (s2 : Shared) : Prop :=
 ∃ (it : Addr) (fp : List Addr) (tn : Nat -> Heap -> Prop) (J : It) (H' : Hp),itv = .ref it /\ Inv X pins σ H' s2 /\ Turn X.prog X.w X.K tg J fp it tn /\ tn 0 s2.heap /\ (∀ b ∈ fp,FpOk X pins H' b) /\ R J H'
def PI (X : Cx) (tg iter : Expr) (wi : TI) : Prop :=
 ∀ (pins : LAO) (s : Shared) (σ : St) (H : Hp) (R : It -> Hp -> Prop),Inv X pins σ H s -> wi σ H R ->
  wpAny (model X.prog X.w) X.A (eval iter X.env) (fun v s1=>wpAny (model X.prog X.w) X.A (pyIter v) (PIE X pins σ tg R) X.xe s1) X.xe s
theorem go_of {M : Model} {A : Around} {E : VSP} {s : Shared} {tg : Expr} {it : Addr} {u : Value} {o : Obj} {n : String} {vs : Array Value} {Q : Unit -> Shared -> Prop} (ho : s.heap.get? it = some o) (hc : o.cls = .type n) (hd : o.data = .fields vs) (hn : ["enumerate", "zip", "dict_itemiterator", "dict_reverseitemiterator", "odict_iterator", "itertools.zip_longest", "itertools.pairwise"].contains n = false) (hQ : Q () s) : wpAny M A (letOwnedTupleGo tg (.ref it) u) Q E s := by
 unfold letOwnedTupleGo;cases tg <;> first
  | exact wpAny_pure hQ
  | (cases u <;> first
      | exact wpAny_pure hQ
      | (refine wpAny_bind (wpAny_load ho ?_)
         rw [hc,hd];show wpAny M A (if (["enumerate", "zip", "dict_itemiterator", "dict_reverseitemiterator", "odict_iterator", "itertools.zip_longest", "itertools.pairwise"].contains n && vs[0]? == some (rawInt _)) = true then _ else _) Q E s;rw [if_neg (by intro h;rw [hn,Bool.false_and] at h;cases h)]
         exact wpAny_pure hQ))
def Itl (K : Fg) (a : Addr) : It :=
 ⟨fun i H=>∃ xs x,SqL K H a xs /\ xs[i]? = some x,fun i H x H'=>H' = H /\ ∀ xs,SqL K H a xs -> xs[i]? = some x,fun i H=>∃ xs,SqL K H a xs /\ xs.length <= i⟩
def Itt (K : Fg) (a : Addr) : It :=
 ⟨fun i H=>∃ xs x,SqT K H a xs /\ xs[i]? = some x,fun i H x H'=>H' = H /\ ∀ xs,SqT K H a xs -> xs[i]? = some x,fun i H=>∃ xs,SqT K H a xs /\ xs.length <= i⟩
def Itr (lo : Int) (n : Nat) : It := ⟨fun i _=>i < n,fun i H x H'=>H' = H /\ x = .int (lo + i),fun i _=>n <= i⟩
theorem turn_list {P : Program} {w : World} {K : Fg} {tg : Expr} (a it : Addr) : Turn P w K tg (Itl K a) [it] it (fun i h=>h.IsListIter it a i) where
 mem := by simp
 obj := fun i h st b hb=>by
  have e : b = it := by simpa using hb
  subst e;obtain ⟨o,e,c,d⟩ := st;exact ⟨o,e,fun v z=>by rw [d] at z;cases z⟩
 keep := fun i h h' st k=>st.at fun o e=>k it (by simp) o e
 item := by
  intro X hP hw hK hc i pins s σ H E I hf st hg;subst hP hw hK;obtain ⟨xs,x,hq,hx⟩ := hg;obtain ⟨its,rv,p,hz⟩ := I.list hq;obtain ⟨u,hu,ru⟩ := rv.get hx;obtain ⟨f0,f1,f2,f3,f4,f5⟩ := hf it (by simp)
  refine wpAny_pyNext_list_item st p.isList (x := u) (by simpa using hu) fun h' st' sb=>?_
  have I1 : Inv X pins σ H { s with heap := h' } := I.turned (t' := s.toks) (fun b o hb e=>(sb.2 b hb).trans e) f0 f1 f3 f4 f5
  obtain ⟨o,e,c,d⟩ := id st';exact ⟨u,rfl,go_of (s := { s with heap := h' }) e c d (by decide) ⟨x,H,I1,ru,⟨rfl,fun ys hy=>by rw [I.list_inj hy hq];exact hx⟩,st',fun b hb=>(hf b hb).1⟩⟩
 done := by
  intro X hP hw hK hc i pins s σ H E I hf st hg;subst hP hw hK;obtain ⟨xs,hq,hx⟩ := hg;obtain ⟨its,rv,p,hz⟩ := I.list hq;obtain ⟨f0,f1,f2,f3,f4,f5⟩ := hf it (by simp)
  have hl := rv.length;exact wpAny_pyNext_list_end (I.ok.hd hc) st p.isList (by simp;omega) fun h' eb=>⟨rfl,I.turned (t' := s.toks) (fun b o hb e=>eb b o hb e) f0 f1 f3 f4 f5⟩
 self := fun _ _ _ _ _ st h=>wpAny_pyIter_listiter st h
theorem turn_tuple {P : Program} {w : World} {K : Fg} {tg : Expr} (a it : Addr) : Turn P w K tg (Itt K a) [it] it (fun i h=>h.IsTupleIter it a i) where
 mem := by simp
 obj := fun i h st b hb=>by
  have e : b = it := by simpa using hb
  subst e;obtain ⟨o,e,c,d⟩ := st;exact ⟨o,e,fun v z=>by rw [d] at z;cases z⟩
 keep := fun i h h' st k=>st.at fun o e=>k it (by simp) o e
 item := by
  intro X hP hw hK hc i pins s σ H E I hf st hg;subst hP hw hK;obtain ⟨xs,x,hq,hx⟩ := hg;obtain ⟨its,rv,p,hz⟩ := I.tuple hq;obtain ⟨u,hu,ru⟩ := rv.get hx;obtain ⟨f0,f1,f2,f3,f4,f5⟩ := hf it (by simp)
  refine wpAny_pyNext_tuple_item st (show s.heap.IsTuple a its.toArray from p) (x := u) (by simpa using hu) fun h' st' sb=>?_
  have I1 : Inv X pins σ H { s with heap := h' } := I.turned (t' := s.toks) (fun b o hb e=>(sb.2 b hb).trans e) f0 f1 f3 f4 f5
  obtain ⟨o,e,c,d⟩ := id st';exact ⟨u,rfl,go_of (s := { s with heap := h' }) e c d (by decide) ⟨x,H,I1,ru,⟨rfl,fun ys hy=>by rw [I.tuple_inj hy hq];exact hx⟩,st',fun b hb=>(hf b hb).1⟩⟩
 done := by
  intro X hP hw hK hc i pins s σ H E I hf st hg;subst hP hw hK;obtain ⟨xs,hq,hx⟩ := hg;obtain ⟨its,rv,p,hz⟩ := I.tuple hq;obtain ⟨f0,f1,f2,f3,f4,f5⟩ := hf it (by simp)
  have hl := rv.length;exact wpAny_pyNext_tuple_end (I.ok.hd hc) st (show s.heap.IsTuple a its.toArray from p) (by simp;omega) fun h' eb=>⟨rfl,I.turned (t' := s.toks) (fun b o hb e=>eb b o hb e) f0 f1 f3 f4 f5⟩
 self := fun _ _ _ _ _ st h=>wpAny_pyIter_tupleiter st h
theorem turn_range {P : Program} {w : World} {K : Fg} {tg : Expr} (it : Addr) (lo : Int) (n : Nat) : Turn P w K tg (Itr lo n) [it] it (fun i h=>IsRangeIter h it (lo + (i : Nat) * 1) ((n : Int) - (i : Nat)) 1) where
 mem := by simp
 obj := fun i h st b hb=>by
  have e : b = it := by simpa using hb
  subst e;exact ⟨_,st,fun v z=>by
   have z' : Data.fields _ = Data.cell v := z;cases z'⟩
 keep := fun i h h' st k=>k it (by simp) _ st
 item := by
  intro X hP hw hK hc i pins s σ H E I hf st hg;subst hP hw hK;obtain ⟨f0,f1,f2,f3,f4,f5⟩ := hf it (by simp)
  have W := Walks.range (prog := X.prog) (w := X.w) (I.ok.hd hc) it lo 1 n;refine W.item i s _ _ hg st fun v h' tk hv st' kk=>?_;obtain ⟨t,rfl⟩ := hv;have I1 : Inv X pins σ H { s with heap := h',toks := tk } := I.turned (fun b o hb e=>kk b o (by simpa using hb) e) f0 f1 f3 f4 f5
  refine ⟨_,rfl,go_of (s := { s with heap := h',toks := tk }) (n := "range_iterator") st' rfl rfl (by decide) ⟨.int (lo + i),H,I1,⟨t,?_⟩,⟨rfl,rfl⟩,st',fun b hb=>(hf b hb).1⟩⟩
  rw [Int.mul_one]
 done := by
  intro X hP hw hK hc i pins s σ H E I hf st hg;subst hP hw hK;obtain ⟨f0,f1,f2,f3,f4,f5⟩ := hf it (by simp)
  exact wpAny_pyNext_range_end (I.ok.hd hc) st (by have : n <= i := hg;omega) fun h' eb=>⟨rfl,I.turned (t' := s.toks) (fun b o hb e=>eb b o hb e) f0 f1 f3 f4 f5⟩
 self := fun _ _ _ _ _ st h=>wpAny_pyIter_rangeiter st h
section
variable {X : Cx} {tg : Expr}
def iList (K : Fg) (tl : TE) : TI := fun σ H R=>tl σ H fun x H1=>∃ a,x = .ref a /\ (∃ xs,SqL K H1 a xs) /\ R (Itl K a) H1
def iTup (K : Fg) (tl : TE) : TI := fun σ H R=>tl σ H fun x H1=>∃ a,x = .ref a /\ (∃ xs,SqT K H1 a xs) /\ R (Itt K a) H1
theorem pi_list {l : Expr} {tl : TE} (hl : PE X l tl) : PI X tg l (iList X.K tl) := by
 intro pins s σ H R I h;refine thn (hl pins s σ H _ I h) fun v s1 ⟨x,H1,I1,r1,q1⟩=>?_;obtain ⟨a,e,⟨xs,hq⟩,q⟩ := q1;subst e;cases r1;obtain ⟨its,rv,p,hz⟩ := I1.list hq;refine wpAny_pyIter_list p.isList ?_;refine ⟨s1.heap.objs.size,[s1.heap.objs.size],_,_,H1,rfl,I1.kept (t' := s1.toks) fun b o e=>hps e,turn_list a _,⟨_,Heap.get?_push_size _ rfl,rfl,rfl⟩,fun b hb=>?_,q⟩;have e : b = s1.heap.objs.size := by simpa using hb
 subst e;exact I1.fpOk (Nat.le_refl _) (I1.hok.fresh (Nat.le_refl _))
theorem pi_tup {l : Expr} {tl : TE} (hl : PE X l tl) : PI X tg l (iTup X.K tl) := by
 intro pins s σ H R I h;refine thn (hl pins s σ H _ I h) fun v s1 ⟨x,H1,I1,r1,q1⟩=>?_;obtain ⟨a,e,⟨xs,hq⟩,q⟩ := q1;subst e;cases r1;obtain ⟨its,rv,p,hz⟩ := I1.tuple hq;refine wpAny_pyIter_tuple (show s1.heap.IsTuple a its.toArray from p) ?_
 refine ⟨s1.heap.objs.size,[s1.heap.objs.size],_,_,H1,rfl,I1.kept (t' := s1.toks) fun b o e=>hps e,turn_tuple a _,⟨_,Heap.get?_push_size _ rfl,rfl,rfl⟩,fun b hb=>?_,q⟩;have e : b = s1.heap.objs.size := by simpa using hb
 subst e;exact I1.fpOk (Nat.le_refl _) (I1.hok.fresh (Nat.le_refl _))
theorem range_it {pins : LAO} {σ : St} {H : Hp} {s : Shared} {R : It -> Hp -> Prop} {E : VSP} {lo hi : Int} {t u v : Tok} {tk : Nat} (I : Inv X pins σ H s) (h1 : -(2 ^ 62) <= lo) (h2 : lo < 2 ^ 62) (h3 : -(2 ^ 62) <= hi) (h4 : hi < 2 ^ 62) (q : R (Itr lo (hi - lo).toNat) H) : wpAny (model X.prog X.w) X.A (pyIter (.ref s.heap.objs.size)) (PIE X pins σ tg R) E { s with heap := s.heap.push { cls := .type "range", data := .fields #[.int lo t,.int hi u,.int 1 v] },toks := tk } := by
 refine wpAny_pyIter_range (IsRange.new ..) (small_one h1 h2 h3 h4) ?_;have I1 : Inv X pins σ H { s with heap := s.heap.push { cls := .type "range", data := .fields #[.int lo t,.int hi u,.int 1 v] },toks := tk } := I.kept fun b o e=>hps e
 refine ⟨(s.heap.push { cls := .type "range", data := .fields #[.int lo t,.int hi u,.int 1 v] }).objs.size,[(s.heap.push { cls := .type "range", data := .fields #[.int lo t,.int hi u,.int 1 v] }).objs.size],_,_,H,rfl,
  I1.kept (t' := tk) fun b o e=>hps e,turn_range _ lo (hi - lo).toNat,?_,fun b hb=>?_,q⟩
 . have e1 : lo + ((0 : Nat) : Int) * 1 = lo := by simp
   have e2 : (((hi - lo).toNat : Nat) : Int) - ((0 : Nat) : Int) = Builtin.Range.rangeSize lo hi 1 := by rw [rangeSize_one];split <;> omega
   show IsRangeIter _ _ (lo + ((0 : Nat) : Int) * 1) ((((hi - lo).toNat : Nat) : Int) - ((0 : Nat) : Int)) 1;rw [e1,e2];exact Heap.get?_push_size _ rfl
 . have e : b = (s.heap.push { cls := .type "range", data := .fields #[.int lo t,.int hi u,.int 1 v] }).objs.size := by simpa using hb
   subst e;exact I1.fpOk (Nat.le_refl _) (I1.hok.fresh (Nat.le_refl _))
def iRng1 (ta : TA) : TI := fun σ H R=>ta σ H fun vs H1=>∃ j : Int,vs = [.int j] /\ -(2 ^ 62) <= j /\ j < 2 ^ 62 /\ R (Itr 0 j.toNat) H1
theorem pi_range1 {a : Expr} {ta : TA} {p pos : Pos} (hg : Gl X "range") (hm : X.mg "range" = none) (ha : PA X [a] ta) (hs : starEach [a] X.env = [(false,eval a X.env)] := by rfl) : PI X tg (.Call (.Name "range" p) [a] [] pos) (iRng1 ta) := by
 intro pins s σ H R I h;refine Call_ (ld_blt I hg hm boot_range (PyProof.Rows.callWith_type1 (thn (ha pos pins s σ H _ I h) fun us s1 ⟨vs,H1,I1,r1,q1⟩=>?_) hs rfl));obtain ⟨j,e,q1,q2,q⟩ := q1;subst e;cases r1 with
 | cons r rr=>cases rr;obtain ⟨t,rfl⟩ := r;exact call_range_1 (range_it I1 (by omega) (by omega) q1 q2 (by simpa using q))
def tFor (wi : TI) (g : TG) (tb : TS) : TS := fun D σ H=>wi σ H fun J H1=>∃ W : Nat -> Nat -> St -> Hp -> Prop,(∃ m,W 0 m σ H1) /\ ∀ i m σ H,W i m σ H ->
 (J.stop i H /\ D.nx σ H) \/ (J.go i H /\ ∃ N : St -> Hp -> Prop,(∀ σ' H',N σ' H' -> ∃ m',m' < m /\ W (i + 1) m' σ' H') /\ ∀ x H',J.yld i H x H' -> g x σ H' fun σ2 H2=>tb { D with nx := N,ct := N,bk := D.nx } σ2 H2)
def pinsAt (fp : List Addr) (h : Heap) : LAO := fp.filterMap fun b=>(h.get? b).map fun o=>(b,o)
theorem mem_pinsAt {fp : List Addr} {h : Heap} {b : Addr} {o : Obj} (hb : b ∈ fp) (e : h.get? b = some o) : (b,o) ∈ pinsAt fp h := List.mem_filterMap.mpr ⟨b,hb,by rw [e];rfl⟩
theorem of_pinsAt {fp : List Addr} {h : Heap} {p : Addr × Obj} (hp : p ∈ pinsAt fp h) : p.1 ∈ fp /\ h.get? p.1 = some p.2 := by
 obtain ⟨b,hb,e⟩ := List.mem_filterMap.mp hp;cases q : h.get? b with
 | none=>rw [q] at e;cases e
 | some o=>rw [q] at e;have e' : (b,o) = p := Option.some.inj e;subst e';exact ⟨hb,q⟩
theorem Inv.pinned {pins : LAO} {σ : St} {H : Hp} {s : Shared} {fp : List Addr} (I : Inv X pins σ H s) (hf : ∀ b ∈ fp,FpOk X pins H b) (ho : ∀ b ∈ fp,∃ o,s.heap.get? b = some o /\ ∀ v,o.data ≠ .cell v) : Inv X (pins ++ pinsAt fp s.heap) σ H s :=
 I.pins_of fun p hp=>(List.mem_append.mp hp).elim (fun z=>I.pin p (List.mem_append_right _ z)) fun z=>by obtain ⟨hb,e⟩ := of_pinsAt z;obtain ⟨f0,f1,f2,_⟩ := hf p.1 hb;obtain ⟨o,e',d⟩ := ho p.1 hb;rw [e] at e';cases e';exact ⟨e,f0,f1,f2,d⟩
theorem Inv.unpinned {pins pl : LAO} {σ : St} {H : Hp} {s : Shared} (I : Inv X (pins ++ pl) σ H s) : Inv X pins σ H s := I.pins_of fun p hp=>I.pin p (List.mem_append_right _ (List.mem_append_left _ hp))
theorem ps_for {iter : Expr} {body : List Stmt} {wi : TI} {g : TG} {tb : TS} {pos : Pos} (hp : PassesOwn (model X.prog X.w) X.A X.env X.xe) (hc : X.calm = true) (hi : PI X tg iter wi) (hg : PG X tg g) (hb : PSs X body tb) (hs : ∀ x,foldedSetIterable iter X.env x = pure x := by intro _;rfl) : PS X (.For tg iter body [] pos) (tFor wi g tb) := by
 intro pins s σ H D I h;refine wpAny_For (thn (hi pins s σ H _ I h) fun v s1 h1=>thn h1 fun itv s2 h2=>?_) hs;obtain ⟨it,fp,tn,J,H2,e,I2,T,st2,f2,W,⟨m0,w0⟩,turn⟩ := h2;subst e;have stat : ∀ {H' : Hp},(∀ b ∈ fp,H' b = none) -> ∀ b ∈ fp,FpOk X pins H' b := fun hn b hb=>⟨hn b hb,(f2 b hb).2⟩;refine codeAny_forLoop_any (fun n s'=>∃ i σ' H',Inv X pins σ' H' s' /\ tn i s'.heap /\ (∀ b ∈ fp,H' b = none) /\ W i n σ' H') ?_ m0 ⟨0,σ,H2,I2,st2,fun b hb=>(f2 b hb).1,w0⟩;rintro n s3 ⟨i,σ3,H3,I3,st3,fr3,w3⟩;rcases turn i n σ3 H3 w3 with ⟨stop,qn⟩ | ⟨go,N,hN,step⟩
 . refine wpAny_passesOwn hp (thn (T.done X rfl rfl rfl hc i pins s3 σ3 H3 X.xe I3 (stat fr3) st3 stop) fun r s4 ⟨hr,I4⟩=>?_);subst hr;exact wpAny_execs_nil ⟨σ3,H3,I4,qn⟩
 . refine wpAny_passesOwn hp (thn (T.item X rfl rfl rfl hc i pins s3 σ3 H3 X.xe I3 (stat fr3) st3 go) fun r s4 ⟨u,hr,h4⟩=>?_);subst hr;refine wpAny_passesOwn hp (thn h4 fun _ s5 ⟨x,H5,I5,r5,y5,st5,fr5⟩=>?_);have I5' := I5.pinned (stat fr5) (T.obj _ _ st5);refine wpAny_passesOwn hp (thn (hg _ s5 σ3 H5 x u _ I5' r5 (step x H5 y5)) fun _ s6 ⟨σ6,H6,I6,q6⟩=>?_);refine wpAny_passesOwn hp (thn (hb _ s6 σ6 H6 _ I6 q6) fun f s7 q7=>?_);have again : ∀ {σ7 : St} {H7 : Hp},Inv X (pins ++ pinsAt fp s5.heap) σ7 H7 s7 -> N σ7 H7 -> ∃ m,m < n /\ ∃ i σ' H',Inv X pins σ' H' s7 /\ tn i s7.heap /\ (∀ b ∈ fp,H' b = none) /\ W i m σ' H' := fun {σ7 H7} I7 n7=>by obtain ⟨m',hm,w7⟩ := hN σ7 H7 n7;refine ⟨m',hm,i + 1,σ7,H7,I7.unpinned,T.keep _ _ _ st5 fun b hb o e=>(I7.pin (b,o) (List.mem_append_right _ (List.mem_append_right _ (mem_pinsAt hb e)))).1,fun b hb=>?_,w7⟩;obtain ⟨o,e,d⟩ := T.obj _ _ st5 b hb;exact (I7.pin (b,o) (List.mem_append_right _ (List.mem_append_right _ (mem_pinsAt hb e)))).2.1
   cases f with
   | next=>obtain ⟨σ7,H7,I7,n7⟩ := q7;exact again I7 n7
   | cont=>obtain ⟨σ7,H7,I7,n7⟩ := q7;exact again I7 n7
   | brk=>obtain ⟨σ7,H7,I7,q7⟩ := q7;exact ⟨σ7,H7,I7.unpinned,q7⟩
   | ret v=>obtain ⟨x7,σ7,H7,I7,r7,q7⟩ := q7;exact ⟨x7,σ7,H7,I7.unpinned,r7,q7⟩
end
abbrev R2 := V -> V -> Hp -> VK -> Prop
def OpR (X : Cx) (f : Value -> Value -> Sem Value) (r : R2) : Prop :=
 ∀ (pins : LAO) (s : Shared) (σ : St) (H : Hp) (x y : V) (v u : Value) (Q : VK),Inv X pins σ H s -> RelV x v -> RelV y u -> r x y H Q ->
  wpAny (model X.prog X.w) X.A (f v u) (EP X pins σ Q) X.xe s
def UnR (X : Cx) (f : Value -> Sem Value) (r : V -> Hp -> VK -> Prop) : Prop :=
 ∀ (pins : LAO) (s : Shared) (σ : St) (H : Hp) (x : V) (v : Value) (Q : VK),Inv X pins σ H s -> RelV x v -> r x H Q ->
  wpAny (model X.prog X.w) X.A (f v) (EP X pins σ Q) X.xe s
def CallR (X : Cx) (f : Value) (r : List V -> Hp -> VK -> Prop) : Prop :=
 ∀ (pins : LAO) (s : Shared) (σ : St) (H : Hp) (xs : List V) (us : List Value) (Q : VK),Inv X pins σ H s -> Vals xs us -> r xs H Q ->
  wpAny (model X.prog X.w) X.A (call f us) (EP X pins σ Q) X.xe s
def TruR (X : Cx) (r : V -> Hp -> (Bool -> Hp -> Prop) -> Prop) : Prop :=
 ∀ (pins : LAO) (s : Shared) (σ : St) (H : Hp) (x : V) (v : Value) (Q : Bool -> Hp -> Prop),Inv X pins σ H s -> RelV x v -> r x H Q ->
  wpAny (model X.prog X.w) X.A (truthy v) (TP X pins σ Q) X.xe s
def tOp (r : R2) (ta tb : TE) : TE := fun σ H Q=>ta σ H fun x H1=>tb σ H1 fun y H2=>r x y H2 Q
def tUn (r : V -> Hp -> VK -> Prop) (ta : TE) : TE := fun σ H Q=>ta σ H fun x H1=>r x H1 Q
def rI (C : Int -> Int -> Prop) (g : Int -> Int -> V) : R2 := fun x y H Q=>∃ i j,x = .int i /\ y = .int j /\ C i j /\ Q (g i j) H
def rI0 (g : Int -> Int -> V) : R2 := fun x y H Q=>∃ i j,x = .int i /\ y = .int j /\ Q (g i j) H
def rU (g : Int -> V) : V -> Hp -> VK -> Prop := fun x H Q=>∃ i,x = .int i /\ Q (g i) H
section
variable {X : Cx} {a b c : Expr} {ta tb tc : TE} {pos : Pos}
theorem binT (ha : PE X a ta) (hb : PE X b tb) {pins : LAO} {s : Shared} {σ : St} {H : Hp} {R : V -> V -> Hp -> Prop} (I : Inv X pins σ H s) (h : ta σ H fun x H1=>tb σ H1 fun y H2=>R x y H2) {Q : VSP} {f : Value -> Value -> Sem Value} (hf : ∀ v u s2 x y H2,Inv X pins σ H2 s2 -> RelV x v -> RelV y u -> R x y H2 -> wpAny (model X.prog X.w) X.A (f v u) Q X.xe s2) : wpAny (model X.prog X.w) X.A (eval a X.env) (fun v s₁=>wpAny (model X.prog X.w) X.A (eval b X.env) (fun u s₂=>wpAny (model X.prog X.w) X.A (f v u) Q X.xe s₂) X.xe s₁) X.xe s := by refine thn (ha pins s σ H _ I h) fun v s1 ⟨x,H1,I1,r1,q1⟩=>?_;refine thn (hb pins s1 σ H1 _ I1 q1) fun u s2 ⟨y,H2,I2,r2,q2⟩=>?_;exact hf v u s2 x y H2 I2 r1 r2 q2
theorem pe_op {op : Operator} {r : R2} (ho : OpR X (binaryOp op) r) (ha : PE X a ta) (hb : PE X b tb) : PE X (.BinOp a op b pos) (tOp r ta tb) := by intro pins s σ H Q I h;exact wpAny_BinOp (binT ha hb I h fun v u s2 x y H2 I2 rx ry q=>ho pins s2 σ H2 x y v u Q I2 rx ry q)
theorem pe_un {op : UnaryOp} {r : V -> Hp -> VK -> Prop} (ho : UnR X (unaryOp op) r) (ha : PE X a ta) : PE X (.UnaryOp op a pos) (tUn r ta) := by intro pins s σ H Q I h;exact UnaryOp_ (thn (ha pins s σ H _ I h) fun v s1 ⟨x,H1,I1,r1,q1⟩=>ho pins s1 σ H1 x v Q I1 r1 q1)
theorem opI {f : Value -> Value -> Sem Value} {C : Int -> Int -> Prop} {g : Int -> Int -> Int} (rule : ∀ (i j : Int) (t u : Tok) (s : Shared) (Q : VSP) (E : VSP),C i j -> Q (.int (g i j) s.toks) { s with toks := s.toks + 1 } -> wpAny (model X.prog X.w) X.A (f (.int i t) (.int j u)) Q E s) : OpR X f (rI C fun i j=>.int (g i j)) := by intro pins s σ H x y v u Q I rx ry h;obtain ⟨i,j,rfl,rfl,hc,q⟩ := h;obtain ⟨t,rfl⟩ := rx;obtain ⟨t',rfl⟩ := ry;exact rule i j t t' s _ _ hc ⟨.int (g i j),H,I.tok _,⟨_,rfl⟩,q⟩
theorem opI0 {f : Value -> Value -> Sem Value} {g : Int -> Int -> Int} (rule : ∀ (i j : Int) (t u : Tok) (s : Shared) (Q : VSP) (E : VSP),Q (.int (g i j) s.toks) { s with toks := s.toks + 1 } -> wpAny (model X.prog X.w) X.A (f (.int i t) (.int j u)) Q E s) : OpR X f (rI0 fun i j=>.int (g i j)) := by intro pins s σ H x y v u Q I rx ry h;obtain ⟨i,j,rfl,rfl,q⟩ := h;obtain ⟨t,rfl⟩ := rx;obtain ⟨t',rfl⟩ := ry;exact rule i j t t' s _ _ ⟨.int (g i j),H,I.tok _,⟨_,rfl⟩,q⟩
theorem opB0 {f : Value -> Value -> Sem Value} {g : Int -> Int -> Bool} (rule : ∀ (i j : Int) (t u : Tok) (s : Shared) (Q : VSP) (E : VSP),Q (.bool (g i j)) s -> wpAny (model X.prog X.w) X.A (f (.int i t) (.int j u)) Q E s) : OpR X f (rI0 fun i j=>.bl (g i j)) := by intro pins s σ H x y v u Q I rx ry h;obtain ⟨i,j,rfl,rfl,q⟩ := h;obtain ⟨t,rfl⟩ := rx;obtain ⟨t',rfl⟩ := ry;exact rule i j t t' s _ _ ⟨.bl (g i j),H,I,rfl,q⟩
def CPow (i j : Int) : Prop := 0 <= j /\ j <= 1000000 /\ i.natAbs < 2 ^ 64
theorem two_pow_nn (k : Nat) : (0 : Int) <= 2 ^ k := by rw [two_pow_cast];exact Int.natCast_nonneg _
theorem op_add : OpR X (binaryOp .Add) (rI0 fun i j=>.int (i + j)) := opI0 fun _ _ _ _ _ _ _ q=>add_int q
theorem op_sub : OpR X (binaryOp .Sub) (rI0 fun i j=>.int (i - j)) := opI0 fun _ _ _ _ _ _ _ q=>sub_int q
theorem op_mod : OpR X (binaryOp .Mod) (rI (fun _ j=>0 < j) fun i j=>.int (i % j)) := opI fun i j _ _ _ _ _ hc q=>by have h1 : (0 : Int) < j := hc;exact mod_int' (by omega) (by rw [Int.fmod_eq_emod_of_nonneg i (by omega)];exact q)
theorem op_pow : OpR X (binaryOp .Pow) (rI CPow fun i j=>.int (i ^ j.toNat)) := opI fun _ _ _ _ _ _ _ hc q=>pow_int_small hc.1 hc.2.1 hc.2.2 q
theorem op_shl : OpR X (binaryOp .LShift) (rI CPow fun i j=>.int (i * 2 ^ j.toNat)) := opI fun _ _ _ _ _ _ _ hc q=>lshift_int_small hc.1 hc.2.1 hc.2.2 q
theorem op_shr : OpR X (binaryOp .RShift) (rI (fun _ j=>0 <= j) fun i j=>.int (i / 2 ^ j.toNat)) := opI fun i j _ _ _ _ _ hc q =>
 rshift_int hc (by rw [Int.fdiv_eq_ediv_of_nonneg i (two_pow_nn _)];exact q)
theorem op_and : OpR X (binaryOp .BitAnd) (rI0 fun i j=>.int (Builtin.bitAnd i j)) := opI0 fun _ _ _ _ _ _ _ q=>and_int q
theorem op_or : OpR X (binaryOp .BitOr) (rI0 fun i j=>.int (Builtin.bitOr i j)) := opI0 fun _ _ _ _ _ _ _ q=>or_int q
theorem unI {f : Value -> Sem Value} {g : Int -> Int} (rule : ∀ (i : Int) (t : Tok) (s : Shared) (Q : VSP) (E : VSP),Q (.int (g i) s.toks) { s with toks := s.toks + 1 } -> wpAny (model X.prog X.w) X.A (f (.int i t)) Q E s) : UnR X f (rU fun i=>.int (g i)) := by intro pins s σ H x v Q I rx h;obtain ⟨i,rfl,q⟩ := h;obtain ⟨t,rfl⟩ := rx;exact rule i t s _ _ ⟨.int (g i),H,I.tok _,⟨_,rfl⟩,q⟩
theorem un_neg : UnR X (unaryOp .USub) (rU fun i=>.int (-i)) := unI fun _ _ _ _ _ q=>neg_int q
end
def scal : V -> V -> Bool
 | .non,.non=>true | .non,.int _=>true | .int _,.non=>true | .non,.bl _=>true | .bl _,.non=>true | .non,.str _=>true | .str _,.non=>true
 | .int _,.int _=>true | .bl _,.bl _=>true | .str _,.str _=>true | .byt _,.byt _=>true
 | .int _,.str _=>true | .str _,.int _=>true | .bl _,.str _=>true | .str _,.bl _=>true
 | _,_=>false
def rNe : R2 := fun x y H Q=>scal x y = true /\ Q (.bl (!decide (x = y))) H
theorem dec_int {i j : Int} : decide (V.int i = V.int j) = (i == j) := by rw [Bool.eq_iff_iff];simp
theorem dec_bl {i j : Bool} : decide (V.bl i = V.bl j) = (i == j) := by rw [Bool.eq_iff_iff];simp
theorem dec_str {i j : Str} : decide (V.str i = V.str j) = (i == j) := by rw [Bool.eq_iff_iff];simp
theorem dec_byt {i j : Array UInt8} : decide (V.byt i = V.byt j) = (i.toList == j.toList) := by rw [Bool.eq_iff_iff];cases i;cases j;simp
section
variable {X : Cx} {a b c : Expr} {ta tb tc : TE} {pos : Pos}
theorem fin_bl {pins : LAO} {σ : St} {H : Hp} {s : Shared} {Q : VK} {k k' : Bool} (I : Inv X pins σ H s) (q : Q (.bl k) H) (e : k = k') : EP X pins σ Q (.bool k') s := by subst e;exact ⟨.bl k,H,I,rfl,q⟩
theorem op_ne : OpR X (compareOp .NotEq) rNe := by
 intro pins s σ H x y v u Q I rx ry h;obtain ⟨hs,q⟩ := h;cases x with
 | non =>
  cases rx;cases y with
  | non=>cases ry;exact PySem.EqNone.ne_none_none (fin_bl I q (by simp))
  | bl j=>cases ry;exact PySem.EqNone.ne_none_bool (fin_bl I q (by simp))
  | int j=>obtain ⟨t',rfl⟩ := ry;exact PySem.EqNone.ne_none_int (fin_bl I q (by simp))
  | str j=>obtain ⟨t',rfl⟩ := ry;exact PySem.EqNone.ne_none_str (fin_bl I q (by simp))
  | _=>exact absurd (show false = true from hs) Bool.false_ne_true
 | bl i =>
  cases rx;cases y with
  | non=>cases ry;exact PySem.EqNone.ne_bool_none (fin_bl I q (by simp))
  | bl j=>cases ry;exact ne_bool (fin_bl I q (congrArg not dec_bl))
  | str j=>obtain ⟨t',rfl⟩ := ry;exact PySem.EqMixed.ne_bool_str (fin_bl I q (by simp))
  | _=>exact absurd (show false = true from hs) Bool.false_ne_true
 | int i =>
  obtain ⟨t,rfl⟩ := rx;cases y with
  | non=>cases ry;exact PySem.EqNone.ne_int_none (fin_bl I q (by simp))
  | int j=>obtain ⟨t',rfl⟩ := ry;exact ne_int (fin_bl I q (congrArg not dec_int))
  | str j=>obtain ⟨t',rfl⟩ := ry;exact PySem.EqMixed.ne_int_str (fin_bl I q (by simp))
  | _=>exact absurd (show false = true from hs) Bool.false_ne_true
 | str i =>
  obtain ⟨t,rfl⟩ := rx;cases y with
  | non=>cases ry;exact PySem.EqNone.ne_str_none (fin_bl I q (by simp))
  | bl j=>cases ry;exact PySem.EqMixed.ne_str_bool (fin_bl I q (by simp))
  | int j=>obtain ⟨t',rfl⟩ := ry;exact PySem.EqMixed.ne_str_int (fin_bl I q (by simp))
  | str j=>obtain ⟨t',rfl⟩ := ry;exact ne_str (fin_bl I q (congrArg not dec_str))
  | _=>exact absurd (show false = true from hs) Bool.false_ne_true
 | byt i =>
  obtain ⟨t,rfl⟩ := rx;cases y with
  | byt j=>obtain ⟨t',rfl⟩ := ry;exact PySem.W.ne_bytes (fin_bl I q (congrArg not dec_byt))
  | _=>exact absurd (show false = true from hs) Bool.false_ne_true
 | _=>cases y <;> exact absurd (show false = true from hs) Bool.false_ne_true
theorem op_lt : OpR X (compareOp .Lt) (rI0 fun i j=>.bl (decide (i < j))) := opB0 fun _ _ _ _ _ _ _ q=>lt_int q
theorem op_le : OpR X (compareOp .LtE) (rI0 fun i j=>.bl (decide (i <= j))) := opB0 fun _ _ _ _ _ _ _ q=>le_int q
theorem op_gt : OpR X (compareOp .Gt) (rI0 fun i j=>.bl (decide (j < i))) := opB0 fun _ _ _ _ _ _ _ q=>gt_int q
theorem op_ge : OpR X (compareOp .GtE) (rI0 fun i j=>.bl (decide (j <= i))) := opB0 fun _ _ _ _ _ _ _ q=>ge_int q
theorem op_lt_str : OpR X (compareOp .Lt) (fun x y H Q=>∃ i j,x = .str i /\ y = .str j /\ Q (.bl (decide (i.cps.toList < j.cps.toList))) H) := by intro pins s σ H x y v u Q I rx ry h;obtain ⟨i,j,rfl,rfl,q⟩ := h;obtain ⟨t,rfl⟩ := rx;obtain ⟨t',rfl⟩ := ry;exact lt_str (fin_bl I q rfl)
theorem op_in_str : OpR X (compareOp .In) (fun x y H Q=>∃ i j,x = .str i /\ y = .str j /\ Q (.bl (!(Builtin.Str.occurrences j i 0 j.length 1).isEmpty)) H) := by intro pins s σ H x y v u Q I rx ry h;obtain ⟨i,j,rfl,rfl,q⟩ := h;obtain ⟨t,rfl⟩ := rx;obtain ⟨t',rfl⟩ := ry;exact in_str (fin_bl I q rfl)
theorem op_isN : OpR X (compareOp .Is) (fun x y H Q=>y = .non /\ Q (.bl (decide (x = .non))) H) := by
 intro pins s σ H x y v u Q I rx ry h;obtain ⟨rfl,q⟩ := h;cases ry;refine is_none_gen (fin_bl I q ?_);cases x <;> first
  | (cases rx;rfl)
  | (obtain ⟨t,rfl⟩ := rx;rfl)
theorem op_notN : OpR X (compareOp .IsNot) (fun x y H Q=>y = .non /\ Q (.bl (!decide (x = .non))) H) := by
 intro pins s σ H x y v u Q I rx ry h;obtain ⟨rfl,q⟩ := h;cases ry;refine isnot_none_gen (fin_bl I q ?_);cases x <;> first
  | (cases rx;rfl)
  | (obtain ⟨t,rfl⟩ := rx;rfl)
theorem op_notin_str : OpR X (compareOp .NotIn) (fun x y H Q=>∃ i j,x = .str i /\ y = .str j /\ Q (.bl (!(!(Builtin.Str.occurrences j i 0 j.length 1).isEmpty))) H) := by intro pins s σ H x y v u Q I rx ry h;obtain ⟨i,j,rfl,rfl,q⟩ := h;obtain ⟨t,rfl⟩ := rx;obtain ⟨t',rfl⟩ := ry;exact notIn_str (fin_bl I q rfl)
theorem OpR.or {f : Value -> Value -> Sem Value} {r r' : R2} (h : OpR X f r) (h' : OpR X f r') : OpR X f (fun x y H Q=>r x y H Q \/ r' x y H Q) := by
 intro pins s σ H x y v u Q I rx ry q;rcases q with q | q
 . exact h pins s σ H x y v u Q I rx ry q
 . exact h' pins s σ H x y v u Q I rx ry q
theorem pe_cmpR {op : CmpOp} {r : R2} (ho : OpR X (compareOp op) r) (ha : PE X a ta) (hb : PE X b tb) (hm : behindInMarks op b = false) : PE X (.Compare a [op] [b] pos) (tOp r ta tb) := by intro pins s σ H Q I h;exact wpAny_Compare1 (binT ha hb I h fun v u s2 x y H2 I2 rx ry q=>ho pins s2 σ H2 x y v u Q I2 rx ry q) hm
def tTest (t : TE) : TT := fun σ H Q=>t σ H fun x H'=>∃ k,x = .bl k /\ Q k H'
theorem pt_cmpR {op : CmpOp} {r : R2} (ho : OpR X (compareOp op) r) (ha : PE X a ta) (hb : PE X b tb) (hm : behindInMarks op b = false) : PT X (.Compare a [op] [b] pos) (tTest (tOp r ta tb)) := by
 intro pins s σ H Q I h;refine wpAny_isTrue_Compare1 (thn (ha pins s σ H _ I h) fun v s1 ⟨x,H1,I1,r1,q1⟩=>thn (hb pins s1 σ H1 _ I1 q1) fun u s2 ⟨y,H2,I2,r2,q2⟩ =>
  thn (ho pins s2 σ H2 x y v u _ I2 r1 r2 q2) fun c s3 ⟨z,H3,I3,r3,k,e,q3⟩=>?_) hm
 subst e;cases r3;exact wpAny_truthy_bool ⟨H3,I3,q3⟩
def TruV (K : Fg) (x : V) (H : Hp) (k : Bool) : Prop :=
 match x with
 | .non=>k = false
 | .bl b=>k = b
 | .int i=>k = (i != 0)
 | .str y=>y.length <= sizeLine /\ k = ((y.length : Int) != 0)
 | .byt y=>y.size <= sizeLine /\ k = ((y.size : Int) != 0)
 | .ref p=>(∃ xs,SqL K H p xs /\ k = !xs.isEmpty) \/ (∃ xs,SqT K H p xs /\ k = !xs.isEmpty) \/ ∃ kvs,H p = some (.dK kvs) /\ k = !kvs.isEmpty
 | _=>False
theorem isEmpty_kv {κ : Type} {kvs : List (κ × V)} {vs : List (κ × Value)} (r : KV kvs vs) : (!vs.isEmpty) = !kvs.isEmpty := by cases r <;> rfl
theorem isEmpty_of {xs : List V} {its : List Value} (r : Vals xs its) : (!its.toArray.isEmpty) = !xs.isEmpty := by cases r <;> simp
theorem line63 : (sizeLine : Nat) < 2 ^ 63 := by rw [sizeLine_eq];decide
theorem tru_ok : TruR X (fun x H Q=>∃ k,TruV X.K x H k /\ Q k H) := by
 intro pins s σ H x v Q I rx h;obtain ⟨k,e,q⟩ := h;have hl := line63;have hs : sizeLine = 16777216 := sizeLine_eq;cases x with
 | non=>cases rx;have e' : k = false := e;subst e';exact truthy_none ⟨H,I,q⟩
 | bl b=>cases rx;have e' : k = b := e;subst e';exact wpAny_truthy_bool ⟨H,I,q⟩
 | int i=>obtain ⟨t,rfl⟩ := rx;have e' : k = (i != 0) := e;subst e';exact PySem.P.truthy_int ⟨H,I,q⟩
 | str y=>obtain ⟨t,rfl⟩ := rx;obtain ⟨hy,e'⟩ : y.length <= sizeLine /\ k = ((y.length : Int) != 0) := e;subst e';exact PySem.P.truthy_str (by omega) ⟨H,I.tok _,q⟩
 | byt y=>obtain ⟨t,rfl⟩ := rx;obtain ⟨hy,e'⟩ : y.size <= sizeLine /\ k = ((y.size : Int) != 0) := e;subst e';exact PySem.W.truthy_bytes (by omega) ⟨H,I.tok _,q⟩
 | ref p =>
  cases rx;have e' : (∃ xs,SqL X.K H p xs /\ k = !xs.isEmpty) \/ (∃ xs,SqT X.K H p xs /\ k = !xs.isEmpty) \/ ∃ kvs,H p = some (.dK kvs) /\ k = !kvs.isEmpty := e;rcases e' with ⟨xs,hx,e'⟩ | ⟨xs,hx,e'⟩ | ⟨kvs,hx,e'⟩
  . subst e';obtain ⟨its,r,pl,hz⟩ := I.list hx;have hlen := r.length;exact wpAny_truthy_list pl.isList (by simp only [List.size_toArray];omega) ⟨H,I.tok _,by rw [isEmpty_of r];exact q⟩
  . subst e';obtain ⟨its,r,pl,hz⟩ := I.tuple hx;have hlen := r.length;exact truthy_tuple pl (by simp only [List.size_toArray];omega) ⟨H,I.tok _,by rw [isEmpty_of r];exact q⟩
  . subst e';obtain ⟨hz,hS,vs,r,m⟩ : kvs.length <= sizeLine /\ (p == sysModules) = false /\ ∃ vs,KV kvs vs /\ s.heap.DictOf (mixKind X.prog X.w) p vs := I.hok p _ hx;have hlen : kvs.length = vs.length := Paired.length r;exact wpAny_truthy_dict hS m (by omega) ⟨H,I.tok _,by rw [isEmpty_kv r];exact q⟩
 | _=>exact (show False from e).elim
theorem pt_truth (ha : PE X a ta) (he : ∀ whole, isTrue a X.env whole = (do let v ← whole; standAt a.pos; holding [v] (truthy v))) :
    PT X a (fun σ H Q=>ta σ H fun x H'=>∃ k,TruV X.K x H' k /\ Q k H') := by
 intro pins s σ H Q I h;exact isTrue_plain (thn (ha pins s σ H _ I h) fun v s1 ⟨x,H1,I1,r1,q1⟩=>tru_ok pins s1 σ H1 x v Q I1 r1 q1) (he _)
theorem op_add_str : OpR X (binaryOp .Add) (fun x y H Q=>∃ i j,x = .str i /\ y = .str j /\ i.length + j.length <= sizeLine /\ Q (.str (i ++ j)) H) := by intro pins s σ H x y v u Q I rx ry h;obtain ⟨i,j,rfl,rfl,hz,q⟩ := h;obtain ⟨t,rfl⟩ := rx;obtain ⟨t',rfl⟩ := ry;exact add_str (fun t' tk=>⟨.str (i ++ j),H,I.tok _,⟨_,rfl⟩,q⟩) hz
theorem vals1 {x : V} {us : List Value} (r : Vals [x] us) : ∃ u,us = [u] /\ RelV x u := by
 cases r with
 | cons r1 r2=>cases r2;exact ⟨_,rfl,r1⟩
theorem vals2 {x y : V} {us : List Value} (r : Vals [x,y] us) : ∃ u w',us = [u,w'] /\ RelV x u /\ RelV y w' := by
 cases r with
 | cons r1 r2 =>
  cases r2 with
  | cons r3 r4=>cases r4;exact ⟨_,_,rfl,r1,r3⟩
theorem call_int1 : CallR X (.type "int") (fun xs H Q=>(∃ i,xs = [.int i] /\ Q (.int i) H) \/ ∃ k,xs = [.bl k] /\ Q (.int (if k then 1 else 0)) H) := by
 intro pins s σ H xs us Q I r h;rcases h with ⟨i,rfl,q⟩ | ⟨k,rfl,q⟩
 . obtain ⟨u,rfl,t,rfl⟩ := vals1 r;exact call_int_int ⟨.int i,H,I,⟨_,rfl⟩,q⟩
 . obtain ⟨u,rfl,r1⟩ := vals1 r;cases r1;exact call_int_bool ⟨.int (if k then 1 else 0),H,I.tok _,⟨_,rfl⟩,q⟩
theorem call_str_int : CallR X (.type "str") (fun xs H Q=>∃ i,xs = [.int i] /\ i.natAbs.log2 < 1920 /\ Q (.str (toString i)) H) := by intro pins s σ H xs us Q I r h;obtain ⟨i,rfl,hz,q⟩ := h;obtain ⟨u,rfl,t,rfl⟩ := vals1 r;exact PySem.P.str_of_int hz ⟨.str _,H,I.tok _,⟨_,rfl⟩,q⟩
def LenV (K : Fg) (x : V) (H : Hp) (n : Nat) : Prop :=
 match x with
 | .str y=>y.length <= sizeLine /\ n = y.length
 | .byt y=>y.size <= sizeLine /\ n = y.size
 | .ref p=>(∃ xs,SqL K H p xs /\ n = xs.length) \/ ∃ xs,SqT K H p xs /\ n = xs.length
 | _=>False
theorem call_len : CallR X (.builtin "len") (fun xs H Q=>∃ x n,xs = [x] /\ LenV X.K x H n /\ Q (.int n) H) := by
 intro pins s σ H xs us Q I r h;obtain ⟨x,n,rfl,e,q⟩ := h;obtain ⟨u,rfl,rx⟩ := vals1 r;have hl := line63;have hs : sizeLine = 16777216 := sizeLine_eq;cases x with
 | str y=>obtain ⟨t,rfl⟩ := rx;obtain ⟨hy,e'⟩ : y.length <= sizeLine /\ n = y.length := e;subst e';exact len_str (by omega) ⟨.int _,H,I.tok _,⟨_,rfl⟩,q⟩
 | byt y=>obtain ⟨t,rfl⟩ := rx;obtain ⟨hy,e'⟩ : y.size <= sizeLine /\ n = y.size := e;subst e';exact PySem.W.len_bytes (by omega) ⟨.int _,H,I.tok _,⟨_,rfl⟩,q⟩
 | ref p =>
  cases rx;have e' : (∃ xs,SqL X.K H p xs /\ n = xs.length) \/ ∃ xs,SqT X.K H p xs /\ n = xs.length := e;rcases e' with ⟨xs,hx,e'⟩ | ⟨xs,hx,e'⟩
  . subst e';obtain ⟨its,r',pl,hz⟩ := I.list hx;have hlen := r'.length;exact Calls.call_len_list pl.isList (by simp only [List.size_toArray];omega) ⟨.int xs.length,H,I.tok _,⟨_,by simp only [List.size_toArray];rw [hlen]⟩,q⟩
  . subst e';obtain ⟨its,r',pl,hz⟩ := I.tuple hx;have hlen := r'.length;exact len_tuple pl (by simp only [List.size_toArray];omega) ⟨.int xs.length,H,I.tok _,⟨_,by simp only [List.size_toArray];rw [hlen]⟩,q⟩
 | _=>exact (show False from e).elim
end
structure ObjM (h : Heap) (x dx C : Addr) (mA : SOV) : Prop where
 obj : h.get? x = some (PySem.W.instObj C dx)
 ns : h.Ns1 dx mA
 ne : dx ≠ x
section
variable {prog : Program} {w : World} {A : Around} {E : VSP} {s : Shared} {K : Fg} {x dx C f : Addr} {mA : SOV} {name : Str} {v : Value}
end
theorem RelO.some_of {v : V} {o : Option Value} (r : RelO (some v) o) : ∃ u,o = some u /\ RelV v u := by
 cases o with
 | none=>exact (show False from r).elim
 | some u=>exact ⟨u,rfl,r⟩
section
variable {P : Program} {w : World} {H H' : Hp} {h h' : Heap} {a C dx : Addr} {fs fs' : List (Str × V)}
end
structure Cls (K : Fg) (C : Addr) : Prop where
 pg : PySem.W.plainGet K C Str.empty = true
 hd : PySem.W.hasDictIn K C = true
 po : PySem.W.plainOver K C = true
 sa : PySem.W.findIn K (.ref C) "__setattr__" = some (some (.builtin "object.__setattr__"))
def NoAttr (K : Fg) (C : Addr) (f : Str) : Prop := PySem.W.findIn K (.ref C) f = some none
structure Meth (K : Fg) (C : Addr) (m : Str) (f : Addr) : Prop where
 at_ : PySem.W.findIn K (.ref C) m = some (some (.ref f))
 fn : PySem.W.isFn K (.ref f) = true
 kp : PySem.W.keepIn K (.ref f) = true
section
variable {X : Cx} {pins : LAO} {σ : St} {H : Hp} {s : Shared} {a C dx : Addr} {fs : List (Str × V)} {f : Str} {v : V} {A : Around} {E : VSP}
end
section
variable {X : Cx} {o e value : Expr} {f : Str} {pos pos' tpos : Pos} {ta tv : TE}
end
section
variable {X : Cx} {pins : LAO} {σ : St} {H : Hp} {s : Shared} {A : Around} {E : VSP} {Q : VSP} {c : Value} {b : Bool}
end
structure Room (k : Nat) (A : Around) : Prop where
 hd : A.handled = none
 dp : A.depth + 3 * k + 5 < recursionLimit
 un : A.units + 16 * k + 200 < cLine
theorem Room.deeper {k : Nat} {A : Around} (r : Room (k + 1) A) (env : Env) : Room k (A.deeper env) :=
 ⟨r.hd,by have := r.dp;show A.depth + 1 + 3 * k + 5 < _;omega,by have := r.un;show A.units + 3 + 16 * k + 200 < _;omega⟩
theorem Room.depth {k : Nat} {A : Around} (r : Room k A) : A.depth < recursionLimit := by have := r.dp;omega
theorem Room.units {k : Nat} {A : Around} (r : Room k A) : A.units + 64 < cLine := by have := r.un;omega
def tNil : TA := fun _ H Q=>Q [] H
def tCons (ta : TE) (tr : TA) : TA := fun σ H Q=>ta σ H fun x H1=>tr σ H1 fun xs H2=>Q (x :: xs) H2
section
variable {X : Cx} {e : Expr} {es : List Expr} {te : TE} {t : TA} {pos : Pos}
theorem pa_nil : PA X [] tNil := fun _ _ _ _ H Q I h=>Calls.spliced_nil ⟨[],H,I,.nil,h⟩
theorem pa_cons (ha : PE X e te) (hr : PA X es t) (hs : starEach (e :: es) X.env = (false,eval e X.env) :: starEach es X.env := by rfl) : PA X (e :: es) (tCons te t) := by intro pos pins s σ H Q I h;rw [hs];show wpAny _ _ (spliced ((false,eval e X.env) :: backTo pos (starEach es X.env))) _ _ s;refine Calls.spliced_cons (thn (ha pins s σ H _ I h) fun u s1 ⟨x,H1,I1,r1,q1⟩=>?_);exact thn (hr pos pins s1 σ H1 _ I1 q1) fun us s2 ⟨xs,H2,I2,r2,q2⟩=>⟨x :: xs,H2,I2,.cons r1 r2,q2⟩
def tTup (t : TA) : TE := fun σ H Q=>t σ H fun xs H1=>xs.length <= sizeLine /\ ∀ p,H1 p = none -> Q (.ref p) (upd H1 p (.tup xs))
def tLst (t : TA) : TE := fun σ H Q=>t σ H fun xs H1=>xs.length <= sizeLine /\ ∀ p,H1 p = none -> Q (.ref p) (upd H1 p (.lst xs))
theorem pe_tup {x1} (h : PA X es t) : PE X (.Tuple es x1 pos) (tTup t) := by
 intro pins s σ H Q I hq;refine wpAny_Tuple_spliced (thn (h pos pins s σ H _ I hq) fun us s1 ⟨xs,H1,I1,r,z,q⟩=>⟨by rw [<- r.length];exact z,?_⟩)
 have hf : H1 s1.heap.objs.size = none := I1.hok.fresh (Nat.le_refl _);refine ⟨.ref s1.heap.objs.size,upd H1 s1.heap.objs.size (.tup xs),I1.laid (t' := s1.toks) (fun b u e=>hps e) (Nat.le_refl _) ?_,rfl,q _ hf⟩;exact ⟨z,us,r,⟨_,Heap.get?_push_size _ rfl,rfl,rfl,_,rfl⟩⟩
theorem pe_lst (h : PA X es t) : PE X (.List es pos) (tLst t) := by
 intro pins s σ H Q I hq;refine wpAny_List_spliced (thn (h pos pins s σ H _ I hq) fun us s1 ⟨xs,H1,I1,r,z,q⟩=>⟨by rw [<- r.length];exact z,?_⟩)
 have hf : H1 s1.heap.objs.size = none := I1.hok.fresh (Nat.le_refl _);refine ⟨.ref s1.heap.objs.size,upd H1 s1.heap.objs.size (.lst xs),I1.laid (t' := s1.toks) (fun b u e=>hps e) (Nat.le_refl _) ?_,rfl,q _ hf⟩;exact ⟨z,us,0,r,Heap.get?_push_size _ rfl⟩
end
abbrev Sp := List V -> Hp -> VK -> XK -> Prop
abbrev CXT := List Env -> Hp -> Shared -> XK -> Value -> Shared -> Prop
structure Env0 (P : Program) (w : World) (K : Fg) (mg : SOV) (base : Heap) (A : Around) (outer : List Env) (s : Shared) (H : Hp) : Prop where
 frames : A.frames = some outer
 mod : Mod K mg base
 bs : ∀ b o,base.get? b = some o -> s.heap.get? b = some o /\ H b = none
 bsz : base.objs.size <= s.heap.objs.size
 funs : s.heap.FunFrames base outer
 frf : ∀ b ∈ frs outer,H b = none
 hok : HOk P w H s.heap
 bare : AllBare s.gens
def CE (outer : List Env) (P : Program) (w : World) (H : Hp) (s : Shared) (Q : VK) (u : Value) (s' : Shared) : Prop :=
 ∃ v H',s'.os = s.os /\ AllBare s'.gens /\ Un (frs outer) [] H H' s.heap s'.heap /\ HOk P w H' s'.heap /\ RelV v u /\ Q v H'
def CR (CX : CXT) (outer : List Env) (P : Program) (w : World) (H : Hp) (s : Shared) (Q : VK) (E : XK) (r : Result) (s' : Shared) : Prop :=
 match r with
 | .ok (.ret u)=>CE outer P w H s Q u s'
 | .ok _=>False
 | .error e=>CX outer H s E e s'
structure FnOk (P : Program) (w : World) (K : Fg) (mg : SOV) (base : Heap) (CX : CXT) (k : Nat) (f : Addr) (fd : FuncData) (ps : List Str) (sp : Sp) : Prop where
 len : ∀ vs H Q E,sp vs H Q E -> vs.length = ps.length
 run : ∀ (A : Around) (outer : List Env) (s : Shared) (H : Hp) (args : Args) (us : List Value) (vs : List V) (Q : VK) (E : XK),Room k A -> Env0 P w K mg base A outer s H -> BindsTo s fd args (ps.zip us) -> Vals vs us -> sp vs H Q E ->
  codeAny (model P w) A (.call (.ref f) args) (CR CX outer P w H s Q E) s
theorem FnOk.imp {P : Program} {w : World} {K : Fg} {mg : SOV} {base : Heap} {CX : CXT} {k : Nat} {f : Addr} {fd : FuncData} {ps : List Str} {sp sp' : Sp} (F : FnOk P w K mg base CX k f fd ps sp) (h : ∀ vs H Q E,sp' vs H Q E -> sp vs H Q E) : FnOk P w K mg base CX k f fd ps sp' :=
 ⟨fun vs H Q E q=>F.len vs H Q E (h _ _ _ _ q),fun A outer s H args us vs Q E hr he hb hv hs=>F.run A outer s H args us vs Q E hr he hb hv (h _ _ _ _ hs)⟩
section
variable {X : Cx} {pins : LAO} {σ : St} {H : Hp} {s s' : Shared}
theorem Inv.env0 (I : Inv X pins σ H s) : Env0 X.prog X.w X.K X.mg X.base X.A X.stack s H :=
 ⟨I.ok.frames,I.ok.mod,I.bs,Nat.le_trans I.ok.bsz I.sz,I.stack,I.stkFree,I.hok,I.bare⟩
theorem Inv.after {Q : VK} {u : Value} (I : Inv X pins σ H s) (h : CE X.stack X.prog X.w H s Q u s') : EP X pins σ Q u s' := by obtain ⟨v,H',os,bare,un,hok,r,q⟩ := h;obtain ⟨hh,g,d,t,os'⟩ := s';obtain rfl : os' = s.os := os;exact ⟨v,H',I.call (h' := hh) (g' := g) (d' := d) (t' := t) (ch := []) un hok bare (fun b z=>absurd z (by simp)),r,q⟩
end
def Binds (K : Fg) (fd : FuncData) (ps : List Str) (ds : List Value) : Prop :=
 ∀ (s : Shared) (us : List Value),K.In s.heap -> (us ++ ds).length = ps.length -> BindsTo s fd ⟨us,[]⟩ (ps.zip (us ++ ds))
theorem Binds.all {K : Fg} {fd : FuncData} {ps : List Str} (h : ∀ us : List Value,us.length = ps.length -> bindArgs fd ⟨us,[]⟩ = pure (ps.zip us)) : Binds K fd ps [] := fun s us _ hl=>by rw [List.append_nil] at hl ⊢;exact .of_eq (h us hl)
section
variable {X : Cx} {CX : CXT} {k : Nat} {f C : Addr} {fd : FuncData} {ps : List Str} {sp : Sp} {dvs : List V} {ds : List Value} {E : XK} {x m : Str} {p pos apos : Pos} {e o : Expr} {es : List Expr} {ta : TE} {t : TA}
structure Mk (K : Fg) (C f : Addr) : Prop where
 makes : PySem.W.makesIn K C = true
 init : PySem.W.findIn K (.ref C) "__init__" = some (some (.ref f))
 fn : PySem.W.isFn K (.ref f) = true
 kp : PySem.W.keepIn K (.ref C) = true
end
section
variable {X : Cx} {CX : CXT} {k : Nat} {f C : Addr} {fd : FuncData} {ps ks : List Str} {sp : Sp} {E : XK} {x m : Str} {p pos apos kpos : Pos} {e o : Expr} {es : List Expr} {kws : List Keyword} {te ta : TE} {t tk : TA} {nm : Option Str}
variable {g : List Value -> List Value -> List Value} {gV : List V -> List V -> List V}
end
structure FnScope (N P : List Str) (sc : Scope) : Prop where
 kind : sc.kind = .function
 co : sc.isCoroutine = false
 gen : sc.isGenerator = false
 nd : N.Nodup
 pre : N.take P.length = P
 par : ∀ x ∈ P,sc.names.lookup x = some .local \/ sc.names.lookup x = some .cell
 nofree : ∀ y ∈ sc.names,y.2 ≠ .free
theorem bindL_out {kindOf : Str -> Option NameKind} {x : Str} : ∀ {binds : List (Str × Value)} {m : SOV},(∀ v,(x,v) ∉ binds) -> bindL kindOf binds m x = m x
 | [],_,_=>rfl
 | (n,v) :: r,m,h=>by
  unfold bindL;rw [bindL_out fun w hw=>h w (mcm hw)];split
  . have : x ≠ n := by rintro rfl;exact h v mcs
    simp [this]
  . rfl
theorem bindC_out {kindOf : Str -> Option NameKind} {x : Str} : ∀ {binds : List (Str × Value)} {m : SOV},(∀ v,(x,v) ∉ binds) -> bindC kindOf binds m x = m x
 | [],_,_=>rfl
 | (n,v) :: r,m,h=>by
  unfold bindC;rw [bindC_out fun w hw=>h w (mcm hw)];split
  . rfl
  . have : x ≠ n := by rintro rfl;exact h v mcs
    simp [this]
theorem bindL_get {kindOf : Str -> Option NameKind} {x : Str} {v : Value} : ∀ {P : List Str} {vs : List Value} {i : Nat} {m : SOV},P.Nodup -> P[i]? = some x -> vs[i]? = some v -> kindOf x = some .local -> bindL kindOf (P.zip vs) m x = some v
 | [],_,_,_,_,h,_,_=>by simp at h
 | _ :: _,[],_,_,_,_,h,_=>by simp at h
 | p :: P,w :: vs,0,m,nd,h1,h2,hk=>by simp at h1 h2;subst h1;subst h2;show bindL kindOf ((p,w) :: P.zip vs) m p = _;unfold bindL;rw [bindL_out fun v hv=>(List.nodup_cons.mp nd).1 (List.of_mem_zip hv).1,if_pos hk];simp
 | p :: P,w :: vs,i + 1,m,nd,h1,h2,hk=>by show bindL kindOf ((p,w) :: P.zip vs) m x = _;unfold bindL;exact bindL_get (i := i) (List.nodup_cons.mp nd).2 (by simpa using h1) (by simpa using h2) hk
theorem bindC_get {kindOf : Str -> Option NameKind} {x : Str} {v : Value} : ∀ {P : List Str} {vs : List Value} {i : Nat} {m : SOV},P.Nodup -> P[i]? = some x -> vs[i]? = some v -> kindOf x ≠ some .local -> bindC kindOf (P.zip vs) m x = some v
 | [],_,_,_,_,h,_,_=>by simp at h
 | _ :: _,[],_,_,_,_,h,_=>by simp at h
 | p :: P,w :: vs,0,m,nd,h1,h2,hk=>by simp at h1 h2;subst h1;subst h2;show bindC kindOf ((p,w) :: P.zip vs) m p = _;unfold bindC;rw [bindC_out fun v hv=>(List.nodup_cons.mp nd).1 (List.of_mem_zip hv).1,if_neg hk];simp
 | p :: P,w :: vs,i + 1,m,nd,h1,h2,hk=>by show bindC kindOf ((p,w) :: P.zip vs) m x = _;unfold bindC;exact bindC_get (i := i) (List.nodup_cons.mp nd).2 (by simpa using h1) (by simpa using h2) hk
def start (N : List Str) (vs : List V) : St := vs.map some ++ List.replicate (N.length - vs.length) none
def cxOf (CX : CXT) (P : Program) (w : World) (K : Fg) (mg : SOV) (base : Heap) (N : List Str) (qual : Str) (scope : Scope) (f : Addr) (cd : Value) (A : Around) (outer : List Env) (s : Shared) (H : Hp) (E : XK) : Cx where
 prog := P
 w := w
 K := K
 mg := mg
 base := base
 A := A.deeper (envOfC qual scope s.heap.objs.size f cd)
 N := N
 s₀ := s
 H₀ := H
 env := envOfC qual scope s.heap.objs.size f cd
 outer := outer
 stack := envOfC qual scope s.heap.objs.size f cd :: outer
 ex := []
 calm := true
 fn := fun _=>true
 pn := []
 xe := fun e s'=>wpAny (model P w) (A.deeper (envOfC qual scope s.heap.objs.size f cd)) (leaving (envOfC qual scope s.heap.objs.size f cd) e) (fun _ s''=>CX outer H s E e s'') (fun e' s''=>CX outer H s E e' s'') s'
theorem cell_has {sc : Scope} {n : Nat} {x : Str} (h : sc.names.lookup x = some .cell) : ∃ c,(cellsFrom n sc.names []).lookup x = some c := by have q := PySem.W.cellsFrom_some sc.names n [] (.inl h);exact Option.isSome_iff_exists.mp q
theorem inv_start {CX : CXT} {P : Program} {w : World} {K : Fg} {mg : SOV} {base : Heap} {N ps : List Str} {qual : Str} {scope : Scope} {f : Addr} {cd : Value} {A : Around} {outer : List Env} {s s1 : Shared} {H : Hp} {E : XK} {us : List Value} {vs : List V} (S : FnScope N ps scope) (hd : A.handled = none) (e0 : Env0 P w K mg base A outer s H) (hl : vs.length = ps.length) (r : Vals vs us) (x : InCallC s s.heap.objs.size (bindL (envOfC qual scope s.heap.objs.size f cd).kindOf (ps.zip us) fun _=>none) (cellsFrom (s.heap.objs.size + 1) scope.names []) (bindC (envOfC qual scope s.heap.objs.size f cd).kindOf (ps.zip us) fun _=>none) s1) : Inv (cxOf CX P w K mg base N qual scope f cd A outer s H E) [] (start N vs) H s1 := by
 have hpl : ps.length <= N.length := by have := congrArg List.length S.pre;rw [List.length_take] at this;omega
 obtain ⟨h1,tk,rfl,hk⟩ := x.done;have noA : ∀ b : Addr,b ∉ (cxOf CX P w K mg base N qual scope f cd A outer s H E).ex := fun b z=>absurd (show b ∈ ([] : List Addr) from z) (by simp)
 refine ⟨⟨e0.mod,S.kind,rfl,rfl,Nat.le_refl _,fun y z c h1 h2=>?_,fun y hy=>?_,fun y c _ h=>?_,fun _=>hd,Around.frames_deeper e0.frames,.inr ⟨rfl,rfl⟩,fun b z=>absurd z (noA b),e0.bs,e0.bsz,fun b _ _=>noA b,fun b z=>absurd z (noA b),e0.funs,e0.frf⟩,
  rfl,e0.bare,Un.kept hk,⟨_,x.toInCall.ns,fun i y v h1 h2 h3=>?_⟩,fun y c h=>⟨_,x.cell y c h⟩,e0.hok.fresh (Nat.le_refl _),fun y c h=>?_,fun p hp=>absurd (show p ∈ ([] : LAO) from hp) (by simp),e0.hok.kept hk,?_⟩
 . exact name_of_addr x.apart (PySem.mem_of_lookup h1) (PySem.mem_of_lookup h2)
 . have hy : scope.names.lookup y = some .cell \/ scope.names.lookup y = some .free := hy;rcases hy with hy | hy
   . exact cell_has hy
   . exact absurd rfl (S.nofree _ (PySem.mem_of_lookup hy))
 . exact Nat.le_of_lt (x.above y c (PySem.mem_of_lookup h))
 . have hi : i < vs.length := by
     unfold start at h2;by_cases hi : i < vs.length
     . exact hi
     . rw [List.getElem?_append_right (by simpa using hi)] at h2
       rw [List.getElem?_replicate] at h2;split at h2 <;> cases h2
   have ha : vs[i]? = some v := by
    unfold start at h2;rw [List.getElem?_append_left (by simpa using hi),List.getElem?_map] at h2
    cases e : vs[i]? with
    | none=>rw [e] at h2;cases h2
    | some a=>rw [e] at h2;cases h2;rfl
   obtain ⟨u,hu,rv⟩ := r.get ha;have hp : ps[i]? = some y := by rw [<- S.pre,List.getElem?_take_of_lt (by omega)];exact h1
   have ndP : ps.Nodup := by rw [<- S.pre];exact S.nd.sublist (List.take_sublist _ _)
   refine ⟨u,rv,?_⟩;rcases S.par y (List.mem_of_getElem? hp) with k | k
   . exact .inl ⟨k,bindL_get ndP hp hu k⟩
   . obtain ⟨c,e⟩ := cell_has (n := s.heap.objs.size + 1) k;refine .inr ⟨.inl k,c,e,?_⟩;have q := x.cell y c e;rw [bindC_get ndP hp hu (by show scope.names.lookup y ≠ _;rw [k];decide)] at q
     exact q
 . exact e0.hok.fresh (Nat.le_of_lt (x.above y c (PySem.mem_of_lookup h)))
 . unfold start;show _ = N.length;rw [List.length_append,List.length_map,List.length_replicate];omega
theorem fn_of {CX : CXT} {P : Program} {w : World} {K : Fg} {mg : SOV} {base : Heap} {k : Nat} {f : Addr} {name qual : Str} {params : Arguments} {body : List Stmt} {scope : Scope} {dV kV doc pm cdv ct oc : Value} {an od : Option Addr} {osl : Array (Option Value)} {N ps : List Str} {sp : Sp} (lk : K.lookup f = some ⟨oc,od,.func (PySem.W.fnOf name qual params body scope dV kV doc pm an cdv ct),osl⟩) (hcd : PySem.W.codeIn K cdv qual = true) (S : FnScope N ps scope) (len : ∀ vs H Q E,sp vs H Q E -> vs.length = ps.length) (hbody : ∀ (A : Around) (outer : List Env) (s : Shared) (H : Hp) (vs : List V) (Q : VK) (E : XK),Room k (A.deeper (envOfC qual scope s.heap.objs.size f cdv)) -> sp vs H Q E -> ∃ t,PSs (cxOf CX P w K mg base N qual scope f cdv A outer s H E) body t /\ t { nx := fun _ H'=>Q .non H',rt := Q } (start N vs) H) : FnOk P w K mg base CX (k + 1) f (PySem.W.fnOf name qual params body scope dV kV doc pm an cdv ct) ps sp := by
 refine ⟨len,fun A outer s H args us vs Q E hr e0 hb r hsp=>?_⟩;have hl := len _ _ _ _ hsp;have KX : K.In s.heap := e0.mod.kin.keeps fun b o e=>(e0.bs b o e).1;have lim : s.heap.NoLimit := e0.mod.nolimit.keeps fun b o e=>(e0.bs b o e).1;have hkind : ∀ y ∈ ps.zip us,scope.names.lookup y.1 = some .local \/ (scope.names.lookup y.1 = some .cell /\ ((cellsFrom (s.heap.objs.size + 1) scope.names []).lookup y.1).isSome = true) := fun ⟨n,v⟩ hy=>by
  rcases S.par n (List.of_mem_zip hy).1 with q | q
  . exact .inl q
  . exact .inr ⟨q,PySem.W.cellsFrom_some _ _ _ (.inl q)⟩
 refine codeAny_call_function hr.depth (KX _ _ lk) rfl S.co S.gen rfl (PySem.W.codeRec_of KX hcd) (hb _ _ _ _ ?_);refine wpAny_newFunctionEnv_cells S.kind hkind fun env he s1 x=>?_;subst he;refine ⟨lim.keeps x.toInCall.keep,codeAny_func ?_⟩;obtain ⟨t,ht,hq⟩ := hbody A outer s H vs Q E (hr.deeper _) hsp;have I : Inv (cxOf CX P w K mg base N qual scope f cdv A outer s H E) [] (start N vs) H s1 := inv_start S hr.hd e0 hl r x;refine wpAny_mono (ht [] s1 (start N vs) H _ I hq) (fun fl s' hs=>?_) fun e s' hs=>hs;have fin : ∀ {σ' : St} {H' : Hp} {v : V} {u : Value},Inv (cxOf CX P w K mg base N qual scope f cdv A outer s H E) [] σ' H' s' -> RelV v u -> Q v H' -> CE outer P w H s Q u s' :=
  fun {σ' H' v u} J rv q=>⟨v,H',J.os,J.bare,J.base,J.hok,rv,q⟩
 cases fl with
 | ret u=>obtain ⟨v,σ',H',J,rv,q⟩ := hs;exact fin J rv q
 | next=>obtain ⟨σ',H',J,q⟩ := hs;exact fin (v := V.non) (u := Value.none) J rfl q
 | brk=>obtain ⟨_,_,_,q⟩ := hs;exact False.elim q
 | cont=>obtain ⟨_,_,_,q⟩ := hs;exact False.elim q
section
variable {X : Cx} {x : Str} {p pos : Pos} {e : Expr} {es : List Expr} {t : TA} {id T : String} {r : List V -> Hp -> VK -> Prop}
def tCB (r : List V -> Hp -> VK -> Prop) (t : TA) : TE := fun σ H Q=>t σ H fun vs H1=>r vs H1 Q
theorem pe_callB (hc : CallR X (.builtin id) r) (hg : Gl X x) (hm : X.mg x = none) (hv : bootBuiltins x = some (.builtin id)) (ha : PA X (e :: es) t) (hn : x ≠ "__name__" := by decide) (hdb : (x == ("__debug__" : Str)) = false := by decide) (he : starEach (e :: es) X.env = (false,eval e X.env) :: starEach es X.env := by rfl) (hpl : (backTo pos (starEach es X.env)).any (·.1) = false := by rfl) : PE X (.Call (.Name x p) (e :: es) [] pos) (tCB r t) := by intro pins s σ H Q I h;refine wpAny_Call_Name_kw (ld_blt I hg hm hv ?_ hn hdb);exact PyProof.Rows.callWith_builtin1 (thn (ha pos pins s σ H _ I h) fun us s1 ⟨vs,H1,I1,r1,q1⟩=>hc pins s1 σ H1 vs us Q I1 r1 q1) he hpl
theorem pe_callTy (hc : CallR X (.type T) r) (hg : Gl X x) (hm : X.mg x = none) (hv : bootBuiltins x = some (.type T)) (ha : PA X (e :: es) t) (hn : x ≠ "__name__" := by decide) (hdb : (x == ("__debug__" : Str)) = false := by decide) (he : starEach (e :: es) X.env = (false,eval e X.env) :: starEach es X.env := by rfl) (hpl : (backTo pos (starEach es X.env)).any (·.1) = false := by rfl) : PE X (.Call (.Name x p) (e :: es) [] pos) (tCB r t) := by intro pins s σ H Q I h;refine wpAny_Call_Name_kw (ld_blt I hg hm hv ?_ hn hdb);exact PyProof.Rows.callWith_type1 (thn (ha pos pins s σ H _ I h) fun us s1 ⟨vs,H1,I1,r1,q1⟩=>hc pins s1 σ H1 vs us Q I1 r1 q1) he hpl
end
end L2
namespace HT
open PySem PyProof.Rows
section
open PySem.SeqAt
open PySem.AutoSeq1 (wpAny_loadPart')
open PySem.MeetsSeq PySem.MeetsSeq2 PySem.MeetsSeq3
end
section
variable {prog : Program} {w : World} {A : Around} {E : VSP} {s : Shared}
theorem cat_tup {t b : Addr} {vs ws : List Value} {Q : VSP} (ht : IsTup s.heap t vs.toArray) (hb : IsTup s.heap b ws.toArray) (hv : vs ≠ []) (h1 : ws = [] -> Q (.ref t) s) (h2 : ws ≠ [] -> Q (.ref s.heap.objs.size) { s with heap := s.heap.push { cls := .type "tuple", data := .seq (vs ++ ws).toArray } }) (hsz : vs.length + ws.length <= sizeLine) : wpAny (model prog w) A (binaryOp .Add (.ref t) (.ref b)) Q E s := by
 obtain ⟨⟨cls,dd,data,sl⟩,ho,hc,n,hd⟩ := id ht;obtain ⟨⟨cls2,dd2,data2,sl2⟩,ho2,hc2,n2,hd2⟩ := id hb;simp only at hc hd hc2 hd2;subst hc hd hc2 hd2;have e : vs.toArray ++ ws.toArray = (vs ++ ws).toArray := by simp
 by_cases hw : ws = []
 . exact concat_meets ⟨_,ho,rfl⟩ ⟨_,ho2,rfl⟩ noFill_tuple_add seq_tuple_add PySem.F.slot_tuple_add PySem.F.entry_tuple_add (PySem.F.args_tuple_add_2 _ _)
     (tuple_addW1 t b vs.toArray ws.toArray n n2 dd dd2 sl sl2 (by simpa using hv) (by simp [hw])) ⟨ho,ho2,h1 hw⟩
 . refine concat_meets ⟨_,ho,rfl⟩ ⟨_,ho2,rfl⟩ noFill_tuple_add seq_tuple_add PySem.F.slot_tuple_add PySem.F.entry_tuple_add (PySem.F.args_tuple_add_2 _ _)
     (tuple_addW2 t b vs.toArray ws.toArray n n2 dd dd2 sl sl2 (by simpa using hv) (by simpa using hw) (by rw [List.size_toArray,List.size_toArray];exact hsz)) ⟨ho,ho2,?_⟩
   rw [e];exact h2 hw
def sIx (n d : Nat) : Option Int -> Nat
 | none=>d
 | some v=>if v < 0 then (v + (n : Int)).toNat else min v.toNat n
theorem sIx_none (n d : Nat) : sIx n d none = d := rfl
theorem sIx_nat (n d k : Nat) : sIx n d (some (k : Int)) = min k n := by show (if (k : Int) < 0 then ((k : Int) + (n : Int)).toNat else min (k : Int).toNat n) = min k n;rw [if_neg (by omega),Int.toNat_natCast]
theorem sIx_le (n d : Nat) (hd : d <= n) (o : Option Int) : sIx n d o <= n := by
 cases o with
 | none=>exact hd
 | some v =>
  show (if v < 0 then (v + (n : Int)).toNat else min v.toNat n) <= n;by_cases hv : v < 0
  . rw [if_pos hv];omega
  . rw [if_neg hv];exact Nat.min_le_right _ _
theorem clip_eq (v : Int) (n d : Nat) : (if v < 0 then max (v + (n : Int)) 0 else min v (n : Int)) = ((sIx n d (some v) : Nat) : Int) := by
 show (if v < 0 then max (v + (n : Int)) 0 else min v (n : Int)) = (((if v < 0 then (v + (n : Int)).toNat else min v.toNat n) : Nat) : Int);by_cases hv : v < 0
 . simp only [if_pos hv];omega
 . simp only [if_neg hv];omega
theorem adjust_gen (lo hi : Option Int) (n : Nat) : Builtin.Slice.sliceAdjust lo hi 1 (n : Int) = (((sIx n 0 lo : Nat) : Int),((sIx n n hi : Nat) : Int)) := by
 have h1 : ¬ ((1 : Int) < 0) := by omega
 unfold Builtin.Slice.sliceAdjust;simp only [h1,if_false];refine Prod.ext ?_ ?_
 . cases lo with
   | none=>rfl
   | some v=>exact clip_eq v n 0
 . cases hi with
   | none=>rfl
   | some v=>exact clip_eq v n n
theorem places_gen (i j : Nat) : Builtin.Slice.slicePlaces (i : Int) (j : Int) 1 = j - i := by
 unfold Builtin.Slice.slicePlaces;have h1 : (1 : Int) > 0 := by omega
 simp only [h1,if_true,Int.ediv_one];split <;> omega
theorem slicePart_ {v : Value} {o : Option Int} {Q : Option Int -> Shared -> Prop} (p : IsPart v o) (h : Q o s) : wpAny (model prog w) A (Builtin.Slice.slicePartIndex v) Q E s := by
 cases p with
 | none=>exact slicePart_none h
 | int i t=>exact slicePart_int h
theorem sliceApplied_gen {sl : Addr} {vl vu : Value} {lo hi : Option Int} {n : Nat} {Q : Int × Int × Nat -> Shared -> Prop} (hs : s.heap.IsSliceOf sl vl vu .none) (pl : IsPart vl lo) (pu : IsPart vu hi) (h : Q (((sIx n 0 lo : Nat) : Int),1,sIx n n hi - sIx n 0 lo) s) : wpAny (model prog w) A (Builtin.Slice.sliceApplied (.ref sl) (pure (n : Int))) Q E s := by
 obtain ⟨os,hos,hcs,hds⟩ := id hs;unfold Builtin.Slice.sliceApplied Builtin.Slice.sliceFields;refine wpAny_bind (wpAny_bind (wpAny_field hos hds (x := vl) rfl (wpAny_bind (wpAny_field hos hds (x := vu) rfl (wpAny_bind (wpAny_field hos hds (x := .none) rfl (wpAny_pure ?_)))))));refine wpAny_bind (slicePart_none ?_);show wpAny _ _ (if ((1 : Int) == 0) = true then _ else _) _ _ s;rw [if_neg (by decide)]
 refine wpAny_bind (slicePart_ pl (wpAny_bind (slicePart_ pu (wpAny_bind (wpAny_pure ?_)))));show wpAny _ _ (match Builtin.Slice.sliceAdjust lo hi 1 (n : Int) with | (lo,hi)=>pure (lo,(1 : Int),Builtin.Slice.slicePlaces lo hi 1)) _ _ s
 rw [adjust_gen lo hi n];show wpAny _ _ (pure (((sIx n 0 lo : Nat) : Int),(1 : Int),Builtin.Slice.slicePlaces ((sIx n 0 lo : Nat) : Int) ((sIx n n hi : Nat) : Int) 1)) _ _ s;rw [places_gen];exact wpAny_pure h
theorem pick_gen (xs : Array Value) (i k : Nat) : ((List.range k).filterMap fun (m : Nat)=>xs[((i : Int) + (m : Int) * 1).toNat]?).toArray = ((xs.toList.drop i).take k).toArray := by
 have e : (fun (m : Nat)=>xs[((i : Int) + (m : Int) * 1).toNat]?) = fun m=>xs[i + m]? := by
  funext m;have : ((i : Int) + (m : Int) * 1).toNat = i + m := by omega
  rw [this]
 rw [e];have := pick_run xs i k;rw [List.filterMap_map] at this;have e2 : ((fun x=>xs[x]?) ∘ fun x=>i + x) = fun m=>xs[i + m]? := rfl;rw [e2] at this;rw [this]
theorem getItem_tuple_cut {t sl : Addr} {items : Array Value} {vl vu : Value} {lo hi : Option Int} {Q : VSP} (ht : IsTup s.heap t items) (hs : s.heap.IsSliceOf sl vl vu .none) (pl : IsPart vl lo) (pu : IsPart vu hi) (hw : ¬ (sIx items.size 0 lo = 0 /\ sIx items.size items.size hi = items.size)) (h : Q (.ref s.heap.objs.size) { s with heap := s.heap.push { cls := .type "tuple", data := .seq ((items.toList.drop (sIx items.size 0 lo)).take (sIx items.size items.size hi - sIx items.size 0 lo)).toArray } }) (hsz : items.size <= sizeLine) : wpAny (model prog w) A (getItem (.ref t) (.ref sl)) Q E s := by
 have htake : sizeOk (.seq ((items.toList.drop (sIx items.size 0 lo)).take (sIx items.size items.size hi - sIx items.size 0 lo)).toArray) := by show ((items.toList.drop (sIx items.size 0 lo)).take (sIx items.size items.size hi - sIx items.size 0 lo)).toArray.size <= sizeLine;rw [List.size_toArray,List.length_take,List.length_drop,Array.length_toList];omega
 have hj : sIx items.size items.size hi <= items.size := sIx_le _ _ (Nat.le_refl _) hi;obtain ⟨os,hos,hcs,hds⟩ := id hs;have hTs : s.TypeIs (.ref sl) "slice" := ⟨os,hos,hcs⟩;unfold getItem
 try with_reducible refine wpAny_holding ?_
 first | refine wpAny_bind (wpAny_pure ?_) | skip
 refine wpAny_bind (wpAny_sequenceKey ht.typeIs (by decide) ?_)
 refine wpAny_bind (wpAny_callSpecial?_slot (name := Str.ofString "__getitem__") ht.typeIs PyProof.Rows.slot_tuple_getitem
  (wpAny_call_entry PyProof.Rows.slot_tuple_getitem ht.typeIs entry_tuple_getitem ?_ (args_tuple_getitem _ _)))
 show wpAny _ _ (Builtin.Tuple.tupleItemsOf (.ref t) >>= _) _ _ s;refine wpAny_bind (tupleItemsOf_ ht ?_);refine wpAny_bind (wpAny_typeOf hTs ?_);rw [if_pos (by decide)]
 refine wpAny_bind (sliceApplied_gen hs pl pu ?_);have hno : ¬ ((((sIx items.size 0 lo : Nat) : Int) == 0 && (1 : Int) == 1 && (sIx items.size items.size hi - sIx items.size 0 lo) == items.size) = true) := by intro q;rw [Bool.and_eq_true,Bool.and_eq_true] at q;have q1 : ((sIx items.size 0 lo : Nat) : Int) = 0 := eq_of_beq q.1.1;have q2 : sIx items.size items.size hi - sIx items.size 0 lo = items.size := eq_of_beq q.2;exact hw ⟨by omega,by omega⟩
 show wpAny _ _ (if (((sIx items.size 0 lo : Nat) : Int) == 0 && (1 : Int) == 1 && (sIx items.size items.size hi - sIx items.size 0 lo) == items.size) = true then _ else _) _ _ s;rw [if_neg hno,pick_gen]
 first
  | exact wpAny_bind (m := Builtin.Tuple.tupleExact _) (wpAny_newObj_type (wpAny_pure ⟨_,rfl,wpAny_pure h⟩) htake)
  | exact wpAny_bind (m := Builtin.Tuple.tupleExact _) (wpAny_newObj_type (wpAny_bind (wpAny_pure (wpAny_pure ⟨_,rfl,wpAny_pure h⟩))) htake)
  | exact wpAny_bind (wpAny_bind (m := Builtin.Tuple.tupleExact _) (wpAny_newObj_type (wpAny_pure (wpAny_pure ⟨_,rfl,wpAny_pure h⟩)) htake))
  | exact wpAny_bind (wpAny_bind (m := Builtin.Tuple.tupleExact _) (wpAny_newObj_type (wpAny_pure ⟨_,rfl,wpAny_pure h⟩) htake))
end
end HT
namespace L2
open PySem PySem.Spec PyProof.Rows
abbrev TO := St -> Hp -> (Option Int -> Hp -> Prop) -> Prop
def PO (X : Cx) (e : Option Expr) (t : TO) : Prop :=
 ∀ (pins : LAO) (s : Shared) (σ : St) (H : Hp) (Q : Option Int -> Hp -> Prop),Inv X pins σ H s -> t σ H Q ->
  wpAny (model X.prog X.w) X.A (evalPart e X.env) (fun u s'=>∃ o H',Inv X pins σ H' s' /\ IsPart u o /\ Q o H') X.xe s
def tNoPart : TO := fun _ H Q=>Q none H
def tPart (t : TE) : TO := fun σ H Q=>t σ H fun x H1=>∃ i,x = .int i /\ Q (some i) H1
section
variable {X : Cx} {e : Expr} {te : TE} {lo hi : Option Expr} {tl th : TO} {pos p2 : Pos}
theorem po_none : PO X none tNoPart := by intro pins s σ H Q I h;rw [evalPart_none];exact wpAny_pure ⟨none,H,I,.none,h⟩
theorem po_some (h : PE X e te) : PO X (some e) (tPart te) := by intro pins s σ H Q I hw;rw [evalPart_some];refine thn (h pins s σ H _ I hw) fun u s1 ⟨x,H1,I1,r1,q1⟩=>?_;obtain ⟨i,rfl,q⟩ := q1;obtain ⟨t,rfl⟩ := r1;exact ⟨some i,H1,I1,.int i t,q⟩
def SlR (X : Cx) (r : V -> Option Int -> Option Int -> Hp -> VK -> Prop) : Prop :=
 ∀ (pins : LAO) (s : Shared) (σ : St) (H : Hp) (x : V) (v vl vu : Value) (lo hi : Option Int) (sl : Addr) (Q : VK),Inv X pins σ H s -> RelV x v -> s.heap.IsSliceOf sl vl vu .none -> IsPart vl lo -> IsPart vu hi -> r x lo hi H Q ->
  ∃ T id,typeLookup (.type T) "__getitem__" = pure (some (.builtin id)) /\ s.TypeIs v T /\ wpAny (model X.prog X.w) X.A (getItem v (.ref sl)) (EP X pins σ Q) X.xe s
theorem SlR.or {r r' : V -> Option Int -> Option Int -> Hp -> VK -> Prop} (h : SlR X r) (h' : SlR X r') : SlR X (fun x lo hi H Q=>r x lo hi H Q \/ r' x lo hi H Q) := by
 intro pins s σ H x v vl vu lo hi sl Q I rx hs pl pu q;rcases q with q | q
 . exact h pins s σ H x v vl vu lo hi sl Q I rx hs pl pu q
 . exact h' pins s σ H x v vl vu lo hi sl Q I rx hs pl pu q
def tSl (r : V -> Option Int -> Option Int -> Hp -> VK -> Prop) (te : TE) (tl th : TO) : TE := fun σ H Q=>te σ H fun x H1=>tl σ H1 fun l H2=>th σ H2 fun u H3=>r x l u H3 Q
theorem pe_slice {r : V -> Option Int -> Option Int -> Hp -> VK -> Prop} (hr : SlR X r) (he : PE X e te) (hl : PO X lo tl) (hu : PO X hi th) : PE X (.Subscript e (.Slice lo hi none p2) pos) (tSl r te tl th) := by
 intro pins s σ H Q I h;refine Subscript_ (thn (he pins s σ H _ I h) fun v s1 ⟨x,H1,I1,r1,q1⟩=>?_);refine wpAny_Slice (thn (hl pins s1 σ H1 _ I1 q1) fun vl s2 ⟨l,H2,I2,pl,q2⟩=>thn (hu pins s2 σ H2 _ I2 q2) fun vu s3 ⟨u,H3,I3,pu,q3⟩=>?_);rw [evalPart_none];refine wpAny_pure ?_;have I4 : Inv X pins σ H3 { s3 with heap := s3.heap.push { cls := .type "slice", data := .fields #[vl,vu,.none] } } := I3.kept (t' := s3.toks) fun b ob q=>hps q
 obtain ⟨T,id,hT,ht,hg⟩ := hr pins { s3 with heap := s3.heap.push { cls := .type "slice", data := .fields #[vl,vu,.none] } } σ H3 x v vl vu l u s3.heap.objs.size Q I4 r1 (Heap.IsSliceOf.new ..) pl pu q3
 show wpAny (model X.prog X.w) X.A (subscriptTail e (.Slice lo hi none p2) v (.ref s3.heap.objs.size)) (EP X pins σ Q) X.xe { s3 with heap := s3.heap.push { cls := .type "slice", data := .fields #[vl,vu,.none] } }
 exact tail_any (ops := [.ref s3.heap.objs.size,v]) ht hT hg (by with_unfolding_all rfl)
def cutV (xs : List V) (lo hi : Option Int) : List V := (xs.drop (HT.sIx xs.length 0 lo)).take (HT.sIx xs.length xs.length hi - HT.sIx xs.length 0 lo)
theorem cutV_length (xs : List V) (lo hi : Option Int) : (cutV xs lo hi).length <= xs.length := by unfold cutV;rw [List.length_take,List.length_drop];omega
def rSlT (K : Fg) : V -> Option Int -> Option Int -> Hp -> VK -> Prop := fun x lo hi H Q=>∃ a xs,x = .ref a /\ SqT K H a xs /\
 ¬ (HT.sIx xs.length 0 lo = 0 /\ HT.sIx xs.length xs.length hi = xs.length) /\ ∀ p,H p = none -> Q (.ref p) (upd H p (.tup (cutV xs lo hi)))
theorem sl_tup : SlR X (rSlT X.K) := by
 intro pins s σ H x v vl vu lo hi sl Q I rx hs pl pu h;obtain ⟨a,xs,rfl,hx,hw,q⟩ := h;cases rx;obtain ⟨its,r,ht,hz⟩ := I.tuple hx;have hlen : its.toArray.size = xs.length := by rw [List.size_toArray];exact r.length.symm
 refine ⟨"tuple", _,PyProof.Rows.slot_tuple_getitem.lookup,ht.typeIs,?_⟩;refine HT.getItem_tuple_cut ht hs pl pu (by rw [hlen];exact hw) ?_ (by rw [hlen];exact hz)
 rw [hlen];refine ⟨.ref s.heap.objs.size,_,I.laid (t' := s.toks) (o := .tup (cutV xs lo hi)) (fun b ob q=>hps q) (Nat.le_refl _) ?_,rfl,q _ (I.hok.fresh (Nat.le_refl _))⟩;exact ⟨Nat.le_trans (cutV_length xs lo hi) hz,_,(r.drop (HT.sIx xs.length 0 lo)).take (HT.sIx xs.length xs.length hi - HT.sIx xs.length 0 lo),PlainTp.new _ _⟩
theorem Vals.nil_iff {xs : List V} {us : List Value} (r : Vals xs us) : us = [] ↔ xs = [] := by
 cases r with
 | nil=>simp
 | cons _ _=>simp
end
def ixN (n : Nat) (i : Int) : Option Nat := if 0 <= i then (if i < n then some i.toNat else none) else if -(n : Int) <= i then some (i + n).toNat else none
def atI {α : Type} (xs : List α) (i : Int) : Option α := (ixN xs.length i).bind fun j=>xs[j]?
theorem ixN_seq {n : Nat} {i : Int} {j : Nat} (h : ixN n i = some j) : seqIndex? i n = some j /\ j < n /\ -(n : Int) <= i /\ i < n := by
 unfold ixN at h;by_cases h0 : 0 <= i
 . rw [if_pos h0] at h;by_cases h1 : i < n
   . rw [if_pos h1] at h;have e : i.toNat = j := Option.some.inj h;exact ⟨by rw [seqIndex_of h0 h1,e],by omega,by omega,h1⟩
   . rw [if_neg h1] at h;cases h
 . rw [if_neg h0] at h;by_cases h1 : -(n : Int) <= i
   . rw [if_pos h1] at h;have e : (i + n).toNat = j := Option.some.inj h;exact ⟨by rw [seqIndex_neg (by omega) h1,e],by omega,h1,by omega⟩
   . rw [if_neg h1] at h;cases h
theorem atI_get {α : Type} {xs : List α} {i : Int} {v : α} (h : atI xs i = some v) : ∃ j,seqIndex? i xs.length = some j /\ xs[j]? = some v /\ j < xs.length /\ -(xs.length : Int) <= i /\ i < xs.length := by
 unfold atI at h;cases e : ixN xs.length i with
 | none=>rw [e] at h;cases h
 | some j=>rw [e] at h;obtain ⟨h1,h2,h3,h4⟩ := ixN_seq e;exact ⟨j,h1,h,h2,h3,h4⟩
theorem atI_nat {α : Type} {xs : List α} {j : Nat} {v : α} (h : xs[j]? = some v) : atI xs (j : Int) = some v := by
 have hj : j < xs.length := (List.getElem?_eq_some_iff.mp h).1;have e : ixN xs.length (j : Int) = some j := by unfold ixN;rw [if_pos (by omega),if_pos (by omega)];simp
 unfold atI;rw [e];exact h
def PlainIx (b : Expr) : Prop := ∀ o i,subscripted b false o i = operate [o,i] (getItem o i)
def IxR (X : Cx) (r : R2) : Prop :=
 ∀ (value slice : Expr) (pins : LAO) (s : Shared) (σ : St) (H : Hp) (x y : V) (v u : Value) (Q : VK),Inv X pins σ H s -> RelV x v -> RelV y u -> r x y H Q ->
  subscripted slice false v u = operate [v,u] (getItem v u) -> wpAny (model X.prog X.w) X.A (subscriptTail value slice v u) (EP X pins σ Q) X.xe s
def MtR (X : Cx) (id : String) (r : V -> List V -> Hp -> VK -> Prop) : Prop :=
 ∀ (pins : LAO) (s : Shared) (σ : St) (H : Hp) (x : V) (xs : List V) (v : Value) (us : List Value) (Q : VK),Inv X pins σ H s -> RelV x v -> Vals xs us -> r x xs H Q ->
  wpAny (model X.prog X.w) X.A (call (.builtin id) (v :: us)) (EP X pins σ Q) X.xe s
section
variable {X : Cx} {a b : Expr} {ta tb : TE} {pos : Pos}
theorem IxR.or {r r' : R2} (h : IxR X r) (h' : IxR X r') : IxR X (fun x y H Q=>r x y H Q \/ r' x y H Q) := by
 intro value slice pins s σ H x y v u Q I rx ry q hs;rcases q with q | q
 . exact h value slice pins s σ H x y v u Q I rx ry q hs
 . exact h' value slice pins s σ H x y v u Q I rx ry q hs
theorem pe_ix {r : R2} (hr : IxR X r) (ha : PE X a ta) (hb : PE X b tb) (hs : PlainIx b) : PE X (.Subscript a b pos) (tOp r ta tb) := by intro pins s σ H Q I h;exact Subscript_ (binT ha hb I h fun v u s2 x y H2 I2 rx ry q=>hr a b pins s2 σ H2 x y v u Q I2 rx ry q (hs _ _))
def rIxL (K : Fg) : R2 := fun x y H Q=>∃ p xs i v,x = .ref p /\ y = .int i /\ SqL K H p xs /\ atI xs i = some v /\ Q v H
def rIxT (K : Fg) : R2 := fun x y H Q=>∃ p xs i v,x = .ref p /\ y = .int i /\ SqT K H p xs /\ atI xs i = some v /\ Q v H
def rIxS : R2 := fun x y H Q=>∃ z i c,x = .str z /\ y = .int i /\ z.length <= sizeLine /\ atI z.cps.toList i = some c /\ Q (.str ⟨#[c]⟩) H
theorem ix_list : IxR X (rIxL X.K) := by
 intro value slice pins s σ H x y v u Q I rx ry h hs;obtain ⟨p,xs,i,z,rfl,rfl,hq,he,q⟩ := h;cases rx;obtain ⟨t,rfl⟩ := ry;obtain ⟨its,r,pl,hz⟩ := I.list hq;obtain ⟨j,h1,h2,h3,h4,h5⟩ := atI_get he;obtain ⟨w,ew,rw'⟩ := r.get h2;have hl := r.length;have hn := line63;have fin : EP X pins σ Q w s := ⟨z,H,I,rw',q⟩;by_cases h0 : 0 <= i
 . have hj : i.toNat = j := by rw [seqIndex_of h0 h5] at h1;exact Option.some.inj h1
   exact item_listR pl.isList h0 (by omega) (by rw [hj];simpa using ew) fin hs
 . have hj : (i + (its.toArray.size : Int)).toNat = j := by
     rw [seqIndex_neg (by omega) h4] at h1
     rw [List.size_toArray,<- hl];exact Option.some.inj h1
   exact subscriptTail_builtinR (x := w) pl.isList.typeIs slot_list_getitem.lookup
    (wpAny_getItem_list_neg (Q := fun r s'=>r = w /\ EP X pins σ Q r s') pl.isList (by omega) (by rw [List.size_toArray] <;> omega) (by omega) (by rw [hj];simpa using ew) ⟨rfl,fin⟩) hs
theorem ix_tup : IxR X (rIxT X.K) := by
 intro value slice pins s σ H x y v u Q I rx ry h hs;obtain ⟨p,xs,i,z,rfl,rfl,hq,he,q⟩ := h;cases rx;obtain ⟨t,rfl⟩ := ry;obtain ⟨its,r,pl,hz⟩ := I.tuple hq;obtain ⟨j,h1,h2,h3,h4,h5⟩ := atI_get he;obtain ⟨w,ew,rw'⟩ := r.get h2;have hl := r.length;have hn := line63;have fin : EP X pins σ Q w s := ⟨z,H,I,rw',q⟩;exact subscriptTail_builtinR (x := w) pl.typeIs slot_tuple_getitem.lookup
  (getItem_tuple (j := j) (Q := fun r s'=>r = w /\ EP X pins σ Q r s') pl (by omega) (by omega) (by rw [List.size_toArray,<- hl];exact h1) (by simpa using ew) ⟨rfl,fin⟩) hs
theorem ix_str : IxR X rIxS := by
 intro value slice pins s σ H x y v u Q I rx ry h hs;obtain ⟨z,i,c,rfl,rfl,hz,he,q⟩ := h;obtain ⟨t,rfl⟩ := rx;obtain ⟨t',rfl⟩ := ry;obtain ⟨j,h1,h2,h3,h4,h5⟩ := atI_get he;have hl : z.cps.toList.length = z.length := by simp [Str.length]
 rw [hl] at h1 h4 h5;have hn := line63;exact tail_any (typeIs_str s z t) slot_str_getitem.lookup (getItem_str (c := c) (by
  have e1 : decide (i < -(2 ^ 63 : Int)) = false := decide_eq_false (by omega)
  have e2 : decide (i ≥ 2 ^ 63) = false := decide_eq_false (by omega)
  rw [e1,e2,Bool.or_false]) (by rw [h1];simpa using h2) ⟨.str ⟨#[c]⟩,H,I.tok _,⟨_,rfl⟩,q⟩) hs
def rIx (K : Fg) : R2 := fun x y H Q=>rIxL K x y H Q \/ rIxT K x y H Q \/ rIxS x y H Q
theorem ix_seq : IxR X (rIx X.K) := ix_list.or (ix_tup.or ix_str)
theorem slice_bounds (lo hi : Option Int) (n : Nat) : (sliceBounds lo hi none n).1 = ((HT.sIx n 0 lo : Nat) : Int) /\ (sliceBounds lo hi none n).2.1 = ((HT.sIx n n hi : Nat) : Int) /\ (sliceBounds lo hi none n).2.2 = 1 := by
 refine ⟨?_,?_,rfl⟩
 . cases lo with
   | none=>simp [sliceBounds,HT.sIx]
   | some i =>
    simp only [sliceBounds,HT.sIx,Option.getD_none,show (1 : Int) > 0 by decide,if_true]
    by_cases h : i < 0
    . simp only [h,if_true] <;> omega
    . simp only [h,if_false] <;> omega
 . cases hi with
   | none=>simp [sliceBounds,HT.sIx]
   | some i =>
    simp only [sliceBounds,HT.sIx,Option.getD_none,show (1 : Int) > 0 by decide,if_true]
    by_cases h : i < 0
    . simp only [h,if_true] <;> omega
    . simp only [h,if_false] <;> omega
theorem slicePick_cut (its : List Value) (lo hi : Option Int) : slicePick its.toArray lo hi none = ((its.drop (HT.sIx its.length 0 lo)).take (HT.sIx its.length its.length hi - HT.sIx its.length 0 lo)).toArray := by obtain ⟨h1,h2,h3⟩ := slice_bounds lo hi its.toArray.size;unfold slicePick;rw [h1,h2,h3];simp only [sliceRange_one,pick_run,List.size_toArray] <;> rfl
def rSlL (K : Fg) : V -> Option Int -> Option Int -> Hp -> VK -> Prop := fun x lo hi H Q=>∃ a xs,x = .ref a /\ SqL K H a xs /\ ∀ p,H p = none -> Q (.ref p) (upd H p (.lst (cutV xs lo hi)))
theorem sl_list : SlR X (rSlL X.K) := by
 intro pins s σ H x v vl vu lo hi sl Q I rx hs pl pu h;obtain ⟨a,xs,rfl,hx,q⟩ := h;cases rx;obtain ⟨its,r,ht,hz⟩ := I.list hx;have hlen := r.length;refine ⟨"list", _,slot_list_getitem.lookup,ht.isList.typeIs,?_⟩;refine wpAny_getItem_list_slice ht.isList hs pl pu .none (by simp) ?_ (by rw [List.size_toArray] <;> omega)
 rw [slicePick_cut,<- hlen];refine ⟨.ref s.heap.objs.size,_,I.laid (t' := s.toks) (o := .lst (cutV xs lo hi)) (fun b ob q=>hps q) (Nat.le_refl _) ?_,rfl,q _ (I.hok.fresh (Nat.le_refl _))⟩;exact ⟨Nat.le_trans (cutV_length xs lo hi) hz,_,0,(r.drop (HT.sIx xs.length 0 lo)).take (HT.sIx xs.length xs.length hi - HT.sIx xs.length 0 lo),Heap.get?_push_size _ rfl⟩
def flatV : V -> Bool
 | .non=>true
 | .bl _=>true
 | .int _=>true
 | .str _=>true
 | _=>false
def eqV : V -> V -> Bool
 | .non,.non=>true
 | .bl a,.bl b=>a == b
 | .bl a,.int b=>(if a then 1 else 0) == b
 | .int a,.bl b=>a == (if b then 1 else 0)
 | .int a,.int b=>a == b
 | .str a,.str b=>a == b
 | _,_=>false
theorem eqAt_V {A : Around} {s : Shared} {y x : V} {u v : Value} (ry : RelV y u) (rx : RelV x v) (fy : flatV y = true) (fx : flatV x = true) : SeqAt.EqAt A s u v (eqV y x) := by
 cases y with
 | non =>
  cases ry;cases x with
  | non=>cases rx;exact SeqAt.EqAt.same _
  | bl b=>cases rx;exact SeqAt.EqAt.none_bool b
  | int b=>obtain ⟨t,rfl⟩ := rx;exact SeqAt.EqAt.none_int b t
  | str b=>obtain ⟨t,rfl⟩ := rx;exact SeqAt.EqAt.none_str b t
  | _=>exact absurd (show false = true from fx) Bool.false_ne_true
 | bl a =>
  cases ry;cases x with
  | non=>cases rx;exact SeqAt.EqAt.bool_none a
  | bl b=>cases rx;exact SeqAt.EqAt.bool_bool a b
  | int b=>obtain ⟨t,rfl⟩ := rx;exact SeqAt.EqAt.bool_int a b t
  | str b=>obtain ⟨t,rfl⟩ := rx;exact SeqAt.EqAt.bool_str a b t
  | _=>exact absurd (show false = true from fx) Bool.false_ne_true
 | int a =>
  obtain ⟨t',rfl⟩ := ry;cases x with
  | non=>cases rx;exact SeqAt.EqAt.int_none a t'
  | bl b=>cases rx;exact SeqAt.EqAt.int_bool a t' b
  | int b=>obtain ⟨t,rfl⟩ := rx;exact SeqAt.EqAt.int_int a t' b t
  | str b=>obtain ⟨t,rfl⟩ := rx;exact SeqAt.EqAt.int_str a t' b t
  | _=>exact absurd (show false = true from fx) Bool.false_ne_true
 | str a =>
  obtain ⟨t',rfl⟩ := ry;cases x with
  | non=>cases rx;exact SeqAt.EqAt.str_none a t'
  | bl b=>cases rx;exact SeqAt.EqAt.str_bool a t' b
  | int b=>obtain ⟨t,rfl⟩ := rx;exact SeqAt.EqAt.str_int a t' b t
  | str b=>obtain ⟨t,rfl⟩ := rx;exact SeqAt.EqAt.str_str a t' b t
  | _=>exact absurd (show false = true from fx) Bool.false_ne_true
 | _=>exact absurd (show false = true from fy) Bool.false_ne_true
def eqU (x : V) (u : Value) : Bool := match u with
 | .none=>eqV .non x
 | .bool b=>eqV (.bl b) x
 | .int i _=>eqV (.int i) x
 | .str z _=>eqV (.str z) x
 | _=>false
theorem eqU_of {x y : V} {u : Value} (r : RelV y u) (f : flatV y = true) : eqU x u = eqV y x := by
 cases y with
 | non=>cases r;rfl
 | bl b=>cases r;rfl
 | int i=>obtain ⟨t,rfl⟩ := r;rfl
 | str z=>obtain ⟨t,rfl⟩ := r;rfl
 | _=>exact absurd (show false = true from f) Bool.false_ne_true
theorem any_eqU {x : V} : ∀ {xs : List V} {us : List Value},Vals xs us -> xs.all flatV = true -> us.any (eqU x) = xs.any fun y=>eqV y x
 | _,_,.nil,_=>rfl
 | y :: xs,u :: us,.cons r t,f=>by rw [List.all_cons,Bool.and_eq_true] at f;rw [List.any_cons,List.any_cons,eqU_of r f.1,any_eqU t f.2]
theorem mem_eqAt {A : Around} {s : Shared} {x : V} {v : Value} (rx : RelV x v) (fx : flatV x = true) : ∀ {xs : List V} {us : List Value},Vals xs us -> xs.all flatV = true -> ∀ u ∈ us,SeqAt.EqAt A s u v (eqU x u)
 | _,_,.nil,_=>fun u hu=>by cases hu
 | y :: xs,u :: us,.cons r t,f=>fun u' hu=>by
  rw [List.all_cons,Bool.and_eq_true] at f;rcases List.mem_cons.mp hu with rfl | hu
  . rw [eqU_of r f.1];exact eqAt_V r rx f.1 fx
  . exact mem_eqAt rx fx t f.2 u' hu
def inV (x : V) (xs : List V) : Bool := xs.any fun y=>eqV y x
def rIn (K : Fg) (neg : Bool) : R2 := fun x y H Q=>∃ p xs,y = .ref p /\ (SqL K H p xs \/ SqT K H p xs) /\ flatV x = true /\ xs.all flatV = true /\ Q (.bl (if neg then !inV x xs else inV x xs)) H
theorem op_in_seq : OpR X (compareOp .In) (rIn X.K false) := by
 intro pins s σ H x y v u Q I rx ry h;obtain ⟨p,xs,rfl,hq,fx,fs,q⟩ := h;cases ry;rcases hq with hq | hq
 . obtain ⟨its,r,pl,hz⟩ := I.list hq;refine SeqAt.in_listAt (eqU x) pl.isList (fun w hw=>mem_eqAt rx fx r fs w (by simpa using hw)) ⟨.bl _,H,I,rfl,?_⟩
   rw [show its.toArray.any (eqU x) = its.any (eqU x) by simp,any_eqU r fs]
   exact q
 . obtain ⟨its,r,pl,hz⟩ := I.tuple hq;refine SeqAt.in_tupleAt (eqU x) pl (fun w hw=>mem_eqAt rx fx r fs w (by simpa using hw)) ⟨.bl _,H,I,rfl,?_⟩
   rw [show its.toArray.any (eqU x) = its.any (eqU x) by simp,any_eqU r fs]
   exact q
theorem op_notIn_seq : OpR X (compareOp .NotIn) (rIn X.K true) := by
 intro pins s σ H x y v u Q I rx ry h;obtain ⟨p,xs,rfl,hq,fx,fs,q⟩ := h;cases ry;rcases hq with hq | hq
 . obtain ⟨its,r,pl,hz⟩ := I.list hq;refine SeqAt.notIn_listAt (eqU x) pl.isList (fun w hw=>mem_eqAt rx fx r fs w (by simpa using hw)) ⟨.bl _,H,I,rfl,?_⟩
   rw [show its.toArray.any (eqU x) = its.any (eqU x) by simp,any_eqU r fs]
   exact q
 . obtain ⟨its,r,pl,hz⟩ := I.tuple hq;refine SeqAt.notIn_tupleAt (eqU x) pl (fun w hw=>mem_eqAt rx fx r fs w (by simpa using hw)) ⟨.bl _,H,I,rfl,?_⟩
   rw [show its.toArray.any (eqU x) = its.any (eqU x) by simp,any_eqU r fs]
   exact q
theorem CallR.or {f : Value} {r r' : List V -> Hp -> VK -> Prop} (h : CallR X f r) (h' : CallR X f r') : CallR X f (fun xs H Q=>r xs H Q \/ r' xs H Q) := by
 intro pins s σ H xs us Q I rs q;rcases q with q | q
 . exact h pins s σ H xs us Q I rs q
 . exact h' pins s σ H xs us Q I rs q
theorem call_list_of : CallR X (.type "list") (fun xs H Q=>∃ p ys,xs = [.ref p] /\ (SqL X.K H p ys \/ SqT X.K H p ys) /\ ∀ l,H l = none -> Q (.ref l) (upd H l (.lst ys))) := by
 intro pins s σ H xs us Q I r h; obtain ⟨p, ys, rfl, hq, q⟩ := h; obtain ⟨u, rfl, rx⟩ := vals1 r; cases rx; have fin : ∀ (its : List Value), Vals ys its → ys.length ≤ sizeLine → ∀ (h' : Heap) (c' : Nat), (∀ b o', s.heap.get? b = some o' → h'.get? b = some o') →
     h'.get? s.heap.objs.size = some { cls := .type "list", dict := none,data := .seq its.toArray c',slots := #[] } -> EP X pins σ Q (.ref s.heap.objs.size) { s with heap := h' } := fun its r' hz h' c' kp e =>
  ⟨.ref s.heap.objs.size,_,I.laid (t' := s.toks) kp (Nat.le_refl _) (show ObjOk X.prog X.w _ h' _ (.lst ys) from ⟨hz,its,c',r',e⟩),rfl,q _ (I.hok.fresh (Nat.le_refl _))⟩
 rcases hq with hq | hq
 . obtain ⟨its,r',pl,hz⟩ := I.list hq;have hlen := r'.length;obtain ⟨o,ho,hc,n,hd⟩ := pl.isList;exact call_list_seq p (.inl rfl) ho hc hd (fun h' c' kp e=>fin its r' hz h' c' kp e) (by simp only [List.size_toArray] <;> omega)
 . obtain ⟨its,r',pl,hz⟩ := I.tuple hq;have hlen := r'.length;obtain ⟨o,ho,hc,n,hd⟩ := pl;exact call_list_seq p (.inr rfl) ho hc hd (fun h' c' kp e=>fin its r' hz h' c' kp e) (by simp only [List.size_toArray] <;> omega)
theorem call_tuple_of : CallR X (.type "tuple") (fun xs H Q=>∃ p ys,xs = [.ref p] /\ ((SqL X.K H p ys /\ ∀ l,H l = none -> Q (.ref l) (upd H l (.tup ys))) \/ (SqT X.K H p ys /\ Q (.ref p) H))) := by
 intro pins s σ H xs us Q I r h;obtain ⟨p,ys,rfl,h⟩ := h;obtain ⟨u,rfl,rx⟩ := vals1 r;cases rx;rcases h with ⟨hq,q⟩ | ⟨hq,q⟩
 . obtain ⟨its,r',pl,hz⟩ := I.list hq;have hlen := r'.length;refine call_tuple_list pl.isList (fun h' kp=>?_) (by simp only [List.size_toArray] <;> omega)
   have I1 : Inv X pins σ H { s with heap := h' } := I.kept (t' := s.toks) kp
   have I2 : Inv X pins σ (upd H h'.objs.size (.tup ys)) { s with heap := h'.push { cls := .type "tuple", data := .seq its.toArray } } :=
    I1.laid (t' := s.toks) (fun b o e=>hps e) (Nat.le_refl _) (show ObjOk X.prog X.w _ _ _ (.tup ys) from ⟨hz,its,r',PlainTp.new _ _⟩)
   exact ⟨.ref h'.objs.size,_,I2,rfl,q _ (I1.hok.fresh (Nat.le_refl _))⟩
 . obtain ⟨its,r',pl,hz⟩ := I.tuple hq;exact call_tuple_same pl ⟨.ref p,H,I,rfl,q⟩
def tyV (K : Fg) (T : String) (x : V) (H : Hp) : Prop := match x with
 | .str _=>T = "str"
 | .int _=>T = "int"
 | .ref p => (T = "list" ∧ ∃ xs, SqL K H p xs) ∨ (T = "tuple" ∧ ∃ o, K.lookup p = some o ∧ o.cls = .type "tuple" ∧ o.dict = none) ∨
     (T = "dict" /\ ((∃ kvs,H p = some (.dK kvs)) \/ ∃ kvs,H p = some (.dT kvs))) \/ (T = "set" /\ ∃ S n,H p = some (.set S n))
 | _=>False
theorem tyV_is {pins : LAO} {σ : St} {H : Hp} {s : Shared} {T : String} {x : V} {v : Value} (I : Inv X pins σ H s) (r : RelV x v) (ty : tyV X.K T x H) : s.TypeIs v T /\ ∀ a,v = .ref a -> ∃ ob,s.heap.get? a = some ob /\ ob.dict = none := by
 cases x with
 | str z =>
  obtain ⟨t,rfl⟩ := r;cases (show T = "str" from ty)
  exact ⟨typeIs_str s z t,fun _ e=>nomatch e⟩
 | int i =>
  obtain ⟨t,rfl⟩ := r;cases (show T = "int" from ty)
  exact ⟨typeIs_int s i t,fun _ e=>nomatch e⟩
 | ref p =>
  cases r;rcases ty with ⟨rfl,xs,hq⟩ | ⟨rfl,o,hk,hc,hd⟩ | ⟨rfl,hk⟩ | ⟨rfl,S,n,hk⟩
  . obtain ⟨its,_,pl,_⟩ := I.list hq;refine ⟨pl.isList.typeIs,fun a e=>?_⟩;cases e;obtain ⟨o,n,e,c,hd,_⟩ := pl;exact ⟨o,e,hd⟩
  . refine ⟨⟨o,I.kIn p o hk,hc⟩,fun a e=>?_⟩;cases e;exact ⟨o,I.kIn _ o hk,hd⟩
  . have z : ∃ o,s.heap.get? p = some o /\ o.ExactDict := by
      rcases hk with ⟨kvs,hk⟩ | ⟨kvs,hk⟩
      . obtain ⟨_,_,_,_,o,_,_,e,ex,_⟩ := I.hok p _ hk;exact ⟨o,e,ex⟩
      . obtain ⟨_,_,_,_,o,_,_,e,ex,_⟩ := I.hok p _ hk;exact ⟨o,e,ex⟩
    obtain ⟨o,e,ex⟩ := z;refine ⟨⟨o,e,ex.1⟩,fun a e2=>?_⟩;cases e2;exact ⟨o,e,ex.2.1⟩
  . obtain ⟨o,_,_,_,e,ex,_⟩ := I.hok p _ hk;refine ⟨⟨o,e,ex.1⟩,fun a e2=>?_⟩;cases e2;exact ⟨o,e,ex.2.1⟩
 | _=>exact False.elim ty
def tBM (K : Fg) (T : String) (r : V -> List V -> Hp -> VK -> Prop) (to : TE) (t : TA) : TE := fun σ H Q=>to σ H fun x H1=>tyV K T x H1 /\ t σ H1 fun xs H2=>r x xs H2 Q
variable {o e : Expr} {es : List Expr} {to : TE} {t : TA} {name : Str} {apos cpos : Pos} {T id : String} {r : V -> List V -> Hp -> VK -> Prop}
theorem pe_bm (pa : PlainAttrs T) (slot : Slot T name id) (hty : typeOf (.builtin id) = pure (.type "method_descriptor")) (hm : MtR X id r) (ho : PE X o to) (ha : PA X (e :: es) t) (hbase : attributeBase o name X.env (eval o X.env) = eval o X.env := by rfl) (hfew : ((backTo cpos (starEach (e :: es) X.env)).all (fun x=>!x.1) && (backToKw cpos (keywordEach [] X.env)).all (fun x=>x.1.isSome) && decide ((e :: es).length + ([] : List Keyword).length + (if ([] : List Keyword).isEmpty then 0 else 1) < 30)) = true := by rfl) (hline : (apos.endLine == cpos.line) = true := by rfl) (hs : starEach (e :: es) X.env = (false,eval e X.env) :: starEach es X.env := by rfl) (hplain : (backTo cpos (starEach es X.env)).any (·.1) = false := by rfl) : PE X (.Call (.Attribute o name apos) (e :: es) [] cpos) (tBM X.K T r to t) := by
 intro pins s σ H Q I h;refine wpAny_Call_method_late hbase hfew hline rfl (thn (ho pins s σ H _ I h) fun v s1 ⟨x,H1,I1,r1,ty,q1⟩=>?_);obtain ⟨h1,h2⟩ := tyV_is I1 r1 ty;refine ⟨T,id,pa,slot,hty,h1,h2,?_⟩;have hA := ha cpos pins s1 σ H1 _ I1 q1;rw [hs] at hA ⊢;refine Calls.callWith_builtin (by show (false || (backTo cpos (starEach es X.env)).any (·.1)) = false;rw [hplain] <;> rfl) (Calls.evalArgs_plain ?_)
 exact thn hA fun us s2 ⟨vs,H2,I2,r2,q2⟩=>hm pins s2 σ H2 x vs v us Q I2 r1 r2 q2
/- xs.append(e),list.index on a module's tuple .. are MtR facts of 06m -/
end
def MtM (X : Cx) (id : String) (r : V -> List V -> Hp -> VK -> Prop) : Prop :=
 ∀ (pins : LAO) (s : Shared) (σ : St) (H : Hp) (x : V) (xs : List V) (v : Value) (us : List Value) (Q : VK),Inv X pins σ H s -> RelV x v -> Vals xs us -> r x xs H Q ->
  wpAny (model X.prog X.w) X.A (call (.builtin id) (v :: us)) (EP X pins σ Q) X.xe s
theorem Vals.one : ∀ {x : V} {us : List Value},Vals [x] us -> ∃ u,us = [u] /\ RelV x u
 | _,_,.cons r .nil=>⟨_,rfl,r⟩
section
variable {X : Cx} {pins : LAO} {σ : St} {H : Hp} {s : Shared} {l b : Addr} {xs ys zs : List V}
theorem Inv.lset {its its' : List Value} {n : Nat} {f : Array Value -> Array Value} {t' : Nat} (I : Inv X pins σ H s) (hH : H l = some (.lst xs)) (e : s.heap.get? l = some { cls := .type "list", data := .seq its.toArray n }) (hf : f its.toArray = its'.toArray) (hv : Vals ys its') (hz : ys.length <= sizeLine) : Inv X pins σ (upd H l (.lst ys)) { s with heap := s.heap.update l (Obj.mapSeq f),toks := t' } := by
 have q := PySem.IsL.update e f;rw [hf] at q;refine I.write (x := l) (e := l) (by rw [hH];exact trivial) (.inl rfl) (fun b' u hb hu=>(Heap.get?_update_other s.heap (Obj.mapSeq f) (Ne.symm hb)).trans hu) ⟨_,q⟩ ?_
 exact ⟨hz,its',_,hv,q⟩
theorem Inv.lstM (I : Inv X pins σ H s) (hH : H l = some (.lst xs)) : xs.length <= sizeLine /\ ∃ (its : List Value) (n : Nat),Vals xs its /\ xs.length = its.length /\ s.heap.get? l = some { cls := .type "list", data := .seq its.toArray n } := by obtain ⟨z,its,n,r,e⟩ := I.hok l _ hH;exact ⟨z,its,n,r,r.length,e⟩
end
section
variable {X : Cx}
def rAppend : V -> List V -> Hp -> VK -> Prop := fun x vs H Q=>∃ l xs y,x = .ref l /\ vs = [y] /\ H l = some (.lst xs) /\ xs.length < sizeLine /\ Q .non (upd H l (.lst (xs ++ [y])))
theorem mt_append : MtM X "list.append" rAppend := by
 intro pins s σ H x vs v us Q I rx rv h;obtain ⟨l,xs,y,rfl,rfl,hH,hz,q⟩ := h;cases rx;obtain ⟨u,rfl,ru⟩ := rv.one;obtain ⟨z,its,n,r,hl,e⟩ := I.lstM hH;refine call_meets F.slot_list_append ⟨_,e,rfl⟩ F.entry_list_append (F.args_list_append_2 _ _) (PySem.list_append l its.toArray n u (by rw [List.size_toArray];omega)) ⟨e,?_⟩
 refine ⟨.non,_,I.lset (its' := its ++ [u]) hH e (by simp) (r.append (.cons ru .nil)) ?_,rfl,q⟩
 rw [List.length_append,List.length_singleton];omega
end
section
variable {prog : Program} {w : World} {A : Around} {E : VSP} {s : Shared}
end
section
variable {X : Cx}
end
section
variable {κ : Type} [DecidableEq κ]
def valV (kvs : List (κ × V)) (k : κ) : Option V := (kvs.find? fun kv=>decide (kv.1 = k)).map (·.2)
def putK (kvs : List (κ × V)) (k : κ) (v : V) : List (κ × V) :=
 if (kvs.any fun kv=>decide (kv.1 = k)) = true then kvs.map (fun kv=>if kv.1 = k then (kv.1,v) else kv) else kvs ++ [(k,v)]
theorem valV_pos {p : κ × V} {r : List (κ × V)} {k : κ} (e : p.1 = k) : valV (p :: r) k = some p.2 := by simp [valV,List.find?_cons,e]
theorem valV_neg {p : κ × V} {r : List (κ × V)} {k : κ} (e : ¬ p.1 = k) : valV (p :: r) k = valV r k := by simp [valV,List.find?_cons,e]
theorem valV_any (k : κ) : ∀ kvs : List (κ × V),(kvs.any fun kv=>decide (kv.1 = k)) = (valV kvs k).isSome
 | []=>rfl
 | p :: r=>by
  rw [List.any_cons];by_cases e : p.1 = k
  . simp only [valV_pos e,decide_eq_true e,Bool.true_or,Option.isSome_some]
  . rw [valV_neg e,decide_eq_false e,Bool.false_or];exact valV_any k r
theorem length_putK (kvs : List (κ × V)) (k : κ) (v : V) : (putK kvs k v).length <= kvs.length + 1 := by
 unfold putK;split
 . rw [List.length_map];omega
 . rw [List.length_append,List.length_cons,List.length_nil];omega
theorem RelO.isSome_eq {o : Option V} {u : Option Value} (r : RelO o u) : o.isSome = u.isSome := by
 cases o with
 | none=>cases u with
  | none=>rfl
  | some _=>exact (show False from r).elim
 | some _=>cases u with
  | none=>exact (show False from r).elim
  | some _=>rfl
theorem KV.val {kvs : List (κ × V)} {vs : List (κ × Value)} (r : KV kvs vs) (k : κ) : RelO (valV kvs k) (valueAt vs k) := by
 unfold KV at r
 induction r with
 | nil=>exact True.intro
 | @cons p q ps qs h t ih =>
  obtain ⟨h1,h2⟩ := h;by_cases e : p.1 = k
  . have e' : q.1 = k := h1.symm.trans e;have b : valueAt (q :: qs) k = some q.2 := by simp [valueAt,List.find?_cons,e']
    rw [valV_pos e,b];exact h2
  . have e' : ¬ q.1 = k := fun z=>e (h1.trans z);have b : valueAt (q :: qs) k = valueAt qs k := by simp [valueAt,List.find?_cons,e']
    rw [valV_neg e,b];exact ih
theorem KV.any {kvs : List (κ × V)} {vs : List (κ × Value)} (r : KV kvs vs) (k : κ) : (kvs.any fun kv=>decide (kv.1 = k)) = vs.any fun kv=>decide (kv.1 = k) := by
 unfold KV at r
 induction r with
 | nil=>rfl
 | cons h t ih=>rw [List.any_cons,List.any_cons,ih,h.1]
theorem KV.repl {kvs : List (κ × V)} {vs : List (κ × Value)} (r : KV kvs vs) (k : κ) {y : V} {u : Value} (ry : RelV y u) : KV (kvs.map fun kv=>if kv.1 = k then (kv.1,y) else kv) (vs.map fun kv=>if kv.1 = k then (kv.1,u) else kv) := by
 unfold KV at r ⊢
 induction r with
 | nil=>exact .nil
 | @cons p q ps qs h t ih =>
  rw [List.map_cons,List.map_cons];refine .cons ?_ ih;obtain ⟨h1,h2⟩ := h;by_cases e : p.1 = k
  . rw [if_pos e,if_pos (h1.symm.trans e)];exact ⟨h1,ry⟩
  . rw [if_neg e,if_neg (fun z=>e (h1.trans z))];exact ⟨h1,h2⟩
theorem KV.put {kvs : List (κ × V)} {vs : List (κ × Value)} (r : KV kvs vs) (k : κ) {y : V} {u : Value} (ry : RelV y u) : KV (putK kvs k y) (stored vs k u) := by
 unfold putK stored;rw [r.any k];by_cases e : (vs.any fun kv=>decide (kv.1 = k)) = true
 . rw [if_pos e,if_pos e];exact r.repl k ry
 . rw [if_neg e,if_neg e];exact Paired.snoc r ⟨rfl,ry⟩
theorem KV.keys {kvs : List (κ × V)} {vs : List (κ × Value)} (r : KV kvs vs) : kvs.map (·.1) = vs.map (·.1) := by
 unfold KV at r
 induction r with
 | nil=>rfl
 | cons h t ih=>rw [List.map_cons,List.map_cons,ih,h.1]
theorem KV.length {kvs : List (κ × V)} {vs : List (κ × Value)} (r : KV kvs vs) : kvs.length = vs.length := Paired.length r
end
theorem kV_is {P : Program} {w : World} {k : Key} {u : Value} (r : RelV (kV k) u) : (mixKind P w).is k u = true := by
 cases k with
 | inl i=>obtain ⟨t,e⟩ := (show ∃ t,u = Value.int i t from r);subst e;exact mixKind_int P w i t
 | inr x=>obtain ⟨t,e⟩ := (show ∃ t,u = Value.str x t from r);subst e;exact mixKind_str P w x t
theorem items_are {P : Program} {w : World} : ∀ {ks : List Key} {us : List Value},Vals (ks.map kV) us -> ItemsAre (mixKind P w) ks us
 | [],_,r=>by rw [List.map_nil] at r;cases r;exact .nil
 | k :: ks,_,r=>by
  rw [List.map_cons] at r;cases r with
  | cons h t=>exact .cons (kV_is h) (items_are t)
abbrev KT (H : Hp) : List (List Key × V) -> List (List Key × Addr × Value) -> Prop := Paired fun p q=>p.1 = q.1 /\ H q.2.1 = some (.tup (p.1.map kV)) /\ RelV p.2 q.2.2
theorem KT.val {H : Hp} {kvs : List (List Key × V)} {xs : List (List Key × Addr × Value)} (r : KT H kvs xs) (k : List Key) : RelO (valV kvs k) ((atKey xs k).map (·.2)) := by
 induction r with
 | nil=>exact True.intro
 | @cons p q ps qs h t ih =>
  obtain ⟨h1,_,h2⟩ := h;by_cases e : p.1 = k
  . have e' : q.1 = k := h1.symm.trans e;have b : atKey (q :: qs) k = some q.2 := by simp [atKey,List.find?_cons,e']
    rw [valV_pos e,b];exact h2
  . have e' : ¬ q.1 = k := fun z=>e (h1.trans z);have b : atKey (q :: qs) k = atKey qs k := by simp [atKey,List.find?_cons,e']
    rw [valV_neg e,b];exact ih
theorem KT.repl {H : Hp} {kvs : List (List Key × V)} {xs : List (List Key × Addr × Value)} (r : KT H kvs xs) (k : List Key) {y : V} {u : Value} (ry : RelV y u) : KT H (kvs.map fun kv=>if kv.1 = k then (kv.1,y) else kv) (xs.map (putAt k u)) := by
 induction r with
 | nil=>exact .nil
 | @cons p q ps qs h t ih =>
  rw [List.map_cons,List.map_cons];refine .cons ?_ ih;obtain ⟨h1,h2,h3⟩ := h;unfold putAt;by_cases e : p.1 = k
  . rw [if_pos e,if_pos (h1.symm.trans e)];exact ⟨h1,h2,ry⟩
  . rw [if_neg e,if_neg (fun z=>e (h1.trans z))];exact ⟨h1,h2,h3⟩
theorem KT.put {H : Hp} {kvs : List (List Key × V)} {xs : List (List Key × Addr × Value)} (r : KT H kvs xs) (k : List Key) {b : Addr} {y : V} {u : Value} (hb : H b = some (.tup (k.map kV))) (ry : RelV y u) : KT H (putK kvs k y) (storedH xs k b u) := by
 have e : (kvs.any fun kv=>decide (kv.1 = k)) = (atKey xs k).isSome := by rw [valV_any,(r.val k).isSome_eq,Option.isSome_map]
 unfold putK storedH;rw [e];by_cases q : (atKey xs k).isSome = true
 . rw [if_pos q,if_pos q];exact r.repl k ry
 . rw [if_neg q,if_neg q];exact Paired.snoc r ⟨rfl,hb,ry⟩
theorem KT.keeps {H H' : Hp} {kvs : List (List Key × V)} {xs : List (List Key × Addr × Value)} (r : KT H kvs xs) (ht : ∀ b ys,H b = some (.tup ys) -> H' b = some (.tup ys)) : KT H' kvs xs :=
 Paired.mapP r fun _ _ z=>⟨z.1,ht _ _ z.2.1,z.2.2⟩
section
variable {P : Program} {w : World} {H : Hp} {h : Heap} {a : Addr}
theorem rd_of {u : HO} (ok : HOk P w H h) (e : Rd H a u) : ObjOk P w H h a u := e.ok ok
theorem dk_rd {kvs : List (Key × V)} (ok : HOk P w H h) (e : Rd H a (.dK kvs)) : kvs.length <= sizeLine /\ (a == sysModules) = false /\ ∃ vs,KV kvs vs /\ h.DictOf (mixKind P w) a vs :=
 show ObjOk P w H h a (.dK kvs) from rd_of ok e
theorem dk_of {kvs : List (Key × V)} (ok : HOk P w H h) (e : H a = some (.dK kvs)) : kvs.length <= sizeLine /\ (a == sysModules) = false /\ ∃ vs,KV kvs vs /\ h.DictOf (mixKind P w) a vs := dk_rd ok (.inl e)
theorem key_of {ks : List Key} (ok : HOk P w H h) (e : H a = some (.tup (ks.map kV))) : (tupleKind (mixKind P w)).is h ks a := by
 obtain ⟨_,its,r,o,h1,h2,_,n,h3⟩ := (show ObjOk P w H h a (.tup (ks.map kV)) from ok a _ e)
 exact ⟨o,its.toArray,n,h1,h2,h3,by simpa using items_are r⟩
theorem dt_rd {kvs : List (List Key × V)} (ok : HOk P w H h) (e : Rd H a (.dT kvs)) : kvs.length <= sizeLine /\ (a == sysModules) = false /\ ∃ xs,KT H kvs xs /\ h.DictOfH (tupleKind (mixKind P w)) a xs := by
 obtain ⟨z,y,xs,r,o,es,ep,h1,h2,h3,h4,h5⟩ := (show ObjOk P w H h a (.dT kvs) from rd_of ok e)
 refine ⟨z,y,xs,r,o,es,ep,h1,h2,h3,h4,fun x hx=>?_,h5⟩;have all : ∀ {l : List (List Key × V)} {m : List (List Key × Addr × Value)},KT H l m -> ∀ x ∈ m,(tupleKind (mixKind P w)).is h x.1 x.2.1 := by
  intro l m q
  induction q with
  | nil=>intro x hx;exact nomatch hx
  | @cons p q ps qs hq t ih =>
   intro x hx;rcases List.mem_cons.mp hx with e | hx
   . subst e;exact key_of ok (by rw [<- hq.1];exact hq.2.1)
   . exact ih x hx
 exact all r x hx
theorem dt_of {kvs : List (List Key × V)} (ok : HOk P w H h) (e : H a = some (.dT kvs)) : kvs.length <= sizeLine /\ (a == sysModules) = false /\ ∃ xs,KT H kvs xs /\ h.DictOfH (tupleKind (mixKind P w)) a xs := dt_rd ok (.inl e)
end
def DGet (H : Hp) (a : Addr) (y : V) (r : Option V) : Prop :=
 (∃ kvs k,Rd H a (.dK kvs) /\ y = kV k /\ r = valV kvs k) \/ ∃ kvs k b,Rd H a (.dT kvs) /\ y = .ref b /\ H b = some (.tup (k.map kV)) /\ r = valV kvs k
def DPut (H : Hp) (a : Addr) (y v : V) (H' : Hp) : Prop :=
 (∃ kvs k,H a = some (.dK kvs) /\ y = kV k /\ kvs.length < sizeLine /\ H' = upd H a (.dK (putK kvs k v))) \/
 ∃ kvs k b,H a = some (.dT kvs) /\ y = .ref b /\ H b = some (.tup (k.map kV)) /\ kvs.length < sizeLine /\ H' = upd H a (.dT (putK kvs k v))
section
variable {X : Cx} {pins : LAO} {σ : St} {H : Hp} {s : Shared} {a : Addr} {y v : V} {u r : Value} {o : Option V} {A : Around} {E : VSP}
theorem Inv.big (I : Inv X pins σ H s) : sysModules < s.heap.objs.size := by have h : mainGlobals < s.heap.objs.size := (I.mod.glob.keeps I.bk).lt;exact Nat.lt_trans (by decide) h
theorem d_getItem {Q : VSP} (hu : A.units + 1 < cLine) (I : Inv X pins σ H s) (g : DGet H a y (some v)) (ry : RelV y u) (h : ∀ w' s',Inv X pins σ H s' -> RelV v w' -> Q w' s') : wpAny (model X.prog X.w) A (getItem (.ref a) u) Q E s := by
 rcases g with ⟨kvs,k,e,ey,l⟩ | ⟨kvs,k,b,e,ey,eb,l⟩
 . subst ey;obtain ⟨z,hd,vs,rel,dd⟩ := dk_rd I.hok e;obtain ⟨w',hw,rw'⟩ := RelO.some_of (v := v) (o := valueAt vs k) (by rw [l];exact rel.val k)
   exact wpAny_getItem_of (kV_is ry) dd.mapOf hw (h w' _ (I.tok _) rw')
 . subst ey;cases (show u = Value.ref b from ry)
   obtain ⟨z,hd,xs,rel,dd⟩ := dt_rd I.hok e;obtain ⟨w',hw,rw'⟩ := RelO.some_of (v := v) (o := (atKey xs k).map (·.2)) (by rw [l];exact rel.val k)
   obtain ⟨p,hp,hp2⟩ := Option.map_eq_some_iff.mp hw;refine wpAny_getItem_heap (tupleKind_room_in1 hu) (key_of I.hok eb) dd hp ?_;rw [hp2];exact h w' _ (I.tok _) rw'
theorem d_write {h' : Heap} {t' : Nat} {ob : HO} (I : Inv X pins σ H s) (mu : Mut (H a)) (hs : Heap.SameBut a s.heap h') (he : ∃ q,h'.get? a = some q) (new : ObjOk X.prog X.w (upd H a ob) h' a ob) : Inv X pins σ (upd H a ob) { s with heap := h',toks := t' } :=
 I.write (x := a) (e := a) mu (.inl rfl) (fun b q hb z=>(hs.2 b hb).trans z) he new
theorem dk_new {P : Program} {w : World} {H' : Hp} {h' : Heap} {kvs : List (Key × V)} {vs : List (Key × Value)} (z : kvs.length <= sizeLine) (hd : (a == sysModules) = false) (rel : KV kvs vs) (dd : h'.DictOf (mixKind P w) a vs) : ObjOk P w H' h' a (.dK kvs) := ⟨z,hd,vs,rel,dd⟩
theorem d_setItem {H' : Hp} {Q : Unit -> Shared -> Prop} (hu : A.units + 1 < cLine) (I : Inv X pins σ H s) (g : DPut H a y v H') (ry : RelV y u) (rv : RelV v r) (h : ∀ s',Inv X pins σ H' s' -> Q () s') : wpAny (model X.prog X.w) A (setItem (.ref a) u r) Q E s := by
 rcases g with ⟨kvs,k,e,ey,l,eH⟩ | ⟨kvs,k,b,e,ey,eb,l,eH⟩
 . subst ey eH;obtain ⟨z,hd,vs,rel,dd⟩ := dk_of I.hok e;have hz : vs.length <= sizeLine := by rw [<- rel.length];exact z
   have hl : (putK kvs k v).length <= sizeLine := by have := length_putK kvs k v;omega
   refine wpAny_setItem_pairs (hsz := hz) (kV_is ry) dd fun h' dd' hs=>h _ ?_;have he : ∃ q,h'.get? a = some q := let ⟨q,_,_,hq,_⟩ := dd';⟨q,hq⟩
   exact d_write I (by rw [e];exact True.intro) hs he (dk_new hl hd (rel.put k rv) dd')
 . subst ey eH;cases (show u = Value.ref b from ry)
   obtain ⟨z,hd,xs,rel,dd⟩ := dt_of I.hok e;have hz : xs.length <= sizeLine := by rw [<- Paired.length rel];exact z
   have hl : (putK kvs k v).length <= sizeLine := by have := length_putK kvs k v;omega
   refine wpAny_setItem_heap (hsz := hz) (tupleKind_room_in1 hu) (key_of I.hok eb) dd fun h' dd' hs=>h _ ?_;obtain ⟨q,es,ep,hq,h2,h3,h4,_,h5⟩ := dd';refine d_write I (by rw [e];exact True.intro) hs ⟨q,hq⟩ ⟨hl,hd,_,(rel.put k eb rv).keeps fun c ys ec=>?_,q,es,ep,hq,h2,h3,h4,h5⟩
   rw [upd_ne (ne_of ec e (fun z=>nomatch z))];exact ec
end
section
variable {X : Cx} {pins : LAO} {σ : St} {H : Hp} {s : Shared} {a : Addr} {kvs : List (Key × V)} {k : Key} {u : Value} {A : Around} {E : VSP}
end
theorem dict_typeIs {X : Cx} {pins : LAO} {σ : St} {H : Hp} {s : Shared} {a : Addr} {y : V} {o : Option V} (I : Inv X pins σ H s) (g : DGet H a y o) : s.TypeIs (.ref a) "dict" := by
 rcases g with ⟨kvs,k,e,_,_⟩ | ⟨kvs,k,b,e,_,_,_⟩
 . obtain ⟨_,_,vs,_,dd⟩ := dk_rd I.hok e;exact dd.typeIs
 . obtain ⟨_,_,xs,_,dd⟩ := dt_rd I.hok e;exact dd.typeIs
def sDPut (td ty tv : TE) : TS := fun D σ H=>tv σ H fun v H1=>td σ H1 fun x H2=>ty σ H2 fun y H3=>∃ a H4,x = .ref a /\ DPut H3 a y v H4 /\ D.nx σ H4
section
variable {X : Cx} {o i e value : Expr} {pos pos' tpos : Pos} {td ty tv : TE}
theorem ps_dput (hu : X.A.units + 1 < cLine) (ho : PE X o td) (hi : PE X i ty) (hv : PE X value tv) (hs : swapsWith value (some (.Subscript o i pos')) pos.line X.env = pure false) : PS X (.Assign [.Subscript o i pos'] value pos) (sDPut td ty tv) := by intro pins s σ H D I h;refine wpAny_Assign_Subscript (thn (hv pins s σ H _ I h) fun r s1 ⟨v,H1,I1,rv,q1⟩=>thn (ho pins s1 σ H1 _ I1 q1) fun u s2 ⟨x,H2,I2,rx,q2⟩=>thn (hi pins s2 σ H2 _ I2 q2) fun iv s3 ⟨y,H3,I3,ry,a,H4,ex,g,q3⟩=>?_) hs;subst ex;obtain rfl : u = Value.ref a := rx;exact d_setItem hu I3 g ry rv fun s4 I4=>⟨σ,H4,I4,q3⟩
end
theorem dk_empty {P : Program} {w : World} {H : Hp} (h : Heap) (hb : sysModules < h.objs.size) : ObjOk P w H (h.push { cls := .type "dict", data := .dict #[] }) h.objs.size (.dK []) :=
 ⟨Nat.zero_le _,beq_eq_false_iff_ne.mpr (Ne.symm (Nat.ne_of_lt hb)),[],.nil,Heap.DictOf.new h⟩
def tDNewK : TE := fun _ H Q=>∀ p,H p = none -> Q (.ref p) (upd H p (.dK []))
section
variable {X : Cx} {pos : Pos}
theorem pe_dnewK : PE X (.Dict [] [] pos) tDNewK := fun pins s σ H Q I h =>
 wpAny_Dict_empty ⟨.ref s.heap.objs.size,_,I.laid (a := s.heap.objs.size) (o := .dK []) (t' := s.toks) (fun _ _ q=>hps q) (Nat.le_refl _) (dk_empty s.heap I.big),rfl,h _ (I.hok.fresh (Nat.le_refl _))⟩
end
structure M1 (X : Cx) (o : Expr) (m : Str) (apos : Pos) (e : Expr) (cpos : Pos) : Prop where
 base : attributeBase o m X.env (eval o X.env) = eval o X.env
 few : ((backTo cpos (starEach [e] X.env)).all (fun x=>!x.1) && (backToKw cpos (keywordEach [] X.env)).all (fun x=>x.1.isSome)
  && decide (([e] : List Expr).length + ([] : List Keyword).length + (if ([] : List Keyword).isEmpty then 0 else 1) < 30)) = true
 line : (apos.endLine == cpos.line) = true
 trees : backTo cpos (starEach [e] X.env) = [(false,eval e X.env)]
section
variable {X : Cx} {pins : LAO} {σ : St} {H : Hp} {s : Shared} {a : Addr} {y d : V} {u r : Value} {o : Option V} {A : Around} {E : VSP}
end
section
variable {X : Cx} {o e f : Expr} {apos cpos : Pos} {td ty tx : TE}
end
section
variable {X : Cx} {pins : LAO} {σ : St} {H : Hp} {s : Shared} {a : Addr} {kvs : List (Key × V)} {A : Around} {E : VSP}
theorem d_copyOf {Q : VSP} (I : Inv X pins σ H s) (e : Rd H a (.dK kvs)) (h : ∀ p s',H p = none -> Inv X pins σ (upd H p (.dK kvs)) s' -> Q (.ref p) s') : wpAny (model X.prog X.w) A (call (.type "dict") [.ref a]) Q E s := by
 obtain ⟨z,hd,vs,rel,dd⟩ := dk_rd I.hok e;refine kt_call_dict hd dd (by rw [<- rel.length];exact z) fun h' dd' hs=>?_
 refine h _ _ (I.hok.fresh (Nat.le_refl _)) (I.laid (a := s.heap.objs.size) (o := .dK kvs) (t' := s.toks) (fun b q hq=>?_) (Nat.le_refl _) (dk_new z (beq_eq_false_iff_ne.mpr (Ne.symm (Nat.ne_of_lt I.big))) rel dd'));exact (hs.2 b (Nat.ne_of_lt (Heap.lt_size hq))).trans (hps hq)
end
section
variable {X : Cx} {pins : LAO} {σ : St} {H : Hp} {s : Shared} {a : Addr} {y : V} {u : Value} {A : Around} {E : VSP}
end
end L2
namespace Att
open PySem PySem.W PySem.Calls PyProof.Rows
theorem ints_of_wellAll {P : Params} {h : Heap} : ∀ (ns : List Int) (vs : List Value),WellAll P h vs (ns.map WData.int) -> IntsAre vs ns := by
 intro ns
 induction ns with
 | nil=>intro vs w;rw [List.map_nil] at w;cases w;exact .nil
 | cons n ns ih =>
  intro vs w;rw [List.map_cons] at w;cases w with
  | cons a b=>cases a;exact .cons _ _ (ih _ b)
theorem script_of {l : OpenLaw} {n : Nat} (hn : l.most = some n) {P : Params} {h : Heap} {args : List WData} {vals : List Value} (hpre : l.row.toRowW.claim.pre args = true) (hwl : WellAll P h vals args) : ∃ a vs ns,vals = [Value.ref a] /\ args = [WData.list (ns.map WData.int)] /\ h.get? a = some { cls := .type "list", data := .seq vs.toArray } /\ IntsAre vs ns /\ ns.length <= n := by
 have hsh : WShape.hasAll [] args [.list .int] = true := (pre_splitW hpre).1;have hc : l.pre.holds [] { args := args } = true := (pre_splitW hpre).2;obtain ⟨d,r,rfl,h1,h2⟩ := hasAllW_cons hsh;obtain rfl := hasAllW_nil h2;obtain ⟨xs,rfl,h3⟩ := hasW_list h1;obtain ⟨ns,rfl⟩ := items_int h3;have hlen : ns.length <= n := by
  unfold OpenLaw.pre at hc;have h4 : (WTm.not (.lt (.lit (.int (n : Int))) (.len (.arg 0)))).holds [] { args := [.list (ns.map .int)] } = true := by have h4 := (holds_andW hc).1;rw [hn] at h4;exact h4
  have h5 := condW_of h4 (w_not (w_lt w_lit (w_len_list (w_arg rfl))));rw [List.length_map] at h5;refine Nat.le_of_not_lt fun q=>?_;have q' : (n : Int) < ((ns.length : Nat) : Int) := by omega
  first
   | (rw [decide_eq_true q'] at h5;exact absurd h5 (by decide))
   | (simp at h5;omega)
 cases hwl with
 | cons w1 w2 =>
  cases w2;cases w1 with
  | list ho hall=>exact ⟨_,_,ns,rfl,rfl,ho,ints_of_wellAll ns _ hall,hlen⟩
theorem post_true (l : OpenLaw) (args : List WData) : l.row.toRowW.claim.post args (.bool true) args = true :=
 postW_of (r := l.row.toRowW) (X := (true == true))
  (show WShape.has [] (.bool true) .bool = true by first | rfl | decide | simp [WShape.has,WShape.arms,WShape.armsAll])
  (show (WTm.eq .res (.lit (.bool true))).value [] { args := args,res := some (.bool true),after := args } = some (.bool (true == true)) from w_eq_bool (w_res rfl) w_lit) rfl
theorem attach_call {l : OpenLaw} {n : Nat} {q : Program} {loose : List Str} {XP : (Str -> Option Value) -> Heap -> Prop} {YP : World -> Heap -> Prop} {d : DefRec} (hn : l.most = some n) (hdf : d.params.defaults = []) (call : ∀ (w : World) (s₀ s₁ : Shared) (mg mb : SOV) (fa : Addr) (o : Obj) (pm cd doc : Value) (a : Addr) (vs : List Value) (ns : List Int),Ground q loose [] XP w s₀ mg mb s₁.heap -> YP w s₁.heap -> s₁.heap.get? fa = some o -> o.data = .func (docDef d.name d.params d.body d.scope pm cd doc) -> s₁.heap.CodeRec cd d.name -> mg d.name = some (.ref fa) -> s₁.heap.get? a = some { cls := .type "list", data := .seq vs.toArray } -> IntsAre vs ns -> ns.length <= n -> s₁.gens = #[] -> codeAny (model l.prog w) callerA (.call (.ref fa) ⟨[.ref a],[]⟩) (fun r s'=>r = .ok (.ret (.bool true)) /\ OldK s₁.heap s'.heap /\ s'.os = s₁.os /\ AllBare s'.gens) s₁) : WalkO q loose XP YP l.row.toRowW d [] (fun f vs=>PySem.call f vs) := by intro w s₀ s₁ mg mb G Y fa o pm cd doc dV kV ho hd hcd hD hmg hg args vals as hpre hlay hrd hwl hlo;obtain rfl : dV = .none := Dflts.none hD hdf;obtain rfl : kV = .none := Dflts.noKw hD;obtain ⟨a,vs,ns,rfl,rfl,hobj,hints,hlen⟩ := script_of hn hpre hwl;refine enter_call (codeAny_mono (call w s₀ s₁ mg mb fa o pm cd doc a vs ns G Y ho (fd_plain hd) hcd hmg hobj hints hlen hg) fun r s' hq=>?_);obtain ⟨rfl,h2,h3,h4⟩ := hq;exact ⟨.inl ⟨.bool true,.bool true,[],rfl,fun _=>rfl,.bool true,post_true l _,fun _=>⟨List.Pairwise.nil,fun _ hm=>(nomatch hm)⟩⟩,h2,h3,h4⟩
section
variable {prog : Program} {w : World} {A : Around} {E : VSP} {s : Shared} {K : Frag}
def ledger (h : Heap) (L d : Addr) : LAO := (List.range h.objs.size).filterMap fun a=>if a = L \/ a = d then none else (h.get? a).map fun o=>(a,o)
end
end Att
namespace L2
open PySem PySem.Spec PyProof.Rows
theorem vals_ints : ∀ {vs : List Value} {ns : List Int},IntsAre vs ns -> Vals (ns.map V.int) vs
 | _,_,.nil=>.nil
 | _,_,.cons n t h=>.cons ⟨t,rfl⟩ (vals_ints h)
def Only (H : Hp) : Prop := ∀ b,H b = none \/ ∃ o xs,H b = some (.frz o (.lst xs))
theorem law_call {P : Program} {w : World} {K : Fg} {mg mb : SOV} {CX : CXT} {k : Nat} {fa a : Addr} {fd : FuncData} {x : Str} {sp : Sp} {s₁ : Shared} {vs : List Value} {ns : List Int} (KX : K.In s₁.heap) (hns : s₁.heap.Ns mainGlobals mg) (hb : s₁.heap.Ns builtinsNs mb) (hbb : ∀ x : Str,x ≠ "__name__" -> mb x = bootBuiltins x) (hlim : s₁.heap.NoLimit) (hg : s₁.gens = #[]) (ha : s₁.heap.get? a = some { cls := .type "list", data := .seq vs.toArray }) (hi : IntsAre vs ns) (hl : ns.length <= sizeLine) (hr : Room k callerA) (F : ∀ base : Heap,K.In base -> base.Ns mainGlobals mg -> FnOk P w K mg base CX k fa fd [x] sp) (hbind : ∀ (s : Shared) (u : Value),BindsTo s fd ⟨[u],[]⟩ [(x,u)]) (hsp : ∀ H : Hp,Only H -> SqL K H a (ns.map V.int) -> sp [.ref a] H (fun v _=>v = .bl true) fun _ _ _=>False) (hCX : ∀ H e s',CX [] H s₁ (fun _ _ _=>False) e s' -> False) : codeAny (model P w) callerA (.call (.ref fa) ⟨[.ref a],[]⟩) (fun r s'=>r = .ok (.ret (.bool true)) /\ OldK s₁.heap s'.heap /\ s'.os = s₁.os /\ AllBare s'.gens) s₁ := by
 have rv := vals_ints hi; have lenV := hi.length; have core : ∀ H : Hp, Only H → SqL K H a (ns.map V.int) → HOk P w H s₁.heap → (∀ b, H b ≠ none → b = a) → (H a ≠ none → K.lookup a = none) →
     codeAny (model P w) callerA (.call (.ref fa) ⟨[.ref a],[]⟩) (fun r s'=>r = .ok (.ret (.bool true)) /\ OldK s₁.heap s'.heap /\ s'.os = s₁.os /\ AllBare s'.gens) s₁ := by
  intro H hO hS hok hA hK;have base_of : ∀ {b : Addr} {o : Obj},s₁.heap.get? b = some o -> H b = none -> (hidT s₁.heap H).get? b = some o := fun e n=>hidT_get e n;have noA : ∀ {b : Addr} {o : Obj} {es : Array DictEntry} {ep : Nat},s₁.heap.get? b = some o -> o.data = .dict es ep -> H b = none := fun {b o es ep} e d=>by
   cases q : H b with
   | none=>rfl
   | some u =>
    have e' : b = a := hA b (by rw [q];simp)
    subst e';rw [ha] at e;cases e;have d' : Data.seq vs.toArray _ = Data.dict es ep := d;cases d'
  have nsK : ∀ {b : Addr} {m : SOV},s₁.heap.Ns b m -> (hidT s₁.heap H).Ns b m := fun {b m} ⟨o,es,ep,e,d,r⟩=>⟨o,es,ep,base_of e (noA e d),d,r⟩;have hKb : K.In (hidT s₁.heap H) := fun b o e=>base_of (KX b o e) (by
   cases q : H b with
   | none=>rfl
   | some u =>
    have e' : b = a := hA b (by rw [q];simp)
    subst e'
    rw [hK (by rw [q];simp)] at e;cases e)
  have hM : Mod K mg (hidT s₁.heap H) := ⟨hKb,nsK hns,⟨mb,nsK hb,hbb⟩,let ⟨mc,h1,h2⟩ := hlim;⟨mc,nsK h1,h2⟩⟩
  have e0 : Env0 P w K mg (hidT s₁.heap H) callerA [] s₁ H := ⟨rfl,hM,fun b o e=>of_hidT e,Nat.le_of_eq (hidT_size _ _),trivial,fun b hb=>absurd (show b ∈ ([] : List Addr) from hb) (by simp),hok,.of_eq hg⟩
  refine codeAny_mono ((F _ hKb (nsK hns)).run callerA [] s₁ H ⟨[.ref a],[]⟩ [.ref a] [.ref a] _ _ hr e0 (hbind s₁ (.ref a)) (.cons rfl .nil) (hsp H hO hS)) fun r s' h=>?_;cases r with
  | error e=>exact (hCX H e s' h).elim
  | ok fl =>
   cases fl with
   | next=>exact False.elim h
   | brk=>exact False.elim h
   | cont=>exact False.elim h
   | ret u =>
    obtain ⟨v,H',os,bare,un,hok',r',q⟩ := h;have q' : v = .bl true := q;subst q';obtain rfl : u = Value.bool true := r';refine ⟨rfl,OldK.of_keep fun b o e=>?_,os,bare⟩;cases q : H b with
    | none=>exact un.keep b o e q (by intro z;exact absurd (show b ∈ ([] : List Addr) from z) (by simp)) (by simp)
    | some u =>
     rcases hO b with z | ⟨ob,xs,z⟩
     . rw [q] at z;cases z
     . have z2 := un.frzs b ob _ z;obtain ⟨e1,_⟩ := hok b _ z;obtain ⟨e2,_⟩ := hok' b _ z2;rw [e] at e1;cases e1;exact e2
 cases hk : K.lookup a with
 | some o=>have e := KX a o hk;rw [ha] at e;cases e;refine core (fun _=>none) (fun _=>.inl rfl) (.inr ⟨_,vs.toArray,_,hk,rfl,rfl,rfl,by rw [List.size_toArray,lenV];exact hl,by simpa using rv⟩) (fun b u z=>by have z' : (none : Option HO) = some u := z;cases z') (fun b z=>absurd rfl z) fun z=>absurd rfl z
 | none =>
  refine core (fun b=>if b = a then some (.frz { cls := .type "list", data := .seq vs.toArray } (.lst (ns.map V.int))) else none) (fun b=>?_) (.inl (.inr ⟨{ cls := .type "list", data := .seq vs.toArray },if_pos rfl⟩)) (fun b u z=>?_) (fun b z=>?_) fun _=>hk
  . by_cases hb : b = a
    . exact .inr ⟨_,_,if_pos hb⟩
    . exact .inl (if_neg hb)
  . by_cases hb : b = a
    . have z' := (if_pos hb).symm.trans z;cases z';subst hb;exact ⟨ha,by rw [List.length_map];exact hl,vs,_,rv,ha⟩
    . have z' := (if_neg hb).symm.trans z;cases z'
  . by_cases hb : b = a
    . exact hb
    . exact absurd (if_neg hb) z
abbrev KOf {K : Fg} {h : Heap} (_ : K.In h) : Fg := K
theorem walk_of {l : PySem.W.OpenLaw} {n k : Nat} {q : Program} {loose : List Str} {XP : (Str -> Option Value) -> Heap -> Prop} {YP : World -> Heap -> Prop} {d : DefRec} {K : Params -> Fg} {CX : World -> CXT} {sp : World -> Sp} {x : Str} (hn : l.most = some n) (hn2 : n <= sizeLine) (hdf : d.params.defaults = []) (hr : Room k callerA) (hY : ∀ (w : World) (h : Heap),YP w h -> (K w.params).In h) (F : ∀ (w : World) (mg : SOV) (fa : Addr) (h : Heap),(K w.params).In h -> h.Ns mainGlobals mg -> mg d.name = some (.ref fa) -> ∃ fd : FuncData,(∀ (s : Shared) (u : Value),BindsTo s fd ⟨[u],[]⟩ [(x,u)]) /\ ∀ base : Heap,(K w.params).In base -> base.Ns mainGlobals mg -> FnOk l.prog w (K w.params) mg base (CX w) k fa fd [x] (sp w)) (hsp : ∀ (w : World) (H : Hp) (a : Addr) (ns : List Int),ns.length <= n -> Only H -> SqL (K w.params) H a (ns.map V.int) -> sp w [.ref a] H (fun v _=>v = .bl true) fun _ _ _=>False) (hCX : ∀ (w : World) (H : Hp) (s : Shared) (e : Value) (s' : Shared),CX w [] H s (fun _ _ _=>False) e s' -> False) : PySem.W.WalkO q loose XP YP l.row.toRowW d [] (fun f vs=>PySem.call f vs) := by refine Att.attach_call hn hdf fun w s₀ s₁ mg mb fa o pm cd doc a vs ns G Y ho hd hcd hmg hobj hints hlen hg=>?_;have KX := hY w _ Y;obtain ⟨fd,hb,hF⟩ := F w mg fa _ KX G.T.g hmg;exact law_call KX G.T.g G.T.b G.T.builtins G.T.nolimit hg hobj hints (Nat.le_trans hlen hn2) hr hF hb (fun H hO hS=>hsp w H a ns hlen hO hS) fun H e s'=>hCX w H s₁ e s'
end L2
/- THE LAST THEOREM (shape; LID, My.* are yours):
   My.Adr: a structure of the addresses that your layer names (classes,functions);My.Txt K t: a structure (Prop) of the equations over K;
   My.txt_mk : {K} {implicit addresses ..} (e1 : nsIn K mainGlobals "law" = some (some (.ref f))) (e2 : K.lookup f = some ⟨oc,od,.func (fnOf "law" "law" params body scope dV kV doc pm an cdv ct),sl⟩) (e3 : codeIn K cdv "law" = true) .. : ∃ t,My.Txt K t
set_option maxRecDepth 100000 in
set_option maxHeartbeats 0 in
theorem PySem.Challenge.cw_LID_holds : PySem.Challenge.rw_LID.Holds := by
 w_on;o_law;k_head;(case hw=>w_witness2)
 k_fill
 refine L2.walk_of (l := PySem.Challenge.rw_LID) (n := 63) (k := 40) (x := "script") (CX := fun w=>..) (sp := fun _=>My.sp_law) rfl (by decide) rfl ⟨rfl,by decide,by decide⟩ (fun w h Y=>PySem.W.kIn_of Y) ?F ?S ?C
 case F =>
  intro w mg fa h KX G hmg;have T : ∃ t,My.Txt (L2.KOf KX) t := by
   dsimp only [L2.KOf]                          -- K must stand as «<heap const> w.params» for k_is;refine' My.txt_mk ?e1 ?e2 ?e3 ..
   (case e1=>PySem.W.k_is)                    -- in the order: a name -> its address -> its object -> its parts
   (case e2=>PySem.W.k_is)
   ..
  obtain ⟨t,T⟩ := T;have e0 := hmg.symm.trans (PySem.W.mg_of KX G T.law);cases e0                                       -- fa is the law's own address;exact ⟨_,fun s u=>.of_eq rfl,fun base kb nb=>My.law_fn T kb nb⟩     -- if «.of_eq rfl» comes too early: refine' ⟨_,?b,fun base kb nb=>My.law_fn T kb nb⟩;exact fun s u=>.of_eq rfl
 case S=>exact fun w H a ns hl hO hS=>..
 case C=>exact ..
(the tactic k_is has no namespace: write k_is) -/
namespace L2
open PySem PySem.Spec PyProof.Rows
def defArgs (s : Stmt) : Arguments := match s with
 | .FunctionDef _ a _ _ _ _ _ _ _ _=>a
 | _=>{ posonlyargs := [],args := [],vararg := none,kwonlyargs := [],kw_defaults := [],kwarg := none,defaults := [] }
def defBody (s : Stmt) : List Stmt := match s with
 | .FunctionDef _ _ b _ _ _ _ _ _ _=>b
 | _=>[]
def defScope (s : Stmt) : Scope := match s with
 | .FunctionDef _ _ _ _ _ _ sc _ _ _=>sc
 | _=>{ kind := .function,names := [],isGenerator := false,isCoroutine := false }
structure Fun (K : Fg) (x qual : Str) (st : Stmt) (f : Addr) (fd : FuncData) : Prop where
 ex : ∃ (oc : Value) (od : Option Addr) (kV doc pm : Value) (an : Option Addr) (cdv ct : Value) (osl : Array (Option Value)),
  fd = PySem.W.fnOf x qual (defArgs st) (defBody st) (defScope st) .none kV doc pm an cdv ct /\ K.lookup f = some ⟨oc,od,.func fd,osl⟩ /\ PySem.W.codeIn K cdv qual = true
 kp : PySem.W.keepIn K (.ref f) = true
section
variable {P : Program} {w : World} {K : Fg} {mg : SOV} {base : Heap}
theorem Fun.binds {x qual : Str} {st : Stmt} {f : Addr} {fd : FuncData} {ps : List Str} (F : Fun K x qual st f fd) (h : ∀ (kV doc pm : Value) (an : Option Addr) (cdv ct : Value) (us : List Value),us.length = ps.length -> bindArgs (PySem.W.fnOf x qual (defArgs st) (defBody st) (defScope st) .none kV doc pm an cdv ct) ⟨us,[]⟩ = pure (ps.zip us)) : Binds K fd ps [] := by obtain ⟨oc,od,kV,doc,pm,an,cdv,ct,osl,rfl,lk,hcd⟩ := F.ex;exact .all (h kV doc pm an cdv ct)
theorem fun_mk {x qual : Str} {st : Stmt} {f : Addr} {oc : Value} {od an : Option Addr} {osl : Array (Option Value)} {kV doc pm cdv ct : Value} (l : K.lookup f = some ⟨oc,od,.func (PySem.W.fnOf x qual (defArgs st) (defBody st) (defScope st) .none kV doc pm an cdv ct),osl⟩) (c : PySem.W.codeIn K cdv qual = true) (k : PySem.W.keepIn K (.ref f) = true) : Fun K x qual st f (PySem.W.fnOf x qual (defArgs st) (defBody st) (defScope st) .none kV doc pm an cdv ct) := ⟨⟨oc,od,kV,doc,pm,an,cdv,ct,osl,rfl,l,c⟩,k⟩
end
section
variable {X : Cx}
end
def Same (H H' : Hp) : Prop := ∀ b o,H b = some o -> H' b = some o
theorem Same.refl (H : Hp) : Same H H := fun _ _ h=>h
theorem Same.trans {H H1 H2 : Hp} (a : Same H H1) (b : Same H1 H2) : Same H H2 := fun c o h=>b c o (a c o h)
theorem Same.free {H H' : Hp} (e : Same H H') {l : Addr} (h : H' l = Option.none) : H l = Option.none := by
 cases q : H l with
 | none=>rfl
 | some o=>rw [e l o q] at h;cases h
theorem Same.seq {K : Fg} {H H' : Hp} {a : Addr} {xs : List V} (e : Same H H') (h : SqL K H a xs) : SqL K H' a xs := by
 rcases h with (h | ⟨o,h⟩) | h
 . exact .inl (.inl (e _ _ h))
 . exact .inl (.inr ⟨o,e _ _ h⟩)
 . exact .inr h
section
variable {κ : Type} [DecidableEq κ]
end
end L2
namespace D3
open PySem PySem.Spec PyProof.Rows L2
inductive D where
 | non | bl (b : Bool) | int (i : Int) | str (x : Str) | tup (xs : List D) | lst (xs : List D) | dct (kvs : List (Key × D)) | ty (n : String) | ob (a : Addr) | ins (c : Str) (fs : List (Str × D)) | fn (x : Str) | exn (c : Str) | set (ks : List Key)
inductive Md where | fz | fr | bo
 deriving DecidableEq
inductive Res where
 | ok (m : Md) (d : D) | exc (c : Str) | stuck
def xobj (a C : Addr) : HO := .ext fun h=>∃ o,h.get? a = some o /\ o.cls = .ref C
def SetIs (S : Key -> Bool) (ks : List Key) : Prop := ks.Nodup /\ ∀ k,S k = true ↔ k ∈ ks
mutual
def RepV (K : Fg) (F : Hp) : D -> V -> Prop
 | .non,v=>v = .non
 | .bl b,v=>v = .bl b
 | .int i,v=>v = .int i
 | .str x,v=>v = .str x /\ x.length <= sizeLine /\ PyData.strOk x = true
 | .tup ds,v=>∃ a xs,v = .ref a /\ SqT K F a xs /\ RepL K F ds xs
 | .lst ds,v=>∃ a xs,v = .ref a /\ SqL K F a xs /\ RepL K F ds xs
 | .dct kvs,v=>∃ a xs,v = .ref a /\ F a = some (.dK xs) /\ RepK K F kvs xs
 | .ty n,v=>v = .ty n
 | .ob a,v=>v = .ref a
 | .ins c fs,v=>∃ a C dx gs,v = .ref a /\ PySem.W.nsIn K mainGlobals c = some (some (.ref C)) /\ F a = some (.ins C dx gs) /\ RepF K F fs gs
 | .fn x,v=>∃ a,v = .ref a /\ PySem.W.nsIn K mainGlobals x = some (some (.ref a))
 | .exn c,v=>∃ a C,v = .ref a /\ PySem.W.nsIn K mainGlobals c = some (some (.ref C)) /\ F a = some (xobj a C)
 | .set ks,v=>∃ a S,v = .ref a /\ F a = some (.set S ks.length) /\ SetIs S ks
def RepL (K : Fg) (F : Hp) : List D -> List V -> Prop
 | [],xs=>xs = []
 | d :: ds,xs=>∃ y ys,xs = y :: ys /\ RepV K F d y /\ RepL K F ds ys
def RepK (K : Fg) (F : Hp) : List (Key × D) -> List (Key × V) -> Prop
 | [],xs=>xs = []
 | (k,d) :: ds,xs=>∃ y ys,xs = (k,y) :: ys /\ RepV K F d y /\ RepK K F ds ys
def RepF (K : Fg) (F : Hp) : List (Str × D) -> List (Str × V) -> Prop
 | [],xs=>xs = []
 | (k,d) :: ds,xs=>∃ y ys,xs = (k,y) :: ys /\ RepV K F d y /\ RepF K F ds ys
end
theorem Same.seqT {K : Fg} {H H' : Hp} {a : Addr} {xs : List V} (e : Same H H') (h : SqT K H a xs) : SqT K H' a xs := by
 rcases h with (h | ⟨o,h⟩) | h
 . exact .inl (.inl (e _ _ h))
 . exact .inl (.inr ⟨o,e _ _ h⟩)
 . exact .inr h
section
variable {K : Fg} {F F' : Hp}
mutual
theorem RepV.mono (s : Same F F') : ∀ (d : D) (v : V),RepV K F d v -> RepV K F' d v
 | .non,_,h=>by simpa only [RepV] using h
 | .bl _,_,h=>by simpa only [RepV] using h
 | .int _,_,h=>by simpa only [RepV] using h
 | .str _,_,h=>by simpa only [RepV] using h
 | .tup ds,v,h=>by simp only [RepV] at h ⊢;obtain ⟨a,xs,e,q,r⟩ := h;exact ⟨a,xs,e,Same.seqT s q,RepL.mono s ds xs r⟩
 | .lst ds,v,h=>by simp only [RepV] at h ⊢;obtain ⟨a,xs,e,q,r⟩ := h;exact ⟨a,xs,e,s.seq q,RepL.mono s ds xs r⟩
 | .dct ds,v,h=>by simp only [RepV] at h ⊢;obtain ⟨a,xs,e,q,r⟩ := h;exact ⟨a,xs,e,s _ _ q,RepK.mono s ds xs r⟩
 | .ty _,_,h=>by simpa only [RepV] using h
 | .ob _,_,h=>by simpa only [RepV] using h
 | .fn _,_,h=>by simpa only [RepV] using h
 | .exn _,_,h=>by simp only [RepV] at h ⊢;obtain ⟨a,C,e,n,q⟩ := h;exact ⟨a,C,e,n,s _ _ q⟩
 | .set _,_,h=>by simp only [RepV] at h ⊢;obtain ⟨a,S,e,q,r⟩ := h;exact ⟨a,S,e,s _ _ q,r⟩
 | .ins c fs,v,h=>by simp only [RepV] at h ⊢;obtain ⟨a,C,dx,gs,e,n,q,r⟩ := h;exact ⟨a,C,dx,gs,e,n,s _ _ q,RepF.mono s fs gs r⟩
theorem RepL.mono (s : Same F F') : ∀ (ds : List D) (xs : List V),RepL K F ds xs -> RepL K F' ds xs
 | [],_,h=>by simpa only [RepL] using h
 | d :: ds,xs,h=>by simp only [RepL] at h ⊢;obtain ⟨y,ys,e,q,r⟩ := h;exact ⟨y,ys,e,RepV.mono s d y q,RepL.mono s ds ys r⟩
theorem RepK.mono (s : Same F F') : ∀ (ds : List (Key × D)) (xs : List (Key × V)),RepK K F ds xs -> RepK K F' ds xs
 | [],_,h=>by simpa only [RepK] using h
 | (k,d) :: ds,xs,h=>by simp only [RepK] at h ⊢;obtain ⟨y,ys,e,q,r⟩ := h;exact ⟨y,ys,e,RepV.mono s d y q,RepK.mono s ds ys r⟩
theorem RepF.mono (s : Same F F') : ∀ (ds : List (Str × D)) (xs : List (Str × V)),RepF K F ds xs -> RepF K F' ds xs
 | [],_,h=>by simpa only [RepF] using h
 | (k,d) :: ds,xs,h=>by simp only [RepF] at h ⊢;obtain ⟨y,ys,e,q,r⟩ := h;exact ⟨y,ys,e,RepV.mono s d y q,RepF.mono s ds ys r⟩
end
theorem RepL.length : ∀ {ds : List D} {xs : List V},RepL K F ds xs -> xs.length = ds.length
 | [],_,h=>by simp only [RepL] at h;subst h;rfl
 | d :: ds,_,h=>by simp only [RepL] at h;obtain ⟨y,ys,rfl,_,r⟩ := h;rw [List.length_cons,List.length_cons,RepL.length r]
theorem RepL.get : ∀ {ds : List D} {xs : List V} {i : Nat} {x : V},RepL K F ds xs -> xs[i]? = some x -> ∃ d,ds[i]? = some d /\ RepV K F d x
 | [],_,_,_,h,e=>by simp only [RepL] at h;subst h;simp at e
 | d :: ds,_,0,_,h,e=>by simp only [RepL] at h;obtain ⟨y,ys,rfl,r,_⟩ := h;simp at e;subst e;exact ⟨d,rfl,r⟩
 | d :: ds,_,i + 1,_,h,e=>by
  simp only [RepL] at h;obtain ⟨y,ys,rfl,_,r⟩ := h;obtain ⟨d',e',r'⟩ := RepL.get (i := i) r (by simpa using e)
  exact ⟨d',by simpa using e',r'⟩
theorem RepL.get' : ∀ {ds : List D} {xs : List V} {i : Nat} {d : D},RepL K F ds xs -> ds[i]? = some d -> ∃ x,xs[i]? = some x /\ RepV K F d x
 | [],_,_,_,h,e=>by simp at e
 | d :: ds,_,0,_,h,e=>by simp only [RepL] at h;obtain ⟨y,ys,rfl,r,_⟩ := h;simp at e;subst e;exact ⟨y,rfl,r⟩
 | d :: ds,_,i + 1,_,h,e=>by
  simp only [RepL] at h;obtain ⟨y,ys,rfl,_,r⟩ := h;obtain ⟨d',e',r'⟩ := RepL.get' (i := i) r (by simpa using e)
  exact ⟨d',by simpa using e',r'⟩
theorem RepL.append : ∀ {ds es : List D} {xs ys : List V},RepL K F ds xs -> RepL K F es ys -> RepL K F (ds ++ es) (xs ++ ys)
 | [],_,_,_,h,r=>by simp only [RepL] at h;subst h;exact r
 | d :: ds,_,_,_,h,r=>by simp only [RepL] at h;obtain ⟨y,ys,rfl,q,t⟩ := h;show RepL K F (d :: (ds ++ _)) (y :: (ys ++ _));simp only [RepL];exact ⟨y,_,rfl,q,RepL.append t r⟩
theorem RepL.nil : RepL K F [] [] := by simp only [RepL]
theorem RepL.cons {d : D} {ds : List D} {x : V} {xs : List V} (h : RepV K F d x) (r : RepL K F ds xs) : RepL K F (d :: ds) (x :: xs) := by simp only [RepL];exact ⟨x,xs,rfl,h,r⟩
end
def Top (K : Fg) (F H : Hp) (a : Addr) : D -> Prop
 | .lst ds=>∃ xs,H a = some (.lst xs) /\ RepL K F ds xs
 | .dct ds=>∃ xs,H a = some (.dK xs) /\ RepK K F ds xs
 | .ins c fs=>∃ C dx gs,PySem.W.nsIn K mainGlobals c = some (some (.ref C)) /\ H a = some (.ins C dx gs) /\ RepF K F fs gs
 | .set ks=>∃ S,H a = some (.set S ks.length) /\ SetIs S ks
 | _=>False
def Rp (K : Fg) (F H : Hp) (m : Md) (d : D) (v : V) : Prop :=
 match m with
 | .fz=>RepV K F d v
 | _=>∃ a,v = .ref a /\ F a = none /\ Top K F H a d
structure Step (F H F' H' : Hp) : Prop where
 same : Same H H'
 fsame : Same F F'
 sub : Same F' H'
 new : ∀ a,F a = none -> H a ≠ none -> F' a = none
theorem Step.refl {F H : Hp} (h : Same F H) : Step F H F H := ⟨Same.refl _,Same.refl _,h,fun _ h _=>h⟩
theorem Step.trans {F H F1 H1 F2 H2 : Hp} (a : Step F H F1 H1) (b : Step F1 H1 F2 H2) : Step F H F2 H2 :=
 ⟨a.same.trans b.same,a.fsame.trans b.fsame,b.sub,fun x h1 h2=>b.new x (a.new x h1 h2) (by
  cases e : H x with
  | none=>exact absurd e h2
  | some o=>rw [a.same x o e];exact fun z=>nomatch z)⟩
theorem Step.laid {F H : Hp} {p : Addr} (o : HO) (h : Same F H) (hp : H p = none) : Step F H (upd F p o) (upd H p o) := by
 have hf : F p = none := h.free hp;refine ⟨fun b u e=>?_,fun b u e=>?_,fun b u e=>?_,fun a h1 h2=>?_⟩
 . rw [upd_ne (ne_of_none e hp)];exact e
 . rw [upd_ne (ne_of_none e hf)];exact e
 . by_cases hb : b = p
   . subst hb;rw [upd_same] at e ⊢;exact e
   . rw [upd_ne hb] at e ⊢;exact h b u e
 . have : a ≠ p := by rintro rfl;exact h2 hp
   rw [upd_ne this];exact h1
theorem Step.fresh {F H : Hp} {p : Addr} (o : HO) (h : Same F H) (hp : H p = none) : Step F H F (upd H p o) := by
 refine ⟨fun b u e=>?_,Same.refl _,fun b u e=>?_,fun a h1 _=>h1⟩
 . rw [upd_ne (ne_of_none e hp)];exact e
 . rw [upd_ne (ne_of_none (h b u e) hp)];exact h b u e
theorem Top.step {K : Fg} {F H F' H' : Hp} {a : Addr} {d : D} (st : Step F H F' H') (h : Top K F H a d) : Top K F' H' a d := by
 cases d with
 | lst ds=>obtain ⟨xs,e,r⟩ := h;exact ⟨xs,st.same _ _ e,r.mono st.fsame _ _⟩
 | dct ds=>obtain ⟨xs,e,r⟩ := h;exact ⟨xs,st.same _ _ e,r.mono st.fsame _ _⟩
 | ins c fs=>obtain ⟨C,dx,gs,n,e,r⟩ := h;exact ⟨C,dx,gs,n,st.same _ _ e,r.mono st.fsame _ _⟩
 | set ks=>obtain ⟨S,e,r⟩ := h;exact ⟨S,st.same _ _ e,r⟩
 | _=>exact h.elim
theorem Top.there {K : Fg} {F H : Hp} {a : Addr} {d : D} (h : Top K F H a d) : H a ≠ none := by
 cases d with
 | lst ds=>obtain ⟨xs,e,r⟩ := h;rw [e];exact fun z=>nomatch z
 | dct ds=>obtain ⟨xs,e,r⟩ := h;rw [e];exact fun z=>nomatch z
 | ins c fs=>obtain ⟨C,dx,gs,n,e,r⟩ := h;rw [e];exact fun z=>nomatch z
 | set ks=>obtain ⟨S,e,r⟩ := h;rw [e];exact fun z=>nomatch z
 | _=>exact h.elim
theorem Rp.step {K : Fg} {F H F' H' : Hp} {m : Md} {d : D} {v : V} (st : Step F H F' H') (h : Rp K F H m d v) : Rp K F' H' m d v := by
 cases m with
 | fz=>exact RepV.mono st.fsame d v h
 | fr=>obtain ⟨a,e,n,t⟩ := h;exact ⟨a,e,st.new a n t.there,t.step st⟩
 | bo=>obtain ⟨a,e,n,t⟩ := h;exact ⟨a,e,st.new a n t.there,t.step st⟩
theorem Rp.seqL {K : Fg} {F H : Hp} {m : Md} {ds : List D} {v : V} (s : Same F H) (h : Rp K F H m (.lst ds) v) : ∃ a xs,v = .ref a /\ SqL K H a xs /\ RepL K F ds xs := by
 cases m with
 | fz=>have h : RepV K F (.lst ds) v := h;simp only [RepV] at h;obtain ⟨a,xs,e,q,r⟩ := h;exact ⟨a,xs,e,s.seq q,r⟩
 | fr=>obtain ⟨a,e,n,xs,q,r⟩ := h;exact ⟨a,xs,e,SqL.of q,r⟩
 | bo=>obtain ⟨a,e,n,xs,q,r⟩ := h;exact ⟨a,xs,e,SqL.of q,r⟩
theorem Rp.seqT {K : Fg} {F H : Hp} {m : Md} {ds : List D} {v : V} (s : Same F H) (h : Rp K F H m (.tup ds) v) : ∃ a xs,v = .ref a /\ SqT K H a xs /\ RepL K F ds xs := by
 cases m with
 | fz=>have h : RepV K F (.tup ds) v := h;simp only [RepV] at h;obtain ⟨a,xs,e,q,r⟩ := h;exact ⟨a,xs,e,Same.seqT s q,r⟩
 | fr=>obtain ⟨a,e,n,q⟩ := h;exact q.elim
 | bo=>obtain ⟨a,e,n,q⟩ := h;exact q.elim
theorem Rp.dict {K : Fg} {F H : Hp} {m : Md} {ds : List (Key × D)} {v : V} (s : Same F H) (h : Rp K F H m (.dct ds) v) : ∃ a xs,v = .ref a /\ H a = some (.dK xs) /\ RepK K F ds xs := by
 cases m with
 | fz=>have h : RepV K F (.dct ds) v := h;simp only [RepV] at h;obtain ⟨a,xs,e,q,r⟩ := h;exact ⟨a,xs,e,s _ _ q,r⟩
 | fr=>obtain ⟨a,e,n,xs,q,r⟩ := h;exact ⟨a,xs,e,q,r⟩
 | bo=>obtain ⟨a,e,n,xs,q,r⟩ := h;exact ⟨a,xs,e,q,r⟩
theorem Rp.ins {K : Fg} {F H : Hp} {m : Md} {c : Str} {fs : List (Str × D)} {v : V} (s : Same F H) (h : Rp K F H m (.ins c fs) v) : ∃ a C dx gs,v = .ref a /\ PySem.W.nsIn K mainGlobals c = some (some (.ref C)) /\ H a = some (.ins C dx gs) /\ RepF K F fs gs := by
 cases m with
 | fz=>have h : RepV K F (.ins c fs) v := h;simp only [RepV] at h;obtain ⟨a,C,dx,gs,e,n,q,r⟩ := h;exact ⟨a,C,dx,gs,e,n,s _ _ q,r⟩
 | fr=>obtain ⟨a,e,n,C,dx,gs,z,q,r⟩ := h;exact ⟨a,C,dx,gs,e,z,q,r⟩
 | bo=>obtain ⟨a,e,n,C,dx,gs,z,q,r⟩ := h;exact ⟨a,C,dx,gs,e,z,q,r⟩
theorem Rp.int {K : Fg} {F H : Hp} {m : Md} {i : Int} {v : V} (h : Rp K F H m (.int i) v) : v = .int i := by
 cases m with
 | fz=>have h : RepV K F (.int i) v := h;simpa only [RepV] using h
 | fr=>obtain ⟨a,e,n,q⟩ := h;exact q.elim
 | bo=>obtain ⟨a,e,n,q⟩ := h;exact q.elim
theorem Rp.bl {K : Fg} {F H : Hp} {m : Md} {i : Bool} {v : V} (h : Rp K F H m (.bl i) v) : v = .bl i := by
 cases m with
 | fz=>have h : RepV K F (.bl i) v := h;simpa only [RepV] using h
 | fr=>obtain ⟨a,e,n,q⟩ := h;exact q.elim
 | bo=>obtain ⟨a,e,n,q⟩ := h;exact q.elim
theorem Rp.non {K : Fg} {F H : Hp} {m : Md} {v : V} (h : Rp K F H m .non v) : v = .non := by
 cases m with
 | fz=>have h : RepV K F .non v := h;simpa only [RepV] using h
 | fr=>obtain ⟨a,e,n,q⟩ := h;exact q.elim
 | bo=>obtain ⟨a,e,n,q⟩ := h;exact q.elim
theorem Rp.str {K : Fg} {F H : Hp} {m : Md} {x : Str} {v : V} (h : Rp K F H m (.str x) v) : v = .str x /\ x.length <= sizeLine /\ PyData.strOk x = true := by
 cases m with
 | fz=>have h : RepV K F (.str x) v := h;simpa only [RepV] using h
 | fr=>obtain ⟨a,e,n,q⟩ := h;exact q.elim
 | bo=>obtain ⟨a,e,n,q⟩ := h;exact q.elim
theorem Rp.ty {K : Fg} {F H : Hp} {m : Md} {n : String} {v : V} (h : Rp K F H m (.ty n) v) : v = .ty n := by
 cases m with
 | fz=>have h : RepV K F (.ty n) v := h;simpa only [RepV] using h
 | fr=>obtain ⟨a,e,n,q⟩ := h;exact q.elim
 | bo=>obtain ⟨a,e,n,q⟩ := h;exact q.elim
theorem Rp.ob {K : Fg} {F H : Hp} {m : Md} {n : Addr} {v : V} (h : Rp K F H m (.ob n) v) : v = .ref n := by
 cases m with
 | fz=>have h : RepV K F (.ob n) v := h;simpa only [RepV] using h
 | fr=>obtain ⟨a,e,n,q⟩ := h;exact q.elim
 | bo=>obtain ⟨a,e,n,q⟩ := h;exact q.elim
theorem rp_ty {K : Fg} {F H : Hp} (i : String) : Rp K F H .fz (.ty i) (.ty i) := by show RepV K F _ _;simp only [RepV]
theorem rp_int {K : Fg} {F H : Hp} (i : Int) : Rp K F H .fz (.int i) (.int i) := by show RepV K F _ _;simp only [RepV]
theorem rp_bl {K : Fg} {F H : Hp} (i : Bool) : Rp K F H .fz (.bl i) (.bl i) := by show RepV K F _ _;simp only [RepV]
theorem rp_non {K : Fg} {F H : Hp} : Rp K F H .fz .non .non := by show RepV K F _ _;simp only [RepV]
theorem rp_str {K : Fg} {F H : Hp} {x : Str} (h : x.length <= sizeLine /\ PyData.strOk x = true) : Rp K F H .fz (.str x) (.str x) := by show RepV K F _ _;simp only [RepV,true_and];exact h
abbrev Rho := List (Option (Bool × D))
structure RelSt (K : Fg) (F0 H0 F H : Hp) (σ : L2.St) (ρ : Rho) : Prop where
 st : Step F0 H0 F H
 slot : ∀ (i : Nat) (m : Bool) (d : D),ρ[i]? = some (some (m,d)) -> ∃ v,σ[i]? = some (some v) /\ Rp K F H (if m then .bo else .fz) d v /\ (m = true -> ∀ a,v = .ref a -> H0 a = none)
 apart : ∀ (i j : Nat) (d d' : D) (a : Addr),i ≠ j -> ρ[i]? = some (some (true,d)) -> ρ[j]? = some (some (true,d')) -> σ[i]? = some (some (.ref a)) -> σ[j]? = some (some (.ref a)) -> False
 len : σ.length = ρ.length
theorem RelSt.step {K : Fg} {F0 H0 F H F' H' : Hp} {σ : L2.St} {ρ : Rho} (r : RelSt K F0 H0 F H σ ρ) (st : Step F H F' H') : RelSt K F0 H0 F' H' σ ρ :=
 ⟨r.st.trans st,fun i m d e=>by obtain ⟨v,e1,e2,e3⟩ := r.slot i m d e;exact ⟨v,e1,e2.step st,e3⟩,r.apart,r.len⟩
theorem RelSt.sub {K : Fg} {F0 H0 F H : Hp} {σ : L2.St} {ρ : Rho} (r : RelSt K F0 H0 F H σ ρ) : Same F H := r.st.sub
abbrev XE := Str -> L2.St -> Hp -> Prop
structure Cw where
 K : Fg
 F0 : Hp
 H0 : Hp
 EE : XE
def tG (C : Cw) (g : Rho -> Res) : TE := fun σ H Q=>∃ ρ F,RelSt C.K C.F0 C.H0 F H σ ρ /\ match g ρ with
 | .ok m d=>∀ v F' H',Step F H F' H' -> Rp C.K F' H' m d v -> (m = .fr -> ∀ a,v = .ref a -> H a = none) -> Q v H'
 | .exc c=>∀ F' H',Step F H F' H' -> C.EE c σ H'
 | .stuck=>False
abbrev Cw.at (C : Cw) (X : Cx) : Cw := { C with K := X.K }
def PV (C : Cw) (X : Cx) (e : Expr) (g : Rho -> Res) : Prop := PE X e (tG (C.at X) g)
theorem PE.imp {X : Cx} {e : Expr} {t t' : TE} (h : PE X e t) (i : ∀ σ H Q,t' σ H Q -> t σ H Q) : PE X e t' := fun pins s σ H Q I q=>h pins s σ H Q I (i σ H Q q)
def Res.thn (r : Res) (k : Md -> D -> Res) : Res := match r with
 | .ok m d=>k m d
 | .exc c=>.exc c
 | .stuck=>.stuck
@[simp] theorem Res.thn_ok (m : Md) (d : D) (k : Md -> D -> Res) : (Res.ok m d).thn k = k m d := rfl
@[simp] theorem Res.thn_exc (c : Str) (k : Md -> D -> Res) : (Res.exc c).thn k = .exc c := rfl
@[simp] theorem Res.thn_stuck (k : Md -> D -> Res) : Res.stuck.thn k = .stuck := rfl
def Res.of : Option (Md × D) -> Res
 | some (m,d)=>.ok m d
 | none=>.stuck
@[simp] theorem Res.of_some (m : Md) (d : D) : Res.of (some (m,d)) = .ok m d := rfl
@[simp] theorem Res.of_none : Res.of none = .stuck := rfl
def Want (C : Cw) (F H : Hp) (σ : L2.St) (r : Res) (Q : VK) : Prop := match r with
 | .ok m d=>∀ v F' H',Step F H F' H' -> Rp C.K F' H' m d v -> (m = .fr -> ∀ a,v = .ref a -> H a = none) -> Q v H'
 | .exc c=>∀ F' H',Step F H F' H' -> C.EE c σ H'
 | .stuck=>False
theorem tG_eq {C : Cw} {g : Rho -> Res} {σ : L2.St} {H : Hp} {Q : VK} : tG C g σ H Q = ∃ ρ F,RelSt C.K C.F0 C.H0 F H σ ρ /\ Want C F H σ (g ρ) Q := by unfold tG Want;rfl
theorem Want.step {C : Cw} {F H F1 H1 : Hp} {σ : L2.St} {r : Res} {Q : VK} (st : Step F H F1 H1) (h : Want C F H σ r Q) : Want C F1 H1 σ r Q := by
 cases r with
 | ok m d=>exact fun v F' H' s2 rp hf=>h v F' H' (st.trans s2) rp fun e a ea=>st.same.free (hf e a ea)
 | exc c=>exact fun F' H' s2=>h F' H' (st.trans s2)
 | stuck=>exact h
section
variable {C : Cw} {X : Cx} {a b : Expr} {ga gb : Rho -> Res} {pos : Pos}
def getS (ρ : Rho) (i : Nat) : Res := match ρ[i]? with
 | some (some (false,d))=>.ok .fz d
 | some (some (true,d))=>.ok .bo d
 | _=>.stuck
theorem pv_var (i : Nat) {x : Str} (h : PE X (.Name x pos) (tVar i)) : PV C X (.Name x pos) (fun ρ=>getS ρ i) := by
 refine PE.imp h fun σ H Q q=>?_;rw [tG_eq] at q;obtain ⟨ρ,F,R,w⟩ := q;unfold getS at w;cases e : ρ[i]? with
 | none=>rw [e] at w;exact w.elim
 | some o =>
  cases o with
  | none=>rw [e] at w;exact w.elim
  | some p =>
   obtain ⟨m,d⟩ := p;obtain ⟨v,e1,r,_⟩ := R.slot i m d e;rw [e] at w;cases m with
   | false=>exact ⟨v,e1,w v F H (.refl R.sub) r (by intro z;cases z)⟩
   | true=>exact ⟨v,e1,w v F H (.refl R.sub) r (by intro z;cases z)⟩
theorem pv_con {e : Expr} {v : V} (d : D) (h : PE X e (tC v)) (r : ∀ F H,Rp X.K F H .fz d v) : PV C X e (fun _=>.ok .fz d) := by refine PE.imp h fun σ H Q q=>?_;rw [tG_eq] at q;obtain ⟨ρ,F,R,w⟩ := q;exact w v F H (.refl R.sub) (r F H) (by intro z;cases z)
theorem pv_int {i j} : PV C X (.Constant (.int i) j pos) (fun _=>.ok .fz (.int i)) := pv_con _ pe_int fun _ _=>rp_int i
theorem pv_bl {i j} : PV C X (.Constant (.bool i) j pos) (fun _=>.ok .fz (.bl i)) := pv_con _ pe_bl fun _ _=>rp_bl i
theorem pv_non {j} : PV C X (.Constant .none j pos) (fun _=>.ok .fz .non) := pv_con _ pe_non fun _ _=>rp_non
theorem pv_str {x : Str} {j} (h : (decide (x.length <= sizeLine) && PyData.strOk x) = true := by decide +kernel) : PV C X (.Constant (.str x) j pos) (fun _=>.ok .fz (.str x)) :=
 pv_con _ pe_str fun _ _=>rp_str (by rw [Bool.and_eq_true,decide_eq_true_eq] at h;exact h)
def op2 (φ : Md -> D -> Md -> D -> Option (Md × D)) (x y : Res) : Res := x.thn fun m d=>y.thn fun n e=>Res.of (φ m d n e)
def OpD (C : Cw) (X : Cx) (f : Value -> Value -> Sem Value) (φ : Md -> D -> Md -> D -> Option (Md × D)) : Prop :=
 ∃ r : R2,OpR X f r /\ ∀ F H m x n y v u k d Q,Same F H -> Rp X.K F H m x v -> Rp X.K F H n y u -> φ m x n y = some (k,d) ->
  (∀ v' F' H',Step F H F' H' -> Rp X.K F' H' k d v' -> (k = .fr -> ∀ a,v' = .ref a -> H a = none) -> Q v' H') -> r v u H Q
theorem tG_op2 {φ : Md -> D -> Md -> D -> Option (Md × D)} {r : R2} (h : ∀ F H m x n y v u k d Q,Same F H -> Rp C.K F H m x v -> Rp C.K F H n y u -> φ m x n y = some (k,d) -> (∀ v' F' H',Step F H F' H' -> Rp C.K F' H' k d v' -> (k = .fr -> ∀ a,v' = .ref a -> H a = none) -> Q v' H') -> r v u H Q) {σ : L2.St} {H : Hp} {Q : VK} (q : tG C (fun ρ=>op2 φ (ga ρ) (gb ρ)) σ H Q) : tOp r (tG C ga) (tG C gb) σ H Q := by
 unfold tOp;rw [tG_eq] at q ⊢;obtain ⟨ρ,F,R,w⟩ := q;refine ⟨ρ,F,R,?_⟩;cases ea : ga ρ with
 | stuck=>simp only [op2,ea,Res.thn] at w;exact w
 | exc c=>simp only [op2,ea,Res.thn] at w;exact w
 | ok m d =>
  intro v F1 H1 s1 r1 _;rw [tG_eq];refine ⟨ρ,F1,R.step s1,?_⟩;have w1 := w.step s1;simp only [op2,ea,Res.thn] at w1;cases eb : gb ρ with
  | stuck=>rw [eb] at w1;exact w1
  | exc c=>rw [eb] at w1;exact w1
  | ok n e =>
   rw [eb] at w1;intro u F2 H2 s2 r2 _;have w2 : Want C F2 H2 σ (Res.of (φ m d n e)) Q := Want.step s2 w1;cases ef : φ m d n e with
   | none=>rw [ef] at w2;exact w2.elim
   | some kd=>obtain ⟨k,d'⟩ := kd;rw [ef] at w2;exact h F2 H2 m d n e v u k d' Q s2.sub (r1.step s2) r2 ef w2
theorem pv_op {op : Operator} {φ} (o : OpD C X (binaryOp op) φ) (ha : PV C X a ga) (hb : PV C X b gb) : PV C X (.BinOp a op b pos) (fun ρ=>op2 φ (ga ρ) (gb ρ)) := by obtain ⟨r,h1,h2⟩ := o;exact PE.imp (pe_op h1 ha hb) fun σ H Q q=>tG_op2 h2 q
theorem pv_cmp {op : CmpOp} {φ} (o : OpD C X (compareOp op) φ) (ha : PV C X a ga) (hb : PV C X b gb) (hm : behindInMarks op b = false) : PV C X (.Compare a [op] [b] pos) (fun ρ=>op2 φ (ga ρ) (gb ρ)) := by obtain ⟨r,h1,h2⟩ := o;exact PE.imp (pe_cmpR h1 ha hb hm) fun σ H Q q=>tG_op2 h2 q
def orO (φ ψ : Md -> D -> Md -> D -> Option (Md × D)) : Md -> D -> Md -> D -> Option (Md × D) := fun m x n y=>(φ m x n y).orElse fun _=>ψ m x n y
theorem OpD.or {f : Value -> Value -> Sem Value} {φ ψ} (h : OpD C X f φ) (h' : OpD C X f ψ) : OpD C X f (orO φ ψ) := by
 obtain ⟨r,h1,h2⟩ := h;obtain ⟨r',h1',h2'⟩ := h';refine ⟨_,h1.or h1',fun F H m x n y v u k d Q s rx ry e w=>?_⟩;unfold orO at e;cases e1 : φ m x n y with
 | none=>rw [e1] at e;exact .inr (h2' F H m x n y v u k d Q s rx ry e w)
 | some p=>rw [e1] at e;cases e;exact .inl (h2 F H m x n y v u k d Q s rx ry e1 w)
def fI (c : Int -> Int -> Bool) (g : Int -> Int -> D) : Md -> D -> Md -> D -> Option (Md × D) := fun _ x _ y=>match x,y with
 | .int i,.int j=>if c i j = true then some (.fz,g i j) else none
 | _,_=>none
theorem opd_I {f : Value -> Value -> Sem Value} {Cc : Int -> Int -> Prop} {c : Int -> Int -> Bool} {g : Int -> Int -> V} {g' : Int -> Int -> D} (o : OpR X f (rI Cc g)) (hc : ∀ i j,c i j = true -> Cc i j) (hg : ∀ F H i j,Rp X.K F H .fz (g' i j) (g i j)) : OpD C X f (fI c g') := by
 refine ⟨_,o,fun F H m x n y v u k d Q s rx ry e w=>?_⟩;unfold fI at e;split at e
 . rename_i i j;cases rx.int;cases ry.int;split at e
   . rename_i hcc;cases e;exact ⟨i,j,rfl,rfl,hc i j hcc,w _ F H (.refl s) (hg F H i j) (by intro z;cases z)⟩
   . cases e
 . cases e
theorem opd_I0 {f : Value -> Value -> Sem Value} {g : Int -> Int -> V} {g' : Int -> Int -> D} (o : OpR X f (rI0 g)) (hg : ∀ F H i j,Rp X.K F H .fz (g' i j) (g i j)) : OpD C X f (fI (fun _ _=>true) g') := by
 refine ⟨_,o,fun F H m x n y v u k d Q s rx ry e w=>?_⟩;unfold fI at e;split at e
 . rename_i i j;cases rx.int;cases ry.int;rw [if_pos rfl] at e;cases e;exact ⟨i,j,rfl,rfl,w _ F H (.refl s) (hg F H i j) (by intro z;cases z)⟩
 . cases e
def bits (i : Int) : Bool := decide (i.natAbs.log2 < 9000)
theorem opd_add : OpD C X (binaryOp .Add) (fI (fun _ _=>true) fun i j=>.int (i + j)) := opd_I0 op_add fun _ _ i j=>rp_int _
theorem opd_sub : OpD C X (binaryOp .Sub) (fI (fun _ _=>true) fun i j=>.int (i - j)) := opd_I0 op_sub fun _ _ i j=>rp_int _
theorem mulOk_of {i j : Int} (h : (bits i && bits j) = true) : IntMulOk i j := by
 rw [Bool.and_eq_true] at h;have b : ∀ {i : Int},bits i = true -> Builtin.Int.intBits i <= 2 ^ 20 := fun {i} h=>by
  unfold bits at h;have := of_decide_eq_true h;unfold Builtin.Int.intBits;split
  . exact Nat.zero_le _
  . have e : (2 : Nat) ^ 20 = 1048576 := by decide
    omega
 exact IntMulOk.of_bits (b h.1) (b h.2)
def w64 (i : Int) : Bool := decide (i.natAbs < 2 ^ 63)
theorem w64_bits {i : Int} (h : w64 i = true) : Builtin.Int.intBits i <= 64 := by
 have h := of_decide_eq_true h;unfold Builtin.Int.intBits;split
 . exact Nat.zero_le _
 . rename_i hz;have : i.natAbs.log2 < 63 := (Nat.log2_lt (by simpa using hz)).mpr h
   omega
theorem opd_mul : OpD C X (binaryOp .Mult) (fI (fun i j=>(bits i && bits j) || (w64 i || w64 j)) fun i j=>.int (i * j)) :=
 opd_I (Cc := fun i j=>IntMulOk i j) (opI fun _ _ _ _ _ _ _ hc q=>mul_int q hc) (fun i j h=>by
  rcases (Bool.or_eq_true _ _).mp h with h | h
  . exact mulOk_of h
  . rcases (Bool.or_eq_true _ _).mp h with h | h
    . exact IntMulOk.of_left (w64_bits h)
    . exact IntMulOk.of_right (w64_bits h)) fun _ _ i j=>rp_int _
theorem opd_mod : OpD C X (binaryOp .Mod) (fI (fun _ j=>decide (0 < j)) fun i j=>.int (i % j)) := opd_I op_mod (fun i j h=>of_decide_eq_true h) fun _ _ i j=>rp_int _
theorem op_fdivB : OpR X (binaryOp .FloorDiv) (rI (fun _ j=>0 < j /\ bits j = true) fun i j=>.int (i / j)) := opI fun i j _ _ _ _ _ hc q=>by
 obtain ⟨h1,h2⟩ := hc;refine floordiv_int (by omega) ?_ (.inl (PyProof.noPylong_of_log2 (of_decide_eq_true h2)))
 rw [Int.fdiv_eq_ediv_of_nonneg i (by omega)]
 exact q
theorem opd_fdiv : OpD C X (binaryOp .FloorDiv) (fI (fun _ j=>decide (0 < j) && bits j) fun i j=>.int (i / j)) := opd_I op_fdivB (fun i j h=>by rw [Bool.and_eq_true,decide_eq_true_eq] at h;exact h) fun _ _ i j=>rp_int _
theorem opd_pow : OpD C X (binaryOp .Pow) (fI (fun i j=>decide (0 <= j) && decide (j <= 1000000) && decide (i.natAbs < 2 ^ 64)) fun i j=>.int (i ^ j.toNat)) :=
 opd_I op_pow (fun i j h=>by simp only [Bool.and_eq_true,decide_eq_true_eq] at h;exact ⟨h.1.1,h.1.2,h.2⟩) fun _ _ i j=>rp_int _
theorem opd_lt : OpD C X (compareOp .Lt) (fI (fun _ _=>true) fun i j=>.bl (decide (i < j))) := opd_I0 op_lt fun _ _ i j=>rp_bl _
theorem opd_le : OpD C X (compareOp .LtE) (fI (fun _ _=>true) fun i j=>.bl (decide (i <= j))) := opd_I0 op_le fun _ _ i j=>rp_bl _
theorem opd_gt : OpD C X (compareOp .Gt) (fI (fun _ _=>true) fun i j=>.bl (decide (j < i))) := opd_I0 op_gt fun _ _ i j=>rp_bl _
theorem opd_ge : OpD C X (compareOp .GtE) (fI (fun _ _=>true) fun i j=>.bl (decide (j <= i))) := opd_I0 op_ge fun _ _ i j=>rp_bl _
def fS (c : Str -> Str -> Bool) (g : Str -> Str -> D) : Md -> D -> Md -> D -> Option (Md × D) := fun _ x _ y=>match x,y with
 | .str i,.str j=>if c i j = true then some (.fz,g i j) else none
 | _,_=>none
theorem strOk_append {x y : Str} (hx : PyData.strOk x = true) (hy : PyData.strOk y = true) : PyData.strOk (x ++ y) = true := by unfold PyData.strOk at *;show (x.cps ++ y.cps).all _ = true;rw [Array.all_append,hx,hy];rfl
theorem opd_addS : OpD C X (binaryOp .Add) (fS (fun i j=>decide (i.length + j.length <= sizeLine)) fun i j=>.str (i ++ j)) := by
 refine ⟨_,op_add_str,fun F H m x n y v u k d Q s rx ry e w=>?_⟩;unfold fS at e;split at e
 . rename_i i j;obtain ⟨rfl,h1⟩ := rx.str;obtain ⟨rfl,h2⟩ := ry.str;split at e
   . rename_i hc;cases e;have hc := of_decide_eq_true hc;exact ⟨i,j,rfl,rfl,hc,w _ F H (.refl s) (rp_str ⟨by rw [strLen_append];exact hc,strOk_append h1.2 h2.2⟩) (by intro z;cases z)⟩
   . cases e
 . cases e
def isIn (i j : Str) : Bool := !(Builtin.Str.occurrences j i 0 j.length 1).isEmpty
theorem opd_inS : OpD C X (compareOp .In) (fS (fun _ _=>true) fun i j=>.bl (isIn i j)) := by
 refine ⟨_,op_in_str,fun F H m x n y v u k d Q s rx ry e w=>?_⟩;unfold fS at e;split at e
 . rename_i i j;obtain ⟨rfl,h1⟩ := rx.str;obtain ⟨rfl,h2⟩ := ry.str;rw [if_pos rfl] at e;cases e;exact ⟨i,j,rfl,rfl,w _ F H (.refl s) (rp_bl _) (by intro z;cases z)⟩
 . cases e
theorem opd_notinS : OpD C X (compareOp .NotIn) (fS (fun _ _=>true) fun i j=>.bl (!isIn i j)) := by
 refine ⟨_,op_notin_str,fun F H m x n y v u k d Q s rx ry e w=>?_⟩;unfold fS at e;split at e
 . rename_i i j;obtain ⟨rfl,h1⟩ := rx.str;obtain ⟨rfl,h2⟩ := ry.str;rw [if_pos rfl] at e;cases e;exact ⟨i,j,rfl,rfl,w _ F H (.refl s) (rp_bl _) (by intro z;cases z)⟩
 . cases e
end
section
variable {C : Cw} {X : Cx} {a b c e : Expr} {ga gb gc g : Rho -> Res} {pos : Pos}
def frzR : Res -> Res
 | .ok .bo _=>.stuck
 | .ok _ d=>.ok .fz d
 | r=>r
theorem Step.freeze {F H F' H' : Hp} {x : Addr} {o : HO} (st : Step F H F' H') (hx : H x = none) (hx' : F' x = none) (ho : H' x = some o) : Step F H (upd F' x o) H' := by
 refine ⟨st.same,fun b u q=>?_,fun b u q=>?_,fun y h1 h2=>?_⟩
 . rw [upd_ne (ne_of_none (st.fsame b u q) hx')];exact st.fsame b u q
 . by_cases hb : b = x
   . subst hb;rw [upd_same] at q;rw [<- q];exact ho
   . rw [upd_ne hb] at q;exact st.sub b u q
 . have : y ≠ x := by rintro rfl;exact h2 hx
   rw [upd_ne this];exact st.new y h1 h2
theorem Top.freeze {K : Fg} {F H : Hp} {x : Addr} {d : D} (hx : F x = none) (h : Top K F H x d) : ∃ o,H x = some o /\ RepV K (upd F x o) d (.ref x) := by
 have s : ∀ o,Same F (upd F x o) := fun o b u q=>by rw [upd_ne (ne_of_none q hx)];exact q
 cases d with
 | lst ds=>obtain ⟨xs,q,r⟩ := h;refine ⟨_,q,?_⟩;simp only [RepV];exact ⟨x,xs,rfl,SqL.of upd_same,r.mono (s _) _ _⟩
 | dct ds=>obtain ⟨xs,q,r⟩ := h;refine ⟨_,q,?_⟩;simp only [RepV];exact ⟨x,xs,rfl,upd_same,r.mono (s _) _ _⟩
 | ins c fs=>obtain ⟨C,dx,gs,n,q,r⟩ := h;refine ⟨_,q,?_⟩;simp only [RepV];exact ⟨x,C,dx,gs,rfl,n,upd_same,r.mono (s _) _ _⟩
 | set ks=>obtain ⟨S,q,r⟩ := h;refine ⟨_,q,?_⟩;simp only [RepV];exact ⟨x,S,rfl,upd_same,r⟩
 | _=>exact h.elim
theorem Want.frz {F H : Hp} {σ : L2.St} {r : Res} {Q : VK} (w : Want C F H σ (frzR r) Q) : Want C F H σ r Q := by
 cases r with
 | exc c=>exact w
 | stuck=>exact w
 | ok m d =>
  cases m with
  | fz=>exact w
  | bo=>exact (show False from w).elim
  | fr=>intro v F' H' st rp fr;obtain ⟨x,rfl,n,t⟩ := rp;obtain ⟨o,ho,r⟩ := t.freeze n;exact w (.ref x) (upd F' x o) H' (st.freeze (fr rfl x rfl) n ho) r (by intro z;cases z)
theorem pv_frz (h : PV C X e g) : PV C X e (fun ρ=>frzR (g ρ)) := PE.imp h fun σ H Q q=>by
 rw [tG_eq] at q ⊢;obtain ⟨ρ,F,R,w⟩ := q
 try dsimp only at w
 exact ⟨ρ,F,R,w.frz⟩
def WantB (C : Cw) (F H : Hp) (σ : L2.St) (r : Res) (Q : Bool -> Hp -> Prop) : Prop := match r with
 | .ok _ (.bl b)=>∀ F' H',Step F H F' H' -> Q b H'
 | .exc c=>∀ F' H',Step F H F' H' -> C.EE c σ H'
 | _=>False
theorem WantB.step {F H F1 H1 : Hp} {σ : L2.St} {r : Res} {Q : Bool -> Hp -> Prop} (st : Step F H F1 H1) (h : WantB C F H σ r Q) : WantB C F1 H1 σ r Q := by
 cases r with
 | ok m d =>
  cases d with
  | bl b=>exact fun F' H' s2=>h F' H' (st.trans s2)
  | _=>exact h
 | exc c=>exact fun F' H' s2=>h F' H' (st.trans s2)
 | stuck=>exact h
def tT (C : Cw) (g : Rho -> Res) : TT := fun σ H Q=>∃ ρ F,RelSt C.K C.F0 C.H0 F H σ ρ /\ WantB C F H σ (g ρ) Q
def PTv (C : Cw) (X : Cx) (e : Expr) (g : Rho -> Res) : Prop := PT X e (tT (C.at X) g)
def PWv (C : Cw) (X : Cx) (e : Expr) (g : Rho -> Res) : Prop := PW X e (tT (C.at X) g)
theorem PT.imp {X : Cx} {e : Expr} {t t' : TT} (h : PT X e t) (i : ∀ σ H Q,t' σ H Q -> t σ H Q) : PT X e t' := fun pins s σ H Q I q=>h pins s σ H Q I (i σ H Q q)
theorem PW.imp {X : Cx} {e : Expr} {t t' : TT} (h : PW X e t) (i : ∀ σ H Q,t' σ H Q -> t σ H Q) : PW X e t' := fun whole pins s σ H Q I q=>h whole pins s σ H Q I (i σ H Q q)
def truD : D -> Option Bool
 | .non=>some false
 | .bl b=>some b
 | .int i=>some (i != 0)
 | .str x=>some ((x.length : Int) != 0)
 | .tup ds=>some (!ds.isEmpty)
 | .lst ds=>some (!ds.isEmpty)
 | .dct ds=>some (!ds.isEmpty)
 | _=>none
def truR (r : Res) : Res := r.thn fun _ d=>match truD d with | some b=>.ok .fz (.bl b) | none=>.stuck
theorem RepL.isEmpty {K : Fg} {F : Hp} {ds : List D} {xs : List V} (h : RepL K F ds xs) : ds.isEmpty = xs.isEmpty := by
 cases ds with
 | nil=>simp only [RepL] at h;subst h;rfl
 | cons d ds=>simp only [RepL] at h;obtain ⟨y,ys,rfl,_⟩ := h;rfl
theorem RepK.isEmpty {K : Fg} {F : Hp} {ds : List (Key × D)} {xs : List (Key × V)} (h : RepK K F ds xs) : ds.isEmpty = xs.isEmpty := by
 cases ds with
 | nil=>simp only [RepK] at h;subst h;rfl
 | cons d ds=>obtain ⟨k,d⟩ := d;simp only [RepK] at h;obtain ⟨y,ys,rfl,_⟩ := h;rfl
theorem truV_of {K : Fg} {F H : Hp} {m : Md} {d : D} {v : V} {k : Bool} (s : Same F H) (h : Rp K F H m d v) (e : truD d = some k) : TruV K v H k := by
 cases d with
 | non=>cases h.non;cases e;rfl
 | bl b=>cases h.bl;cases e;rfl
 | int i=>cases h.int;cases e;rfl
 | str x=>obtain ⟨rfl,hl,_⟩ := h.str;cases e;exact ⟨hl,rfl⟩
 | tup ds=>obtain ⟨a,xs,rfl,q,r⟩ := h.seqT s;cases e;exact .inr (.inl ⟨xs,q,by rw [r.isEmpty]⟩)
 | lst ds=>obtain ⟨a,xs,rfl,q,r⟩ := h.seqL s;cases e;exact .inl ⟨xs,q,by rw [r.isEmpty]⟩
 | dct ds=>obtain ⟨a,xs,rfl,q,r⟩ := h.dict s;cases e;exact .inr (.inr ⟨xs,q,by rw [r.isEmpty]⟩)
 | ty n=>cases e
 | ob n=>cases e
 | ins n=>cases e
 | fn n=>cases e
 | exn n=>cases e
 | set n=>cases e
theorem pt_tru (h : PV C X e g) (he : ∀ whole,isTrue e X.env whole = (do let v <- whole;standAt e.pos;holding [v] (truthy v)) := by intro _;rfl) : PTv C X e (fun ρ=>truR (g ρ)) := by
 refine PT.imp (pt_truth h he) fun σ H Q q=>?_;obtain ⟨ρ,F,R,w⟩ := q
 try dsimp only at w
 rw [tG_eq];refine ⟨ρ,F,R,?_⟩;cases er : g ρ with
 | stuck=>rw [er] at w;exact w
 | exc c=>rw [er] at w;exact w
 | ok m d =>
  rw [er] at w;intro v F' H' st rp _;have w : WantB (C.at X) F H σ (match truD d with | some b=>.ok .fz (.bl b) | none=>.stuck) Q := w
  cases ed : truD d with
  | none=>rw [ed] at w;exact w.elim
  | some k=>rw [ed] at w;exact ⟨k,truV_of st.sub rp ed,w F' H' st⟩
theorem pt_cmpv {op : CmpOp} {φ} (o : OpD C X (compareOp op) φ) (hb' : ∀ m x n y k d,φ m x n y = some (k,d) -> ∃ t,k = .fz /\ d = .bl t) (ha : PV C X a ga) (hb : PV C X b gb) (hm : behindInMarks op b = false) : PTv C X (.Compare a [op] [b] pos) (fun ρ=>op2 φ (ga ρ) (gb ρ)) := by
 obtain ⟨r,h1,h2⟩ := o;refine PT.imp (pt_cmpR h1 ha hb hm) fun σ H Q q=>?_;obtain ⟨ρ,F,R,w⟩ := q
 try dsimp only at w
 unfold tTest;refine tG_op2 h2 ?_;rw [tG_eq];refine ⟨ρ,F,R,?_⟩;cases er : op2 φ (ga ρ) (gb ρ) with
 | stuck=>rw [er] at w;exact w
 | exc c=>rw [er] at w;exact w
 | ok m d =>
  rw [er] at w;have : ∃ t,m = .fz /\ d = .bl t := by
   unfold op2 at er;cases e1 : ga ρ with
   | stuck=>rw [e1] at er;cases er
   | exc c=>rw [e1] at er;cases er
   | ok m1 d1 =>
    cases e2 : gb ρ with
    | stuck=>rw [e1,e2] at er;cases er
    | exc c=>rw [e1,e2] at er;cases er
    | ok m2 d2 =>
     rw [e1,e2] at er;have er : Res.of (φ m1 d1 m2 d2) = .ok m d := er;cases e3 : φ m1 d1 m2 d2 with
     | none=>rw [e3] at er;cases er
     | some kd=>rw [e3] at er;obtain ⟨k,d'⟩ := kd;cases er;exact hb' _ _ _ _ _ _ e3
  obtain ⟨t,rfl,rfl⟩ := this;intro v F' H' st rp _;cases rp.bl;exact ⟨t,rfl,w F' H' st⟩
def andR (x : Res) (y : Res) : Res := x.thn fun _ d=>match d with | .bl true=>y | .bl false=>.ok .fz (.bl false) | _=>.stuck
def orR (x : Res) (y : Res) : Res := x.thn fun _ d=>match d with | .bl true=>.ok .fz (.bl true) | .bl false=>y | _=>.stuck
def notR (x : Res) : Res := x.thn fun _ d=>match d with | .bl b=>.ok .fz (.bl (!b)) | _=>.stuck
theorem pt_notv (ha : PTv C X a ga) : PTv C X (.UnaryOp .Not a pos) (fun ρ=>notR (ga ρ)) := by
 refine PT.imp (pt_not ha) fun σ H Q q=>?_;obtain ⟨ρ,F,R,w⟩ := q
 try dsimp only at w
 refine ⟨ρ,F,R,?_⟩;cases er : ga ρ with
 | stuck=>rw [er] at w;exact w
 | exc c=>rw [er] at w;exact w
 | ok m d =>
  rw [er] at w;cases d with
  | bl b=>exact w
  | _=>exact w
theorem pw_onev {op : BoolOp} (h : PTv C X a ga) : PWv C X (.BoolOp op [a] pos) ga := by
 cases op with
 | And=>exact pw_and1 h
 | Or=>exact pw_or1 h
theorem tT_and {σ : L2.St} {H : Hp} {Q : Bool -> Hp -> Prop} (q : tT C (fun ρ=>andR (ga ρ) (gb ρ)) σ H Q) : tAnd (tT C ga) (tT C gb) σ H Q := by
 obtain ⟨ρ,F,R,w⟩ := q
 try dsimp only at w
 refine ⟨ρ,F,R,?_⟩;cases er : ga ρ with
 | stuck=>rw [er] at w;exact w
 | exc c=>rw [er] at w;exact w
 | ok m d =>
  rw [er] at w;cases d with
  | bl b =>
   intro F' H' st;cases b with
   | true=>rw [if_pos rfl];exact ⟨ρ,F',R.step st,WantB.step st w⟩
   | false=>rw [if_neg Bool.false_ne_true];exact w F' H' st
  | _=>exact w
theorem tT_or {σ : L2.St} {H : Hp} {Q : Bool -> Hp -> Prop} (q : tT C (fun ρ=>orR (ga ρ) (gb ρ)) σ H Q) : tOr (tT C ga) (tT C gb) σ H Q := by
 obtain ⟨ρ,F,R,w⟩ := q
 try dsimp only at w
 refine ⟨ρ,F,R,?_⟩;cases er : ga ρ with
 | stuck=>rw [er] at w;exact w
 | exc c=>rw [er] at w;exact w
 | ok m d =>
  rw [er] at w;cases d with
  | bl b =>
   intro F' H' st;cases b with
   | true=>rw [if_pos rfl];exact w F' H' st
   | false=>rw [if_neg Bool.false_ne_true];exact ⟨ρ,F',R.step st,WantB.step st w⟩
  | _=>exact w
theorem pw_andv {rest : List Expr} (ha : PTv C X a ga) (hb : PWv C X (.BoolOp .And (b :: rest) pos) gb) : PWv C X (.BoolOp .And (a :: b :: rest) pos) (fun ρ=>andR (ga ρ) (gb ρ)) := PW.imp (pw_and ha hb) fun _ _ _ q=>tT_and q
theorem pw_orv {rest : List Expr} (ha : PTv C X a ga) (hb : PWv C X (.BoolOp .Or (b :: rest) pos) gb) : PWv C X (.BoolOp .Or (a :: b :: rest) pos) (fun ρ=>orR (ga ρ) (gb ρ)) := PW.imp (pw_or ha hb) fun _ _ _ q=>tT_or q
theorem pt_w (h : PWv C X e g) : PTv C X e g := PW.pt h
theorem pv_onev {op} (h : PV C X a ga) : PV C X (.BoolOp op [a] pos) ga := pe_one h
theorem pv_andv {rest : List Expr} (ha : PV C X a ga) (hb : PV C X (.BoolOp .And (b :: rest) pos) gb) : PV C X (.BoolOp .And (a :: b :: rest) pos) (fun ρ=>andR (ga ρ) (gb ρ)) := by
 refine PE.imp (pe_and ha hb) fun σ H Q q=>?_;unfold tAndV;rw [tG_eq] at q ⊢;obtain ⟨ρ,F,R,w⟩ := q
 try dsimp only at w
 refine ⟨ρ,F,R,?_⟩;cases er : ga ρ with
 | stuck=>rw [er] at w;exact w
 | exc c=>rw [er] at w;exact w
 | ok m d =>
  rw [er] at w;cases d with
  | bl k =>
   intro v F' H' st rp _;cases rp.bl;refine ⟨k,rfl,?_⟩;cases k with
   | true=>rw [if_pos rfl,tG_eq];exact ⟨ρ,F',R.step st,Want.step st w⟩
   | false=>rw [if_neg Bool.false_ne_true];exact w (.bl false) F' H' st (rp_bl _) (by intro z;cases z)
  | _=>exact w.elim
theorem pv_orv {rest : List Expr} (ha : PV C X a ga) (hb : PV C X (.BoolOp .Or (b :: rest) pos) gb) : PV C X (.BoolOp .Or (a :: b :: rest) pos) (fun ρ=>orR (ga ρ) (gb ρ)) := by
 refine PE.imp (pe_or ha hb) fun σ H Q q=>?_;unfold tOrV;rw [tG_eq] at q ⊢;obtain ⟨ρ,F,R,w⟩ := q
 try dsimp only at w
 refine ⟨ρ,F,R,?_⟩;cases er : ga ρ with
 | stuck=>rw [er] at w;exact w
 | exc c=>rw [er] at w;exact w
 | ok m d =>
  rw [er] at w;cases d with
  | bl k =>
   intro v F' H' st rp _;cases rp.bl;refine ⟨k,rfl,?_⟩;cases k with
   | true=>rw [if_pos rfl];exact w (.bl true) F' H' st (rp_bl _) (by intro z;cases z)
   | false=>rw [if_neg Bool.false_ne_true,tG_eq];exact ⟨ρ,F',R.step st,Want.step st w⟩
  | _=>exact w.elim
theorem pv_notv (ha : PV C X a ga) : PV C X (.UnaryOp .Not a pos) (fun ρ=>notR (ga ρ)) := by
 refine PE.imp (pe_not ha) fun σ H Q q=>?_;unfold tNotV;rw [tG_eq] at q ⊢;obtain ⟨ρ,F,R,w⟩ := q
 try dsimp only at w
 refine ⟨ρ,F,R,?_⟩;cases er : ga ρ with
 | stuck=>rw [er] at w;exact w
 | exc c=>rw [er] at w;exact w
 | ok m d =>
  rw [er] at w;cases d with
  | bl k=>intro v F' H' st rp _;cases rp.bl;exact ⟨k,rfl,w _ F' H' st (rp_bl _) (by intro z;cases z)⟩
  | _=>exact w.elim
def negR (x : Res) : Res := x.thn fun _ d=>match d with | .int i=>.ok .fz (.int (-i)) | _=>.stuck
theorem pv_neg (ha : PV C X a ga) : PV C X (.UnaryOp .USub a pos) (fun ρ=>negR (ga ρ)) := by
 refine PE.imp (pe_un un_neg ha) fun σ H Q q=>?_;unfold tUn;rw [tG_eq] at q ⊢;obtain ⟨ρ,F,R,w⟩ := q
 try dsimp only at w
 refine ⟨ρ,F,R,?_⟩;cases er : ga ρ with
 | stuck=>rw [er] at w;exact w
 | exc c=>rw [er] at w;exact w
 | ok m d =>
  rw [er] at w;cases d with
  | int i=>intro v F' H' st rp _;cases rp.int;exact ⟨i,rfl,w _ F' H' st (rp_int _) (by intro z;cases z)⟩
  | _=>exact w.elim
def ixD : Md -> D -> Md -> D -> Option (Md × D) := fun _ x _ y=>match x,y with
 | .lst ds,.int i=>(atI ds i).map fun d=>(.fz,d)
 | .tup ds,.int i=>(atI ds i).map fun d=>(.fz,d)
 | .str z,.int i=>(atI z.cps.toList i).map fun c=>(.fz,.str ⟨#[c]⟩)
 | _,_=>none
theorem RepL.atI {K : Fg} {F : Hp} {ds : List D} {xs : List V} {i : Int} {d : D} (h : RepL K F ds xs) (e : atI ds i = some d) : ∃ x,L2.atI xs i = some x /\ RepV K F d x := by
 unfold L2.atI at *;rw [h.length];cases q : ixN ds.length i with
 | none=>rw [q] at e;cases e
 | some j=>rw [q] at e;exact h.get' e
theorem ixD_rule {F H : Hp} {m n k : Md} {x y d : D} {v u : V} {Q : VK} (s : Same F H) (rx : Rp X.K F H m x v) (ry : Rp X.K F H n y u) (e : ixD m x n y = some (k,d)) (w : ∀ v' F' H',Step F H F' H' -> Rp X.K F' H' k d v' -> (k = .fr -> ∀ a,v' = .ref a -> H a = none) -> Q v' H') : rIx X.K v u H Q := by
 unfold ixD at e;split at e
 . rename_i ds i;cases ry.int;obtain ⟨p,xs,rfl,hq,r⟩ := rx.seqL s;cases ei : atI ds i with
   | none=>rw [ei] at e;cases e
   | some d'=>rw [ei] at e;cases e;obtain ⟨x',ex,rx'⟩ := r.atI ei;exact .inl ⟨p,xs,i,x',rfl,rfl,hq,ex,w x' F H (.refl s) rx' (by intro z;cases z)⟩
 . rename_i ds i;cases ry.int;obtain ⟨p,xs,rfl,hq,r⟩ := rx.seqT s;cases ei : atI ds i with
   | none=>rw [ei] at e;cases e
   | some d'=>rw [ei] at e;cases e;obtain ⟨x',ex,rx'⟩ := r.atI ei;exact .inr (.inl ⟨p,xs,i,x',rfl,rfl,hq,ex,w x' F H (.refl s) rx' (by intro z;cases z)⟩)
 . rename_i z i;cases ry.int;obtain ⟨rfl,hl,hk⟩ := rx.str;cases ei : atI z.cps.toList i with
   | none=>rw [ei] at e;cases e
   | some c =>
    rw [ei] at e;cases e;refine .inr (.inr ⟨z,i,c,rfl,rfl,hl,ei,w _ F H (.refl s) (rp_str ⟨?_,?_⟩) (by intro z;cases z)⟩)
    . show 1 <= sizeLine;decide
    . obtain ⟨j,_,hj,_⟩ := atI_get ei;unfold PyData.strOk at hk ⊢;rw [Array.all_eq_true_iff_forall_mem] at hk;have hc := hk c (by rw [<- Array.mem_toList_iff];exact List.mem_of_getElem? hj)
      simpa using hc
 . cases e
theorem pv_ix (ha : PV C X a ga) (hb : PV C X b gb) (hs : PlainIx b := by intro _ _;rfl) : PV C X (.Subscript a b pos) (fun ρ=>op2 ixD (ga ρ) (gb ρ)) := by exact PE.imp (pe_ix ix_seq ha hb hs) fun σ H Q q=>tG_op2 (fun F H m x n y v u k d Q s rx ry e w=>ixD_rule s rx ry e w) q
theorem sl_str : SlR X (fun x lo hi H Q=>∃ z,x = .str z /\ z.length <= sizeLine /\ Q (.str (Txt.slice z lo hi)) H) := by
 intro pins s σ H x v vl vu lo hi sl Q I rx hs pl pu h;obtain ⟨z,rfl,hz,q⟩ := h;obtain ⟨t,rfl⟩ := rx;refine ⟨"str", _,PySem.F.slot_str_getitem.lookup,typeIs_str _ _ _,?_⟩;have fin : ∀ t' k,EP X pins σ Q (.str (Txt.slice z lo hi) t') { s with toks := k } := fun t' k=>⟨.str (Txt.slice z lo hi),H,I.tok _,⟨_,rfl⟩,q⟩
 cases pl with
 | none =>
  cases pu with
  | none=>exact wpAny_getItem_str_slice (l := none) (u := none) (st := none) hs rfl (post_val_or_str ⟨Nat.le_trans (Txt.slice_le z _ _) hz,fun t' k=>fin t' k⟩)
  | int j tj=>exact wpAny_getItem_str_slice (l := none) (u := some (j,tj)) (st := none) hs rfl (post_val_or_str ⟨Nat.le_trans (Txt.slice_le z _ _) hz,fun t' k=>fin t' k⟩)
 | int i ti =>
  cases pu with
  | none=>exact wpAny_getItem_str_slice (l := some (i,ti)) (u := none) (st := none) hs rfl (post_val_or_str ⟨Nat.le_trans (Txt.slice_le z _ _) hz,fun t' k=>fin t' k⟩)
  | int j tj=>exact wpAny_getItem_str_slice (l := some (i,ti)) (u := some (j,tj)) (st := none) hs rfl (post_val_or_str ⟨Nat.le_trans (Txt.slice_le z _ _) hz,fun t' k=>fin t' k⟩)
theorem strOk_slice {z : Str} {lo hi : Option Int} (h : PyData.strOk z = true) : PyData.strOk (Txt.slice z lo hi) = true := by
 unfold Txt.slice;split
 . exact h
 . unfold PyData.strOk at *;rw [Array.all_eq_true_iff_forall_mem] at h ⊢;intro c hc;rw [<- Array.mem_toList_iff,List.toList_toArray,List.mem_filterMap] at hc;obtain ⟨j,_,hj⟩ := hc;exact h c (Array.mem_of_getElem? hj)
def POv (C : Cw) (X : Cx) : Option Expr -> Option (Rho -> Res) -> Prop
 | none,none=>True
 | some e,some g=>PV C X e g
 | _,_=>False
def partT (C : Cw) : Option (Rho -> Res) -> TO
 | none=>tNoPart
 | some g=>tPart (tG C g)
theorem po_of {e : Option Expr} {g : Option (Rho -> Res)} (h : POv C X e g) : PO X e (partT (C.at X) g) := by
 cases e with
 | none=>cases g with
  | none=>exact po_none
  | some g=>exact h.elim
 | some e=>cases g with
  | none=>exact h.elim
  | some g=>exact po_some h
def partThn (g : Option (Rho -> Res)) (ρ : Rho) (k : Option Int -> Res) : Res := match g with
 | none=>k none
 | some g=>(g ρ).thn fun _ d=>match d with | .int i=>k (some i) | _=>.stuck
theorem want_part {F H : Hp} {σ : L2.St} {g : Option (Rho -> Res)} {ρ : Rho} {k : Option Int -> Res} {Q : VK} {R : Option Int -> Hp -> Prop} (RS : RelSt C.K C.F0 C.H0 F H σ ρ) (w : Want C F H σ (partThn g ρ k) Q) (h : ∀ i F' H',Step F H F' H' -> RelSt C.K C.F0 C.H0 F' H' σ ρ -> Want C F' H' σ (k i) Q -> R i H') : partT C g σ H R := by
 cases g with
 | none=>exact h none F H (.refl RS.sub) RS w
 | some g =>
  show tPart (tG C g) σ H R;unfold tPart;rw [tG_eq];refine ⟨ρ,F,RS,?_⟩;have w : Want C F H σ ((g ρ).thn fun _ d=>match d with | .int i=>k (some i) | _=>.stuck) Q := w
  cases er : g ρ with
  | stuck=>rw [er] at w;exact w
  | exc c=>rw [er] at w;exact w
  | ok m d =>
   rw [er] at w;intro v F' H' st rp _;cases d with
   | int i=>cases rp.int;exact ⟨i,rfl,h (some i) F' H' st (RS.step st) (Want.step st w)⟩
   | _=>exact (show False from w).elim
def mulS : Md -> D -> Md -> D -> Option (Md × D) := fun _ x _ y=>match x,y with
 | .str z,.int n=>if (decide (1 <= n) && decide (n <= 1000000) && decide (z.length * n.toNat <= sizeLine)) = true then some (.fz,.str (Txt.mul z n)) else none
 | _,_=>none
theorem foldl_append_size {α : Type} (xs : Array α) : ∀ (k : Nat) (acc : Array α),((List.replicate k xs).foldl (· ++ ·) acc).size = acc.size + k * xs.size
 | 0,acc=>by simp
 | k + 1,acc=>by rw [List.replicate_succ,List.foldl_cons,foldl_append_size xs k,Array.size_append,Nat.succ_mul];omega
theorem foldl_append_all {α : Type} (p : α -> Bool) (xs : Array α) (h : xs.all p = true) : ∀ (k : Nat) (acc : Array α),acc.all p = true -> ((List.replicate k xs).foldl (· ++ ·) acc).all p = true
 | 0,acc,q=>q
 | k + 1,acc,q=>by rw [List.replicate_succ,List.foldl_cons];exact foldl_append_all p xs h k _ (by rw [Array.all_append,q,h];rfl)
theorem mul_len (z : Str) {n : Int} (h : 1 <= n) : (Txt.mul z n).length = z.length * n.toNat := by
 unfold Txt.mul;rw [if_neg (by omega)]
 split
 . rename_i hc;rcases (Bool.or_eq_true _ _).mp hc with hc | hc
   . have : n = 1 := by simpa using hc
     subst this;simp
   . have : z.length = 0 := by simpa using hc
     rw [this];simp
 . show Array.size (List.foldl (· ++ ·) #[] (List.replicate n.toNat z.cps)) = _;rw [foldl_append_size,Nat.mul_comm];simp [Str.length]
theorem strOk_mul {z : Str} {n : Int} (h : PyData.strOk z = true) : PyData.strOk (Txt.mul z n) = true := by
 unfold Txt.mul;split
 . decide +kernel
 . split
   . exact h
   . unfold PyData.strOk at *;exact foldl_append_all _ _ h _ _ (by simp)
theorem opd_mulS : OpD C X (binaryOp .Mult) mulS := by
 refine ⟨fun x y H Q=>∃ z n,x = .str z /\ y = .int n /\ MulOk z n /\ Q (.str (Txt.mul z n)) H,?_,?_⟩
 . intro pins s σ H x y v u Q I rx ry h;obtain ⟨z,n,rfl,rfl,hm,q⟩ := h;obtain ⟨t,rfl⟩ := rx;obtain ⟨t',rfl⟩ := ry;exact SB.mul hm fun t' k=>⟨.str (Txt.mul z n),H,I.tok _,⟨_,rfl⟩,q⟩
 . intro F H m x n y v u k d Q s rx ry e w;unfold mulS at e;split at e
   . rename_i z i;obtain ⟨rfl,hz,hk⟩ := rx.str;cases ry.int;split at e
     . rename_i hc;simp only [Bool.and_eq_true,decide_eq_true_eq] at hc;obtain ⟨⟨h1,h2⟩,h3⟩ := hc;cases e;refine ⟨z,i,rfl,rfl,⟨?_,fun _ _=>?_,fun _ _=>?_⟩,w _ F H (.refl s) (rp_str ⟨by rw [mul_len z h1];exact h3,strOk_mul hk⟩) (by intro z;cases z)⟩
       . rw [Bool.or_eq_false_iff];exact ⟨decide_eq_false (by omega),decide_eq_false (by omega)⟩
       . have hs : sizeLine = 16777216 := sizeLine_eq;have : (2 ^ 63 - 1 : Int) / i ≥ (2 ^ 63 - 1) / 1000000 := by
           apply Int.le_ediv_of_mul_le (by omega)
           have e1 : (2 ^ 63 - 1 : Int) / 1000000 = 9223372036854 := by decide
           rw [e1];have : (9223372036854 : Int) * i <= 9223372036854 * 1000000 := Int.mul_le_mul_of_nonneg_left h2 (by decide)
           have e2 : (9223372036854 : Int) * 1000000 <= 2 ^ 63 - 1 := by decide
           omega
         have e1 : (2 ^ 63 - 1 : Int) / 1000000 = 9223372036854 := by decide
         omega
       . unfold Builtin.Str.tooLong;exact decide_eq_false (by omega)
     . cases e
   . cases e
end
inductive ResL where
 | ok (xs : List (Md × D)) | exc (c : Str) | stuck
def RpL (K : Fg) (F H : Hp) : List (Md × D) -> List V -> Prop
 | [],vs=>vs = []
 | (m,d) :: r,vs=>∃ v us,vs = v :: us /\ Rp K F H m d v /\ RpL K F H r us
def ResL.thn (r : ResL) (k : List (Md × D) -> Res) : Res := match r with
 | .ok xs=>k xs
 | .exc c=>.exc c
 | .stuck=>.stuck
@[simp] theorem ResL.thn_ok (xs : List (Md × D)) (k : List (Md × D) -> Res) : (ResL.ok xs).thn k = k xs := rfl
@[simp] theorem ResL.thn_exc (c : Str) (k : List (Md × D) -> Res) : (ResL.exc c).thn k = .exc c := rfl
@[simp] theorem ResL.thn_stuck (k : List (Md × D) -> Res) : ResL.stuck.thn k = .stuck := rfl
def WantL (C : Cw) (F H : Hp) (σ : L2.St) (r : ResL) (Q : List V -> Hp -> Prop) : Prop := match r with
 | .ok xs=>∀ vs F' H',Step F H F' H' -> RpL C.K F' H' xs vs -> Q vs H'
 | .exc c=>∀ F' H',Step F H F' H' -> C.EE c σ H'
 | .stuck=>False
theorem WantL.step {C : Cw} {F H F1 H1 : Hp} {σ : L2.St} {r : ResL} {Q : List V -> Hp -> Prop} (st : Step F H F1 H1) (h : WantL C F H σ r Q) : WantL C F1 H1 σ r Q := by
 cases r with
 | ok m=>exact fun v F' H' s2 rp=>h v F' H' (st.trans s2) rp
 | exc c=>exact fun F' H' s2=>h F' H' (st.trans s2)
 | stuck=>exact h
def tAv (C : Cw) (g : Rho -> ResL) : TA := fun σ H Q=>∃ ρ F,RelSt C.K C.F0 C.H0 F H σ ρ /\ WantL C F H σ (g ρ) Q
def PAv (C : Cw) (X : Cx) (es : List Expr) (g : Rho -> ResL) : Prop := PA X es (tAv (C.at X) g)
theorem PA.imp {X : Cx} {e : List Expr} {t t' : TA} (h : PA X e t) (i : ∀ σ H Q,t' σ H Q -> t σ H Q) : PA X e t' := fun p pins s σ H Q I q=>h p pins s σ H Q I (i σ H Q q)
def consL (x : Res) (y : ResL) : ResL := match x with
 | .ok m d=>(match y with | .ok r=>.ok ((m,d) :: r) | .exc c=>.exc c | .stuck=>.stuck)
 | .exc c=>.exc c
 | .stuck=>.stuck
@[simp] theorem consL_ok (m : Md) (d : D) (r : List (Md × D)) : consL (.ok m d) (.ok r) = .ok ((m,d) :: r) := rfl
section
variable {C : Cw} {X : Cx} {a b c e : Expr} {es : List Expr} {ga gb gc g : Rho -> Res} {gs : Rho -> ResL} {pos p : Pos} {x : Str}
theorem pav_nil : PAv C X [] (fun _=>.ok []) := PA.imp pa_nil fun σ H Q q=>by obtain ⟨ρ,F,R,w⟩ := q;exact w [] F H (.refl R.sub) rfl
theorem pav_cons (ha : PV C X e g) (hr : PAv C X es gs) (hs : starEach (e :: es) X.env = (false,eval e X.env) :: starEach es X.env := by rfl) : PAv C X (e :: es) (fun ρ=>consL (g ρ) (gs ρ)) := by
 refine PA.imp (pa_cons ha hr hs) fun σ H Q q=>?_;unfold tCons;obtain ⟨ρ,F,R,w⟩ := q;dsimp only at w;rw [tG_eq];refine ⟨ρ,F,R,?_⟩;cases er : g ρ with
 | stuck=>rw [er] at w;exact w
 | exc c=>rw [er] at w;exact w
 | ok m d =>
  rw [er] at w;intro v F1 H1 s1 r1 _;refine ⟨ρ,F1,R.step s1,?_⟩;have w1 := WantL.step s1 w;cases es' : gs ρ with
  | stuck=>rw [es'] at w1;exact w1
  | exc c=>rw [es'] at w1;exact w1
  | ok r=>rw [es'] at w1;intro vs F2 H2 s2 r2;exact w1 (v :: vs) F2 H2 s2 ⟨v,vs,rfl,r1.step s2,r2⟩
def allFz : List (Md × D) -> Option (List D)
 | []=>some []
 | (.fz,d) :: r=>(allFz r).map (d :: ·)
 | _ :: _=>none
theorem RpL.fz {K : Fg} {F H : Hp} : ∀ {xs : List (Md × D)} {vs : List V} {ds : List D},RpL K F H xs vs -> allFz xs = some ds -> RepL K F ds vs
 | [],_,_,h,e=>by cases e;rw [show _ = [] from h];exact RepL.nil
 | (.fz,d) :: r,_,_,h,e=>by
  obtain ⟨v,us,rfl,r1,r2⟩ := h;unfold allFz at e;cases q : allFz r with
  | none=>rw [q] at e;cases e
  | some ds'=>rw [q] at e;cases e;exact RepL.cons r1 (RpL.fz r2 q)
 | (.fr,d) :: r,_,_,h,e=>by cases e
 | (.bo,d) :: r,_,_,h,e=>by cases e
def tupR (r : ResL) : Res := r.thn fun xs=>match allFz xs with | some ds=>if ds.length <= sizeLine then .ok .fz (.tup ds) else .stuck | none=>.stuck
def lstR (r : ResL) : Res := r.thn fun xs=>match allFz xs with | some ds=>if ds.length <= sizeLine then .ok .fr (.lst ds) else .stuck | none=>.stuck
theorem RepV.tup_of {K : Fg} {F : Hp} {p : Addr} {ds : List D} {xs : List V} (hp : F p = none) (r : RepL K F ds xs) : RepV K (upd F p (.tup xs)) (.tup ds) (.ref p) := by simp only [RepV];exact ⟨p,xs,rfl,SqT.of upd_same,r.mono (fun b u q=>by rw [upd_ne (ne_of_none q hp)];exact q) _ _⟩
theorem pv_tup {x1} (h : PAv C X es gs) : PV C X (.Tuple es x1 pos) (fun ρ=>tupR (gs ρ)) := by
 refine PE.imp (pe_tup h) fun σ H Q q=>?_;unfold tTup;rw [tG_eq] at q;obtain ⟨ρ,F,R,w⟩ := q;refine ⟨ρ,F,R,?_⟩;cases er : gs ρ with
 | stuck=>rw [er] at w;exact w
 | exc c=>rw [er] at w;exact w
 | ok xs =>
  rw [er] at w;intro vs F1 H1 s1 r1;have w1 : Want (C.at X) F1 H1 σ (match allFz xs with | some ds=>if ds.length <= sizeLine then .ok .fz (.tup ds) else .stuck | none=>.stuck) Q := Want.step s1 w
  cases ef : allFz xs with
  | none=>rw [ef] at w1;exact w1.elim
  | some ds =>
   rw [ef] at w1;dsimp only at w1;split at w1
   . rename_i hl;have r2 := r1.fz ef;refine ⟨by rw [r2.length];exact hl,fun p hp=>?_⟩
     exact w1 (.ref p) _ _ (Step.laid (.tup vs) s1.sub hp) (RepV.tup_of (s1.sub.free hp) r2) (by intro z;cases z)
   . exact w1.elim
theorem pv_lst (h : PAv C X es gs) : PV C X (.List es pos) (fun ρ=>lstR (gs ρ)) := by
 refine PE.imp (pe_lst h) fun σ H Q q=>?_;unfold tLst;rw [tG_eq] at q;obtain ⟨ρ,F,R,w⟩ := q;refine ⟨ρ,F,R,?_⟩;cases er : gs ρ with
 | stuck=>rw [er] at w;exact w
 | exc c=>rw [er] at w;exact w
 | ok xs =>
  rw [er] at w;intro vs F1 H1 s1 r1;have w1 : Want (C.at X) F1 H1 σ (match allFz xs with | some ds=>if ds.length <= sizeLine then .ok .fr (.lst ds) else .stuck | none=>.stuck) Q := Want.step s1 w
  cases ef : allFz xs with
  | none=>rw [ef] at w1;exact w1.elim
  | some ds =>
   rw [ef] at w1;dsimp only at w1;split at w1
   . rename_i hl;have r2 := r1.fz ef;refine ⟨by rw [r2.length];exact hl,fun p hp=>?_⟩
     refine w1 (.ref p) F1 _ (Step.fresh (.lst vs) s1.sub hp) ⟨p,rfl,s1.sub.free hp,vs,upd_same,r2⟩ fun _ a ea=>by cases ea;exact hp
   . exact w1.elim
def keyD : D -> Option Key
 | .int i=>some (.inl i)
 | .str x=>some (.inr x)
 | _=>none
theorem keyD_rep {K : Fg} {F H : Hp} {m : Md} {d : D} {k : Key} {v : V} (e : keyD d = some k) (r : Rp K F H m d v) : v = kV k := by
 cases d with
 | int i=>cases e;exact r.int
 | str x=>cases e;exact r.str.1
 | _=>cases e
def CallD (X : Cx) (f : Value) (φ : List (Md × D) -> Option (Md × D)) : Prop :=
 ∃ r : List V -> Hp -> VK -> Prop,CallR X f r /\ ∀ F H xs vs k d Q,Same F H -> RpL X.K F H xs vs -> φ xs = some (k,d) ->
  (∀ v' F' H',Step F H F' H' -> Rp X.K F' H' k d v' -> (k = .fr -> ∀ a,v' = .ref a -> H a = none) -> Q v' H') -> r vs H Q
def callR (φ : List (Md × D) -> Option (Md × D)) (r : ResL) : Res := r.thn fun xs=>Res.of (φ xs)
theorem tG_call {φ : List (Md × D) -> Option (Md × D)} {r : List V -> Hp -> VK -> Prop} (h : ∀ F H xs vs k d Q,Same F H -> RpL C.K F H xs vs -> φ xs = some (k,d) -> (∀ v' F' H',Step F H F' H' -> Rp C.K F' H' k d v' -> (k = .fr -> ∀ a,v' = .ref a -> H a = none) -> Q v' H') -> r vs H Q) {σ : L2.St} {H : Hp} {Q : VK} (q : tG C (fun ρ=>callR φ (gs ρ)) σ H Q) : tCB r (tAv C gs) σ H Q := by
 unfold tCB;rw [tG_eq] at q;obtain ⟨ρ,F,R,w⟩ := q;refine ⟨ρ,F,R,?_⟩;cases er : gs ρ with
 | stuck=>rw [er] at w;exact w
 | exc c=>rw [er] at w;exact w
 | ok xs =>
  rw [er] at w;intro vs F1 H1 s1 r1;have w1 : Want C F1 H1 σ (Res.of (φ xs)) Q := Want.step s1 w;cases ef : φ xs with
  | none=>rw [ef] at w1;exact w1.elim
  | some kd=>obtain ⟨k,d⟩ := kd;rw [ef] at w1;exact h F1 H1 xs vs k d Q s1.sub r1 ef w1
theorem pv_callB {id : String} {φ} (o : CallD X (.builtin id) φ) (hg : Gl X x) (hm : X.mg x = none) (hv : bootBuiltins x = some (.builtin id)) (ha : PAv C X (e :: es) gs) (hn : x ≠ "__name__" := by decide) (hdb : (x == ("__debug__" : Str)) = false := by decide) (he : starEach (e :: es) X.env = (false,eval e X.env) :: starEach es X.env := by rfl) (hpl : (backTo pos (starEach es X.env)).any (·.1) = false := by rfl) : PV C X (.Call (.Name x p) (e :: es) [] pos) (fun ρ=>callR φ (gs ρ)) := by obtain ⟨r,h1,h2⟩ := o;exact PE.imp (pe_callB h1 hg hm hv ha hn hdb he hpl) fun σ H Q q=>tG_call h2 q
def CallD.or' (φ ψ : List (Md × D) -> Option (Md × D)) : List (Md × D) -> Option (Md × D) := fun xs=>(φ xs).orElse fun _=>ψ xs
theorem CallD.or {f : Value} {φ ψ} (h : CallD X f φ) (h' : CallD X f ψ) : CallD X f (CallD.or' φ ψ) := by
 obtain ⟨r,h1,h2⟩ := h;obtain ⟨r',h1',h2'⟩ := h';refine ⟨_,CallR.or h1 h1',fun F H xs vs k d Q s rx e w=>?_⟩;unfold CallD.or' at e;cases e1 : φ xs with
 | none=>rw [e1] at e;exact .inr (h2' F H xs vs k d Q s rx e w)
 | some p=>rw [e1] at e;cases e;exact .inl (h2 F H xs vs k d Q s rx e1 w)
def lenD : List (Md × D) -> Option (Md × D)
 | [(_,.str z)]=>some (.fz,.int z.length)
 | [(_,.lst ds)]=>some (.fz,.int ds.length)
 | [(_,.tup ds)]=>some (.fz,.int ds.length)
 | _=>none
theorem RpL.one {K : Fg} {F H : Hp} {m : Md} {d : D} {vs : List V} (h : RpL K F H [(m,d)] vs) : ∃ v,vs = [v] /\ Rp K F H m d v := by obtain ⟨v,us,rfl,r,e⟩ := h;exact ⟨v,by rw [show us = [] from e],r⟩
theorem RpL.two {K : Fg} {F H : Hp} {m n : Md} {d e : D} {vs : List V} (h : RpL K F H [(m,d),(n,e)] vs) : ∃ v u,vs = [v,u] /\ Rp K F H m d v /\ Rp K F H n e u := by obtain ⟨v,us,rfl,r,v',us',rfl,r',e⟩ := h;exact ⟨v,v',by rw [show us' = [] from e],r,r'⟩
theorem calld_len : CallD X (.builtin "len") lenD := by
 refine ⟨_,call_len,fun F H xs vs k d Q s rx e w=>?_⟩;unfold lenD at e;split at e
 . rename_i m z;cases e;obtain ⟨v,rfl,r⟩ := rx.one;obtain ⟨rfl,hz,_⟩ := r.str;exact ⟨_,z.length,rfl,⟨hz,rfl⟩,w _ F H (.refl s) (rp_int _) (by intro z;cases z)⟩
 . rename_i m ds;cases e;obtain ⟨v,rfl,r⟩ := rx.one;obtain ⟨a,xs,rfl,q,rl⟩ := r.seqL s;exact ⟨_,xs.length,rfl,.inl ⟨xs,q,rfl⟩,by rw [rl.length];exact w _ F H (.refl s) (rp_int _) (by intro z;cases z)⟩
 . rename_i m ds;cases e;obtain ⟨v,rfl,r⟩ := rx.one;obtain ⟨a,xs,rfl,q,rl⟩ := r.seqT s;exact ⟨_,xs.length,rfl,.inr ⟨xs,q,rfl⟩,by rw [rl.length];exact w _ F H (.refl s) (rp_int _) (by intro z;cases z)⟩
 . cases e
def tyN : D -> Option String
 | .non=>some "NoneType" | .bl _=>some "bool" | .int _=>some "int" | .str _=>some "str" | .tup _=>some "tuple" | .lst _=>some "list" | .dct _=>some "dict" | _=>none
def isTy (t c : String) : Option Bool := if ["int", "bool", "str", "list", "tuple", "dict"].contains c = true then some (t == c || (t == "bool" && c == "int")) else none
def isiD : List (Md × D) -> Option (Md × D)
 | [(_,d),(_,.ty c)]=>match tyN d with | some t=>(isTy t c).map fun b=>(.fz,.bl b) | none=>none
 | _=>none
theorem kit_of {K : Fg} {d : D} {t c : String} {b : Bool} (ht : tyN d = some t) (e : isTy t c = some b) : PySem.W.kitOne K (.type t) (.type c) = some b := by
 unfold isTy at e;split at e
 . rename_i hc;simp only [List.contains_cons,List.contains_nil,Bool.or_false,Bool.or_eq_true,beq_iff_eq] at hc;cases e;have ht' : t = "NoneType" \/ t = "bool" \/ t = "int" \/ t = "str" \/ t = "tuple" \/ t = "list" \/ t = "dict" := by cases d <;> cases ht <;> simp
   rcases hc with rfl | rfl | rfl | rfl | rfl | rfl <;> rcases ht' with rfl | rfl | rfl | rfl | rfl | rfl | rfl <;> rfl
 . cases e
theorem calld_isi : CallD X (.builtin "isinstance") isiD := by
 refine ⟨fun vs H Q=>∃ (F : Hp) (m : Md) (d : D) (v : V) (t c : String) (b : Bool),Same F H /\ Rp X.K F H m d v /\ vs = [v,.ty c] /\ tyN d = some t /\ isTy t c = some b /\ Q (.bl b) H,?_,?_⟩
 . intro pins s σ H xs us Q I r h;obtain ⟨F,m,d,v,t,c,b,sF,rp,rfl,ht,hb,q⟩ := h;obtain ⟨u,u',rfl,ru,ru'⟩ := vals2 r;cases (show u' = Value.type c from ru')
   have e := kit_of (K := X.K) ht hb;have fin : ∀ tk,EP X pins σ Q (.bool b) { s with toks := tk } := fun tk=>⟨.bl b,H,I.tok _,rfl,q⟩
   cases d with
   | non=>cases rp.non;cases ht;cases (show u = Value.none from ru);exact PySem.W.kia_one PySem.W.kitx_none I.kIn True.intro e (fun z=>nomatch z) fin
   | bl y=>cases rp.bl;cases ht;cases (show u = Value.bool y from ru);exact PySem.W.kia_one PySem.W.kitx_bool I.kIn True.intro e (fun z=>nomatch z) fin
   | int i=>cases rp.int;cases ht;obtain ⟨t,q⟩ := (show ∃ t,u = Value.int i t from ru);cases q;exact PySem.W.kia_one PySem.W.kitx_int I.kIn True.intro e (fun z=>nomatch z) fin
   | str y=>obtain ⟨rfl,_⟩ := rp.str;cases ht;obtain ⟨t,q⟩ := (show ∃ t,u = Value.str y t from ru);cases q;exact PySem.W.kia_one PySem.W.kitx_str I.kIn True.intro e (fun z=>nomatch z) fin
   | tup ds =>
    obtain ⟨a,xs,rfl,hq,_⟩ := rp.seqT sF;cases ht;cases (show u = Value.ref a from ru)
    obtain ⟨its,_,⟨o,h1,h2,_⟩,_⟩ := I.tuple hq;exact PySem.W.kia_one PySem.W.kitx_tuple I.kIn ⟨o,h1,h2⟩ e (fun z=>nomatch z) fin
   | lst ds =>
    obtain ⟨a,xs,rfl,hq,_⟩ := rp.seqL sF;cases ht;cases (show u = Value.ref a from ru)
    obtain ⟨its,_,⟨o,n,h1,h2,_⟩,_⟩ := I.list hq;exact PySem.W.kia_one PySem.W.kitx_list I.kIn ⟨o,h1,h2⟩ e (fun z=>nomatch z) fin
   | dct ds =>
    obtain ⟨a,xs,rfl,hq,_⟩ := rp.dict sF;cases ht;cases (show u = Value.ref a from ru)
    obtain ⟨_,_,vs,_,p⟩ := (show ObjOk X.prog X.w H s.heap a (.dK xs) from I.hok a _ hq)
    obtain ⟨o,es,ep,h1,h2,_⟩ := p;exact PySem.W.kia_one PySem.W.kitx_dict I.kIn ⟨o,h1,h2.1⟩ e (fun z=>nomatch z) fin
   | _=>cases ht
 . intro F H xs vs k d Q s rx e w;unfold isiD at e;split at e
   . rename_i m d' n c;obtain ⟨v,u,rfl,r1,r2⟩ := rx.two;cases r2.ty;cases et : tyN d' with
     | none=>rw [et] at e;cases e
     | some t =>
      rw [et] at e;dsimp only at e;cases eb : isTy t c with
      | none=>rw [eb] at e;cases e
      | some b=>rw [eb] at e;cases e;exact ⟨F,m,d',v,t,c,b,s,r1,rfl,et,eb,w _ F H (.refl s) (rp_bl _) (by intro z;cases z)⟩
   . cases e
theorem pv_ty {T : String} (hg : Gl X x) (hm : X.mg x = none) (hv : bootBuiltins x = some (.type T)) (hn : x ≠ "__name__" := by decide) (hd : (x == ("__debug__" : Str)) = false := by decide) : PV C X (.Name x pos) (fun _=>.ok .fz (.ty T)) :=
 pv_con _ (pe_bltn (v := .ty T) hg hm hv rfl hn hd) fun _ _=>rp_ty T
theorem pv_globS {y : Str} {t : Tok} (hg : Gl X x) (hm : X.mg x = some (.str y t)) (h : (decide (y.length <= sizeLine) && PyData.strOk y) = true := by decide +kernel) (hd : (x == ("__debug__" : Str)) = false := by decide) : PV C X (.Name x pos) (fun _=>.ok .fz (.str y)) :=
 pv_con _ (pe_glob (v := .str y) hg hm ⟨t,rfl⟩ hd) fun _ _=>rp_str (by rw [Bool.and_eq_true,decide_eq_true_eq] at h;exact h)
theorem pv_globI {y : Int} {t : Tok} (hg : Gl X x) (hm : X.mg x = some (.int y t)) (hd : (x == ("__debug__" : Str)) = false := by decide) : PV C X (.Name x pos) (fun _=>.ok .fz (.int y)) :=
 pv_con _ (pe_glob (v := .int y) hg hm ⟨t,rfl⟩ hd) fun _ _=>rp_int _
def blsD : List D -> Option (List Bool)
 | []=>some []
 | .bl b :: r=>(blsD r).map (b :: ·)
 | _=>none
def allD : List (Md × D) -> Option (Md × D)
 | [(_,.lst ds)]=>(blsD ds).map fun bs=>(.fz,.bl (bs.all id))
 | _=>none
def anyD : List (Md × D) -> Option (Md × D)
 | [(_,.lst ds)]=>(blsD ds).map fun bs=>(.fz,.bl (bs.any id))
 | _=>none
theorem blsD_rep {K : Fg} {F : Hp} : ∀ {ds : List D} {xs : List V} {bs : List Bool},RepL K F ds xs -> blsD ds = some bs -> xs = bs.map V.bl
 | [],_,_,h,e=>by cases e;simp only [RepL] at h;exact h
 | d :: ds,_,_,h,e=>by
  simp only [RepL] at h;obtain ⟨y,ys,rfl,r,t⟩ := h;cases d with
  | bl b =>
   unfold blsD at e;cases q : blsD ds with
   | none=>rw [q] at e;cases e
   | some bs=>rw [q] at e;cases e;simp only [RepV] at r;subst r;rw [blsD_rep t q];rfl
  | _=>cases e
theorem range_all_get (bs : List Bool) : (List.range bs.length).all (fun i=>bs.getD i true) = bs.all id := by
 rw [Bool.eq_iff_iff,List.all_eq_true,List.all_eq_true];constructor
 . intro h b hb;obtain ⟨i,hi,e⟩ := List.getElem_of_mem hb;have := h i (List.mem_range.mpr hi);rw [List.getD_eq_getElem?_getD,List.getElem?_eq_getElem hi] at this;rw [<- e];exact this
 . intro h i hi;have hi := List.mem_range.mp hi;rw [List.getD_eq_getElem?_getD,List.getElem?_eq_getElem hi];exact h _ (List.getElem_mem hi)
theorem range_any_get (bs : List Bool) : (List.range bs.length).any (fun i=>bs.getD i true) = bs.any id := by
 rw [Bool.eq_iff_iff,List.any_eq_true,List.any_eq_true];constructor
 . rintro ⟨i,hi,h⟩;have hi := List.mem_range.mp hi;rw [List.getD_eq_getElem?_getD,List.getElem?_eq_getElem hi] at h;exact ⟨_,List.getElem_mem hi,h⟩
 . rintro ⟨b,hb,h⟩;obtain ⟨i,hi,e⟩ := List.getElem_of_mem hb;refine ⟨i,List.mem_range.mpr hi,?_⟩;rw [List.getD_eq_getElem?_getD,List.getElem?_eq_getElem hi];show bs[i] = true;rw [e];exact h
theorem calls_bls {prog : Program} {w : World} {pins : LAO} {σ : L2.St} {H : Hp} {s : Shared} {a : Addr} {bs : List Bool} (hc : X.calm = true) (I : Inv X pins σ H s) (hq : SqL X.K H a (bs.map V.bl)) {E : VSP} {Q : VSP} (h : ∀ (it : Value) (s2 : Shared),(∃ I' fp wr n P St tr,it = .ref I' /\ Walks prog w X.A.in1 I' fp wr n P St /\ St 0 s2.heap /\ TruthOf prog w X.A.in1 P tr /\ n = bs.length /\ (∀ i,tr i = bs.getD i true) /\ ∀ h' tk,(∀ b o,b ∉ wr -> s2.heap.get? b = some o -> h'.get? b = some o) -> ∃ s3 : Shared,s3 = { s2 with heap := h',toks := tk } /\ Inv X pins σ H s3) -> Q it s2) : wpAny (model prog w) X.A.in1 (pyIter (.ref a)) Q E s := by
 obtain ⟨its,rv,p,hz⟩ := I.list hq;have hlen := rv.length;rw [List.length_map] at hlen;refine wpAny_pyIter_list p.isList (h _ _ ⟨s.heap.objs.size,_,_,_,_,_,fun i=>bs.getD i true,rfl,Walks.list (by show X.A.handled = none;exact I.ok.hd hc) s.heap.objs.size a ?_ its.toArray,⟨⟨_,Heap.get?_push_size _ rfl,rfl,rfl⟩,?_⟩,?_,?_,fun _=>rfl,?_⟩)
 . obtain ⟨o,n,e,_⟩ := p;exact Nat.ne_of_lt (Heap.lt_size e)
 . obtain ⟨o,n,e,c,d,dd⟩ := p;exact ⟨o,hps e,c,n,dd⟩
 . intro i v s' Q' E' hP hQ;have hv : its[i]? = some v := by simpa using hP
   have hi : i < bs.length := by rw [hlen];exact (List.getElem?_eq_some_iff.mp hv).1
   have hx : (bs.map V.bl)[i]? = some (V.bl bs[i]) := by rw [List.getElem?_map,List.getElem?_eq_getElem hi];rfl
   obtain ⟨u,hu,ru⟩ := rv.get hx;rw [hv] at hu;cases hu;cases (show v = Value.bool _ from ru)
   have hQ : Q' (bs.getD i true) s' := hQ;rw [List.getD_eq_getElem?_getD,List.getElem?_eq_getElem hi] at hQ;exact wpAny_truthy_bool hQ
 . rw [List.size_toArray,hlen]
 . intro h' tk hk;refine ⟨_,rfl,?_⟩;refine (I.kept (t' := tk) (h' := h') fun b o e=>?_)
   refine hk b o (by intro hb; have : b = s.heap.objs.size := by simpa using hb
                     subst this;exact absurd (Heap.lt_size e) (Nat.lt_irrefl _)) (hps e)
theorem calld_all (hc : X.calm = true) : CallD X (.builtin "all") allD := by
 refine ⟨fun vs H Q=>∃ (a : Addr) (bs : List Bool),vs = [.ref a] /\ SqL X.K H a (bs.map V.bl) /\ Q (.bl (bs.all id)) H,?_,?_⟩
 . intro pins s σ H xs us Q I r h;obtain ⟨a,bs,rfl,hq,q⟩ := h;obtain ⟨u,rfl,ru⟩ := vals1 r;cases (show u = Value.ref a from ru)
   refine call_all_walk (calls_bls hc I hq fun it s2 hh=>?_);obtain ⟨I',fp,wr,n,P,St,tr,rfl,W,st,T,rfl,htr,fin⟩ := hh;refine ⟨I',fp,wr,_,P,St,tr,rfl,W,st,T,fun h' tk hk=>?_⟩;obtain ⟨s3,rfl,I3⟩ := fin h' tk hk;have e : (List.range bs.length).all tr = bs.all id := by rw [<- range_all_get];congr 1;funext i;exact htr i
   rw [e];exact ⟨.bl (bs.all id),H,I3,rfl,q⟩
 . intro F H xs vs k d Q s rx e w;unfold allD at e;split at e
   . rename_i m ds;obtain ⟨v,rfl,r⟩ := rx.one;obtain ⟨a,xs,rfl,hq,rl⟩ := r.seqL s;cases eb : blsD ds with
     | none=>rw [eb] at e;cases e
     | some bs=>rw [eb] at e;cases e;have := blsD_rep rl eb;subst this;exact ⟨a,bs,rfl,hq,w _ F H (.refl s) (rp_bl _) (by intro z;cases z)⟩
   . cases e
theorem calld_any (hc : X.calm = true) : CallD X (.builtin "any") anyD := by
 refine ⟨fun vs H Q=>∃ (a : Addr) (bs : List Bool),vs = [.ref a] /\ SqL X.K H a (bs.map V.bl) /\ Q (.bl (bs.any id)) H,?_,?_⟩
 . intro pins s σ H xs us Q I r h;obtain ⟨a,bs,rfl,hq,q⟩ := h;obtain ⟨u,rfl,ru⟩ := vals1 r;cases (show u = Value.ref a from ru)
   refine call_any_walk (calls_bls hc I hq fun it s2 hh=>?_);obtain ⟨I',fp,wr,n,P,St,tr,rfl,W,st,T,rfl,htr,fin⟩ := hh;refine ⟨I',fp,wr,_,P,St,tr,rfl,W,st,T,fun h' tk hk=>?_⟩;obtain ⟨s3,rfl,I3⟩ := fin h' tk hk;have e : (List.range bs.length).any tr = bs.any id := by rw [<- range_any_get];congr 1;funext i;exact htr i
   rw [e];exact ⟨.bl (bs.any id),H,I3,rfl,q⟩
 . intro F H xs vs k d Q s rx e w;unfold anyD at e;split at e
   . rename_i m ds;obtain ⟨v,rfl,r⟩ := rx.one;obtain ⟨a,xs,rfl,hq,rl⟩ := r.seqL s;cases eb : blsD ds with
     | none=>rw [eb] at e;cases e
     | some bs=>rw [eb] at e;cases e;have := blsD_rep rl eb;subst this;exact ⟨a,bs,rfl,hq,w _ F H (.refl s) (rp_bl _) (by intro z;cases z)⟩
   . cases e
end
inductive SRes where
 | nx (ρ : Rho) | rt (m : Md) (d : D) | bk (ρ : Rho) | ct (ρ : Rho) | exc (c : Str) (ρ : Rho) | stuck
def WantS (C : Cw) (Fa : Hp) (r : SRes) (E : Ends) : Prop := match r with
 | .nx ρ=>∀ σ F H,Same Fa F -> RelSt C.K C.F0 C.H0 F H σ ρ -> E.nx σ H
 | .bk ρ=>∀ σ F H,Same Fa F -> RelSt C.K C.F0 C.H0 F H σ ρ -> E.bk σ H
 | .ct ρ=>∀ σ F H,Same Fa F -> RelSt C.K C.F0 C.H0 F H σ ρ -> E.ct σ H
 | .exc c ρ=>∀ σ F H,Same Fa F -> RelSt C.K C.F0 C.H0 F H σ ρ -> C.EE c σ H
 | .rt m d=>∀ v F H,Step C.F0 C.H0 F H -> Rp C.K F H m d v -> (m = .fr -> ∀ a,v = .ref a -> C.H0 a = none) -> E.rt v H
 | .stuck=>False
theorem WantS.mono {C : Cw} {F F1 : Hp} {r : SRes} {E : Ends} (s : Same F F1) (w : WantS C F r E) : WantS C F1 r E := by
 cases r with
 | nx ρ=>exact fun σ F' H' z R=>w σ F' H' (s.trans z) R
 | bk ρ=>exact fun σ F' H' z R=>w σ F' H' (s.trans z) R
 | ct ρ=>exact fun σ F' H' z R=>w σ F' H' (s.trans z) R
 | exc c ρ=>exact fun σ F' H' z R=>w σ F' H' (s.trans z) R
 | rt m d=>exact w
 | stuck=>exact w
def tH (C : Cw) (g : Rho -> SRes) : TS := fun E σ H=>∃ ρ F,RelSt C.K C.F0 C.H0 F H σ ρ /\ WantS C F (g ρ) E
def PSv (C : Cw) (X : Cx) (st : Stmt) (g : Rho -> SRes) : Prop := PS X st (tH (C.at X) g)
def PBv (C : Cw) (X : Cx) (st : List Stmt) (g : Rho -> SRes) : Prop := PSs X st (tH (C.at X) g)
theorem PS.imp {X : Cx} {e : Stmt} {t t' : TS} (h : PS X e t) (i : ∀ E σ H,t' E σ H -> t E σ H) : PS X e t' := fun pins s σ H E I q=>h pins s σ H E I (i E σ H q)
theorem PSs.imp {X : Cx} {e : List Stmt} {t t' : TS} (h : PSs X e t) (i : ∀ E σ H,t' E σ H -> t E σ H) : PSs X e t' := fun pins s σ H E I q=>h pins s σ H E I (i E σ H q)
def SRes.thn (r : SRes) (k : Rho -> SRes) : SRes := match r with
 | .nx ρ=>k ρ
 | r=>r
@[simp] theorem SRes.thn_nx (ρ : Rho) (k : Rho -> SRes) : (SRes.nx ρ).thn k = k ρ := rfl
@[simp] theorem SRes.thn_rt (m : Md) (d : D) (k : Rho -> SRes) : (SRes.rt m d).thn k = .rt m d := rfl
@[simp] theorem SRes.thn_bk (ρ : Rho) (k : Rho -> SRes) : (SRes.bk ρ).thn k = .bk ρ := rfl
@[simp] theorem SRes.thn_ct (ρ : Rho) (k : Rho -> SRes) : (SRes.ct ρ).thn k = .ct ρ := rfl
@[simp] theorem SRes.thn_exc (c : Str) (ρ : Rho) (k : Rho -> SRes) : (SRes.exc c ρ).thn k = .exc c ρ := rfl
@[simp] theorem SRes.thn_stuck (k : Rho -> SRes) : SRes.stuck.thn k = .stuck := rfl
section
variable {C : Cw} {X : Cx} {a b c e : Expr} {es : List Expr} {ga gb gc g : Rho -> Res} {gs : Rho -> ResL} {pos p : Pos} {x : Str} {st : Stmt} {sts : List Stmt} {h1 h2 : Rho -> SRes}
theorem pbv_nil : PBv C X [] (fun ρ=>.nx ρ) := PSs.imp pss_nil fun E σ H q=>by obtain ⟨ρ,F,R,w⟩ := q;exact w σ F H (Same.refl _) R
theorem tH_seq {E : Ends} {σ : L2.St} {H : Hp} (q : tH C (fun ρ=>(h1 ρ).thn h2) E σ H) : tSeq (tH C h1) (tH C h2) E σ H := by
 obtain ⟨ρ,F,R,w⟩ := q;refine ⟨ρ,F,R,?_⟩;dsimp only at w;cases er : h1 ρ with
 | nx ρ'=>rw [er] at w;exact fun σ' F' H' z R'=>⟨ρ',F',R',WantS.mono z w⟩
 | rt m d=>rw [er] at w;exact w
 | bk ρ'=>rw [er] at w;exact w
 | ct ρ'=>rw [er] at w;exact w
 | exc c ρ'=>rw [er] at w;exact w
 | stuck=>rw [er] at w;exact w
theorem pbv_cons (ha : PSv C X st h1) (hb : PBv C X sts h2) : PBv C X (st :: sts) (fun ρ=>(h1 ρ).thn h2) := PSs.imp (pss_cons ha hb) fun E σ H q=>tH_seq q
def Res.thS (r : Res) (ρ : Rho) (k : Md -> D -> SRes) : SRes := match r with
 | .ok m d=>k m d
 | .exc c=>.exc c ρ
 | .stuck=>.stuck
@[simp] theorem Res.thS_ok (m : Md) (d : D) (ρ : Rho) (k : Md -> D -> SRes) : (Res.ok m d).thS ρ k = k m d := rfl
@[simp] theorem Res.thS_exc (c : Str) (ρ : Rho) (k : Md -> D -> SRes) : (Res.exc c).thS ρ k = .exc c ρ := rfl
@[simp] theorem Res.thS_stuck (ρ : Rho) (k : Md -> D -> SRes) : Res.stuck.thS ρ k = .stuck := rfl
theorem tG_thS {F : Hp} {σ : L2.St} {H : Hp} {ρ : Rho} {k : Md -> D -> SRes} {E : Ends} {Q : VK} (R : RelSt C.K C.F0 C.H0 F H σ ρ) (w : WantS C F ((g ρ).thS ρ k) E) (h : ∀ m d v F' H',WantS C F' (k m d) E -> Step F H F' H' -> RelSt C.K C.F0 C.H0 F' H' σ ρ -> Rp C.K F' H' m d v -> (m = .fr -> ∀ a,v = .ref a -> H a = none) -> Q v H') : tG C g σ H Q := by
 rw [tG_eq];refine ⟨ρ,F,R,?_⟩;cases er : g ρ with
 | stuck=>rw [er] at w;exact w
 | exc c=>rw [er] at w;exact fun F' H' s=>w σ F' H' s.fsame (R.step s)
 | ok m d=>rw [er] at w;exact fun v F' H' s rp fr=>h m d v F' H' (WantS.mono s.fsame w) s (R.step s) rp fr
def retR (r : Res) (ρ : Rho) : SRes := r.thS ρ fun m d=>match m with | .bo=>.stuck | m=>.rt m d
theorem psv_ret (he : PV C X e g) : PSv C X (.Return (some e) pos) (fun ρ=>retR (g ρ) ρ) := PS.imp (ps_ret he) fun E σ H q=>by
 obtain ⟨ρ,F,R,w⟩ := q;refine tG_thS R w fun m d v F' H' w' s R' rp fr=>?_;cases m with
 | bo=>exact (show False from w').elim
 | fz=>exact w' v F' H' R'.st rp (by intro z;cases z)
 | fr=>exact w' v F' H' R'.st rp fun _ a ea=>R.st.same.free (fr rfl a ea)
def retS (ρ : Rho) (i : Nat) : SRes := match ρ[i]? with
 | some (some (false,d))=>.rt .fz d
 | some (some (true,d))=>.rt .fr d
 | _=>.stuck
theorem psv_retV (i : Nat) (h : PE X (.Name x p) (tVar i)) : PSv C X (.Return (some (.Name x p)) pos) (fun ρ=>retS ρ i) := PS.imp (ps_ret h) fun E σ H q=>by
 obtain ⟨ρ,F,R,w⟩ := q;dsimp only at w;unfold retS at w;cases e : ρ[i]? with
 | none=>rw [e] at w;exact w.elim
 | some o =>
  cases o with
  | none=>rw [e] at w;exact w.elim
  | some q =>
   obtain ⟨m,d⟩ := q;obtain ⟨v,e1,r,hh⟩ := R.slot i m d e;rw [e] at w;cases m with
   | false=>exact ⟨v,e1,w v F H R.st r (by intro z;cases z)⟩
   | true=>exact ⟨v,e1,w v F H R.st r fun _=>hh rfl⟩
def ifS (t : Res) (ρ : Rho) (x y : SRes) : SRes := t.thS ρ fun _ d=>match d with | .bl true=>x | .bl false=>y | _=>.stuck
theorem psv_if {s1 s2 : List Stmt} (hc : PTv C X c gc) (ha : PBv C X s1 h1) (hb : PBv C X s2 h2) : PSv C X (.If c s1 s2 pos) (fun ρ=>ifS (gc ρ) ρ (h1 ρ) (h2 ρ)) := by
 refine PS.imp (ps_if hc ha hb) fun E σ H q=>?_;obtain ⟨ρ,F,R,w⟩ := q;dsimp only at w;refine ⟨ρ,F,R,?_⟩;cases er : gc ρ with
 | stuck=>rw [er] at w;exact w
 | exc c=>rw [er] at w;exact fun F' H' s=>w σ F' H' s.fsame (R.step s)
 | ok m d =>
  rw [er] at w;cases d with
  | bl k =>
   intro F' H' s;cases k with
   | true=>rw [if_pos rfl];exact ⟨ρ,F',R.step s,WantS.mono s.fsame w⟩
   | false=>rw [if_neg Bool.false_ne_true];exact ⟨ρ,F',R.step s,WantS.mono s.fsame w⟩
  | _=>exact w.elim
def setS (ρ : Rho) (i : Nat) (r : Res) : SRes := r.thS ρ fun m d=>match m with
 | .fz=>.nx (ρ.set i (some (false,d)))
 | .fr=>.nx (ρ.set i (some (true,d)))
 | .bo=>.stuck
theorem RelSt.set {K : Fg} {F0 H0 F H F' H' : Hp} {σ : L2.St} {ρ : Rho} {i : Nat} {m : Bool} {d : D} {v : V} (R0 : RelSt K F0 H0 F H σ ρ) (s : Step F H F' H') (rp : Rp K F' H' (if m then .bo else .fz) d v) (fr : m = true -> ∀ a,v = .ref a -> H a = none) : RelSt K F0 H0 F' H' (σ.set i (some v)) (ρ.set i (some (m,d))) := by
 have R := R0.step s;refine ⟨R.st,fun j m' d' e=>?_,fun j k d1 d2 a hjk e1 e2 q1 q2=>?_,by rw [List.length_set,List.length_set];exact R.len⟩
 . by_cases hj : j = i
   . subst hj;rw [List.getElem?_set] at e;by_cases hl : j < ρ.length
     . rw [if_pos rfl,if_pos hl] at e;cases e;refine ⟨v,by rw [List.getElem?_set,if_pos rfl,if_pos (by rw [R.len];exact hl)],rp,fun z a ea=>R0.st.same.free (fr z a ea)⟩
     . rw [if_pos rfl,if_neg hl] at e;cases e
   . rw [List.getElem?_set_ne (fun z=>hj z.symm)] at e ⊢;exact R.slot j m' d' e
 . have old : ∀ (l : Nat) (d : D) (b : Addr),l ≠ i -> ρ[l]? = some (some (true,d)) -> σ[l]? = some (some (.ref b)) -> H b ≠ none := fun l d b hl e q=>by obtain ⟨u,q',r,_⟩ := R0.slot l true d e;rw [q] at q';cases q';obtain ⟨b',eb,_,t⟩ := r;cases eb;exact t.there
   by_cases hj : j = i
   . subst hj;rw [List.getElem?_set_ne hjk] at e2 q2;rw [List.getElem?_set] at e1 q1;by_cases hl : j < ρ.length
     . rw [if_pos rfl,if_pos hl] at e1;rw [if_pos rfl,if_pos (by rw [R.len];exact hl)] at q1
       cases e1;cases q1;exact old k d2 a (fun z=>hjk z.symm) e2 q2 (fr rfl a rfl)
     . rw [if_pos rfl,if_neg hl] at e1;cases e1
   . by_cases hk : k = i
     . subst hk;rw [List.getElem?_set_ne (fun z=>hjk z.symm)] at e1 q1;rw [List.getElem?_set] at e2 q2;by_cases hl : k < ρ.length
       . rw [if_pos rfl,if_pos hl] at e2;rw [if_pos rfl,if_pos (by rw [R.len];exact hl)] at q2
         cases e2;cases q2;exact old j d1 a hjk e1 q1 (fr rfl a rfl)
       . rw [if_pos rfl,if_neg hl] at e2;cases e2
     . rw [List.getElem?_set_ne (fun z=>hj z.symm)] at e1 q1;rw [List.getElem?_set_ne (fun z=>hk z.symm)] at e2 q2;exact R.apart j k d1 d2 a hjk e1 e2 q1 q2
theorem set_tG {g : Rho -> Res} {i : Nat} {E : Ends} {σ : L2.St} {H : Hp} (q : tH (C.at X) (fun ρ=>setS ρ i (g ρ)) E σ H) : tAsg (tG (C.at X) g) (gName i) E σ H := by
 obtain ⟨ρ,F,R,w⟩ := q;dsimp only at w;refine tG_thS R w fun m d v F' H' w' s R' rp fr=>?_;cases m with
 | bo=>exact (show False from w').elim
 | fz=>exact w' _ F' H' (Same.refl _) (R.set (m := false) s rp (by intro z;cases z))
 | fr=>exact w' _ F' H' (Same.refl _) (R.set (m := true) s rp fun _ a ea=>fr rfl a ea)
theorem psv_set {i : Nat} {pos' : Pos} (hN : X.N.Nodup) (hi : X.N[i]? = some x) (hx : Loc X.env.scope x) (he : PV C X e g) (hs : swapsWith e (some (.Name x pos')) pos.line X.env = pure false := by rfl) (hf : X.fn x = true \/ X.env.scope.names.lookup x = some .local := by first | exact .inl rfl | exact .inr rfl | assumption) : PSv C X (.Assign [.Name x pos'] e pos) (fun ρ=>setS ρ i (g ρ)) := PS.imp (ps_set hN hi hx he hs hf) fun E σ H q=>set_tG q
end
def Its (x : Str) : It := ⟨fun i _=>i < x.cps.size,fun i H v H'=>H' = H /\ ∃ c,x.cps[i]? = some c /\ v = .str ⟨#[c]⟩,fun i _=>x.cps.size <= i⟩
theorem turn_strT {P : Program} {w : World} {K : Fg} {tg : Expr} (it : Addr) (x : Str) (t : Tok) (ty : String) (hty : ["enumerate", "zip", "dict_itemiterator", "dict_reverseitemiterator", "odict_iterator", "itertools.zip_longest", "itertools.pairwise"].contains ty = false) (W : ∀ A' : Around,A'.handled = none -> Walks P w A' it [it] [it] x.cps.size (SignAt x) (fun i h=>h.IsStrIter it ty x t i)) (Sf : ∀ (A : Around) (i : Nat) (s : Shared) (Q : VSP) (E : VSP),s.heap.IsStrIter it ty x t i -> Q (.ref it) s -> wpAny (model P w) A (pyIter (.ref it)) Q E s) : Turn P w K tg (Its x) [it] it (fun i h=>i <= x.cps.size /\ h.IsStrIter it ty x t i) where
 mem := by simp
 obj := fun i h st b hb=>by
  have e : b = it := by simpa using hb
  subst e;obtain ⟨_,o,e,c,d⟩ := st;exact ⟨o,e,fun v z=>by rw [d] at z;cases z⟩
 keep := fun i h h' st k=>⟨st.1,let ⟨o,e,r⟩ := st.2;⟨o,k it (by simp) o e,r⟩⟩
 item := by
  intro X hP hw hK hc i pins s σ H E I hf st hg;subst hP hw hK;obtain ⟨f0,f1,f2,f3,f4,f5⟩ := hf it (by simp)
  refine (W X.A (I.ok.hd hc)).item i s _ _ hg st.2 fun v h' tk hv st' kk=>?_;obtain ⟨c,u,hc',rfl⟩ := hv;have I1 : Inv X pins σ H { s with heap := h',toks := tk } := I.turned (fun b o hb e=>kk b o (by simpa using hb) e) f0 f1 f3 f4 f5
  obtain ⟨o,e,oc,d⟩ := id st';exact ⟨_,rfl,go_of (s := { s with heap := h',toks := tk }) e oc d hty ⟨.str ⟨#[c]⟩,H,I1,⟨u,rfl⟩,⟨rfl,c,hc',rfl⟩,⟨hg,st'⟩,fun b hb=>(hf b hb).1⟩⟩
 done := by
  intro X hP hw hK hc i pins s σ H E I hf st hg;subst hP hw hK;obtain ⟨f0,f1,f2,f3,f4,f5⟩ := hf it (by simp)
  have e : i = x.cps.size := Nat.le_antisymm st.1 hg;subst e;exact (W X.A (I.ok.hd hc)).done s _ _ st.2 fun h' tk kk=>⟨rfl,I.turned (fun b o hb e=>kk b o (by simpa using hb) e) f0 f1 f3 f4 f5⟩
 self := fun A i s Q E st h=>Sf A i s Q E st.2 h
def iStr (te : TE) : TI := fun σ H R=>te σ H fun x H1=>∃ z,x = .str z /\ R (Its z) H1
theorem pi_str {X : Cx} {tg l : Expr} {tl : TE} (hl : PE X l tl) : PI X tg l (iStr tl) := by
 intro pins s σ H R I h;refine thn (hl pins s σ H _ I h) fun v s1 ⟨x,H1,I1,r1,q1⟩=>?_;obtain ⟨z,e,q⟩ := q1;subst e;obtain ⟨t,rfl⟩ := r1;have fin : ∀ (ty : String) (o : Obj),o = { cls := .type ty,data := .fields #[.str z t,.int ((0 : Nat) : Int) 0] } -> (∀ b : Addr,b ∈ [s1.heap.objs.size] -> FpOk X pins H1 b) /\ Inv X pins σ H1 { s1 with heap := s1.heap.push o } /\ (s1.heap.push o).IsStrIter s1.heap.objs.size ty z t 0 := fun ty o eo=>by
  refine ⟨fun b hb=>?_,I1.kept (t' := s1.toks) fun b o e=>hps e,⟨o,Heap.get?_push_size _ (by rw [eo];rfl),by rw [eo],by rw [eo]⟩⟩
  have e : b = s1.heap.objs.size := by simpa using hb
  subst e;exact I1.fpOk (Nat.le_refl _) (I1.hok.fresh (Nat.le_refl _))
 cases ha : z.cps.all (· < 128)
 . refine wpAny_pyIter_wide ha ?_;obtain ⟨f1,f2,f3⟩ := fin "str_iterator" _ rfl;exact ⟨s1.heap.objs.size,[s1.heap.objs.size],_,Its z,H1,rfl,f2,turn_strT _ z t "str_iterator" (by decide) (fun A' hA=>Walks.strWide hA _ z t) (fun A i s Q E st h=>wpAny_pyIter_striter_wide st h),⟨Nat.zero_le _,f3⟩,f1,q⟩
 . refine wpAny_pyIter_ascii ha ?_;obtain ⟨f1,f2,f3⟩ := fin "str_ascii_iterator" _ rfl;exact ⟨s1.heap.objs.size,[s1.heap.objs.size],_,Its z,H1,rfl,f2,turn_strT _ z t "str_ascii_iterator" (by decide) (fun A' hA=>Walks.strAscii hA _ z t) (fun A i s Q E st h=>wpAny_pyIter_striter_ascii st h),⟨Nat.zero_le _,f3⟩,f1,q⟩
theorem PI.imp {X : Cx} {tg e : Expr} {t t' : TI} (h : PI X tg e t) (i : ∀ σ H R,t' σ H R -> t σ H R) : PI X tg e t' := fun pins s σ H R I q=>h pins s σ H R I (i σ H R q)
theorem PI.or {X : Cx} {tg e : Expr} {t t' : TI} (h : PI X tg e t) (h' : PI X tg e t') : PI X tg e (fun σ H R=>t σ H R \/ t' σ H R) := fun pins s σ H R I q=>by
 rcases q with q | q
 . exact h pins s σ H R I q
 . exact h' pins s σ H R I q
structure IterOf (K : Fg) (F : Hp) (J : It) (ds : List D) : Prop where
 go : ∀ i H,Same F H -> i < ds.length -> J.go i H
 stop : ∀ i H,Same F H -> ds.length <= i -> J.stop i H
 yld : ∀ i Fc H x H',Same F Fc -> Same Fc H -> i < ds.length -> J.yld i H x H' -> ∃ F' d,ds[i]? = some d /\ Step Fc H F' H' /\ RepV K F' d x
def WantI (C : Cw) (F H : Hp) (σ : L2.St) (r : Res) (R : It -> Hp -> Prop) : Prop := match r with
 | .ok _ (.lst ds)=>∀ J F' H',Step F H F' H' -> IterOf C.K F' J ds -> R J H'
 | .exc c=>∀ F' H',Step F H F' H' -> C.EE c σ H'
 | _=>False
def tIv (C : Cw) (g : Rho -> Res) : TI := fun σ H R=>∃ ρ F,RelSt C.K C.F0 C.H0 F H σ ρ /\ WantI C F H σ (g ρ) R
def PIv (C : Cw) (X : Cx) (tg e : Expr) (g : Rho -> Res) : Prop := PI X tg e (tIv (C.at X) g)
def charsD (z : Str) : List D := z.cps.toList.map fun c=>.str ⟨#[c]⟩
def itemsR (r : Res) : Res := r.thn fun _ d=>match d with
 | .lst ds=>.ok .fz (.lst ds)
 | .tup ds=>.ok .fz (.lst ds)
 | .str z=>.ok .fz (.lst (charsD z))
 | _=>.stuck
section
variable {C : Cw} {X : Cx} {tg e : Expr} {g : Rho -> Res} {gs : Rho -> ResL} {pos p : Pos}
theorem iterOf_tup {K : Fg} {F : Hp} {a : Addr} {ds : List D} {xs : List V} (hq : SqT K F a xs) (r : RepL K F ds xs) : IterOf K F (Itt K a) ds where
 go := fun i H s hi=>by
  have hl : i < xs.length := by rw [r.length];exact hi
  exact ⟨xs,xs[i],Same.seqT s hq,by simp [hl]⟩
 stop := fun i H s hi=>⟨xs,Same.seqT s hq,by rw [r.length];exact hi⟩
 yld := fun i Fc H x H' s1 s2 hi y=>by obtain ⟨rfl,y⟩ := y;have hx := y xs (Same.seqT s2 (Same.seqT s1 hq));obtain ⟨d,e,rd⟩ := r.get hx;exact ⟨Fc,d,e,.refl s2,rd.mono s1 _ _⟩
theorem iterOf_str {K : Fg} {F : Hp} {z : Str} (hk : PyData.strOk z = true) : IterOf K F (Its z) (charsD z) where
 go := fun i H s hi=>by simpa [charsD,Its] using hi
 stop := fun i H s hi=>by simpa [charsD,Its] using hi
 yld := fun i Fc H x H' s1 s2 hi y=>by
  obtain ⟨rfl,c,hc,rfl⟩ := y;refine ⟨Fc,.str ⟨#[c]⟩,by simp [charsD,hc],.refl s2,?_⟩
  simp only [RepV,true_and];refine ⟨by show 1 <= sizeLine;decide,?_⟩
  unfold PyData.strOk at hk ⊢;rw [Array.all_eq_true_iff_forall_mem] at hk;simpa using hk c (Array.mem_of_getElem? hc)
theorem piv_seq (h : PV C X e g) : PIv C X tg e (fun ρ=>itemsR (frzR (g ρ))) := by
 have h := pv_frz h;refine PI.imp (PI.or (pi_list h) (PI.or (pi_tup h) (pi_str h))) fun σ H R q=>?_;obtain ⟨ρ,F,RS,w⟩ := q;dsimp only at w;cases er : frzR (g ρ) with
 | stuck=>rw [er] at w;exact w.elim
 | exc c=>refine .inl ?_;unfold iList;rw [tG_eq];refine ⟨ρ,F,RS,?_⟩;rw [er] at w ⊢;exact w
 | ok m d =>
  rw [er] at w;have hm : m = .fz := by
   cases h : g ρ with
   | ok m' d'=>rw [h] at er;cases m' <;> cases er <;> rfl
   | exc c=>rw [h] at er;cases er
   | stuck=>rw [h] at er;cases er
  subst hm;cases d with
  | lst ds =>
   refine .inl ?_; unfold iList; rw [tG_eq]; refine ⟨ρ, F, RS, ?_⟩; rw [er]; intro v F' H' st rp _; have rp : RepV X.K F' (.lst ds) v := rp; simp only [RepV] at rp; obtain ⟨a, xs, rfl, hq, r⟩ := rp; exact ⟨a, rfl, ⟨xs, st.sub.seq hq⟩, w _ F' H' st ⟨fun i H s hi => by
       have hl : i < xs.length := by rw [r.length];exact hi
       exact ⟨xs,xs[i],s.seq hq,by simp [hl]⟩,fun i H s hi=>⟨xs,s.seq hq,by rw [r.length];exact hi⟩,fun i Fc H x H' s1 s2 hi y=>by
       obtain ⟨rfl,y⟩ := y;have hx := y xs (s2.seq (s1.seq hq));obtain ⟨d,e,rd⟩ := r.get hx;exact ⟨Fc,d,e,.refl s2,rd.mono s1 _ _⟩⟩⟩
  | tup ds=>refine .inr (.inl ?_);unfold iTup;rw [tG_eq];refine ⟨ρ,F,RS,?_⟩;rw [er];intro v F' H' st rp _;have rp : RepV X.K F' (.tup ds) v := rp;simp only [RepV] at rp;obtain ⟨a,xs,rfl,hq,r⟩ := rp;exact ⟨a,rfl,⟨xs,Same.seqT st.sub hq⟩,w _ F' H' st (iterOf_tup hq r)⟩
  | str z=>refine .inr (.inr ?_);unfold iStr;rw [tG_eq];refine ⟨ρ,F,RS,?_⟩;rw [er];intro v F' H' st rp _;obtain ⟨rfl,hz,hk⟩ := Rp.str rp;exact ⟨z,rfl,w _ F' H' st (iterOf_str hk)⟩
  | _=>exact w.elim
def rangeD (lo hi : Int) : List D := (List.range (hi - lo).toNat).map fun i=>.int (lo + (i : Nat))
def rng1R (r : ResL) : Res := r.thn fun xs=>match xs with
 | [(_,.int n)]=>if (decide (-(2 ^ 62) <= n) && decide (n < 2 ^ 62)) = true then .ok .fz (.lst (rangeD 0 n)) else .stuck
 | _=>.stuck
theorem iterOf_range {K : Fg} {F : Hp} {lo hi : Int} : IterOf K F (Itr lo (hi - lo).toNat) (rangeD lo hi) where
 go := fun i H s h=>by simpa [rangeD,Itr] using h
 stop := fun i H s h=>by simpa [rangeD,Itr] using h
 yld := fun i Fc H x H' s1 s2 h y=>by
  obtain ⟨rfl,rfl⟩ := y;have h' : i < (hi - lo).toNat := by simpa [rangeD] using h
  refine ⟨Fc,.int (lo + i),?_,.refl s2,by simp only [RepV]⟩
  simp only [rangeD,List.getElem?_map,List.getElem?_range h',Option.map_some]
theorem piv_range1 {a : Expr} (hg : Gl X "range") (hm : X.mg "range" = none) (ha : PAv C X [a] gs) (hs : starEach [a] X.env = [(false,eval a X.env)] := by rfl) : PIv C X tg (.Call (.Name "range" p) [a] [] pos) (fun ρ=>rng1R (gs ρ)) := by
 refine PI.imp (pi_range1 hg hm ha hs) fun σ H R q=>?_;obtain ⟨ρ,F,RS,w⟩ := q;dsimp only at w;unfold iRng1;refine ⟨ρ,F,RS,?_⟩;cases er : gs ρ with
 | stuck=>rw [er] at w;exact w
 | exc c=>rw [er] at w;exact w
 | ok xs =>
  rw [er] at w;intro vs F' H' st rp;unfold rng1R at w;rw [ResL.thn_ok] at w;split at w
  . rename_i m n;split at w
    . rename_i hc;rw [Bool.and_eq_true,decide_eq_true_eq,decide_eq_true_eq] at hc;obtain ⟨v,rfl,r⟩ := rp.one;cases r.int;have := iterOf_range (K := X.K) (F := F') (lo := 0) (hi := n);rw [Int.sub_zero] at this;exact ⟨n,rfl,hc.1,hc.2,w _ F' H' st this⟩
    . exact w.elim
  . exact w.elim
def PGv (C : Cw) (X : Cx) (tg : Expr) (k : D -> Rho -> Option Rho) : Prop := ∃ t : TG,PG X tg t /\ ∀ F H σ ρ ρ' d v Q,RelSt X.K C.F0 C.H0 F H σ ρ -> RepV X.K F d v -> k d ρ = some ρ' ->
 (∀ σ' F' H',Same F F' -> RelSt X.K C.F0 C.H0 F' H' σ' ρ' -> Q σ' H') -> t v σ H Q
def setD (i : Nat) : D -> Rho -> Option Rho := fun d ρ=>some (ρ.set i (some (false,d)))
def forS (k : D -> Rho -> Option Rho) (body : Rho -> SRes) : List D -> Rho -> SRes
 | [],ρ=>.nx ρ
 | d :: ds,ρ=>match k d ρ with
  | none=>.stuck
  | some ρ1=>match body ρ1 with
   | .nx ρ2=>forS k body ds ρ2
   | .ct ρ2=>forS k body ds ρ2
   | .bk ρ2=>.nx ρ2
   | r=>r
def forR (r : Res) (ρ : Rho) (k : D -> Rho -> Option Rho) (body : Rho -> SRes) : SRes := r.thS ρ fun _ d=>match d with | .lst ds=>forS k body ds ρ | _=>.stuck
theorem psv_for {body : List Stmt} {k : D -> Rho -> Option Rho} {h1 : Rho -> SRes} (hp : PassesOwn (model X.prog X.w) X.A X.env X.xe) (hc : X.calm = true) (hi : PIv C X tg e g) (hg : PGv C X tg k) (hb : PBv C X body h1) (hs : ∀ x,foldedSetIterable e X.env x = pure x := by intro _;rfl) : PSv C X (.For tg e body [] pos) (fun ρ=>forR (g ρ) ρ k h1) := by
 obtain ⟨t,ht,hk⟩ := hg;refine PS.imp (ps_for hp hc hi ht hb hs) fun E σ H q=>?_;obtain ⟨ρ,F,RS,w⟩ := q;dsimp only at w;unfold tFor;refine ⟨ρ,F,RS,?_⟩;cases er : g ρ with
 | stuck=>rw [er] at w;exact w
 | exc c=>rw [er] at w;exact fun F' H' s=>w σ F' H' s.fsame (RS.step s)
 | ok m d =>
  rw [er] at w;cases d with
  | lst ds =>
   intro J F1 H1 s1 hJ;have w : WantS (C.at X) F1 (forS k h1 ds ρ) E := WantS.mono s1.fsame w;refine ⟨fun i m σ' H'=>m = ds.length - i /\ i <= ds.length /\ ∃ ρ' F',Same F1 F' /\ RelSt X.K C.F0 C.H0 F' H' σ' ρ' /\ WantS (C.at X) F' (forS k h1 (ds.drop i) ρ') E,⟨ds.length,by simp,Nat.zero_le _,ρ,F1,Same.refl _,RS.step s1,by simpa using w⟩,?_⟩
   rintro i m σ' H' ⟨rfl,hi,ρ',F',sF,R',w'⟩;by_cases hlt : i < ds.length
   . refine .inr ⟨hJ.go i H' (sF.trans R'.sub) hlt,fun σ2 H2=>∃ ρ2 F2,Same F1 F2 /\ RelSt X.K C.F0 C.H0 F2 H2 σ2 ρ2 /\ WantS (C.at X) F2 (forS k h1 (ds.drop (i + 1)) ρ2) E,fun σ2 H2 ⟨ρ2,F2,a,b,c⟩=>⟨ds.length - (i + 1),by omega,rfl,hlt,ρ2,F2,a,b,c⟩,fun x H2 y=>?_⟩
     obtain ⟨F2,d,ed,s2,rd⟩ := hJ.yld i F' H' x H2 sF R'.sub hlt y;have hd : ds.drop i = d :: ds.drop (i + 1) := by rw [List.drop_eq_getElem_cons hlt];rw [List.getElem?_eq_getElem hlt] at ed;cases ed;rfl
     rw [hd] at w';unfold forS at w';cases ek : k d ρ' with
     | none=>rw [ek] at w';exact w'.elim
     | some ρ1 =>
      rw [ek] at w';dsimp only at w';refine hk F2 H2 σ' ρ' ρ1 d x _ (R'.step s2) rd ek fun σ3 F3 H3 z3 R3=>?_;have z13 : Same F1 F3 := (sF.trans s2.fsame).trans z3;have w3 := WantS.mono (s2.fsame.trans z3) w';refine ⟨ρ1,F3,R3,?_⟩;cases eb : h1 ρ1 with
      | nx ρ2=>rw [eb] at w3;exact fun σ4 F4 H4 z4 R4=>⟨ρ2,F4,z13.trans z4,R4,WantS.mono z4 w3⟩
      | ct ρ2=>rw [eb] at w3;exact fun σ4 F4 H4 z4 R4=>⟨ρ2,F4,z13.trans z4,R4,WantS.mono z4 w3⟩
      | bk ρ2=>rw [eb] at w3;exact fun σ4 F4 H4 z4 R4=>w3 σ4 F4 H4 z4 R4
      | rt m d=>rw [eb] at w3;exact w3
      | exc c ρ2=>rw [eb] at w3;exact w3
      | stuck=>rw [eb] at w3;exact w3
   . have ei : i = ds.length := by omega
     subst ei;refine .inl ⟨hJ.stop _ H' (sF.trans R'.sub) (Nat.le_refl _),?_⟩;rw [List.drop_length] at w';exact w' σ' F' H' (Same.refl _) R'
  | _=>exact w.elim
end
end D3
namespace L2
open PySem PySem.Spec PyProof.Rows
theorem closureFor_ok {env : Env} : ∀ (names : List (Str × NameKind)) (acc : List (Str × Addr)), (∀ y ∈ names, y.2 = .free → ∃ c, env.cells.lookup y.1 = some c) → (∀ y c, acc.lookup y = some c → env.cells.lookup y = some c) →
    ∃ cl,(forIn names acc fun (x : Str × NameKind) (cs : List (Str × Addr))=>(if x.2 == .free then (do let c <- cellOf env x.1;pure (ForInStep.yield ((x.1,c) :: cs))) else pure (ForInStep.yield cs) : Sem (ForInStep (List (Str × Addr))))) = pure cl /\
     (∀ y c,cl.lookup y = some c -> env.cells.lookup y = some c) /\ (∀ y c,acc.lookup y = some c -> cl.lookup y = some c) /\ ∀ y,(y,NameKind.free) ∈ names -> ∃ c,cl.lookup y = some c
 | [],acc,_,ha=>⟨acc,by rw [List.forIn_nil],ha,fun _ _ h=>h,fun _ h=>by cases h⟩
 | (n,k) :: r,acc,h,ha=>by
  rw [List.forIn_cons];by_cases hk : k = .free
  . subst hk;obtain ⟨c,ec⟩ := h (n,.free) mcs rfl;have hc : cellOf env n = pure c := by unfold cellOf;rw [ec]
    have e : ((if (NameKind.free == NameKind.free) = true then (do let c <- cellOf env n;pure (ForInStep.yield ((n,c) :: acc))) else pure (ForInStep.yield acc)) : Sem (ForInStep (List (Str × Addr)))) = pure (ForInStep.yield ((n,c) :: acc)) := by rw [if_pos (by decide),hc,pure_bind]
    obtain ⟨cl,e1,e2,e3,e4⟩ := closureFor_ok (env := env) r ((n,c) :: acc) (fun y hy=>h y (mcm hy)) (fun y c' q=>by
     rw [List.lookup_cons] at q;cases hyn : y == n with
     | true=>rw [hyn] at q;cases q;rw [beq_iff_eq.mp hyn];exact ec
     | false=>rw [hyn] at q;exact ha y c' q)
    refine ⟨cl,?_,e2,fun y c' q=>?_,fun y hy=>?_⟩
    . dsimp only;rw [e,pure_bind];exact e1
    . cases hyn : y == n with
      | true=>have := beq_iff_eq.mp hyn;subst this;have q' := ha y c' q;rw [ec] at q';cases q';exact e3 y c (by rw [List.lookup_cons,hyn])
      | false=>exact e3 y c' (by rw [List.lookup_cons,hyn];exact q)
    . rcases List.mem_cons.mp hy with z | z
      . cases z;exact ⟨c,e3 n c (by rw [List.lookup_cons,beq_self_eq_true])⟩
      . exact e4 y z
  . have e : ((if (k == NameKind.free) = true then (do let c <- cellOf env n;pure (ForInStep.yield ((n,c) :: acc))) else pure (ForInStep.yield acc)) : Sem (ForInStep (List (Str × Addr)))) = pure (ForInStep.yield acc) := by rw [if_neg (by simpa using hk)]
    obtain ⟨cl,e1,e2,e3,e4⟩ := closureFor_ok (env := env) r acc (fun y hy=>h y (mcm hy)) ha;refine ⟨cl,?_,e2,e3,fun y hy=>?_⟩
    . dsimp only;rw [e,pure_bind];exact e1
    . rcases List.mem_cons.mp hy with z | z
      . cases z;exact absurd rfl hk
      . exact e4 y z
theorem closure_of {scope : Scope} {env : Env} (h : ∀ y ∈ scope.names,y.2 = .free -> ∃ c,env.cells.lookup y.1 = some c) : ∃ cl,closureFor scope env = pure cl /\ (∀ y c,cl.lookup y = some c -> env.cells.lookup y = some c) /\ ∀ y,(y,NameKind.free) ∈ scope.names -> ∃ c,cl.lookup y = some c := by
 obtain ⟨cl,e1,e2,_,e4⟩ := closureFor_ok (env := env) scope.names [] h (fun y c q=>by simp at q)
 refine ⟨cl,?_,e2,e4⟩;unfold closureFor;rw [bind_pure];exact e1
theorem relabel_free {scope : Scope} {env : Env} (hcell : ∀ y ∈ scope.names,y.2 ≠ .cell) {x : Str} (h : (relabel scope env).names.lookup x = some .cell \/ (relabel scope env).names.lookup x = some .free) : (x,NameKind.free) ∈ scope.names := by
 unfold relabel at h;dsimp only at h;have go : ∀ (l : List (Str × NameKind)),(∀ y ∈ l,y.2 ≠ .cell) -> ((l.map fun (n,k)=>if (k == NameKind.free && env.scope.kind == .function && env.kindOf n == some .cell) then (n,NameKind.cell) else (n,k)).lookup x = some .cell \/ (l.map fun (n,k)=>if (k == NameKind.free && env.scope.kind == .function && env.kindOf n == some .cell) then (n,NameKind.cell) else (n,k)).lookup x = some .free) -> (x,NameKind.free) ∈ l := by
  intro l
  induction l with
  | nil=>intro _ h;simp at h
  | cons y l ih =>
   intro hc h;obtain ⟨n,k⟩ := y;rw [List.map_cons] at h;by_cases hx : x = n
   . subst hx;have hk : k = .free := by
       by_cases hk : k = .free
       . exact hk
       . have e : (k == NameKind.free && env.scope.kind == .function && env.kindOf x == some .cell) = false := by
           have : (k == NameKind.free) = false := by simpa using hk
           rw [this];rfl
         simp only [e,Bool.false_eq_true,if_false,List.lookup_cons,beq_self_eq_true] at h;rcases h with h | h
         . cases h;exact absurd rfl (hc _ mcs)
         . cases h;exact absurd rfl hk
     subst hk;exact mcs
   . have hb : (x == n) = false := by simpa using hx
     have hh : ∀ (kk : NameKind) (l' : List (Str × NameKind)),((n,kk) :: l').lookup x = l'.lookup x := fun kk l'=>by rw [List.lookup_cons,hb]
     by_cases hcond : (k == NameKind.free && env.scope.kind == .function && env.kindOf n == some .cell) = true
     . dsimp only at h;rw [if_pos hcond,hh] at h;exact mcm (ih (fun y hy=>hc y (mcm hy)) h)
     dsimp only at h;rw [if_neg hcond,hh] at h;exact mcm (ih (fun y hy=>hc y (mcm hy)) h)
 exact go scope.names hcell h
def compCx (X : Cx) (scope : Scope) (N : List Str) (cl : List (Str × Addr)) (C : Addr) (fp : List Addr) (s3 : Shared) (H3 : Hp) : Cx where
 prog := X.prog
 w := X.w
 K := X.K
 mg := X.mg
 base := X.base
 A := X.A
 N := N
 s₀ := s3
 H₀ := H3
 env := compEnvC scope cl C X.env
 outer := X.stack
 stack := X.stack
 ex := fp
 fn := fun _=>false
 calm := X.calm
 pn := []
 xe := fun _ _=>False
def PIfs (X : Cx) (cs : List Expr) (t : TT) : Prop :=
 ∀ (pins : LAO) (s : Shared) (σ : St) (H : Hp) (Q : Bool -> Hp -> Prop),Inv X pins σ H s -> t σ H Q ->
  wpAny (model X.prog X.w) X.A (forIn cs true fun c r=>if r = true then do let ok <- isTrue c X.env (eval c X.env);pure (ForInStep.yield ok) else pure (ForInStep.yield r)) (TP X pins σ Q) X.xe s
theorem pifs_nil {X : Cx} : PIfs X [] (fun _ H Q=>Q true H) := fun pins s σ H Q I h=>by rw [List.forIn_nil];exact wpAny_pure ⟨H,I,h⟩
theorem forIn_no {X : Cx} : ∀ cs : List Expr,(forIn cs false fun c r=>if r = true then do let ok <- isTrue c X.env (eval c X.env);pure (ForInStep.yield ok) else pure (ForInStep.yield r) : Sem Bool) = pure false
 | []=>by rw [List.forIn_nil]
 | c :: cs=>by rw [List.forIn_cons,if_neg Bool.false_ne_true,pure_bind];exact forIn_no cs
theorem pifs_cons {X : Cx} {c : Expr} {cs : List Expr} {t u : TT} (hc : PT X c t) (hr : PIfs X cs u) : PIfs X (c :: cs) (tAnd t u) := fun pins s σ H Q I h=>by
 rw [List.forIn_cons,if_pos rfl];refine wpAny_bind (wpAny_bind (thn (hc pins s σ H _ I h) fun b s1 ⟨H1,I1,q1⟩=>wpAny_pure ?_));cases b with
 | true=>rw [if_pos rfl] at q1;exact hr pins s1 σ H1 Q I1 q1
 | false=>rw [if_neg Bool.false_ne_true] at q1;dsimp only;rw [forIn_no];exact wpAny_pure ⟨H1,I1,q1⟩
section
variable {prog : Program} {w : World} {A : Around} {R : Result -> Shared -> Prop} {s : Shared}
theorem compLoop_g {elt target iter : Expr} {ifs : List Expr} {scope : Scope} {pos : Pos} {it acc : Value} {env : Env} (I : Nat → Shared → Prop) (turn : ∀ n s, I n s → wpAny (model prog w) A (pyNext it) (fun r s1 => match r with
      | none=>R (.ok .next) s1
      | some v => wpAny (model prog w) A (letOwnedTupleGo target it v) (fun _ s1' => wpAny (model prog w) A (assign target env v) (fun _ s2 =>
          wpAny (model prog w) A (forIn ifs true fun c r=>if r = true then do let ok <- isTrue c env (eval c env);pure (ForInStep.yield ok) else pure (ForInStep.yield r)) (fun ok s3 =>
           if ok = true then wpAny (model prog w) A (eval elt env) (fun x s4 =>
            wpAny (model prog w) A (call (.builtin "list.append") [acc,x]) (fun _ s5=>∃ m,m < n /\ I m s5) (fun _ _=>False) s4) (fun _ _=>False) s3
           else ∃ m, m < n ∧ I m s3) (fun _ _ => False) s2) (fun _ _ => False) s1') (fun _ _ => False) s1) (fun _ _ => False) s)
    (n : Nat) (h : I n s) :
    codeAny (model prog w) A (.compLoop (.ListComp elt [⟨target,iter,ifs,0⟩] scope pos) 0 it acc env) R s := by
 refine codeAny_loop rfl I (fun n s hI=>?_) n h;show wpAny _ A ((compTurn (.ListComp elt [⟨target,iter,ifs,0⟩] scope pos) 0 it acc env).onRaise (fun x=>do noteFrame x env;theTreesLotGoes x)) _ _ s
 refine wpAny_noted ?_;rw [compTurn_list];refine wpAny_bind (wpAny_standAt (wpAny_bind (wpAny_mono (turn n s hI) (fun r s1 h1=>?_) fun _ _ h'=>h'.elim)));cases r with
 | none=>exact wpAny_pure h1
 | some v =>
  refine wpAny_bind (wpAny_mono h1 (fun _ s1' h1'=>?_) fun _ _ h'=>h'.elim);refine wpAny_bind (wpAny_mono h1' (fun _ s2 h2=>wpAny_bind (wpAny_mono h2 (fun ok s3 h3=>?_) fun _ _ h'=>h'.elim)) fun _ _ h'=>h'.elim);cases ok with
  | false=>exact wpAny_pure ⟨rfl,h3⟩
  | true=>exact wpAny_bind (wpAny_bind (wpAny_mono h3 (fun x s4 h4=>wpAny_bind (wpAny_mono h4 (fun _ s5 h5=>wpAny_pure (wpAny_pure ⟨rfl,h5⟩)) fun _ _ h'=>h'.elim)) fun _ _ h'=>h'.elim))
end
def subS (caps : List Nat) (σ : St) : St := caps.map fun i=>(σ[i]?).getD none
def Weak (σ σ' : St) : Prop := σ.length = σ'.length /\ ∀ (j : Nat) v,σ[j]? = some (some v) -> σ'[j]? = some (some v)
def tComp (caps : List Nat) (k : Nat) (wi : TI) (gt : TG) (tt : TT) (te : TE) : TE := fun σ H Q=>wi σ H fun J H1=>∀ D,H1 D = none ->
 ∃ W : Nat -> Nat -> List V -> Hp -> Prop,(∃ m,W 0 m [] (upd H1 D (.lst []))) /\ ∀ i m ys H,W i m ys H -> H D = some (.lst ys) /\
  ((J.stop i H /\ Q (.ref D) H) \/ (J.go i H /\ ys.length < sizeLine /\ ∀ x H',J.yld i H x H' -> gt x (subS caps σ ++ List.replicate k none) H' fun σ2 H2=>Weak (subS caps σ ++ List.replicate k none) σ2 /\ tt σ2 H2 fun b H3 =>
   if b = true then te σ2 H3 fun y H4=>H4 D = some (.lst ys) /\ ∃ m',m' < m /\ W (i + 1) m' (ys ++ [y]) (upd H4 D (.lst (ys ++ [y]))) else ∃ m',m' < m /\ W (i + 1) m' ys H3))
theorem comp_core {X : Cx} {elt iter tg : Expr} {ifs : List Expr} {scope : Scope} {pos : Pos} {caps : List Nat} {capN tgN : List Str} {wi : TI} {gt : TG} {tt : TT} {te : TE} {use : Option (Value -> Sem Unit)} {QQ : VSP} {pins : LAO} {s : Shared} {σ : St} {H : Hp} {Q : VK} (hc : X.calm = true) (hi : PI X tg iter wi) (hcell : ∀ y ∈ scope.names,y.2 ≠ .cell) (hkind : scope.kind = .function) (hnames : ∀ y ∈ scope.names,y.2 = .local -> scope.names.lookup y.1 = some .local) (hfree : ∀ y ∈ scope.names,y.2 = .free -> X.env.kindOf y.1 = some .cell \/ X.env.kindOf y.1 = some .free) (hcapN : capN.map some = caps.map fun i=>X.N[i]?) (hcapF : ∀ y ∈ capN,(y,NameKind.free) ∈ scope.names) (hcapK : ∀ y ∈ capN,(relabel scope X.env).names.lookup y = some .cell \/ (relabel scope X.env).names.lookup y = some .free) (hg : ∀ cl C fp s3 H3,PG (compCx X scope (capN ++ tgN) cl C fp s3 H3) tg gt) (hf : ∀ cl C fp s3 H3,PIfs (compCx X scope (capN ++ tgN) cl C fp s3 H3) ifs tt) (he : ∀ cl C fp s3 H3,PE (compCx X scope (capN ++ tgN) cl C fp s3 H3) elt te) (hs : ∀ x,foldedSetIterable iter X.env x = pure x) (I : Inv X pins σ H s) (h : tComp caps tgN.length wi gt tt te σ H Q) (hend : ∀ (D Z : Addr) (s6 : Shared) (H5 : Hp),(∃ m,s6.heap.Ns Z m) -> (∀ h'',Heap.SameBut Z s6.heap h'' -> Inv X pins σ H5 { s6 with heap := h'' }) -> H5 Z = none -> X.s₀.heap.objs.size <= Z -> Z ≠ X.env.locals -> (∀ x c,X.env.cells.lookup x = some c -> c ≠ Z) -> (∀ p ∈ X.pn ++ pins,p.1 ≠ Z) -> Q (.ref D) H5 -> compPost (model X.prog X.w) X.A X.xe use QQ (.ref D) Z (.ok .next) s6) : wpAny (model X.prog X.w) X.A (comprehension (.ListComp elt [⟨tg,iter,ifs,0⟩] scope pos) scope X.env (firstIterPos [⟨tg,iter,ifs,0⟩] pos) (newList []) (firstAsync [⟨tg,iter,ifs,0⟩]) (firstIter [⟨tg,iter,ifs,0⟩] X.env) use) QQ X.xe s := by
 obtain ⟨cl,hclos,clsub,clhas⟩ := closure_of (scope := scope) (env := X.env) fun y hy hk=>I.ok.has y.1 (hfree y hy hk);refine wpAny_comprehension_free (use := use) rfl hs hclos hkind hnames (thn (hi pins s σ H _ I h) fun v s1 h1=>thn h1 fun itv s2 h2=>?_);obtain ⟨it,fp,tn,J,H2,e,I2,T,st2,f2,q⟩ := h2;subst e;refine wpAny_newObj_type ?_;have hn : H2 s2.heap.objs.size = none := I2.hok.fresh (Nat.le_refl _);obtain ⟨W,⟨m0,w0⟩,turn⟩ := q s2.heap.objs.size hn;have I3 : Inv X pins σ (upd H2 s2.heap.objs.size (.lst [])) { s2 with heap := s2.heap.push { cls := .type "list", dict := none,data := .seq ([] : List Value).toArray } } :=
  I2.laid (t' := s2.toks) (fun b u e=>hps e) (Nat.le_refl _) ⟨Nat.zero_le _,[],0,.nil,Heap.get?_push_size _ rfl⟩
 generalize hs3 : ({ s2 with heap := s2.heap.push { cls := .type "list", dict := none,data := .seq ([] : List Value).toArray } } : Shared) = s3 at I3 ⊢
 generalize hH3 : upd H2 s2.heap.objs.size (.lst []) = H3 at I3 w0;have fpl : ∀ b ∈ fp,b < s2.heap.objs.size := fun b hb=>by obtain ⟨o,eo,_⟩ := T.obj 0 _ st2 b hb;exact Heap.lt_size eo
 have sz3 : s3.heap.objs.size = s2.heap.objs.size + 1 := by rw [<- hs3];exact Heap.size_push _ _
 have keep23 : ∀ b o,s2.heap.get? b = some o -> s3.heap.get? b = some o := fun b o e=>by rw [<- hs3];exact hps e
 have hDf : s2.heap.objs.size ∉ fp := fun hb=>Nat.lt_irrefl _ (fpl _ hb);refine wpAny_newFunctionEnv hcell (by intro y hy;simp at hy) (fun h4 hns hsb=>?_) hkind
 try dsimp only at hns hsb ⊢
 have keep34 : ∀ b o,s3.heap.get? b = some o -> h4.get? b = some o := fun b o e=>hsb.extBut b o (Nat.ne_of_lt (Heap.lt_size e)) (hps e);have nostk : ∀ b ∈ fp,b ∉ frs X.stack := fun b hb z=>by
  obtain ⟨_,f1,f2',_⟩ := f2 b hb;rcases List.mem_cons.mp (I2.stkSub b z) with q | q
  . exact f1 q
  . exact f2' q
 have okc : (compCx X scope (capN ++ tgN) cl s3.heap.objs.size fp s3 H3).Ok :=
  { mod := I3.ok.mod
    kind := hkind
    glob := I3.ok.glob
    blt := I3.ok.blt
    above := Nat.le_refl _
    inj := fun x y c h1 h2=>I3.ok.inj x y c (clsub x c h1) (clsub y c h2)
    has := fun x hx=>clhas x (relabel_free hcell hx)
    cab := fun x c z=>by cases z
    hd := I3.ok.hd
    frames := I3.ok.frames
    stk := .inl rfl
    exf := fun b hb=>⟨Nat.ne_of_lt (by show b < s3.heap.objs.size;rw [sz3];exact Nat.lt_succ_of_lt (fpl b hb)),fun x c e=>(f2 b hb).2.2.2.2.1 x c (clsub x c e)⟩
    bs := I3.bs
    bsz := Nat.le_trans I3.ok.bsz I3.sz
    noex := fun b o e hb=>by
     obtain ⟨_,_,_,f3,_⟩ := f2 b hb;rcases f3 with z | z
     . exact I2.ok.noex b o e z
     . exact absurd (Heap.lt_size (I2.ok.bs b o e).1) (Nat.not_lt.mpr z)
    exfs := nostk
    funs := I3.stack
    frf := I3.stkFree }
 have capLen : capN.length = caps.length := by have := congrArg List.length hcapN;simpa using this
 generalize hσ0 : subS caps σ ++ List.replicate tgN.length none = σ0 at turn;have Ic : Inv (compCx X scope (capN ++ tgN) cl s3.heap.objs.size fp s3 H3) [] σ0 H3 { s3 with heap := h4,toks := s3.toks + ([] : List (Str × Value)).length } := by
  refine ⟨okc,rfl,I3.bare,Un.kept keep34,⟨_,hns,fun i y v h1 h2 h3=>?_⟩,fun x c e=>?_,I3.hok.fresh (Nat.le_refl _),fun x c e=>I3.freeC x c (clsub x c e),fun p hp=>absurd (show p ∈ ([] : LAO) from hp) (by simp),I3.hok.kept keep34,?_⟩
  . by_cases hi : i < caps.length
    . have ey : capN[i]? = some y := by have h1 : (capN ++ tgN)[i]? = some y := h1;rw [List.getElem?_append_left (by rw [capLen];exact hi)] at h1;exact h1
      have hj : X.N[caps[i]]? = some y := by
       have e1 : (capN.map some)[i]? = (caps.map fun i=>X.N[i]?)[i]? := by rw [hcapN]
       rw [List.getElem?_map,List.getElem?_map,ey,List.getElem?_eq_getElem hi] at e1;simpa using e1.symm
      have ev : σ[caps[i]]? = some (some v) := by
       rw [<- hσ0,List.getElem?_append_left (by simpa [subS] using hi)] at h2
       unfold subS at h2;rw [List.getElem?_map,List.getElem?_eq_getElem hi] at h2;simp only [Option.map_some,Option.some.injEq] at h2;cases z : σ[caps[i]]? with
       | none=>rw [z] at h2;cases h2
       | some o=>rw [z] at h2;exact congrArg some h2
      have hyf := hcapF y (List.mem_of_getElem? ey);have hkX := hfree _ hyf rfl;obtain ⟨m,_,hl⟩ := I3.loc;obtain ⟨u,ru,lk⟩ := hl caps[i] y v hj ev (by rcases hkX with z | z;exact .inr (.inl z);exact .inr (.inr z))
      refine ⟨u,ru,.inr ⟨hcapK y (List.mem_of_getElem? ey),?_⟩⟩;rcases lk with ⟨hk,_⟩ | ⟨_,c,ec,ic⟩
      . rcases hkX with z | z
        . rw [show X.env.kindOf y = some .cell from z] at hk;cases hk
        . rw [show X.env.kindOf y = some .free from z] at hk;cases hk
      . obtain ⟨c',ec'⟩ := clhas y hyf;have := clsub y c' ec';rw [ec] at this;cases this;exact ⟨c,ec',ic.keeps keep34⟩
    . rw [<- hσ0,List.getElem?_append_right (by simpa [subS] using hi),List.getElem?_replicate] at h2
      split at h2 <;> cases h2
  . obtain ⟨v,q⟩ := I3.cell x c (clsub x c e);exact ⟨v,q.keeps keep34⟩
  . rw [<- hσ0];show (subS caps σ ++ List.replicate tgN.length none).length = (capN ++ tgN).length;simp [subS,capLen]
 have fpc : ∀ {H' : Hp},(∀ b ∈ fp,H' b = none) -> ∀ b ∈ fp,FpOk (compCx X scope (capN ++ tgN) cl s3.heap.objs.size fp s3 H3) [] H' b := fun hn b hb =>
  ⟨hn b hb,(okc.exf b hb).1,nostk b hb,.inl hb,(okc.exf b hb).2,fun p hp=>absurd (show p ∈ ([] : LAO) from hp) (by simp)⟩
 have loop : codeAny (model X.prog X.w) X.A (.compLoop (.ListComp elt [⟨tg,iter,ifs,0⟩] scope pos) 0 (.ref it) (.ref s2.heap.objs.size) (compEnvC scope cl s3.heap.objs.size X.env)) (compPost (model X.prog X.w) X.A X.xe use QQ (.ref s2.heap.objs.size) s3.heap.objs.size) { s3 with heap := h4,toks := s3.toks + ([] : List (Str × Value)).length } := by
  refine compLoop_g (fun n s'=>∃ i ys H',Inv (compCx X scope (capN ++ tgN) cl s3.heap.objs.size fp s3 H3) [] σ0 H' s' /\ tn i s'.heap /\ (∀ b ∈ fp,H' b = none) /\ W i n ys H') ?_ m0
   ⟨0,[],H3,Ic,T.keep _ _ _ st2 (fun b hb o e=>keep34 b o (keep23 b o e)),fun b hb=>by rw [<- hH3,upd_ne (by intro z;rw [z] at hb;exact hDf hb)];exact (f2 b hb).1,w0⟩
  rintro n s5 ⟨i,ys,H5,I5,st5,fr5,w5⟩;obtain ⟨hD,hw⟩ := turn i n ys H5 w5;rcases hw with ⟨stop,qq⟩ | ⟨go,hlen,step⟩
  . refine thn (T.done (compCx X scope (capN ++ tgN) cl s3.heap.objs.size fp s3 H3) rfl rfl rfl hc i [] s5 σ0 H5 _ I5 (fpc fr5) st5 stop) fun r s6 ⟨hr,I6⟩=>?_;subst hr;obtain ⟨m,hm,_⟩ := id I6.loc;refine hend s2.heap.objs.size s3.heap.objs.size s6 H5 ⟨m,hm⟩ (fun h'' hsb2=>?_) I6.free I3.sz (fun z=>?_) (fun x c ec z=>?_) (fun p hp z=>?_) qq;rotate_left
    . obtain ⟨m,⟨o,es,ep,ho,_⟩,_⟩ := id I3.loc;rw [<- z] at ho;exact Nat.lt_irrefl _ (Heap.lt_size ho)
    . obtain ⟨v,o,ho,_⟩ := I3.cell x c ec;rw [z] at ho;exact Nat.lt_irrefl _ (Heap.lt_size ho)
    . have := (I3.pin p hp).1;rw [z] at this;exact Nat.lt_irrefl _ (Heap.lt_size this)
    have u := I6.base;have neC : ∀ b o,s3.heap.get? b = some o -> b ≠ s3.heap.objs.size := fun b o e=>Nat.ne_of_lt (Heap.lt_size e);have un : Un (frs X.stack) fp H3 H5 s3.heap h'' := by
     refine ⟨fun b o e n hb hx=>hsb2.extBut b o (neC b o e) (u.keep b o e n hb hx),fun b o e n hb hx=>?_,u.free,fun b o e hx=>?_,u.tups,u.frzs,u.tbls⟩
     . obtain ⟨sl,q⟩ := u.slot b o e n hb hx;exact ⟨sl,hsb2.extBut b _ (neC b o e) q⟩
     . obtain ⟨o',q⟩ := u.there b o e hx;exact ⟨o',hsb2.extBut b _ (neC b o e) q⟩
    have hok : HOk X.prog X.w H5 h'' := fun a o e => (I6.hok a o e).stay (fun b v hb q => hsb2.extBut b v (by
        intro z;have fr := I6.free;rcases hb with hb | hb
        . rw [hb] at z;rw [z] at e;rw [show H5 s3.heap.objs.size = none from fr] at e;cases e
        . rw [z,show H5 s3.heap.objs.size = none from fr] at hb;cases hb) q) (fun _ q=>q) fun _ _ q=>q
    have os6 := I6.os;obtain ⟨hh,g6,d6,t6,o6⟩ := s6;obtain rfl : o6 = s3.os := os6;have I8 := I3.call (h' := h'') (g' := g6) (d' := d6) (t' := t6) (ch := fp) un hok I6.bare fun b hb=>by obtain ⟨_,f1,_,f3,f4,f5⟩ := f2 b hb;exact ⟨f3,f1,f4,f5⟩
    exact I8
  . refine thn (T.item (compCx X scope (capN ++ tgN) cl s3.heap.objs.size fp s3 H3) rfl rfl rfl hc i [] s5 σ0 H5 _ I5 (fpc fr5) st5 go) fun r s6 ⟨u,hr,h6⟩=>?_;subst hr;refine thn h6 fun _ s7 ⟨x,H7,I7,r7,y7,st7,fr7⟩=>?_;have I7' := I7.pinned (fpc fr7) (T.obj _ _ st7);refine thn (hg cl s3.heap.objs.size fp s3 H3 _ s7 σ0 H7 x u _ I7' r7 (step x H7 y7)) fun _ s8 ⟨σ8,H8,I8,wk,q8⟩=>?_;have back : ∀ {H' : Hp} {s' : Shared} {m' : Nat} {ys' : List V},Inv (compCx X scope (capN ++ tgN) cl s3.heap.objs.size fp s3 H3) ([] ++ pinsAt fp s7.heap) σ8 H' s' -> m' < n -> W (i + 1) m' ys' H' ->
        ∃ m,m < n /\ ∃ i ys H',Inv (compCx X scope (capN ++ tgN) cl s3.heap.objs.size fp s3 H3) [] σ0 H' s' /\ tn i s'.heap /\ (∀ b ∈ fp,H' b = none) /\ W i m ys H' := fun {H' s' m' ys'} I' hm w'=>by
      have pinned : ∀ b ∈ fp,∀ o,s7.heap.get? b = some o -> s'.heap.get? b = some o /\ H' b = none := fun b hb o e=>by have := I'.pin (b,o) (List.mem_append_right _ (List.mem_append_right _ (mem_pinsAt hb e)));exact ⟨this.1,this.2.1⟩
      refine ⟨m',hm,i + 1,ys',H',I'.unpinned.weak wk.1 wk.2,T.keep _ _ _ st7 fun b hb o e=>(pinned b hb o e).1,fun b hb=>?_,w'⟩;obtain ⟨o,e,_⟩ := T.obj _ _ st7 b hb;exact (pinned b hb o e).2
    refine thn (hf cl s3.heap.objs.size fp s3 H3 _ s8 σ8 H8 _ I8 q8) fun b s9 ⟨H9,I9,q9⟩=>?_;cases b with
    | false=>rw [if_neg Bool.false_ne_true] at q9 ⊢;obtain ⟨m',hm,w9⟩ := q9;exact back I9 hm w9
    | true =>
     rw [if_pos rfl] at q9 ⊢;refine thn (he cl s3.heap.objs.size fp s3 H3 _ s9 σ8 H9 _ I9 q9) fun y s10 ⟨yv,H10,I10,r10,hD10,m',hm,w10⟩=>?_;refine thn (mt_append (X := compCx X scope (capN ++ tgN) cl s3.heap.objs.size fp s3 H3) _ s10 σ8 H10 (.ref s2.heap.objs.size) [yv] (.ref s2.heap.objs.size) [y] (fun v H'=>v = .non /\ H' = upd H10 s2.heap.objs.size (.lst (ys ++ [yv]))) I10 rfl (.cons r10 .nil)
      ⟨s2.heap.objs.size,ys,yv,rfl,rfl,hD10,hlen,rfl,rfl⟩) fun _ s11 ⟨v,H11,I11,_,_,e11⟩=>?_
     subst e11;exact back I11 hm w10
 exact codeAny_compStart_list loop (T.self _ 0 _ _ _ (T.keep _ _ _ st2 (fun b hb o e=>keep34 b o (keep23 b o e))) loop)
theorem pe_comp {X : Cx} {elt iter tg : Expr} {ifs : List Expr} {scope : Scope} {pos : Pos} {caps : List Nat} {capN tgN : List Str} {wi : TI} {gt : TG} {tt : TT} {te : TE} (hc : X.calm = true) (hi : PI X tg iter wi) (hcell : ∀ y ∈ scope.names,y.2 ≠ .cell) (hkind : scope.kind = .function) (hnames : ∀ y ∈ scope.names,y.2 = .local -> scope.names.lookup y.1 = some .local) (hfree : ∀ y ∈ scope.names,y.2 = .free -> X.env.kindOf y.1 = some .cell \/ X.env.kindOf y.1 = some .free) (hcapN : capN.map some = caps.map fun i=>X.N[i]?) (hcapF : ∀ y ∈ capN,(y,NameKind.free) ∈ scope.names) (hcapK : ∀ y ∈ capN,(relabel scope X.env).names.lookup y = some .cell \/ (relabel scope X.env).names.lookup y = some .free) (hg : ∀ cl C fp s3 H3,PG (compCx X scope (capN ++ tgN) cl C fp s3 H3) tg gt) (hf : ∀ cl C fp s3 H3,PIfs (compCx X scope (capN ++ tgN) cl C fp s3 H3) ifs tt) (he : ∀ cl C fp s3 H3,PE (compCx X scope (capN ++ tgN) cl C fp s3 H3) elt te) (hs : ∀ x,foldedSetIterable iter X.env x = pure x := by intro _;rfl) : PE X (.ListComp elt [⟨tg,iter,ifs,0⟩] scope pos) (tComp caps tgN.length wi gt tt te) := by intro pins s σ H Q I h;rw [eval_ListComp];exact comp_core (use := none) hc hi hcell hkind hnames hfree hcapN hcapF hcapK hg hf he hs I h fun D Z s6 H5 hm hI _ _ _ _ _ q=>by obtain ⟨m,hm⟩ := hm;exact ⟨m,hm,fun h'' hs=>⟨.ref D,H5,hI h'' hs,rfl,q⟩⟩
theorem Inv.dropped {X : Cx} {pins : LAO} {σ : St} {H : Hp} {s : Shared} {h'' : Heap} {Z : Addr} (I : Inv X pins σ H s) (hs : Heap.SameBut Z s.heap h'') (hz : H Z = none) (h0 : X.s₀.heap.objs.size <= Z) (h1 : Z ≠ X.env.locals) (h2 : ∀ x c,X.env.cells.lookup x = some c -> c ≠ Z) (h3 : ∀ p ∈ X.pn ++ pins,p.1 ≠ Z) : Inv X pins σ H { s with heap := h'' } := by
 have un : Un (frs X.stack) [Z] H H s.heap h'' := by
  have k : ∀ b o,s.heap.get? b = some o -> b ∉ [Z] -> h''.get? b = some o := fun b o e hb=>hs.extBut b o (fun z=>hb (by rw [z];exact mcs)) e
  exact ⟨fun b o e _ _ hx=>k b o e hx,fun b o e _ _ hx=>⟨o.slots,k b o e hx⟩,fun _ _ _ n _=>n,fun b o e hx=>⟨o,k b o e hx⟩,fun _ _ q=>q,fun _ _ _ q=>q,fun _ ps q=>⟨#[],by simpa using q⟩⟩
 have hok : HOk X.prog X.w H h'' := fun a o e=>(I.hok a o e).stay (fun b v hb q=>hs.extBut b v (by
  rintro rfl;rcases hb with hb | hb
  . rw [hb,e] at hz;cases hz
  . rw [hz] at hb;cases hb) q) (fun _ q=>q) fun _ _ q=>q
 obtain ⟨hh,g,d,t,o⟩ := s;exact I.call (g' := g) (d' := d) (t' := t) (ch := [Z]) un hok I.bare fun b hb=>by
  obtain rfl : b = Z := by simpa using hb
  exact ⟨.inr h0,h1,h2,h3⟩
theorem ps_compA {i : Nat} {x : Str} {pos' spos : Pos} {X : Cx} {elt iter tg : Expr} {ifs : List Expr} {scope : Scope} {pos : Pos} {caps : List Nat} {capN tgN : List Str} {wi : TI} {gt : TG} {tt : TT} {te : TE} (hc : X.calm = true) (hi : PI X tg iter wi) (hcell : ∀ y ∈ scope.names,y.2 ≠ .cell) (hkind : scope.kind = .function) (hnames : ∀ y ∈ scope.names,y.2 = .local -> scope.names.lookup y.1 = some .local) (hfree : ∀ y ∈ scope.names,y.2 = .free -> X.env.kindOf y.1 = some .cell \/ X.env.kindOf y.1 = some .free) (hcapN : capN.map some = caps.map fun i=>X.N[i]?) (hcapF : ∀ y ∈ capN,(y,NameKind.free) ∈ scope.names) (hcapK : ∀ y ∈ capN,(relabel scope X.env).names.lookup y = some .cell \/ (relabel scope X.env).names.lookup y = some .free) (hg : ∀ cl C fp s3 H3,PG (compCx X scope (capN ++ tgN) cl C fp s3 H3) tg gt) (hf : ∀ cl C fp s3 H3,PIfs (compCx X scope (capN ++ tgN) cl C fp s3 H3) ifs tt) (he : ∀ cl C fp s3 H3,PE (compCx X scope (capN ++ tgN) cl C fp s3 H3) elt te) (hN : X.N.Nodup) (hx : X.N[i]? = some x) (hk : X.env.scope.names.lookup x = some .local) (hsw : swapsWith (.ListComp elt [⟨tg,iter,ifs,0⟩] scope pos) (some (.Name x pos')) spos.line X.env = pure true) (hs : ∀ x,foldedSetIterable iter X.env x = pure x := by intro _;rfl) : PS X (.Assign [.Name x pos'] (.ListComp elt [⟨tg,iter,ifs,0⟩] scope pos) spos) (tAsg (tComp caps tgN.length wi gt tt te) (gName i)) := by
 intro pins s σ H En I h;rw [exec_Assign_Name_used _ _ _ _ hsw];refine wpAny_bind (wpAny_standAt (wpAny_bind ?_));show wpAny _ X.A (comprehension (.ListComp elt [⟨tg,iter,ifs,0⟩] scope pos) scope X.env (firstIterPos [⟨tg,iter,ifs,0⟩] pos) (newList []) (firstAsync [⟨tg,iter,ifs,0⟩]) (firstIter [⟨tg,iter,ifs,0⟩] X.env) (some (assign (.Name x pos') X.env)) >>= _) _ _ s;refine wpAny_bind (comp_core (use := some (assign (.Name x pos') X.env)) hc hi hcell hkind hnames hfree hcapN hcapF hcapK hg hf he hs I h fun D Z s6 H5 hm hI hz h0 h1 h2 h3 q=>?_);obtain ⟨m,hm⟩ := hm;have I6 := hI s6.heap (Heap.SameBut.refl _ _);refine wpAny_assign_Name (store_ok2 I6 hN hx (.inl hk) (show RelV (.ref D) (.ref D) from rfl) (fun s' I' hch=>?_) (.inr hk))
 obtain ⟨a,sb,ha⟩ := hch;have na : Z ≠ a := by
  rcases ha with rfl | ha
  . exact h1
  . exact fun z=>h2 x a ha z.symm
 exact ⟨m,hm.sameBut sb na,fun h'' hs2=>wpAny_pure (wpAny_pure ⟨_,H5,I'.dropped hs2 hz h0 h1 h2 h3,q⟩)⟩
end L2
namespace D3
open PySem PySem.Spec PyProof.Rows L2
def subR (caps : List Nat) (ρ : Rho) : Rho := caps.map fun i=>match ρ[i]? with | some (some (false,d))=>some (false,d) | _=>none
def compL (k : D -> Rho -> Option Rho) (t e : Rho -> Res) (ρ0 : Rho) : List D -> Option (List D)
 | []=>some []
 | d :: ds=>match k d ρ0 with
  | none=>none
  | some ρ1=>match t ρ1 with
   | .ok _ (.bl true)=>(match frzR (e ρ1) with | .ok _ y=>(compL k t e ρ0 ds).map (y :: ·) | _=>none)
   | .ok _ (.bl false)=>compL k t e ρ0 ds
   | _=>none
def compR (src : Res) (ρ : Rho) (caps : List Nat) (n : Nat) (k : D -> Rho -> Option Rho) (t e : Rho -> Res) : Res := src.thn fun _ d=>match d with
 | .lst ds=>if ds.length < sizeLine then (match compL k t e (subR caps ρ ++ List.replicate n none) ds with | some ys=>.ok .fr (.lst ys) | none=>.stuck) else .stuck
 | _=>.stuck
abbrev Cw.nox (C : Cw) : Cw := { C with EE := fun _ _ _=>False }
theorem Step.upd {F H F' H' : Hp} {x : Addr} {o : HO} (st : Step F H F' H') (hx : H x = none) (hx' : F' x = none) : Step F H F' (L2.upd H' x o) :=
 ⟨fun b u q=>by rw [upd_ne (ne_of_none q hx)];exact st.same b u q,st.fsame,fun b u q=>by rw [upd_ne (ne_of_none q hx')];exact st.sub b u q,st.new⟩
section
variable {C : Cw} {X : Cx} {e : Expr} {g : Rho -> Res} {pos p : Pos}
theorem pifs_nilv : PIfs X [] (tT (C.at X) fun _=>.ok .fz (.bl true)) := fun pins s σ H Q I h=>by obtain ⟨ρ,F,R,w⟩ := h;exact pifs_nil pins s σ H Q I (w F H (.refl R.sub))
theorem pifs_consv {c : Expr} {cs : List Expr} {ga gb : Rho -> Res} (hc : PTv C X c ga) (hr : PIfs X cs (tT (C.at X) gb)) : PIfs X (c :: cs) (tT (C.at X) fun ρ=>andR (ga ρ) (gb ρ)) := fun pins s σ H Q I h =>
 pifs_cons hc hr pins s σ H Q I (tT_and h)
theorem relSt_sub {K : Fg} {F0 H0 F H : Hp} {σ : L2.St} {ρ : Rho} (caps : List Nat) (n : Nat) (R : RelSt K F0 H0 F H σ ρ) : RelSt K F0 H0 F H (subS caps σ ++ List.replicate n none) (subR caps ρ ++ List.replicate n none) := by
 have low : ∀ (i : Nat) (m : Bool) (d : D),(subR caps ρ ++ List.replicate n none)[i]? = some (some (m,d)) -> m = false /\ ∃ v,(subS caps σ ++ List.replicate n none)[i]? = some (some v) /\ RepV K F d v := fun i m d e=>by
  by_cases hi : i < caps.length
  . rw [List.getElem?_append_left (by simpa [subR] using hi)] at e
    rw [List.getElem?_append_left (by simpa [subS] using hi)]
    unfold subR at e;unfold subS;rw [List.getElem?_map,List.getElem?_eq_getElem hi] at e ⊢;simp only [Option.map_some,Option.some.injEq] at e;cases z : ρ[caps[i]]? with
    | none=>rw [z] at e;cases e
    | some o =>
     rw [z] at e;cases o with
     | none=>cases e
     | some q =>
      obtain ⟨b,d'⟩ := q;cases b with
      | true=>cases e
      | false=>cases e;obtain ⟨v,e1,r,_⟩ := R.slot _ _ _ z;exact ⟨rfl,v,by simp [e1],r⟩
  . rw [List.getElem?_append_right (by simpa [subR] using hi),List.getElem?_replicate] at e
    split at e <;> cases e
 refine ⟨R.st,fun i m d e=>?_,fun i j d d' a _ e1 _ _ _=>?_,by simp [subS,subR]⟩
 . obtain ⟨rfl,v,e1,r⟩ := low i m d e;exact ⟨v,e1,r,by intro z;cases z⟩
 . have := (low i true d e1).1;cases this
end
mutual
def toPy : D -> Option PyData
 | .non=>some .none
 | .bl b=>some (.bool b)
 | .int i=>some (.int i)
 | .str x=>some (.str x)
 | .tup ds=>(toPyL ds).map .tuple
 | .lst ds=>(toPyL ds).map .list
 | _=>none
def toPyL : List D -> Option (List PyData)
 | []=>some []
 | d :: ds=>match toPy d,toPyL ds with
  | some p,some ps=>some (p :: ps)
  | _,_=>none
end
section
variable {X : Cx} {pins : LAO} {σ : L2.St} {F H : Hp} {s : Shared}
mutual
theorem reads_of (I : Inv X pins σ H s) (sF : Same F H) : ∀ (d : D) (p : PyData) (v : V) (u : Value),RepV X.K F d v -> RelV v u -> toPy d = some p -> (∃ as,Reads s.heap u p as) /\ p.canLay0 = true
 | .non,p,v,u,h,r,e=>by simp only [RepV] at h;subst h;cases r;simp only [toPy] at e;cases e;exact ⟨⟨_,.none⟩,rfl⟩
 | .bl b,p,v,u,h,r,e=>by simp only [RepV] at h;subst h;cases r;simp only [toPy] at e;cases e;exact ⟨⟨_,.bool b⟩,rfl⟩
 | .int i,p,v,u,h,r,e=>by simp only [RepV] at h;subst h;obtain ⟨t,rfl⟩ := r;simp only [toPy] at e;cases e;exact ⟨⟨_,.int i t⟩,rfl⟩
 | .str x,p,v,u,h,r,e=>by simp only [RepV] at h;obtain ⟨rfl,_,hk⟩ := h;obtain ⟨t,rfl⟩ := r;simp only [toPy] at e;cases e;exact ⟨⟨_,.str x t⟩,by simpa only [PyData.canLay0] using hk⟩
 | .tup ds,p,v,u,h,r,e=>by
  simp only [RepV] at h;obtain ⟨a,xs,rfl,q,rl⟩ := h;cases r;simp only [toPy] at e;cases ep : toPyL ds with
  | none=>rw [ep] at e;cases e
  | some ps=>rw [ep] at e;cases e;obtain ⟨its,rv,⟨o,h1,h2,n,h3⟩,_⟩ := I.tuple (Same.seqT sF q);obtain ⟨⟨as,ra⟩,hc⟩ := readsL_of I sF ds ps xs its rl rv ep;exact ⟨⟨_,.tuple h1 h2 h3 (by simpa using ra)⟩,by simpa only [PyData.canLay0] using hc⟩
 | .lst ds,p,v,u,h,r,e=>by
  simp only [RepV] at h;obtain ⟨a,xs,rfl,q,rl⟩ := h;cases r;simp only [toPy] at e;cases ep : toPyL ds with
  | none=>rw [ep] at e;cases e
  | some ps=>rw [ep] at e;cases e;obtain ⟨its,rv,⟨o,n,h1,h2,_,h3⟩,_⟩ := I.list (sF.seq q);obtain ⟨⟨as,ra⟩,hc⟩ := readsL_of I sF ds ps xs its rl rv ep;exact ⟨⟨_,.list h1 h2 h3 (by simpa using ra)⟩,by simpa only [PyData.canLay0] using hc⟩
 | .dct _,p,v,u,h,r,e=>by simp only [toPy] at e;cases e
 | .ty _,p,v,u,h,r,e=>by simp only [toPy] at e;cases e
 | .ob _,p,v,u,h,r,e=>by simp only [toPy] at e;cases e
 | .ins _ _,p,v,u,h,r,e=>by simp only [toPy] at e;cases e
 | .fn _,p,v,u,h,r,e=>by simp only [toPy] at e;cases e
 | .exn _,p,v,u,h,r,e=>by simp only [toPy] at e;cases e
 | .set _,p,v,u,h,r,e=>by simp only [toPy] at e;cases e
theorem readsL_of (I : Inv X pins σ H s) (sF : Same F H) : ∀ (ds : List D) (ps : List PyData) (xs : List V) (us : List Value),RepL X.K F ds xs -> Vals xs us -> toPyL ds = some ps -> (∃ as,ReadsAll s.heap us ps as) /\ PyData.canLayAll0 ps = true
 | [],ps,xs,us,h,r,e=>by simp only [RepL] at h;subst h;cases r;simp only [toPyL] at e;cases e;exact ⟨⟨_,.nil⟩,rfl⟩
 | d :: ds,ps,xs,us,h,r,e=>by
  simp only [RepL] at h;obtain ⟨y,ys,rfl,hd,hl⟩ := h;cases r with
  | cons r1 r2 =>
   simp only [toPyL] at e;cases e1 : toPy d with
   | none=>rw [e1] at e;cases e
   | some p =>
    cases e2 : toPyL ds with
    | none=>rw [e1,e2] at e;cases e
    | some ps'=>rw [e1,e2] at e;cases e;obtain ⟨⟨as,ra⟩,hc⟩ := reads_of I sF d p y _ hd r1 e1;obtain ⟨⟨bs,rb⟩,hc'⟩ := readsL_of I sF ds ps' ys _ hl r2 e2;exact ⟨⟨_,.cons ra rb⟩,by simp only [PyData.canLayAll0,hc,hc',Bool.and_self]⟩
end
theorem reads_rp (I : Inv X pins σ H s) (sF : Same F H) {m : Md} {d : D} {p : PyData} {v : V} {u : Value} (h : Rp X.K F H m d v) (r : RelV v u) (e : toPy d = some p) : (∃ as,Reads s.heap u p as) /\ p.canLay0 = true := by
 cases m with
 | fz=>exact reads_of I sF d p v u h r e
 | _ =>
  obtain ⟨a,rfl,n,t⟩ := h;cases d with
  | lst ds =>
   obtain ⟨xs,q,rl⟩ := t;cases r;simp only [toPy] at e;cases ep : toPyL ds with
   | none=>rw [ep] at e;cases e
   | some ps=>rw [ep] at e;cases e;obtain ⟨its,rv,⟨o,n,h1,h2,_,h3⟩,_⟩ := I.list (SqL.of q);obtain ⟨⟨as,ra⟩,hc⟩ := readsL_of I sF ds ps xs its rl rv ep;exact ⟨⟨_,.list h1 h2 h3 (by simpa using ra)⟩,by simpa only [PyData.canLay0] using hc⟩
  | dct ds=>simp only [toPy] at e;cases e
  | ins _ _=>simp only [toPy] at e;cases e
  | set _=>simp only [toPy] at e;cases e
  | _=>exact t.elim
end
def shal (p : PyData) : Bool := decide (p.depth <= 50)
def eqF (neg : Bool) : Md -> D -> Md -> D -> Option (Md × D) := fun _ x _ y=>match toPy x,toPy y with
 | some p,some q=>if (shal p && shal q) = true then some (.fz,.bl (if neg then !PyData.eqv p q else PyData.eqv p q)) else none
 | _,_=>none
section
variable {C : Cw} {X : Cx}
theorem opd_cmpD {f : Value -> Value -> Sem Value} {neg : Bool} (hu : X.A.units + 64 < cLine) (rule : ∀ (s : Shared) (a b : Value) (da db : PyData) (as bs : List Addr) (Q : VSP),Reads s.heap a da as -> Reads s.heap b db bs -> da.canLay0 = true -> db.canLay0 = true -> X.A.units + min da.depth db.depth < cLine -> Q (.bool (if neg then !PyData.eqv da db else PyData.eqv da db)) s -> wpAny (model X.prog X.w) X.A (f a b) Q X.xe s) : OpD C X f (eqF neg) := by
 refine ⟨fun x y H Q=>∃ F m n d e p q,Same F H /\ Rp X.K F H m d x /\ Rp X.K F H n e y /\ toPy d = some p /\ toPy e = some q /\ (shal p && shal q) = true /\ Q (.bl (if neg then !PyData.eqv p q else PyData.eqv p q)) H,?_,?_⟩
 . intro pins s σ H x y v u Q I rx ry h;obtain ⟨F,m,n,d,e,p,q,sF,hd,he,ep,eq,hs,hQ⟩ := h;obtain ⟨⟨as,ra⟩,ca⟩ := reads_rp I sF hd rx ep;obtain ⟨⟨bs,rb⟩,cb⟩ := reads_rp I sF he ry eq;rw [Bool.and_eq_true] at hs;have h1 := of_decide_eq_true hs.1;refine rule s v u p q as bs _ ra rb ca cb (by have := Nat.min_le_left p.depth q.depth;omega) ⟨.bl _,H,I,rfl,hQ⟩
 . intro F H m x n y v u k d Q s rx ry e w;unfold eqF at e;split at e
   . rename_i p q ep eq;split at e
     . rename_i hc;cases e;exact ⟨F,m,n,x,y,p,q,s,rx,ry,ep,eq,hc,w _ F H (.refl s) (rp_bl _) (by intro z;cases z)⟩
     . cases e
   . cases e
theorem opd_eq (hu : X.A.units + 64 < cLine) : OpD C X (compareOp .Eq) (eqF false) := opd_cmpD hu fun s a b da db as bs Q ra rb ca cb hd q=>SeqAt.compareEq_reads ra rb ca cb hd q
theorem opd_ne (hu : X.A.units + 64 < cLine) : OpD C X (compareOp .NotEq) (eqF true) := opd_cmpD hu fun s a b da db as bs Q ra rb ca cb hd q=>SeqAt.compareNe_reads ra rb ca cb hd q
def eqK (neg : Bool) : Md -> D -> Md -> D -> Option (Md × D) := fun _ x _ y=>match x,y with
 | .dct [(k,d)],.dct [(l,e)]=>(match toPy d,toPy e with
  | some p,some q=>if (shal p && shal q) = true then some (.fz,.bl (if neg then !(decide (k = l) && PyData.eqv p q) else (decide (k = l) && PyData.eqv p q))) else none
  | _,_=>none)
 | _,_=>none
end
def MtD (X : Cx) (id : String) (φ : Md -> D -> List (Md × D) -> Option (Md × D)) : Prop :=
 ∃ r : V -> List V -> Hp -> VK -> Prop,MtR X id r /\ ∀ F H m x xs v vs k d Q,Same F H -> Rp X.K F H m x v -> RpL X.K F H xs vs -> φ m x xs = some (k,d) ->
  (∀ v' F' H',Step F H F' H' -> Rp X.K F' H' k d v' -> (k = .fr -> ∀ a,v' = .ref a -> H a = none) -> Q v' H') -> r v vs H Q
def isTyD (T : String) (d : D) : Bool := tyN d == some T
def mthR (T : String) (φ : Md -> D -> List (Md × D) -> Option (Md × D)) (o : Res) (r : ResL) : Res := o.thn fun m x=>if isTyD T x = true then r.thn fun xs=>Res.of (φ m x xs) else .stuck
section
variable {C : Cw} {X : Cx} {o e : Expr} {es : List Expr} {go : Rho -> Res} {gs : Rho -> ResL} {apos cpos : Pos} {T id : String} {name : Str}
theorem tyV_of {K : Fg} {F H : Hp} {m : Md} {d : D} {v : V} (s : Same F H) (r : Rp K F H m d v) (h : isTyD T d = true) : T = "str" \/ T = "list" -> tyV K T v H := by
 have h : tyN d = some T := by simpa [isTyD] using h
 intro hT;cases d with
 | str x=>cases h;obtain ⟨rfl,_⟩ := r.str;exact rfl
 | lst ds=>cases h;obtain ⟨a,xs,rfl,q,_⟩ := r.seqL s;exact .inl ⟨rfl,xs,q⟩
 | tup ds=>cases h;rcases hT with z | z <;> exact absurd z (by decide)
 | non=>cases h;rcases hT with z | z <;> exact absurd z (by decide)
 | bl b=>cases h;rcases hT with z | z <;> exact absurd z (by decide)
 | int b=>cases h;rcases hT with z | z <;> exact absurd z (by decide)
 | dct b=>cases h;rcases hT with z | z <;> exact absurd z (by decide)
 | ty b=>cases h
 | ob b=>cases h
 | ins b _=>cases h
 | fn b=>cases h
 | exn b=>cases h
 | set b=>cases h
theorem pv_mt {φ} (hT : T = "str" \/ T = "list") (pa : PlainAttrs T) (slot : Slot T name id) (hty : typeOf (.builtin id) = pure (.type "method_descriptor")) (hm : MtD X id φ) (ho : PV C X o go) (ha : PAv C X (e :: es) gs) (hbase : attributeBase o name X.env (eval o X.env) = eval o X.env := by rfl) (hfew : ((backTo cpos (starEach (e :: es) X.env)).all (fun x=>!x.1) && (backToKw cpos (keywordEach [] X.env)).all (fun x=>x.1.isSome) && decide ((e :: es).length + ([] : List Keyword).length + (if ([] : List Keyword).isEmpty then 0 else 1) < 30)) = true := by rfl) (hline : (apos.endLine == cpos.line) = true := by rfl) (hs : starEach (e :: es) X.env = (false,eval e X.env) :: starEach es X.env := by rfl) (hplain : (backTo cpos (starEach es X.env)).any (·.1) = false := by rfl) : PV C X (.Call (.Attribute o name apos) (e :: es) [] cpos) (fun ρ=>mthR T φ (go ρ) (gs ρ)) := by
 obtain ⟨r,h1,h2⟩ := hm;refine PE.imp (pe_bm pa slot hty h1 ho ha hbase hfew hline hs hplain) fun σ H Q q=>?_;unfold tBM;rw [tG_eq] at q ⊢;obtain ⟨ρ,F,R,w⟩ := q;refine ⟨ρ,F,R,?_⟩;cases er : go ρ with
 | stuck=>rw [er] at w;exact w
 | exc c=>rw [er] at w;exact w
 | ok m d =>
  rw [er] at w;intro v F1 H1 s1 r1 _;have w1 : Want (C.at X) F1 H1 σ (if isTyD T d = true then (gs ρ).thn fun xs=>Res.of (φ m d xs) else .stuck) Q := Want.step s1 w;split at w1
  . rename_i ht;refine ⟨tyV_of s1.sub r1 ht hT,ρ,F1,R.step s1,?_⟩;cases es' : gs ρ with
    | stuck=>rw [es'] at w1;exact w1
    | exc c=>rw [es'] at w1;exact w1
    | ok xs =>
     rw [es'] at w1;intro vs F2 H2 s2 r2;have w2 : Want (C.at X) F2 H2 σ (Res.of (φ m d xs)) Q := Want.step s2 w1;cases ef : φ m d xs with
     | none=>rw [ef] at w2;exact w2.elim
     | some kd=>obtain ⟨k,d'⟩ := kd;rw [ef] at w2;exact h2 F2 H2 m d xs v vs k d' Q s2.sub (r1.step s2) r2 ef w2
  . exact w1.elim
def strsD : List D -> Option (List Str)
 | []=>some []
 | .str x :: r=>(strsD r).map (x :: ·)
 | _=>none
def joinD : Md -> D -> List (Md × D) -> Option (Md × D) := fun _ x xs=>match x,xs with
 | .str z,[(_,.lst ds)]=>(match strsD ds with
  | some ys=>if (ys.map (·.length)).sum + ys.length * z.length <= sizeLine then some (.fz,.str (Txt.join z ys)) else none
  | none=>none)
 | _,_=>none
theorem strsD_rep {K : Fg} {F : Hp} : ∀ {ds : List D} {xs : List V} {ys : List Str},RepL K F ds xs -> strsD ds = some ys -> xs = ys.map V.str /\ ∀ y ∈ ys,PyData.strOk y = true
 | [],_,_,h,e=>by cases e;simp only [RepL] at h;exact ⟨h,fun _ z=>by cases z⟩
 | d :: ds,_,_,h,e=>by
  simp only [RepL] at h;obtain ⟨y,ys,rfl,r,t⟩ := h;cases d with
  | str b =>
   unfold strsD at e;cases q : strsD ds with
   | none=>rw [q] at e;cases e
   | some bs =>
    rw [q] at e;cases e;simp only [RepV] at r;obtain ⟨rfl,_,hk⟩ := r;obtain ⟨rfl,hh⟩ := strsD_rep t q;refine ⟨rfl,fun y hy=>?_⟩;rcases List.mem_cons.mp hy with rfl | hy
    . exact hk
    . exact hh y hy
  | _=>cases e
theorem strsAre_of : ∀ {ys : List Str} {us : List Value},Vals (ys.map V.str) us -> StrsAre us ys
 | [],_,h=>by cases h;exact .nil
 | y :: ys,_,h=>by
  cases h with
  | cons r t=>obtain ⟨tk,rfl⟩ := r;exact .cons y tk (strsAre_of t)
theorem strOk_join {z : Str} (hz : PyData.strOk z = true) : ∀ {ys : List Str},(∀ y ∈ ys,PyData.strOk y = true) -> PyData.strOk (Str.join z ys) = true
 | [],_=>by show PyData.strOk Str.empty = true;decide +kernel
 | [x],h=>h x mcs
 | x :: y :: r,h=>by show PyData.strOk (x ++ z ++ Str.join z (y :: r)) = true;exact strOk_append (strOk_append (h x mcs) hz) (strOk_join hz fun w hw=>h w (mcm hw))
theorem txt_join (z : Str) (ys : List Str) : Txt.join z ys = Str.join z ys := StrLaws.glued_eq_join z ys
theorem mtd_join : MtD X "str.join" joinD := by
 refine ⟨fun v vs H Q=>∃ (z : Str) (a : Addr) (ys : List Str),v = .str z /\ vs = [.ref a] /\ SqL X.K H a (ys.map V.str) /\ (ys.map (·.length)).sum + ys.length * z.length <= sizeLine /\ Q (.str (Txt.join z ys)) H,?_,?_⟩
 . intro pins s σ H x xs v us Q I rx r h;obtain ⟨z,a,ys,rfl,rfl,hq,hl,q⟩ := h;obtain ⟨t,rfl⟩ := rx;obtain ⟨u,rfl,ru⟩ := vals1 r;cases (show u = Value.ref a from ru)
   obtain ⟨its,rv,p,hz⟩ := I.list hq;have hs : sizeLine = 16777216 := sizeLine_eq;exact join_list p.isList (by simpa using strsAre_of rv) (by omega) fun t' k=>⟨.str (Txt.join z ys),H,I.tok _,⟨_,rfl⟩,q⟩
 . intro F H m x xs v vs k d Q s rx rl e w;unfold joinD at e;split at e
   . rename_i z m' ds;obtain ⟨rfl,hz,hk⟩ := rx.str;obtain ⟨u,rfl,r⟩ := rl.one;obtain ⟨a,ws,rfl,hq,rr⟩ := r.seqL s;split at e
     . rename_i ys ey;split at e
       . rename_i hl;cases e;obtain ⟨rfl,hys⟩ := strsD_rep rr ey;refine ⟨z,a,ys,rfl,rfl,hq,hl,w _ F H (.refl s) (rp_str ⟨?_,?_⟩) (by intro z;cases z)⟩
         . rw [txt_join];exact Nat.le_trans (StrLaws.join_length_le z ys) hl
         . rw [txt_join];exact strOk_join hk hys
       . cases e
     . cases e
   . cases e
end
def spV (K : Fg) (mg : SOV) (n : Nat) (Φ : List D -> Res) : Sp := fun vs H Q E=>vs.length = n /\ ∃ F ds,Same F H /\ RepL K F ds vs /\ match Φ ds with
 | .ok m d=>m ≠ .bo /\ ∀ v F' H',Step F H F' H' -> Rp K F' H' m d v -> (m = .fr -> ∀ a,v = .ref a -> H a = none) -> Q v H'
 | .exc c=>∀ F' H' u,Step F H F' H' -> mg c = some u -> E u none H'
 | .stuck=>False
structure FnV (P : Program) (w : World) (K : Fg) (mg : SOV) (base : Heap) (CX : CXT) (k : Nat) (x : Str) (n : Nat) (Φ : List D -> Res) : Prop where
 ex : ∃ f fd ps,FnOk P w K mg base CX k f fd ps (spV K mg n Φ) /\ mg x = some (.ref f) /\ PySem.W.keepIn K (.ref f) = true /\ Binds K fd ps []
def callF (n : Nat) (Φ : List D -> Res) (r : ResL) : Res := r.thn fun xs=>match allFz xs with
 | some ds=>if ds.length = n then (match Φ ds with | .ok .bo _=>.stuck | r=>r) else .stuck
 | none=>.stuck
def XOk (CX : CXT) (C : Cw) (X : Cx) : Prop := ∀ (pins : LAO) (σ : L2.St) (H : Hp) (s : Shared) (e : Value) (s' : Shared),Inv X pins σ H s -> CX X.stack H s (fun u _ H'=>∃ c,X.mg c = some u /\ C.EE c σ H') e s' -> X.xe e s'
section
variable {C : Cw} {X : Cx} {e : Expr} {es : List Expr} {gs : Rho -> ResL} {p pos : Pos} {x : Str} {k n : Nat} {Φ : List D -> Res} {CX : CXT}
theorem run_V {f : Addr} {fd : FuncData} {ps : List Str} {pins : LAO} {σ : L2.St} {H : Hp} {s : Shared} {Q : VK} {us : List Value} {vs : List V} {E : XK} (F : FnOk X.prog X.w X.K X.mg X.base CX k f fd ps (spV X.K X.mg n Φ)) (hr : Room k X.A) (hb : Binds X.K fd ps []) (hx : ∀ e s',CX X.stack H s E e s' -> X.xe e s') (I : Inv X pins σ H s) (r : Vals vs us) (h : spV X.K X.mg n Φ vs H Q E) : wpAny (model X.prog X.w) X.A (call (.ref f) us) (EP X pins σ Q) X.xe s := by
 have hl : (us ++ []).length = ps.length := by rw [List.append_nil,<- r.length];exact F.len _ _ _ _ h
 have hb' := hb s us I.kIn hl;rw [List.append_nil] at hb';refine wpAny_call (codeAny_mono (F.run X.A X.stack s H ⟨us,[]⟩ us vs Q E hr I.env0 hb' r h) fun r s' hq=>?_);cases r with
 | error e=>exact hx e s' hq
 | ok fl =>
  cases fl with
  | ret u=>exact I.after hq
  | next=>exact False.elim hq
  | brk=>exact False.elim hq
  | cont=>exact False.elim hq
theorem pv_call (F : FnV X.prog X.w X.K X.mg X.base CX k x n Φ) (hr : Room k X.A) (hx : XOk CX (C.at X) X) (hg : Gl X x) (ha : PAv C X (e :: es) gs) (hdb : (x == ("__debug__" : Str)) = false := by decide) (he : starEach (e :: es) X.env = (false,eval e X.env) :: starEach es X.env := by rfl) (hpl : (backTo pos (starEach es X.env)).any (·.1) = false := by rfl) : PV C X (.Call (.Name x p) (e :: es) [] pos) (fun ρ=>callF n Φ (gs ρ)) := by
 obtain ⟨f,fd,ps,FF,hm,hk,hb⟩ := F.ex;intro pins s σ H Q I h;rw [tG_eq] at h;obtain ⟨ρ,F,R,w⟩ := h;refine wpAny_Call_Name_kw (ld_glob I hg hm ?_ hdb);refine PySem.W.callWith_K (h₀ := X.base) I.ok.mod.kin hk (thn (ha pos pins s σ H (fun vs H1=>spV X.K X.mg n Φ vs H1 Q fun u _ H'=>∃ c,X.mg c = some u /\ C.EE c σ H') I ?_) fun us s1 ⟨vs,H1,I1,r,q⟩=>⟨I1.kIn,run_V FF hr hb (fun e s' hc=>hx pins σ H1 s1 e s' I1 hc) I1 r q⟩) he hpl;refine ⟨ρ,F,R,?_⟩;cases er : gs ρ with
 | stuck=>rw [er] at w;exact w
 | exc c=>rw [er] at w;exact w
 | ok xs =>
  rw [er] at w;intro vs F1 H1 s1 r1;have w1 : Want (C.at X) F1 H1 σ (callF n Φ (.ok xs)) Q := Want.step s1 w;unfold callF at w1;rw [ResL.thn_ok] at w1;cases ef : allFz xs with
  | none=>rw [ef] at w1;exact w1.elim
  | some ds =>
   rw [ef] at w1;dsimp only at w1;split at w1
   . rename_i hn;have rl := r1.fz ef;refine ⟨by rw [rl.length];exact hn,F1,ds,s1.sub,rl,?_⟩
     cases ep : Φ ds with
     | stuck=>rw [ep] at w1;exact w1
     | exc c=>rw [ep] at w1;exact fun F' H' u st hu=>⟨c,hu,w1 F' H' st⟩
     | ok m d =>
      rw [ep] at w1;cases m with
      | bo=>exact w1.elim
      | fz=>exact ⟨by decide,w1⟩
      | fr=>exact ⟨by decide,w1⟩
   . exact w1.elim
end
def endR : SRes -> Res
 | .nx _=>.ok .fz .non
 | .rt m d=>.ok m d
 | .exc c _=>.exc c
 | _=>.stuck
def startR (n : Nat) (ds : List D) : Rho := ds.map (fun d=>some (false,d)) ++ List.replicate (n - ds.length) none
theorem relSt_start {K : Fg} {F H : Hp} {N : List Str} {ds : List D} {vs : List V} (s : Same F H) (r : RepL K F ds vs) : RelSt K F H F H (start N vs) (startR N.length ds) := by
 have low : ∀ (i : Nat) (m : Bool) (d : D),(startR N.length ds)[i]? = some (some (m,d)) -> m = false /\ ∃ v,(start N vs)[i]? = some (some v) /\ RepV K F d v := fun i m d e=>by
  unfold startR at e;unfold L2.start;by_cases hi : i < ds.length
  . rw [List.getElem?_append_left (by simpa using hi),List.getElem?_map,List.getElem?_eq_getElem hi] at e
    cases e;obtain ⟨v,ev,rv⟩ := r.get' (List.getElem?_eq_getElem hi);exact ⟨rfl,v,by rw [List.getElem?_append_left (by simpa [r.length] using hi),List.getElem?_map,ev];rfl,rv⟩
  . rw [List.getElem?_append_right (by simpa using hi),List.getElem?_replicate] at e
    split at e <;> cases e
 refine ⟨.refl s,fun i m d e=>?_,fun i j d d' a _ e1 _ _ _=>?_,by simp [L2.start,startR,r.length]⟩
 . obtain ⟨rfl,v,e1,rv⟩ := low i m d e;exact ⟨v,e1,rv,by intro z;cases z⟩
 . have := (low i true d e1).1;cases this
def lawIn (ns : List Int) : List D := [.lst (ns.map .int)]
theorem repL_ints {K : Fg} {F : Hp} : ∀ ns : List Int,RepL K F (ns.map D.int) (ns.map V.int)
 | []=>RepL.nil
 | n :: ns=>RepL.cons (by simp only [RepV]) (repL_ints ns)
def noK : Md -> D -> Md -> D -> Option (Md × D) := fun _ _ _ _=>none
abbrev fAdd : Md -> D -> Md -> D -> Option (Md × D) := orO (fI (fun _ _=>true) fun i j=>.int (i + j)) (fS (fun i j=>decide (i.length + j.length <= sizeLine)) fun i j=>.str (i ++ j))
abbrev fSub : Md -> D -> Md -> D -> Option (Md × D) := fI (fun _ _=>true) fun i j=>.int (i - j)
abbrev fMul : Md -> D -> Md -> D -> Option (Md × D) := orO (fI (fun i j=>(bits i && bits j) || (w64 i || w64 j)) fun i j=>.int (i * j)) mulS
abbrev fMod : Md -> D -> Md -> D -> Option (Md × D) := fI (fun _ j=>decide (0 < j)) fun i j=>.int (i % j)
abbrev fDiv : Md -> D -> Md -> D -> Option (Md × D) := fI (fun _ j=>decide (0 < j) && bits j) fun i j=>.int (i / j)
abbrev fPow : Md -> D -> Md -> D -> Option (Md × D) := fI (fun i j=>decide (0 <= j) && decide (j <= 1000000) && decide (i.natAbs < 2 ^ 64)) fun i j=>.int (i ^ j.toNat)
abbrev fLt : Md -> D -> Md -> D -> Option (Md × D) := fI (fun _ _=>true) fun i j=>.bl (decide (i < j))
abbrev fLe : Md -> D -> Md -> D -> Option (Md × D) := fI (fun _ _=>true) fun i j=>.bl (decide (i <= j))
abbrev fGt : Md -> D -> Md -> D -> Option (Md × D) := fI (fun _ _=>true) fun i j=>.bl (decide (j < i))
abbrev fGe : Md -> D -> Md -> D -> Option (Md × D) := fI (fun _ _=>true) fun i j=>.bl (decide (j <= i))
abbrev fEq : Md -> D -> Md -> D -> Option (Md × D) := orO (eqF false) noK
abbrev fNe : Md -> D -> Md -> D -> Option (Md × D) := orO (eqF true) noK
abbrev fIn : Md -> D -> Md -> D -> Option (Md × D) := fS (fun _ _=>true) fun i j=>.bl (isIn i j)
abbrev fNotIn : Md -> D -> Md -> D -> Option (Md × D) := fS (fun _ _=>true) fun i j=>.bl (!isIn i j)
def IsB (φ : Md -> D -> Md -> D -> Option (Md × D)) : Prop := ∀ m x n y k d,φ m x n y = some (k,d) -> ∃ t,k = .fz /\ d = .bl t
theorem isB_I {c : Int -> Int -> Bool} {g : Int -> Int -> Bool} : IsB (fI c fun i j=>.bl (g i j)) := fun m x n y k d e=>by
 unfold fI at e;split at e
 . split at e
   . cases e;exact ⟨_,rfl,rfl⟩
   . cases e
 . cases e
theorem isB_S {c : Str -> Str -> Bool} {g : Str -> Str -> Bool} : IsB (fS c fun i j=>.bl (g i j)) := fun m x n y k d e=>by
 unfold fS at e;split at e
 . split at e
   . cases e;exact ⟨_,rfl,rfl⟩
   . cases e
 . cases e
theorem isB_or {φ ψ} (h : IsB φ) (h' : IsB ψ) : IsB (orO φ ψ) := fun m x n y k d e=>by
 unfold orO at e;cases e1 : φ m x n y with
 | none=>rw [e1] at e;exact h' _ _ _ _ _ _ e
 | some p=>rw [e1] at e;cases e;exact h _ _ _ _ _ _ e1
theorem isB_eqF {neg : Bool} : IsB (eqF neg) := fun m x n y k d e=>by
 unfold eqF at e;split at e
 . split at e
   . cases e;exact ⟨_,rfl,rfl⟩
   . cases e
 . cases e
section
variable {C : Cw} {X : Cx}
theorem opd_noK {f : Value -> Value -> Sem Value} : OpD C X f noK := ⟨fun _ _ _ _=>False,fun _ _ _ _ _ _ _ _ _ _ _ _ h=>h.elim,fun _ _ _ _ _ _ _ _ _ _ _ _ _ _ e _=>by cases e⟩
theorem o_add : OpD C X (binaryOp .Add) fAdd := opd_add.or opd_addS
theorem o_mul : OpD C X (binaryOp .Mult) fMul := opd_mul.or opd_mulS
theorem o_eq (hu : X.A.units + 64 < cLine) : OpD C X (compareOp .Eq) fEq := (opd_eq hu).or opd_noK
theorem o_ne (hu : X.A.units + 64 < cLine) : OpD C X (compareOp .NotEq) fNe := (opd_ne hu).or opd_noK
def phi (n N : Nat) (g : Rho -> SRes) : List D -> Res := fun ds=>if ds.length = n then endR (g (startR N ds)) else .stuck
end
def relSc (scope sc : Scope) : List (Str × NameKind) := scope.names.map fun (n,k)=>if (k == .free && sc.kind == .function && sc.names.lookup n == some .cell) then (n,.cell) else (n,k)
theorem bb_len : bootBuiltins "len" = some (.builtin "len") := by decide +kernel
theorem bb_isinstance : bootBuiltins "isinstance" = some (.builtin "isinstance") := by decide +kernel
theorem bb_all : bootBuiltins "all" = some (.builtin "all") := by decide +kernel
theorem bb_any : bootBuiltins "any" = some (.builtin "any") := by decide +kernel
theorem bb_int : bootBuiltins "int" = some (.type "int") := by decide +kernel
theorem bb_bool : bootBuiltins "bool" = some (.type "bool") := by decide +kernel
theorem bb_str : bootBuiltins "str" = some (.type "str") := by decide +kernel
theorem bb_tuple : bootBuiltins "tuple" = some (.type "tuple") := by decide +kernel
theorem bb_list : bootBuiltins "list" = some (.type "list") := by decide +kernel
theorem bb_dict : bootBuiltins "dict" = some (.type "dict") := by decide +kernel
structure CI where
 name : Str
 ups : List Str
 flds : List Str
 meths : List (Str × Str × Nat)
def notStar : Expr -> Bool | .Starred ..=>false | _=>true
def notSup : Expr -> Bool | .Call (.Name x _) [] [] _=>x != "super" | _=>true
theorem star_cons {x : Expr} {es : List Expr} {env : Env} (h : notStar x = true) : starEach (x :: es) env = (false,eval x env) :: starEach es env := by cases x <;> first | rfl | cases h
theorem star_any (pos : Pos) (env : Env) : ∀ {es : List Expr},(∀ x ∈ es,notStar x = true) -> (backTo pos (starEach es env)).any (·.1) = false
 | [],_=>rfl
 | x :: es,h=>by rw [star_cons (h x mcs)];show ((false || (backTo pos (starEach es env)).any (·.1)) = false);rw [star_any pos env fun y hy=>h y (mcm hy)];rfl
theorem star_all (pos : Pos) (env : Env) : ∀ {es : List Expr},(∀ x ∈ es,notStar x = true) -> (backTo pos (starEach es env)).all (fun x=>!x.1) = true
 | [],_=>rfl
 | x :: es,h=>by rw [star_cons (h x mcs)];show ((true && (backTo pos (starEach es env)).all (fun x=>!x.1)) = true);rw [star_all pos env fun y hy=>h y (mcm hy)];rfl
theorem attrBase {o : Expr} {n : Str} {env : Env} {w : Sem Value} (h : notSup o = true) : attributeBase o n env w = w := by
 cases o with
 | Call f as ks pos =>
  cases f with
  | Name x p =>
   cases as with
   | nil =>
    cases ks with
    | nil=>show (if x != "super" || n == "__class__" || env.kindOf "super" != some .globalImplicit || env.kindOf "__class__" != some .free then w else _) = w;have : (x != ("super" : Str)) = true := h;rw [if_pos (by rw [this];rfl)]
    | cons _ _=>rfl
   | cons _ _=>rfl
  | _=>rfl
 | _=>rfl
structure MtV (P : Program) (w : World) (K : Fg) (mg : SOV) (base : Heap) (CX : CXT) (k : Nat) (c m : Str) (n : Nat) (Φ : List D -> Res) : Prop where
 ex : ∃ C f fd ps,PySem.W.nsIn K mainGlobals c = some (some (.ref C)) /\ Cls K C /\ Meth K C m f /\ FnOk P w K mg base CX k f fd ps (spV K mg n Φ) /\ Binds K fd ps []
structure FlV (K : Fg) (c f : Str) : Prop where
 ex : ∃ C,PySem.W.nsIn K mainGlobals c = some (some (.ref C)) /\ Cls K C /\ NoAttr K C f
def CI.meth (cl : List CI) (c m : Str) : Option (Str × Nat) := match cl.find? (fun i=>i.name == c) with
 | some i=>i.meths.lookup m
 | none=>none
section
variable {C : Cw} {X : Cx} {o e : Expr} {es : List Expr} {go : Rho -> Res} {gs : Rho -> ResL} {apos pos : Pos} {m f : Str} {k : Nat} {Φ : Str -> List D -> Res} {CX : CXT} {cl : List CI}
end
theorem RelSt.mut {K : Fg} {F0 H0 F H : Hp} {σ : L2.St} {ρ : Rho} {i : Nat} {d d' : D} {a : Addr} {o : HO} (R : RelSt K F0 H0 F H σ ρ) (e : ρ[i]? = some (some (true,d))) (ev : σ[i]? = some (some (.ref a))) (t : Top K F (upd H a o) a d') : RelSt K F0 H0 F (upd H a o) σ (ρ.set i (some (true,d'))) := by
 obtain ⟨v,ev',rp,hn⟩ := R.slot i true d e;rw [ev] at ev';cases ev';have h0 : H0 a = none := hn rfl a rfl;obtain ⟨a',ea,hf,tt⟩ := rp;cases ea;have hl : i < ρ.length := (List.getElem?_eq_some_iff.mp e).1;have st : Step F0 H0 F (upd H a o) := ⟨fun b u q=>by rw [upd_ne (ne_of_none q h0)];exact R.st.same b u q,R.st.fsame,fun b u q=>by rw [upd_ne (ne_of_none q hf)];exact R.st.sub b u q,R.st.new⟩
 refine ⟨st,fun j m d2 e2=>?_,fun j l d1 d2 b hjl e1 e2 q1 q2=>?_,by rw [List.length_set];exact R.len⟩
 . by_cases hj : j = i
   . subst hj;rw [List.getElem?_set_self hl] at e2;cases e2;exact ⟨.ref a,ev,⟨a,rfl,hf,t⟩,fun _ b eb=>by cases eb;exact h0⟩
   . rw [List.getElem?_set_ne (fun z=>hj z.symm)] at e2;obtain ⟨u,eu,ru,hu⟩ := R.slot j m d2 e2;refine ⟨u,eu,?_,hu⟩;cases m with
     | false=>exact ru
     | true =>
      obtain ⟨b,eb,hb,tb⟩ := ru;subst eb;have hba : b ≠ a := fun z=>by subst z;exact R.apart j i d2 d b hj e2 e eu ev
      refine ⟨b,rfl,hb,?_⟩;cases d2 with
      | lst ds=>obtain ⟨xs,q,r⟩ := tb;exact ⟨xs,by rw [upd_ne hba];exact q,r⟩
      | dct ds=>obtain ⟨xs,q,r⟩ := tb;exact ⟨xs,by rw [upd_ne hba];exact q,r⟩
      | ins c fs=>obtain ⟨C,dx,gs,n,q,r⟩ := tb;exact ⟨C,dx,gs,n,by rw [upd_ne hba];exact q,r⟩
      | set ks=>obtain ⟨S,q,r⟩ := tb;exact ⟨S,by rw [upd_ne hba];exact q,r⟩
      | _=>exact tb.elim
 . have back : ∀ (l : Nat) (d2 : D),(ρ.set i (some (true,d')))[l]? = some (some (true,d2)) -> ∃ d3,ρ[l]? = some (some (true,d3)) := fun l d2 q=>by
     by_cases hl' : l = i
     . subst hl';exact ⟨d,e⟩
     . rw [List.getElem?_set_ne (fun z=>hl' z.symm)] at q;exact ⟨d2,q⟩
   obtain ⟨d3,q3⟩ := back j d1 e1;obtain ⟨d4,q4⟩ := back l d2 e2;exact R.apart j l d3 d4 b hjl q3 q4 q1 q2
section
variable {C : Cw} {X : Cx} {e : Expr} {g : Rho -> Res} {pos p pos' : Pos} {f x : Str} {cl : List CI}
end
structure MkV0 (K : Fg) (mg : SOV) (c : Str) : Prop where
 ex : ∃ C,PySem.W.nsIn K mainGlobals c = some (some (.ref C)) /\ mg c = some (.ref C) /\ PySem.W.makesIn K C = true /\ PySem.W.findIn K (.ref C) "__init__" = some (some (.builtin "object.__init__")) /\ PySem.W.keepIn K (.ref C) = true
def spI (K : Fg) (mg : SOV) (c : Str) (n : Nat) (Φ : List D -> Res) : Sp := fun vs H Q E=>∃ x us dx C H1 F ds,vs = .ref x :: us /\ us.length = n /\ PySem.W.nsIn K mainGlobals c = some (some (.ref C)) /\
 H = upd (upd H1 dx (.own x)) x (.ins C dx []) /\ H1 x = none /\ H1 dx = none /\ dx ≠ x /\ Same F H1 /\ RepL K F ds us /\ match Φ ds with
 | .ok _ d=>∀ F' H',Step F H1 F' H' -> Rp K F' H' .fr d (.ref x) -> Q .non H'
 | .exc c=>∀ F' H' u,Step F H1 F' H' -> mg c = some u -> E u none H'
 | .stuck=>False
structure InV (P : Program) (w : World) (K : Fg) (mg : SOV) (base : Heap) (CX : CXT) (k : Nat) (c : Str) (n : Nat) (Φ : List D -> Res) : Prop where
 ex : ∃ C f fd ps,PySem.W.nsIn K mainGlobals c = some (some (.ref C)) /\ mg c = some (.ref C) /\ Mk K C f /\ FnOk P w K mg base CX k f fd ps (spI K mg c n Φ) /\ Binds K fd ps []
section
variable {C : Cw} {X : Cx} {e : Expr} {es : List Expr} {gs : Rho -> ResL} {p pos : Pos} {x c : Str} {k n : Nat} {Φ : List D -> Res} {CX : CXT}
end
structure IsV (K : Fg) (mg : SOV) (cl : List CI) (c : Str) : Prop where
 ex : ∃ C,mg c = some (.ref C) /\ (∀ t ∈ ["NoneType", "bool", "int", "str", "tuple", "list", "dict"],PySem.W.kitOne K (.type t) (.ref C) = some false) /\
  ∀ i ∈ cl,∃ C',PySem.W.nsIn K mainGlobals i.name = some (some (.ref C')) /\ Cls K C' /\ PySem.W.findIn K (.ref C') "__class__" = some (some (.builtin "object.__class__")) /\
   PySem.W.specialIn K (.builtin "object.__class__") "__get__" = some (some (.builtin "getset_descriptor.__get__")) /\ PySem.W.takesIn K (.builtin "object.__class__") = some true /\ PySem.W.mroIn K C' (.type "object") = some true /\
   PySem.W.kitOne K (.ref C') (.ref C) = some (i.ups.contains c)
section
variable {C : Cw} {X : Cx} {e : Expr} {g : Rho -> Res} {p q pos : Pos} {c : Str} {cl : List CI}
end
section
variable {C : Cw} {X : Cx} {a b c e : Expr} {ga gb gc g : Rho -> Res} {gs : Rho -> ResL} {pos : Pos}
def isNonD : D -> Bool | .non=>true | _=>false
theorem rp_nonIff {K : Fg} {F H : Hp} {m : Md} {d : D} {v : V} (s : Same F H) (r : Rp K F H m d v) : decide (v = .non) = isNonD d := by
 cases d with
 | non=>cases r.non;rfl
 | bl _=>cases r.bl;rfl
 | int _=>cases r.int;rfl
 | str _=>cases r.str.1;rfl
 | tup _=>obtain ⟨_,_,rfl,_⟩ := r.seqT s;rfl
 | lst _=>obtain ⟨_,_,rfl,_⟩ := r.seqL s;rfl
 | dct _=>obtain ⟨_,_,rfl,_⟩ := r.dict s;rfl
 | ty _=>cases r.ty;rfl
 | ob _=>cases r.ob;rfl
 | ins _ _=>obtain ⟨_,_,_,_,rfl,_⟩ := r.ins s;rfl
 | fn _ =>
  cases m with
  | fz=>have r : RepV K F _ v := r;simp only [RepV] at r;obtain ⟨_,rfl,_⟩ := r;rfl
  | fr=>obtain ⟨_,_,_,q⟩ := r;exact q.elim
  | bo=>obtain ⟨_,_,_,q⟩ := r;exact q.elim
 | exn _ =>
  cases m with
  | fz=>have r : RepV K F _ v := r;simp only [RepV] at r;obtain ⟨_,_,rfl,_⟩ := r;rfl
  | fr=>obtain ⟨_,_,_,q⟩ := r;exact q.elim
  | bo=>obtain ⟨_,_,_,q⟩ := r;exact q.elim
 | set _ =>
  cases m with
  | fz=>have r : RepV K F _ v := r;simp only [RepV] at r;obtain ⟨_,_,rfl,_⟩ := r;rfl
  | fr=>obtain ⟨_,rfl,_,_⟩ := r;rfl
  | bo=>obtain ⟨_,rfl,_,_⟩ := r;rfl
def fIs (neg : Bool) : Md -> D -> Md -> D -> Option (Md × D) := fun _ x _ y=>match y with
 | .non=>some (.fz,.bl (if neg then !isNonD x else isNonD x))
 | _=>none
theorem opd_is : OpD C X (compareOp .Is) (fIs false) := by
 refine ⟨_,op_isN,fun F H m x n y v u k d Q s rx ry e w=>?_⟩;unfold fIs at e;split at e
 . cases e;cases ry.non;exact ⟨rfl,by rw [rp_nonIff s rx];exact w _ F H (.refl s) (rp_bl _) (by intro z;cases z)⟩
 . cases e
theorem opd_isnot : OpD C X (compareOp .IsNot) (fIs true) := by
 refine ⟨_,op_notN,fun F H m x n y v u k d Q s rx ry e w=>?_⟩;unfold fIs at e;split at e
 . cases e;cases ry.non;exact ⟨rfl,by rw [rp_nonIff s rx];exact w _ F H (.refl s) (rp_bl _) (by intro z;cases z)⟩
 . cases e
theorem isB_is {neg : Bool} : IsB (fIs neg) := fun m x n y k d e=>by
 unfold fIs at e;split at e
 . cases e;exact ⟨_,rfl,rfl⟩
 . cases e
theorem op_catL : OpR X (binaryOp .Add) (fun x y H Q=>∃ l b xs ys,x = .ref l /\ y = .ref b /\ SqL X.K H l xs /\ SqL X.K H b ys /\ xs.length + ys.length <= sizeLine /\ ∀ p,H p = none -> Q (.ref p) (upd H p (.lst (xs ++ ys)))) := by
 intro pins s σ H x y v u Q I rx ry h;obtain ⟨l,b,xs,ys,rfl,rfl,hl,hb,hz,q⟩ := h;cases rx;cases ry;obtain ⟨its,r1,p1,_⟩ := I.list hl;obtain ⟨its2,r2,p2,_⟩ := I.list hb;obtain ⟨⟨cls,dd,data,sl⟩,n,ho,hc,hd1,hd⟩ := p1;obtain ⟨⟨cls2,dd2,data2,sl2⟩,n2,ho2,hc2,hd2',hd2⟩ := p2;simp only at hc hd hc2 hd2;subst hc hd hc2 hd2;have e : its.toArray ++ its2.toArray = (its ++ its2).toArray := by simp
 have l1 := r1.length;have l2 := r2.length;refine concat_meets ⟨_,ho,rfl⟩ ⟨_,ho2,rfl⟩ noFill_list_add seq_list_add PySem.F.slot_list_add PySem.F.entry_list_add (PySem.F.args_list_add_2 _ _) (list_addW l b its.toArray its2.toArray n n2 dd dd2 sl sl2 (by simp;omega)) ⟨ho,ho2,?_⟩
 rw [e];refine ⟨.ref s.heap.objs.size,_,I.laid (t' := s.toks) (o := .lst (xs ++ ys)) (fun b ob q=>hps q) (Nat.le_refl _) ?_,rfl,q _ (I.hok.fresh (Nat.le_refl _))⟩;exact ⟨by rw [List.length_append];exact hz,_,0,r1.append r2,Heap.get?_push_size _ rfl⟩
theorem op_catT' : OpR X (binaryOp .Add) (fun x y H Q=>∃ l b xs ys,x = .ref l /\ y = .ref b /\ SqT X.K H l xs /\ SqT X.K H b ys /\ xs.length + ys.length <= sizeLine /\ (xs = [] -> Q (.ref b) H) /\ (xs ≠ [] -> ys = [] -> Q (.ref l) H) /\ (xs ≠ [] -> ys ≠ [] -> ∀ p,H p = none -> Q (.ref p) (upd H p (.tup (xs ++ ys))))) := by
 intro pins s σ H x y v u Q I rx ry h;obtain ⟨l,b,xs,ys,rfl,rfl,hl,hb,hz,q0,q1,q2⟩ := h;cases rx;cases ry;obtain ⟨its,r1,p1,_⟩ := I.tuple hl;obtain ⟨its2,r2,p2,_⟩ := I.tuple hb;have n1 := r1.nil_iff;have n2 := r2.nil_iff;have l1 := r1.length;have l2 := r2.length;by_cases hv : its = []
 . obtain ⟨⟨cls,dd,data,sl⟩,ho,hc,n,hd⟩ := id p1;obtain ⟨⟨cls2,dd2,data2,sl2⟩,ho2,hc2,n2',hd2⟩ := id p2;simp only at hc hd hc2 hd2;subst hc hd hc2 hd2;exact concat_meets ⟨_,ho,rfl⟩ ⟨_,ho2,rfl⟩ noFill_tuple_add seq_tuple_add PySem.F.slot_tuple_add PySem.F.entry_tuple_add (PySem.F.args_tuple_add_2 _ _)
     (tuple_addW0 l b its.toArray its2.toArray n n2' dd dd2 sl sl2 (by simp [hv])) ⟨ho,ho2,⟨.ref b,H,I,rfl,q0 (n1.mp hv)⟩⟩
 . refine HT.cat_tup p1 p2 hv (fun z=>⟨.ref l,H,I,rfl,q1 (fun w=>hv (n1.mpr w)) (n2.mp z)⟩) (fun z=>?_) (by omega)
   refine ⟨.ref s.heap.objs.size,_,I.laid (t' := s.toks) (o := .tup (xs ++ ys)) (fun b ob q=>hps q) (Nat.le_refl _) ?_,rfl,q2 (fun w=>hv (n1.mpr w)) (fun w=>z (n2.mpr w)) _ (I.hok.fresh (Nat.le_refl _))⟩;exact ⟨by rw [List.length_append];exact hz,_,r1.append r2,PlainTp.new _ _⟩
def catD : Md -> D -> Md -> D -> Option (Md × D) := fun m x n y=>match x,y with
 | .lst xs,.lst ys=>if xs.length + ys.length <= sizeLine then some (.fr,.lst (xs ++ ys)) else none
 | .tup xs,.tup ys=>if xs.length + ys.length <= sizeLine then some (.fz,.tup (xs ++ ys)) else none
 | _,_=>none
theorem RepL.nilIff {K : Fg} {F : Hp} {ds : List D} {xs : List V} (h : RepL K F ds xs) : xs = [] ↔ ds = [] := by
 have := h.length;constructor
 . intro e;subst e;cases ds with | nil=>rfl | cons _ _=>simp at this
 . intro e;subst e;cases xs with | nil=>rfl | cons _ _=>simp at this
theorem opd_cat : OpD C X (binaryOp .Add) catD := by
 refine ⟨_,op_catL.or op_catT',fun F H m x n y v u k d Q s rx ry e w=>?_⟩;unfold catD at e;split at e
 . rename_i xs ys;split at e
   . rename_i hz;cases e;obtain ⟨a,us,rfl,q1,r1⟩ := rx.seqL s;obtain ⟨b,vs,rfl,q2,r2⟩ := ry.seqL s;refine .inl ⟨a,b,us,vs,rfl,rfl,q1,q2,by rw [r1.length,r2.length];exact hz,fun p hp=>?_⟩
     exact w (.ref p) F _ (Step.fresh _ s hp) ⟨p,rfl,s.free hp,_,upd_same,r1.append r2⟩ fun _ a ea=>by cases ea;exact hp
   . cases e
 . rename_i xs ys;split at e
   . rename_i hz;cases e;have ex := rx;have ey := ry;obtain ⟨a,us,rfl,q1,r1⟩ := rx.seqT s;obtain ⟨b,vs,rfl,q2,r2⟩ := ry.seqT s;have fz : ∀ {m : Md} {zs : List D} {c : Addr},Rp X.K F H m (.tup zs) (.ref c) -> RepV X.K F (.tup zs) (.ref c) := fun {m zs c} h=>by
       cases m with
       | fz=>exact h
       | fr=>obtain ⟨_,_,_,q⟩ := h;exact q.elim
       | bo=>obtain ⟨_,_,_,q⟩ := h;exact q.elim
     refine .inr ⟨a,b,us,vs,rfl,rfl,q1,q2,by rw [r1.length,r2.length];exact hz,fun z=>?_,fun _ z=>?_,fun _ _ p hp=>?_⟩
     . have : xs = [] := r1.nilIff.mp z;subst this;exact w (.ref b) F H (.refl s) (fz ey) (by intro z;cases z)
     . have : ys = [] := r2.nilIff.mp z;subst this;rw [List.append_nil] at w;exact w (.ref a) F H (.refl s) (fz ex) (by intro z;cases z)
     . exact w (.ref p) _ _ (Step.laid (.tup (us ++ vs)) s hp) (RepV.tup_of (s.free hp) (r1.append r2)) (by intro z;cases z)
   . cases e
 . cases e
def flatD : D -> Bool | .non | .bl _ | .int _ | .str _=>true | _=>false
def eqD : D -> D -> Bool
 | .non,.non=>true
 | .bl a,.bl b=>a == b
 | .bl a,.int b=>(if a then 1 else 0) == b
 | .int a,.bl b=>a == (if b then 1 else 0)
 | .int a,.int b=>a == b
 | .str a,.str b=>a == b
 | _,_=>false
def inSq (neg : Bool) : Md -> D -> Md -> D -> Option (Md × D) := fun _ x _ y=>match y with
 | .lst ys=>if (flatD x && ys.all flatD) = true then some (.fz,.bl (if neg then !(ys.any fun y=>eqD y x) else (ys.any fun y=>eqD y x))) else none
 | .tup ys=>if (flatD x && ys.all flatD) = true then some (.fz,.bl (if neg then !(ys.any fun y=>eqD y x) else (ys.any fun y=>eqD y x))) else none
 | _=>none
def vOf : D -> V | .non=>.non | .bl b=>.bl b | .int i=>.int i | .str x=>.str x | _=>.non
theorem rep_flat {K : Fg} {F H : Hp} {m : Md} {d : D} {v : V} (h : flatD d = true) (r : Rp K F H m d v) : v = vOf d := by
 cases d with
 | non=>exact r.non
 | bl _=>exact r.bl
 | int _=>exact r.int
 | str _=>exact r.str.1
 | _=>cases h
theorem repL_flat {K : Fg} {F : Hp} : ∀ {ds : List D} {xs : List V},ds.all flatD = true -> RepL K F ds xs -> xs = ds.map vOf
 | [],_,_,r=>by simp only [RepL] at r;exact r
 | d :: ds,_,h,r=>by simp only [RepL] at r;obtain ⟨y,ys,rfl,r1,r2⟩ := r;rw [List.all_cons,Bool.and_eq_true] at h;rw [List.map_cons,rep_flat (H := F) (m := .fz) h.1 r1,repL_flat h.2 r2]
theorem flat_vOf {d : D} (h : flatD d = true) : flatV (vOf d) = true := by cases d <;> first | rfl | cases h
theorem eqV_vOf {x y : D} (hx : flatD x = true) (hy : flatD y = true) : eqV (vOf x) (vOf y) = eqD x y := by cases x <;> cases y <;> first | rfl | (cases hx;done) | (cases hy;done)
theorem any_vOf {x : D} (hx : flatD x = true) : ∀ {ds : List D},ds.all flatD = true -> inV (vOf x) (ds.map vOf) = ds.any fun y=>eqD y x
 | [],_=>rfl
 | d :: ds,h=>by rw [List.all_cons,Bool.and_eq_true] at h;show (eqV (vOf d) (vOf x) || inV (vOf x) (ds.map vOf)) = (eqD d x || ds.any _);rw [eqV_vOf h.1 hx,any_vOf hx h.2]
theorem all_vOf : ∀ {ds : List D},ds.all flatD = true -> (ds.map vOf).all flatV = true
 | [],_=>rfl
 | d :: ds,h=>by rw [List.all_cons,Bool.and_eq_true] at h;rw [List.map_cons,List.all_cons,flat_vOf h.1,all_vOf h.2];rfl
theorem opd_insq {neg : Bool} {f : Value -> Value -> Sem Value} (o : OpR X f (rIn X.K neg)) : OpD C X f (inSq neg) := by
 refine ⟨_,o,fun F H m x n y v u k d Q s rx ry e w=>?_⟩;unfold inSq at e;split at e
 . rename_i ys;split at e
   . rename_i hf;rw [Bool.and_eq_true] at hf;cases e;obtain ⟨b,vs,rfl,q2,r2⟩ := ry.seqL s;have ev := rep_flat hf.1 rx;have es := repL_flat hf.2 r2;subst ev;subst es;exact ⟨b,_,rfl,.inl q2,flat_vOf hf.1,all_vOf hf.2,by rw [any_vOf hf.1 hf.2];exact w _ F H (.refl s) (rp_bl _) (by intro z;cases z)⟩
   . cases e
 . rename_i ys;split at e
   . rename_i hf;rw [Bool.and_eq_true] at hf;cases e;obtain ⟨b,vs,rfl,q2,r2⟩ := ry.seqT s;have ev := rep_flat hf.1 rx;have es := repL_flat hf.2 r2;subst ev;subst es;exact ⟨b,_,rfl,.inr q2,flat_vOf hf.1,all_vOf hf.2,by rw [any_vOf hf.1 hf.2];exact w _ F H (.refl s) (rp_bl _) (by intro z;cases z)⟩
   . cases e
 . cases e
theorem isB_insq {neg : Bool} : IsB (inSq neg) := fun m x n y k d e=>by
 unfold inSq at e;split at e
 . split at e
   . cases e;exact ⟨_,rfl,rfl⟩
   . cases e
 . split at e
   . cases e;exact ⟨_,rfl,rfl⟩
   . cases e
 . cases e
def tcTuple : List (Md × D) -> Option (Md × D)
 | [(_,.lst ds)]=>some (.fz,.tup ds)
 | [(.fz,.tup ds)]=>some (.fz,.tup ds)
 | _=>none
def tcList : List (Md × D) -> Option (Md × D)
 | [(_,.lst ds)]=>some (.fr,.lst ds)
 | [(_,.tup ds)]=>some (.fr,.lst ds)
 | _=>none
def tcInt : List (Md × D) -> Option (Md × D)
 | [(_,.int i)]=>some (.fz,.int i)
 | [(_,.bl b)]=>some (.fz,.int (if b then 1 else 0))
 | _=>none
def small (i : Int) : Bool := decide (i.natAbs.log2 < 1920)
def numS (i : Int) : Str := Str.ofString (toString i)
def tcStr : List (Md × D) -> Option (Md × D)
 | [(_,.int i)]=>if small i = true then some (.fz,.str (numS i)) else none
 | _=>none
theorem calld_tuple : CallD X (.type "tuple") tcTuple := by
 refine ⟨_,call_tuple_of,fun F H xs vs k d Q s rx e w=>?_⟩;unfold tcTuple at e;split at e
 . rename_i m ds;cases e;obtain ⟨v,rfl,r⟩ := rx.one;obtain ⟨a,xs,rfl,q,rl⟩ := r.seqL s;exact ⟨a,xs,rfl,.inl ⟨q,fun l hl=>w (.ref l) _ _ (Step.laid (.tup xs) s hl) (RepV.tup_of (s.free hl) rl) (by intro z;cases z)⟩⟩
 . rename_i ds;cases e;obtain ⟨v,rfl,r⟩ := rx.one;have r0 := r;obtain ⟨a,xs,rfl,q,rl⟩ := r.seqT s;exact ⟨a,xs,rfl,.inr ⟨q,w (.ref a) F H (.refl s) r0 (by intro z;cases z)⟩⟩
 . cases e
theorem calld_list : CallD X (.type "list") tcList := by
 refine ⟨_,call_list_of,fun F H xs vs k d Q s rx e w=>?_⟩;unfold tcList at e;split at e
 . rename_i m ds;cases e;obtain ⟨v,rfl,r⟩ := rx.one;obtain ⟨a,xs,rfl,q,rl⟩ := r.seqL s;exact ⟨a,xs,rfl,.inl q,fun l hl=>w (.ref l) F _ (Step.fresh _ s hl) ⟨l,rfl,s.free hl,xs,upd_same,rl⟩ fun _ a ea=>by cases ea;exact hl⟩
 . rename_i m ds;cases e;obtain ⟨v,rfl,r⟩ := rx.one;obtain ⟨a,xs,rfl,q,rl⟩ := r.seqT s;exact ⟨a,xs,rfl,.inr q,fun l hl=>w (.ref l) F _ (Step.fresh _ s hl) ⟨l,rfl,s.free hl,xs,upd_same,rl⟩ fun _ a ea=>by cases ea;exact hl⟩
 . cases e
theorem calld_int : CallD X (.type "int") tcInt := by
 refine ⟨_,call_int1,fun F H xs vs k d Q s rx e w=>?_⟩;unfold tcInt at e;split at e
 . cases e;obtain ⟨v,rfl,r⟩ := rx.one;cases r.int;exact .inl ⟨_,rfl,w _ F H (.refl s) (rp_int _) (by intro z;cases z)⟩
 . cases e;obtain ⟨v,rfl,r⟩ := rx.one;cases r.bl;exact .inr ⟨_,rfl,w _ F H (.refl s) (rp_int _) (by intro z;cases z)⟩
 . cases e
end
theorem strOk_num (i : Int) : PyData.strOk (Str.ofString (toString i)) = true := by
 unfold PyData.strOk;rw [Array.all_eq_true_iff_forall_mem];intro c hc;have hc' : c ∈ (Str.ofString (toString i)).cps.toList := by rw [Array.mem_toList_iff];exact hc
 have : ¬ (c ≠ 45 /\ (c < 48 \/ 57 < c)) := fun h=>int_text_free' c h i hc';have hb : c < 58 := by omega
 simp;omega
section
variable {X : Cx}
theorem calld_str : CallD X (.type "str") tcStr := by
 refine ⟨_,call_str_int,fun F H xs vs k d Q s rx e w=>?_⟩;unfold tcStr at e;split at e
 . rename_i m i;split at e
   . rename_i hs;cases e;obtain ⟨v,rfl,r⟩ := rx.one;cases r.int;have hl : i.natAbs.log2 < 1920 := of_decide_eq_true hs;have h1 : (numS i).length <= 1921 := int_text_len_1921 hl;have hz : sizeLine = 16777216 := sizeLine_eq;exact ⟨i,rfl,hl,w _ F H (.refl s) (rp_str ⟨by omega,strOk_num i⟩) (by intro z;cases z)⟩
   . cases e
 . cases e
end
theorem pv_callTy {C : Cw} {X : Cx} {T : String} {φ} {x : Str} {e : Expr} {es : List Expr} {gs : Rho -> ResL} {p pos : Pos} (o : CallD X (.type T) φ) (hg : Gl X x) (hm : X.mg x = none) (hv : bootBuiltins x = some (.type T)) (ha : PAv C X (e :: es) gs) (hn : x ≠ "__name__") (hdb : (x == ("__debug__" : Str)) = false) (hst : ∀ x ∈ e :: es,notStar x = true) : PV C X (.Call (.Name x p) (e :: es) [] pos) (fun ρ=>callR φ (gs ρ)) := by obtain ⟨r,h1,h2⟩ := o;exact PE.imp (pe_callTy h1 hg hm hv ha hn hdb (star_cons (hst e mcs)) (star_any _ _ fun y hy=>hst y (mcm hy))) fun σ H Q q=>tG_call h2 q
section
variable {prog : Program} {w : World} {A : Around} {E : VSP} {s : Shared}
theorem unpackItems_list {l : Addr} {items : Array Value} {Q : List Value -> Shared -> Prop} (hA : A.handled = none) (ht : s.heap.IsList l items) (h : ∀ h',Heap.ExtBut s.heap.objs.size s.heap h' -> ∀ tk,Q items.toList { s with heap := h',toks := tk }) : wpAny (model prog w) A (unpackItems (.ref l) items.size none) Q E s := by
 unfold unpackItems notIterableAtAll;refine wpAny_bind (wpAny_bind (wpAny_specialOf ht.typeIs PySem.F.slot_list_iter.lookup ?_));refine wpAny_pure ?_;dsimp only;rw [if_neg Bool.false_ne_true];refine wpAny_bind (wpAny_holding (wpAny_pyIter_list ht ?_));have hlt : l < s.heap.objs.size := by obtain ⟨o,e,_⟩ := ht;exact Heap.lt_size e
 have hne : l ≠ s.heap.objs.size := Nat.ne_of_lt hlt;have keep : ∀ b o,s.heap.get? b = some o -> (s.heap.push { cls := Value.type "list_iterator", data := Data.fields #[Value.ref l,Value.int 0 0] }).get? b = some o := fun b o q=>hps q;have ht' : (s.heap.push { cls := Value.type "list_iterator", data := Data.fields #[Value.ref l,Value.int 0 0] }).IsList l items := by obtain ⟨o,e,c⟩ := ht;exact ⟨o,keep l o e,c⟩
 have hi' : (s.heap.push { cls := Value.type "list_iterator", data := Data.fields #[Value.ref l,Value.int 0 0] }).IsListIter s.heap.objs.size l 0 := ⟨_,Heap.get?_push_size _ rfl,rfl,rfl⟩;refine wpAny_bind (wpAny_holding (PySem.W.kun_draw hne items.size 0 _ _ hi' ht' (by omega) fun h' hi hsb=>?_))
 have ei : List.take items.size (List.drop 0 items.toList) = items.toList := by rw [List.drop_zero];exact List.take_of_length_le (by simp)
 rw [ei];rw [if_neg (by simp)]
 have hl2 : h'.IsList l items := by obtain ⟨o,e,c⟩ := ht';exact ⟨o,by rw [hsb.2 l hne];exact e,c⟩
 rw [Nat.zero_add] at hi;refine wpAny_bind (wpAny_holding ((Walks.list hA s.heap.objs.size l hne items).done _ _ _ ⟨hi,hl2⟩ fun h2 tk k2=>?_));rw [if_neg (by simp)]
 refine wpAny_pure (h h2 (fun b o hb e=>k2 b o (by simpa using hb) ?_) tk)
 show h'.get? b = some o;rw [hsb.2 b hb];exact keep b o e
theorem assign_Tuple_list {env : Env} {elts : List Expr} {k : Nat} {pos : Pos} {l : Addr} {items : Array Value} {Q : Unit -> Shared -> Prop} (hA : A.handled = none) (ht : s.heap.IsList l items) (hn : (assignEach elts env).length = items.size) (hst : (assignEach elts env).findIdx? (·.1) = none) (h : ∀ h',Heap.ExtBut s.heap.objs.size s.heap h' -> ∀ tk,wpAny (model prog w) A (assignInOrder ((assignEach elts env).map (·.2)) items.toList) Q E { s with heap := h',toks := tk }) : wpAny (model prog w) A (assign (.Tuple elts k pos) env (.ref l)) Q E s := by rw [assign_Tuple];refine wpAny_bind (wpAny_standAt ?_);unfold unpack;rw [hst,hn];exact wpAny_bind (wpAny_holding (unpackItems_list hA ht h))
theorem getItem_tuple_whole {t sl : Addr} {items : Array Value} {vl vu : Value} {lo hi : Option Int} {Q : VSP} (ht : IsTup s.heap t items) (hs : s.heap.IsSliceOf sl vl vu .none) (pl : IsPart vl lo) (pu : IsPart vu hi) (h0 : HT.sIx items.size 0 lo = 0) (h1 : HT.sIx items.size items.size hi = items.size) (h : Q (.ref t) s) : wpAny (model prog w) A (getItem (.ref t) (.ref sl)) Q E s := by
 obtain ⟨os,hos,hcs,hds⟩ := id hs;have tS : s.TypeIs (.ref sl) "slice" := ⟨os,hos,hcs⟩;unfold getItem
 try with_reducible refine wpAny_holding ?_
 first | refine wpAny_bind (wpAny_pure ?_) | skip
 refine wpAny_bind (wpAny_sequenceKey ht.typeIs (by decide) (wpAny_bind (wpAny_callSpecial?_slot (name := Str.ofString "__getitem__") ht.typeIs PyProof.Rows.slot_tuple_getitem (wpAny_call_entry PyProof.Rows.slot_tuple_getitem ht.typeIs entry_tuple_getitem ?_ (args_tuple_getitem _ _)))))
 show wpAny _ _ (Builtin.Tuple.tupleItemsOf (.ref t) >>= _) _ _ s;refine wpAny_bind (tupleItemsOf_ ht (wpAny_bind (wpAny_typeOf tS ?_)));rw [if_pos (by decide)]
 refine wpAny_bind (HT.sliceApplied_gen hs pl pu ?_);have yes : (((HT.sIx items.size 0 lo : Nat) : Int) == 0 && (1 : Int) == 1 && (HT.sIx items.size items.size hi - HT.sIx items.size 0 lo) == items.size) = true := by rw [h0,h1];simp
 show wpAny _ _ (if (((HT.sIx items.size 0 lo : Nat) : Int) == 0 && (1 : Int) == 1 && (HT.sIx items.size items.size hi - HT.sIx items.size 0 lo) == items.size) = true then _ else _) _ _ s;rw [if_pos yes];unfold Builtin.Tuple.tupleIsExact;refine wpAny_bind (wpAny_bind (wpAny_typeOf ht.typeIs (wpAny_pure ?_)));rw [if_pos (by decide)]
 refine wpAny_bind (wpAny_rule ?_)
 first
  | exact wpAny_pure ⟨_,rfl,wpAny_pure h⟩
  | exact ⟨_,rfl,wpAny_pure h⟩
end
section
variable {X : Cx} {pos : Pos}
def rSlW (K : Fg) : V -> Option Int -> Option Int -> Hp -> VK -> Prop := fun x lo hi H Q=>∃ a xs,x = .ref a /\ SqT K H a xs /\ (HT.sIx xs.length 0 lo = 0 /\ HT.sIx xs.length xs.length hi = xs.length) /\ Q x H
theorem sl_whole : SlR X (rSlW X.K) := by
 intro pins s σ H x v vl vu lo hi sl Q I rx hs pl pu h;obtain ⟨a,xs,rfl,hx,hw,q⟩ := h;cases rx;obtain ⟨its,r,ht,hz⟩ := I.tuple hx;have hlen : its.toArray.size = xs.length := by rw [List.size_toArray];exact r.length.symm
 exact ⟨"tuple", _,PyProof.Rows.slot_tuple_getitem.lookup,ht.typeIs,getItem_tuple_whole ht hs pl pu (by rw [hlen];exact hw.1) (by rw [hlen];exact hw.2) ⟨.ref a,H,I,rfl,q⟩⟩
def gSeq (K : Fg) (n : Nat) (t : TGs) : TG := fun v σ H Q=>∃ a xs,v = .ref a /\ (SqT K H a xs \/ SqL K H a xs) /\ xs.length = n /\ t xs σ H Q
theorem pg_seq {es : List Expr} {k : Nat} {t : TGs} {n : Nat} (hc : X.calm = true) (h : PGs X es t) (hn : (assignEach es X.env).length = n) (hst : (assignEach es X.env).findIdx? (·.1) = none) : PG X (.Tuple es k pos) (gSeq X.K n t) := by
 intro pins s σ H v u Q I r hw;obtain ⟨a,xs,e1,hq,hl,hw⟩ := hw;rcases hq with hq | hq
 . exact pg_tup hc h hn hst pins s σ H v u Q I r ⟨a,xs,e1,hq,hl,hw⟩
 . subst e1;cases r;obtain ⟨its,rv,ht,hz⟩ := I.list hq;refine assign_Tuple_list (I.ok.hd hc) ht.isList (by simp [hn,<- hl,rv.length]) hst fun h' hx tk=>?_
   have I1 : Inv X pins σ H { s with heap := h',toks := tk } := I.kept (t' := tk) fun b o e=>hx b o (Nat.ne_of_lt (Heap.lt_size e)) e
   exact h pins _ σ H xs _ Q I1 (by simpa using rv) hw
end
inductive Tg where
 | nm (i : Nat) | tp (ts : List Tg)
mutual
def setG : Tg -> D -> Rho -> Option Rho
 | .nm i,d,ρ=>some (ρ.set i (some (false,d)))
 | .tp ts,d,ρ=>match d with
  | .tup ds=>setGs ts ds ρ
  | .lst ds=>setGs ts ds ρ
  | _=>none
def setGs : List Tg -> List D -> Rho -> Option Rho
 | [],ds,ρ=>if ds.isEmpty then some ρ else none
 | t :: ts,ds,ρ=>match ds with
  | d :: ds=>(match setG t d ρ with | some ρ1=>setGs ts ds ρ1 | none=>none)
  | []=>none
end
mutual
def slotsG : Tg -> List Nat
 | .nm i=>[i]
 | .tp ts=>slotsGs ts
def slotsGs : List Tg -> List Nat
 | []=>[]
 | t :: ts=>slotsG t ++ slotsGs ts
end
mutual
def gOf (K : Fg) : Tg -> TG
 | .nm i=>gName i
 | .tp ts=>gSeq K ts.length (gsOf K ts)
def gsOf (K : Fg) : List Tg -> TGs
 | []=>gNil
 | t :: ts=>gCons (gOf K t) (gsOf K ts)
end
def PGw (X : Cx) (tg : Expr) (t : Tg) : Prop := PG X tg (gOf X.K t)
def PGws (X : Cx) (tgs : List Expr) (ts : List Tg) : Prop := PGs X tgs (gsOf X.K ts)
def notStarT : Expr -> Bool | .Starred ..=>false | _=>true
theorem assignEach_cons {e : Expr} {es : List Expr} {env : Env} (h : notStarT e = true) : assignEach (e :: es) env = (false,assign e env) :: assignEach es env := by cases e <;> first | rfl | cases h
theorem setGs_len : ∀ {ts : List Tg} {ds : List D} {ρ ρ' : Rho},setGs ts ds ρ = some ρ' -> ds.length = ts.length
 | [],ds,ρ,ρ',e=>by
  simp only [setGs] at e;split at e
  . rename_i h;have : ds = [] := by simpa using h
    subst this;rfl
  . cases e
 | t :: ts,ds,ρ,ρ',e=>by
  simp only [setGs] at e;split at e
  . split at e
    . rw [List.length_cons,List.length_cons,setGs_len e]
    . cases e
  . cases e
mutual
theorem gOf_ok {K : Fg} {F0 H0 : Hp} : ∀ (t : Tg) {F H : Hp} {σ : L2.St} {ρ ρ' : Rho} {d : D} {v : V} {Q : L2.St -> Hp -> Prop},RelSt K F0 H0 F H σ ρ -> RepV K F d v -> setG t d ρ = some ρ' -> (∀ σ',RelSt K F0 H0 F H σ' ρ' -> σ'.length = σ.length -> (∀ j,j ∉ slotsG t -> σ'[j]? = σ[j]?) -> Q σ' H) -> gOf K t v σ H Q
 | .nm i,F,H,σ,ρ,ρ',d,v,Q,R,r,e,w=>by
  simp only [setG] at e;cases e;simp only [gOf];refine w _ (R.set (m := false) (.refl R.sub) r (by intro z;cases z)) (by rw [List.length_set]) fun j hj=>?_
  simp only [slotsG,List.mem_singleton] at hj;rw [List.getElem?_set_ne (fun z=>hj z.symm)]
 | .tp ts,F,H,σ,ρ,ρ',d,v,Q,R,r,e,w=>by
  simp only [setG] at e;split at e
  . rename_i ds;simp only [RepV] at r;obtain ⟨a,xs,rfl,hq,rl⟩ := r;simp only [gOf];refine ⟨a,xs,rfl,.inl (Same.seqT R.sub hq),by rw [rl.length];exact setGs_len e,gsOf_ok ts R rl e ?_⟩
    simp only [slotsG] at w;exact w
  . rename_i ds;simp only [RepV] at r;obtain ⟨a,xs,rfl,hq,rl⟩ := r;simp only [gOf];refine ⟨a,xs,rfl,.inr (R.sub.seq hq),by rw [rl.length];exact setGs_len e,gsOf_ok ts R rl e ?_⟩
    simp only [slotsG] at w;exact w
  . cases e
theorem gsOf_ok {K : Fg} {F0 H0 : Hp} : ∀ (ts : List Tg) {F H : Hp} {σ : L2.St} {ρ ρ' : Rho} {ds : List D} {vs : List V} {Q : L2.St -> Hp -> Prop},RelSt K F0 H0 F H σ ρ -> RepL K F ds vs -> setGs ts ds ρ = some ρ' -> (∀ σ',RelSt K F0 H0 F H σ' ρ' -> σ'.length = σ.length -> (∀ j,j ∉ slotsGs ts -> σ'[j]? = σ[j]?) -> Q σ' H) -> gsOf K ts vs σ H Q
 | [],F,H,σ,ρ,ρ',ds,vs,Q,R,r,e,w=>by
  simp only [setGs] at e;split at e
  . cases e;rename_i hd;have : ds = [] := by simpa using hd
    subst this;simp only [RepL] at r;simp only [gsOf];exact ⟨r,w σ R rfl fun _ _=>rfl⟩
  . cases e
 | t :: ts,F,H,σ,ρ,ρ',ds,vs,Q,R,r,e,w=>by
  simp only [setGs] at e;split at e
  . rename_i d ds';split at e
    . rename_i ρ1 e1;simp only [RepL] at r;obtain ⟨y,ys,rfl,r1,r2⟩ := r;simp only [gsOf];refine ⟨y,ys,rfl,gOf_ok t R r1 e1 fun σ1 R1 l1 k1=>gsOf_ok ts R1 r2 e fun σ2 R2 l2 k2=>w σ2 R2 (l2.trans l1) fun j hj=>?_⟩;simp only [slotsGs,List.mem_append,not_or] at hj;rw [k2 j hj.2,k1 j hj.1]
    . cases e
  . cases e
end
section
variable {C : Cw} {X : Cx} {pos : Pos}
theorem pgw_name {x : Str} {i : Nat} (hN : X.N.Nodup) (hi : X.N[i]? = some x) (hx : L2.Loc X.env.scope x) (hf : X.fn x = true \/ X.env.scope.names.lookup x = some .local) : PGw X (.Name x pos) (.nm i) := by unfold PGw;simp only [gOf];exact pg_name hN hi hx hf
theorem pgws_nil : PGws X [] [] := by unfold PGws;simp only [gsOf];exact pgs_nil
theorem pgws_cons {e : Expr} {es : List Expr} {t : Tg} {ts : List Tg} (h1 : PGw X e t) (h2 : PGws X es ts) (hs : notStarT e = true) : PGws X (e :: es) (t :: ts) := by unfold PGws;simp only [gsOf];exact pgs_cons h1 h2 (by rw [assignEach_cons hs];rfl)
theorem star_none {es : List Expr} {env : Env} (hs : ∀ e ∈ es,notStarT e = true) : (assignEach es env).length = es.length /\ (assignEach es env).findIdx? (·.1) = none := by
 induction es with
 | nil=>exact ⟨rfl,rfl⟩
 | cons e es ih =>
  obtain ⟨h1,h2⟩ := ih fun x hx=>hs x (mcm hx);rw [assignEach_cons (hs e mcs)];refine ⟨by rw [List.length_cons,List.length_cons,h1],?_⟩
  rw [List.findIdx?_cons];simp [h2]
theorem pgw_tup {es : List Expr} {ts : List Tg} {k : Nat} (hc : X.calm = true) (h : PGws X es ts) (hs : ∀ e ∈ es,notStarT e = true) (hl : es.length = ts.length) : PGw X (.Tuple es k pos) (.tp ts) := by have st := star_none (env := X.env) hs;unfold PGw;simp only [gOf];exact pg_seq (n := ts.length) hc h (by rw [st.1,hl]) st.2
theorem pgv_of {tg : Expr} {t : Tg} (h : PGw X tg t) : PGv C X tg (setG t) :=
 ⟨_,h,fun F H σ ρ ρ' d v Q R r e w=>gOf_ok t R r e fun σ' R' _ _=>w σ' F H (Same.refl _) R'⟩
end
section
variable {C : Cw} {X : Cx} {e : Expr} {g : Rho -> Res} {pos p : Pos}
theorem comp_tG {t : Tg} {tgN : List Str} {caps : List Nat} {gi gt ge : Rho -> Res} (hsl : ∀ j ∈ slotsG t,caps.length <= j) {σ : L2.St} {H : Hp} {Q : VK} (q : tG (C.at X) (fun ρ=>compR (gi ρ) ρ caps tgN.length (setG t) gt ge) σ H Q) : tComp caps tgN.length (tIv (C.at X) gi) (gOf X.K t) (tT (C.nox.at X) gt) (tG (C.nox.at X) fun ρ=>frzR (ge ρ)) σ H Q := by
 rw [tG_eq] at q;obtain ⟨ρ,F,RS,w⟩ := q;unfold tComp;refine ⟨ρ,F,RS,?_⟩;cases er : gi ρ with
 | stuck=>rw [er] at w;exact w
 | exc c=>rw [er] at w;exact w
 | ok m d =>
  rw [er] at w;cases d with
  | lst ds =>
   unfold compR at w;rw [Res.thn_ok] at w;dsimp only at w;split at w
   . rename_i hsz;intro J F1 H1 s1 hJ Da hDa;cases et : compL (setG t) gt ge (subR caps ρ ++ List.replicate tgN.length none) ds with
     | none=>rw [et] at w;exact w.elim
     | some total =>
      rw [et] at w;have hD0 : H Da = none := s1.same.free hDa;have hF1 : F1 Da = none := s1.sub.free hDa;have R0 := relSt_sub caps tgN.length RS;refine ⟨fun i m ys H'=>m = ds.length - i /\ i <= ds.length /\ H' Da = some (.lst ys) /\ ∃ F' zs,Step F H F' H' /\ Same F1 F' /\ F' Da = none /\ RepL X.K F' zs ys /\ zs.length <= i /\
       ∃ rest,compL (setG t) gt ge (subR caps ρ ++ List.replicate tgN.length none) (ds.drop i) = some rest /\ total = zs ++ rest,
       ⟨ds.length,by simp,Nat.zero_le _,upd_same,F1,[],s1.upd hD0 hF1,Same.refl _,hF1,RepL.nil,Nat.le_refl _,total,by simpa using et,rfl⟩,?_⟩
      rintro i m ys H' ⟨rfl,hile,hD,F',zs,st,sF,hFD,rz,hzl,rest,ec,etot⟩;refine ⟨hD,?_⟩;by_cases hlt : i < ds.length
      . refine .inr ⟨hJ.go i H' (sF.trans st.sub) hlt,by rw [rz.length];omega,fun v H2 y=>?_⟩
        obtain ⟨F2,d,ed,s2,rd⟩ := hJ.yld i F' H' v H2 sF st.sub hlt y;have hd : ds.drop i = d :: ds.drop (i + 1) := by rw [List.drop_eq_getElem_cons hlt];rw [List.getElem?_eq_getElem hlt] at ed;cases ed;rfl
        rw [hd] at ec;unfold compL at ec;have hD2 : H2 Da = some (.lst ys) := s2.same _ _ hD;have hF2 : F2 Da = none := s2.new _ hFD (by rw [hD];exact fun z=>nomatch z)
        cases eg : setG t d (subR caps ρ ++ List.replicate tgN.length none) with
        | none=>rw [eg] at ec;cases ec
        | some ρ1 =>
        rw [eg] at ec;dsimp only at ec;have R2 := (R0.step st).step s2;refine gOf_ok t R2 rd eg fun σ1 R1 len1 keep1=>?_;refine ⟨⟨len1.symm,fun j u ej=>?_⟩,ρ1,F2,R1,?_⟩
        . by_cases hj : j ∈ slotsG t
          . have := hsl j hj;rw [List.getElem?_append_right (by simpa [subS] using this),List.getElem?_replicate] at ej
            split at ej <;> cases ej
          . rw [keep1 j hj];exact ej
        cases ett : gt ρ1 with
        | stuck=>rw [ett] at ec;cases ec
        | exc c=>rw [ett] at ec;cases ec
        | ok mt dt =>
         cases dt with
         | bl b =>
          rw [ett] at ec;intro F3 H3 s3;have hD3 : H3 Da = some (.lst ys) := s3.same _ _ hD2;have hF3 : F3 Da = none := s3.new _ hF2 (by rw [hD2];exact fun z=>nomatch z)
          cases b with
          | false=>rw [if_neg Bool.false_ne_true];exact ⟨ds.length - (i + 1),by omega,rfl,hlt,hD3,F3,zs,(st.trans s2).trans s3,(sF.trans s2.fsame).trans s3.fsame,hF3,rz.mono (s2.fsame.trans s3.fsame) _ _,Nat.le_succ_of_le hzl,rest,ec,etot⟩
          | true =>
           rw [if_pos rfl,tG_eq];refine ⟨_,F3,R1.step s3,?_⟩;dsimp only at ec;cases ee : frzR (ge ρ1) with
           | stuck=>rw [ee] at ec;cases ec
           | exc c=>rw [ee] at ec;cases ec
           | ok me ye =>
            rw [ee] at ec;dsimp only at ec;have hme : me = .fz := by
             cases h : ge ρ1 with
             | ok m' d'=>rw [h] at ee;cases m' <;> cases ee <;> rfl
             | exc c=>rw [h] at ee;cases ee
             | stuck=>rw [h] at ee;cases ee
            subst hme;cases er2 : compL (setG t) gt ge (subR caps ρ ++ List.replicate tgN.length none) (ds.drop (i + 1)) with
            | none=>rw [er2] at ec;cases ec
            | some rest' =>
             rw [er2] at ec;cases ec;intro u F4 H4 s4 ru _;have hD4 : H4 Da = some (.lst ys) := s4.same _ _ hD3;have hF4 : F4 Da = none := s4.new _ hF3 (by rw [hD3];exact fun z=>nomatch z)
             refine ⟨hD4,ds.length - (i + 1),by omega,rfl,hlt,upd_same,F4,zs ++ [ye],(((st.trans s2).trans s3).trans s4).upd hD0 hF4,((sF.trans s2.fsame).trans s3.fsame).trans s4.fsame,hF4,?_,by simp;omega,rest',er2,by rw [etot];simp⟩
             exact RepL.append (rz.mono ((s2.fsame.trans s3.fsame).trans s4.fsame) _ _) (RepL.cons ru RepL.nil)
         | _=>rw [ett] at ec;cases ec
      . have ei : i = ds.length := by omega
        subst ei;rw [List.drop_length] at ec;cases ec;rw [List.append_nil] at etot;subst etot;exact .inl ⟨hJ.stop _ H' (sF.trans st.sub) (Nat.le_refl _),w (.ref Da) F' H' st ⟨Da,rfl,hFD,ys,hD,rz⟩ fun _ a ea=>by cases ea;exact hD0⟩
   . exact w.elim
  | _=>exact w.elim
theorem pv_compT {iter elt tg : Expr} {t : Tg} {tgN : List Str} {ifs : List Expr} {scope : Scope} {caps : List Nat} {capN : List Str} {gi gt ge : Rho -> Res} (hc : X.calm = true) (hi : PIv C X tg iter gi) (hcell : ∀ y ∈ scope.names,y.2 ≠ .cell) (hkind : scope.kind = .function) (hnames : ∀ y ∈ scope.names,y.2 = .local -> scope.names.lookup y.1 = some .local) (hfree : ∀ y ∈ scope.names,y.2 = .free -> X.env.kindOf y.1 = some .cell \/ X.env.kindOf y.1 = some .free) (hcapN : capN.map some = caps.map fun i=>X.N[i]?) (hcapF : ∀ y ∈ capN,(y,NameKind.free) ∈ scope.names) (hcapK : ∀ y ∈ capN,(relabel scope X.env).names.lookup y = some .cell \/ (relabel scope X.env).names.lookup y = some .free) (hsl : ∀ j ∈ slotsG t,caps.length <= j) (hg : ∀ cl A fp s3 H3,PGw (compCx X scope (capN ++ tgN) cl A fp s3 H3) tg t) (hf : ∀ cl A fp s3 H3,PIfs (compCx X scope (capN ++ tgN) cl A fp s3 H3) ifs (tT (C.nox.at X) gt)) (he : ∀ cl A fp s3 H3,PV C.nox (compCx X scope (capN ++ tgN) cl A fp s3 H3) elt ge) (hs : ∀ x,foldedSetIterable iter X.env x = pure x := by intro _;rfl) : PV C X (.ListComp elt [⟨tg,iter,ifs,0⟩] scope pos) (fun ρ=>compR (gi ρ) ρ caps tgN.length (setG t) gt ge) := by
 have capLen : capN.length = caps.length := by simpa using congrArg List.length hcapN
 refine PE.imp (pe_comp (capN := capN) (tgN := tgN) (gt := gOf X.K t) (tt := tT (C.nox.at X) gt) (te := tG (C.nox.at X) fun ρ=>frzR (ge ρ)) hc hi hcell hkind hnames hfree hcapN hcapF hcapK
  hg hf (fun cl A fp s3 H3=>pv_frz (he cl A fp s3 H3)) hs) fun σ H Q q=>comp_tG hsl q
theorem psv_setC (fz : Bool) {i : Nat} {x : Str} {pos' spos : Pos} {iter elt tg : Expr} {t : Tg} {tgN : List Str} {ifs : List Expr} {scope : Scope} {caps : List Nat} {capN : List Str} {gi gt ge : Rho -> Res} (hc : X.calm = true) (hi : PIv C X tg iter gi) (hcell : ∀ y ∈ scope.names,y.2 ≠ .cell) (hkind : scope.kind = .function) (hnames : ∀ y ∈ scope.names,y.2 = .local -> scope.names.lookup y.1 = some .local) (hfree : ∀ y ∈ scope.names,y.2 = .free -> X.env.kindOf y.1 = some .cell \/ X.env.kindOf y.1 = some .free) (hcapN : capN.map some = caps.map fun i=>X.N[i]?) (hcapF : ∀ y ∈ capN,(y,NameKind.free) ∈ scope.names) (hcapK : ∀ y ∈ capN,(relabel scope X.env).names.lookup y = some .cell \/ (relabel scope X.env).names.lookup y = some .free) (hsl : ∀ j ∈ slotsG t,caps.length <= j) (hg : ∀ cl A fp s3 H3,PGw (compCx X scope (capN ++ tgN) cl A fp s3 H3) tg t) (hf : ∀ cl A fp s3 H3,PIfs (compCx X scope (capN ++ tgN) cl A fp s3 H3) ifs (tT (C.nox.at X) gt)) (he : ∀ cl A fp s3 H3,PV C.nox (compCx X scope (capN ++ tgN) cl A fp s3 H3) elt ge) (hN : X.N.Nodup) (hx : X.N[i]? = some x) (hk : X.env.scope.names.lookup x = some .local) (hsw : swapsWith (.ListComp elt [⟨tg,iter,ifs,0⟩] scope pos) (some (.Name x pos')) spos.line X.env = pure true) (hs : ∀ x,foldedSetIterable iter X.env x = pure x := by intro _;rfl) : PSv C X (.Assign [.Name x pos'] (.ListComp elt [⟨tg,iter,ifs,0⟩] scope pos) spos) (fun ρ=>setS ρ i (if fz = true then frzR (compR (gi ρ) ρ caps tgN.length (setG t) gt ge) else compR (gi ρ) ρ caps tgN.length (setG t) gt ge)) := by
 refine PS.imp (ps_compA (capN := capN) (tgN := tgN) (gt := gOf X.K t) (tt := tT (C.nox.at X) gt) (te := tG (C.nox.at X) fun ρ=>frzR (ge ρ)) hc hi hcell hkind hnames hfree hcapN hcapF hcapK
  hg hf (fun cl A fp s3 H3=>pv_frz (he cl A fp s3 H3)) hN hx hk hsw hs) fun E σ H q=>comp_tG hsl ?_
 cases fz with
 | false=>exact set_tG q
 | true=>have q := set_tG q;unfold tAsg at q;rw [tG_eq] at q ⊢;obtain ⟨ρ,F,R,w⟩ := q;exact ⟨ρ,F,R,Want.frz w⟩
end
section
variable {C : Cw} {X : Cx} {e : Expr} {g : Rho -> Res} {pos p : Pos}
end
inductive PVL (C : Cw) (X : Cx) : List Expr -> List (Rho -> Res) -> Prop where
 | nil : PVL C X [] []
 | cons {e : Expr} {g : Rho -> Res} {es : List Expr} {gs : List (Rho -> Res)} (h : PV C X e g) (r : PVL C X es gs) : PVL C X (e :: es) (g :: gs)
inductive LtI (A : Around) (s : Shared) : List Value -> List Value -> Bool -> Prop where
 | nn : LtI A s [] [] false
 | nc {w : Value} {ws : List Value} : LtI A s [] (w :: ws) true
 | cn {v : Value} {vs : List Value} : LtI A s (v :: vs) [] false
 | eq {v w : Value} {vs ws : List Value} {b : Bool} (h : SeqAt.EqAt A s v w true) (r : LtI A s vs ws b) : LtI A s (v :: vs) (w :: ws) b
 | ne {v w : Value} {vs ws : List Value} {b : Bool} (h : SeqAt.EqAt A s v w false) (l : ∀ (prog : Program) (w' : World) (E : VSP) (Q : VSP),Q (.bool b) s -> wpAny (model prog w') A (richCompare .Lt v w) Q E s) : LtI A s (v :: vs) (w :: ws) b
section
open PySem.SeqAt
open PySem.AutoSeq1 (wpAny_loadPart')
open PySem.MeetsSeq PySem.MeetsSeq2 PySem.MeetsSeq3
theorem tuple_lt_gen (l b : Addr) (items items2 : Array Value) (n n2 : Nat) (dd dd2 : Option Addr) (sl sl2 : Array (Option Value)) (r : Bool) : Meets (Builtin.«tuple.__lt__» ⟨[.ref l,.ref b],[]⟩) (fun A R s=>s.heap.get? l = some { cls := .type "tuple", dict := dd,data := .seq items n,slots := sl } /\ s.heap.get? b = some { cls := .type "tuple", dict := dd2,data := .seq items2 n2,slots := sl2 } /\ LtI A.in1 s items.toList items2.toList r /\ R (.ok (.ret (.bool r))) s) :=
 .of_wp fun prog w A R s h=>by
  obtain ⟨hp,g,d,tk,os⟩ := s;obtain ⟨hl,hb,hi,h⟩ := h;have f2 := AutoSeq1.sub_tuple_tuple
  wp_walk using wpAny_loadPart' hl,wpAny_loadPart' hb,wpAny_forIn_list _ (fun rest b s'=>b.1 = none /\ s' = ⟨hp,g,d,tk,os⟩ /\ ∃ (vs ws : List Value),rest = vs.zip ws /\
   LtI A.in1 ⟨hp,g,d,tk,os⟩ vs ws r /\ vs.length + items2.size = ws.length + items.size) _
  case turn =>
   rintro ⟨y,x⟩ rest b s' ⟨hb',rfl,vs,ws,hz,hvi,hlen⟩;cases hvi with
   | nn=>rw [List.zip_nil_left] at hz;cases hz
   | nc=>rw [List.zip_nil_left] at hz;cases hz
   | cn=>rw [List.zip_nil_right] at hz;cases hz
   | eq he hr =>
    rw [List.zip_cons_cons] at hz;injection hz with hyx hrest
    injection hyx with hy hx
    subst hy hx;simp only [List.length_cons] at hlen;refine wpAny_bind (he prog w _ _ ?_)
    wp_walk
    exact ⟨rfl,rfl,_,_,hrest,hr,by omega⟩
   | ne he hr =>
    rw [List.zip_cons_cons] at hz;injection hz with hyx hrest
    injection hyx with hy hx
    subst hy hx;refine wpAny_bind (he prog w _ _ ?_);have hri := hr prog w
    wp_walk using hri
    exact ⟨_,rfl,by simpa using h⟩
  case fin =>
   rintro ⟨b1,b2⟩ s' ⟨hb',rfl,vs,ws,hz,hvi,hlen⟩;simp only at hb';subst hb';have hv : r = decide (items.size < items2.size) := by
    cases hvi with
    | nn=>simp only [List.length_nil] at hlen;exact (decide_eq_false (by omega)).symm
    | nc=>simp only [List.length_nil,List.length_cons] at hlen;exact (decide_eq_true (by omega)).symm
    | cn=>simp only [List.length_nil,List.length_cons] at hlen;exact (decide_eq_false (by omega)).symm
    | eq he hr=>rw [List.zip_cons_cons] at hz;cases hz
    | ne he hr=>rw [List.zip_cons_cons] at hz;cases hz
   rw [hv] at h
   wp_walk
   exact ⟨_,rfl,by simpa [Builtin.Tuple.tupleCompareSizes] using h⟩
  case h=>exact ⟨rfl,rfl,items.toList,items2.toList,rfl,hi,by simp [Nat.add_comm]⟩
end
section
variable {prog : Program} {w : World} {A : Around} {E : VSP} {s : Shared}
theorem lt_tupGen {l b : Addr} {items items2 : Array Value} {r : Bool} {Q : VSP} (hl : IsTup s.heap l items) (hb : IsTup s.heap b items2) (hi : LtI (A.in1) s items.toList items2.toList r) (hu : A.units < cLine) (h : Q (.bool r) s) : wpAny (model prog w) A (compareOp .Lt (.ref l) (.ref b)) Q E s := by
 obtain ⟨⟨cls,dd,data,sl⟩,ho,hc,n,hd⟩ := id hl;obtain ⟨⟨cls2,dd2,data2,sl2⟩,ho2,hc2,n2,hd2⟩ := id hb;simp only at hc hd hc2 hd2;subst hc hd hc2 hd2;exact richCompare_meets_room (op := .Lt) ⟨_,ho,rfl⟩ ⟨_,ho2,rfl⟩ PySem.F.slot_tuple_lt PySem.F.entry_tuple_lt (PySem.F.args_tuple_lt_2 _ _) (tuple_lt_gen l b items items2 n n2 dd dd2 sl sl2 r)
  ⟨ho,ho2,hi,show Value.bool r ≠ Value.notImplemented /\ Q (.bool r) s from ⟨(fun x=>nomatch x),h⟩⟩ hu
end
section
variable {C : Cw} {X : Cx}
def ltS (x y : Str) : Bool := decide (x.cps.toList < y.cps.toList)
def ltV1 : V -> V -> Option Bool
 | .int i,.int j=>some (decide (i < j))
 | .str i,.str j=>some (ltS i j)
 | _,_=>none
def ltVL : List V -> List V -> Option Bool
 | [],[]=>some false
 | [],_ :: _=>some true
 | _ :: _,[]=>some false
 | x :: xs,y :: ys=>if eqV x y = true then ltVL xs ys else ltV1 x y
theorem ltI_of {A : Around} {s : Shared} {r : Bool} : ∀ {xs ys : List V} {us vs : List Value},Vals xs us -> Vals ys vs -> xs.all flatV = true -> ys.all flatV = true -> ltVL xs ys = some r -> LtI A s us vs r
 | _,_,_,_,.nil,.nil,_,_,h=>by cases h;exact .nn
 | _,_,_,_,.nil,.cons _ _,_,_,h=>by cases h;exact .nc
 | _,_,_,_,.cons _ _,.nil,_,_,h=>by cases h;exact .cn
 | x :: xs,y :: ys,u :: us,v :: vs,.cons r1 t1,.cons r2 t2,f,g,h=>by
  rw [List.all_cons,Bool.and_eq_true] at f g;unfold ltVL at h;cases e : eqV x y with
  | true=>rw [e,if_pos rfl] at h;exact .eq (by rw [<- e];exact eqAt_V r1 r2 f.1 g.1) (ltI_of t1 t2 f.2 g.2 h)
  | false =>
   rw [e,if_neg Bool.false_ne_true] at h;refine .ne (by rw [<- e];exact eqAt_V r1 r2 f.1 g.1) fun prog w' E Q q=>?_
   unfold ltV1 at h;split at h
   . cases h;obtain ⟨t,rfl⟩ := r1;obtain ⟨t',rfl⟩ := r2;exact lt_int q
   . cases h;obtain ⟨t,rfl⟩ := r1;obtain ⟨t',rfl⟩ := r2;exact lt_str q
   . cases h
theorem op_ltT (hu : X.A.units + 64 < cLine) : OpR X (compareOp .Lt) (fun x y H Q=>∃ l b xs ys r,x = .ref l /\ y = .ref b /\ SqT X.K H l xs /\ SqT X.K H b ys /\ xs.all flatV = true /\ ys.all flatV = true /\ ltVL xs ys = some r /\ Q (.bl r) H) := by intro pins s σ H x y v u Q I rx ry h;obtain ⟨l,b,xs,ys,r,rfl,rfl,hl,hb,f,g,e,q⟩ := h;cases rx;cases ry;obtain ⟨us,r1,p1,_⟩ := I.tuple hl;obtain ⟨vs,r2,p2,_⟩ := I.tuple hb;exact lt_tupGen p1 p2 (by simpa using ltI_of r1 r2 f g e) (by omega) ⟨.bl r,H,I,rfl,q⟩
def ltD1 : D -> D -> Option Bool
 | .int i,.int j=>some (decide (i < j))
 | .str i,.str j=>some (ltS i j)
 | _,_=>none
def ltL : List D -> List D -> Option Bool
 | [],[]=>some false
 | [],_ :: _=>some true
 | _ :: _,[]=>some false
 | x :: xs,y :: ys=>if eqD x y = true then ltL xs ys else ltD1 x y
theorem lt_vOf : ∀ {xs ys : List D},xs.all flatD = true -> ys.all flatD = true -> ltVL (xs.map vOf) (ys.map vOf) = ltL xs ys
 | [],[],_,_=>rfl
 | [],_ :: _,_,_=>rfl
 | _ :: _,[],_,_=>rfl
 | x :: xs,y :: ys,f,g=>by rw [List.all_cons,Bool.and_eq_true] at f g;show (if eqV (vOf x) (vOf y) = true then ltVL (xs.map vOf) (ys.map vOf) else ltV1 (vOf x) (vOf y)) = if eqD x y = true then ltL xs ys else ltD1 x y;rw [eqV_vOf f.1 g.1,lt_vOf f.2 g.2];congr 1;cases x <;> cases y <;> first | rfl | (cases f.1;done) | (cases g.1;done)
def ltF : Md -> D -> Md -> D -> Option (Md × D) := fun _ x _ y=>match x,y with
 | .str i,.str j=>some (.fz,.bl (ltS i j))
 | .tup xs,.tup ys=>if (xs.all flatD && ys.all flatD) = true then (ltL xs ys).map fun b=>(.fz,.bl b) else none
 | _,_=>none
theorem opd_ltF (hu : X.A.units + 64 < cLine) : OpD C X (compareOp .Lt) ltF := by
 refine ⟨_,op_lt_str.or (op_ltT hu),fun F H m x n y v u k d Q s rx ry e w=>?_⟩;unfold ltF at e;split at e
 . rename_i i j;cases e;obtain ⟨rfl,_⟩ := rx.str;obtain ⟨rfl,_⟩ := ry.str;exact .inl ⟨i,j,rfl,rfl,w _ F H (.refl s) (rp_bl _) (by intro z;cases z)⟩
 . rename_i xs ys;split at e
   . rename_i hf;rw [Bool.and_eq_true] at hf;obtain ⟨a,us,rfl,q1,r1⟩ := rx.seqT s;obtain ⟨b,vs,rfl,q2,r2⟩ := ry.seqT s;have e1 := repL_flat hf.1 r1;have e2 := repL_flat hf.2 r2;subst e1;subst e2;cases el : ltL xs ys with
     | none=>rw [el] at e;cases e
     | some r=>rw [el] at e;cases e;exact .inr ⟨a,b,_,_,r,rfl,rfl,q1,q2,all_vOf hf.1,all_vOf hf.2,by rw [lt_vOf hf.1 hf.2];exact el,w _ F H (.refl s) (rp_bl _) (by intro z;cases z)⟩
   . cases e
 . cases e
theorem isB_ltF : IsB ltF := fun m x n y k d e=>by
 unfold ltF at e;split at e
 . cases e;exact ⟨_,rfl,rfl⟩
 . split at e
   . rename_i xs ys _;cases el : ltL xs ys with
     | none=>rw [el] at e;cases e
     | some r=>rw [el] at e;cases e;exact ⟨_,rfl,rfl⟩
   . cases e
 . cases e
def tcInt2 : List (Md × D) -> Option (Md × D) := fun xs=>match xs with
 | [(_,.str z)]=>if z.length <= 640 then (PySem.intText? z).map fun n=>(.fz,.int n) else none
 | _=>tcInt xs
theorem calld_int2 : CallD X (.type "int") tcInt2 := by
 obtain ⟨r,h1,h2⟩ := calld_int (X := X);refine ⟨fun xs H Q=>r xs H Q \/ ∃ z n,xs = [.str z] /\ z.length <= 640 /\ PySem.intText? z = some n /\ Q (.int n) H,?_,fun F H xs vs k d Q s rx e w=>?_⟩
 . intro pins s σ H xs us Q I rr h;rcases h with h | ⟨z,n,rfl,hl,hn,q⟩
   . exact h1 pins s σ H xs us Q I rr h
   . obtain ⟨u,rfl,t,rfl⟩ := vals1 rr;exact PySem.W.KIN.call_text hn hl ⟨.int n,H,I.tok _,⟨_,rfl⟩,q⟩
 . unfold tcInt2 at e;split at e
   . rename_i m z;split at e
     . rename_i hl;cases en : PySem.intText? z with
       | none=>rw [en] at e;cases e
       | some n=>rw [en] at e;cases e;obtain ⟨v,rfl,r0⟩ := rx.one;obtain ⟨rfl,_⟩ := r0.str;exact .inr ⟨z,n,rfl,hl,en,w _ F H (.refl s) (rp_int _) (by intro z;cases z)⟩
     . cases e
   . exact .inl (h2 F H xs vs k d Q s rx e w)
def mulS0 : Md -> D -> Md -> D -> Option (Md × D) := fun _ x _ y=>match x,y with
 | .str z,.int n=>if (decide (n < 1) && decide (-1000 <= n)) = true then some (.fz,.str Str.empty) else none
 | _,_=>none
theorem opd_mulS0 : OpD C X (binaryOp .Mult) mulS0 := by
 refine ⟨fun x y H Q=>∃ z n,x = .str z /\ y = .int n /\ n < 1 /\ -1000 <= n /\ Q (.str Str.empty) H,?_,?_⟩
 . intro pins s σ H x y v u Q I rx ry h;obtain ⟨z,n,rfl,rfl,h1,h2,q⟩ := h;obtain ⟨t,rfl⟩ := rx;obtain ⟨t',rfl⟩ := ry;exact PySem.P.mul_str_none h1 (by omega) ⟨.str Str.empty,H,I.tok _,⟨_,rfl⟩,q⟩
 . intro F H m x n y v u k d Q s rx ry e w;unfold mulS0 at e;split at e
   . rename_i z i;obtain ⟨rfl,hz,hk⟩ := rx.str;cases ry.int;split at e
     . rename_i hc;simp only [Bool.and_eq_true,decide_eq_true_eq] at hc;cases e;exact ⟨z,i,rfl,rfl,hc.1,hc.2,w _ F H (.refl s) (rp_str ⟨by decide +kernel,by decide +kernel⟩) (by intro z;cases z)⟩
     . cases e
   . cases e
end
section
open PySem.SeqAt
open PySem.AutoSeq1 (wpAny_loadPart')
open PySem.MeetsSeq PySem.MeetsSeq2 PySem.MeetsSeq3
variable {prog : Program} {w : World} {A : Around} {E : VSP} {s : Shared}
theorem nextT_item {it t : Addr} {i : Nat} {xs : Array Value} {x : Value} {Q : VSP} (hi : s.heap.IsTupleIter it t i) (ht : IsTup s.heap t xs) (hx : xs[i]? = some x) (q : ∀ h',h'.IsTupleIter it t (i + 1) -> Heap.SameBut it s.heap h' -> Q x { s with heap := h' }) : wpAny (model prog w) A (Builtin.SmallTypes.nextOf (.ref it)) Q E s := by
 have ty := hi.typeIs;obtain ⟨o,ho,hc,hd⟩ := hi;obtain ⟨p,hp,_,n,hs⟩ := ht
 delta Builtin.SmallTypes.nextOf
 apply wpAny_bind;apply wpAny_callSpecial?_slot (name := Str.ofString "__next__") ty F.slot_tuple_iterator_next;refine wpAny_call_entry F.slot_tuple_iterator_next ty F.entry_tuple_iterator_next ?w (F.args_tuple_iterator_next_1 _)
 case w =>
  refine wpAny_bind (m := field (.ref it) 0) (wpAny_field ho hd (x := .ref t) rfl ?_);rw [show (Value.ref t == Value.none) = false from rfl,if_neg Bool.false_ne_true]
  refine wpAny_bind (m := field (.ref it) 1) (wpAny_field ho hd (x := .int i 0) rfl ?_);apply wpAny_bind;apply wpAny_seqItems hp hs;rw [Int.toNat_natCast];simp only [hx];apply wpAny_bind;apply wpAny_setField ho hd (by simp)
  refine wpAny_pure ⟨x,rfl,wpAny_pure (q _ ⟨_,Heap.get?_update_self _ ho (Obj.isFreed_of_fields (Obj.data_mapFields hd _)),?_,?_⟩ (Heap.SameBut.update ..))⟩
  . rw [Obj.cls_mapFields,hc]
  . rw [Obj.data_mapFields hd];simp [rawInt]
theorem nextT_end {it t : Addr} {i : Nat} {xs : Array Value} {Q : VSP} (h0 : A.handled = none) (hi : s.heap.IsTupleIter it t i) (ht : IsTup s.heap t xs) (hx : xs[i]? = none) (q : ∀ h' e,Heap.ExtBut it s.heap h' -> (∃ o,h'.get? e = some o /\ o.cls = .type "StopIteration") -> E (.ref e) { s with heap := h' }) : wpAny (model prog w) A (Builtin.SmallTypes.nextOf (.ref it)) Q E s := by
 have ty := hi.typeIs;obtain ⟨o,ho,hc,hd⟩ := hi;obtain ⟨p,hp,_,n,hs⟩ := ht
 delta Builtin.SmallTypes.nextOf
 apply wpAny_bind;apply wpAny_callSpecial?_slot (name := Str.ofString "__next__") ty F.slot_tuple_iterator_next;refine wpAny_call_entry F.slot_tuple_iterator_next ty F.entry_tuple_iterator_next ?w (F.args_tuple_iterator_next_1 _)
 case w =>
  refine wpAny_bind (m := field (.ref it) 0) (wpAny_field ho hd (x := .ref t) rfl ?_);rw [show (Value.ref t == Value.none) = false from rfl,if_neg Bool.false_ne_true]
  refine wpAny_bind (m := field (.ref it) 1) (wpAny_field ho hd (x := .int i 0) rfl ?_);apply wpAny_bind;apply wpAny_seqItems hp hs;rw [Int.toNat_natCast];simp only [hx];apply wpAny_bind;apply wpAny_rule;apply wpAny_bind;apply wpAny_setField ho hd (by simp)
  refine wpAny_bind (m := newExc (.type "StopIteration") []) ?_;simp only [newExc,newTuple];apply wpAny_bind;refine wpAny_newObj_type ?_ (by size_fits)
  apply wpAny_bind (m := firstArgMember _ _);refine wpAny_of_eq (a := .none) ?_ ?_
  . first | rfl | (unfold firstArgMember;rfl)
  refine wpAny_newObj_type (hd := by size_fits) ?_
  simp only [raiseNew];apply wpAny_bind;apply wpAny_handled
  first | rw [show A.in1.handled = none from h0] | rw [h0]
  refine wpAny_throw ?_;exact q _ _ ((Heap.SameBut.extBut (Heap.SameBut.update ..)).push _ |>.push _) ⟨_,Heap.get?_push_size _ rfl,rfl⟩
theorem tup_at {h h' : Heap} {a : Addr} {xs : Array Value} (x : IsTup h a xs) (k : ∀ o,h.get? a = some o -> h'.get? a = some o) : IsTup h' a xs := by obtain ⟨o,ho,r⟩ := x;exact ⟨o,k o ho,r⟩
def tIt (l : Addr) : Obj := { cls := .type "tuple_iterator", data := .fields #[.ref l,.int 0 0] }
def zp2 (h : Heap) (l m : Addr) : Heap := (h.push (tIt l)).push (tIt m)
def zp3 (h : Heap) (l m : Addr) : Heap := (zp2 h l m).push { cls := .type "tuple", data := .seq #[.ref h.objs.size,.ref (h.push (tIt l)).objs.size] }
def zp4 (h : Heap) (l m : Addr) : Heap := (zp3 h l m).push { cls := .type "tuple", data := .seq #[.none,.none] }
def zp5 (h : Heap) (l m : Addr) : Heap := (zp4 h l m).push { cls := .type "zip", data := .fields #[.none,.bool false,.bool false,.ref (zp2 h l m).objs.size,.ref (zp3 h l m).objs.size] }
theorem zs2 (h : Heap) (l m : Addr) : (zp2 h l m).objs.size = h.objs.size + 2 := by unfold zp2;rw [Heap.size_push,Heap.size_push]
theorem zs3 (h : Heap) (l m : Addr) : (zp3 h l m).objs.size = h.objs.size + 3 := by unfold zp3;rw [Heap.size_push,zs2]
theorem zs4 (h : Heap) (l m : Addr) : (zp4 h l m).objs.size = h.objs.size + 4 := by unfold zp4;rw [Heap.size_push,zs3]
theorem zs5 (h : Heap) (l m : Addr) : (zp5 h l m).objs.size = h.objs.size + 5 := by unfold zp5;rw [Heap.size_push,zs4]
end
section
variable {X : Cx} {pins : LAO} {σ : L2.St} {H : Hp} {s : Shared} {h' : Heap}
theorem inv_pair {t' : Nat} {its : List Addr} {n : Addr} {xs : List V} (I : Inv X pins σ H s) (k : ∀ b o,b ∉ its -> s.heap.get? b = some o -> h'.get? b = some o) (hf : ∀ b ∈ its,FpOk X pins H b) (hn : s.heap.objs.size <= n) (new : ∃ us,Vals xs us /\ PlainTp h' n us.toArray) (hz : xs.length <= sizeLine) : Inv X pins σ (upd H n (.tup xs)) { s with heap := h',toks := t' } := by
 have fr : H n = none := I.hok.fresh hn;have lt : ∀ {b o},s.heap.get? b = some o -> b ≠ n := fun e z=>absurd (Heap.lt_size e) (by rw [z];exact Nat.not_lt.mpr hn)
 have nb : ∀ {b u},H b = some u -> b ≠ n := fun e z=>by rw [z,fr] at e;cases e
 have ni : ∀ {b u},H b = some u -> b ∉ its := fun e z=>by rw [(hf _ z).1] at e;cases e
 refine I.call (g' := s.gens) (d' := s.drawn) (ch := its) ⟨fun b o e _ _ hx=>k b o hx e,fun b o e _ _ hx=>⟨o.slots,k b o hx e⟩,fun b o e h0 _=>by rw [upd_ne (lt e)];exact h0,fun b o e hx=>⟨o,k b o hx e⟩,
  fun b u e=>by rw [upd_ne (nb e)];exact e,fun b u v e=>by rw [upd_ne (nb e)];exact e,fun b u e=>⟨#[],by rw [upd_ne (nb e),e];simp⟩⟩ (fun b u e=>?_) I.bare fun b hb=>?_
 . by_cases hb : b = n
   . subst hb;rw [upd_same] at e;cases e;exact ⟨hz,new⟩
   . rw [upd_ne hb] at e;refine (I.hok b u e).stay (fun c v hc q=>k c v ?_ q) (fun c q=>?_) fun c v q=>?_
     . rcases hc with z | z
       . rw [z];exact ni e
       . exact ni z
     . rw [upd_ne (nb q)];exact q
     . rw [upd_ne (nb q)];exact q
 . obtain ⟨f0,f1,f2,f3,f4,f5⟩ := hf b hb;exact ⟨f3,f1,f4,f5⟩
theorem inv_turned {t' : Nat} {its : List Addr} (I : Inv X pins σ H s) (k : ∀ b o,b ∉ its -> s.heap.get? b = some o -> h'.get? b = some o) (hf : ∀ b ∈ its,FpOk X pins H b) : Inv X pins σ H { s with heap := h',toks := t' } := by
 have ni : ∀ {b u},H b = some u -> b ∉ its := fun e z=>by rw [(hf _ z).1] at e;cases e
 refine I.call (g' := s.gens) (d' := s.drawn) (ch := its) ⟨fun b o e _ _ hx=>k b o hx e,fun b o e _ _ hx=>⟨o.slots,k b o hx e⟩,fun b o e h0 _=>h0,fun b o e hx=>⟨o,k b o hx e⟩,
  fun b u e=>e,fun b u v e=>e,fun b u e=>⟨#[],by rw [e];simp⟩⟩ (fun b u e=>?_) I.bare fun b hb=>?_
 . refine (I.hok b u e).stay (fun c v hc q=>k c v ?_ q) (fun _ q=>q) fun _ _ q=>q;rcases hc with z | z
   . rw [z];exact ni e
   . exact ni z
 . obtain ⟨f0,f1,f2,f3,f4,f5⟩ := hf b hb;exact ⟨f3,f1,f4,f5⟩
end
section
variable {C : Cw} {X : Cx} {tg e : Expr} {g : Rho -> Res} {gs : Rho -> ResL} {pos p : Pos}
theorem rp_tupF {K : Fg} {F H : Hp} {m : Md} {ds : List D} {v : V} (h : Rp K F H m (.tup ds) v) : ∃ a xs,v = .ref a /\ SqT K F a xs /\ RepL K F ds xs := by
 cases m with
 | fz=>exact (show RepV K F (.tup ds) v from h) |> fun h=>by simp only [RepV] at h;exact h
 | fr=>obtain ⟨_,_,_,q⟩ := h;exact q.elim
 | bo=>obtain ⟨_,_,_,q⟩ := h;exact q.elim
end
open PySem.AutoSeq1 (wpAny_loadPart')
theorem draws_tuple {prog : Program} {w : World} {A : Around} (hh : A.handled = none) (it t : Addr) (hne : t ≠ it) (items : Array Value) : Draws prog w A it [it,t] items.size (fun i v=>items[i]? = some v) (fun i h=>h.IsTupleIter it t i /\ IsTup h t items) where
 live := fun _ _ st=>let ⟨o,ho,_⟩ := st.1;⟨o,ho⟩
 frame := fun _ _ _ st hk=>⟨st.1.at fun o e=>hk it (by simp) o e,tup_at st.2 fun o e=>hk t (by simp) o e⟩
 item := fun i s Q E hi st hQ=>by
  refine nextT_item st.1 st.2 (x := items[i]) (by simp [hi]) fun h' hit' hs'=>?_
  exact hQ _ h' s.toks (by simp [hi]) ⟨hit',tup_at st.2 fun o e=>hs'.extBut _ o hne e⟩ hs'
 done := fun s Q E st hE=>nextT_end hh st.1 st.2 (by simp) hE
theorem meets_enumT (l : Addr) (items : Array Value) : Meets (Builtin.«enumerate.__new__» ⟨[.type "enumerate", .ref l],[]⟩) (fun _ R s=>s.heap.IsTuple l items /\ R (.ok (.ret (.ref (s.heap.push { cls := .type "tuple_iterator", data := .fields #[.ref l,.int 0 0] }).objs.size))) { s with heap := (s.heap.push { cls := .type "tuple_iterator", data := .fields #[.ref l,.int 0 0] }).push { cls := .type "enumerate", data := .fields #[.none,.bool false,.ref s.heap.objs.size,rawInt 0,.none,.none] } }) :=
 .of_wp fun prog w A R s h=>by
  obtain ⟨hp,g,d,tk,os⟩ := s;obtain ⟨hL,h⟩ := h;have hsub := sub_enumerate;have hL : Heap.IsTuple (Shared.heap ⟨hp,g,d,tk,os⟩) l items := hL;obtain ⟨o,ho,hc,n,hd⟩ := id hL
  wp_walk using wpAny_loadPart' ho
  refine wpAny_stack_any fun st=>wpAny_pure ?_;split
  . rename_i c _ _ _ _ _;cases (c == Value.type "enumerate")
    . wp_walk using wpAny_loadPart' ho,wpAny_pyIter_tuple hL
      exact ⟨_,rfl,h⟩
    . wp_walk using wpAny_loadPart' ho,wpAny_pyIter_tuple hL
      exact ⟨_,rfl,h⟩
  . wp_walk using wpAny_loadPart' ho,wpAny_pyIter_tuple hL
    exact ⟨_,rfl,h⟩
section
variable {prog : Program} {w : World} {A : Around} {E : VSP} {s : Shared}
theorem call_enumT {a : Addr} {us : Array Value} {Q : VSP} (ha : s.heap.IsTuple a us) (q : ∀ g,IsEnum g (s.heap.objs.size + 1) s.heap.objs.size 0 .none -> g.IsTupleIter s.heap.objs.size a 0 -> (∀ c u,s.heap.get? c = some u -> g.get? c = some u) -> Q (.ref (s.heap.objs.size + 1)) { s with heap := g }) : wpAny (model prog w) A (call (.type "enumerate") [.ref a]) Q E s := by
 let i0 : Obj := { cls := .type "tuple_iterator", data := .fields #[.ref a,.int 0 0] }
 let e0 : Obj := { cls := .type "enumerate", data := .fields #[.none,.bool false,.ref s.heap.objs.size,rawInt 0,.none,.none] }
 have z1 : (s.heap.push i0).objs.size = s.heap.objs.size + 1 := Heap.size_push ..;have g1 : ((s.heap.push i0).push e0).get? (s.heap.objs.size + 1) = some e0 := by rw [<- z1];exact Heap.get?_push_size _ rfl
 have g0 : ((s.heap.push i0).push e0).get? s.heap.objs.size = some i0 := hps (Heap.get?_push_size _ rfl);have up : ∀ c u,s.heap.get? c = some u -> ((s.heap.push i0).push e0).get? c = some u := fun c u z=>hps (hps z);have fin : (∃ o,((s.heap.push i0).push e0).get? (s.heap.objs.size + 1) = some o /\ o.cls = .type "enumerate") /\ Q (.ref (s.heap.objs.size + 1)) { s with heap := (s.heap.push i0).push e0 } := ⟨⟨e0,g1,rfl⟩,q _ g1 ⟨i0,g0,rfl,rfl⟩ up⟩
 rw [<- z1] at fin;exact callType_new F.called_enumerate (by decide) (F.typeCall_enumerate_1 _) (F.newCall_enumerate_1 _) (fun o=>F.args_object_init_2 o _) F.entry_enumerate_new (meets_enumT a us) ⟨ha,fin⟩
end
def Ite (Sq : Hp -> List V -> Prop) : It :=
 ⟨fun i H => ∃ xs x, Sq H xs ∧ xs[i]? = some x,
  fun i H v H'=>∃ p x,v = .ref p /\ H p = none /\ H' = upd H p (.tup [.int i,x]) /\ ∀ xs,Sq H xs -> xs[i]? = some x,
  fun i H=>∃ xs,Sq H xs /\ xs.length <= i⟩
section
variable {P : Program} {w : World} {K : Fg} {elts : List Expr} {cx : Nat} {pos : Pos}
theorem turn_enumG {Sq : Hp -> List V -> Prop} (e it l : Addr) (hei : e ≠ it) (hel : e ≠ l) (hli : l ≠ it) (It' : Nat -> Heap -> Prop) (At : Heap -> Array Value -> Prop) (live : ∀ i h,It' i h -> ∃ o,h.get? it = some o /\ ∀ v,o.data ≠ .cell v) (keep : ∀ i h h',It' i h -> (∀ o,h.get? it = some o -> h'.get? it = some o) -> It' i h') (dr : ∀ A : Around,A.handled = none -> ∀ items : Array Value,Draws P w A it [it,l] items.size (fun i v=>items[i]? = some v) (fun i h=>It' i h /\ At h items)) (dn : ∀ (A : Around) (s : Shared) (items : Array Value) (k : Nat) (Q E : VSP),A.handled = none -> It' k s.heap -> At s.heap items -> items[k]? = none -> (∀ h' x,Heap.ExtBut it s.heap h' -> (∃ o,h'.get? x = some o /\ o.cls = .type "StopIteration") -> E (.ref x) { s with heap := h' }) -> wpAny (model P w) A (Builtin.SmallTypes.nextOf (.ref it)) Q E s) (look : ∀ (X : Cx) (pins : LAO) (s : Shared) (σ : L2.St) (H : Hp) (xs : List V),X.prog = P -> X.w = w -> X.K = K -> Inv X pins σ H s -> Sq H xs -> ∃ us,Vals xs us /\ At s.heap us.toArray) (inj : ∀ (X : Cx) (pins : LAO) (s : Shared) (σ : L2.St) (H : Hp) (xs ys : List V),X.prog = P -> X.w = w -> X.K = K -> Inv X pins σ H s -> Sq H xs -> Sq H ys -> ys = xs) : Turn P w K (.Tuple elts cx pos) (Ite Sq) [e,it] e (fun k h=>(∃ old,IsEnum h e it k old) /\ It' k h) where
 mem := by simp
 obj := fun k h st b hb=>by
  obtain ⟨⟨old,he⟩,hi⟩ := st;simp only [List.mem_cons,List.mem_nil_iff,or_false] at hb;rcases hb with rfl | rfl
  . exact ⟨_,he,fun v e=>by cases e⟩
  . obtain ⟨o,e,d⟩ := live k h hi;exact ⟨o,e,d⟩
 keep := fun k h h' st q=>by obtain ⟨⟨old,he⟩,hi⟩ := st;exact ⟨⟨old,q e (by simp) _ he⟩,keep k h h' hi fun o e=>q it (by simp) o e⟩
 item := by
  intro X hP hw hK hc k pins s σ H E I hf st hg;obtain ⟨⟨old,he⟩,hi⟩ := st;obtain ⟨xs,x,ql,hx⟩ := hg;obtain ⟨us,r1,p1⟩ := look X pins s σ H xs hP hw hK I ql;obtain ⟨u,hu,ru⟩ := r1.get hx;have hlt : k < us.toArray.size := by rw [List.size_toArray];exact (List.getElem?_eq_some_iff.mp hu).1
  refine wpAny_pyNext_enum_itemD (dr X.A.in1 (I.ok.hd hc) us.toArray) he ⟨hi,p1⟩ hlt hei (by simp [hei,hel]) fun x' h' tk hx' a1 a2 a3 a4 a5=>?_
  have : x' = u := by rw [List.getElem?_toArray] at hx';rw [hu] at hx';exact (Option.some.inj hx').symm
  subst this;refine ⟨_,rfl,wpAny_letOwnedTupleGo_enum (s := { s with heap := h',toks := tk + 1 }) a1 fun h2 b1 b2=>?_⟩
  have en : s.heap.objs.size ≠ e := fun q=>absurd (Heap.lt_size he) (by rw [<- q];exact Nat.lt_irrefl _)
  have up : ∀ b o,b ∉ [e,it] -> s.heap.get? b = some o -> h2.get? b = some o := fun b o hb z=>by simp only [List.mem_cons,List.mem_nil_iff,or_false,not_or] at hb;exact b2.extBut _ _ hb.1 (a5 b o hb.1 hb.2 z)
  have I2 := inv_pair (t' := tk + 1) (xs := [.int k,x]) I up hf (Nat.le_refl _) ⟨[.int k tk,x'],.cons ⟨tk,rfl⟩ (.cons ru .nil),⟨_,b2.extBut _ _ en a3,rfl,rfl,_,rfl⟩⟩ (show 2 <= sizeLine by decide +kernel)
  refine ⟨.ref s.heap.objs.size,_,I2,rfl,⟨_,x,rfl,I.hok.fresh (Nat.le_refl _),rfl,fun zs q=>by rw [inj X pins s σ H xs zs hP hw hK I ql q];exact hx⟩,?_,fun b hb=>?_⟩
  . have ek : ((k : Int) + 1) = ((k + 1 : Nat) : Int) := by omega
    rw [ek] at b1;exact ⟨⟨x',b1⟩,keep _ _ _ a2.1 fun o z=>b2.extBut _ o hei.symm z⟩
  . have hb0 := hb;obtain ⟨o,z⟩ : ∃ o,s.heap.get? b = some o := by
      simp only [List.mem_cons,List.mem_nil_iff,or_false] at hb;rcases hb with rfl | rfl
      . exact ⟨_,he⟩
      . obtain ⟨o,z,_⟩ := live _ _ hi;exact ⟨o,z⟩
    rw [upd_ne fun q=>absurd (Heap.lt_size z) (by rw [q];exact Nat.lt_irrefl _)]
    exact (hf b hb0).1
 done := by
  intro X hP hw hK hc k pins s σ H E I hf st hg;obtain ⟨⟨old,he⟩,hi⟩ := st;obtain ⟨xs,ql,hn⟩ := hg;obtain ⟨us,r1,p1⟩ := look X pins s σ H xs hP hw hK I ql;have e1 := r1.length;have te : s.TypeIs (.ref e) "enumerate" := ⟨_,he,rfl⟩
  delta pyNext
  apply wpAny_bind;apply wpAny_attempt;apply wpAny_callSpecial?_slot (name := Str.ofString "__next__") te F.slot_enumerate_next;refine wpAny_call_entry F.slot_enumerate_next te F.entry_enumerate_next ?nx (F.args_enumerate_next_1 _);refine wpAny_bind (m := field (.ref e) 2) (wpAny_field he rfl (x := .ref it) rfl ?_);refine wpAny_bind (dn X.A.in1 s us.toArray k _ _ (I.ok.hd hc) hi p1 (by simp;omega) fun h' x he' hx'=>?_)
  obtain ⟨o,ho,hc'⟩ := hx';refine wpAny_bind (wpAny_isInstance (T := "StopIteration") (b := true) ⟨o,ho,hc'⟩ isSubtype_stop ?_);refine wpAny_pure ⟨rfl,inv_turned (t' := s.toks) I (fun b o hb z=>he' b o (by
   simp only [List.mem_cons,List.mem_nil_iff,or_false,not_or] at hb;exact hb.2) z) hf⟩
 self := fun _ _ _ _ _ st h=>by obtain ⟨⟨old,he⟩,_⟩ := st;exact wpAny_pyIter_enum he h
theorem turn_enumL (e it l : Addr) (hei : e ≠ it) (hel : e ≠ l) (hli : l ≠ it) : Turn P w K (.Tuple elts cx pos) (Ite fun H=>SqL K H l) [e,it] e (fun k h=>(∃ old,IsEnum h e it k old) /\ h.IsListIter it l k) :=
 turn_enumG e it l hei hel hli (fun k h => h.IsListIter it l k) (fun h xs => h.IsList l xs) (fun i h st => by
     obtain ⟨o,e,_,d⟩ := st;exact ⟨o,e,fun v q=>by rw [d] at q;cases q⟩) (fun i h h' st k=>st.at k) (fun A hA items=>Draws.list hA it l hli items)
  (fun A s items k Q E hA st ha hx q=>wpAny_nextOf_list_end hA st ha hx q)
  (fun X pins s σ H xs hP hw hK I q=>by
   subst hK;obtain ⟨us,r,p,_⟩ := I.list q;exact ⟨us,r,p.isList⟩)
  (fun X pins s σ H xs ys hP hw hK I q q'=>by subst hK;exact I.list_inj q' q)
theorem turn_enumT (e it l : Addr) (hei : e ≠ it) (hel : e ≠ l) (hli : l ≠ it) : Turn P w K (.Tuple elts cx pos) (Ite fun H=>SqT K H l) [e,it] e (fun k h=>(∃ old,IsEnum h e it k old) /\ h.IsTupleIter it l k) :=
 turn_enumG e it l hei hel hli (fun k h => h.IsTupleIter it l k) (fun h xs => IsTup h l xs) (fun i h st => by
     obtain ⟨o,e,_,d⟩ := st;exact ⟨o,e,fun v q=>by rw [d] at q;cases q⟩) (fun i h h' st k=>st.at k) (fun A hA items=>draws_tuple hA it l hli items)
  (fun A s items k Q E hA st ha hx q=>nextT_end hA st ha hx q)
  (fun X pins s σ H xs hP hw hK I q=>by
   subst hK;obtain ⟨us,r,p,_⟩ := I.tuple q;exact ⟨us,r,p⟩)
  (fun X pins s σ H xs ys hP hw hK I q q'=>by subst hK;exact I.tuple_inj q' q)
end
section
variable {C : Cw} {X : Cx} {tg e : Expr} {g : Rho -> Res} {gs : Rho -> ResL} {pos p : Pos}
theorem boot_enum : bootBuiltins ("enumerate" : Str) = some (.type "enumerate") := by first | rfl | decide +kernel | kernel_rfl
def iEnum (K : Fg) (ta : TA) : TI := fun σ H R=>ta σ H fun vs H1=>∃ a xs,vs = [.ref a] /\ ((SqL K H1 a xs /\ R (Ite fun H=>SqL K H a) H1) \/ (SqT K H1 a xs /\ R (Ite fun H=>SqT K H a) H1))
theorem pi_enum {a : Expr} {ta : TA} {elts : List Expr} {cx} {pp : Pos} (hg : Gl X "enumerate") (hm : X.mg "enumerate" = none) (ha : PA X [a] ta) (hs : starEach [a] X.env = [(false,eval a X.env)] := by rfl) : PI X (.Tuple elts cx pp) (.Call (.Name "enumerate" p) [a] [] pos) (iEnum X.K ta) := by
 intro pins s σ H R I h;refine Call_ (ld_blt I hg hm boot_enum (PyProof.Rows.callWith_type1 (thn (ha pos pins s σ H _ I h) fun us s1 q1=>?_) (by rw [hs];rfl) (by rfl)))
 obtain ⟨vs,H1,I1,r1,l,xs,rfl,q⟩ := q1;cases r1 with
 | cons r rr =>
  cases rr;cases r;have fb : ∀ b : Addr,s1.heap.objs.size <= b -> FpOk X pins H1 b := fun b hb=>I1.fpOk hb (I1.hok.fresh hb);have fin : ∀ b : Addr,b ∈ [s1.heap.objs.size + 1,s1.heap.objs.size] -> FpOk X pins H1 b := fun b hb=>by
   simp only [List.mem_cons,List.mem_nil_iff,or_false] at hb;rcases hb with rfl | rfl
   . exact fb _ (Nat.le_succ _)
   . exact fb _ (Nat.le_refl _)
  rcases q with ⟨ql,q⟩ | ⟨ql,q⟩
  . obtain ⟨ls,_,p1,_⟩ := I1.list ql;have ll : l < s1.heap.objs.size := by obtain ⟨o,n,e,_⟩ := id p1;exact Heap.lt_size e
    refine call_enumerate_list p1.isList fun h' a1 a2 a3 a4=>wpAny_pyIter_enum (s := { s1 with heap := h' }) a1 ?_
    exact ⟨_,[s1.heap.objs.size + 1,s1.heap.objs.size],_,_,H1,rfl,I1.kept (t' := s1.toks) a4,turn_enumL _ _ l (Nat.succ_ne_self _) (Nat.ne_of_gt (Nat.lt_succ_of_lt ll)) (Nat.ne_of_lt ll),⟨⟨_,a1⟩,a2⟩,fin,q⟩
  . obtain ⟨ls,_,p1,_⟩ := I1.tuple ql;have ll : l < s1.heap.objs.size := by obtain ⟨o,e,_⟩ := id p1;exact Heap.lt_size e
    refine call_enumT (show s1.heap.IsTuple l ls.toArray from p1) fun h' a1 a2 a4=>wpAny_pyIter_enum (s := { s1 with heap := h' }) a1 ?_
    exact ⟨_,[s1.heap.objs.size + 1,s1.heap.objs.size],_,_,H1,rfl,I1.kept (t' := s1.toks) a4,turn_enumT _ _ l (Nat.succ_ne_self _) (Nat.ne_of_gt (Nat.lt_succ_of_lt ll)) (Nat.ne_of_lt ll),⟨⟨_,a1⟩,a2⟩,fin,q⟩
def enumD : Nat -> List D -> List D
 | _,[]=>[]
 | i,d :: ds=>.tup [.int i,d] :: enumD (i + 1) ds
theorem enumD_len : ∀ {ds : List D} {i : Nat},(enumD i ds).length = ds.length
 | [],_=>rfl
 | d :: ds,i=>by simp only [enumD,List.length_cons,enumD_len]
theorem enumD_get : ∀ {ds : List D} {j i : Nat} {d : D},ds[i]? = some d -> (enumD j ds)[i]? = some (.tup [.int ((j + i : Nat) : Int),d])
 | [],_,_,_,h=>by simp at h
 | x :: ds,j,0,d,h=>by simp at h;subst h;rfl
 | x :: ds,j,i + 1,d,h=>by
  have := enumD_get (ds := ds) (j := j + 1) (i := i) (by simpa using h)
  have e : j + 1 + i = j + (i + 1) := by omega
  rw [e] at this;simpa [enumD] using this
theorem iterOf_enum {K : Fg} {F : Hp} {Sq : Hp -> List V -> Prop} {ds : List D} {xs : List V} (qa : ∀ H,Same F H -> Sq H xs) (ra : RepL K F ds xs) : IterOf K F (Ite Sq) (enumD 0 ds) where
 go := fun i H s hi=>by
  rw [enumD_len] at hi;have h1 : i < xs.length := by rw [ra.length];omega
  exact ⟨xs,xs[i],qa H s,by simp [h1]⟩
 stop := fun i H s hi=>by rw [enumD_len] at hi;exact ⟨xs,qa H s,by rw [ra.length];omega⟩
 yld := fun i Fc H x H' s1 s2 hi y=>by rw [enumD_len] at hi;obtain ⟨p,u,rfl,hp,rfl,hx⟩ := y;have ex := hx xs (qa H (s1.trans s2));obtain ⟨u',e1,r1⟩ := ra.get' (List.getElem?_eq_getElem hi);rw [ex] at e1;cases e1;refine ⟨_,_,enumD_get (List.getElem?_eq_getElem hi),Step.laid (.tup [.int i,u]) s2 hp,?_⟩;refine RepV.tup_of (s2.free hp) ?_;simp only [RepL];exact ⟨.int i,[u],rfl,by simp only [RepV,Nat.zero_add],u,[],rfl,r1.mono s1 _ _,rfl⟩
def enumR (r : ResL) : Res := r.thn fun xs=>match xs with
 | [(.fz,.lst ds)]=>.ok .fz (.lst (enumD 0 ds))
 | [(.fz,.tup ds)]=>.ok .fz (.lst (enumD 0 ds))
 | _=>.stuck
theorem piv_enum {a : Expr} {elts : List Expr} {cx} {pp : Pos} (hg : Gl X "enumerate") (hm : X.mg "enumerate" = none) (ha : PAv C X [a] gs) (hs : starEach [a] X.env = [(false,eval a X.env)] := by rfl) : PIv C X (.Tuple elts cx pp) (.Call (.Name "enumerate" p) [a] [] pos) (fun ρ=>enumR (gs ρ)) := by
 refine PI.imp (pi_enum hg hm ha hs) fun σ H R q=>?_;obtain ⟨ρ,F,RS,w⟩ := q;dsimp only at w;unfold iEnum;refine ⟨ρ,F,RS,?_⟩;cases er : gs ρ with
 | stuck=>rw [er] at w;exact w
 | exc c=>rw [er] at w;exact w
 | ok xs =>
  rw [er] at w;intro vs F' H' st rp;unfold enumR at w;rw [ResL.thn_ok] at w;split at w
  . rename_i ds;obtain ⟨v,rfl,r⟩ := rp.one;have r : RepV X.K F' (.lst ds) v := r;simp only [RepV] at r;obtain ⟨a1,x1,rfl,q1,l1⟩ := r;exact ⟨a1,x1,rfl,.inl ⟨st.sub.seq q1,w _ F' H' st (iterOf_enum (fun H s=>s.seq q1) l1)⟩⟩
  . rename_i ds;obtain ⟨v,rfl,r⟩ := rp.one;have r : RepV X.K F' (.tup ds) v := r;simp only [RepV] at r;obtain ⟨a1,x1,rfl,q1,l1⟩ := r;exact ⟨a1,x1,rfl,.inr ⟨Same.seqT st.sub q1,w _ F' H' st (iterOf_enum (fun H s=>Same.seqT s q1) l1)⟩⟩
  . exact w.elim
end
end D3
namespace D3
open PySem PySem.Spec PySem.Calls PyProof.Rows L2 PySem.W
section
variable {prog : Program} {w : World} {A : Around} {E : VSP} {s : Shared} {K : Fg} {x D : Addr} {ox : Obj} {od : Option Obj}
def XAt (h : Heap) (x : Addr) (ox : Obj) (D : Addr) : Prop := h.get? x = some ox /\ ox.cls = .ref D
structure XCls (K : Fg) (D : Addr) : Prop where
 ga : PySem.W.findIn K (.ref D) "__getattribute__" = some (some (.builtin "BaseException.__getattribute__"))
 gn : PySem.W.findIn K (.ref D) "__getattr__" = some none
 ca : PySem.W.findIn K (.ref D) "__class__" = some (some (.builtin "object.__class__"))
 bx : PySem.W.mroIn K D (.type "BaseException") = some true
 ob : PySem.W.mroIn K D (.type "object") = some true
 hn : PySem.W.specialIn K (.builtin "object.__class__") "__get__" = some (some (.builtin "getset_descriptor.__get__"))
 tk : PySem.W.takesIn K (.builtin "object.__class__") = some true
end
end D3
namespace D3
open PySem PySem.Spec PySem.Calls PyProof.Rows L2
structure Fly (P : Program) (w : World) (outer : List Env) (H : Hp) (s : Shared) (H1 : Hp) (B hp : Heap) : Prop where
 un : Un (frs outer) [] H H1 s.heap hp
 ok : HOk P w H1 hp
 kb : ∀ b o,hp.get? b = some o -> s.heap.get? b ≠ none -> b ∉ frs outer -> B.get? b = some o
 kh : ∀ b u,H1 b = some u -> ∃ o,hp.get? b = some o /\ B.get? b = some o
 fr : ∀ b ∈ frs outer,H b = none /\ ∃ o,s.heap.get? b = some o /\ ∀ vs,o.data ≠ .fields vs
section
variable {P : Program} {w : World} {outer : List Env} {H H1 : Hp} {s : Shared} {B hp h' : Heap}
theorem no_nil {b : Addr} : b ∉ ([] : List Addr) := by simp
theorem Fly.slots (f : Fly P w outer H s H1 B hp) (up : hp.UpToSlots h') {b : Addr} (hb : b ∈ frs outer) : ∃ o sl sl',s.heap.get? b = some o /\ hp.get? b = some { o with slots := sl } /\ h'.get? b = some { o with slots := sl' } := by obtain ⟨hn,o,e,nf⟩ := f.fr b hb;obtain ⟨sl,e1⟩ := f.un.slot b o e hn hb no_nil;obtain ⟨sl',e2⟩ := up b _ e1 nf;exact ⟨o,sl,sl',e,e1,e2⟩
theorem Fly.on (f : Fly P w outer H s H1 B hp) (st : B.StaysIn h') (up : hp.UpToSlots h') : Fly P w outer H s H1 B h' where
 un := {
  keep := fun b o e n hb _=>st b o (f.kb b o (f.un.keep b o e n hb no_nil) (by rw [e];exact fun z=>nomatch z) hb)
  slot := fun b o e n hb _=>by obtain ⟨o',sl,sl',e0,_,e2⟩ := f.slots up hb;rw [e] at e0;cases e0;exact ⟨sl',e2⟩
  free := f.un.free
  there := fun b o e _=>by
   by_cases hb : b ∈ frs outer
   . obtain ⟨o',sl,sl',e0,_,e2⟩ := f.slots up hb;exact ⟨_,e2⟩
   . obtain ⟨o',e1⟩ := f.un.there b o e no_nil;exact ⟨o',st b o' (f.kb b o' e1 (by rw [e];exact fun z=>nomatch z) hb)⟩
  tups := f.un.tups
  frzs := f.un.frzs
  tbls := f.un.tbls }
 ok := fun a o e => (f.ok a o e).stay (fun b u hb q => by
     have : ∃ u',H1 b = some u' := by
      rcases hb with rfl | hb
      . exact ⟨o,e⟩
      . exact ⟨_,hb⟩
     obtain ⟨u',eu⟩ := this;obtain ⟨o',e1,e2⟩ := f.kh b u' eu;rw [q] at e1;cases e1;exact st b u e2) (fun _ q=>q) fun _ _ q=>q
 kb := fun b o e ns hb=>by
  cases e0 : s.heap.get? b with
  | none=>exact absurd e0 ns
  | some o0=>obtain ⟨o',e1⟩ := f.un.there b o0 e0 no_nil;have e2 := f.kb b o' e1 ns hb;have e3 := st b o' e2;rw [e] at e3;cases e3;exact e2
 kh := fun b u e=>by obtain ⟨o,_,e2⟩ := f.kh b u e;exact ⟨o,st b o e2,e2⟩
 fr := f.fr
end
def CX1 (P : Program) (w : World) : CXT := fun outer H s E ev s'=>∃ (e C : Addr) (a0 : Value) (H1 : Hp) (B : Heap),
 ev = .ref e /\ s'.os = s.os /\ AllBare s'.gens /\ Heap.FlyingW B outer e (.ref C) a0 s'.heap /\ Fly P w outer H s H1 B s'.heap /\ E (.ref C) none H1
section
variable {X : Cx} {pins : LAO} {σ : L2.St} {H H1 : Hp} {s s' : Shared} {B hp : Heap} {E : XK}
theorem inv_frs (I : Inv X pins σ H s) : ∀ b ∈ frs X.stack,H b = none /\ ∃ o,s.heap.get? b = some o /\ ∀ vs,o.data ≠ .fields vs := fun b hb =>
 ⟨I.stkFree b hb,(I.stack.mem hb).2⟩
theorem Fly.inv (I : Inv X pins σ H s) (f : Fly X.prog X.w X.stack H s H1 B s'.heap) (ho : s'.os = s.os) (hg : AllBare s'.gens) : Inv X pins σ H1 s' :=
 Inv.call' (ch := []) I ho f.un f.ok hg (fun b z=>absurd z no_nil)
theorem Fly.out (I : Inv X pins σ H s) (f : Fly X.prog X.w X.stack H s H1 B s'.heap) (ho : s'.os = s.os) (hg : AllBare s'.gens) (hx : X.ex = []) (hs : X.stack = X.env :: X.outer) (hf : X.env.frame = some X.env.locals) {h' : Heap} (st : B.StaysIn h') (up : s'.heap.UpToSlots h') : Fly X.prog X.w X.outer X.H₀ X.s₀ H1 B h' := by
 have I1 := f.inv I ho hg;have f1 := f.on st up;have ub := I1.base;rw [hx] at ub;have old : ∀ b o,X.s₀.heap.get? b = some o -> ∃ o',s.heap.get? b = some o' := fun b o e=>I.base.there b o e (by rw [hx];exact no_nil)
 have nl : ∀ b o,X.s₀.heap.get? b = some o -> b ≠ X.env.locals := fun b o e z=>absurd (Heap.lt_size e) (by rw [z];exact Nat.not_lt.mpr I.ok.above)
 have sub : ∀ b,b ∉ frs X.outer -> b ≠ X.env.locals -> b ∉ frs X.stack := fun b h1 h2 z=>by
  rcases List.mem_cons.mp (I.stkSub b z) with q | q
  . exact h2 q
  . exact h1 q
 have sup : ∀ b,b ∈ frs X.outer -> b ∈ frs X.stack := fun b hb=>by rw [hs];unfold frs;rw [List.filterMap_cons,hf];exact mcm hb
 refine ⟨⟨fun b o e n hb _=>?_,fun b o e n hb _=>?_,ub.free,fun b o e _=>?_,ub.tups,ub.frzs,ub.tbls⟩,f1.ok,fun b o e ns hb=>?_,f1.kh,fun b hb=>?_⟩
 . have e1 := ub.keep b o e n hb no_nil;obtain ⟨o',e0⟩ := old b o e;exact st b o (f.kb b o e1 (by rw [e0];exact fun z=>nomatch z) (sub b hb (nl b o e)))
 . obtain ⟨sl,e1⟩ := ub.slot b o e n hb no_nil;obtain ⟨o',sl1,sl2,e0,e1',e2⟩ := f.slots up (sup b hb);have q := Option.some.inj (e1.symm.trans e1');refine ⟨sl2,?_⟩;rw [e2];obtain ⟨c1,d1,t1,l1⟩ := o;obtain ⟨c2,d2,t2,l2⟩ := o';simp only [Obj.mk.injEq] at q;obtain ⟨rfl,rfl,rfl,_⟩ := q;rfl
 . obtain ⟨o',e0⟩ := old b o e;exact f1.un.there b o' e0 no_nil
 . cases e0 : X.s₀.heap.get? b with
   | none=>exact absurd e0 ns
   | some o0=>obtain ⟨o',e1⟩ := old b o0 e0;exact f1.kb b o e (by rw [e1];exact fun z=>nomatch z) (sub b hb (nl b o0 e0))
 . exact ⟨I.ok.frf b hb,(I.ok.funs.mem hb).2⟩
def hidF (h : Heap) (l : List Env) : Heap := PySem.W.hideAll h (frs l)
theorem Fly.raise (I : Inv X pins σ H s) (hx : X.ex = []) (hs : X.stack = X.env :: X.outer) (hf : X.env.frame = some X.env.locals) {h' : Heap} (st : (hidF s.heap X.stack).StaysIn h') (up : s.heap.UpToSlots h') : Fly X.prog X.w X.outer X.H₀ X.s₀ H (hidF s.heap X.stack) h' := by
 have f : Fly X.prog X.w X.stack H s H (hidF s.heap X.stack) s.heap :=
  ⟨Un.refl,I.hok,fun b o e _ hb=>PySem.W.hideAll_get _ e hb,fun b u e=>by
   have hn : b ∉ frs X.stack := fun z=>by rw [I.stkFree b z] at e;cases e
   have : ∃ o,s.heap.get? b = some o := by
    have := I.hok b u e;cases u with
    | lst xs=>obtain ⟨_,_,_,_,e⟩ := this;exact ⟨_,e⟩
    | tup xs=>obtain ⟨_,_,_,o,e,_⟩ := this;exact ⟨_,e⟩
    | dK kvs=>obtain ⟨_,_,_,_,o,_,_,e,_⟩ := this;exact ⟨_,e⟩
    | dT kvs=>obtain ⟨_,_,_,_,o,_,_,e,_⟩ := this;exact ⟨_,e⟩
    | set S n=>obtain ⟨o,_,_,_,e,_⟩ := this;exact ⟨_,e⟩
    | ins C dx fs=>obtain ⟨_,_,_,e,_⟩ := this;exact ⟨_,e⟩
    | own y=>obtain ⟨_,e⟩ := this;exact ⟨_,e⟩
    | xd fs=>obtain ⟨_,⟨_,_,_,e,_⟩,_⟩ := this;exact ⟨_,e⟩
    | rng lo hi=>obtain ⟨_,_,_,e⟩ := this;exact ⟨_,e⟩
    | frz ob u=>obtain ⟨e,_⟩ := this;exact ⟨_,e⟩
    | tbl ps=>exact ⟨_,this⟩
    | met f y=>exact ⟨_,this⟩
    | ext φ=>obtain ⟨_,⟨_,e⟩,_⟩ := this;exact ⟨_,e⟩
   obtain ⟨o,eo⟩ := this;exact ⟨o,eo,PySem.W.hideAll_get _ eo hn⟩,inv_frs I⟩
 exact f.out I rfl I.bare hx hs hf st up
end
def vErr : List Value := [.type "ValueError", .type "Exception", .type "BaseException", .type "object"]
def RzCls (K : Fg) (C : Addr) : Prop := PySem.W.excIn K C vErr "ValueError.__new__" = true
def RzOk (C : Cw) (X : Cx) : Prop := ∀ (pins : LAO) (σ : L2.St) (H : Hp) (s : Shared) (c : Str) (Cc : Addr) (vs : List Value) (h' : Heap) (e : Addr),Inv X pins σ H s -> X.mg c = some (.ref Cc) -> C.EE c σ H ->
 Heap.MadeExcOf s.heap h' e (.ref Cc) vs -> X.xe (.ref e) { s with heap := h' }
section
variable {C : Cw} {X : Cx} {e : Expr} {es : List Expr} {gs : Rho -> ResL} {x : Str} {np cpos pos : Pos}
structure FnCx (X : Cx) : Prop where
 hx : X.ex = []
 hs : X.stack = X.env :: X.outer
 hf : X.env.frame = some X.env.locals
end
section
variable {P : Program} {w : World} {K : Fg} {mg : SOV} {base : Heap} {N : List Str} {qual : Str} {scope : Scope} {f : Addr} {cdv : Value} {A : Around} {outer : List Env} {s : Shared} {H : Hp} {E : XK}
theorem fnCx : FnCx (cxOf (CX1 P w) P w K mg base N qual scope f cdv A outer s H E) := ⟨rfl,rfl,rfl⟩
def eeOf (mg : SOV) (E : XK) : XE := fun c _ H'=>∀ u,mg c = some u -> E u none H'
theorem xok_fn {C : Cw} (hE : C.EE = eeOf mg E) : XOk (CX1 P w) C (cxOf (CX1 P w) P w K mg base N qual scope f cdv A outer s H E) := by intro pins σ H1 s1 ev s' I h;obtain ⟨e,Cc,a0,H2,B,rfl,ho,hg,fl,fy,c,hm,he⟩ := h;rw [hE] at he;have I0 := I.ok.frames;refine wpAny_leaves_onW I0 rfl fl fun h' fl' up=>?_;exact ⟨e,Cc,a0,H2,B,rfl,ho.trans I.os,hg,fl',fy.out I ho hg rfl rfl rfl fl'.1 up,he _ hm⟩
theorem rzok_fn {C : Cw} (hE : C.EE = eeOf mg E) : RzOk C (cxOf (CX1 P w) P w K mg base N qual scope f cdv A outer s H E) := by
 intro pins σ H1 s1 c Cc vs h1 e I hm he made;rw [hE] at he;have I0 := I.ok.frames;have hin : ∀ env ∈ (cxOf (CX1 P w) P w K mg base N qual scope f cdv A outer s H E).stack,∀ a,env.frame = some a -> a ∈ frs (cxOf (CX1 P w) P w K mg base N qual scope f cdv A outer s H E).stack := fun env he a ha=>List.mem_filterMap.mpr ⟨env,he,ha⟩;have FF : s1.heap.FunFrames (hidF s1.heap (cxOf (CX1 P w) P w K mg base N qual scope f cdv A outer s H E).stack) _ := PySem.W.funFrames_hide I.stack hin;have st0 : (hidF s1.heap (cxOf (CX1 P w) P w K mg base N qual scope f cdv A outer s H E).stack).StaysIn s1.heap := fun b o q=>PySem.W.of_hideAll _ q;refine wpAny_leaves_madeW (s := { s1 with heap := h1 }) I0 rfl st0 FF made fun h' t fl _ _ up=>?_
 have up0 : s1.heap.UpToSlots h' := (Heap.UpToSlots.of_keeps made.keeps).trans up;exact ⟨e,Cc,.ref t,H1,_,rfl,I.os,I.bare,fl,Fly.raise I rfl rfl rfl fl.1 up0,he _ hm⟩
end
structure HX where
 cls : Str
 slot : Option Nat
 g : Rho -> SRes
def XtOk (K : Fg) (mg : SOV) (xt : Str -> Str -> Option Bool) : Prop := ∀ c x b,xt c x = some b -> ∃ C C2,PySem.W.nsIn K mainGlobals c = some (some (.ref C)) /\ mg c = some (.ref C) /\ mg x = some (.ref C2) /\
 PySem.W.mroIn K C2 (.type "BaseException") = some true /\ PySem.W.typeIn K (.ref C2) = some (.type "type") /\ PySem.W.mroIn K C (.ref C2) = some b
section
variable {X : Cx} {pins : LAO} {σ : L2.St} {H : Hp} {s : Shared} {e : Addr}
end
section
variable {C : Cw} {X : Cx} {pins : LAO} {σ : L2.St} {H H1 : Hp} {s s0 : Shared} {e Cc : Addr} {a0 : Value} {B : Heap}
end
section
variable {C : Cw} {X : Cx} {pins : LAO} {σ : L2.St} {H : Hp} {s : Shared} {D : Ends} {hs : List ExceptHandler} {hx : List HX} {xt : Str -> Str -> Option Bool}
end
def ClsV (mg : SOV) (n : Str) (cv : V) : Prop := (∃ C,mg n = some (.ref C) /\ cv = .ref C) \/ (mg n = none /\ n ≠ "__name__" /\ ∃ T,bootBuiltins n = some (.type T) /\ cv = .ty T)
def valV' : V -> Value | .ref a=>.ref a | .ty T=>.type T | _=>.none
def XisOk (K : Fg) (mg : SOV) (xis : Str -> Str -> Option Bool) : Prop := ∀ c n b,xis c n = some b -> ∃ C cv,PySem.W.nsIn K mainGlobals c = some (some (.ref C)) /\ XCls K C /\ ClsV mg n cv /\ PySem.W.kitOne K (.ref C) (valV' cv) = some b
section
variable {C : Cw} {X : Cx} {e : Expr} {g : Rho -> Res} {p q pos tp : Pos} {n : Str} {xis : Str -> Str -> Option Bool}
end
theorem fnok_phi {P : Program} {w : World} {K : Fg} {mg : SOV} {base : Heap} {x qual : Str} {st : Stmt} {f : Addr} {fd : FuncData} {N ps : List Str} {k : Nat} {g : Rho -> SRes} (F : Fun K x qual st f fd) (S : FnScope N ps (defScope st)) (hbody : ∀ (C : Cw) (cdv : Value) (A : Around) (outer : List Env) (s : Shared) (H : Hp) (E : XK),C.EE = eeOf mg E -> Room k (A.deeper (envOfC qual (defScope st) s.heap.objs.size f cdv)) -> PBv C (cxOf (CX1 P w) P w K mg base N qual (defScope st) f cdv A outer s H E) (defBody st) g) : FnOk P w K mg base (CX1 P w) (k + 1) f fd ps (spV K mg ps.length (phi ps.length N.length g)) := by
 obtain ⟨oc,od,kV,doc,pm,an,cdv,ct,osl,rfl,lk,hcd⟩ := F.ex;refine fn_of lk hcd S (fun vs H Q E h=>h.1) fun A outer s H vs Q E hr h=>?_;obtain ⟨hl,F0,ds,sF,rl,h⟩ := h;have hl' : ds.length = ps.length := by rw [<- rl.length];exact hl
 let C : Cw := ⟨K,F0,H,eeOf mg E⟩
 refine ⟨_,hbody C cdv A outer s H E rfl hr,startR N.length ds,F0,relSt_start sF rl,?_⟩;unfold phi at h;rw [if_pos hl'] at h;cases er : g (startR N.length ds) with
 | nx ρ=>rw [er] at h;exact fun σ' F' H' _ R=>h.2 .non F' H' R.st rp_non (by intro z;cases z)
 | rt m d=>rw [er] at h;exact fun v F' H' s rp fr=>h.2 v F' H' s rp fr
 | bk ρ=>rw [er] at h;exact h.elim
 | ct ρ=>rw [er] at h;exact h.elim
 | exc c ρ=>rw [er] at h;exact fun σ' F' H' _ R u hu=>h F' H' u R.st hu
 | stuck=>rw [er] at h;exact h.elim
theorem frz_fz {r : Res} {m : Md} {d : D} (h : frzR r = .ok m d) : m = .fz := by
 cases r with
 | ok m' d'=>cases m' <;> cases h <;> rfl
 | exc c=>cases h
 | stuck=>cases h
section
variable {C : Cw} {X : Cx} {e : Expr} {g : Rho -> Res} {x : Str} {p ap cp pos : Pos}
end
end D3
namespace D3
open PySem PySem.Spec PyProof.Rows L2
section
variable {prog : Program} {w : World} {A : Around} {R : Result -> Shared -> Prop} {J : Addr} {fp wr : List Addr} {n : Nat} {P : Nat -> Value -> Prop} {St : Nat -> Heap -> Prop} {ns : List Int} {S : Addr}
end
section
variable {prog : Program} {w : World} {A : Around} {E : VSP} {s : Shared}
end
section
variable {C : Cw} {X : Cx} {e : Expr} {g : Rho -> Res} {p q kp pos : Pos} {j}
end
theorem RepL.drop {K : Fg} {F : Hp} : ∀ (n : Nat) {ds : List D} {xs : List V},RepL K F ds xs -> RepL K F (ds.drop n) (xs.drop n)
 | 0,_,_,h=>h
 | n + 1,[],xs,h=>by simp only [RepL] at h;subst h;simp [RepL]
 | n + 1,d :: ds,xs,h=>by simp only [RepL] at h;obtain ⟨v,vs,rfl,_,t⟩ := h;exact RepL.drop n t
theorem RepL.take {K : Fg} {F : Hp} : ∀ (n : Nat) {ds : List D} {xs : List V},RepL K F ds xs -> RepL K F (ds.take n) (xs.take n)
 | 0,_,_,_=>by simp [RepL]
 | n + 1,[],xs,h=>by simp only [RepL] at h;subst h;simp [RepL]
 | n + 1,d :: ds,xs,h=>by simp only [RepL] at h;obtain ⟨v,vs,rfl,r,t⟩ := h;simp only [List.take_succ_cons,RepL];exact ⟨v,_,rfl,r,RepL.take n t⟩
def cutD (xs : List D) (lo hi : Option Int) : List D := (xs.drop (HT.sIx xs.length 0 lo)).take (HT.sIx xs.length xs.length hi - HT.sIx xs.length 0 lo)
theorem RepL.cut {K : Fg} {F : Hp} {ds : List D} {xs : List V} (h : RepL K F ds xs) (lo hi : Option Int) : RepL K F (cutD ds lo hi) (cutV xs lo hi) := by unfold cutD cutV;rw [h.length];exact (h.drop _).take _
def wholeCut (n : Nat) (lo hi : Option Int) : Bool := HT.sIx n 0 lo == 0 && HT.sIx n n hi == n
def slP (x : Res) (lo hi : Option (Rho -> Res)) (ρ : Rho) : Res := x.thn fun m d=>match d with
 | .str z=>partThn lo ρ fun l=>partThn hi ρ fun h=>.ok .fz (.str (Txt.slice z l h))
 | .lst ds=>partThn lo ρ fun l=>partThn hi ρ fun h=>.ok .fr (.lst (cutD ds l h))
 | .tup ds=>partThn lo ρ fun l=>partThn hi ρ fun h=>if (wholeCut ds.length l h && m != .fz) = true then .stuck else .ok .fz (.tup (cutD ds l h))
 | _=>.stuck
section
variable {C : Cw} {X : Cx} {a : Expr} {ga : Rho -> Res} {pos : Pos}
theorem pv_cut {lo hi : Option Expr} {gl gh : Option (Rho -> Res)} {p2 : Pos} (ha : PV C X a ga) (hl : POv C X lo gl) (hh : POv C X hi gh) : PV C X (.Subscript a (.Slice lo hi none p2) pos) (fun ρ=>slP (ga ρ) gl gh ρ) := by
 refine PE.imp (pe_slice (sl_str.or (sl_list.or (sl_tup.or sl_whole))) ha (po_of hl) (po_of hh)) fun σ H Q q=>?_;unfold tSl;rw [tG_eq] at q ⊢;obtain ⟨ρ,F,R,w⟩ := q
 try dsimp only at w
 refine ⟨ρ,F,R,?_⟩;cases er : ga ρ with
 | stuck=>rw [er] at w;exact w
 | exc c=>rw [er] at w;exact w
 | ok m d =>
  rw [er] at w;intro v F1 H1 s1 rp _;cases d with
  | str z=>obtain ⟨rfl,hz,hk⟩ := rp.str;have w1 : Want (C.at X) F1 H1 σ (partThn gl ρ fun l=>partThn gh ρ fun h=>.ok .fz (.str (Txt.slice z l h))) Q := Want.step s1 w;refine want_part (R.step s1) w1 fun l F2 H2 s2 R2 w2=>want_part R2 w2 fun h F3 H3 s3 R3 w3=>.inl ?_;exact ⟨z,rfl,hz,w3 _ F3 H3 (.refl R3.sub) (rp_str ⟨Nat.le_trans (Txt.slice_le z _ _) hz,strOk_slice hk⟩) (by intro z;cases z)⟩
  | lst ds=>have w1 : Want (C.at X) F1 H1 σ (partThn gl ρ fun l=>partThn gh ρ fun h=>.ok .fr (.lst (cutD ds l h))) Q := Want.step s1 w;refine want_part (R.step s1) w1 fun l F2 H2 s2 R2 w2=>want_part R2 w2 fun h F3 H3 s3 R3 w3=>.inr (.inl ?_);obtain ⟨p,xs,rfl,hq,rl⟩ := ((rp.step s2).step s3).seqL R3.sub;exact ⟨p,xs,rfl,hq,fun p' hp'=>w3 (.ref p') F3 _ (Step.fresh _ R3.sub hp') ⟨p',rfl,R3.sub.free hp',_,upd_same,rl.cut l h⟩ fun _ a ea=>by cases ea;exact hp'⟩
  | tup ds =>
   have w1 : Want (C.at X) F1 H1 σ (partThn gl ρ fun l=>partThn gh ρ fun h=>if (wholeCut ds.length l h && m != .fz) = true then .stuck else .ok .fz (.tup (cutD ds l h))) Q := Want.step s1 w;refine want_part (R.step s1) w1 fun l F2 H2 s2 R2 w2=>want_part R2 w2 fun h F3 H3 s3 R3 w3=>.inr (.inr ?_);obtain ⟨p,xs,rfl,hq,rl⟩ := ((rp.step s2).step s3).seqT R3.sub;have lw : wholeCut ds.length l h = true ↔ HT.sIx xs.length 0 l = 0 /\ HT.sIx xs.length xs.length h = xs.length := by rw [rl.length];unfold wholeCut;simp
   cases hw : wholeCut ds.length l h with
   | true =>
    cases m with
    | fz =>
     rw [hw,if_neg (by decide)] at w3
     have e := lw.mp hw;have ec : cutD ds l h = ds := by unfold cutD;rw [<- rl.length,e.1,e.2,rl.length,List.drop_zero,Nat.sub_zero];exact List.take_length
     rw [ec] at w3;exact .inr ⟨p,xs,rfl,hq,e,w3 (.ref p) F3 H3 (.refl R3.sub) ((rp.step s2).step s3) (by intro z;cases z)⟩
    | fr=>rw [hw,if_pos (by decide)] at w3;exact w3.elim
    | bo=>rw [hw,if_pos (by decide)] at w3;exact w3.elim
   | false =>
    rw [hw,if_neg (by simp)] at w3
    refine .inl ⟨p,xs,rfl,hq,fun z=>?_,fun p' hp'=>w3 (.ref p') _ _ (Step.laid (.tup (cutV xs l h)) R3.sub hp') (RepV.tup_of (R3.sub.free hp') (rl.cut l h)) (by intro z;cases z)⟩
    rw [lw.mpr z] at hw;cases hw
  | _=>exact (show False from w).elim
def swD : Md -> D -> List (Md × D) -> Option (Md × D) := fun _ x xs=>match x,xs with
 | .str z,[(_,.str y)]=>some (.fz,.bl (Txt.startswith z y))
 | _,_=>none
theorem mtd_sw : MtD X "str.startswith" swD := by
 refine ⟨fun v vs H Q=>∃ z y : Str,v = .str z /\ vs = [.str y] /\ Q (.bl (Txt.startswith z y)) H,?_,?_⟩
 . intro pins s σ H x xs v us Q I rx r h;obtain ⟨z,y,rfl,rfl,q⟩ := h;obtain ⟨t,rfl⟩ := rx;obtain ⟨u,rfl,t',rfl⟩ := vals1 r;exact SC.startswith ⟨.bl (Txt.startswith z y),H,I,rfl,q⟩
 . intro F H m x xs v vs k d Q s rx rl e w;unfold swD at e;split at e
   . rename_i z m' y;cases e;obtain ⟨rfl,_⟩ := rx.str;obtain ⟨u,rfl,r⟩ := rl.one;obtain ⟨rfl,_⟩ := r.str;exact ⟨z,y,rfl,rfl,w _ F H (.refl s) (rp_bl _) (by intro z;cases z)⟩
   . cases e
def rpD : Md -> D -> List (Md × D) -> Option (Md × D) := fun _ x xs=>match x,xs with
 | .str z,[(_,.str y)]=>some (.fz,.str (Txt.removeprefix z y))
 | _,_=>none
theorem strOk_rp {z y : Str} (h : PyData.strOk z = true) : PyData.strOk (Txt.removeprefix z y) = true := by
 rw [StrLaws.removeprefix_eq];split
 . unfold PyData.strOk at h ⊢;rw [Array.all_eq_true_iff_forall_mem] at h ⊢;intro c hc;have : c ∈ z.cps.toList := List.mem_of_mem_drop (List.mem_of_mem_take (by simpa using hc))
   exact h c (by simpa using this)
 . exact h
theorem mtd_rp : MtD X "str.removeprefix" rpD := by
 refine ⟨fun v vs H Q=>∃ z y : Str,v = .str z /\ vs = [.str y] /\ z.length <= sizeLine /\ Q (.str (Txt.removeprefix z y)) H,?_,?_⟩
 . intro pins s σ H x xs v us Q I rx r h;obtain ⟨z,y,rfl,rfl,hz,q⟩ := h;obtain ⟨t,rfl⟩ := rx;obtain ⟨u,rfl,t',rfl⟩ := vals1 r;exact SC.removeprefix (fun t' k=>⟨.str (Txt.removeprefix z y),H,I.tok _,⟨_,rfl⟩,q⟩) hz
 . intro F H m x xs v vs k d Q s rx rl e w;unfold rpD at e;split at e
   . rename_i z m' y;cases e;obtain ⟨rfl,hz,hk⟩ := rx.str;obtain ⟨u,rfl,r⟩ := rl.one;obtain ⟨rfl,_⟩ := r.str;exact ⟨z,y,rfl,rfl,hz,w _ F H (.refl s) (rp_str ⟨Nat.le_trans (len_removeprefix z y) hz,strOk_rp hk⟩) (by intro z;cases z)⟩
   . cases e
end
section
variable {C : Cw} {X : Cx} {pos : Pos}
theorem pv_dnew : PV C X (.Dict [] [] pos) (fun _=>.ok .fr (.dct [])) := by refine PE.imp pe_dnewK fun σ H Q q=>?_;rw [tG_eq] at q;obtain ⟨ρ,F,R,w⟩ := q;intro p hp;exact w (.ref p) F _ (Step.fresh _ R.sub hp) ⟨p,rfl,R.sub.free hp,[],upd_same,by simp [RepK]⟩ fun _ a ea=>by cases ea;exact hp
end
def getK (kvs : List (Key × D)) (k : Key) : Option D := (kvs.find? fun kv=>decide (kv.1 = k)).map (·.2)
theorem RepK.val {K : Fg} {F : Hp} : ∀ {kvs : List (Key × D)} {xs : List (Key × V)} (k : Key),RepK K F kvs xs -> match getK kvs k with | some d=>∃ v,valV xs k = some v /\ RepV K F d v | none=>valV xs k = none
 | [],xs,k,h=>by simp only [RepK] at h;subst h;rfl
 | (k',d) :: kvs,xs,k,h=>by
  simp only [RepK] at h;obtain ⟨y,ys,rfl,r,t⟩ := h;by_cases e : k' = k
  . have e1 : getK ((k',d) :: kvs) k = some d := by simp [getK,List.find?_cons,e]
    rw [e1];exact ⟨y,valV_pos e,r⟩
  . have e1 : getK ((k',d) :: kvs) k = getK kvs k := by simp [getK,List.find?_cons,e]
    rw [e1,valV_neg (p := (k',y)) e];exact RepK.val k t
section
variable {X : Cx}
def rIxK : R2 := fun x y H Q=>∃ a v,x = .ref a /\ DGet H a y (some v) /\ Q v H
theorem ix_dict (hu : X.A.units + 1 < cLine) : IxR X rIxK := by
 intro value slice pins s σ H x y v u Q I rx ry h hsub;obtain ⟨a,w',rfl,g,q⟩ := h;cases (show v = Value.ref a from rx)
 have hT : s.TypeIs (.ref a) "dict" := dict_typeIs I g;unfold subscriptTail;refine wpAny_bind ?_;rw [getitemInPython_of_ne hT.not_modules];refine wpAny_bind (wpAny_specialOf hT PySem.F.slot_dict_getitem.lookup ?_);have fin : wpAny (model X.prog X.w) X.A (subscripted slice false (.ref a) u) (fun r s3=>wpAny (model X.prog X.w) X.A (letTemporaryGo value (.ref a) r >>= fun _=>pure r) (EP X pins σ Q) X.xe s3) X.xe s := by rw [hsub];exact wpAny_operating (d_getItem hu I g ry fun z s3 I3 rz=>wpAny_bind (wpAny_letTemporaryGo (wpAny_pure ⟨w',H,I3,rz,q⟩)))
 first
  | exact wpAny_pure (wpAny_bind fin)
  | exact wpAny_bind (wpAny_pure (wpAny_bind fin))
  | exact wpAny_bind fin
end
def ixK : Md -> D -> Md -> D -> Option (Md × D) := fun _ x _ y=>match x,keyD y with
 | .dct kvs,some k=>(getK kvs k).map fun d=>(.fz,d)
 | _,_=>none
theorem dget_of {K : Fg} {F H : Hp} {m n : Md} {kvs : List (Key × D)} {y : D} {k : Key} {v u : V} (s : Same F H) (rx : Rp K F H m (.dct kvs) v) (ry : Rp K F H n y u) (ek : keyD y = some k) : ∃ a xs,v = .ref a /\ H a = some (.dK xs) /\ RepK K F kvs xs /\ DGet H a u (valV xs k) := by obtain ⟨a,xs,rfl,hh,rk⟩ := rx.dict s;exact ⟨a,xs,rfl,hh,rk,.inl ⟨xs,k,.inl hh,keyD_rep ek ry,rfl⟩⟩
section
variable {C : Cw} {X : Cx} {a b : Expr} {ga gb : Rho -> Res} {pos : Pos}
def tcDict : List (Md × D) -> Option (Md × D)
 | [(_,.dct kvs)]=>some (.fr,.dct kvs)
 | _=>none
theorem calld_dict : CallD X (.type "dict") tcDict := by
 refine ⟨fun vs H Q=>∃ a xs,vs = [.ref a] /\ H a = some (.dK xs) /\ ∀ p,H p = none -> Q (.ref p) (upd H p (.dK xs)),?_,?_⟩
 . intro pins s σ H vs us Q I r h;obtain ⟨a,xs,rfl,hh,q⟩ := h;obtain ⟨u,rfl,ru⟩ := vals1 r;cases (show u = Value.ref a from ru)
   exact d_copyOf I (.inl hh) fun p s' hp I'=>⟨.ref p,_,I',rfl,q p hp⟩
 . intro F H xs vs k d Q s rx e w;unfold tcDict at e;split at e
   . rename_i m kvs;cases e;obtain ⟨v,rfl,r⟩ := rx.one;obtain ⟨a,ys,rfl,hh,rk⟩ := r.dict s;exact ⟨a,ys,rfl,hh,fun p hp=>w (.ref p) F _ (Step.fresh _ s hp) ⟨p,rfl,s.free hp,ys,upd_same,rk⟩ fun _ b eb=>by cases eb;exact hp⟩
   . cases e
end
def putD (kvs : List (Key × D)) (k : Key) (d : D) : List (Key × D) := if (kvs.any fun kv=>decide (kv.1 = k)) = true then kvs.map (fun kv=>if kv.1 = k then (kv.1,d) else kv) else kvs ++ [(k,d)]
theorem RepK.keys {K : Fg} {F : Hp} : ∀ {kvs : List (Key × D)} {xs : List (Key × V)},RepK K F kvs xs -> xs.map (·.1) = kvs.map (·.1)
 | [],xs,h=>by simp only [RepK] at h;subst h;rfl
 | (k,d) :: kvs,xs,h=>by simp only [RepK] at h;obtain ⟨y,ys,rfl,_,t⟩ := h;simp [RepK.keys t]
theorem RepK.snoc {K : Fg} {F : Hp} {k : Key} {d : D} {v : V} (r : RepV K F d v) : ∀ {kvs : List (Key × D)} {xs : List (Key × V)},RepK K F kvs xs -> RepK K F (kvs ++ [(k,d)]) (xs ++ [(k,v)])
 | [],xs,h=>by simp only [RepK] at h;subst h;simp only [List.nil_append,RepK];exact ⟨v,[],rfl,r,rfl⟩
 | (k',d') :: kvs,xs,h=>by simp only [RepK] at h;obtain ⟨y,ys,rfl,r',t⟩ := h;simp only [List.cons_append,RepK];exact ⟨y,_,rfl,r',RepK.snoc r t⟩
theorem RepK.repl {K : Fg} {F : Hp} {k : Key} {d : D} {v : V} (r : RepV K F d v) : ∀ {kvs : List (Key × D)} {xs : List (Key × V)},RepK K F kvs xs -> RepK K F (kvs.map fun kv=>if kv.1 = k then (kv.1,d) else kv) (xs.map fun kv=>if kv.1 = k then (kv.1,v) else kv)
 | [],xs,h=>by simp only [RepK] at h;subst h;simp [RepK]
 | (k',d') :: kvs,xs,h=>by
  simp only [RepK] at h;obtain ⟨y,ys,rfl,r',t⟩ := h;have ih := RepK.repl (k := k) r t;by_cases e : k' = k
  . simp only [List.map_cons,e,if_true,RepK];exact ⟨v,_,rfl,r,ih⟩
  . simp only [List.map_cons,e,if_false,RepK];exact ⟨y,_,rfl,r',ih⟩
theorem RepK.put {K : Fg} {F : Hp} {k : Key} {d : D} {v : V} {kvs : List (Key × D)} {xs : List (Key × V)} (h : RepK K F kvs xs) (r : RepV K F d v) : RepK K F (putD kvs k d) (putK xs k v) := by
 have e : (xs.any fun kv=>decide (kv.1 = k)) = (kvs.any fun kv=>decide (kv.1 = k)) := by
  have := h.keys;have a1 : ∀ {β : Type} (l : List (Key × β)),(l.any fun kv=>decide (kv.1 = k)) = (l.map (·.1)).any (fun x=>decide (x = k)) := fun l=>by rw [List.any_map];rfl
  rw [a1,a1,this]
 unfold putD putK;rw [e];split
 . exact RepK.repl r h
 . exact RepK.snoc r h
theorem RepK.len {K : Fg} {F : Hp} {kvs : List (Key × D)} {xs : List (Key × V)} (h : RepK K F kvs xs) : xs.length = kvs.length := by have := congrArg List.length h.keys;simpa using this
def dputS (ρ : Rho) (i : Nat) (rk rv : Res) : SRes := match ρ[i]? with
 | some (some (true,.dct kvs))=>(frzR rv).thS ρ fun m d=>match m with
  | .fz=>rk.thS ρ fun _ kd=>(match keyD kd with
   | some k=>if kvs.length < sizeLine then .nx (ρ.set i (some (true,.dct (putD kvs k d)))) else .stuck
   | none=>.stuck)
  | _=>.stuck
 | _=>.stuck
section
variable {C : Cw} {X : Cx} {e ke : Expr} {g gk : Rho -> Res} {x : Str} {p sp pos : Pos}
theorem psv_dput (i : Nat) (hu : X.A.units + 1 < cLine) (hv : PE X (.Name x p) (tVar i)) (hk : PV C X ke gk) (he : PV C X e g) (hsw : swapsWith e (some (.Subscript (.Name x p) ke sp)) pos.line X.env = pure false) : PSv C X (.Assign [.Subscript (.Name x p) ke sp] e pos) (fun ρ=>dputS ρ i (gk ρ) (g ρ)) := by
 refine PS.imp (ps_dput hu hv hk (pv_frz he) hsw) fun E σ H q=>?_;obtain ⟨ρ,F,R,w⟩ := q;dsimp only at w;unfold sDPut;cases e0 : ρ[i]? with
 | none=>unfold dputS at w;rw [e0] at w;exact w.elim
 | some o =>
  cases o with
  | none=>unfold dputS at w;rw [e0] at w;exact w.elim
  | some bd =>
   obtain ⟨b,d0⟩ := bd;cases b with
   | false=>unfold dputS at w;rw [e0] at w;exact w.elim
   | true =>
    cases d0 with
    | dct kvs =>
     unfold dputS at w;rw [e0] at w;dsimp only at w;obtain ⟨v0,ev0,rp0,hn0⟩ := R.slot i true _ e0;obtain ⟨a,ea,hfa,xs,hh,rk⟩ := rp0;subst ea;refine tG_thS R w fun m d v F' H' w' s R' rp fr=>?_;cases m with
     | fr=>exact (show False from w').elim
     | bo=>exact (show False from w').elim
     | fz =>
     dsimp only at w';refine ⟨.ref a,ev0,?_⟩;refine tG_thS R' w' fun m2 kd u F2 H2 w2 s2 R2 rp2 _=>?_;cases ek : keyD kd with
     | none=>rw [ek] at w2;exact w2.elim
     | some k =>
      rw [ek] at w2;dsimp only at w2;split at w2
      . rename_i hl;have hh2 : H2 a = some (.dK xs) := s2.same _ _ (s.same _ _ hh);refine ⟨a,_,rfl,.inl ⟨xs,k,hh2,keyD_rep ek rp2,by rw [rk.len];exact hl,rfl⟩,?_⟩
        exact w2 σ F2 _ (Same.refl _) (R2.mut e0 ev0 ⟨_,upd_same,RepK.put (rk.mono (s.fsame.trans s2.fsame) _ _) (RepV.mono s2.fsame _ _ rp)⟩)
      . exact w2.elim
    | _=>unfold dputS at w;rw [e0] at w;exact w.elim
end
section
variable {C : Cw} {X : Cx} {a b : Expr} {ga gb : Rho -> Res} {pos : Pos}
theorem pv_dix (hu : X.A.units + 1 < cLine) (ha : PV C X a ga) (hb : PV C X b gb) (hs : PlainIx b) : PV C X (.Subscript a b pos) (fun ρ=>op2 ixK (ga ρ) (gb ρ)) := by
 refine PE.imp (pe_ix (ix_dict hu) ha hb hs) fun σ H Q q=>tG_op2 (fun F H m x n y v u k d Q s rx ry e w=>?_) q;unfold ixK at e;split at e
 . rename_i kvs ky ek;obtain ⟨p,xs,rfl,hh,rk,g⟩ := dget_of s rx ry ek;cases eg : getK kvs ky with
   | none=>rw [eg] at e;cases e
   | some d'=>rw [eg] at e;cases e;have := RepK.val ky rk;rw [eg] at this;obtain ⟨v',ev,rv⟩ := this;rw [ev] at g;exact ⟨p,v',rfl,g,w v' F H (.refl s) rv (by intro z;cases z)⟩
 . cases e
end
end D3
namespace D3
open PySem PySem.Spec PyProof.Rows L2 PySem.SeqAt PySem.MeetsSeq
theorem SqT.plain {X : Cx} {pins : LAO} {σ : L2.St} {H : Hp} {s : Shared} {a : Addr} {xs : List V} (I : L2.Inv X pins σ H s) (h : SqT X.K H a xs) : ∃ its : List Value,Vals xs its /\ PlainTp s.heap a its.toArray /\ xs.length <= sizeLine := by
 rcases h with h | ⟨o,its,n,hk,hc,hd,hs,hz,r⟩
 . obtain ⟨z,its,r,p⟩ := h.ok I.hok;exact ⟨its,r,p,z⟩
 . exact ⟨its.toList,r,⟨o,I.kIn a o hk,hc,hd,n,by simpa using hs⟩,by rw [r.length,Array.length_toList];exact hz⟩
theorem findU {y : V} : ∀ {xs : List V} {us : List Value},Vals xs us -> xs.all flatV = true -> us.findIdx? (eqU y) = xs.findIdx? fun z=>eqV z y
 | _,_,.nil,_=>rfl
 | z :: xs,u :: us,.cons r t,f=>by rw [List.all_cons,Bool.and_eq_true] at f;rw [List.findIdx?_cons,List.findIdx?_cons,eqU_of r f.1,findU t f.2]
section
variable {X : Cx} {o e : Expr} {apos cpos : Pos} {td ty : TE}
end
theorem find_vOf {y : D} (hy : flatD y = true) : ∀ {ds : List D},ds.all flatD = true -> (ds.map vOf).findIdx? (fun z=>eqV z (vOf y)) = ds.findIdx? fun z=>eqD z y
 | [],_=>rfl
 | d :: ds,h=>by rw [List.all_cons,Bool.and_eq_true] at h;rw [List.map_cons,List.findIdx?_cons,List.findIdx?_cons,eqV_vOf h.1 hy,find_vOf hy h.2]
section
variable {C : Cw} {X : Cx} {o e : Expr} {apos cpos : Pos} {go g : Rho -> Res}
end
end D3
namespace D3
open PySem PySem.Spec PyProof.Rows L2
section
variable {C : Cw} {X : Cx}
end
def TabE (w : World) (K : Fg) : List (Str × Str) -> List DictEntry -> Prop
 | [],es=>es = []
 | (z,f) :: r,es=>∃ t a es',es = ⟨PyData.keyHash w.params z,.str z t,.ref a⟩ :: es' /\ PySem.W.nsIn K mainGlobals f = some (some (.ref a)) /\ TabE w K r es'
structure TabV (w : World) (K : Fg) (mg : SOV) (x : Str) (tb : List (Str × Str)) : Prop where
 ex : ∃ a ob es ep,mg x = some (.ref a) /\ K.lookup a = some ob /\ ob.ExactDict /\ ob.data = .dict es ep /\ TabE w K tb es.toList
 nd : (tb.map (·.1)).Nodup
section
variable {C : Cw} {X : Cx} {e b : Expr} {es : List Expr} {gs : Rho -> ResL} {gb : Rho -> Res} {p pos : Pos} {x : Str} {k n : Nat} {tb : List (Str × Str)}
end
def keyT : Key -> D | .inl i=>.int i | .inr x=>.str x
def keyK : Key -> Bool | .inl _=>true | .inr x=>decide (x.length <= sizeLine) && PyData.strOk x
def tcKeys : List (Md × D) -> Option (Md × D)
 | [(_,.dct kvs)]=>if (kvs.all fun kv=>keyK kv.1) = true then some (.fr,.lst (kvs.map fun kv=>keyT kv.1)) else none
 | _=>none
section
variable {X : Cx}
theorem is_kV {P : Program} {w : World} {k : Key} {u : Value} (h : (mixKind P w).is k u = true) : RelV (kV k) u := by
 cases k with
 | inl i =>
  have h : Value.isInt i u = true := h;cases u <;> simp [Value.isInt] at h
  subst h;exact ⟨_,rfl⟩
 | inr x =>
  have h : Value.isStrOf x u = true := h;cases u <;> simp [Value.isStrOf] at h
  subst h;exact ⟨_,rfl⟩
theorem vals_keys {P : Program} {w : World} : ∀ {vs : List (Key × Value)} {us : List Value},us.length = vs.length -> (∀ (j : Nat) v,us[j]? = some v -> ∃ k x,vs[j]? = some (k,x) /\ (mixKind P w).is k v = true) -> Vals (vs.map fun kv=>kV kv.1) us
 | [],[],_,_=>.nil
 | [],_ :: _,h,_=>by simp at h
 | _ :: _,[],h,_=>by simp at h
 | kv :: vs,u :: us,h,q=>by obtain ⟨k,x,e1,e2⟩ := q 0 u rfl;cases e1;exact .cons (is_kV e2) (vals_keys (by simpa using h) fun j v hv=>q (j + 1) v hv)
theorem call_keys (hc : X.calm = true) : CallR X (.type "list") (fun xs H Q=>∃ p kvs,xs = [.ref p] /\ H p = some (.dK kvs) /\ ∀ l,H l = none -> Q (.ref l) (upd H l (.lst (kvs.map fun kv=>kV kv.1)))) := by
 intro pins s σ H xs us Q I r h;obtain ⟨p,kvs,rfl,hp,q⟩ := h;obtain ⟨u,rfl,rx⟩ := vals1 r;cases rx;obtain ⟨hz,hd,vs,rel,o,es,ep,dd⟩ := dk_of I.hok hp;refine PySem.W.kdl_call (PySem.W.kdl_dict (knd := mixKind X.prog X.w) (kvs := vs) (ep := ep) hd) (I.ok.hd hc) ⟨o,es,dd⟩ (by rw [<- rel.length];exact hz) fun h' tk acc c' kp hg it=>?_
 have ek : vs.map (fun kv=>kV kv.1) = kvs.map fun kv=>kV kv.1 := by have := congrArg (List.map kV) rel.keys;simpa [List.map_map,Function.comp_def] using this.symm
 have rv : Vals (kvs.map fun kv=>kV kv.1) acc.toList := by rw [<- ek];exact vals_keys (P := X.prog) (w := X.w) (by rw [Array.length_toList];exact it.1) fun j v hv=>it.2 j v (by simpa using hv)
 exact ⟨.ref s.heap.objs.size,_,I.laid (t' := tk) kp (Nat.le_refl _) (show ObjOk X.prog X.w _ h' _ (.lst (kvs.map fun kv=>kV kv.1)) from ⟨by rw [List.length_map];exact hz,acc.toList,c',rv,by simpa using hg⟩),rfl,q _ (I.hok.fresh (Nat.le_refl _))⟩
theorem repL_keys {K : Fg} {F : Hp} : ∀ {kvs : List (Key × D)} {xs : List (Key × V)},RepK K F kvs xs -> (kvs.all fun kv=>keyK kv.1) = true -> RepL K F (kvs.map fun kv=>keyT kv.1) (xs.map fun kv=>kV kv.1)
 | [],xs,h,_=>by simp only [RepK] at h;subst h;simp [RepL]
 | (k,d) :: kvs,xs,h,a=>by
  simp only [RepK] at h;obtain ⟨y,ys,rfl,_,t⟩ := h;rw [List.all_cons,Bool.and_eq_true] at a;simp only [List.map_cons,RepL];refine ⟨_,_,rfl,?_,repL_keys t a.2⟩;cases k with
  | inl i=>simp only [keyT,RepV,kV]
  | inr x=>have a1 : (decide (x.length <= sizeLine) && PyData.strOk x) = true := a.1;rw [Bool.and_eq_true,decide_eq_true_eq] at a1;show RepV K F (.str x) (.str x);unfold RepV;exact ⟨rfl,a1⟩
theorem calld_keys (hc : X.calm = true) : CallD X (.type "list") tcKeys := by
 refine ⟨_,call_keys hc,fun F H xs vs k d Q s rx e w=>?_⟩;unfold tcKeys at e;split at e
 . rename_i m kvs;split at e
   . rename_i ha;cases e;obtain ⟨v,rfl,r⟩ := rx.one;obtain ⟨a,xs,rfl,hh,rk⟩ := r.dict s;exact ⟨a,xs,rfl,hh,fun l hl=>w (.ref l) F _ (Step.fresh _ s hl) ⟨l,rfl,s.free hl,_,upd_same,repL_keys rk ha⟩ fun _ a ea=>by cases ea;exact hl⟩
   . cases e
 . cases e
end
theorem RelSt.frz {K : Fg} {F0 H0 F H : Hp} {σ : L2.St} {ρ : Rho} (R : RelSt K F0 H0 F H σ ρ) {i : Nat} {d : D} (e : ρ[i]? = some (some (true,d))) : ∃ F',Same F F' /\ RelSt K F0 H0 F' H σ (ρ.set i (some (false,d))) := by
 obtain ⟨v,ev,rp,hn⟩ := R.slot i true d e;obtain ⟨x,rfl,nx,t⟩ := rp;obtain ⟨o,ho,r⟩ := t.freeze nx;have sm : Same F (upd F x o) := fun b u q=>by rw [upd_ne (ne_of_none q nx)];exact q
 have hi : i < ρ.length := (List.getElem?_eq_some_iff.mp e).1;refine ⟨upd F x o,sm,R.st.freeze (hn rfl x rfl) nx ho,fun j m d' ej=>?_,fun j k d1 d2 a hjk e1 e2 q1 q2=>?_,by rw [List.length_set];exact R.len⟩
 . by_cases hj : j = i
   . subst hj;rw [List.getElem?_set_self hi] at ej;cases ej;exact ⟨.ref x,ev,r,by intro z;cases z⟩
   . rw [List.getElem?_set_ne (fun z=>hj z.symm)] at ej;obtain ⟨v',ev',rp',hn'⟩ := R.slot j m d' ej;refine ⟨v',ev',?_,hn'⟩;cases m with
     | false=>exact RepV.mono sm _ _ rp'
     | true =>
      obtain ⟨a,rfl,na,t'⟩ := rp';have ax : a ≠ x := fun z=>by subst z;exact R.apart j i d' d a hj ej e ev' ev
      refine ⟨a,rfl,by rw [upd_ne ax];exact na,?_⟩
      cases d' with
      | lst ds=>obtain ⟨xs,q,rr⟩ := t';exact ⟨xs,q,rr.mono sm _ _⟩
      | dct ds=>obtain ⟨xs,q,rr⟩ := t';exact ⟨xs,q,rr.mono sm _ _⟩
      | ins c fs=>obtain ⟨C,dx,gs,n,q,rr⟩ := t';exact ⟨C,dx,gs,n,q,rr.mono sm _ _⟩
      | set ks=>obtain ⟨S,q,rr⟩ := t';exact ⟨S,q,rr⟩
      | _=>exact t'.elim
 . have own : ∀ {j : Nat} {d1 : D},(ρ.set i (some (false,d)))[j]? = some (some (true,d1)) -> ρ[j]? = some (some (true,d1)) := fun {j d1} z=>by
     by_cases hj : j = i
     . subst hj;rw [List.getElem?_set_self hi] at z;cases z
     . rw [List.getElem?_set_ne (fun y=>hj y.symm)] at z;exact z
   exact R.apart j k d1 d2 a hjk (own e1) (own e2) q1 q2
def frzS (ρ : Rho) (i : Nat) : SRes := match ρ[i]? with
 | some (some (true,d))=>.nx (ρ.set i (some (false,d)))
 | _=>.stuck
theorem pbv_frz {C : Cw} {X : Cx} {sts : List Stmt} {i : Nat} {g : Rho -> SRes} (h : PBv C X sts g) : PBv C X sts (fun ρ=>(frzS ρ i).thn g) := by
 refine PSs.imp h fun E σ H q=>?_;obtain ⟨ρ,F,R,w⟩ := q;dsimp only at w;unfold frzS at w;split at w
 . rename_i d e;obtain ⟨F',sm,R'⟩ := R.frz e;exact ⟨_,F',R',WantS.mono sm w⟩
 . exact w.elim
def Ent (w : World) : List Str -> List (Int × Value) -> Prop
 | [],l=>l = []
 | x :: xs,l=>∃ t r,l = (hashStr w x,.str x t) :: r /\ Ent w xs r
theorem Ent.mem {w : World} : ∀ {xs : List Str} {l : List (Int × Value)},Ent w xs l -> ∀ e ∈ l,∃ x t,x ∈ xs /\ e = (hashStr w x,.str x t)
 | [],l,h,e,he=>by have h : l = [] := h;subst h;cases he
 | x :: xs,l,h,e,he=>by
  obtain ⟨t,r,rfl,hr⟩ := h;rcases List.mem_cons.mp he with rfl | he
  . exact ⟨x,t,mcs,rfl⟩
  . obtain ⟨y,u,hy,e1⟩ := hr.mem e he;exact ⟨y,u,mcm hy,e1⟩
theorem Ent.mem' {w : World} : ∀ {xs : List Str} {l : List (Int × Value)},Ent w xs l -> ∀ x ∈ xs,∃ t,(hashStr w x,.str x t) ∈ l
 | x :: xs,l,h,y,hy=>by
  obtain ⟨t,r,rfl,hr⟩ := h;rcases List.mem_cons.mp hy with rfl | hy
  . exact ⟨t,mcs⟩
  . obtain ⟨u,hu⟩ := hr.mem' y hy;exact ⟨u,mcm hu⟩
theorem Ent.length {w : World} : ∀ {xs : List Str} {l : List (Int × Value)},Ent w xs l -> l.length = xs.length
 | [],l,h=>by have h : l = [] := h;subst h;rfl
 | x :: xs,l,h=>by obtain ⟨t,r,rfl,hr⟩ := h;simp [hr.length]
theorem Ent.snoc {w : World} : ∀ {xs : List Str} {l : List (Int × Value)} {x : Str} {t : Tok},Ent w xs l -> Ent w (xs ++ [x]) (l ++ [(hashStr w x,.str x t)])
 | [],l,x,t,h=>by have h : l = [] := h;subst h;exact ⟨t,[],rfl,rfl⟩
 | y :: xs,l,x,t,h=>by obtain ⟨u,r,rfl,hr⟩ := h;exact ⟨u,_,rfl,hr.snoc⟩
theorem Ent.perm {w : World} {l l' : List (Int × Value)} (p : l'.Perm l) : ∀ {xs : List Str},Ent w xs l -> ∃ ys : List Str,ys.Perm xs /\ Ent w ys l' := by
 induction p with
 | nil=>exact fun h=>⟨_,.refl _,h⟩
 | cons e _ ih =>
  intro xs h;cases xs with
  | nil=>cases (show _ :: _ = [] from h)
  | cons x xs=>obtain ⟨t,r,e1,hr⟩ := h;cases e1;obtain ⟨ys,p1,h1⟩ := ih hr;exact ⟨x :: ys,p1.cons x,t,_,rfl,h1⟩
 | swap a b l =>
  intro xs h;cases xs with
  | nil=>cases (show _ :: _ = [] from h)
  | cons x xs =>
   obtain ⟨t,r,e1,hr⟩ := h;cases e1;cases xs with
   | nil=>cases (show _ :: _ = [] from hr)
   | cons y xs=>obtain ⟨u,r',e2,hr'⟩ := hr;cases e2;exact ⟨y :: x :: xs,.swap x y xs,u,_,rfl,t,_,rfl,hr'⟩
 | trans _ _ ih1 ih2=>intro xs h;obtain ⟨ys,p1,h1⟩ := ih2 h;obtain ⟨zs,p2,h2⟩ := ih1 h1;exact ⟨zs,p2.trans p1,h2⟩
theorem is_str {P : Program} {w : World} {x y : Str} {t : Tok} : (PySem.strKind P w).is x (.str y t) = decide (y = x) := by show Value.isStrOf x (.str y t) = _;rw [Bool.eq_iff_iff];simp [Value.isStrOf]
theorem Ent.elems {P : Program} {w : World} {xs : List Str} {l : List (Int × Value)} (h : Ent w xs l) : ElemsOf (PySem.strKind P w) l := fun e he=>by obtain ⟨x,t,_,rfl⟩ := h.mem e he;exact ⟨⟨x,by rw [is_str];simp,rfl⟩,rfl⟩
def byText (w : World) : Bool := w.params.followText "set-order"
def SetX (w : World) (h : Heap) (a : Addr) (xs : List Str) : Prop := ∃ o es ep t,h.get? a = some o /\ o.ExactSet /\ o.data = .set es ep t /\ Ent w xs es.toList /\ xs.Nodup /\ xs.length < scanBound /\ t.fits es.size = true /\ t.led = !byText w /\ (xs = [] \/ t.plain = false)
theorem stand_in {t : SetTable} {n : Nat} : (t.orStandIn n).led = t.led /\ ((t.orStandIn n).plain = true -> t.plain = true) := by
 unfold SetTable.orStandIn;split
 . exact ⟨rfl,id⟩
 . exact ⟨rfl,fun h=>by cases h⟩
theorem lay_flags {t : SetTable} {es : Array (Int × Value)} {h : Int} {x : Value} : (layNew t es h x).2.1.led = t.led /\ ((layNew t es h x).2.1.plain = true -> t.plain = true) := by
 unfold layNew;split
 . exact stand_in (t := (t.put _).1)
 . exact ⟨rfl,fun h=>by cases h⟩
theorem relay_flags {t : SetTable} {es : Array (Int × Value)} {n : Nat} : (relayAll t es n).2.1.led = t.led /\ ((relayAll t es n).2.1.plain = true -> t.plain = true) := by
 unfold relayAll;split
 . rename_i t' order e;have e' : t'.led = t.led /\ t'.plain = t.plain := by
     unfold SetTable.relaid SetTable.laid at e;cases hl : SetTable.layClean (SetTable.sizeAbove n - 1) (es.map (·.1)) with
     | none=>rw [hl] at e;cases e
     | some ow=>rw [hl] at e;cases e;exact ⟨rfl,rfl⟩
   dsimp only;split
   . exact ⟨e'.1,fun h=>by rw [<- e'.2];exact h⟩
   . exact ⟨rfl,fun h=>by cases h⟩
 . exact ⟨rfl,fun h=>by cases h⟩
section
variable {prog : Program} {w : World} {A : Around} {E : VSP} {s : Shared}
theorem gave_ok (b : Bool) {s₁ : Shared} {Q' : Unit -> Shared -> Prop} (hq : Q' () s₁) : wpAny (model prog w) A (match b with | true=>rule "set.scan.the-table-gave-way" | false=>pure ()) Q' E s₁ := by
 cases b with
 | true=>exact wpAny_rule hq
 | false=>exact wpAny_pure hq
theorem store_x (P : Program) {h : Heap} {a : Addr} {o : Obj} {es : Array (Int × Value)} {ep : Nat} {t : SetTable} (ho : h.get? a = some o) (hex : o.ExactSet) (hd : o.data = .set es ep t) {es' : Array (Int × Value)} {t' : SetTable} {xs : List Str} (he : Ent w xs es'.toList) (hn : xs.Nodup) (hb : xs.length < scanBound) (hf : t'.fits es'.size = true) (hl : t'.led = !byText w) (hp : xs = [] \/ t'.plain = false) : (h.update a (Obj.putSet es' t')).get? a = some { o with data := .set es' (ep + 1) t' } /\ SetX w (h.update a (Obj.putSet es' t')) a xs := by
 have hs : es'.size = xs.length := by rw [<- Array.length_toList];exact he.length
 have g := (SetOf_store (knd := PySem.strKind P w) (S' := fun k=>decide (∃ e ∈ es'.toList,(PySem.strKind P w).is k e.2 = true)) ho hex hd he.elems (fun k=>by simp) (by rw [hs];exact hb) hf).1
 exact ⟨g,_,es',ep + 1,t',g,hex,rfl,he,hn,hb,hf,hl,hp⟩
theorem add_tail (g : Bool → Sem Unit) (hg : ∀ (b : Bool) {s₁ : Shared} {Q' : Unit → Shared → Prop}, Q' () s₁ → wpAny (model prog w) A (g b) Q' E s₁) {a : Addr} {o : Obj} {es : Array (Int × Value)} {ep : Nat} {t : SetTable} (ho : s.heap.get? a = some o) (hex : o.ExactSet) (hd : o.data = .set es ep t) {es1 : Array (Int × Value)} {t2 : SetTable} {xs : List Str} (he : Ent w xs es1.toList) (hn : xs.Nodup) (hb : xs.length < scanBound) (hf : t2.fits es1.size = true) (hl : t2.led = !byText w) (hp : t2.plain = false) {wasDummy : Bool} {R : Option Bool → Shared → Prop} (h : ∀ h' ys, Heap.SameBut a s.heap h' → SetX w h' a ys → ys.Perm xs → R (some true) { s with heap := h' }) :
    wpAny (model prog w) A (do
        storeSet a es1 t2
        if (!wasDummy && t2.tooFull) = true then do
            g (relayAll t2 es1 (SetTable.grown es1.size)).2.2
            storeSet a (relayAll t2 es1 (SetTable.grown es1.size)).1 (relayAll t2 es1 (SetTable.grown es1.size)).2.1
            pure (some true)
         else pure (some true)) R E s := by
 have z : ∀ {l : Array (Int × Value)} {ys : List Str},Ent w ys l.toList -> ys.length < scanBound -> l.size <= sizeLine := fun q1 q2=>fits_of_scanBound (by rw [<- Array.length_toList,q1.length];exact q2)
 obtain ⟨g1,X1⟩ := store_x prog ho hex hd he hn hb hf hl (.inr hp);refine wpAny_bind (wpAny_storeSet_of ho hd ?_ (z he hb));have sb := Heap.SameBut.update s.heap a (Obj.putSet es1 t2);split
 . have pm := relayAll_perm t2 es1 (SetTable.grown es1.size);have ft := relayAll_fits t2 es1 (SetTable.grown es1.size);have fl := relay_flags (t := t2) (es := es1) (n := SetTable.grown es1.size);generalize relayAll t2 es1 (SetTable.grown es1.size) = R1 at *;obtain ⟨es2,t3,gv⟩ := R1;dsimp only at pm ft fl ⊢;obtain ⟨ys,p1,e2⟩ := he.perm pm;have pl : t3.plain = false := by
     cases q : t3.plain with
     | false=>rfl
     | true=>rw [fl.2 q] at hp;cases hp
   have yb : ys.length < scanBound := by rw [p1.length_eq];exact hb
   obtain ⟨_,X2⟩ := store_x prog g1 hex rfl e2 (p1.symm.nodup hn) yb ft (fl.1.trans hl) (.inr pl);refine wpAny_bind (hg gv ?_);exact wpAny_bind (wpAny_storeSet_of g1 rfl (wpAny_pure (h _ ys (sb.trans (Heap.SameBut.update _ a _)) X2 p1)) (z e2 yb))
 . exact wpAny_pure (h _ xs sb X1 (.refl _))
theorem add_x {a : Addr} {xs : List Str} {x : Str} {tk : Tok} {Q : Bool -> Shared -> Prop} (h : SetX w s.heap a xs) (hr : xs.length + 1 < scanBound) (hq : ∀ h' ys,Heap.SameBut a s.heap h' -> SetX w h' a ys -> ys.Perm (if x ∈ xs then xs else xs ++ [x]) -> Q (!decide (x ∈ xs)) { s with heap := h' }) : wpAny (model prog w) A (setAddHashed a (.str x tk) (hashStr w x)) Q E s := by
 obtain ⟨o,es,ep,t,ho,hex,hd,he,hn,hb,hf,hl,hp⟩ := id h;have el : ElemsOf (PySem.strKind prog w) es.toList := he.elems;have hz : es.size = xs.length := by rw [<- Array.length_toList];exact he.length
 have hk : (PySem.strKind prog w).is x (.str x tk) = true := by rw [is_str];simp
 unfold setAddHashed setAddHashedIn;refine wpAny_holding (wpAny_bind (wpAny_setState_of ho hd hf ?_));dsimp only;rw [byScan_of (knd := PySem.strKind prog w) (x := .str x tk) rfl (by rw [hz];exact hb) el]
 simp only [↓reduceIte];unfold setAddByScan;refine wpAny_bind (wpAny_bind (wpAny_rule (wpAny_bind (wpAny_setScan_of (knd := PySem.strKind prog w) hk ho hd hf el ?_))));cases hf' : List.findIdx? (fun e=>(PySem.strKind prog w).is x e.2) es.toList with
 | some j =>
  dsimp only;obtain ⟨hj,hpj,_⟩ := List.findIdx?_eq_some_iff_getElem.mp hf';obtain ⟨y,u,hy,ey⟩ := he.mem _ (List.getElem_mem hj);rw [ey,is_str,decide_eq_true_eq] at hpj;subst hpj;have := hq s.heap xs (Heap.SameBut.refl a s.heap) h (by rw [if_pos hy])
  rw [decide_eq_true hy] at this;exact wpAny_pure (wpAny_pure this)
 | none =>
  dsimp only;have nx : ¬ x ∈ xs := fun hx=>by obtain ⟨u,hu⟩ := he.mem' x hx;have := List.findIdx?_eq_none_iff.mp hf' _ hu;rw [is_str] at this;simp at this
  have pm := layNew_perm t es (hashStr w x) (.str x tk);have ft := layNew_fits t es (hashStr w x) (.str x tk);have fl := lay_flags (t := t) (es := es) (h := hashStr w x) (x := .str x tk);show wpAny _ _ (match layNew t es (hashStr w x) (.str x tk) with | (es,t,wasDummy,gave)=>_) _ _ _
  generalize layNew t es (hashStr w x) (.str x tk) = L at *;obtain ⟨es1,t1,wd,gv⟩ := L;dsimp only at pm ft fl ⊢;rw [Array.toList_push] at pm;obtain ⟨ys,p1,e1⟩ := (he.snoc (x := x) (t := tk)).perm pm;have yn : ys.Nodup := p1.symm.nodup (List.nodup_append.mpr ⟨hn,by simp,fun a ha b hb e=>by rw [List.mem_singleton] at hb;subst hb;subst e;exact nx ha⟩)
  have yb : ys.length < scanBound := by rw [p1.length_eq,List.length_append];simpa using hr
  have fin : ∀ h' zs,Heap.SameBut a s.heap h' -> SetX w h' a zs -> zs.Perm ys -> Q true { s with heap := h' } := fun h' zs q1 q2 q3=>by
   have := hq h' zs q1 q2 (by rw [if_neg nx];exact q3.trans p1)
   rw [decide_eq_false nx] at this;exact this
  refine wpAny_bind ?_;have gg : ∀ (b : Bool) {s₁ : Shared} {Q' : Unit -> Shared -> Prop},Q' () s₁ -> wpAny (model prog w) A (match b with | true=>rule "set.scan.the-table-gave-way" | false=>pure ()) Q' E s₁ := fun b _ _ q=>gave_ok b q
  refine gg _ ?_;split
  . refine wpAny_bind ?_;rw [hashByValue_scannable 8 (x := .str x tk) rfl];refine wpAny_pure ?_;refine add_tail _ gg (t2 := { t1 with plain := false }) ho hex hd e1 yn yb (SetTable.fits_plain_off ft) (fl.1.trans hl) rfl ?_
    exact fun h' zs q1 q2 q3=>wpAny_pure (fin h' zs q1 q2 q3)
  . rename_i np;refine wpAny_bind (wpAny_pure ?_);refine add_tail _ gg (t2 := t1) ho hex hd e1 yn yb ft (fl.1.trans hl) (by cases q : t1.plain with | true=>exact absurd q np | false=>rfl) ?_
    exact fun h' zs q1 q2 q3=>wpAny_pure (fin h' zs q1 q2 q3)
end
theorem SetX.kept {w : World} {h h' : Heap} {a : Addr} {xs : List Str} (x : SetX w h a xs) (k : ∀ o,h.get? a = some o -> h'.get? a = some o) : SetX w h' a xs := by obtain ⟨o,es,ep,t,ho,r⟩ := x;exact ⟨o,es,ep,t,k o ho,r⟩
theorem SetX.there {w : World} {h : Heap} {a : Addr} {xs : List Str} (x : SetX w h a xs) : a < h.objs.size := by obtain ⟨o,es,ep,t,ho,r⟩ := x;exact Heap.lt_size ho
section
variable {prog : Program} {w : World} {A : Around} {E : VSP} {s : Shared}
theorem setAdd_x {a : Addr} {xs : List Str} {x : Str} {tk : Tok} {Q : Bool -> Shared -> Prop} (h : SetX w s.heap a xs) (hr : xs.length + 1 < scanBound) (hq : ∀ h' ys,Heap.SameBut a s.heap h' -> SetX w h' a ys -> ys.Perm (if x ∈ xs then xs else xs ++ [x]) -> Q (!decide (x ∈ xs)) { s with heap := h',toks := s.toks + 1 }) : wpAny (model prog w) A (setAdd a (.str x tk)) Q E s := by
 unfold setAdd;refine wpAny_holding (wpAny_bind ((PySem.strKind prog w).pyHash (k := x) (v := .str x tk) (by rw [is_str];simp) ?_))
 exact add_x (s := { s with toks := s.toks + 1 }) h hr hq
end
def sob (w : World) : Obj := { cls := .type "set", dict := none,data := .set #[] 0 (.fresh 0 0 (!byText w)) }
theorem sob_x {w : World} {h : Heap} {a : Addr} (g : h.get? a = some (sob w)) : SetX w h a [] :=
 ⟨_,#[],0,_,g,⟨rfl,rfl,rfl⟩,rfl,rfl,List.nodup_nil,by decide,rfl,rfl,.inl rfl⟩
section
variable {prog : Program} {w : World} {A : Around} {E : VSP} {s : Shared}
end
def Small (m : Nat) : Prop := m = 7 \/ m = 15 \/ m = 31
section
variable {m : Nat} {ow : Array (Option Nat)}
end
def SetM (w : World) (h : Heap) (a : Addr) (xs : List Str) : Prop := ∃ o es ep t,h.get? a = some o /\ o.ExactSet /\ o.data = .set es ep t /\ Ent w xs es.toList /\ xs.Nodup /\ xs.length < scanBound /\ t.fits es.size = true /\ t.led = !byText w /\ (xs = [] \/ t.plain = false) /\ Small t.mask /\ t.dummies = #[]
theorem erase_perm {α : Type} : ∀ {l : List α} {i : Nat} (h : i < l.length),(l[i] :: l.eraseIdx i).Perm l
 | [],i,h=>by simp at h
 | a :: l,0,h=>.refl _
 | a :: l,i + 1,h=>by
  have hi : i < l.length := by simpa using h
  exact (List.Perm.swap a l[i] _).trans ((erase_perm hi).cons a)
theorem pick_go {α : Type} {next : Nat -> Nat} : ∀ {f k : Nat} {left : List α} {out : Array α},left.length = f -> (pickOrder.go next f k left out).toList.Perm (out.toList ++ left)
 | 0,k,left,out,h=>by have : left = [] := List.length_eq_zero_iff.mp h;subst this;unfold pickOrder.go;simp
 | f + 1,k,left,out,h=>by
  have hl : next k % left.length < left.length := Nat.mod_lt _ (by omega)
  unfold pickOrder.go;rw [List.getElem?_eq_getElem hl];dsimp only;refine (pick_go (by rw [List.length_eraseIdx,if_pos hl];omega)).trans ?_
  rw [Array.toList_push,List.append_assoc];exact List.Perm.append_left _ (erase_perm hl)
theorem pick_perm {α : Type} {next : Nat -> Nat} {xs : Array α} : (pickOrder next xs).toList.Perm xs.toList := by unfold pickOrder;simpa using pick_go (next := next) (f := xs.size) (k := 0) (left := xs.toList) (out := #[]) rfl
section
variable {prog : Program} {w : World} {A : Around} {E : VSP} {s : Shared}
theorem byText_ok {Q : Bool -> Shared -> Prop} (q : Q (byText w) s) : wpAny (model prog w) A setsByText Q E s := by unfold setsByText;exact wpAny_bind (wpAny_askSetting (wpAny_pure q))
def Wide (h : Heap) (a : Addr) (n : Nat) : Prop := ∀ o es ep t,h.get? a = some o -> o.data = .set es ep t -> n <= t.mask
end
theorem SetX.ty {w : World} {s : Shared} {a : Addr} {xs : List Str} (x : SetX w s.heap a xs) : s.TypeIs (.ref a) "set" := by obtain ⟨o,es,ep,t,ho,hex,r⟩ := x;exact ⟨o,ho,hex.1⟩
section
variable {prog : Program} {w : World} {A : Around} {E : VSP} {s : Shared}
theorem newSet_x {Q : VSP} (q : Q (.ref s.heap.objs.size) { s with heap := s.heap.push (sob w) }) : wpAny (model prog w) A (newSet (.type "set")) Q E s := by unfold newSet;refine wpAny_bind (byText_ok ?_);dsimp only;simp only [newObj];exact wpAny_bind (wpAny_alloc (wpAny_pure q))
end
theorem slot_nxt : Slot "set_iterator" "__next__" "set_iterator.__next__" := .of (owner := "set_iterator") (n := "__next__") (by rw [typeLookup_type,builtinLookup_eq_fast];kernel_rfl) (by decide +kernel) (by decide +kernel) (by decide +kernel) (by first | exact .inl (by decide +kernel) | exact .inr (by decide +kernel)) (by rw [isSubtype_type];kernel_rfl)
theorem ent_nxt : entryFor table "set_iterator.__next__" = some Builtin.«set_iterator.__next__» := entryFor_of_tree (by kernel_rfl)
theorem own_sit : Manifest.owners.lookup (String.ofList "rotareti_tes".toList.reverse) = some Manifest.sig_set_iterator := by kernel_rfl
theorem arg_nxt (a : Value) : argsOk "set_iterator.__next__" ⟨[a],[]⟩ := by unfold argsOk;rw [signature?_of (id := "set_iterator.__next__") (n := "__txen__".toList) (o := "rotareti_tes".toList) (by kernel_rfl) own_sit];kernel_rfl
theorem slot_sii : Slot "set_iterator" "__iter__" "set_iterator.__iter__" := .of (owner := "set_iterator") (n := "__iter__") (by rw [typeLookup_type,builtinLookup_eq_fast];kernel_rfl) (by decide +kernel) (by decide +kernel) (by decide +kernel) (by first | exact .inl (by decide +kernel) | exact .inr (by decide +kernel)) (by rw [isSubtype_type];kernel_rfl)
theorem arg_sii (a : Value) : argsOk "set_iterator.__iter__" ⟨[a],[]⟩ := by unfold argsOk;rw [signature?_of (id := "set_iterator.__iter__") (n := "__reti__".toList) (o := "rotareti_tes".toList) (by kernel_rfl) own_sit];kernel_rfl
theorem ent_iter : entryFor table "set.__iter__" = some Builtin.«frozenset.__iter__» := entryFor_alias (id' := "frozenset.__iter__") (by kernel_rfl) rfl (by decide +kernel) (by kernel_rfl)
theorem ent_sii : entryFor table "set_iterator.__iter__" = some Builtin.«dict_keyiterator.__iter__» := entryFor_alias (id' := "dict_keyiterator.__iter__") (by kernel_rfl) rfl (by decide +kernel) (by kernel_rfl)
def SIt (h : Heap) (I a : Addr) (f : Value) (i n ep : Nat) : Prop := ∃ o,h.get? I = some o /\ o.cls = .type "set_iterator" /\ o.data = .fields #[f,.int i 0,.ref a,.int n 0,.int ep 0]
theorem SIt.ty {s : Shared} {I a : Addr} {f : Value} {i n ep : Nat} (x : SIt s.heap I a f i n ep) : s.TypeIs (.ref I) "set_iterator" := let ⟨o,h1,h2,_⟩ := x;⟨o,h1,h2⟩
theorem SIt.at {h h' : Heap} {I a : Addr} {f : Value} {i n ep : Nat} (x : SIt h I a f i n ep) (k : ∀ o,h.get? I = some o -> h'.get? I = some o) : SIt h' I a f i n ep := let ⟨o,h1,r⟩ := x;⟨o,k o h1,r⟩
section
variable {prog : Program} {w : World} {A : Around} {E : VSP} {s : Shared} {I a : Addr} {i n ep : Nat} {o : Obj} {es : Array (Int × Value)} {t : SetTable}
theorem sit_self {f : Value} {Q : VSP} (x : SIt s.heap I a f i n ep) (q : Q (.ref I) s) : wpAny (model prog w) A (pyIter (.ref I)) Q E s := by refine wpAny_pyIter_slot x.ty slot_sii (wpAny_call_entry slot_sii x.ty ent_sii ?_ (arg_sii _));show wpAny _ _ (ret (.ref I)) _ _ s;exact wpAny_pure ⟨_,rfl, "set_iterator", _,x.ty,slot_nxt.lookup,q⟩
theorem sit_set {β : Type} {m : Sem β} {f f' : Value} {o : Obj} (h0 : s.heap.get? I = some o) (hc : o.cls = .type "set_iterator") (hd : o.data = .fields #[f, .int i 0, .ref a, .int n 0, .int ep 0]) {Q : β → Shared → Prop}
    (q : ∀ h',Heap.SameBut I s.heap h' -> SIt h' I a f' (i + 1) n ep -> wpAny (model prog w) A m Q E { s with heap := h' }) : wpAny (model prog w) A (do setField (.ref I) 0 f';setField (.ref I) 1 (rawInt (i + 1));m) Q E s := by
 refine wpAny_bind (wpAny_setField h0 hd (by simp) ?_)
 have g1 := Heap.get?_update_self (Obj.mapFields (·.setIfInBounds 0 f')) h0 (Obj.isFreed_of_fields (Obj.data_mapFields hd _));have d1 := Obj.data_mapFields hd (·.setIfInBounds 0 f');refine wpAny_bind (wpAny_setField (s := { s with heap := s.heap.update I (Obj.mapFields (·.setIfInBounds 0 f')) }) g1 d1 (by simp) (q _ ((Heap.SameBut.update _ I _).trans (Heap.SameBut.update _ I _)) ?_))
 refine ⟨_,Heap.get?_update_self _ g1 (Obj.isFreed_of_fields (Obj.data_mapFields d1 _)),(Obj.cls_mapFields ..).trans ((Obj.cls_mapFields ..).trans hc),?_⟩;rw [Obj.data_mapFields d1];simp [rawInt]
theorem sit_set1 {f : Value} {o : Obj} (h0 : s.heap.get? I = some o) (hc : o.cls = .type "set_iterator") (hd : o.data = .fields #[f,.int i 0,.ref a,.int n 0,.int ep 0]) {Q : Unit -> Shared -> Prop} (q : ∀ h',Heap.SameBut I s.heap h' -> SIt h' I a f (i + 1) n ep -> Q () { s with heap := h' }) : wpAny (model prog w) A (setField (.ref I) 1 (rawInt (i + 1))) Q E s := by
 refine wpAny_setField h0 hd (by simp) (q _ (Heap.SameBut.update _ I _) ⟨_,Heap.get?_update_self _ h0 (Obj.isFreed_of_fields (Obj.data_mapFields hd _)),(Obj.cls_mapFields ..).trans hc,?_⟩)
 rw [Obj.data_mapFields hd];simp [rawInt]
theorem stop_x {P : PySem.Fin → Shared → Prop} {Q : Option Value → Shared → Prop} (hh : A.handled = none) (q : ∀ h', (∀ b o, s.heap.get? b = some o → h'.get? b = some o) → Q none { s with heap := h' }) :
    wpAny (model prog w) A.in1 (do let e <- newExc (.type "StopIteration") [];raiseNew e) P (fun e s'=>wpAny (model prog w) A (do let c <- isInstance e (.type "StopIteration");if c = true then pure none else throw e) Q E s') s := by
 refine wpAny_bind ?_;simp only [newExc,newTuple];refine wpAny_bind (wpAny_newObj_type (wpAny_bind (m := firstArgMember _ _) (wpAny_of_eq (a := Value.none) (by first | rfl | (simp only [firstArgMember];rfl)) (wpAny_newObj_type ?_ (by size_fits)))) (by size_fits))
 simp only [raiseNew];refine wpAny_bind (wpAny_handled ?_);rw [show A.in1.handled = none from hh]
 refine wpAny_bind (wpAny_pure (wpAny_throw (wpAny_bind ?_)));exact wpAny_isInstance (T := "StopIteration") (b := true) ⟨_,Heap.get?_push_size _ rfl,rfl⟩ isSubtype_stop (wpAny_pure (q _ fun b o e=>hps (hps e)))
theorem nxt_int {k k' : Nat} {x : Value} {Q : Option Value -> Shared -> Prop} (X : SIt s.heap I a (.int k 0) i es.size ep) (ho : s.heap.get? a = some o) (hd : o.data = .set es ep t) (hf : t.fits es.size = true) (hn : ∀ {A' : Around} {E' : VSP} {Q' : Option (Value × Nat) -> Shared -> Prop},Q' (some (x,k')) s -> wpAny (model prog w) A' (setNext a k i ep) Q' E' s) (q : ∀ h',Heap.SameBut I s.heap h' -> SIt h' I a (.int k' 0) (i + 1) es.size ep -> Q (some x) { s with heap := h' }) : wpAny (model prog w) A (pyNext (.ref I)) Q E s := by obtain ⟨oI,h0,hc,hdI⟩ := id X;unfold pyNext;refine wpAny_bind (wpAny_attempt (wpAny_callSpecial?_slot (name := Str.ofString "__next__") X.ty slot_nxt (wpAny_call_entry slot_nxt X.ty ent_nxt ?_ (arg_nxt _))));unfold Builtin.«set_iterator.__next__»;refine wpAny_bind (m := slotArgs _ _ _) (wpAny_pure (wpAny_bind (wpAny_fieldsOf h0 hdI ?_)));dsimp only;refine wpAny_bind (wpAny_setEntries_of ho hd hf ?_);simp only [bne_self_eq_false,Bool.false_eq_true,↓reduceIte,Int.toNat_natCast];refine wpAny_bind (hn ?_);dsimp only;exact sit_set h0 hc hdI fun h' sb X'=>wpAny_pure ⟨_,rfl,wpAny_pure (q h' sb X')⟩
theorem nxt_int_end {k : Nat} {Q : Option Value -> Shared -> Prop} (hh : A.handled = none) (X : SIt s.heap I a (.int k 0) i es.size ep) (ho : s.heap.get? a = some o) (hd : o.data = .set es ep t) (hf : t.fits es.size = true) (hn : ∀ {A' : Around} {E' : VSP} {Q' : Option (Value × Nat) -> Shared -> Prop},Q' none s -> wpAny (model prog w) A' (setNext a k i ep) Q' E' s) (q : ∀ h',(∀ b o,b ≠ I -> s.heap.get? b = some o -> h'.get? b = some o) -> Q none { s with heap := h' }) : wpAny (model prog w) A (pyNext (.ref I)) Q E s := by
 obtain ⟨oI,h0,hc,hdI⟩ := id X;unfold pyNext;refine wpAny_bind (wpAny_attempt (wpAny_callSpecial?_slot (name := Str.ofString "__next__") X.ty slot_nxt (wpAny_call_entry slot_nxt X.ty ent_nxt ?_ (arg_nxt _))));unfold Builtin.«set_iterator.__next__»;refine wpAny_bind (m := slotArgs _ _ _) (wpAny_pure (wpAny_bind (wpAny_fieldsOf h0 hdI ?_)));dsimp only;refine wpAny_bind (wpAny_setEntries_of ho hd hf ?_);simp only [bne_self_eq_false,Bool.false_eq_true,↓reduceIte,Int.toNat_natCast];refine wpAny_bind (hn ?_);dsimp only;refine wpAny_bind (wpAny_setField h0 hdI (by simp) (stop_x hh fun h' k'=>q h' fun b o' nb e=>k' b o' ?_))
 exact (Heap.SameBut.update s.heap I _).extBut b o' nb e
theorem nxt_ref {tp : Addr} {ps : Array Value} {p : Nat} {u : Tok} {hx : Int} {x : Value} {Q : Option Value -> Shared -> Prop} (X : SIt s.heap I a (.ref tp) i es.size ep) (ht : s.heap.IsTuple tp ps) (hp : ps[i]? = some (.int p u)) (ho : s.heap.get? a = some o) (hd : o.data = .set es ep t) (hf : t.fits es.size = true) (hx : es[p]? = some (hx,x)) (q : ∀ h',Heap.SameBut I s.heap h' -> SIt h' I a (.ref tp) (i + 1) es.size ep -> Q (some x) { s with heap := h' }) : wpAny (model prog w) A (pyNext (.ref I)) Q E s := by obtain ⟨oI,h0,hc,hdI⟩ := id X;obtain ⟨ot,hot,hct,nt,hdt⟩ := ht;unfold pyNext;refine wpAny_bind (wpAny_attempt (wpAny_callSpecial?_slot (name := Str.ofString "__next__") X.ty slot_nxt (wpAny_call_entry slot_nxt X.ty ent_nxt ?_ (arg_nxt _))));unfold Builtin.«set_iterator.__next__»;refine wpAny_bind (m := slotArgs _ _ _) (wpAny_pure (wpAny_bind (wpAny_fieldsOf h0 hdI ?_)));dsimp only;refine wpAny_bind (wpAny_setEntries_of ho hd hf ?_);simp only [bne_self_eq_false,Bool.false_eq_true,↓reduceIte,Int.toNat_natCast];refine wpAny_bind (wpAny_seqItems hot hdt ?_);dsimp only;rw [hp];dsimp only;unfold setNextDrawn;refine wpAny_bind (wpAny_bind (wpAny_setState_of ho hd hf ?_));simp only [bne_self_eq_false,Bool.false_eq_true,↓reduceIte,Int.toNat_natCast,hx];refine wpAny_pure (wpAny_bind (sit_set1 h0 hc hdI fun h' sb X'=>wpAny_pure ⟨_,rfl,wpAny_pure (q h' sb X')⟩))
theorem nxt_ref_end {tp : Addr} {ps : Array Value} {Q : Option Value -> Shared -> Prop} (hh : A.handled = none) (X : SIt s.heap I a (.ref tp) i es.size ep) (ht : s.heap.IsTuple tp ps) (hp : ps[i]? = none) (ho : s.heap.get? a = some o) (hd : o.data = .set es ep t) (hf : t.fits es.size = true) (q : ∀ h',(∀ b o,b ≠ I -> s.heap.get? b = some o -> h'.get? b = some o) -> Q none { s with heap := h' }) : wpAny (model prog w) A (pyNext (.ref I)) Q E s := by
 obtain ⟨oI,h0,hc,hdI⟩ := id X;obtain ⟨ot,hot,hct,nt,hdt⟩ := ht;unfold pyNext;refine wpAny_bind (wpAny_attempt (wpAny_callSpecial?_slot (name := Str.ofString "__next__") X.ty slot_nxt (wpAny_call_entry slot_nxt X.ty ent_nxt ?_ (arg_nxt _))));unfold Builtin.«set_iterator.__next__»;refine wpAny_bind (m := slotArgs _ _ _) (wpAny_pure (wpAny_bind (wpAny_fieldsOf h0 hdI ?_)));dsimp only;refine wpAny_bind (wpAny_setEntries_of ho hd hf ?_);simp only [bne_self_eq_false,Bool.false_eq_true,↓reduceIte,Int.toNat_natCast];refine wpAny_bind (wpAny_seqItems hot hdt ?_);dsimp only;rw [hp];dsimp only;refine wpAny_bind (wpAny_setField h0 hdI (by simp) ?_)
 have g1 := Heap.get?_update_self (Obj.mapFields (·.setIfInBounds 0 (rawInt 0))) h0 (Obj.isFreed_of_fields (Obj.data_mapFields hdI _));have d1 := Obj.data_mapFields hdI (·.setIfInBounds 0 (rawInt 0));refine wpAny_bind (wpAny_setField (s := { s with heap := s.heap.update I (Obj.mapFields (·.setIfInBounds 0 (rawInt 0))) }) g1 d1 (by simp) (stop_x hh fun h' k'=>q h' fun b o' nb e=>k' b o' ?_))
 exact (Heap.SameBut.update _ I _).extBut b o' nb ((Heap.SameBut.update s.heap I _).extBut b o' nb e)
end
section
variable {prog : Program} {w : World} {A : Around} {E : VSP} {s : Shared}
theorem choose_x {M : Model} {src : Source} {n : Nat} {Q : Nat -> Shared -> Prop} (hn : n ≠ 0) (h : ∀ i,i < n -> Q i { s with drawn := s.drawn.bump src }) : wpAny M A (choose src n) Q E s :=
 fun _ _ _=>⟨hn,h _ (Nat.mod_lt _ (Nat.pos_of_ne_zero hn))⟩
theorem draw_x {M : Model} {α : Type} : ∀ {n : Nat} {l : List α} {s : Shared} {Q : List α -> Shared -> Prop},l.length = n -> (∀ d l',l'.Perm l -> Q l' { s with drawn := d }) -> wpAny M A (drawOrder n l) Q E s
 | 0,l,s,Q,hl,h=>by have : l = [] := List.length_eq_zero_iff.mp hl;subst this;unfold drawOrder;exact wpAny_pure (h s.drawn [] (.refl _))
 | n + 1,[],s,Q,hl,h=>by cases hl
 | n + 1,x :: l,s,Q,hl,h=>by
  unfold drawOrder;refine wpAny_bind (choose_x (by simp) fun i hi=>?_)
  rw [List.getElem?_eq_getElem hi];dsimp only;refine wpAny_bind (draw_x (by rw [List.length_eraseIdx,if_pos hi];omega) fun d l' p=>wpAny_pure (h d _ ?_))
  exact (p.cons _).trans (erase_perm hi)
variable {I a : Addr} {ep : Nat} {o : Obj} {es : Array (Int × Value)} {t : SetTable}
theorem walk_t (hh : A.handled = none) (hne : a ≠ I) (hd : o.data = .set es ep t) (hf : t.fits es.size = true) (bt : byText w = true) : Walks prog w A I [I,a] [I] es.size (fun i v=>((pickOrder (w.params.setOrder a ep) es).map (·.2))[i]? = some v) (fun i h=>SIt h I a (.int (0 : Nat) 0) i es.size ep /\ h.get? a = some o) where
 sub := fun b hb=>by simp at hb;simp [hb]
 frame := fun _ _ _ st hk=>⟨st.1.at fun o e=>hk I (by simp) o e,hk a (by simp) o st.2⟩
 item := fun i s Q E hi st hQ=>by
  have hz : (pickOrder (w.params.setOrder a ep) es).size = es.size := by rw [<- Array.length_toList,pick_perm.length_eq,Array.length_toList]
  have hx : (pickOrder (w.params.setOrder a ep) es)[i]? = some (pickOrder (w.params.setOrder a ep) es)[i] := Array.getElem?_eq_getElem (by rw [hz];exact hi)
  refine nxt_int (k := 0) (k' := 0) st.1 st.2 hd hf (x := ((pickOrder (w.params.setOrder a ep) es)[i]).2) (fun {A' E' Q'} q=>?_) fun h' sb X'=>?_
  . unfold setNext setWalk;refine wpAny_bind (wpAny_setState_of st.2 hd hf (wpAny_bind (byText_ok ?_)));simp only [bt,↓reduceIte,bne_self_eq_false,Bool.false_eq_true];refine wpAny_bind (wpAny_bind (wpAny_setState_of st.2 hd hf (wpAny_bind (byText_ok ?_))));simp only [bt,↓reduceIte];refine wpAny_bind (wpAny_askSetting (wpAny_pure (wpAny_pure ?_)));show Q' (Option.map _ (pickOrder (w.params.setOrder a ep) es)[i]?) _;rw [hx];exact q
  . exact hQ _ h' s.toks (by rw [Array.getElem?_map,hx];rfl) ⟨X',sb.extBut a o hne st.2⟩ fun b o' hb e=>sb.extBut b o' (fun h=>hb (by simp [h])) e
 done := fun s Q E st hQ=>by
  have hz : (pickOrder (w.params.setOrder a ep) es).size = es.size := by rw [<- Array.length_toList,pick_perm.length_eq,Array.length_toList]
  have hx : (pickOrder (w.params.setOrder a ep) es)[es.size]? = none := Array.getElem?_eq_none (by rw [hz];exact Nat.le_refl _)
  refine nxt_int_end (k := 0) hh st.1 st.2 hd hf (fun {A' E' Q'} q=>?_) fun h' kp=>hQ h' s.toks fun b o' hb e=>kp b o' (fun h=>hb (by simp [h])) e
  unfold setNext setWalk;refine wpAny_bind (wpAny_setState_of st.2 hd hf (wpAny_bind (byText_ok ?_)));simp only [bt,↓reduceIte,bne_self_eq_false,Bool.false_eq_true];refine wpAny_bind (wpAny_bind (wpAny_setState_of st.2 hd hf (wpAny_bind (byText_ok ?_))));simp only [bt,↓reduceIte];refine wpAny_bind (wpAny_askSetting (wpAny_pure (wpAny_pure ?_)));show Q' (Option.map _ (pickOrder (w.params.setOrder a ep) es)[es.size]?) _;rw [hx];exact q
 self := fun _ _ _ _ st hQ=>sit_self st.1 hQ
theorem walk_d {tp : Addr} {ps : Array Value} (hh : A.handled = none) (hne : a ≠ I) (hnt : tp ≠ I) (hd : o.data = .set es ep t) (hf : t.fits es.size = true) {qs : List Nat} (hq : ps = (qs.map fun (i : Nat)=>rawInt i).toArray) (hp : qs.Perm (List.range es.size)) : Walks prog w A I [I,a,tp] [I] es.size (fun i v=>∃ p hx,qs[i]? = some p /\ es[p]? = some (hx,v)) (fun i h=>SIt h I a (.ref tp) i es.size ep /\ h.get? a = some o /\ h.IsTuple tp ps) where
 sub := fun b hb=>by simp at hb;simp [hb]
 frame := fun _ _ _ st hk=>⟨st.1.at fun o e=>hk I (by simp) o e,hk a (by simp) o st.2.1,st.2.2.at fun o e=>hk tp (by simp) o e⟩
 item := fun i s Q E hi st hQ=>by
  have hz : qs.length = es.size := by rw [hp.length_eq,List.length_range]
  have hi' : i < qs.length := by rw [hz];exact hi
  have hx : qs[i]? = some qs[i] := List.getElem?_eq_getElem hi';have hm : qs[i] < es.size := List.mem_range.mp (hp.mem_iff.mp (List.getElem_mem hi'));have he : es[qs[i]]? = some (es[qs[i]].1,es[qs[i]].2) := Array.getElem?_eq_getElem hm;refine nxt_ref st.1 st.2.2 (p := qs[i]) (u := 0) (by rw [hq,List.getElem?_toArray,List.getElem?_map,hx];rfl) st.2.1 hd hf he fun h' sb X'=>?_
  exact hQ _ h' s.toks ⟨_,_,hx,he⟩ ⟨X',sb.extBut a o hne st.2.1,st.2.2.extBut sb.extBut hnt⟩ fun b o' hb e=>sb.extBut b o' (fun h=>hb (by simp [h])) e
 done := fun s Q E st hQ=>by
  have hz : qs.length = es.size := by rw [hp.length_eq,List.length_range]
  refine nxt_ref_end hh st.1 st.2.2 (by rw [hq,List.getElem?_toArray,List.getElem?_map,List.getElem?_eq_none (by rw [hz];exact Nat.le_refl _)];rfl) st.2.1 hd hf fun h' kp=>hQ h' s.toks fun b o' hb e=>kp b o' (fun h=>hb (by simp [h])) e
 self := fun _ _ _ _ st hQ=>sit_self st.1 hQ
theorem below_one {p j : Nat} : SetTable.below #[p] j = if p < j then 1 else 0 := by
 show SetTable.below.go #[p] j 1 0 1 = _;unfold SetTable.below.go;rw [if_pos (by decide)]
 show (if (#[p].getD 0 j) < j then SetTable.below.go #[p] j 0 1 1 else SetTable.below.go #[p] j 0 0 0) = _;rfl
theorem walk_s (hh : A.handled = none) (hne : a ≠ I) (hd : o.data = .set es ep t) (hf : t.fits es.size = true) (bt : byText w = false) (hl : t.led = true) (h1 : es.size <= 1) : Walks prog w A I [I,a] [I] es.size (fun i v=>(es.map (·.2))[i]? = some v) (fun i h=>SIt h I a (.int ((if i = 0 then 0 else t.place.getD 0 0 + 1 : Nat) : Int) 0) i es.size ep /\ h.get? a = some o) where
 sub := fun b hb=>by simp at hb;simp [hb]
 frame := fun _ _ _ st hk=>⟨st.1.at fun o e=>hk I (by simp) o e,hk a (by simp) o st.2⟩
 item := fun i s Q E hi st hQ=>by
  have i0 : i = 0 := by omega
  subst i0;have hz : t.place.size = es.size := by unfold SetTable.fits at hf;rw [Bool.and_eq_true,beq_iff_eq] at hf;exact hf.1
  have e1 : es.size = 1 := by omega
  obtain ⟨p,hp⟩ : ∃ p,t.place = #[p] := ⟨t.place[0]'(by omega),by apply Array.ext <;> simp [hz,e1];intro k hk;subst hk;rfl⟩
  obtain ⟨⟨hx,x⟩,hes⟩ : ∃ e,es = #[e] := ⟨es[0]'(by omega),by apply Array.ext <;> simp [e1];intro k hk;subst hk;rfl⟩
  subst hes;refine nxt_int (k := 0) (k' := p + 1) st.1 st.2 hd hf (x := x) (fun {A' E' Q'} q=>?_) fun h' sb X'=>?_
  . unfold setNext;refine wpAny_bind (wpAny_setState_of st.2 hd hf (wpAny_bind (byText_ok ?_)));simp only [bt,↓reduceIte,Bool.false_eq_true];split
    . rename_i hc;have hc : (!t.plain && decide (#[(hx,x)].size > 1)) = true := hc;simp at hc
    . show wpAny _ _ ((if (!t.led && !(#[(hx,x)].isEmpty)) = true then _ else _) >>= _) _ _ _;rw [hl];refine wpAny_bind (wpAny_pure ?_);rw [hp,below_one];exact wpAny_pure q
  . exact hQ _ h' s.toks (by simp) ⟨by simpa [hp] using X',sb.extBut a o hne st.2⟩ fun b o' hb e=>sb.extBut b o' (fun h=>hb (by simp [h])) e
 done := fun s Q E st hQ=>by
  have hz : t.place.size = es.size := by unfold SetTable.fits at hf;rw [Bool.and_eq_true,beq_iff_eq] at hf;exact hf.1
  refine nxt_int_end hh st.1 st.2 hd hf (fun {A' E' Q'} q=>?_) fun h' kp=>hQ h' s.toks fun b o' hb e=>kp b o' (fun h=>hb (by simp [h])) e
  unfold setNext;refine wpAny_bind (wpAny_setState_of st.2 hd hf (wpAny_bind (byText_ok ?_)));simp only [bt,↓reduceIte,Bool.false_eq_true];split
  . rename_i hc;have hc : (!t.plain && decide (es.size > 1)) = true := hc;simp at hc;omega
  . show wpAny _ _ ((if (!t.led && !(es.isEmpty)) = true then _ else _) >>= _) _ _ _;rw [hl];refine wpAny_bind (wpAny_pure ?_);have hnone : es[SetTable.below t.place (if es.size = 0 then 0 else t.place.getD 0 0 + 1)]? = none := by
      refine Array.getElem?_eq_none ?_;by_cases e0 : es.size = 0
      . rw [e0];exact Nat.zero_le _
      . have e1 : es.size = 1 := by omega
        obtain ⟨p,hp⟩ : ∃ p,t.place = #[p] := ⟨t.place[0]'(by omega),by apply Array.ext <;> simp [hz,e1];intro k hk;subst hk;rfl⟩
        rw [if_neg e0,hp,below_one];simp [e1]
    rw [hnone];exact wpAny_pure q
 self := fun _ _ _ _ st hQ=>sit_self st.1 hQ
theorem walks_mono {I : Addr} {fp wr : List Addr} {n n' : Nat} {P P' : Nat -> Value -> Prop} {St : Nat -> Heap -> Prop} (W : Walks prog w A I fp wr n P St) (e : n = n') (h : ∀ i v,P i v -> P' i v) : Walks prog w A I fp wr n' P' St := by subst e;exact ⟨W.sub,W.frame,fun i s Q E hi st hQ=>W.item i s Q E hi st fun v h' tk p=>hQ v h' tk (h i v p),W.done,W.self⟩
theorem strs_ent : ∀ {xs : List Str} {l : List (Int × Value)},Ent w xs l -> StrsAre (l.map (·.2)) xs
 | [],l,h=>by have h : l = [] := h;subst h;exact .nil
 | x :: xs,l,h=>by obtain ⟨t,r,rfl,hr⟩ := h;exact .cons x t (strs_ent hr)
theorem iter_x {xs : List Str} {Q : VSP} (hh : A.handled = none) (X : SetX w s.heap a xs) (q : ∀ (I : Addr) (h' : Heap) d (fp : List Addr) (items : List Value) (ys : List Str) (St : Nat -> Heap -> Prop),Walks prog w A I fp [I] items.length (fun i v=>items[i]? = some v) St -> St 0 h' -> StrsAre items ys -> ys.Perm xs -> (∀ b o,s.heap.get? b = some o -> h'.get? b = some o) -> s.heap.objs.size <= I -> (∀ b ∈ fp,b = a \/ s.heap.objs.size <= b) -> Q (.ref I) { s with heap := h',drawn := d }) : wpAny (model prog w) A (pyIter (.ref a)) Q E s := by
 obtain ⟨o,es,ep,t,ho,hex,hd,he,hn,hb,hf,hl,hp⟩ := id X;have la := X.there;have hz : es.size = xs.length := by rw [<- Array.length_toList];exact he.length
 refine wpAny_pyIter_slot X.ty PySem.F.slot_set_iter (wpAny_call_entry PySem.F.slot_set_iter X.ty ent_iter ?_ (PySem.F.args_set_iter_1 _));unfold Builtin.«frozenset.__iter__»;refine wpAny_bind (m := Builtin.Frozenset.slot0 _ _) (wpAny_pure (wpAny_bind ?_));unfold Builtin.Frozenset.sizeOf;refine wpAny_bind (wpAny_setEntries_of ho hd hf (wpAny_pure (wpAny_bind ?_)));unfold setDrawn;refine wpAny_bind (wpAny_setState_of ho hd hf (wpAny_bind (byText_ok (wpAny_pure ?_))));dsimp only;have sz : es.size <= sizeLine := by rw [hz];exact fits_of_scanBound hb
 split
 . rename_i hc;refine wpAny_bind (draw_x (by simp) fun d l' pl=>wpAny_bind (wpAny_newTuple ?_ (by rw [List.length_map,pl.length_eq,List.length_range];exact sz)))
   have ho1 := Heap.get?_push_of_some (seqObj "tuple" (l'.map fun (i : Nat)=>rawInt i).toArray 0) ho;refine wpAny_bind (wpAny_setEpoch_of (s := { s with heap := s.heap.push (seqObj "tuple" (l'.map fun (i : Nat)=>rawInt i).toArray 0),drawn := d }) ho1 hd hf (wpAny_bind (wpAny_newObj_type (wpAny_pure ⟨_,rfl, "set_iterator", _,⟨_,Heap.get?_push_size _ rfl,rfl⟩,slot_nxt.lookup,?_⟩))))
   have ls : (s.heap.push (seqObj "tuple" (l'.map fun (i : Nat)=>rawInt i).toArray 0)).objs.size = s.heap.objs.size + 1 := size_push' _ _;have pe : (l'.map fun p=>es.getD p (0,.none)).Perm es.toList := by
    refine (pl.map _).trans (.of_eq ?_);apply List.ext_getElem
    . simp
    . intro k k1 k2;simp at k1 ⊢;rw [Array.getElem?_eq_getElem k1];rfl
   obtain ⟨ys,py,ey⟩ := he.perm pe;have W := walk_d (prog := prog) (w := w) (A := A) (I := (s.heap.push (seqObj "tuple" (l'.map fun (i : Nat)=>rawInt i).toArray 0)).objs.size) (tp := s.heap.objs.size) hh (by rw [ls];exact Nat.ne_of_lt (Nat.lt_succ_of_lt la)) (by rw [ls];exact Nat.ne_of_lt (Nat.lt_succ_self _)) hd hf rfl pl
   refine q _ _ d _ ((l'.map fun p=>es.getD p (0,.none)).map (·.2)) ys _ (walks_mono W (by simp [pl.length_eq]) fun i v hv=>?_) ⟨⟨_,Heap.get?_push_size _ rfl,rfl,rfl⟩,hps ho1,⟨_,hps (Heap.get?_push_size _ rfl),rfl,_,rfl⟩⟩ (strs_ent ey) py
    (fun b o' e=>hps (hps e)) (by rw [ls];exact Nat.le_succ _) fun b hb=>?_
   . obtain ⟨p,hx,e1,e2⟩ := hv;rw [List.getElem?_map,List.getElem?_map,e1];simp [Array.getD_eq_getD_getElem?,e2]
   . simp only [List.mem_cons,List.not_mem_nil,or_false] at hb;rcases hb with rfl | rfl | rfl
     . right;rw [ls];exact Nat.le_succ _
     . left;rfl
     . right;exact Nat.le_refl _
 . rename_i hc;refine wpAny_bind (wpAny_pure (wpAny_bind (wpAny_setEpoch_of ho hd hf (wpAny_bind (wpAny_newObj_type (wpAny_pure ⟨_,rfl, "set_iterator", _,⟨_,Heap.get?_push_size _ rfl,rfl⟩,slot_nxt.lookup,?_⟩))))));have fpx : ∀ b ∈ [s.heap.objs.size,a],b = a \/ s.heap.objs.size <= b := fun b hb=>by
     simp only [List.mem_cons,List.not_mem_nil,or_false] at hb;rcases hb with rfl | rfl
     . right;exact Nat.le_refl _
     . left;rfl
   cases bt : byText w with
   | true =>
    obtain ⟨ys,py,ey⟩ := he.perm (pick_perm (next := w.params.setOrder a ep) (xs := es));have W := walk_t (prog := prog) (w := w) (A := A) (I := s.heap.objs.size) hh (Nat.ne_of_lt la) hd hf bt;refine q _ _ s.drawn _ ((pickOrder (w.params.setOrder a ep) es).toList.map (·.2)) ys _ (walks_mono W (by rw [List.length_map,pick_perm.length_eq,Array.length_toList]) fun i v hv=>?_) ⟨⟨_,Heap.get?_push_size _ rfl,rfl,rfl⟩,hps ho⟩ (strs_ent ey) py (fun b o' e=>hps e) (Nat.le_refl _) fpx
    rw [<- hv];simp
   | false =>
    have h1 : es.size <= 1 := by
     have hc : ¬ (!byText w && (!t.plain && decide (es.size > 1))) = true := hc;rw [bt] at hc;rcases hp with rfl | hp
     . rw [hz];exact Nat.zero_le _
     . rw [hp] at hc;simp at hc;omega
    have W := walk_s (prog := prog) (w := w) (A := A) (I := s.heap.objs.size) hh (Nat.ne_of_lt la) hd hf bt (by rw [hl,bt];rfl) h1
    refine q _ _ s.drawn _ (es.toList.map (·.2)) xs _ (walks_mono W (by simp) fun i v hv=>?_) ⟨⟨_,Heap.get?_push_size _ rfl,rfl,rfl⟩,hps ho⟩ (strs_ent he) (.refl _) (fun b o' e=>hps e) (Nat.le_refl _) fpx
    rw [<- hv];simp
end
section
variable {prog : Program} {w : World} {A : Around} {E : VSP} {s : Shared} {a : Addr} {xs : List Str}
theorem hint_x {Q : Bool -> Shared -> Prop} (ty : s.TypeIs (.ref a) "set") (q : Q false s) : wpAny (model prog w) A (Builtin.List.listLengthHint (.ref a)) Q E s := by
 unfold Builtin.List.listLengthHint;refine wpAny_bind (wpAny_specialOf ty PySem.F.slot_set_len.lookup ?_);generalize hi : ("set.__len__" : String) = j
 wp_delta
 rw [show splitId j = some ("set", "__len__") from by subst hi;decide +kernel]
 subst hi;refine wpAny_bind (wpAny_isInstance ty sub_set_self ?_);refine wpAny_ite_split (fun x=>absurd x (by decide)) (fun _=>wpAny_ite_split (fun _=>?_) (fun x=>absurd (by decide +kernel) x))
 exact wpAny_bind (wpAny_typeOf ty (wpAny_pure q))
theorem items_of {items : List Value} {acc : Array Value} (h : ItemsOf (fun i v=>items[i]? = some v) acc items.length) : acc.toList = items := by
 apply List.ext_getElem?;intro j;by_cases hj : j < items.length
 . have e1 : acc[j]? = some (acc[j]'(by rw [h.1];exact hj)) := Array.getElem?_eq_getElem _
   rw [Array.getElem?_toList,e1];exact (h.2 j _ e1).symm
 . have z1 : acc.toList.length = items.length := by rw [Array.length_toList];exact h.1
   rw [List.getElem?_eq_none (l := acc.toList) (by omega),List.getElem?_eq_none (l := items) (by omega)]
theorem ext_x {R : Result -> Shared -> Prop} (hh : A.handled = none) (X : SetX w s.heap a xs) (S : Addr) (hSa : S ≠ a) (res : Value) (hS : s.heap.get? S = some { cls := .type "list", data := .seq #[] }) (hR : ∀ h' d tk vs ys c,(∀ b o,b ≠ S -> s.heap.get? b = some o -> h'.get? b = some o) -> h'.get? S = some { cls := .type "list", dict := none,data := .seq vs c,slots := #[] } -> StrsAre vs.toList ys -> ys.Perm xs -> R (.ok (.ret res)) { s with heap := h',drawn := d,toks := tk }) : wpAny (model prog w) A.in1 (Builtin.List.listExtendWith (.ref S) (.ref a) res) (fun fin s'=>match fin with | .done f=>R (.ok f) s' | .again c'=>c'.quiet = true /\ codeAny (model prog w) A c' R s') (fun e s'=>R (.error e) s') s := by
 have hb : xs.length <= sizeLine := by obtain ⟨o,es,ep,t,ho,hex,hd,he,hn,hb,r⟩ := X;exact fits_of_scanBound hb
 unfold Builtin.List.listExtendWith;refine wpAny_bind (wpAny_typeOf X.ty ?_);have n1 : Builtin.List.listSameRef (.ref S) (.ref a) = false := by simp [Builtin.List.listSameRef,hSa]
 have n2 : (Value.type "set" == Value.type "list") = false := by decide
 have n3 : (Value.type "set" == Value.type "tuple") = false := by decide
 simp only [n1,n2,n3,Bool.or_false,Bool.false_eq_true,↓reduceIte];refine wpAny_bind (iter_x (A := A.in1) hh X fun I h1 d fp items ys St W st sa py kp hI hfp=>?_);have lS : S < s.heap.objs.size := Heap.lt_size hS;have hSf : S ∉ fp := fun hm=>(hfp S hm).elim hSa fun h=>absurd lS (Nat.not_lt.mpr h);have hSI : S ≠ I := fun e=>absurd lS (Nat.not_lt.mpr (e ▸ hI));have hil : items.length <= sizeLine := by rw [sa.length,py.length_eq];exact hb
 have hS1 := kp S _ hS; have key : ∀ (h : Heap) (c : Nat), St 0 h → (∀ b o, b ≠ S → s.heap.get? b = some o → h.get? b = some o) → h.get? S = some { cls := .type "list", data := .seq #[] c } →
     codeAny (model prog w) A (.builtin "list.extend.loop" ⟨[.ref S,.ref I,res],[]⟩) R { s with heap := h,drawn := d } := by
  intro h c st' k' hS';refine codeAny_extend_loopS W.toS hil S hSf res items.length 0 _ #[] c rfl (Nat.zero_le _) st' hS' (ItemsOf.nil _) fun s' acc c' hm hS2 hacc=>?_;rw [Moved.eq_with hm];refine hR s'.heap d s'.toks acc ys c' (fun b o nb e=>hm.heap b o (fun hx=>?_) (k' b o nb e)) hS2 (by rw [items_of hacc];exact sa) py
  rcases List.mem_cons.mp hx with e' | hx
  . exact nb e'
  . exact absurd (Heap.lt_size e) (by rw [List.mem_singleton.mp hx];exact Nat.not_lt.mpr hI)
 refine wpAny_bind (wpAny_holding (hint_x (s := { s with heap := h1,drawn := d }) (SetX.ty (s := { s with heap := h1,drawn := d }) (X.kept fun o e=>kp a o e)) ?_))
 refine wpAny_ite_split (fun _=>?_) (fun _=>wpAny_pure ⟨plainId_quiet PySem.F.plain_extend_loop _,key h1 0 st (fun b o _ e=>kp b o e) hS1⟩);refine wpAny_bind (wpAny_rule (wpAny_bind ?_));show wpAny _ _ (updateSeq S (·.push Value.none) >>= fun _=>updateSeq S (·.pop)) _ _ { s with heap := h1,drawn := d }
 refine wpAny_bind (wpAny_updateSeq (s := { s with heap := h1,drawn := d }) hS1 rfl ?_)
 have hS2 := Heap.get?_update_self (Obj.mapSeq (·.push Value.none)) hS1 rfl;refine wpAny_updateSeq (hz := by seq_fits) hS2 rfl ?_
 have hS3 := Heap.get?_update_self (Obj.mapSeq (·.pop)) hS2 rfl;have oth : ∀ b,b ≠ S -> ∀ o,h1.get? b = some o -> ((h1.update S (Obj.mapSeq (·.push Value.none))).update S (Obj.mapSeq (·.pop))).get? b = some o := fun b nb o e =>
  (Heap.get?_update_other _ _ (Ne.symm nb)).trans ((Heap.get?_update_other _ _ (Ne.symm nb)).trans e)
 exact wpAny_pure ⟨plainId_quiet PySem.F.plain_extend_loop _,key _ _ (W.frame 0 _ _ st fun b hb o e=>oth b (fun h=>hSf (h ▸ hb)) o e) (fun b o nb e=>oth b nb o (kp b o e)) hS3⟩
theorem collect_x {R : List Value -> Shared -> Prop} (hh : A.handled = none) (X : SetX w s.heap a xs) (h : ∀ h' d tk vs ys,(∀ b o,s.heap.get? b = some o -> h'.get? b = some o) -> s.heap.objs.size < h'.objs.size -> StrsAre vs ys -> ys.Perm xs -> R vs { s with heap := h',drawn := d,toks := tk }) : wpAny (model prog w) A (collect (.ref a)) R E s := by
 have la := X.there;unfold collect;refine wpAny_bind (wpAny_runValue (codeAny_builtin PySem.F.entry_proto_collect ?_));rw [Around.under_plainId PySem.F.plain_proto_collect _];show wpAny (model prog w) A.in1 (newList [] >>= fun l=>again (.builtin "list.__iadd__" ⟨[l,.ref a],[]⟩)) _ _ s;refine wpAny_bind (wpAny_newObj_type (wpAny_pure ⟨plainId_quiet PySem.F.plain_list_iadd _,codeAny_builtin PySem.F.entry_list_iadd ?_⟩));rw [Around.under_plainId PySem.F.plain_list_iadd _];have g0 : (s.heap.push { cls := .type "list", data := .seq ([] : List Value).toArray }).get? s.heap.objs.size = some { cls := .type "list", data := .seq #[] } := Heap.get?_push_size _ rfl;show wpAny (model prog w) A.in1 (Builtin.List.listExtendWith (.ref s.heap.objs.size) (.ref a) (.ref s.heap.objs.size)) _ _ _;have key := ext_x (A := A) (prog := prog) (s := { s with heap := s.heap.push { cls := .type "list", data := .seq ([] : List Value).toArray } })
  (R := fun q s'=>∃ h' d tk vs ys c,q = .ok (.ret (.ref s.heap.objs.size)) /\ s' = { s with heap := h',drawn := d,toks := tk } /\ (∀ b o,s.heap.get? b = some o -> h'.get? b = some o) /\ h'.get? s.heap.objs.size = some { cls := .type "list", dict := none,data := .seq vs c,slots := #[] } /\ StrsAre vs.toList ys /\ ys.Perm xs)
  hh (X.kept fun o e=>hps e) s.heap.objs.size (Nat.ne_of_gt la) (.ref s.heap.objs.size) g0
  fun h' d tk vs ys c kp gS sa py=>⟨h',d,tk,vs,ys,c,rfl,rfl,fun b o e=>kp b o (Nat.ne_of_lt (Heap.lt_size e)) (hps e),gS,sa,py⟩
 refine wpAny_mono key (fun f s' x=>?_) fun e s' x=>?_
 . cases f with
   | done f=>obtain ⟨h',d,tk,vs,ys,c,e,rfl,kp,gS,sa,py⟩ := x;cases e;show wpAny _ A (load s.heap.objs.size >>= _) _ _ _;exact wpAny_bind (wpAny_load gS (wpAny_pure (h h' d tk vs.toList ys kp (Heap.lt_size gS) sa py)))
   | again c1=>refine ⟨x.1,codeAny_mono x.2 fun q s2 y=>?_⟩;obtain ⟨h',d,tk,vs,ys,c,rfl,rfl,kp,gS,sa,py⟩ := y;show wpAny _ A (load s.heap.objs.size >>= _) _ _ _;exact wpAny_bind (wpAny_load gS (wpAny_pure (h h' d tk vs.toList ys kp (Heap.lt_size gS) sa py)))
 . obtain ⟨_,_,_,_,_,_,e',_⟩ := x;cases e'
theorem sorted_x {Q : VSP} (hh : A.handled = none) (X : SetX w s.heap a xs) (h64 : xs.length < 64) (h : ∀ h' d tk D out e ys,(∀ b o,s.heap.get? b = some o -> h'.get? b = some o) -> s.heap.objs.size <= D -> h'.get? D = some (seqObj "list" out e) -> StrsAre out.toList ys -> ys.Perm xs -> PyProof.Rows.sortedS ys = true -> Q (.ref D) { s with heap := h',drawn := d,toks := tk }) : wpAny (model prog w) A (call (.builtin "sorted") [.ref a]) Q E s := by
 refine Calls.call_function_entry kind_sorted plain_sorted entry_sorted (args_sorted1 (.ref a)) ?_;unfold Builtin.«sorted»;refine wpAny_bind (m := checkCount "sorted" 1 1 [Value.ref a].length) (wpAny_pure (wpAny_bind (collect_x (A := A.in1) hh X fun h1 d tk vs ys kp lh sa py=>?_)));have lv : vs.length = xs.length := by rw [sa.length,py.length_eq]
 refine wpAny_bind (wpAny_newList ?_ (by rw [lv,sizeLine_eq];omega))
 have g1 : (h1.push (seqObj "list" vs.toArray 0)).get? h1.objs.size = some (seqObj "list" vs.toArray 0) := Heap.get?_push_size _ rfl;have k1 : ∀ b o,s.heap.get? b = some o -> b < h1.objs.size := fun b o e=>Heap.lt_size (kp b o e);refine wpAny_bind (wpAny_holding (wpAny_call_entry slot_list_sort ⟨_,g1,rfl⟩ entry_list_sort (list_sort_treeK strKind_oneLt (s := { s with heap := h1.push (seqObj "list" vs.toArray 0),drawn := d,toks := tk }) g1 sa.keysOf (fun v1 v2 r e=>keyKind_strs (by rw [<- e];exact sa)) (by rw [lv];exact h64) fun st' p1 p2=>⟨_,rfl,?_⟩) (args_list_sort _)))
 obtain ⟨zs,z1,z2,z3⟩ := sorted_out_str sa p1 p2;obtain ⟨e,he⟩ := sortedHeap_at (out := (arrOf st').map (·.2)) g1;refine wpAny_pure ⟨_,rfl,h _ d tk _ _ e zs (fun b o hb=>?_) (Nat.le_of_lt lh) he z1 (z2.trans py) z3⟩;have lb := k1 b o hb;rw [sortedHeap_old (Nat.ne_of_lt lb) (by rw [size_push'];exact Nat.lt_succ_of_lt lb)]
 exact hps (kp b o hb)
end
def lts (x y : Str) : Bool := ltCps x.cps.toList y.cps.toList
theorem lts_iff {x y : Str} : lts x y = true ↔ x.cps.toList < y.cps.toList := by unfold lts;rw [ltCps_eq,decide_eq_true_eq]
theorem lts_irr (x : Str) : lts x x = false := by
 cases h : lts x x with
 | false=>rfl
 | true=>exact absurd (lts_iff.mp h) (List.lt_irrefl _)
theorem lts_trans {x y z : Str} (a : lts x y = true) (b : lts y z = true) : lts x z = true := lts_iff.mpr (List.lt_trans (lts_iff.mp a) (lts_iff.mp b))
theorem lts_tri {x y : Str} (a : lts x y = false) (b : lts y x = false) : x = y := by
 have h1 : ¬ x.cps.toList < y.cps.toList := fun h=>by rw [lts_iff.mpr h] at a;cases a
 have h2 : ¬ y.cps.toList < x.cps.toList := fun h=>by rw [lts_iff.mpr h] at b;cases b
 have e := List.le_antisymm (List.not_lt.mp h2) (List.not_lt.mp h1);cases x;cases y;exact congrArg Str.mk (Array.ext' e)
def Strict (l : List Str) : Prop := l.Pairwise fun x y=>lts x y = true
theorem rising_all : ∀ {l : List Str} {p : Str},risingS p l = true -> ∀ x ∈ l,lts x p = false
 | y :: l,p,h,x,hx=>by
  have h : (!lts y p && risingS y l) = true := h;rw [Bool.and_eq_true,Bool.not_eq_true'] at h;rcases List.mem_cons.mp hx with rfl | hx
  . exact h.1
  . have h2 := rising_all h.2 x hx;cases q : lts x p with
    | false=>rfl
    | true =>
     cases q2 : lts p y with
     | true=>rw [lts_trans q q2] at h2;cases h2
     | false=>have := lts_tri q2 h.1;subst this;rw [q] at h2;cases h2
theorem strict_of : ∀ {l : List Str},sortedS l = true -> l.Nodup -> Strict l
 | [],_,_=>.nil
 | x :: l,h,n=>by
  obtain ⟨n1,n2⟩ := List.nodup_cons.mp n;refine List.pairwise_cons.mpr ⟨fun y hy=>?_,strict_of ?_ n2⟩
  . have h1 := rising_all (show risingS x l = true from h) y hy
    cases q : lts x y with
    | true=>rfl
    | false=>exact absurd (lts_tri q h1 ▸ hy) n1
  . cases l with
    | nil=>rfl
    | cons y l=>have h : (!lts y x && risingS y l) = true := h;rw [Bool.and_eq_true] at h;exact h.2
theorem strict_ext : ∀ {l l' : List Str},Strict l -> Strict l' -> (∀ y,y ∈ l ↔ y ∈ l') -> l = l'
 | [],[],_,_,_=>rfl
 | [],x :: l',_,_,h=>absurd ((h x).mpr mcs) (by simp)
 | x :: l,[],_,_,h=>absurd ((h x).mp mcs) (by simp)
 | x :: l,y :: l',s,s',h=>by
  obtain ⟨s1,s2⟩ := List.pairwise_cons.mp s;obtain ⟨t1,t2⟩ := List.pairwise_cons.mp s';have e : x = y := by
   rcases List.mem_cons.mp ((h x).mp mcs) with e | hx
   . exact e
   . rcases List.mem_cons.mp ((h y).mpr mcs) with e | hy
     . exact e.symm
     . have := lts_trans (t1 x hx) (s1 y hy);rw [lts_irr] at this;cases this
  subst e;rw [strict_ext s2 t2 fun z=>?_];constructor
  . intro hz;rcases List.mem_cons.mp ((h z).mp (mcm hz)) with e | h'
    . subst e;have := s1 z hz;rw [lts_irr] at this;cases this
    . exact h'
  . intro hz;rcases List.mem_cons.mp ((h z).mpr (mcm hz)) with e | h'
    . subst e;have := t1 z hz;rw [lts_irr] at this;cases this
    . exact h'
def insU (x : Str) : List Str -> List Str
 | []=>[x]
 | y :: l=>if x = y then y :: l else if lts x y = true then x :: y :: l else y :: insU x l
theorem mem_insU {x z : Str} : ∀ {l : List Str},z ∈ insU x l ↔ z = x \/ z ∈ l
 | []=>by simp [insU]
 | y :: l=>by
  unfold insU;split
  . rename_i e;subst e;simp
  . split
    . simp
    . rw [List.mem_cons,mem_insU,List.mem_cons];exact ⟨fun h=>h.elim (fun e=>.inr (.inl e)) fun h=>h.imp id .inr,fun h=>h.elim (fun e=>.inr (.inl e)) fun h=>h.imp id .inr⟩
theorem strict_ins {x : Str} : ∀ {l : List Str},Strict l -> Strict (insU x l)
 | [],_=>List.pairwise_singleton _ _
 | y :: l,s=>by
  obtain ⟨s1,s2⟩ := List.pairwise_cons.mp s;unfold insU;split
  . exact s
  . rename_i ne;split
    . rename_i lt;exact List.pairwise_cons.mpr ⟨fun z hz=>(List.mem_cons.mp hz).elim (fun e=>e ▸ lt) fun h=>lts_trans lt (s1 z h),s⟩
    . rename_i nl;refine List.pairwise_cons.mpr ⟨fun z hz=>?_,strict_ins s2⟩;rcases mem_insU.mp hz with rfl | hz
      . cases q : lts y z with
        | true=>rfl
        | false=>exact absurd (lts_tri (by simpa using nl) q) ne
      . exact s1 z hz
def uni (l : List Str) : List Str := l.foldr insU []
theorem uni_mem {z : Str} : ∀ {l : List Str},z ∈ uni l ↔ z ∈ l
 | []=>by simp [uni]
 | x :: l=>by show z ∈ insU x (uni l) ↔ _;rw [mem_insU,uni_mem,List.mem_cons]
theorem uni_strict : ∀ (l : List Str),Strict (uni l)
 | []=>.nil
 | x :: l=>strict_ins (uni_strict l)
def sx (w : World) (l : Addr) (ys : List Str) : HO := .ext fun h=>SetX w h l ys
theorem sx_ok {P : Program} {w : World} {H : Hp} {h : Heap} {l : Addr} {ys : List Str} (x : SetX w h l ys) : ObjOk P w H h l (sx w l ys) := by
 refine ⟨x,?_,fun h1 h2 x1 k=>SetX.kept (show SetX w h1 l ys from x1) k⟩
 obtain ⟨o,es,ep,t,ho,r⟩ := x;exact ⟨o,ho⟩
theorem SetX.nodup {w : World} {h : Heap} {a : Addr} {xs : List Str} (x : SetX w h a xs) : xs.Nodup := by obtain ⟨o,es,ep,t,ho,hex,hd,he,hn,r⟩ := x;exact hn
theorem vals_strs : ∀ {ys : List Str} {us : List Value},StrsAre us ys -> Vals (ys.map V.str) us
 | [],_,.nil=>.nil
 | _ :: ys,_,.cons y t h=>.cons ⟨t,rfl⟩ (vals_strs h)
section
variable {X : Cx}
theorem Inv.drew {pins : LAO} {σ : L2.St} {H : Hp} {s : Shared} (I : L2.Inv X pins σ H s) (d : Drawn) : L2.Inv X pins σ H { s with drawn := d } :=
 ⟨I.ok,I.os,I.bare,I.base,I.loc,I.cell,I.free,I.freeC,I.pin,I.hok,I.len⟩
def rSrt (X : Cx) : List V -> Hp -> VK -> Prop := fun xs H Q=>∃ (a : Addr) (zs : List Str),xs = [.ref a] /\ H a = some (sx X.w a zs) /\ zs.Nodup /\ zs.length < 64 /\ ∀ l,H l = none -> Q (.ref l) (upd H l (.lst ((uni zs).map V.str)))
theorem call_srtR (hc : X.calm = true) : CallR X (.builtin "sorted") (rSrt X) := by
 intro pins s σ H xs us Q I r h;obtain ⟨a,zs,rfl,ha,hn,hz,q⟩ := h;obtain ⟨u,rfl,rx⟩ := vals1 r;cases rx;have xa : SetX X.w s.heap a zs := (I.hok a _ ha).1;refine sorted_x (I.ok.hd hc) xa hz fun h' d tk D out e ys kp hD g sa py so=>?_;have e1 : uni zs = ys := strict_ext (uni_strict zs) (strict_of so (py.symm.nodup hn)) fun y=>by rw [uni_mem,py.mem_iff]
 have rv : Vals (ys.map V.str) out.toList := vals_strs sa;have le : ((uni zs).map V.str).length <= sizeLine := by rw [List.length_map,e1,py.length_eq,sizeLine_eq];omega
 exact ⟨.ref D,_,Inv.drew (I.laid (t' := tk) kp hD (show ObjOk X.prog X.w _ h' D (.lst ((uni zs).map V.str)) from ⟨le,out.toList,e,by rw [e1];exact rv,by simpa using g⟩)) d,rfl,q D (I.hok.fresh hD)⟩
end
theorem bb_sorted : bootBuiltins "sorted" = some (.builtin "sorted") := by decide +kernel
def txD : List D -> Option (List Str)
 | []=>some []
 | .str x :: ds=>(txD ds).map (x :: ·)
 | _ :: _=>none
def txT : D -> Option (List Str)
 | .tup ds=>txD ds
 | _=>none
theorem txD_rep {K : Fg} {F : Hp} : ∀ {ds : List D} {xs : List V} {ns : List Str},txD ds = some ns -> RepL K F ds xs -> xs = ns.map V.str /\ ∀ x ∈ ns,x.length <= sizeLine /\ PyData.strOk x = true
 | [],xs,ns,e,r=>by cases e;simp only [RepL] at r;subst r;exact ⟨rfl,fun x hx=>by cases hx⟩
 | d :: ds,xs,ns,e,r=>by
  cases d with
  | str x =>
   simp only [txD] at e;cases q : txD ds with
   | none=>rw [q] at e;cases e
   | some ms=>rw [q] at e;cases e;simp only [RepL] at r;obtain ⟨v,vs,rfl,rv,rr⟩ := r;obtain ⟨rfl,h2⟩ := txD_rep q rr;simp only [RepV] at rv;obtain ⟨rfl,h1⟩ := rv;exact ⟨rfl,fun y hy=>(List.mem_cons.mp hy).elim (fun e=>by subst e;exact h1) (h2 y)⟩
  | _=>cases e
theorem repL_strs {K : Fg} {F : Hp} : ∀ {ns : List Str},(∀ x ∈ ns,x.length <= sizeLine /\ PyData.strOk x = true) -> RepL K F (ns.map .str) (ns.map V.str)
 | [],_=>by simp [RepL]
 | x :: ns,h=>by simp only [List.map_cons,RepL,RepV];exact ⟨_,_,rfl,⟨rfl,h x mcs⟩,repL_strs fun y hy=>h y (mcm hy)⟩
theorem len_le : ∀ {ys ns : List Str},ys.Nodup -> (∀ y ∈ ys,y ∈ ns) -> ys.length <= ns.length
 | [],ns,_,_=>Nat.zero_le _
 | y :: ys,ns,n,h=>by
  obtain ⟨n1,n2⟩ := List.nodup_cons.mp n;have hy := h y mcs;have := len_le (ns := ns.erase y) n2 fun z hz=>(List.mem_erase_of_ne (fun e : z = y=>n1 (by rw [<- e];exact hz))).mpr (h z (mcm hz))
  rw [List.length_erase_of_mem hy] at this;have : 0 < ns.length := List.length_pos_of_mem hy;rw [List.length_cons];omega
section
variable {C : Cw} {X : Cx} {ga gb : Rho -> Res} {ea eb : Expr}
theorem rp_strs {K : Fg} {F H : Hp} {m : Md} {d : D} {v : V} {ns : List Str} (s : Same F H) (r : Rp K F H m d v) (e : txT d = some ns) : (∃ a,v = .ref a /\ SqT K H a (ns.map V.str)) /\ ∀ x ∈ ns,x.length <= sizeLine /\ PyData.strOk x = true := by
 cases d with
 | tup ds=>obtain ⟨a,xs,rfl,h1,h2⟩ := rp_tupF r;obtain ⟨rfl,h3⟩ := txD_rep e h2;exact ⟨⟨a,rfl,Same.seqT s h1⟩,h3⟩
 | _=>cases e
end
theorem bb_sum : bootBuiltins "sum" = some (.builtin "sum") := by decide +kernel
theorem vals_int_at : ∀ {ns : List Int} {its : List Value} {i : Nat} {v : Value},Vals (ns.map V.int) its -> its[i]? = some v -> ∃ t,v = .int (ns.getD i 0) t
 | [],_,i,v,h,e=>by cases h;simp at e
 | n :: ns,_,0,v,h,e=>by
  cases h with
  | cons r t=>obtain ⟨tk,rfl⟩ := r;cases e;exact ⟨tk,rfl⟩
 | n :: ns,_,i + 1,v,h,e=>by
  cases h with
  | cons r t=>obtain ⟨t',h'⟩ := vals_int_at (ns := ns) (i := i) t e;exact ⟨t',h'⟩
section
variable {C : Cw} {X : Cx} {ga gb : Rho -> Res} {ea eb : Expr} {p p1 p2 q q1 q2 pos : Pos}
def srtD : List (Md × D) -> Option (Md × D)
 | [(_,.lst ds)]=>match txD ds with
  | some ns=>if ns.Nodup /\ ns.length < 64 then some (.fr,.lst ((uni ns).map .str)) else none
  | none=>none
 | _=>none
theorem call_srtL : CallR X (.builtin "sorted") (fun xs H Q=>∃ (p : Addr) (ns : List Str),xs = [.ref p] /\ SqL X.K H p (ns.map V.str) /\ ns.Nodup /\ ns.length < 64 /\ ∀ l,H l = none -> Q (.ref l) (upd H l (.lst ((uni ns).map V.str)))) := by
 intro pins s σ H xs us Q I r h;obtain ⟨p,ns,rfl,hp,hn,hz,q⟩ := h;obtain ⟨u,rfl,rx⟩ := vals1 r;cases rx;obtain ⟨its,rv,pl,_⟩ := I.list hp;have sa := strsAre_of rv;have lz : its.length = ns.length := sa.length;refine sorted_strs pl.isList sa (by rw [lz];exact hz) fun out ys oa py so=>?_
 obtain ⟨e,he⟩ := sortedAll_at s.heap its out;have e1 : uni ns = ys := strict_ext (uni_strict ns) (strict_of so (py.symm.nodup hn)) fun y=>by rw [uni_mem,py.mem_iff]
 have le : ((uni ns).map V.str).length <= sizeLine := by rw [List.length_map,e1,py.length_eq,sizeLine_eq];omega
 exact ⟨.ref (s.heap.objs.size + 1),_,I.laid (t' := s.toks) (fun b o e=>sortedAll_old e) (Nat.le_succ _) (show ObjOk X.prog X.w _ _ _ (.lst ((uni ns).map V.str)) from ⟨le,out.toList,e,by rw [e1];exact vals_strs oa,by simpa using he⟩),rfl,q _ (I.hok.fresh (Nat.le_succ _))⟩
theorem calld_srt : CallD X (.builtin "sorted") srtD := by
 refine ⟨_,call_srtL,fun F H xs vs k d Q s rx e w=>?_⟩;unfold srtD at e;split at e
 . rename_i m ds;split at e
   . rename_i ns en;split at e
     . rename_i hc;cases e;obtain ⟨v,rfl,r⟩ := rx.one;obtain ⟨a,xs,rfl,q,rl⟩ := r.seqL s;obtain ⟨rfl,k1⟩ := txD_rep en rl;exact ⟨a,ns,rfl,q,hc.1,hc.2,fun l hl=>w (.ref l) F _ (Step.fresh _ s hl) ⟨l,rfl,s.free hl,_,upd_same,repL_strs fun x hx=>k1 x (uni_mem.mp hx)⟩ fun _ a ea=>by cases ea;exact hl⟩
     . cases e
   . cases e
 . cases e
def sumD : List (Md × D) -> Option (Md × D)
 | [(_,.lst [])]=>some (.fz,.int 0)
 | [(_,.lst [.int i])]=>some (.fz,.int i)
 | _=>none
theorem call_sumL (hc : X.calm = true) : CallR X (.builtin "sum") (fun xs H Q=>∃ (p : Addr) (ns : List Int),xs = [.ref p] /\ SqL X.K H p (ns.map V.int) /\ Q (.int (preSum (fun i=>ns.getD i 0) ns.length)) H) := by
 intro pins s σ H xs us Q I r h;obtain ⟨p,ns,rfl,hp,q⟩ := h;obtain ⟨u,rfl,rx⟩ := vals1 r;cases rx;obtain ⟨its,rv,pl,_⟩ := I.list hp;have hl := pl.isList;obtain ⟨ol,hol,hr⟩ := id hl;have lp : p < s.heap.objs.size := Heap.lt_size hol;have lz : its.length = ns.length := by have := rv.length;simpa using this.symm
 refine call_sum_walkG (wpAny_pyIter_list hl ⟨s.heap.objs.size,_,_,_,_,_,fun i=>ns.getD i 0,rfl,Walks.list (A := X.A.in1) (I.ok.hd hc) s.heap.objs.size p (Nat.ne_of_lt lp) its.toArray,⟨⟨_,Heap.get?_push_size _ rfl,rfl,rfl⟩,hl.push _⟩,fun b hb=>?_,fun i v hv=>?_,fun h' tk t' kp=>?_⟩)
 . simp only [List.mem_cons,List.not_mem_nil,or_false] at hb;show b < (s.heap.push _).objs.size;rw [size_push'];rcases hb with rfl | rfl
   . exact Nat.lt_succ_self _
   . exact Nat.lt_succ_of_lt lp
 . have hv : its[i]? = some v := by simpa using hv
   exact vals_int_at rv hv
 . have I1 : L2.Inv X pins σ H { s with heap := h',toks := tk } := I.kept fun b o e=>kp b o (by simp only [List.mem_cons,List.not_mem_nil,or_false];exact Nat.ne_of_lt (Heap.lt_size e)) (hps e)
   refine ⟨.int _,H,I1,⟨t',rfl⟩,?_⟩;simpa [lz] using q
theorem calld_sum (hc : X.calm = true) : CallD X (.builtin "sum") sumD := by
 refine ⟨_,call_sumL hc,fun F H xs vs k d Q s rx e w=>?_⟩;unfold sumD at e;split at e
 . cases e;obtain ⟨v,rfl,r⟩ := rx.one;obtain ⟨a,xs,rfl,q,rl⟩ := r.seqL s;simp only [RepL] at rl;subst rl;exact ⟨a,[],rfl,q,w (.int 0) F H (.refl s) (by show RepV X.K F (.int 0) (.int 0);simp only [RepV]) (by intro z;cases z)⟩
 . rename_i m i;cases e;obtain ⟨v,rfl,r⟩ := rx.one;obtain ⟨a,xs,rfl,q,rl⟩ := r.seqL s;simp only [RepL,RepV] at rl;obtain ⟨y,ys,rfl,rfl,rfl⟩ := rl;refine ⟨a,[i],rfl,q,w (.int _) F H (.refl s) (by show RepV X.K F (.int i) (.int _);simp [RepV,preSum]) (by intro z;cases z)⟩
 . cases e
end
section
variable {prog : Program} {w : World} {A : Around} {E : VSP} {s : Shared} {I l : Addr} {items : Array Value}
end
section
variable {C : Cw} {X : Cx} {ga : Rho -> Res} {ea : Expr} {p p1 q1 pos : Pos}
end
def joinT : Md -> D -> List (Md × D) -> Option (Md × D) := fun _ x xs=>match x,xs with
 | .str z,[(_,d)]=>(match txT d with
  | some ys=>if (ys.map (·.length)).sum + ys.length * z.length <= sizeLine then some (.fz,.str (Txt.join z ys)) else none
  | none=>none)
 | _,_=>none
theorem mtd_joinT {X : Cx} : MtD X "str.join" joinT := by
 refine ⟨fun v vs H Q=>∃ (z : Str) (a : Addr) (ys : List Str),v = .str z /\ vs = [.ref a] /\ SqT X.K H a (ys.map V.str) /\ (ys.map (·.length)).sum + ys.length * z.length <= sizeLine /\ Q (.str (Txt.join z ys)) H,?_,?_⟩
 . intro pins s σ H x xs v us Q I rx r h;obtain ⟨z,a,ys,rfl,rfl,hq,hl,q⟩ := h;obtain ⟨t,rfl⟩ := rx;obtain ⟨u,rfl,ru⟩ := vals1 r;cases (show u = Value.ref a from ru)
   obtain ⟨its,rv,p,hz⟩ := I.tuple hq;have hs : sizeLine = 16777216 := sizeLine_eq;exact join_tuple p (by simpa using strsAre_of rv) (by omega) fun t' k=>⟨.str (Txt.join z ys),H,I.tok _,⟨_,rfl⟩,q⟩
 . intro F H m x xs v vs k d Q s rx rl e w;unfold joinT at e;split at e
   . rename_i z m' dd;obtain ⟨rfl,hz,hk⟩ := rx.str;obtain ⟨u,rfl,r⟩ := rl.one;split at e
     . rename_i ys ey;obtain ⟨⟨a,rfl,hq⟩,hys⟩ := rp_strs s r ey;split at e
       . rename_i hl;cases e;refine ⟨z,a,ys,rfl,rfl,hq,hl,w _ F H (.refl s) (rp_str ⟨?_,?_⟩) (by intro z;cases z)⟩
         . rw [txt_join];exact Nat.le_trans (StrLaws.join_length_le z ys) hl
         . rw [txt_join];exact strOk_join hk fun y hy=>(hys y hy).2
       . cases e
     . cases e
   . cases e
def CE : Bool -> Expr -> List Comprehension -> Scope -> Pos -> Expr
 | true,el,gs,sc,p=>.ListComp el gs sc p
 | false,el,gs,sc,p=>.SetComp el gs sc p
def emit (b : Bool) (elt : Expr) (acc : Value) (env : Env) : Sem Unit := match b with
 | true=>(do let _ <- call (.builtin "list.append") [acc,<- eval elt env])
 | false=>(do let v <- eval elt env;standAt elt.pos;let _ <- call (.builtin "set.add") [acc,v])
def turnA (e tg iter : Expr) (ifs : List Expr) (iter2 : Expr) (it acc : Value) (env : Env) : Sem PySem.Fin := do
 standAt iter.pos
 match <- pyNext it with
 | none=>pure (.done .next)
 | some v =>
  letOwnedTupleGo tg it v
  assign tg env v
  let mut ok := true
  for c in ifs do
   if ok then ok <- isTrue c env (eval c env)
  if ok then
   let x <- eval iter2 env
   standAt iter2.pos
   let x <- foldedSetIterable iter2 env x
   let _ <- runOwn (.compStart e 1 (<- holding [x] (pyIter x)) acc env) env
  again (.compLoop e 0 it acc env)
def turnB (e tg iter : Expr) (em : Sem Unit) (it acc : Value) (env : Env) : Sem PySem.Fin := do
 standAt iter.pos
 match <- pyNext it with
 | none=>pure (.done .next)
 | some v =>
  letOwnedTupleGo tg it v
  assign tg env v
  em
  again (.compLoop e 1 it acc env)
theorem turnA_eq (b : Bool) (elt tg iter tg2 iter2 : Expr) (ifs : List Expr) (scope : Scope) (pos : Pos) (it acc : Value) (env : Env) : compTurn (CE b elt [⟨tg,iter,ifs,0⟩,⟨tg2,iter2,[],0⟩] scope pos) 0 it acc env = turnA (CE b elt [⟨tg,iter,ifs,0⟩,⟨tg2,iter2,[],0⟩] scope pos) tg iter ifs iter2 it acc env := by cases b <;> rfl
theorem turnB_eq (b : Bool) (elt tg iter tg2 iter2 : Expr) (ifs : List Expr) (scope : Scope) (pos : Pos) (it acc : Value) (env : Env) : compTurn (CE b elt [⟨tg,iter,ifs,0⟩,⟨tg2,iter2,[],0⟩] scope pos) 1 it acc env = turnB (CE b elt [⟨tg,iter,ifs,0⟩,⟨tg2,iter2,[],0⟩] scope pos) tg2 iter2 (emit b elt acc env) it acc env := by cases b <;> rfl
section
variable {prog : Program} {w : World} {A : Around} {R : Result -> Shared -> Prop} {s : Shared} {b : Bool} {elt tg iter tg2 iter2 : Expr} {ifs : List Expr} {scope : Scope} {pos : Pos} {it acc : Value} {env : Env}
theorem loopA (hs2 : ∀ x, foldedSetIterable iter2 env x = pure x) (I : Nat → Shared → Prop) (turn : ∀ n s, I n s → wpAny (model prog w) A (pyNext it) (fun r s1 => match r with
      | none=>R (.ok .next) s1
      | some v => wpAny (model prog w) A (letOwnedTupleGo tg it v) (fun _ s1' => wpAny (model prog w) A (assign tg env v) (fun _ s2 =>
          wpAny (model prog w) A (forIn ifs true fun c r=>if r = true then do let ok <- isTrue c env (eval c env);pure (ForInStep.yield ok) else pure (ForInStep.yield r)) (fun ok s3 =>
           if ok = true then wpAny (model prog w) A (eval iter2 env) (fun x s4=>wpAny (model prog w) A (pyIter x) (fun it2 s5 =>
            codeAny (model prog w) A (.compStart (CE b elt [⟨tg,iter,ifs,0⟩,⟨tg2,iter2,[],0⟩] scope pos) 1 it2 acc env) (fun r s6=>match r with | .ok _=>∃ m,m < n /\ I m s6 | .error _=>False) s5) (fun _ _=>False) s4) (fun _ _=>False) s3
           else ∃ m, m < n ∧ I m s3) (fun _ _ => False) s2) (fun _ _ => False) s1') (fun _ _ => False) s1) (fun _ _ => False) s)
    (n : Nat) (h : I n s) :
    codeAny (model prog w) A (.compLoop (CE b elt [⟨tg,iter,ifs,0⟩,⟨tg2,iter2,[],0⟩] scope pos) 0 it acc env) R s := by
 refine codeAny_loop (by cases b <;> rfl) I (fun n s hI=>?_) n h
 have e0 : A.under (.compLoop (CE b elt [⟨tg,iter,ifs,0⟩,⟨tg2,iter2,[],0⟩] scope pos) 0 it acc env) = A := by cases b <;> rfl
 have e1 : (model prog w).den (.compLoop (CE b elt [⟨tg,iter,ifs,0⟩,⟨tg2,iter2,[],0⟩] scope pos) 0 it acc env) = ((compTurn (CE b elt [⟨tg,iter,ifs,0⟩,⟨tg2,iter2,[],0⟩] scope pos) 0 it acc env).onRaise (fun x=>do noteFrame x env;theTreesLotGoes x)) := by cases b <;> rfl
 rw [e0,e1];refine wpAny_noted ?_;rw [turnA_eq];unfold turnA;refine wpAny_bind (wpAny_standAt (wpAny_bind (wpAny_mono (turn n s hI) (fun r s1 h1=>?_) fun _ _ h'=>h'.elim)));cases r with
 | none=>exact wpAny_pure h1
 | some v =>
  refine wpAny_bind (wpAny_mono h1 (fun _ s1' h1'=>?_) fun _ _ h'=>h'.elim);refine wpAny_bind (wpAny_mono h1' (fun _ s2 h2=>wpAny_bind (wpAny_mono h2 (fun ok s3 h3=>?_) fun _ _ h'=>h'.elim)) fun _ _ h'=>h'.elim);cases ok with
  | false=>exact wpAny_pure ⟨rfl,h3⟩
  | true =>
   refine wpAny_bind (wpAny_mono h3 (fun x s4 h4=>wpAny_bind (wpAny_standAt (wpAny_bind (wpAny_of_eq (hs2 x) ?_)))) fun _ _ h'=>h'.elim);refine wpAny_bind (wpAny_holding (wpAny_mono h4 (fun it2 s5 h5=>?_) fun _ _ h'=>h'.elim));refine wpAny_bind (wpAny_runOwn (codeAny_mono h5 fun r s6 h6=>?_));cases r with
   | ok f=>exact wpAny_pure ⟨rfl,h6⟩
   | error e=>exact h6.elim
theorem loopB (I : Nat → Shared → Prop) (turn : ∀ n s, I n s → wpAny (model prog w) A (pyNext it) (fun r s1 => match r with
      | none=>R (.ok .next) s1
      | some v => wpAny (model prog w) A (letOwnedTupleGo tg2 it v) (fun _ s1' => wpAny (model prog w) A (assign tg2 env v) (fun _ s2 =>
          wpAny (model prog w) A (emit b elt acc env) (fun _ s5 => ∃ m, m < n ∧ I m s5) (fun _ _ => False) s2) (fun _ _ => False) s1') (fun _ _ => False) s1) (fun _ _ => False) s)
    (n : Nat) (h : I n s) :
    codeAny (model prog w) A (.compLoop (CE b elt [⟨tg,iter,ifs,0⟩,⟨tg2,iter2,[],0⟩] scope pos) 1 it acc env) R s := by
 refine codeAny_loop (by cases b <;> rfl) I (fun n s hI=>?_) n h
 have e0 : A.under (.compLoop (CE b elt [⟨tg,iter,ifs,0⟩,⟨tg2,iter2,[],0⟩] scope pos) 1 it acc env) = A := by cases b <;> rfl
 have e1 : (model prog w).den (.compLoop (CE b elt [⟨tg,iter,ifs,0⟩,⟨tg2,iter2,[],0⟩] scope pos) 1 it acc env) = ((compTurn (CE b elt [⟨tg,iter,ifs,0⟩,⟨tg2,iter2,[],0⟩] scope pos) 1 it acc env).onRaise (fun x=>do noteFrame x env;theTreesLotGoes x)) := by cases b <;> rfl
 rw [e0,e1];refine wpAny_noted ?_;rw [turnB_eq];unfold turnB;refine wpAny_bind (wpAny_standAt (wpAny_bind (wpAny_mono (turn n s hI) (fun r s1 h1=>?_) fun _ _ h'=>h'.elim)));cases r with
 | none=>exact wpAny_pure h1
 | some v=>refine wpAny_bind (wpAny_mono h1 (fun _ s1' h1'=>?_) fun _ _ h'=>h'.elim);exact wpAny_bind (wpAny_mono h1' (fun _ s2 h2=>wpAny_bind (wpAny_mono h2 (fun _ s3 h3=>wpAny_pure ⟨rfl,h3⟩) fun _ _ h'=>h'.elim)) fun _ _ h'=>h'.elim)
theorem startC (d : Nat) (hd : d = 0 \/ d = 1) (h0 : codeAny (model prog w) A (.compLoop (CE b elt [⟨tg,iter,ifs,0⟩,⟨tg2,iter2,[],0⟩] scope pos) d it acc env) R s) (h : wpAny (model prog w) A (pyIter it) (fun it' s'=>codeAny (model prog w) A (.compLoop (CE b elt [⟨tg,iter,ifs,0⟩,⟨tg2,iter2,[],0⟩] scope pos) d it' acc env) R s') (fun _ _=>False) s) : codeAny (model prog w) A (.compStart (CE b elt [⟨tg,iter,ifs,0⟩,⟨tg2,iter2,[],0⟩] scope pos) d it acc env) R s := by
 refine codeAny_of_tree ?_;have e0 : A.under (.compStart (CE b elt [⟨tg,iter,ifs,0⟩,⟨tg2,iter2,[],0⟩] scope pos) d it acc env) = A := by cases b <;> rfl
 have e1 : (model prog w).den (.compStart (CE b elt [⟨tg,iter,ifs,0⟩,⟨tg2,iter2,[],0⟩] scope pos) d it acc env) = ((compStart (CE b elt [⟨tg,iter,ifs,0⟩,⟨tg2,iter2,[],0⟩] scope pos) d it acc env).onRaise (fun x=>do noteFrame x env;standAt theWindowsPlace)) := by cases b <;> rfl
 rw [e0,e1];refine wpAny_notedAt ?_;unfold compStart;have e2 : clausesOf (CE b elt [⟨tg,iter,ifs,0⟩,⟨tg2,iter2,[],0⟩] scope pos) = [⟨tg,iter,ifs,0⟩,⟨tg2,iter2,[],0⟩] := by cases b <;> rfl
 rw [e2];rcases hd with rfl | rfl
 all_goals
  show wpAny _ _ (ask >>= _) _ _ s;refine wpAny_bind (wpAny_askSetting (wpAny_ite ?_));split
  . first
      | exact wpAny_bind (wpAny_pure (wpAny_pure (And.intro rfl h0)))
      | exact wpAny_pure (And.intro rfl h0)
  . first
      | exact wpAny_bind (wpAny_rule (wpAny_bind (wpAny_standAt (wpAny_bind (wpAny_mono h (fun it' s' h'=>wpAny_pure (And.intro rfl h')) fun _ _ x=>x.elim)))))
      | (refine wpAny_bind (wpAny_rule ?_);show wpAny _ _ (standAt _ >>= _) _ _ s;exact wpAny_bind (wpAny_standAt (wpAny_bind (wpAny_mono h (fun it' s' h'=>wpAny_pure (And.intro rfl h')) fun _ _ x=>x.elim))))
end
abbrev TEm := L2.St -> Hp -> (Hp -> Prop) -> Prop
def PEm (X : Cx) (b : Bool) (elt : Expr) (D : Addr) (tm : TEm) : Prop := ∀ (pins : LAO) (s : Shared) (σ : L2.St) (H : Hp) (R : Hp -> Prop),L2.Inv X pins σ H s -> tm σ H R ->
 wpAny (model X.prog X.w) X.A (emit b elt (.ref D) X.env) (fun _ s'=>∃ H',L2.Inv X pins σ H' s' /\ R H') X.xe s
def accO (w : World) (b : Bool) (D : Addr) : HO := match b with | true=>.lst [] | false=>sx w D []
def accN (b : Bool) : Sem Value := match b with | true=>newList [] | false=>newSet (.type "set")
theorem accN_ok {X : Cx} {b : Bool} {pins : LAO} {σ : L2.St} {H : Hp} {s : Shared} {E : VSP} {Q : VSP} (I : L2.Inv X pins σ H s) (q : ∀ s3 : Shared,L2.Inv X pins σ (upd H s.heap.objs.size (accO X.w b s.heap.objs.size)) s3 -> s3.heap.objs.size = s.heap.objs.size + 1 -> (∀ b o,s.heap.get? b = some o -> s3.heap.get? b = some o) -> Q (.ref s.heap.objs.size) s3) : wpAny (model X.prog X.w) X.A (accN b) Q E s := by
 cases b with
 | true=>unfold accN;refine wpAny_newObj_type (q _ ?_ (Heap.size_push _ _) fun b o e=>hps e);exact I.laid (t' := s.toks) (fun b u e=>hps e) (Nat.le_refl _) ⟨Nat.zero_le _,[],0,.nil,Heap.get?_push_size _ rfl⟩
 | false=>unfold accN;refine newSet_x (q _ ?_ (Heap.size_push _ _) fun b o e=>hps e);exact I.laid (t' := s.toks) (fun b u e=>hps e) (Nat.le_refl _) (sx_ok (sob_x (Heap.get?_push_size _ rfl)))
def tComp2 (w : World) (b : Bool) (caps : List Nat) (k : Nat) (wi : TI) (gt : TG) (tt : TT) (wi2 : TI) (gt2 : TG) (tm : Addr -> TEm) : TE := fun σ H Q=>wi σ H fun J H1=>∀ D,H1 D = none ->
 ∃ W : Nat -> Nat -> Hp -> Prop,(∃ m,W 0 m (upd H1 D (accO w b D))) /\ ∀ i m H,W i m H ->
  ((J.stop i H /\ Q (.ref D) H) \/ (J.go i H /\ ∀ x H',J.yld i H x H' -> gt x (subS caps σ ++ List.replicate k none) H' fun σ2 H2=>Weak (subS caps σ ++ List.replicate k none) σ2 /\ tt σ2 H2 fun c H3 =>
   if c = true then wi2 σ2 H3 fun J2 H4=>∃ W2 : Nat -> Nat -> Hp -> Prop,(∃ m2,W2 0 m2 H4) /\ ∀ j m2 H,W2 j m2 H ->
    ((J2.stop j H /\ ∃ m',m' < m /\ W (i + 1) m' H) \/ (J2.go j H /\ ∀ y H',J2.yld j H y H' -> gt2 y σ2 H' fun σ3 H5=>Weak σ2 σ3 /\ tm D σ3 H5 fun H6=>∃ m2',m2' < m2 /\ W2 (j + 1) m2' H6))
   else ∃ m',m' < m /\ W (i + 1) m' H3))
theorem comp2_core {X : Cx} {b : Bool} {elt iter tg iter2 tg2 : Expr} {ifs : List Expr} {scope : Scope} {pos : Pos} {caps : List Nat} {capN tgN : List Str} {wi wi2 : TI} {gt gt2 : TG} {tt : TT} {tm : Addr -> TEm} {use : Option (Value -> Sem Unit)} {QQ : VSP} {pins : LAO} {s : Shared} {σ : L2.St} {H : Hp} {Q : VK} (hc : X.calm = true) (hi : PI X tg iter wi) (hcell : ∀ y ∈ scope.names,y.2 ≠ .cell) (hkind : scope.kind = .function) (hnames : ∀ y ∈ scope.names,y.2 = .local -> scope.names.lookup y.1 = some .local) (hfree : ∀ y ∈ scope.names,y.2 = .free -> X.env.kindOf y.1 = some .cell \/ X.env.kindOf y.1 = some .free) (hcapN : capN.map some = caps.map fun i=>X.N[i]?) (hcapF : ∀ y ∈ capN,(y,NameKind.free) ∈ scope.names) (hcapK : ∀ y ∈ capN,(relabel scope X.env).names.lookup y = some .cell \/ (relabel scope X.env).names.lookup y = some .free) (hg : ∀ cl C fp s3 H3,PG (compCx X scope (capN ++ tgN) cl C fp s3 H3) tg gt) (hf : ∀ cl C fp s3 H3,PIfs (compCx X scope (capN ++ tgN) cl C fp s3 H3) ifs tt) (hi2 : ∀ cl C fp s3 H3,PI (compCx X scope (capN ++ tgN) cl C fp s3 H3) tg2 iter2 wi2) (hg2 : ∀ cl C fp s3 H3,PG (compCx X scope (capN ++ tgN) cl C fp s3 H3) tg2 gt2) (he : ∀ cl C fp s3 H3 D,PEm (compCx X scope (capN ++ tgN) cl C fp s3 H3) b elt D (tm D)) (hs : ∀ x,foldedSetIterable iter X.env x = pure x) (hs2 : ∀ env x,foldedSetIterable iter2 env x = pure x) (I : L2.Inv X pins σ H s) (h : tComp2 X.w b caps tgN.length wi gt tt wi2 gt2 tm σ H Q) (hend : ∀ (D Z : Addr) (s6 : Shared) (H5 : Hp),(∃ m,s6.heap.Ns Z m) -> (∀ h'',Heap.SameBut Z s6.heap h'' -> L2.Inv X pins σ H5 { s6 with heap := h'' }) -> H5 Z = none -> X.s₀.heap.objs.size <= Z -> Z ≠ X.env.locals -> (∀ x c,X.env.cells.lookup x = some c -> c ≠ Z) -> (∀ p ∈ X.pn ++ pins,p.1 ≠ Z) -> Q (.ref D) H5 -> compPost (model X.prog X.w) X.A X.xe use QQ (.ref D) Z (.ok .next) s6) : wpAny (model X.prog X.w) X.A (comprehension (CE b elt [⟨tg,iter,ifs,0⟩,⟨tg2,iter2,[],0⟩] scope pos) scope X.env (firstIterPos [⟨tg,iter,ifs,0⟩,⟨tg2,iter2,[],0⟩] pos) (accN b) (firstAsync [⟨tg,iter,ifs,0⟩,⟨tg2,iter2,[],0⟩]) (firstIter [⟨tg,iter,ifs,0⟩,⟨tg2,iter2,[],0⟩] X.env) use) QQ X.xe s := by
 obtain ⟨cl,hclos,clsub,clhas⟩ := closure_of (scope := scope) (env := X.env) fun y hy hk=>I.ok.has y.1 (hfree y hy hk);refine wpAny_comprehension_free (use := use) (by cases b <;> rfl) hs hclos hkind hnames (thn (hi pins s σ H _ I h) fun v s1 h1=>thn h1 fun itv s2 h2=>?_)
 obtain ⟨it,fp,tn,J,H2,e,I2,T,st2,f2,q⟩ := h2;subst e;refine accN_ok I2 fun s3 I3 sz3 keep23=>?_;have hn : H2 s2.heap.objs.size = none := I2.hok.fresh (Nat.le_refl _);obtain ⟨W,⟨m0,w0⟩,turn⟩ := q s2.heap.objs.size hn;generalize hH3 : upd H2 s2.heap.objs.size (accO X.w b s2.heap.objs.size) = H3 at I3 w0;have fpl : ∀ b ∈ fp,b < s2.heap.objs.size := fun b hb=>by obtain ⟨o,eo,_⟩ := T.obj 0 _ st2 b hb;exact Heap.lt_size eo
 have hDf : s2.heap.objs.size ∉ fp := fun hb=>Nat.lt_irrefl _ (fpl _ hb);refine wpAny_newFunctionEnv hcell (by intro y hy;simp at hy) (fun h4 hns hsb=>?_) hkind
 try dsimp only at hns hsb ⊢
 have keep34 : ∀ b o,s3.heap.get? b = some o -> h4.get? b = some o := fun b o e=>hsb.extBut b o (Nat.ne_of_lt (Heap.lt_size e)) (hps e);have nostk : ∀ b ∈ fp,b ∉ frs X.stack := fun b hb z=>by
  obtain ⟨_,f1,f2',_⟩ := f2 b hb;rcases List.mem_cons.mp (I2.stkSub b z) with q | q
  . exact f1 q
  . exact f2' q
 have okc : (compCx X scope (capN ++ tgN) cl s3.heap.objs.size fp s3 H3).Ok :=
  { mod := I3.ok.mod
    kind := hkind
    glob := I3.ok.glob
    blt := I3.ok.blt
    above := Nat.le_refl _
    inj := fun x y c h1 h2=>I3.ok.inj x y c (clsub x c h1) (clsub y c h2)
    has := fun x hx=>clhas x (relabel_free hcell hx)
    cab := fun x c z=>by cases z
    hd := I3.ok.hd
    frames := I3.ok.frames
    stk := .inl rfl
    exf := fun b hb=>⟨Nat.ne_of_lt (by show b < s3.heap.objs.size;rw [sz3];exact Nat.lt_succ_of_lt (fpl b hb)),fun x c e=>(f2 b hb).2.2.2.2.1 x c (clsub x c e)⟩
    bs := I3.bs
    bsz := Nat.le_trans I3.ok.bsz I3.sz
    noex := fun b o e hb=>by
     obtain ⟨_,_,_,f3,_⟩ := f2 b hb;rcases f3 with z | z
     . exact I2.ok.noex b o e z
     . exact absurd (Heap.lt_size (I2.ok.bs b o e).1) (Nat.not_lt.mpr z)
    exfs := nostk
    funs := I3.stack
    frf := I3.stkFree }
 have capLen : capN.length = caps.length := by have := congrArg List.length hcapN;simpa using this
 generalize hσ0 : subS caps σ ++ List.replicate tgN.length none = σ0 at turn;have Ic : Inv (compCx X scope (capN ++ tgN) cl s3.heap.objs.size fp s3 H3) [] σ0 H3 { s3 with heap := h4,toks := s3.toks + ([] : List (Str × Value)).length } := by
  refine ⟨okc,rfl,I3.bare,Un.kept keep34,⟨_,hns,fun i y v h1 h2 h3=>?_⟩,fun x c e=>?_,I3.hok.fresh (Nat.le_refl _),fun x c e=>I3.freeC x c (clsub x c e),fun p hp=>absurd (show p ∈ ([] : LAO) from hp) (by simp),I3.hok.kept keep34,?_⟩
  . by_cases hi : i < caps.length
    . have ey : capN[i]? = some y := by have h1 : (capN ++ tgN)[i]? = some y := h1;rw [List.getElem?_append_left (by rw [capLen];exact hi)] at h1;exact h1
      have hj : X.N[caps[i]]? = some y := by
       have e1 : (capN.map some)[i]? = (caps.map fun i=>X.N[i]?)[i]? := by rw [hcapN]
       rw [List.getElem?_map,List.getElem?_map,ey,List.getElem?_eq_getElem hi] at e1;simpa using e1.symm
      have ev : σ[caps[i]]? = some (some v) := by
       rw [<- hσ0,List.getElem?_append_left (by simpa [subS] using hi)] at h2
       unfold subS at h2;rw [List.getElem?_map,List.getElem?_eq_getElem hi] at h2;simp only [Option.map_some,Option.some.injEq] at h2;cases z : σ[caps[i]]? with
       | none=>rw [z] at h2;cases h2
       | some o=>rw [z] at h2;exact congrArg some h2
      have hyf := hcapF y (List.mem_of_getElem? ey);have hkX := hfree _ hyf rfl;obtain ⟨m,_,hl⟩ := I3.loc;obtain ⟨u,ru,lk⟩ := hl caps[i] y v hj ev (by rcases hkX with z | z;exact .inr (.inl z);exact .inr (.inr z))
      refine ⟨u,ru,.inr ⟨hcapK y (List.mem_of_getElem? ey),?_⟩⟩;rcases lk with ⟨hk,_⟩ | ⟨_,c,ec,ic⟩
      . rcases hkX with z | z
        . rw [show X.env.kindOf y = some .cell from z] at hk;cases hk
        . rw [show X.env.kindOf y = some .free from z] at hk;cases hk
      . obtain ⟨c',ec'⟩ := clhas y hyf;have := clsub y c' ec';rw [ec] at this;cases this;exact ⟨c,ec',ic.keeps keep34⟩
    . rw [<- hσ0,List.getElem?_append_right (by simpa [subS] using hi),List.getElem?_replicate] at h2
      split at h2 <;> cases h2
  . obtain ⟨v,q⟩ := I3.cell x c (clsub x c e);exact ⟨v,q.keeps keep34⟩
  . rw [<- hσ0];show (subS caps σ ++ List.replicate tgN.length none).length = (capN ++ tgN).length;simp [subS,capLen]
 have fpc : ∀ {H' : Hp},(∀ b ∈ fp,H' b = none) -> ∀ b ∈ fp,FpOk (compCx X scope (capN ++ tgN) cl s3.heap.objs.size fp s3 H3) [] H' b := fun hn b hb =>
  ⟨hn b hb,(okc.exf b hb).1,nostk b hb,.inl hb,(okc.exf b hb).2,fun p hp=>absurd (show p ∈ ([] : LAO) from hp) (by simp)⟩
 have loop : codeAny (model X.prog X.w) X.A (.compLoop (CE b elt [⟨tg,iter,ifs,0⟩,⟨tg2,iter2,[],0⟩] scope pos) 0 (.ref it) (.ref s2.heap.objs.size) (compEnvC scope cl s3.heap.objs.size X.env)) (compPost (model X.prog X.w) X.A X.xe use QQ (.ref s2.heap.objs.size) s3.heap.objs.size) { s3 with heap := h4,toks := s3.toks + ([] : List (Str × Value)).length } := by
  refine loopA (hs2 _) (fun n s'=>∃ i H',Inv (compCx X scope (capN ++ tgN) cl s3.heap.objs.size fp s3 H3) [] σ0 H' s' /\ tn i s'.heap /\ (∀ b ∈ fp,H' b = none) /\ W i n H') ?_ m0
   ⟨0,H3,Ic,T.keep _ _ _ st2 (fun b hb o e=>keep34 b o (keep23 b o e)),fun b hb=>by rw [<- hH3,upd_ne (by intro z;rw [z] at hb;exact hDf hb)];exact (f2 b hb).1,w0⟩
  rintro n s5 ⟨i,H5,I5,st5,fr5,w5⟩;rcases turn i n H5 w5 with ⟨stop,qq⟩ | ⟨go,step⟩
  . refine thn (T.done (compCx X scope (capN ++ tgN) cl s3.heap.objs.size fp s3 H3) rfl rfl rfl hc i [] s5 σ0 H5 _ I5 (fpc fr5) st5 stop) fun r s6 ⟨hr,I6⟩=>?_;subst hr;obtain ⟨m,hm,_⟩ := id I6.loc;refine hend s2.heap.objs.size s3.heap.objs.size s6 H5 ⟨m,hm⟩ (fun h'' hsb2=>?_) I6.free I3.sz (fun z=>?_) (fun x c ec z=>?_) (fun p hp z=>?_) qq;rotate_left
    . obtain ⟨m,⟨o,es,ep,ho,_⟩,_⟩ := id I3.loc;rw [<- z] at ho;exact Nat.lt_irrefl _ (Heap.lt_size ho)
    . obtain ⟨v,o,ho,_⟩ := I3.cell x c ec;rw [z] at ho;exact Nat.lt_irrefl _ (Heap.lt_size ho)
    . have := (I3.pin p hp).1;rw [z] at this;exact Nat.lt_irrefl _ (Heap.lt_size this)
    have u := I6.base;have neC : ∀ b o,s3.heap.get? b = some o -> b ≠ s3.heap.objs.size := fun b o e=>Nat.ne_of_lt (Heap.lt_size e);have un : Un (frs X.stack) fp H3 H5 s3.heap h'' := by
     refine ⟨fun b o e n hb hx=>hsb2.extBut b o (neC b o e) (u.keep b o e n hb hx),fun b o e n hb hx=>?_,u.free,fun b o e hx=>?_,u.tups,u.frzs,u.tbls⟩
     . obtain ⟨sl,q⟩ := u.slot b o e n hb hx;exact ⟨sl,hsb2.extBut b _ (neC b o e) q⟩
     . obtain ⟨o',q⟩ := u.there b o e hx;exact ⟨o',hsb2.extBut b _ (neC b o e) q⟩
    have hok : HOk X.prog X.w H5 h'' := fun a o e => (I6.hok a o e).stay (fun b v hb q => hsb2.extBut b v (by
        intro z;have fr := I6.free;rcases hb with hb | hb
        . rw [hb] at z;rw [z] at e;rw [show H5 s3.heap.objs.size = none from fr] at e;cases e
        . rw [z,show H5 s3.heap.objs.size = none from fr] at hb;cases hb) q) (fun _ q=>q) fun _ _ q=>q
    have os6 := I6.os;obtain ⟨hh,g6,d6,t6,o6⟩ := s6;obtain rfl : o6 = s3.os := os6;have I8 := I3.call (h' := h'') (g' := g6) (d' := d6) (t' := t6) (ch := fp) un hok I6.bare fun b hb=>by obtain ⟨_,f1,_,f3,f4,f5⟩ := f2 b hb;exact ⟨f3,f1,f4,f5⟩
    exact I8
  . refine thn (T.item (compCx X scope (capN ++ tgN) cl s3.heap.objs.size fp s3 H3) rfl rfl rfl hc i [] s5 σ0 H5 _ I5 (fpc fr5) st5 go) fun r s6 ⟨u,hr,h6⟩=>?_;subst hr;refine thn h6 fun _ s7 ⟨x,H7,I7,r7,y7,st7,fr7⟩=>?_;have I7' := I7.pinned (fpc fr7) (T.obj _ _ st7);refine thn (hg cl s3.heap.objs.size fp s3 H3 _ s7 σ0 H7 x u _ I7' r7 (step x H7 y7)) fun _ s8 ⟨σ8,H8,I8,wk,q8⟩=>?_;have back : ∀ {H' : Hp} {s' : Shared} {m' : Nat},Inv (compCx X scope (capN ++ tgN) cl s3.heap.objs.size fp s3 H3) ([] ++ pinsAt fp s7.heap) σ8 H' s' -> m' < n -> W (i + 1) m' H' ->
        ∃ m,m < n /\ ∃ i H',Inv (compCx X scope (capN ++ tgN) cl s3.heap.objs.size fp s3 H3) [] σ0 H' s' /\ tn i s'.heap /\ (∀ b ∈ fp,H' b = none) /\ W i m H' := fun {H' s' m'} I' hm w'=>by
      have pinned : ∀ b ∈ fp,∀ o,s7.heap.get? b = some o -> s'.heap.get? b = some o /\ H' b = none := fun b hb o e=>by have := I'.pin (b,o) (List.mem_append_right _ (List.mem_append_right _ (mem_pinsAt hb e)));exact ⟨this.1,this.2.1⟩
      refine ⟨m',hm,i + 1,H',I'.unpinned.weak wk.1 wk.2,T.keep _ _ _ st7 fun b hb o e=>(pinned b hb o e).1,fun b hb=>?_,w'⟩;obtain ⟨o,e,_⟩ := T.obj _ _ st7 b hb;exact (pinned b hb o e).2
    refine thn (hf cl s3.heap.objs.size fp s3 H3 _ s8 σ8 H8 _ I8 q8) fun c s9 ⟨H9,I9,q9⟩=>?_;cases c with
    | false=>rw [if_neg Bool.false_ne_true] at q9 ⊢;obtain ⟨m',hm,w9⟩ := q9;exact back I9 hm w9
    | true =>
     rw [if_pos rfl] at q9 ⊢;generalize hps : ([] : LAO) ++ pinsAt fp s7.heap = ps at I9 back;refine thn (hi2 cl s3.heap.objs.size fp s3 H3 ps s9 σ8 H9 _ I9 q9) fun v2 s10 h10=>thn h10 fun itv2 s11 h11=>?_;obtain ⟨it2,fp2,tn2,J2,H11,e2,I11,T2,st11,f11,W2,⟨m20,w20⟩,turn2⟩ := h11;subst e2;have stat : ∀ {H' : Hp},(∀ b ∈ fp2,H' b = none) -> ∀ b ∈ fp2,FpOk (compCx X scope (capN ++ tgN) cl s3.heap.objs.size fp s3 H3) ps H' b := fun hn b hb=>⟨hn b hb,(f11 b hb).2⟩;have loop2 : codeAny (model X.prog X.w) X.A (.compLoop (CE b elt [⟨tg,iter,ifs,0⟩,⟨tg2,iter2,[],0⟩] scope pos) 1 (.ref it2) (.ref s2.heap.objs.size) (compEnvC scope cl s3.heap.objs.size X.env)) (fun r s6=>match r with | .ok _=>∃ m,m < n /\ ∃ i H',Inv (compCx X scope (capN ++ tgN) cl s3.heap.objs.size fp s3 H3) [] σ0 H' s6 /\ tn i s6.heap /\ (∀ b ∈ fp,H' b = none) /\ W i m H' | .error _=>False) s11 := by
      refine loopB (fun n2 s'=>∃ j H',Inv (compCx X scope (capN ++ tgN) cl s3.heap.objs.size fp s3 H3) ps σ8 H' s' /\ tn2 j s'.heap /\ (∀ b ∈ fp2,H' b = none) /\ W2 j n2 H') ?_ m20 ⟨0,H11,I11,st11,fun b hb=>(f11 b hb).1,w20⟩;rintro n2 s12 ⟨j,H12,I12,st12,fr12,w12⟩;rcases turn2 j n2 H12 w12 with ⟨stop2,m',hm,w13⟩ | ⟨go2,step2⟩
      . refine thn (T2.done (compCx X scope (capN ++ tgN) cl s3.heap.objs.size fp s3 H3) rfl rfl rfl hc j ps s12 σ8 H12 _ I12 (stat fr12) st12 stop2) fun r s13 ⟨hr,I13⟩=>?_;subst hr;exact back I13 hm w13
      . refine thn (T2.item (compCx X scope (capN ++ tgN) cl s3.heap.objs.size fp s3 H3) rfl rfl rfl hc j ps s12 σ8 H12 _ I12 (stat fr12) st12 go2) fun r s13 ⟨u2,hr,h13⟩=>?_;subst hr;refine thn h13 fun _ s14 ⟨y,H14,I14,r14,y14,st14,fr14⟩=>?_;have I14' := I14.pinned (stat fr14) (T2.obj _ _ st14);refine thn (hg2 cl s3.heap.objs.size fp s3 H3 _ s14 σ8 H14 y u2 _ I14' r14 (step2 y H14 y14)) fun _ s15 ⟨σ15,H15,I15,wk2,q15⟩=>?_;refine thn (he cl s3.heap.objs.size fp s3 H3 _ _ s15 σ15 H15 _ I15 q15) fun _ s16 ⟨H16,I16,m2',hm2,w16⟩=>?_;have pinned : ∀ b ∈ fp2,∀ o,s14.heap.get? b = some o -> s16.heap.get? b = some o /\ H16 b = none := fun b hb o e=>by have := I16.pin (b,o) (List.mem_append_right _ (List.mem_append_right _ (mem_pinsAt hb e)));exact ⟨this.1,this.2.1⟩
        refine ⟨m2',hm2,j + 1,H16,I16.unpinned.weak wk2.1 wk2.2,T2.keep _ _ _ st14 fun b hb o e=>(pinned b hb o e).1,fun b hb=>?_,w16⟩;obtain ⟨o,e,_⟩ := T2.obj _ _ st14 b hb;exact (pinned b hb o e).2
     exact startC 1 (.inr rfl) loop2 (T2.self _ 0 _ _ _ st11 loop2)
 exact startC 0 (.inl rfl) loop (T.self _ 0 _ _ _ (T.keep _ _ _ st2 (fun b hb o e=>keep34 b o (keep23 b o e))) loop)
def yesR : Rho -> Res := fun _=>.ok .fz (.bl true)
def comp2L (i j : Nat) (t gi2 e : Rho -> Res) (ρ0 : Rho) : List D -> Option (List D)
 | []=>some []
 | d :: ds=>match t (ρ0.set i (some (false,d))) with
  | .ok _ (.bl true)=>(match gi2 (ρ0.set i (some (false,d))) with
   | .ok _ (.lst es)=>(match compL (setD j) yesR e (ρ0.set i (some (false,d))) es with
    | some ys=>(comp2L i j t gi2 e ρ0 ds).map (ys ++ ·)
    | none=>none)
   | _=>none)
  | .ok _ (.bl false)=>comp2L i j t gi2 e ρ0 ds
  | _=>none
def AllF (ρ : Rho) : Prop := ∀ (i : Nat) (m : Bool) (d : D),ρ[i]? = some (some (m,d)) -> m = false
theorem allF_sub (caps : List Nat) (ρ : Rho) (n : Nat) : AllF (subR caps ρ ++ List.replicate n none) := fun i m d e=>by
 by_cases hi : i < caps.length
 . rw [List.getElem?_append_left (by simpa [subR] using hi)] at e
   unfold subR at e;rw [List.getElem?_map,List.getElem?_eq_getElem hi] at e;simp only [Option.map_some,Option.some.injEq] at e;split at e
   . cases e;rfl
   . cases e
 . rw [List.getElem?_append_right (by simpa [subR] using hi),List.getElem?_replicate] at e
   split at e <;> cases e
theorem AllF.set {ρ : Rho} (h : AllF ρ) (i : Nat) (d : D) : AllF (ρ.set i (some (false,d))) := fun k m d' e=>by
 rw [List.getElem?_set] at e;split at e
 . split at e <;> cases e;rfl
 . exact h k m d' e
theorem RelSt.later {K : Fg} {F0 H0 F H F' H' : Hp} {σ : L2.St} {ρ : Rho} (R : RelSt K F0 H0 F H σ ρ) (af : AllF ρ) (st : Step F0 H0 F' H') (sF : Same F F') : RelSt K F0 H0 F' H' σ ρ :=
 ⟨st,fun i m d e=>by
  obtain ⟨v,e1,r,_⟩ := R.slot i m d e;cases af i m d e
  exact ⟨v,e1,RepV.mono sF _ _ r,by intro z;cases z⟩,fun i j d d' a _ e1 _ _ _=>absurd (af _ _ _ e1) (by decide),R.len⟩
def AR (K : Fg) (w : World) (b : Bool) (Da : Addr) (F : Hp) (zs : List D) (o : HO) : Prop := match b with
 | true=>∃ ys,o = .lst ys /\ RepL K F zs ys
 | false=>∃ (ns ys : List Str),zs = ns.map .str /\ o = sx w Da ys /\ ys.Nodup /\ ys.length <= ns.length /\ (∀ x,x ∈ ys ↔ x ∈ ns) /\ ∀ x ∈ ns,x.length <= sizeLine /\ PyData.strOk x = true
theorem AR.mono {K : Fg} {w : World} {b : Bool} {Da : Addr} {F F' : Hp} {zs : List D} {o : HO} (h : AR K w b Da F zs o) (s : Same F F') : AR K w b Da F' zs o := by
 cases b with
 | true=>obtain ⟨ys,e,r⟩ := h;exact ⟨ys,e,r.mono s _ _⟩
 | false=>exact h
def isStrD : D -> Bool | .str _=>true | _=>false
def limA (b : Bool) : Nat := match b with | true=>sizeLine | false=>scanBound - 1
def emK (w : World) (b : Bool) (Da : Addr) (y : V) (H4 : Hp) (R : Hp -> Prop) : Prop := match b with
 | true=>∃ ys,H4 Da = some (.lst ys) /\ ys.length < sizeLine /\ R (upd H4 Da (.lst (ys ++ [y])))
 | false=>∃ x ys,y = .str x /\ H4 Da = some (sx w Da ys) /\ ys.length + 1 < scanBound /\ ∀ ys',ys'.Nodup -> (∀ z,z ∈ ys' ↔ z ∈ ys \/ z = x) -> ys'.length <= ys.length + 1 -> R (upd H4 Da (sx w Da ys'))
def emT (w : World) (b : Bool) (te : TE) (Da : Addr) : TEm := fun σ H R=>te σ H fun y H4=>emK w b Da y H4 R
theorem pem {X : Cx} {elt : Expr} {te : TE} (b : Bool) (Da : Addr) (h : PE X elt te) : PEm X b elt Da (emT X.w b te Da) := by
 intro pins s σ H R I q;cases b with
 | true=>unfold emit;refine wpAny_bind (thn (h pins s σ H _ I q) fun v s1 ⟨y,H1,I1,r1,ys,hD,hl,q1⟩=>?_);refine wpAny_bind (thn (mt_append (X := X) _ s1 σ H1 (.ref Da) [y] (.ref Da) [v] (fun v H'=>v = .non /\ H' = upd H1 Da (.lst (ys ++ [y]))) I1 rfl (.cons r1 .nil) ⟨Da,ys,y,rfl,rfl,hD,hl,rfl,rfl⟩) fun _ s2 ⟨v2,H2,I2,_,_,e2⟩=>?_);subst e2;exact wpAny_pure ⟨_,I2,q1⟩
 | false =>
  unfold emit;refine wpAny_bind (thn (h pins s σ H _ I q) fun v s1 ⟨y,H1,I1,r1,x,ys,ey,hD,hl,q1⟩=>?_);subst ey;obtain ⟨tk,rfl⟩ := r1;refine wpAny_bind (wpAny_standAt (wpAny_bind ?_));have xa : SetX X.w s1.heap Da ys := (I1.hok Da _ hD).1;refine wpAny_call_entry F.slot_set_add xa.ty F.entry_set_add ?_ (F.args_set_add_2 _ _);unfold Builtin.«set.add» Builtin.Frozenset.oneOther;simp only [List.isEmpty_nil,bind_assoc];unfold Builtin.Frozenset.addrOf;refine wpAny_bind (wpAny_pure ?_)
  try dsimp only
  refine wpAny_bind (wpAny_pure ?_)
  try dsimp only
  refine wpAny_bind (setAdd_x xa hl fun h' ys' sb X2 pm=>?_);refine wpAny_pure ⟨_,rfl,wpAny_pure ⟨_,I1.write (x := Da) (e := Da) (o := sx X.w Da ys') (by rw [hD];exact trivial) (.inl rfl) (fun b' u hb hu=>sb.extBut b' u hb hu) (by obtain ⟨o,es,ep,t,ho,_⟩ := id X2;exact ⟨o,ho⟩) (sx_ok X2),q1 ys' X2.nodup (fun z=>?_) ?_⟩⟩
  . rw [pm.mem_iff];split
    . rename_i hx;exact ⟨.inl,fun h=>h.elim id fun e=>e ▸ hx⟩
    . rw [List.mem_append,List.mem_singleton]
  . rw [pm.length_eq];split
    . omega
    . rw [List.length_append];simp
theorem AR.add {K : Fg} {w : World} {b : Bool} {Da : Addr} {F F' H4 : Hp} {zs : List D} {o : HO} {ye : D} {yv : V} {R : Hp -> Prop} (h : AR K w b Da F zs o) (s : Same F F') (rd : RepV K F' ye yv) (hl : zs.length < limA b) (hb : b = false -> isStrD ye = true) (hD : H4 Da = some o) (q : ∀ o',AR K w b Da F' (zs ++ [ye]) o' -> R (upd H4 Da o')) : emK w b Da yv H4 R := by
 cases b with
 | true=>obtain ⟨ys,rfl,r⟩ := h;exact ⟨ys,hD,by rw [r.length];exact hl,q _ ⟨_,rfl,RepL.append (r.mono s _ _) (RepL.cons rd RepL.nil)⟩⟩
 | false =>
  obtain ⟨ns,ys,rfl,rfl,nd,ll,me,ok⟩ := h;cases ye with
  | str x =>
   simp only [RepV] at rd;obtain ⟨rfl,k1⟩ := rd;have hl : ns.length < scanBound - 1 := by rw [List.length_map] at hl;exact hl
   refine ⟨x,ys,rfl,hD,by omega,fun ys' nd' me' ll'=>q _ ⟨ns ++ [x],ys',by simp,rfl,nd',?_,fun z=>?_,fun z hz=>?_⟩⟩
   . rw [List.length_append];simp;omega
   . rw [me',me,List.mem_append,List.mem_singleton]
   . rcases List.mem_append.mp hz with hz | hz
     . exact ok z hz
     . rw [List.mem_singleton.mp hz];exact k1
  | _=>have := hb rfl;cases this
section
variable {C : Cw} {X : Cx}
theorem comp2_run {b : Bool} {caps : List Nat} {gt gi2 ge : Rho → Res} {σ : L2.St} {F H : Hp} {ρ : Rho} (RS : RelSt (C.at X).K (C.at X).F0 (C.at X).H0 F H σ ρ) {ds total : List D} (et : comp2L caps.length (caps.length + 1) gt gi2 ge (subR caps ρ ++ List.replicate 2 none) ds = some total) (lim : total.length ≤ limA b) (str : b = false → total.all isStrD = true) {J : It} {F1 H1 : Hp} (s1 : Step F H F1 H1) (hJ : IterOf X.K F1 J ds) {Da : Addr} (hDa : H1 Da = none) {Q : VK} (fin : ∀ F' H' o, Step F H F' H' → F' Da = none → H' Da = some o → AR X.K X.w b Da F' total o → Q (.ref Da) H') : ∃ W : Nat → Nat → Hp → Prop, (∃ m, W 0 m (upd H1 Da (accO X.w b Da))) ∧ ∀ i m H, W i m H → ((J.stop i H ∧ Q (.ref Da) H) ∨ (J.go i H ∧ ∀ x H', J.yld i H x H' → gOf X.K (.nm caps.length) x (subS caps σ ++ List.replicate 2 none) H' fun σ2 H2 => Weak (subS caps σ ++ List.replicate 2 none) σ2 ∧ tT (C.nox.at X) gt σ2 H2 fun c H3 =>
      if c = true then tIv (C.nox.at X) gi2 σ2 H3 fun J2 H4=>∃ W2 : Nat -> Nat -> Hp -> Prop,(∃ m2,W2 0 m2 H4) /\ ∀ j m2 H,W2 j m2 H ->
       ((J2.stop j H /\ ∃ m',m' < m /\ W (i + 1) m' H) \/ (J2.go j H /\ ∀ y H',J2.yld j H y H' -> gOf X.K (.nm (caps.length + 1)) y σ2 H' fun σ3 H5=>Weak σ2 σ3 /\ emT X.w b (tG (C.nox.at X) fun ρ=>frzR (ge ρ)) Da σ3 H5 fun H6=>∃ m2',m2' < m2 /\ W2 (j + 1) m2' H6))
      else ∃ m',m' < m /\ W (i + 1) m' H3)) := by
 have hD0 : H Da = none := s1.same.free hDa;have hF1 : F1 Da = none := s1.sub.free hDa;have R0 := relSt_sub caps 2 RS;have af0 := allF_sub caps ρ 2;have ls : (subS caps σ).length = caps.length := by simp [subS]
 generalize hρ0 : subR caps ρ ++ List.replicate 2 none = ρ0 at et R0 af0;have n0 : ∀ u,(subS caps σ ++ List.replicate 2 none)[caps.length]? ≠ some (some u) := fun u z=>by
  rw [List.getElem?_append_right (by omega),List.getElem?_replicate] at z
  split at z <;> cases z
 have n1 : ∀ u,(subS caps σ ++ List.replicate 2 none)[caps.length + 1]? ≠ some (some u) := fun u z=>by
  rw [List.getElem?_append_right (by omega),List.getElem?_replicate] at z
  split at z <;> cases z
 generalize hσ0 : subS caps σ ++ List.replicate 2 none = σ0 at R0 n0 n1;have a0 : AR X.K X.w b Da F1 [] (accO X.w b Da) := by
  cases b with
  | true=>exact ⟨[],rfl,RepL.nil⟩
  | false=>exact ⟨[],[],rfl,rfl,List.nodup_nil,Nat.le_refl _,fun x=>Iff.rfl,fun x hx=>nomatch hx⟩
 refine ⟨fun i m H'=>m = ds.length - i /\ i <= ds.length /\ ∃ F' zs o,H' Da = some o /\ AR X.K X.w b Da F' zs o /\ Step F H F' H' /\ Same F1 F' /\ F' Da = none /\
  ∃ rest,comp2L caps.length (caps.length + 1) gt gi2 ge ρ0 (ds.drop i) = some rest /\ total = zs ++ rest,
  ⟨ds.length,by simp,Nat.zero_le _,F1,[],_,upd_same,a0,s1.upd hD0 hF1,Same.refl _,hF1,total,by simpa using et,rfl⟩,?_⟩
 rintro i m H' ⟨rfl,hile,F',zs,o,hD,ar,st,sF,hFD,rest,ec,etot⟩;by_cases hlt : i < ds.length
 . refine .inr ⟨hJ.go i H' (sF.trans st.sub) hlt,fun v H2 y=>?_⟩;obtain ⟨F2,d,ed,s2,rd⟩ := hJ.yld i F' H' v H2 sF st.sub hlt y;have hd : ds.drop i = d :: ds.drop (i + 1) := by rw [List.drop_eq_getElem_cons hlt];rw [List.getElem?_eq_getElem hlt] at ed;cases ed;rfl
   rw [hd] at ec;unfold comp2L at ec;have hD2 : H2 Da = some o := s2.same _ _ hD;have hF2 : F2 Da = none := s2.new _ hFD (by rw [hD];exact fun z=>nomatch z)
   have R1 : RelSt (C.at X).K (C.at X).F0 (C.at X).H0 F2 H2 (σ0.set caps.length (some v)) (ρ0.set caps.length (some (false,d))) := ((R0.step st).step s2).set (m := false) (.refl s2.sub) rd (by intro z;cases z)
   have af1 := af0.set caps.length d;generalize hρ1 : ρ0.set caps.length (some (false,d)) = ρ1 at ec R1 af1;simp only [gOf];refine ⟨⟨by simp,fun j u ej=>?_⟩,ρ1,F2,R1,?_⟩
   . have : j ≠ caps.length := by rintro rfl;exact n0 u ej
     rw [List.getElem?_set_ne (fun z=>this z.symm)];exact ej
   cases ett : gt ρ1 with
   | stuck=>rw [ett] at ec;cases ec
   | exc c=>rw [ett] at ec;cases ec
   | ok mt dt =>
    cases dt with
    | bl c =>
     rw [ett] at ec;intro F3 H3 s3;have hD3 : H3 Da = some o := s3.same _ _ hD2;have hF3 : F3 Da = none := s3.new _ hF2 (by rw [hD2];exact fun z=>nomatch z)
     cases c with
     | false=>rw [if_neg Bool.false_ne_true];exact ⟨ds.length - (i + 1),by omega,rfl,hlt,F3,zs,o,hD3,ar.mono (s2.fsame.trans s3.fsame),(st.trans s2).trans s3,(sF.trans s2.fsame).trans s3.fsame,hF3,rest,ec,etot⟩
     | true =>
      rw [if_pos rfl];dsimp only at ec;refine ⟨ρ1,F3,R1.step s3,?_⟩;cases ei : gi2 ρ1 with
      | stuck=>rw [ei] at ec;cases ec
      | exc c=>rw [ei] at ec;cases ec
      | ok mi di =>
       cases di with
       | lst es =>
        rw [ei] at ec;dsimp only at ec;cases ei2 : compL (setD (caps.length + 1)) yesR ge ρ1 es with
        | none=>rw [ei2] at ec;cases ec
        | some mid =>
         rw [ei2] at ec;cases er : comp2L caps.length (caps.length + 1) gt gi2 ge ρ0 (ds.drop (i + 1)) with
         | none=>rw [er] at ec;cases ec
         | some rest' =>
          rw [er] at ec;cases ec;intro J2 F4 H4 s4 hJ2;have hD4 : H4 Da = some o := s4.same _ _ hD3;have hF4 : F4 Da = none := s4.new _ hF3 (by rw [hD3];exact fun z=>nomatch z)
          have st4 : Step F H F4 H4 := ((st.trans s2).trans s3).trans s4;have R4 := (R1.step s3).step s4;refine ⟨fun j m2 H'=>m2 = es.length - j /\ j <= es.length /\ ∃ F' zs' o,H' Da = some o /\ AR X.K X.w b Da F' zs' o /\ Step F H F' H' /\ Same F4 F' /\ F' Da = none /\
           ∃ rest2,compL (setD (caps.length + 1)) yesR ge ρ1 (es.drop j) = some rest2 /\ total = zs' ++ rest2 ++ rest',
           ⟨es.length,by simp,Nat.zero_le _,F4,zs,o,hD4,ar.mono ((s2.fsame.trans s3.fsame).trans s4.fsame),st4,Same.refl _,hF4,mid,by simpa using ei2,by rw [etot,List.append_assoc]⟩,?_⟩
          rintro j m2 H5 ⟨rfl,hjle,F5,zs5,o5,hD5,ar5,st5,sF5,hF5,rest2,ec2,etot2⟩;by_cases hjl : j < es.length
          . refine .inr ⟨hJ2.go j H5 (sF5.trans st5.sub) hjl,fun v2 H6 y2=>?_⟩;obtain ⟨F6,d2,ed2,s6,rd2⟩ := hJ2.yld j F5 H5 v2 H6 sF5 st5.sub hjl y2;have hd2 : es.drop j = d2 :: es.drop (j + 1) := by rw [List.drop_eq_getElem_cons hjl];rw [List.getElem?_eq_getElem hjl] at ed2;cases ed2;rfl
            rw [hd2] at ec2;unfold compL at ec2;rw [show setD (caps.length + 1) d2 ρ1 = some (ρ1.set (caps.length + 1) (some (false,d2))) from rfl] at ec2
            dsimp only [yesR] at ec2;have hD6 : H6 Da = some o5 := s6.same _ _ hD5;have hF6 : F6 Da = none := s6.new _ hF5 (by rw [hD5];exact fun z=>nomatch z)
            have R5 : RelSt (C.at X).K (C.at X).F0 (C.at X).H0 F6 H6 (σ0.set caps.length (some v)) ρ1 := R4.later af1 (RS.st.trans (st5.trans s6)) (sF5.trans s6.fsame);have R6 : RelSt (C.at X).K (C.at X).F0 (C.at X).H0 F6 H6 ((σ0.set caps.length (some v)).set (caps.length + 1) (some v2)) (ρ1.set (caps.length + 1) (some (false,d2))) := R5.set (m := false) (.refl s6.sub) rd2 (by intro z;cases z)
            simp only [gOf];refine ⟨⟨by simp,fun k u ek=>?_⟩,?_⟩
            . have : k ≠ caps.length + 1 := by
                rintro rfl;rw [List.getElem?_set_ne (by omega)] at ek
                exact n1 u ek
              rw [List.getElem?_set_ne (fun z=>this z.symm)];exact ek
            unfold emT;rw [tG_eq];refine ⟨_,F6,R6,?_⟩;cases ee : frzR (ge (ρ1.set (caps.length + 1) (some (false,d2)))) with
            | stuck=>rw [ee] at ec2;cases ec2
            | exc c=>rw [ee] at ec2;cases ec2
            | ok me ye =>
             rw [ee] at ec2;dsimp only at ec2;cases frz_fz ee;cases er2 : compL (setD (caps.length + 1)) yesR ge ρ1 (es.drop (j + 1)) with
             | none=>rw [er2] at ec2;cases ec2
             | some rest3 =>
              rw [er2] at ec2;cases ec2;intro u F7 H7 s7 ru _;have hD7 : H7 Da = some o5 := s7.same _ _ hD6;have hF7 : F7 Da = none := s7.new _ hF6 (by rw [hD6];exact fun z=>nomatch z)
              have hll : zs5.length < limA b := by have := congrArg List.length etot2;simp only [List.length_append,List.length_cons] at this;omega
              have hst : b = false -> isStrD ye = true := fun eb=>List.all_eq_true.mp (str eb) ye (by rw [etot2];simp)
              refine ar5.add (s6.fsame.trans s7.fsame) ru hll hst hD7 fun o' ar'=>?_;exact ⟨es.length - (j + 1),by omega,rfl,hjl,F7,zs5 ++ [ye],o',upd_same,ar',((st5.trans s6).trans s7).upd hD0 hF7,(sF5.trans s6.fsame).trans s7.fsame,hF7,rest3,rfl,by rw [etot2];simp⟩
          . have ej : j = es.length := by omega
            subst ej;rw [List.drop_length] at ec2;cases ec2;rw [List.append_nil] at etot2;exact .inl ⟨hJ2.stop _ H5 (sF5.trans st5.sub) (Nat.le_refl _),ds.length - (i + 1),by omega,rfl,hlt,F5,zs5,o5,hD5,ar5,st5,(((sF.trans s2.fsame).trans s3.fsame).trans s4.fsame).trans sF5,hF5,rest',rfl,by simpa using etot2⟩
       | _=>rw [ei] at ec;cases ec
    | _=>rw [ett] at ec;cases ec
 . have ei : i = ds.length := by omega
   subst ei;rw [List.drop_length] at ec;cases ec;rw [List.append_nil] at etot;subst etot;exact .inl ⟨hJ.stop _ H' (sF.trans st.sub) (Nat.le_refl _),fin F' H' o st hFD hD ar⟩
end
def comp2R (src : Res) (ρ : Rho) (caps : List Nat) (t gi2 e : Rho -> Res) : Res := src.thn fun _ d=>match d with
 | .lst ds=>(match comp2L caps.length (caps.length + 1) t gi2 e (subR caps ρ ++ List.replicate 2 none) ds with
  | some ys=>if ys.length <= sizeLine then .ok .fr (.lst ys) else .stuck
  | none=>.stuck)
 | _=>.stuck
def uscR (src : Res) (ρ : Rho) (caps : List Nat) (t gi2 e : Rho -> Res) : Res := src.thn fun _ d=>match d with
 | .lst ds=>(match comp2L caps.length (caps.length + 1) t gi2 e (subR caps ρ ++ List.replicate 2 none) ds with
  | some ys=>(match txD ys with
   | some ns=>if ns.length < scanBound /\ (uni ns).length < 64 then .ok .fr (.lst ((uni ns).map .str)) else .stuck
   | none=>.stuck)
  | none=>.stuck)
 | _=>.stuck
theorem txD_map : ∀ {ys : List D} {ns : List Str},txD ys = some ns -> ys = ns.map .str /\ ys.all isStrD = true
 | [],ns,e=>by simp [txD] at e;subst e;exact ⟨rfl,rfl⟩
 | d :: ds,ns,e=>by
  cases d with
  | str x =>
   unfold txD at e;cases h : txD ds with
   | none=>rw [h] at e;cases e
   | some ms=>rw [h] at e;cases e;obtain ⟨e1,e2⟩ := txD_map h;exact ⟨by rw [e1];rfl,by rw [List.all_cons,e2];rfl⟩
  | _=>simp [txD] at e
section
variable {C : Cw} {X : Cx} {elt iter tg iter2 tg2 : Expr} {ifs : List Expr} {scope : Scope} {pos : Pos} {caps : List Nat} {capN tgN : List Str} {gi gt gi2 ge : Rho -> Res}
theorem comp2_tG {σ : L2.St} {H : Hp} {Q : VK} (q : tG (C.at X) (fun ρ=>comp2R (gi ρ) ρ caps gt gi2 ge) σ H Q) : tComp2 X.w true caps 2 (tIv (C.at X) gi) (gOf X.K (.nm caps.length)) (tT (C.nox.at X) gt) (tIv (C.nox.at X) gi2) (gOf X.K (.nm (caps.length + 1))) (emT X.w true (tG (C.nox.at X) fun ρ=>frzR (ge ρ))) σ H Q := by
 rw [tG_eq] at q;obtain ⟨ρ,F,RS,w⟩ := q;unfold tComp2;refine ⟨ρ,F,RS,?_⟩;cases er : gi ρ with
 | stuck=>rw [er] at w;exact w
 | exc c=>rw [er] at w;exact w
 | ok m d =>
  rw [er] at w;cases d with
  | lst ds =>
   unfold comp2R at w;rw [Res.thn_ok] at w;dsimp only at w;intro J F1 H1 s1 hJ Da hDa;cases et : comp2L caps.length (caps.length + 1) gt gi2 ge (subR caps ρ ++ List.replicate 2 none) ds with
   | none=>rw [et] at w;exact w.elim
   | some total =>
    rw [et] at w;dsimp only at w;split at w
    . rename_i hsz;refine comp2_run (b := true) RS et hsz (fun z=>nomatch z) s1 hJ hDa fun F' H' o st hF hD ar=>?_;obtain ⟨ys,rfl,r⟩ := ar;exact w (.ref Da) F' H' st ⟨Da,rfl,hF,ys,hD,r⟩ fun _ a ea=>by cases ea;exact s1.same.free hDa
    . exact w.elim
  | _=>exact w.elim
theorem usc_tG {σ : L2.St} {H : Hp} {Q : VK} (q : tG (C.at X) (fun ρ=>uscR (gi ρ) ρ caps gt gi2 ge) σ H Q) : tCB (rSrt X) (tCons (tComp2 X.w false caps 2 (tIv (C.at X) gi) (gOf X.K (.nm caps.length)) (tT (C.nox.at X) gt) (tIv (C.nox.at X) gi2) (gOf X.K (.nm (caps.length + 1))) (emT X.w false (tG (C.nox.at X) fun ρ=>frzR (ge ρ)))) tNil) σ H Q := by
 show tComp2 X.w false caps 2 (tIv (C.at X) gi) (gOf X.K (.nm caps.length)) (tT (C.nox.at X) gt) (tIv (C.nox.at X) gi2) (gOf X.K (.nm (caps.length + 1))) (emT X.w false (tG (C.nox.at X) fun ρ=>frzR (ge ρ))) σ H fun r H5=>rSrt X [r] H5 Q;rw [tG_eq] at q;obtain ⟨ρ,F,RS,w⟩ := q;unfold tComp2;refine ⟨ρ,F,RS,?_⟩;cases er : gi ρ with
 | stuck=>rw [er] at w;exact w
 | exc c=>rw [er] at w;exact w
 | ok m d =>
  rw [er] at w;cases d with
  | lst ds =>
   unfold uscR at w;rw [Res.thn_ok] at w;dsimp only at w;intro J F1 H1 s1 hJ Da hDa;cases et : comp2L caps.length (caps.length + 1) gt gi2 ge (subR caps ρ ++ List.replicate 2 none) ds with
   | none=>rw [et] at w;exact w.elim
   | some total =>
    rw [et] at w;dsimp only at w;cases ex : txD total with
    | none=>rw [ex] at w;exact w.elim
    | some ns =>
     rw [ex] at w;dsimp only at w;split at w
     . rename_i hsz;obtain ⟨em,ea⟩ := txD_map ex;refine comp2_run (b := false) (Q := fun r H5=>rSrt X [r] H5 Q) RS et (by rw [em,List.length_map];exact Nat.le_sub_one_of_lt hsz.1) (fun _=>ea) s1 hJ hDa fun F' H' o st hF hD ar=>?_
       obtain ⟨ms,ys,e1,rfl,nd,ll,me,ok⟩ := ar;have e2 : ns = ms := by rw [em] at e1;exact List.map_inj_right (fun x y h=>by cases h;rfl) |>.mp e1
       subst e2;have eu : uni ys = uni ns := strict_ext (uni_strict _) (uni_strict _) fun y=>by rw [uni_mem,uni_mem,me]
       have l2 : ys.length <= (uni ns).length := len_le nd fun y hy=>by rw [uni_mem];exact (me y).mp hy
       refine ⟨Da,ys,rfl,hD,nd,Nat.lt_of_le_of_lt l2 hsz.2,fun L hL=>?_⟩;have s6 := st.trans (Step.fresh (.lst ((uni ys).map V.str)) st.sub hL);refine w (.ref L) F' _ s6 ⟨L,rfl,st.sub.free hL,_,upd_same,?_⟩ fun _ a' ea'=>?_
       . rw [eu];exact repL_strs fun x hx=>ok x (uni_mem.mp hx)
       . cases ea';exact st.same.free hL
     . exact w.elim
  | _=>exact w.elim
theorem eval_CE (b : Bool) (gens : List Comprehension) (env : Env) : eval (CE b elt gens scope pos) env = comprehension (CE b elt gens scope pos) scope env (firstIterPos gens pos) (accN b) (firstAsync gens) (firstIter gens env) := by cases b <;> rfl
variable (hc : X.calm = true) (hi : PIv C X tg iter gi) (hcell : ∀ y ∈ scope.names, y.2 ≠ .cell) (hkind : scope.kind = .function) (hnames : ∀ y ∈ scope.names, y.2 = .local → scope.names.lookup y.1 = some .local)
    (hfree : ∀ y ∈ scope.names,y.2 = .free -> X.env.kindOf y.1 = some .cell \/ X.env.kindOf y.1 = some .free)
    (hcapN : capN.map some = caps.map fun i=>X.N[i]?) (hcapF : ∀ y ∈ capN,(y,NameKind.free) ∈ scope.names)
    (hcapK : ∀ y ∈ capN,(relabel scope X.env).names.lookup y = some .cell \/ (relabel scope X.env).names.lookup y = some .free)
    (hn : tgN.length = 2)
    (hg : ∀ cl A fp s3 H3,PGw (compCx X scope (capN ++ tgN) cl A fp s3 H3) tg (.nm caps.length)) (hf : ∀ cl A fp s3 H3,PIfs (compCx X scope (capN ++ tgN) cl A fp s3 H3) ifs (tT (C.nox.at X) gt))
    (hi2 : ∀ cl A fp s3 H3,PIv C.nox (compCx X scope (capN ++ tgN) cl A fp s3 H3) tg2 iter2 gi2) (hg2 : ∀ cl A fp s3 H3,PGw (compCx X scope (capN ++ tgN) cl A fp s3 H3) tg2 (.nm (caps.length + 1)))
    (he : ∀ cl A fp s3 H3,PV C.nox (compCx X scope (capN ++ tgN) cl A fp s3 H3) elt ge)
    (hs : ∀ x,foldedSetIterable iter X.env x = pure x) (hs2 : ∀ env x,foldedSetIterable iter2 env x = pure x)
include hc hi hcell hkind hnames hfree hcapN hcapF hcapK hn hg hf hi2 hg2 he hs hs2
theorem pe_comp2 (b : Bool) : PE X (CE b elt [⟨tg,iter,ifs,0⟩,⟨tg2,iter2,[],0⟩] scope pos) (tComp2 X.w b caps 2 (tIv (C.at X) gi) (gOf X.K (.nm caps.length)) (tT (C.nox.at X) gt) (tIv (C.nox.at X) gi2) (gOf X.K (.nm (caps.length + 1))) (emT X.w b (tG (C.nox.at X) fun ρ=>frzR (ge ρ)))) := by intro pins s σ H Q I h;rw [eval_CE];rw [<- hn] at h;exact comp2_core (wi2 := tIv (C.nox.at X) gi2) (use := none) hc hi hcell hkind hnames hfree hcapN hcapF hcapK hg hf hi2 hg2 (fun cl A fp s3 H3 D=>pem b D (pv_frz (he cl A fp s3 H3))) hs hs2 I h fun D Z s6 H5 hm hI _ _ _ _ _ q=>by obtain ⟨m,hm⟩ := hm;exact ⟨m,hm,fun h'' hs=>⟨.ref D,H5,hI h'' hs,rfl,q⟩⟩
theorem pv_comp2 : PV C X (.ListComp elt [⟨tg,iter,ifs,0⟩,⟨tg2,iter2,[],0⟩] scope pos) (fun ρ=>comp2R (gi ρ) ρ caps gt gi2 ge) :=
 PE.imp (pe_comp2 (pos := pos) hc hi hcell hkind hnames hfree hcapN hcapF hcapK hn hg hf hi2 hg2 he hs hs2 true) fun σ H Q q=>comp2_tG q
theorem pv_usc {p q : Pos} (gs : Gl X "sorted") (ns : X.mg "sorted" = none) : PV C X (.Call (.Name "sorted" p) [.SetComp elt [⟨tg,iter,ifs,0⟩,⟨tg2,iter2,[],0⟩] scope pos] [] q) (fun ρ=>uscR (gi ρ) ρ caps gt gi2 ge) :=
 PE.imp (pe_callB (call_srtR hc) gs ns bb_sorted (pa_cons (pe_comp2 (pos := pos) hc hi hcell hkind hnames hfree hcapN hcapF hcapK hn hg hf hi2 hg2 he hs hs2 false) pa_nil)) fun σ H Q q=>usc_tG q
theorem psv_setC2 {i : Nat} {x : Str} {pos' spos : Pos} (fz : Bool) (hN : X.N.Nodup) (hx : X.N[i]? = some x) (hk : X.env.scope.names.lookup x = some .local) (hsw : swapsWith (.ListComp elt [⟨tg,iter,ifs,0⟩,⟨tg2,iter2,[],0⟩] scope pos) (some (.Name x pos')) spos.line X.env = pure true) : PSv C X (.Assign [.Name x pos'] (.ListComp elt [⟨tg,iter,ifs,0⟩,⟨tg2,iter2,[],0⟩] scope pos) spos) (fun ρ=>setS ρ i (if fz = true then frzR (comp2R (gi ρ) ρ caps gt gi2 ge) else comp2R (gi ρ) ρ caps gt gi2 ge)) := by
 have key : PS X (.Assign [.Name x pos'] (.ListComp elt [⟨tg,iter,ifs,0⟩,⟨tg2,iter2,[],0⟩] scope pos) spos) (tAsg (tComp2 X.w true caps tgN.length (tIv (C.at X) gi) (gOf X.K (.nm caps.length)) (tT (C.nox.at X) gt) (tIv (C.nox.at X) gi2) (gOf X.K (.nm (caps.length + 1))) (emT X.w true (tG (C.nox.at X) fun ρ=>frzR (ge ρ)))) (gName i)) := by
  intro pins s σ H En I h;rw [exec_Assign_Name_used _ _ _ _ hsw];refine wpAny_bind (wpAny_standAt (wpAny_bind ?_));show wpAny _ X.A (comprehension (CE true elt [⟨tg,iter,ifs,0⟩,⟨tg2,iter2,[],0⟩] scope pos) scope X.env (firstIterPos [⟨tg,iter,ifs,0⟩,⟨tg2,iter2,[],0⟩] pos) (accN true) (firstAsync [⟨tg,iter,ifs,0⟩,⟨tg2,iter2,[],0⟩]) (firstIter [⟨tg,iter,ifs,0⟩,⟨tg2,iter2,[],0⟩] X.env) (some (assign (.Name x pos') X.env)) >>= _) _ _ s;refine wpAny_bind (comp2_core (wi2 := tIv (C.nox.at X) gi2) (use := some (assign (.Name x pos') X.env)) hc hi hcell hkind hnames hfree hcapN hcapF hcapK hg hf hi2 hg2 (fun cl A fp s3 H3 D=>pem true D (pv_frz (he cl A fp s3 H3))) hs hs2 I h fun D Z s6 H5 hm hI hz h0 h1 h2 h3 q=>?_);obtain ⟨m,hm⟩ := hm;have I6 := hI s6.heap (Heap.SameBut.refl _ _);refine wpAny_assign_Name (store_ok2 I6 hN hx (.inl hk) (show RelV (.ref D) (.ref D) from rfl) (fun s' I' hch=>?_) (.inr hk))
  obtain ⟨a,sb,ha⟩ := hch;have na : Z ≠ a := by
   rcases ha with rfl | ha
   . exact h1
   . exact fun z=>h2 x a ha z.symm
  exact ⟨m,hm.sameBut sb na,fun h'' hs2=>wpAny_pure (wpAny_pure ⟨_,H5,I'.dropped hs2 hz h0 h1 h2 h3,q⟩)⟩
 rw [hn] at key;refine PS.imp key fun E σ H q=>comp2_tG ?_;cases fz with
 | false=>exact set_tG q
 | true=>have q := set_tG q;unfold tAsg at q;rw [tG_eq] at q ⊢;obtain ⟨ρ,F,R,w⟩ := q;exact ⟨ρ,F,R,Want.frz w⟩
end
end D3
namespace D3
open PySem PySem.Spec PyProof.Rows L2 PySem.W
structure StrO (n : Nat) (lt : Nat -> Nat -> Bool) : Prop where
 tr : ∀ {i j k},lt i j = true -> lt j k = true -> lt i k = true
 asy : ∀ {i j},lt i j = true -> lt j i = false
 tot : ∀ {i j},i < n -> j < n -> i ≠ j -> lt i j = true \/ lt j i = true
structure PP (n : Nat) (p : Array Nat) : Prop where
 size : p.size = n
 below : ∀ k,p.getD k 0 < n
 inj : ∀ i j,i < n -> j < n -> p.getD i 0 = p.getD j 0 -> i = j
theorem PP.perm {n : Nat} {p q : Array Nat} (h : PP n p) (e : q.Perm p) : PP n q := by
 have sz : q.size = n := by rw [e.size_eq,h.size]
 have nd : p.toList.Nodup := by
  refine List.pairwise_iff_getElem.mpr fun i j hi hj hij e1=>?_;rw [Array.length_toList] at hi hj;have a1 : p.getD i 0 = p.getD j 0 := by
   have e1 : p[i] = p[j] := by simpa using e1
   simp [Array.getD,hi,hj,e1]
  rw [h.size] at hi hj;exact absurd (h.inj i j hi hj a1) (by omega)
 have nd2 : q.toList.Nodup := (Array.perm_iff_toList_perm.mp e).symm.nodup nd;refine ⟨sz,fun k=>?_,fun i j hi hj e1=>?_⟩
 . simp only [Array.getD_eq_getD_getElem?];cases z : q[k]? with
   | none=>have := h.below p.size;simp only [Array.getD_eq_getD_getElem?,Array.getElem?_size] at this;exact this
   | some v =>
    have hm : v ∈ p.toList := (Array.perm_iff_toList_perm.mp e).mem_iff.mp (by rw [Array.mem_toList_iff];exact Array.mem_of_getElem? z)
    obtain ⟨i,hi⟩ := List.getElem?_of_mem hm;have := h.below i;rw [Array.getElem?_toList] at hi;simp only [Array.getD_eq_getD_getElem?,hi] at this;exact this
 . have hi' : i < q.toList.length := by rw [Array.length_toList,sz];exact hi
   have hj' : j < q.toList.length := by rw [Array.length_toList,sz];exact hj
   refine (List.getElem_inj (h₀ := hi') (h₁ := hj') nd2).mp ?_;have a1 : i < q.size := by omega
   have a2 : j < q.size := by omega
   simpa [Array.getD,a1,a2] using e1
section
variable {n : Nat} {lt : Nat -> Nat -> Bool} {cmp : Nat -> Nat -> (Bool -> Shared -> Prop) -> Shared -> Prop} {J : Shared -> Prop}
def Upto (lt : Nat -> Nat -> Bool) (p : Array Nat) (b : Nat) : Prop := ∀ i j,i < j -> j < b -> lt (p.getD i 0) (p.getD j 0) = true
def Dnto (lt : Nat -> Nat -> Bool) (p : Array Nat) (b : Nat) : Prop := ∀ i j,i < j -> j < b -> lt (p.getD j 0) (p.getD i 0) = true
def Asks (n : Nat) (lt : Nat -> Nat -> Bool) (cmp : Nat -> Nat -> (Bool -> Shared -> Prop) -> Shared -> Prop) (J : Shared -> Prop) : Prop := ∀ i j s C,i < n -> j < n -> J s -> (∀ s',J s' -> C (lt i j) s') -> cmp i j C s
theorem Upto.more (O : StrO n lt) {p : Array Nat} {m : Nat} (h : Upto lt p m) (hm : 1 <= m) (e : lt (p.getD (m - 1) 0) (p.getD m 0) = true) : Upto lt p (m + 1) := fun i j hij hj=>by
 by_cases hjm : j < m
 . exact h i j hij hjm
 . have : j = m := by omega
   subst this;by_cases hi : i = j - 1
   . rw [hi];exact e
   . exact O.tr (h i (j - 1) (by omega) (by omega)) e
theorem Dnto.more (O : StrO n lt) {p : Array Nat} {m : Nat} (h : Dnto lt p m) (hm : 1 <= m) (e : lt (p.getD m 0) (p.getD (m - 1) 0) = true) : Dnto lt p (m + 1) := fun i j hij hj=>by
 by_cases hjm : j < m
 . exact h i j hij hjm
 . have : j = m := by omega
   subst this;by_cases hi : i = j - 1
   . rw [hi];exact e
   . exact O.tr e (h i (j - 1) (by omega) (by omega))
theorem asc_ok (O : StrO n lt) (hc : Asks n lt cmp J) {p : Array Nat} (pp : PP n p) : ∀ (f m : Nat) (s : Shared) (Q : Nat -> Shared -> Prop),m + f = n -> 1 <= m -> Upto lt p m -> J s -> (∀ m' s',m <= m' -> m' <= n -> Upto lt p m' -> (m' < n -> lt (p.getD m' 0) (p.getD (m' - 1) 0) = true) -> J s' -> Q m' s') -> (kas_asc p f m).kasWp cmp Q s
 | 0,m,s,Q,e,h1,u,hJ,q=>q m s (Nat.le_refl _) (by omega) u (fun z=>by omega) hJ
 | f + 1,m,s,Q,e,h1,u,hJ,q=>by
  refine hc _ _ s _ (pp.below m) (pp.below (m - 1)) hJ fun s' hJ'=>?_;cases ec : lt (p.getD m 0) (p.getD (m - 1) 0) with
  | true=>exact q m s' (Nat.le_refl _) (by omega) u (fun _=>ec) hJ'
  | false =>
   have ne : p.getD m 0 ≠ p.getD (m - 1) 0 := fun z=>by
    have := pp.inj m (m - 1) (by omega) (by omega) z
    omega
   have e1 : lt (p.getD (m - 1) 0) (p.getD m 0) = true := (O.tot (pp.below (m - 1)) (pp.below m) ne.symm).resolve_right (by rw [ec];decide)
   exact asc_ok O hc pp f (m + 1) s' Q (by omega) (by omega) (u.more O h1 e1) hJ' fun m' s2 a b c d e=>q m' s2 (by omega) b c d e
theorem desc_ok (O : StrO n lt) (hc : Asks n lt cmp J) {p : Array Nat} (pp : PP n p) : ∀ (f m : Nat) (s : Shared) (Q : Array Nat × Nat × Nat -> Shared -> Prop),m + f = n -> 1 <= m -> Dnto lt p m -> J s -> (∀ m' s',m <= m' -> m' <= n -> Dnto lt p m' -> J s' -> Q (p,m',0) s') -> (kas_desc f p m 0).kasWp cmp Q s
 | 0,m,s,Q,e,h1,u,hJ,q=>q m s (Nat.le_refl _) (by omega) u hJ
 | f + 1,m,s,Q,e,h1,u,hJ,q=>by
  refine hc _ _ s _ (pp.below m) (pp.below (m - 1)) hJ fun s' hJ'=>?_;cases ec : lt (p.getD m 0) (p.getD (m - 1) 0) with
  | true=>show (kas_desc f p (m + 1) 0).kasWp cmp Q s';exact desc_ok O hc pp f (m + 1) s' Q (by omega) (by omega) (u.more O h1 ec) hJ' fun m' s2 a b c d=>q m' s2 (by omega) b c d
  | false =>
   have ne : p.getD m 0 ≠ p.getD (m - 1) 0 := fun z=>by
    have := pp.inj m (m - 1) (by omega) (by omega) z
    omega
   have e1 : lt (p.getD (m - 1) 0) (p.getD m 0) = true := (O.tot (pp.below (m - 1)) (pp.below m) ne.symm).resolve_right (by rw [ec];decide)
   refine hc _ _ s' _ (pp.below (m - 1)) (pp.below m) hJ' fun s2 hJ2=>?_;rw [e1];exact q m s2 (Nat.le_refl _) (by omega) u hJ2
theorem rev_up (O : StrO n lt) {p : Array Nat} (pp : PP n p) {m : Nat} (hm : m <= n) (d : Dnto lt p m) : Upto lt (kas_rev p 0 m) m /\ PP n (kas_rev p 0 m) := by
 have pe : (kas_rev p 0 m).Perm p := mirror_perm _ _ _ _;refine ⟨fun i j hij hj=>?_,pp.perm pe⟩;have g : ∀ k,k < m -> (kas_rev p 0 m).getD k 0 = p.getD (m - 1 - k) 0 := fun k hk=>by
  simp only [Array.getD_eq_getD_getElem?];unfold kas_rev;rw [getElem?_mirror_all (by rw [pp.size];exact hm),if_pos (by omega)]
  congr 2;omega
 rw [g i (by omega),g j hj]
 exact d _ _ (by omega) (by omega)
theorem count_ok (O : StrO n lt) (hc : Asks n lt cmp J) (hn : 2 <= n) {p : Array Nat} (pp : PP n p) {s : Shared} {Q : Nat × Array Nat -> Shared -> Prop} (hJ : J s) (q : ∀ m' p' s',1 <= m' -> m' <= n -> PP n p' -> p'.Perm p -> Upto lt p' m' -> J s' -> Q (m',p') s') : (kas_count n p).kasWp cmp Q s := by
 unfold kas_count;rw [KasT.kasWp_bind];refine asc_ok O hc pp (n - 1) 1 s _ (by omega) (Nat.le_refl _) (fun i j h1 h2=>by omega) hJ fun m s1 a b u d hJ1=>?_
 by_cases em : m = n
 . rw [if_pos (by simpa using em)]
   exact q m p s1 a b pp (Array.Perm.refl _) u hJ1
 . rw [if_neg (by simpa using em)]
   by_cases h1 : m > 1
   . rw [if_pos h1];refine hc _ _ s1 _ (pp.below 0) (pp.below (m - 1)) hJ1 fun s2 hJ2=>?_;rw [u 0 (m - 1) (by omega) (by omega)]
     exact q m p s2 a b pp (Array.Perm.refl _) u hJ2
   . rw [if_neg h1];have e1 : m = 1 := by omega
     subst e1;unfold kas_descPart;rw [KasT.kasWp_bind];have d2 : Dnto lt p 2 := fun i j hij hj=>by
      have : i = 0 /\ j = 1 := by omega
      rw [this.1,this.2];exact d (by omega)
     refine desc_ok O hc pp (n - 2) 2 s1 _ (by omega) (by omega) d2 hJ1 fun m' s2 a' b' d' hJ2=>?_
     rw [if_neg (by simp)]
     unfold kas_tail3;rw [KasT.kasWp_bind];obtain ⟨u',pp'⟩ := rev_up O pp b' d';exact asc_ok O hc pp' (n - m') m' s2 _ (by omega) (by omega) u' hJ2 fun m2 s3 a2 b2 u2 _ hJ3=>q m2 _ s3 (by omega) b2 pp' (mirror_perm _ _ _ _) u2 hJ3
theorem place_ok (O : StrO n lt) (hc : Asks n lt cmp J) {p : Array Nat} (pp : PP n p) {k : Nat} (hk : k < n) (u : Upto lt p k) : ∀ (f l r : Nat) (s : Shared) (Q : Nat -> Shared -> Prop),l <= r -> r <= k -> r - l <= f -> J s -> (∀ i,i < l -> lt (p.getD i 0) (p.getD k 0) = true) -> (∀ i,r <= i -> i < k -> lt (p.getD k 0) (p.getD i 0) = true) -> (∀ l' s',l' <= k -> (∀ i,i < l' -> lt (p.getD i 0) (p.getD k 0) = true) -> (∀ i,l' <= i -> i < k -> lt (p.getD k 0) (p.getD i 0) = true) -> J s' -> Q l' s') -> (kas_place p k f l r).kasWp cmp Q s
 | 0,l,r,s,Q,h1,h2,h3,hJ,a,b,q=>q l s (by omega) a (fun i hi=>b i (by omega)) hJ
 | f + 1,l,r,s,Q,h1,h2,h3,hJ,a,b,q=>by
  unfold kas_place;by_cases hlr : l ≥ r
  . rw [if_pos hlr];exact q l s (by omega) a (fun i hi=>b i (by omega)) hJ
  . rw [if_neg hlr];refine hc _ _ s _ (pp.below k) (pp.below ((l + r) / 2)) hJ fun s' hJ'=>?_;cases ec : lt (p.getD k 0) (p.getD ((l + r) / 2) 0) with
    | true =>
     refine place_ok O hc pp hk u f l ((l + r) / 2) s' Q (by omega) (by omega) (by omega) hJ' a (fun i h4 h5=>?_) q
     by_cases e : i = (l + r) / 2
     . rw [e];exact ec
     . exact O.tr ec (u _ i (by omega) h5)
    | false =>
     have ne : p.getD k 0 ≠ p.getD ((l + r) / 2) 0 := fun z=>by
      have := pp.inj k ((l + r) / 2) hk (by omega) z
      omega
     have e1 : lt (p.getD ((l + r) / 2) 0) (p.getD k 0) = true := (O.tot (pp.below _) (pp.below k) ne.symm).resolve_right (by rw [ec];decide)
     refine place_ok O hc pp hk u f ((l + r) / 2 + 1) r s' Q (by omega) h2 (by omega) hJ' (fun i h4=>?_) b q
     by_cases e : i = (l + r) / 2
     . rw [e];exact e1
     . exact O.tr (u i _ (by omega) (by omega)) e1
theorem bin_ok (O : StrO n lt) (hc : Asks n lt cmp J) : ∀ (f k : Nat) (p : Array Nat) (s : Shared) (Q : Array Nat -> Shared -> Prop),k + f = n -> PP n p -> Upto lt p k -> J s -> (∀ p' s',PP n p' -> p'.Perm p -> Upto lt p' n -> J s' -> Q p' s') -> (kas_bin f p k).kasWp cmp Q s
 | 0, k, p, s, Q, e, pp, u, hJ, q => q p s pp (Array.Perm.refl _) (by have : k = n := by omega
                                                                      rw [<- this];exact u) hJ
 | f + 1,k,p,s,Q,e,pp,u,hJ,q=>by
  unfold kas_bin;rw [KasT.kasWp_bind];refine place_ok O hc pp (by omega) u k 0 k s _ (Nat.zero_le _) (Nat.le_refl _) (by omega) hJ (fun i h=>by omega) (fun i h1 h2=>by omega) fun l s1 hl a b hJ1=>?_
  have pe : (bubble p k (k - l)).Perm p := bubble_perm _ _ _;have g := getElem?_bubble (xs := p) (src := k) (by rw [pp.size];omega) (k - l) (by omega)
  refine bin_ok O hc f (k + 1) _ s1 Q (by omega) (pp.perm pe) (fun i j hij hj=>?_) hJ1 fun p' s2 x y z w=>q p' s2 x (y.trans pe) z w
  have el : k - (k - l) = l := by omega
  rw [el] at g;have gd : ∀ i,(bubble p k (k - l)).getD i 0 = if i = l then p.getD k 0 else if l < i /\ i <= k then p.getD (i - 1) 0 else p.getD i 0 := fun i=>by
   simp only [Array.getD_eq_getD_getElem?];rw [g i];split
   . rfl
   . split <;> rfl
  rw [gd i,gd j];by_cases h1 : i < l
  . rw [if_neg (by omega),if_neg (by omega)]
    by_cases h2 : j = l
    . rw [if_pos h2];exact a i h1
    . rw [if_neg h2];split
      . exact u i (j - 1) (by omega) (by omega)
      . exact u i j hij (by omega)
  . by_cases h2 : i = l
    . rw [if_pos h2,if_neg (by omega),if_pos (by omega)]
      exact b (j - 1) (by omega) (by omega)
    . rw [if_neg h2,if_pos (by omega),if_neg (by omega),if_pos (by omega)]
      exact u (i - 1) (j - 1) (by omega) (by omega)
theorem sort_ok (O : StrO n lt) (hc : Asks n lt cmp J) (hn : 2 <= n) {s : Shared} {Q : Array Nat -> Shared -> Prop} (hJ : J s) (q : ∀ p s',PP n p -> p.Perm (List.toArray (List.range n)) -> Upto lt p n -> J s' -> Q p s') : (kas_sort n).kasWp cmp Q s := by
 unfold kas_sort;rw [KasT.kasWp_bind];have pp : PP n (List.toArray (List.range n)) := by
  refine ⟨by simp,fun k=>?_,fun i j hi hj e=>?_⟩
  . simp only [Array.getD_eq_getD_getElem?,List.getElem?_toArray,List.getElem?_range];by_cases hk : k < n
    . simp [hk]
    . simp [hk];omega
  . simpa [Array.getD,hi,hj] using e
 refine count_ok O hc hn pp hJ fun m p s1 a b pp' pe u hJ1=>?_;by_cases h : m < n
 . rw [if_pos h];have em : max m 1 = m := by omega
   rw [em];exact bin_ok O hc (n - m) m p s1 Q (by omega) pp' u hJ1 fun p' s2 x y z w=>q p' s2 x (y.trans pe) z w
 . rw [if_neg h];have em : m = n := by omega
   subst em;exact q p s1 pp' pe u hJ1
end
def ltT : List Str -> List Str -> Bool
 | [],[]=>false
 | [],_ :: _=>true
 | _ :: _,[]=>false
 | x :: xs,y :: ys=>if x = y then ltT xs ys else lts x y
theorem ltT_irr : ∀ a : List Str,ltT a a = false
 | []=>rfl
 | x :: xs=>by unfold ltT;rw [if_pos rfl];exact ltT_irr xs
theorem ltT_trans : ∀ {a b c : List Str},ltT a b = true -> ltT b c = true -> ltT a c = true
 | [],[],_,h,_=>by cases h
 | [],_ :: _,[],_,h=>by cases h
 | [],_ :: _,_ :: _,_,_=>rfl
 | _ :: _,[],_,h,_=>by cases h
 | _ :: _,_ :: _,[],_,h=>by cases h
 | x :: xs,y :: ys,z :: zs,h1,h2=>by
  unfold ltT at h1 h2 ⊢;by_cases e1 : x = y
  . subst e1;rw [if_pos rfl] at h1;by_cases e2 : x = z
    . rw [if_pos e2] at h2 ⊢;exact ltT_trans h1 h2
    . rw [if_neg e2] at h2 ⊢;exact h2
  . rw [if_neg e1] at h1;by_cases e2 : y = z
    . subst e2;rw [if_neg e1];exact h1
    . rw [if_neg e2] at h2;have h3 := lts_trans h1 h2;rw [if_neg (fun e=>by subst e;rw [lts_irr] at h3;cases h3)]
      exact h3
theorem ltT_tri : ∀ {a b : List Str},ltT a b = false -> ltT b a = false -> a = b
 | [],[],_,_=>rfl
 | [],_ :: _,h,_=>by cases h
 | _ :: _,[],_,h=>by cases h
 | x :: xs,y :: ys,h1,h2=>by
  unfold ltT at h1 h2;by_cases e1 : x = y
  . subst e1;rw [if_pos rfl] at h1 h2;rw [ltT_tri h1 h2]
  . rw [if_neg e1] at h1;rw [if_neg (fun e=>e1 e.symm)] at h2;exact absurd (lts_tri h1 h2) e1
theorem ltT_asy {a b : List Str} (h : ltT a b = true) : ltT b a = false := by
 cases e : ltT b a with
 | false=>rfl
 | true=>have := ltT_trans h e;rw [ltT_irr] at this;cases this
def StrictT (l : List (List Str)) : Prop := l.Pairwise fun x y=>ltT x y = true
theorem strictT_ext : ∀ {l l' : List (List Str)},StrictT l -> StrictT l' -> (∀ y,y ∈ l ↔ y ∈ l') -> l = l'
 | [],[],_,_,_=>rfl
 | [],y :: _,_,_,m=>nomatch (m y).mpr mcs
 | y :: _,[],_,_,m=>nomatch (m y).mp mcs
 | x :: l,y :: l',h,h',m=>by
  unfold StrictT at h h';rw [List.pairwise_cons] at h h';have exy : x = y := by
   rcases List.mem_cons.mp ((m x).mp mcs) with e | e
   . exact e
   . rcases List.mem_cons.mp ((m y).mpr mcs) with e' | e'
     . exact e'.symm
     . have a := h.1 y e';have b := h'.1 x e;rw [ltT_asy a] at b;cases b
  subst exy;refine congrArg _ (strictT_ext h.2 h'.2 fun z=>⟨fun hz=>?_,fun hz=>?_⟩)
  . rcases List.mem_cons.mp ((m z).mp (mcm hz)) with e | e
    . subst e;have := h.1 z hz;rw [ltT_irr] at this;cases this
    . exact e
  . rcases List.mem_cons.mp ((m z).mpr (mcm hz)) with e | e
    . subst e;have := h'.1 z hz;rw [ltT_irr] at this;cases this
    . exact e
def insT (x : List Str) : List (List Str) -> List (List Str)
 | []=>[x]
 | y :: l=>if ltT x y = true then x :: y :: l else if x = y then y :: l else y :: insT x l
theorem mem_insT {x z : List Str} : ∀ {l : List (List Str)},z ∈ insT x l ↔ z = x \/ z ∈ l
 | []=>by simp [insT]
 | y :: l=>by
  unfold insT;split
  . simp
  . split
    . rename_i e;subst e;simp
    . rw [List.mem_cons,mem_insT (l := l),List.mem_cons];constructor
      . rintro (h | h | h)
        . exact .inr (.inl h)
        . exact .inl h
        . exact .inr (.inr h)
      . rintro (h | h | h)
        . exact .inr (.inl h)
        . exact .inl h
        . exact .inr (.inr h)
theorem strict_insT {x : List Str} : ∀ {l : List (List Str)},StrictT l -> StrictT (insT x l)
 | [],_=>List.pairwise_singleton _ _
 | y :: l,h=>by
  unfold insT;split
  . rename_i e;refine List.pairwise_cons.mpr ⟨fun z hz=>?_,h⟩;rcases List.mem_cons.mp hz with rfl | hz
    . exact e
    . exact ltT_trans e ((List.pairwise_cons.mp h).1 z hz)
  . split
    . exact h
    . rename_i e1 e2;refine List.pairwise_cons.mpr ⟨fun z hz=>?_,strict_insT (List.pairwise_cons.mp h).2⟩;rcases mem_insT.mp hz with rfl | hz
      . cases e3 : ltT y z with
        | true=>rfl
        | false=>exact absurd (ltT_tri (by simpa using e1) e3) e2
      . exact (List.pairwise_cons.mp h).1 z hz
def uniT (l : List (List Str)) : List (List Str) := l.foldr insT []
theorem uniT_mem {z : List Str} : ∀ {l : List (List Str)},z ∈ uniT l ↔ z ∈ l
 | []=>Iff.rfl
 | x :: l=>by show z ∈ insT x (uniT l) ↔ _;rw [mem_insT,uniT_mem (l := l),List.mem_cons]
theorem uniT_strict : ∀ (l : List (List Str)),StrictT (uniT l)
 | []=>List.Pairwise.nil
 | x :: l=>strict_insT (uniT_strict l)
def TupS (h : Heap) (x : Addr) (a : List Str) : Prop := ∃ o xs n,h.get? x = some o /\ o.cls = .type "tuple" /\ o.data = .seq xs n /\ PyProof.Rows.StrsAre xs.toList a
section
variable {prog : Program} {w : World} {A : Around} {E : VSP} {s : Shared}
theorem strsCons {xs : List Value} {a : Str} {as : List Str} (h : PyProof.Rows.StrsAre xs (a :: as)) : ∃ t xs',xs = .str a t :: xs' /\ PyProof.Rows.StrsAre xs' as := by cases h;exact ⟨_,_,rfl,by assumption⟩
theorem katlex {bb fin : Bool} {Q : Bool -> Shared -> Prop} : ∀ {a b : List Str} {xs ys : List Value} {i : Nat},PyProof.Rows.StrsAre xs a -> PyProof.Rows.StrsAre ys b -> fin = decide (xs.length < ys.length) -> Q (ltT a b) s -> KatLex prog w A bb fin Q (xs.zip ys) i s
 | [],[],xs,ys,i,h1,h2,e,q=>by cases h1;cases h2;subst e;exact q
 | [],b :: bs,xs,ys,i,h1,h2,e,q=>by cases h1;cases h2;subst e;exact q
 | a :: as,[],xs,ys,i,h1,h2,e,q=>by cases h1;cases h2;subst e;exact q
 | a :: as,b :: bs,xs,ys,i,h1,h2,e,q=>by
  obtain ⟨u1,xs,rfl,t1⟩ := strsCons h1;obtain ⟨u2,ys,rfl,t2⟩ := strsCons h2;rw [List.zip_cons_cons];refine kat_cons (eqBool_str (kat_go (fun h=>?_) fun h=>?_))
  . have e1 : a = b := by simpa using h
    refine kat_yes (katlex t1 t2 (by subst e;simp) ?_)
    unfold ltT at q;rw [if_pos e1] at q;exact q
  . have e1 : ¬ a = b := by simpa using h
    refine kat_no ?_;unfold ltT at q;rw [if_neg e1] at q;unfold lts at q;rw [ltCps_eq] at q;cases (bb && i == 0) with
    | true=>exact oneLt_str q
    | false=>exact kat_one _ _ (lt_str q)
theorem tup_lt {x y : Addr} {a b : List Str} {bb : Bool} {Q : Bool -> Shared -> Prop} (hx : TupS s.heap x a) (hy : TupS s.heap y b) (q : Q (ltT a b) s) : wpAny (model prog w) A (keyLt' (tuples' bb) (.ref x) (.ref y)) Q E s := by obtain ⟨o1,xs,n1,g1,_,d1,r1⟩ := hx;obtain ⟨o2,ys,n2,g2,_,d2,r2⟩ := hy;exact kat_lt g1 d1 g2 d2 (katlex r1 r2 (by simp) q)
def TupsAre (h : Heap) (vs : List Value) (ts : List (List Str)) : Prop := vs.length = ts.length /\ ∀ i,i < ts.length -> ∃ x,vs.getD i .none = .ref x /\ TupS h x (ts.getD i [])
theorem TupS.kept {h h' : Heap} {x : Addr} {a : List Str} (t : TupS h x a) (k : ∀ o,h.get? x = some o -> h'.get? x = some o) : TupS h' x a := by obtain ⟨o,xs,n,g,r⟩ := t;exact ⟨o,xs,n,k o g,r⟩
theorem katTups : ∀ {vs : List Value} {ts : List (List Str)},TupsAre s.heap vs ts -> (∀ t ∈ ts,t ≠ []) -> ∃ fs : List Value,KatTups s.heap vs fs /\ fs.length = ts.length /\ ∀ f ∈ fs,∃ x t,f = .str x t
 | [],[],_,_=>⟨[],trivial,rfl,fun f hf=>nomatch hf⟩
 | [],_ :: _,h,_=>by have := h.1;simp at this
 | _ :: _,[],h,_=>by have := h.1;simp at this
 | v :: vs,t :: ts,h,ne=>by
  obtain ⟨x,e,o,xs,n,g,c,d,r⟩ := h.2 0 (by simp)
  have e : v = .ref x := by simpa using e
  subst e;have tail : TupsAre s.heap vs ts := ⟨by simpa using h.1,fun i hi=>by
   have := h.2 (i + 1) (by simpa using hi)
   simpa using this⟩
  obtain ⟨fs,k1,k2,k3⟩ := katTups tail fun t ht=>ne t (mcm ht);have net := ne t mcs;have r : PyProof.Rows.StrsAre xs.toList t := by simpa using r
  obtain ⟨xs⟩ := xs;cases t with
  | nil=>exact absurd rfl net
  | cons a as =>
   simp only at r;cases r with
   | cons r1 =>
    exact ⟨_ :: fs,⟨⟨x,o,_,n,rfl,g,c,d,rfl⟩,k1⟩,by simp [k2],fun f hf=>by
     rcases List.mem_cons.mp hf with rfl | hf
     . exact ⟨_,_,rfl⟩
     . exact k3 f hf⟩
theorem kind_tups {vs : List Value} {ts : List (List Str)} {Q : SortKind -> Shared -> Prop} (h : TupsAre s.heap vs ts) (ne : ∀ t ∈ ts,t ≠ []) (h2 : 0 < ts.length) (q : Q (tuples' true) s) : wpAny (model prog w) A (keyKind' vs.toArray) Q E s := by
 obtain ⟨fs,k1,k2,k3⟩ := katTups h ne;refine kat_kind (T := .type "str") k1 (by omega) (fun v hv=>?_) rfl q
 obtain ⟨x,t,rfl⟩ := k3 v hv;exact Looks.of_pure rfl
end
structure Way (ts : List (List Str)) (p : List Nat) : Prop where
 perm : p.Perm (List.range ts.length)
 up : StrictT (p.map fun i=>ts.getD i [])
theorem map_range_getD {α : Type} (d : α) : ∀ (l : List α),(List.range l.length).map (fun i=>l.getD i d) = l := fun l=>by
 apply List.ext_getElem
 . simp
 . intro i h1 h2;simp at h1;simp [h1]
theorem Way.uni {ts : List (List Str)} {p : List Nat} (h : Way ts p) : (p.map fun i=>ts.getD i []) = uniT ts := by refine strictT_ext h.up (uniT_strict ts) fun y=>?_;rw [uniT_mem];have := (h.perm.map fun i=>ts.getD i []).mem_iff (a := y);rw [map_range_getD] at this;exact this
section
variable {prog : Program} {w : World} {A : Around} {E : VSP} {s : Shared}
theorem strO_of {ts : List (List Str)} (nd : ts.Nodup) : StrO ts.length fun i j=>ltT (ts.getD i []) (ts.getD j []) where
 tr := fun a b=>ltT_trans a b
 asy := fun a=>ltT_asy a
 tot := fun {i j} hi hj ne=>by
  cases e1 : ltT (ts.getD i []) (ts.getD j []) with
  | true=>exact .inl rfl
  | false =>
   cases e2 : ltT (ts.getD j []) (ts.getD i []) with
   | true=>exact .inr rfl
   | false =>
    have e := ltT_tri e1 e2;have e : ts[i] = ts[j] := by simpa [hi,hj] using e
    exact absurd ((List.getElem_inj nd).mp e) ne
theorem way_of {ts : List (List Str)} {p : Array Nat} (pp : PP ts.length p) (pe : p.Perm (List.toArray (List.range ts.length))) (u : Upto (fun i j=>ltT (ts.getD i []) (ts.getD j [])) p ts.length) : Way ts p.toList := by
 refine ⟨by simpa using Array.perm_iff_toList_perm.mp pe,?_⟩
 unfold StrictT;rw [List.pairwise_map];refine List.pairwise_iff_getElem.mpr fun i j hi hj hij=>?_;rw [Array.length_toList] at hi hj;have := u i j hij (by rw [<- pp.size];exact hj)
 simpa [Array.getD,hi,hj] using this
theorem sort_tups {a : Addr} {vs : List Value} {ts : List (List Str)} {n : Nat} {P : PySem.Fin -> Shared -> Prop} (ho : s.heap.get? a = some (seqObj "list" vs.toArray n)) (hv : TupsAre s.heap vs ts) (nd : ts.Nodup) (ne : ts.length <= 1 \/ ∀ t ∈ ts,t ≠ []) (h64 : ts.length < 64) (h : ∀ p,Way ts p -> P (.done (.ret .none)) { s with heap := sortedHeap s.heap a vs (p.map fun i=>vs.getD i .none).toArray }) : wpAny (model prog w) A (Builtin.«list.sort» ⟨[.ref a],[]⟩) P E s := by
 have lv := hv.1;have la : a < s.heap.objs.size := Heap.lt_size ho;rw [list_sort_plain];refine wpAny_bind (listItems_at ho rfl (wpAny_bind (listUpdate_at ho rfl ?_ (by rw [List.size_toArray,sizeLine_eq];omega) (Nat.zero_le _))))
 obtain ⟨e1,ho1⟩ : ∃ c,(s.heap.update a (Obj.mapSeq fun _=>(#[] : Array Value))).get? a = some (seqObj "list" #[] c) := ⟨_,get?_update_seq ho fun _=>#[]⟩;refine wpAny_bind (seqEpoch_at ho1 rfl (wpAny_bind (wpAny_newTuple (wpAny_bind (wpAny_newList (wpAny_holding ?_) (Nat.zero_le _))) (by show vs.length <= _;rw [sizeLine_eq];omega))))
 have old : ∀ b o,b ≠ a -> s.heap.get? b = some o -> (((s.heap.update a (Obj.mapSeq fun _=>(#[] : Array Value))).push (seqObj "tuple" vs.toArray 0)).push (seqObj "list" #[] 0)).get? b = some o := fun b o hb e =>
  hps (hps ((Heap.get?_update_ne _ _ _ _ hb).trans e))
 have ho2 : (((s.heap.update a (Obj.mapSeq fun _=>(#[] : Array Value))).push (seqObj "tuple" vs.toArray 0)).push (seqObj "list" #[] 0)).get? a = some (seqObj "list" #[] e1) := hps (hps ho1);have hv2 : TupsAre (((s.heap.update a (Obj.mapSeq fun _=>(#[] : Array Value))).push (seqObj "tuple" vs.toArray 0)).push (seqObj "list" #[] 0)) vs ts := ⟨lv,fun i hi=>by
  obtain ⟨x,e,t⟩ := hv.2 i hi;refine ⟨x,e,t.kept fun o eo=>old x o (fun z=>?_) eo⟩;obtain ⟨o,xs,m,g,c,d,_⟩ := t;rw [z,ho] at g;cases g;have c : Value.type "list" = .type "tuple" := c;injection c with c
  exact absurd c (by decide)⟩
 have fin := h;show wpAny (model prog w) A _ P E { s with heap := ((s.heap.update a (Obj.mapSeq fun _=>(#[] : Array Value))).push (seqObj "tuple" vs.toArray 0)).push (seqObj "list" #[] 0) }
 dsimp only;by_cases hs : vs.toArray.size < 2
 . rw [if_pos hs,if_pos hs];rw [List.size_toArray] at hs;refine wpAny_bind (wpAny_pure ?_);rw [StateT.run_pure];refine wpAny_bind (wpAny_pure ?_);have w0 : Way ts (List.range ts.length) := ⟨List.Perm.refl _,by
     rw [map_range_getD]
     match ts,lv with
     | [],_=>exact List.Pairwise.nil
     | [t],_=>exact List.pairwise_singleton _ _
     | _ :: _ :: _,lv=>simp at lv;omega⟩
   have ev : ((List.range ts.length).map fun i=>vs.getD i Value.none).toArray = (arrOf (SortSt.mk' general' (vs.toArray.zip vs.toArray) #[] 7 none)).map (·.2) := by
    rw [<- lv,map_range_getD];show vs.toArray = (vs.toArray.zip vs.toArray).map (·.2);apply Array.ext
    . simp
    . intro i h1 h2;simp
   have w1 := fin _ w0;rw [ev] at w1;refine wpAny_bind (seqEpoch_at ho2 rfl (wpAny_bind (listUpdate_at ho2 rfl ?_ (Nat.zero_le _) (by rw [<- ev,List.size_toArray,List.length_map,List.length_range,sizeLine_eq];omega))))
   simp only [bne_self_eq_false,Bool.false_eq_true,if_false];exact wpAny_pure w1
 . rw [if_neg hs,if_neg hs];rw [List.size_toArray] at hs;have ne : ∀ t ∈ ts,t ≠ [] := ne.resolve_left (by omega)
   refine wpAny_bind (kind_tups (s := { s with heap := ((s.heap.update a (Obj.mapSeq fun _=>(#[] : Array Value))).push (seqObj "tuple" vs.toArray 0)).push (seqObj "list" #[] 0) }) hv2 ne (by omega) ?_)
   have ask : Asks ts.length (fun i j=>ltT (ts.getD i []) (ts.getD j [])) (kas_ask prog w A (tuples' true) vs) (fun s'=>s' = { s with heap := ((s.heap.update a (Obj.mapSeq fun _=>(#[] : Array Value))).push (seqObj "tuple" vs.toArray 0)).push (seqObj "list" #[] 0) }) := fun i j s' C hi hj hJ q=>by subst hJ;unfold kas_ask;obtain ⟨x,e1,t1⟩ := hv2.2 i hi;obtain ⟨y,e2,t2⟩ := hv2.2 j hj;rw [e1,e2];exact tup_lt t1 t2 (q _ rfl)
   refine wpAny_bind (wpAny_mono (kat_run (ks := vs) (vs := vs) (κ := tuples' true) (Q := fun st' s'=>s' = _ /\ ∃ p : Array Nat,PP ts.length p /\ p.Perm (List.toArray (List.range ts.length)) /\ Upto (fun i j=>ltT (ts.getD i []) (ts.getD j [])) p ts.length /\ arrOf st' = p.map (kas_item (vs.toArray.zip vs.toArray)) /\ failedOf st' = none)
    (G := fun p s'=>s' = _ /\ PP ts.length p /\ p.Perm (List.toArray (List.range ts.length)) /\ Upto (fun i j=>ltT (ts.getD i []) (ts.getD j [])) p ts.length) rfl (by omega) (by omega)
    (fun p st' s' a1 a2 a3 a4=>⟨a4.1,p,a4.2.1,a4.2.2.1,a4.2.2.2,a2,a3⟩) (by rw [lv];exact sort_ok (strO_of nd) ask (by omega) rfl fun p s' b1 b2 b3 b4=>⟨b4,b1,b2,b3⟩)) ?_ fun _ _ e=>e)
   rintro ⟨⟨⟩,st'⟩ s' ⟨rfl,p,pp,pe,u,ea,ef⟩;have w1 := fin _ (way_of pp pe u);have ev := kat_snds (vs := vs) rfl ea;rw [<- ev] at w1;refine wpAny_bind (seqEpoch_at ho2 rfl (wpAny_bind (listUpdate_at ho2 rfl ?_ (Nat.zero_le _) (by rw [ev,List.size_toArray,List.length_map,Array.length_toList,pp.size,sizeLine_eq];omega))))
   rw [ef];simp only [bne_self_eq_false,Bool.false_eq_true,if_false];exact wpAny_pure w1
theorem sorted_tups {l : Addr} {vs : List Value} {ts : List (List Str)} {Q : VSP} (hl : s.heap.IsList l vs.toArray) (hv : TupsAre s.heap vs ts) (nd : ts.Nodup) (ne : ts.length <= 1 \/ ∀ t ∈ ts,t ≠ []) (h64 : ts.length < 64) (h : ∀ p,Way ts p -> Q (.ref (s.heap.objs.size + 1)) { s with heap := sortedAll s.heap vs (p.map fun i=>vs.getD i .none).toArray }) : wpAny (model prog w) A (call (.builtin "sorted") [.ref l]) Q E s := by
 have lv := hv.1;refine Calls.call_function_entry kind_sorted plain_sorted entry_sorted (args_sorted1 (.ref l)) ?_;unfold Builtin.«sorted»;refine wpAny_bind (m := checkCount "sorted" 1 1 [Value.ref l].length) (wpAny_pure (wpAny_bind (collect_list hl (wpAny_bind (wpAny_newList ?_ (by rw [sizeLine_eq];omega))) (by rw [sizeLine_eq];omega))))
 have z1 : ((s.heap.push (seqObj "list" #[] 0)).update s.heap.objs.size (Obj.mapSeq (· ++ vs.toArray))).objs.size = s.heap.objs.size + 1 := (Heap.size_update ..).trans (size_push' ..);have g1 : (((s.heap.push (seqObj "list" #[] 0)).update s.heap.objs.size (Obj.mapSeq (· ++ vs.toArray))).push (seqObj "list" vs.toArray 0)).get? (s.heap.objs.size + 1) = some (seqObj "list" vs.toArray 0) := z1 ▸ Heap.get?_push_size _ rfl;have k1 : ∀ b o,s.heap.get? b = some o -> (((s.heap.push (seqObj "list" #[] 0)).update s.heap.objs.size (Obj.mapSeq (· ++ vs.toArray))).push (seqObj "list" vs.toArray 0)).get? b = some o := fun b o e =>
  hps ((Heap.get?_update_ne _ _ _ _ (Nat.ne_of_lt (Heap.lt_size e))).trans (hps e))
 have hv1 : TupsAre (((s.heap.push (seqObj "list" #[] 0)).update s.heap.objs.size (Obj.mapSeq (· ++ vs.toArray))).push (seqObj "list" vs.toArray 0)) vs ts := ⟨lv,fun i hi=>by
  obtain ⟨x,e,t⟩ := hv.2 i hi;exact ⟨x,e,t.kept fun o eo=>k1 x o eo⟩⟩
 show wpAny _ _ _ _ _ { s with heap := ((s.heap.push (seqObj "list" #[] 0)).update s.heap.objs.size (Obj.mapSeq (· ++ vs.toArray))).push (seqObj "list" vs.toArray 0) }
 rw [z1];exact wpAny_bind (wpAny_holding (wpAny_call_entry slot_list_sort ⟨_,g1,rfl⟩ entry_list_sort (sort_tups (s := { s with heap := ((s.heap.push (seqObj "list" #[] 0)).update s.heap.objs.size (Obj.mapSeq (· ++ vs.toArray))).push (seqObj "list" vs.toArray 0) }) g1 hv1 nd ne h64 fun p wp=>⟨_,rfl,wpAny_pure ⟨_,rfl,h p wp⟩⟩) (args_list_sort _)))
end
def encT (t : List Str) : D := .tup (t.map .str)
def ttD : List D -> Option (List (List Str))
 | []=>some []
 | d :: ds=>match txT d,ttD ds with
  | some t,some ts=>some (t :: ts)
  | _,_=>none
theorem ttD_enc : ∀ (ts : List (List Str)),ttD (ts.map encT) = some ts
 | []=>rfl
 | t :: ts=>by
  have e : txT (encT t) = some t := by
   show txD (t.map .str) = some t
   induction t with
   | nil=>rfl
   | cons x t ih=>rw [List.map_cons];unfold txD;rw [ih];rfl
  show (match txT (encT t),ttD (ts.map encT) with | some t,some ts=>some (t :: ts) | _,_=>none) = _
  rw [e,ttD_enc ts]
def srtOk (ts : List (List Str)) : Bool := decide ts.Nodup && (decide (ts.length <= 1) || ts.all fun t=>!t.isEmpty) && decide (ts.length < 64)
def srtTD : List (Md × D) -> Option (Md × D)
 | [(_,.lst ds)]=>match ttD ds with
  | some ts=>if srtOk ts = true then some (.fr,.lst ((uniT ts).map encT)) else none
  | none=>none
 | _=>none
theorem ttD_rep {K : Fg} {F : Hp} : ∀ {ds : List D} {xs : List V} {ts : List (List Str)},ttD ds = some ts -> RepL K F ds xs -> xs.length = ts.length /\ ∀ i,i < ts.length -> ∃ a,xs.getD i .non = .ref a /\ SqT K F a ((ts.getD i []).map V.str) /\ RepV K F (encT (ts.getD i [])) (xs.getD i .non)
 | [],xs,ts,e,r=>by cases e;simp only [RepL] at r;subst r;exact ⟨rfl,fun i hi=>by simp at hi⟩
 | d :: ds,xs,ts,e,r=>by
  simp only [RepL] at r;obtain ⟨y,ys,rfl,r1,r2⟩ := r;unfold ttD at e;cases e1 : txT d with
  | none=>rw [e1] at e;cases e
  | some t =>
   cases e2 : ttD ds with
   | none=>rw [e1,e2] at e;cases e
   | some us =>
    rw [e1,e2] at e;cases e;obtain ⟨l,h⟩ := ttD_rep e2 r2;refine ⟨by simp [l],fun i hi=>?_⟩
    cases i with
    | zero =>
     cases d with
     | tup es=>have e1 : txD es = some t := e1;have r3 := r1;simp only [RepV] at r3;obtain ⟨a,zs,rfl,q,rl⟩ := r3;obtain ⟨rfl,_⟩ := txD_rep e1 rl;have ee := (txD_map e1).1;subst ee;exact ⟨a,rfl,q,r1⟩
     | _=>cases e1
    | succ i =>
     have := h i (by simpa using hi)
     simpa using this
theorem repL_map {α : Type} {K : Fg} {F : Hp} {f : α -> D} {g : α -> V} : ∀ {q : List α},(∀ i ∈ q,RepV K F (f i) (g i)) -> RepL K F (q.map f) (q.map g)
 | [],_=>RepL.nil
 | i :: q,h=>RepL.cons (h i mcs) (repL_map fun j hj=>h j (mcm hj))
theorem vals_map {α : Type} {g : α -> V} {u : α -> Value} : ∀ {q : List α},(∀ i ∈ q,RelV (g i) (u i)) -> Vals (q.map g) (q.map u)
 | [],_=>.nil
 | i :: q,h=>.cons (h i mcs) (vals_map fun j hj=>h j (mcm hj))
theorem vals_getD : ∀ {xs : List V} {us : List Value} {i : Nat},Vals xs us -> i < xs.length -> RelV (xs.getD i .non) (us.getD i .none)
 | [],_,i,h,e=>by simp at e
 | x :: xs,_,0,h,e=>by cases h with | cons r t=>exact r
 | x :: xs,_,i + 1,h,e=>by
  cases h with
  | cons r t =>
   have := vals_getD (i := i) t (by simpa using e)
   simpa using this
section
variable {X : Cx}
def rSrtT (K : Fg) : List V -> Hp -> VK -> Prop := fun xs H Q=>∃ (p : Addr) (vs : List V) (ts : List (List Str)),xs = [.ref p] /\ SqL K H p vs /\ vs.length = ts.length /\ (∀ i,i < ts.length -> ∃ a,vs.getD i .non = .ref a /\ SqT K H a ((ts.getD i []).map V.str)) /\
 srtOk ts = true /\ ∀ l q,H l = none -> Way ts q -> Q (.ref l) (upd H l (.lst (q.map fun i=>vs.getD i .non)))
theorem call_srtT : CallR X (.builtin "sorted") (rSrtT X.K) := by
 intro pins s σ H xs us Q I r h;obtain ⟨p,vs,ts,rfl,hp,lv,hv,ok,q⟩ := h;obtain ⟨u,rfl,rx⟩ := vals1 r;cases rx;obtain ⟨its,rv,pl,_⟩ := I.list hp;unfold srtOk at ok;simp only [Bool.and_eq_true,Bool.or_eq_true,decide_eq_true_eq,List.all_eq_true] at ok;obtain ⟨⟨nd,ne⟩,h64⟩ := ok;have lz : its.length = vs.length := rv.length.symm;have ta : TupsAre s.heap its ts := ⟨by omega,fun i hi=>by
  obtain ⟨a,e,sq⟩ := hv i hi;have rr := vals_getD rv (i := i) (by omega)
  rw [e] at rr;have rr : its.getD i .none = .ref a := rr;obtain ⟨js,rj,⟨o,eo,co,_,n,ed⟩,_⟩ := SqT.plain I sq;exact ⟨a,rr,o,_,n,eo,co,ed,by simpa using strsAre_of rj⟩⟩
 refine sorted_tups pl.isList ta nd (ne.imp id fun h t ht e=>by have := h t ht;rw [e] at this;cases this) h64 fun w wp=>?_
 obtain ⟨e,he⟩ := sortedAll_at s.heap its (w.map fun i=>its.getD i .none).toArray;have wl : w.length = ts.length := by rw [wp.perm.length_eq,List.length_range]
 have le : (w.map fun i=>vs.getD i V.non).length <= sizeLine := by rw [List.length_map,wl,sizeLine_eq];omega
 have rv2 : Vals (w.map fun i=>vs.getD i V.non) (w.map fun i=>its.getD i Value.none) := vals_map fun i hi=>vals_getD rv (by
  have := wp.perm.mem_iff.mp hi;rw [List.mem_range] at this;omega)
 exact ⟨.ref (s.heap.objs.size + 1),_,I.laid (t' := s.toks) (fun b o e=>sortedAll_old e) (Nat.le_succ _) (show ObjOk X.prog X.w _ _ _ (.lst (w.map fun i=>vs.getD i V.non)) from ⟨le,_,e,rv2,he⟩),rfl,q _ w (I.hok.fresh (Nat.le_succ _)) wp⟩
theorem calld_srtT : CallD X (.builtin "sorted") srtTD := by
 refine ⟨_,call_srtT,fun F H xs vs k d Q s rx e w=>?_⟩;unfold srtTD at e;split at e
 . rename_i m ds;split at e
   . rename_i ts en;split at e
     . rename_i hc;cases e;obtain ⟨v,rfl,r⟩ := rx.one;obtain ⟨a,xs,rfl,q,rl⟩ := r.seqL s;obtain ⟨lx,hx⟩ := ttD_rep en rl;refine ⟨a,xs,ts,rfl,q,lx,fun i hi=>?_,hc,fun l p hl wp=>w (.ref l) F _ (Step.fresh _ s hl) ⟨l,rfl,s.free hl,_,upd_same,?_⟩ fun _ a ea=>by cases ea;exact hl⟩
       . obtain ⟨a,e1,e2,_⟩ := hx i hi;exact ⟨a,e1,Same.seqT s e2⟩
       . rw [<- wp.uni,List.map_map];refine repL_map fun i hi=>?_;have := wp.perm.mem_iff.mp hi;rw [List.mem_range] at this;obtain ⟨_,_,_,e3⟩ := hx i this;exact e3
     . cases e
   . cases e
 . cases e
end
end D3
namespace D3
open PySem PySem.Spec PyProof.Rows L2 PySem.SeqAt PySem.MeetsSeq
abbrev fBand : Md -> D -> Md -> D -> Option (Md × D) := fI (fun _ _=>true) fun i j=>.int (Builtin.bitAnd i j)
abbrev fBor : Md -> D -> Md -> D -> Option (Md × D) := fI (fun _ _=>true) fun i j=>.int (Builtin.bitOr i j)
abbrev fShl : Md -> D -> Md -> D -> Option (Md × D) := fI (fun i j=>decide (0 <= j) && decide (j <= 1000000) && decide (i.natAbs < 2 ^ 64)) fun i j=>.int (i * 2 ^ j.toNat)
abbrev fShr : Md -> D -> Md -> D -> Option (Md × D) := fI (fun _ j=>decide (0 <= j)) fun i j=>.int (i / 2 ^ j.toNat)
section
variable {C : Cw} {X : Cx}
theorem opd_band : OpD C X (binaryOp .BitAnd) fBand := opd_I0 op_and fun _ _ i j=>rp_int _
theorem opd_bor : OpD C X (binaryOp .BitOr) fBor := opd_I0 op_or fun _ _ i j=>rp_int _
theorem opd_shl : OpD C X (binaryOp .LShift) fShl := opd_I op_shl (fun i j h=>by
 simp only [Bool.and_eq_true,decide_eq_true_eq] at h;exact ⟨h.1.1,h.1.2,h.2⟩) fun _ _ i j=>rp_int _
theorem opd_shr : OpD C X (binaryOp .RShift) fShr := opd_I op_shr (fun i j h=>of_decide_eq_true h) fun _ _ i j=>rp_int _
def inD : List D -> Option (List Int)
 | []=>some []
 | .int i :: ds=>(inD ds).map (i :: ·)
 | _ :: _=>none
theorem inD_map : ∀ (ns : List Int),inD (ns.map .int) = some ns
 | []=>rfl
 | n :: ns=>by rw [List.map_cons];unfold inD;rw [inD_map ns];rfl
theorem inD_rep {K : Fg} {F : Hp} : ∀ {ds : List D} {xs : List V} {ns : List Int},inD ds = some ns -> RepL K F ds xs -> xs = ns.map V.int
 | [],xs,ns,e,r=>by cases e;simp only [RepL] at r;rw [r];rfl
 | d :: ds,xs,ns,e,r=>by
  cases d with
  | int i =>
   unfold inD at e;cases h : inD ds with
   | none=>rw [h] at e;cases e
   | some ms=>rw [h] at e;cases e;simp only [RepL,RepV] at r;obtain ⟨y,ys,rfl,rfl,r⟩ := r;rw [inD_rep h r];rfl
  | _=>simp [inD] at e
theorem preSum_snoc (g : Nat -> Int) (k : Nat) : preSum g (k + 1) = preSum g k + g k := rfl
theorem preSum_tail {g : Nat -> Int} : ∀ (k : Nat),preSum g (k + 1) = g 0 + preSum (fun i=>g (i + 1)) k
 | 0=>by show preSum g 0 + g 0 = g 0 + 0;show (0 : Int) + g 0 = _;omega
 | k + 1=>by rw [preSum_snoc g (k + 1),preSum_tail k,preSum_snoc (fun i=>g (i + 1)) k];omega
theorem preSum_sum : ∀ (ns : List Int),preSum (fun i=>ns.getD i 0) ns.length = ns.sum
 | []=>rfl
 | n :: ns=>by rw [List.length_cons,preSum_tail,List.sum_cons,<- preSum_sum ns];rfl
def sumI : List (Md × D) -> Option (Md × D)
 | [(_,.lst ds)]=>(inD ds).map fun ns=>(.fz,.int ns.sum)
 | _=>none
theorem calld_sumI (hc : X.calm = true) : CallD X (.builtin "sum") sumI := by
 refine ⟨_,call_sumL hc,fun F H xs vs k d Q s rx e w=>?_⟩;unfold sumI at e;split at e
 . rename_i m ds;cases en : inD ds with
   | none=>rw [en] at e;cases e
   | some ns=>rw [en] at e;cases e;obtain ⟨v,rfl,r⟩ := rx.one;obtain ⟨a,xs,rfl,q,rl⟩ := r.seqL s;obtain rfl := inD_rep en rl;exact ⟨a,ns,rfl,q,by rw [preSum_sum];exact w (.int ns.sum) F H (.refl s) (rp_int _) (by intro z;cases z)⟩
 . cases e
end
def tLIdx (K : Fg) (td ty : TE) : TE := fun σ H Q=>td σ H fun x H1=>∃ a xs0,x = .ref a /\ SqL K H1 a xs0 /\ ty σ H1 fun y H2=>∃ xs j,SqL K H2 a xs /\ flatV y = true /\ xs.all flatV = true /\ xs.findIdx? (fun z=>eqV z y) = some j /\ Q (.int (j : Nat)) H2
section
variable {X : Cx} {o e : Expr} {apos cpos : Pos} {td ty : TE}
theorem pe_lidx (ho : PE X o td) (he : PE X e ty) (m : M1 X o "index" apos e cpos) : PE X (.Call (.Attribute o "index" apos) [e] [] cpos) (tLIdx X.K td ty) := by
 intro pins s σ H Q I h;refine wpAny_Call_method m.base m.few m.line PySem.F.plainAttrs_list PySem.F.slot_list_index PySem.F.type_list_index (thn (ho pins s σ H _ I h) fun u s1 hz=>?_);obtain ⟨x,H1,I1,rx,a,xs0,rfl,hq,q1⟩ := hz;cases (show u = Value.ref a from rx)
 obtain ⟨its0,_,⟨o0,n0,e0,c0,d0,_⟩,_⟩ := I1.list hq;refine ⟨⟨o0,e0,c0⟩,fun b eb=>by cases eb;exact ⟨o0,e0,d0⟩,?_⟩
 rw [m.trees];refine Calls.callWith_builtin rfl (Calls.evalArgs_plain (Calls.spliced_cons (thn (he pins s1 σ H1 _ I1 q1) fun iv s2 hz2=>Calls.spliced_nil ?_)));obtain ⟨y,H2,I2,ry,xs,j,hq2,fy,fs,hj,q2⟩ := hz2;obtain ⟨its,r,⟨⟨cls,dd,data,sl⟩,n,eo,co,_,ed⟩,hz⟩ := I2.list hq2;simp only at co ed;subst co ed;rw [<- findU r fs] at hj;obtain ⟨jl,hit,hno⟩ := List.findIdx?_eq_some_iff_getElem.mp hj;have hsm : (j : Int) < 2 ^ 63 - 1 := by have := r.length;rw [sizeLine_eq] at hz;omega
 exact call_meets PySem.F.slot_list_index ⟨_,eo,rfl⟩ PySem.F.entry_list_index (PySem.F.args_list_index_2 _ _) (list_indexAt a its.toArray n dd sl iv (eqU y) j (by simpa using jl) hsm (by simpa using hit) (fun k hk hkj=>by
  have := hno k hkj
  simpa using this)) ⟨eo,fun w hw=>mem_eqAt ry fy r fs w (by simpa using hw),⟨.int (j : Nat),H2,I2.tok _,⟨_,rfl⟩,q2⟩⟩
end
def idxL (o r : Res) : Res := o.thn fun _ d=>match d with
 | .lst ds=>r.thn fun _ y=>if (flatD y && ds.all flatD) = true then (match ds.findIdx? (fun z=>eqD z y) with | some j=>.ok .fz (.int (j : Nat)) | none=>.stuck) else .stuck
 | _=>.stuck
section
variable {C : Cw} {X : Cx} {o e : Expr} {apos cpos : Pos} {go g : Rho -> Res}
theorem pv_lidx (ho : PV C X o go) (he : PV C X e g) (m : M1 X o "index" apos e cpos) : PV C X (.Call (.Attribute o "index" apos) [e] [] cpos) (fun ρ=>idxL (go ρ) (g ρ)) := by
 refine PE.imp (pe_lidx ho he m) fun σ H Q q=>?_;unfold tLIdx;rw [tG_eq] at q ⊢;obtain ⟨ρ,F,R,w⟩ := q
 try dsimp only at w
 refine ⟨ρ,F,R,?_⟩;cases er : go ρ with
 | stuck=>rw [er] at w;exact w
 | exc c=>rw [er] at w;exact w
 | ok m d =>
  rw [er] at w;intro v F1 H1 s1 rp _;cases d with
  | lst ds =>
   obtain ⟨a,xs,rfl,hq,rl⟩ := rp.seqL s1.sub;refine ⟨a,xs,rfl,hq,?_⟩;rw [tG_eq];refine ⟨ρ,F1,R.step s1,?_⟩;have w1 : Want (C.at X) F1 H1 σ ((g ρ).thn fun _ y=>if (flatD y && ds.all flatD) = true then (match ds.findIdx? (fun z=>eqD z y) with | some j=>.ok .fz (.int (j : Nat)) | none=>.stuck) else .stuck) Q := Want.step s1 w
   cases eg : g ρ with
   | stuck=>rw [eg] at w1;exact w1
   | exc c=>rw [eg] at w1;exact w1
   | ok n y =>
    rw [eg] at w1;intro u F2 H2 s2 rp2 _;have w2 := Want.step s2 w1;simp only [Res.thn] at w2;split at w2
    . rename_i hf;rw [Bool.and_eq_true] at hf;have hq2 : SqL X.K H2 a xs := s2.same.seq hq;have ev := rep_flat hf.1 rp2;have es := repL_flat hf.2 rl;subst ev;subst es;split at w2
      . rename_i j ej;exact ⟨_,j,hq2,flat_vOf hf.1,all_vOf hf.2,by rw [find_vOf hf.1 hf.2];exact ej,w2 _ F2 H2 (.refl s2.sub) (rp_int _) (by intro z;cases z)⟩
      . exact w2.elim
    . exact w2.elim
  | _=>exact (show False from w).elim
end
end D3
namespace D3
open PySem PySem.Spec PyProof.Rows L2
theorem Inv.thaw {X : Cx} {pins : LAO} {σ : L2.St} {H : Hp} {s : Shared} {d : Addr} {o : Obj} {u : HO} (I : L2.Inv X pins σ H s) (hd : H d = some (.frz o u)) (h0 : ∀ o' u',X.H₀ d ≠ some (.frz o' u')) (nt : ∀ xs,X.H₀ d ≠ some (.tup xs)) (nb : ∀ ps,X.H₀ d ≠ some (.tbl ps)) : L2.Inv X pins σ (upd H d u) s := by
 have nn : ∀ b,H b = none -> upd H d u b = none := fun b hb=>by rw [upd_ne (fun z=>by rw [z,hd] at hb;cases hb)];exact hb
 have e := I.base;refine ⟨I.ok,I.os,I.bare,⟨e.keep,e.slot,fun b o q1 q2 q3=>nn b (e.free b o q1 q2 q3),e.there,fun b xs q=>?_,fun b o u q=>?_,fun b ps q=>?_⟩,I.loc,I.cell,nn _ I.free,fun x c ec=>nn c (I.freeC x c ec),fun p hp=>?_,fun b v q=>?_,I.len⟩
 . rw [upd_ne (fun z=>nt xs (by rw [<- z];exact q))];exact e.tups b xs q
 . rw [upd_ne (fun z=>h0 o u (by rw [<- z];exact q))];exact e.frzs b o u q
 . obtain ⟨m,em⟩ := e.tbls b ps q;exact ⟨m,by rw [upd_ne (fun z=>nb ps (by rw [<- z];exact q))];exact em⟩
 . obtain ⟨a1,a2,a3⟩ := I.pin p hp;exact ⟨a1,nn _ a2,a3⟩
 . have st : ∀ {b : Addr} {v : HO},ObjOk X.prog X.w H s.heap b v -> ObjOk X.prog X.w (upd H d u) s.heap b v := fun {b v} x =>
     x.stay (fun _ _ _ q=>q) (fun c q=>by rw [upd_ne (fun z=>by rw [z,hd] at q;cases q)];exact q) fun c xs q=>by rw [upd_ne (fun z=>by rw [z,hd] at q;cases q)];exact q
   by_cases hb : b = d
   . subst hb;rw [upd_same] at q;cases q;exact st (I.hok b _ hd).2
   . rw [upd_ne hb] at q;exact st (I.hok b v q)
def epO (o : Obj) : Nat := match o.data with | .dict _ ep=>ep | _=>0
def Itd (d : Addr) (o : Obj) (xs : List (Key × V)) : It :=
 ⟨fun i H=>H d = some (.frz o (.dK xs)) /\ i < xs.length,fun i H x H'=>H' = H /\ ∃ kv,xs[i]? = some kv /\ x = kV kv.1,fun i H=>H d = some (.frz o (.dK xs)) /\ xs.length <= i⟩
theorem frz_dict {P : Program} {w : World} {H : Hp} {h : Heap} {d : Addr} {o : Obj} {xs : List (Key × V)} (ok : HOk P w H h) (hd : H d = some (.frz o (.dK xs))) : (d == sysModules) = false /\ ∃ vs,KV xs vs /\ h.DictAt (mixKind P w) d vs (epO o) := by
 obtain ⟨g,z,y,vs,r,dd⟩ := ok d _ hd;obtain ⟨ep,da⟩ := dd.dictAt;refine ⟨y,vs,r,?_⟩;obtain ⟨o',es,g',c,dt,rest⟩ := id da;rw [g] at g';cases g';have : epO o = ep := by unfold epO;rw [dt]
 rw [this];exact da
theorem kv_get {xs : List (Key × V)} {vs : List (Key × Value)} (r : KV xs vs) {i : Nat} {k : Key} {x : Value} (h : vs[i]? = some (k,x)) : ∃ v,xs[i]? = some (k,v) := by
 have e := r.keys;have : (xs.map (·.1))[i]? = (vs.map (·.1))[i]? := by rw [e]
 rw [List.getElem?_map,List.getElem?_map,h] at this;cases q : xs[i]? with
 | none=>rw [q] at this;cases this
 | some kv=>rw [q] at this;obtain ⟨k',v⟩ := kv;simp at this;subst this;exact ⟨v,rfl⟩
theorem turn_dict {P : Program} {w : World} {K : Fg} {tg : Expr} (d it : Addr) (o : Obj) (xs : List (Key × V)) : Turn P w K tg (Itd d o xs) [it] it (fun i h=>h.IsKeyIter it d i xs.length (epO o)) where
 mem := by simp
 obj := fun i h st b hb=>by
  have e : b = it := by simpa using hb
  subst e;obtain ⟨o,e,c,d⟩ := st;exact ⟨o,e,fun v z=>by rw [d] at z;cases z⟩
 keep := fun i h h' st k=>st.at fun o e=>k it (by simp) o e
 item := by
  intro X hP hw hK hc i pins s σ H E I hf st hg;subst hP hw hK;obtain ⟨hd,hi⟩ := hg;obtain ⟨ns,vs,rv,da⟩ := frz_dict I.hok hd;obtain ⟨f0,f1,f2,f3,f4,f5⟩ := hf it (by simp)
  have lv : vs.length = xs.length := rv.length.symm;have hx : vs[i]? = some (vs[i]'(by omega)) := by simp [lv,hi]
  obtain ⟨v,ev⟩ := kv_get rv (k := (vs[i]'(by omega)).1) (x := (vs[i]'(by omega)).2) hx
  refine wpAny_pyNext_dict_item (k := (vs[i]'(by omega)).1) (v := (vs[i]'(by omega)).2) (by rw [lv];exact st) da hx fun key h' hkey hit' hs'=>?_
  have I1 : L2.Inv X pins σ H { s with heap := h' } := I.turned (t' := s.toks) (fun b o hb e=>hs'.extBut b o hb e) f0 f1 f3 f4 f5
  rw [lv] at hit';obtain ⟨o1,e1,c1,d1⟩ := id hit';exact ⟨key,rfl,go_of (s := { s with heap := h' }) e1 c1 d1 (by decide) ⟨_,H,I1,is_kV hkey,⟨rfl,_,ev,rfl⟩,hit',fun b hb=>(hf b hb).1⟩⟩
 done := by
  intro X hP hw hK hc i pins s σ H E I hf st hg;subst hP hw hK;obtain ⟨hd,hi⟩ := hg;obtain ⟨ns,vs,rv,da⟩ := frz_dict I.hok hd;obtain ⟨f0,f1,f2,f3,f4,f5⟩ := hf it (by simp)
  have lv : vs.length = xs.length := rv.length.symm;exact wpAny_pyNext_dict_end (I.ok.hd hc) (by rw [lv];exact st) da (by simp;omega) fun h' eb=>⟨rfl,I.turned (t' := s.toks) (fun b o hb e=>eb b o hb e) f0 f1 f3 f4 f5⟩
 self := fun _ _ _ _ _ st h=>wpAny_pyIter_keyiter st h
def Soft (X : Cx) (d : Addr) : Prop := (∀ o' u',X.H₀ d ≠ some (.frz o' u')) /\ (∀ xs,X.H₀ d ≠ some (.tup xs)) /\ ∀ ps,X.H₀ d ≠ some (.tbl ps)
def iDict (X : Cx) (tl : TE) : TI := fun σ H R=>tl σ H fun x H1=>∃ d xs,x = .ref d /\ H1 d = some (.dK xs) /\ ∀ o,Soft X d -> R (Itd d o xs) (upd H1 d (.frz o (.dK xs)))
theorem pi_dict {X : Cx} {tg l : Expr} {tl : TE} (hl : PE X l tl) : PI X tg l (iDict X tl) := by
 intro pins s σ H R I h;refine thn (hl pins s σ H _ I h) fun v s1 ⟨x,H1,I1,r1,q1⟩=>?_;obtain ⟨d,xs,e,hd,q⟩ := q1;subst e;cases r1;obtain ⟨hz,hm,vs,rv,dd⟩ := dk_of I1.hok hd;obtain ⟨ep,da⟩ := dd.dictAt;have lv : vs.length = xs.length := rv.length.symm;have sf : Soft X d := by
  refine ⟨fun o u z=>?_,fun ys z=>?_,fun ps z=>?_⟩
  . rw [I1.base.frzs d o u z] at hd;cases hd
  . rw [I1.base.tups d ys z] at hd;cases hd
  . obtain ⟨m,em⟩ := I1.base.tbls d ps z;rw [em] at hd;cases hd
 refine wpAny_pyIter_dict hm da ?_;obtain ⟨o,es,go,c,dt,rest⟩ := id da;have eo : epO o = ep := by unfold epO;rw [dt]
 have I2 : L2.Inv X pins σ H1 { s1 with heap := s1.heap.push { cls := .type "dict_keyiterator", data := .fields #[.ref d,.int 0 0,.int vs.length 0,.int ep 0] } } := I1.kept (t' := s1.toks) fun b o e=>hps e
 have g2 := Heap.get?_push_of_some { cls := .type "dict_keyiterator", data := .fields #[.ref d,.int 0 0,.int vs.length 0,.int ep 0] } go;have ok2 := I2.hok d _ hd;have I3 := I2.write (x := d) (e := d) (o := .frz o (.dK xs)) (t' := s1.toks) (h' := s1.heap.push { cls := .type "dict_keyiterator", data := .fields #[.ref d,.int 0 0,.int vs.length 0,.int ep 0] }) (by rw [hd];exact trivial) (.inl rfl) (fun _ _ _ q=>q) ⟨_,g2⟩ ⟨g2,ok2⟩
 refine ⟨s1.heap.objs.size,[s1.heap.objs.size],_,_,_,rfl,I3,turn_dict d _ o xs,?_,fun b hb=>?_,q o sf⟩
 . rw [eo,<- lv];exact ⟨_,Heap.get?_push_size _ rfl,rfl,rfl⟩
 . have e : b = s1.heap.objs.size := by simpa using hb
   subst e;have fr := I1.hok.fresh (Nat.le_refl s1.heap.objs.size);exact I1.fpOk (Nat.le_refl _) (by rw [upd_ne (fun z=>by rw [z,hd] at fr;cases fr)];exact fr)
theorem pe_thaw {X : Cx} {e : Expr} {t : TE} (h : PE X e t) : PE X e (fun σ H Q=>t σ H fun v H'=>∃ d o u,H' d = some (.frz o u) /\ Soft X d /\ Q v (upd H' d u)) := fun pins s σ H Q I q=>by refine thn (h pins s σ H _ I q) fun v s1 ⟨x,H1,I1,r1,d,o,u,hd,sf,q1⟩=>?_;exact ⟨x,_,Inv.thaw I1 hd sf.1 sf.2.1 sf.2.2,r1,q1⟩
def selD (kvs : List (Key × D)) (m : Int) : List (Key × D) -> Option (List D)
 | []=>some []
 | (k,_) :: r=>match getK kvs k with
  | some (.int v)=>if keyK k = true then (selD kvs m r).map fun ys=>if Builtin.bitAnd v m = 0 then ys else keyT k :: ys else none
  | _=>none
def selR (ρ : Rho) (jd jm : Nat) : Res := match ρ[jd]? with
 | some (some (false,.dct kvs))=>(match ρ[jm]? with
  | some (some (false,.int m))=>if kvs.length < sizeLine then (match selD kvs m kvs with | some ys=>.ok .fr (.lst ys) | none=>.stuck) else .stuck
  | _=>.stuck)
 | _=>.stuck
theorem repK_at {K : Fg} {F : Hp} : ∀ {kvs : List (Key × D)} {xs : List (Key × V)} {i : Nat} {kv : Key × V},RepK K F kvs xs -> xs[i]? = some kv -> ∃ d,kvs[i]? = some (kv.1,d)
 | [],xs,i,kv,h,e=>by simp only [RepK] at h;subst h;simp at e
 | (k,d) :: kvs,xs,i,kv,h,e=>by
  simp only [RepK] at h;obtain ⟨y,ys,rfl,_,t⟩ := h;cases i with
  | zero=>simp at e;subst e;exact ⟨d,rfl⟩
  | succ i =>
   obtain ⟨d',e'⟩ := repK_at (i := i) t (by simpa using e)
   exact ⟨d',by simpa using e'⟩
theorem repK_lenD {K : Fg} {F : Hp} : ∀ {kvs : List (Key × D)} {xs : List (Key × V)},RepK K F kvs xs -> xs.length = kvs.length
 | [],xs,h=>by simp only [RepK] at h;subst h;rfl
 | (k,d) :: kvs,xs,h=>by simp only [RepK] at h;obtain ⟨y,ys,rfl,_,t⟩ := h;simp [repK_lenD t]
theorem repV_key {K : Fg} {F : Hp} {k : Key} (h : keyK k = true) : RepV K F (keyT k) (kV k) := by
 cases k with
 | inl i=>simp only [keyT,RepV,kV]
 | inr x=>have a1 : (decide (x.length <= sizeLine) && PyData.strOk x) = true := h;rw [Bool.and_eq_true,decide_eq_true_eq] at a1;show RepV K F (.str x) (.str x);unfold RepV;exact ⟨rfl,a1⟩
def tSel (i j k : Nat) : TT := tAnd (tTest (tOp rNe (tOp (rI0 fun i j=>.int (Builtin.bitAnd i j)) (tOp rIxK (tVar i) (tVar k)) (tVar j)) (tC (.int 0)))) fun _ H Q=>Q true H
theorem tSel_run {i j k : Nat} {σ : L2.St} {H : Hp} {Q : Bool -> Hp -> Prop} {d : Addr} {kx : Key} {v m : Int} (h1 : σ[i]? = some (some (.ref d))) (h2 : σ[k]? = some (some (kV kx))) (h3 : σ[j]? = some (some (.int m))) (hg : DGet H d (kV kx) (some (.int v))) (q : Q (!decide (Builtin.bitAnd v m = 0)) H) : tSel i j k σ H Q := by
 refine ⟨_,h1,_,h2,d,.int v,rfl,hg,_,h3,v,m,rfl,rfl,rfl,!decide (Builtin.bitAnd v m = 0),?_,?_⟩
 . simp
 . cases e : (!decide (Builtin.bitAnd v m = 0)) with
   | true=>rw [e] at q;simpa using q
   | false=>rw [e] at q;simpa using q
section
variable {C : Cw} {X : Cx} {pos : Pos} {scope : Scope} {caps : List Nat} {capN : List Str} {x d m : Str} {p0 p1 p2 p3 p4 p5 p6 p7 p8 p9 : Pos} {i j jd jm k0 : Nat}
theorem sel_tG (hi : caps[i]? = some jd) (hj : caps[j]? = some jm) {σ : L2.St} {H : Hp} {Q : VK} (q : tG (C.at X) (fun ρ=>selR ρ jd jm) σ H Q) : tComp caps 1 (iDict X (tVar jd)) (gName caps.length) (tSel i j caps.length) (tVar caps.length) σ H fun v H'=>∃ d o u,H' d = some (.frz o u) /\ Soft X d /\ Q v (upd H' d u) := by
 rw [tG_eq] at q;obtain ⟨ρ,F,RS,w⟩ := q;unfold selR at w;split at w;rotate_left
 . exact w.elim
 rename_i kvs ed;split at w;rotate_left
 . exact w.elim
 rename_i m em;split at w;rotate_left
 . exact w.elim
 rename_i hsz;cases es : selD kvs m kvs with
 | none=>rw [es] at w;exact w.elim
 | some total =>
  rw [es] at w;dsimp only at w;obtain ⟨vd,sd,rd,_⟩ := RS.slot _ _ _ ed;obtain ⟨vm,sm,rm,_⟩ := RS.slot _ _ _ em;have rd : RepV X.K F (.dct kvs) vd := rd;simp only [RepV] at rd;obtain ⟨a,xs,rfl,fa,rk⟩ := rd;have rm : RepV X.K F (.int m) vm := rm;simp only [RepV] at rm;subst rm;have ha : H a = some (.dK xs) := RS.sub _ _ fa;refine ⟨_,sd,a,xs,rfl,ha,fun o sf Da hDa=>?_⟩;have nD : Da ≠ a := fun z=>by rw [z,upd_same] at hDa;cases hDa
  have hD0 : H Da = none := by rw [upd_ne nD] at hDa;exact hDa
  have lx := repK_lenD rk;have il : i < caps.length := (List.getElem?_eq_some_iff.mp hi).1;have jl : j < caps.length := (List.getElem?_eq_some_iff.mp hj).1;have s1 : ∀ u,(subS caps σ ++ List.replicate 1 none).set caps.length (some u) = subS caps σ ++ [some u] := fun u=>by
   have : (subS caps σ).length = caps.length := by simp [subS]
   rw [List.set_append_right _ _ (by omega),this,Nat.sub_self];rfl
  have g : ∀ (n c : Nat) (v u : V),caps[n]? = some c -> σ[c]? = some (some v) -> (subS caps σ ++ [some u])[n]? = some (some v) := fun n c v u h1 h2=>by
   have hl : n < caps.length := (List.getElem?_eq_some_iff.mp h1).1;rw [List.getElem?_append_left (by simpa [subS] using hl)]
   unfold subS;rw [List.getElem?_map,h1];simp [h2]
  refine ⟨fun n mm ys H'=>mm = xs.length - n /\ n <= xs.length /\ H' = upd (upd H a (.frz o (.dK xs))) Da (.lst ys) /\ ys.length <= n /\ ∃ zs rest,RepL X.K F zs ys /\ selD kvs m (kvs.drop n) = some rest /\ total = zs ++ rest,
   ⟨xs.length,rfl,Nat.zero_le _,rfl,Nat.le_refl _,[],total,RepL.nil,by simpa using es,rfl⟩,?_⟩
  rintro n mm ys H' ⟨rfl,hn,rfl,hyl,zs,rest,rz,er,et⟩;have hfa : upd (upd H a (.frz o (.dK xs))) Da (.lst ys) a = some (.frz o (.dK xs)) := by rw [upd_ne (Ne.symm nD),upd_same]
  refine ⟨upd_same,?_⟩;by_cases hlt : n < xs.length
  . refine .inr ⟨⟨hfa,hlt⟩,by omega,fun v H2 y=>?_⟩
    obtain ⟨rfl,kv,ekv,rfl⟩ := y;obtain ⟨d,ekd⟩ := repK_at rk ekv;have hd : kvs.drop n = (kv.1,d) :: kvs.drop (n + 1) := by obtain ⟨h1,h2⟩ := List.getElem?_eq_some_iff.mp ekd;rw [List.drop_eq_getElem_cons h1,h2]
    rw [hd] at er;unfold selD at er;have hv := RepK.val kv.1 rk;split at er;rotate_left
    . cases er
    rename_i v eg;rw [eg] at hv;obtain ⟨v',ev,rv⟩ := hv;have rv : v' = .int v := by simpa only [RepV] using rv
    subst rv;split at er;rotate_left
    . cases er
    rename_i kk;cases er2 : selD kvs m (kvs.drop (n + 1)) with
    | none=>rw [er2] at er;cases er
    | some rest' =>
     rw [er2] at er;simp only [Option.map_some,Option.some.injEq] at er;show _ /\ _;rw [s1];refine ⟨⟨by simp,fun b u eb=>?_⟩,tSel_run (i := i) (j := j) (k := caps.length) (d := a) (kx := kv.1) (v := v) (m := m) (g i jd _ _ hi sd) ?_ (g j jm _ _ hj sm) (.inl ⟨xs,kv.1,.inr ⟨o,hfa⟩,rfl,ev.symm⟩) ?_⟩
     . have : b < caps.length := by
         by_cases hb : b < caps.length
         . exact hb
         . rw [List.getElem?_append_right (by simpa [subS] using hb),List.getElem?_replicate] at eb
           split at eb <;> cases eb
       rw [List.getElem?_append_left (by simpa [subS] using this)] at eb ⊢
       exact eb
     . rw [List.getElem?_append_right (by simp [subS])]
       simp [subS]
     by_cases ez : Builtin.bitAnd v m = 0
     . rw [if_pos ez] at er;subst er;simp only [ez,decide_true,Bool.not_true,Bool.false_eq_true,if_false];exact ⟨xs.length - (n + 1),by omega,by first | rfl | trivial,hlt,by first | rfl | trivial,by omega,zs,rest',rz,er2,et⟩
     . rw [if_neg ez] at er;subst er;simp only [ez,decide_false,Bool.not_false,if_true];refine ⟨kV kv.1,by rw [List.getElem?_append_right (by simp [subS])];simp [subS],upd_same,xs.length - (n + 1),by omega,rfl,hlt,?_,by simp;omega,zs ++ [keyT kv.1],rest',RepL.append rz (RepL.cons (repV_key kk) RepL.nil),er2,by rw [et];simp⟩
       funext b;by_cases hb : b = Da
       . rw [hb,upd_same,upd_same]
       . rw [upd_ne hb,upd_ne hb,upd_ne hb]
  . have en : n = xs.length := by omega
    subst en;rw [lx,List.drop_length] at er;cases er;rw [List.append_nil] at et;subst et;refine .inl ⟨⟨hfa,Nat.le_refl _⟩,a,o,.dK xs,hfa,sf,?_⟩;have eh : upd (upd (upd H a (.frz o (.dK xs))) Da (.lst ys)) a (.dK xs) = upd H Da (.lst ys) := by
     funext b;by_cases hb : b = a
     . rw [hb,upd_same,upd_ne (Ne.symm nD),ha]
     . rw [upd_ne hb];by_cases hb2 : b = Da
       . rw [hb2,upd_same,upd_same]
       . rw [upd_ne hb2,upd_ne hb,upd_ne hb2]
    rw [eh];exact w (.ref Da) F _ (Step.fresh _ RS.sub hD0) ⟨Da,rfl,RS.sub.free hD0,ys,upd_same,rz⟩ fun _ b eb=>by cases eb;exact hD0
theorem pv_sel {kd : Nat} (hi : caps[i]? = some jd) (hj : caps[j]? = some jm) (hu : X.A.units + 1 < cLine) (hc : X.calm = true) (hd : PE X (.Name d p2) (tVar jd)) (hcell : ∀ y ∈ scope.names,y.2 ≠ .cell) (hkind : scope.kind = .function) (hnames : ∀ y ∈ scope.names,y.2 = .local -> scope.names.lookup y.1 = some .local) (hfree : ∀ y ∈ scope.names,y.2 = .free -> X.env.kindOf y.1 = some .cell \/ X.env.kindOf y.1 = some .free) (hcapN : capN.map some = caps.map fun i=>X.N[i]?) (hcapF : ∀ y ∈ capN,(y,NameKind.free) ∈ scope.names) (hcapK : ∀ y ∈ capN,(relabel scope X.env).names.lookup y = some .cell \/ (relabel scope X.env).names.lookup y = some .free) (hg : ∀ cl A fp s3 H3,PG (compCx X scope (capN ++ [x]) cl A fp s3 H3) (.Name x p1) (gName caps.length)) (h1 : ∀ cl A fp s3 H3,PE (compCx X scope (capN ++ [x]) cl A fp s3 H3) (.Name d p3) (tVar i)) (h2 : ∀ p cl A fp s3 H3,PE (compCx X scope (capN ++ [x]) cl A fp s3 H3) (.Name x p) (tVar caps.length)) (h3 : ∀ cl A fp s3 H3,PE (compCx X scope (capN ++ [x]) cl A fp s3 H3) (.Name m p6) (tVar j)) : PV C X (.ListComp (.Name x p0) [⟨.Name x p1,.Name d p2,[.Compare (.BinOp (.Subscript (.Name d p3) (.Name x p4) p5) .BitAnd (.Name m p6) p7) [.NotEq] [.Constant (.int 0) kd p8] p9],0⟩] scope pos) (fun ρ=>selR ρ jd jm) :=
 PE.imp (pe_thaw (pe_comp (capN := capN) (tgN := [x]) (gt := gName caps.length) (tt := tSel i j caps.length) (te := tVar caps.length) hc (pi_dict hd) hcell hkind hnames hfree hcapN hcapF hcapK hg
  (fun cl A fp s3 H3=>pifs_cons (pt_cmpR op_ne (pe_op op_and (pe_ix (ix_dict hu) (h1 cl A fp s3 H3) (h2 p4 cl A fp s3 H3) (fun _ _=>rfl)) (h3 cl A fp s3 H3)) pe_int rfl) pifs_nil) (h2 p0))) fun σ H Q q=>sel_tG hi hj q
theorem calld_srtX : CallD X (.builtin "sorted") (CallD.or' srtD srtTD) := CallD.or calld_srt calld_srtT
theorem calld_sumX (hc : X.calm = true) : CallD X (.builtin "sum") (CallD.or' sumD sumI) := CallD.or (calld_sum hc) (calld_sumI hc)
end
end D3
namespace L2
open PySem PySem.Spec PyProof.Rows D3
def compCxT (t : Str) (X : Cx) (scope : Scope) (N : List Str) (cl : List (Str × Addr)) (C : Addr) (fp : List Addr) (s3 : Shared) (H3 : Hp) : Cx := { compCx X scope N cl C fp s3 H3 with fn := fun y=>y == t }
theorem cells0 : ∀ (names : List (Str × NameKind)) (n : Nat) (h : Heap) (acc : List (Str × Addr)),names.filter (fun y=>y.2 == .cell) = [] -> cellsFrom n names acc = acc /\ pushCells h names = h
 | [],_,_,_,_=>⟨rfl,rfl⟩
 | (x,k) :: r,n,h,acc,e=>by
  unfold cellsFrom pushCells;rw [List.filter_cons] at e;split at e
  . cases e
  . rename_i hk;rw [if_neg hk,if_neg hk];exact cells0 r n h acc e
theorem cells1 {t : Str} : ∀ (names : List (Str × NameKind)) (n : Nat) (h : Heap) (acc : List (Str × Addr)),names.filter (fun y=>y.2 == .cell) = [(t,NameKind.cell)] -> cellsFrom n names acc = (t,n) :: acc /\ pushCells h names = h.push { cls := .type "cell", data := .cell none }
 | [],_,_,_,e=>by cases e
 | (x,k) :: r,n,h,acc,e=>by
  unfold cellsFrom pushCells;rw [List.filter_cons] at e;split at e
  . rename_i hk;rw [if_pos hk,if_pos hk];injection e with e1 e2
    cases e1;exact cells0 r _ _ _ e2
  . rename_i hk;rw [if_neg hk,if_neg hk];exact cells1 r n h acc e
theorem newEnvC {M : Model} {A : Around} {E : VSP} {s : Shared} {t : Str} {scope : Scope} {globals : Addr} {cl : List (Str × Addr)} {qual : Str} {outer : Env} {Q : Env -> Shared -> Prop} (hcell : scope.names.filter (fun y=>y.2 == .cell) = [(t,NameKind.cell)]) (hQ : ∀ h4 : Heap,h4.Ns s.heap.objs.size (fun _=>none) -> (∀ b o,s.heap.get? b = some o -> h4.get? b = some o) -> h4.IsCell (s.heap.objs.size + 1) none -> Q (newEnv scope s.heap.objs.size globals ((t,s.heap.objs.size + 1) :: cl) qual none .none (some outer) builtinsNs) { s with heap := h4 }) : wpAny M A (newFunctionEnv scope globals cl [] qual none .none (some outer)) Q E s := by
 simp only [newFunctionEnv,Option.isSome_some,if_true];refine wpAny_bind (wpAny_alloc ?_);refine wpAny_bind (wpAny_layCells _ (fun name kind cells=>by cases hkc : kind == NameKind.cell <;> simp [hkc]) _ _ _ _ ?_)
 obtain ⟨e1,e2⟩ := cells1 scope.names (s.heap.push { cls := .type "dict", data := .dict #[] }).objs.size (s.heap.push { cls := .type "dict", data := .dict #[] }) cl hcell;show wpAny M A _ Q E { s with heap := pushCells (s.heap.push { cls := .type "dict", data := .dict #[] }) scope.names }
 rw [e2];have e3 : cellsFrom ({ s with heap := s.heap.push { cls := .type "dict", data := .dict #[] } } : Shared).heap.objs.size scope.names cl = (t,s.heap.objs.size + 1) :: cl := by show cellsFrom (s.heap.push _).objs.size scope.names cl = _;rw [e1,Heap.size_push]
 rw [e3];rw [List.forIn_nil];refine wpAny_bind (wpAny_pure (wpAny_pure (hQ _ ?_ ?_ ?_)))
 . exact (Heap.Ns.new s.heap (.type "dict")).keeps fun b o e=>hps e
 . exact fun b o e=>hps (hps e)
 . have := Heap.get?_push_size (s.heap.push { cls := .type "dict", data := .dict #[] }) (o := { cls := .type "cell", data := .cell none }) rfl;rw [Heap.size_push] at this;exact ⟨_,this,rfl⟩
theorem relabel_freeC {t : Str} {scope : Scope} {env : Env} (hcell : scope.names.filter (fun y=>y.2 == .cell) = [(t,NameKind.cell)]) {x : Str} (h : (relabel scope env).names.lookup x = some .cell \/ (relabel scope env).names.lookup x = some .free) : x = t \/ (x,NameKind.free) ∈ scope.names := by
 have key : ∀ names : List (Str × NameKind),(∀ y ∈ names,y.2 = .cell -> y.1 = t) -> ((names.map fun (n,k)=>if (k == .free && env.scope.kind == .function && env.kindOf n == some .cell) then (n,NameKind.cell) else (n,k)).lookup x = some .cell \/ (names.map fun (n,k)=>if (k == .free && env.scope.kind == .function && env.kindOf n == some .cell) then (n,NameKind.cell) else (n,k)).lookup x = some .free) -> x = t \/ (x,NameKind.free) ∈ names := by
  intro names
  induction names with
  | nil=>intro _ h;rcases h with h | h <;> cases h
  | cons y r ih =>
   intro hc h;obtain ⟨n,k⟩ := y;rw [List.map_cons] at h;by_cases ex : x = n
   . subst ex;cases k with
     | free=>exact .inr mcs
     | cell=>exact .inl (hc _ mcs rfl)
     | _ =>
      rcases h with h | h
      . simp [List.lookup_cons] at h
      . simp [List.lookup_cons] at h
   . have hb : (x == n) = false := beq_eq_false_iff_ne.mpr ex;have h' : (r.map fun (n,k)=>if (k == .free && env.scope.kind == .function && env.kindOf n == some .cell) then (n,NameKind.cell) else (n,k)).lookup x = some .cell \/ (r.map fun (n,k)=>if (k == .free && env.scope.kind == .function && env.kindOf n == some .cell) then (n,NameKind.cell) else (n,k)).lookup x = some .free := by
       by_cases hcnd : (k == .free && env.scope.kind == .function && env.kindOf n == some .cell) = true
       . simpa [List.lookup_cons,hb,hcnd] using h
       . simpa [List.lookup_cons,hb,hcnd] using h
     rcases ih (fun y hy=>hc y (mcm hy)) h' with z | z
     . exact .inl z
     . exact .inr (mcm z)
 refine key scope.names (fun y hy e=>?_) h;have hm : y ∈ scope.names.filter (fun y=>y.2 == .cell) := List.mem_filter.mpr ⟨hy,by rw [e];rfl⟩
 rw [hcell] at hm;rw [List.mem_singleton.mp hm]
theorem comp_coreC {t : Str} {X : Cx} {elt iter tg : Expr} {ifs : List Expr} {scope : Scope} {pos : Pos} {caps : List Nat} {capN tgN : List Str} {wi : TI} {gt : TG} {tt : TT} {te : TE} {use : Option (Value -> Sem Unit)} {QQ : VSP} {pins : LAO} {s : Shared} {σ : St} {H : Hp} {Q : VK} (hc : X.calm = true) (hi : PI X tg iter wi) (hcell : scope.names.filter (fun y=>y.2 == .cell) = [(t,NameKind.cell)]) (htc : t ∉ capN) (hkind : scope.kind = .function) (hnames : ∀ y ∈ scope.names,y.2 = .local -> scope.names.lookup y.1 = some .local) (hfree : ∀ y ∈ scope.names,y.2 = .free -> X.env.kindOf y.1 = some .cell \/ X.env.kindOf y.1 = some .free) (hcapN : capN.map some = caps.map fun i=>X.N[i]?) (hcapF : ∀ y ∈ capN,(y,NameKind.free) ∈ scope.names) (hcapK : ∀ y ∈ capN,(relabel scope X.env).names.lookup y = some .cell \/ (relabel scope X.env).names.lookup y = some .free) (hg : ∀ cl C fp s3 H3,PG (compCxT t X scope (capN ++ tgN) cl C fp s3 H3) tg gt) (hf : ∀ cl C fp s3 H3,PIfs (compCxT t X scope (capN ++ tgN) cl C fp s3 H3) ifs tt) (he : ∀ cl C fp s3 H3,PE (compCxT t X scope (capN ++ tgN) cl C fp s3 H3) elt te) (hs : ∀ x,foldedSetIterable iter X.env x = pure x) (I : Inv X pins σ H s) (h : tComp caps tgN.length wi gt tt te σ H Q) (hend : ∀ (D Z : Addr) (s6 : Shared) (H5 : Hp),(∃ m,s6.heap.Ns Z m) -> (∀ h'',Heap.SameBut Z s6.heap h'' -> Inv X pins σ H5 { s6 with heap := h'' }) -> H5 Z = none -> X.s₀.heap.objs.size <= Z -> Z ≠ X.env.locals -> (∀ x c,X.env.cells.lookup x = some c -> c ≠ Z) -> (∀ p ∈ X.pn ++ pins,p.1 ≠ Z) -> Q (.ref D) H5 -> compPost (model X.prog X.w) X.A X.xe use QQ (.ref D) Z (.ok .next) s6) : wpAny (model X.prog X.w) X.A (comprehension (.ListComp elt [⟨tg,iter,ifs,0⟩] scope pos) scope X.env (firstIterPos [⟨tg,iter,ifs,0⟩] pos) (newList []) (firstAsync [⟨tg,iter,ifs,0⟩]) (firstIter [⟨tg,iter,ifs,0⟩] X.env) use) QQ X.xe s := by
 obtain ⟨cl,hclos,clsub,clhas⟩ := closure_of (scope := scope) (env := X.env) fun y hy hk=>I.ok.has y.1 (hfree y hy hk);refine wpAny_comprehension_free (use := use) rfl hs hclos hkind hnames (thn (hi pins s σ H _ I h) fun v s1 h1=>thn h1 fun itv s2 h2=>?_);obtain ⟨it,fp,tn,J,H2,e,I2,T,st2,f2,q⟩ := h2;subst e;refine wpAny_newObj_type ?_;have hn : H2 s2.heap.objs.size = none := I2.hok.fresh (Nat.le_refl _);obtain ⟨W,⟨m0,w0⟩,turn⟩ := q s2.heap.objs.size hn;have I3 : Inv X pins σ (upd H2 s2.heap.objs.size (.lst [])) { s2 with heap := s2.heap.push { cls := .type "list", dict := none,data := .seq ([] : List Value).toArray } } :=
  I2.laid (t' := s2.toks) (fun b u e=>hps e) (Nat.le_refl _) ⟨Nat.zero_le _,[],0,.nil,Heap.get?_push_size _ rfl⟩
 generalize hs3 : ({ s2 with heap := s2.heap.push { cls := .type "list", dict := none,data := .seq ([] : List Value).toArray } } : Shared) = s3 at I3 ⊢
 generalize hH3 : upd H2 s2.heap.objs.size (.lst []) = H3 at I3 w0;have fpl : ∀ b ∈ fp,b < s2.heap.objs.size := fun b hb=>by obtain ⟨o,eo,_⟩ := T.obj 0 _ st2 b hb;exact Heap.lt_size eo
 have sz3 : s3.heap.objs.size = s2.heap.objs.size + 1 := by rw [<- hs3];exact Heap.size_push _ _
 have keep23 : ∀ b o,s2.heap.get? b = some o -> s3.heap.get? b = some o := fun b o e=>by rw [<- hs3];exact hps e
 have hDf : s2.heap.objs.size ∉ fp := fun hb=>Nat.lt_irrefl _ (fpl _ hb);refine newEnvC hcell fun h4 hns keep34 ic0=>?_;have inC : ∀ x c,List.lookup x ((t,s3.heap.objs.size + 1) :: cl) = some c -> (x = t /\ c = s3.heap.objs.size + 1) \/ (x ≠ t /\ cl.lookup x = some c /\ c < s3.heap.objs.size) := fun x c e=>by
  rw [List.lookup_cons] at e;split at e
  . rename_i h;cases e;exact .inl ⟨by simpa using h,rfl⟩
  . rename_i h;refine .inr ⟨by simpa using h,e,?_⟩
    obtain ⟨v,q⟩ := I3.cell x c (clsub x c e);exact q.lt
 have nostk : ∀ b ∈ fp,b ∉ frs X.stack := fun b hb z=>by
  obtain ⟨_,f1,f2',_⟩ := f2 b hb;rcases List.mem_cons.mp (I2.stkSub b z) with q | q
  . exact f1 q
  . exact f2' q
 have okc : (compCxT t X scope (capN ++ tgN) ((t,s3.heap.objs.size + 1) :: cl) s3.heap.objs.size fp s3 H3).Ok :=
  { mod := I3.ok.mod
    kind := hkind
    glob := I3.ok.glob
    blt := I3.ok.blt
    above := Nat.le_refl _
    inj := fun x y c h1 h2=>by
     rcases inC x c h1 with ⟨a1,a2⟩ | ⟨a1,a2,a3⟩ <;> rcases inC y c h2 with ⟨b1,b2⟩ | ⟨b1,b2,b3⟩
     . rw [a1,b1]
     . omega
     . omega
     . exact I3.ok.inj x y c (clsub x c a2) (clsub y c b2)
    has := fun x hx=>by
     by_cases ex : x = t
     . exact ⟨_,by rw [ex];exact List.lookup_cons_self⟩
     . obtain ⟨c,hc⟩ := clhas x ((relabel_freeC hcell hx).resolve_left ex);refine ⟨c,?_⟩;show List.lookup x ((t,s3.heap.objs.size + 1) :: cl) = some c;rw [List.lookup_cons,beq_eq_false_iff_ne.mpr ex];exact hc
    cab := fun x c z h1=>by
     rcases inC x c h1 with ⟨a1,a2⟩ | ⟨a1,a2,a3⟩
     . rw [a2];exact Nat.le_succ _
     . exact absurd (beq_iff_eq.mp (show (x == t) = true from z)) a1
    hd := I3.ok.hd
    frames := I3.ok.frames
    stk := .inl rfl
    exf := fun b hb=>⟨Nat.ne_of_lt (by show b < s3.heap.objs.size;rw [sz3];exact Nat.lt_succ_of_lt (fpl b hb)),fun x c e=>by
     rcases inC x c e with ⟨a1,a2⟩ | ⟨a1,a2,a3⟩
     . intro z;have := fpl b hb;rw [<- z,a2,sz3] at this;exact Nat.lt_irrefl _ (Nat.lt_of_lt_of_le this (Nat.le_trans (Nat.le_succ _) (Nat.le_succ _)))
     . exact (f2 b hb).2.2.2.2.1 x c (clsub x c a2)⟩
    bs := I3.bs
    bsz := Nat.le_trans I3.ok.bsz I3.sz
    noex := fun b o e hb=>by
     obtain ⟨_,_,_,f3,_⟩ := f2 b hb;rcases f3 with z | z
     . exact I2.ok.noex b o e z
     . exact absurd (Heap.lt_size (I2.ok.bs b o e).1) (Nat.not_lt.mpr z)
    exfs := nostk
    funs := I3.stack
    frf := I3.stkFree }
 have capLen : capN.length = caps.length := by have := congrArg List.length hcapN;simpa using this
 generalize hσ0 : subS caps σ ++ List.replicate tgN.length none = σ0 at turn;have Ic : Inv (compCxT t X scope (capN ++ tgN) ((t,s3.heap.objs.size + 1) :: cl) s3.heap.objs.size fp s3 H3) [] σ0 H3 { s3 with heap := h4 } := by
  refine ⟨okc,rfl,I3.bare,Un.kept keep34,⟨_,hns,fun i y v h1 h2 h3=>?_⟩,fun x c e=>?_,I3.hok.fresh (Nat.le_refl _),fun x c e=>?_,fun p hp=>absurd (show p ∈ ([] : LAO) from hp) (by simp),I3.hok.kept keep34,?_⟩
  . by_cases hi : i < caps.length
    . have ey : capN[i]? = some y := by have h1 : (capN ++ tgN)[i]? = some y := h1;rw [List.getElem?_append_left (by rw [capLen];exact hi)] at h1;exact h1
      have hj : X.N[caps[i]]? = some y := by
       have e1 : (capN.map some)[i]? = (caps.map fun i=>X.N[i]?)[i]? := by rw [hcapN]
       rw [List.getElem?_map,List.getElem?_map,ey,List.getElem?_eq_getElem hi] at e1;simpa using e1.symm
      have ev : σ[caps[i]]? = some (some v) := by
       rw [<- hσ0,List.getElem?_append_left (by simpa [subS] using hi)] at h2
       unfold subS at h2;rw [List.getElem?_map,List.getElem?_eq_getElem hi] at h2;simp only [Option.map_some,Option.some.injEq] at h2;cases z : σ[caps[i]]? with
       | none=>rw [z] at h2;cases h2
       | some o=>rw [z] at h2;exact congrArg some h2
      have hyf := hcapF y (List.mem_of_getElem? ey);have hkX := hfree _ hyf rfl;obtain ⟨m,_,hl⟩ := I3.loc;obtain ⟨u,ru,lk⟩ := hl caps[i] y v hj ev (by rcases hkX with z | z;exact .inr (.inl z);exact .inr (.inr z))
      refine ⟨u,ru,.inr ⟨hcapK y (List.mem_of_getElem? ey),?_⟩⟩;rcases lk with ⟨hk,_⟩ | ⟨_,c,ec,ic⟩
      . rcases hkX with z | z
        . rw [show X.env.kindOf y = some .cell from z] at hk;cases hk
        . rw [show X.env.kindOf y = some .free from z] at hk;cases hk
      . obtain ⟨c',ec'⟩ := clhas y hyf;have := clsub y c' ec';rw [ec] at this;cases this;refine ⟨c,?_,ic.keeps keep34⟩;show List.lookup y ((t,s3.heap.objs.size + 1) :: cl) = some c;rw [List.lookup_cons,beq_eq_false_iff_ne.mpr (fun z=>htc (by rw [<- z];exact List.mem_of_getElem? ey))];exact ec'
    . rw [<- hσ0,List.getElem?_append_right (by simpa [subS] using hi),List.getElem?_replicate] at h2
      split at h2 <;> cases h2
  . rcases inC x c e with ⟨a1,a2⟩ | ⟨a1,a2,a3⟩
    . rw [a2];exact ⟨_,ic0⟩
    . obtain ⟨v,q⟩ := I3.cell x c (clsub x c a2);exact ⟨v,q.keeps keep34⟩
  . rcases inC x c e with ⟨a1,a2⟩ | ⟨a1,a2,a3⟩
    . rw [a2];exact I3.hok.fresh (Nat.le_succ _)
    . exact I3.freeC x c (clsub x c a2)
  . rw [<- hσ0];show (subS caps σ ++ List.replicate tgN.length none).length = (capN ++ tgN).length;simp [subS,capLen]
 have fpc : ∀ {H' : Hp},(∀ b ∈ fp,H' b = none) -> ∀ b ∈ fp,FpOk (compCxT t X scope (capN ++ tgN) ((t,s3.heap.objs.size + 1) :: cl) s3.heap.objs.size fp s3 H3) [] H' b := fun hn b hb =>
  ⟨hn b hb,(okc.exf b hb).1,nostk b hb,.inl hb,(okc.exf b hb).2,fun p hp=>absurd (show p ∈ ([] : LAO) from hp) (by simp)⟩
 have loop : codeAny (model X.prog X.w) X.A (.compLoop (.ListComp elt [⟨tg,iter,ifs,0⟩] scope pos) 0 (.ref it) (.ref s2.heap.objs.size) (compEnvC scope ((t,s3.heap.objs.size + 1) :: cl) s3.heap.objs.size X.env)) (compPost (model X.prog X.w) X.A X.xe use QQ (.ref s2.heap.objs.size) s3.heap.objs.size) { s3 with heap := h4 } := by
  refine compLoop_g (fun n s'=>∃ i ys H',Inv (compCxT t X scope (capN ++ tgN) ((t,s3.heap.objs.size + 1) :: cl) s3.heap.objs.size fp s3 H3) [] σ0 H' s' /\ tn i s'.heap /\ (∀ b ∈ fp,H' b = none) /\ W i n ys H') ?_ m0
   ⟨0,[],H3,Ic,T.keep _ _ _ st2 (fun b hb o e=>keep34 b o (keep23 b o e)),fun b hb=>by rw [<- hH3,upd_ne (by intro z;rw [z] at hb;exact hDf hb)];exact (f2 b hb).1,w0⟩
  rintro n s5 ⟨i,ys,H5,I5,st5,fr5,w5⟩;obtain ⟨hD,hw⟩ := turn i n ys H5 w5;rcases hw with ⟨stop,qq⟩ | ⟨go,hlen,step⟩
  . refine thn (T.done (compCxT t X scope (capN ++ tgN) ((t,s3.heap.objs.size + 1) :: cl) s3.heap.objs.size fp s3 H3) rfl rfl rfl hc i [] s5 σ0 H5 _ I5 (fpc fr5) st5 stop) fun r s6 ⟨hr,I6⟩=>?_;subst hr;obtain ⟨m,hm,_⟩ := id I6.loc;refine hend s2.heap.objs.size s3.heap.objs.size s6 H5 ⟨m,hm⟩ (fun h'' hsb2=>?_) I6.free I3.sz (fun z=>?_) (fun x c ec z=>?_) (fun p hp z=>?_) qq;rotate_left
    . obtain ⟨m,⟨o,es,ep,ho,_⟩,_⟩ := id I3.loc;rw [<- z] at ho;exact Nat.lt_irrefl _ (Heap.lt_size ho)
    . obtain ⟨v,o,ho,_⟩ := I3.cell x c ec;rw [z] at ho;exact Nat.lt_irrefl _ (Heap.lt_size ho)
    . have := (I3.pin p hp).1;rw [z] at this;exact Nat.lt_irrefl _ (Heap.lt_size this)
    have u := I6.base;have neC : ∀ b o,s3.heap.get? b = some o -> b ≠ s3.heap.objs.size := fun b o e=>Nat.ne_of_lt (Heap.lt_size e);have un : Un (frs X.stack) fp H3 H5 s3.heap h'' := by
     refine ⟨fun b o e n hb hx=>hsb2.extBut b o (neC b o e) (u.keep b o e n hb hx),fun b o e n hb hx=>?_,u.free,fun b o e hx=>?_,u.tups,u.frzs,u.tbls⟩
     . obtain ⟨sl,q⟩ := u.slot b o e n hb hx;exact ⟨sl,hsb2.extBut b _ (neC b o e) q⟩
     . obtain ⟨o',q⟩ := u.there b o e hx;exact ⟨o',hsb2.extBut b _ (neC b o e) q⟩
    have hok : HOk X.prog X.w H5 h'' := fun a o e => (I6.hok a o e).stay (fun b v hb q => hsb2.extBut b v (by
        intro z;have fr := I6.free;rcases hb with hb | hb
        . rw [hb] at z;rw [z] at e;rw [show H5 s3.heap.objs.size = none from fr] at e;cases e
        . rw [z,show H5 s3.heap.objs.size = none from fr] at hb;cases hb) q) (fun _ q=>q) fun _ _ q=>q
    have os6 := I6.os;obtain ⟨hh,g6,d6,t6,o6⟩ := s6;obtain rfl : o6 = s3.os := os6;have I8 := I3.call (h' := h'') (g' := g6) (d' := d6) (t' := t6) (ch := fp) un hok I6.bare fun b hb=>by obtain ⟨_,f1,_,f3,f4,f5⟩ := f2 b hb;exact ⟨f3,f1,f4,f5⟩
    exact I8
  . refine thn (T.item (compCxT t X scope (capN ++ tgN) ((t,s3.heap.objs.size + 1) :: cl) s3.heap.objs.size fp s3 H3) rfl rfl rfl hc i [] s5 σ0 H5 _ I5 (fpc fr5) st5 go) fun r s6 ⟨u,hr,h6⟩=>?_;subst hr;refine thn h6 fun _ s7 ⟨x,H7,I7,r7,y7,st7,fr7⟩=>?_;have I7' := I7.pinned (fpc fr7) (T.obj _ _ st7);refine thn (hg ((t,s3.heap.objs.size + 1) :: cl) s3.heap.objs.size fp s3 H3 _ s7 σ0 H7 x u _ I7' r7 (step x H7 y7)) fun _ s8 ⟨σ8,H8,I8,wk,q8⟩=>?_;have back : ∀ {H' : Hp} {s' : Shared} {m' : Nat} {ys' : List V},Inv (compCxT t X scope (capN ++ tgN) ((t,s3.heap.objs.size + 1) :: cl) s3.heap.objs.size fp s3 H3) ([] ++ pinsAt fp s7.heap) σ8 H' s' -> m' < n -> W (i + 1) m' ys' H' ->
        ∃ m,m < n /\ ∃ i ys H',Inv (compCxT t X scope (capN ++ tgN) ((t,s3.heap.objs.size + 1) :: cl) s3.heap.objs.size fp s3 H3) [] σ0 H' s' /\ tn i s'.heap /\ (∀ b ∈ fp,H' b = none) /\ W i m ys H' := fun {H' s' m' ys'} I' hm w'=>by
      have pinned : ∀ b ∈ fp,∀ o,s7.heap.get? b = some o -> s'.heap.get? b = some o /\ H' b = none := fun b hb o e=>by have := I'.pin (b,o) (List.mem_append_right _ (List.mem_append_right _ (mem_pinsAt hb e)));exact ⟨this.1,this.2.1⟩
      refine ⟨m',hm,i + 1,ys',H',I'.unpinned.weak wk.1 wk.2,T.keep _ _ _ st7 fun b hb o e=>(pinned b hb o e).1,fun b hb=>?_,w'⟩;obtain ⟨o,e,_⟩ := T.obj _ _ st7 b hb;exact (pinned b hb o e).2
    refine thn (hf ((t,s3.heap.objs.size + 1) :: cl) s3.heap.objs.size fp s3 H3 _ s8 σ8 H8 _ I8 q8) fun b s9 ⟨H9,I9,q9⟩=>?_;cases b with
    | false=>rw [if_neg Bool.false_ne_true] at q9 ⊢;obtain ⟨m',hm,w9⟩ := q9;exact back I9 hm w9
    | true =>
     rw [if_pos rfl] at q9 ⊢;refine thn (he ((t,s3.heap.objs.size + 1) :: cl) s3.heap.objs.size fp s3 H3 _ s9 σ8 H9 _ I9 q9) fun y s10 ⟨yv,H10,I10,r10,hD10,m',hm,w10⟩=>?_;refine thn (mt_append (X := compCxT t X scope (capN ++ tgN) ((t,s3.heap.objs.size + 1) :: cl) s3.heap.objs.size fp s3 H3) _ s10 σ8 H10 (.ref s2.heap.objs.size) [yv] (.ref s2.heap.objs.size) [y] (fun v H'=>v = .non /\ H' = upd H10 s2.heap.objs.size (.lst (ys ++ [yv]))) I10 rfl (.cons r10 .nil)
      ⟨s2.heap.objs.size,ys,yv,rfl,rfl,hD10,hlen,rfl,rfl⟩) fun _ s11 ⟨v,H11,I11,_,_,e11⟩=>?_
     subst e11;exact back I11 hm w10
 exact codeAny_compStart_list loop (T.self _ 0 _ _ _ (T.keep _ _ _ st2 (fun b hb o e=>keep34 b o (keep23 b o e))) loop)
theorem pe_compC {t : Str} {X : Cx} {elt iter tg : Expr} {ifs : List Expr} {scope : Scope} {pos : Pos} {caps : List Nat} {capN tgN : List Str} {wi : TI} {gt : TG} {tt : TT} {te : TE} (hc : X.calm = true) (hi : PI X tg iter wi) (hcell : scope.names.filter (fun y=>y.2 == .cell) = [(t,NameKind.cell)]) (htc : t ∉ capN) (hkind : scope.kind = .function) (hnames : ∀ y ∈ scope.names,y.2 = .local -> scope.names.lookup y.1 = some .local) (hfree : ∀ y ∈ scope.names,y.2 = .free -> X.env.kindOf y.1 = some .cell \/ X.env.kindOf y.1 = some .free) (hcapN : capN.map some = caps.map fun i=>X.N[i]?) (hcapF : ∀ y ∈ capN,(y,NameKind.free) ∈ scope.names) (hcapK : ∀ y ∈ capN,(relabel scope X.env).names.lookup y = some .cell \/ (relabel scope X.env).names.lookup y = some .free) (hg : ∀ cl C fp s3 H3,PG (compCxT t X scope (capN ++ tgN) cl C fp s3 H3) tg gt) (hf : ∀ cl C fp s3 H3,PIfs (compCxT t X scope (capN ++ tgN) cl C fp s3 H3) ifs tt) (he : ∀ cl C fp s3 H3,PE (compCxT t X scope (capN ++ tgN) cl C fp s3 H3) elt te) (hs : ∀ x,foldedSetIterable iter X.env x = pure x := by intro _;rfl) : PE X (.ListComp elt [⟨tg,iter,ifs,0⟩] scope pos) (tComp caps tgN.length wi gt tt te) := by intro pins s σ H Q I h;rw [eval_ListComp];exact comp_coreC (use := none) hc hi hcell htc hkind hnames hfree hcapN hcapF hcapK hg hf he hs I h fun D Z s6 H5 hm hI _ _ _ _ _ q=>by obtain ⟨m,hm⟩ := hm;exact ⟨m,hm,fun h'' hs=>⟨.ref D,H5,hI h'' hs,rfl,q⟩⟩
end L2
namespace D3
open PySem PySem.Spec PyProof.Rows L2
section
variable {C : Cw} {X : Cx} {pos : Pos}
theorem pv_compC {iter elt tg : Expr} {x : Str} {ifs : List Expr} {scope : Scope} {caps : List Nat} {capN : List Str} {gi gt ge : Rho -> Res} (hc : X.calm = true) (hi : PIv C X tg iter gi) (hcell : scope.names.filter (fun y=>y.2 == .cell) = [(x,NameKind.cell)]) (htc : x ∉ capN) (hkind : scope.kind = .function) (hnames : ∀ y ∈ scope.names,y.2 = .local -> scope.names.lookup y.1 = some .local) (hfree : ∀ y ∈ scope.names,y.2 = .free -> X.env.kindOf y.1 = some .cell \/ X.env.kindOf y.1 = some .free) (hcapN : capN.map some = caps.map fun i=>X.N[i]?) (hcapF : ∀ y ∈ capN,(y,NameKind.free) ∈ scope.names) (hcapK : ∀ y ∈ capN,(relabel scope X.env).names.lookup y = some .cell \/ (relabel scope X.env).names.lookup y = some .free) (hg : ∀ cl A fp s3 H3,PGw (compCxT x X scope (capN ++ [x]) cl A fp s3 H3) tg (.nm caps.length)) (hf : ∀ cl A fp s3 H3,PIfs (compCxT x X scope (capN ++ [x]) cl A fp s3 H3) ifs (tT (C.nox.at X) gt)) (he : ∀ cl A fp s3 H3,PV C.nox (compCxT x X scope (capN ++ [x]) cl A fp s3 H3) elt ge) (hs : ∀ x,foldedSetIterable iter X.env x = pure x) : PV C X (.ListComp elt [⟨tg,iter,ifs,0⟩] scope pos) (fun ρ=>compR (gi ρ) ρ caps 1 (setG (.nm caps.length)) gt ge) :=
 PE.imp (pe_compC (capN := capN) (tgN := [x]) (gt := gOf X.K (.nm caps.length)) (tt := tT (C.nox.at X) gt) (te := tG (C.nox.at X) fun ρ=>frzR (ge ρ)) hc hi hcell htc hkind hnames hfree hcapN hcapF hcapK
  hg hf (fun cl A fp s3 H3=>pv_frz (he cl A fp s3 H3)) hs) fun σ H Q q=>comp_tG (tgN := [x]) (fun j hj=>by simp [slotsG] at hj;omega) q
end
end D3
set_option genSizeOfSpec false
set_option genInjectivity false
namespace D3
open PySem PySem.Spec PyProof.Rows L2
inductive KC where | s (y : Str) | i (n : Int) | t (tb : List (Str × Str))
 deriving DecidableEq
def KC.d : KC -> D | .s y=>.str y | .i n=>.int n | .t _=>.non
inductive GV where | con (c : KC) | fn (n : Nat) | no | cls
 deriving DecidableEq
inductive Bn where | len | isinstance | all | any
 deriving DecidableEq
def Bn.name : Bn -> Str
 | .len => "len" | .isinstance => "isinstance" | .all => "all" | .any => "any"
def Bn.f : Bn -> List (Md × D) -> Option (Md × D)
 | .len=>lenD | .isinstance=>isiD | .all=>allD | .any=>anyD
def Bn.id : Bn -> String
 | .len => "len" | .isinstance => "isinstance" | .all => "all" | .any => "any"
inductive Ty where | int | bool | str | tuple | list | dict
 deriving DecidableEq
def Ty.f : Ty -> List (Md × D) -> Option (Md × D)
 | .tuple=>tcTuple | .list=>tcList | .int=>tcInt2 | .str=>tcStr | .dict=>tcDict | _=>fun _=>none
def Ty.id : Ty -> String
 | .int => "int" | .bool => "bool" | .str => "str" | .tuple => "tuple" | .list => "list" | .dict => "dict"
inductive Mt where | join | startswith | removeprefix | joinT
 deriving DecidableEq
def Mt.name : Mt -> Str | .join => "join" | .startswith => "startswith" | .removeprefix => "removeprefix" | .joinT => "join"
def Mt.ty : Mt -> String | .join => "str" | .startswith => "str" | .removeprefix => "str" | .joinT => "str"
def Mt.f : Mt -> Md -> D -> List (Md × D) -> Option (Md × D) | .join=>joinD | .startswith=>swD | .removeprefix=>rpD | .joinT=>D3.joinT
structure WD where
 Φ : Str -> List D -> Res
 I : Str -> Option (List D -> Res)
 cl : List CI
 xt : List ((Str × Str) × Bool)
 xi : List ((Str × Str) × Bool)
def WD.xf (W : WD) : Str -> Str -> Option Bool := fun c x=>W.xt.lookup (c,x)
def WD.xg (W : WD) : Str -> Str -> Option Bool := fun c x=>W.xi.lookup (c,x)
inductive E where
 | var (i : Nat) | non | bl (b : Bool) | int (i : Int) | str (x : Str)
 | glob (x : Str) (c : KC) | ty (t : Ty)
 | bin (op : Operator) (a b : E) | cmp (op : CmpOp) (a b : E)
 | andL (es : List E) | orL (es : List E) | not (a : E) | neg (a : E) | tru (a : E) | frz (a : E)
 | ix (a b : E) | slice (a : E) (lo hi : Option E)
 | tup (es : List E) | lst (es : List E)
 | call (f : Str) (n : Nat) (es : List E) | bcall (b : Bn) (es : List E) | mt (m : Mt) (o : E) (es : List E)
 | items (a : E) | rng1 (a : E) | enum1 (a : E)
 | comp (elt it : E) (ts : List E) (caps : List Nat) (t : Tg) (n : Nat)
 | tcall (t : Ty) (es : List E)
 | srt (a : E) | sum1 (a : E)
 | dlist (a : E)
 | dnew | dix (a b : E)
 | comp2 (elt it it2 : E) (ts : List E) (caps : List Nat) | usc (elt it it2 : E) (ts : List E) (caps : List Nat) | sel (caps : List Nat) (i j jd jm : Nat) | lidx (a b : E) | compC (elt it : E) (ts : List E) (caps : List Nat)
def noF : Md -> D -> Md -> D -> Option (Md × D) := fun _ _ _ _=>none
def fBin : Operator -> Md -> D -> Md -> D -> Option (Md × D)
 | .Add=>orO fAdd catD | .Sub=>fSub | .Mult=>orO fMul mulS0 | .Mod=>fMod | .FloorDiv=>fDiv | .Pow=>fPow | .BitAnd=>fBand | .BitOr=>fBor | .LShift=>fShl | .RShift=>fShr | _=>noF
def fCmp : CmpOp -> Md -> D -> Md -> D -> Option (Md × D)
 | .Lt=>orO fLt ltF | .LtE=>fLe | .Gt=>fGt | .GtE=>fGe | .Eq=>fEq | .NotEq=>fNe | .In=>orO fIn (inSq false) | .NotIn=>orO fNotIn (inSq true) | .Is=>fIs false | .IsNot=>fIs true
mutual
def evE (W : WD) : E -> Rho -> Res
 | .var i,ρ=>getS ρ i
 | .non,_=>.ok .fz .non
 | .bl b,_=>.ok .fz (.bl b)
 | .int i,_=>.ok .fz (.int i)
 | .str x,_=>.ok .fz (.str x)
 | .glob _ c,_=>.ok .fz c.d
 | .ty t,_=>.ok .fz (.ty t.id)
 | .bin op a b,ρ=>op2 (fBin op) (evE W a ρ) (evE W b ρ)
 | .cmp op a b,ρ=>op2 (fCmp op) (evE W a ρ) (evE W b ρ)
 | .andL es,ρ=>evA W es ρ
 | .orL es,ρ=>evO' W es ρ
 | .not a,ρ=>notR (evE W a ρ)
 | .neg a,ρ=>negR (evE W a ρ)
 | .tru a,ρ=>truR (evE W a ρ)
 | .frz a,ρ=>frzR (evE W a ρ)
 | .ix a b,ρ=>op2 ixD (evE W a ρ) (evE W b ρ)
 | .slice a lo hi,ρ=>slP (evE W a ρ) (evO W lo) (evO W hi) ρ
 | .tup es,ρ=>tupR (evEs W es ρ)
 | .lst es,ρ=>lstR (evEs W es ρ)
 | .call f n es,ρ=>callF n (W.Φ f) (evEs W es ρ)
 | .bcall b es,ρ=>callR b.f (evEs W es ρ)
 | .mt m o es,ρ=>mthR m.ty m.f (evE W o ρ) (evEs W es ρ)
 | .items a,ρ=>itemsR (frzR (evE W a ρ))
 | .rng1 a,ρ=>rng1R (consL (evE W a ρ) (.ok []))
 | .enum1 a,ρ=>enumR (consL (frzR (evE W a ρ)) (.ok []))
 | .comp elt it ts caps t n,ρ=>compR (evE W it ρ) ρ caps n (setG t) (fun ρ=>evF W ts ρ) (fun ρ=>evE W elt ρ)
 | .tcall t es,ρ=>callR t.f (evEs W es ρ)
 | .dnew,_=>.ok .fr (.dct [])
 | .srt a,ρ=>callR (CallD.or' srtD srtTD) (consL (evE W a ρ) (.ok []))
 | .sum1 a,ρ=>callR (CallD.or' sumD sumI) (consL (evE W a ρ) (.ok []))
 | .comp2 elt it it2 ts caps,ρ=>comp2R (evE W it ρ) ρ caps (fun ρ=>evF W ts ρ) (fun ρ=>evE W it2 ρ) (fun ρ=>evE W elt ρ)
 | .usc elt it it2 ts caps,ρ=>uscR (evE W it ρ) ρ caps (fun ρ=>evF W ts ρ) (fun ρ=>evE W it2 ρ) (fun ρ=>evE W elt ρ)
 | .sel _ _ _ jd jm,ρ=>selR ρ jd jm
 | .lidx a b,ρ=>idxL (evE W a ρ) (evE W b ρ)
 | .compC elt it ts caps,ρ=>compR (evE W it ρ) ρ caps 1 (setG (.nm caps.length)) (fun ρ=>evF W ts ρ) (fun ρ=>evE W elt ρ)
 | .dlist a,ρ=>callR tcKeys (consL (evE W a ρ) (.ok []))
 | .dix a b,ρ=>op2 ixK (evE W a ρ) (evE W b ρ)
def evEs (W : WD) : List E -> Rho -> ResL
 | [],_=>.ok []
 | e :: es,ρ=>consL (evE W e ρ) (evEs W es ρ)
def evA (W : WD) : List E -> Rho -> Res
 | [],_=>.stuck
 | [e],ρ=>evE W e ρ
 | e :: es,ρ=>andR (evE W e ρ) (evA W es ρ)
def evO' (W : WD) : List E -> Rho -> Res
 | [],_=>.stuck
 | [e],ρ=>evE W e ρ
 | e :: es,ρ=>orR (evE W e ρ) (evO' W es ρ)
def evF (W : WD) : List E -> Rho -> Res
 | [],_=>.ok .fz (.bl true)
 | e :: es,ρ=>andR (evE W e ρ) (evF W es ρ)
def evL (W : WD) : List E -> List (Rho -> Res)
 | []=>[]
 | e :: es=>evE W e :: evL W es
def evO (W : WD) : Option E -> Option (Rho -> Res)
 | none=>none
 | some e=>some (evE W e)
end
structure MG where
 G : List (Str × GV)
 mk0 : List Str
 mki : List (Str × Str × Nat)
 iso : List Str
 xcs : List Str
 xns : List Str
structure MC where
 N : List Str
 sc : Scope
 g : MG
 fn : Bool
 calm : Bool
 rz : Bool
def MC.kind (m : MC) (x : Str) : Option NameKind := m.sc.names.lookup x
def MC.vis (m : MC) (x : Str) : Bool := (m.kind x == some .local || m.kind x == some .cell || m.kind x == some .free) && x != "__debug__" && x != "__classdict__"
def MC.glob (m : MC) (x : Str) (v : GV) : Bool := m.kind x == some .globalImplicit && m.g.G.lookup x == some v && x != "__debug__" && x != "__name__"
def MC.gk (m : MC) (x : Str) : Bool := m.kind x == some .globalImplicit && x != "__debug__"
def strK (x : Str) : Bool := decide (x.length <= sizeLine) && PyData.strOk x
def notSl : Expr -> Bool | .Slice ..=>false | _=>true
def isTupT : Expr -> Bool | .Tuple ..=>true | _=>false
def notSet : Expr -> Bool | .Set ..=>false | _=>true
def plainT : Expr -> Bool | .UnaryOp .Not _ _=>false | .BoolOp ..=>false | .IfExp ..=>false | .Compare ..=>false | _=>true
def MC.sub (m : MC) (scope : Scope) (capN tgN : List Str) : MC := { m with N := capN ++ tgN,sc := { scope with names := relSc scope m.sc },fn := false,rz := false }
def MC.loc (m : MC) (i : Nat) (x : Str) : Bool := m.N[i]? == some x && (m.kind x == some .local || (m.fn && m.kind x == some .cell))
mutual
def mG (m : MC) : Tg -> Expr -> Bool
 | .nm i,e=>match e with | .Name x _=>m.loc i x | _=>false
 | .tp ts,e=>match e with | .Tuple es _ _=>m.calm && es.all notStarT && mGs m ts es | _=>false
def mGs (m : MC) : List Tg -> List Expr -> Bool
 | [],es=>es.isEmpty
 | t :: ts,l=>match l with | e :: es=>mG m t e && mGs m ts es | _=>false
end
def tgNames : Nat -> Expr -> List Str
 | _,.Name x _=>[x]
 | n + 1,.Tuple es _ _=>es.flatMap (tgNames n)
 | _,_=>[]
def compOkT (scope sc : Scope) (N : List Str) (caps : List Nat) (capN tgN : List Str) : Bool :=
 scope.names.all (fun y=>y.2 != .cell) && scope.kind == .function && scope.names.all (fun y=>y.2 != .local || scope.names.lookup y.1 == some .local) &&
 scope.names.all (fun y=>y.2 != .free || sc.names.lookup y.1 == some .cell || sc.names.lookup y.1 == some .free) && (capN.map some == caps.map fun i=>N[i]?) && capN.all (fun y=>scope.names.contains (y,.free)) &&
 capN.all (fun y=>(relSc scope sc).lookup y == some .cell || (relSc scope sc).lookup y == some .free) && decide (capN ++ tgN).Nodup
def compOkC (scope sc : Scope) (N : List Str) (caps : List Nat) (capN : List Str) (x : Str) : Bool :=
 scope.names.filter (fun y=>y.2 == .cell) == [(x,NameKind.cell)] && scope.kind == .function && scope.names.all (fun y=>y.2 != .local || scope.names.lookup y.1 == some .local) &&
 scope.names.all (fun y=>y.2 != .free || sc.names.lookup y.1 == some .cell || sc.names.lookup y.1 == some .free) && (capN.map some == caps.map fun i=>N[i]?) && capN.all (fun y=>scope.names.contains (y,.free)) &&
 capN.all (fun y=>(relSc scope sc).lookup y == some .cell || (relSc scope sc).lookup y == some .free) && decide (capN ++ [x]).Nodup && (relSc scope sc).lookup x == some .cell
def strK' : KC -> Bool | .s y=>strK y | .i _=>true | .t _=>false
mutual
def mE (m : MC) : E -> Expr -> Bool
 | .frz a,e=>mE m a e
 | .var i,e=>match e with | .Name x _=>m.N[i]? == some x && m.vis x | _=>false
 | .glob y c,e=>match e with | .Name x _=>x == y && m.glob x (.con c) && strK' c | _=>false
 | .ty t,e=>match e with | .Name x _=>x == (t.id : Str) && m.glob x .no | _=>false
 | .non,e=>match e with | .Constant .none _ _=>true | _=>false
 | .bl c,e=>match e with | .Constant (.bool b) _ _=>b == c | _=>false
 | .int c,e=>match e with | .Constant (.int b) _ _=>b == c | _=>false
 | .str c,e=>match e with | .Constant (.str b) _ _=>b == c && strK b | _=>false
 | .bin op a b,e=>match e with | .BinOp x o y _=>o == op && (mE m a x && mE m b y) | _=>false
 | .cmp op a b,e=>match e with | .Compare x [o] [y] _=>o == op && notSet y && (mE m a x && mE m b y) | _=>false
 | .andL es,e=>match e with | .BoolOp .And xs _=>mEs m es xs | _=>false
 | .orL es,e=>match e with | .BoolOp .Or xs _=>mEs m es xs | _=>false
 | .not a,e=>match e with | .UnaryOp .Not x _=>mE m a x | _=>false
 | .neg a,e=>match e with | .UnaryOp .USub x _=>mE m a x | _=>false
 | .slice a l h,e=>match e with | .Subscript x (.Slice lo hi none _) _=>mE m a x && (mO m l lo && mO m h hi) | _=>false
 | .ix a b,e=>match e with | .Subscript x y _=>notSl y && (mE m a x && mE m b y) | _=>false
 | .tup fs,e=>match e with | .Tuple es _ _=>mEs m fs es | _=>false
 | .lst fs,e=>match e with | .List es _=>mEs m fs es | _=>false
 | .call g n es,e=>match e with | .Call (.Name f _) (x :: xs) [] _=>m.calm && f == g && m.glob f (.fn n) && mEs m es (x :: xs) | _=>false
 | .bcall b es,e=>match e with | .Call (.Name f _) (x :: xs) [] _=>(m.calm || b == .len || b == .isinstance) && f == b.name && m.glob f .no && mEs m es (x :: xs) | _=>false
 | .mt t a es,e=>match e with | .Call (.Attribute o f ap) (x :: xs) [] cp=>f == t.name && ap.endLine == cp.line && decide ((x :: xs).length < 30) && notSup o && (mE m a o && mEs m es (x :: xs)) | _=>false
 | .tcall t es,e=>match e with | .Call (.Name f _) (x :: xs) [] _=>f == (t.id : Str) && m.glob f .no && mEs m es (x :: xs) | _=>false
 | .dnew,e=>match e with | .Dict [] [] _=>true | _=>false
 | .srt a,e=>match e with | .Call (.Name f _) [x] [] _=>f == "sorted" && m.glob f .no && notStar x && mE m a x | _=>false
 | .sum1 a,e=>match e with | .Call (.Name f _) [x] [] _=>m.calm && f == "sum" && m.glob f .no && notStar x && mE m a x | _=>false
 | .dlist a,e=>match e with | .Call (.Name f _) [x] [] _=>m.calm && f == "list" && m.glob f .no && notStar x && mE m a x | _=>false
 | .dix a b,e=>match e with | .Subscript x y _=>notSl y && (mE m a x && mE m b y) | _=>false
 | .comp el it ts caps t n,e=>match e with
  | .ListComp elt [⟨tg,iter,ifs,0⟩] scope _ =>
   let capN := caps.filterMap fun i=>m.N[i]?
   let tgN := tgNames 4 tg
   m.calm && compOkT scope m.sc m.N caps capN tgN && notSet iter && decide (tgN.length = n) && (slotsG t).all (fun j=>decide (caps.length <= j)) && mG (m.sub scope capN tgN) t tg && (mI m tg it iter && (mE (m.sub scope capN tgN) el elt && mF (m.sub scope capN tgN) ts ifs))
  | _=>false
 | .comp2 el it it2 ts caps,e=>match e with
  | .ListComp elt [⟨tg,iter,ifs,0⟩,⟨tg2,iter2,[],0⟩] scope _ =>
   let capN := caps.filterMap fun i=>m.N[i]?
   let tgN := tgNames 4 tg ++ tgNames 4 tg2
   m.calm && compOkT scope m.sc m.N caps capN tgN && notSet iter && notSet iter2 && decide (tgN.length = 2) && mG (m.sub scope capN tgN) (.nm caps.length) tg && mG (m.sub scope capN tgN) (.nm (caps.length + 1)) tg2 && (mI m tg it iter && (mI (m.sub scope capN tgN) tg2 it2 iter2 && (mE (m.sub scope capN tgN) el elt && mF (m.sub scope capN tgN) ts ifs)))
  | _=>false
 | .usc el it it2 ts caps,e=>match e with
  | .Call (.Name f _) [.SetComp elt [⟨tg,iter,ifs,0⟩,⟨tg2,iter2,[],0⟩] scope _] [] _ =>
   let capN := caps.filterMap fun i=>m.N[i]?
   let tgN := tgNames 4 tg ++ tgNames 4 tg2
   f == "sorted" && m.glob f .no && m.calm && compOkT scope m.sc m.N caps capN tgN && notSet iter && notSet iter2 && decide (tgN.length = 2) && mG (m.sub scope capN tgN) (.nm caps.length) tg && mG (m.sub scope capN tgN) (.nm (caps.length + 1)) tg2 && (mI m tg it iter && (mI (m.sub scope capN tgN) tg2 it2 iter2 && (mE (m.sub scope capN tgN) el elt && mF (m.sub scope capN tgN) ts ifs)))
  | _=>false
 | .sel caps i j jd jm,e=>match e with
  | .ListComp (.Name x0 _) [⟨.Name x1 _,.Name d _,[.Compare (.BinOp (.Subscript (.Name d3 _) (.Name x4 _) _) .BitAnd (.Name mm _) _) [.NotEq] [.Constant (.int z) _ _] _],0⟩] scope _ =>
   let capN := caps.filterMap fun i=>m.N[i]?
   let ms := m.sub scope capN [x1]
   m.calm && compOkT scope m.sc m.N caps capN [x1] && x0 == x1 && x4 == x1 && d3 == d && z == 0 && caps[i]? == some jd && caps[j]? == some jm && m.N[jd]? == some d && m.vis d && ms.loc caps.length x1 && ms.vis x1 && ms.N[i]? == some d && ms.vis d && ms.N[j]? == some mm && ms.vis mm
  | _=>false
 | .compC el it ts caps,e=>match e with
  | .ListComp elt [⟨.Name x p,iter,ifs,0⟩] scope _ =>
   let capN := caps.filterMap fun i=>m.N[i]?
   m.calm && compOkC scope m.sc m.N caps capN x && notSet iter && (mI m (.Name x p) it iter && (mE (m.sub scope capN [x]) el elt && mF (m.sub scope capN [x]) ts ifs))
  | _=>false
 | .lidx a b,e=>match e with | .Call (.Attribute o f ap) [x] [] cp=>f == "index" && ap.endLine == cp.line && notSup o && notStar x && (mE m a o && mE m b x) | _=>false
 | .tru _,_=>false
 | .items _,_=>false
 | .rng1 _,_=>false
 | .enum1 _,_=>false
def mT (m : MC) : E -> Expr -> Bool
 | .tru a,e=>plainT e && mE m a e
 | .cmp op a b,e=>match e with | .Compare x [o] [y] _=>o == op && notSet y && (mE m a x && mE m b y) | _=>false
 | .andL es,e=>match e with | .BoolOp .And xs _=>mF m es xs | _=>false
 | .orL es,e=>match e with | .BoolOp .Or xs _=>mF m es xs | _=>false
 | .not a,e=>match e with | .UnaryOp .Not x _=>mT m a x | _=>false
 | _,_=>false
def mI (m : MC) (tg : Expr) : E -> Expr -> Bool
 | .items a,e=>mE m a e
 | .rng1 a,e=>match e with | .Call (.Name f _) [x] [] _=>f == "range" && m.glob f .no && notStar x && mE m a x | _=>false
 | .enum1 a,e=>match e with | .Call (.Name f _) [x] [] _=>f == "enumerate" && isTupT tg && m.glob f .no && notStar x && mE m a x | _=>false
 | _,_=>false
def mEs (m : MC) : List E -> List Expr -> Bool
 | [],es=>es.isEmpty
 | e :: es,l=>match l with | x :: xs=>notStar x && mE m e x && mEs m es xs | _=>false
def mO (m : MC) : Option E -> Option Expr -> Bool
 | none,e=>e.isNone
 | some e,l=>match l with | some x=>mE m e x | _=>false
def mF (m : MC) : List E -> List Expr -> Bool
 | [],es=>es.isEmpty
 | e :: es,l=>match l with | x :: xs=>mT m e x && mF m es xs | _=>false
end
structure SX (k : Nat) (W : WD) (m : MC) (C : Cw) (X : Cx) : Prop where
 hN : X.N = m.N
 hs : X.env.scope = m.sc
 cm : m.calm = true -> X.calm = true
 rm : m.calm = true -> Room k X.A
 un : X.A.units + 64 < cLine
 xo : m.calm = true -> XOk (CX1 X.prog X.w) (C.at X) X
 xt : XtOk X.K X.mg W.xf
 xi : XisOk X.K X.mg W.xg
 xc : ∀ c,c ∈ m.g.xcs -> ∃ Cc,X.mg c = some (.ref Cc) /\ RzCls X.K Cc
 xn : ∀ n,n ∈ m.g.xns -> ∃ cv,ClsV X.mg n cv
 con : ∀ x c,m.g.G.lookup x = some (.con c) -> match c with | .s y=>∃ t,X.mg x = some (.str y t) | .i n=>∃ t,X.mg x = some (.int n t) | .t tb=>TabV X.w X.K X.mg x tb
 no : ∀ x,m.g.G.lookup x = some .no -> X.mg x = none
 mk0 : ∀ c,c ∈ m.g.mk0 -> MkV0 X.K X.mg c
 mki : ∀ c key n,(c,key,n) ∈ m.g.mki -> ∀ Φ,W.I key = some Φ -> ∃ j,j + 1 <= k /\ InV X.prog X.w X.K X.mg X.base (CX1 X.prog X.w) j c n Φ
 iso : ∀ c,c ∈ m.g.iso -> IsV X.K X.mg W.cl c
 fl : ∀ i f,i ∈ W.cl -> f ∈ i.flds -> FlV X.K i.name f
 mt : ∀ c m key n,CI.meth W.cl c m = some (key,n) -> MtV X.prog X.w X.K X.mg X.base (CX1 X.prog X.w) k c m n (W.Φ key)
 fn : ∀ x n,m.g.G.lookup x = some (.fn n) -> FnV X.prog X.w X.K X.mg X.base (CX1 X.prog X.w) k x n (W.Φ x)
 fnn : m.fn = true -> ∀ x,X.fn x = true
section
variable {k : Nat} {W : WD} {m : MC} {C : Cw} {X : Cx} {x y : Expr}
theorem SX.gl (S : SX k W m C X) {z : Str} {v : GV} (h : m.glob z v = true) : Gl X z /\ m.g.G.lookup z = some v /\ (z == ("__debug__" : Str)) = false /\ z ≠ "__name__" := by
 unfold MC.glob MC.kind at h;simp only [Bool.and_eq_true,beq_iff_eq,bne_iff_ne] at h;obtain ⟨⟨⟨h1,h2⟩,h3⟩,h4⟩ := h;refine ⟨?_,h2,by simpa using h3,h4⟩
 show X.env.scope.names.lookup z = _;rw [S.hs];exact h1
theorem SX.vis (S : SX k W m C X) {z : Str} (h : m.vis z = true) : Vis X.env.scope z /\ (z == ("__debug__" : Str)) = false /\ (z == ("__classdict__" : Str)) = false := by
 unfold MC.vis MC.kind at h;simp only [Bool.and_eq_true,Bool.or_eq_true,beq_iff_eq,bne_iff_ne] at h;obtain ⟨⟨h1,h2⟩,h3⟩ := h;refine ⟨?_,by simpa using h2,by simpa using h3⟩
 unfold Vis;rw [S.hs];rcases h1 with (h1 | h1) | h1
 . exact .inl h1
 . exact .inr (.inl h1)
 . exact .inr (.inr h1)
theorem bn_boot (b : Bn) : bootBuiltins b.name = some (.builtin b.id) := by
 cases b
 . exact bb_len
 . exact bb_isinstance
 . exact bb_all
 . exact bb_any
theorem bn_call (b : Bn) {c : Bool} (hc : c = true -> X.calm = true) (h : (c || b == .len || b == .isinstance) = true) : CallD X (.builtin b.id) b.f := by
 have hc : (b == .len || b == .isinstance) = false -> X.calm = true := fun z=>hc (by cases c with | true=>rfl | false=>rw [Bool.false_or] at h;rw [h] at z;cases z)
 cases b
 . exact calld_len
 . exact calld_isi
 . exact calld_all (hc rfl)
 . exact calld_any (hc rfl)
theorem no_call {f : Value} : CallD X f (fun _=>none) := ⟨fun _ _ _=>False,fun _ _ _ _ _ _ _ _ _ h=>h.elim,fun _ _ _ _ _ _ _ _ _ e _=>by cases e⟩
theorem ty_call (t : Ty) : CallD X (.type t.id) t.f := by
 cases t
 . exact calld_int2
 . exact no_call
 . exact calld_str
 . exact calld_tuple
 . exact calld_list
 . exact calld_dict
theorem ty_boot (t : Ty) : bootBuiltins (t.id : Str) = some (.type t.id) := by
 cases t
 . exact bb_int
 . exact bb_bool
 . exact bb_str
 . exact bb_tuple
 . exact bb_list
 . exact bb_dict
theorem bin_op (op : Operator) : (∃ φ,fBin op = φ /\ OpD C X (binaryOp op) φ) \/ fBin op = noF := by
 cases op
 case Add=>exact .inl ⟨_,rfl,o_add.or opd_cat⟩
 case Sub=>exact .inl ⟨_,rfl,opd_sub⟩
 case Mult=>exact .inl ⟨_,rfl,o_mul.or opd_mulS0⟩
 case Mod=>exact .inl ⟨_,rfl,opd_mod⟩
 case FloorDiv=>exact .inl ⟨_,rfl,opd_fdiv⟩
 case Pow=>exact .inl ⟨_,rfl,opd_pow⟩
 case BitAnd=>exact .inl ⟨_,rfl,opd_band⟩
 case BitOr=>exact .inl ⟨_,rfl,opd_bor⟩
 case LShift=>exact .inl ⟨_,rfl,opd_shl⟩
 case RShift=>exact .inl ⟨_,rfl,opd_shr⟩
 all_goals exact .inr rfl
theorem isB_noK : IsB noK := fun _ _ _ _ _ _ z=>by cases z
theorem cmp_op (op : CmpOp) (hu : X.A.units + 64 < cLine) : (OpD C X (compareOp op) (fCmp op) /\ IsB (fCmp op)) \/ fCmp op = noF := by
 cases op
 case Lt=>exact .inl ⟨opd_lt.or (opd_ltF hu),isB_or isB_I isB_ltF⟩
 case LtE=>exact .inl ⟨opd_le,isB_I⟩
 case Gt=>exact .inl ⟨opd_gt,isB_I⟩
 case GtE=>exact .inl ⟨opd_ge,isB_I⟩
 case Eq=>exact .inl ⟨o_eq hu,isB_or isB_eqF isB_noK⟩
 case NotEq=>exact .inl ⟨o_ne hu,isB_or isB_eqF isB_noK⟩
 case In=>exact .inl ⟨opd_inS.or (opd_insq op_in_seq),isB_or isB_S isB_insq⟩
 case NotIn=>exact .inl ⟨opd_notinS.or (opd_insq op_notIn_seq),isB_or isB_S isB_insq⟩
 case Is=>exact .inl ⟨opd_is,isB_is⟩
 case IsNot=>exact .inl ⟨opd_isnot,isB_is⟩
theorem noF_opd {f : Value -> Value -> Sem Value} : OpD C X f noF := ⟨fun _ _ _ _=>False,fun _ _ _ _ _ _ _ _ _ _ _ _ h=>h.elim,fun _ _ _ _ _ _ _ _ _ _ _ _ _ _ e _=>by cases e⟩
theorem bin_opd (op : Operator) : OpD C X (binaryOp op) (fBin op) := by
 rcases bin_op (C := C) (X := X) op with ⟨φ,e,h⟩ | e
 . rw [e];exact h
 . rw [e];exact noF_opd
theorem cmp_opd (op : CmpOp) (hu : X.A.units + 64 < cLine) : OpD C X (compareOp op) (fCmp op) /\ IsB (fCmp op) := by
 rcases cmp_op (C := C) op hu with h | e
 . exact h
 . rw [e];exact ⟨noF_opd,fun _ _ _ _ _ _ z=>by cases z⟩
theorem nomarkS (op : CmpOp) {e : Expr} (h : notSet e = true) : behindInMarks op e = false := by cases e <;> first | rfl | cases h
theorem nofold {e : Expr} {env : Env} (h : notSet e = true) : ∀ v,foldedSetIterable e env v = pure v := by intro v;cases e <;> first | rfl | cases h
theorem plainIx {e : Expr} (h : notSl e = true) : PlainIx e := by intro o i;cases e <;> first | rfl | cases h
theorem plain_true {e : Expr} {env : Env} (h : plainT e = true) : ∀ whole,isTrue e env whole = (do let v <- whole;standAt e.pos;holding [v] (truthy v)) := by
 intro whole;cases e
 case UnaryOp op _ _=>cases op <;> first | rfl | cases h
 all_goals first | rfl | cases h
theorem SX.sub (S : SX k W m C X) {scope : Scope} {capN tgN : List Str} (cl : List (Str × Addr)) (A : Addr) (fp : List Addr) (s3 : Shared) (H3 : Hp) : SX k W (m.sub scope capN tgN) C.nox (compCx X scope (capN ++ tgN) cl A fp s3 H3) := by
 refine ⟨rfl,?_,S.cm,S.rm,S.un,fun _ pins σ H s e s' I h=>?_,S.xt,S.xi,S.xc,S.xn,S.con,S.no,S.mk0,S.mki,S.iso,S.fl,S.mt,S.fn,fun z=>by cases z⟩
 rotate_left
 . obtain ⟨_,_,_,_,_,_,_,_,_,_,_,_,z⟩ := h;exact z.elim
 show (compEnvC scope cl A X.env).scope = _;unfold MC.sub;rw [<- S.hs];rfl
theorem SX.subC (S : SX k W m C X) {scope : Scope} {capN tgN : List Str} (t : Str) (cl : List (Str × Addr)) (A : Addr) (fp : List Addr) (s3 : Shared) (H3 : Hp) : SX k W (m.sub scope capN tgN) C.nox (compCxT t X scope (capN ++ tgN) cl A fp s3 H3) := by
 refine ⟨rfl,?_,S.cm,S.rm,S.un,fun _ pins σ H s e s' I h=>?_,S.xt,S.xi,S.xc,S.xn,S.con,S.no,S.mk0,S.mki,S.iso,S.fl,S.mt,S.fn,fun z=>by cases z⟩
 rotate_left
 . obtain ⟨_,_,_,_,_,_,_,_,_,_,_,_,z⟩ := h;exact z.elim
 show (compEnvC scope cl A X.env).scope = _;unfold MC.sub;rw [<- S.hs];rfl
theorem SX.loc (S : SX k W m C X) {i : Nat} {z : Str} (h : m.loc i z = true) : X.N[i]? = some z /\ L2.Loc X.env.scope z /\ (X.fn z = true \/ X.env.scope.names.lookup z = some .local) := by
 unfold MC.loc MC.kind at h;simp only [Bool.and_eq_true,Bool.or_eq_true,beq_iff_eq] at h;refine ⟨by rw [S.hN];exact h.1,?_,?_⟩
 . unfold L2.Loc;rw [S.hs];rcases h.2 with q | q
   . exact .inl q
   . exact .inr q.2
 . rw [S.hs];rcases h.2 with q | q
   . exact .inr q
   . exact .inl (S.fnn q.1 z)
mutual
theorem sG (S : SX k W m C X) (hN : m.N.Nodup) : ∀ (t : Tg) {e : Expr},mG m t e = true -> PGw X e t
 | .nm i,e,h=>by
  simp only [mG] at h;split at h
  . obtain ⟨a,b,c⟩ := S.loc h;exact pgw_name (by rw [S.hN];exact hN) a b c
  . cases h
 | .tp ts,e,h=>by
  simp only [mG] at h;split at h
  . rw [Bool.and_eq_true,Bool.and_eq_true,List.all_eq_true] at h;obtain ⟨p,l⟩ := sGs S hN ts h.2 h.1.2;exact pgw_tup (S.cm h.1.1) p h.1.2 l
  . cases h
theorem sGs (S : SX k W m C X) (hN : m.N.Nodup) : ∀ (ts : List Tg) {es : List Expr},mGs m ts es = true -> (∀ e ∈ es,notStarT e = true) -> PGws X es ts /\ es.length = ts.length
 | [],[],h,_=>⟨pgws_nil,rfl⟩
 | [],_ :: _,h,_=>by simp [mGs] at h
 | t :: ts,[],h,_=>by simp [mGs] at h
 | t :: ts,e :: es,h,hs=>by simp only [mGs,Bool.and_eq_true] at h;obtain ⟨p,l⟩ := sGs S hN ts h.2 fun x hx=>hs x (mcm hx);exact ⟨pgws_cons (sG S hN t h.1) p (hs e mcs),by rw [List.length_cons,List.length_cons,l]⟩
end
end
theorem mEs_star {m : MC} : ∀ {fs : List E} {es : List Expr},mEs m fs es = true -> ∀ x ∈ es,notStar x = true
 | [],[],_=>fun x hx=>by cases hx
 | [],_ :: _,h=>by simp [mEs] at h
 | f :: fs,[],h=>by simp [mEs] at h
 | f :: fs,e :: es,h=>by
  simp only [mEs,Bool.and_eq_true] at h;intro x hx;rcases List.mem_cons.mp hx with rfl | hx
  . exact h.1.1
  . exact mEs_star h.2 x hx
theorem compOk_un {k : Nat} {W : WD} {m : MC} {C : Cw} {X : Cx} (S : SX k W m C X) {scope : Scope} {caps : List Nat} {capN tgN : List Str} (ho : compOkT scope m.sc m.N caps capN tgN = true) : (∀ y ∈ scope.names,y.2 ≠ .cell) /\ scope.kind = .function /\ (∀ y ∈ scope.names,y.2 = .local -> scope.names.lookup y.1 = some .local) /\ (∀ y ∈ scope.names,y.2 = .free -> X.env.kindOf y.1 = some .cell \/ X.env.kindOf y.1 = some .free) /\ (capN.map some = caps.map fun i=>X.N[i]?) /\ (∀ y ∈ capN,(y,NameKind.free) ∈ scope.names) /\ (∀ y ∈ capN,(relabel scope X.env).names.lookup y = some .cell \/ (relabel scope X.env).names.lookup y = some .free) /\ (capN ++ tgN).Nodup := by
 unfold compOkT at ho;simp only [Bool.and_eq_true,List.all_eq_true,Bool.or_eq_true,bne_iff_ne,beq_iff_eq,decide_eq_true_eq,List.contains_iff_mem] at ho;obtain ⟨⟨⟨⟨⟨⟨⟨g1,g2⟩,g3⟩,g4⟩,g5⟩,g6⟩,g7⟩,g8⟩ := ho;have er : (relabel scope X.env).names = relSc scope m.sc := by rw [<- S.hs];rfl
 refine ⟨g1,g2,fun y hy e=>(g3 y hy).resolve_left fun z=>z e,fun y hy e=>?_,by rw [S.hN];exact g5,g6,fun y hy=>by rw [er];exact g7 y hy,g8⟩
 have := g4 y hy;show X.env.scope.names.lookup y.1 = _ \/ X.env.scope.names.lookup y.1 = _;rw [S.hs];rcases this with (z | z) | z
 . exact absurd e z
 . exact .inl z
 . exact .inr z
theorem compOkC_un {k : Nat} {W : WD} {m : MC} {C : Cw} {X : Cx} (S : SX k W m C X) {scope : Scope} {caps : List Nat} {capN : List Str} {x : Str} (ho : compOkC scope m.sc m.N caps capN x = true) : scope.names.filter (fun y=>y.2 == .cell) = [(x,NameKind.cell)] /\ scope.kind = .function /\ (∀ y ∈ scope.names,y.2 = .local -> scope.names.lookup y.1 = some .local) /\ (∀ y ∈ scope.names,y.2 = .free -> X.env.kindOf y.1 = some .cell \/ X.env.kindOf y.1 = some .free) /\ (capN.map some = caps.map fun i=>X.N[i]?) /\ (∀ y ∈ capN,(y,NameKind.free) ∈ scope.names) /\ (∀ y ∈ capN,(relabel scope X.env).names.lookup y = some .cell \/ (relabel scope X.env).names.lookup y = some .free) /\ (capN ++ [x]).Nodup /\ (relabel scope X.env).names.lookup x = some .cell := by
 unfold compOkC at ho;simp only [Bool.and_eq_true,List.all_eq_true,Bool.or_eq_true,bne_iff_ne,beq_iff_eq,decide_eq_true_eq,List.contains_iff_mem] at ho;obtain ⟨⟨⟨⟨⟨⟨⟨⟨g1,g2⟩,g3⟩,g4⟩,g5⟩,g6⟩,g7⟩,g8⟩,g9⟩ := ho;have er : (relabel scope X.env).names = relSc scope m.sc := by rw [<- S.hs];rfl
 refine ⟨g1,g2,fun y hy e=>(g3 y hy).resolve_left fun z=>z e,fun y hy e=>?_,by rw [S.hN];exact g5,g6,fun y hy=>by rw [er];exact g7 y hy,g8,by rw [er];exact g9⟩
 have := g4 y hy;show X.env.scope.names.lookup y.1 = _ \/ X.env.scope.names.lookup y.1 = _;rw [S.hs];rcases this with (z | z) | z
 . exact absurd e z
 . exact .inl z
 . exact .inr z
set_option maxHeartbeats 4000000 in
mutual
theorem sE {k : Nat} {W : WD} : ∀ (f : E) {m : MC} {C : Cw} {X : Cx} {e : Expr},SX k W m C X -> mE m f e = true -> PV C X e (evE W f)
 | .frz a,m,C,X,e,S,h=>by exact pv_frz (sE a S h)
 | .var i,m,C,X,e,S,h=>by
  conv at h=>lhs;whnf
  split at h
  . simp only [Bool.and_eq_true,beq_iff_eq] at h;obtain ⟨h1,h2,h3⟩ := S.vis h.2;exact pv_var i (pe_var (by rw [S.hN];exact h.1) h1 h2 h3)
  . cases h
 | .glob y c,m,C,X,e,S,h=>by
  conv at h=>lhs;whnf
  split at h
  . simp only [Bool.and_eq_true,beq_iff_eq] at h;obtain ⟨⟨rfl,h1⟩,h2⟩ := h;obtain ⟨g,l,hd,hn⟩ := S.gl h1;have := S.con _ _ l;cases c with
    | s y=>obtain ⟨t,ht⟩ := this;exact pv_globS g ht h2 hd
    | i n=>obtain ⟨t,ht⟩ := this;exact pv_globI g ht hd
    | t tb=>cases h2
  . cases h
 | .ty t,m,C,X,e,S,h=>by
  conv at h=>lhs;whnf
  split at h
  . simp only [Bool.and_eq_true,beq_iff_eq] at h;obtain ⟨rfl,h1⟩ := h;obtain ⟨g,l,hd,hn⟩ := S.gl h1;exact pv_ty g (S.no _ l) (ty_boot t) hn hd
  . cases h
 | .non,m,C,X,e,S,h=>by
  conv at h=>lhs;whnf
  split at h
  . exact pv_non
  . cases h
 | .bl c,m,C,X,e,S,h=>by
  conv at h=>lhs;whnf
  split at h
  . simp only [beq_iff_eq] at h;subst h;exact pv_bl
  . cases h
 | .int c,m,C,X,e,S,h=>by
  conv at h=>lhs;whnf
  split at h
  . simp only [beq_iff_eq] at h;subst h;exact pv_int
  . cases h
 | .str c,m,C,X,e,S,h=>by
  conv at h=>lhs;whnf
  split at h
  . simp only [Bool.and_eq_true,beq_iff_eq] at h;obtain ⟨rfl,h⟩ := h;exact pv_str h
  . cases h
 | .bin op a b,m,C,X,e,S,h=>by
  conv at h=>lhs;whnf
  split at h
  . simp only [Bool.and_eq_true,beq_iff_eq] at h;obtain ⟨rfl,h1,h2⟩ := h;exact pv_op (bin_opd _) (sE a S h1) (sE b S h2)
  . cases h
 | .cmp op a b,m,C,X,e,S,h=>by
  conv at h=>lhs;whnf
  split at h
  . simp only [Bool.and_eq_true,beq_iff_eq] at h;obtain ⟨⟨rfl,hs⟩,h1,h2⟩ := h;exact pv_cmp (cmp_opd _ S.un).1 (sE a S h1) (sE b S h2) (nomarkS _ hs)
  . cases h
 | .andL es,m,C,X,e,S,h=>by
  conv at h=>lhs;whnf
  split at h
  . exact sA es S h
  . cases h
 | .orL es,m,C,X,e,S,h=>by
  conv at h=>lhs;whnf
  split at h
  . exact sOr es S h
  . cases h
 | .not a,m,C,X,e,S,h=>by
  conv at h=>lhs;whnf
  split at h
  . exact pv_notv (sE a S h)
  . cases h
 | .neg a,m,C,X,e,S,h=>by
  conv at h=>lhs;whnf
  split at h
  . exact pv_neg (sE a S h)
  . cases h
 | .tru a,m,C,X,e,S,h=>by cases h
 | .items a,m,C,X,e,S,h=>by cases h
 | .rng1 a,m,C,X,e,S,h=>by cases h
 | .enum1 a,m,C,X,e,S,h=>by cases h
 | .dnew,m,C,X,e,S,h=>by
  conv at h=>lhs;whnf
  split at h
  . exact pv_dnew
  . cases h
 | .tcall t es,m,C,X,e,S,h=>by
  conv at h=>lhs;whnf
  split at h
  . simp only [Bool.and_eq_true,beq_iff_eq] at h;obtain ⟨⟨rfl,h1⟩,h2⟩ := h;obtain ⟨gl,l,hd,hn⟩ := S.gl h1;exact pv_callTy (ty_call t) gl (S.no _ l) (ty_boot t) (sEs es S h2) hn hd (mEs_star h2)
  . cases h
 | .slice a l u,m,C,X,e,S,h=>by
  conv at h=>lhs;whnf
  split at h
  . simp only [Bool.and_eq_true] at h;obtain ⟨h0,h1,h2⟩ := h;exact pv_cut (sE a S h0) (sO l S h1) (sO u S h2)
  . cases h
 | .ix a b,m,C,X,e,S,h=>by
  conv at h=>lhs;whnf
  split at h
  . simp only [Bool.and_eq_true] at h;obtain ⟨h0,h1,h2⟩ := h;exact pv_ix (sE a S h1) (sE b S h2) (plainIx h0)
  . cases h
 | .srt a,m,C,X,e,S,h=>by
  conv at h=>lhs;whnf
  split at h
  . simp only [Bool.and_eq_true,beq_iff_eq] at h;obtain ⟨⟨⟨rfl,h1⟩,hs⟩,h2⟩ := h;obtain ⟨gl,l,hd,hn⟩ := S.gl h1;exact pv_callB calld_srtX gl (S.no _ l) bb_sorted (pav_cons (sE a S h2) pav_nil (star_cons hs)) hn hd (star_cons hs) rfl
  . cases h
 | .sum1 a,m,C,X,e,S,h=>by
  conv at h=>lhs;whnf
  split at h
  . simp only [Bool.and_eq_true,beq_iff_eq] at h;obtain ⟨⟨⟨⟨hq,rfl⟩,h1⟩,hs⟩,h2⟩ := h;obtain ⟨gl,l,hd,hn⟩ := S.gl h1;exact pv_callB (calld_sumX (S.cm hq)) gl (S.no _ l) bb_sum (pav_cons (sE a S h2) pav_nil (star_cons hs)) hn hd (star_cons hs) rfl
  . cases h
 | .dlist a,m,C,X,e,S,h=>by
  conv at h=>lhs;whnf
  split at h
  . simp only [Bool.and_eq_true,beq_iff_eq] at h;obtain ⟨⟨⟨⟨hq,rfl⟩,h1⟩,hs⟩,h2⟩ := h;obtain ⟨gl,l,hd,hn⟩ := S.gl h1;exact pv_callTy (calld_keys (S.cm hq)) gl (S.no _ l) bb_list (pav_cons (sE a S h2) pav_nil (star_cons hs)) hn hd (fun y hy=>by rw [List.mem_singleton] at hy;subst hy;exact hs)
  . cases h
 | .dix a b,m,C,X,e,S,h=>by
  conv at h=>lhs;whnf
  split at h
  . simp only [Bool.and_eq_true] at h;obtain ⟨h0,h1,h2⟩ := h;exact pv_dix (Nat.lt_of_le_of_lt (Nat.add_le_add_left (by decide : 1 <= 64) _) S.un) (sE a S h1) (sE b S h2) (plainIx h0)
  . cases h
 | .tup es,m,C,X,e,S,h=>by
  conv at h=>lhs;whnf
  split at h
  . exact pv_tup (sEs es S h)
  . cases h
 | .lst es,m,C,X,e,S,h=>by
  conv at h=>lhs;whnf
  split at h
  . exact pv_lst (sEs es S h)
  . cases h
 | .call g n es,m,C,X,e,S,h=>by
  conv at h=>lhs;whnf
  split at h
  . rename_i f p x xs cp;simp only [Bool.and_eq_true,beq_iff_eq] at h;obtain ⟨⟨⟨hq,rfl⟩,h1⟩,h2⟩ := h;obtain ⟨gl,l,hd,hn⟩ := S.gl h1;have st := mEs_star h2;exact pv_call (S.fn _ _ l) (S.rm hq) (S.xo hq) gl (sEs es S h2) hd (star_cons (st x mcs)) (star_any _ _ fun y hy=>st y (mcm hy))
  . cases h
 | .bcall b es,m,C,X,e,S,h=>by
  conv at h=>lhs;whnf
  split at h
  . rename_i f p x xs cp;rw [Bool.and_eq_true,Bool.and_eq_true,Bool.and_eq_true] at h;obtain ⟨⟨⟨hq,hz⟩,h1⟩,h2⟩ := h;cases (beq_iff_eq.mp hz);obtain ⟨gl,l,hd,hn⟩ := S.gl h1;have st := mEs_star h2;exact pv_callB (bn_call b S.cm hq) gl (S.no _ l) (bn_boot b) (sEs es S h2) hn hd (star_cons (st x mcs)) (star_any _ _ fun y hy=>st y (mcm hy))
  . cases h
 | .mt t a es,m,C,X,e,S,h=>by
  conv at h=>lhs;whnf
  split at h
  . rename_i o f ap x xs cp;simp only [Bool.and_eq_true,beq_iff_eq,decide_eq_true_eq] at h;obtain ⟨⟨⟨⟨rfl,hl⟩,h30⟩,hc⟩,h1,h2⟩ := h;have st := mEs_star h2;cases t with
    | join => exact pv_mt (.inl rfl) PySem.F.plainAttrs_str PySem.F.slot_str_join PySem.F.type_str_join mtd_join (sE a S h1) (sEs es S h2) (attrBase hc) (by
        rw [star_all _ _ st];show (true && true && decide ((x :: xs).length + 0 + 0 < 30)) = true
        rw [decide_eq_true (by simpa using h30)];rfl) (beq_iff_eq.mpr hl) (star_cons (st x mcs)) (star_any _ _ fun y hy=>st y (mcm hy))
    | joinT => exact pv_mt (.inl rfl) PySem.F.plainAttrs_str PySem.F.slot_str_join PySem.F.type_str_join mtd_joinT (sE a S h1) (sEs es S h2) (attrBase hc) (by
        rw [star_all _ _ st];show (true && true && decide ((x :: xs).length + 0 + 0 < 30)) = true
        rw [decide_eq_true (by simpa using h30)];rfl) (beq_iff_eq.mpr hl) (star_cons (st x mcs)) (star_any _ _ fun y hy=>st y (mcm hy))
    | startswith => exact pv_mt (.inl rfl) PySem.F.plainAttrs_str PySem.F.slot_str_startswith PySem.F.type_str_startswith mtd_sw (sE a S h1) (sEs es S h2) (attrBase hc) (by
        rw [star_all _ _ st];show (true && true && decide ((x :: xs).length + 0 + 0 < 30)) = true
        rw [decide_eq_true (by simpa using h30)];rfl) (beq_iff_eq.mpr hl) (star_cons (st x mcs)) (star_any _ _ fun y hy=>st y (mcm hy))
    | removeprefix => exact pv_mt (.inl rfl) PySem.F.plainAttrs_str PySem.F.slot_str_removeprefix PySem.F.type_str_removeprefix mtd_rp (sE a S h1) (sEs es S h2) (attrBase hc) (by
        rw [star_all _ _ st];show (true && true && decide ((x :: xs).length + 0 + 0 < 30)) = true
        rw [decide_eq_true (by simpa using h30)];rfl) (beq_iff_eq.mpr hl) (star_cons (st x mcs)) (star_any _ _ fun y hy=>st y (mcm hy))
  . cases h
 | .comp el it ts caps t n,m,C,X,e,S,h=>by
  conv at h=>lhs;whnf
  split at h
  . rename_i elt tg iter ifs scope cp;simp only [Bool.and_eq_true,decide_eq_true_eq,List.all_eq_true] at h;obtain ⟨⟨⟨⟨⟨⟨hq,ho⟩,hn⟩,hl⟩,hs⟩,hg⟩,h1,h2,h3⟩ := h;unfold compOkT at ho;simp only [Bool.and_eq_true,List.all_eq_true,Bool.or_eq_true,bne_iff_ne,beq_iff_eq,decide_eq_true_eq,List.contains_iff_mem] at ho;obtain ⟨⟨⟨⟨⟨⟨⟨g1,g2⟩,g3⟩,g4⟩,g5⟩,g6⟩,g7⟩,g8⟩ := ho;have er : (relabel scope X.env).names = relSc scope m.sc := by rw [<- S.hs];rfl
    have := pv_compT (pos := cp) (tgN := tgNames 4 tg) (t := t) (S.cm hq) (sI it S h1) g1 g2 (fun y hy e => (g3 y hy).resolve_left fun z => z e) (fun y hy e => by
        have := g4 y hy;show X.env.scope.names.lookup y.1 = _ \/ X.env.scope.names.lookup y.1 = _;rw [S.hs];rcases this with (z | z) | z
        . exact absurd e z
        . exact .inl z
        . exact .inr z) (by rw [S.hN];exact g5) g6 (fun y hy=>by rw [er];exact g7 y hy) (fun j hj=>hs j hj) (fun cl A fp s3 H3=>sG (S.sub cl A fp s3 H3) g8 t hg)
        (fun cl A fp s3 H3=>sF ts (S.sub cl A fp s3 H3) h3) (fun cl A fp s3 H3=>sE el (S.sub cl A fp s3 H3) h2) (nofold hn)
    rw [hl] at this;exact this
  . cases h
 | .comp2 el it it2 ts caps,m,C,X,e,S,h=>by
  conv at h=>lhs;whnf
  split at h
  . rename_i elt tg iter ifs tg2 iter2 scope cp;simp only [Bool.and_eq_true,decide_eq_true_eq] at h;obtain ⟨⟨⟨⟨⟨⟨⟨hq,ho⟩,hn⟩,hn2⟩,hl⟩,hg⟩,hg2⟩,h1,h2,h3,h4⟩ := h;obtain ⟨g1,g2,g3,g4,g5,g6,g7,g8⟩ := compOk_un S ho;exact pv_comp2 (pos := cp) (tgN := tgNames 4 tg ++ tgNames 4 tg2) (S.cm hq) (sI it S h1) g1 g2 g3 g4 g5 g6 g7 hl (fun cl A fp s3 H3=>sG (S.sub cl A fp s3 H3) g8 (.nm caps.length) hg) (fun cl A fp s3 H3=>sF ts (S.sub cl A fp s3 H3) h4)
      (fun cl A fp s3 H3=>sI it2 (S.sub cl A fp s3 H3) h2) (fun cl A fp s3 H3=>sG (S.sub cl A fp s3 H3) g8 (.nm (caps.length + 1)) hg2) (fun cl A fp s3 H3=>sE el (S.sub cl A fp s3 H3) h3) (nofold hn) (fun _=>nofold hn2)
  . cases h
 | .usc el it it2 ts caps,m,C,X,e,S,h=>by
  conv at h=>lhs;whnf
  split at h
  . rename_i f p elt tg iter ifs tg2 iter2 scope cp p';simp only [Bool.and_eq_true,decide_eq_true_eq,beq_iff_eq] at h;obtain ⟨⟨⟨⟨⟨⟨⟨⟨⟨rfl,hf⟩,hq⟩,ho⟩,hn⟩,hn2⟩,hl⟩,hg⟩,hg2⟩,h1,h2,h3,h4⟩ := h;obtain ⟨gl,l,hd,_⟩ := S.gl hf;obtain ⟨g1,g2,g3,g4,g5,g6,g7,g8⟩ := compOk_un S ho;exact pv_usc (pos := cp) (tgN := tgNames 4 tg ++ tgNames 4 tg2) (S.cm hq) (sI it S h1) g1 g2 g3 g4 g5 g6 g7 hl (fun cl A fp s3 H3=>sG (S.sub cl A fp s3 H3) g8 (.nm caps.length) hg) (fun cl A fp s3 H3=>sF ts (S.sub cl A fp s3 H3) h4)
      (fun cl A fp s3 H3=>sI it2 (S.sub cl A fp s3 H3) h2) (fun cl A fp s3 H3=>sG (S.sub cl A fp s3 H3) g8 (.nm (caps.length + 1)) hg2) (fun cl A fp s3 H3=>sE el (S.sub cl A fp s3 H3) h3) (nofold hn) (fun _=>nofold hn2) gl (S.no _ l)
  . cases h
 | .sel caps i j jd jm,m,C,X,e,S,h=>by
  conv at h=>lhs;whnf
  split at h
  . rename_i x0 q0 x1 q1 d q2 d3 q3 x4 q4 q5 mm q6 q7 z kd q8 q9 scope cp;simp only [Bool.and_eq_true,beq_iff_eq] at h;obtain ⟨⟨⟨⟨⟨⟨⟨⟨⟨⟨⟨⟨⟨⟨⟨hq,ho⟩,rfl⟩,rfl⟩,rfl⟩,rfl⟩,ci⟩,cj⟩,nd⟩,vd⟩,lx⟩,vx⟩,ni⟩,vi⟩,nj⟩,vj⟩ := h;obtain ⟨g1,g2,g3,g4,g5,g6,g7,g8⟩ := compOk_un S ho;obtain ⟨w1,w2,w3⟩ := S.vis vd;refine pv_sel (pos := cp) (i := i) (j := j) ci cj (Nat.lt_of_le_of_lt (Nat.add_le_add_left (by decide : 1 <= 64) _) S.un) (S.cm hq) (pe_var (by rw [S.hN];exact nd) w1 w2 w3) g1 g2 g3 g4 g5 g6 g7 (fun cl A fp s3 H3=>?_) (fun cl A fp s3 H3=>?_) (fun p cl A fp s3 H3=>?_) (fun cl A fp s3 H3=>?_)
    . obtain ⟨a,b,c⟩ := (S.sub cl A fp s3 H3).loc lx;exact pg_name g8 a b c
    . obtain ⟨a,b,c⟩ := (S.sub cl A fp s3 H3).vis vi;exact pe_var ni a b c
    . obtain ⟨a,b,c⟩ := (S.sub cl A fp s3 H3).vis vx;exact pe_var ((S.sub cl A fp s3 H3).loc lx).1 a b c
    . obtain ⟨a,b,c⟩ := (S.sub cl A fp s3 H3).vis vj;exact pe_var nj a b c
  . cases h
 | .compC el it ts caps,m,C,X,e,S,h=>by
  conv at h=>lhs;whnf
  split at h
  . rename_i elt x p iter ifs scope cp;simp only [Bool.and_eq_true,decide_eq_true_eq] at h;obtain ⟨⟨⟨hq,ho⟩,hn⟩,h1,h2,h3⟩ := h;obtain ⟨g1,g2,g3,g4,g5,g6,g7,g8,g9⟩ := compOkC_un S ho;have nd := g8;rw [List.nodup_append] at nd;refine pv_compC (pos := cp) (S.cm hq) (sI it S h1) g1 (fun z=>nd.2.2 _ z _ (by simp) rfl) g2 g3 g4 g5 g6 g7 (fun cl A fp s3 H3=>pgw_name g8 ?_ (.inr g9) (.inl (beq_self_eq_true x))) (fun cl A fp s3 H3=>sF ts (S.subC x cl A fp s3 H3) h3) (fun cl A fp s3 H3=>sE el (S.subC x cl A fp s3 H3) h2) (nofold hn)
    have l : (caps.filterMap fun i=>m.N[i]?).length = caps.length := by have := congrArg List.length g5;simpa using this
    show ((caps.filterMap fun i=>m.N[i]?) ++ [x])[caps.length]? = some x;rw [List.getElem?_append_right (by omega),l];simp
  . cases h
 | .lidx a b,m,C,X,e,S,h=>by
  conv at h=>lhs;whnf
  split at h
  . rename_i o f ap x cp;simp only [Bool.and_eq_true,beq_iff_eq] at h;obtain ⟨⟨⟨⟨rfl,hl⟩,hc⟩,hs⟩,h1,h2⟩ := h;exact pv_lidx (sE a S h1) (sE b S h2) ⟨attrBase hc,by rw [star_all _ _ (fun y hy=>by simp only [List.mem_cons,List.mem_nil_iff,or_false] at hy;subst hy;exact hs)];rfl,beq_iff_eq.mpr hl,by rw [star_cons hs];rfl⟩
  . cases h
theorem sT {k : Nat} {W : WD} : ∀ (f : E) {m : MC} {C : Cw} {X : Cx} {e : Expr},SX k W m C X -> mT m f e = true -> PTv C X e (evE W f)
 | .tru a,m,C,X,e,S,h=>by simp only [mT,Bool.and_eq_true] at h;exact pt_tru (sE a S h.2) (plain_true h.1)
 | .cmp op a b,m,C,X,e,S,h=>by
  conv at h=>lhs;whnf
  split at h
  . simp only [Bool.and_eq_true,beq_iff_eq] at h;obtain ⟨⟨rfl,hs⟩,h1,h2⟩ := h;exact pt_cmpv (cmp_opd _ S.un).1 (cmp_opd (C := C) _ S.un).2 (sE a S h1) (sE b S h2) (nomarkS _ hs)
  . cases h
 | .andL es,m,C,X,e,S,h=>by
  conv at h=>lhs;whnf
  split at h
  . exact pt_w (sWA es S h)
  . cases h
 | .orL es,m,C,X,e,S,h=>by
  conv at h=>lhs;whnf
  split at h
  . exact pt_w (sWO es S h)
  . cases h
 | .not a,m,C,X,e,S,h=>by
  conv at h=>lhs;whnf
  split at h
  . exact pt_notv (sT a S h)
  . cases h
 | .frz a,m,C,X,e,S,h=>by cases h
 | .var i,m,C,X,e,S,h=>by cases h
 | .glob y c,m,C,X,e,S,h=>by cases h
 | .ty t,m,C,X,e,S,h=>by cases h
 | .non,m,C,X,e,S,h=>by cases h
 | .bl c,m,C,X,e,S,h=>by cases h
 | .int c,m,C,X,e,S,h=>by cases h
 | .str c,m,C,X,e,S,h=>by cases h
 | .bin op a b,m,C,X,e,S,h=>by cases h
 | .neg a,m,C,X,e,S,h=>by cases h
 | .items a,m,C,X,e,S,h=>by cases h
 | .rng1 a,m,C,X,e,S,h=>by cases h
 | .enum1 a,m,C,X,e,S,h=>by cases h
 | .dnew,m,C,X,e,S,h=>by cases h
 | .dix a b,m,C,X,e,S,h=>by cases h
 | .srt a,m,C,X,e,S,h=>by cases h
 | .sum1 a,m,C,X,e,S,h=>by cases h
 | .dlist a,m,C,X,e,S,h=>by cases h
 | .slice a l u,m,C,X,e,S,h=>by cases h
 | .ix a b,m,C,X,e,S,h=>by cases h
 | .tup es,m,C,X,e,S,h=>by cases h
 | .lst es,m,C,X,e,S,h=>by cases h
 | .call g n es,m,C,X,e,S,h=>by cases h
 | .bcall b es,m,C,X,e,S,h=>by cases h
 | .mt t a es,m,C,X,e,S,h=>by cases h
 | .comp el it ts caps t n,m,C,X,e,S,h=>by cases h
 | .comp2 el it it2 ts caps,m,C,X,e,S,h=>by cases h
 | .usc el it it2 ts caps,m,C,X,e,S,h=>by cases h
 | .sel caps i j jd jm,m,C,X,e,S,h=>by cases h
 | .lidx a b,m,C,X,e,S,h=>by cases h
 | .compC el it ts caps,m,C,X,e,S,h=>by cases h
 | .tcall t es,m,C,X,e,S,h=>by cases h
theorem sI {k : Nat} {W : WD} : ∀ (f : E) {m : MC} {C : Cw} {X : Cx} {tg e : Expr},SX k W m C X -> mI m tg f e = true -> PIv C X tg e (evE W f)
 | .items a,m,C,X,tg,e,S,h=>by
  conv at h=>lhs;whnf
  exact piv_seq (sE a S h)
 | .rng1 a,m,C,X,tg,e,S,h=>by
  conv at h=>lhs;whnf
  split at h
  . simp only [Bool.and_eq_true,beq_iff_eq] at h;obtain ⟨⟨⟨rfl,h1⟩,h2⟩,h3⟩ := h;obtain ⟨gl,l,hd,hn⟩ := S.gl h1;exact piv_range1 gl (S.no _ l) (pav_cons (sE a S h3) pav_nil (star_cons h2)) (star_cons h2)
  . cases h
 | .enum1 a,m,C,X,tg,e,S,h=>by
  conv at h=>lhs;whnf
  split at h
  . simp only [Bool.and_eq_true,beq_iff_eq] at h;obtain ⟨⟨⟨⟨rfl,ht⟩,h1⟩,h2⟩,h3⟩ := h;obtain ⟨gl,l,hd,hn⟩ := S.gl h1;cases tg <;> first
      | (cases ht;done)
      | exact piv_enum gl (S.no _ l) (pav_cons (pv_frz (sE a S h3)) pav_nil (star_cons h2)) (star_cons h2)
  . cases h
 | .dnew,m,C,X,tg,e,S,h=>by cases h
 | .dix a b,m,C,X,tg,e,S,h=>by cases h
 | .srt a,m,C,X,tg,e,S,h=>by cases h
 | .sum1 a,m,C,X,tg,e,S,h=>by cases h
 | .dlist a,m,C,X,tg,e,S,h=>by cases h
 | .frz a,m,C,X,tg,e,S,h=>by cases h
 | .var i,m,C,X,tg,e,S,h=>by cases h
 | .glob y c,m,C,X,tg,e,S,h=>by cases h
 | .ty t,m,C,X,tg,e,S,h=>by cases h
 | .non,m,C,X,tg,e,S,h=>by cases h
 | .bl c,m,C,X,tg,e,S,h=>by cases h
 | .int c,m,C,X,tg,e,S,h=>by cases h
 | .str c,m,C,X,tg,e,S,h=>by cases h
 | .bin op a b,m,C,X,tg,e,S,h=>by cases h
 | .cmp op a b,m,C,X,tg,e,S,h=>by cases h
 | .andL es,m,C,X,tg,e,S,h=>by cases h
 | .orL es,m,C,X,tg,e,S,h=>by cases h
 | .not a,m,C,X,tg,e,S,h=>by cases h
 | .tru a,m,C,X,tg,e,S,h=>by cases h
 | .neg a,m,C,X,tg,e,S,h=>by cases h
 | .slice a l u,m,C,X,tg,e,S,h=>by cases h
 | .ix a b,m,C,X,tg,e,S,h=>by cases h
 | .tup es,m,C,X,tg,e,S,h=>by cases h
 | .lst es,m,C,X,tg,e,S,h=>by cases h
 | .call g n es,m,C,X,tg,e,S,h=>by cases h
 | .bcall b es,m,C,X,tg,e,S,h=>by cases h
 | .mt t a es,m,C,X,tg,e,S,h=>by cases h
 | .comp el it ts caps t n,m,C,X,tg,e,S,h=>by cases h
 | .comp2 el it it2 ts caps,m,C,X,tg,e,S,h=>by cases h
 | .usc el it it2 ts caps,m,C,X,tg,e,S,h=>by cases h
 | .sel caps i j jd jm,m,C,X,tg,e,S,h=>by cases h
 | .lidx a b,m,C,X,tg,e,S,h=>by cases h
 | .compC el it ts caps,m,C,X,tg,e,S,h=>by cases h
 | .tcall t es,m,C,X,tg,e,S,h=>by cases h
theorem sEs {k : Nat} {W : WD} : ∀ (fs : List E) {m : MC} {C : Cw} {X : Cx} {es : List Expr},SX k W m C X -> mEs m fs es = true -> PAv C X es (evEs W fs)
 | [],m,C,X,[],S,h=>by simp only [evEs];exact pav_nil
 | [],m,C,X,_ :: _,S,h=>by simp [mEs] at h
 | f :: fs,m,C,X,[],S,h=>by simp [mEs] at h
 | f :: fs,m,C,X,e :: es,S,h=>by simp only [mEs,Bool.and_eq_true] at h;simp only [evEs];exact pav_cons (sE f S h.1.2) (sEs fs S h.2) (star_cons h.1.1)
theorem sL {k : Nat} {W : WD} : ∀ (fs : List E) {m : MC} {C : Cw} {X : Cx} {es : List Expr},SX k W m C X -> mEs m fs es = true -> PVL C X es (evL W fs)
 | [],m,C,X,[],S,h=>by simp only [evL];exact .nil
 | [],m,C,X,_ :: _,S,h=>by simp [mEs] at h
 | f :: fs,m,C,X,[],S,h=>by simp [mEs] at h
 | f :: fs,m,C,X,e :: es,S,h=>by simp only [mEs,Bool.and_eq_true] at h;simp only [evL];exact .cons (sE f S h.1.2) (sL fs S h.2)
theorem sO {k : Nat} {W : WD} : ∀ (f : Option E) {m : MC} {C : Cw} {X : Cx} {e : Option Expr},SX k W m C X -> mO m f e = true -> POv C X e (evO W f)
 | none,m,C,X,none,S,h=>True.intro
 | none,m,C,X,some _,S,h=>by simp [mO] at h
 | some f,m,C,X,none,S,h=>by simp [mO] at h
 | some f,m,C,X,some e,S,h=>by simp only [mO] at h;simp only [evO];exact sE f S h
theorem sA {k : Nat} {W : WD} : ∀ (fs : List E) {m : MC} {C : Cw} {X : Cx} {es : List Expr} {pos : Pos},SX k W m C X -> mEs m fs es = true -> PV C X (.BoolOp .And es pos) (evA W fs)
 | [],m,C,X,[],pos,S,h=>fun pins s σ H Q I q=>by rw [tG_eq] at q;obtain ⟨ρ,F,R,w⟩ := q;exact w.elim
 | [],m,C,X,_ :: _,pos,S,h=>by simp [mEs] at h
 | f :: fs,m,C,X,[],pos,S,h=>by simp [mEs] at h
 | [f],m,C,X,[e],pos,S,h=>by simp only [mEs,Bool.and_eq_true] at h;simp only [evA];exact pv_onev (sE f S h.1.2)
 | [f],m,C,X,e :: e2 :: es,pos,S,h=>by simp [mEs] at h
 | f :: f2 :: fs,m,C,X,[e],pos,S,h=>by simp [mEs] at h
 | f :: f2 :: fs,m,C,X,e :: e2 :: es,pos,S,h=>by have h' := h;simp only [mEs,Bool.and_eq_true] at h;simp only [evA];exact pv_andv (sE f S h.1.2) (sA (f2 :: fs) S (by simp only [mEs,Bool.and_eq_true];exact h.2))
theorem sOr {k : Nat} {W : WD} : ∀ (fs : List E) {m : MC} {C : Cw} {X : Cx} {es : List Expr} {pos : Pos},SX k W m C X -> mEs m fs es = true -> PV C X (.BoolOp .Or es pos) (evO' W fs)
 | [],m,C,X,[],pos,S,h=>fun pins s σ H Q I q=>by rw [tG_eq] at q;obtain ⟨ρ,F,R,w⟩ := q;exact w.elim
 | [],m,C,X,_ :: _,pos,S,h=>by simp [mEs] at h
 | f :: fs,m,C,X,[],pos,S,h=>by simp [mEs] at h
 | [f],m,C,X,[e],pos,S,h=>by simp only [mEs,Bool.and_eq_true] at h;simp only [evO'];exact pv_onev (sE f S h.1.2)
 | [f],m,C,X,e :: e2 :: es,pos,S,h=>by simp [mEs] at h
 | f :: f2 :: fs,m,C,X,[e],pos,S,h=>by simp [mEs] at h
 | f :: f2 :: fs,m,C,X,e :: e2 :: es,pos,S,h=>by simp only [mEs,Bool.and_eq_true] at h;simp only [evO'];exact pv_orv (sE f S h.1.2) (sOr (f2 :: fs) S (by simp only [mEs,Bool.and_eq_true];exact h.2))
theorem sWA {k : Nat} {W : WD} : ∀ (fs : List E) {m : MC} {C : Cw} {X : Cx} {es : List Expr} {pos : Pos},SX k W m C X -> mF m fs es = true -> PWv C X (.BoolOp .And es pos) (evA W fs)
 | [],m,C,X,[],pos,S,h=>fun whole pins s σ H Q I q=>by obtain ⟨ρ,F,R,w⟩ := q;exact w.elim
 | [],m,C,X,_ :: _,pos,S,h=>by simp [mF] at h
 | f :: fs,m,C,X,[],pos,S,h=>by simp [mF] at h
 | [f],m,C,X,[e],pos,S,h=>by simp only [mF,Bool.and_eq_true] at h;simp only [evA];exact pw_onev (sT f S h.1)
 | [f],m,C,X,e :: e2 :: es,pos,S,h=>by simp [mF] at h
 | f :: f2 :: fs,m,C,X,[e],pos,S,h=>by simp [mF] at h
 | f :: f2 :: fs,m,C,X,e :: e2 :: es,pos,S,h=>by simp only [mF,Bool.and_eq_true] at h;simp only [evA];exact pw_andv (sT f S h.1) (sWA (f2 :: fs) S (by simp only [mF,Bool.and_eq_true];exact h.2))
theorem sWO {k : Nat} {W : WD} : ∀ (fs : List E) {m : MC} {C : Cw} {X : Cx} {es : List Expr} {pos : Pos},SX k W m C X -> mF m fs es = true -> PWv C X (.BoolOp .Or es pos) (evO' W fs)
 | [],m,C,X,[],pos,S,h=>fun whole pins s σ H Q I q=>by obtain ⟨ρ,F,R,w⟩ := q;exact w.elim
 | [],m,C,X,_ :: _,pos,S,h=>by simp [mF] at h
 | f :: fs,m,C,X,[],pos,S,h=>by simp [mF] at h
 | [f],m,C,X,[e],pos,S,h=>by simp only [mF,Bool.and_eq_true] at h;simp only [evO'];exact pw_onev (sT f S h.1)
 | [f],m,C,X,e :: e2 :: es,pos,S,h=>by simp [mF] at h
 | f :: f2 :: fs,m,C,X,[e],pos,S,h=>by simp [mF] at h
 | f :: f2 :: fs,m,C,X,e :: e2 :: es,pos,S,h=>by simp only [mF,Bool.and_eq_true] at h;simp only [evO'];exact pw_orv (sT f S h.1) (sWO (f2 :: fs) S (by simp only [mF,Bool.and_eq_true];exact h.2))
theorem sF {k : Nat} {W : WD} : ∀ (fs : List E) {m : MC} {C : Cw} {X : Cx} {es : List Expr},SX k W m C X -> mF m fs es = true -> PIfs X es (tT (C.at X) (evF W fs))
 | [],m,C,X,[],S,h=>by
  have : evF W [] = fun _=>.ok .fz (.bl true) := by funext ρ;simp only [evF]
  rw [this];exact pifs_nilv
 | [],m,C,X,_ :: _,S,h=>by simp [mF] at h
 | f :: fs,m,C,X,[],S,h=>by simp [mF] at h
 | f :: fs,m,C,X,e :: es,S,h=>by
  simp only [mF,Bool.and_eq_true] at h;have : evF W (f :: fs) = fun ρ=>andR (evE W f ρ) (evF W fs ρ) := by funext ρ;simp only [evF]
  rw [this];exact pifs_consv (sT f S h.1) (sF fs S h.2)
end
end D3
set_option genSizeOfSpec false
set_option genInjectivity false
namespace D3
open PySem PySem.Spec PyProof.Rows L2
inductive S where
 | ret (e : E) | retV (i : Nat) | set (i : Nat) (e : E) | ite (c : E) (a b : List S) | for (it : E) (t : Tg) (body : List S)
 | setC (i : Nat) (fz : Bool) (e : E) | dput (i : Nat) (k e : E) | frzV (i : Nat)
mutual
def evS (W : WD) : S -> Rho -> SRes
 | .ret e,ρ=>retR (evE W e ρ) ρ
 | .retV i,ρ=>retS ρ i
 | .set i e,ρ=>setS ρ i (evE W e ρ)
 | .ite c a b,ρ=>ifS (evE W c ρ) ρ (evB W a ρ) (evB W b ρ)
 | .for it t body,ρ=>forR (evE W it ρ) ρ (setG t) (evB W body)
 | .frzV i,ρ=>frzS ρ i
 | .dput i k e,ρ=>dputS ρ i (evE W k ρ) (evE W e ρ)
 | .setC i fz e,ρ=>setS ρ i (if fz = true then frzR (evE W e ρ) else evE W e ρ)
def evB (W : WD) : List S -> Rho -> SRes
 | [],ρ=>.nx ρ
 | s :: r,ρ=>(evS W s ρ).thn (evB W r)
end
def notComp : Expr -> Bool | .ListComp ..=>false | .SetComp ..=>false | .DictComp ..=>false | _=>true
def isComp : E -> Bool
 | .comp ..=>true
 | .comp2 ..=>true
 | _=>false
mutual
def mS (m : MC) : S -> Stmt -> Bool
 | .ret f,st=>match st with | .Return (some e) _=>mE m f e | _=>false
 | .retV i,st=>match st with | .Return (some (.Name x _)) _=>m.N[i]? == some x && m.vis x | _=>false
 | .set i f,st=>match st with | .Assign [.Name x _] e _=>m.loc i x && (notComp e || m.kind x == some .cell) && mE m f e | _=>false
 | .frzV _,_=>false
 | .dput i f g,st=>match st with | .Assign [.Subscript (.Name x _) k _] e _=>m.N[i]? == some x && m.vis x && notComp e && mE m f k && mE m g e | _=>false
 | .setC i _ f,st=>match st with
  | .Assign [.Name x px] (.ListComp elt gens scope cp) _=>m.N[i]? == some x && m.kind x == some .local && m.sc.kind == .function && px.line == cp.line && !(scope.names.any fun y=>y.1 == x && (y.2 == .local || y.2 == .cell)) && isComp f && mE m f (.ListComp elt gens scope cp)
  | _=>false
 | .ite f a b,st=>match st with | .If c x y _=>mT m f c && (mB m a x && mB m b y) | _=>false
 | .for f t b,st=>match st with | .For tg e body [] _=>m.calm && mG m t tg && notSet e && (mI m tg f e && mB m b body) | _=>false
def mB (m : MC) : List S -> List Stmt -> Bool
 | [],l=>l.isEmpty
 | .frzV _ :: r,l=>mB m r l
 | s :: r,l=>match l with | st :: sts=>mS m s st && mB m r sts | _=>false
end
theorem noswap {e : Expr} {t : Option Expr} {n : Nat} {env : Env} (h : notComp e = true) : swapsWith e t n env = pure false := by cases e <;> first | rfl | cases h
theorem noswap' {m : MC} {e : Expr} {x : Str} {p : Pos} {n : Nat} {env : Env} (hs : env.scope = m.sc) (h : (notComp e || m.kind x == some .cell) = true) : swapsWith e (some (.Name x p)) n env = pure false := by
 rw [Bool.or_eq_true,beq_iff_eq] at h;rcases h with h | h
 . exact noswap h
 . have hk : env.kindOf x = some .cell := by show env.scope.names.lookup x = _;rw [hs];exact h
   unfold swapsWith;have kc : (NameKind.cell == NameKind.local) = false := by decide
   cases e <;> first | rfl | (simp [hk,kc])
section
variable {k : Nat} {W : WD} {m : MC} {C : Cw} {X : Cx}
structure SB (k : Nat) (W : WD) (m : MC) (C : Cw) (X : Cx) : Prop extends SX k W m C X where
 nd : m.N.Nodup
 hp : PassesOwn (model X.prog X.w) X.A X.env X.xe
 ro : m.rz = true -> RzOk (C.at X) X /\ FnCx X
end
theorem s_comp {k : Nat} {W : WD} {m : MC} {C : Cw} {X : Cx} (S : SB k W m C X) (fz : Bool) {i : Nat} {el it : E} {ts : List E} {caps : List Nat} {t : Tg} {n : Nat} {x : Str} {px cp sp : Pos} {elt : Expr} {gens : List Comprehension} {scope : Scope} (h1 : m.N[i]? = some x) (h2 : m.kind x = some .local) (h3 : m.sc.kind = .function) (h4 : px.line = cp.line) (h5 : (scope.names.any fun y=>y.1 == x && (y.2 == .local || y.2 == .cell)) = false) (h : mE m (.comp el it ts caps t n) (.ListComp elt gens scope cp) = true) : PSv C X (.Assign [.Name x px] (.ListComp elt gens scope cp) sp) (fun ρ=>setS ρ i (if fz = true then frzR (evE W (.comp el it ts caps t n) ρ) else evE W (.comp el it ts caps t n) ρ)) := by
 have hk : X.env.scope.names.lookup x = some .local := by rw [S.hs];exact h2
 conv at h=>lhs;whnf
 split at h
 . rename_i elt' tg iter ifs scope' cp' e;cases e;simp only [Bool.and_eq_true,decide_eq_true_eq,List.all_eq_true] at h;obtain ⟨⟨⟨⟨⟨⟨hq,ho⟩,hn⟩,hl⟩,hs⟩,hg⟩,k1,k2,k3⟩ := h;unfold compOkT at ho;simp only [Bool.and_eq_true,List.all_eq_true,Bool.or_eq_true,bne_iff_ne,beq_iff_eq,decide_eq_true_eq,List.contains_iff_mem] at ho;obtain ⟨⟨⟨⟨⟨⟨⟨g1,g2⟩,g3⟩,g4⟩,g5⟩,g6⟩,g7⟩,g8⟩ := ho;have er : (relabel scope X.env).names = relSc scope m.sc := by rw [<- S.hs];rfl
   have bk : X.env.blockKind = .function := by unfold Env.blockKind;rw [S.hs,h3];rfl
   have hsw : swapsWith (.ListComp elt [⟨tg,iter,ifs,0⟩] scope cp) (some (.Name x px)) sp.line X.env = pure true := by
    have kx : X.env.kindOf x = some .local := hk;unfold swapsWith;have k1 : (ScopeKind.function == ScopeKind.function) = true := by decide
    have k2 : (some NameKind.local == some NameKind.local) = true := by decide
    simp only [bk,kx,Expr.pos,h4,h5,k1,k2,beq_self_eq_true];rfl
   have := psv_setC fz (pos := cp) (pos' := px) (spos := sp) (i := i) (x := x) (tgN := tgNames 4 tg) (t := t) (S.cm hq) (sI it S.toSX k1) g1 g2 (fun y hy e => (g3 y hy).resolve_left fun z => z e) (fun y hy e => by
       have := g4 y hy;show X.env.scope.names.lookup y.1 = _ \/ X.env.scope.names.lookup y.1 = _;rw [S.hs];rcases this with (z | z) | z
       . exact absurd e z
       . exact .inl z
       . exact .inr z) (by rw [S.hN];exact g5) g6 (fun y hy=>by rw [er];exact g7 y hy) (fun j hj=>hs j hj) (fun cl A fp s3 H3=>sG (S.toSX.sub cl A fp s3 H3) g8 t hg)
       (fun cl A fp s3 H3=>sF ts (S.toSX.sub cl A fp s3 H3) k3) (fun cl A fp s3 H3=>sE el (S.toSX.sub cl A fp s3 H3) k2) (by rw [S.hN];exact S.nd) (by rw [S.hN];exact h1) hk hsw (nofold hn)
   rw [hl] at this;exact this
 . cases h
theorem s_comp2 {k : Nat} {W : WD} {m : MC} {C : Cw} {X : Cx} (S : SB k W m C X) (fz : Bool) {i : Nat} {el it it2 : E} {ts : List E} {caps : List Nat} {x : Str} {px cp sp : Pos} {elt : Expr} {gens : List Comprehension} {scope : Scope} (h1 : m.N[i]? = some x) (h2 : m.kind x = some .local) (h3 : m.sc.kind = .function) (h4 : px.line = cp.line) (h5 : (scope.names.any fun y=>y.1 == x && (y.2 == .local || y.2 == .cell)) = false) (h : mE m (.comp2 el it it2 ts caps) (.ListComp elt gens scope cp) = true) : PSv C X (.Assign [.Name x px] (.ListComp elt gens scope cp) sp) (fun ρ=>setS ρ i (if fz = true then frzR (evE W (.comp2 el it it2 ts caps) ρ) else evE W (.comp2 el it it2 ts caps) ρ)) := by
 have hk : X.env.scope.names.lookup x = some .local := by rw [S.hs];exact h2
 conv at h=>lhs;whnf
 split at h
 . rename_i elt' tg iter ifs tg2 iter2 scope' cp' e;cases e;simp only [Bool.and_eq_true,decide_eq_true_eq] at h;obtain ⟨⟨⟨⟨⟨⟨⟨hq,ho⟩,hn⟩,hn2⟩,hl⟩,hg⟩,hg2⟩,k1,k2,k3,k4⟩ := h;obtain ⟨g1,g2,g3,g4,g5,g6,g7,g8⟩ := compOk_un S.toSX ho;have bk : X.env.blockKind = .function := by unfold Env.blockKind;rw [S.hs,h3];rfl
   have hsw : swapsWith (.ListComp elt [⟨tg,iter,ifs,0⟩,⟨tg2,iter2,[],0⟩] scope cp) (some (.Name x px)) sp.line X.env = pure true := by
    have kx : X.env.kindOf x = some .local := hk;unfold swapsWith;have k1 : (ScopeKind.function == ScopeKind.function) = true := by decide
    have k2 : (some NameKind.local == some NameKind.local) = true := by decide
    simp only [bk,kx,Expr.pos,h4,h5,k1,k2,beq_self_eq_true];rfl
   exact psv_setC2 (pos := cp) (pos' := px) (spos := sp) (i := i) (x := x) (tgN := tgNames 4 tg ++ tgNames 4 tg2) (S.cm hq) (sI it S.toSX k1) g1 g2 g3 g4 g5 g6 g7 hl (fun cl A fp s3 H3=>sG (S.toSX.sub cl A fp s3 H3) g8 (.nm caps.length) hg) (fun cl A fp s3 H3=>sF ts (S.toSX.sub cl A fp s3 H3) k4)
    (fun cl A fp s3 H3=>sI it2 (S.toSX.sub cl A fp s3 H3) k2) (fun cl A fp s3 H3=>sG (S.toSX.sub cl A fp s3 H3) g8 (.nm (caps.length + 1)) hg2) (fun cl A fp s3 H3=>sE el (S.toSX.sub cl A fp s3 H3) k3) (nofold hn) (fun _=>nofold hn2) fz (by rw [S.hN];exact S.nd) (by rw [S.hN];exact h1) hk hsw
 . cases h
set_option maxHeartbeats 4000000 in
mutual
theorem sS {k : Nat} {W : WD} {m : MC} {C : Cw} {X : Cx} (S : SB k W m C X) : ∀ (f : D3.S) {st : Stmt},mS m f st = true -> PSv C X st (evS W f)
 | .ret f,st,h=>by
  conv at h=>lhs;whnf
  split at h
  . exact psv_ret (sE f S.toSX h)
  . cases h
 | .retV i,st,h=>by
  conv at h=>lhs;whnf
  split at h
  . simp only [Bool.and_eq_true,beq_iff_eq] at h;obtain ⟨h1,h2,h3⟩ := S.toSX.vis h.2;exact psv_retV i (pe_var (by rw [S.hN];exact h.1) h1 h2 h3)
  . cases h
 | .set i f,st,h=>by
  conv at h=>lhs;whnf
  split at h
  . simp only [Bool.and_eq_true] at h;obtain ⟨⟨h1,h2⟩,h3⟩ := h;obtain ⟨b,c,d⟩ := S.toSX.loc h1;exact psv_set (by rw [S.hN];exact S.nd) b c (sE f S.toSX h3) (noswap' S.hs h2) d
  . cases h
 | .frzV i,st,h=>by cases h
 | .dput i f g,st,h=>by
  conv at h=>lhs;whnf
  split at h
  . simp only [Bool.and_eq_true,beq_iff_eq] at h;obtain ⟨⟨⟨⟨h1,h2⟩,h3⟩,h4⟩,h5⟩ := h;obtain ⟨v1,v2,v3⟩ := S.toSX.vis h2;exact psv_dput i (Nat.lt_of_le_of_lt (Nat.add_le_add_left (by decide : 1 <= 64) _) S.un) (pe_var (by rw [S.hN];exact h1) v1 v2 v3) (sE f S.toSX h4) (sE g S.toSX h5) (noswap h3)
  . cases h
 | .setC i fz f,st,h=>by
  conv at h=>lhs;whnf
  split at h
  . simp only [Bool.and_eq_true,beq_iff_eq,Bool.not_eq_true'] at h;obtain ⟨⟨⟨⟨⟨⟨h1,h2⟩,h3⟩,h4⟩,h5⟩,h6⟩,h7⟩ := h;cases f with
    | comp el it ts caps t n=>exact s_comp S fz h1 h2 h3 h4 h5 h7
    | comp2 el it it2 ts caps=>exact s_comp2 S fz h1 h2 h3 h4 h5 h7
    | _=>cases h6
  . cases h
 | .ite f a b,st,h=>by
  conv at h=>lhs;whnf
  split at h
  . simp only [Bool.and_eq_true] at h;obtain ⟨h1,h2,h3⟩ := h;exact psv_if (sT f S.toSX h1) (sB S a h2) (sB S b h3)
  . cases h
 | .for f t b,st,h=>by
  conv at h=>lhs;whnf
  split at h
  . simp only [Bool.and_eq_true] at h;obtain ⟨⟨⟨hq,h1⟩,h2⟩,h3,h4⟩ := h;exact psv_for S.hp (S.cm hq) (sI f S.toSX h3) (pgv_of (sG S.toSX S.nd t h1)) (sB S b h4) (nofold h2)
  . cases h
theorem sB {k : Nat} {W : WD} {m : MC} {C : Cw} {X : Cx} (S : SB k W m C X) : ∀ (f : List D3.S) {sts : List Stmt},mB m f sts = true -> PBv C X sts (evB W f)
 | [],[],h=>by
  have : evB W [] = fun ρ=>.nx ρ := by funext ρ;simp only [evB]
  rw [this];exact pbv_nil
 | [],_ :: _,h=>by simp [mB] at h
 | f :: fs,sts,h=>by
  by_cases hf : ∃ i,f = .frzV i
  . obtain ⟨i,rfl⟩ := hf;simp only [mB] at h;have : evB W (.frzV i :: fs) = fun ρ=>(frzS ρ i).thn (evB W fs) := by funext ρ;rfl
    rw [this];exact pbv_frz (sB S fs h)
  . cases sts with
    | nil=>cases f <;> first | exact absurd ⟨_,rfl⟩ hf | (simp [mB] at h)
    | cons st sts =>
     have h : (mS m f st && mB m fs sts) = true := by cases f <;> first | exact absurd ⟨_,rfl⟩ hf | exact h
     rw [Bool.and_eq_true] at h;have : evB W (f :: fs) = fun ρ=>(evS W f ρ).thn (evB W fs) := by funext ρ;simp only [evB]
     rw [this];exact pbv_cons (sS S f h.1) (sB S fs h.2)
end
abbrev IB := Unit
structure FD where
 ps : List Str
 N : List Str
 b : List D3.S
structure ID where
 c : Str
 ps : List Str
 N : List Str
 ib : IB
structure TB where
 T : List (Str × FD)
 I : List (Str × ID)
 cl : List CI
 xt : List ((Str × Str) × Bool)
 xi : List ((Str × Str) × Bool)
def phiI (W : WD) (i : ID) : List D -> Res := fun _=>.stuck
def PhiF (t : TB) (W : WD) (f : Str) : List D -> Res := match t.T.lookup f with
 | some d=>phi d.ps.length d.N.length (evB W d.b)
 | none=>fun _=>.stuck
def WT (t : TB) : Nat -> WD
 | 0=>⟨fun _ _=>.stuck,fun _=>none,t.cl,t.xt,t.xi⟩
 | 1=>⟨fun f=>PhiF t ⟨fun _ _=>.stuck,fun _=>none,t.cl,t.xt,t.xi⟩ f,fun _=>none,t.cl,t.xt,t.xi⟩
 | k + 2=>⟨fun f=>PhiF t (WT t (k + 1)) f,fun key=>match t.I.lookup key with | some i=>some (phiI (WT t k) i) | none=>none,t.cl,t.xt,t.xi⟩
theorem WT_cl (t : TB) : ∀ k,(WT t k).cl = t.cl
 | 0=>rfl
 | 1=>rfl
 | k + 2=>rfl
theorem WT_xt (t : TB) : ∀ k,(WT t k).xt = t.xt
 | 0=>rfl
 | 1=>rfl
 | k + 2=>rfl
theorem WT_xi (t : TB) : ∀ k,(WT t k).xi = t.xi
 | 0=>rfl
 | 1=>rfl
 | k + 2=>rfl
theorem WT_Φ (t : TB) : ∀ k f,(WT t (k + 1)).Φ f = PhiF t (WT t k) f
 | 0,f=>rfl
 | k + 1,f=>rfl
def scOk (N ps : List Str) (sc : Scope) : Bool := sc.kind == .function && !sc.isCoroutine && !sc.isGenerator && decide N.Nodup && (N.take ps.length == ps) && ps.all (fun x=>sc.names.lookup x == some .local || sc.names.lookup x == some .cell) && sc.names.all (fun y=>y.2 != .free)
theorem scOk_of {N ps : List Str} {sc : Scope} (h : scOk N ps sc = true) : FnScope N ps sc := by unfold scOk at h;simp only [Bool.and_eq_true,List.all_eq_true,Bool.or_eq_true,bne_iff_ne,beq_iff_eq,decide_eq_true_eq,Bool.not_eq_true'] at h;obtain ⟨⟨⟨⟨⟨⟨h1,h2⟩,h3⟩,h4⟩,h5⟩,h6⟩,h7⟩ := h;exact ⟨h1,h2,h3,h4,h5,h6,h7⟩
def fdOk (g : MG) (st : Stmt) (d : FD) : Bool := scOk d.N d.ps (defScope st) && mB ⟨d.N,defScope st,g,true,true,true⟩ d.b (defBody st)
def idOk (g : MG) (st : Stmt) (d : ID) : Bool := false
def Stands (K : Fg) (g : MG) (fa : Str -> Addr) (key : Str) (d : FD) : Prop :=
 ∃ name st fd,Fun K name key st (fa key) fd /\ Binds K fd d.ps [] /\ fdOk g st d = true
def StandAll (K : Fg) (g : MG) (fa : Str -> Addr) : List (Str × FD) -> Prop
 | []=>True
 | (x,d) :: r=>Stands K g fa x d /\ StandAll K g fa r
theorem StandAll.at {K : Fg} {g : MG} {fa : Str -> Addr} : ∀ {T : List (Str × FD)} {x : Str} {d : FD},StandAll K g fa T -> T.lookup x = some d -> Stands K g fa x d
 | [],_,_,_,e=>by cases e
 | (y,d') :: r,x,d,h,e=>by
  rw [List.lookup_cons] at e;split at e
  . rename_i hb;cases e;rw [beq_iff_eq] at hb;subst hb;exact h.1
  . exact h.2.at e
def StandsI (K : Fg) (mg : SOV) (g : MG) (key : Str) (d : ID) : Prop :=
 ∃ name st C f fd,PySem.W.nsIn K mainGlobals d.c = some (some (.ref C)) /\ mg d.c = some (.ref C) /\ Mk K C f /\ Fun K name key st f fd /\ Binds K fd d.ps [] /\ idOk g st d = true
def StandAllI (K : Fg) (mg : SOV) (g : MG) : List (Str × ID) -> Prop
 | []=>True
 | (x,d) :: r=>StandsI K mg g x d /\ StandAllI K mg g r
theorem StandAllI.at {K : Fg} {mg : SOV} {g : MG} : ∀ {T : List (Str × ID)} {x : Str} {d : ID},StandAllI K mg g T -> T.lookup x = some d -> StandsI K mg g x d
 | [],_,_,_,e=>by cases e
 | (y,d') :: r,x,d,h,e=>by
  rw [List.lookup_cons] at e;split at e
  . rename_i hb;cases e;rw [beq_iff_eq] at hb;subst hb;exact h.1
  . exact h.2.at e
def GVOk (w : World) (K : Fg) (mg : SOV) (fa : Str -> Addr) (x : Str) : GV -> Prop
 | .con (.s y)=>∃ t,mg x = some (.str y t)
 | .con (.i n)=>∃ t,mg x = some (.int n t)
 | .con (.t tb)=>TabV w K mg x tb
 | .no=>mg x = none
 | .fn _=>mg x = some (.ref (fa x))
 | .cls=>True
def GCon (w : World) (K : Fg) (mg : SOV) (fa : Str -> Addr) : List (Str × GV) -> Prop
 | []=>True
 | (x,v) :: r=>GVOk w K mg fa x v /\ GCon w K mg fa r
theorem GCon.at {w : World} {K : Fg} {mg : SOV} {fa : Str -> Addr} : ∀ {G : List (Str × GV)} {x : Str} {v : GV},GCon w K mg fa G -> G.lookup x = some v -> GVOk w K mg fa x v
 | [],_,_,_,e=>by cases e
 | (y,v') :: r,x,v,h,e=>by
  rw [List.lookup_cons] at e;split at e
  . rename_i hb;cases e;rw [beq_iff_eq] at hb;subst hb;exact h.1
  . exact h.2.at e
def gOk (G : List (Str × GV)) (T : List (Str × FD)) : Bool := G.all fun (x,v)=>match v with | .fn n=>(match T.lookup x with | some d=>d.ps.length == n | none=>false) | _=>true
theorem gOk_at {T : List (Str × FD)} : ∀ {G : List (Str × GV)} {x : Str} {n : Nat},gOk G T = true -> G.lookup x = some (.fn n) -> ∃ d,T.lookup x = some d /\ d.ps.length = n
 | [],_,_,_,e=>by cases e
 | (y,v') :: r,x,n,h,e=>by
  unfold gOk at h;rw [List.all_cons,Bool.and_eq_true] at h;rw [List.lookup_cons] at e;split at e
  . rename_i hb;cases e;rw [beq_iff_eq] at hb;subst hb;have h1 := h.1;dsimp only at h1;cases q : T.lookup x with
    | none=>rw [q] at h1;cases h1
    | some d=>rw [q] at h1;exact ⟨d,rfl,by simpa using h1⟩
  . exact gOk_at (G := r) h.2 e
def mtOk (cl : List CI) (T : List (Str × FD)) : Bool := cl.all fun i=>i.meths.all fun (_,key,n)=>match T.lookup key with | some d=>d.ps.length == n | none=>false
def mkiOk (mki : List (Str × Str × Nat)) (I : List (Str × ID)) : Bool := mki.all fun (c,key,n)=>match I.lookup key with | some d=>d.c == c && d.ps.length == n + 1 | none=>false
def ClsM (K : Fg) (fa : Str -> Addr) (C : Addr) : List (Str × Str × Nat) -> Prop
 | []=>True
 | (m,key,_) :: r=>Meth K C m (fa key) /\ ClsM K fa C r
def ClsF (K : Fg) (C : Addr) : List Str -> Prop
 | []=>True
 | f :: r=>NoAttr K C f /\ ClsF K C r
def ClsAll (K : Fg) (fa : Str -> Addr) : List CI -> Prop
 | []=>True
 | i :: r=>(∃ C,PySem.W.nsIn K mainGlobals i.name = some (some (.ref C)) /\ Cls K C /\ ClsM K fa C i.meths /\ ClsF K C i.flds) /\ ClsAll K fa r
theorem ClsAll.at {K : Fg} {fa : Str -> Addr} : ∀ {cl : List CI} {i : CI},ClsAll K fa cl -> i ∈ cl -> ∃ C,PySem.W.nsIn K mainGlobals i.name = some (some (.ref C)) /\ Cls K C /\ ClsM K fa C i.meths /\ ClsF K C i.flds
 | [],_,_,h=>by cases h
 | j :: r,i,h,hi=>by
  rcases List.mem_cons.mp hi with rfl | hi
  . exact h.1
  . exact h.2.at hi
theorem ClsF.at {K : Fg} {C : Addr} : ∀ {l : List Str} {f : Str},ClsF K C l -> f ∈ l -> NoAttr K C f
 | [],_,_,h=>by cases h
 | j :: r,i,h,hi=>by
  rcases List.mem_cons.mp hi with rfl | hi
  . exact h.1
  . exact h.2.at hi
theorem ClsM.at {K : Fg} {fa : Str -> Addr} {C : Addr} : ∀ {l : List (Str × Str × Nat)} {m key : Str} {n : Nat},ClsM K fa C l -> l.lookup m = some (key,n) -> Meth K C m (fa key)
 | [],_,_,_,_,e=>by cases e
 | (m',key',n') :: r,m,key,n,h,e=>by
  rw [List.lookup_cons] at e;split at e
  . rename_i hb;cases e;rw [beq_iff_eq] at hb;subst hb;exact h.1
  . exact h.2.at e
structure GF (w : World) (K : Fg) (mg : SOV) (g : MG) (t : TB) (fa : Str -> Addr) : Prop where
 con : GCon w K mg fa g.G
 gok : gOk g.G t.T = true
 all : StandAll K g fa t.T
 alli : StandAllI K mg g t.I
 mk0 : ∀ c,c ∈ g.mk0 -> MkV0 K mg c
 mkok : mkiOk g.mki t.I = true
 iso : ∀ c,c ∈ g.iso -> IsV K mg t.cl c
 cls : ClsAll K fa t.cl
 mtok : mtOk t.cl t.T = true
 xtok : XtOk K mg (fun c x=>t.xt.lookup (c,x))
 xiok : XisOk K mg (fun c x=>t.xi.lookup (c,x))
 xcok : ∀ c,c ∈ g.xcs -> ∃ Cc,mg c = some (.ref Cc) /\ RzCls K Cc
 xnok : ∀ n,n ∈ g.xns -> ∃ cv,ClsV mg n cv
theorem spV_stuck {K : Fg} {mg : SOV} {n : Nat} {Φ : List D -> Res} {vs : List V} {H : Hp} {Q : VK} {E : XK} (hz : ∀ ds,Φ ds = .stuck) (h : spV K mg n Φ vs H Q E) : False := by obtain ⟨_,F,ds,_,_,h⟩ := h;rw [hz] at h;exact h
section
variable {P : Program} {w : World} {K : Fg} {mg : SOV} {base : Heap} {g : MG} {t : TB} {fa : Str -> Addr}
structure AllOk (P : Program) (w : World) (K : Fg) (mg : SOV) (base : Heap) (t : TB) (fa : Str -> Addr) (k : Nat) : Prop where
 fn : ∀ key d,t.T.lookup key = some d -> ∃ fd,FnOk P w K mg base (CX1 P w) k (fa key) fd d.ps (spV K mg d.ps.length ((WT t k).Φ key)) /\ Binds K fd d.ps [] /\ PySem.W.keepIn K (.ref (fa key)) = true
 ini : ∀ key d Φ,t.I.lookup key = some d -> (WT t k).I key = some Φ -> ∃ j,j + 1 <= k /\ InV P w K mg base (CX1 P w) j d.c (d.ps.length - 1) Φ
theorem sx_of (f : GF w K mg g t fa) {k : Nat} (A : AllOk P w K mg base t fa k) {N : List Str} {sc : Scope} {C : Cw} {X : Cx} (hP : X.prog = P) (hw : X.w = w) (hK : X.K = K) (hmg : X.mg = mg) (hb : X.base = base) (hN : X.N = N) (hs : X.env.scope = sc) (cm : X.calm = true) (rm : Room k X.A) (hfn : ∀ x,X.fn x = true) (xo : XOk (CX1 X.prog X.w) (C.at X) X) : SX k (WT t k) ⟨N,sc,g,true,true,true⟩ C X := by
 subst hP hw hK hmg hb;refine ⟨hN,hs,fun _=>cm,fun _=>rm,rm.units,fun _=>xo,?_,?_,f.xcok,f.xnok,fun y c l=>?_,fun y l=>f.con.at l,fun c hc=>f.mk0 c hc,fun c key n hm Φ e=>?_,fun c hc=>by rw [WT_cl];exact f.iso c hc,fun i f' hi hf=>?_,fun c m key n e=>?_,fun y n l=>?_,fun _=>hfn⟩
 . unfold WD.xf;rw [WT_xt];exact f.xtok
 . unfold WD.xg;rw [WT_xi];exact f.xiok
 . have := f.con.at l;cases c <;> exact this
 . have h1 := List.all_eq_true.mp f.mkok (c,key,n) hm;dsimp only at h1;cases q : t.I.lookup key with
   | none=>rw [q] at h1;cases h1
   | some d=>rw [q] at h1;simp only [Bool.and_eq_true,beq_iff_eq] at h1;obtain ⟨j,hj,M⟩ := A.ini key d Φ q e;rw [h1.1,h1.2] at M;exact ⟨j,hj,M⟩
 . rw [WT_cl] at hi;obtain ⟨C',h1,h2,_,h4⟩ := f.cls.at hi;exact ⟨C',h1,h2,h4.at hf⟩
 . rw [WT_cl] at e;unfold CI.meth at e;split at e
   . rename_i i ei;have hi := List.mem_of_find?_eq_some ei;have hn : i.name = c := by simpa using List.find?_some ei
     obtain ⟨C',h1,h2,h3,_⟩ := f.cls.at hi;have hmo := List.all_eq_true.mp (List.all_eq_true.mp f.mtok i hi) (m,key,n) (PySem.mem_of_lookup e);dsimp only at hmo;cases q : t.T.lookup key with
     | none=>rw [q] at hmo;cases hmo
     | some d=>rw [q] at hmo;rw [beq_iff_eq] at hmo;obtain ⟨fd,FO,hb,_⟩ := A.fn key d q;rw [hmo] at FO;exact ⟨C',fa key,fd,d.ps,by rw [<- hn];exact h1,h2,h3.at e,FO,hb⟩
   . cases e
 . obtain ⟨d,e,rfl⟩ := gOk_at f.gok l;obtain ⟨fd,FO,hb,hk⟩ := A.fn y d e;exact ⟨fa y,fd,d.ps,FO,f.con.at l,hk,hb⟩
theorem fn_step (f : GF w K mg g t fa) {k : Nat} (A : AllOk P w K mg base t fa k) {key : Str} {d : FD} {name : Str} {st : Stmt} {fd : FuncData} {a : Addr} (F : Fun K name key st a fd) (e : t.T.lookup key = some d) (ok : fdOk g st d = true) : FnOk P w K mg base (CX1 P w) (k + 1) a fd d.ps (spV K mg d.ps.length ((WT t (k + 1)).Φ key)) := by
 unfold fdOk at ok;rw [Bool.and_eq_true] at ok;have sc := scOk_of ok.1;have : (WT t (k + 1)).Φ key = phi d.ps.length d.N.length (evB (WT t k) d.b) := by rw [WT_Φ];unfold PhiF;rw [e]
 rw [this];exact fnok_phi (k := k) F sc fun C cdv A' outer s H En hE hr=>sB (m := ⟨d.N,defScope st,g,true,true,true⟩) (X := cxOf (CX1 P w) P w K mg base d.N key (defScope st) a cdv A' outer s H En) ⟨sx_of f A rfl rfl rfl rfl rfl rfl rfl rfl hr (fun _=>rfl) (xok_fn (K := K) (H := H) (outer := outer) hE),sc.nd,PassesOwn.leaving,fun _=>⟨rzok_fn (K := K) (H := H) (outer := outer) hE,fnCx⟩⟩ d.b ok.2
theorem init_step (f : GF w K mg g t fa) {k : Nat} (A : AllOk P w K mg base t fa k) {key : Str} {d : ID} (e : t.I.lookup key = some d) : InV P w K mg base (CX1 P w) (k + 1) d.c (d.ps.length - 1) (phiI (WT t k) d) := by obtain ⟨name,st,C2,a,fd,ns,hm,M,F,hb,ok⟩ := f.alli.at e;cases ok
theorem all_ok (f : GF w K mg g t fa) : ∀ k,AllOk P w K mg base t fa k /\ AllOk P w K mg base t fa (k + 1)
 | 0=>by
  have A0 : AllOk P w K mg base t fa 0 := ⟨fun key d e=>by
   obtain ⟨name,st,fd,F,hb,_⟩ := f.all.at e;exact ⟨fd,⟨fun vs H Q En h=>(spV_stuck (fun _=>rfl) h).elim,fun A outer s H args us vs Q En _ _ _ _ h=>(spV_stuck (fun _=>rfl) h).elim⟩,hb,F.kp⟩,fun key d Φ _ e=>by cases e⟩
  refine ⟨A0,fun key d e=>?_,fun key d Φ _ e=>by cases e⟩
  obtain ⟨name,st,fd,F,hb,ok⟩ := f.all.at e;exact ⟨fd,fn_step f A0 F e ok,hb,F.kp⟩
 | k + 1=>by
  obtain ⟨A0,A1⟩ := all_ok f k;refine ⟨A1,fun key d e=>?_,fun key d Φ e ei=>?_⟩
  . obtain ⟨name,st,fd,F,hb,ok⟩ := f.all.at e;exact ⟨fd,fn_step f A1 F e ok,hb,F.kp⟩
  . have ei : (match t.I.lookup key with | some i=>some (phiI (WT t k) i) | none=>none) = some Φ := ei
    rw [e] at ei;cases ei;exact ⟨k + 1,Nat.le_refl _,init_step f A0 e⟩
end
def spLw (K : Fg) (Φ : List D -> Res) : Sp := fun vs H Q E=>∃ a ns,vs = [.ref a] /\ SqL K H a (ns.map V.int) /\ Φ (lawIn ns) = .ok .fz (.bl true) /\ ∀ H',Q (.bl true) H'
theorem fnok_lw {P : Program} {w : World} {K : Fg} {mg : SOV} {base : Heap} {CX : CXT} {k : Nat} {f : Addr} {fd : FuncData} {ps : List Str} {Φ : List D -> Res} (h : FnOk P w K mg base CX k f fd ps (spV K mg 1 Φ)) : FnOk P w K mg base CX k f fd ps (spLw K Φ) :=
 h.imp fun vs H Q E ⟨a,ns,e,hq,hp,q⟩=>by
  subst e;refine ⟨rfl,H,lawIn ns,Same.refl _,RepL.cons ?_ RepL.nil,?_⟩
  . simp only [RepV];exact ⟨a,_,rfl,hq,repL_ints ns⟩
  . rw [hp];exact ⟨by decide,fun v F' H' s rp _=>by rw [rp.bl];exact q H'⟩
theorem fnok_law {P : Program} {w : World} {K : Fg} {mg : SOV} {base : Heap} {g : MG} {t : TB} {fa : Str -> Addr} (f : GF w K mg g t fa) (k : Nat) {a : Addr} {fd : FuncData} {d : FD} {st : Stmt} (F : Fun K "law" "law" st a fd) (e : t.T.lookup ("law" : Str) = some d) (ok : fdOk g st d = true) (hl : d.ps.length = 1) : FnOk P w K mg base (CX1 P w) (k + 1) a fd d.ps (spLw K ((WT t (k + 1)).Φ ("law" : Str))) := by have := fn_step (P := P) (w := w) (base := base) f (all_ok f k).1 F e ok;rw [hl] at this;exact fnok_lw this
end D3
namespace D3
open PySem L2
section
variable {W : WD} {ρ : Rho} {a b c : E} {es : List E}
@[simp] theorem e_var {i} : evE W (.var i) ρ = getS ρ i := Eq.trans rfl rfl
@[simp] theorem e_non : evE W .non ρ = .ok .fz .non := Eq.trans rfl rfl
@[simp] theorem e_bl {b} : evE W (.bl b) ρ = .ok .fz (.bl b) := Eq.trans rfl rfl
@[simp] theorem e_int {i} : evE W (.int i) ρ = .ok .fz (.int i) := Eq.trans rfl rfl
@[simp] theorem e_str {x} : evE W (.str x) ρ = .ok .fz (.str x) := Eq.trans rfl rfl
@[simp] theorem e_globS {x y} : evE W (.glob x (.s y)) ρ = .ok .fz (.str y) := Eq.trans rfl rfl
@[simp] theorem e_globI {x y} : evE W (.glob x (.i y)) ρ = .ok .fz (.int y) := Eq.trans rfl rfl
@[simp] theorem e_ty {t : Ty} : evE W (.ty t) ρ = .ok .fz (.ty t.id) := Eq.trans rfl rfl
@[simp] theorem e_bin {op} : evE W (.bin op a b) ρ = op2 (fBin op) (evE W a ρ) (evE W b ρ) := Eq.trans rfl rfl
@[simp] theorem e_cmp {op} : evE W (.cmp op a b) ρ = op2 (fCmp op) (evE W a ρ) (evE W b ρ) := Eq.trans rfl rfl
@[simp] theorem e_andL : evE W (.andL es) ρ = evA W es ρ := Eq.trans rfl rfl
@[simp] theorem e_orL : evE W (.orL es) ρ = evO' W es ρ := Eq.trans rfl rfl
@[simp] theorem e_not : evE W (.not a) ρ = notR (evE W a ρ) := Eq.trans rfl rfl
@[simp] theorem e_neg : evE W (.neg a) ρ = negR (evE W a ρ) := Eq.trans rfl rfl
@[simp] theorem e_tru : evE W (.tru a) ρ = truR (evE W a ρ) := Eq.trans rfl rfl
@[simp] theorem e_frz : evE W (.frz a) ρ = frzR (evE W a ρ) := Eq.trans rfl rfl
@[simp] theorem e_ix : evE W (.ix a b) ρ = op2 ixD (evE W a ρ) (evE W b ρ) := Eq.trans rfl rfl
@[simp] theorem e_slice {l h} : evE W (.slice a l h) ρ = slP (evE W a ρ) (evO W l) (evO W h) ρ := Eq.trans rfl rfl
@[simp] theorem e_tup : evE W (.tup es) ρ = tupR (evEs W es ρ) := Eq.trans rfl rfl
@[simp] theorem e_lst : evE W (.lst es) ρ = lstR (evEs W es ρ) := Eq.trans rfl rfl
@[simp] theorem e_call {f n} : evE W (.call f n es) ρ = callF n (W.Φ f) (evEs W es ρ) := Eq.trans rfl rfl
@[simp] theorem e_bcall {f : Bn} : evE W (.bcall f es) ρ = callR f.f (evEs W es ρ) := Eq.trans rfl rfl
@[simp] theorem e_mt {t : Mt} : evE W (.mt t a es) ρ = mthR t.ty t.f (evE W a ρ) (evEs W es ρ) := Eq.trans rfl rfl
@[simp] theorem e_items : evE W (.items a) ρ = itemsR (frzR (evE W a ρ)) := Eq.trans rfl rfl
@[simp] theorem e_rng1 : evE W (.rng1 a) ρ = rng1R (consL (evE W a ρ) (.ok [])) := Eq.trans rfl rfl
@[simp] theorem e_enum1 : evE W (.enum1 a) ρ = enumR (consL (frzR (evE W a ρ)) (.ok [])) := Eq.trans rfl rfl
@[simp] theorem e_dnew : evE W .dnew ρ = .ok .fr (.dct []) := Eq.trans rfl rfl
@[simp] theorem e_srt : evE W (.srt a) ρ = callR (CallD.or' srtD srtTD) (consL (evE W a ρ) (.ok [])) := Eq.trans rfl rfl
@[simp] theorem e_sum1 : evE W (.sum1 a) ρ = callR (CallD.or' sumD sumI) (consL (evE W a ρ) (.ok [])) := Eq.trans rfl rfl
@[simp] theorem e_comp2 {b2 : E} {ts : List E} {caps} : evE W (.comp2 a b b2 ts caps) ρ = comp2R (evE W b ρ) ρ caps (fun ρ=>evF W ts ρ) (fun ρ=>evE W b2 ρ) (fun ρ=>evE W a ρ) := Eq.trans rfl rfl
@[simp] theorem e_usc {b2 : E} {ts : List E} {caps} : evE W (.usc a b b2 ts caps) ρ = uscR (evE W b ρ) ρ caps (fun ρ=>evF W ts ρ) (fun ρ=>evE W b2 ρ) (fun ρ=>evE W a ρ) := Eq.trans rfl rfl
@[simp] theorem e_sel {caps : List Nat} {i j jd jm : Nat} : evE W (.sel caps i j jd jm) ρ = selR ρ jd jm := Eq.trans rfl rfl
@[simp] theorem e_compC {ts : List E} {caps} : evE W (.compC a b ts caps) ρ = compR (evE W b ρ) ρ caps 1 (setG (.nm caps.length)) (fun ρ=>evF W ts ρ) (fun ρ=>evE W a ρ) := Eq.trans rfl rfl
@[simp] theorem e_lidx : evE W (.lidx a b) ρ = idxL (evE W a ρ) (evE W b ρ) := Eq.trans rfl rfl
@[simp] theorem e_dlist : evE W (.dlist a) ρ = callR tcKeys (consL (evE W a ρ) (.ok [])) := Eq.trans rfl rfl
@[simp] theorem e_dix : evE W (.dix a b) ρ = op2 ixK (evE W a ρ) (evE W b ρ) := Eq.trans rfl rfl
@[simp] theorem e_comp {ts : List E} {caps t n} : evE W (.comp a b ts caps t n) ρ = compR (evE W b ρ) ρ caps n (setG t) (fun ρ=>evF W ts ρ) (fun ρ=>evE W a ρ) := Eq.trans rfl rfl
@[simp] theorem el_nil : evL W [] = [] := by simp only [evL]
@[simp] theorem el_cons : evL W (a :: es) = evE W a :: evL W es := by simp only [evL]
@[simp] theorem sg_nm {i : Nat} {d : D} : setG (.nm i) d ρ = some (ρ.set i (some (false,d))) := by simp only [setG]
@[simp] theorem sg_tp {ts : List Tg} {ds : List D} : setG (.tp ts) (.tup ds) ρ = setGs ts ds ρ := by simp only [setG]
@[simp] theorem sg_tpl {ts : List Tg} {ds : List D} : setG (.tp ts) (.lst ds) ρ = setGs ts ds ρ := by simp only [setG]
@[simp] theorem sgs_nil : setGs [] [] ρ = some ρ := by simp [setGs]
@[simp] theorem sgs_cons {t : Tg} {ts : List Tg} {d : D} {ds : List D} : setGs (t :: ts) (d :: ds) ρ = (setG t d ρ).bind (setGs ts ds) := by simp only [setGs];cases setG t d ρ <;> rfl
@[simp] theorem e_tcall {t : Ty} : evE W (.tcall t es) ρ = callR t.f (evEs W es ρ) := Eq.trans rfl rfl
@[simp] theorem es_nil : evEs W [] ρ = .ok [] := by simp only [evEs]
@[simp] theorem es_cons : evEs W (a :: es) ρ = consL (evE W a ρ) (evEs W es ρ) := by simp only [evEs]
@[simp] theorem ea_one : evA W [a] ρ = evE W a ρ := by simp only [evA]
@[simp] theorem ea_cons : evA W (a :: b :: es) ρ = andR (evE W a ρ) (evA W (b :: es) ρ) := by simp only [evA]
@[simp] theorem eo_one : evO' W [a] ρ = evE W a ρ := by simp only [evO']
@[simp] theorem eo_cons : evO' W (a :: b :: es) ρ = orR (evE W a ρ) (evO' W (b :: es) ρ) := by simp only [evO']
@[simp] theorem ef_nil : evF W [] ρ = .ok .fz (.bl true) := by simp only [evF]
@[simp] theorem ef_cons : evF W (a :: es) ρ = andR (evE W a ρ) (evF W es ρ) := by simp only [evF]
@[simp] theorem eo_none : evO W none = none := by simp only [evO]
@[simp] theorem eo_some : evO W (some a) = some (evE W a) := by simp only [evO]
@[simp] theorem s_ret : evS W (.ret a) ρ = retR (evE W a ρ) ρ := Eq.trans rfl rfl
@[simp] theorem s_retV {i} : evS W (.retV i) ρ = retS ρ i := Eq.trans rfl rfl
@[simp] theorem s_set {i} : evS W (.set i a) ρ = setS ρ i (evE W a ρ) := Eq.trans rfl rfl
@[simp] theorem s_ite {x y : List S} : evS W (.ite a x y) ρ = ifS (evE W a ρ) ρ (evB W x ρ) (evB W y ρ) := Eq.trans rfl rfl
@[simp] theorem s_for {t : Tg} {y : List S} : evS W (.for a t y) ρ = forR (evE W a ρ) ρ (setG t) (evB W y) := Eq.trans rfl rfl
@[simp] theorem s_frzV {i} : evS W (.frzV i) ρ = frzS ρ i := Eq.trans rfl rfl
@[simp] theorem s_dput {i} : evS W (.dput i a b) ρ = dputS ρ i (evE W a ρ) (evE W b ρ) := Eq.trans rfl rfl
@[simp] theorem s_setC {i} : evS W (.setC i false a) ρ = setS ρ i (evE W a ρ) := Eq.trans rfl rfl
@[simp] theorem s_setCf {i} : evS W (.setC i true a) ρ = setS ρ i (frzR (evE W a ρ)) := Eq.trans rfl rfl
@[simp] theorem b_nil : evB W [] ρ = .nx ρ := by simp only [evB]
@[simp] theorem b_cons {s : S} {r : List S} : evB W (s :: r) ρ = (evS W s ρ).thn (evB W r) := by simp only [evB]
end
section
variable {m n : Md} {i j : Int} {ρ : Rho} {d : D}
@[simp] theorem x_add : op2 (fBin .Add) (.ok m (.int i)) (.ok n (.int j)) = .ok .fz (.int (i + j)) := rfl
@[simp] theorem x_band : op2 (fBin .BitAnd) (.ok m (.int i)) (.ok n (.int j)) = .ok .fz (.int (Builtin.bitAnd i j)) := rfl
@[simp] theorem x_bor : op2 (fBin .BitOr) (.ok m (.int i)) (.ok n (.int j)) = .ok .fz (.int (Builtin.bitOr i j)) := rfl
@[simp] theorem x_shl (h : 0 <= j) (h1 : j <= 1000000) (h2 : i.natAbs < 2 ^ 64) : op2 (fBin .LShift) (.ok m (.int i)) (.ok n (.int j)) = .ok .fz (.int (i * 2 ^ j.toNat)) := by
 show (match (if (decide (0 <= j) && decide (j <= 1000000) && decide (i.natAbs < 2 ^ 64)) = true then some (Md.fz,D.int (i * 2 ^ j.toNat)) else none) with | some (m,d)=>Res.ok m d | none=>.stuck) = _
 rw [decide_eq_true h,decide_eq_true h1,decide_eq_true h2];rfl
@[simp] theorem x_shr (h : 0 <= j) : op2 (fBin .RShift) (.ok m (.int i)) (.ok n (.int j)) = .ok .fz (.int (i / 2 ^ j.toNat)) := by
 show (match (if decide (0 <= j) = true then some (Md.fz,D.int (i / 2 ^ j.toNat)) else none) with | some (m,d)=>Res.ok m d | none=>.stuck) = _
 rw [decide_eq_true h];rfl
@[simp] theorem x_sub : op2 (fBin .Sub) (.ok m (.int i)) (.ok n (.int j)) = .ok .fz (.int (i - j)) := rfl
@[simp] theorem x_lt : op2 (fCmp .Lt) (.ok m (.int i)) (.ok n (.int j)) = .ok .fz (.bl (decide (i < j))) := rfl
@[simp] theorem x_le : op2 (fCmp .LtE) (.ok m (.int i)) (.ok n (.int j)) = .ok .fz (.bl (decide (i <= j))) := rfl
@[simp] theorem x_gt : op2 (fCmp .Gt) (.ok m (.int i)) (.ok n (.int j)) = .ok .fz (.bl (decide (j < i))) := rfl
@[simp] theorem x_ge : op2 (fCmp .GtE) (.ok m (.int i)) (.ok n (.int j)) = .ok .fz (.bl (decide (j <= i))) := rfl
@[simp] theorem x_mod (h : 0 < j) : op2 (fBin .Mod) (.ok m (.int i)) (.ok n (.int j)) = .ok .fz (.int (i % j)) := by show Res.of (if decide (0 < j) = true then _ else _) = _;rw [if_pos (decide_eq_true h)];rfl
theorem x_div (h : 0 < j) (hb : bits j = true) : op2 (fBin .FloorDiv) (.ok m (.int i)) (.ok n (.int j)) = .ok .fz (.int (i / j)) := by show Res.of (if (decide (0 < j) && bits j) = true then _ else _) = _;rw [if_pos (by rw [hb,decide_eq_true h];rfl)];rfl
theorem bits_of (h : i.natAbs < 10 ^ 2000) : bits i = true := by
 unfold bits;refine decide_eq_true ?_;by_cases h0 : i.natAbs = 0
 . rw [h0];decide
 . refine (Nat.log2_lt h0).mpr (Nat.lt_trans h ?_);decide +kernel
theorem bits_le {N : Nat} (h : i.natAbs <= N) (hN : N < 10 ^ 2000 := by decide +kernel) : bits i = true := bits_of (Nat.lt_of_le_of_lt h hN)
@[simp] theorem x_divS (h : 0 < j) (hb : j.natAbs <= 1000000000) : op2 (fBin .FloorDiv) (.ok m (.int i)) (.ok n (.int j)) = .ok .fz (.int (i / j)) := x_div h (bits_le hb)
theorem x_mulC (h : ((bits i && bits j) || (w64 i || w64 j)) = true) : op2 (fBin .Mult) (.ok m (.int i)) (.ok n (.int j)) = .ok .fz (.int (i * j)) := by show Res.of (((if ((bits i && bits j) || (w64 i || w64 j)) = true then _ else _ : Option (Md × D)).orElse _).orElse _) = _;rw [if_pos h];rfl
theorem x_mul (h1 : bits i = true) (h2 : bits j = true) : op2 (fBin .Mult) (.ok m (.int i)) (.ok n (.int j)) = .ok .fz (.int (i * j)) := x_mulC (by rw [h1,h2];rfl)
theorem x_mulL (h : i.natAbs < 9000000000000000000) : op2 (fBin .Mult) (.ok m (.int i)) (.ok n (.int j)) = .ok .fz (.int (i * j)) := x_mulC (by
 have : w64 i = true := decide_eq_true (by omega)
 rw [this];simp)
theorem op2_of {φ : Md -> D -> Md -> D -> Option (Md × D)} {x y d : D} {k : Md} (h : φ m x n y = some (k,d)) : op2 φ (.ok m x) (.ok n y) = .ok k d := by show Res.of (φ m x n y) = _;rw [h];rfl
@[simp] theorem x_eqI : op2 (fCmp .Eq) (.ok m (.int i)) (.ok n (.int j)) = .ok .fz (.bl (i == j)) := op2_of rfl
@[simp] theorem x_neI : op2 (fCmp .NotEq) (.ok m (.int i)) (.ok n (.int j)) = .ok .fz (.bl (i != j)) := op2_of rfl
@[simp] theorem x_eqB {a b : Bool} : op2 (fCmp .Eq) (.ok m (.bl a)) (.ok n (.bl b)) = .ok .fz (.bl (a == b)) := op2_of rfl
@[simp] theorem x_neB {a b : Bool} : op2 (fCmp .NotEq) (.ok m (.bl a)) (.ok n (.bl b)) = .ok .fz (.bl (a != b)) := op2_of rfl
@[simp] theorem x_eqS {a b : Str} : op2 (fCmp .Eq) (.ok m (.str a)) (.ok n (.str b)) = .ok .fz (.bl (a == b)) := op2_of (by rfl)
@[simp] theorem x_neS {a b : Str} : op2 (fCmp .NotEq) (.ok m (.str a)) (.ok n (.str b)) = .ok .fz (.bl (a != b)) := op2_of (by rfl)
@[simp] theorem x_inS {a b : Str} : op2 (fCmp .In) (.ok m (.str a)) (.ok n (.str b)) = .ok .fz (.bl (isIn a b)) := op2_of rfl
@[simp] theorem x_notinS {a b : Str} : op2 (fCmp .NotIn) (.ok m (.str a)) (.ok n (.str b)) = .ok .fz (.bl (!isIn a b)) := op2_of rfl
@[simp] theorem x_addS {a b : Str} (h : a.length + b.length <= sizeLine) : op2 (fBin .Add) (.ok m (.str a)) (.ok n (.str b)) = .ok .fz (.str (a ++ b)) :=
 op2_of (by
  have : fS (fun i j=>decide (i.length + j.length <= sizeLine)) (fun i j=>D.str (i ++ j)) m (.str a) n (.str b) = some (Md.fz,D.str (a ++ b)) := by show (if decide (a.length + b.length <= sizeLine) = true then some (Md.fz,D.str (a ++ b)) else none) = _;rw [if_pos (decide_eq_true h)]
  show orO (orO (fI (fun _ _=>true) fun i j=>.int (i + j)) (fS (fun i j=>decide (i.length + j.length <= sizeLine)) fun i j=>.str (i ++ j))) catD m (.str a) n (.str b) = _;simp only [orO,this];rfl)
@[simp] theorem x_isN {d : D} : op2 (fCmp .Is) (.ok m d) (.ok n .non) = .ok .fz (.bl (isNonD d)) := op2_of rfl
@[simp] theorem x_isnotN {d : D} : op2 (fCmp .IsNot) (.ok m d) (.ok n .non) = .ok .fz (.bl (!isNonD d)) := op2_of rfl
@[simp] theorem x_catL {x y : List D} (h : x.length + y.length <= sizeLine) : op2 (fBin .Add) (.ok m (.lst x)) (.ok n (.lst y)) = .ok .fr (.lst (x ++ y)) := op2_of (by
 show (if x.length + y.length <= sizeLine then some (Md.fr,D.lst (x ++ y)) else none) = _;rw [if_pos h])
@[simp] theorem x_catT {x y : List D} (h : x.length + y.length <= sizeLine) : op2 (fBin .Add) (.ok m (.tup x)) (.ok n (.tup y)) = .ok .fz (.tup (x ++ y)) := op2_of (by
 show (if x.length + y.length <= sizeLine then some (Md.fz,D.tup (x ++ y)) else none) = _;rw [if_pos h])
@[simp] theorem isn_n : isNonD .non = true := rfl
@[simp] theorem isn_i {i : Int} : isNonD (.int i) = false := rfl
@[simp] theorem isn_b {i : Bool} : isNonD (.bl i) = false := rfl
@[simp] theorem isn_s {i : Str} : isNonD (.str i) = false := rfl
@[simp] theorem isn_t {i : List D} : isNonD (.tup i) = false := rfl
@[simp] theorem isn_l {i : List D} : isNonD (.lst i) = false := rfl
@[simp] theorem x_andT {y : Res} : andR (.ok m (.bl true)) y = y := rfl
@[simp] theorem x_andF {y : Res} : andR (.ok m (.bl false)) y = .ok .fz (.bl false) := rfl
@[simp] theorem x_orT {y : Res} : orR (.ok m (.bl true)) y = .ok .fz (.bl true) := rfl
@[simp] theorem x_orF {y : Res} : orR (.ok m (.bl false)) y = y := rfl
@[simp] theorem x_and {a b : Bool} : andR (.ok m (.bl a)) (.ok .fz (.bl b)) = .ok .fz (.bl (a && b)) := by cases a <;> rfl
@[simp] theorem x_or {a b : Bool} : orR (.ok m (.bl a)) (.ok .fz (.bl b)) = .ok .fz (.bl (a || b)) := by cases a <;> rfl
@[simp] theorem x_not {a : Bool} : notR (.ok m (.bl a)) = .ok .fz (.bl (!a)) := rfl
@[simp] theorem x_tru {a : Bool} : truR (.ok m (.bl a)) = .ok .fz (.bl a) := rfl
@[simp] theorem x_truI : truR (.ok m (.int i)) = .ok .fz (.bl (i != 0)) := rfl
@[simp] theorem x_neg : negR (.ok m (.int i)) = .ok .fz (.int (-i)) := rfl
@[simp] theorem x_ifT {x y : SRes} : ifS (.ok m (.bl true)) ρ x y = x := rfl
@[simp] theorem x_ifF {x y : SRes} : ifS (.ok m (.bl false)) ρ x y = y := rfl
@[simp] theorem x_frz : frzR (.ok .fz d) = .ok .fz d := rfl
@[simp] theorem x_frr : frzR (.ok .fr d) = .ok .fz d := rfl
@[simp] theorem x_set {k : Nat} : setS ρ k (.ok .fz d) = .nx (ρ.set k (some (false,d))) := rfl
@[simp] theorem x_setr {k : Nat} : setS ρ k (.ok .fr d) = .nx (ρ.set k (some (true,d))) := rfl
@[simp] theorem x_ret : retR (.ok .fz d) ρ = .rt .fz d := rfl
@[simp] theorem x_retr : retR (.ok .fr d) ρ = .rt .fr d := rfl
@[simp] theorem g_0 {r : Rho} : getS (some (false,d) :: r) 0 = .ok .fz d := rfl
@[simp] theorem g_0b {r : Rho} : getS (some (true,d) :: r) 0 = .ok .bo d := rfl
@[simp] theorem g_s {x : Option (Bool × D)} {r : Rho} {i : Nat} : getS (x :: r) (i + 1) = getS r i := rfl
@[simp] theorem g_1 {x : Option (Bool × D)} {r : Rho} : getS (x :: r) 1 = getS r 0 := rfl
@[simp] theorem rs_0 {r : Rho} : retS (some (false,d) :: r) 0 = .rt .fz d := rfl
@[simp] theorem rs_0b {r : Rho} : retS (some (true,d) :: r) 0 = .rt .fr d := rfl
@[simp] theorem rs_1 {x : Option (Bool × D)} {r : Rho} : retS (x :: r) 1 = retS r 0 := rfl
@[simp] theorem rs_s {x : Option (Bool × D)} {r : Rho} {i : Nat} : retS (x :: r) (i + 1) = retS r i := rfl
@[simp] theorem r_set0 {x y : Option (Bool × D)} {r : Rho} : (x :: r).set 0 y = y :: r := rfl
@[simp] theorem x_callR {f : List (Md × D) -> Option (Md × D)} {xs : List (Md × D)} : callR f (.ok xs) = Res.of (f xs) := rfl
@[simp] theorem bn_len : Bn.f .len = lenD := rfl
@[simp] theorem bn_isi : Bn.f .isinstance = isiD := rfl
@[simp] theorem ty_int : Ty.f .int = tcInt2 := rfl
@[simp] theorem ty_str : Ty.f .str = tcStr := rfl
@[simp] theorem ty_tuple : Ty.f .tuple = tcTuple := rfl
@[simp] theorem ty_dict : Ty.f .dict = tcDict := rfl
@[simp] theorem ty_list : Ty.f .list = tcList := rfl
@[simp] theorem tci_i {i : Int} : tcInt2 [(m,.int i)] = some (.fz,.int i) := rfl
@[simp] theorem tci_b {i : Bool} : tcInt2 [(m,.bl i)] = some (.fz,.int (if i then 1 else 0)) := rfl
@[simp] theorem tct_l {i : List D} : tcTuple [(m,.lst i)] = some (.fz,.tup i) := rfl
@[simp] theorem tct_t {i : List D} : tcTuple [(.fz,.tup i)] = some (.fz,.tup i) := rfl
@[simp] theorem tcl_l {i : List D} : tcList [(m,.lst i)] = some (.fr,.lst i) := rfl
@[simp] theorem tcl_t {i : List D} : tcList [(m,.tup i)] = some (.fr,.lst i) := rfl
@[simp] theorem tcs_i {i : Int} (h : small i = true) : tcStr [(m,.int i)] = some (.fz,.str (numS i)) := by show (if small i = true then _ else _) = _;rw [if_pos h]
@[simp] theorem mt_ty : Mt.ty .join = "str" := rfl
@[simp] theorem mt_f : Mt.f .join = joinD := rfl
@[simp] theorem mt_tyT : Mt.ty .joinT = "str" := rfl
@[simp] theorem mt_fT : Mt.f .joinT = D3.joinT := rfl
@[simp] theorem mt_tyS : Mt.ty .startswith = "str" := rfl
@[simp] theorem mt_fS : Mt.f .startswith = swD := rfl
@[simp] theorem mt_tyR : Mt.ty .removeprefix = "str" := rfl
@[simp] theorem mt_fR : Mt.f .removeprefix = rpD := rfl
@[simp] theorem bn_all : Bn.f .all = allD := rfl
@[simp] theorem bn_any : Bn.f .any = anyD := rfl
@[simp] theorem len_s {z : Str} : lenD [(m,.str z)] = some (.fz,.int z.length) := rfl
@[simp] theorem len_l {z : List D} : lenD [(m,.lst z)] = some (.fz,.int z.length) := rfl
@[simp] theorem len_t {z : List D} : lenD [(m,.tup z)] = some (.fz,.int z.length) := rfl
@[simp] theorem itm_l {z : List D} : itemsR (.ok m (.lst z)) = .ok .fz (.lst z) := rfl
@[simp] theorem itm_t {z : List D} : itemsR (.ok m (.tup z)) = .ok .fz (.lst z) := rfl
@[simp] theorem itm_s {z : Str} : itemsR (.ok m (.str z)) = .ok .fz (.lst (charsD z)) := rfl
end
@[simp] theorem WT_xf {t : TB} {k : Nat} : (WT t k).xf = fun c x=>t.xt.lookup (c,x) := by unfold WD.xf;rw [WT_xt]
@[simp] theorem WT_xg {t : TB} {k : Nat} : (WT t k).xg = fun c x=>t.xi.lookup (c,x) := by unfold WD.xg;rw [WT_xi]
section
variable {c x : Str} {ρ ρ' : Rho} {m : Md} {d : D} {xt : Str -> Str -> Option Bool} {hs : List HX} {g : Rho -> SRes}
@[simp] theorem x_frx : frzR (.exc c) = .exc c := rfl
@[simp] theorem x_setx {k : Nat} : setS ρ k (.exc c) = .exc c ρ := rfl
@[simp] theorem x_retx : retR (.exc c) ρ = .exc c ρ := rfl
end
theorem xt_nil {K : Fg} {mg : SOV} : XtOk K mg (fun c x=>([] : List ((Str × Str) × Bool)).lookup (c,x)) := fun c x b h=>by cases h
theorem xi_nil {K : Fg} {mg : SOV} : XisOk K mg (fun c x=>([] : List ((Str × Str) × Bool)).lookup (c,x)) := fun c x b h=>by cases h
theorem phi_ok {n N : Nat} {g : Rho -> SRes} {ds : List D} {m : Md} {d : D} (hl : ds.length = n) (h : g (startR N ds) = .rt m d) : phi n N g ds = .ok m d := by unfold phi;rw [if_pos hl,h];rfl
theorem callF_ok {n : Nat} {Φ : List D -> Res} {xs : List (Md × D)} {ds : List D} {d : D} (hl : ds.length = n) (ha : allFz xs = some ds) (h : Φ ds = .ok .fz d) : callF n Φ (.ok xs) = .ok .fz d := by
 show (match allFz xs with | some ds=>if ds.length = n then (match Φ ds with | .ok .bo _=>Res.stuck | r=>r) else .stuck | none=>.stuck) = _
 rw [ha];show (if ds.length = n then _ else _) = _;rw [if_pos hl,h]
@[simp] theorem call1 {Φ : List D -> Res} {a d : D} (h : Φ [a] = .ok .fz d) : callF 1 Φ (.ok [(.fz,a)]) = .ok .fz d := callF_ok (ds := [a]) rfl rfl h
@[simp] theorem call2 {Φ : List D -> Res} {a b d : D} (h : Φ [a,b] = .ok .fz d) : callF 2 Φ (.ok [(.fz,a),(.fz,b)]) = .ok .fz d := callF_ok (ds := [a,b]) rfl rfl h
@[simp] theorem call3 {Φ : List D -> Res} {a b c d : D} (h : Φ [a,b,c] = .ok .fz d) : callF 3 Φ (.ok [(.fz,a),(.fz,b),(.fz,c)]) = .ok .fz d := callF_ok (ds := [a,b,c]) rfl rfl h
theorem len1 {α : Type} {P : List α -> Prop} (h : ∀ a,P [a]) : ∀ us : List α,us.length = 1 -> P us
 | [a],_=>h a
theorem len2 {α : Type} {P : List α -> Prop} (h : ∀ a b,P [a,b]) : ∀ us : List α,us.length = 2 -> P us
 | [a,b],_=>h a b
theorem len3 {α : Type} {P : List α -> Prop} (h : ∀ a b c,P [a,b,c]) : ∀ us : List α,us.length = 3 -> P us
 | [a,b,c],_=>h a b c
@[simp] theorem wt_cl {t : TB} {k : Nat} : (WT t k).cl = t.cl := WT_cl t k
theorem wt_Φ {t : TB} {k : Nat} {f : Str} {d : FD} (h : t.T.lookup f = some d) : (WT t (k + 1)).Φ f = phi d.ps.length d.N.length (evB (WT t k) d.b) := by rw [WT_Φ];unfold PhiF;rw [h]
@[simp] theorem call4 {Φ : List D -> Res} {a b c e d : D} (h : Φ [a,b,c,e] = .ok .fz d) : callF 4 Φ (.ok [(.fz,a),(.fz,b),(.fz,c),(.fz,e)]) = .ok .fz d := callF_ok (ds := [a,b,c,e]) rfl rfl h
theorem b_app {W : WD} : ∀ {x y : List D3.S} {ρ : Rho},evB W (x ++ y) ρ = (evB W x ρ).thn (evB W y)
 | [],y,ρ=>by simp
 | s :: x,y,ρ=>by
  show evB W (s :: (x ++ y)) ρ = _;rw [b_cons,b_cons];cases evS W s ρ with
  | nx ρ'=>exact b_app
  | _=>rfl
end D3
namespace K13
open PySem L2 D3
def b_cuts_L1 : List D3.S := [.set 2 (.frz (.call "met_by" 2 [(.var 2),(.frz (.comp (.dix (.var 0) (.var 1)) (.items (.var 3)) [] [1] (.nm 1) 1))]))]
def b_has_one_within_L1 : List D3.S := [.ite (.cmp .Eq (.bin .BitAnd (.var 2) (.var 0)) (.var 2)) [.ret (.bl true)] []]
def b_bits_of_L1 : List D3.S := [.dput 1 (.var 3) (.var 2),.set 2 (.frz (.bin .Mult (.int 2) (.var 2)))]
def b__law_least_L1 : List D3.S := [.ite (.not (.tru (.bcall .any [(.comp (.andL [(.cmp .Eq (.bin .BitAnd (.var 1) (.var 0)) (.var 1)),(.cmp .NotEq (.var 1) (.var 0))]) (.items (.var 0)) [] [2] (.nm 1) 1)]))) [.dput 1 (.var 2) (.bl true)] []]
def b__law_mask_of_L1 : List D3.S := [.ite (.orL [(.not (.tru (.bcall .isinstance [(.var 3),(.ty .str)]))),(.cmp .NotIn (.var 3) (.var 1))]) [.ret (.neg (.int 1))] [],.set 2 (.frz (.bin .BitOr (.var 2) (.bin .LShift (.int 1) (.lidx (.var 1) (.var 3)))))]
def b__law_no_less_L1 : List D3.S := [.ite (.andL [(.cmp .Eq (.bin .BitAnd (.bin .RShift (.var 0) (.var 3)) (.int 1)) (.int 1)),(.tru (.call "_law_hits" 2 [(.frz (.bin .Sub (.var 0) (.bin .LShift (.int 1) (.var 3)))),(.var 1)]))]) [.ret (.bl false)] []]
def b__law_few_L1 : List D3.S := [.ite (.andL [(.cmp .Eq (.bin .BitAnd (.bin .RShift (.var 0) (.var 3)) (.int 1)) (.int 1)),(.cmp .Lt (.var 2) (.int 6))]) [.set 1 (.frz (.bin .BitOr (.var 1) (.bin .LShift (.int 1) (.var 3)))),.set 2 (.frz (.bin .Add (.var 2) (.int 1)))] []]
def b_law_L1 : List D3.S := [.ite (.andL [(.tru (.call "_law_hits" 2 [(.var 4),(.var 2)])),(.not (.tru (.bcall .any [(.comp (.cmp .Eq (.bin .BitAnd (.var 1) (.var 0)) (.var 1)) (.items (.var 3)) [] [4] (.nm 1) 1)])))]) [.ret (.bl false)] []]
def b_cuts : List D3.S := [.set 1 (.frz (.call "bits_of" 1 [(.var 0)])),.set 2 (.frz (.lst [(.int 0)])),.for (.items (.var 0)) (.nm 3) b_cuts_L1,.ret (.call "sets_of" 2 [(.var 2),(.var 1)])]
def b_met_by : List D3.S := [.set 2 (.frz (.sum1 (.var 1))),.set 3 (.frz (.comp (.var 1) (.items (.var 0)) [(.cmp .NotEq (.bin .BitAnd (.var 1) (.var 0)) (.int 0))] [2] (.nm 1) 1)),.setC 4 true (.comp2 (.bin .BitOr (.var 2) (.var 3)) (.items (.var 0)) (.items (.var 1)) [(.cmp .Eq (.bin .BitAnd (.var 2) (.var 0)) (.int 0))] [2,1]),.ret (.bin .Add (.var 3) (.comp (.var 1) (.items (.var 4)) [(.not (.tru (.call "has_one_within" 2 [(.var 1),(.var 0)])))] [3] (.nm 1) 1))]
def b_has_one_within : List D3.S := [.for (.items (.var 1)) (.nm 2) b_has_one_within_L1,.ret (.bl false)]
def b_bits_of : List D3.S := [.set 1 .dnew,.set 2 (.int 1),.for (.items (.usc (.var 1) (.items (.var 0)) (.items (.var 0)) [] [])) (.nm 3) b_bits_of_L1,.retV 1]
def b_sets_of : List D3.S := [.ret (.tcall .tuple [(.srt (.compC (.tcall .tuple [(.sel [0,1] 0 1 0 1)]) (.items (.var 0)) [] [1]))])]
def b__law_mix : List D3.S := [.set 2 (.frz (.bin .Mod (.bin .Mult (.bin .Add (.bin .Mod (.var 0) (.bin .Pow (.int 10) (.int 60))) (.int 1)) (.bin .Add (.int 48271) (.bin .Mult (.int 130) (.var 1)))) (.int 2147483647))),.ret (.bin .Mod (.bin .Mult (.var 2) (.var 2)) (.int 2147483629))]
def b__law_names : List D3.S := [.set 2 (.str "abcdefghijklmnopqrstuvwxyz"),.set 3 (.frz (.mt .join (.str "") [(.comp (.ix (.var 0) (.bin .Mod (.call "_law_mix" 2 [(.var 1),(.var 2)]) (.int 26))) (.rng1 (.int 4)) [] [2,0] (.nm 2) 1)])),.set 4 (.frz (.bin .Mod (.call "_law_mix" 2 [(.var 0),(.int 5)]) (.int 4))),.set 5 (.frz (.bin .Mod (.call "_law_mix" 2 [(.var 0),(.int 6)]) (.int 26))),.setC 6 true (.comp (.bin .Add (.bin .Add (.slice (.var 0) none (some (.var 2))) (.ix (.var 1) (.bin .Mod (.bin .Add (.var 3) (.bin .Mult (.int 7) (.var 4))) (.int 26)))) (.slice (.var 0) (some (.bin .Add (.var 2) (.int 1))) none)) (.rng1 (.var 1)) [] [3,2,4,5] (.nm 4) 1),.ite (.cmp .Eq (.bin .Mod (.call "_law_mix" 2 [(.var 0),(.int 7)]) (.int 4)) (.int 0)) [.setC 6 true (.comp (.bin .Add (.var 0) (.bin .Mult (.str "0") (.var 1))) (.rng1 (.var 1)) [] [3] (.nm 1) 1)] [],.ite (.cmp .Eq (.bin .Mod (.call "_law_mix" 2 [(.var 0),(.int 7)]) (.int 4)) (.int 1)) [.setC 6 true (.comp (.bin .Add (.ix (.var 0) (.bin .Mod (.bin .Add (.var 2) (.bin .Mult (.int 7) (.var 3))) (.int 26))) (.slice (.var 1) none (some (.bin .Mod (.bin .Add (.var 2) (.var 3)) (.int 4))))) (.rng1 (.var 1)) [] [2,3,5] (.nm 3) 1)] [],.ret (.srt (.var 6))]
def b__law_least : List D3.S := [.set 1 .dnew,.for (.items (.var 0)) (.nm 2) b__law_least_L1,.frzV 1,.ret (.dlist (.var 1))]
def b__law_set : List D3.S := [.ret (.tcall .tuple [(.comp (.var 2) (.enum1 (.var 1)) [(.cmp .Eq (.bin .BitAnd (.bin .RShift (.var 0) (.var 1)) (.int 1)) (.int 1))] [0] (.tp [(.nm 1),(.nm 2)]) 2)])]
def b__law_bits : List D3.S := [.ret (.sum1 (.comp (.bin .BitAnd (.bin .RShift (.var 0) (.var 1)) (.int 1)) (.rng1 (.int 5)) [] [0] (.nm 1) 1))]
def b__law_masks : List D3.S := [.set 2 (.frz (.comp (.var 1) (.rng1 (.int 32)) [(.cmp .In (.call "_law_bits" 1 [(.var 1)]) (.lst [(.var 0),(.frz (.bin .Add (.var 0) (.int 1)))]))] [1] (.nm 1) 1)),.ret (.call "_law_least" 1 [(.frz (.comp (.ix (.var 0) (.bin .Mod (.call "_law_mix" 2 [(.var 1),(.int 9)]) (.bcall .len [(.var 0)]))) (.items (.var 0)) [] [2] (.nm 1) 1))])]
def b__law_mask_of : List D3.S := [.set 2 (.int 0),.ite (.not (.tru (.bcall .isinstance [(.var 0),(.ty .tuple)]))) [.ret (.neg (.int 1))] [],.for (.items (.var 0)) (.nm 3) b__law_mask_of_L1,.ite (.cmp .NotEq (.call "_law_set" 2 [(.var 2),(.var 1)]) (.var 0)) [.ret (.neg (.int 1))] [],.retV 2]
def b__law_hits : List D3.S := [.ret (.bcall .all [(.comp (.cmp .NotEq (.bin .BitAnd (.var 0) (.var 1)) (.int 0)) (.items (.var 1)) [] [0] (.nm 1) 1)])]
def b__law_no_less : List D3.S := [.for (.rng1 (.var 2)) (.nm 3) b__law_no_less_L1,.ret (.bl true)]
def b__law_cut : List D3.S := [.set 2 (.frz (.tcall .tuple [(.srt (.comp (.call "_law_set" 2 [(.var 1),(.var 0)]) (.items (.var 0)) [] [1] (.nm 1) 1))])),.set 3 (.frz (.call "cuts" 1 [(.var 2)])),.ite (.not (.tru (.bcall .isinstance [(.var 3),(.ty .tuple)]))) [.ret .non] [],.setC 4 true (.comp (.call "_law_mask_of" 2 [(.var 1),(.var 0)]) (.items (.var 3)) [] [1] (.nm 1) 1),.ite (.orL [(.cmp .In (.neg (.int 1)) (.var 4)),(.not (.tru (.bcall .all [(.comp (.cmp .Lt (.ix (.var 0) (.var 1)) (.ix (.var 0) (.bin .Add (.var 1) (.int 1)))) (.rng1 (.bin .Sub (.bcall .len [(.var 3)]) (.int 1))) [] [3] (.nm 1) 1)])))]) [.ret .non] [],.ite (.not (.tru (.bcall .all [(.comp (.andL [(.call "_law_hits" 2 [(.var 2),(.var 0)]),(.call "_law_no_less" 3 [(.var 2),(.var 0),(.bcall .len [(.var 1)])])]) (.items (.var 4)) [] [0,1] (.nm 2) 1)]))) [.ret .non] [],.retV 4]
def b__law_few : List D3.S := [.set 1 (.int 0),.set 2 (.int 0),.for (.rng1 (.int 12)) (.nm 3) b__law_few_L1,.retV 1]
def b_law : List D3.S := [.set 1 (.frz (.sum1 (.slice (.var 0) none (some (.int 1))))),.set 2 (.frz (.call "_law_masks" 2 [(.var 0),(.frz (.bin .Mod (.call "_law_mix" 2 [(.var 1),(.int 8)]) (.int 5)))])),.set 3 (.frz (.call "_law_cut" 2 [(.var 2),(.frz (.call "_law_names" 2 [(.var 1),(.int 5)]))])),.ite (.cmp .Is (.var 3) .non) [.ret (.bl false)] [],.for (.rng1 (.int 32)) (.nm 4) b_law_L1,.set 5 (.frz (.lst [(.frz (.bin .BitAnd (.call "_law_mix" 2 [(.var 1),(.int 20)]) (.call "_law_mix" 2 [(.var 1),(.int 21)]))),(.frz (.bin .BitAnd (.call "_law_mix" 2 [(.var 1),(.int 22)]) (.call "_law_mix" 2 [(.var 1),(.int 23)])))])),.set 5 (.frz (.call "_law_least" 1 [(.frz (.comp (.call "_law_few" 1 [(.frz (.bin .Mod (.var 0) (.int 4096)))]) (.items (.var 5)) [] [] (.nm 0) 1))])),.ret (.cmp .IsNot (.call "_law_cut" 2 [(.var 5),(.frz (.call "_law_names" 2 [(.var 1),(.int 12)]))]) .non)]
def d_cuts : FD := ⟨["note"],["note", "bits", "found", "some"],b_cuts⟩
def d_met_by : FD := ⟨["found", "some"],["found", "some", "whole", "meeting", "grown"],b_met_by⟩
def d_has_one_within : FD := ⟨["mask", "masks"],["mask", "masks", "one"],b_has_one_within⟩
def d_bits_of : FD := ⟨["sets"],["sets", "bits", "bit", "name"],b_bits_of⟩
def d_sets_of : FD := ⟨["masks", "bits"],["masks", "bits"],b_sets_of⟩
def d__law_mix : FD := ⟨["_law_cell", "_law_place"],["_law_cell", "_law_place", "_law_first"],b__law_mix⟩
def d__law_names : FD := ⟨["_law_cell", "_law_many"],["_law_cell", "_law_many", "_law_letters", "_law_stem", "_law_at", "_law_start", "_law_names_here"],b__law_names⟩
def d__law_least : FD := ⟨["_law_masks_here"],["_law_masks_here", "_law_stay", "_law_mask"],b__law_least⟩
def d__law_set : FD := ⟨["_law_mask", "_law_pool"],["_law_mask", "_law_pool"],b__law_set⟩
def d__law_bits : FD := ⟨["_law_mask"],["_law_mask"],b__law_bits⟩
def d__law_masks : FD := ⟨["_law_script", "_law_many"],["_law_script", "_law_many", "_law_fit"],b__law_masks⟩
def d__law_mask_of : FD := ⟨["_law_names_here", "_law_pool"],["_law_names_here", "_law_pool", "_law_mask", "_law_name"],b__law_mask_of⟩
def d__law_hits : FD := ⟨["_law_mask", "_law_masks_here"],["_law_mask", "_law_masks_here"],b__law_hits⟩
def d__law_no_less : FD := ⟨["_law_mask", "_law_masks_here", "_law_many"],["_law_mask", "_law_masks_here", "_law_many", "_law_k"],b__law_no_less⟩
def d__law_cut : FD := ⟨["_law_masks_here", "_law_pool"],["_law_masks_here", "_law_pool", "_law_note", "_law_found", "_law_got"],b__law_cut⟩
def d__law_few : FD := ⟨["_law_mask"],["_law_mask", "_law_stay", "_law_count", "_law_k"],b__law_few⟩
def d_law : FD := ⟨["_law_script"],["_law_script", "_law_head", "_law_masks_here", "_law_got", "_law_mask", "_law_some"],b_law⟩
def T : List (Str × FD) := [(("cuts" : Str),d_cuts),(("met_by" : Str),d_met_by),(("has_one_within" : Str),d_has_one_within),(("bits_of" : Str),d_bits_of),(("sets_of" : Str),d_sets_of),(("_law_mix" : Str),d__law_mix),(("_law_names" : Str),d__law_names),(("_law_least" : Str),d__law_least),(("_law_set" : Str),d__law_set),(("_law_bits" : Str),d__law_bits),(("_law_masks" : Str),d__law_masks),(("_law_mask_of" : Str),d__law_mask_of),(("_law_hits" : Str),d__law_hits),(("_law_no_less" : Str),d__law_no_less),(("_law_cut" : Str),d__law_cut),(("_law_few" : Str),d__law_few),(("law" : Str),d_law)]
def TT : TB := ⟨T,[],[],[],[]⟩
def GG : MG := ⟨[(("_law_bits" : Str),(GV.fn 1)),(("_law_cut" : Str),(GV.fn 2)),(("_law_few" : Str),(GV.fn 1)),(("_law_hits" : Str),(GV.fn 2)),(("_law_least" : Str),(GV.fn 1)),(("_law_mask_of" : Str),(GV.fn 2)),(("_law_masks" : Str),(GV.fn 2)),(("_law_mix" : Str),(GV.fn 2)),(("_law_names" : Str),(GV.fn 2)),(("_law_no_less" : Str),(GV.fn 3)),(("_law_set" : Str),(GV.fn 2)),(("all" : Str),(GV.no)),(("any" : Str),(GV.no)),(("bits_of" : Str),(GV.fn 1)),(("cuts" : Str),(GV.fn 1)),(("enumerate" : Str),(GV.no)),(("has_one_within" : Str),(GV.fn 2)),(("isinstance" : Str),(GV.no)),(("len" : Str),(GV.no)),(("list" : Str),(GV.no)),(("met_by" : Str),(GV.fn 2)),(("range" : Str),(GV.no)),(("sets_of" : Str),(GV.fn 2)),(("sorted" : Str),(GV.no)),(("str" : Str),(GV.no)),(("sum" : Str),(GV.no)),(("tuple" : Str),(GV.no))],[],[],[],[],[]⟩
def top (i : Nat) : Stmt := PySem.Challenge.pw_whencewise_k13_cuts.main.body.getD i (.Pass ⟨0,0,0,0⟩)
abbrev s_cuts : Stmt := top 1
abbrev s_met_by : Stmt := top 2
abbrev s_has_one_within : Stmt := top 3
abbrev s_bits_of : Stmt := top 4
abbrev s_sets_of : Stmt := top 5
abbrev s__law_mix : Stmt := top 7
abbrev s__law_names : Stmt := top 8
abbrev s__law_least : Stmt := top 9
abbrev s__law_set : Stmt := top 10
abbrev s__law_bits : Stmt := top 11
abbrev s__law_masks : Stmt := top 12
abbrev s__law_mask_of : Stmt := top 13
abbrev s__law_hits : Stmt := top 14
abbrev s__law_no_less : Stmt := top 15
abbrev s__law_cut : Stmt := top 16
abbrev s__law_few : Stmt := top 17
abbrev s_law : Stmt := top 18
theorem u_cuts (k : Nat) : (WT TT (k + 1)).Φ "cuts" = phi 1 4 (evB (WT TT k) b_cuts) := wt_Φ (d := d_cuts) rfl
theorem u_met_by (k : Nat) : (WT TT (k + 1)).Φ "met_by" = phi 2 5 (evB (WT TT k) b_met_by) := wt_Φ (d := d_met_by) rfl
theorem u_has_one_within (k : Nat) : (WT TT (k + 1)).Φ "has_one_within" = phi 2 3 (evB (WT TT k) b_has_one_within) := wt_Φ (d := d_has_one_within) rfl
theorem u_bits_of (k : Nat) : (WT TT (k + 1)).Φ "bits_of" = phi 1 4 (evB (WT TT k) b_bits_of) := wt_Φ (d := d_bits_of) rfl
theorem u_sets_of (k : Nat) : (WT TT (k + 1)).Φ "sets_of" = phi 2 2 (evB (WT TT k) b_sets_of) := wt_Φ (d := d_sets_of) rfl
theorem u__law_mix (k : Nat) : (WT TT (k + 1)).Φ "_law_mix" = phi 2 3 (evB (WT TT k) b__law_mix) := wt_Φ (d := d__law_mix) rfl
theorem u__law_names (k : Nat) : (WT TT (k + 1)).Φ "_law_names" = phi 2 7 (evB (WT TT k) b__law_names) := wt_Φ (d := d__law_names) rfl
theorem u__law_least (k : Nat) : (WT TT (k + 1)).Φ "_law_least" = phi 1 3 (evB (WT TT k) b__law_least) := wt_Φ (d := d__law_least) rfl
theorem u__law_set (k : Nat) : (WT TT (k + 1)).Φ "_law_set" = phi 2 2 (evB (WT TT k) b__law_set) := wt_Φ (d := d__law_set) rfl
theorem u__law_bits (k : Nat) : (WT TT (k + 1)).Φ "_law_bits" = phi 1 1 (evB (WT TT k) b__law_bits) := wt_Φ (d := d__law_bits) rfl
theorem u__law_masks (k : Nat) : (WT TT (k + 1)).Φ "_law_masks" = phi 2 3 (evB (WT TT k) b__law_masks) := wt_Φ (d := d__law_masks) rfl
theorem u__law_mask_of (k : Nat) : (WT TT (k + 1)).Φ "_law_mask_of" = phi 2 4 (evB (WT TT k) b__law_mask_of) := wt_Φ (d := d__law_mask_of) rfl
theorem u__law_hits (k : Nat) : (WT TT (k + 1)).Φ "_law_hits" = phi 2 2 (evB (WT TT k) b__law_hits) := wt_Φ (d := d__law_hits) rfl
theorem u__law_no_less (k : Nat) : (WT TT (k + 1)).Φ "_law_no_less" = phi 3 4 (evB (WT TT k) b__law_no_less) := wt_Φ (d := d__law_no_less) rfl
theorem u__law_cut (k : Nat) : (WT TT (k + 1)).Φ "_law_cut" = phi 2 5 (evB (WT TT k) b__law_cut) := wt_Φ (d := d__law_cut) rfl
theorem u__law_few (k : Nat) : (WT TT (k + 1)).Φ "_law_few" = phi 1 4 (evB (WT TT k) b__law_few) := wt_Φ (d := d__law_few) rfl
theorem u_law (k : Nat) : (WT TT (k + 1)).Φ "law" = phi 1 6 (evB (WT TT k) b_law) := wt_Φ (d := d_law) rfl
theorem ok_g : gOk GG.G TT.T = true := by decide +kernel
theorem ok_mt : mtOk TT.cl TT.T = true := by decide +kernel
theorem ok_mk : mkiOk GG.mki TT.I = true := by decide +kernel
theorem ok_cuts : fdOk GG s_cuts d_cuts = true := by decide +kernel
theorem ok_met_by : fdOk GG s_met_by d_met_by = true := by decide +kernel
theorem ok_has_one_within : fdOk GG s_has_one_within d_has_one_within = true := by decide +kernel
theorem ok_bits_of : fdOk GG s_bits_of d_bits_of = true := by decide +kernel
theorem ok_sets_of : fdOk GG s_sets_of d_sets_of = true := by decide +kernel
theorem ok__law_mix : fdOk GG s__law_mix d__law_mix = true := by decide +kernel
theorem ok__law_names : fdOk GG s__law_names d__law_names = true := by decide +kernel
theorem ok__law_least : fdOk GG s__law_least d__law_least = true := by decide +kernel
theorem ok__law_set : fdOk GG s__law_set d__law_set = true := by decide +kernel
theorem ok__law_bits : fdOk GG s__law_bits d__law_bits = true := by decide +kernel
theorem ok__law_masks : fdOk GG s__law_masks d__law_masks = true := by decide +kernel
theorem ok__law_mask_of : fdOk GG s__law_mask_of d__law_mask_of = true := by decide +kernel
theorem ok__law_hits : fdOk GG s__law_hits d__law_hits = true := by decide +kernel
theorem ok__law_no_less : fdOk GG s__law_no_less d__law_no_less = true := by decide +kernel
theorem ok__law_cut : fdOk GG s__law_cut d__law_cut = true := by decide +kernel
theorem ok__law_few : fdOk GG s__law_few d__law_few = true := by decide +kernel
theorem ok_law : fdOk GG s_law d_law = true := by decide +kernel
set_option maxHeartbeats 0 in
theorem all_mk {l : PySem.W.OpenLaw} {w : World} {K : Fg} {h : Heap} {mg : SOV} {fa : Addr} (k : Nat) (X : K.In h) (G : h.Ns mainGlobals mg) (hfa : mg "law" = some (.ref fa)) {f0 : Addr} {od0 an0 : Option Addr} {sl0 : Array (Option Value)} {oc0 kV0 dc0 pm0 cd0 ct0 : Value} (a0 : PySem.W.nsIn K mainGlobals "cuts" = some (some (.ref f0))) (l0 : K.lookup f0 = some ⟨oc0,od0,.func (PySem.W.fnOf "cuts" "cuts" (defArgs s_cuts) (defBody s_cuts) (defScope s_cuts) .none kV0 dc0 pm0 an0 cd0 ct0),sl0⟩) (c0 : PySem.W.codeIn K cd0 "cuts" = true) (k0 : PySem.W.keepIn K (.ref f0) = true) {f1 : Addr} {od1 an1 : Option Addr} {sl1 : Array (Option Value)} {oc1 kV1 dc1 pm1 cd1 ct1 : Value} (a1 : PySem.W.nsIn K mainGlobals "met_by" = some (some (.ref f1))) (l1 : K.lookup f1 = some ⟨oc1,od1,.func (PySem.W.fnOf "met_by" "met_by" (defArgs s_met_by) (defBody s_met_by) (defScope s_met_by) .none kV1 dc1 pm1 an1 cd1 ct1),sl1⟩) (c1 : PySem.W.codeIn K cd1 "met_by" = true) (k1 : PySem.W.keepIn K (.ref f1) = true) {f2 : Addr} {od2 an2 : Option Addr} {sl2 : Array (Option Value)} {oc2 kV2 dc2 pm2 cd2 ct2 : Value} (a2 : PySem.W.nsIn K mainGlobals "has_one_within" = some (some (.ref f2))) (l2 : K.lookup f2 = some ⟨oc2,od2,.func (PySem.W.fnOf "has_one_within" "has_one_within" (defArgs s_has_one_within) (defBody s_has_one_within) (defScope s_has_one_within) .none kV2 dc2 pm2 an2 cd2 ct2),sl2⟩) (c2 : PySem.W.codeIn K cd2 "has_one_within" = true) (k2 : PySem.W.keepIn K (.ref f2) = true) {f3 : Addr} {od3 an3 : Option Addr} {sl3 : Array (Option Value)} {oc3 kV3 dc3 pm3 cd3 ct3 : Value} (a3 : PySem.W.nsIn K mainGlobals "bits_of" = some (some (.ref f3))) (l3 : K.lookup f3 = some ⟨oc3,od3,.func (PySem.W.fnOf "bits_of" "bits_of" (defArgs s_bits_of) (defBody s_bits_of) (defScope s_bits_of) .none kV3 dc3 pm3 an3 cd3 ct3),sl3⟩) (c3 : PySem.W.codeIn K cd3 "bits_of" = true) (k3 : PySem.W.keepIn K (.ref f3) = true) {f4 : Addr} {od4 an4 : Option Addr} {sl4 : Array (Option Value)} {oc4 kV4 dc4 pm4 cd4 ct4 : Value} (a4 : PySem.W.nsIn K mainGlobals "sets_of" = some (some (.ref f4))) (l4 : K.lookup f4 = some ⟨oc4,od4,.func (PySem.W.fnOf "sets_of" "sets_of" (defArgs s_sets_of) (defBody s_sets_of) (defScope s_sets_of) .none kV4 dc4 pm4 an4 cd4 ct4),sl4⟩) (c4 : PySem.W.codeIn K cd4 "sets_of" = true) (k4 : PySem.W.keepIn K (.ref f4) = true) {f5 : Addr} {od5 an5 : Option Addr} {sl5 : Array (Option Value)} {oc5 kV5 dc5 pm5 cd5 ct5 : Value} (a5 : PySem.W.nsIn K mainGlobals "_law_mix" = some (some (.ref f5))) (l5 : K.lookup f5 = some ⟨oc5,od5,.func (PySem.W.fnOf "_law_mix" "_law_mix" (defArgs s__law_mix) (defBody s__law_mix) (defScope s__law_mix) .none kV5 dc5 pm5 an5 cd5 ct5),sl5⟩) (c5 : PySem.W.codeIn K cd5 "_law_mix" = true) (k5 : PySem.W.keepIn K (.ref f5) = true) {f6 : Addr} {od6 an6 : Option Addr} {sl6 : Array (Option Value)} {oc6 kV6 dc6 pm6 cd6 ct6 : Value} (a6 : PySem.W.nsIn K mainGlobals "_law_names" = some (some (.ref f6))) (l6 : K.lookup f6 = some ⟨oc6,od6,.func (PySem.W.fnOf "_law_names" "_law_names" (defArgs s__law_names) (defBody s__law_names) (defScope s__law_names) .none kV6 dc6 pm6 an6 cd6 ct6),sl6⟩) (c6 : PySem.W.codeIn K cd6 "_law_names" = true) (k6 : PySem.W.keepIn K (.ref f6) = true) {f7 : Addr} {od7 an7 : Option Addr} {sl7 : Array (Option Value)} {oc7 kV7 dc7 pm7 cd7 ct7 : Value} (a7 : PySem.W.nsIn K mainGlobals "_law_least" = some (some (.ref f7))) (l7 : K.lookup f7 = some ⟨oc7,od7,.func (PySem.W.fnOf "_law_least" "_law_least" (defArgs s__law_least) (defBody s__law_least) (defScope s__law_least) .none kV7 dc7 pm7 an7 cd7 ct7),sl7⟩) (c7 : PySem.W.codeIn K cd7 "_law_least" = true) (k7 : PySem.W.keepIn K (.ref f7) = true) {f8 : Addr} {od8 an8 : Option Addr} {sl8 : Array (Option Value)} {oc8 kV8 dc8 pm8 cd8 ct8 : Value} (a8 : PySem.W.nsIn K mainGlobals "_law_set" = some (some (.ref f8))) (l8 : K.lookup f8 = some ⟨oc8,od8,.func (PySem.W.fnOf "_law_set" "_law_set" (defArgs s__law_set) (defBody s__law_set) (defScope s__law_set) .none kV8 dc8 pm8 an8 cd8 ct8),sl8⟩) (c8 : PySem.W.codeIn K cd8 "_law_set" = true) (k8 : PySem.W.keepIn K (.ref f8) = true) {f9 : Addr} {od9 an9 : Option Addr} {sl9 : Array (Option Value)} {oc9 kV9 dc9 pm9 cd9 ct9 : Value} (a9 : PySem.W.nsIn K mainGlobals "_law_bits" = some (some (.ref f9))) (l9 : K.lookup f9 = some ⟨oc9,od9,.func (PySem.W.fnOf "_law_bits" "_law_bits" (defArgs s__law_bits) (defBody s__law_bits) (defScope s__law_bits) .none kV9 dc9 pm9 an9 cd9 ct9),sl9⟩) (c9 : PySem.W.codeIn K cd9 "_law_bits" = true) (k9 : PySem.W.keepIn K (.ref f9) = true) {f10 : Addr} {od10 an10 : Option Addr} {sl10 : Array (Option Value)} {oc10 kV10 dc10 pm10 cd10 ct10 : Value} (a10 : PySem.W.nsIn K mainGlobals "_law_masks" = some (some (.ref f10))) (l10 : K.lookup f10 = some ⟨oc10,od10,.func (PySem.W.fnOf "_law_masks" "_law_masks" (defArgs s__law_masks) (defBody s__law_masks) (defScope s__law_masks) .none kV10 dc10 pm10 an10 cd10 ct10),sl10⟩) (c10 : PySem.W.codeIn K cd10 "_law_masks" = true) (k10 : PySem.W.keepIn K (.ref f10) = true) {f11 : Addr} {od11 an11 : Option Addr} {sl11 : Array (Option Value)} {oc11 kV11 dc11 pm11 cd11 ct11 : Value} (a11 : PySem.W.nsIn K mainGlobals "_law_mask_of" = some (some (.ref f11))) (l11 : K.lookup f11 = some ⟨oc11,od11,.func (PySem.W.fnOf "_law_mask_of" "_law_mask_of" (defArgs s__law_mask_of) (defBody s__law_mask_of) (defScope s__law_mask_of) .none kV11 dc11 pm11 an11 cd11 ct11),sl11⟩) (c11 : PySem.W.codeIn K cd11 "_law_mask_of" = true) (k11 : PySem.W.keepIn K (.ref f11) = true) {f12 : Addr} {od12 an12 : Option Addr} {sl12 : Array (Option Value)} {oc12 kV12 dc12 pm12 cd12 ct12 : Value} (a12 : PySem.W.nsIn K mainGlobals "_law_hits" = some (some (.ref f12))) (l12 : K.lookup f12 = some ⟨oc12,od12,.func (PySem.W.fnOf "_law_hits" "_law_hits" (defArgs s__law_hits) (defBody s__law_hits) (defScope s__law_hits) .none kV12 dc12 pm12 an12 cd12 ct12),sl12⟩) (c12 : PySem.W.codeIn K cd12 "_law_hits" = true) (k12 : PySem.W.keepIn K (.ref f12) = true) {f13 : Addr} {od13 an13 : Option Addr} {sl13 : Array (Option Value)} {oc13 kV13 dc13 pm13 cd13 ct13 : Value} (a13 : PySem.W.nsIn K mainGlobals "_law_no_less" = some (some (.ref f13))) (l13 : K.lookup f13 = some ⟨oc13,od13,.func (PySem.W.fnOf "_law_no_less" "_law_no_less" (defArgs s__law_no_less) (defBody s__law_no_less) (defScope s__law_no_less) .none kV13 dc13 pm13 an13 cd13 ct13),sl13⟩) (c13 : PySem.W.codeIn K cd13 "_law_no_less" = true) (k13 : PySem.W.keepIn K (.ref f13) = true) {f14 : Addr} {od14 an14 : Option Addr} {sl14 : Array (Option Value)} {oc14 kV14 dc14 pm14 cd14 ct14 : Value} (a14 : PySem.W.nsIn K mainGlobals "_law_cut" = some (some (.ref f14))) (l14 : K.lookup f14 = some ⟨oc14,od14,.func (PySem.W.fnOf "_law_cut" "_law_cut" (defArgs s__law_cut) (defBody s__law_cut) (defScope s__law_cut) .none kV14 dc14 pm14 an14 cd14 ct14),sl14⟩) (c14 : PySem.W.codeIn K cd14 "_law_cut" = true) (k14 : PySem.W.keepIn K (.ref f14) = true) {f15 : Addr} {od15 an15 : Option Addr} {sl15 : Array (Option Value)} {oc15 kV15 dc15 pm15 cd15 ct15 : Value} (a15 : PySem.W.nsIn K mainGlobals "_law_few" = some (some (.ref f15))) (l15 : K.lookup f15 = some ⟨oc15,od15,.func (PySem.W.fnOf "_law_few" "_law_few" (defArgs s__law_few) (defBody s__law_few) (defScope s__law_few) .none kV15 dc15 pm15 an15 cd15 ct15),sl15⟩) (c15 : PySem.W.codeIn K cd15 "_law_few" = true) (k15 : PySem.W.keepIn K (.ref f15) = true) {f16 : Addr} {od16 an16 : Option Addr} {sl16 : Array (Option Value)} {oc16 kV16 dc16 pm16 cd16 ct16 : Value} (a16 : PySem.W.nsIn K mainGlobals "law" = some (some (.ref f16))) (l16 : K.lookup f16 = some ⟨oc16,od16,.func (PySem.W.fnOf "law" "law" (defArgs s_law) (defBody s_law) (defScope s_law) .none kV16 dc16 pm16 an16 cd16 ct16),sl16⟩) (c16 : PySem.W.codeIn K cd16 "law" = true) (k16 : PySem.W.keepIn K (.ref f16) = true) (u_all : PySem.W.nsIn K mainGlobals "all" = some none) (u_any : PySem.W.nsIn K mainGlobals "any" = some none) (u_enumerate : PySem.W.nsIn K mainGlobals "enumerate" = some none) (u_isinstance : PySem.W.nsIn K mainGlobals "isinstance" = some none) (u_len : PySem.W.nsIn K mainGlobals "len" = some none) (u_list : PySem.W.nsIn K mainGlobals "list" = some none) (u_range : PySem.W.nsIn K mainGlobals "range" = some none) (u_sorted : PySem.W.nsIn K mainGlobals "sorted" = some none) (u_str : PySem.W.nsIn K mainGlobals "str" = some none) (u_sum : PySem.W.nsIn K mainGlobals "sum" = some none) (u_tuple : PySem.W.nsIn K mainGlobals "tuple" = some none) : ∃ fd : FuncData,(∀ (s : Shared) (v : Value),BindsTo s fd ⟨[v],[]⟩ [("_law_script", v)]) /\ ∀ base : Heap,K.In base -> base.Ns mainGlobals mg -> FnOk l.prog w K mg base (CX1 l.prog w) (k + 1) fa fd ["_law_script"] (spLw K ((WT TT (k + 1)).Φ ("law" : Str))) := by
 have e := hfa.symm.trans (PySem.W.mg_of X G a16);cases e;have F0 := fun_mk (st := s_cuts) l0 c0 k0;have b0 := F0.binds (ps := ["note"]) fun _ _ _ _ _ _=>len1 fun _=>rfl;have F1 := fun_mk (st := s_met_by) l1 c1 k1;have b1 := F1.binds (ps := ["found", "some"]) fun _ _ _ _ _ _=>len2 fun _ _=>rfl;have F2 := fun_mk (st := s_has_one_within) l2 c2 k2;have b2 := F2.binds (ps := ["mask", "masks"]) fun _ _ _ _ _ _=>len2 fun _ _=>rfl;have F3 := fun_mk (st := s_bits_of) l3 c3 k3;have b3 := F3.binds (ps := ["sets"]) fun _ _ _ _ _ _=>len1 fun _=>rfl;have F4 := fun_mk (st := s_sets_of) l4 c4 k4;have b4 := F4.binds (ps := ["masks", "bits"]) fun _ _ _ _ _ _=>len2 fun _ _=>rfl;have F5 := fun_mk (st := s__law_mix) l5 c5 k5;have b5 := F5.binds (ps := ["_law_cell", "_law_place"]) fun _ _ _ _ _ _=>len2 fun _ _=>rfl;have F6 := fun_mk (st := s__law_names) l6 c6 k6;have b6 := F6.binds (ps := ["_law_cell", "_law_many"]) fun _ _ _ _ _ _=>len2 fun _ _=>rfl;have F7 := fun_mk (st := s__law_least) l7 c7 k7;have b7 := F7.binds (ps := ["_law_masks_here"]) fun _ _ _ _ _ _=>len1 fun _=>rfl;have F8 := fun_mk (st := s__law_set) l8 c8 k8;have b8 := F8.binds (ps := ["_law_mask", "_law_pool"]) fun _ _ _ _ _ _=>len2 fun _ _=>rfl;have F9 := fun_mk (st := s__law_bits) l9 c9 k9;have b9 := F9.binds (ps := ["_law_mask"]) fun _ _ _ _ _ _=>len1 fun _=>rfl;have F10 := fun_mk (st := s__law_masks) l10 c10 k10;have b10 := F10.binds (ps := ["_law_script", "_law_many"]) fun _ _ _ _ _ _=>len2 fun _ _=>rfl;have F11 := fun_mk (st := s__law_mask_of) l11 c11 k11;have b11 := F11.binds (ps := ["_law_names_here", "_law_pool"]) fun _ _ _ _ _ _=>len2 fun _ _=>rfl;have F12 := fun_mk (st := s__law_hits) l12 c12 k12;have b12 := F12.binds (ps := ["_law_mask", "_law_masks_here"]) fun _ _ _ _ _ _=>len2 fun _ _=>rfl;have F13 := fun_mk (st := s__law_no_less) l13 c13 k13;have b13 := F13.binds (ps := ["_law_mask", "_law_masks_here", "_law_many"]) fun _ _ _ _ _ _=>len3 fun _ _ _=>rfl;have F14 := fun_mk (st := s__law_cut) l14 c14 k14;have b14 := F14.binds (ps := ["_law_masks_here", "_law_pool"]) fun _ _ _ _ _ _=>len2 fun _ _=>rfl;have F15 := fun_mk (st := s__law_few) l15 c15 k15;have b15 := F15.binds (ps := ["_law_mask"]) fun _ _ _ _ _ _=>len1 fun _=>rfl;have F16 := fun_mk (st := s_law) l16 c16 k16;have b16 := F16.binds (ps := ["_law_script"]) fun _ _ _ _ _ _=>len1 fun _=>rfl
 let ff : Str -> Addr := fun x=>(([(("cuts" : Str),f0),(("met_by" : Str),f1),(("has_one_within" : Str),f2),(("bits_of" : Str),f3),(("sets_of" : Str),f4),(("_law_mix" : Str),f5),(("_law_names" : Str),f6),(("_law_least" : Str),f7),(("_law_set" : Str),f8),(("_law_bits" : Str),f9),(("_law_masks" : Str),f10),(("_law_mask_of" : Str),f11),(("_law_hits" : Str),f12),(("_law_no_less" : Str),f13),(("_law_cut" : Str),f14),(("_law_few" : Str),f15),(("law" : Str),fa)] : List (Str × Addr)).lookup x).getD 0
 have hc : GCon w K mg ff GG.G := ⟨PySem.W.mg_of X G a9,PySem.W.mg_of X G a14,PySem.W.mg_of X G a15,PySem.W.mg_of X G a12,PySem.W.mg_of X G a7,PySem.W.mg_of X G a11,PySem.W.mg_of X G a10,PySem.W.mg_of X G a5,PySem.W.mg_of X G a6,PySem.W.mg_of X G a13,PySem.W.mg_of X G a8,PySem.W.mg_none_of X G u_all,PySem.W.mg_none_of X G u_any,PySem.W.mg_of X G a3,PySem.W.mg_of X G a0,PySem.W.mg_none_of X G u_enumerate,PySem.W.mg_of X G a2,PySem.W.mg_none_of X G u_isinstance,PySem.W.mg_none_of X G u_len,PySem.W.mg_none_of X G u_list,PySem.W.mg_of X G a1,PySem.W.mg_none_of X G u_range,PySem.W.mg_of X G a4,PySem.W.mg_none_of X G u_sorted,PySem.W.mg_none_of X G u_str,PySem.W.mg_none_of X G u_sum,PySem.W.mg_none_of X G u_tuple,True.intro⟩;have hT : StandAll K GG ff T := ⟨⟨_,_,_,F0,b0,ok_cuts⟩,⟨_,_,_,F1,b1,ok_met_by⟩,⟨_,_,_,F2,b2,ok_has_one_within⟩,⟨_,_,_,F3,b3,ok_bits_of⟩,⟨_,_,_,F4,b4,ok_sets_of⟩,⟨_,_,_,F5,b5,ok__law_mix⟩,⟨_,_,_,F6,b6,ok__law_names⟩,⟨_,_,_,F7,b7,ok__law_least⟩,⟨_,_,_,F8,b8,ok__law_set⟩,⟨_,_,_,F9,b9,ok__law_bits⟩,⟨_,_,_,F10,b10,ok__law_masks⟩,⟨_,_,_,F11,b11,ok__law_mask_of⟩,⟨_,_,_,F12,b12,ok__law_hits⟩,⟨_,_,_,F13,b13,ok__law_no_less⟩,⟨_,_,_,F14,b14,ok__law_cut⟩,⟨_,_,_,F15,b15,ok__law_few⟩,⟨_,_,_,F16,b16,ok_law⟩,True.intro⟩;have hI : StandAllI K mg GG TT.I := True.intro;have hC : ClsAll K ff TT.cl := True.intro;have h0 : ∀ c,c ∈ GG.mk0 -> MkV0 K mg c := fun _ h=>nomatch h;have h1 : ∀ c,c ∈ GG.iso -> IsV K mg TT.cl c := fun _ h=>nomatch h;refine ⟨_,fun s v=>.of_eq (by exact rfl : bindArgs (PySem.W.fnOf "law" "law" (defArgs s_law) (defBody s_law) (defScope s_law) .none kV16 dc16 pm16 an16 cd16 ct16) ⟨[v],[]⟩ = _),fun base _ _=>?_⟩
 have x1 : XtOk K mg (fun c x=>TT.xt.lookup (c,x)) := xt_nil;have x2 : XisOk K mg (fun c x=>TT.xi.lookup (c,x)) := xi_nil;have x3 : ∀ c,c ∈ GG.xcs -> ∃ Cc,mg c = some (.ref Cc) /\ RzCls K Cc := fun _ h=>nomatch h;have x4 : ∀ n,n ∈ GG.xns -> ∃ cv,ClsV mg n cv := fun _ h=>nomatch h;exact fnok_law (d := d_law) ⟨hc,ok_g,hT,hI,h0,ok_mk,h1,hC,ok_mt,x1,x2,x3,x4⟩ k F16 rfl ok_law rfl
def hitB (f : Nat) (a : List Nat) : Bool := a.any fun i=>f.testBit i
def sb (f g : Nat) : Bool := decide (f &&& g = f)
def met (F a : List Nat) : List Nat :=
 F.filter (fun f=>hitB f a) ++ ((F.filter fun f=>!hitB f a).flatMap fun f=>a.map fun i=>f ||| 2 ^ i).filter fun g=>!(F.filter fun f=>hitB f a).any fun o=>sb o g
theorem sb_iff {f g : Nat} : sb f g = true ↔ ∀ i,f.testBit i = true -> g.testBit i = true := by
 unfold sb;rw [decide_eq_true_eq];constructor
 . intro h i hi;rw [<- h,Nat.testBit_and,Bool.and_eq_true] at hi;exact hi.2
 . intro h;apply Nat.eq_of_testBit_eq;intro i;rw [Nat.testBit_and];cases e : f.testBit i with
   | false=>rfl
   | true=>rw [h i e];rfl
theorem hit_iff {f : Nat} {a : List Nat} : hitB f a = true ↔ ∃ i ∈ a,f.testBit i = true := by unfold hitB;rw [List.any_eq_true]
theorem bit_or {f b i : Nat} : (f ||| 2 ^ b).testBit i = true ↔ f.testBit i = true \/ i = b := by rw [Nat.testBit_or,Bool.or_eq_true,Nat.testBit_two_pow,decide_eq_true_eq];exact or_congr_right eq_comm
structure Bg (F : List Nat) (As : List (List Nat)) : Prop where
 hit : ∀ f ∈ F,∀ a ∈ As,∃ i ∈ a,f.testBit i = true
 priv : ∀ f ∈ F,∀ i,f.testBit i = true -> ∃ a ∈ As,i ∈ a /\ ∀ j ∈ a,f.testBit j = true -> j = i
 comp : ∀ S : Nat -> Prop,(∀ a ∈ As,∃ i ∈ a,S i) -> ∃ f ∈ F,∀ i,f.testBit i = true -> S i
 nd : F.Nodup
theorem bg0 : Bg [0] [] := by
 refine ⟨fun f _ a h=>(by cases h),fun f hf i h=>?_,fun S _=>⟨0,by simp,fun i h=>?_⟩,by simp⟩
 . rw [List.mem_singleton.mp hf,Nat.zero_testBit] at h;cases h
 . rw [Nat.zero_testBit] at h;cases h
theorem mem_met {F a : List Nat} {g : Nat} : g ∈ met F a ↔ (g ∈ F /\ hitB g a = true) \/ ((∃ f ∈ F,hitB f a = false /\ ∃ b ∈ a,g = f ||| 2 ^ b) /\ ∀ o ∈ F,hitB o a = true -> sb o g = false) := by
 unfold met;simp only [List.mem_append,List.mem_filter,List.mem_flatMap,List.mem_map,Bool.not_eq_true',List.any_eq_false,Bool.not_eq_true];refine or_congr Iff.rfl (and_congr ?_ ?_)
 . constructor
   . rintro ⟨f,⟨h1,h2⟩,b,h3,rfl⟩;exact ⟨f,h1,h2,b,h3,rfl⟩
   . rintro ⟨f,h1,h2,b,h3,rfl⟩;exact ⟨f,⟨h1,h2⟩,b,h3,rfl⟩
 . constructor
   . intro h o h1 h2;exact h o ⟨h1,h2⟩
   . intro h o h1;exact h o h1.1 h1.2
theorem bg_step {F : List Nat} {As : List (List Nat)} {a : List Nat} (B : Bg F As) (hn : a.Nodup) : Bg (met F a) (As ++ [a]) := by
 have noF : ∀ {f : Nat},hitB f a = false -> ∀ i ∈ a,f.testBit i = false := fun {f} h i hi=>by
  cases e : f.testBit i with
  | false=>rfl
  | true=>rw [hit_iff.mpr ⟨i,hi,e⟩] at h;cases h
 refine ⟨fun g hg x hx=>?_,fun g hg c hc=>?_,fun S hS=>?_,?_⟩
 . rcases mem_met.mp hg with ⟨h1,h2⟩ | ⟨⟨f,h1,h2,b,h3,rfl⟩,_⟩
   . rcases List.mem_append.mp hx with hx | hx
     . exact B.hit g h1 x hx
     . rw [List.mem_singleton.mp hx];exact hit_iff.mp h2
   . rcases List.mem_append.mp hx with hx | hx
     . obtain ⟨i,h4,h5⟩ := B.hit f h1 x hx;exact ⟨i,h4,bit_or.mpr (.inl h5)⟩
     . rw [List.mem_singleton.mp hx];exact ⟨b,h3,bit_or.mpr (.inr rfl)⟩
 . rcases mem_met.mp hg with ⟨h1,h2⟩ | ⟨⟨f,h1,h2,b,h3,rfl⟩,hex⟩
   . obtain ⟨x,hx,p⟩ := B.priv g h1 c hc;exact ⟨x,List.mem_append_left _ hx,p⟩
   . rcases bit_or.mp hc with hc | hc
     . apply Classical.byContradiction;intro hno;obtain ⟨f',hf',sub⟩ := B.comp (fun i=>(f ||| 2 ^ b).testBit i = true /\ i ≠ c) fun x hx=>by
         obtain ⟨i,hi,e⟩ := B.hit f h1 x hx;by_cases eic : i = c
         . subst eic;apply Classical.byContradiction;intro hn2;refine hno ⟨x,List.mem_append_left _ hx,hi,fun j hj ej=>?_⟩;apply Classical.byContradiction;intro hji;exact hn2 ⟨j,hj,ej,hji⟩
         . exact ⟨i,hi,bit_or.mpr (.inl e),eic⟩
       cases eb : f'.testBit b with
       | true=>have := hex f' hf' (hit_iff.mpr ⟨b,h3,eb⟩);rw [sb_iff.mpr fun i hi=>(sub i hi).1] at this;cases this
       | false =>
        obtain ⟨x,hx,_,p⟩ := B.priv f h1 c hc;obtain ⟨i,hi,e⟩ := B.hit f' hf' x hx;obtain ⟨s1,s2⟩ := sub i e;rcases bit_or.mp s1 with s1 | s1
        . exact s2 (p i hi s1)
        . rw [s1,eb] at e;cases e
     . subst hc;refine ⟨a,List.mem_append_right _ (by simp),h3,fun j hj ej=>?_⟩
       rcases bit_or.mp ej with ej | ej
       . rw [noF h2 j hj] at ej;cases ej
       . exact ej
 . obtain ⟨f,hf,sub⟩ := B.comp S fun x hx=>hS x (List.mem_append_left _ hx);obtain ⟨b,hb,sbb⟩ := hS a (List.mem_append_right _ (by simp))
   cases eh : hitB f a with
   | true=>exact ⟨f,mem_met.mpr (.inl ⟨hf,eh⟩),sub⟩
   | false =>
    by_cases hex : ∃ o ∈ F,hitB o a = true /\ sb o (f ||| 2 ^ b) = true
    . obtain ⟨o,h1,h2,h3⟩ := hex;refine ⟨o,mem_met.mpr (.inl ⟨h1,h2⟩),fun i hi=>?_⟩;rcases bit_or.mp (sb_iff.mp h3 i hi) with h | h
      . exact sub i h
      . rw [h];exact sbb
    . refine ⟨f ||| 2 ^ b,mem_met.mpr (.inr ⟨⟨f,hf,eh,b,hb,rfl⟩,fun o h1 h2=>?_⟩),fun i hi=>?_⟩
      . cases e : sb o (f ||| 2 ^ b) with
        | false=>rfl
        | true=>exact absurd ⟨o,h1,h2,e⟩ hex
      . rcases bit_or.mp hi with h | h
        . exact sub i h
        . rw [h];exact sbb
 . unfold met;rw [List.nodup_append];refine ⟨B.nd.sublist List.filter_sublist,List.Nodup.sublist List.filter_sublist ?_,fun x hx y hy e=>?_⟩
   . show List.Pairwise (· ≠ ·) _;rw [List.pairwise_flatMap];refine ⟨fun f hf=>?_,List.Pairwise.imp_of_mem (fun {f f'} h1 h2 ne x hx y hy e=>?_) (B.nd.sublist List.filter_sublist)⟩
     . have nf := noF (by simpa using (List.mem_filter.mp hf).2)
       rw [List.pairwise_map];refine List.Pairwise.imp_of_mem (fun {i j} hi hj ne e=>?_) hn;have : (f ||| 2 ^ j).testBit i = true := by rw [<- e];exact bit_or.mpr (.inr rfl)
       rcases bit_or.mp this with h | h
       . rw [nf i hi] at h;cases h
       . exact ne h
     . obtain ⟨i,hi,rfl⟩ := List.mem_map.mp hx;obtain ⟨j,hj,rfl⟩ := List.mem_map.mp hy;have nf := noF (f := f) (by simpa using (List.mem_filter.mp h1).2)
       have nf' := noF (f := f') (by simpa using (List.mem_filter.mp h2).2)
       have eij : i = j := by
        have : (f' ||| 2 ^ j).testBit i = true := by rw [<- e];exact bit_or.mpr (.inr rfl)
        rcases bit_or.mp this with h | h
        . rw [nf' i hi] at h;cases h
        . exact h
       subst eij;apply ne;apply Nat.eq_of_testBit_eq;intro l;by_cases hl : l = i
       . subst hl;rw [nf l hi,nf' l hi]
       . have q : (f ||| 2 ^ i).testBit l = (f' ||| 2 ^ i).testBit l := by rw [e]
         rw [Bool.eq_iff_iff,bit_or,bit_or] at q;rw [Bool.eq_iff_iff];constructor
         . intro h;exact (q.mp (.inl h)).resolve_right hl
         . intro h;exact (q.mpr (.inl h)).resolve_right hl
   . subst e;have h1 := List.mem_filter.mp hx;have h2 := (List.mem_filter.mp hy).2;simp only [Bool.not_eq_true',List.any_eq_false,List.mem_filter] at h2;exact h2 x h1 (sb_iff.mpr fun i hi=>hi)
def metAll (As : List (List Nat)) : List Nat := As.foldl met [0]
theorem bg_all : ∀ (As Bs : List (List Nat)) (F : List Nat),Bg F Bs -> (∀ a ∈ As,a.Nodup) -> Bg (As.foldl met F) (Bs ++ As)
 | [],Bs,F,B,_=>by simpa using B
 | a :: As,Bs,F,B,h=>by have := bg_all As (Bs ++ [a]) (met F a) (bg_step B (h a mcs)) fun x hx=>h x (mcm hx);simpa using this
theorem bg_fin {As : List (List Nat)} (h : ∀ a ∈ As,a.Nodup) : Bg (metAll As) As := by have := bg_all As [] [0] bg0 h;rw [List.nil_append] at this;exact this
theorem Bg.anti {F : List Nat} {As : List (List Nat)} (B : Bg F As) {f g : Nat} (hf : f ∈ F) (hg : g ∈ F) (h : ∀ i,f.testBit i = true -> g.testBit i = true) : f = g := by apply Nat.eq_of_testBit_eq;intro i;rw [Bool.eq_iff_iff];refine ⟨h i,fun e=>?_⟩;obtain ⟨a,ha,_,p⟩ := B.priv g hg i e;obtain ⟨j,hj,ej⟩ := B.hit f hf a ha;rw [<- p j hj (h j ej)];exact ej
theorem Bg.below {F : List Nat} {As : List (List Nat)} (B : Bg F As) {n : Nat} (hb : ∀ a ∈ As,∀ i ∈ a,i < n) {f : Nat} (hf : f ∈ F) {i : Nat} (h : f.testBit i = true) : i < n := by obtain ⟨a,ha,hi,_⟩ := B.priv f hf i h;exact hb a ha i hi
theorem met_len : ∀ (F a : List Nat) (n : Nat),1 <= n -> a.length <= n -> (met F a).length <= F.length * n := fun F a n h1 ha=>by
 have e : ∀ (F : List Nat) , (F.filter fun f=>hitB f a).length + ((F.filter fun f=>!hitB f a).flatMap fun f=>a.map fun i=>f ||| 2 ^ i).length <= F.length * n := by
  intro F
  induction F with
  | nil=>simp
  | cons f F ih =>
   cases eh : hitB f a with
   | true=>simp only [List.filter_cons,eh,if_true,Bool.not_true,Bool.false_eq_true,if_false,List.length_cons,Nat.add_mul];omega
   | false=>simp only [List.filter_cons,eh,if_true,Bool.not_false,Bool.false_eq_true,if_false,List.flatMap_cons,List.length_append,List.length_map,List.length_cons,Nat.add_mul];omega
 unfold met;rw [List.length_append];refine Nat.le_trans (Nat.add_le_add_left (List.length_filter_le _ _) _) (e F)
theorem band (a b : Nat) : Builtin.bitAnd (a : Int) (b : Int) = ((a &&& b : Nat) : Int) := by rw [PyProof.Rows.bitAnd_pp (by omega) (by omega)];rfl
theorem bor (a b : Nat) : Builtin.bitOr (a : Int) (b : Int) = ((a ||| b : Nat) : Int) := by
 have n : ∀ z : Nat,¬ (0 : Int) <= Builtin.bitNot (z : Int) := fun z=>by unfold Builtin.bitNot;omega
 have nn : ∀ z : Nat,Builtin.bitNot (Builtin.bitNot (z : Int)) = z := fun z=>by unfold Builtin.bitNot;omega
 unfold Builtin.bitOr;rw [PyProof.Rows.bitAnd_nn (n a) (n b),nn,nn,nn,Int.toNat_natCast,Int.toNat_natCast]
theorem callG {n : Nat} {Φ : List D -> Res} {xs : List (Md × D)} {ds : List D} {m : Md} {d : D} (hm : m ≠ .bo) (hl : ds.length = n) (ha : allFz xs = some ds) (h : Φ ds = .ok m d) : callF n Φ (.ok xs) = .ok m d := by
 unfold callF;simp only [ResL.thn_ok,ha,hl,if_true,h];cases m with
 | bo=>exact absurd rfl hm
 | _=>rfl
theorem forS_any {α : Type} {enc : α -> D} {k : D -> Rho -> Option Rho} {body : Rho -> SRes} {p : α -> Bool} {m : Md} {r : D} (I : Rho -> Prop) : ∀ (xs : List α) (ρ : Rho),(∀ x ∈ xs,∀ ρ,I ρ -> ∃ ρ1,k (enc x) ρ = some ρ1 /\ ((p x = true /\ body ρ1 = .rt m r) \/ (p x = false /\ ∃ ρ2,body ρ1 = .nx ρ2 /\ I ρ2))) -> I ρ -> (xs.any p = true /\ forS k body (xs.map enc) ρ = .rt m r) \/ (xs.any p = false /\ ∃ ρ',forS k body (xs.map enc) ρ = .nx ρ' /\ I ρ')
 | [],ρ,_,h=>.inr ⟨rfl,ρ,rfl,h⟩
 | x :: xs,ρ,hs,h=>by
  obtain ⟨ρ1,e1,h1⟩ := hs x mcs ρ h;rcases h1 with ⟨px,e2⟩ | ⟨px,ρ2,e2,h2⟩
  . refine .inl ⟨by rw [List.any_cons,px];rfl,?_⟩
    rw [List.map_cons];unfold forS;rw [e1];dsimp only;rw [e2]
  . have ih := forS_any I xs ρ2 (fun y hy=>hs y (mcm hy)) h2;rw [List.any_cons,px,Bool.false_or,List.map_cons];unfold forS;rw [e1];dsimp only;rw [e2];exact ih
theorem compL_fm {α : Type} {enc : α -> D} {p : α -> Bool} {g : α -> D} {k : D -> Rho -> Option Rho} {t e : Rho -> Res} {ρ0 : Rho} : ∀ {xs : List α},(∀ x ∈ xs,∃ ρ1 m,k (enc x) ρ0 = some ρ1 /\ t ρ1 = .ok m (.bl (p x)) /\ (p x = true -> ∃ m',frzR (e ρ1) = .ok m' (g x))) -> compL k t e ρ0 (xs.map enc) = some ((xs.filter p).map g)
 | [],_=>rfl
 | x :: xs,h=>by
  obtain ⟨ρ1,m,e1,e2,e3⟩ := h x mcs;have ih := compL_fm fun y hy=>h y (mcm hy);rw [List.map_cons];unfold compL;rw [e1];dsimp only;rw [e2];cases q : p x with
  | true=>obtain ⟨m',e3⟩ := e3 q;simp [e3,ih,List.filter_cons,q]
  | false=>simp [ih,List.filter_cons,q]
theorem compR_fm {α : Type} {enc : α -> D} (p : α -> Bool) (g : α -> D) {ρ : Rho} {caps : List Nat} {n : Nat} {k : D -> Rho -> Option Rho} {t e : Rho -> Res} {m : Md} {xs : List α} (hl : xs.length < sizeLine) (h : ∀ x ∈ xs,∃ ρ1 m,k (enc x) (subR caps ρ ++ List.replicate n none) = some ρ1 /\ t ρ1 = .ok m (.bl (p x)) /\ (p x = true -> ∃ m',frzR (e ρ1) = .ok m' (g x))) : compR (.ok m (.lst (xs.map enc))) ρ caps n k t e = .ok .fr (.lst ((xs.filter p).map g)) := by unfold compR;rw [Res.thn_ok];dsimp only;rw [if_pos (by simpa using hl),compL_fm h]
theorem compR_m {α : Type} {enc : α -> D} (g : α -> D) {ρ : Rho} {caps : List Nat} {n : Nat} {k : D -> Rho -> Option Rho} {t e : Rho -> Res} {m : Md} {xs : List α} (hl : xs.length < sizeLine) (h : ∀ x ∈ xs,∃ ρ1 m,k (enc x) (subR caps ρ ++ List.replicate n none) = some ρ1 /\ t ρ1 = .ok m (.bl true) /\ ∃ m',frzR (e ρ1) = .ok m' (g x)) : compR (.ok m (.lst (xs.map enc))) ρ caps n k t e = .ok .fr (.lst (xs.map g)) := by
 have := compR_fm (enc := enc) (fun _=>true) g (ρ := ρ) (caps := caps) (n := n) (k := k) (t := t) (e := e) (m := m) hl fun x hx=>by obtain ⟨ρ1,m,e1,e2,e3⟩ := h x hx;exact ⟨ρ1,m,e1,e2,fun _=>e3⟩
 rw [this,List.filter_eq_self.mpr fun _ _=>rfl]
theorem comp2L_fm {α β : Type} {enc : α -> D} {enc2 : β -> D} {p : α -> Bool} {ys : α -> List β} {g : α -> β -> D} {i j : Nat} {t gi2 e : Rho -> Res} {ρ0 : Rho} : ∀ {xs : List α},(∀ x ∈ xs,∃ m,t (ρ0.set i (some (false,enc x))) = .ok m (.bl (p x)) /\ (p x = true -> (∃ m',gi2 (ρ0.set i (some (false,enc x))) = .ok m' (.lst ((ys x).map enc2))) /\ ∀ y ∈ ys x,∃ m',frzR (e ((ρ0.set i (some (false,enc x))).set j (some (false,enc2 y)))) = .ok m' (g x y))) -> comp2L i j t gi2 e ρ0 (xs.map enc) = some ((xs.filter p).flatMap fun x=>(ys x).map (g x))
 | [],_=>rfl
 | x :: xs,h=>by
  obtain ⟨m,e1,e2⟩ := h x mcs;have ih := comp2L_fm fun y hy=>h y (mcm hy);rw [List.map_cons];unfold comp2L;rw [e1];cases q : p x with
  | false=>simp [ih,List.filter_cons,q]
  | true =>
   obtain ⟨⟨m',e3⟩,e4⟩ := e2 q;dsimp only;rw [e3];dsimp only;have : compL (setD j) yesR e (ρ0.set i (some (false,enc x))) ((ys x).map enc2) = some ((ys x).map (g x)) := by have := compL_fm (enc := enc2) (p := fun _=>true) (g := g x) (k := setD j) (t := yesR) (e := e) (ρ0 := ρ0.set i (some (false,enc x))) (xs := ys x) fun y hy=>⟨_,.fz,rfl,rfl,fun _=>e4 y hy⟩;rw [this,List.filter_eq_self.mpr fun _ _=>rfl]
   rw [this];simp [ih,List.filter_cons,q]
abbrev iD (f : Nat) : D := .int (f : Int)
abbrev iN (F : List Nat) : List D := F.map iD
def whole (a : List Nat) : Nat := (a.map fun i=>2 ^ i).sum
theorem whole_dvd : ∀ {a : List Nat} {i : Nat},(∀ j ∈ a,i < j) -> ∃ q,whole a = 2 ^ (i + 1) * q
 | [],_,_=>⟨0,rfl⟩
 | j :: a,i,h=>by obtain ⟨q,e⟩ := whole_dvd (a := a) (i := i) fun x hx=>h x (mcm hx);have hj : i + 1 <= j := h j mcs;refine ⟨2 ^ (j - (i + 1)) + q,?_⟩;show 2 ^ j + whole a = _;rw [e,Nat.mul_add,<- Nat.pow_add,Nat.add_sub_cancel' hj]
theorem whole_bit : ∀ {a : List Nat},a.Pairwise (· < ·) -> ∀ j,(whole a).testBit j = true ↔ j ∈ a
 | [],_,j=>by show (0 : Nat).testBit j = true ↔ _;simp
 | i :: a,h,j=>by
  rw [List.pairwise_cons] at h;obtain ⟨q,e⟩ := whole_dvd h.1;have e1 : whole (i :: a) = whole a ||| 2 ^ i := by show 2 ^ i + whole a = _;rw [e,Nat.add_comm];exact Nat.two_pow_add_eq_or_of_lt (Nat.pow_lt_pow_right (by decide) (Nat.lt_succ_self i)) q
  rw [e1,bit_or,whole_bit h.2,List.mem_cons];exact or_comm
theorem and_whole {a : List Nat} (h : a.Pairwise (· < ·)) (f : Nat) : (f &&& whole a != 0) = hitB f a := by
 rw [Bool.eq_iff_iff,hit_iff,bne_iff_ne];constructor
 . intro hn;obtain ⟨i,hi⟩ := Nat.exists_testBit_of_ne_zero hn;rw [Nat.testBit_and,Bool.and_eq_true] at hi;exact ⟨i,(whole_bit h i).mp hi.2,hi.1⟩
 . rintro ⟨i,hi,e⟩ hz;have : (f &&& whole a).testBit i = true := by rw [Nat.testBit_and,e,(whole_bit h i).mpr hi];rfl
   rw [hz,Nat.zero_testBit] at this;cases this
theorem sum_or {m : Md} : ∀ (ns : List Int),CallD.or' sumD sumI [(m,.lst (ns.map .int))] = some (.fz,.int ns.sum)
 | []=>rfl
 | [n]=>by show some (Md.fz,D.int n) = _;simp
 | n :: n' :: ns=>by show (sumI [(m,.lst ((n :: n' :: ns).map .int))]) = _;show (inD ((n :: n' :: ns).map .int)).map (fun ns=>(Md.fz,D.int ns.sum)) = _;rw [inD_map];rfl
theorem cast_sum : ∀ (ns : List Nat),(ns.map fun n : Nat=>(n : Int)).sum = ((ns.sum : Nat) : Int)
 | []=>rfl
 | n :: ns=>by simp [cast_sum ns]
theorem sum_nat {m : Md} (ns : List Nat) : CallD.or' sumD sumI [(m,.lst (iN ns))] = some (.fz,.int (ns.sum : Nat)) := by have := sum_or (m := m) (ns.map fun n : Nat=>(n : Int));rw [List.map_map,cast_sum] at this;exact this
theorem within (k : Nat) (g : Nat) (F : List Nat) : (WT TT (k + 1)).Φ "has_one_within" [.int g,.lst (iN F)] = .ok .fz (.bl (F.any fun o=>sb o g)) := by
 rw [u_has_one_within];refine phi_ok rfl ?_;show evB _ b_has_one_within [some (false,.int g),some (false,.lst (iN F)),none] = _;have key := forS_any (enc := iD) (k := setG (.nm 2)) (body := evB (WT TT k) b_has_one_within_L1) (p := fun o=>sb o g) (m := .fz) (r := .bl true) (fun ρ=>∃ x,ρ = [some (false,.int g),some (false,.lst (iN F)),x]) F [some (false,.int g),some (false,.lst (iN F)),none] (fun o ho ρ hI=>by
  obtain ⟨x,rfl⟩ := hI;refine ⟨[some (false,.int g),some (false,.lst (iN F)),some (false,iD o)],by simp,?_⟩
  have e : (Builtin.bitAnd (o : Int) (g : Int) == (o : Int)) = sb o g := by rw [band,Bool.eq_iff_iff];unfold sb;simp;omega
  generalize iN F = L;cases q : sb o g with
  | true=>exact .inl ⟨rfl,by simp [b_has_one_within_L1,iD,e,q]⟩
  | false=>exact .inr ⟨rfl,_,by simp [b_has_one_within_L1,iD,e,q];rfl,_,rfl⟩) ⟨none,rfl⟩
 have er : ∀ ρ,forR (.ok .fz (.lst (iN F))) ρ (setG (.nm 2)) (evB (WT TT k) b_has_one_within_L1) = forS (setG (.nm 2)) (evB (WT TT k) b_has_one_within_L1) (iN F) ρ := fun ρ=>rfl;rcases key with ⟨a,e⟩ | ⟨a,ρ',e,x,rfl⟩
 . rw [a];have e : forS (setG (.nm 2)) (evB (WT TT k) b_has_one_within_L1) (iN F) [some (false,.int g),some (false,.lst (iN F)),none] = .rt .fz (.bl true) := e;generalize iN F = L at *;simp [b_has_one_within,er,e]
 . rw [a];have e : forS (setG (.nm 2)) (evB (WT TT k) b_has_one_within_L1) (iN F) [some (false,.int g),some (false,.lst (iN F)),none] = .nx [some (false,.int g),some (false,.lst (iN F)),x] := e;generalize iN F = L at *;simp [b_has_one_within,er,e]
def bitsL (a : List Nat) : List Nat := a.map fun i=>2 ^ i
theorem cast_ne {n : Nat} : ((n : Int) != 0) = (n != 0) := by rw [Bool.eq_iff_iff];simp
theorem cast_eq0 {n : Nat} : ((n : Int) == 0) = !(n != 0) := by rw [Bool.eq_iff_iff];simp
theorem len64 {a : List Nat} (ha : a.length <= 64) : ∀ l : List Nat,(l.flatMap fun f=>a.map fun i=>f ||| 2 ^ i).length <= l.length * 64
 | []=>by simp
 | x :: l=>by have := len64 ha l;simp only [List.flatMap_cons,List.length_append,List.length_map,List.length_cons];omega
theorem metby (k : Nat) {F a : List Nat} (h : a.Pairwise (· < ·)) (hF : F.length <= 5000) (ha : a.length <= 64) : (WT TT (k + 2)).Φ "met_by" [.lst (iN F),.lst (iN (bitsL a))] = .ok .fr (.lst (iN (met F a))) := by
 rw [u_met_by];refine phi_ok rfl ?_;show evB _ b_met_by [some (false,.lst (iN F)),some (false,.lst (iN (bitsL a))),none,none,none] = _;have zl : sizeLine = 16777216 := sizeLine_eq;have e0 : CallD.or' sumD sumI [(.fz,.lst (iN (bitsL a)))] = some (.fz,.int (whole a : Nat)) := sum_nat (bitsL a);have e1 : compR (.ok .fz (.lst (iN F))) [some (false,.lst (iN F)),some (false,.lst (iN (bitsL a))),some (false,.int (whole a)),none,none] [2] 1 (setG (.nm 1)) (fun ρ=>evF (WT TT (k + 1)) [(.cmp .NotEq (.bin .BitAnd (.var 1) (.var 0)) (.int 0))] ρ) (fun ρ=>evE (WT TT (k + 1)) (.var 1) ρ) = .ok .fr (.lst (iN (F.filter fun f=>hitB f a))) := by
  refine compR_fm (enc := iD) (fun f=>hitB f a) iD (by omega) fun f hf=>⟨[some (false,.int (whole a)),some (false,iD f)],.fz,by simp [subR],?_,fun _=>⟨.fz,by simp [iD]⟩⟩
  simp [iD,band,cast_ne,and_whole h]
 have e2 : comp2R (.ok .fz (.lst (iN F))) [some (false, .lst (iN F)), some (false, .lst (iN (bitsL a))), some (false, .int (whole a)), some (false, .lst (iN (F.filter fun f => hitB f a))), none] [2, 1] (fun ρ => evF (WT TT (k + 1)) [(.cmp .Eq (.bin .BitAnd (.var 2) (.var 0)) (.int 0))] ρ) (fun ρ => evE (WT TT (k + 1)) (.items (.var 1)) ρ) (fun ρ => evE (WT TT (k + 1)) (.bin .BitOr (.var 2) (.var 3)) ρ)
     = .ok .fr (.lst (iN ((F.filter fun f=>!hitB f a).flatMap fun f=>a.map fun i=>f ||| 2 ^ i))) := by
  have c : comp2L 2 3 (fun ρ => evF (WT TT (k + 1)) [(.cmp .Eq (.bin .BitAnd (.var 2) (.var 0)) (.int 0))] ρ) (fun ρ => evE (WT TT (k + 1)) (.items (.var 1)) ρ) (fun ρ => evE (WT TT (k + 1)) (.bin .BitOr (.var 2) (.var 3)) ρ) [some (false, .int (whole a)), some (false, .lst (iN (bitsL a))), none, none] (iN F)
      = some ((F.filter fun f=>!hitB f a).flatMap fun f=>(bitsL a).map fun b=>iD (f ||| b)) := by
   refine comp2L_fm (enc := iD) (enc2 := iD) (p := fun f=>!hitB f a) (ys := fun _=>bitsL a) (g := fun f b=>iD (f ||| b)) fun f hf=>⟨.fz,?_,fun _=>⟨⟨.fz,?_⟩,fun b hb=>⟨.fz,?_⟩⟩⟩
   . simp [iD,band,cast_eq0,and_whole h]
   . simp
   . simp [iD,bor]
  have el : ((F.filter fun f=>!hitB f a).flatMap fun f=>(bitsL a).map fun b=>iD (f ||| b)) = iN ((F.filter fun f=>!hitB f a).flatMap fun f=>a.map fun i=>f ||| 2 ^ i) := by unfold iN bitsL;rw [List.map_flatMap];simp only [List.map_map];rfl
  have ln : (iN ((F.filter fun f=>!hitB f a).flatMap fun f=>a.map fun i=>f ||| 2 ^ i)).length <= sizeLine := by rw [List.length_map];have t1 := len64 ha (F.filter fun f=>!hitB f a);have t2 := List.length_filter_le (fun f=>!hitB f a) F;omega
  unfold comp2R;rw [Res.thn_ok];show (match comp2L 2 3 _ _ _ [some (false,.int (whole a)),some (false,.lst (iN (bitsL a))),none,none] (iN F) with | some ys=>if ys.length <= sizeLine then Res.ok .fr (.lst ys) else .stuck | none=>.stuck) = _
  rw [c,el];dsimp only;rw [if_pos ln]
 generalize hM : (F.filter fun f=>hitB f a) = M at *;generalize hG : ((F.filter fun f=>!hitB f a).flatMap fun f=>a.map fun i=>f ||| 2 ^ i) = G at *;have hG3 : G.length <= 5000 * 64 := by rw [<- hG];have t1 := len64 ha (F.filter fun f=>!hitB f a);have t2 := List.length_filter_le (fun f=>!hitB f a) F;omega
 have hGl : G.length < sizeLine := by omega
 have hMl : M.length <= 5000 := by rw [<- hM];exact Nat.le_trans (List.length_filter_le _ _) hF
 have e3 : compR (.ok .fz (.lst (iN G))) [some (false,.lst (iN F)),some (false,.lst (iN (bitsL a))),some (false,.int (whole a)),some (false,.lst (iN M)),some (false,.lst (iN G))] [3] 1 (setG (.nm 1)) (fun ρ=>evF (WT TT (k + 1)) [(.not (.tru (.call "has_one_within" 2 [(.var 1),(.var 0)])))] ρ) (fun ρ=>evE (WT TT (k + 1)) (.var 1) ρ) = .ok .fr (.lst (iN (G.filter fun g=>!M.any fun o=>sb o g))) := by
  refine compR_fm (enc := iD) (fun g=>!M.any fun o=>sb o g) iD hGl fun g hg=>⟨[some (false,.lst (iN M)),some (false,iD g)],.fz,by simp [subR],?_,fun _=>⟨.fz,by simp [iD]⟩⟩
  have w := call2 (within k g M);generalize iN M = L at *;simp [iD,w]
 have em : met F a = M ++ G.filter fun g=>!M.any fun o=>sb o g := by unfold met;rw [hM,hG]
 have l2 : (iN M).length + (iN (G.filter fun g=>!M.any fun o=>sb o g)).length <= sizeLine := by rw [List.length_map,List.length_map];have t1 := List.length_filter_le (fun g=>!M.any fun o=>sb o g) G;omega
 rw [em,show iN (M ++ G.filter fun g=>!M.any fun o=>sb o g) = iN M ++ iN (G.filter fun g=>!M.any fun o=>sb o g) from List.map_append]
 generalize iN (G.filter fun g=>!M.any fun o=>sb o g) = Z at *;generalize iN G = GG at *;generalize iN M = MM at *;generalize iN F = FF at *;generalize iN (bitsL a) = BB at *;unfold b_met_by;simp at e1 e2 e3;simp [e0,e1,e2,e3,l2]
def sel : List Str -> Nat -> List Str
 | [],_=>[]
 | x :: L,m=>if m.testBit 0 = true then x :: sel L (m / 2) else sel L (m / 2)
theorem sel_cons {x : Str} {L : List Str} {m : Nat} : sel (x :: L) m = if m.testBit 0 = true then x :: sel L (m / 2) else sel L (m / 2) := rfl
theorem half_bit {m i : Nat} : (m / 2).testBit i = m.testBit (i + 1) := by rw [Nat.testBit_succ]
theorem sel_mem {x : Str} : ∀ {L : List Str} {m : Nat},x ∈ sel L m ↔ ∃ i,L[i]? = some x /\ m.testBit i = true
 | [],m=>by simp [sel]
 | y :: L,m=>by
  have ih := sel_mem (x := x) (L := L) (m := m / 2);have step : (∃ i,(y :: L)[i]? = some x /\ m.testBit i = true) ↔ (y = x /\ m.testBit 0 = true) \/ ∃ i,L[i]? = some x /\ (m / 2).testBit i = true := by
   constructor
   . rintro ⟨i,h1,h2⟩;cases i with
     | zero=>exact .inl ⟨by simpa using h1,h2⟩
     | succ i=>exact .inr ⟨i,by simpa using h1,by rw [half_bit];exact h2⟩
   . rintro (⟨h1,h2⟩ | ⟨i,h1,h2⟩)
     . exact ⟨0,by simpa using h1,h2⟩
     . exact ⟨i + 1,by simpa using h1,by rw [<- half_bit];exact h2⟩
  rw [step,<- ih,sel_cons];split
  . rename_i h;rw [List.mem_cons];constructor
    . rintro (h1 | h1)
      . exact .inl ⟨h1.symm,h⟩
      . exact .inr h1
    . rintro (⟨h1,_⟩ | h1)
      . exact .inl h1.symm
      . exact .inr h1
  . rename_i h;constructor
    . exact .inr
    . rintro (⟨_,h1⟩ | h1)
      . exact absurd h1 h
      . exact h1
theorem sel_sub : ∀ {L : List Str} {m : Nat},(sel L m).Sublist L
 | [],_=>.slnil
 | x :: L,m=>by
  rw [sel_cons];split
  . exact sel_sub.cons₂ x
  . exact sel_sub.cons x
def kvs : Nat -> List Str -> List (Key × D)
 | _,[]=>[]
 | i,x :: L=>(.inr x,iD (2 ^ i)) :: kvs (i + 1) L
theorem kvs_len : ∀ {i : Nat} {L : List Str},(kvs i L).length = L.length
 | _,[]=>rfl
 | i,x :: L=>by simp [kvs,kvs_len]
theorem kvs_app : ∀ {i : Nat} {L : List Str} {x : Str},kvs i (L ++ [x]) = kvs i L ++ [(.inr x,iD (2 ^ (i + L.length)))]
 | i,[],x=>rfl
 | i,y :: L,x=>by show (Sum.inr y,iD (2 ^ i)) :: kvs (i + 1) (L ++ [x]) = _;rw [kvs_app];show _ = (Sum.inr y,iD (2 ^ i)) :: (kvs (i + 1) L ++ _);rw [show i + 1 + L.length = i + (y :: L).length by simp;omega]
theorem kvs_keys : ∀ {i : Nat} {L : List Str} {kv : Key × D},kv ∈ kvs i L -> ∃ x ∈ L,kv.1 = .inr x
 | _,[],kv,h=>by cases h
 | i,y :: L,kv,h=>by
  rcases List.mem_cons.mp h with rfl | h
  . exact ⟨y,mcs,rfl⟩
  . obtain ⟨x,hx,e⟩ := kvs_keys h;exact ⟨x,mcm hx,e⟩
theorem kvs_get : ∀ {i : Nat} {L : List Str} {x : Str},x ∈ L -> getK (kvs i L) (.inr x) = some (iD (2 ^ (i + L.idxOf x)))
 | i,y :: L,x,h=>by
  by_cases e : y = x
  . subst e;simp [kvs,getK,List.find?_cons]
  . have hx : x ∈ L := (List.mem_cons.mp h).resolve_left fun z=>e z.symm;have ih := kvs_get (i := i + 1) hx;have e1 : getK (kvs i (y :: L)) (.inr x) = getK (kvs (i + 1) L) (.inr x) := by simp [kvs,getK,List.find?_cons,e]
    have e2 : (y :: L).idxOf x = L.idxOf x + 1 := by rw [List.idxOf_cons,beq_eq_false_iff_ne.mpr e];rfl
    rw [e1,ih,e2,show i + 1 + L.idxOf x = i + (L.idxOf x + 1) by omega]
theorem put_new {M : List (Key × D)} {k : Key} {d : D} (h : ∀ kv ∈ M,kv.1 ≠ k) : putD M k d = M ++ [(k,d)] := by unfold putD;rw [if_neg];simp only [List.any_eq_true,decide_eq_true_eq,not_exists,not_and];exact fun kv hkv=>h kv hkv
def okS (x : Str) : Prop := x.length <= sizeLine /\ PyData.strOk x = true
theorem and_bit {i m : Nat} : (2 ^ i &&& m = 0) ↔ m.testBit i = false := by
 constructor
 . intro h;cases e : m.testBit i with
   | false=>rfl
   | true =>
    have : (2 ^ i &&& m).testBit i = true := by rw [Nat.testBit_and,e,Nat.testBit_two_pow_self];rfl
    rw [h,Nat.zero_testBit] at this;cases this
 . intro h;apply Nat.eq_of_testBit_eq;intro j;rw [Nat.testBit_and,Nat.zero_testBit,Nat.testBit_two_pow];by_cases e : i = j
   . subst e;rw [h];simp
   . simp [e]
theorem selD_run {U : List Str} (hn : U.Nodup) (ok : ∀ x ∈ U,okS x) (m : Nat) : ∀ (L : List Str) (i : Nat),(∀ x ∈ L,x ∈ U) -> (∀ j x,L[j]? = some x -> U.idxOf x = i + j) -> selD (kvs 0 U) m (kvs i L) = some ((sel L (m / 2 ^ i)).map .str)
 | [],i,_,_=>rfl
 | x :: L,i,hU,hi=>by
  have hx : x ∈ U := hU x mcs;have hix : U.idxOf x = i := by have := hi 0 x rfl;simpa using this
  have ih := selD_run hn ok m L (i + 1) (fun y hy=>hU y (mcm hy)) fun j y hj=>by
   have := hi (j + 1) y (by simpa using hj)
   omega
  have kk : keyK (.inr x) = true := by show (decide (x.length <= sizeLine) && PyData.strOk x) = true;rw [decide_eq_true (ok x hx).1,(ok x hx).2];rfl
  show selD (kvs 0 U) m ((.inr x,iD (2 ^ i)) :: kvs (i + 1) L) = _;unfold selD;rw [kvs_get hx,hix,Nat.zero_add];dsimp only;rw [if_pos kk,ih];have b : Builtin.bitAnd ((2 ^ i : Nat) : Int) (m : Int) = 0 ↔ m.testBit i = false := by rw [band,<- and_bit];omega
  have t0 : (m / 2 ^ i).testBit 0 = m.testBit i := by rw [Nat.testBit_div_two_pow];simp
  have t1 : m / 2 ^ i / 2 = m / 2 ^ (i + 1) := by rw [Nat.div_div_eq_div_mul,Nat.pow_succ]
  rw [sel_cons,t0,t1];cases e : m.testBit i with
  | true =>
   have : ¬ Builtin.bitAnd ((2 ^ i : Nat) : Int) (m : Int) = 0 := fun z=>by rw [b,e] at z;cases z
   simp only [Option.map_some,if_neg this,if_true,List.map_cons];rfl
  | false=>have : Builtin.bitAnd ((2 ^ i : Nat) : Int) (m : Int) = 0 := b.mpr e;simp only [Option.map_some,if_pos this,Bool.false_eq_true,if_false]
theorem selR_run {U : List Str} (hn : U.Nodup) (ok : ∀ x ∈ U,okS x) (hl : U.length <= 64) (m : Nat) : selR [some (false,.dct (kvs 0 U)),some (false,.int m)] 0 1 = .ok .fr (.lst ((sel U m).map .str)) := by
 have := selD_run hn ok m U 0 (fun _ h=>h) fun j x h=>by obtain ⟨h1,h2⟩ := List.getElem?_eq_some_iff.mp h;rw [<- h2,hn.idxOf_getElem];omega
 show (if (kvs 0 U).length < sizeLine then (match selD (kvs 0 U) m (kvs 0 U) with | some ys=>Res.ok .fr (.lst ys) | none=>.stuck) else .stuck) = _
 rw [if_pos (by rw [kvs_len,sizeLine_eq];omega),this]
 simp
theorem forS_at {α : Type} {enc : α -> D} {k : D -> Rho -> Option Rho} {body : Rho -> SRes} (I : List α -> Rho -> Prop) (all : List α) (hs : ∀ pre x post,all = pre ++ x :: post -> ∀ ρ,I pre ρ -> ∃ ρ1 ρ2,k (enc x) ρ = some ρ1 /\ body ρ1 = .nx ρ2 /\ I (pre ++ [x]) ρ2) : ∀ (xs pre : List α) (ρ : Rho),all = pre ++ xs -> I pre ρ -> ∃ ρ',forS k body (xs.map enc) ρ = .nx ρ' /\ I all ρ'
 | [],pre,ρ,e,h=>⟨ρ,rfl,by rw [e,List.append_nil];exact h⟩
 | x :: xs,pre,ρ,e,h=>by
  obtain ⟨ρ1,ρ2,e1,e2,h2⟩ := hs pre x xs e ρ h;obtain ⟨ρ',e3,h3⟩ := forS_at I all hs xs (pre ++ [x]) ρ2 (by rw [e];simp) h2
  refine ⟨ρ',?_,h3⟩;rw [List.map_cons];unfold forS;rw [e1];dsimp only;rw [e2];exact e3
theorem str_app (NS : List (List Str)) : (NS.flatMap fun A=>A.map D.str) = NS.flatten.map .str := by
 induction NS with
 | nil=>rfl
 | cons A NS ih=>simp [ih]
theorem txD_strs (ns : List Str) : txD (ns.map .str) = some ns := by
 induction ns with
 | nil=>rfl
 | cons x ns ih=>show (txD (ns.map .str)).map (x :: ·) = _;rw [ih];rfl
def univ (NS : List (List Str)) : List Str := uni NS.flatten
theorem usc_run {W : WD} {ρ : Rho} (NS : List (List Str)) (h1 : NS.flatten.length < scanBound) (h2 : (univ NS).length < 64) : uscR (.ok .fz (.lst (NS.map encT))) ρ [] (fun ρ=>evF W [] ρ) (fun ρ=>evE W (.items (.var 0)) ρ) (fun ρ=>evE W (.var 1) ρ) = .ok .fr (.lst ((univ NS).map .str)) := by
 have c : comp2L 0 1 (fun ρ=>evF W [] ρ) (fun ρ=>evE W (.items (.var 0)) ρ) (fun ρ=>evE W (.var 1) ρ) [none,none] (NS.map encT) = some ((NS.filter fun _=>true).flatMap fun A=>A.map D.str) := by
  refine comp2L_fm (enc := encT) (enc2 := D.str) (p := fun _=>true) (ys := fun A=>A) (g := fun _ x=>.str x) fun A hA=>⟨.fz,by simp,fun _=>⟨⟨.fz,?_⟩,fun x hx=>⟨.fz,?_⟩⟩⟩
  . simp [encT]
  . simp [encT]
 rw [List.filter_eq_self.mpr fun _ _=>rfl,str_app] at c;unfold uscR;rw [Res.thn_ok];show (match comp2L 0 1 _ _ _ [none,none] (NS.map encT) with | some ys=>(match txD ys with | some ns=>if ns.length < scanBound /\ (uni ns).length < 64 then Res.ok .fr (.lst ((uni ns).map .str)) else .stuck | none=>.stuck) | none=>.stuck) = _
 rw [c];dsimp only;rw [txD_strs];dsimp only;rw [if_pos ⟨h1,h2⟩];rfl
theorem nodup_of_strict {L : List Str} (h : Strict L) : L.Nodup := h.imp fun {a b} h e=>by subst e;rw [lts_irr] at h;cases h
theorem bitsof (k : Nat) (NS : List (List Str)) (h1 : NS.flatten.length < scanBound) (h2 : (univ NS).length < 64) : (WT TT (k + 1)).Φ "bits_of" [.tup (NS.map encT)] = .ok .fr (.dct (kvs 0 (univ NS))) := by
 rw [u_bits_of];refine phi_ok rfl ?_;show evB _ b_bits_of [some (false,.tup (NS.map encT)),none,none,none] = _;have zl : sizeLine = 16777216 := sizeLine_eq;have eu := usc_run (W := WT TT k) (ρ := [some (false,.tup (NS.map encT)),some (true,.dct []),some (false,.int 1),none]) NS h1 h2;have nd : (univ NS).Nodup := nodup_of_strict (uni_strict _);generalize hT : D.tup (NS.map encT) = T at *;have key := forS_at (enc := D.str) (k := setG (.nm 3)) (body := evB (WT TT k) b_bits_of_L1) (fun pre ρ=>∃ x,ρ = [some (false,T),some (true,.dct (kvs 0 pre)),some (false,.int ((2 ^ pre.length : Nat) : Int)),x]) (univ NS) (fun pre x post e ρ hI=>by
  obtain ⟨y,rfl⟩ := hI;refine ⟨[some (false,T),some (true,.dct (kvs 0 pre)),some (false,.int ((2 ^ pre.length : Nat) : Int)),some (false,.str x)],[some (false,T),some (true,.dct (kvs 0 (pre ++ [x]))),some (false,.int ((2 ^ (pre ++ [x]).length : Nat) : Int)),some (false,.str x)],by simp,?_,_,rfl⟩
  have lp : pre.length < 64 := by have := congrArg List.length e;simp at this;omega
  have ep : putD (kvs 0 pre) (.inr x) (iD (2 ^ pre.length)) = kvs 0 (pre ++ [x]) := by rw [put_new fun kv hkv ek=>?_,kvs_app,Nat.zero_add];obtain ⟨z,hz,e2⟩ := kvs_keys hkv;rw [ek] at e2;cases e2;rw [e,List.nodup_append] at nd;exact nd.2.2 x hz x mcs rfl
  have ed : dputS [some (false,T),some (true,.dct (kvs 0 pre)),some (false,.int ((2 ^ pre.length : Nat) : Int)),some (false,.str x)] 1 (.ok .fz (.str x)) (.ok .fz (.int ((2 ^ pre.length : Nat) : Int))) = .nx [some (false,T),some (true,.dct (kvs 0 (pre ++ [x]))),some (false,.int ((2 ^ pre.length : Nat) : Int)),some (false,.str x)] := by show (if (kvs 0 pre).length < sizeLine then SRes.nx (List.set _ 1 (some (true,.dct (putD (kvs 0 pre) (.inr x) (iD (2 ^ pre.length)))))) else .stuck) = _;rw [if_pos (by rw [kvs_len];omega),ep];rfl
  have e2 : (2 : Int) * ((2 ^ pre.length : Nat) : Int) = ((2 ^ (pre ++ [x]).length : Nat) : Int) := by rw [List.length_append,List.length_singleton,Nat.pow_succ,Nat.mul_comm];rfl
  have em := x_mulL (i := 2) (j := ((2 ^ pre.length : Nat) : Int)) (m := .fz) (n := .fz) (by decide)
  rw [e2] at em;generalize ((2 ^ pre.length : Nat) : Int) = z at *;generalize kvs 0 (pre ++ [x]) = M' at *;generalize kvs 0 pre = M at *;simp [b_bits_of_L1,ed,em]) (univ NS) [] [some (false,T),some (true,.dct []),some (false,.int 1),none] rfl ⟨none,rfl⟩
 obtain ⟨ρ',e,x,rfl⟩ := key;have er : ∀ ρ,forR (.ok .fz (.lst ((univ NS).map D.str))) ρ (setG (.nm 3)) (evB (WT TT k) b_bits_of_L1) = forS (setG (.nm 3)) (evB (WT TT k) b_bits_of_L1) ((univ NS).map D.str) ρ := fun ρ=>rfl;have ei : itemsR (.ok .fz T) = .ok .fz (.lst (NS.map encT)) := by rw [<- hT];rfl
 generalize (univ NS).map D.str = UU at *;generalize kvs 0 (univ NS) = M at *;generalize NS.map encT = NN at *;simp at eu;simp [b_bits_of,ei,eu,er,e,retS]
theorem callR1 {Φ : List D -> Res} {a d : D} (h : Φ [a] = .ok .fr d) : callF 1 Φ (.ok [(.fz,a)]) = .ok .fr d := callG (xs := [(.fz,a)]) (ds := [a]) (by decide) rfl rfl h
theorem callR2 {Φ : List D -> Res} {a b d : D} (h : Φ [a,b] = .ok .fr d) : callF 2 Φ (.ok [(.fz,a),(.fz,b)]) = .ok .fr d := callG (xs := [(.fz,a),(.fz,b)]) (ds := [a,b]) (by decide) rfl rfl h
theorem srt_run {m : Md} {ts : List (List Str)} (h : srtOk ts = true) : CallD.or' srtD srtTD [(m,.lst (ts.map encT))] = some (.fr,.lst ((uniT ts).map encT)) := by
 cases ts with
 | nil=>rfl
 | cons t ts =>
  have e : srtTD [(m,.lst ((t :: ts).map encT))] = some (.fr,.lst ((uniT (t :: ts)).map encT)) := by
   show (match ttD ((t :: ts).map encT) with | some ts=>if srtOk ts = true then some (Md.fr,D.lst ((uniT ts).map encT)) else none | none=>none) = _
   rw [ttD_enc];dsimp only;rw [if_pos h]
  exact e
theorem setsof (k : Nat) {U : List Str} (nd : U.Nodup) (ok : ∀ x ∈ U,okS x) (hl : U.length <= 64) {F : List Nat} (hF : F.length < sizeLine) (hs : srtOk (F.map (sel U)) = true) : (WT TT (k + 1)).Φ "sets_of" [.lst (iN F),.dct (kvs 0 U)] = .ok .fz (.tup ((uniT (F.map (sel U))).map encT)) := by
 rw [u_sets_of];refine phi_ok rfl ?_;show evB _ b_sets_of [some (false,.lst (iN F)),some (false,.dct (kvs 0 U))] = _;have e1 : compR (.ok .fz (.lst (iN F))) [some (false,.lst (iN F)),some (false,.dct (kvs 0 U))] [1] 1 (setG (.nm 1)) (fun ρ=>evF (WT TT k) [] ρ) (fun ρ=>evE (WT TT k) (.tcall .tuple [(.sel [0,1] 0 1 0 1)]) ρ) = .ok .fr (.lst ((F.map (sel U)).map encT)) := by
  rw [List.map_map];refine compR_m (enc := iD) (fun f=>encT (sel U f)) hF fun f hf=>⟨[some (false,.dct (kvs 0 U)),some (false,iD f)],.fz,by simp [subR],by simp,.fz,?_⟩
  have e := selR_run nd ok hl f;generalize kvs 0 U = M at *;simp [iD,e,encT]
 have e2 := srt_run (m := .fr) hs;generalize (F.map (sel U)).map encT = ZZ at *;generalize (uniT (F.map (sel U))).map encT = YY at *;generalize kvs 0 U = M at *;generalize iN F = FF at *;simp at e1;simp [b_sets_of,e1,e2]
theorem idx_lt {U : List Str} (h : Strict U) {x y : Str} (hx : x ∈ U) (hy : y ∈ U) (e : lts x y = true) : U.idxOf x < U.idxOf y := by
 have h1 := List.idxOf_lt_length_iff.mpr hx;have h2 := List.idxOf_lt_length_iff.mpr hy;have e1 : U[U.idxOf x] = x := List.getElem_idxOf h1;have e2 : U[U.idxOf y] = y := List.getElem_idxOf h2;by_cases hl : U.idxOf x < U.idxOf y
 . exact hl
 . exfalso;by_cases he : U.idxOf y = U.idxOf x
   . have : y = x := by rw [<- e2,<- e1];simp [he]
     subst this;rw [lts_irr] at e;cases e
   . have := List.pairwise_iff_getElem.mp h (U.idxOf y) (U.idxOf x) h2 h1 (by omega)
     rw [e1,e2] at this;have := lts_trans e this;rw [lts_irr] at this;cases this
def ixs (U A : List Str) : List Nat := A.map fun x=>U.idxOf x
theorem ixs_asc {U A : List Str} (h : Strict U) (hA : Strict A) (hs : ∀ x ∈ A,x ∈ U) : (ixs U A).Pairwise (· < ·) := by unfold ixs;rw [List.pairwise_map];exact List.Pairwise.imp_of_mem (fun {a b} ha hb r=>idx_lt h (hs a ha) (hs b hb) r) hA
theorem getK_dix {M : List (Key × D)} {w : Str} {d : D} (h : getK M (.inr w) = some d) {m m' : Md} : op2 ixK (.ok m (.dct M)) (.ok m' (.str w)) = .ok .fz d := op2_of (by
 show (getK M (.inr w)).map (fun d=>(Md.fz,d)) = _;rw [h];rfl)
structure Note (NS : List (List Str)) : Prop where
 str : ∀ A ∈ NS,Strict A
 ok : ∀ A ∈ NS,∀ x ∈ A,okS x
 len : ∀ A ∈ NS,A.length <= 12
 fl : NS.flatten.length < scanBound
 un : (univ NS).length < 64
theorem in_univ {NS : List (List Str)} {A : List Str} (hA : A ∈ NS) {x : Str} (hx : x ∈ A) : x ∈ univ NS := uni_mem.mpr (List.mem_flatten.mpr ⟨A,hA,hx⟩)
def mF (NS pre : List (List Str)) : List Nat := metAll (pre.map (ixs (univ NS)))
theorem mF_snoc {NS pre : List (List Str)} {A : List Str} : mF NS (pre ++ [A]) = met (mF NS pre) (ixs (univ NS) A) := by unfold mF metAll;rw [List.map_append,List.foldl_append];rfl
theorem cutsV (k : Nat) {NS : List (List Str)} (N : Note NS) (hb : ∀ pre post,NS = pre ++ post -> (mF NS pre).length <= 5000) (hs : srtOk ((mF NS NS).map (sel (univ NS))) = true) : (WT TT (k + 3)).Φ "cuts" [.tup (NS.map encT)] = .ok .fz (.tup ((uniT ((mF NS NS).map (sel (univ NS)))).map encT)) := by
 rw [u_cuts];refine phi_ok rfl ?_;show evB _ b_cuts [some (false,.tup (NS.map encT)),none,none,none] = _;have zl : sizeLine = 16777216 := sizeLine_eq;have nd : (univ NS).Nodup := nodup_of_strict (uni_strict _);have oku : ∀ x ∈ univ NS,okS x := fun x hx=>by obtain ⟨A,hA,hx⟩ := List.mem_flatten.mp (uni_mem.mp hx);exact N.ok A hA x hx
 have e1 : callF 1 ((WT TT (k + 2)).Φ "bits_of") (.ok [(.fz,.tup (NS.map encT))]) = _ := callR1 (bitsof (k + 1) NS N.fl N.un);have e3 : callF 2 ((WT TT (k + 2)).Φ "sets_of") (.ok [(.fz,.lst (iN (mF NS NS))),(.fz,.dct (kvs 0 (univ NS)))]) = _ := call2 (setsof (k + 1) nd oku (Nat.le_of_lt N.un) (by have := hb NS [] (by simp);omega) hs)
 generalize hT : D.tup (NS.map encT) = T at *;generalize hM : D.dct (kvs 0 (univ NS)) = M at *;have key := forS_at (enc := encT) (k := setG (.nm 3)) (body := evB (WT TT (k + 2)) b_cuts_L1) (fun pre ρ=>∃ x,ρ = [some (false,T),some (false,M),some (false,.lst (iN (mF NS pre))),x]) NS (fun pre A post e ρ hI=>by
  obtain ⟨y,rfl⟩ := hI;have hA : A ∈ NS := by rw [e];simp
  refine ⟨[some (false,T),some (false,M),some (false,.lst (iN (mF NS pre))),some (false,encT A)],[some (false,T),some (false,M),some (false,.lst (iN (mF NS (pre ++ [A])))),some (false,encT A)],by simp,?_,_,rfl⟩
  have c : compR (.ok .fz (.lst (A.map D.str))) [some (false,T),some (false,M),some (false,.lst (iN (mF NS pre))),some (false,encT A)] [1] 1 (setG (.nm 1)) (fun ρ=>evF (WT TT (k + 2)) [] ρ) (fun ρ=>evE (WT TT (k + 2)) (.dix (.var 0) (.var 1)) ρ) = .ok .fr (.lst (iN (bitsL (ixs (univ NS) A)))) := by
   have el : iN (bitsL (ixs (univ NS) A)) = A.map fun x=>iD (2 ^ ((univ NS).idxOf x)) := by unfold iN bitsL ixs;rw [List.map_map,List.map_map];rfl
   rw [el];refine compR_m (enc := D.str) _ (by have := N.len A hA;omega) fun x hx=>⟨[some (false,M),some (false,.str x)],.fz,by simp [subR],by simp,.fz,?_⟩
   have g := getK_dix (m := .fz) (m' := .fz) (kvs_get (i := 0) (in_univ hA hx));rw [Nat.zero_add] at g;rw [<- hM];simp [g]
  have asc : (ixs (univ NS) A).Pairwise (· < ·) := ixs_asc (uni_strict _) (N.str A hA) fun x hx=>in_univ hA hx;have m := callR2 (metby k asc (hb pre (A :: post) e) (by unfold ixs;rw [List.length_map];have := N.len A hA;omega))
  rw [<- mF_snoc] at m;have ei : itemsR (.ok .fz (encT A)) = .ok .fz (.lst (A.map D.str)) := rfl;generalize iN (bitsL (ixs (univ NS) A)) = BB at *;generalize iN (mF NS (pre ++ [A])) = G' at *;generalize iN (mF NS pre) = G at *;generalize A.map D.str = AA at *;generalize encT A = EA at *;simp at c;simp [b_cuts_L1,ei,c,m]) NS [] [some (false,T),some (false,M),some (false,.lst [.int 0]),none] rfl ⟨none,rfl⟩
 obtain ⟨ρ',e,x,rfl⟩ := key;have er : ∀ ρ,forR (.ok .fz (.lst (NS.map encT))) ρ (setG (.nm 3)) (evB (WT TT (k + 2)) b_cuts_L1) = forS (setG (.nm 3)) (evB (WT TT (k + 2)) b_cuts_L1) (NS.map encT) ρ := fun ρ=>rfl;have ei : itemsR (.ok .fz T) = .ok .fz (.lst (NS.map encT)) := by rw [<- hT];rfl
 generalize NS.map encT = NN at *;generalize iN (mF NS NS) = FF at *;generalize (uniT ((mF NS NS).map (sel (univ NS)))).map encT = YY at *;have el : lstR (.ok [(.fz,.int 0)]) = .ok .fr (.lst [.int 0]) := rfl;simp [b_cuts,e1,ei,er,e,e3,el]
def ten60 : Int := 1000000000000000000000000000000000000000000000000000000000000
theorem pow60 : op2 (fBin .Pow) (.ok .fz (.int 10)) (.ok .fz (.int 60)) = .ok .fz (.int ten60) := by rfl
theorem z60 : (0 : Int) < ten60 := by decide
def mx (c p : Int) : Int := ((c % ten60 + 1) * (48271 + 130 * p) % 2147483647) * ((c % ten60 + 1) * (48271 + 130 * p) % 2147483647) % 2147483629
theorem mx0 (c p : Int) : 0 <= mx c p := Int.emod_nonneg _ (by decide)
theorem mix (k : Nat) {c p : Int} (h0 : 0 <= p) (h1 : p <= 100) : (WT TT (k + 1)).Φ "_law_mix" [.int c,.int p] = .ok .fz (.int (mx c p)) := by
 have hm := Int.emod_nonneg c (show ten60 ≠ 0 by decide)
 have hM := Int.emod_lt_of_pos c (show 0 < ten60 by decide)
 have b1 : bits (c % ten60 + 1) = true := bits_le (N := 1000000000000000000000000000000000000000000000000000000000001) (by unfold ten60 at *;omega)
 have b2 : bits (48271 + 130 * p) = true := bits_le (N := 1000000) (by omega)
 have b3 : bits p = true := bits_le (N := 100) (by omega)
 have b4 : bits 130 = true := by decide +kernel
 have f0 := Int.emod_nonneg ((c % ten60 + 1) * (48271 + 130 * p)) (show (2147483647 : Int) ≠ 0 by decide)
 have f1 := Int.emod_lt_of_pos ((c % ten60 + 1) * (48271 + 130 * p)) (show (0 : Int) < 2147483647 by decide)
 have b5 : bits ((c % ten60 + 1) * (48271 + 130 * p) % 2147483647) = true := bits_le (N := 2147483647) (by omega)
 rw [u__law_mix];refine phi_ok rfl ?_;show evB _ b__law_mix [some (false,.int c),some (false,.int p),none] = _;simp [b__law_mix,pow60,x_mul,b1,b2,b3,b4,b5,z60,mx]
theorem Mx (k : Nat) {c p : Int} (h0 : 0 <= p) (h1 : p <= 100) : callF 2 ((WT TT (k + 1)).Φ "_law_mix") (.ok [(.fz,.int c),(.fz,.int p)]) = .ok .fz (.int (mx c p)) := call2 (mix k h0 h1)
theorem shr_nat (m j : Nat) : (m : Int) / 2 ^ ((j : Int).toNat) = ((m / 2 ^ j : Nat) : Int) := by rw [Int.toNat_natCast];simp
theorem and_one (m j : Nat) : ((m / 2 ^ j) &&& 1 : Nat) = (m.testBit j).toNat := by rw [Nat.and_one_is_mod,Nat.testBit_eq_decide_div_mod_eq];rcases Nat.mod_two_eq_zero_or_one (m / 2 ^ j) with h | h <;> rw [h] <;> rfl
theorem shr_bit (m j : Nat) : (Builtin.bitAnd ((m : Int) / 2 ^ ((j : Int).toNat)) 1 == 1) = m.testBit j := by
 rw [shr_nat];have := band (m / 2 ^ j) 1;rw [show ((1 : Nat) : Int) = 1 from rfl] at this
 rw [this,and_one];cases m.testBit j <;> rfl
theorem enum_zip : ∀ (L : List Str) (i : Nat),enumD i (L.map D.str) = (L.zipIdx i).map fun p=>.tup [.int (p.2 : Int),.str p.1]
 | [],i=>rfl
 | x :: L,i=>by rw [List.map_cons,List.zipIdx_cons,List.map_cons];show _ :: enumD (i + 1) (L.map D.str) = _;rw [enum_zip]
theorem sel_zip (m : Nat) : ∀ (L : List Str) (i : Nat),((L.zipIdx i).filter fun p=>m.testBit p.2).map (fun p=>D.str p.1) = (sel L (m / 2 ^ i)).map .str
 | [],i=>rfl
 | x :: L,i=>by
  have ih := sel_zip m L (i + 1);have t0 : (m / 2 ^ i).testBit 0 = m.testBit i := by rw [Nat.testBit_div_two_pow];simp
  have t1 : m / 2 ^ i / 2 = m / 2 ^ (i + 1) := by rw [Nat.div_div_eq_div_mul,Nat.pow_succ]
  rw [List.zipIdx_cons,List.filter_cons,sel_cons,t0,t1];cases e : m.testBit i with
  | true=>simp only [if_true,List.map_cons,ih]
  | false=>simp only [Bool.false_eq_true,if_false,ih]
abbrev lx (P : List Str) : D := .lst (P.map .str)
theorem lawset (k : Nat) (m : Nat) {P : List Str} (hP : P.length <= 64) : (WT TT (k + 1)).Φ "_law_set" [.int m,lx P] = .ok .fz (encT (sel P m)) := by
 rw [u__law_set];refine phi_ok rfl ?_;show evB _ b__law_set [some (false,.int m),some (false,lx P)] = _;have zl : sizeLine = 16777216 := sizeLine_eq;have en : enumR (.ok [(.fz,lx P)]) = .ok .fz (.lst (enumD 0 (P.map .str))) := rfl;have ec : compR (.ok .fz (.lst (enumD 0 (P.map .str)))) [some (false,.int m),some (false,lx P)] [0] 2 (setG (.tp [.nm 1,.nm 2])) (fun ρ=>evF (WT TT k) [(.cmp .Eq (.bin .BitAnd (.bin .RShift (.var 0) (.var 1)) (.int 1)) (.int 1))] ρ) (fun ρ=>evE (WT TT k) (.var 2) ρ) = .ok .fr (.lst ((sel P m).map .str)) := by
  have := sel_zip m P 0;rw [Nat.pow_zero,Nat.div_one] at this;rw [<- this,enum_zip];refine compR_fm (enc := fun p : Str × Nat=>D.tup [.int (p.2 : Int),.str p.1]) (fun p=>m.testBit p.2) (fun p=>.str p.1) (by simp;omega) fun p hp=>⟨[some (false,.int m),some (false,.int (p.2 : Int)),some (false,.str p.1)],.fz,by simp [subR],?_,fun _=>⟨.fz,by simp⟩⟩
  have b := shr_bit m p.2;have b0 : (0 : Int) <= (p.2 : Int) := by omega
  generalize (p.2 : Int) = z at *;simp [b0,b]
 generalize enumD 0 (P.map .str) = Z at *;generalize lx P = L at *;simp at ec;simp [b__law_set,en,ec,encT]
def hitA (m : Nat) (M : List Nat) : Bool := M.all fun o=>m &&& o != 0
theorem bls_map {α : Type} {f : α -> Bool} : ∀ (xs : List α),blsD (xs.map fun x=>.bl (f x)) = some (xs.map f)
 | []=>rfl
 | x :: xs=>by show (blsD (xs.map _)).map _ = _;rw [bls_map];rfl
theorem all_run {α : Type} {f : α -> Bool} {m : Md} (xs : List α) : allD [(m,.lst (xs.map fun x=>.bl (f x)))] = some (.fz,.bl (xs.all f)) := by show (blsD _).map _ = _;rw [bls_map];simp [Function.comp_def]
theorem any_run {α : Type} {f : α -> Bool} {m : Md} (xs : List α) : anyD [(m,.lst (xs.map fun x=>.bl (f x)))] = some (.fz,.bl (xs.any f)) := by show (blsD _).map _ = _;rw [bls_map];simp [Function.comp_def]
theorem hits (k : Nat) (m : Nat) {M : List Nat} (hM : M.length <= 100) : (WT TT (k + 1)).Φ "_law_hits" [.int m,.lst (iN M)] = .ok .fz (.bl (hitA m M)) := by
 rw [u__law_hits];refine phi_ok rfl ?_;show evB _ b__law_hits [some (false,.int m),some (false,.lst (iN M))] = _;have zl : sizeLine = 16777216 := sizeLine_eq;have ec : compR (.ok .fz (.lst (iN M))) [some (false,.int m),some (false,.lst (iN M))] [0] 1 (setG (.nm 1)) (fun ρ=>evF (WT TT k) [] ρ) (fun ρ=>evE (WT TT k) (.cmp .NotEq (.bin .BitAnd (.var 0) (.var 1)) (.int 0)) ρ) = .ok .fr (.lst (M.map fun o=>.bl (m &&& o != 0))) := by
  refine compR_m (enc := iD) _ (by omega) fun o ho=>⟨[some (false,.int m),some (false,iD o)],.fz,by simp [subR],by simp,.fz,?_⟩
  simp [iD,band,cast_ne]
 have ea := all_run (f := fun o=>m &&& o != 0) (m := .fr) M;unfold hitA;generalize (M.map fun o=>D.bl (m &&& o != 0)) = Z at *;generalize iN M = L at *;simp at ec;simp [b__law_hits,ec,ea]
theorem range_iN (n : Nat) : rangeD 0 (n : Int) = iN (List.range n) := by unfold rangeD iN;rw [Int.sub_zero,Int.toNat_natCast];exact List.map_congr_left fun i _=>by show D.int (0 + (i : Int)) = _;rw [Int.zero_add]
theorem rng_run {n : Nat} (h : n <= 1000) : rng1R (.ok [(.fz,.int (n : Int))]) = .ok .fz (.lst (iN (List.range n))) := by unfold rng1R;rw [ResL.thn_ok];dsimp only;rw [if_pos,range_iN];simp only [Bool.and_eq_true,decide_eq_true_eq];omega
theorem shl_nat (j : Nat) : (1 : Int) * 2 ^ ((j : Int).toNat) = ((2 ^ j : Nat) : Int) := by rw [Int.toNat_natCast];simp
theorem shl_run (j : Nat) (h : j <= 100) {m n : Md} : op2 (fBin .LShift) (.ok m (.int 1)) (.ok n (.int (j : Int))) = .ok .fz (.int ((2 ^ j : Nat) : Int)) := by rw [x_shl (by omega) (by omega) (by decide),shl_nat]
theorem shr_bit' (m j : Nat) : (Builtin.bitAnd ((m : Int) / 2 ^ j) 1 == 1) = m.testBit j := by have := shr_bit m j;rw [Int.toNat_natCast] at this;exact this
def lessB (m : Nat) (M : List Nat) (k : Nat) : Bool := m.testBit k && hitA (m - 2 ^ k) M
theorem noless (k : Nat) (m n : Nat) (hn : n <= 64) {M : List Nat} (hM : M.length <= 100) : (WT TT (k + 2)).Φ "_law_no_less" [.int m,.lst (iN M),.int n] = .ok .fz (.bl (!(List.range n).any (lessB m M))) := by
 rw [u__law_no_less];refine phi_ok rfl ?_;show evB _ b__law_no_less [some (false,.int m),some (false,.lst (iN M)),some (false,.int n),none] = _;generalize hL : D.lst (iN M) = L;have key := forS_any (enc := iD) (k := setG (.nm 3)) (body := evB (WT TT (k + 1)) b__law_no_less_L1) (p := lessB m M) (m := .fz) (r := .bl false) (fun ρ=>∃ x,ρ = [some (false,.int m),some (false,L),some (false,.int n),x]) (List.range n) [some (false,.int m),some (false,L),some (false,.int n),none] (fun j hj ρ hI=>by
  obtain ⟨x,rfl⟩ := hI;refine ⟨[some (false,.int m),some (false,L),some (false,.int n),some (false,iD j)],by simp,?_⟩
  have hj : j < n := List.mem_range.mp hj;have b := shr_bit' m j;have b0 : (0 : Int) <= (j : Int) := by omega
  have sh := shl_run j (by omega) (m := .fz) (n := .fz)
  cases eb : m.testBit j with
  | false =>
   refine .inr ⟨by unfold lessB;rw [eb];rfl,[some (false,.int m),some (false,L),some (false,.int n),some (false,iD j)],?_,some (false,iD j),rfl⟩
   rw [eb] at b;simp [b__law_no_less_L1,iD,b0,b]
  | true =>
   have hge := Nat.ge_two_pow_of_testBit eb;have es : (m : Int) - ((2 ^ j : Nat) : Int) = ((m - 2 ^ j : Nat) : Int) := by omega
   have hh := call2 (hits k (m - 2 ^ j) hM);rw [hL,<- es] at hh;rw [eb] at b;generalize ((2 ^ j : Nat) : Int) = y at *;cases eh : hitA (m - 2 ^ j) M with
   | true =>
    refine .inl ⟨by unfold lessB;rw [eb,eh];rfl,?_⟩
    rw [eh] at hh;simp [b__law_no_less_L1,iD,b0,b,sh,hh]
   | false =>
    refine .inr ⟨by unfold lessB;rw [eb,eh];rfl,[some (false,.int m),some (false,L),some (false,.int n),some (false,iD j)],?_,some (false,iD j),rfl⟩
    rw [eh] at hh;simp [b__law_no_less_L1,iD,b0,b,sh,hh]) ⟨none,rfl⟩
 have er := rng_run (n := n) (by omega)
 have ef : ∀ ρ,forR (.ok .fz (.lst (iN (List.range n)))) ρ (setG (.nm 3)) (evB (WT TT (k + 1)) b__law_no_less_L1) = forS (setG (.nm 3)) (evB (WT TT (k + 1)) b__law_no_less_L1) (iN (List.range n)) ρ := fun ρ=>rfl;rcases key with ⟨a,e⟩ | ⟨a,ρ',e,x,rfl⟩
 . have e : forS (setG (.nm 3)) (evB (WT TT (k + 1)) b__law_no_less_L1) (iN (List.range n)) [some (false,.int m),some (false,L),some (false,.int n),none] = .rt .fz (.bl false) := e;rw [a];generalize iN (List.range n) = R at *;simp [b__law_no_less,er,ef,e]
 . have e : forS (setG (.nm 3)) (evB (WT TT (k + 1)) b__law_no_less_L1) (iN (List.range n)) [some (false,.int m),some (false,L),some (false,.int n),none] = .nx [some (false,.int m),some (false,L),some (false,.int n),x] := e;rw [a];generalize iN (List.range n) = R at *;simp [b__law_no_less,er,ef,e]
def maskOf (P A : List Str) : Nat := A.foldl (fun m x=>m ||| 2 ^ P.idxOf x) 0
theorem mask_bit {P : List Str} : ∀ (A : List Str) (m j : Nat),(A.foldl (fun m x=>m ||| 2 ^ P.idxOf x) m).testBit j = true ↔ m.testBit j = true \/ ∃ x ∈ A,P.idxOf x = j
 | [],m,j=>by simp
 | x :: A,m,j=>by
  rw [List.foldl_cons,mask_bit A,bit_or];constructor
  . rintro ((h | h) | ⟨y,hy,e⟩)
    . exact .inl h
    . exact .inr ⟨x,mcs,h.symm⟩
    . exact .inr ⟨y,mcm hy,e⟩
  . rintro (h | ⟨y,hy,e⟩)
    . exact .inl (.inl h)
    . rcases List.mem_cons.mp hy with rfl | hy
      . exact .inl (.inr e.symm)
      . exact .inr ⟨y,hy,e⟩
theorem maskOf_bit {P A : List Str} {j : Nat} : (maskOf P A).testBit j = true ↔ ∃ x ∈ A,P.idxOf x = j := by unfold maskOf;rw [mask_bit,Nat.zero_testBit];simp
theorem sel_mask {P A : List Str} (hP : Strict P) (hA : Strict A) (hs : ∀ x ∈ A,x ∈ P) : sel P (maskOf P A) = A := by
 refine strict_ext (hP.sublist sel_sub) hA fun y=>?_;rw [sel_mem];constructor
 . rintro ⟨i,h1,h2⟩;obtain ⟨x,hx,e⟩ := maskOf_bit.mp h2;have h3 : P[P.idxOf x]? = some x := by rw [List.getElem?_eq_getElem (List.idxOf_lt_length_iff.mpr (hs x hx)),List.getElem_idxOf]
   rw [e,h1] at h3;cases h3;exact hx
 . intro hy;exact ⟨P.idxOf y,by rw [List.getElem?_eq_getElem (List.idxOf_lt_length_iff.mpr (hs y hy)),List.getElem_idxOf],maskOf_bit.mpr ⟨y,hy,rfl⟩⟩
theorem flat_strs : ∀ (l : List Str),(l.map D.str).all flatD = true
 | []=>rfl
 | x :: l=>by rw [List.map_cons,List.all_cons,flat_strs l];rfl
theorem notin_l {z : Str} {P : List Str} (h : z ∈ P) {m m' : Md} : op2 (fCmp .NotIn) (.ok m (.str z)) (.ok m' (lx P)) = .ok .fz (.bl false) := by
 refine op2_of ?_;have e1 : (P.map D.str).any (fun y=>eqD y (.str z)) = true := by rw [List.any_eq_true];exact ⟨.str z,List.mem_map.mpr ⟨z,h,rfl⟩,by show (z == z) = true;simp⟩
 have e2 : inSq true m (.str z) m' (lx P) = some (.fz,.bl false) := by show (if (flatD (.str z) && (P.map D.str).all flatD) = true then some (Md.fz,D.bl (if true = true then !((P.map D.str).any fun y=>eqD y (.str z)) else _)) else none) = _;rw [flat_strs,e1];rfl
 exact e2
theorem find_str {z : Str} : ∀ {P : List Str},z ∈ P -> (P.map D.str).findIdx? (fun y=>eqD y (.str z)) = some (P.idxOf z)
 | x :: P,h=>by
  rw [List.map_cons,List.findIdx?_cons,List.idxOf_cons];have : eqD (.str x) (.str z) = (x == z) := rfl;rw [this];by_cases e : x = z
  . subst e;simp
  . have hz : z ∈ P := (List.mem_cons.mp h).resolve_left fun q=>e q.symm;rw [beq_eq_false_iff_ne.mpr e,find_str hz];rfl
theorem lidx_run {z : Str} {P : List Str} (h : z ∈ P) {m m' : Md} : idxL (.ok m (lx P)) (.ok m' (.str z)) = .ok .fz (.int (P.idxOf z : Nat)) := by
 show (if (flatD (.str z) && (P.map D.str).all flatD) = true then (match (P.map D.str).findIdx? (fun y=>eqD y (.str z)) with | some j=>Res.ok .fz (.int (j : Nat)) | none=>.stuck) else .stuck) = _
 rw [flat_strs,find_str h];rfl
theorem py_strs : ∀ (l : List Str),toPyL (l.map D.str) = some (l.map PyData.str)
 | []=>rfl
 | x :: l=>by simp [toPyL,toPy,py_strs l]
theorem depth_strs : ∀ (l : List Str),PyData.depthAll (l.map PyData.str) = 0
 | []=>by simp [PyData.depthAll]
 | x :: l=>by simp [PyData.depthAll,PyData.depth,depth_strs l]
theorem eqv_strs : ∀ (l : List Str),PyData.eqvAll (l.map PyData.str) (l.map PyData.str) = true
 | []=>by simp [PyData.eqvAll]
 | x :: l=>by simp [PyData.eqvAll,PyData.eqv,eqv_strs l]
theorem ne_self {A : List Str} {m m' : Md} : op2 (fCmp .NotEq) (.ok m (encT A)) (.ok m' (encT A)) = .ok .fz (.bl false) := by
 refine op2_of ?_;have t : toPy (encT A) = some (.tuple (A.map PyData.str)) := by show (toPyL _).map _ = _;rw [py_strs];rfl
 have s : shal (.tuple (A.map PyData.str)) = true := by unfold shal;simp [PyData.depth,depth_strs]
 have e : eqF true m (encT A) m' (encT A) = some (.fz,.bl false) := by
  show (match toPy (encT A),toPy (encT A) with | some p,some q=>if (shal p && shal q) = true then some (Md.fz,D.bl (if true = true then !PyData.eqv p q else PyData.eqv p q)) else none | _,_=>none) = _
  rw [t];dsimp only;rw [s];have : PyData.eqv (.tuple (A.map PyData.str)) (.tuple (A.map PyData.str)) = true := by simp [PyData.eqv,eqv_strs]
  rw [this];rfl
 show (orO (eqF true) (eqK true)) m (encT A) m' (encT A) = _;unfold orO;rw [e];rfl
theorem maskof (k : Nat) {P A : List Str} (hP : Strict P) (hl : P.length <= 64) (hA : Strict A) (hs : ∀ x ∈ A,x ∈ P) : (WT TT (k + 2)).Φ "_law_mask_of" [encT A,lx P] = .ok .fz (.int (maskOf P A : Nat)) := by
 rw [u__law_mask_of];refine phi_ok rfl ?_;show evB _ b__law_mask_of [some (false,encT A),some (false,lx P),none,none] = _;have key := forS_at (enc := D.str) (k := setG (.nm 3)) (body := evB (WT TT (k + 1)) b__law_mask_of_L1) (fun pre ρ=>∃ x,ρ = [some (false,encT A),some (false,lx P),some (false,.int (maskOf P pre : Nat)),x]) A (fun pre x post e ρ hI=>by
  obtain ⟨y,rfl⟩ := hI;have hx : x ∈ P := hs x (by rw [e];simp)
  refine ⟨[some (false,encT A),some (false,lx P),some (false,.int (maskOf P pre : Nat)),some (false,.str x)],[some (false,encT A),some (false,lx P),some (false,.int (maskOf P (pre ++ [x]) : Nat)),some (false,.str x)],by simp,?_,_,rfl⟩
  have ei : isiD [(.fz,.str x),(.fz,.ty "str")] = some (.fz,.bl true) := rfl;have n1 := notin_l hx (m := .fz) (m' := .fz);have l1 := lidx_run hx (m := .fz) (m' := .fz);have hi : P.idxOf x < P.length := List.idxOf_lt_length_iff.mpr hx;have s1 := shl_run (P.idxOf x) (by omega) (m := .fz) (n := .fz)
  have em : maskOf P (pre ++ [x]) = maskOf P pre ||| 2 ^ P.idxOf x := by unfold maskOf;rw [List.foldl_append];rfl
  have b1 := bor (maskOf P pre) (2 ^ P.idxOf x);rw [<- em] at b1;generalize ((2 ^ P.idxOf x : Nat) : Int) = u at *;generalize ((P.idxOf x : Nat) : Int) = v at *;generalize lx P = L at *;generalize encT A = EA at *;simp [b__law_mask_of_L1,ei,Ty.id,n1,l1,s1,b1]) A [] [some (false,encT A),some (false,lx P),some (false,.int 0),none] rfl ⟨none,rfl⟩
 obtain ⟨ρ',e,x,rfl⟩ := key;have es : callF 2 ((WT TT (k + 1)).Φ "_law_set") (.ok [(.fz,.int (maskOf P A : Nat)),(.fz,lx P)]) = .ok .fz (encT A) := call2 (by rw [lawset k _ hl,sel_mask hP hA hs])
 have ne := ne_self (A := A) (m := .fz) (m' := .fz);have ei : isiD [(.fz,encT A),(.fz,.ty "tuple")] = some (.fz,.bl true) := rfl;have ef : ∀ ρ,forR (.ok .fz (.lst (A.map D.str))) ρ (setG (.nm 3)) (evB (WT TT (k + 1)) b__law_mask_of_L1) = forS (setG (.nm 3)) (evB (WT TT (k + 1)) b__law_mask_of_L1) (A.map D.str) ρ := fun ρ=>rfl;have eit : itemsR (.ok .fz (encT A)) = .ok .fz (.lst (A.map D.str)) := rfl;generalize A.map D.str = AA at *;generalize lx P = L at *;generalize encT A = EA at *;simp [b__law_mask_of,ei,Ty.id,eit,ef,e,es,ne,retS]
def worse (L : List Nat) (x : Nat) : Bool := L.any fun o=>sb o x && o != x
def leastF (L : List Nat) (acc : List Nat) (x : Nat) : List Nat := if worse L x = true then acc else if x ∈ acc then acc else acc ++ [x]
def leastL (L : List Nat) : List Nat := L.foldl (leastF L) []
theorem least_fold (L : List Nat) : ∀ (xs acc : List Nat),acc.Nodup -> (xs.foldl (leastF L) acc).Nodup /\ ∀ y,y ∈ xs.foldl (leastF L) acc ↔ y ∈ acc \/ (y ∈ xs /\ worse L y = false)
 | [],acc,h=>⟨h,fun y=>by simp⟩
 | x :: xs,acc,h=>by
  have h1 : (leastF L acc x).Nodup /\ ∀ y,y ∈ leastF L acc x ↔ y ∈ acc \/ (y = x /\ worse L y = false) := by
   unfold leastF;split
   . rename_i hw;exact ⟨h,fun y=>⟨.inl,fun z=>z.elim id fun ⟨e,w⟩=>by rw [e,hw] at w;cases w⟩⟩
   . rename_i hw;have hw : worse L x = false := by simpa using hw
     split
     . rename_i hx;exact ⟨h,fun y=>⟨.inl,fun z=>z.elim id fun ⟨e,_⟩=>e ▸ hx⟩⟩
     . rename_i hx;refine ⟨List.nodup_append.mpr ⟨h,by simp,fun a ha b hb e=>hx (by rw [<- List.mem_singleton.mp hb,<- e];exact ha)⟩,fun y=>?_⟩
       rw [List.mem_append,List.mem_singleton];exact or_congr_right ⟨fun e=>⟨e,e ▸ hw⟩,fun e=>e.1⟩
  obtain ⟨a,b⟩ := least_fold L xs (leastF L acc x) h1.1;refine ⟨a,fun y=>?_⟩;rw [List.foldl_cons,b y,h1.2 y,List.mem_cons,or_assoc];refine or_congr_right ⟨?_,?_⟩
  . rintro (⟨e,w⟩ | ⟨m,w⟩)
    . exact ⟨.inl e,w⟩
    . exact ⟨.inr m,w⟩
  . rintro ⟨e | m,w⟩
    . exact .inl ⟨e,w⟩
    . exact .inr ⟨m,w⟩
theorem least_nd (L : List Nat) : (leastL L).Nodup := (least_fold L L [] List.nodup_nil).1
theorem least_mem {L : List Nat} {y : Nat} : y ∈ leastL L ↔ y ∈ L /\ worse L y = false := by
 rw [show leastL L = L.foldl (leastF L) [] from rfl,(least_fold L L [] List.nodup_nil).2]
 simp
theorem least_anti {L : List Nat} {x y : Nat} (hx : x ∈ leastL L) (hy : y ∈ leastL L) (h : sb x y = true) : x = y := by apply Classical.byContradiction;intro ne;have := (least_mem.mp hy).2;unfold worse at this;rw [List.any_eq_false] at this;exact this x (least_mem.mp hx).1 (by rw [h];simpa using ne)
theorem fold_len (L : List Nat) : ∀ (xs acc : List Nat),(xs.foldl (leastF L) acc).length <= acc.length + xs.length
 | [],acc=>by simp
 | x :: xs,acc=>by
  rw [List.foldl_cons];refine Nat.le_trans (fold_len L xs _) ?_;have : (leastF L acc x).length <= acc.length + 1 := by
   unfold leastF;split
   . omega
   . split
     . omega
     . simp
  simp;omega
abbrev kvI (acc : List Nat) : List (Key × D) := acc.map fun m : Nat=>((.inl (m : Int) : Key),D.bl true)
theorem put_I (acc : List Nat) (x : Nat) : putD (kvI acc) (.inl (x : Int)) (.bl true) = kvI (if x ∈ acc then acc else acc ++ [x]) := by
 unfold putD;by_cases hx : x ∈ acc
 . rw [if_pos hx,if_pos (by rw [List.any_eq_true];exact ⟨(.inl (x : Int),.bl true),List.mem_map.mpr ⟨x,hx,rfl⟩,by simp⟩)]
   unfold kvI;rw [List.map_map];refine List.map_congr_left fun m hm=>?_;show (if (Sum.inl (m : Int) : Key) = .inl (x : Int) then _ else _) = _;split <;> rfl
 . rw [if_neg hx,if_neg (by
     rw [List.any_eq_true];rintro ⟨kv,hk,e⟩;obtain ⟨m,hm,rfl⟩ := List.mem_map.mp hk;have e : (Sum.inl (m : Int) : Key) = .inl (x : Int) := by simpa using e
     injection e with e
     have : m = x := by omega
     exact hx (this ▸ hm))]
   unfold kvI;rw [List.map_append];rfl
theorem least (k : Nat) {L : List Nat} (hL : L.length <= 100) : (WT TT (k + 1)).Φ "_law_least" [.lst (iN L)] = .ok .fr (.lst (iN (leastL L))) := by
 rw [u__law_least];refine phi_ok rfl ?_;show evB _ b__law_least [some (false,.lst (iN L)),none,none] = _;have zl : sizeLine = 16777216 := sizeLine_eq;have key := forS_at (enc := iD) (k := setG (.nm 2)) (body := evB (WT TT k) b__law_least_L1) (fun pre ρ=>∃ x,ρ = [some (false,.lst (iN L)),some (true,.dct (kvI (pre.foldl (leastF L) []))),x]) L (fun pre x post e ρ hI=>by
  obtain ⟨y,rfl⟩ := hI;refine ⟨[some (false,.lst (iN L)),some (true,.dct (kvI (pre.foldl (leastF L) []))),some (false,iD x)],[some (false,.lst (iN L)),some (true,.dct (kvI ((pre ++ [x]).foldl (leastF L) []))),some (false,iD x)],by simp,?_,_,rfl⟩
  have ec : compR (.ok .fz (.lst (iN L))) [some (false,.lst (iN L)),some (true,.dct (kvI (pre.foldl (leastF L) []))),some (false,iD x)] [2] 1 (setG (.nm 1)) (fun ρ=>evF (WT TT k) [] ρ) (fun ρ=>evE (WT TT k) (.andL [(.cmp .Eq (.bin .BitAnd (.var 1) (.var 0)) (.var 1)),(.cmp .NotEq (.var 1) (.var 0))]) ρ) = .ok .fr (.lst (L.map fun o=>.bl (sb o x && o != x))) := by
   refine compR_m (enc := iD) _ (by omega) fun o ho=>⟨[some (false,iD x),some (false,iD o)],.fz,by simp [subR],by simp,.fz,?_⟩
   have e1 : (Builtin.bitAnd (o : Int) (x : Int) == (o : Int)) = sb o x := by rw [band,Bool.eq_iff_iff];unfold sb;simp;omega
   have e2 : ((o : Int) != (x : Int)) = (o != x) := by rw [Bool.eq_iff_iff];simp;omega
   cases q : sb o x with
   | true=>simp [iD,e1,e2,q]
   | false=>simp [iD,e1,e2,q]
  have ea := any_run (f := fun o=>sb o x && o != x) (m := .fr) L;have ef : (pre ++ [x]).foldl (leastF L) [] = leastF L (pre.foldl (leastF L) []) x := by rw [List.foldl_append];rfl
  have pu := put_I (pre.foldl (leastF L) []) x;have lc : (kvI (pre.foldl (leastF L) [])).length < sizeLine := by rw [List.length_map];have := fold_len L pre [];have l2 := congrArg List.length e;simp at this l2;omega
  have ed : dputS [some (false,.lst (iN L)),some (true,.dct (kvI (pre.foldl (leastF L) []))),some (false,iD x)] 1 (.ok .fz (.int (x : Int))) (.ok .fz (.bl true)) = .nx [some (false,.lst (iN L)),some (true,.dct (putD (kvI (pre.foldl (leastF L) [])) (.inl (x : Int)) (.bl true))),some (false,iD x)] := by show (if (kvI (pre.foldl (leastF L) [])).length < sizeLine then SRes.nx (List.set _ 1 (some (true,.dct (putD (kvI (pre.foldl (leastF L) [])) (.inl (x : Int)) (.bl true))))) else .stuck) = _;rw [if_pos lc];rfl
  rw [pu] at ed;rw [ef];have hw : L.any (fun o=>sb o x && o != x) = worse L x := rfl;rw [hw] at ea;generalize (L.map fun o=>D.bl (sb o x && o != x)) = Z at *;generalize iN L = LL at *;generalize pre.foldl (leastF L) [] = acc at *;cases w : worse L x with
  | true =>
   rw [w] at ea;rw [show leastF L acc x = acc from if_pos w]
   generalize kvI acc = K at *;simp at ec;simp [b__law_least_L1,ec,ea]
  | false =>
   rw [w] at ea;rw [show leastF L acc x = if x ∈ acc then acc else acc ++ [x] from if_neg (by rw [w];decide)]
   generalize kvI (if x ∈ acc then acc else acc ++ [x]) = K' at *;generalize kvI acc = K at *;simp at ec;simp [b__law_least_L1,ec,ea,ed]) L [] [some (false,.lst (iN L)),some (true,.dct []),none] rfl ⟨none,rfl⟩
 obtain ⟨ρ',e,x,rfl⟩ := key;have ef : ∀ ρ,forR (.ok .fz (.lst (iN L))) ρ (setG (.nm 2)) (evB (WT TT k) b__law_least_L1) = forS (setG (.nm 2)) (evB (WT TT k) b__law_least_L1) (iN L) ρ := fun ρ=>rfl;have ek : tcKeys [(.fz,.dct (kvI (leastL L)))] = some (.fr,.lst (iN (leastL L))) := by
  show (if ((kvI (leastL L)).all fun kv=>keyK kv.1) = true then some (Md.fr,D.lst ((kvI (leastL L)).map fun kv=>keyT kv.1)) else none) = _;rw [if_pos]
  . unfold kvI iN;rw [List.map_map];rfl
  . rw [List.all_eq_true];intro kv hkv;obtain ⟨m,_,rfl⟩ := List.mem_map.mp hkv;rfl
 have e : forS (setG (.nm 2)) (evB (WT TT k) b__law_least_L1) (iN L) [some (false,.lst (iN L)),some (true,.dct []),none] = .nx [some (false,.lst (iN L)),some (true,.dct (kvI (leastL L))),x] := e;generalize iN (leastL L) = R at *;generalize kvI (leastL L) = K at *;generalize iN L = LL at *;simp [b__law_least,ef,e,frzS,ek]
def fewF (m : Nat) (s : Nat × Nat) (k : Nat) : Nat × Nat := if (m.testBit k && decide (s.2 < 6)) = true then (s.1 ||| 2 ^ k,s.2 + 1) else s
def few (m : Nat) : Nat := ((List.range 12).foldl (fewF m) (0,0)).1
theorem few_inv (m : Nat) : ∀ (xs : List Nat) (s : Nat × Nat) (ks : List Nat),(∀ k ∈ xs,k < 12) -> ks.length = s.2 -> s.2 <= 6 -> (∀ j,s.1.testBit j = true ↔ j ∈ ks) -> (∀ j ∈ ks,j < 12) -> ∃ ks' : List Nat,ks'.length <= 6 /\ (∀ j,(xs.foldl (fewF m) s).1.testBit j = true ↔ j ∈ ks') /\ ∀ j ∈ ks',j < 12
 | [],s,ks,_,h1,h2,h3,h4=>⟨ks,by omega,h3,h4⟩
 | k :: xs,s,ks,h0,h1,h2,h3,h4=>by
  rw [List.foldl_cons];by_cases hc : (m.testBit k && decide (s.2 < 6)) = true
  . have e : fewF m s k = (s.1 ||| 2 ^ k,s.2 + 1) := if_pos hc;rw [Bool.and_eq_true,decide_eq_true_eq] at hc;rw [e];refine few_inv m xs _ (k :: ks) (fun j hj=>h0 j (mcm hj)) (by simp [h1]) (by show s.2 + 1 <= 6;omega) (fun j=>?_) (fun j hj=>?_)
    . show (s.1 ||| 2 ^ k).testBit j = true ↔ _;rw [bit_or,h3,List.mem_cons];exact or_comm
    . rcases List.mem_cons.mp hj with rfl | hj
      . exact h0 _ mcs
      . exact h4 j hj
  . have e : fewF m s k = s := if_neg hc;rw [e];exact few_inv m xs s ks (fun j hj=>h0 j (mcm hj)) h1 h2 h3 h4
theorem few_ks (m : Nat) : ∃ ks : List Nat,ks.length <= 6 /\ (∀ j,(few m).testBit j = true ↔ j ∈ ks) /\ ∀ j ∈ ks,j < 12 :=
 few_inv m (List.range 12) (0,0) [] (fun k hk=>List.mem_range.mp hk) rfl (Nat.zero_le _) (fun j=>by simp) fun j hj=>nomatch hj
theorem fewR (k : Nat) (m : Nat) : (WT TT (k + 1)).Φ "_law_few" [.int m] = .ok .fz (.int (few m : Nat)) := by
 rw [u__law_few];refine phi_ok rfl ?_;show evB _ b__law_few [some (false,.int m),none,none,none] = _;have key := forS_at (enc := iD) (k := setG (.nm 3)) (body := evB (WT TT k) b__law_few_L1) (fun pre ρ=>∃ x,ρ = [some (false,.int m),some (false,.int ((pre.foldl (fewF m) (0,0)).1 : Nat)),some (false,.int ((pre.foldl (fewF m) (0,0)).2 : Nat)),x]) (List.range 12) (fun pre j post e ρ hI=>by
  obtain ⟨y,rfl⟩ := hI;have hj : j < 12 := List.mem_range.mp (by rw [e];simp)
  rw [List.foldl_append,List.foldl_cons,List.foldl_nil];generalize pre.foldl (fewF m) (0,0) = s;refine ⟨[some (false,.int m),some (false,.int (s.1 : Nat)),some (false,.int (s.2 : Nat)),some (false,iD j)],[some (false,.int m),some (false,.int ((fewF m s j).1 : Nat)),some (false,.int ((fewF m s j).2 : Nat)),some (false,iD j)],by simp,?_,_,rfl⟩
  have b := shr_bit' m j;have b0 : (0 : Int) <= (j : Int) := by omega
  have sh := shl_run j (by omega) (m := .fz) (n := .fz)
  have lt : (decide ((s.2 : Int) < 6)) = decide (s.2 < 6) := by rw [Bool.eq_iff_iff];simp;omega
  have bo := bor s.1 (2 ^ j);cases hc : (m.testBit j && decide (s.2 < 6)) with
  | true =>
   have e : fewF m s j = (s.1 ||| 2 ^ j,s.2 + 1) := if_pos hc;rw [Bool.and_eq_true] at hc;rw [e];rw [hc.1] at b;rw [hc.2] at lt;have lt' : (s.2 : Int) < 6 := by simpa using lt
   generalize ((2 ^ j : Nat) : Int) = y at *;simp [b__law_few_L1,iD,b0,b,sh,lt',bo]
  | false =>
   have e : fewF m s j = s := if_neg (by rw [hc];decide)
   rw [e];cases hb : m.testBit j with
   | false=>rw [hb] at b;simp [b__law_few_L1,iD,b0,b]
   | true =>
    rw [hb,Bool.true_and] at hc;rw [hb] at b;have lt' : ¬ (s.2 : Int) < 6 := by have := of_decide_eq_false hc;omega
    simp [b__law_few_L1,iD,b0,b,lt']) (List.range 12) [] [some (false,.int m),some (false,.int 0),some (false,.int 0),none] rfl ⟨none,rfl⟩
 obtain ⟨ρ',e,x,rfl⟩ := key;have er := rng_run (n := 12) (by omega)
 have ef : ∀ ρ,forR (.ok .fz (.lst (iN (List.range 12)))) ρ (setG (.nm 3)) (evB (WT TT k) b__law_few_L1) = forS (setG (.nm 3)) (evB (WT TT k) b__law_few_L1) (iN (List.range 12)) ρ := fun ρ=>rfl;have er : rng1R (.ok [(.fz,.int 12)]) = .ok .fz (.lst (iN (List.range 12))) := er;have e : forS (setG (.nm 3)) (evB (WT TT k) b__law_few_L1) (iN (List.range 12)) [some (false,.int m),some (false,.int 0),some (false,.int 0),none] = _ := e;unfold few;generalize (List.range 12).foldl (fewF m) (0,0) = s at *;generalize iN (List.range 12) = R at *;simp [b__law_few,er,ef,e,retS]
def popc (m : Nat) : Nat := ((List.range 5).map fun k=>(m.testBit k).toNat).sum
theorem lawbits (k : Nat) (m : Nat) : (WT TT (k + 1)).Φ "_law_bits" [.int m] = .ok .fz (.int (popc m : Nat)) := by
 rw [u__law_bits];refine phi_ok rfl ?_;show evB _ b__law_bits [some (false,.int m)] = _;have er : rng1R (.ok [(.fz,.int 5)]) = .ok .fz (.lst (iN (List.range 5))) := rng_run (n := 5) (by omega)
 have ec : compR (.ok .fz (.lst (iN (List.range 5)))) [some (false,.int m)] [0] 1 (setG (.nm 1)) (fun ρ=>evF (WT TT k) [] ρ) (fun ρ=>evE (WT TT k) (.bin .BitAnd (.bin .RShift (.var 0) (.var 1)) (.int 1)) ρ) = .ok .fr (.lst (iN ((List.range 5).map fun k=>(m.testBit k).toNat))) := by
  rw [show iN ((List.range 5).map fun k=>(m.testBit k).toNat) = (List.range 5).map fun k=>iD (m.testBit k).toNat from List.map_map]
  refine compR_m (enc := iD) _ (by decide) fun j hj=>⟨[some (false,.int m),some (false,iD j)],.fz,by simp [subR],by simp,.fz,?_⟩
  have b : Builtin.bitAnd ((m : Int) / 2 ^ j) 1 = ((m.testBit j).toNat : Nat) := by have h1 := band (m / 2 ^ j) 1;rw [and_one] at h1;have h2 := shr_nat m j;rw [Int.toNat_natCast] at h2;rw [h2];exact h1
  have b0 : (0 : Int) <= (j : Int) := by omega
  simp [iD,b0,b]
 have es := sum_nat (m := .fr) ((List.range 5).map fun k=>(m.testBit k).toNat);unfold popc;generalize ((List.range 5).map fun k=>(m.testBit k).toNat) = Z at *;generalize iN (List.range 5) = R at *;generalize iN Z = ZZ at *;simp at ec;simp [b__law_bits,er,ec,es]
def fitL (n : Nat) : List Nat := (List.range 32).filter fun m=>popc m == n || popc m == n + 1
theorem fit_pos : ∀ n,n < 5 -> 0 < (fitL n).length := by decide +kernel
theorem fit_lt {n m : Nat} (h : m ∈ fitL n) : m < 32 := List.mem_range.mp (List.mem_filter.mp h).1
structure Pool (P : List Str) : Prop where
 str : Strict P
 ok : ∀ x ∈ P,okS x
 len : P.length <= 12
structure Ms (P : List Str) (M : List Nat) : Prop where
 nd : M.Nodup
 anti : ∀ x ∈ M,∀ y ∈ M,sb x y = true -> x = y
 bel : ∀ m ∈ M,∀ i,m.testBit i = true -> i < P.length
 len : M.length < 64
theorem at_idx {P : List Str} {x : Str} (h : x ∈ P) : P[P.idxOf x]? = some x := by rw [List.getElem?_eq_getElem (List.idxOf_lt_length_iff.mpr h),List.getElem_idxOf]
theorem idx_at {P : List Str} (hn : P.Nodup) {i : Nat} {x : Str} (h : P[i]? = some x) : P.idxOf x = i := by obtain ⟨h1,h2⟩ := List.getElem?_eq_some_iff.mp h;rw [<- h2,hn.idxOf_getElem]
theorem sel_inj {L : List Str} (hn : L.Nodup) {f g : Nat} (hf : ∀ i,f.testBit i = true -> i < L.length) (hg : ∀ i,g.testBit i = true -> i < L.length) (e : sel L f = sel L g) : f = g := by
 have key : ∀ {f g : Nat},(∀ i,f.testBit i = true -> i < L.length) -> sel L f = sel L g -> ∀ i,f.testBit i = true -> g.testBit i = true := fun {f g} hf e i hi=>by have hl := hf i hi;have h1 : L[i] ∈ sel L f := sel_mem.mpr ⟨i,List.getElem?_eq_getElem hl,hi⟩;rw [e] at h1;obtain ⟨j,h2,h3⟩ := sel_mem.mp h1;have : j = i := (idx_at hn h2).symm.trans (idx_at hn (List.getElem?_eq_getElem hl));rw [<- this];exact h3
 apply Nat.eq_of_testBit_eq;intro i;rw [Bool.eq_iff_iff];exact ⟨key hf e i,key hg e.symm i⟩
theorem nodup_map {α β : Type} {f : α -> β} : ∀ {l : List α},l.Nodup -> (∀ x ∈ l,∀ y ∈ l,f x = f y -> x = y) -> (l.map f).Nodup
 | [],_,_=>List.nodup_nil
 | a :: l,h,i=>by rw [List.nodup_cons] at h;rw [List.map_cons,List.nodup_cons];refine ⟨fun hm=>?_,nodup_map h.2 fun x hx y hy=>i x (mcm hx) y (mcm hy)⟩;obtain ⟨b,hb,e⟩ := List.mem_map.mp hm;have := i b (mcm hb) a mcs e;exact h.1 (this ▸ hb)
theorem all_same_len {l : List Nat} (h : l.Nodup) {a : Nat} (ha : ∀ x ∈ l,x = a) : l.length <= 1 := by
 match l,h,ha with
 | [],_,_=>simp
 | [_],_,_=>simp
 | x :: y :: l,h,ha =>
  exfalso;have h1 := ha x (by simp)
  have h2 := ha y (by simp)
  simp [h1,h2] at h
theorem srt_anti {L : List Str} (hL : L.Nodup) {F : List Nat} (nd : F.Nodup) (bel : ∀ f ∈ F,∀ i,f.testBit i = true -> i < L.length) (anti : ∀ x ∈ F,∀ y ∈ F,sb x y = true -> x = y) (len : F.length < 64) : srtOk (F.map (sel L)) = true := by
 unfold srtOk;simp only [Bool.and_eq_true,Bool.or_eq_true,decide_eq_true_eq,List.all_eq_true,List.length_map];refine ⟨⟨nodup_map nd fun x hx y hy e=>sel_inj hL (bel x hx) (bel y hy) e,?_⟩,len⟩;by_cases hz : ∃ f ∈ F,sel L f = []
 . obtain ⟨f,hf,e⟩ := hz;have f0 : f = 0 := by
     apply Nat.eq_of_testBit_eq;intro i;rw [Nat.zero_testBit];cases q : f.testBit i with
     | false=>rfl
     | true=>have : L[i]'(bel f hf i q) ∈ sel L f := sel_mem.mpr ⟨i,List.getElem?_eq_getElem (bel f hf i q),q⟩;rw [e] at this;cases this
   refine .inl (all_same_len nd (a := f) fun x hx=>(anti f hf x hx (sb_iff.mpr fun i hi=>?_)).symm);rw [f0,Nat.zero_testBit] at hi;cases hi
 . refine .inr fun t ht=>?_;obtain ⟨f,hf,rfl⟩ := List.mem_map.mp ht;cases q : sel L f with
   | nil=>exact absurd ⟨f,hf,q⟩ hz
   | cons=>rfl
theorem sub_bit {m k : Nat} (h : m.testBit k = true) (j : Nat) : (m - 2 ^ k).testBit j = (m.testBit j && decide (j ≠ k)) := by
 have e1 : m = 2 ^ (k + 1) * (m / 2 ^ (k + 1)) + (2 ^ k + m % 2 ^ k) := by
  have h1 := Nat.div_add_mod m (2 ^ (k + 1));have h2 : m % 2 ^ (k + 1) = 2 ^ k + m % 2 ^ k := by rw [Nat.testBit_eq_decide_div_mod_eq,decide_eq_true_eq] at h;rw [Nat.pow_succ,Nat.mod_mul,h];omega
  omega
 have e2 : m - 2 ^ k = 2 ^ (k + 1) * (m / 2 ^ (k + 1)) + m % 2 ^ k := by omega
 have hs : m % 2 ^ k < 2 ^ (k + 1) := Nat.lt_of_lt_of_le (Nat.mod_lt _ (Nat.two_pow_pos k)) (Nat.pow_le_pow_right (by decide) (Nat.le_succ k))
 rw [e2,Nat.two_pow_add_eq_or_of_lt hs,Nat.testBit_or,Nat.testBit_two_pow_mul,Nat.testBit_mod_two_pow,Nat.testBit_div_two_pow];by_cases h1 : j ≥ k + 1
 . have : k + 1 + (j - (k + 1)) = j := by omega
   have h2 : ¬ j < k := by omega
   have h3 : j ≠ k := by omega
   simp [h1,h2,h3]
 . by_cases h2 : j = k
   . subst h2;simp;intro hh;omega
   . have h3 : j < k := by omega
     simp [h1,h3,h2]
def NSof (P : List Str) (M : List Nat) : List (List Str) := uniT (M.map (sel P))
def Fof (P : List Str) (M : List Nat) : List Nat := mF (NSof P M) (NSof P M)
def Uof (P : List Str) (M : List Nat) : List Str := univ (NSof P M)
def Sof (P : List Str) (M : List Nat) : List (List Str) := uniT ((Fof P M).map (sel (Uof P M)))
section
variable {P : List Str} {M : List Nat}
theorem ns_mem {A : List Str} : A ∈ NSof P M ↔ ∃ m ∈ M,A = sel P m := by unfold NSof;rw [uniT_mem,List.mem_map];exact ⟨fun ⟨m,h,e⟩=>⟨m,h,e.symm⟩,fun ⟨m,h,e⟩=>⟨m,h,e.symm⟩⟩
theorem ns_len (hM : Ms P M) : (NSof P M).length <= M.length := by
 have nd : (NSof P M).Nodup := (uniT_strict _).imp fun {a b} h e=>by subst e;rw [ltT_irr] at h;cases h
 have : ∀ {l l' : List (List Str)},l.Nodup -> (∀ y ∈ l,y ∈ l') -> l.length <= l'.length := fun {l l'}=>by
  induction l generalizing l' with
  | nil=>intros;simp
  | cons a l ih =>
   intro h1 h2;rw [List.nodup_cons] at h1;have ha := h2 a mcs;have := ih (l' := l'.erase a) h1.2 fun y hy=>by have hne : y ≠ a := fun e=>h1.1 (e ▸ hy);exact (List.mem_erase_of_ne hne).mpr (h2 y (mcm hy))
   rw [List.length_erase_of_mem ha] at this;have pos : 0 < l'.length := List.length_pos_of_mem ha;simp;omega
 have := this nd fun y hy=>uniT_mem.mp hy;simpa using this
theorem u_strict : Strict (Uof P M) := uni_strict _
theorem u_nodup : (Uof P M).Nodup := nodup_of_strict u_strict
theorem u_mem {x : Str} : x ∈ Uof P M ↔ ∃ m ∈ M,x ∈ sel P m := by
 unfold Uof univ;rw [uni_mem,List.mem_flatten];constructor
 . rintro ⟨A,hA,hx⟩;obtain ⟨m,hm,rfl⟩ := ns_mem.mp hA;exact ⟨m,hm,hx⟩
 . rintro ⟨m,hm,hx⟩;exact ⟨sel P m,ns_mem.mpr ⟨m,hm,rfl⟩,hx⟩
theorem u_sub {x : Str} (h : x ∈ Uof P M) : x ∈ P := by obtain ⟨m,_,hx⟩ := u_mem.mp h;exact sel_sub.subset hx
theorem u_len : (Uof P M).length <= P.length := len_le u_nodup fun y hy=>u_sub hy
theorem flat_len (hP : Pool P) : ∀ (NS : List (List Str)),(∀ A ∈ NS,A.length <= 12) -> NS.flatten.length <= 12 * NS.length
 | [],_=>by simp
 | A :: NS,h=>by have := flat_len hP NS fun B hB=>h B (mcm hB);have h1 := h A mcs;simp only [List.flatten_cons,List.length_append,List.length_cons];omega
theorem note_of (hP : Pool P) (hM : Ms P M) : Note (NSof P M) := by
 have ln : ∀ A ∈ NSof P M,A.length <= 12 := fun A hA=>by obtain ⟨m,_,rfl⟩ := ns_mem.mp hA;exact Nat.le_trans sel_sub.length_le hP.len
 refine ⟨fun A hA=>?_,fun A hA x hx=>?_,ln,?_,?_⟩
 . obtain ⟨m,_,rfl⟩ := ns_mem.mp hA;exact hP.str.sublist sel_sub
 . obtain ⟨m,_,rfl⟩ := ns_mem.mp hA;exact hP.ok x (sel_sub.subset hx)
 . have h1 := flat_len hP (NSof P M) ln;have h2 := ns_len hM;have h3 := hM.len;show _ < 4096;omega
 . have h1 : (univ (NSof P M)).length <= P.length := u_len;have := hP.len;omega
theorem bg_pre (hP : Pool P) (hM : Ms P M) (pre post : List (List Str)) (e : NSof P M = pre ++ post) : Bg (mF (NSof P M) pre) (pre.map (ixs (Uof P M))) /\ ∀ f ∈ mF (NSof P M) pre,∀ i,f.testBit i = true -> i < (Uof P M).length := by
 have N := note_of hP hM;have hin : ∀ A ∈ pre,A ∈ NSof P M := fun A hA=>by rw [e];exact List.mem_append_left _ hA
 have B : Bg (mF (NSof P M) pre) (pre.map (ixs (Uof P M))) := bg_fin fun a ha=>by obtain ⟨A,hA,rfl⟩ := List.mem_map.mp ha;exact (ixs_asc u_strict (N.str A (hin A hA)) fun x hx=>in_univ (hin A hA) hx).imp fun {a b} h=>Nat.ne_of_lt h
 refine ⟨B,fun f hf i hi=>B.below (fun a ha j hj=>?_) hf hi⟩;obtain ⟨A,hA,rfl⟩ := List.mem_map.mp ha;obtain ⟨x,hx,rfl⟩ := List.mem_map.mp hj;exact List.idxOf_lt_length_iff.mpr (in_univ (hin A hA) hx)
theorem lt_of_bits {f n : Nat} (h : ∀ i,f.testBit i = true -> i < n) : f < 2 ^ n := by apply Classical.byContradiction;intro hn;obtain ⟨i,hi,e⟩ := Nat.exists_ge_and_testBit_of_ge_two_pow (Nat.not_lt.mp hn);have := h i e;omega
theorem nat_len {F : List Nat} {n : Nat} (nd : F.Nodup) (h : ∀ f ∈ F,f < n) : F.length <= n := by
 have : ∀ {l l' : List Nat},l.Nodup -> (∀ y ∈ l,y ∈ l') -> l.length <= l'.length := fun {l l'}=>by
  induction l generalizing l' with
  | nil=>intros;simp
  | cons a l ih =>
   intro h1 h2;rw [List.nodup_cons] at h1;have ha := h2 a mcs;have := ih (l' := l'.erase a) h1.2 fun y hy=>by have hne : y ≠ a := fun e=>h1.1 (e ▸ hy);exact (List.mem_erase_of_ne hne).mpr (h2 y (mcm hy))
   rw [List.length_erase_of_mem ha] at this;have pos : 0 < l'.length := List.length_pos_of_mem ha;simp;omega
 have := this nd (l' := List.range n) fun y hy=>List.mem_range.mpr (h y hy);simpa using this
theorem pre_len (hP : Pool P) (hM : Ms P M) (pre post : List (List Str)) (e : NSof P M = pre ++ post) : (mF (NSof P M) pre).length <= 2 ^ P.length := by obtain ⟨B,bel⟩ := bg_pre hP hM pre post e;have h1 := nat_len B.nd fun f hf=>lt_of_bits (bel f hf);exact Nat.le_trans h1 (Nat.pow_le_pow_right (by decide) u_len)
theorem bgF (hP : Pool P) (hM : Ms P M) : Bg (Fof P M) ((NSof P M).map (ixs (Uof P M))) := (bg_pre hP hM (NSof P M) [] (by simp)).1
theorem belF (hP : Pool P) (hM : Ms P M) : ∀ f ∈ Fof P M,∀ i,f.testBit i = true -> i < (Uof P M).length := (bg_pre hP hM (NSof P M) [] (by simp)).2
theorem srtF (hP : Pool P) (hM : Ms P M) (h64 : (Fof P M).length < 64) : srtOk ((Fof P M).map (sel (Uof P M))) = true :=
 srt_anti u_nodup (bgF hP hM).nd (belF hP hM) (fun x hx y hy h=>(bgF hP hM).anti hx hy (sb_iff.mp h)) h64
theorem s_mem {A : List Str} : A ∈ Sof P M ↔ ∃ f ∈ Fof P M,A = sel (Uof P M) f := by unfold Sof;rw [uniT_mem,List.mem_map];exact ⟨fun ⟨m,h,e⟩=>⟨m,h,e.symm⟩,fun ⟨m,h,e⟩=>⟨m,h,e.symm⟩⟩
theorem s_sub {A : List Str} (h : A ∈ Sof P M) : Strict A /\ ∀ x ∈ A,x ∈ P := by obtain ⟨f,_,rfl⟩ := s_mem.mp h;exact ⟨u_strict.sublist sel_sub,fun x hx=>u_sub (sel_sub.subset hx)⟩
theorem s_hits (hP : Pool P) (hM : Ms P M) {A : List Str} (h : A ∈ Sof P M) : hitA (maskOf P A) M = true := by
 obtain ⟨f,hf,rfl⟩ := s_mem.mp h;unfold hitA;rw [List.all_eq_true];intro m hm;obtain ⟨i,hi,e⟩ := (bgF hP hM).hit f hf (ixs (Uof P M) (sel P m)) (List.mem_map.mpr ⟨_,ns_mem.mpr ⟨m,hm,rfl⟩,rfl⟩);obtain ⟨x,hx,rfl⟩ := List.mem_map.mp hi;have hxU : x ∈ Uof P M := u_mem.mpr ⟨m,hm,hx⟩;obtain ⟨j,h1,h2⟩ := sel_mem.mp hx;have hj := idx_at (nodup_of_strict hP.str) h1;have hA : x ∈ sel (Uof P M) f := sel_mem.mpr ⟨_,at_idx hxU,e⟩;have b : (maskOf P (sel (Uof P M) f) &&& m).testBit j = true := by rw [Nat.testBit_and,h2,maskOf_bit.mpr ⟨x,hA,hj⟩];rfl
 rw [bne_iff_ne];intro z;rw [z,Nat.zero_testBit] at b;cases b
theorem s_less (hP : Pool P) (hM : Ms P M) {A : List Str} (h : A ∈ Sof P M) (n : Nat) : (List.range n).any (lessB (maskOf P A) M) = false := by
 rw [List.any_eq_false];intro k _ hl;unfold lessB at hl;rw [Bool.and_eq_true] at hl;obtain ⟨hk,hh⟩ := hl;obtain ⟨f,hf,rfl⟩ := s_mem.mp h;obtain ⟨x,hx,ek⟩ := maskOf_bit.mp hk;obtain ⟨i,h1,h2⟩ := sel_mem.mp hx;have hi := idx_at u_nodup h1;obtain ⟨a,ha,hia,p⟩ := (bgF hP hM).priv f hf i h2;obtain ⟨B,hB,rfl⟩ := List.mem_map.mp ha;obtain ⟨m,hm,rfl⟩ := ns_mem.mp hB;unfold hitA at hh;rw [List.all_eq_true] at hh;have := hh m hm;rw [bne_iff_ne] at this;obtain ⟨j,hj⟩ := Nat.exists_testBit_of_ne_zero this;rw [Nat.testBit_and,Bool.and_eq_true,sub_bit hk,Bool.and_eq_true,decide_eq_true_eq] at hj;obtain ⟨⟨hj1,hj2⟩,hj3⟩ := hj;obtain ⟨y,hy,ey⟩ := maskOf_bit.mp hj1;obtain ⟨i',q1,q2⟩ := sel_mem.mp hy;have hyP : y ∈ P := u_sub (List.mem_of_getElem? q1);have hyB : y ∈ sel P m := sel_mem.mpr ⟨j,by rw [<- ey];exact at_idx hyP,hj3⟩
 have e' := idx_at u_nodup q1;have := p i' (List.mem_map.mpr ⟨y,hyB,e'⟩) q2;rw [this,h1] at q1;cases q1;exact hj2 (ey.symm.trans ek)
theorem s_comp (hP : Pool P) (hM : Ms P M) {g : Nat} (h : hitA g M = true) : ((Sof P M).map (maskOf P)).any (fun c=>sb c g) = true := by
 unfold hitA at h;rw [List.all_eq_true] at h;obtain ⟨f,hf,sub⟩ := (bgF hP hM).comp (fun i=>∃ x,(Uof P M)[i]? = some x /\ g.testBit (P.idxOf x) = true) fun a ha=>by obtain ⟨B,hB,rfl⟩ := List.mem_map.mp ha;obtain ⟨m,hm,rfl⟩ := ns_mem.mp hB;have := h m hm;rw [bne_iff_ne] at this;obtain ⟨j,hj⟩ := Nat.exists_testBit_of_ne_zero this;rw [Nat.testBit_and,Bool.and_eq_true] at hj;have hl := hM.bel m hm j hj.2;have hat : P[j]? = some P[j] := List.getElem?_eq_getElem hl;have hs : P[j] ∈ sel P m := sel_mem.mpr ⟨j,hat,hj.2⟩;refine ⟨(Uof P M).idxOf P[j],List.mem_map.mpr ⟨_,hs,rfl⟩,P[j],at_idx (u_mem.mpr ⟨m,hm,hs⟩),?_⟩;rw [idx_at (nodup_of_strict hP.str) hat];exact hj.1
 rw [List.any_eq_true];refine ⟨maskOf P (sel (Uof P M) f),List.mem_map.mpr ⟨_,s_mem.mpr ⟨f,hf,rfl⟩,rfl⟩,sb_iff.mpr fun j hj=>?_⟩;obtain ⟨x,hx,rfl⟩ := maskOf_bit.mp hj;obtain ⟨i,h1,h2⟩ := sel_mem.mp hx;obtain ⟨x',q1,q2⟩ := sub i h2;rw [h1] at q1;cases q1;exact q2
end
theorem ltL_str : ∀ (A B : List Str),ltL (A.map D.str) (B.map D.str) = some (ltT A B)
 | [],[]=>rfl
 | [],_ :: _=>rfl
 | _ :: _,[]=>rfl
 | x :: A,y :: B=>by
  rw [List.map_cons,List.map_cons];show (if eqD (.str x) (.str y) = true then ltL (A.map D.str) (B.map D.str) else ltD1 (.str x) (.str y)) = _;have e : eqD (.str x) (.str y) = decide (x = y) := rfl;unfold ltT;by_cases h : x = y
  . rw [if_pos (by rw [e];exact decide_eq_true h),if_pos h];exact ltL_str A B
  . rw [if_neg (by rw [e,decide_eq_false h];decide),if_neg h]
    show some (ltS x y) = some (lts x y);unfold ltS lts;rw [PyProof.Rows.ltCps_eq]
theorem lt_run {A B : List Str} {m m' : Md} : op2 (fCmp .Lt) (.ok m (encT A)) (.ok m' (encT B)) = .ok .fz (.bl (ltT A B)) := by
 refine op2_of ?_;have e : ltF m (encT A) m' (encT B) = some (.fz,.bl (ltT A B)) := by show (if ((A.map D.str).all flatD && (B.map D.str).all flatD) = true then (ltL (A.map D.str) (B.map D.str)).map fun b=>(Md.fz,D.bl b) else none) = _;rw [flat_strs,flat_strs,ltL_str];rfl
 exact e
theorem flat_ints : ∀ (l : List Nat),(iN l).all flatD = true
 | []=>rfl
 | x :: l=>by show (flatD (iD x) && (iN l).all flatD) = true;rw [flat_ints l];rfl
theorem in_neg {G : List Nat} {m m' : Md} : op2 (fCmp .In) (.ok m (.int (-1))) (.ok m' (.lst (iN G))) = .ok .fz (.bl false) := by
 refine op2_of ?_;have e1 : (iN G).any (fun y=>eqD y (.int (-1))) = false := by rw [List.any_eq_false];intro y hy;obtain ⟨g,_,rfl⟩ := List.mem_map.mp hy;show ¬ ((g : Int) == -1) = true;simp
 have e2 : inSq false m (.int (-1)) m' (.lst (iN G)) = some (.fz,.bl false) := by show (if (flatD (.int (-1)) && (iN G).all flatD) = true then some (Md.fz,D.bl (if false = true then _ else (iN G).any fun y=>eqD y (.int (-1)))) else none) = _;rw [flat_ints,e1];rfl
 exact e2
theorem ix_t {ds : List D} {m m' : Md} {i : Nat} {d : D} (h : ds[i]? = some d) : op2 ixD (.ok m (.tup ds)) (.ok m' (.int (i : Int))) = .ok .fz d := op2_of (by show (atI ds i).map _ = _;rw [atI_nat h];rfl)
theorem lenSub {α : Type} [BEq α] [LawfulBEq α] : ∀ {l l' : List α},l.Nodup -> (∀ y ∈ l,y ∈ l') -> l.length <= l'.length
 | [],_,_,_=>by simp
 | a :: l,l',h1,h2=>by
  rw [List.nodup_cons] at h1;have ha := h2 a mcs;have := lenSub (l := l) (l' := l'.erase a) h1.2 fun y hy=>by have hne : y ≠ a := fun e=>h1.1 (e ▸ hy);exact (List.mem_erase_of_ne hne).mpr (h2 y (mcm hy))
  rw [List.length_erase_of_mem ha] at this;have pos : 0 < l'.length := List.length_pos_of_mem ha;simp;omega
theorem lawcut (k : Nat) {P : List Str} {M : List Nat} (hP : Pool P) (hM : Ms P M) (h64 : (Fof P M).length < 64) : (WT TT (k + 4)).Φ "_law_cut" [.lst (iN M),lx P] = .ok .fz (.lst (iN ((Sof P M).map (maskOf P)))) := by
 rw [u__law_cut];refine phi_ok rfl ?_;show evB _ b__law_cut [some (false,.lst (iN M)),some (false,lx P),none,none,none] = _;have zl : sizeLine = 16777216 := sizeLine_eq;have pl := hP.len;have ml := hM.len;have e1 : compR (.ok .fz (.lst (iN M))) [some (false,.lst (iN M)),some (false,lx P),none,none,none] [1] 1 (setG (.nm 1)) (fun ρ=>evF (WT TT (k + 3)) [] ρ) (fun ρ=>evE (WT TT (k + 3)) (.call "_law_set" 2 [(.var 1),(.var 0)]) ρ) = .ok .fr (.lst ((M.map (sel P)).map encT)) := by
  rw [List.map_map];refine compR_m (enc := iD) (fun m=>encT (sel P m)) (by omega) fun m hm=>⟨[some (false,lx P),some (false,iD m)],.fz,by simp [subR],by simp,.fz,?_⟩
  have e := call2 (lawset (k + 2) m (P := P) (by omega))
  generalize lx P = L at *;simp [iD,e]
 have e2 : CallD.or' srtD srtTD [(.fr,.lst ((M.map (sel P)).map encT))] = some (.fr,.lst ((NSof P M).map encT)) := srt_run (srt_anti (nodup_of_strict hP.str) hM.nd hM.bel hM.anti hM.len);have e3 : callF 1 ((WT TT (k + 3)).Φ "cuts") (.ok [(.fz,.tup ((NSof P M).map encT))]) = .ok .fz (.tup ((Sof P M).map encT)) := call1 (cutsV k (note_of hP hM) (fun pre post e=>by
  have h1 := pre_len hP hM pre post e;have h2 : 2 ^ P.length <= 2 ^ 12 := Nat.pow_le_pow_right (by decide) pl
  have h3 : (2 : Nat) ^ 12 = 4096 := rfl;omega) (srtF hP hM h64))
 have sl : (Sof P M).length <= 64 := by
  have nd : (Sof P M).Nodup := (uniT_strict _).imp fun {a b} h e=>by subst e;rw [ltT_irr] at h;cases h
  have := lenSub nd (l' := (Fof P M).map (sel (Uof P M))) fun y hy=>uniT_mem.mp hy;rw [List.length_map] at this;omega
 have e4 : compR (.ok .fz (.lst ((Sof P M).map encT))) [some (false,.lst (iN M)),some (false,lx P),some (false,.tup ((NSof P M).map encT)),some (false,.tup ((Sof P M).map encT)),none] [1] 1 (setG (.nm 1)) (fun ρ=>evF (WT TT (k + 3)) [] ρ) (fun ρ=>evE (WT TT (k + 3)) (.call "_law_mask_of" 2 [(.var 1),(.var 0)]) ρ) = .ok .fr (.lst (iN ((Sof P M).map (maskOf P)))) := by
  rw [show iN ((Sof P M).map (maskOf P)) = (Sof P M).map fun A=>iD (maskOf P A) from List.map_map]
  refine compR_m (enc := encT) _ (by omega) fun A hA=>⟨[some (false,lx P),some (false,encT A)],.fz,by simp [subR],by simp,.fz,?_⟩
  obtain ⟨a1,a2⟩ := s_sub hA;have e := call2 (maskof (k + 1) hP.str (by omega) a1 a2)
  generalize lx P = L at *;generalize encT A = EA at *;simp [iD,e]
 have e5 := in_neg (G := (Sof P M).map (maskOf P)) (m := .fz) (m' := .fz);have er : rng1R (.ok [(.fz,.int (((Sof P M).map encT).length - 1))]) = .ok .fz (.lst (iN (List.range ((Sof P M).length - 1)))) := by
  rw [List.length_map];unfold rng1R;rw [ResL.thn_ok];dsimp only;rw [if_pos (by simp only [Bool.and_eq_true,decide_eq_true_eq];omega)]
  unfold rangeD iN;rw [show (((Sof P M).length : Int) - 1 - 0).toNat = (Sof P M).length - 1 by omega]
  congr 2;exact List.map_congr_left fun i _=>by show D.int (0 + (i : Int)) = _;rw [Int.zero_add]
 have e6 : compR (.ok .fz (.lst (iN (List.range ((Sof P M).length - 1))))) [some (false,.lst (iN M)),some (false,lx P),some (false,.tup ((NSof P M).map encT)),some (false,.tup ((Sof P M).map encT)),some (false,.lst (iN ((Sof P M).map (maskOf P))))] [3] 1 (setG (.nm 1)) (fun ρ=>evF (WT TT (k + 3)) [] ρ) (fun ρ=>evE (WT TT (k + 3)) (.cmp .Lt (.ix (.var 0) (.var 1)) (.ix (.var 0) (.bin .Add (.var 1) (.int 1)))) ρ) = .ok .fr (.lst ((List.range ((Sof P M).length - 1)).map fun j=>.bl true)) := by
  refine compR_m (enc := iD) _ (by simp;omega) fun j hj=>⟨[some (false,.tup ((Sof P M).map encT)),some (false,iD j)],.fz,by simp [subR],by simp,.fz,?_⟩
  have hj := List.mem_range.mp hj;have h1 : j < (Sof P M).length := by omega
  have h2 : j + 1 < (Sof P M).length := by omega
  have i1 := ix_t (ds := (Sof P M).map encT) (m := .fz) (m' := .fz) (i := j) (d := encT (Sof P M)[j]) (by rw [List.getElem?_map,List.getElem?_eq_getElem h1];rfl)
  have i2 := ix_t (ds := (Sof P M).map encT) (m := .fz) (m' := .fz) (i := j + 1) (d := encT (Sof P M)[j + 1]) (by rw [List.getElem?_map,List.getElem?_eq_getElem h2];rfl)
  have lt : ltT (Sof P M)[j] (Sof P M)[j + 1] = true := List.pairwise_iff_getElem.mp (uniT_strict _) j (j + 1) h1 h2 (by omega)
  have l1 := lt_run (A := (Sof P M)[j]) (B := (Sof P M)[j + 1]) (m := .fz) (m' := .fz);rw [lt] at l1;have ec : (((j + 1 : Nat) : Int)) = (j : Int) + 1 := by omega
  rw [ec] at i2;generalize encT (Sof P M)[j] = E1 at *;generalize encT (Sof P M)[j + 1] = E2 at *;generalize (Sof P M).map encT = SS at *;simp [iD,i1,i2,l1]
 have e7 := all_run (f := fun _ : Nat=>true) (m := .fr) (List.range ((Sof P M).length - 1));rw [List.all_eq_true.mpr fun _ _=>rfl] at e7;have el : lenD [(.fz,lx P)] = some (.fz,.int (P.length : Nat)) := by show some (Md.fz,D.int ((P.map D.str).length : Nat)) = _;rw [List.length_map]
 have e8 : compR (.ok .fz (.lst (iN ((Sof P M).map (maskOf P))))) [some (false,.lst (iN M)),some (false,lx P),some (false,.tup ((NSof P M).map encT)),some (false,.tup ((Sof P M).map encT)),some (false,.lst (iN ((Sof P M).map (maskOf P))))] [0,1] 1 (setG (.nm 2)) (fun ρ=>evF (WT TT (k + 3)) [] ρ) (fun ρ=>evE (WT TT (k + 3)) (.andL [(.call "_law_hits" 2 [(.var 2),(.var 0)]),(.call "_law_no_less" 3 [(.var 2),(.var 0),(.bcall .len [(.var 1)])])]) ρ) = .ok .fr (.lst ((Sof P M).map fun A=>.bl true)) := by
  rw [show iN ((Sof P M).map (maskOf P)) = (Sof P M).map fun A=>iD (maskOf P A) from List.map_map]
  refine compR_m (enc := fun A=>iD (maskOf P A)) _ (by omega) fun A hA=>⟨[some (false,.lst (iN M)),some (false,lx P),some (false,iD (maskOf P A))],.fz,by simp [subR],by simp,.fz,?_⟩
  have h1 := call2 (hits (k + 2) (maskOf P A) (M := M) (by omega))
  have h2 := call3 (noless (k + 1) (maskOf P A) P.length (by omega) (M := M) (by omega))
  rw [s_hits hP hM hA] at h1;rw [s_less hP hM hA] at h2;generalize iN M = MM at *;generalize lx P = L at *;simp [iD,h1,h2,el]
 have e9 := all_run (f := fun _ : List Str=>true) (m := .fr) (Sof P M);rw [List.all_eq_true.mpr fun _ _=>rfl] at e9;have it : isiD [(.fz,.tup ((Sof P M).map encT)),(.fz,.ty "tuple")] = some (.fz,.bl true) := rfl;have els : lenD [(.fz,.tup ((Sof P M).map encT))] = some (.fz,.int (((Sof P M).map encT).length : Nat)) := rfl;generalize (Sof P M).map (fun A=>D.bl true) = Z9 at *;generalize (List.range ((Sof P M).length - 1)).map (fun j=>D.bl true) = Z7 at *;generalize iN (List.range ((Sof P M).length - 1)) = R7 at *;generalize iN ((Sof P M).map (maskOf P)) = GG at *;generalize (Sof P M).map encT = SS at *;generalize (NSof P M).map encT = NN at *;generalize (M.map (sel P)).map encT = TT' at *;generalize lx P = L at *;generalize iN M = MM at *;simp at e1 e4 e6 e8;unfold b__law_cut;simp [e1,e2,e3,e4,e5,e6,e7,e8,e9,it,els,er,Ty.id,retS]
end K13
namespace K13
open PySem L2 D3 PySem.Builtin.Str
abbrev ab : Str := "abcdefghijklmnopqrstuvwxyz"
def letters : List Nat := (Str.ofString "abcdefghijklmnopqrstuvwxyz").cps.toList
theorem let_len : letters.length = 26 := by decide +kernel
def lt (v : Int) : Nat := letters.getD (v % 26).toNat 0
theorem ix_s {z : Str} {m m' : Md} {i : Int} {c : Nat} (h : atI z.cps.toList i = some c) : op2 ixD (.ok m (.str z)) (.ok m' (.int i)) = .ok .fz (.str ⟨#[c]⟩) := op2_of (by show (atI z.cps.toList i).map _ = _;rw [h];rfl)
theorem lt_ix (v : Int) {m m' : Md} : op2 ixD (.ok m (.str ab)) (.ok m' (.int (v % 26))) = .ok .fz (.str ⟨#[lt v]⟩) := by
 have h0 := Int.emod_nonneg v (show (26 : Int) ≠ 0 by decide)
 have h1 := Int.emod_lt_of_pos v (show (0 : Int) < 26 by decide)
 have hl := let_len;obtain ⟨j,hj⟩ := Int.eq_ofNat_of_zero_le h0;refine ix_s ?_;show atI letters (v % 26) = some (lt v);unfold lt;rw [hj];have h2 : j < letters.length := by omega
 rw [Int.toNat_natCast,List.getD_eq_getElem?_getD,List.getElem?_eq_getElem h2];exact atI_nat (List.getElem?_eq_getElem h2)
theorem let7 (v : Nat) : letters.getD (v % 26) 0 ∈ letters := by
 have h2 : v % 26 < letters.length := by rw [let_len];exact Nat.mod_lt _ (by decide)
 rw [List.getD_eq_getElem?_getD,List.getElem?_eq_getElem h2];exact List.getElem_mem h2
theorem lt_mem (v : Int) : lt v ∈ letters := by
 have h0 := Int.emod_nonneg v (show (26 : Int) ≠ 0 by decide)
 have h1 := Int.emod_lt_of_pos v (show (0 : Int) < 26 by decide)
 have h2 : (v % 26).toNat < letters.length := by rw [let_len];omega
 unfold lt;rw [List.getD_eq_getElem?_getD,List.getElem?_eq_getElem h2];exact List.getElem_mem h2
theorem join_one : ∀ (l : List Nat),Str.join "" (l.map fun x=>(⟨#[x]⟩ : Str)) = ⟨l.toArray⟩
 | []=>rfl
 | [x]=>rfl
 | x :: y :: l=>by
  have ih := join_one (y :: l);show (⟨#[x]⟩ : Str) ++ "" ++ Str.join "" ((y :: l).map fun x=>(⟨#[x]⟩ : Str)) = _;rw [ih];refine PySem.Str.ext' ?_;rw [PySem.Str.cps_append,PySem.Str.cps_append,show (Str.ofString "").cps = #[] from rfl]
  simp
theorem str_map : ∀ (l : List Nat),strsD (l.map fun x=>D.str ⟨#[x]⟩) = some (l.map fun x=>(⟨#[x]⟩ : Str))
 | []=>rfl
 | x :: l=>by show (strsD (l.map _)).map _ = _;rw [str_map l];rfl
theorem len_one : ∀ (l : List Nat),((l.map fun x=>(⟨#[x]⟩ : Str)).map (·.length)).sum = l.length
 | []=>rfl
 | x :: l=>by simp only [List.map_cons,List.sum_cons,len_one l,List.length_cons];show 1 + _ = _;omega
def stemL (c : Int) : List Nat := [lt (mx c 0),lt (mx c 1),lt (mx c 2),lt (mx c 3)]
theorem stem (k : Nat) (c : Int) (ρ : Rho) (h0 : ρ[0]? = some (some (false,.int c))) (h2 : ρ[2]? = some (some (false,.str ab))) : mthR "str" joinD (.ok .fz (.str "")) (consL (compR (.ok .fz (.lst (iN (List.range 4)))) ρ [2,0] 1 (setG (.nm 2)) (fun ρ=>evF (WT TT (k + 1)) [] ρ) (fun ρ=>evE (WT TT (k + 1)) (.ix (.var 0) (.bin .Mod (.call "_law_mix" 2 [(.var 1),(.var 2)]) (.int 26))) ρ)) (.ok [])) = .ok .fz (.str ⟨(stemL c).toArray⟩) := by
 have ec : compR (.ok .fz (.lst (iN (List.range 4)))) ρ [2,0] 1 (setG (.nm 2)) (fun ρ=>evF (WT TT (k + 1)) [] ρ) (fun ρ=>evE (WT TT (k + 1)) (.ix (.var 0) (.bin .Mod (.call "_law_mix" 2 [(.var 1),(.var 2)]) (.int 26))) ρ) = .ok .fr (.lst ((stemL c).map fun x=>D.str ⟨#[x]⟩)) := by
  have := compR_m (enc := iD) (fun i => D.str ⟨#[lt (mx c i)]⟩) (ρ := ρ) (caps := [2, 0]) (n := 1) (k := setG (.nm 2)) (t := fun ρ => evF (WT TT (k + 1)) [] ρ) (e := fun ρ => evE (WT TT (k + 1)) (.ix (.var 0) (.bin .Mod (.call "_law_mix" 2 [(.var 1), (.var 2)]) (.int 26))) ρ) (m := .fz) (xs := List.range 4) (by decide) (fun i hi => by
      have hi := List.mem_range.mp hi;have m := Mx k (c := c) (p := i) (by omega) (by omega)
      have x := lt_ix (mx c i) (m := .fz) (m' := .fz);refine ⟨[some (false,.str ab),some (false,.int c),some (false,iD i)],.fz,by simp [subR,h0,h2],by simp,.fz,?_⟩
      generalize ab = AB at *;simp [iD,m,x])
  exact this
 rw [ec];show (if isTyD "str" (.str "") = true then Res.of (joinD .fz (.str "") [(.fr,.lst ((stemL c).map fun x=>D.str ⟨#[x]⟩))]) else .stuck) = _;rw [if_pos (by decide)]
 show Res.of (match strsD ((stemL c).map fun x=>D.str ⟨#[x]⟩) with | some ys=>if (ys.map (·.length)).sum + ys.length * (Str.ofString "").length <= sizeLine then some (Md.fz,D.str (Txt.join (Str.ofString "") ys)) else none | none=>none) = _
 rw [str_map];dsimp only;rw [len_one,if_pos (by have : sizeLine = 16777216 := sizeLine_eq;have e : (Str.ofString "").length = 0 := rfl;rw [e];simp [stemL];omega),txt_join,show Str.join (Str.ofString "") ((stemL c).map fun x=>(⟨#[x]⟩ : Str)) = ⟨(stemL c).toArray⟩ from join_one _]
 rfl
theorem stem_let (c : Int) : ∀ x ∈ stemL c,x ∈ letters := fun x hx=>by simp only [stemL,List.mem_cons,List.not_mem_nil,or_false] at hx;rcases hx with rfl | rfl | rfl | rfl <;> exact lt_mem _
theorem lt_apart : ∀ (s : Fin 26) (i j : Fin 12),i ≠ j -> letters.getD ((s.1 + 7 * i.1) % 26) 0 ≠ letters.getD ((s.1 + 7 * j.1) % 26) 0 := by decide +kernel
abbrev stN (n : Nat) (f : Nat -> List Nat) : List Str := (List.range n).map fun j=>⟨(f j).toArray⟩
theorem nd_map {n : Nat} {f : Nat -> List Nat} (h : ∀ i j,i < n -> j < n -> i ≠ j -> f i ≠ f j) : (stN n f).Nodup := by
 show List.Pairwise (· ≠ ·) _;rw [List.pairwise_map];refine List.Pairwise.imp_of_mem (fun {a b} ha hb r e=>?_) (List.nodup_range (n := n));have e1 : (f a).toArray = (f b).toArray := congrArg Str.cps e;have e2 : f a = f b := by simpa using e1
 exact h a b (List.mem_range.mp ha) (List.mem_range.mp hb) r e2
def nA (s : List Nat) (t st j : Nat) : List Nat := s.take t ++ [letters.getD ((st + 7 * j) % 26) 0] ++ s.drop (t + 1)
def nB (s : List Nat) (j : Nat) : List Nat := s ++ List.replicate j 48
def nC (s : List Nat) (st j : Nat) : List Nat := [letters.getD ((st + 7 * j) % 26) 0] ++ s.take ((st + j) % 4)
theorem apartN {n st i j : Nat} (hn : n <= 12) (hs : st < 26) (hi : i < n) (hj : j < n) (h : i ≠ j) : letters.getD ((st + 7 * i) % 26) 0 ≠ letters.getD ((st + 7 * j) % 26) 0 :=
 lt_apart ⟨st,hs⟩ ⟨i,by omega⟩ ⟨j,by omega⟩ fun e=>h (congrArg Fin.val e)
theorem ndA {s : List Nat} {n t st : Nat} (hn : n <= 12) (hs : st < 26) : (stN n (nA s t st)).Nodup := nd_map fun i j hi hj h e=>by unfold nA at e;rw [List.append_assoc,List.append_assoc] at e;have e := List.append_cancel_left e;exact apartN hn hs hi hj h (List.cons.inj e).1
theorem ndB {s : List Nat} {n : Nat} : (stN n (nB s)).Nodup := nd_map fun i j hi hj h e=>by unfold nB at e;have := congrArg List.length e;simp at this;exact h this
theorem ndC {s : List Nat} {n st : Nat} (hn : n <= 12) (hs : st < 26) : (stN n (nC s st)).Nodup := nd_map fun i j hi hj h e=>apartN hn hs hi hj h (List.cons.inj e).1
theorem ok_signs : ∀ c ∈ 48 :: letters,PyData.strOk ⟨#[c]⟩ = true := by decide +kernel
theorem ok_of {l : List Nat} (hl : l.length <= 100) (h : ∀ x ∈ l,x ∈ 48 :: letters) : okS ⟨l.toArray⟩ := by
 have zl : sizeLine = 16777216 := sizeLine_eq;refine ⟨by show l.toArray.size <= _;rw [List.size_toArray];omega,?_⟩
 unfold PyData.strOk;rw [Array.all_eq_true_iff_forall_mem];intro x hx;have hx : x ∈ l := by simpa using hx
 have := ok_signs x (h x hx);unfold PyData.strOk at this;rw [Array.all_eq_true_iff_forall_mem] at this;exact this x (by simp)
theorem pool_of {L : List Str} {n : Nat} (hn : L.Nodup) (hl : L.length = n) (h12 : n <= 12) (h : ∀ x ∈ L,okS x) : Pool (uni L) /\ (uni L).length = n := by
 have nu : (uni L).Nodup := nodup_of_strict (uni_strict L);have e : (uni L).length = n := Nat.le_antisymm (by rw [<- hl];exact len_le nu fun y hy=>uni_mem.mp hy) (by rw [<- hl];exact len_le hn fun y hy=>uni_mem.mpr hy)
 exact ⟨⟨uni_strict L,fun x hx=>h x (uni_mem.mp hx),by omega⟩,e⟩
def namesL (c : Int) (n : Nat) : List Str :=
 if mx c 7 % 4 = 0 then stN n (nB (stemL c)) else if mx c 7 % 4 = 1 then stN n (nC (stemL c) (mx c 6 % 26).toNat) else stN n (nA (stemL c) (mx c 5 % 4).toNat (mx c 6 % 26).toNat)
theorem names_pool (c : Int) {n : Nat} (hn : n <= 12) : (Pool (uni (namesL c n)) /\ (uni (namesL c n)).length = n) /\ (namesL c n).Nodup /\ (namesL c n).length = n := by
 have h26 : (mx c 6 % 26).toNat < 26 := by have := Int.emod_lt_of_pos (mx c 6) (show (0 : Int) < 26 by decide);omega
 have sl : (stemL c).length = 4 := rfl;have slt : ∀ x ∈ stemL c,x ∈ 48 :: letters := fun x hx=>mcm (stem_let c x hx);have l7 : ∀ v : Nat,letters.getD (v % 26) 0 ∈ 48 :: letters := fun v=>mcm (let7 v);have key : (namesL c n).Nodup /\ (namesL c n).length = n /\ ∀ x ∈ namesL c n,okS x := by
  unfold namesL;generalize stemL c = S at *;split
  . refine ⟨ndB,by simp,fun x hx=>?_⟩
    obtain ⟨j,hj,rfl⟩ := List.mem_map.mp hx;have hj := List.mem_range.mp hj;refine ok_of (by unfold nB;simp;omega) fun x hx=>?_
    rcases List.mem_append.mp hx with hx | hx
    . exact slt x hx
    . rw [(List.mem_replicate.mp hx).2];exact mcs
  . split
    . refine ⟨ndC hn h26,by simp,fun x hx=>?_⟩
      obtain ⟨j,hj,rfl⟩ := List.mem_map.mp hx;refine ok_of (by unfold nC;simp;omega) fun x hx=>?_
      rcases List.mem_append.mp hx with hx | hx
      . rw [List.mem_singleton.mp hx];exact l7 _
      . exact slt x (List.mem_of_mem_take hx)
    . refine ⟨ndA hn h26,by simp,fun x hx=>?_⟩
      obtain ⟨j,hj,rfl⟩ := List.mem_map.mp hx;refine ok_of (by unfold nA;simp;omega) fun x hx=>?_
      rcases List.mem_append.mp hx with hx | hx
      . rcases List.mem_append.mp hx with hx | hx
        . exact slt x (List.mem_of_mem_take hx)
        . rw [List.mem_singleton.mp hx];exact l7 _
      . exact slt x (List.mem_of_mem_drop hx)
 exact ⟨pool_of key.1 key.2.1 hn key.2.2,key.1,key.2.1⟩
theorem fold_rep (x : Nat) : ∀ (k : Nat) (acc : Array Nat),(List.replicate k #[x]).foldl (· ++ ·) acc = acc ++ (List.replicate k x).toArray
 | 0,acc=>by simp
 | k + 1,acc=>by rw [List.replicate_succ,List.foldl_cons,fold_rep x k,List.replicate_succ];apply Array.ext';simp
theorem mul_rep (x k : Nat) : Txt.mul ⟨#[x]⟩ ((k + 1 : Nat) : Int) = ⟨(List.replicate (k + 1) x).toArray⟩ := by
 unfold Txt.mul;rw [if_neg (by omega)]
 cases k with
 | zero=>rfl
 | succ k =>
  have h : ((((k + 1 + 1 : Nat) : Int) == 1) || ((⟨#[x]⟩ : Str).length == 0)) = false := by have : (⟨#[x]⟩ : Str).length = 1 := rfl;rw [this,Bool.or_eq_false_iff];exact ⟨by simpa using (by omega : ¬ ((k + 1 + 1 : Nat) : Int) = 1),rfl⟩
  rw [h];rw [if_neg (by decide),Int.toNat_natCast,fold_rep]
  simp
theorem mul_s (x n : Nat) (hn : n <= 1000) {m m' : Md} : op2 (fBin .Mult) (.ok m (.str ⟨#[x]⟩)) (.ok m' (.int (n : Int))) = .ok .fz (.str ⟨(List.replicate n x).toArray⟩) := by
 have hs : sizeLine = 16777216 := sizeLine_eq;have l1 : (⟨#[x]⟩ : Str).length = 1 := rfl;refine op2_of ?_;show orO (orO _ mulS) mulS0 m (.str ⟨#[x]⟩) m' (.int (n : Int)) = _;unfold orO;cases n with
 | zero =>
  have e1 : mulS m (.str ⟨#[x]⟩) m' (.int ((0 : Nat) : Int)) = none := by simp [mulS]
  rw [e1];rfl
 | succ k =>
  have e1 : mulS m (.str ⟨#[x]⟩) m' (.int ((k + 1 : Nat) : Int)) = some (.fz,.str ⟨(List.replicate (k + 1) x).toArray⟩) := by show (if (decide ((1 : Int) <= ((k + 1 : Nat) : Int)) && decide (((k + 1 : Nat) : Int) <= 1000000) && decide ((⟨#[x]⟩ : Str).length * (((k + 1 : Nat) : Int)).toNat <= sizeLine)) = true then some (Md.fz,D.str (Txt.mul ⟨#[x]⟩ ((k + 1 : Nat) : Int))) else none) = _;rw [if_pos (by rw [l1,Int.toNat_natCast];simp only [Bool.and_eq_true,decide_eq_true_eq];omega),mul_rep]
  rw [e1];rfl
theorem slP_hi {z : Str} {m m' : Md} {g : Rho -> Res} {ρ : Rho} {i : Int} (h : g ρ = .ok m' (.int i)) : slP (.ok m (.str z)) none (some g) ρ = .ok .fz (.str (Txt.slice z none (some i))) := by
 show ((g ρ).thn fun _ d=>match d with | .int i=>Res.ok .fz (.str (Txt.slice z none (some i))) | _=>.stuck) = _
 rw [h];rfl
theorem slP_lo {z : Str} {m m' : Md} {g : Rho -> Res} {ρ : Rho} {i : Int} (h : g ρ = .ok m' (.int i)) : slP (.ok m (.str z)) (some g) none ρ = .ok .fz (.str (Txt.slice z (some i) none)) := by
 show ((g ρ).thn fun _ d=>match d with | .int i=>Res.ok .fz (.str (Txt.slice z (some i) none)) | _=>.stuck) = _
 rw [h];rfl
theorem cut4 (a b c d : Nat) : ∀ n : Nat,n <= 4 -> Txt.slice ⟨[a,b,c,d].toArray⟩ none (some (n : Int)) = ⟨([a,b,c,d].take n).toArray⟩
 | 0,_=>rfl | 1,_=>rfl | 2,_=>rfl | 3,_=>rfl | 4,_=>rfl
 | n + 5,h=>by omega
theorem from4 (a b c d : Nat) {n : Nat} (h : n <= 4) : Txt.slice ⟨[a,b,c,d].toArray⟩ (some (n : Int)) none = ⟨([a,b,c,d].drop n).toArray⟩ := by
 have hl : (⟨[a,b,c,d].toArray⟩ : Str).length = 4 := rfl;have i0 : strSliceIndices (some 0) none 1 4 = [0,1,2,3] := by decide +kernel
 have i1 : strSliceIndices (some 1) none 1 4 = [1,2,3] := by decide +kernel
 have i2 : strSliceIndices (some 2) none 1 4 = [2,3] := by decide +kernel
 have i3 : strSliceIndices (some 3) none 1 4 = [3] := by decide +kernel
 have i4 : strSliceIndices (some 4) none 1 4 = [] := by decide +kernel
 unfold Txt.slice;rw [hl];have : n = 0 \/ n = 1 \/ n = 2 \/ n = 3 \/ n = 4 := by omega
 rcases this with rfl | rfl | rfl | rfl | rfl
 . show (if (_ && (strSliceIndices (some 0) none 1 4).length == 4) = true then _ else _) = _;rw [i0];rfl
 . show (if (_ && (strSliceIndices (some 1) none 1 4).length == 4) = true then _ else (⟨((strSliceIndices (some 1) none 1 4).filterMap _).toArray⟩ : Str)) = _;rw [i1];rfl
 . show (if (_ && (strSliceIndices (some 2) none 1 4).length == 4) = true then _ else (⟨((strSliceIndices (some 2) none 1 4).filterMap _).toArray⟩ : Str)) = _;rw [i2];rfl
 . show (if (_ && (strSliceIndices (some 3) none 1 4).length == 4) = true then _ else (⟨((strSliceIndices (some 3) none 1 4).filterMap _).toArray⟩ : Str)) = _;rw [i3];rfl
 . show (if (_ && (strSliceIndices (some 4) none 1 4).length == 4) = true then _ else (⟨((strSliceIndices (some 4) none 1 4).filterMap _).toArray⟩ : Str)) = _;rw [i4];rfl
theorem app_l (a b : List Nat) : (⟨a.toArray⟩ : Str) ++ ⟨b.toArray⟩ = ⟨(a ++ b).toArray⟩ := by refine PySem.Str.ext' ?_;rw [PySem.Str.cps_append];simp
theorem add_l {a b : List Nat} (h : a.length + b.length <= 2000) {m m' : Md} : op2 (fBin .Add) (.ok m (.str ⟨a.toArray⟩)) (.ok m' (.str ⟨b.toArray⟩)) = .ok .fz (.str ⟨(a ++ b).toArray⟩) := by rw [x_addS (by have : sizeLine = 16777216 := sizeLine_eq;simp [PySem.Str.length];omega),app_l]
theorem lt_nat {st : Nat} {j : Nat} {m m' : Md} : op2 ixD (.ok m (.str ab)) (.ok m' (.int (((st : Int) + 7 * (j : Int)) % 26))) = .ok .fz (.str ⟨[letters.getD ((st + 7 * j) % 26) 0].toArray⟩) := by
 rw [lt_ix];have : (((st : Int) + 7 * (j : Int)) % 26).toNat = (st + 7 * j) % 26 := by omega
 unfold lt;rw [this]
theorem stN_D (n : Nat) (f : Nat -> List Nat) : (stN n f).map D.str = (List.range n).map fun j=>.str ⟨(f j).toArray⟩ := by unfold stN;rw [List.map_map];rfl
section
variable (k : Nat) {a b c d : Nat} {n t st : Nat} (hn : n <= 12) (ρ : Rho) (h3 : ρ[3]? = some (some (false,.str ⟨[a,b,c,d].toArray⟩)))
include hn h3
theorem wayB : compR (.ok .fz (.lst (iN (List.range n)))) ρ [3] 1 (setG (.nm 1)) (fun ρ=>evF (WT TT k) [] ρ) (fun ρ=>evE (WT TT k) (.bin .Add (.var 0) (.bin .Mult (.str "0") (.var 1))) ρ) = .ok .fr (lx (stN n (nB [a,b,c,d]))) := by
 show _ = Res.ok Md.fr (.lst ((stN n (nB [a,b,c,d])).map D.str));rw [stN_D];refine compR_m (enc := iD) _ (by have : sizeLine = 16777216 := sizeLine_eq;simp;omega) fun i hi=>?_
 have hi := List.mem_range.mp hi;have ml := mul_s 48 i (by omega) (m := .fz) (m' := .fz)
 rw [show (⟨#[48]⟩ : Str) = "0" from rfl] at ml
 have a1 := add_l (a := [a,b,c,d]) (b := List.replicate i 48) (m := .fz) (m' := .fz) (by simp;omega)
 refine ⟨[some (false,.str ⟨[a,b,c,d].toArray⟩),some (false,iD i)],.fz,by simp [subR,h3],by simp,.fz,?_⟩
 unfold nB;generalize (⟨([a,b,c,d] ++ List.replicate i 48).toArray⟩ : Str) = Z2 at *;generalize (⟨[a,b,c,d].toArray⟩ : Str) = Z at *;generalize (⟨(List.replicate i 48).toArray⟩ : Str) = Z1 at *;simp [iD,ml,a1]
theorem wayC (h2 : ρ[2]? = some (some (false,.str ab))) (h5 : ρ[5]? = some (some (false,.int (st : Int)))) : compR (.ok .fz (.lst (iN (List.range n)))) ρ [2,3,5] 1 (setG (.nm 3)) (fun ρ=>evF (WT TT k) [] ρ) (fun ρ=>evE (WT TT k) (.bin .Add (.ix (.var 0) (.bin .Mod (.bin .Add (.var 2) (.bin .Mult (.int 7) (.var 3))) (.int 26))) (.slice (.var 1) none (some (.bin .Mod (.bin .Add (.var 2) (.var 3)) (.int 4))))) ρ) = .ok .fr (lx (stN n (nC [a,b,c,d] st))) := by
 show _ = Res.ok Md.fr (.lst ((stN n (nC [a,b,c,d] st)).map D.str));rw [stN_D];refine compR_m (enc := iD) _ (by have : sizeLine = 16777216 := sizeLine_eq;simp;omega) fun i hi=>?_
 have hi := List.mem_range.mp hi;have x1 := lt_nat (st := st) (j := i) (m := .fz) (m' := .fz);have mm := x_mulL (i := 7) (j := (i : Int)) (m := .fz) (n := .fz) (by decide)
 have em : ((st : Int) + (i : Int)) % 4 = (((st + i) % 4 : Nat) : Int) := by omega
 have sl : slP (.ok .fz (.str ⟨[a,b,c,d].toArray⟩)) none (some (evE (WT TT k) (.bin .Mod (.bin .Add (.var 2) (.var 3)) (.int 4)))) [some (false,.str ab),some (false,.str ⟨[a,b,c,d].toArray⟩),some (false,.int (st : Int)),some (false,.int (i : Int))] = .ok .fz (.str ⟨([a,b,c,d].take ((st + i) % 4)).toArray⟩) := by rw [slP_hi (i := (((st + i) % 4 : Nat) : Int)) (m' := .fz) (by rw [<- em];simp),cut4 a b c d _ (by omega)]
 have a1 := add_l (a := [letters.getD ((st + 7 * i) % 26) 0]) (b := [a,b,c,d].take ((st + i) % 4)) (m := .fz) (m' := .fz) (by simp;omega)
 refine ⟨[some (false,.str ab),some (false,.str ⟨[a,b,c,d].toArray⟩),some (false,.int (st : Int)),some (false,.int (i : Int))],.fz,by simp [subR,h2,h3,h5,iD],by simp,.fz,?_⟩
 unfold nC;generalize (⟨([letters.getD ((st + 7 * i) % 26) 0] ++ [a,b,c,d].take ((st + i) % 4)).toArray⟩ : Str) = Z2 at *;generalize (⟨([a,b,c,d].take ((st + i) % 4)).toArray⟩ : Str) = Z1 at *;generalize (⟨[letters.getD ((st + 7 * i) % 26) 0].toArray⟩ : Str) = Z0 at *;generalize (⟨[a,b,c,d].toArray⟩ : Str) = S at *;generalize ab = AB at *;simp [x1,sl,a1,mm]
theorem wayA (ht : t < 4) (h2 : ρ[2]? = some (some (false,.str ab))) (h4 : ρ[4]? = some (some (false,.int (t : Int)))) (h5 : ρ[5]? = some (some (false,.int (st : Int)))) : compR (.ok .fz (.lst (iN (List.range n)))) ρ [3,2,4,5] 1 (setG (.nm 4)) (fun ρ=>evF (WT TT k) [] ρ) (fun ρ=>evE (WT TT k) (.bin .Add (.bin .Add (.slice (.var 0) none (some (.var 2))) (.ix (.var 1) (.bin .Mod (.bin .Add (.var 3) (.bin .Mult (.int 7) (.var 4))) (.int 26)))) (.slice (.var 0) (some (.bin .Add (.var 2) (.int 1))) none)) ρ) = .ok .fr (lx (stN n (nA [a,b,c,d] t st))) := by
 show _ = Res.ok Md.fr (.lst ((stN n (nA [a,b,c,d] t st)).map D.str));rw [stN_D];refine compR_m (enc := iD) _ (by have : sizeLine = 16777216 := sizeLine_eq;simp;omega) fun i hi=>?_
 have hi := List.mem_range.mp hi;have x1 := lt_nat (st := st) (j := i) (m := .fz) (m' := .fz);have mm := x_mulL (i := 7) (j := (i : Int)) (m := .fz) (n := .fz) (by decide)
 have s1 : slP (.ok .fz (.str ⟨[a,b,c,d].toArray⟩)) none (some (evE (WT TT k) (.var 2))) [some (false,.str ⟨[a,b,c,d].toArray⟩),some (false,.str ab),some (false,.int (t : Int)),some (false,.int (st : Int)),some (false,.int (i : Int))] = .ok .fz (.str ⟨([a,b,c,d].take t).toArray⟩) := by rw [slP_hi (i := (t : Int)) (m' := .fz) (by simp),cut4 a b c d _ (by omega)]
 have s2 : slP (.ok .fz (.str ⟨[a,b,c,d].toArray⟩)) (some (evE (WT TT k) (.bin .Add (.var 2) (.int 1)))) none [some (false,.str ⟨[a,b,c,d].toArray⟩),some (false,.str ab),some (false,.int (t : Int)),some (false,.int (st : Int)),some (false,.int (i : Int))] = .ok .fz (.str ⟨([a,b,c,d].drop (t + 1)).toArray⟩) := by rw [slP_lo (i := ((t + 1 : Nat) : Int)) (m' := .fz) (by simp),from4 a b c d (by omega)]
 have a1 := add_l (a := [a,b,c,d].take t) (b := [letters.getD ((st + 7 * i) % 26) 0]) (m := .fz) (m' := .fz) (by simp;omega)
 have a2 := add_l (a := [a,b,c,d].take t ++ [letters.getD ((st + 7 * i) % 26) 0]) (b := [a,b,c,d].drop (t + 1)) (m := .fz) (m' := .fz) (by simp;omega)
 refine ⟨[some (false,.str ⟨[a,b,c,d].toArray⟩),some (false,.str ab),some (false,.int (t : Int)),some (false,.int (st : Int)),some (false,.int (i : Int))],.fz,by simp [subR,h2,h3,h4,h5,iD],by simp,.fz,?_⟩
 unfold nA;generalize (⟨([a,b,c,d].take t ++ [letters.getD ((st + 7 * i) % 26) 0] ++ [a,b,c,d].drop (t + 1)).toArray⟩ : Str) = Z3 at *;generalize (⟨([a,b,c,d].take t ++ [letters.getD ((st + 7 * i) % 26) 0]).toArray⟩ : Str) = Z2 at *;generalize (⟨([a,b,c,d].take t).toArray⟩ : Str) = Z1 at *;generalize (⟨([a,b,c,d].drop (t + 1)).toArray⟩ : Str) = Z4 at *;generalize (⟨[letters.getD ((st + 7 * i) % 26) 0].toArray⟩ : Str) = Z0 at *;generalize (⟨[a,b,c,d].toArray⟩ : Str) = S at *;generalize ab = AB at *;simp [x1,s1,s2,a1,a2,mm]
end
end K13
namespace K13
open PySem L2 D3
theorem srt_strs {m : Md} {L : List Str} (nd : L.Nodup) (hl : L.length < 64) : CallD.or' srtD srtTD [(m,lx L)] = some (.fr,lx (uni L)) := by
 have e : srtD [(m,lx L)] = some (.fr,lx (uni L)) := by
  show (match txD (L.map .str) with | some ns=>if ns.Nodup /\ ns.length < 64 then some (Md.fr,D.lst ((uni ns).map .str)) else none | none=>none) = _
  rw [txD_strs];dsimp only;rw [if_pos ⟨nd,hl⟩]
 unfold CallD.or';rw [e];rfl
theorem n_first (k : Nat) (c : Int) {n : Int} : evB (WT TT (k + 1)) (b__law_names.take 4) [some (false,.int c),some (false,.int n),none,none,none,none,none] = .nx [some (false,.int c),some (false,.int n),some (false,.str ab),some (false,.str ⟨(stemL c).toArray⟩),some (false,.int (mx c 5 % 4)),some (false,.int (mx c 6 % 26)),none] := by
 have st := stem k c [some (false,.int c),some (false,.int n),some (false,.str ab),none,none,none,none] rfl rfl;have er : rng1R (.ok [(.fz,.int 4)]) = .ok .fz (.lst (iN (List.range 4))) := rng_run (n := 4) (by omega)
 have m5 := Mx k (c := c) (p := 5) (by decide) (by decide)
 have m6 := Mx k (c := c) (p := 6) (by decide) (by decide)
 generalize (⟨(stemL c).toArray⟩ : Str) = S at *;generalize iN (List.range 4) = R at *;simp at st;simp [b__law_names,st,er,m5,m6]
theorem n_end (k : Nat) {c n w : Int} {AB S A0 ST : D} {R P1 P2 P3 : List D} {G : D} (m7 : callF 2 ((WT TT k).Φ "_law_mix") (.ok [(.fz,.int c),(.fz,.int 7)]) = .ok .fz (.int w)) (er : rng1R (.ok [(.fz,.int n)]) = .ok .fz (.lst R)) (c1 : compR (.ok .fz (.lst R)) [some (false,.int c),some (false,.int n),some (false,AB),some (false,S),some (false,A0),some (false,ST),none] [3,2,4,5] 1 (setG (.nm 4)) (fun ρ=>evF (WT TT k) [] ρ) (fun ρ=>evE (WT TT k) (.bin .Add (.bin .Add (.slice (.var 0) none (some (.var 2))) (.ix (.var 1) (.bin .Mod (.bin .Add (.var 3) (.bin .Mult (.int 7) (.var 4))) (.int 26)))) (.slice (.var 0) (some (.bin .Add (.var 2) (.int 1))) none)) ρ) = .ok .fr (.lst P1)) (c2 : ∀ x,compR (.ok .fz (.lst R)) [some (false,.int c),some (false,.int n),some (false,AB),some (false,S),some (false,A0),some (false,ST),x] [3] 1 (setG (.nm 1)) (fun ρ=>evF (WT TT k) [] ρ) (fun ρ=>evE (WT TT k) (.bin .Add (.var 0) (.bin .Mult (.str "0") (.var 1))) ρ) = .ok .fr (.lst P2)) (c3 : ∀ x,compR (.ok .fz (.lst R)) [some (false,.int c),some (false,.int n),some (false,AB),some (false,S),some (false,A0),some (false,ST),x] [2,3,5] 1 (setG (.nm 3)) (fun ρ=>evF (WT TT k) [] ρ) (fun ρ=>evE (WT TT k) (.bin .Add (.ix (.var 0) (.bin .Mod (.bin .Add (.var 2) (.bin .Mult (.int 7) (.var 3))) (.int 26))) (.slice (.var 1) none (some (.bin .Mod (.bin .Add (.var 2) (.var 3)) (.int 4))))) ρ) = .ok .fr (.lst P3)) (sr : CallD.or' srtD srtTD [(.fz,.lst (if w % 4 = 0 then P2 else if w % 4 = 1 then P3 else P1))] = some (.fr,G)) : evB (WT TT k) (b__law_names.drop 4) [some (false,.int c),some (false,.int n),some (false,AB),some (false,S),some (false,A0),some (false,ST),none] = .rt .fr G := by
 simp at c1 c2 c3;by_cases h0 : w % 4 = 0
 . rw [if_pos h0] at sr;simp [b__law_names,er,c1,c2,c3,m7,h0,sr]
 . have h0' : (w % 4 == 0) = false := by simpa using h0
   rw [if_neg h0] at sr;by_cases h1 : w % 4 = 1
   . rw [if_pos h1] at sr;simp [b__law_names,er,c1,c2,c3,m7,h0',h1,sr]
   . have h1' : (w % 4 == 1) = false := by simpa using h1
     rw [if_neg h1] at sr;simp [b__law_names,er,c1,c2,c3,m7,h0',h1',sr]
theorem names (k : Nat) (c : Int) {n : Nat} (hn : n <= 12) : (WT TT (k + 2)).Φ "_law_names" [.int c,.int n] = .ok .fr (lx (uni (namesL c n))) := by
 rw [u__law_names];refine phi_ok rfl ?_;show evB _ b__law_names [some (false,.int c),some (false,.int n),none,none,none,none,none] = _;rw [show b__law_names = b__law_names.take 4 ++ b__law_names.drop 4 from (List.take_append_drop 4 _).symm,b_app,n_first k c,SRes.thn_nx]
 have h26 := Int.emod_lt_of_pos (mx c 6) (show (0 : Int) < 26 by decide)
 have h260 := Int.emod_nonneg (mx c 6) (show (26 : Int) ≠ 0 by decide)
 have h4 := Int.emod_lt_of_pos (mx c 5) (show (0 : Int) < 4 by decide)
 have h40 := Int.emod_nonneg (mx c 5) (show (4 : Int) ≠ 0 by decide)
 obtain ⟨st,hst⟩ := Int.eq_ofNat_of_zero_le h260;obtain ⟨t,ht⟩ := Int.eq_ofNat_of_zero_le h40;have np := names_pool c hn;have m7 := Mx k (c := c) (p := 7) (by decide) (by decide)
 have er := rng_run (n := n) (by omega)
 have en : namesL c n = if mx c 7 % 4 = 0 then stN n (nB (stemL c)) else if mx c 7 % 4 = 1 then stN n (nC (stemL c) st) else stN n (nA (stemL c) t st) := by unfold namesL;rw [hst,ht,Int.toNat_natCast,Int.toNat_natCast]
 rw [hst,ht];refine n_end (k + 1) m7 er (wayA (k + 1) (a := lt (mx c 0)) (b := lt (mx c 1)) (c := lt (mx c 2)) (d := lt (mx c 3)) (t := t) (st := st) hn _ rfl (by omega) rfl rfl rfl) (fun x=>wayB (k + 1) (a := lt (mx c 0)) (b := lt (mx c 1)) (c := lt (mx c 2)) (d := lt (mx c 3)) hn _ rfl)
  (fun x=>wayC (k + 1) (a := lt (mx c 0)) (b := lt (mx c 1)) (c := lt (mx c 2)) (d := lt (mx c 3)) (st := st) hn _ rfl rfl rfl) ?_
 have s := srt_strs (m := .fz) np.2.1 (by rw [np.2.2];omega)
 have e2 : lx (namesL c n) = .lst (if mx c 7 % 4 = 0 then (stN n (nB [lt (mx c 0),lt (mx c 1),lt (mx c 2),lt (mx c 3)])).map .str else if mx c 7 % 4 = 1 then (stN n (nC [lt (mx c 0),lt (mx c 1),lt (mx c 2),lt (mx c 3)] st)).map .str else (stN n (nA [lt (mx c 0),lt (mx c 1),lt (mx c 2),lt (mx c 3)] t st)).map .str) := by
  show D.lst ((namesL c n).map .str) = _;rw [en];split
  . rfl
  . split <;> rfl
 rw [<- e2];exact s
theorem in2 {p q : Nat} {m m' : Md} : op2 (fCmp .In) (.ok m (.int (p : Int))) (.ok m' (.lst [.int (q : Int),.int ((q : Int) + 1)])) = .ok .fz (.bl (p == q || p == q + 1)) := by
 refine op2_of ?_;have e1 : (((q : Int) == (p : Int)) || (((q : Int) + 1 == (p : Int)) || false)) = (p == q || p == q + 1) := by rw [Bool.eq_iff_iff];simp;omega
 show some (Md.fz,D.bl (if false = true then _ else (((q : Int) == (p : Int)) || (((q : Int) + 1 == (p : Int)) || false)))) = _;rw [if_neg (by decide),e1]
def pickF (q : Nat) (c : Int) : Nat := (fitL q).getD (mx c 9 % ((fitL q).length : Int)).toNat 0
theorem pick_mem {q : Nat} (hq : q < 5) (c : Int) : pickF q c ∈ fitL q := by
 have h := fit_pos q hq;have h1 := Int.emod_lt_of_pos (mx c 9) (show (0 : Int) < ((fitL q).length : Int) by omega)
 have h2 : (mx c 9 % ((fitL q).length : Int)).toNat < (fitL q).length := by omega
 unfold pickF;rw [List.getD_eq_getElem?_getD,List.getElem?_eq_getElem h2];exact List.getElem_mem h2
theorem pick_ix {q : Nat} (hq : q < 5) (c : Int) {m m' : Md} : op2 ixD (.ok m (.lst (iN (fitL q)))) (.ok m' (.int (mx c 9 % ((fitL q).length : Int)))) = .ok .fz (iD (pickF q c)) := by
 have h := fit_pos q hq;have h0 := Int.emod_nonneg (mx c 9) (show ((fitL q).length : Int) ≠ 0 by omega)
 have h1 := Int.emod_lt_of_pos (mx c 9) (show (0 : Int) < ((fitL q).length : Int) by omega)
 unfold pickF;obtain ⟨j,hj⟩ := Int.eq_ofNat_of_zero_le h0;rw [hj,Int.toNat_natCast];have h2 : j < (fitL q).length := by omega
 refine op2_of ?_;show (atI (iN (fitL q)) (j : Int)).map _ = _;rw [atI_nat (j := j) (show (iN (fitL q))[j]? = some (iD (fitL q)[j]) by rw [List.getElem?_map,List.getElem?_eq_getElem h2];rfl),List.getD_eq_getElem?_getD,List.getElem?_eq_getElem h2]
 rfl
def Sc (q : Nat) (ns : List Int) : List Nat := leastL (ns.map (pickF q))
theorem masks (k : Nat) {q : Nat} (hq : q < 5) (ns : List Int) (hn : ns.length <= 63) : (WT TT (k + 2)).Φ "_law_masks" [.lst (ns.map .int),.int q] = .ok .fr (.lst (iN (Sc q ns))) := by
 rw [u__law_masks];refine phi_ok rfl ?_;show evB _ b__law_masks [some (false,.lst (ns.map .int)),some (false,.int q),none] = _;have zl : sizeLine = 16777216 := sizeLine_eq;have er : rng1R (.ok [(.fz,.int 32)]) = .ok .fz (.lst (iN (List.range 32))) := rng_run (n := 32) (by omega)
 have c1 : compR (.ok .fz (.lst (iN (List.range 32)))) [some (false,.lst (ns.map .int)),some (false,.int q),none] [1] 1 (setG (.nm 1)) (fun ρ=>evF (WT TT (k + 1)) [(.cmp .In (.call "_law_bits" 1 [(.var 1)]) (.lst [(.var 0),(.frz (.bin .Add (.var 0) (.int 1)))]))] ρ) (fun ρ=>evE (WT TT (k + 1)) (.var 1) ρ) = .ok .fr (.lst (iN (fitL q))) := by
  refine compR_fm (enc := iD) (fun m=>popc m == q || popc m == q + 1) iD (by decide) fun m hm=>⟨[some (false,.int q),some (false,iD m)],.fz,by simp [subR],?_,fun _=>⟨.fz,by simp [iD]⟩⟩
  have b := call1 (lawbits k m);have i := in2 (p := popc m) (q := q) (m := .fz) (m' := .fr);have l : lstR (.ok [(.fz,.int (q : Int)),(.fz,.int ((q : Int) + 1))]) = .ok .fr (.lst [.int (q : Int),.int ((q : Int) + 1)]) := rfl;simp [iD,b,l,i]
 have c2 : compR (.ok .fz (.lst (ns.map .int))) [some (false,.lst (ns.map .int)),some (false,.int q),some (false,.lst (iN (fitL q)))] [2] 1 (setG (.nm 1)) (fun ρ=>evF (WT TT (k + 1)) [] ρ) (fun ρ=>evE (WT TT (k + 1)) (.ix (.var 0) (.bin .Mod (.call "_law_mix" 2 [(.var 1),(.int 9)]) (.bcall .len [(.var 0)]))) ρ) = .ok .fr (.lst (iN (ns.map (pickF q)))) := by
  rw [show iN (ns.map (pickF q)) = ns.map fun c=>iD (pickF q c) from List.map_map]
  refine compR_m (enc := D.int) _ (by omega) fun c hc=>⟨[some (false,.lst (iN (fitL q))),some (false,.int c)],.fz,by simp [subR],by simp,.fz,?_⟩
  have m9 := Mx k (c := c) (p := 9) (by decide) (by decide)
  have p := pick_ix hq c (m := .fz) (m' := .fz);have el : lenD [(.fz,.lst (iN (fitL q)))] = some (.fz,.int ((fitL q).length : Nat)) := by show some (Md.fz,D.int ((iN (fitL q)).length : Nat)) = _;rw [List.length_map]
  have pos : (0 : Int) < ((fitL q).length : Int) := by have := fit_pos q hq;omega
  generalize ((fitL q).length : Int) = z at *;generalize iN (fitL q) = FF at *;simp [m9,p,el,pos]
 have ls := callR1 (least k (L := ns.map (pickF q)) (by simp;omega))
 unfold Sc;generalize iN (leastL (ns.map (pickF q))) = LL at *;generalize iN (ns.map (pickF q)) = PP' at *;generalize iN (fitL q) = FF at *;generalize iN (List.range 32) = RR at *;generalize ns.map D.int = NN at *;simp at c1 c2;simp [b__law_masks,er,c1,c2,ls]
theorem bel_of {n x : Nat} (h : x < 2 ^ n) : ∀ i,x.testBit i = true -> i < n := fun i hi=>by
 apply Classical.byContradiction;intro hn;have := Nat.ge_two_pow_of_testBit hi;have := Nat.pow_le_pow_right (show 0 < 2 by decide) (Nat.not_lt.mp hn)
 omega
theorem ms_of {P : List Str} {L : List Nat} (hb : ∀ x ∈ L,x < 2 ^ P.length) (hl : L.length < 64) : Ms P (leastL L) := by refine ⟨least_nd L,fun x hx y hy h=>least_anti hx hy h,fun m hm=>bel_of (hb m (least_mem.mp hm).1),?_⟩;have := fold_len L L [];simp at this;exact Nat.lt_of_le_of_lt this hl
theorem cut_hi {ds : List D} {i : Nat} : cutD ds none (some (i : Int)) = ds.take i := by
 unfold cutD;rw [HT.sIx_none,HT.sIx_nat,List.drop_zero,Nat.sub_zero];by_cases h : i <= ds.length
 . rw [Nat.min_eq_left h]
 . rw [Nat.min_eq_right (by omega),List.take_length,List.take_of_length_le (by omega)]
def c0 (ns : List Int) : Int := (ns.take 1).sum
theorem sum_cut (W : WD) (ns : List Int) (ρ : Rho) {m : Md} : callR (CallD.or' sumD sumI) (consL (slP (.ok m (.lst (ns.map D.int))) none (some (evE W (.int 1))) ρ) (.ok [])) = .ok .fz (.int (c0 ns)) := by
 have e1 : slP (.ok m (.lst (ns.map D.int))) none (some (evE W (.int 1))) ρ = .ok .fr (.lst ((ns.take 1).map D.int)) := by show Res.ok Md.fr (.lst (cutD (ns.map D.int) none (some ((1 : Nat) : Int)))) = _;rw [cut_hi,List.map_take]
 rw [e1];show callR _ (.ok [(.fr,.lst ((ns.take 1).map D.int))]) = _;have := sum_or (m := .fr) (ns.take 1);unfold c0;generalize (ns.take 1).map D.int = Z at *;simp [this]
theorem metAll_len {n : Nat} (hn : 1 <= n) : ∀ (As : List (List Nat)) (F : List Nat),(∀ a ∈ As,a.length <= n) -> (As.foldl met F).length <= F.length * n ^ As.length
 | [],F,_=>by simp
 | a :: As,F,h=>by rw [List.foldl_cons];refine Nat.le_trans (metAll_len hn As (met F a) fun x hx=>h x (mcm hx)) ?_;have := met_len F a n hn (h a mcs);rw [List.length_cons,Nat.pow_succ,Nat.mul_comm (n ^ As.length) n,<- Nat.mul_assoc];exact Nat.mul_le_mul_right _ this
theorem sel_few {P : List Str} (hP : Strict P) (m : Nat) : (sel P (few m)).length <= 6 := by
 obtain ⟨ks,h1,h2,_⟩ := few_ks m;have nd : (sel P (few m)).Nodup := nodup_of_strict (hP.sublist sel_sub);have := lenSub nd (l' := ks.map fun j=>P.getD j "") fun y hy=>by obtain ⟨i,e1,e2⟩ := sel_mem.mp hy;exact List.mem_map.mpr ⟨i,(h2 i).mp e2,by rw [List.getD_eq_getElem?_getD,e1];rfl⟩
 rw [List.length_map] at this;omega
theorem few_lt (m : Nat) : few m < 2 ^ 12 := by obtain ⟨ks,_,h2,h3⟩ := few_ks m;exact lt_of_bits fun i hi=>h3 i ((h2 i).mp hi)
theorem few64 {P : List Str} (hP : Pool P) {a b : Nat} (hM : Ms P (leastL [few a,few b])) : (Fof P (leastL [few a,few b])).length < 64 := by
 have nl := ns_len hM;have ml := fold_len [few a,few b] [few a,few b] [];have ml : (leastL [few a,few b]).length <= 2 := ml;have h := metAll_len (n := 6) (by decide) ((NSof P (leastL [few a,few b])).map (ixs (Uof P (leastL [few a,few b])))) [0] fun x hx=>by
  obtain ⟨A,hA,rfl⟩ := List.mem_map.mp hx;obtain ⟨m,hm,rfl⟩ := ns_mem.mp hA;unfold ixs;rw [List.length_map];have := (least_mem.mp hm).1;simp only [List.mem_cons,List.not_mem_nil,or_false] at this;rcases this with rfl | rfl
  . exact sel_few hP.str a
  . exact sel_few hP.str b
 rw [List.length_map] at h;have : 6 ^ (NSof P (leastL [few a,few b])).length <= 6 ^ 2 := Nat.pow_le_pow_right (by decide) (by omega)
 have e : (6 : Nat) ^ 2 = 36 := rfl;have h : (Fof P (leastL [few a,few b])).length <= 1 * 6 ^ (NSof P (leastL [few a,few b])).length := h;omega
theorem l_loop (k : Nat) {P : List Str} {M : List Nat} (hP : Pool P) (hM : Ms P M) (hs : (Sof P M).length <= 64) {A B : D} : ∃ x,forS (setG (.nm 4)) (evB (WT TT (k + 1)) b_law_L1) (iN (List.range 32)) [some (false,A),some (false,B),some (false,.lst (iN M)),some (false,.lst (iN ((Sof P M).map (maskOf P)))),none,none] = .nx [some (false,A),some (false,B),some (false,.lst (iN M)),some (false,.lst (iN ((Sof P M).map (maskOf P)))),x,none] := by
 have zl : sizeLine = 16777216 := sizeLine_eq;have ml := hM.len;obtain ⟨ρ',e,x,rfl⟩ := forS_at (enc := iD) (k := setG (.nm 4)) (body := evB (WT TT (k + 1)) b_law_L1) (fun _ ρ=>∃ x,ρ = [some (false,A),some (false,B),some (false,.lst (iN M)),some (false,.lst (iN ((Sof P M).map (maskOf P)))),x,none]) (List.range 32) (fun pre g post _ ρ hI=>by
  obtain ⟨y,rfl⟩ := hI;refine ⟨[some (false,A),some (false,B),some (false,.lst (iN M)),some (false,.lst (iN ((Sof P M).map (maskOf P)))),some (false,iD g),none],[some (false,A),some (false,B),some (false,.lst (iN M)),some (false,.lst (iN ((Sof P M).map (maskOf P)))),some (false,iD g),none],by simp,?_,_,rfl⟩
  have h1 := call2 (hits k g (M := M) (by omega))
  have c1 : compR (.ok .fz (.lst (iN ((Sof P M).map (maskOf P))))) [some (false,A),some (false,B),some (false,.lst (iN M)),some (false,.lst (iN ((Sof P M).map (maskOf P)))),some (false,iD g),none] [4] 1 (setG (.nm 1)) (fun ρ=>evF (WT TT (k + 1)) [] ρ) (fun ρ=>evE (WT TT (k + 1)) (.cmp .Eq (.bin .BitAnd (.var 1) (.var 0)) (.var 1)) ρ) = .ok .fr (.lst (((Sof P M).map (maskOf P)).map fun c=>.bl (sb c g))) := by
   refine compR_m (enc := iD) _ (by simp;omega) fun c hc=>⟨[some (false,iD g),some (false,iD c)],.fz,by simp [subR],by simp,.fz,?_⟩
   have e : (Builtin.bitAnd (c : Int) (g : Int) == (c : Int)) = sb c g := by rw [band,Bool.eq_iff_iff];unfold sb;simp;omega
   simp [iD,e]
  have a1 := any_run (f := fun c=>sb c g) (m := .fr) ((Sof P M).map (maskOf P));have sc := s_comp hP hM (g := g);generalize (((Sof P M).map (maskOf P)).map fun c=>D.bl (sb c g)) = Z at *;generalize ((Sof P M).map (maskOf P)).any (fun c=>sb c g) = w at *;generalize iN ((Sof P M).map (maskOf P)) = GG at *;generalize iN M = MM at *;simp at c1;cases hh : hitA g M with
  | true=>rw [sc hh] at a1;rw [hh] at h1;simp [b_law_L1,iD] at c1 ⊢;simp [h1,c1,a1]
  | false =>
   rw [hh] at h1;simp [b_law_L1,iD,h1]) (List.range 32) [] _ rfl ⟨none,rfl⟩
 exact ⟨x,e⟩
theorem l_one (k : Nat) {S : List D} {h q : Int} {M P G : List D} (sc : callR (CallD.or' sumD sumI) (consL (slP (.ok .fz (.lst S)) none (some (evE (WT TT k) (.int 1))) [some (false,.lst S),none,none,none,none,none]) (.ok [])) = .ok .fz (.int h)) (m8 : callF 2 ((WT TT k).Φ "_law_mix") (.ok [(.fz,.int h),(.fz,.int 8)]) = .ok .fz (.int q)) (ms : callF 2 ((WT TT k).Φ "_law_masks") (.ok [(.fz,.lst S),(.fz,.int (q % 5))]) = .ok .fr (.lst M)) (nm : callF 2 ((WT TT k).Φ "_law_names") (.ok [(.fz,.int h),(.fz,.int 5)]) = .ok .fr (.lst P)) (ct : callF 2 ((WT TT k).Φ "_law_cut") (.ok [(.fz,.lst M),(.fz,.lst P)]) = .ok .fz (.lst G)) : evB (WT TT k) (b_law.take 4) [some (false,.lst S),none,none,none,none,none] = .nx [some (false,.lst S),some (false,.int h),some (false,.lst M),some (false,.lst G),none,none] := by have nn : isNonD (.lst G) = false := rfl;simp [b_law,sc,m8,ms,nm,ct,nn]
theorem l_two (k : Nat) {S M G : D} {R : List D} {h : Int} {x : Option (Bool × D)} (er : rng1R (.ok [(.fz,.int 32)]) = .ok .fz (.lst R)) (lp : forS (setG (.nm 4)) (evB (WT TT k) b_law_L1) R [some (false,S),some (false,.int h),some (false,M),some (false,G),none,none] = .nx [some (false,S),some (false,.int h),some (false,M),some (false,G),x,none]) : evB (WT TT k) ((b_law.drop 4).take 1) [some (false,S),some (false,.int h),some (false,M),some (false,G),none,none] = .nx [some (false,S),some (false,.int h),some (false,M),some (false,G),x,none] := by have ef : ∀ ρ,forR (.ok .fz (.lst R)) ρ (setG (.nm 4)) (evB (WT TT k) b_law_L1) = forS (setG (.nm 4)) (evB (WT TT k) b_law_L1) R ρ := fun ρ=>rfl;simp [b_law,er,ef,lp]
theorem l_three (k : Nat) {S M G : D} {h : Int} {x : Option (Bool × D)} {u v y z : Int} {a b : Nat} {L P G2 : List D} {fa fb : Nat} (m20 : callF 2 ((WT TT k).Φ "_law_mix") (.ok [(.fz,.int h),(.fz,.int 20)]) = .ok .fz (.int u)) (m21 : callF 2 ((WT TT k).Φ "_law_mix") (.ok [(.fz,.int h),(.fz,.int 21)]) = .ok .fz (.int v)) (m22 : callF 2 ((WT TT k).Φ "_law_mix") (.ok [(.fz,.int h),(.fz,.int 22)]) = .ok .fz (.int y)) (m23 : callF 2 ((WT TT k).Φ "_law_mix") (.ok [(.fz,.int h),(.fz,.int 23)]) = .ok .fz (.int z)) (ea : Builtin.bitAnd u v = (a : Int)) (eb : Builtin.bitAnd y z = (b : Int)) (cm : compR (.ok .fz (.lst [.int (a : Int),.int (b : Int)])) [some (false,S),some (false,.int h),some (false,M),some (false,G),x,some (false,.lst [.int (a : Int),.int (b : Int)])] [] 1 (setG (.nm 0)) (fun ρ=>evF (WT TT k) [] ρ) (fun ρ=>evE (WT TT k) (.call "_law_few" 1 [(.frz (.bin .Mod (.var 0) (.int 4096)))]) ρ) = .ok .fr (.lst [iD fa,iD fb])) (ls : callF 1 ((WT TT k).Φ "_law_least") (.ok [(.fz,.lst [iD fa,iD fb])]) = .ok .fr (.lst L)) (nm : callF 2 ((WT TT k).Φ "_law_names") (.ok [(.fz,.int h),(.fz,.int 12)]) = .ok .fr (.lst P)) (ct : callF 2 ((WT TT k).Φ "_law_cut") (.ok [(.fz,.lst L),(.fz,.lst P)]) = .ok .fz (.lst G2)) : evB (WT TT k) (b_law.drop 5) [some (false,S),some (false,.int h),some (false,M),some (false,G),x,none] = .rt .fz (.bl true) := by
 have nn : isNonD (.lst G2) = false := rfl;have l2 : lstR (.ok [(.fz,.int (a : Int)),(.fz,.int (b : Int))]) = .ok .fr (.lst [.int (a : Int),.int (b : Int)]) := rfl;generalize hL : D.lst [iD fa,iD fb] = L2 at *;have fz : frzR (.ok .fr L2) = .ok .fz L2 := by rw [<- hL];rfl
 simp at cm;simp [b_law,m20,m21,m22,m23,ea,eb,l2,cm,ls,nm,ct,nn,fz]
def kk : Nat := 10
theorem main (ns : List Int) (hn : ns.length <= 63) : (WT TT (kk + 1)).Φ ("law" : Str) (lawIn ns) = .ok .fz (.bl true) := by
 show (WT TT (9 + 2)).Φ ("law" : Str) [.lst (ns.map .int)] = _;rw [u_law];refine phi_ok rfl ?_;show evB (WT TT 10) b_law [some (false,.lst (ns.map .int)),none,none,none,none,none] = _;have zl : sizeLine = 16777216 := sizeLine_eq;have ee : b_law = b_law.take 4 ++ ((b_law.drop 4).take 1 ++ b_law.drop 5) := rfl;generalize hh : c0 ns = h;have sc := sum_cut (WT TT 10) ns [some (false,.lst (ns.map .int)),none,none,none,none,none] (m := .fz);rw [hh] at sc;have m8 := Mx 9 (c := h) (p := 8) (by decide) (by decide)
 have q0 := Int.emod_nonneg (mx h 8) (show (5 : Int) ≠ 0 by decide)
 have q1 := Int.emod_lt_of_pos (mx h 8) (show (0 : Int) < 5 by decide)
 obtain ⟨q,hq⟩ := Int.eq_ofNat_of_zero_le q0;have hq5 : q < 5 := by omega
 have ms := callR2 (masks 8 hq5 ns hn);rw [<- hq] at ms;obtain ⟨⟨p5,l5⟩,_⟩ := names_pool h (n := 5) (by decide)
 obtain ⟨⟨p12,l12⟩,_⟩ := names_pool h (n := 12) (by decide)
 have nm5 := callR2 (names 8 h (n := 5) (by decide))
 have nm12 := callR2 (names 8 h (n := 12) (by decide))
 have M5 : Ms (uni (namesL h 5)) (Sc q ns) := ms_of (fun x hx=>by
  obtain ⟨c,_,rfl⟩ := List.mem_map.mp hx;rw [l5]
  exact fit_lt (pick_mem hq5 c)) (by rw [List.length_map];omega)
 have f5 : (Fof (uni (namesL h 5)) (Sc q ns)).length < 64 := by
  have := pre_len p5 M5 (NSof (uni (namesL h 5)) (Sc q ns)) [] (by simp)
  rw [l5] at this;exact Nat.lt_of_le_of_lt this (by decide)
 have s5 : (Sof (uni (namesL h 5)) (Sc q ns)).length <= 64 := by
  have nd : (Sof (uni (namesL h 5)) (Sc q ns)).Nodup := (uniT_strict _).imp fun {a b} h e=>by subst e;rw [ltT_irr] at h;cases h
  have := lenSub nd (l' := (Fof (uni (namesL h 5)) (Sc q ns)).map (sel (Uof (uni (namesL h 5)) (Sc q ns)))) fun y hy=>uniT_mem.mp hy;rw [List.length_map] at this;omega
 have ct5 := call2 (lawcut 6 p5 M5 f5);have er : rng1R (.ok [(.fz,.int 32)]) = .ok .fz (.lst (iN (List.range 32))) := rng_run (n := 32) (by omega)
 obtain ⟨x,lp⟩ := l_loop 9 p5 M5 s5 (A := .lst (ns.map .int)) (B := .int h);have m20 := Mx 9 (c := h) (p := 20) (by decide) (by decide)
 have m21 := Mx 9 (c := h) (p := 21) (by decide) (by decide)
 have m22 := Mx 9 (c := h) (p := 22) (by decide) (by decide)
 have m23 := Mx 9 (c := h) (p := 23) (by decide) (by decide)
 obtain ⟨u,hu⟩ := Int.eq_ofNat_of_zero_le (mx0 h 20);obtain ⟨v,hv⟩ := Int.eq_ofNat_of_zero_le (mx0 h 21);obtain ⟨y,hy⟩ := Int.eq_ofNat_of_zero_le (mx0 h 22);obtain ⟨z,hz⟩ := Int.eq_ofNat_of_zero_le (mx0 h 23);rw [hu] at m20;rw [hv] at m21;rw [hy] at m22;rw [hz] at m23;have M12 : Ms (uni (namesL h 12)) (leastL [few ((u &&& v) % 4096),few ((y &&& z) % 4096)]) := ms_of (fun x hx=>by
  rw [l12];simp only [List.mem_cons,List.not_mem_nil,or_false] at hx
  rcases hx with rfl | rfl <;> exact few_lt _) (by simp)
 have ct12 := call2 (lawcut 6 p12 M12 (few64 p12 M12));have ls := callR1 (least 9 (L := [few ((u &&& v) % 4096),few ((y &&& z) % 4096)]) (by simp))
 have cm : ∀ ρ,compR (.ok .fz (.lst [.int ((u &&& v : Nat) : Int),.int ((y &&& z : Nat) : Int)])) ρ [] 1 (setG (.nm 0)) (fun ρ=>evF (WT TT 10) [] ρ) (fun ρ=>evE (WT TT 10) (.call "_law_few" 1 [(.frz (.bin .Mod (.var 0) (.int 4096)))]) ρ) = .ok .fr (.lst [iD (few ((u &&& v) % 4096)),iD (few ((y &&& z) % 4096))]) := fun ρ=>by
  refine compR_m (enc := iD) (fun m=>iD (few (m % 4096))) (xs := [u &&& v,y &&& z]) (by simp;omega) fun m hm=>⟨[some (false,iD m)],.fz,by simp [subR],by simp,.fz,?_⟩
  have f := call1 (fewR 9 (m % 4096));have e : ((m % 4096 : Nat) : Int) = (m : Int) % 4096 := by omega
  rw [e] at f;simp [iD,f]
 rw [ee,b_app,l_one 10 sc m8 ms nm5 ct5,SRes.thn_nx,b_app,l_two 10 er lp,SRes.thn_nx];exact l_three 10 m20 m21 m22 m23 (band u v) (band y z) (cm _) ls nm12 ct12
theorem walk {l : PySem.W.OpenLaw} {q : Program} {loose : List Str} {XP : (Str -> Option Value) -> Heap -> Prop} {YP : World -> Heap -> Prop} {d : DefRec} {K : Params -> Fg} (hn : l.most = some 63) (hdf : d.params.defaults = []) (hY : ∀ (w : World) (h : Heap),YP w h -> (K w.params).In h) (F : ∀ (w : World) (mg : SOV) (fa : Addr) (h : Heap),(K w.params).In h -> h.Ns mainGlobals mg -> mg d.name = some (.ref fa) -> ∃ fd : FuncData,(∀ (s : Shared) (u : Value),BindsTo s fd ⟨[u],[]⟩ [("_law_script", u)]) /\ ∀ base : Heap,(K w.params).In base -> base.Ns mainGlobals mg -> FnOk l.prog w (K w.params) mg base (CX1 l.prog w) (kk + 1) fa fd ["_law_script"] (spLw (K w.params) ((WT TT (kk + 1)).Φ ("law" : Str)))) : PySem.W.WalkO q loose XP YP l.row.toRowW d [] (fun f vs=>PySem.call f vs) :=
 L2.walk_of (n := 63) (k := kk + 1) (x := "_law_script") (CX := fun w=>CX1 l.prog w) (sp := fun w=>spLw (K w.params) ((WT TT (kk + 1)).Φ ("law" : Str))) hn (by decide) hdf ⟨rfl,by decide,by decide⟩ hY F (fun _ _ a ns hl _ hS=>⟨a,ns,rfl,hS,main ns hl,fun _=>rfl⟩) fun _ _ _ _ _ z=>by obtain ⟨_,_,_,_,_,_,_,_,_,_,z⟩ := z;exact z
end K13
open PySem PySem.W PyProof.Rows
set_option maxRecDepth 100000 in
set_option maxHeartbeats 0 in
theorem PySem.Challenge.cw_whencewise_k13_cuts_holds : PySem.Challenge.rw_whencewise_k13_cuts.Holds := by
 w_on;o_law;k_head;(case hw=>w_witness2)
 k_fill
 refine K13.walk (l := PySem.Challenge.rw_whencewise_k13_cuts) rfl rfl (fun w h Y=>PySem.W.kIn_of Y) ?F
 case F =>
  intro w mg fa h KX G hmg;refine' K13.all_mk K13.kk KX G hmg ?a0 ?l0 ?c0 ?k0 ?a1 ?l1 ?c1 ?k1 ?a2 ?l2 ?c2 ?k2 ?a3 ?l3 ?c3 ?k3 ?a4 ?l4 ?c4 ?k4 ?a5 ?l5 ?c5 ?k5 ?a6 ?l6 ?c6 ?k6 ?a7 ?l7 ?c7 ?k7 ?a8 ?l8 ?c8 ?k8 ?a9 ?l9 ?c9 ?k9 ?a10 ?l10 ?c10 ?k10 ?a11 ?l11 ?c11 ?k11 ?a12 ?l12 ?c12 ?k12 ?a13 ?l13 ?c13 ?k13 ?a14 ?l14 ?c14 ?k14 ?a15 ?l15 ?c15 ?k15 ?a16 ?l16 ?c16 ?k16 ?u_all ?u_any ?u_enumerate ?u_isinstance ?u_len ?u_list ?u_range ?u_sorted ?u_str ?u_sum ?u_tuple
  (case a0=>k_is)
  (case l0=>k_is)
  (case c0=>k_is)
  (case k0=>k_is)
  (case a1=>k_is)
  (case l1=>k_is)
  (case c1=>k_is)
  (case k1=>k_is)
  (case a2=>k_is)
  (case l2=>k_is)
  (case c2=>k_is)
  (case k2=>k_is)
  (case a3=>k_is)
  (case l3=>k_is)
  (case c3=>k_is)
  (case k3=>k_is)
  (case a4=>k_is)
  (case l4=>k_is)
  (case c4=>k_is)
  (case k4=>k_is)
  (case a5=>k_is)
  (case l5=>k_is)
  (case c5=>k_is)
  (case k5=>k_is)
  (case a6=>k_is)
  (case l6=>k_is)
  (case c6=>k_is)
  (case k6=>k_is)
  (case a7=>k_is)
  (case l7=>k_is)
  (case c7=>k_is)
  (case k7=>k_is)
  (case a8=>k_is)
  (case l8=>k_is)
  (case c8=>k_is)
  (case k8=>k_is)
  (case a9=>k_is)
  (case l9=>k_is)
  (case c9=>k_is)
  (case k9=>k_is)
  (case a10=>k_is)
  (case l10=>k_is)
  (case c10=>k_is)
  (case k10=>k_is)
  (case a11=>k_is)
  (case l11=>k_is)
  (case c11=>k_is)
  (case k11=>k_is)
  (case a12=>k_is)
  (case l12=>k_is)
  (case c12=>k_is)
  (case k12=>k_is)
  (case a13=>k_is)
  (case l13=>k_is)
  (case c13=>k_is)
  (case k13=>k_is)
  (case a14=>k_is)
  (case l14=>k_is)
  (case c14=>k_is)
  (case k14=>k_is)
  (case a15=>k_is)
  (case l15=>k_is)
  (case c15=>k_is)
  (case k15=>k_is)
  (case a16=>k_is)
  (case l16=>k_is)
  (case c16=>k_is)
  (case k16=>k_is)
  (case u_all=>k_is)
  (case u_any=>k_is)
  (case u_enumerate=>k_is)
  (case u_isinstance=>k_is)
  (case u_len=>k_is)
  (case u_list=>k_is)
  (case u_range=>k_is)
  (case u_sorted=>k_is)
  (case u_str=>k_is)
  (case u_sum=>k_is)
  (case u_tuple=>k_is)
