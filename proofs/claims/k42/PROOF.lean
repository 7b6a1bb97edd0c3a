import PyProof.Rows.All
import Wide.All
import OpenK.AllK
import Wide.FinOn
import Lean
import PyProof.EqAt
import PyProof.EqKinds
import PyProof.TupleCall
import PySem.Challenge.RW_whencewise_k42_columns_refused
set_option linter.all false
section
open PySem PySem.Spec PyProof.Rows
def aM5:=@decide_eq_false
def aM6:=@beq_eq_false_iff_ne
def aM7:=@PySem.Paired.length
def aM8:=@Option.some.inj
def aM9:=@PySem.Heap.get?_push_size
def aNA:=@PySem.Heap.lt_size
def aNB:=@Nat.lt_of_lt_of_le
def aNC:=@Nat.lt_irrefl
def aND:=@Nat.ne_of_lt
def aNE:=@PySem.W.hideAll_get
def aNF:=@List.mem_filter
def aNG:=@PySem.W.of_hideAll
def aNH:=@PySem.W.hideAll_none
def aNI:=@Nat.le_trans
def aNJ:=@List.filterMap_cons
def aNK:=@List.mem_cons
def aNL:=@List.mem_append
def aNM:=@List.mem_append_left
def aNN:=@List.getElem?_eq_some_iff
def aNO:=@List.getElem_inj
def aNP:=@List.getElem?_set_self
def aNQ:=@List.getElem?_set_ne
def aNR:=@PySem.wpAny_mono
def aNS:=@PySem.wpAny_truthy_bool
def aNT:=@Array.length_toList
def aNU:=@PySem.wpAny_execs_nil
def aNV:=@PySem.wpAny_assign_Name
def aNW:=@PySem.wpAny_pure
def aNX:=@PySem.wpAny_bind
def aNY:=@Nat.le_refl
def aNZ:=@PySem.wpAny_pyIter_tuple
def aN0:=@PyProof.Rows.callWith_type1
def aN1:=@List.mem_filterMap
def aN2:=@List.mem_append_right
def aN3:=@PySem.wpAny_passesOwn
def aN4:=@PySem.sizeLine_eq
def aN5:=@List.size_toArray
def aN6:=@List.append_nil
def aN7:=@List.nodup_cons
def aN8:=@List.of_mem_zip
def aN9:=@List.length_take
def aOA:=@PySem.mem_of_lookup
def aOB:=@List.getElem?_append_right
def aOC:=@List.getElem?_replicate
def aOD:=@List.getElem?_append_left
def aOE:=@List.getElem?_map
def aOF:=@List.take_sublist
def aOG:=@List.mem_of_getElem?
def aOH:=@List.length_append
def aOI:=@List.length_map
def aOJ:=@PySem.wpAny_Call_Name_kw
def aOK:=@PySem.concat_meets
def aOL:=@PySem.noFill_tuple_add
def aOM:=@PySem.F.slot_tuple_add
def aON:=@PySem.F.entry_tuple_add
def aOO:=@PySem.F.args_tuple_add_2
def aOP:=@Int.toNat_natCast
def aOQ:=@if_false
def aOR:=@PySem.wpAny_field
def aOS:=@List.length_drop
def aOT:=@PySem.wpAny_holding
def aOU:=@PySem.wpAny_callSpecial?_slot
def aOV:=@PyProof.Rows.slot_tuple_getitem
def aOW:=@PySem.wpAny_call_entry
def aOX:=@Bool.and_eq_true
def aOY:=@PySem.wpAny_newObj_type
def aOZ:=@PySem.Heap.get?_update_self
def aO0:=@PySem.Heap.get?_update_other
def aO1:=@List.length_set
def aO2:=@Option.getD_none
def aO3:=@Bool.false_ne_true
def aO4:=@List.all_cons
def aO5:=@List.any_cons
def aO6:=@List.find?_cons
def aO7:=@decide_eq_true
def aO8:=@List.length_cons
def aO9:=@List.map_cons
def aPA:=@Option.isSome_map
def aPB:=@Option.map_eq_some_iff
def aPC:=@PySem.tupleKind_room_in1
def aPD:=@PySem.wpAny_specialOf
def aPE:=@Nat.zero_le
def aPF:=@decide_eq_true_eq
def aPG:=@of_decide_eq_true
def aPH:=@Bool.or_eq_true
def aPI:=@Array.all_append
def aPJ:=@Array.all_eq_true_iff_forall_mem
def aPK:=@Array.mem_toList_iff
def aPL:=@PySem.wpAny_getItem_str_slice
def aPM:=@PySem.post_val_or_str
def aPN:=@PySem.Txt.slice_le
def aPO:=@Array.size_append
def aPP:=@Bool.or_eq_false_iff
def aPQ:=@beq_iff_eq
def aPR:=@PySem.W.kia_one
def aPS:=@List.getElem?_set
def aPT:=@Option.map_some
def aPU:=@List.drop_eq_getElem_cons
def aPV:=@List.getElem?_eq_getElem
def aPW:=@List.drop_length
def aPX:=@List.forIn_nil
def aPY:=@List.forIn_cons
def aPZ:=@LawfulMonad.pure_bind
def aP0:=@List.lookup_cons
def aP1:=@beq_self_eq_true
def aP2:=@PySem.wpAny_standAt
def aP3:=@Nat.lt_succ_of_lt
def aP4:=@Option.some.injEq
def aP5:=@List.drop_zero
def aP6:=@List.take_of_length_le
def aP7:=@Nat.zero_add
def aP8:=@List.mem_singleton
def aP9:=@PySem.F.slot_tuple_iterator_next
def aQA:=@PySem.F.entry_tuple_iterator_next
def aQB:=@PySem.F.args_tuple_iterator_next_1
def aQC:=@PySem.wpAny_setField
def aQD:=@PySem.Obj.data_mapFields
def aQE:=@PySem.wpAny_of_eq
def aQF:=@List.mem_nil_iff
def aQG:=@or_false
def aQH:=@PySem.wpAny_pyIter_enum
def aQI:=@PySem.W.looks_mroIn
def aQJ:=@PySem.W.looks_findIn
def aQK:=@Option.bind_eq_some_iff
def aQL:=@Array.getElem?_eq_some_iff
def aQM:=@List.take_length
def aQN:=@PySem.W.mg_of
def aQO:=@List.map_map
def aQP:=@bne_iff_ne
def aQQ:=@List.all_eq_true
def aQR:=@List.contains_iff_mem
def aQS:=@Nat.lt_of_le_of_lt
def aQT:=@Nat.add_le_add_left
def aQU:=@Int.emod_nonneg
def aQV:=@Int.emod_lt_of_pos
def aQW:=@Int.eq_ofNat_of_zero_le
def aQX:=@List.getElem_mem
def aQY:=@List.mem_map
def aQZ:=@Bool.eq_iff_iff
def aQ0:=@List.getElem?_cons_succ
def aQ1:=@List.getD_eq_getElem?_getD
def aQ2:=@List.map_append
def aQ3:=@List.not_mem_nil
def aQ4:=@List.pairwise_iff_getElem
def aQ5:=@List.mem_iff_getElem
def aQ6:=@Nat.min_eq_left
def aQ7:=@List.map_take
def aQ8:=@List.findSome?_cons
def aQ9:=@List.mem_take_iff_getElem
def aRA:=@Option.or_none
def aRB:=@List.take_append_of_le_length
def aRC:=@List.mem_of_mem_drop
def aRD:=@List.mem_of_mem_take
def aRE:=@List.append_assoc
def aRF:=@List.nodup_append
end
abbrev VSP := PySem.Value -> PySem.Shared -> Prop
abbrev Fg := PySem.W.Frag
abbrev LAO := List (PySem.Addr × PySem.Obj)
abbrev SOV := PySem.Str -> Option PySem.Value
theorem mcm {α : Type} {a b : α} {l : List α} (h : a ∈ l) : a ∈ b :: l := List.mem_cons_of_mem _ h
theorem mcs {α : Type} {a : α} {l : List α} : a ∈ a :: l := List.mem_cons_self
theorem hps {h : PySem.Heap} {o p : PySem.Obj} {b : PySem.Addr} (e : h.get? b = some o) : (h.push p).get? b = some o := PySem.Heap.get?_push_of_some _ e
set_option Elab.async false
set_option linter.all false
set_option maxRecDepth 100000
namespace L2
open PySem PySem.Spec PyProof.Rows
abbrev Key:=Sum Int Str
def jE:Key->Value->Bool
 | .inl k,v=>Value.isInt k v
 | .inr x,v=>Value.isStrOf x v
def keyH(w:World):Key->Int
 | .inl k=>hashInt k
 | .inr x=>hashStr w x
theorem fY:∀ {k:Key} {v:Value},jE k v=true->(∃ i t,k=Sum.inl i/\v=Value.int i t)\/(∃ x t,k=Sum.inr x/\v=Value.str x t)
 | .inl i,v,h=>by obtain ⟨t,e⟩:=Value.isInt_shape (k:=i) (v:=v) h;exact .inl ⟨i,t,rfl,e⟩
 | .inr x,v,h=>by obtain ⟨t,e⟩:=Value.isStrOf_shape (x:=x) (v:=v) h;exact .inr ⟨x,t,rfl,e⟩
theorem aAI(i:Int)(t:Tok):jE (.inl i) (.int i t)=true:=by simp[jE,Value.isInt]
theorem aAJ(x:Str)(t:Tok):jE (.inr x) (.str x t)=true:=by simp[jE,Value.isStrOf]
theorem aAK(a b:Int):decide ((Sum.inl a:Key)=Sum.inl b)=(a==b):=by
 by_cases e:a=b
 . subst e;simp
 . have h:¬ (Sum.inl a:Key)=Sum.inl b:=λq=>e (Sum.inl.inj q);rw[aM5 h];exact (aM6.mpr e).symm
theorem aAL(a b:Str):decide ((Sum.inr a:Key)=Sum.inr b)=decide (a=b):=by
 by_cases e:a=b
 . subst e;simp
 . have h:¬ (Sum.inr a:Key)=Sum.inr b:=λq=>e (Sum.inr.inj q);rw[aM5 h,aM5 e]
theorem aAM(a:Int)(b:Str):decide ((Sum.inl a:Key)=Sum.inr b)=false:=aM5 (λq=>nomatch q)
theorem aAN(a:Str)(b:Int):decide ((Sum.inr a:Key)=Sum.inl b)=false:=aM5 (λq=>nomatch q)
def bR(prog:Program)(w:World):PySem.KeyKind prog w Key where
 is:=jE
 hash:=keyH w
 inj:=λv a b ha hb=>by
  rcases fY ha with ⟨i,t,rfl,rfl⟩ | ⟨x,t,rfl,rfl⟩
  . rcases fY hb with ⟨j,u,rfl,e⟩ | ⟨y,u,rfl,e⟩
    . injection e with e1 _;rw[e1]
    . exact nomatch e
  . rcases fY hb with ⟨j,u,rfl,e⟩ | ⟨y,u,rfl,e⟩
    . exact nomatch e
    . injection e with e1 _;rw[e1]
 byValue:=λk v h=>by rcases fY h with ⟨i,t,rfl,rfl⟩ | ⟨x,t,rfl,rfl⟩ <;> rfl
 pyHash:=λhv h=>by
  rcases fY hv with ⟨i,t,rfl,rfl⟩ | ⟨x,t,rfl,rfl⟩
  . exact wpAny_pyHash_int h
  . exact wpAny_pyHash_str h
 eqBool:=λhu hv h=>by
  rcases fY hu with ⟨i,t,rfl,rfl⟩ | ⟨x,t,rfl,rfl⟩
  . rcases fY hv with ⟨j,u,rfl,rfl⟩ | ⟨y,u,rfl,rfl⟩
    . rw[aAK] at h;exact wpAny_eqBool_int h
    . rw[aAM] at h;exact SeqAt.EqAt.int_str i t y u _ _ _ _ h
  . rcases fY hv with ⟨j,u,rfl,rfl⟩ | ⟨y,u,rfl,rfl⟩
    . rw[aAN] at h;exact SeqAt.EqAt.str_int x t j u _ _ _ _ h
    . rw[aAL] at h;exact wpAny_eqBool_str h
 «strs»:=λk x t v h=>by
  rcases fY h with ⟨i,u,rfl,e⟩ | ⟨y,u,rfl,e⟩
  . exact nomatch e
  . injection e with e1 _
    subst e1;cases v <;> rfl
theorem aAO(prog:Program)(w:World)(i:Int)(t:Tok):(bR prog w).is (.inl i) (.int i t)=true:=aAI i t
theorem aAP(prog:Program)(w:World)(x:Str)(t:Tok):(bR prog w).is (.inr x) (.str x t)=true:=aAJ x t
inductive V where
 | non | bl (b:Bool) | int (i:Int) | str (x:Str) | byt (b:Array UInt8) | flt (b:UInt64) | ref (a:Addr) | ty (n:String)
 deriving DecidableEq
def aL:V->Value->Prop
 | .non,u=>u=Value.none
 | .bl b,u=>u=Value.bool b
 | .int i,u=>∃ t,u=Value.int i t
 | .str x,u=>∃ t,u=Value.str x t
 | .byt b,u=>∃ t,u=Value.bytes b t
 | .flt b,u=>∃ t,u=Value.float b t
 | .ref a,u=>u=Value.ref a
 | .ty n,u=>u=Value.type n
abbrev aN:List V->List Value->Prop:=Paired aL
theorem aN.length{xs:List V}{us:List Value}(r:aN xs us):xs.length=us.length:=aM7 r
theorem aN.get:∀ {xs:List V} {us:List Value} {i:Nat} {x:V},aN xs us->xs[i]? = some x->∃ u,us[i]? = some u/\aL x u
 | _,_,_,_,.nil,e=>by simp at e
 | _,_,0,_,.cons r _,e=>by simp at e;subst e;exact ⟨_,rfl,r⟩
 | _,_,i+1,x,.cons _ t,e=>by
  obtain ⟨u,h1,h2⟩:=aN.get (i:=i) (x:=x) t (by simpa using e)
  exact ⟨u,by simpa using h1,h2⟩
theorem aN.set{x:V}{u:Value}(r:aL x u):∀ {xs:List V} {us:List Value} (i:Nat),aN xs us->aN (xs.set i x) (us.set i u)
 | _,_,_,.nil=>.nil
 | _,_,0,.cons _ t=>.cons r t
 | _,_,i+1,.cons q t=>.cons q (aN.set r i t)
theorem aN.append:∀ {xs ys:List V} {us ws:List Value},aN xs us->aN ys ws->aN (xs++ys) (us++ws)
 | _,_,_,_,.nil,s=>s
 | _,_,_,_,.cons r t,s=>.cons r (aN.append t s)
theorem aN.take:∀ {xs:List V} {us:List Value} (n:Nat),aN xs us->aN (xs.take n) (us.take n)
 | _,_,0,_=>.nil
 | _,_,_+1,.nil=>.nil
 | _,_,n+1,.cons r t=>.cons r (aN.take n t)
theorem aN.drop:∀ {xs:List V} {us:List Value} (n:Nat),aN xs us->aN (xs.drop n) (us.drop n)
 | _,_,0,r=>r
 | _,_,_+1,.nil=>.nil
 | _,_,n+1,.cons _ t=>aN.drop n t
def dN:Option V->Option Value->Prop
 | some v,some u=>aL v u
 | none,none=>True
 | _,_=>False
def KV{κ:Type}:List (κ×V)->List (κ×Value)->Prop:=Paired λ(p:κ×V) (q:κ×Value)=>p.1=q.1/\aL p.2 q.2
def kV:Key->V
 | .inl i=>.int i
 | .inr x=>.str x
inductive HO where
 /-- a list -/
 | lst (xs:List V)
 /-- a tuple (never changes) -/
 | tup (xs:List V)
 /-- a dict whose keys are ints and texts;one whose keys are tuples of ints and texts (the empty one is both) -/
 | dK (kvs:List (Key×V)) | dT (kvs:List (List Key×V))
 /-- a set of ints: its members,its size -/
 | set (S:Key->Bool) (n:Nat)
 /-- an instance of the class at C,its dict at dx,its attributes -/
 | ins (C dx:Addr) (fs:List (Str×V))
 /-- the dict of the instance at x -/
 | own (x:Addr)
 /-- the dict of an exception -/
 | xd (fs:List (Str×V))
 /-- a bound method,f of x -/
 | met (f x:Addr)
 /-- a range object lo,lo+1,.. below hi -/
 | rng (lo hi:Int)
 /-- a thing that is known to the object (the script;a dict while a loop walks it): read,never written while it is so -/
 | frz (o:Obj) (u:HO)
 /-- a code object's table -/
 | tbl (ps:Array Value)
 /-- any other thing,by what is true of its one object (a def of one's own: SetO a S n:=HO.ext λh=>..) -/
 | ext (φ:Heap->Prop)
abbrev Hp:=Addr->Option HO
def upd(H:Hp)(a:Addr)(o:HO):Hp:=λb=>if b=a then some o else H b
theorem bQ{H:Hp}{a:Addr}{o:HO}:upd H a o a=some o:=by unfold upd;rw[if_pos rfl]
theorem aO{H:Hp}{a b:Addr}{o:HO}(h:b≠a):upd H a o b=H b:=by unfold upd;rw[if_neg h]
theorem ne_of{H:Hp}{a b:Addr}{o u:HO}(h:H a=some o)(h':H b=some u)(d:o≠u):a≠b:=by intro e;subst e;rw[h] at h';exact d (aM8 h')
theorem cV{H:Hp}{a b:Addr}{o:HO}(h:H a=some o)(h':H b=none):a≠b:=by intro e;subst e;rw[h] at h';cases h'
def fZ(h:Heap)(a:Addr)(items:Array Value):Prop:=∃ o,h.get? a=some o/\o.cls=.type "tuple" /\ o.dict=none/\∃ n,o.data=.seq items n
theorem fZ.isTup{h:Heap}{a:Addr}{items:Array Value}(x:fZ h a items):IsTup h a items:=by obtain ⟨o,e,c,_,n,d⟩:=x;exact ⟨o,e,c,n,d⟩
theorem fZ.new(h:Heap)(items:Array Value):fZ (h.push { cls:=.type "tuple", data:=.seq items }) h.objs.size items:=⟨_,aM9 _ rfl,rfl,rfl,_,rfl⟩
section
variable (P:Program)(w:World)
def bU(H:Hp)(h:Heap)(a:Addr):HO->Prop
 | .lst xs=>xs.length<=sizeLine/\∃ (its:List Value) (n:Nat),aN xs its/\h.get? a=some { cls:=.type "list", data:=.seq its.toArray n }
 | .tup xs=>xs.length<=sizeLine/\∃ its:List Value,aN xs its/\fZ h a its.toArray
 | .dK kvs=>kvs.length<=sizeLine/\(a==sysModules)=false/\∃ vs,KV kvs vs/\h.DictOf (bR P w) a vs
 | .dT kvs => kvs.length ≤ sizeLine ∧ (a == sysModules) = false ∧ ∃ xs : List (List Key × Addr × Value),
     Paired (λ(p:List Key×V) (q:List Key×Addr×Value)=>p.1=q.1/\H q.2.1=some (.tup (p.1.map kV))/\aL p.2 q.2.2) kvs xs /\
     ∃ o es ep,h.get? a=some o/\o.ExactDict/\o.data=.dict es ep/\es.toList=xs.map (entryOfKey (tupleKind (bR P w)))/\(xs.map (·.1)).Nodup
 | .set S n=>h.SetOf (bR P w) a S n
 | .ins C dx fs => H dx = some (.own a) ∧ fs.length ≤ 1000 ∧ dx ≠ a ∧ h.get? a = some (PySem.W.instObj C dx) ∧
     ∃ mA,h.Ns1 dx mA/\(∀ f,dN (fs.lookup f) (mA f))/\PySem.Within mA (fs.map (·.1))
 | .own _=>∃ o,h.get? a=some o
 | .xd fs=>∃ mA,h.Ns1 a mA/\∀ f,dN (fs.lookup f) (mA f)
 | .rng lo hi=>∃ t u v,h.get? a=some { cls:=.type "range", data:=.fields #[.int lo t,.int hi u,.int 1 v] }
 | .frz o u=>h.get? a=some o/\bU H h a u
 | .tbl ps=>h.get? a=some { cls:=.none,data:=.fields ps }
 | .met f x=>h.get? a=some (PySem.W.methodObj (.ref f) (.ref x))
 | .ext φ=>φ h/\(∃ o,h.get? a=some o)/\∀ h1 h2:Heap,φ h1->(∀ o,h1.get? a=some o->h2.get? a=some o)->φ h2
def HOk(H:Hp)(h:Heap):Prop:=∀ a o,H a=some o->bU P w H h a o
end
section
variable {P:Program}{w:World}{H H':Hp}{h h':Heap}{a:Addr}{o:HO}
theorem bU.lt(x:bU P w H h a o):a<h.objs.size:=by
 cases o with
 | lst xs=>obtain ⟨_,_,_,_,e⟩:=x;exact aNA e
 | tup xs=>obtain ⟨_,_,_,p⟩:=x;exact p.isTup.lt
 | dK kvs=>obtain ⟨_,_,_,_,o,_,_,e,_⟩:=x;exact aNA e
 | dT kvs=>obtain ⟨_,_,_,_,o,_,_,e,_⟩:=x;exact aNA e
 | set S n=>obtain ⟨o,_,_,_,e,_⟩:=x;exact aNA e
 | ins C dx fs=>obtain ⟨_,_,_,e,_⟩:=x;exact aNA e
 | own y=>obtain ⟨_,e⟩:=x;exact aNA e
 | xd fs=>obtain ⟨_,⟨_,_,_,e,_⟩,_⟩:=x;exact aNA e
 | rng lo hi=>obtain ⟨_,_,_,e⟩:=x;exact aNA e
 | frz ob u=>obtain ⟨e,_⟩:=x;exact aNA e
 | tbl ps=>exact aNA (show h.get? a=some _ from x)
 | met f y=>exact aNA (show h.get? a=some _ from x)
 | ext φ=>obtain ⟨_,⟨_,e⟩,_⟩:=x;exact aNA e
theorem Paired.mapP{α β:Type}{F G:α->β->Prop}:∀ {l₁:List α} {l₂:List β},Paired F l₁ l₂->(∀ a b,F a b->G a b)->Paired G l₁ l₂
 | _,_,.nil,_=>.nil
 | _,_,.cons r t,f=>.cons (f _ _ r) (Paired.mapP t f)
theorem bU.stay(x:bU P w H h a o)(k:∀ b u,(b=a\/H b=some (.own a))->h.get? b=some u->h'.get? b=some u)(ho:∀ b,H b=some (.own a)->H' b=some (.own a))(ht:∀ b xs,H b=some (.tup xs)->H' b=some (.tup xs)):bU P w H' h' a o:=by
 induction o with
 | lst xs=>obtain ⟨z,its,n,r,e⟩:=x;exact ⟨z,its,n,r,k _ _ (.inl rfl) e⟩
 | tup xs=>obtain ⟨z,its,r,ob,e,c⟩:=x;exact ⟨z,its,r,ob,k _ _ (.inl rfl) e,c⟩
 | dK kvs=>obtain ⟨z,y,vs,r,ob,es,ep,e,c⟩:=x;exact ⟨z,y,vs,r,ob,es,ep,k _ _ (.inl rfl) e,c⟩
 | dT kvs=>obtain ⟨z,y,xs,r,ob,es,ep,e,c⟩:=x;exact ⟨z,y,xs,Paired.mapP r λp q z=>⟨z.1,ht _ _ z.2.1,z.2.2⟩,ob,es,ep,k _ _ (.inl rfl) e,c⟩
 | set S n=>obtain ⟨ob,es,ep,t,e,c⟩:=x;exact ⟨ob,es,ep,t,k _ _ (.inl rfl) e,c⟩
 | ins C dx fs=>obtain ⟨d,z,ne,e,mA,⟨od,es,ep,e2,c⟩,r⟩:=x;exact ⟨ho _ d,z,ne,k _ _ (.inl rfl) e,mA,⟨od,es,ep,k _ _ (.inr d) e2,c⟩,r⟩
 | own y=>obtain ⟨ob,e⟩:=x;exact ⟨ob,k _ _ (.inl rfl) e⟩
 | xd fs=>obtain ⟨mA,⟨od,es,ep,e,c⟩,r⟩:=x;exact ⟨mA,⟨od,es,ep,k _ _ (.inl rfl) e,c⟩,r⟩
 | rng lo hi=>obtain ⟨t,u,v,e⟩:=x;exact ⟨t,u,v,k _ _ (.inl rfl) e⟩
 | frz ob u ih=>obtain ⟨e,q⟩:=x;exact ⟨k _ _ (.inl rfl) e,ih q⟩
 | tbl ps=>have e:h.get? a=some { cls:=.none,data:=.fields ps }:=x;show h'.get? a=some { cls:=.none,data:=.fields ps };exact k a _ (.inl rfl) e
 | met f y=>have e:h.get? a=some (PySem.W.methodObj (.ref f) (.ref y)):=x;show h'.get? a=some (PySem.W.methodObj (.ref f) (.ref y));exact k a _ (.inl rfl) e
 | ext φ=>obtain ⟨p,⟨o,e⟩,st⟩:=x;exact ⟨st _ _ p λo q=>k _ _ (.inl rfl) q,⟨o,k _ _ (.inl rfl) e⟩,st⟩
theorem HOk.lt(x:HOk P w H h)(e:H a=some o):a<h.objs.size:=(x a o e).lt
theorem HOk.fresh(x:HOk P w H h)(e:h.objs.size<=a):H a=none:=by
 cases q:H a with
 | none=>rfl
 | some u=>exact absurd (aNB (x.lt q) e) (aNC _)
theorem HOk.kept(x:HOk P w H h)(k:∀ b u,h.get? b=some u->h'.get? b=some u):HOk P w H h':=λa o e =>
 (x a o e).stay (λb u _ q=>k b u q) (λ_ q=>q) λ_ _ q=>q
theorem HOk.laid(x:HOk P w H h)(k:∀ b u,h.get? b=some u->h'.get? b=some u)(hp:h.objs.size<=a)(new:bU P w (upd H a o) h' a o):HOk P w (upd H a o) h':=λb u e=>by
 have hn:=x.fresh hp;by_cases hb:b=a
 . subst hb;rw[bQ] at e;cases e;exact new
 . rw[aO hb] at e;exact (x b u e).stay (λc v _ q=>k c v q) (λc q=>by rw[aO (cV q hn)];exact q) λc xs q=>by rw[aO (cV q hn)];exact q
end
def Rd(H:Hp)(a:Addr)(u:HO):Prop:=H a=some u\/∃ o,H a=some (.frz o u)
theorem Rd.ok{P:Program}{w:World}{H:Hp}{h:Heap}{a:Addr}{u:HO}(r:Rd H a u)(x:HOk P w H h):bU P w H h a u:=by
 rcases r with r | ⟨o,r⟩
 . exact x a u r
 . obtain ⟨_,q⟩:=x a _ r;exact q
def Mut:Option HO->Prop
 | some (.lst _)=>True
 | some (.dK _)=>True
 | some (.dT _)=>True
 | some (.set _ _)=>True
 | some (.ins _ _ _)=>True
 | some (.ext _)=>True
 | _=>False
section
variable {P:Program}{w:World}{H:Hp}{h h':Heap}{x e:Addr}{o':HO}
theorem HOk.write(ok:HOk P w H h)(mu:Mut (H x))(he:e=x\/H e=some (.own x))(k:∀ b u,b≠e->h.get? b=some u->h'.get? b=some u)(heo:∃ u,h'.get? e=some u)(new:bU P w (upd H x o') h' x o'):HOk P w (upd H x o') h':=λb u q=>by
 have nown:∀ c y,H c=some (.own y)->c≠x:=λc y r z=>by subst z;rw[r] at mu;exact mu
 have ntup:∀ c xs,H c=some (.tup xs)->c≠x:=λc xs r z=>by subst z;rw[r] at mu;exact mu
 by_cases hb:b=x
 . subst hb;rw[bQ] at q;cases q;exact new
 . rw[aO hb] at q;by_cases hbe:b=e
   . have q':H b=some (.own x):=by
       rcases he with z | z
       . exact absurd (hbe.trans z) hb
       . rw[hbe];exact z
     rw[q] at q';cases q';obtain ⟨v,hv⟩:=heo;exact ⟨v,by rw[hbe];exact hv⟩
   . refine (ok b u q).stay (λc v hc r=>k c v ?_ r) (λc r=>by rw[aO (nown c b r)];exact r) λc xs r=>by rw[aO (ntup c xs r)];exact r
     rcases hc with rfl | hc
     . exact hbe
     . rintro rfl;rcases he with z | z
       . exact nown c b hc z
       . rw[hc] at z;cases z;exact hb rfl
end
structure Un(fs ex:List Addr)(H H':Hp)(h h':Heap):Prop where
 keep:∀ b o,h.get? b=some o->H b=none->b∉fs->b∉ex->h'.get? b=some o
 slot:∀ b o,h.get? b=some o->H b=none->b∈fs->b∉ex->∃ sl,h'.get? b=some { o with slots:=sl }
 free:∀ b o,h.get? b=some o->H b=none->b∉ex->H' b=none
 there:∀ b o,h.get? b=some o->b∉ex->∃ o',h'.get? b=some o'
 tups:∀ b xs,H b=some (.tup xs)->H' b=some (.tup xs)
 frzs:∀ b o u,H b=some (.frz o u)->H' b=some (.frz o u)
 tbls:∀ b ps,H b=some (.tbl ps)->∃ more,H' b=some (.tbl (ps++more))
section
variable {fs fs' ex ex':List Addr}{H H1 H2:Hp}{h h1 h2 h':Heap}{a x e:Addr}{o:HO}
theorem Un.any(u:Un fs ex H H1 h h1){b:Addr}{ob:Obj}(q:h.get? b=some ob)(n:H b=none)(hx:b∉ex):∃ sl,h1.get? b=some { ob with slots:=sl }:=by
 by_cases hb:b∈fs
 . exact u.slot b ob q n hb hx
 . exact ⟨ob.slots,u.keep b ob q n hb hx⟩
theorem Un.kept(k:∀ b u,h.get? b=some u->h'.get? b=some u):Un fs ex H H h h' :=
 ⟨λb ob q _ _ _=>k b ob q,λb ob q _ _ _=>⟨ob.slots,k b ob q⟩,λ_ _ _ n _=>n,λb ob q _=>⟨ob,k b ob q⟩,λ_ _ q=>q,λ_ _ _ q=>q,λ_ ps q=>⟨#[],by rw[q];simp⟩⟩
theorem Un.refl:Un fs ex H H h h:=Un.kept λ_ _ q=>q
theorem Un.laid(k:∀ b u,h.get? b=some u->h'.get? b=some u)(hp:h.objs.size<=a)(hn:H a=none):Un fs ex H (upd H a o) h h' where
 keep:=λb u q _ _ _=>k b u q
 slot:=λb u q _ _ _=>⟨u.slots,k b u q⟩
 free:=λb u q n _=>by rw[aO (aND (aNB (aNA q) hp))];exact n
 there:=λb u q _=>⟨u,k b u q⟩
 tups:=λb xs q=>by rw[aO (cV q hn)];exact q
 frzs:=λb u xs q=>by rw[aO (cV q hn)];exact q
 tbls:=λb ps q=>⟨#[],by rw[aO (cV q hn),q];simp⟩
theorem Un.write(mu:Mut (H x))(he:e=x\/H e=some (.own x))(k:∀ b u,b≠e->h.get? b=some u->h'.get? b=some u)(heo:∃ u,h'.get? e=some u):Un fs ex H (upd H x o) h h':=by
 have hx:∀ b,H b=none->b≠x:=λb n z=>by subst z;rw[n] at mu;exact mu
 have hb:∀ b,H b=none->b≠e:=λb n z=>by
  subst z;rcases he with r | r
  . exact hx b n r
  . rw[n] at r;cases r
 have hm:∀ b u,H b=some u -> ¬ Mut (some u)->b≠x:=λb u q nm z=>by subst z;rw[q] at mu;exact nm mu
 refine ⟨λb u q n _ _=>k b u (hb b n) q,λb u q n _ _=>⟨u.slots,k b u (hb b n) q⟩,λb u q n _=>by rw[aO (hx b n)];exact n,λb u q _=>?_,
  λb xs q=>by rw[aO (hm b _ q λz=>z)];exact q,λb u xs q=>by rw[aO (hm b _ q λz=>z)];exact q,λb ps q=>⟨#[],by rw[aO (hm b _ q λz=>z),q];simp⟩⟩
 by_cases hbe:b=e
 . subst hbe;exact heo
 . exact ⟨u,k b u hbe q⟩
end
def trk(h:Heap)(H:Hp):List Addr:=(List.range h.objs.size).filter λa=>(H a).isSome
def f7(h:Heap)(H:Hp):Heap:=PySem.W.hideAll h (trk h H)
theorem aAQ(h:Heap)(H:Hp):(f7 h H).objs.size=h.objs.size:=PySem.W.hideAll_size _ _
theorem aAR{h:Heap}{H:Hp}{b:Addr}{o:Obj}(e:h.get? b=some o)(n:H b=none):(f7 h H).get? b=some o :=
 aNE _ e λhm=>by have q:(H b).isSome=true:=(aNF.mp hm).2;rw[n] at q;simp at q
theorem aAS{h:Heap}{H:Hp}{b:Addr}{o:Obj}(e:(f7 h H).get? b=some o):h.get? b=some o/\H b=none:=by
 have e':h.get? b=some o:=aNG (trk h H) e;refine ⟨e',?_⟩;cases q:H b with
 | none=>rfl
 | some x =>
  have hm:b∈trk h H:=aNF.mpr ⟨List.mem_range.mpr (aNA e'),by simp[q]⟩
  have z:(f7 h H).get? b=none:=aNH (trk h H) hm;rw[z] at e;cases e
def aAT(g h:Heap)(L:Addr):LAO:=(List.range h.objs.size).filterMap λa=>if a=L\/(g.get? a).isSome=true then none else (h.get? a).map λo=>(a,o)
def bB(g h:Heap)(L d:Addr):LAO:=(aAT g h L).filter λp=>decide (p.1≠d)
structure Mod(K:Fg)(mg:SOV)(base:Heap):Prop where
 kin:K.In base
 glob:base.Ns mainGlobals mg
 blt:∃ mb,base.Ns builtinsNs mb/\∀ x:Str,x ≠ "__name__" -> mb x=bootBuiltins x
 nolimit:base.NoLimit
structure Cx where
 prog:Program
 w:World
 K:Fg
 mg:SOV
 base:Heap
 A:Around
 N:List Str
 s₀:Shared
 H₀:Hp
 env:Env
 outer:List Env
 stack:List Env
 ex:List Addr
 fn:Str->Bool
 calm:Bool
 pn:LAO
 xe:VSP
def frs(l:List Env):List Addr:=l.filterMap (·.frame)
abbrev Cx.fs(X:Cx):List Addr:=frs X.outer
def Vis(sc:Scope)(x:Str):Prop:=sc.names.lookup x=some .local\/sc.names.lookup x=some .cell\/sc.names.lookup x=some .free
def Loc(sc:Scope)(x:Str):Prop:=sc.names.lookup x=some .local\/sc.names.lookup x=some .cell
def Look(env:Env)(h:Heap)(m:SOV)(x:Str)(u:Value):Prop :=
 (env.kindOf x=some .local/\m x=some u)\/((env.kindOf x=some .cell\/env.kindOf x=some .free)/\∃ c,env.cells.lookup x=some c/\h.IsCell c (some u))
structure Cx.Ok(X:Cx):Prop where
 mod:Mod X.K X.mg X.base
 kind:X.env.scope.kind=.function
 glob:X.env.globals=mainGlobals
 blt:X.env.builtins=builtinsNs
 above:X.s₀.heap.objs.size<=X.env.locals
 inj:∀ x y c,X.env.cells.lookup x=some c->X.env.cells.lookup y=some c->x=y
 has:∀ x,(X.env.kindOf x=some .cell\/X.env.kindOf x=some .free)->∃ c,X.env.cells.lookup x=some c
 cab:∀ x c,X.fn x=true->X.env.cells.lookup x=some c->X.s₀.heap.objs.size<=c
 hd:X.calm=true->X.A.handled=none
 frames:X.A.frames=some X.stack
 stk:X.stack=X.outer\/(X.stack=X.env::X.outer/\X.env.frame=some X.env.locals)
 exf:∀ b∈X.ex,b≠X.env.locals/\∀ x c,X.env.cells.lookup x=some c->c≠b
 bs:∀ b o,X.base.get? b=some o->X.s₀.heap.get? b=some o/\X.H₀ b=none
 bsz:X.base.objs.size<=X.s₀.heap.objs.size
 noex:∀ b o,X.base.get? b=some o->b∉X.ex
 exfs:∀ b∈X.ex,b∉X.fs
 funs:X.s₀.heap.FunFrames X.base X.outer
 frf:∀ b∈X.fs,X.H₀ b=none
structure Inv(X:Cx)(aA:LAO)(σ:List (Option V))(H:Hp)(s:Shared):Prop where
 ok:X.Ok
 os:s.os=X.s₀.os
 bare:AllBare s.gens
 base:Un X.fs X.ex X.H₀ H X.s₀.heap s.heap
 loc:∃ m,s.heap.Ns X.env.locals m/\∀ (i:Nat) (x:Str) (v:V),X.N[i]? = some x->σ[i]? = some (some v)->Vis X.env.scope x->∃ u,aL v u/\Look X.env s.heap m x u
 cell:∀ x c,X.env.cells.lookup x=some c->∃ v,s.heap.IsCell c v
 free:H X.env.locals=none
 freeC:∀ x c,X.env.cells.lookup x=some c->H c=none
 pin:∀ p∈X.pn++aA,s.heap.get? p.1=some p.2/\H p.1=none/\p.1≠X.env.locals/\p.1∉X.fs/\∀ v,p.2.data ≠ .cell v
 hok:HOk X.prog X.w H s.heap
 len:σ.length=X.N.length
section
variable {X:Cx}{aA:LAO}{σ:List (Option V)}{H H':Hp}{s:Shared}{h':Heap}
theorem Cx.Ok.nofr(ok:X.Ok){b:Addr}{o:Obj}(e:X.base.get? b=some o):b∉X.fs:=λhb=>by have:=(ok.funs.mem hb).1;rw[e] at this;cases this
theorem Inv.bs(I:Inv X aA σ H s):∀ b o,X.base.get? b=some o->s.heap.get? b=some o/\H b=none:=λb o e =>
 ⟨I.base.keep b o (I.ok.bs b o e).1 (I.ok.bs b o e).2 (I.ok.nofr e) (I.ok.noex b o e),I.base.free b o (I.ok.bs b o e).1 (I.ok.bs b o e).2 (I.ok.noex b o e)⟩
theorem Inv.bk(I:Inv X aA σ H s):∀ b o,X.base.get? b=some o->s.heap.get? b=some o:=λb o e=>(I.bs b o e).1
theorem Inv.mod(I:Inv X aA σ H s):Mod X.K X.mg X.base:=I.ok.mod
theorem Inv.kIn(I:Inv X aA σ H s):X.K.In s.heap:=I.ok.mod.kin.keeps I.bk
theorem Inv.lt(I:Inv X aA σ H s):X.env.locals<s.heap.objs.size:=let ⟨_,hn,_⟩:=I.loc;hn.lt
theorem Inv.sz(I:Inv X aA σ H s):X.s₀.heap.objs.size<=s.heap.objs.size:=aNI I.ok.above (Nat.le_of_lt I.lt)
theorem Inv.nofs(I:Inv X aA σ H s){a:Addr}(h:s.heap.objs.size<=a):a∉X.fs:=λhb=>by obtain ⟨_,o,ho,_⟩:=I.ok.funs.mem hb;exact absurd (aNB (aNA ho) (aNI I.sz h)) (aNC _)
theorem Inv.cne(I:Inv X aA σ H s):∀ x c,X.env.cells.lookup x=some c->c≠X.env.locals:=λx c e z=>by obtain ⟨v,o,ho,hd⟩:=I.cell x c e;obtain ⟨m,⟨o',es,ep,ho',hd',_⟩,_⟩:=I.loc;rw[z,ho'] at ho;cases ho;rw[hd'] at hd;cases hd
theorem Inv.funs(I:Inv X aA σ H s):s.heap.FunFrames X.base X.outer:=by
 have all:∀ (l:List Env),(∀ b∈frs l,b∈X.fs)->X.s₀.heap.FunFrames X.base l->s.heap.FunFrames X.base l:=by
  intro l
  induction l with
  | nil=>intro _ _;trivial
  | cons env r ih =>
   intro hs hl;obtain ⟨hk,⟨L,o,hf,hn,ho,hd⟩,hr⟩:=hl;have hL:L∈X.fs:=hs L (by unfold frs;rw[aNJ,hf];exact mcs)
   obtain ⟨sl,e⟩:=I.base.slot L o ho (I.ok.frf L hL) hL λz=>I.ok.exfs L z hL;exact ⟨hk,⟨L,_,hf,hn,e,hd⟩,ih (λb hb=>hs b (by unfold frs;rw[aNJ,hf];exact mcm hb)) hr⟩
 exact all X.outer (λ_ hb=>hb) I.ok.funs
theorem Inv.stack(I:Inv X aA σ H s):s.heap.FunFrames X.base X.stack:=by
 rcases I.ok.stk with e | ⟨e,hf⟩
 . rw[e];exact I.funs
 . rw[e];obtain ⟨m,hn,_⟩:=I.loc;refine .cons (by rw[I.ok.kind];decide) hf hn ?_ I.funs
   exact Heap.get?_none_of_le (aNI I.ok.bsz I.ok.above)
theorem Inv.stkSub(I:Inv X aA σ H s):∀ b∈frs X.stack,b∈X.env.locals::X.fs:=λb hb=>by
 rcases I.ok.stk with e | ⟨e,hf⟩
 . rw[e] at hb;exact mcm hb
 . rw[e] at hb;unfold frs at hb;rw[aNJ,hf] at hb;exact hb
theorem Inv.stkFree(I:Inv X aA σ H s):∀ b∈frs X.stack,H b=none:=λb hb=>by
 rcases aNK.mp (I.stkSub b hb) with e | hb
 . rw[e];exact I.free
 . obtain ⟨_,o,ho,_⟩:=I.ok.funs.mem hb;exact I.base.free b o ho (I.ok.frf b hb) λz=>I.ok.exfs b z hb
theorem Inv.step{g':Array GenState}{t':Nat}{d':Drawn}{ch:List Addr}(I:Inv X aA σ H s)(hch:∀ b∈ch,(b∈X.ex\/X.s₀.heap.objs.size<=b)/\b≠X.env.locals/\(∀ x c,X.env.cells.lookup x=some c->c≠b)/\∀ p∈X.pn++aA,p.1≠b)(keep:∀ b o,b≠X.env.locals->b∉X.fs->b∉ch->s.heap.get? b=some o->H b=none->h'.get? b=some o)(slot:∀ b o,b≠X.env.locals->b∈X.fs->b∉ch->s.heap.get? b=some o->H b=none->∃ sl,h'.get? b=some { o with slots:=sl })(free:∀ b o,b∉ch->s.heap.get? b=some o->H b=none->H' b=none)(there:∀ b o,b∉ch->s.heap.get? b=some o->∃ o',h'.get? b=some o')(tups:∀ b xs,H b=some (.tup xs)->H' b=some (.tup xs))(frzs:∀ b o u,H b=some (.frz o u)->H' b=some (.frz o u))(tbls:∀ b ps,H b=some (.tbl ps)->∃ more,H' b=some (.tbl (ps++more)))(ns:∀ m,s.heap.Ns X.env.locals m->h'.Ns X.env.locals m)(hok:HOk X.prog X.w H' h')(hg:AllBare g'):Inv X aA σ H' { s with heap:=h',gens:=g',drawn:=d',toks:=t' }:=by
 have neL:∀ b o,X.s₀.heap.get? b=some o->b≠X.env.locals:=λb o e=>aND (aNB (aNA e) I.ok.above);have neC:∀ b o,X.s₀.heap.get? b=some o->b∉X.ex->b∉ch:=λb o e hx hb=>by
  rcases (hch b hb).1 with z | z
  . exact hx z
  . exact absurd (aNB (aNA e) z) (aNC _)
 have cellK:∀ x c,X.env.cells.lookup x=some c->∀ v,s.heap.IsCell c v->h'.IsCell c v:=λx c e v ⟨o,ho,hd⟩=>by
  have nch:c∉ch:=λz=>(hch c z).2.2.1 x c e rfl;by_cases hc:c∈X.fs
  . obtain ⟨sl,q⟩:=slot c o (I.cne x c e) hc nch ho (I.freeC x c e);exact ⟨_,q,hd⟩
  . exact ⟨o,keep c o (I.cne x c e) hc nch ho (I.freeC x c e),hd⟩
 refine ⟨I.ok,I.os,hg,⟨λb o e n hb hx=>?_,λb o e n hb hx=>?_,λb o e n hx=>?_,λb o e hx=>?_,λb xs e=>tups b xs (I.base.tups b xs e),λb o xs e=>frzs b o xs (I.base.frzs b o xs e),λb ps e=>?_⟩,?_,λx c e=>?_,?_,λx c e=>?_,λp hp=>?_,hok,I.len⟩
 . exact keep b o (neL b o e) hb (neC b o e hx) (I.base.keep b o e n hb hx) (I.base.free b o e n hx)
 . obtain ⟨sl,e1⟩:=I.base.slot b o e n hb hx;obtain ⟨sl',e2⟩:=slot b _ (neL b o e) hb (neC b o e hx) e1 (I.base.free b o e n hx);exact ⟨sl',e2⟩
 . obtain ⟨o',e1⟩:=I.base.there b o e hx;exact free b o' (neC b o e hx) e1 (I.base.free b o e n hx)
 . obtain ⟨o',e1⟩:=I.base.there b o e hx;exact there b o' (neC b o e hx) e1
 . obtain ⟨m1,e1⟩:=I.base.tbls b ps e;obtain ⟨m2,e2⟩:=tbls b _ e1;exact ⟨m1++m2,by rw[e2,Array.append_assoc]⟩
 . obtain ⟨m,hn,hl⟩:=I.loc;refine ⟨m,ns m hn,λi x v e1 e2 e3=>?_⟩;obtain ⟨u,r,l⟩:=hl i x v e1 e2 e3;refine ⟨u,r,?_⟩;rcases l with l | ⟨k,c,e,z⟩
   . exact .inl l
   . exact .inr ⟨k,c,e,cellK x c e _ z⟩
 . obtain ⟨v,z⟩:=I.cell x c e;exact ⟨v,cellK x c e v z⟩
 . obtain ⟨m,⟨o,_,_,ho,_⟩,_⟩:=I.loc;exact free _ o (λz=>(hch _ z).2.1 rfl) ho I.free
 . obtain ⟨v,o,ho,hd⟩:=I.cell x c e;exact free c o (λz=>(hch c z).2.2.1 x c e rfl) ho (I.freeC x c e)
 . obtain ⟨e,n,ne,nf,d⟩:=I.pin p hp;have nch:p.1∉ch:=λz=>(hch p.1 z).2.2.2 p hp rfl;exact ⟨keep p.1 p.2 ne nf nch e n,free p.1 p.2 nch e n,ne,nf,d⟩
theorem Inv.un{t':Nat}(I:Inv X aA σ H s)(u:Un X.fs [] H H' s.heap h')(hok:HOk X.prog X.w H' h'):Inv X aA σ H' { s with heap:=h',toks:=t' }:=by
 obtain ⟨m,⟨o,es,ep,ho,r⟩,_⟩:=id I.loc;obtain ⟨sl,hL⟩:=u.any ho I.free (by simp)
 exact I.step (g':=s.gens) (d':=s.drawn) (ch:=[]) (λ_ z=>nomatch z) (λb o _ hb _ e n=>u.keep b o e n hb (by simp)) (λb o _ hb _ e n=>u.slot b o e n hb (by simp)) (λb o _ e n=>u.free b o e n (by simp)) (λb o _ e=>u.there b o e (by simp)) u.tups u.frzs u.tbls (λm' hm=>by
  obtain ⟨o',es',ep',ho',r'⟩:=hm;rw[ho] at ho';cases ho';exact ⟨_,es',ep',hL,r'⟩) hok I.bare
theorem Inv.call{g':Array GenState}{t':Nat}{d':Drawn}{ch:List Addr}(I:Inv X aA σ H s)(u:Un (frs X.stack) ch H H' s.heap h')(hok:HOk X.prog X.w H' h')(hg:AllBare g')(hch:∀ b∈ch,(b∈X.ex\/X.s₀.heap.objs.size<=b)/\b≠X.env.locals/\(∀ x c,X.env.cells.lookup x=some c->c≠b)/\∀ p∈X.pn++aA,p.1≠b):Inv X aA σ H' { s with heap:=h',gens:=g',drawn:=d',toks:=t' }:=by
 obtain ⟨m,⟨o,es,ep,ho,r⟩,_⟩:=id I.loc;obtain ⟨sl,hL⟩:=u.any ho I.free λz=>(hch _ z).2.1 rfl;exact I.step (ch:=ch) hch (λb o hL hb hc e n=>u.keep b o e n (λz=>(aNK.mp (I.stkSub b z)).elim hL hb) hc) (λb o _ _ hc e n=>u.any e n hc) (λb o hc e n=>u.free b o e n hc) (λb o hc e=>u.there b o e hc) u.tups u.frzs u.tbls (λm' hm=>by
  obtain ⟨o',es',ep',ho',r'⟩:=hm;rw[ho] at ho';cases ho';exact ⟨_,es',ep',hL,r'⟩) hok hg
theorem Inv.turned{t':Nat}{it:Addr}(I:Inv X aA σ H s)(k:∀ b o,b≠it->s.heap.get? b=some o->h'.get? b=some o)(hn:H it=none)(hL:it≠X.env.locals)(h1:it∈X.ex\/X.s₀.heap.objs.size<=it)(h2:∀ x c,X.env.cells.lookup x=some c->c≠it)(h3:∀ p∈X.pn++aA,p.1≠it):Inv X aA σ H { s with heap:=h',toks:=t' }:=by
 have nit:∀ b u,H b=some u->b≠it:=λb u e z=>by rw[z,hn] at e;cases e
 refine I.step (g':=s.gens) (d':=s.drawn) (ch:=[it]) (λb hb=>?_) (λb o _ _ hc e _=>k b o (λz=>hc (by simp[z])) e) (λb o _ _ hc e _=>⟨o.slots,k b o (λz=>hc (by simp[z])) e⟩) (λ_ _ _ _ n=>n)
  (λb o hc e=>⟨o,k b o (λz=>hc (by simp[z])) e⟩) (λ_ _ e=>e) (λ_ _ _ e=>e) (λb ps e=>⟨#[],by rw[e];simp⟩) (λm hm=>?_) (λb u e=>?_) I.bare
 . have e:b=it:=by simpa using hb
   subst e;exact ⟨h1,hL,h2,h3⟩
 . obtain ⟨o,es,ep,ho,r⟩:=hm;exact ⟨o,es,ep,k _ o (Ne.symm hL) ho,r⟩
 . refine (I.hok b u e).stay (λc v hc q=>k c v ?_ q) (λ_ q=>q) λ_ _ q=>q;rcases hc with z | z
   . rw[z];exact nit b u e
   . exact nit c _ z
theorem Inv.tok(I:Inv X aA σ H s)(t:Nat):Inv X aA σ H { s with toks:=t }:=I.un (h':=s.heap) (t':=t) Un.refl I.hok
theorem Inv.kept{t':Nat}(I:Inv X aA σ H s)(k:∀ b u,s.heap.get? b=some u->h'.get? b=some u):Inv X aA σ H { s with heap:=h',toks:=t' }:=I.un (Un.kept k) (I.hok.kept k)
theorem Inv.laid{a:Addr}{o:HO}{t':Nat}(I:Inv X aA σ H s)(k:∀ b u,s.heap.get? b=some u->h'.get? b=some u)(hp:s.heap.objs.size<=a)(new:bU X.prog X.w (upd H a o) h' a o):Inv X aA σ (upd H a o) { s with heap:=h',toks:=t' }:=I.un (Un.laid k hp (I.hok.fresh hp)) (I.hok.laid k hp new)
theorem Inv.write{x e:Addr}{o:HO}{t':Nat}(I:Inv X aA σ H s)(mu:Mut (H x))(he:e=x\/H e=some (.own x))(k:∀ b u,b≠e->s.heap.get? b=some u->h'.get? b=some u)(heo:∃ u,h'.get? e=some u)(new:bU X.prog X.w (upd H x o) h' x o):Inv X aA σ (upd H x o) { s with heap:=h',toks:=t' }:=I.un (Un.write mu he k heo) (I.hok.write mu he k heo new)
theorem Inv.weak{σ':List (Option V)}(I:Inv X aA σ H s)(hl:σ'.length=σ.length)(w:∀ (i:Nat) v,σ'[i]? = some (some v)->σ[i]? = some (some v)):Inv X aA σ' H s :=
 ⟨I.ok,I.os,I.bare,I.base,let ⟨m,hn,hl'⟩:=I.loc;⟨m,hn,λi x v e1 e2 e3=>hl' i x v e1 (w i v e2) e3⟩,I.cell,I.free,I.freeC,I.pin,I.hok,hl.trans I.len⟩
theorem Inv.pins_of{pins':LAO}(I:Inv X aA σ H s)(h:∀ p∈pins',s.heap.get? p.1=some p.2/\H p.1=none/\p.1≠X.env.locals/\p.1∉X.fs/\∀ v,p.2.data ≠ .cell v):Inv X pins' σ H s :=
 ⟨I.ok,I.os,I.bare,I.base,I.loc,I.cell,I.free,I.freeC,λp hp=>(aNL.mp hp).elim (λz=>I.pin p (aNM _ z)) (h p),I.hok,I.len⟩
theorem o8{N:List Str}(hN:N.Nodup){i j:Nat}{x:Str}(a:N[i]? = some x)(b:N[j]? = some x):i=j:=by obtain ⟨h1,e1⟩:=aNN.mp a;obtain ⟨h2,e2⟩:=aNN.mp b;exact (aNO hN).mp (e1.trans e2.symm)
theorem o9{M:Model}{A:Around}{E:VSP}{i:Nat}{x:Str}{v:V}{u:Value}{Q:Unit->Shared->Prop}(I:Inv X aA σ H s)(hN:X.N.Nodup)(hi:X.N[i]? = some x)(hx:Loc X.env.scope x)(r:aL v u)(h:∀ s',Inv X aA (σ.set i (some v)) H s'->(∃ a,Heap.SameBut a s.heap s'.heap/\(a=X.env.locals\/X.env.cells.lookup x=some a))->Q () s')(hf:X.fn x=true\/X.env.scope.names.lookup x=some .local:=by first | exact .inl rfl | exact .inr rfl | assumption):wpAny M A (storeName X.env x u) Q E s:=by
 obtain ⟨m,hn,hl⟩:=id I.loc;have hcls:(X.env.scope.kind == .class||(X.env.scope.kind == .module&&X.env.locals != X.env.globals))=false:=by rw[I.ok.kind];rfl
 have hiσ:i<σ.length:=by rw[I.len];exact (aNN.mp hi).1
 have cne:=I.cne;have tracked:∀ {a:Addr} {h':Heap},(∃ o,s.heap.get? a=some o/\H a=none)->Heap.SameBut a s.heap h'->HOk X.prog X.w H h':=λ{a h'} ha hs b ob e=>by
  obtain ⟨_,_,cD⟩:=ha;refine (I.hok b ob e).stay (λc w' hc q=>(hs.2 c ?_).trans q) (λ_ q=>q) λ_ _ q=>q;rintro rfl;rcases hc with rfl | hc
  . rw[cD] at e;cases e
  . rw[cD] at hc;cases hc
 rcases hx with hk | hk
 . refine wpAny_storeName_local hk hn (λh' hn' hs=>?_) hcls;obtain ⟨oL,_,_,hoL,_⟩:=id hn;refine h _ ⟨I.ok,I.os,I.bare,⟨λb o e n hb hx=>?_,λb o e n hb hx=>?_,I.base.free,λb o e hx=>?_,I.base.tups,I.base.frzs,I.base.tbls⟩,⟨_,hn',λj y v' e1 e2 e3=>?_⟩,λy c e=>?_,I.free,I.freeC,λp hp=>?_,tracked ⟨oL,hoL,I.free⟩ hs,by simpa using I.len⟩ ⟨_,hs,.inl rfl⟩
   . exact (hs.2 b (aND (aNB (aNA e) I.ok.above))).trans (I.base.keep b o e n hb hx)
   . obtain ⟨sl,e1⟩:=I.base.slot b o e n hb hx;exact ⟨sl,(hs.2 b (aND (aNB (aNA e) I.ok.above))).trans e1⟩
   . obtain ⟨o',e1⟩:=I.base.there b o e hx;exact ⟨o',(hs.2 b (aND (aNB (aNA e) I.ok.above))).trans e1⟩
   . by_cases hj:j=i
     . subst hj;rw[hi] at e1;cases e1;rw[aNP hiσ] at e2;cases e2;exact ⟨u,r,.inl ⟨hk,by simp⟩⟩
     . rw[aNQ (Ne.symm hj)] at e2;obtain ⟨u',r',q⟩:=hl j y v' e1 e2 e3;refine ⟨u',r',?_⟩;rcases q with ⟨k,e⟩ | ⟨k,c,e,z⟩
       . refine .inl ⟨k,?_⟩;have:y≠x:=λe=>hj (o8 hN e1 (e ▸ hi));simp[this,e]
       . exact .inr ⟨k,c,e,z.sameBut hs (cne y c e)⟩
   . obtain ⟨w',z⟩:=I.cell y c e;exact ⟨w',z.sameBut hs (cne y c e)⟩
   . obtain ⟨e,n,ne,nf,d⟩:=I.pin p hp;exact ⟨(hs.2 p.1 ne).trans e,n,ne,nf,d⟩
 . have hfn:X.fn x=true:=by
     rcases hf with z | z
     . exact z
     . rw[z] at hk;cases hk
   obtain ⟨c,hc⟩:=I.ok.has x (.inl hk);obtain ⟨w',z⟩:=I.cell x c hc;refine wpAny_storeName_cell I.ok.kind hk hc z (λh' hc' hs=>?_);obtain ⟨oc,hoc,hocd⟩:=id z;refine h { s with heap:=h' } ⟨I.ok,I.os,I.bare,⟨λb o e n hb hx=>?_,λb o e n hb hx=>?_,I.base.free,λb o e hx=>?_,I.base.tups,I.base.frzs,I.base.tbls⟩,⟨m,hn.sameBut hs (Ne.symm (cne x c hc)),λj y v' e1 e2 e3=>?_⟩,λy c' e=>?_,I.free,I.freeC,λp hp=>?_,tracked ⟨oc,hoc,I.freeC x c hc⟩ hs,by simpa using I.len⟩ ⟨c,hs,.inr hc⟩
   . exact (hs.2 b (aND (aNB (aNA e) (I.ok.cab x c hfn hc)))).trans (I.base.keep b o e n hb hx)
   . obtain ⟨sl,e1⟩:=I.base.slot b o e n hb hx;exact ⟨sl,(hs.2 b (aND (aNB (aNA e) (I.ok.cab x c hfn hc)))).trans e1⟩
   . obtain ⟨o',e1⟩:=I.base.there b o e hx;exact ⟨o',(hs.2 b (aND (aNB (aNA e) (I.ok.cab x c hfn hc)))).trans e1⟩
   . by_cases hj:j=i
     . subst hj;rw[hi] at e1;cases e1;rw[aNP hiσ] at e2;cases e2;exact ⟨u,r,.inr ⟨.inl hk,c,hc,hc'⟩⟩
     . rw[aNQ (Ne.symm hj)] at e2;obtain ⟨u',r',q⟩:=hl j y v' e1 e2 e3;refine ⟨u',r',?_⟩;rcases q with q | ⟨k,c',e,z'⟩
       . exact .inl q
       . refine .inr ⟨k,c',e,z'.sameBut hs ?_⟩;rintro rfl;exact hj (o8 hN e1 (I.ok.inj _ _ _ e hc ▸ hi))
   . by_cases hcc:c'=c
     . subst hcc;exact ⟨_,hc'⟩
     . obtain ⟨w2,z2⟩:=I.cell y c' e;exact ⟨w2,z2.sameBut hs hcc⟩
   . obtain ⟨e,n,ne,nf,d⟩:=I.pin p hp;refine ⟨(hs.2 p.1 ?_).trans e,n,ne,nf,d⟩;intro q;rw[q,hoc] at e;have q':oc=p.2:=aM8 e;exact d w' (by rw[<- q'];exact hocd)
theorem mO{M:Model}{A:Around}{E:VSP}{i:Nat}{x:Str}{v:V}{u:Value}{Q:Unit->Shared->Prop}(I:Inv X aA σ H s)(hN:X.N.Nodup)(hi:X.N[i]? = some x)(hx:Loc X.env.scope x)(r:aL v u)(h:∀ s',Inv X aA (σ.set i (some v)) H s'->Q () s')(hf:X.fn x=true\/X.env.scope.names.lookup x=some .local:=by first | exact .inl rfl | exact .inr rfl | assumption):wpAny M A (storeName X.env x u) Q E s :=
 o9 I hN hi hx r (λs' I' _=>h s' I') hf
theorem Inv.call'{s':Shared}{ch:List Addr}(I:Inv X aA σ H s)(ho:s'.os=s.os)(u:Un (frs X.stack) ch H H' s.heap s'.heap)(hok:HOk X.prog X.w H' s'.heap)(hg:AllBare s'.gens)(hch:∀ b∈ch,(b∈X.ex\/X.s₀.heap.objs.size<=b)/\b≠X.env.locals/\(∀ x c,X.env.cells.lookup x=some c->c≠b)/\∀ p∈X.pn++aA,p.1≠b):Inv X aA σ H' s':=by obtain ⟨h',g',d',t',o'⟩:=s';have e:o'=s.os:=ho;subst e;exact I.call (g':=g') (t':=t') (d':=d') u hok hg hch
end
abbrev XK:=Value->Option Addr->Hp->Prop
abbrev St:=List (Option V)
abbrev VK:=V->Hp->Prop
abbrev TE:=St->Hp->VK->Prop
abbrev TT:=St->Hp->(Bool->Hp->Prop)->Prop
abbrev TA:=St->Hp->(List V->Hp->Prop)->Prop
structure cM where
 nx:St->Hp->Prop
 rt:VK
 bk:St->Hp->Prop:=λ_ _=>False
 ct:St->Hp->Prop:=λ_ _=>False
abbrev TS:=cM->St->Hp->Prop
def EP(X:Cx)(aA:LAO)(σ:St)(Q:VK)(u:Value)(s':Shared):Prop:=∃ v H',Inv X aA σ H' s'/\aL v u/\Q v H'
def TP(X:Cx)(aA:LAO)(σ:St)(Q:Bool->Hp->Prop)(b:Bool)(s':Shared):Prop:=∃ H',Inv X aA σ H' s'/\Q b H'
def AP(X:Cx)(aA:LAO)(σ:St)(Q:List V->Hp->Prop)(us:List Value)(s':Shared):Prop:=∃ vs H',Inv X aA σ H' s'/\aN vs us/\Q vs H'
def SP(X:Cx)(aA:LAO)(D:cM)(f:Flow)(s':Shared):Prop :=
 match f with
 | .next=>∃ σ' H',Inv X aA σ' H' s'/\D.nx σ' H'
 | .brk=>∃ σ' H',Inv X aA σ' H' s'/\D.bk σ' H'
 | .cont=>∃ σ' H',Inv X aA σ' H' s'/\D.ct σ' H'
 | .ret u=>∃ v σ' H',Inv X aA σ' H' s'/\aL v u/\D.rt v H'
def PE(X:Cx)(e:Expr)(t:TE):Prop :=
 ∀ (aA:LAO) (s:Shared) (σ:St) (H:Hp) (Q:VK),Inv X aA σ H s->t σ H Q->wpAny (model X.prog X.w) X.A (eval e X.env) (EP X aA σ Q) X.xe s
def PT(X:Cx)(e:Expr)(t:TT):Prop :=
 ∀ (aA:LAO) (s:Shared) (σ:St) (H:Hp) (Q:Bool->Hp->Prop),Inv X aA σ H s->t σ H Q->wpAny (model X.prog X.w) X.A (isTrue e X.env (eval e X.env)) (TP X aA σ Q) X.xe s
def PW(X:Cx)(e:Expr)(t:TT):Prop :=
 ∀ (whole:Sem Value) (aA:LAO) (s:Shared) (σ:St) (H:Hp) (Q:Bool->Hp->Prop),Inv X aA σ H s->t σ H Q->wpAny (model X.prog X.w) X.A (isTrue e X.env whole) (TP X aA σ Q) X.xe s
theorem PW.pt{X:Cx}{e:Expr}{t:TT}(h:PW X e t):PT X e t:=h _
def PA(X:Cx)(es:List Expr)(t:TA):Prop :=
 ∀ (pos:Pos) (aA:LAO) (s:Shared) (σ:St) (H:Hp) (Q:List V->Hp->Prop),Inv X aA σ H s->t σ H Q->wpAny (model X.prog X.w) X.A (spliced (backTo pos (starEach es X.env))) (AP X aA σ Q) X.xe s
def PS(X:Cx)(st:Stmt)(t:TS):Prop :=
 ∀ (aA:LAO) (s:Shared) (σ:St) (H:Hp) (D:cM),Inv X aA σ H s->t D σ H->wpAny (model X.prog X.w) X.A (exec st X.env) (SP X aA D) X.xe s
def PSs(X:Cx)(st:List Stmt)(t:TS):Prop :=
 ∀ (aA:LAO) (s:Shared) (σ:St) (H:Hp) (D:cM),Inv X aA σ H s->t D σ H->wpAny (model X.prog X.w) X.A (execs st X.env) (SP X aA D) X.xe s
theorem thn{α:Type}{t:Sem α}{Q Q':α->Shared->Prop}{M:Model}{A:Around}{E:VSP}{s:Shared}(h:wpAny M A t Q E s)(hQ:∀ a s,Q a s->Q' a s):wpAny M A t Q' E s:=aNR h hQ λ_ _ x=>x
section
variable {X:Cx}
def gX(i:Nat):TE:=λσ H Q=>∃ v,σ[i]? = some (some v)/\Q v H
def tC(v:V):TE:=λ_ H Q=>Q v H
theorem jF{i:Nat}{x:Str}{pos:Pos}(hN:X.N[i]? = some x)(hv:Vis X.env.scope x)(hd:(x==("__debug__" : Str))=false:=by decide)(hcd:(x==("__classdict__" : Str))=false:=by decide):PE X (.Name x pos) (gX i):=by
 intro aA s σ H Q I h;obtain ⟨v,e,h⟩:=h;obtain ⟨m,hn,hl⟩:=I.loc;obtain ⟨u,r,l⟩:=hl i x v hN e hv;have fin:EP X aA σ Q u s:=⟨v,H,I,r,h⟩;rcases l with ⟨hk,hm⟩ | ⟨hk,c,hc,bV⟩
 . exact wpAny_Name (wpAny_loadName_local I.ok.kind hk hn hm fin) hd
 . rcases hk with hk | hk
   . exact wpAny_Name (wpAny_loadName_cell I.ok.kind hk hc bV fin) hd
   . exact wpAny_Name (wpAny_loadName_free I.ok.kind hk hc bV fin hcd) hd
theorem aAU{i j pos}:PE X (.Constant (.int i) j pos) (tC (.int i)):=λ_ _ _ H _ I h=>wpAny_Constant_int ⟨.int i,H,I.tok _,⟨_,rfl⟩,h⟩
theorem pe_bl{b j pos}:PE X (.Constant (.bool b) j pos) (tC (.bl b)):=λ_ _ _ H _ I h=>Constant_bool ⟨.bl b,H,I,rfl,h⟩
theorem aAV{j pos}:PE X (.Constant .none j pos) (tC .non):=λ_ _ _ H _ I h=>Constant_none ⟨.non,H,I,rfl,h⟩
theorem aAW{x j pos}:PE X (.Constant (.str x) j pos) (tC (.str x)):=λ_ _ _ H _ I h=>Calls.Constant_str ⟨.str x,H,I.tok _,⟨_,rfl⟩,h⟩
def Gl(X:Cx)(x:Str):Prop:=X.env.kindOf x=some .globalImplicit
theorem kU{E:VSP}{aA:LAO}{s:Shared}{σ:St}{H:Hp}{x:Str}{u:Value}{pos:Pos}{Q:VSP}(I:Inv X aA σ H s)(hg:Gl X x)(hm:X.mg x=some u)(h:Q u s)(hd:(x==("__debug__" : Str))=false:=by decide):wpAny (model X.prog X.w) X.A (eval (.Name x pos) X.env) Q E s :=
 Calls.Name_function_global I.ok.kind hg (Calls.loadGlobal_global (by rw[I.ok.glob];exact I.mod.glob.keeps I.bk) hm h) hd
theorem kW{E:VSP}{aA:LAO}{s:Shared}{σ:St}{H:Hp}{x:Str}{u:Value}{pos:Pos}{Q:VSP}(I:Inv X aA σ H s)(hg:Gl X x)(hm:X.mg x=none)(hv:bootBuiltins x=some u)(h:Q u s)(hn:x ≠ "__name__" := by decide)(hd:(x==("__debug__" : Str))=false:=by decide):wpAny (model X.prog X.w) X.A (eval (.Name x pos) X.env) Q E s:=by obtain ⟨mb,h1,h2⟩:=I.mod.blt;exact Calls.Name_function_global I.ok.kind hg (Calls.loadGlobal_builtin (by rw[I.ok.glob];exact I.mod.glob.keeps I.bk) hm (by rw[I.ok.blt];exact h1.keeps I.bk) ((h2 x hn).trans hv) h) hd
theorem pA{x:Str}{v:V}{u:Value}{pos:Pos}(hg:Gl X x)(hm:X.mg x=some u)(r:aL v u)(hd:(x==("__debug__" : Str))=false:=by decide):PE X (.Name x pos) (tC v) :=
 λ_ _ _ H _ I h=>kU I hg hm ⟨v,H,I,r,h⟩ hd
theorem sO{x:Str}{v:V}{u:Value}{pos:Pos}(hg:Gl X x)(hm:X.mg x=none)(hv:bootBuiltins x=some u)(r:aL v u)(hn:x ≠ "__name__" := by decide)(hd:(x==("__debug__" : Str))=false:=by decide):PE X (.Name x pos) (tC v) :=
 λ_ _ _ H _ I h=>kW I hg hm hv ⟨v,H,I,r,h⟩ hn hd
variable {a b:Expr}{ta tb:TE}{pos:Pos}
variable {tA tB':TT}{bB:List Expr}
def pB(t u:TT):TT:=λσ H Q=>t σ H λc H1=>if c=true then u σ H1 Q else Q false H1
def tOr(t u:TT):TT:=λσ H Q=>t σ H λc H1=>if c=true then Q true H1 else u σ H1 Q
def tNot(t:TT):TT:=λσ H Q=>t σ H λc H1=>Q (!c) H1
theorem aAX(ha:PT X a tA):PW X (.BoolOp .And [a] pos) tA:=by
 intro wh aA s σ H Q I h;refine isTrue_and (thn (ha aA s σ H Q I h) λc s1 e=>?_);cases c with
 | true=>exact isTrue_and_nil e
 | false=>exact e
theorem aAY(ha:PT X a tA):PW X (.BoolOp .Or [a] pos) tA:=by
 intro wh aA s σ H Q I h;refine isTrue_or (thn (ha aA s σ H Q I h) λc s1 e=>?_);cases c with
 | false=>exact isTrue_or_nil e
 | true=>exact e
theorem aAZ(ha:PT X a tA)(hb:PW X (.BoolOp .And (b::bB) pos) tB'):PW X (.BoolOp .And (a::b::bB) pos) (pB tA tB'):=by
 intro wh aA s σ H Q I h;refine isTrue_and (thn (ha aA s σ H _ I h) λc s1 ⟨H1,I1,q1⟩=>?_);cases c with
 | true=>exact hb wh aA s1 σ H1 Q I1 q1
 | false=>exact ⟨H1,I1,q1⟩
theorem pw_or(ha:PT X a tA)(hb:PW X (.BoolOp .Or (b::bB) pos) tB'):PW X (.BoolOp .Or (a::b::bB) pos) (tOr tA tB'):=by
 intro wh aA s σ H Q I h;refine isTrue_or (thn (ha aA s σ H _ I h) λc s1 ⟨H1,I1,q1⟩=>?_);cases c with
 | true=>exact ⟨H1,I1,q1⟩
 | false=>exact hb wh aA s1 σ H1 Q I1 q1
theorem aA0(ha:PT X a tA):PT X (.UnaryOp .Not a pos) (tNot tA):=by intro aA s σ H Q I h;exact isTrue_not (ha aA s σ H (λc H1=>Q (!c) H1) I h)
def sP(ta tb:TE):TE:=λσ H Q=>ta σ H λx H1=>∃ c,x=.bl c/\if c=true then tb σ H1 Q else Q (.bl false) H1
def tOrV(ta tb:TE):TE:=λσ H Q=>ta σ H λx H1=>∃ c,x=.bl c/\if c=true then Q (.bl true) H1 else tb σ H1 Q
def sQ(ta:TE):TE:=λσ H Q=>ta σ H λx H1=>∃ c,x=.bl c/\Q (.bl (!c)) H1
theorem aA1{op}{t:TE}(h:PE X a t):PE X (.BoolOp op [a] pos) t:=λaA s σ H Q I hw=>BoolOp_one (h aA s σ H Q I hw)
theorem aA2(ha:PE X a ta)(hb:PE X (.BoolOp .And (b::bB) pos) tb):PE X (.BoolOp .And (a::b::bB) pos) (sP ta tb):=by
 intro aA s σ H Q I h;refine BoolOp_and (thn (ha aA s σ H _ I h) λv s1 ⟨x,H1,I1,r1,q1⟩=>?_);obtain ⟨c,rfl,q1⟩:=q1;cases r1;refine aNS ?_;cases c with
 | true=>exact hb aA s1 σ H1 Q I1 q1
 | false=>exact ⟨.bl false,H1,I1,rfl,q1⟩
theorem pe_or(ha:PE X a ta)(hb:PE X (.BoolOp .Or (b::bB) pos) tb):PE X (.BoolOp .Or (a::b::bB) pos) (tOrV ta tb):=by
 intro aA s σ H Q I h;refine BoolOp_or (thn (ha aA s σ H _ I h) λv s1 ⟨x,H1,I1,r1,q1⟩=>?_);obtain ⟨c,rfl,q1⟩:=q1;cases r1;refine aNS ?_;cases c with
 | false=>exact hb aA s1 σ H1 Q I1 q1
 | true=>exact ⟨.bl true,H1,I1,rfl,q1⟩
theorem aA3(ha:PE X a ta):PE X (.UnaryOp .Not a pos) (sQ ta):=by intro aA s σ H Q I h;refine UnaryOp_ (thn (ha aA s σ H _ I h) λv s1 ⟨x,H1,I1,r1,q1⟩=>?_);obtain ⟨c,rfl,q1⟩:=q1;cases r1;exact not_of (aNS ⟨.bl (!c),H1,I1,rfl,q1⟩)
end
def SqL(K:Fg)(H:Hp)(a:Addr)(xs:List V):Prop :=
 Rd H a (.lst xs) \/
  ∃ (o:Obj) (its:Array Value) (n:Nat),K.lookup a=some o/\o.cls=.type "list" /\ o.dict=none/\o.data=.seq its n/\its.size<=sizeLine/\aN xs its.toList
def SqT(K:Fg)(H:Hp)(a:Addr)(xs:List V):Prop :=
 Rd H a (.tup xs) \/
  ∃ (o:Obj) (its:Array Value) (n:Nat),K.lookup a=some o/\o.cls=.type "tuple" /\ o.dict=none/\o.data=.seq its n/\its.size<=sizeLine/\aN xs its.toList
def absV:Value->Option V
 | .none=>some .non
 | .bool b=>some (.bl b)
 | .int i _=>some (.int i)
 | .str x _=>some (.str x)
 | .bytes b _=>some (.byt b)
 | .float b _=>some (.flt b)
 | .ref a=>some (.ref a)
 | .type n=>some (.ty n)
 | _=>none
theorem aL.abs{x:V}{u:Value}(r:aL x u):absV u=some x:=by
 cases x with
 | non=>cases r;rfl
 | bl _=>cases r;rfl
 | int _=>obtain ⟨t,rfl⟩:=r;rfl
 | str _=>obtain ⟨t,rfl⟩:=r;rfl
 | byt _=>obtain ⟨t,rfl⟩:=r;rfl
 | flt _=>obtain ⟨t,rfl⟩:=r;rfl
 | ref _=>cases r;rfl
 | ty _=>cases r;rfl
theorem aL.inj{x y:V}{u:Value}(r:aL x u)(q:aL y u):x=y:=aM8 (r.abs.symm.trans q.abs)
theorem aN.inj:∀ {xs ys:List V} {us:List Value},aN xs us->aN ys us->xs=ys
 | _,_,_,.nil,.nil=>rfl
 | _,_,_,.cons r t,.cons r' t'=>by rw[r.inj r',aN.inj t t']
section
variable {X:Cx}{aA:LAO}{σ:St}{H:Hp}{s:Shared}{a:Addr}{xs ys:List V}
theorem SqL.of{K:Fg}(h:H a=some (.lst xs)):SqL K H a xs:=.inl (.inl h)
theorem SqT.of{K:Fg}(h:H a=some (.tup xs)):SqT K H a xs:=.inl (.inl h)
theorem Inv.list(I:Inv X aA σ H s)(h:SqL X.K H a xs):∃ its:List Value,aN xs its/\PlainL s.heap a its.toArray/\xs.length<=sizeLine:=by
 rcases h with h | ⟨o,its,n,hk,hc,hd,hs,hz,r⟩
 . obtain ⟨z,its,n,r,e⟩:=h.ok I.hok;exact ⟨its,r,⟨_,n,e,rfl,rfl,rfl⟩,z⟩
 . refine ⟨its.toList,r,⟨o,n,I.kIn a o hk,hc,hd,by simpa using hs⟩,?_⟩
   have e:=r.length;simp only[aNT] at e;omega
theorem Inv.tuple(I:Inv X aA σ H s)(h:SqT X.K H a xs):∃ its:List Value,aN xs its/\IsTup s.heap a its.toArray/\xs.length<=sizeLine:=by
 rcases h with h | ⟨o,its,n,hk,hc,hdt,hs,hz,r⟩
 . obtain ⟨z,its,r,p⟩:=h.ok I.hok;exact ⟨its,r,p.isTup,z⟩
 . refine ⟨its.toList,r,⟨o,I.kIn a o hk,hc,n,by simpa using hs⟩,?_⟩
   have e:=r.length;simp only[aNT] at e;omega
theorem Inv.list_inj(I:Inv X aA σ H s)(h:SqL X.K H a xs)(h':SqL X.K H a ys):xs=ys:=by
 obtain ⟨its,r,⟨o,n,e,_,_,d⟩,_⟩:=I.list h;obtain ⟨its',r',⟨o',n',e',_,_,d'⟩,_⟩:=I.list h';rw[e] at e';cases e';rw[d] at d';injection d' with d1 _
 have:its=its':=by simpa using congrArg Array.toList d1
 subst this;exact r.inj r'
theorem Inv.tuple_inj(I:Inv X aA σ H s)(h:SqT X.K H a xs)(h':SqT X.K H a ys):xs=ys:=by
 obtain ⟨its,r,⟨o,e,_,n,d⟩,_⟩:=I.tuple h;obtain ⟨its',r',⟨o',e',_,n',d'⟩,_⟩:=I.tuple h';rw[e] at e';cases e';rw[d] at d';injection d' with d1 _
 have:its=its':=by simpa using congrArg Array.toList d1
 subst this;exact r.inj r'
end
abbrev Cx.wish(X:Cx)(E:VSP):Cx:={ X with xe:=E }
section
variable {X:Cx}{aA:LAO}{σ:St}{H:Hp}{s:Shared}{E:VSP}
end
section
variable {X:Cx}{st:Stmt}{bB:List Stmt}{t u:TS}{e:Expr}{te:TE}{pos:Pos}
def tNext:TS:=λD σ H=>D.nx σ H
def tSeq(t u:TS):TS:=λD σ H=>t { D with nx:=u D } σ H
theorem aA4:PSs X [] tNext:=λ_ _ σ H _ I h=>aNU ⟨σ,H,I,h⟩
theorem aA5(h1:PS X st t)(h2:PSs X bB u):PSs X (st::bB) (tSeq t u):=by
 intro aA s σ H D I h;refine wpAny_execs_cons (thn (h1 aA s σ H { D with nx:=u D } I h) λf s1 q=>?_)
 cases f with
 | next=>obtain ⟨σ',H',I',q⟩:=q;exact h2 aA s1 σ' H' D I' q
 | ret v=>exact q
 | brk=>exact q
 | cont=>exact q
theorem Inv.quiet{aA:LAO}{σ:St}{H:Hp}{s:Shared}(I:Inv X aA σ H s):interactive X.env=false:=by simp[interactive,I.ok.kind]
def sR(te:TE):TS:=λD σ H=>te σ H λ_ H1=>D.nx σ H1
theorem sS(he:PE X e te)(hs:swapsWith e none pos.line X.env=pure false:=by rfl):PS X (.Expr e pos) (sR te):=by intro aA s σ H D I h;exact wpAny_Expr_any (thn (he aA s σ H _ I h) λv s1 ⟨x,H1,I1,r1,q1⟩=>⟨σ,H1,I1,q1⟩) I.quiet hs
def tRet(te:TE):TS:=λD σ H=>te σ H D.rt
theorem sU(he:PE X e te):PS X (.Return (some e) pos) (tRet te):=by intro aA s σ H D I h;exact wpAny_Return_some (thn (he aA s σ H _ I h) λv s1 ⟨x,H1,I1,r1,q1⟩=>⟨x,σ,H1,I1,r1,q1⟩)
def tIfS(c:TT)(t u:TS):TS:=λD σ H=>c σ H λb H1=>if b=true then t D σ H1 else u D σ H1
theorem ps_if{c:Expr}{a b:List Stmt}{tc:TT}(hc:PT X c tc)(ha:PSs X a t)(hb:PSs X b u):PS X (.If c a b pos) (tIfS tc t u):=by
 intro aA s σ H D I h;refine wpAny_If (thn (hc aA s σ H _ I h) λd s1 ⟨H1,I1,q1⟩=>?_);cases d with
 | true=>exact ha aA s1 σ H1 D I1 q1
 | false=>exact hb aA s1 σ H1 D I1 q1
end
abbrev TG:=V->St->Hp->(St->Hp->Prop)->Prop
abbrev TGs:=List V->St->Hp->(St->Hp->Prop)->Prop
def PG(X:Cx)(target:Expr)(t:TG):Prop :=
 ∀ (aA:LAO) (s:Shared) (σ:St) (H:Hp) (v:V) (u:Value) (Q:St->Hp->Prop),Inv X aA σ H s->aL v u->t v σ H Q ->
  wpAny (model X.prog X.w) X.A (assign target X.env u) (λ_ s'=>∃ σ' H',Inv X aA σ' H' s'/\Q σ' H') X.xe s
def PGs(X:Cx)(ts:List Expr)(t:TGs):Prop :=
 ∀ (aA:LAO) (s:Shared) (σ:St) (H:Hp) (vs:List V) (us:List Value) (Q:St->Hp->Prop),Inv X aA σ H s->aN vs us->t vs σ H Q ->
  wpAny (model X.prog X.w) X.A (assignInOrder ((assignEach ts X.env).map (·.2)) us) (λ_ s'=>∃ σ' H',Inv X aA σ' H' s'/\Q σ' H') X.xe s
abbrev TSet:=V->V->V->Hp->(Hp->Prop)->Prop
def PSet(X:Cx)(t:TSet):Prop :=
 ∀ (aA:LAO) (s:Shared) (σ:St) (H:Hp) (o i v:V) (ov iv u:Value) (Q:Hp->Prop),Inv X aA σ H s->aL o ov->aL i iv->aL v u->t o i v H Q ->
  wpAny (model X.prog X.w) X.A (setItem ov iv u) (λ_ s'=>∃ H',Inv X aA σ H' s'/\Q H') X.xe s
section
variable {X:Cx}{pos:Pos}
def jG(i:Nat):TG:=λv σ H Q=>Q (σ.set i (some v)) H
theorem aA6{i:Nat}{x:Str}(hN:X.N.Nodup)(hi:X.N[i]? = some x)(hx:Loc X.env.scope x)(hf:X.fn x=true\/X.env.scope.names.lookup x=some .local:=by first | exact .inl rfl | exact .inr rfl | assumption):PG X (.Name x pos) (jG i):=by intro aA s σ H v u Q I r h;exact aNV (mO I hN hi hx r (λs' I'=>⟨_,H,I',h⟩) hf)
def gNil:TGs:=λvs σ H Q=>vs=[]/\Q σ H
def sV(t:TG)(u:TGs):TGs:=λvs σ H Q=>∃ v r,vs=v::r/\t v σ H λσ' H'=>u r σ' H' Q
theorem aA7:PGs X [] gNil:=by intro aA s σ H vs us Q I r h;obtain ⟨e,h⟩:=h;subst e;cases r;exact assignInOrder_nil ⟨σ,H,I,h⟩
theorem aA8{e:Expr}{es:List Expr}{t:TG}{u:TGs}(h1:PG X e t)(h2:PGs X es u)(hs:(assignEach (e::es) X.env).map (·.2)=assign e X.env::(assignEach es X.env).map (·.2):=by rfl):PGs X (e::es) (sV t u):=by
 intro aA s σ H vs us Q I r h;obtain ⟨v,vr,e1,h⟩:=h;subst e1;cases r with
 | cons r rr=>rw[hs];refine assignInOrder_cons (thn (h1 aA s σ H _ _ _ I r h) λ_ s1 ⟨σ1,H1,I1,q1⟩=>?_);exact h2 aA s1 σ1 H1 _ _ Q I1 rr q1
def gTup(K:Fg)(n:Nat)(t:TGs):TG:=λv σ H Q=>∃ a xs,v=.ref a/\SqT K H a xs/\xs.length=n/\t xs σ H Q
theorem aA9{es:List Expr}{k:Nat}{t:TGs}{n:Nat}(hc:X.calm=true)(h:PGs X es t)(hn:(assignEach es X.env).length=n:=by rfl)(hst:(assignEach es X.env).findIdx? (·.1)=none:=by rfl):PG X (.Tuple es k pos) (gTup X.K n t):=by
 intro aA s σ H v u Q I r hw;obtain ⟨a,xs,e1,hq,hl,hw⟩:=hw;subst e1;cases r;obtain ⟨its,rv,ht,hz⟩:=I.tuple hq;refine assign_Tuple_tuple (I.ok.hd hc) ht (by simp[hn,<- hl,rv.length]) hst λh' hx=>?_
 have I1:Inv X aA σ H { s with heap:=h' }:=I.kept (t':=s.toks) λb o e=>hx b o (aND (aNA e)) e
 exact h aA _ σ H xs _ Q I1 (by simpa using rv) hw
def iQ(te:TE)(g:TG):TS:=λD σ H=>te σ H λx H1=>g x σ H1 D.nx
theorem aBA{tg e:Expr}{te:TE}{g:TG}(he:PE X e te)(hg:PG X tg g)(hs:swapsWithSole [tg] e pos.line X.env=pure false:=by rfl)(hw:swappedStores [tg] e X.env=pure none:=by rfl)(h1:(assignEach [tg] X.env).map (·.2)=[assign tg X.env]:=by rfl):PS X (.Assign [tg] e pos) (iQ te g):=by intro aA s σ H D I h;refine wpAny_Assign_stores (thn (he aA s σ H _ I h) λv s1 ⟨x,H1,I1,r1,q1⟩=>?_) hs hw;rw[h1];exact thn (hg aA s1 σ H1 x v _ I1 r1 q1) λ_ s2 q=>q
theorem aBB{i:Nat}{x:Str}{e:Expr}{te:TE}{pos':Pos}(hN:X.N.Nodup)(hi:X.N[i]? = some x)(hx:Loc X.env.scope x)(he:PE X e te)(hs:swapsWith e (some (.Name x pos')) pos.line X.env=pure false:=by rfl)(hf:X.fn x=true\/X.env.scope.names.lookup x=some .local:=by first | exact .inl rfl | exact .inr rfl | assumption):PS X (.Assign [.Name x pos'] e pos) (iQ te (jG i)):=by intro aA s σ H D I h;refine wpAny_Assign_Name (thn (he aA s σ H _ I h) λv s1 ⟨y,H1,I1,r1,q1⟩=>?_) hs;exact mO I1 hN hi hx r1 (λs2 I2=>⟨_,H1,I2,q1⟩) hf
end
section
variable {X:Cx}{pos:Pos}
end
structure It where
 go:Nat->Hp->Prop
 yld:Nat->Hp->V->Hp->Prop
 stop:Nat->Hp->Prop
def dY(X:Cx)(aA:LAO)(H:Hp)(b:Addr):Prop :=
 H b=none/\b≠X.env.locals/\b∉X.fs/\(b∈X.ex\/X.s₀.heap.objs.size<=b)/\(∀ x c,X.env.cells.lookup x=some c->c≠b)/\∀ p∈X.pn++aA,p.1≠b
theorem Inv.fpOk{X:Cx}{aA:LAO}{σ:St}{H H':Hp}{s:Shared}{b:Addr}(I:Inv X aA σ H s)(hb:s.heap.objs.size<=b)(hn:H' b=none):dY X aA H' b:=by
 refine ⟨hn,Nat.ne_of_gt (aNB I.lt hb),I.nofs hb,.inr (aNI I.sz hb),λx c e z=>?_,λp hp z=>?_⟩
 . obtain ⟨v,q⟩:=I.cell x c e;exact absurd (aNB q.lt (by rw[z];exact hb)) (aNC _)
 . exact absurd (aNB (aNA (I.pin p hp).1) (by rw[z];exact hb)) (aNC _)
structure gY(P:Program)(w:World)(K:Fg)(tg:Expr)(J:It)(fp:List Addr)(it:Addr)(tn:Nat->Heap->Prop):Prop where
 mem:it∈fp
 obj:∀ i h,tn i h->∀ b∈fp,∃ o,h.get? b=some o/\∀ v,o.data ≠ .cell v
 keep:∀ i h h',tn i h->(∀ b∈fp,∀ o,h.get? b=some o->h'.get? b=some o)->tn i h'
 item:∀ (X:Cx),X.prog=P->X.w=w->X.K=K->X.calm=true->∀ (i:Nat) (aA:LAO) (s:Shared) (σ:St) (H:Hp) (E:VSP),Inv X aA σ H s->(∀ b∈fp,dY X aA H b)->tn i s.heap->J.go i H ->
  wpAny (model P w) X.A (pyNext (.ref it)) (λr s1=>∃ u,r=some u /\
   wpAny (model P w) X.A (letOwnedTupleGo tg (.ref it) u) (λ_ s2=>∃ x H',Inv X aA σ H' s2/\aL x u/\J.yld i H x H'/\tn (i+1) s2.heap/\∀ b∈fp,H' b=none) E s1) E s
 done:∀ (X:Cx),X.prog=P->X.w=w->X.K=K->X.calm=true->∀ (i:Nat) (aA:LAO) (s:Shared) (σ:St) (H:Hp) (E:VSP),Inv X aA σ H s->(∀ b∈fp,dY X aA H b)->tn i s.heap->J.stop i H ->
  wpAny (model P w) X.A (pyNext (.ref it)) (λr s1=>r=none/\Inv X aA σ H s1) E s
 self:∀ (A:Around) (i:Nat) (s:Shared) (Q:VSP) (E:VSP),tn i s.heap->Q (.ref it) s->wpAny (model P w) A (pyIter (.ref it)) Q E s
abbrev TI:=St->Hp->(It->Hp->Prop)->Prop
def PIE(X:Cx)(aA:LAO)(σ:St)(tg:Expr)(R:It->Hp->Prop)(itv:Value)(s2:Shared):Prop :=
 ∃ (it:Addr) (fp:List Addr) (tn:Nat->Heap->Prop) (J:It) (H':Hp),itv=.ref it/\Inv X aA σ H' s2/\gY X.prog X.w X.K tg J fp it tn/\tn 0 s2.heap/\(∀ b∈fp,dY X aA H' b)/\R J H'
def PI(X:Cx)(tg aH:Expr)(wi:TI):Prop :=
 ∀ (aA:LAO) (s:Shared) (σ:St) (H:Hp) (R:It->Hp->Prop),Inv X aA σ H s->wi σ H R ->
  wpAny (model X.prog X.w) X.A (eval aH X.env) (λv s1=>wpAny (model X.prog X.w) X.A (pyIter v) (PIE X aA σ tg R) X.xe s1) X.xe s
theorem mP{M:Model}{A:Around}{E:VSP}{s:Shared}{tg:Expr}{it:Addr}{u:Value}{o:Obj}{n:String}{vs:Array Value}{Q:Unit->Shared->Prop}(ho:s.heap.get? it=some o)(hc:o.cls=.type n)(hd:o.data=.fields vs)(hn:["enumerate", "zip", "dict_itemiterator", "dict_reverseitemiterator", "odict_iterator", "itertools.zip_longest", "itertools.pairwise"].contains n=false)(hQ:Q () s):wpAny M A (letOwnedTupleGo tg (.ref it) u) Q E s:=by
 unfold letOwnedTupleGo;cases tg <;> first
  | exact aNW hQ
  | (cases u <;> first
      | exact aNW hQ
      | (refine aNX (wpAny_load ho ?_)
         rw[hc,hd];show wpAny M A (if (["enumerate", "zip", "dict_itemiterator", "dict_reverseitemiterator", "odict_iterator", "itertools.zip_longest", "itertools.pairwise"].contains n&&vs[0]?==some (rawInt _))=true then _ else _) Q E s;rw[if_neg (by intro h;rw[hn,Bool.false_and] at h;cases h)]
         exact aNW hQ))
def Itl(K:Fg)(a:Addr):It :=
 ⟨λi H=>∃ xs x,SqL K H a xs/\xs[i]? = some x,λi H x H'=>H'=H/\∀ xs,SqL K H a xs->xs[i]? = some x,λi H=>∃ xs,SqL K H a xs/\xs.length<=i⟩
def Itt(K:Fg)(a:Addr):It :=
 ⟨λi H=>∃ xs x,SqT K H a xs/\xs[i]? = some x,λi H x H'=>H'=H/\∀ xs,SqT K H a xs->xs[i]? = some x,λi H=>∃ xs,SqT K H a xs/\xs.length<=i⟩
def Itr(lo:Int)(n:Nat):It:=⟨λi _=>i<n,λi H x H'=>H'=H/\x=.int (lo+i),λi _=>n<=i⟩
theorem aBC{P:Program}{w:World}{K:Fg}{tg:Expr}(a it:Addr):gY P w K tg (Itl K a) [it] it (λi h=>h.IsListIter it a i) where
 mem:=by simp
 obj:=λi h st b hb=>by
  have e:b=it:=by simpa using hb
  subst e;obtain ⟨o,e,c,d⟩:=st;exact ⟨o,e,λv z=>by rw[d] at z;cases z⟩
 keep:=λi h h' st k=>st.at λo e=>k it (by simp) o e
 item:=by
  intro X hP hw hK hc i aA s σ H E I hf st hg;subst hP hw hK;obtain ⟨xs,x,hq,hx⟩:=hg;obtain ⟨its,rv,p,hz⟩:=I.list hq;obtain ⟨u,hu,ru⟩:=rv.get hx;obtain ⟨f0,f1,f2,f3,f4,f5⟩:=hf it (by simp)
  refine wpAny_pyNext_list_item st p.isList (x:=u) (by simpa using hu) λh' st' sb=>?_
  have I1:Inv X aA σ H { s with heap:=h' }:=I.turned (t':=s.toks) (λb o hb e=>(sb.2 b hb).trans e) f0 f1 f3 f4 f5
  obtain ⟨o,e,c,d⟩:=id st';exact ⟨u,rfl,mP (s:={ s with heap:=h' }) e c d (by decide) ⟨x,H,I1,ru,⟨rfl,λys hy=>by rw[I.list_inj hy hq];exact hx⟩,st',λb hb=>(hf b hb).1⟩⟩
 done:=by
  intro X hP hw hK hc i aA s σ H E I hf st hg;subst hP hw hK;obtain ⟨xs,hq,hx⟩:=hg;obtain ⟨its,rv,p,hz⟩:=I.list hq;obtain ⟨f0,f1,f2,f3,f4,f5⟩:=hf it (by simp)
  have hl:=rv.length;exact wpAny_pyNext_list_end (I.ok.hd hc) st p.isList (by simp;omega) λh' eb=>⟨rfl,I.turned (t':=s.toks) (λb o hb e=>eb b o hb e) f0 f1 f3 f4 f5⟩
 self:=λ_ _ _ _ _ st h=>wpAny_pyIter_listiter st h
theorem aBD{P:Program}{w:World}{K:Fg}{tg:Expr}(a it:Addr):gY P w K tg (Itt K a) [it] it (λi h=>h.IsTupleIter it a i) where
 mem:=by simp
 obj:=λi h st b hb=>by
  have e:b=it:=by simpa using hb
  subst e;obtain ⟨o,e,c,d⟩:=st;exact ⟨o,e,λv z=>by rw[d] at z;cases z⟩
 keep:=λi h h' st k=>st.at λo e=>k it (by simp) o e
 item:=by
  intro X hP hw hK hc i aA s σ H E I hf st hg;subst hP hw hK;obtain ⟨xs,x,hq,hx⟩:=hg;obtain ⟨its,rv,p,hz⟩:=I.tuple hq;obtain ⟨u,hu,ru⟩:=rv.get hx;obtain ⟨f0,f1,f2,f3,f4,f5⟩:=hf it (by simp)
  refine wpAny_pyNext_tuple_item st (show s.heap.IsTuple a its.toArray from p) (x:=u) (by simpa using hu) λh' st' sb=>?_
  have I1:Inv X aA σ H { s with heap:=h' }:=I.turned (t':=s.toks) (λb o hb e=>(sb.2 b hb).trans e) f0 f1 f3 f4 f5
  obtain ⟨o,e,c,d⟩:=id st';exact ⟨u,rfl,mP (s:={ s with heap:=h' }) e c d (by decide) ⟨x,H,I1,ru,⟨rfl,λys hy=>by rw[I.tuple_inj hy hq];exact hx⟩,st',λb hb=>(hf b hb).1⟩⟩
 done:=by
  intro X hP hw hK hc i aA s σ H E I hf st hg;subst hP hw hK;obtain ⟨xs,hq,hx⟩:=hg;obtain ⟨its,rv,p,hz⟩:=I.tuple hq;obtain ⟨f0,f1,f2,f3,f4,f5⟩:=hf it (by simp)
  have hl:=rv.length;exact wpAny_pyNext_tuple_end (I.ok.hd hc) st (show s.heap.IsTuple a its.toArray from p) (by simp;omega) λh' eb=>⟨rfl,I.turned (t':=s.toks) (λb o hb e=>eb b o hb e) f0 f1 f3 f4 f5⟩
 self:=λ_ _ _ _ _ st h=>wpAny_pyIter_tupleiter st h
theorem aBE{P:Program}{w:World}{K:Fg}{tg:Expr}(it:Addr)(lo:Int)(n:Nat):gY P w K tg (Itr lo n) [it] it (λi h=>IsRangeIter h it (lo+(i:Nat) * 1) ((n:Int)-(i:Nat)) 1) where
 mem:=by simp
 obj:=λi h st b hb=>by
  have e:b=it:=by simpa using hb
  subst e;exact ⟨_,st,λv z=>by
   have z':Data.fields _=Data.cell v:=z;cases z'⟩
 keep:=λi h h' st k=>k it (by simp) _ st
 item:=by
  intro X hP hw hK hc i aA s σ H E I hf st hg;subst hP hw hK;obtain ⟨f0,f1,f2,f3,f4,f5⟩:=hf it (by simp)
  have W:=Walks.range (prog:=X.prog) (w:=X.w) (I.ok.hd hc) it lo 1 n;refine W.item i s _ _ hg st λv h' tk hv st' kk=>?_;obtain ⟨t,rfl⟩:=hv;have I1:Inv X aA σ H { s with heap:=h',toks:=tk }:=I.turned (λb o hb e=>kk b o (by simpa using hb) e) f0 f1 f3 f4 f5
  refine ⟨_,rfl,mP (s:={ s with heap:=h',toks:=tk }) (n := "range_iterator") st' rfl rfl (by decide) ⟨.int (lo+i),H,I1,⟨t,?_⟩,⟨rfl,rfl⟩,st',λb hb=>(hf b hb).1⟩⟩
  rw[Int.mul_one]
 done:=by
  intro X hP hw hK hc i aA s σ H E I hf st hg;subst hP hw hK;obtain ⟨f0,f1,f2,f3,f4,f5⟩:=hf it (by simp)
  exact wpAny_pyNext_range_end (I.ok.hd hc) st (by have:n<=i:=hg;omega) λh' eb=>⟨rfl,I.turned (t':=s.toks) (λb o hb e=>eb b o hb e) f0 f1 f3 f4 f5⟩
 self:=λ_ _ _ _ _ st h=>wpAny_pyIter_rangeiter st h
section
variable {X:Cx}{tg:Expr}
def pC(K:Fg)(tl:TE):TI:=λσ H R=>tl σ H λx H1=>∃ a,x=.ref a/\(∃ xs,SqL K H1 a xs)/\R (Itl K a) H1
def iTup(K:Fg)(tl:TE):TI:=λσ H R=>tl σ H λx H1=>∃ a,x=.ref a/\(∃ xs,SqT K H1 a xs)/\R (Itt K a) H1
theorem aBF{l:Expr}{tl:TE}(hl:PE X l tl):PI X tg l (pC X.K tl):=by
 intro aA s σ H R I h;refine thn (hl aA s σ H _ I h) λv s1 ⟨x,H1,I1,r1,q1⟩=>?_;obtain ⟨a,e,⟨xs,hq⟩,q⟩:=q1;subst e;cases r1;obtain ⟨its,rv,p,hz⟩:=I1.list hq;refine wpAny_pyIter_list p.isList ?_;refine ⟨s1.heap.objs.size,[s1.heap.objs.size],_,_,H1,rfl,I1.kept (t':=s1.toks) λb o e=>hps e,aBC a _,⟨_,aM9 _ rfl,rfl,rfl⟩,λb hb=>?_,q⟩;have e:b=s1.heap.objs.size:=by simpa using hb
 subst e;exact I1.fpOk (aNY _) (I1.hok.fresh (aNY _))
theorem aBG{l:Expr}{tl:TE}(hl:PE X l tl):PI X tg l (iTup X.K tl):=by
 intro aA s σ H R I h;refine thn (hl aA s σ H _ I h) λv s1 ⟨x,H1,I1,r1,q1⟩=>?_;obtain ⟨a,e,⟨xs,hq⟩,q⟩:=q1;subst e;cases r1;obtain ⟨its,rv,p,hz⟩:=I1.tuple hq;refine aNZ (show s1.heap.IsTuple a its.toArray from p) ?_
 refine ⟨s1.heap.objs.size,[s1.heap.objs.size],_,_,H1,rfl,I1.kept (t':=s1.toks) λb o e=>hps e,aBD a _,⟨_,aM9 _ rfl,rfl,rfl⟩,λb hb=>?_,q⟩;have e:b=s1.heap.objs.size:=by simpa using hb
 subst e;exact I1.fpOk (aNY _) (I1.hok.fresh (aNY _))
theorem aBH{aA:LAO}{σ:St}{H:Hp}{s:Shared}{R:It->Hp->Prop}{E:VSP}{lo hi:Int}{t u v:Tok}{tk:Nat}(I:Inv X aA σ H s)(h1:-(2 ^ 62)<=lo)(h2:lo<2 ^ 62)(h3:-(2 ^ 62)<=hi)(h4:hi<2 ^ 62)(q:R (Itr lo (hi-lo).toNat) H):wpAny (model X.prog X.w) X.A (pyIter (.ref s.heap.objs.size)) (PIE X aA σ tg R) E { s with heap:=s.heap.push { cls:=.type "range", data:=.fields #[.int lo t,.int hi u,.int 1 v] },toks:=tk }:=by
 refine wpAny_pyIter_range (IsRange.new ..) (small_one h1 h2 h3 h4) ?_;have I1:Inv X aA σ H { s with heap:=s.heap.push { cls:=.type "range", data:=.fields #[.int lo t,.int hi u,.int 1 v] },toks:=tk }:=I.kept λb o e=>hps e
 refine ⟨(s.heap.push { cls:=.type "range", data:=.fields #[.int lo t,.int hi u,.int 1 v] }).objs.size,[(s.heap.push { cls:=.type "range", data:=.fields #[.int lo t,.int hi u,.int 1 v] }).objs.size],_,_,H,rfl,
  I1.kept (t':=tk) λb o e=>hps e,aBE _ lo (hi-lo).toNat,?_,λb hb=>?_,q⟩
 . have e1:lo+((0:Nat):Int) * 1=lo:=by simp
   have e2:(((hi-lo).toNat:Nat):Int)-((0:Nat):Int)=Builtin.Range.rangeSize lo hi 1:=by rw[rangeSize_one];split <;> omega
   show IsRangeIter _ _ (lo+((0:Nat):Int) * 1) ((((hi-lo).toNat:Nat):Int)-((0:Nat):Int)) 1;rw[e1,e2];exact aM9 _ rfl
 . have e:b=(s.heap.push { cls:=.type "range", data:=.fields #[.int lo t,.int hi u,.int 1 v] }).objs.size:=by simpa using hb
   subst e;exact I1.fpOk (aNY _) (I1.hok.fresh (aNY _))
def sW(ta:TA):TI:=λσ H R=>ta σ H λvs H1=>∃ j:Int,vs=[.int j] /\ -(2 ^ 62)<=j/\j<2 ^ 62/\R (Itr 0 j.toNat) H1
theorem aBI{a:Expr}{ta:TA}{p pos:Pos}(hg:Gl X "range")(hm:X.mg "range" = none)(ha:PA X [a] ta)(hs:starEach [a] X.env=[(false,eval a X.env)]:=by rfl):PI X tg (.Call (.Name "range" p) [a] [] pos) (sW ta):=by
 intro aA s σ H R I h;refine Call_ (kW I hg hm boot_range (aN0 (thn (ha pos aA s σ H _ I h) λus s1 ⟨vs,H1,I1,r1,q1⟩=>?_) hs rfl));obtain ⟨j,e,q1,q2,q⟩:=q1;subst e;cases r1 with
 | cons r rr=>cases rr;obtain ⟨t,rfl⟩:=r;exact call_range_1 (aBH I1 (by omega) (by omega) q1 q2 (by simpa using q))
def tFor(wi:TI)(g:TG)(tb:TS):TS:=λD σ H=>wi σ H λJ H1=>∃ W:Nat->Nat->St->Hp->Prop,(∃ m,W 0 m σ H1)/\∀ i m σ H,W i m σ H ->
 (J.stop i H/\D.nx σ H)\/(J.go i H/\∃ N:St->Hp->Prop,(∀ σ' H',N σ' H'->∃ m',m'<m/\W (i+1) m' σ' H')/\∀ x H',J.yld i H x H'->g x σ H' λσ2 H2=>tb { D with nx:=N,ct:=N,bk:=D.nx } σ2 H2)
def jH(fp:List Addr)(h:Heap):LAO:=fp.filterMap λb=>(h.get? b).map λo=>(b,o)
theorem mQ{fp:List Addr}{h:Heap}{b:Addr}{o:Obj}(hb:b∈fp)(e:h.get? b=some o):(b,o)∈jH fp h:=aN1.mpr ⟨b,hb,by rw[e];rfl⟩
theorem aBJ{fp:List Addr}{h:Heap}{p:Addr×Obj}(hp:p∈jH fp h):p.1∈fp/\h.get? p.1=some p.2:=by
 obtain ⟨b,hb,e⟩:=aN1.mp hp;cases q:h.get? b with
 | none=>rw[q] at e;cases e
 | some o=>rw[q] at e;have e':(b,o)=p:=aM8 e;subst e';exact ⟨hb,q⟩
theorem Inv.pinned{aA:LAO}{σ:St}{H:Hp}{s:Shared}{fp:List Addr}(I:Inv X aA σ H s)(hf:∀ b∈fp,dY X aA H b)(ho:∀ b∈fp,∃ o,s.heap.get? b=some o/\∀ v,o.data ≠ .cell v):Inv X (aA++jH fp s.heap) σ H s :=
 I.pins_of λp hp=>(aNL.mp hp).elim (λz=>I.pin p (aN2 _ z)) λz=>by obtain ⟨hb,e⟩:=aBJ z;obtain ⟨f0,f1,f2,_⟩:=hf p.1 hb;obtain ⟨o,e',d⟩:=ho p.1 hb;rw[e] at e';cases e';exact ⟨e,f0,f1,f2,d⟩
theorem Inv.unpinned{aA pl:LAO}{σ:St}{H:Hp}{s:Shared}(I:Inv X (aA++pl) σ H s):Inv X aA σ H s:=I.pins_of λp hp=>I.pin p (aN2 _ (aNM _ hp))
theorem aBK{aH:Expr}{body:List Stmt}{wi:TI}{g:TG}{tb:TS}{pos:Pos}(hp:PassesOwn (model X.prog X.w) X.A X.env X.xe)(hc:X.calm=true)(hi:PI X tg aH wi)(hg:PG X tg g)(hb:PSs X body tb)(hs:∀ x,foldedSetIterable aH X.env x=pure x:=by intro _;rfl):PS X (.For tg aH body [] pos) (tFor wi g tb):=by
 intro aA s σ H D I h;refine wpAny_For (thn (hi aA s σ H _ I h) λv s1 h1=>thn h1 λitv s2 h2=>?_) hs;obtain ⟨it,fp,tn,J,H2,e,I2,T,st2,f2,W,⟨m0,w0⟩,turn⟩:=h2;subst e;have stat:∀ {H':Hp},(∀ b∈fp,H' b=none)->∀ b∈fp,dY X aA H' b:=λhn b hb=>⟨hn b hb,(f2 b hb).2⟩;refine codeAny_forLoop_any (λn s'=>∃ i σ' H',Inv X aA σ' H' s'/\tn i s'.heap/\(∀ b∈fp,H' b=none)/\W i n σ' H') ?_ m0 ⟨0,σ,H2,I2,st2,λb hb=>(f2 b hb).1,w0⟩;rintro n s3 ⟨i,σ3,H3,I3,st3,fr3,w3⟩;rcases turn i n σ3 H3 w3 with ⟨stop,qn⟩ | ⟨go,N,hN,step⟩
 . refine aN3 hp (thn (T.done X rfl rfl rfl hc i aA s3 σ3 H3 X.xe I3 (stat fr3) st3 stop) λr s4 ⟨hr,I4⟩=>?_);subst hr;exact aNU ⟨σ3,H3,I4,qn⟩
 . refine aN3 hp (thn (T.item X rfl rfl rfl hc i aA s3 σ3 H3 X.xe I3 (stat fr3) st3 go) λr s4 ⟨u,hr,h4⟩=>?_);subst hr;refine aN3 hp (thn h4 λ_ s5 ⟨x,H5,I5,r5,y5,st5,fr5⟩=>?_);have I5':=I5.pinned (stat fr5) (T.obj _ _ st5);refine aN3 hp (thn (hg _ s5 σ3 H5 x u _ I5' r5 (step x H5 y5)) λ_ s6 ⟨σ6,H6,I6,q6⟩=>?_);refine aN3 hp (thn (hb _ s6 σ6 H6 _ I6 q6) λf s7 q7=>?_);have again:∀ {σ7:St} {H7:Hp},Inv X (aA++jH fp s5.heap) σ7 H7 s7->N σ7 H7->∃ m,m<n/\∃ i σ' H',Inv X aA σ' H' s7/\tn i s7.heap/\(∀ b∈fp,H' b=none)/\W i m σ' H':=λ{σ7 H7} I7 n7=>by obtain ⟨m',hm,w7⟩:=hN σ7 H7 n7;refine ⟨m',hm,i+1,σ7,H7,I7.unpinned,T.keep _ _ _ st5 λb hb o e=>(I7.pin (b,o) (aN2 _ (aN2 _ (mQ hb e)))).1,λb hb=>?_,w7⟩;obtain ⟨o,e,d⟩:=T.obj _ _ st5 b hb;exact (I7.pin (b,o) (aN2 _ (aN2 _ (mQ hb e)))).2.1
   cases f with
   | next=>obtain ⟨σ7,H7,I7,n7⟩:=q7;exact again I7 n7
   | cont=>obtain ⟨σ7,H7,I7,n7⟩:=q7;exact again I7 n7
   | brk=>obtain ⟨σ7,H7,I7,q7⟩:=q7;exact ⟨σ7,H7,I7.unpinned,q7⟩
   | ret v=>obtain ⟨x7,σ7,H7,I7,r7,q7⟩:=q7;exact ⟨x7,σ7,H7,I7.unpinned,r7,q7⟩
end
abbrev R2:=V->V->Hp->VK->Prop
def OpR(X:Cx)(f:Value->Value->Sem Value)(r:R2):Prop :=
 ∀ (aA:LAO) (s:Shared) (σ:St) (H:Hp) (x y:V) (v u:Value) (Q:VK),Inv X aA σ H s->aL x v->aL y u->r x y H Q ->
  wpAny (model X.prog X.w) X.A (f v u) (EP X aA σ Q) X.xe s
def fJ(X:Cx)(f:Value)(r:List V->Hp->VK->Prop):Prop :=
 ∀ (aA:LAO) (s:Shared) (σ:St) (H:Hp) (xs:List V) (us:List Value) (Q:VK),Inv X aA σ H s->aN xs us->r xs H Q ->
  wpAny (model X.prog X.w) X.A (call f us) (EP X aA σ Q) X.xe s
def TruR(X:Cx)(r:V->Hp->(Bool->Hp->Prop)->Prop):Prop :=
 ∀ (aA:LAO) (s:Shared) (σ:St) (H:Hp) (x:V) (v:Value) (Q:Bool->Hp->Prop),Inv X aA σ H s->aL x v->r x H Q ->
  wpAny (model X.prog X.w) X.A (truthy v) (TP X aA σ Q) X.xe s
def tOp(r:R2)(ta tb:TE):TE:=λσ H Q=>ta σ H λx H1=>tb σ H1 λy H2=>r x y H2 Q
def rI(C:Int->Int->Prop)(g:Int->Int->V):R2:=λx y H Q=>∃ i j,x=.int i/\y=.int j/\C i j/\Q (g i j) H
def rI0(g:Int->Int->V):R2:=λx y H Q=>∃ i j,x=.int i/\y=.int j/\Q (g i j) H
section
variable {X:Cx}{a b c:Expr}{ta tb tc:TE}{pos:Pos}
theorem pD(ha:PE X a ta)(hb:PE X b tb){aA:LAO}{s:Shared}{σ:St}{H:Hp}{R:V->V->Hp->Prop}(I:Inv X aA σ H s)(h:ta σ H λx H1=>tb σ H1 λy H2=>R x y H2){Q:VSP}{f:Value->Value->Sem Value}(hf:∀ v u s2 x y H2,Inv X aA σ H2 s2->aL x v->aL y u->R x y H2->wpAny (model X.prog X.w) X.A (f v u) Q X.xe s2):wpAny (model X.prog X.w) X.A (eval a X.env) (λv s₁=>wpAny (model X.prog X.w) X.A (eval b X.env) (λu s₂=>wpAny (model X.prog X.w) X.A (f v u) Q X.xe s₂) X.xe s₁) X.xe s:=by refine thn (ha aA s σ H _ I h) λv s1 ⟨x,H1,I1,r1,q1⟩=>?_;refine thn (hb aA s1 σ H1 _ I1 q1) λu s2 ⟨y,H2,I2,r2,q2⟩=>?_;exact hf v u s2 x y H2 I2 r1 r2 q2
theorem pe_op{op:Operator}{r:R2}(ho:OpR X (binaryOp op) r)(ha:PE X a ta)(hb:PE X b tb):PE X (.BinOp a op b pos) (tOp r ta tb):=by intro aA s σ H Q I h;exact wpAny_BinOp (pD ha hb I h λv u s2 x y H2 I2 rx ry q=>ho aA s2 σ H2 x y v u Q I2 rx ry q)
theorem opI{f:Value->Value->Sem Value}{C:Int->Int->Prop}{g:Int->Int->Int}(rule:∀ (i j:Int) (t u:Tok) (s:Shared) (Q:VSP) (E:VSP),C i j->Q (.int (g i j) s.toks) { s with toks:=s.toks+1 } -> wpAny (model X.prog X.w) X.A (f (.int i t) (.int j u)) Q E s):OpR X f (rI C λi j=>.int (g i j)):=by intro aA s σ H x y v u Q I rx ry h;obtain ⟨i,j,rfl,rfl,hc,q⟩:=h;obtain ⟨t,rfl⟩:=rx;obtain ⟨t',rfl⟩:=ry;exact rule i j t t' s _ _ hc ⟨.int (g i j),H,I.tok _,⟨_,rfl⟩,q⟩
theorem mR{f:Value->Value->Sem Value}{g:Int->Int->Int}(rule:∀ (i j:Int) (t u:Tok) (s:Shared) (Q:VSP) (E:VSP),Q (.int (g i j) s.toks) { s with toks:=s.toks+1 } -> wpAny (model X.prog X.w) X.A (f (.int i t) (.int j u)) Q E s):OpR X f (rI0 λi j=>.int (g i j)):=by intro aA s σ H x y v u Q I rx ry h;obtain ⟨i,j,rfl,rfl,q⟩:=h;obtain ⟨t,rfl⟩:=rx;obtain ⟨t',rfl⟩:=ry;exact rule i j t t' s _ _ ⟨.int (g i j),H,I.tok _,⟨_,rfl⟩,q⟩
theorem mS{f:Value->Value->Sem Value}{g:Int->Int->Bool}(rule:∀ (i j:Int) (t u:Tok) (s:Shared) (Q:VSP) (E:VSP),Q (.bool (g i j)) s->wpAny (model X.prog X.w) X.A (f (.int i t) (.int j u)) Q E s):OpR X f (rI0 λi j=>.bl (g i j)):=by intro aA s σ H x y v u Q I rx ry h;obtain ⟨i,j,rfl,rfl,q⟩:=h;obtain ⟨t,rfl⟩:=rx;obtain ⟨t',rfl⟩:=ry;exact rule i j t t' s _ _ ⟨.bl (g i j),H,I,rfl,q⟩
def CPow(i j:Int):Prop:=0<=j/\j<=1000000/\i.natAbs<2 ^ 64
theorem aBL(k:Nat):(0:Int)<=2 ^ k:=by rw[two_pow_cast];exact Int.natCast_nonneg _
theorem aBM:OpR X (binaryOp .Add) (rI0 λi j=>.int (i+j)):=mR λ_ _ _ _ _ _ _ q=>add_int q
theorem aBN:OpR X (binaryOp .Sub) (rI0 λi j=>.int (i-j)):=mR λ_ _ _ _ _ _ _ q=>sub_int q
theorem aBO:OpR X (binaryOp .Mod) (rI (λ_ j=>0<j) λi j=>.int (i % j)):=opI λi j _ _ _ _ _ hc q=>by have h1:(0:Int)<j:=hc;exact mod_int' (by omega) (by rw[Int.fmod_eq_emod_of_nonneg i (by omega)];exact q)
theorem aBP:OpR X (binaryOp .Pow) (rI CPow λi j=>.int (i ^ j.toNat)):=opI λ_ _ _ _ _ _ _ hc q=>pow_int_small hc.1 hc.2.1 hc.2.2 q
theorem aBQ:OpR X (binaryOp .LShift) (rI CPow λi j=>.int (i * 2 ^ j.toNat)):=opI λ_ _ _ _ _ _ _ hc q=>lshift_int_small hc.1 hc.2.1 hc.2.2 q
theorem aBR:OpR X (binaryOp .RShift) (rI (λ_ j=>0<=j) λi j=>.int (i / 2 ^ j.toNat)):=opI λi j _ _ _ _ _ hc q =>
 rshift_int hc (by rw[Int.fdiv_eq_ediv_of_nonneg i (aBL _)];exact q)
theorem aBS:OpR X (binaryOp .BitAnd) (rI0 λi j=>.int (Builtin.bitAnd i j)):=mR λ_ _ _ _ _ _ _ q=>and_int q
theorem op_or:OpR X (binaryOp .BitOr) (rI0 λi j=>.int (Builtin.bitOr i j)):=mR λ_ _ _ _ _ _ _ q=>or_int q
end
section
variable {X:Cx}{a b c:Expr}{ta tb tc:TE}{pos:Pos}
theorem mU{aA:LAO}{σ:St}{H:Hp}{s:Shared}{Q:VK}{k k':Bool}(I:Inv X aA σ H s)(q:Q (.bl k) H)(e:k=k'):EP X aA σ Q (.bool k') s:=by subst e;exact ⟨.bl k,H,I,rfl,q⟩
theorem op_lt:OpR X (compareOp .Lt) (rI0 λi j=>.bl (decide (i<j))):=mS λ_ _ _ _ _ _ _ q=>lt_int q
theorem op_le:OpR X (compareOp .LtE) (rI0 λi j=>.bl (decide (i<=j))):=mS λ_ _ _ _ _ _ _ q=>le_int q
theorem op_gt:OpR X (compareOp .Gt) (rI0 λi j=>.bl (decide (j<i))):=mS λ_ _ _ _ _ _ _ q=>gt_int q
theorem op_ge:OpR X (compareOp .GtE) (rI0 λi j=>.bl (decide (j<=i))):=mS λ_ _ _ _ _ _ _ q=>ge_int q
theorem aBT:OpR X (compareOp .In) (λx y H Q=>∃ i j,x=.str i/\y=.str j/\Q (.bl (!(Builtin.Str.occurrences j i 0 j.length 1).isEmpty)) H):=by intro aA s σ H x y v u Q I rx ry h;obtain ⟨i,j,rfl,rfl,q⟩:=h;obtain ⟨t,rfl⟩:=rx;obtain ⟨t',rfl⟩:=ry;exact in_str (mU I q rfl)
theorem aBU:OpR X (compareOp .Is) (λx y H Q=>y=.non/\Q (.bl (decide (x=.non))) H):=by
 intro aA s σ H x y v u Q I rx ry h;obtain ⟨rfl,q⟩:=h;cases ry;refine is_none_gen (mU I q ?_);cases x <;> first
  | (cases rx;rfl)
  | (obtain ⟨t,rfl⟩:=rx;rfl)
theorem aBV:OpR X (compareOp .IsNot) (λx y H Q=>y=.non/\Q (.bl (!decide (x=.non))) H):=by
 intro aA s σ H x y v u Q I rx ry h;obtain ⟨rfl,q⟩:=h;cases ry;refine isnot_none_gen (mU I q ?_);cases x <;> first
  | (cases rx;rfl)
  | (obtain ⟨t,rfl⟩:=rx;rfl)
theorem aBW:OpR X (compareOp .NotIn) (λx y H Q=>∃ i j,x=.str i/\y=.str j/\Q (.bl (!(!(Builtin.Str.occurrences j i 0 j.length 1).isEmpty))) H):=by intro aA s σ H x y v u Q I rx ry h;obtain ⟨i,j,rfl,rfl,q⟩:=h;obtain ⟨t,rfl⟩:=rx;obtain ⟨t',rfl⟩:=ry;exact notIn_str (mU I q rfl)
theorem OpR.or{f:Value->Value->Sem Value}{r r':R2}(h:OpR X f r)(h':OpR X f r'):OpR X f (λx y H Q=>r x y H Q\/r' x y H Q):=by
 intro aA s σ H x y v u Q I rx ry q;rcases q with q | q
 . exact h aA s σ H x y v u Q I rx ry q
 . exact h' aA s σ H x y v u Q I rx ry q
theorem aBX{op:CmpOp}{r:R2}(ho:OpR X (compareOp op) r)(ha:PE X a ta)(hb:PE X b tb)(hm:behindInMarks op b=false):PE X (.Compare a [op] [b] pos) (tOp r ta tb):=by intro aA s σ H Q I h;exact wpAny_Compare1 (pD ha hb I h λv u s2 x y H2 I2 rx ry q=>ho aA s2 σ H2 x y v u Q I2 rx ry q) hm
def sX(t:TE):TT:=λσ H Q=>t σ H λx H'=>∃ k,x=.bl k/\Q k H'
theorem aBY{op:CmpOp}{r:R2}(ho:OpR X (compareOp op) r)(ha:PE X a ta)(hb:PE X b tb)(hm:behindInMarks op b=false):PT X (.Compare a [op] [b] pos) (sX (tOp r ta tb)):=by
 intro aA s σ H Q I h;refine wpAny_isTrue_Compare1 (thn (ha aA s σ H _ I h) λv s1 ⟨x,H1,I1,r1,q1⟩=>thn (hb aA s1 σ H1 _ I1 q1) λu s2 ⟨y,H2,I2,r2,q2⟩ =>
  thn (ho aA s2 σ H2 x y v u _ I2 r1 r2 q2) λc s3 ⟨z,H3,I3,r3,k,e,q3⟩=>?_) hm
 subst e;cases r3;exact aNS ⟨H3,I3,q3⟩
def pE(K:Fg)(x:V)(H:Hp)(k:Bool):Prop :=
 match x with
 | .non=>k=false
 | .bl b=>k=b
 | .int i=>k=(i != 0)
 | .str y=>y.length<=sizeLine/\k=((y.length:Int) != 0)
 | .byt y=>y.size<=sizeLine/\k=((y.size:Int) != 0)
 | .ref p=>(∃ xs,SqL K H p xs/\k = !xs.isEmpty)\/(∃ xs,SqT K H p xs/\k = !xs.isEmpty)\/∃ kvs,H p=some (.dK kvs)/\k = !kvs.isEmpty
 | _=>False
theorem aBZ{κ:Type}{kvs:List (κ×V)}{vs:List (κ×Value)}(r:KV kvs vs):(!vs.isEmpty) = !kvs.isEmpty:=by cases r <;> rfl
theorem sY{xs:List V}{its:List Value}(r:aN xs its):(!its.toArray.isEmpty) = !xs.isEmpty:=by cases r <;> simp
theorem jI:(sizeLine:Nat)<2 ^ 63:=by rw[aN4];decide
theorem aB0:TruR X (λx H Q=>∃ k,pE X.K x H k/\Q k H):=by
 intro aA s σ H x v Q I rx h;obtain ⟨k,e,q⟩:=h;have hl:=jI;have hs:sizeLine=16777216:=aN4;cases x with
 | non=>cases rx;have e':k=false:=e;subst e';exact truthy_none ⟨H,I,q⟩
 | bl b=>cases rx;have e':k=b:=e;subst e';exact aNS ⟨H,I,q⟩
 | int i=>obtain ⟨t,rfl⟩:=rx;have e':k=(i != 0):=e;subst e';exact PySem.P.truthy_int ⟨H,I,q⟩
 | str y=>obtain ⟨t,rfl⟩:=rx;obtain ⟨hy,e'⟩:y.length<=sizeLine/\k=((y.length:Int) != 0):=e;subst e';exact PySem.P.truthy_str (by omega) ⟨H,I.tok _,q⟩
 | byt y=>obtain ⟨t,rfl⟩:=rx;obtain ⟨hy,e'⟩:y.size<=sizeLine/\k=((y.size:Int) != 0):=e;subst e';exact PySem.W.truthy_bytes (by omega) ⟨H,I.tok _,q⟩
 | ref p =>
  cases rx;have e':(∃ xs,SqL X.K H p xs/\k = !xs.isEmpty)\/(∃ xs,SqT X.K H p xs/\k = !xs.isEmpty)\/∃ kvs,H p=some (.dK kvs)/\k = !kvs.isEmpty:=e;rcases e' with ⟨xs,hx,e'⟩ | ⟨xs,hx,e'⟩ | ⟨kvs,hx,e'⟩
  . subst e';obtain ⟨its,r,pl,hz⟩:=I.list hx;have hlen:=r.length;exact wpAny_truthy_list pl.isList (by simp only[aN5];omega) ⟨H,I.tok _,by rw[sY r];exact q⟩
  . subst e';obtain ⟨its,r,pl,hz⟩:=I.tuple hx;have hlen:=r.length;exact truthy_tuple pl (by simp only[aN5];omega) ⟨H,I.tok _,by rw[sY r];exact q⟩
  . subst e';obtain ⟨hz,hS,vs,r,m⟩:kvs.length<=sizeLine/\(p==sysModules)=false/\∃ vs,KV kvs vs/\s.heap.DictOf (bR X.prog X.w) p vs:=I.hok p _ hx;have hlen:kvs.length=vs.length:=aM7 r;exact wpAny_truthy_dict hS m (by omega) ⟨H,I.tok _,by rw[aBZ r];exact q⟩
 | _=>exact (show False from e).elim
theorem aB1 (ha : PE X a ta) (he : ∀ whole, isTrue a X.env whole = (do let v ← whole; standAt a.pos; holding [v] (truthy v))) :
    PT X a (λσ H Q=>ta σ H λx H'=>∃ k,pE X.K x H' k/\Q k H'):=by
 intro aA s σ H Q I h;exact isTrue_plain (thn (ha aA s σ H _ I h) λv s1 ⟨x,H1,I1,r1,q1⟩=>aB0 aA s1 σ H1 x v Q I1 r1 q1) (he _)
theorem aB2:OpR X (binaryOp .Add) (λx y H Q=>∃ i j,x=.str i/\y=.str j/\i.length+j.length<=sizeLine/\Q (.str (i++j)) H):=by intro aA s σ H x y v u Q I rx ry h;obtain ⟨i,j,rfl,rfl,hz,q⟩:=h;obtain ⟨t,rfl⟩:=rx;obtain ⟨t',rfl⟩:=ry;exact add_str (λt' tk=>⟨.str (i++j),H,I.tok _,⟨_,rfl⟩,q⟩) hz
theorem f8{x:V}{us:List Value}(r:aN [x] us):∃ u,us=[u]/\aL x u:=by
 cases r with
 | cons r1 r2=>cases r2;exact ⟨_,rfl,r1⟩
theorem sZ{x y:V}{us:List Value}(r:aN [x,y] us):∃ u w',us=[u,w']/\aL x u/\aL y w':=by
 cases r with
 | cons r1 r2 =>
  cases r2 with
  | cons r3 r4=>cases r4;exact ⟨_,_,rfl,r1,r3⟩
theorem aB3:fJ X (.type "int") (λxs H Q=>(∃ i,xs=[.int i]/\Q (.int i) H)\/∃ k,xs=[.bl k]/\Q (.int (if k then 1 else 0)) H):=by
 intro aA s σ H xs us Q I r h;rcases h with ⟨i,rfl,q⟩ | ⟨k,rfl,q⟩
 . obtain ⟨u,rfl,t,rfl⟩:=f8 r;exact call_int_int ⟨.int i,H,I,⟨_,rfl⟩,q⟩
 . obtain ⟨u,rfl,r1⟩:=f8 r;cases r1;exact call_int_bool ⟨.int (if k then 1 else 0),H,I.tok _,⟨_,rfl⟩,q⟩
theorem aB4:fJ X (.type "str") (λxs H Q=>∃ i,xs=[.int i]/\i.natAbs.log2<1920/\Q (.str (toString i)) H):=by intro aA s σ H xs us Q I r h;obtain ⟨i,rfl,hz,q⟩:=h;obtain ⟨u,rfl,t,rfl⟩:=f8 r;exact PySem.P.str_of_int hz ⟨.str _,H,I.tok _,⟨_,rfl⟩,q⟩
def LenV(K:Fg)(x:V)(H:Hp)(n:Nat):Prop :=
 match x with
 | .str y=>y.length<=sizeLine/\n=y.length
 | .byt y=>y.size<=sizeLine/\n=y.size
 | .ref p=>(∃ xs,SqL K H p xs/\n=xs.length)\/∃ xs,SqT K H p xs/\n=xs.length
 | _=>False
theorem aB5:fJ X (.builtin "len") (λxs H Q=>∃ x n,xs=[x]/\LenV X.K x H n/\Q (.int n) H):=by
 intro aA s σ H xs us Q I r h;obtain ⟨x,n,rfl,e,q⟩:=h;obtain ⟨u,rfl,rx⟩:=f8 r;have hl:=jI;have hs:sizeLine=16777216:=aN4;cases x with
 | str y=>obtain ⟨t,rfl⟩:=rx;obtain ⟨hy,e'⟩:y.length<=sizeLine/\n=y.length:=e;subst e';exact len_str (by omega) ⟨.int _,H,I.tok _,⟨_,rfl⟩,q⟩
 | byt y=>obtain ⟨t,rfl⟩:=rx;obtain ⟨hy,e'⟩:y.size<=sizeLine/\n=y.size:=e;subst e';exact PySem.W.len_bytes (by omega) ⟨.int _,H,I.tok _,⟨_,rfl⟩,q⟩
 | ref p =>
  cases rx;have e':(∃ xs,SqL X.K H p xs/\n=xs.length)\/∃ xs,SqT X.K H p xs/\n=xs.length:=e;rcases e' with ⟨xs,hx,e'⟩ | ⟨xs,hx,e'⟩
  . subst e';obtain ⟨its,r',pl,hz⟩:=I.list hx;have hlen:=r'.length;exact Calls.call_len_list pl.isList (by simp only[aN5];omega) ⟨.int xs.length,H,I.tok _,⟨_,by simp only[aN5];rw[hlen]⟩,q⟩
  . subst e';obtain ⟨its,r',pl,hz⟩:=I.tuple hx;have hlen:=r'.length;exact len_tuple pl (by simp only[aN5];omega) ⟨.int xs.length,H,I.tok _,⟨_,by simp only[aN5];rw[hlen]⟩,q⟩
 | _=>exact (show False from e).elim
end
section
variable {prog:Program}{w:World}{A:Around}{E:VSP}{s:Shared}{K:Fg}{x dx C f:Addr}{mA:SOV}{name:Str}{v:Value}
end
theorem dN.some_of{v:V}{o:Option Value}(r:dN (some v) o):∃ u,o=some u/\aL v u:=by
 cases o with
 | none=>exact (show False from r).elim
 | some u=>exact ⟨u,rfl,r⟩
theorem dN.none_of{o:Option Value}(r:dN none o):o=none:=by
 cases o with
 | none=>rfl
 | some u=>exact (show False from r).elim
section
variable {P:Program}{w:World}{H H':Hp}{h h':Heap}{a C dx:Addr}{fs fs':List (Str×V)}
end
structure Cls(K:Fg)(C:Addr):Prop where
 pg:PySem.W.plainGet K C Str.empty=true
 hd:PySem.W.hasDictIn K C=true
 po:PySem.W.plainOver K C=true
 sa:PySem.W.findIn K (.ref C) "__setattr__" = some (some (.builtin "object.__setattr__"))
def pF(K:Fg)(C:Addr)(f:Str):Prop:=PySem.W.findIn K (.ref C) f=some none
structure pG(K:Fg)(C:Addr)(m:Str)(f:Addr):Prop where
 at_:PySem.W.findIn K (.ref C) m=some (some (.ref f))
 fn:PySem.W.isFn K (.ref f)=true
 kp:PySem.W.keepIn K (.ref f)=true
section
variable {X:Cx}{aA:LAO}{σ:St}{H:Hp}{s:Shared}{a C dx:Addr}{fs:List (Str×V)}{f:Str}{v:V}{A:Around}{E:VSP}
end
section
variable {X:Cx}{o e value:Expr}{f:Str}{pos pos' tpos:Pos}{ta tv:TE}
end
section
variable {X:Cx}{aA:LAO}{σ:St}{H:Hp}{s:Shared}{A:Around}{E:VSP}{Q:VSP}{c:Value}{b:Bool}
end
structure cN(k:Nat)(A:Around):Prop where
 hd:A.handled=none
 dp:A.depth+3 * k+5<recursionLimit
 un:A.units+16 * k+200<cLine
theorem cN.deeper{k:Nat}{A:Around}(r:cN (k+1) A)(env:Env):cN k (A.deeper env) :=
 ⟨r.hd,by have:=r.dp;show A.depth+1+3 * k+5<_;omega,by have:=r.un;show A.units+3+16 * k+200<_;omega⟩
theorem cN.depth{k:Nat}{A:Around}(r:cN k A):A.depth<recursionLimit:=by have:=r.dp;omega
theorem cN.units{k:Nat}{A:Around}(r:cN k A):A.units+64<cLine:=by have:=r.un;omega
def tNil:TA:=λ_ H Q=>Q [] H
def jJ(ta:TE)(tr:TA):TA:=λσ H Q=>ta σ H λx H1=>tr σ H1 λxs H2=>Q (x::xs) H2
section
variable {X:Cx}{e:Expr}{es:List Expr}{te:TE}{t:TA}{pos:Pos}
theorem pH:PA X [] tNil:=λ_ _ _ _ H Q I h=>Calls.spliced_nil ⟨[],H,I,.nil,h⟩
theorem mV(ha:PE X e te)(hr:PA X es t)(hs:starEach (e::es) X.env=(false,eval e X.env)::starEach es X.env:=by rfl):PA X (e::es) (jJ te t):=by intro pos aA s σ H Q I h;rw[hs];show wpAny _ _ (spliced ((false,eval e X.env)::backTo pos (starEach es X.env))) _ _ s;refine Calls.spliced_cons (thn (ha aA s σ H _ I h) λu s1 ⟨x,H1,I1,r1,q1⟩=>?_);exact thn (hr pos aA s1 σ H1 _ I1 q1) λus s2 ⟨xs,H2,I2,r2,q2⟩=>⟨x::xs,H2,I2,.cons r1 r2,q2⟩
def tTup(t:TA):TE:=λσ H Q=>t σ H λxs H1=>xs.length<=sizeLine/\∀ p,H1 p=none->Q (.ref p) (upd H1 p (.tup xs))
def tLst(t:TA):TE:=λσ H Q=>t σ H λxs H1=>xs.length<=sizeLine/\∀ p,H1 p=none->Q (.ref p) (upd H1 p (.lst xs))
theorem aB6{x1}(h:PA X es t):PE X (.Tuple es x1 pos) (tTup t):=by
 intro aA s σ H Q I hq;refine wpAny_Tuple_spliced (thn (h pos aA s σ H _ I hq) λus s1 ⟨xs,H1,I1,r,z,q⟩=>⟨by rw[<- r.length];exact z,?_⟩)
 have hf:H1 s1.heap.objs.size=none:=I1.hok.fresh (aNY _);refine ⟨.ref s1.heap.objs.size,upd H1 s1.heap.objs.size (.tup xs),I1.laid (t':=s1.toks) (λb u e=>hps e) (aNY _) ?_,rfl,q _ hf⟩;exact ⟨z,us,r,⟨_,aM9 _ rfl,rfl,rfl,_,rfl⟩⟩
theorem aB7(h:PA X es t):PE X (.List es pos) (tLst t):=by
 intro aA s σ H Q I hq;refine wpAny_List_spliced (thn (h pos aA s σ H _ I hq) λus s1 ⟨xs,H1,I1,r,z,q⟩=>⟨by rw[<- r.length];exact z,?_⟩)
 have hf:H1 s1.heap.objs.size=none:=I1.hok.fresh (aNY _);refine ⟨.ref s1.heap.objs.size,upd H1 s1.heap.objs.size (.lst xs),I1.laid (t':=s1.toks) (λb u e=>hps e) (aNY _) ?_,rfl,q _ hf⟩;exact ⟨z,us,0,r,aM9 _ rfl⟩
end
abbrev Sp:=List V->Hp->VK->XK->Prop
abbrev CXT:=List Env->Hp->Shared->XK->Value->Shared->Prop
structure mW(P:Program)(w:World)(K:Fg)(mg:SOV)(base:Heap)(A:Around)(outer:List Env)(s:Shared)(H:Hp):Prop where
 frames:A.frames=some outer
 mod:Mod K mg base
 bs:∀ b o,base.get? b=some o->s.heap.get? b=some o/\H b=none
 bsz:base.objs.size<=s.heap.objs.size
 funs:s.heap.FunFrames base outer
 frf:∀ b∈frs outer,H b=none
 hok:HOk P w H s.heap
 bare:AllBare s.gens
def CE(outer:List Env)(P:Program)(w:World)(H:Hp)(s:Shared)(Q:VK)(u:Value)(s':Shared):Prop :=
 ∃ v H',s'.os=s.os/\AllBare s'.gens/\Un (frs outer) [] H H' s.heap s'.heap/\HOk P w H' s'.heap/\aL v u/\Q v H'
def CR(CX:CXT)(outer:List Env)(P:Program)(w:World)(H:Hp)(s:Shared)(Q:VK)(E:XK)(r:Result)(s':Shared):Prop :=
 match r with
 | .ok (.ret u)=>CE outer P w H s Q u s'
 | .ok _=>False
 | .error e=>CX outer H s E e s'
structure c9(P:Program)(w:World)(K:Fg)(mg:SOV)(base:Heap)(CX:CXT)(k:Nat)(f:Addr)(fd:FuncData)(ps:List Str)(sp:Sp):Prop where
 len:∀ vs H Q E,sp vs H Q E->vs.length=ps.length
 run:∀ (A:Around) (outer:List Env) (s:Shared) (H:Hp) (args:Args) (us:List Value) (vs:List V) (Q:VK) (E:XK),cN k A->mW P w K mg base A outer s H->BindsTo s fd args (ps.zip us)->aN vs us->sp vs H Q E ->
  codeAny (model P w) A (.call (.ref f) args) (CR CX outer P w H s Q E) s
theorem c9.imp{P:Program}{w:World}{K:Fg}{mg:SOV}{base:Heap}{CX:CXT}{k:Nat}{f:Addr}{fd:FuncData}{ps:List Str}{sp sp':Sp}(F:c9 P w K mg base CX k f fd ps sp)(h:∀ vs H Q E,sp' vs H Q E->sp vs H Q E):c9 P w K mg base CX k f fd ps sp' :=
 ⟨λvs H Q E q=>F.len vs H Q E (h _ _ _ _ q),λA outer s H args us vs Q E hr he hb hv hs=>F.run A outer s H args us vs Q E hr he hb hv (h _ _ _ _ hs)⟩
section
variable {X:Cx}{aA:LAO}{σ:St}{H:Hp}{s s':Shared}
theorem Inv.env0(I:Inv X aA σ H s):mW X.prog X.w X.K X.mg X.base X.A X.stack s H :=
 ⟨I.ok.frames,I.ok.mod,I.bs,aNI I.ok.bsz I.sz,I.stack,I.stkFree,I.hok,I.bare⟩
theorem Inv.after{Q:VK}{u:Value}(I:Inv X aA σ H s)(h:CE X.stack X.prog X.w H s Q u s'):EP X aA σ Q u s':=by obtain ⟨v,H',os,bare,un,hok,r,q⟩:=h;obtain ⟨hh,g,d,t,os'⟩:=s';obtain rfl:os'=s.os:=os;exact ⟨v,H',I.call (h':=hh) (g':=g) (d':=d) (t':=t) (ch:=[]) un hok bare (λb z=>absurd z (by simp)),r,q⟩
end
def fK(K:Fg)(fd:FuncData)(ps:List Str)(ds:List Value):Prop :=
 ∀ (s:Shared) (us:List Value),K.In s.heap->(us++ds).length=ps.length->BindsTo s fd ⟨us,[]⟩ (ps.zip (us++ds))
theorem fK.all{K:Fg}{fd:FuncData}{ps:List Str}(h:∀ us:List Value,us.length=ps.length->bindArgs fd ⟨us,[]⟩=pure (ps.zip us)):fK K fd ps []:=λs us _ hl=>by rw[aN6] at hl ⊢;exact .of_eq (h us hl)
section
variable {X:Cx}{CX:CXT}{k:Nat}{f C:Addr}{fd:FuncData}{ps:List Str}{sp:Sp}{dvs:List V}{ds:List Value}{E:XK}{x m:Str}{p pos apos:Pos}{e o:Expr}{es:List Expr}{ta:TE}{t:TA}
structure Mk(K:Fg)(C f:Addr):Prop where
 makes:PySem.W.makesIn K C=true
 init:PySem.W.findIn K (.ref C) "__init__" = some (some (.ref f))
 fn:PySem.W.isFn K (.ref f)=true
 kp:PySem.W.keepIn K (.ref C)=true
end
section
variable {X:Cx}{CX:CXT}{k:Nat}{f C:Addr}{fd:FuncData}{ps ks:List Str}{sp:Sp}{E:XK}{x m:Str}{p pos apos kpos:Pos}{e o:Expr}{es:List Expr}{kws:List Keyword}{te ta:TE}{t tk:TA}{nm:Option Str}
variable {g:List Value->List Value->List Value}{gV:List V->List V->List V}
end
structure mX(N P:List Str)(sc:Scope):Prop where
 kind:sc.kind=.function
 co:sc.isCoroutine=false
 gen:sc.isGenerator=false
 nd:N.Nodup
 pre:N.take P.length=P
 par:∀ x∈P,sc.names.lookup x=some .local\/sc.names.lookup x=some .cell
 nofree:∀ y∈sc.names,y.2 ≠ .free
theorem tB{kindOf:Str->Option NameKind}{x:Str}:∀ {binds:List (Str×Value)} {m:SOV},(∀ v,(x,v)∉binds)->bindL kindOf binds m x=m x
 | [],_,_=>rfl
 | (n,v)::r,m,h=>by
  unfold bindL;rw[tB λw hw=>h w (mcm hw)];split
  . have:x≠n:=by rintro rfl;exact h v mcs
    simp[this]
  . rfl
theorem tD{kindOf:Str->Option NameKind}{x:Str}:∀ {binds:List (Str×Value)} {m:SOV},(∀ v,(x,v)∉binds)->bindC kindOf binds m x=m x
 | [],_,_=>rfl
 | (n,v)::r,m,h=>by
  unfold bindC;rw[tD λw hw=>h w (mcm hw)];split
  . rfl
  . have:x≠n:=by rintro rfl;exact h v mcs
    simp[this]
theorem tE{kindOf:Str->Option NameKind}{x:Str}{v:Value}:∀ {P:List Str} {vs:List Value} {i:Nat} {m:SOV},P.Nodup->P[i]? = some x->vs[i]? = some v->kindOf x=some .local->bindL kindOf (P.zip vs) m x=some v
 | [],_,_,_,_,h,_,_=>by simp at h
 | _::_,[],_,_,_,_,h,_=>by simp at h
 | p::P,w::vs,0,m,nd,h1,h2,hk=>by simp at h1 h2;subst h1;subst h2;show bindL kindOf ((p,w)::P.zip vs) m p=_;unfold bindL;rw[tB λv hv=>(aN7.mp nd).1 (aN8 hv).1,if_pos hk];simp
 | p::P,w::vs,i+1,m,nd,h1,h2,hk=>by show bindL kindOf ((p,w)::P.zip vs) m x=_;unfold bindL;exact tE (i:=i) (aN7.mp nd).2 (by simpa using h1) (by simpa using h2) hk
theorem tF{kindOf:Str->Option NameKind}{x:Str}{v:Value}:∀ {P:List Str} {vs:List Value} {i:Nat} {m:SOV},P.Nodup->P[i]? = some x->vs[i]? = some v->kindOf x≠some .local->bindC kindOf (P.zip vs) m x=some v
 | [],_,_,_,_,h,_,_=>by simp at h
 | _::_,[],_,_,_,_,h,_=>by simp at h
 | p::P,w::vs,0,m,nd,h1,h2,hk=>by simp at h1 h2;subst h1;subst h2;show bindC kindOf ((p,w)::P.zip vs) m p=_;unfold bindC;rw[tD λv hv=>(aN7.mp nd).1 (aN8 hv).1,if_neg hk];simp
 | p::P,w::vs,i+1,m,nd,h1,h2,hk=>by show bindC kindOf ((p,w)::P.zip vs) m x=_;unfold bindC;exact tF (i:=i) (aN7.mp nd).2 (by simpa using h1) (by simpa using h2) hk
def eX(N:List Str)(vs:List V):St:=vs.map some++List.replicate (N.length-vs.length) none
def dE(CX:CXT)(P:Program)(w:World)(K:Fg)(mg:SOV)(base:Heap)(N:List Str)(aP:Str)(scope:Scope)(f:Addr)(cd:Value)(A:Around)(outer:List Env)(s:Shared)(H:Hp)(E:XK):Cx where
 prog:=P
 w:=w
 K:=K
 mg:=mg
 base:=base
 A:=A.deeper (envOfC aP scope s.heap.objs.size f cd)
 N:=N
 s₀:=s
 H₀:=H
 env:=envOfC aP scope s.heap.objs.size f cd
 outer:=outer
 stack:=envOfC aP scope s.heap.objs.size f cd::outer
 ex:=[]
 calm:=true
 fn:=λ_=>true
 pn:=[]
 xe:=λe s'=>wpAny (model P w) (A.deeper (envOfC aP scope s.heap.objs.size f cd)) (leaving (envOfC aP scope s.heap.objs.size f cd) e) (λ_ s''=>CX outer H s E e s'') (λe' s''=>CX outer H s E e' s'') s'
theorem tI{sc:Scope}{n:Nat}{x:Str}(h:sc.names.lookup x=some .cell):∃ c,(cellsFrom n sc.names []).lookup x=some c:=by have q:=PySem.W.cellsFrom_some sc.names n [] (.inl h);exact Option.isSome_iff_exists.mp q
theorem aB8{CX:CXT}{P:Program}{w:World}{K:Fg}{mg:SOV}{base:Heap}{N ps:List Str}{aP:Str}{scope:Scope}{f:Addr}{cd:Value}{A:Around}{outer:List Env}{s s1:Shared}{H:Hp}{E:XK}{us:List Value}{vs:List V}(S:mX N ps scope)(hd:A.handled=none)(e0:mW P w K mg base A outer s H)(hl:vs.length=ps.length)(r:aN vs us)(x:InCallC s s.heap.objs.size (bindL (envOfC aP scope s.heap.objs.size f cd).kindOf (ps.zip us) λ_=>none) (cellsFrom (s.heap.objs.size+1) scope.names []) (bindC (envOfC aP scope s.heap.objs.size f cd).kindOf (ps.zip us) λ_=>none) s1):Inv (dE CX P w K mg base N aP scope f cd A outer s H E) [] (eX N vs) H s1:=by
 have hpl:ps.length<=N.length:=by have:=congrArg List.length S.pre;rw[aN9] at this;omega
 obtain ⟨h1,tk,rfl,hk⟩:=x.done;have noA:∀ b:Addr,b∉(dE CX P w K mg base N aP scope f cd A outer s H E).ex:=λb z=>absurd (show b∈([]:List Addr) from z) (by simp)
 refine ⟨⟨e0.mod,S.kind,rfl,rfl,aNY _,λy z c h1 h2=>?_,λy hy=>?_,λy c _ h=>?_,λ_=>hd,Around.frames_deeper e0.frames,.inr ⟨rfl,rfl⟩,λb z=>absurd z (noA b),e0.bs,e0.bsz,λb _ _=>noA b,λb z=>absurd z (noA b),e0.funs,e0.frf⟩,
  rfl,e0.bare,Un.kept hk,⟨_,x.toInCall.ns,λi y v h1 h2 h3=>?_⟩,λy c h=>⟨_,x.cell y c h⟩,e0.hok.fresh (aNY _),λy c h=>?_,λp hp=>absurd (show p∈([]:LAO) from hp) (by simp),e0.hok.kept hk,?_⟩
 . exact name_of_addr x.apart (aOA h1) (aOA h2)
 . have hy:scope.names.lookup y=some .cell\/scope.names.lookup y=some .free:=hy;rcases hy with hy | hy
   . exact tI hy
   . exact absurd rfl (S.nofree _ (aOA hy))
 . exact Nat.le_of_lt (x.above y c (aOA h))
 . have hi:i<vs.length:=by
     unfold eX at h2;by_cases hi:i<vs.length
     . exact hi
     . rw[aOB (by simpa using hi)] at h2
       rw[aOC] at h2;split at h2 <;> cases h2
   have ha:vs[i]? = some v:=by
    unfold eX at h2;rw[aOD (by simpa using hi),aOE] at h2
    cases e:vs[i]? with
    | none=>rw[e] at h2;cases h2
    | some a=>rw[e] at h2;cases h2;rfl
   obtain ⟨u,hu,rv⟩:=r.get ha;have hp:ps[i]? = some y:=by rw[<- S.pre,List.getElem?_take_of_lt (by omega)];exact h1
   have ndP:ps.Nodup:=by rw[<- S.pre];exact S.nd.sublist (aOF _ _)
   refine ⟨u,rv,?_⟩;rcases S.par y (aOG hp) with k | k
   . exact .inl ⟨k,tE ndP hp hu k⟩
   . obtain ⟨c,e⟩:=tI (n:=s.heap.objs.size+1) k;refine .inr ⟨.inl k,c,e,?_⟩;have q:=x.cell y c e;rw[tF ndP hp hu (by show scope.names.lookup y≠_;rw[k];decide)] at q
     exact q
 . exact e0.hok.fresh (Nat.le_of_lt (x.above y c (aOA h)))
 . unfold eX;show _=N.length;rw[aOH,aOI,List.length_replicate];omega
theorem fn_of{CX:CXT}{P:Program}{w:World}{K:Fg}{mg:SOV}{base:Heap}{k:Nat}{f:Addr}{name aP:Str}{params:Arguments}{body:List Stmt}{scope:Scope}{dV kV doc pm cdv ct oc:Value}{an od:Option Addr}{osl:Array (Option Value)}{N ps:List Str}{sp:Sp}(lk:K.lookup f=some ⟨oc,od,.func (PySem.W.fnOf name aP params body scope dV kV doc pm an cdv ct),osl⟩)(hcd:PySem.W.codeIn K cdv aP=true)(S:mX N ps scope)(len:∀ vs H Q E,sp vs H Q E->vs.length=ps.length)(hbody:∀ (A:Around) (outer:List Env) (s:Shared) (H:Hp) (vs:List V) (Q:VK) (E:XK),cN k (A.deeper (envOfC aP scope s.heap.objs.size f cdv))->sp vs H Q E->∃ t,PSs (dE CX P w K mg base N aP scope f cdv A outer s H E) body t/\t { nx:=λ_ H'=>Q .non H',rt:=Q } (eX N vs) H):c9 P w K mg base CX (k+1) f (PySem.W.fnOf name aP params body scope dV kV doc pm an cdv ct) ps sp:=by
 refine ⟨len,λA outer s H args us vs Q E hr e0 hb r hsp=>?_⟩;have hl:=len _ _ _ _ hsp;have KX:K.In s.heap:=e0.mod.kin.keeps λb o e=>(e0.bs b o e).1;have lim:s.heap.NoLimit:=e0.mod.nolimit.keeps λb o e=>(e0.bs b o e).1;have bZ:∀ y∈ps.zip us,scope.names.lookup y.1=some .local\/(scope.names.lookup y.1=some .cell/\((cellsFrom (s.heap.objs.size+1) scope.names []).lookup y.1).isSome=true):=λ⟨n,v⟩ hy=>by
  rcases S.par n (aN8 hy).1 with q | q
  . exact .inl q
  . exact .inr ⟨q,PySem.W.cellsFrom_some _ _ _ (.inl q)⟩
 refine codeAny_call_function hr.depth (KX _ _ lk) rfl S.co S.gen rfl (PySem.W.codeRec_of KX hcd) (hb _ _ _ _ ?_);refine wpAny_newFunctionEnv_cells S.kind bZ λenv he s1 x=>?_;subst he;refine ⟨lim.keeps x.toInCall.keep,codeAny_func ?_⟩;obtain ⟨t,ht,hq⟩:=hbody A outer s H vs Q E (hr.deeper _) hsp;have I:Inv (dE CX P w K mg base N aP scope f cdv A outer s H E) [] (eX N vs) H s1:=aB8 S hr.hd e0 hl r x;refine aNR (ht [] s1 (eX N vs) H _ I hq) (λfl s' hs=>?_) λe s' hs=>hs;have fin:∀ {σ':St} {H':Hp} {v:V} {u:Value},Inv (dE CX P w K mg base N aP scope f cdv A outer s H E) [] σ' H' s'->aL v u->Q v H'->CE outer P w H s Q u s' :=
  λ{σ' H' v u} J rv q=>⟨v,H',J.os,J.bare,J.base,J.hok,rv,q⟩
 cases fl with
 | ret u=>obtain ⟨v,σ',H',J,rv,q⟩:=hs;exact fin J rv q
 | next=>obtain ⟨σ',H',J,q⟩:=hs;exact fin (v:=V.non) (u:=Value.none) J rfl q
 | brk=>obtain ⟨_,_,_,q⟩:=hs;exact False.elim q
 | cont=>obtain ⟨_,_,_,q⟩:=hs;exact False.elim q
section
variable {X:Cx}{x:Str}{p pos:Pos}{e:Expr}{es:List Expr}{t:TA}{id T:String}{r:List V->Hp->VK->Prop}
def tCB(r:List V->Hp->VK->Prop)(t:TA):TE:=λσ H Q=>t σ H λvs H1=>r vs H1 Q
theorem tJ(hc:fJ X (.builtin id) r)(hg:Gl X x)(hm:X.mg x=none)(hv:bootBuiltins x=some (.builtin id))(ha:PA X (e::es) t)(hn:x ≠ "__name__" := by decide)(hdb:(x==("__debug__" : Str))=false:=by decide)(he:starEach (e::es) X.env=(false,eval e X.env)::starEach es X.env:=by rfl)(hpl:(backTo pos (starEach es X.env)).any (·.1)=false:=by rfl):PE X (.Call (.Name x p) (e::es) [] pos) (tCB r t):=by intro aA s σ H Q I h;refine aOJ (kW I hg hm hv ?_ hn hdb);exact PyProof.Rows.callWith_builtin1 (thn (ha pos aA s σ H _ I h) λus s1 ⟨vs,H1,I1,r1,q1⟩=>hc aA s1 σ H1 vs us Q I1 r1 q1) he hpl
theorem aB9(hc:fJ X (.type T) r)(hg:Gl X x)(hm:X.mg x=none)(hv:bootBuiltins x=some (.type T))(ha:PA X (e::es) t)(hn:x ≠ "__name__" := by decide)(hdb:(x==("__debug__" : Str))=false:=by decide)(he:starEach (e::es) X.env=(false,eval e X.env)::starEach es X.env:=by rfl)(hpl:(backTo pos (starEach es X.env)).any (·.1)=false:=by rfl):PE X (.Call (.Name x p) (e::es) [] pos) (tCB r t):=by intro aA s σ H Q I h;refine aOJ (kW I hg hm hv ?_ hn hdb);exact aN0 (thn (ha pos aA s σ H _ I h) λus s1 ⟨vs,H1,I1,r1,q1⟩=>hc aA s1 σ H1 vs us Q I1 r1 q1) he hpl
end
end L2
namespace HT
open PySem PyProof.Rows
section
open PySem.SeqAt
open PySem.AutoSeq1 (wpAny_loadPart')
open PySem.MeetsSeq PySem.MeetsSeq2 PySem.MeetsSeq3
end
section
variable {prog:Program}{w:World}{A:Around}{E:VSP}{s:Shared}
theorem aCA{t b:Addr}{vs ws:List Value}{Q:VSP}(ht:IsTup s.heap t vs.toArray)(hb:IsTup s.heap b ws.toArray)(hv:vs≠[])(h1:ws=[]->Q (.ref t) s)(h2:ws≠[]->Q (.ref s.heap.objs.size) { s with heap:=s.heap.push { cls:=.type "tuple", data:=.seq (vs++ws).toArray } })(hsz:vs.length+ws.length<=sizeLine):wpAny (model prog w) A (binaryOp .Add (.ref t) (.ref b)) Q E s:=by
 obtain ⟨⟨cls,dd,data,sl⟩,ho,hc,n,hd⟩:=id ht;obtain ⟨⟨cls2,dd2,data2,sl2⟩,ho2,hc2,n2,hd2⟩:=id hb;simp only at hc hd hc2 hd2;subst hc hd hc2 hd2;have e:vs.toArray++ws.toArray=(vs++ws).toArray:=by simp
 by_cases hw:ws=[]
 . exact aOK ⟨_,ho,rfl⟩ ⟨_,ho2,rfl⟩ aOL seq_tuple_add aOM aON (aOO _ _)
     (tuple_addW1 t b vs.toArray ws.toArray n n2 dd dd2 sl sl2 (by simpa using hv) (by simp[hw])) ⟨ho,ho2,h1 hw⟩
 . refine aOK ⟨_,ho,rfl⟩ ⟨_,ho2,rfl⟩ aOL seq_tuple_add aOM aON (aOO _ _)
     (tuple_addW2 t b vs.toArray ws.toArray n n2 dd dd2 sl sl2 (by simpa using hv) (by simpa using hw) (by rw[aN5,aN5];exact hsz)) ⟨ho,ho2,?_⟩
   rw[e];exact h2 hw
def sIx(n d:Nat):Option Int->Nat
 | none=>d
 | some v=>if v<0 then (v+(n:Int)).toNat else min v.toNat n
theorem tK(n d:Nat):sIx n d none=d:=rfl
theorem jK(n d k:Nat):sIx n d (some (k:Int))=min k n:=by show (if (k:Int)<0 then ((k:Int)+(n:Int)).toNat else min (k:Int).toNat n)=min k n;rw[if_neg (by omega),aOP]
theorem aCB(n d:Nat)(hd:d<=n)(o:Option Int):sIx n d o<=n:=by
 cases o with
 | none=>exact hd
 | some v =>
  show (if v<0 then (v+(n:Int)).toNat else min v.toNat n)<=n;by_cases hv:v<0
  . rw[if_pos hv];omega
  . rw[if_neg hv];exact Nat.min_le_right _ _
theorem tL(v:Int)(n d:Nat):(if v<0 then max (v+(n:Int)) 0 else min v (n:Int))=((sIx n d (some v):Nat):Int):=by
 show (if v<0 then max (v+(n:Int)) 0 else min v (n:Int))=(((if v<0 then (v+(n:Int)).toNat else min v.toNat n):Nat):Int);by_cases hv:v<0
 . simp only[if_pos hv];omega
 . simp only[if_neg hv];omega
theorem aCC(lo hi:Option Int)(n:Nat):Builtin.Slice.sliceAdjust lo hi 1 (n:Int)=(((sIx n 0 lo:Nat):Int),((sIx n n hi:Nat):Int)):=by
 have h1:¬ ((1:Int)<0):=by omega
 unfold Builtin.Slice.sliceAdjust;simp only[h1,aOQ];refine Prod.ext ?_ ?_
 . cases lo with
   | none=>rfl
   | some v=>exact tL v n 0
 . cases hi with
   | none=>rfl
   | some v=>exact tL v n n
theorem aCD(i j:Nat):Builtin.Slice.slicePlaces (i:Int) (j:Int) 1=j-i:=by
 unfold Builtin.Slice.slicePlaces;have h1:(1:Int) > 0:=by omega
 simp only[h1,if_true,Int.ediv_one];split <;> omega
theorem tM{v:Value}{o:Option Int}{Q:Option Int->Shared->Prop}(p:IsPart v o)(h:Q o s):wpAny (model prog w) A (Builtin.Slice.slicePartIndex v) Q E s:=by
 cases p with
 | none=>exact slicePart_none h
 | int i t=>exact slicePart_int h
theorem tN{sl:Addr}{vl vu:Value}{lo hi:Option Int}{n:Nat}{Q:Int×Int×Nat->Shared->Prop}(hs:s.heap.IsSliceOf sl vl vu .none)(pl:IsPart vl lo)(pu:IsPart vu hi)(h:Q (((sIx n 0 lo:Nat):Int),1,sIx n n hi-sIx n 0 lo) s):wpAny (model prog w) A (Builtin.Slice.sliceApplied (.ref sl) (pure (n:Int))) Q E s:=by
 obtain ⟨os,hos,hcs,hds⟩:=id hs;unfold Builtin.Slice.sliceApplied Builtin.Slice.sliceFields;refine aNX (aNX (aOR hos hds (x:=vl) rfl (aNX (aOR hos hds (x:=vu) rfl (aNX (aOR hos hds (x:=.none) rfl (aNW ?_)))))));refine aNX (slicePart_none ?_);show wpAny _ _ (if ((1:Int)==0)=true then _ else _) _ _ s;rw[if_neg (by decide)]
 refine aNX (tM pl (aNX (tM pu (aNX (aNW ?_)))));show wpAny _ _ (match Builtin.Slice.sliceAdjust lo hi 1 (n:Int) with | (lo,hi)=>pure (lo,(1:Int),Builtin.Slice.slicePlaces lo hi 1)) _ _ s
 rw[aCC lo hi n];show wpAny _ _ (pure (((sIx n 0 lo:Nat):Int),(1:Int),Builtin.Slice.slicePlaces ((sIx n 0 lo:Nat):Int) ((sIx n n hi:Nat):Int) 1)) _ _ s;rw[aCD];exact aNW h
theorem aCE(xs:Array Value)(i k:Nat):((List.range k).filterMap λ(m:Nat)=>xs[((i:Int)+(m:Int) * 1).toNat]?).toArray=((xs.toList.drop i).take k).toArray:=by
 have e:(λ(m:Nat)=>xs[((i:Int)+(m:Int) * 1).toNat]?)=λm=>xs[i+m]?:=by
  funext m;have:((i:Int)+(m:Int) * 1).toNat=i+m:=by omega
  rw[this]
 rw[e];have:=pick_run xs i k;rw[List.filterMap_map] at this;have e2:((λx=>xs[x]?) ∘ λx=>i+x)=λm=>xs[i+m]?:=rfl;rw[e2] at this;rw[this]
theorem aCF{t sl:Addr}{items:Array Value}{vl vu:Value}{lo hi:Option Int}{Q:VSP}(ht:IsTup s.heap t items)(hs:s.heap.IsSliceOf sl vl vu .none)(pl:IsPart vl lo)(pu:IsPart vu hi)(hw:¬ (sIx items.size 0 lo=0/\sIx items.size items.size hi=items.size))(h:Q (.ref s.heap.objs.size) { s with heap:=s.heap.push { cls:=.type "tuple", data:=.seq ((items.toList.drop (sIx items.size 0 lo)).take (sIx items.size items.size hi-sIx items.size 0 lo)).toArray } })(hsz:items.size<=sizeLine):wpAny (model prog w) A (getItem (.ref t) (.ref sl)) Q E s:=by
 have htake:sizeOk (.seq ((items.toList.drop (sIx items.size 0 lo)).take (sIx items.size items.size hi-sIx items.size 0 lo)).toArray):=by show ((items.toList.drop (sIx items.size 0 lo)).take (sIx items.size items.size hi-sIx items.size 0 lo)).toArray.size<=sizeLine;rw[aN5,aN9,aOS,aNT];omega
 have hj:sIx items.size items.size hi<=items.size:=aCB _ _ (aNY _) hi;obtain ⟨os,hos,hcs,hds⟩:=id hs;have hTs:s.TypeIs (.ref sl) "slice" := ⟨os,hos,hcs⟩;unfold getItem
 try with_reducible refine aOT ?_
 first | refine aNX (aNW ?_) | skip
 refine aNX (wpAny_sequenceKey ht.typeIs (by decide) ?_)
 refine aNX (aOU (name:=Str.ofString "__getitem__") ht.typeIs aOV
  (aOW aOV ht.typeIs entry_tuple_getitem ?_ (args_tuple_getitem _ _)))
 show wpAny _ _ (Builtin.Tuple.tupleItemsOf (.ref t) >>= _) _ _ s;refine aNX (tupleItemsOf_ ht ?_);refine aNX (wpAny_typeOf hTs ?_);rw[if_pos (by decide)]
 refine aNX (tN hs pl pu ?_);have hno:¬ ((((sIx items.size 0 lo:Nat):Int)==0&&(1:Int)==1&&(sIx items.size items.size hi-sIx items.size 0 lo)==items.size)=true):=by intro q;rw[aOX,aOX] at q;have q1:((sIx items.size 0 lo:Nat):Int)=0:=eq_of_beq q.1.1;have q2:sIx items.size items.size hi-sIx items.size 0 lo=items.size:=eq_of_beq q.2;exact hw ⟨by omega,by omega⟩
 show wpAny _ _ (if (((sIx items.size 0 lo:Nat):Int)==0&&(1:Int)==1&&(sIx items.size items.size hi-sIx items.size 0 lo)==items.size)=true then _ else _) _ _ s;rw[if_neg hno,aCE]
 first
  | exact aNX (m:=Builtin.Tuple.tupleExact _) (aOY (aNW ⟨_,rfl,aNW h⟩) htake)
  | exact aNX (m:=Builtin.Tuple.tupleExact _) (aOY (aNX (aNW (aNW ⟨_,rfl,aNW h⟩))) htake)
  | exact aNX (aNX (m:=Builtin.Tuple.tupleExact _) (aOY (aNW (aNW ⟨_,rfl,aNW h⟩)) htake))
  | exact aNX (aNX (m:=Builtin.Tuple.tupleExact _) (aOY (aNW ⟨_,rfl,aNW h⟩) htake))
end
end HT
namespace L2
open PySem PySem.Spec PyProof.Rows
abbrev TO:=St->Hp->(Option Int->Hp->Prop)->Prop
def PO(X:Cx)(e:Option Expr)(t:TO):Prop :=
 ∀ (aA:LAO) (s:Shared) (σ:St) (H:Hp) (Q:Option Int->Hp->Prop),Inv X aA σ H s->t σ H Q ->
  wpAny (model X.prog X.w) X.A (evalPart e X.env) (λu s'=>∃ o H',Inv X aA σ H' s'/\IsPart u o/\Q o H') X.xe s
def tO:TO:=λ_ H Q=>Q none H
def mY(t:TE):TO:=λσ H Q=>t σ H λx H1=>∃ i,x=.int i/\Q (some i) H1
section
variable {X:Cx}{e:Expr}{te:TE}{lo hi:Option Expr}{tl th:TO}{pos p2:Pos}
theorem aCG:PO X none tO:=by intro aA s σ H Q I h;rw[evalPart_none];exact aNW ⟨none,H,I,.none,h⟩
theorem aCH(h:PE X e te):PO X (some e) (mY te):=by intro aA s σ H Q I hw;rw[evalPart_some];refine thn (h aA s σ H _ I hw) λu s1 ⟨x,H1,I1,r1,q1⟩=>?_;obtain ⟨i,rfl,q⟩:=q1;obtain ⟨t,rfl⟩:=r1;exact ⟨some i,H1,I1,.int i t,q⟩
def SlR(X:Cx)(r:V->Option Int->Option Int->Hp->VK->Prop):Prop :=
 ∀ (aA:LAO) (s:Shared) (σ:St) (H:Hp) (x:V) (v vl vu:Value) (lo hi:Option Int) (sl:Addr) (Q:VK),Inv X aA σ H s->aL x v->s.heap.IsSliceOf sl vl vu .none->IsPart vl lo->IsPart vu hi->r x lo hi H Q ->
  ∃ T id,typeLookup (.type T) "__getitem__" = pure (some (.builtin id))/\s.TypeIs v T/\wpAny (model X.prog X.w) X.A (getItem v (.ref sl)) (EP X aA σ Q) X.xe s
theorem SlR.or{r r':V->Option Int->Option Int->Hp->VK->Prop}(h:SlR X r)(h':SlR X r'):SlR X (λx lo hi H Q=>r x lo hi H Q\/r' x lo hi H Q):=by
 intro aA s σ H x v vl vu lo hi sl Q I rx hs pl pu q;rcases q with q | q
 . exact h aA s σ H x v vl vu lo hi sl Q I rx hs pl pu q
 . exact h' aA s σ H x v vl vu lo hi sl Q I rx hs pl pu q
def tSl(r:V->Option Int->Option Int->Hp->VK->Prop)(te:TE)(tl th:TO):TE:=λσ H Q=>te σ H λx H1=>tl σ H1 λl H2=>th σ H2 λu H3=>r x l u H3 Q
theorem aCI{r:V->Option Int->Option Int->Hp->VK->Prop}(hr:SlR X r)(he:PE X e te)(hl:PO X lo tl)(hu:PO X hi th):PE X (.Subscript e (.Slice lo hi none p2) pos) (tSl r te tl th):=by
 intro aA s σ H Q I h;refine Subscript_ (thn (he aA s σ H _ I h) λv s1 ⟨x,H1,I1,r1,q1⟩=>?_);refine wpAny_Slice (thn (hl aA s1 σ H1 _ I1 q1) λvl s2 ⟨l,H2,I2,pl,q2⟩=>thn (hu aA s2 σ H2 _ I2 q2) λvu s3 ⟨u,H3,I3,pu,q3⟩=>?_);rw[evalPart_none];refine aNW ?_;have I4:Inv X aA σ H3 { s3 with heap:=s3.heap.push { cls:=.type "slice", data:=.fields #[vl,vu,.none] } }:=I3.kept (t':=s3.toks) λb ob q=>hps q
 obtain ⟨T,id,hT,ht,hg⟩:=hr aA { s3 with heap:=s3.heap.push { cls:=.type "slice", data:=.fields #[vl,vu,.none] } } σ H3 x v vl vu l u s3.heap.objs.size Q I4 r1 (Heap.IsSliceOf.new ..) pl pu q3
 show wpAny (model X.prog X.w) X.A (subscriptTail e (.Slice lo hi none p2) v (.ref s3.heap.objs.size)) (EP X aA σ Q) X.xe { s3 with heap:=s3.heap.push { cls:=.type "slice", data:=.fields #[vl,vu,.none] } }
 exact tail_any (ops:=[.ref s3.heap.objs.size,v]) ht hT hg (by with_unfolding_all rfl)
def f9(xs:List V)(lo hi:Option Int):List V:=(xs.drop (HT.sIx xs.length 0 lo)).take (HT.sIx xs.length xs.length hi-HT.sIx xs.length 0 lo)
theorem tP(xs:List V)(lo hi:Option Int):(f9 xs lo hi).length<=xs.length:=by unfold f9;rw[aN9,aOS];omega
def rSlT(K:Fg):V->Option Int->Option Int->Hp->VK->Prop:=λx lo hi H Q=>∃ a xs,x=.ref a/\SqT K H a xs /\
 ¬ (HT.sIx xs.length 0 lo=0/\HT.sIx xs.length xs.length hi=xs.length)/\∀ p,H p=none->Q (.ref p) (upd H p (.tup (f9 xs lo hi)))
theorem aCJ:SlR X (rSlT X.K):=by
 intro aA s σ H x v vl vu lo hi sl Q I rx hs pl pu h;obtain ⟨a,xs,rfl,hx,hw,q⟩:=h;cases rx;obtain ⟨its,r,ht,hz⟩:=I.tuple hx;have hlen:its.toArray.size=xs.length:=by rw[aN5];exact r.length.symm
 refine ⟨"tuple", _,PyProof.Rows.slot_tuple_getitem.lookup,ht.typeIs,?_⟩;refine HT.aCF ht hs pl pu (by rw[hlen];exact hw) ?_ (by rw[hlen];exact hz)
 rw[hlen];refine ⟨.ref s.heap.objs.size,_,I.laid (t':=s.toks) (o:=.tup (f9 xs lo hi)) (λb ob q=>hps q) (aNY _) ?_,rfl,q _ (I.hok.fresh (aNY _))⟩;exact ⟨aNI (tP xs lo hi) hz,_,(r.drop (HT.sIx xs.length 0 lo)).take (HT.sIx xs.length xs.length hi-HT.sIx xs.length 0 lo),fZ.new _ _⟩
theorem aN.nil_iff{xs:List V}{us:List Value}(r:aN xs us):us=[]↔xs=[]:=by
 cases r with
 | nil=>simp
 | cons _ _=>simp
end
def ixN(n:Nat)(i:Int):Option Nat:=if 0<=i then (if i<n then some i.toNat else none) else if -(n:Int)<=i then some (i+n).toNat else none
def atI{α:Type}(xs:List α)(i:Int):Option α:=(ixN xs.length i).bind λj=>xs[j]?
theorem tQ{n:Nat}{i:Int}{j:Nat}(h:ixN n i=some j):seqIndex? i n=some j/\j<n /\ -(n:Int)<=i/\i<n:=by
 unfold ixN at h;by_cases h0:0<=i
 . rw[if_pos h0] at h;by_cases h1:i<n
   . rw[if_pos h1] at h;have e:i.toNat=j:=aM8 h;exact ⟨by rw[seqIndex_of h0 h1,e],by omega,by omega,h1⟩
   . rw[if_neg h1] at h;cases h
 . rw[if_neg h0] at h;by_cases h1:-(n:Int)<=i
   . rw[if_pos h1] at h;have e:(i+n).toNat=j:=aM8 h;exact ⟨by rw[seqIndex_neg (by omega) h1,e],by omega,h1,by omega⟩
   . rw[if_neg h1] at h;cases h
theorem mZ{α:Type}{xs:List α}{i:Int}{v:α}(h:atI xs i=some v):∃ j,seqIndex? i xs.length=some j/\xs[j]? = some v/\j<xs.length /\ -(xs.length:Int)<=i/\i<xs.length:=by
 unfold atI at h;cases e:ixN xs.length i with
 | none=>rw[e] at h;cases h
 | some j=>rw[e] at h;obtain ⟨h1,h2,h3,h4⟩:=tQ e;exact ⟨j,h1,h,h2,h3,h4⟩
theorem bH{α:Type}{xs:List α}{j:Nat}{v:α}(h:xs[j]? = some v):atI xs (j:Int)=some v:=by
 have hj:j<xs.length:=(aNN.mp h).1;have e:ixN xs.length (j:Int)=some j:=by unfold ixN;rw[if_pos (by omega),if_pos (by omega)];simp
 unfold atI;rw[e];exact h
def m5(b:Expr):Prop:=∀ o i,subscripted b false o i=operate [o,i] (getItem o i)
def IxR(X:Cx)(r:R2):Prop :=
 ∀ (value slice:Expr) (aA:LAO) (s:Shared) (σ:St) (H:Hp) (x y:V) (v u:Value) (Q:VK),Inv X aA σ H s->aL x v->aL y u->r x y H Q ->
  subscripted slice false v u=operate [v,u] (getItem v u)->wpAny (model X.prog X.w) X.A (subscriptTail value slice v u) (EP X aA σ Q) X.xe s
def MtR(X:Cx)(id:String)(r:V->List V->Hp->VK->Prop):Prop :=
 ∀ (aA:LAO) (s:Shared) (σ:St) (H:Hp) (x:V) (xs:List V) (v:Value) (us:List Value) (Q:VK),Inv X aA σ H s->aL x v->aN xs us->r x xs H Q ->
  wpAny (model X.prog X.w) X.A (call (.builtin id) (v::us)) (EP X aA σ Q) X.xe s
section
variable {X:Cx}{a b:Expr}{ta tb:TE}{pos:Pos}
theorem IxR.or{r r':R2}(h:IxR X r)(h':IxR X r'):IxR X (λx y H Q=>r x y H Q\/r' x y H Q):=by
 intro value slice aA s σ H x y v u Q I rx ry q hs;rcases q with q | q
 . exact h value slice aA s σ H x y v u Q I rx ry q hs
 . exact h' value slice aA s σ H x y v u Q I rx ry q hs
theorem tR{r:R2}(hr:IxR X r)(ha:PE X a ta)(hb:PE X b tb)(hs:m5 b):PE X (.Subscript a b pos) (tOp r ta tb):=by intro aA s σ H Q I h;exact Subscript_ (pD ha hb I h λv u s2 x y H2 I2 rx ry q=>hr a b aA s2 σ H2 x y v u Q I2 rx ry q (hs _ _))
def rIxL(K:Fg):R2:=λx y H Q=>∃ p xs i v,x=.ref p/\y=.int i/\SqL K H p xs/\atI xs i=some v/\Q v H
def rIxT(K:Fg):R2:=λx y H Q=>∃ p xs i v,x=.ref p/\y=.int i/\SqT K H p xs/\atI xs i=some v/\Q v H
def rIxS:R2:=λx y H Q=>∃ z i c,x=.str z/\y=.int i/\z.length<=sizeLine/\atI z.cps.toList i=some c/\Q (.str ⟨#[c]⟩) H
theorem aCK:IxR X (rIxL X.K):=by
 intro value slice aA s σ H x y v u Q I rx ry h hs;obtain ⟨p,xs,i,z,rfl,rfl,hq,he,q⟩:=h;cases rx;obtain ⟨t,rfl⟩:=ry;obtain ⟨its,r,pl,hz⟩:=I.list hq;obtain ⟨j,h1,h2,h3,h4,h5⟩:=mZ he;obtain ⟨w,ew,rw'⟩:=r.get h2;have hl:=r.length;have hn:=jI;have fin:EP X aA σ Q w s:=⟨z,H,I,rw',q⟩;by_cases h0:0<=i
 . have hj:i.toNat=j:=by rw[seqIndex_of h0 h5] at h1;exact aM8 h1
   exact item_listR pl.isList h0 (by omega) (by rw[hj];simpa using ew) fin hs
 . have hj:(i+(its.toArray.size:Int)).toNat=j:=by
     rw[seqIndex_neg (by omega) h4] at h1
     rw[aN5,<- hl];exact aM8 h1
   exact subscriptTail_builtinR (x:=w) pl.isList.typeIs slot_list_getitem.lookup
    (wpAny_getItem_list_neg (Q:=λr s'=>r=w/\EP X aA σ Q r s') pl.isList (by omega) (by rw[aN5] <;> omega) (by omega) (by rw[hj];simpa using ew) ⟨rfl,fin⟩) hs
theorem aCL:IxR X (rIxT X.K):=by
 intro value slice aA s σ H x y v u Q I rx ry h hs;obtain ⟨p,xs,i,z,rfl,rfl,hq,he,q⟩:=h;cases rx;obtain ⟨t,rfl⟩:=ry;obtain ⟨its,r,pl,hz⟩:=I.tuple hq;obtain ⟨j,h1,h2,h3,h4,h5⟩:=mZ he;obtain ⟨w,ew,rw'⟩:=r.get h2;have hl:=r.length;have hn:=jI;have fin:EP X aA σ Q w s:=⟨z,H,I,rw',q⟩;exact subscriptTail_builtinR (x:=w) pl.typeIs slot_tuple_getitem.lookup
  (getItem_tuple (j:=j) (Q:=λr s'=>r=w/\EP X aA σ Q r s') pl (by omega) (by omega) (by rw[aN5,<- hl];exact h1) (by simpa using ew) ⟨rfl,fin⟩) hs
theorem aCM:IxR X rIxS:=by
 intro value slice aA s σ H x y v u Q I rx ry h hs;obtain ⟨z,i,c,rfl,rfl,hz,he,q⟩:=h;obtain ⟨t,rfl⟩:=rx;obtain ⟨t',rfl⟩:=ry;obtain ⟨j,h1,h2,h3,h4,h5⟩:=mZ he;have hl:z.cps.toList.length=z.length:=by simp[Str.length]
 rw[hl] at h1 h4 h5;have hn:=jI;exact tail_any (typeIs_str s z t) slot_str_getitem.lookup (getItem_str (c:=c) (by
  have e1:decide (i < -(2 ^ 63:Int))=false:=aM5 (by omega)
  have e2:decide (i ≥ 2 ^ 63)=false:=aM5 (by omega)
  rw[e1,e2,Bool.or_false]) (by rw[h1];simpa using h2) ⟨.str ⟨#[c]⟩,H,I.tok _,⟨_,rfl⟩,q⟩) hs
def rIx(K:Fg):R2:=λx y H Q=>rIxL K x y H Q\/rIxT K x y H Q\/rIxS x y H Q
theorem aCN:IxR X (rIx X.K):=aCK.or (aCL.or aCM)
theorem aCO(its:List Value)(n j:Nat)(u:Value):Obj.mapSeq (·.setIfInBounds j u) { cls:=.type "list", data:=.seq its.toArray n }={ cls:=.type "list", data:=.seq (its.set j u).toArray n }:=by simp[Obj.mapSeq]
theorem Inv.lst{aA:LAO}{σ:St}{H:Hp}{s:Shared}{p:Addr}{xs:List V}(I:Inv X aA σ H s)(h:H p=some (.lst xs)):∃ (its:List Value) (n:Nat),aN xs its/\s.heap.get? p=some { cls:=.type "list", data:=.seq its.toArray n }/\xs.length<=sizeLine:=by obtain ⟨z,its,n,r,e⟩:=I.hok p _ h;exact ⟨its,n,r,e,z⟩
theorem Inv.lstUpd{aA:LAO}{σ:St}{H:Hp}{s:Shared}{p:Addr}{xs ys:List V}{its its':List Value}{n n':Nat}{f:Obj->Obj}(I:Inv X aA σ H s)(h:H p=some (.lst xs))(ho:s.heap.get? p=some { cls:=.type "list", data:=.seq its.toArray n })(hf:f { cls:=.type "list", data:=.seq its.toArray n }={ cls:=.type "list", data:=.seq its'.toArray n' })(r:aN ys its')(hz:ys.length<=sizeLine)(t:Nat):Inv X aA σ (upd H p (.lst ys)) { s with heap:=s.heap.update p f,toks:=t }:=by
 have e:(s.heap.update p f).get? p=some { cls:=.type "list", data:=.seq its'.toArray n' }:=by rw[aOZ f ho (by rw[hf] <;> rfl),hf]
 refine I.write (x:=p) (e:=p) (by rw[h];trivial) (.inl rfl) (λb u hb q=>(aO0 _ _ (Ne.symm hb)).trans q) ⟨_,e⟩ ?_
 exact ⟨hz,its',n',r,e⟩
def tU:V->V->V->Hp->(Hp->Prop)->Prop:=λo i v H Q=>∃ p xs k j,o=.ref p/\i=.int k/\H p=some (.lst xs)/\ixN xs.length k=some j/\Q (upd H p (.lst (xs.set j v)))
theorem aCP:PSet X tU:=by
 intro aA s σ H o i v ov iv u Q I ro ri rv h;obtain ⟨p,xs,k,j,rfl,rfl,hp,hj,q⟩:=h;cases ro;obtain ⟨t,rfl⟩:=ri;obtain ⟨its,n,r,ho,hz⟩:=I.lst hp;obtain ⟨h1,h2,h3,h4⟩:=tQ hj;have hl:=r.length;have hn:=jI;have I':Inv X aA σ (upd H p (.lst (xs.set j v))) { s with heap:=s.heap.update p (Obj.mapSeq (·.setIfInBounds j u)) } :=
  I.lstUpd hp ho (aCO its n j u) (r.set rv j) (by rw[aO1];exact hz) s.toks
 by_cases h0:0<=k
 . have hk:k.toNat=j:=by rw[seqIndex_of h0 h4] at h1;exact aM8 h1
   exact PySem.W.ki_setAt ho h0 (by omega) (by rw[aN5,<- hl];exact h4) (by rw[hk];exact ⟨_,I',q⟩)
 . have hk:(k+(its.toArray.size:Int)).toNat=j:=by
     rw[seqIndex_neg (by omega) h3] at h1
     rw[aN5,<- hl];exact aM8 h1
   exact PySem.W.ki_setBack ho (by omega) (by rw[aN5,<- hl];exact h3) (by omega) (by rw[hk];exact ⟨_,I',q⟩)
theorem aCQ(lo hi:Option Int)(n:Nat):(sliceBounds lo hi none n).1=((HT.sIx n 0 lo:Nat):Int)/\(sliceBounds lo hi none n).2.1=((HT.sIx n n hi:Nat):Int)/\(sliceBounds lo hi none n).2.2=1:=by
 refine ⟨?_,?_,rfl⟩
 . cases lo with
   | none=>simp[sliceBounds,HT.sIx]
   | some i =>
    simp only[sliceBounds,HT.sIx,aO2,show (1:Int) > 0 by decide,if_true]
    by_cases h:i<0
    . simp only[h,if_true] <;> omega
    . simp only[h,aOQ] <;> omega
 . cases hi with
   | none=>simp[sliceBounds,HT.sIx]
   | some i =>
    simp only[sliceBounds,HT.sIx,aO2,show (1:Int) > 0 by decide,if_true]
    by_cases h:i<0
    . simp only[h,if_true] <;> omega
    . simp only[h,aOQ] <;> omega
theorem aCR(its:List Value)(lo hi:Option Int):slicePick its.toArray lo hi none=((its.drop (HT.sIx its.length 0 lo)).take (HT.sIx its.length its.length hi-HT.sIx its.length 0 lo)).toArray:=by obtain ⟨h1,h2,h3⟩:=aCQ lo hi its.toArray.size;unfold slicePick;rw[h1,h2,h3];simp only[sliceRange_one,pick_run,aN5] <;> rfl
def rSlL(K:Fg):V->Option Int->Option Int->Hp->VK->Prop:=λx lo hi H Q=>∃ a xs,x=.ref a/\SqL K H a xs/\∀ p,H p=none->Q (.ref p) (upd H p (.lst (f9 xs lo hi)))
theorem aCS:SlR X (rSlL X.K):=by
 intro aA s σ H x v vl vu lo hi sl Q I rx hs pl pu h;obtain ⟨a,xs,rfl,hx,q⟩:=h;cases rx;obtain ⟨its,r,ht,hz⟩:=I.list hx;have hlen:=r.length;refine ⟨"list", _,slot_list_getitem.lookup,ht.isList.typeIs,?_⟩;refine wpAny_getItem_list_slice ht.isList hs pl pu .none (by simp) ?_ (by rw[aN5] <;> omega)
 rw[aCR,<- hlen];refine ⟨.ref s.heap.objs.size,_,I.laid (t':=s.toks) (o:=.lst (f9 xs lo hi)) (λb ob q=>hps q) (aNY _) ?_,rfl,q _ (I.hok.fresh (aNY _))⟩;exact ⟨aNI (tP xs lo hi) hz,_,0,(r.drop (HT.sIx xs.length 0 lo)).take (HT.sIx xs.length xs.length hi-HT.sIx xs.length 0 lo),aM9 _ rfl⟩
def fL:V->Bool
 | .non=>true
 | .bl _=>true
 | .int _=>true
 | .str _=>true
 | _=>false
def eqV:V->V->Bool
 | .non,.non=>true
 | .bl a,.bl b=>a==b
 | .bl a,.int b=>(if a then 1 else 0)==b
 | .int a,.bl b=>a==(if b then 1 else 0)
 | .int a,.int b=>a==b
 | .str a,.str b=>a==b
 | _,_=>false
theorem aCT{A:Around}{s:Shared}{y x:V}{u v:Value}(ry:aL y u)(rx:aL x v)(fy:fL y=true)(fx:fL x=true):SeqAt.EqAt A s u v (eqV y x):=by
 cases y with
 | non =>
  cases ry;cases x with
  | non=>cases rx;exact SeqAt.EqAt.same _
  | bl b=>cases rx;exact SeqAt.EqAt.none_bool b
  | int b=>obtain ⟨t,rfl⟩:=rx;exact SeqAt.EqAt.none_int b t
  | str b=>obtain ⟨t,rfl⟩:=rx;exact SeqAt.EqAt.none_str b t
  | _=>exact absurd (show false=true from fx) aO3
 | bl a =>
  cases ry;cases x with
  | non=>cases rx;exact SeqAt.EqAt.bool_none a
  | bl b=>cases rx;exact SeqAt.EqAt.bool_bool a b
  | int b=>obtain ⟨t,rfl⟩:=rx;exact SeqAt.EqAt.bool_int a b t
  | str b=>obtain ⟨t,rfl⟩:=rx;exact SeqAt.EqAt.bool_str a b t
  | _=>exact absurd (show false=true from fx) aO3
 | int a =>
  obtain ⟨t',rfl⟩:=ry;cases x with
  | non=>cases rx;exact SeqAt.EqAt.int_none a t'
  | bl b=>cases rx;exact SeqAt.EqAt.int_bool a t' b
  | int b=>obtain ⟨t,rfl⟩:=rx;exact SeqAt.EqAt.int_int a t' b t
  | str b=>obtain ⟨t,rfl⟩:=rx;exact SeqAt.EqAt.int_str a t' b t
  | _=>exact absurd (show false=true from fx) aO3
 | str a =>
  obtain ⟨t',rfl⟩:=ry;cases x with
  | non=>cases rx;exact SeqAt.EqAt.str_none a t'
  | bl b=>cases rx;exact SeqAt.EqAt.str_bool a t' b
  | int b=>obtain ⟨t,rfl⟩:=rx;exact SeqAt.EqAt.str_int a t' b t
  | str b=>obtain ⟨t,rfl⟩:=rx;exact SeqAt.EqAt.str_str a t' b t
  | _=>exact absurd (show false=true from fx) aO3
 | _=>exact absurd (show false=true from fy) aO3
def eqU(x:V)(u:Value):Bool:=match u with
 | .none=>eqV .non x
 | .bool b=>eqV (.bl b) x
 | .int i _=>eqV (.int i) x
 | .str z _=>eqV (.str z) x
 | _=>false
theorem tV{x y:V}{u:Value}(r:aL y u)(f:fL y=true):eqU x u=eqV y x:=by
 cases y with
 | non=>cases r;rfl
 | bl b=>cases r;rfl
 | int i=>obtain ⟨t,rfl⟩:=r;rfl
 | str z=>obtain ⟨t,rfl⟩:=r;rfl
 | _=>exact absurd (show false=true from f) aO3
theorem kX{x:V}:∀ {xs:List V} {us:List Value},aN xs us->xs.all fL=true->us.any (eqU x)=xs.any λy=>eqV y x
 | _,_,.nil,_=>rfl
 | y::xs,u::us,.cons r t,f=>by rw[aO4,aOX] at f;rw[aO5,aO5,tV r f.1,kX t f.2]
theorem kY{A:Around}{s:Shared}{x:V}{v:Value}(rx:aL x v)(fx:fL x=true):∀ {xs:List V} {us:List Value},aN xs us->xs.all fL=true->∀ u∈us,SeqAt.EqAt A s u v (eqU x u)
 | _,_,.nil,_=>λu hu=>by cases hu
 | y::xs,u::us,.cons r t,f=>λu' hu=>by
  rw[aO4,aOX] at f;rcases aNK.mp hu with rfl | hu
  . rw[tV r f.1];exact aCT r rx f.1 fx
  . exact kY rx fx t f.2 u' hu
def inV(x:V)(xs:List V):Bool:=xs.any λy=>eqV y x
def rIn(K:Fg)(neg:Bool):R2:=λx y H Q=>∃ p xs,y=.ref p/\(SqL K H p xs\/SqT K H p xs)/\fL x=true/\xs.all fL=true/\Q (.bl (if neg then !inV x xs else inV x xs)) H
theorem aCU:OpR X (compareOp .In) (rIn X.K false):=by
 intro aA s σ H x y v u Q I rx ry h;obtain ⟨p,xs,rfl,hq,fx,fs,q⟩:=h;cases ry;rcases hq with hq | hq
 . obtain ⟨its,r,pl,hz⟩:=I.list hq;refine SeqAt.in_listAt (eqU x) pl.isList (λw hw=>kY rx fx r fs w (by simpa using hw)) ⟨.bl _,H,I,rfl,?_⟩
   rw[show its.toArray.any (eqU x)=its.any (eqU x) by simp,kX r fs]
   exact q
 . obtain ⟨its,r,pl,hz⟩:=I.tuple hq;refine SeqAt.in_tupleAt (eqU x) pl (λw hw=>kY rx fx r fs w (by simpa using hw)) ⟨.bl _,H,I,rfl,?_⟩
   rw[show its.toArray.any (eqU x)=its.any (eqU x) by simp,kX r fs]
   exact q
theorem aCV:OpR X (compareOp .NotIn) (rIn X.K true):=by
 intro aA s σ H x y v u Q I rx ry h;obtain ⟨p,xs,rfl,hq,fx,fs,q⟩:=h;cases ry;rcases hq with hq | hq
 . obtain ⟨its,r,pl,hz⟩:=I.list hq;refine SeqAt.notIn_listAt (eqU x) pl.isList (λw hw=>kY rx fx r fs w (by simpa using hw)) ⟨.bl _,H,I,rfl,?_⟩
   rw[show its.toArray.any (eqU x)=its.any (eqU x) by simp,kX r fs]
   exact q
 . obtain ⟨its,r,pl,hz⟩:=I.tuple hq;refine SeqAt.notIn_tupleAt (eqU x) pl (λw hw=>kY rx fx r fs w (by simpa using hw)) ⟨.bl _,H,I,rfl,?_⟩
   rw[show its.toArray.any (eqU x)=its.any (eqU x) by simp,kX r fs]
   exact q
theorem aCW:fJ X (.type "list") (λxs H Q=>∃ p ys,xs=[.ref p]/\(SqL X.K H p ys\/SqT X.K H p ys)/\∀ l,H l=none->Q (.ref l) (upd H l (.lst ys))):=by
 intro aA s σ H xs us Q I r h; obtain ⟨p, ys, rfl, hq, q⟩ := h; obtain ⟨u, rfl, rx⟩ := f8 r; cases rx; have fin : ∀ (its : List Value), aN ys its → ys.length ≤ sizeLine → ∀ (h' : Heap) (c' : Nat), (∀ b o', s.heap.get? b = some o' → h'.get? b = some o') →
     h'.get? s.heap.objs.size=some { cls:=.type "list", dict:=none,data:=.seq its.toArray c',slots:=#[] } -> EP X aA σ Q (.ref s.heap.objs.size) { s with heap:=h' }:=λits r' hz h' c' kp e =>
  ⟨.ref s.heap.objs.size,_,I.laid (t':=s.toks) kp (aNY _) (show bU X.prog X.w _ h' _ (.lst ys) from ⟨hz,its,c',r',e⟩),rfl,q _ (I.hok.fresh (aNY _))⟩
 rcases hq with hq | hq
 . obtain ⟨its,r',pl,hz⟩:=I.list hq;have hlen:=r'.length;obtain ⟨o,ho,hc,n,hd⟩:=pl.isList;exact call_list_seq p (.inl rfl) ho hc hd (λh' c' kp e=>fin its r' hz h' c' kp e) (by simp only[aN5] <;> omega)
 . obtain ⟨its,r',pl,hz⟩:=I.tuple hq;have hlen:=r'.length;obtain ⟨o,ho,hc,n,hd⟩:=pl;exact call_list_seq p (.inr rfl) ho hc hd (λh' c' kp e=>fin its r' hz h' c' kp e) (by simp only[aN5] <;> omega)
theorem aCX:fJ X (.type "tuple") (λxs H Q=>∃ p ys,xs=[.ref p]/\((SqL X.K H p ys/\∀ l,H l=none->Q (.ref l) (upd H l (.tup ys)))\/(SqT X.K H p ys/\Q (.ref p) H))):=by
 intro aA s σ H xs us Q I r h;obtain ⟨p,ys,rfl,h⟩:=h;obtain ⟨u,rfl,rx⟩:=f8 r;cases rx;rcases h with ⟨hq,q⟩ | ⟨hq,q⟩
 . obtain ⟨its,r',pl,hz⟩:=I.list hq;have hlen:=r'.length;refine call_tuple_list pl.isList (λh' kp=>?_) (by simp only[aN5] <;> omega)
   have I1:Inv X aA σ H { s with heap:=h' }:=I.kept (t':=s.toks) kp
   have I2:Inv X aA σ (upd H h'.objs.size (.tup ys)) { s with heap:=h'.push { cls:=.type "tuple", data:=.seq its.toArray } } :=
    I1.laid (t':=s.toks) (λb o e=>hps e) (aNY _) (show bU X.prog X.w _ _ _ (.tup ys) from ⟨hz,its,r',fZ.new _ _⟩)
   exact ⟨.ref h'.objs.size,_,I2,rfl,q _ (I1.hok.fresh (aNY _))⟩
 . obtain ⟨its,r',pl,hz⟩:=I.tuple hq;exact call_tuple_same pl ⟨.ref p,H,I,rfl,q⟩
def tyV(K:Fg)(T:String)(x:V)(H:Hp):Prop:=match x with
 | .str _=>T = "str"
 | .int _=>T = "int"
 | .ref p => (T = "list" ∧ ∃ xs, SqL K H p xs) ∨ (T = "tuple" ∧ ∃ o, K.lookup p = some o ∧ o.cls = .type "tuple" ∧ o.dict = none) ∨
     (T = "dict" /\ ((∃ kvs,H p=some (.dK kvs))\/∃ kvs,H p=some (.dT kvs)))\/(T = "set" /\ ∃ S n,H p=some (.set S n))
 | _=>False
theorem aCY{aA:LAO}{σ:St}{H:Hp}{s:Shared}{T:String}{x:V}{v:Value}(I:Inv X aA σ H s)(r:aL x v)(ty:tyV X.K T x H):s.TypeIs v T/\∀ a,v=.ref a->∃ ob,s.heap.get? a=some ob/\ob.dict=none:=by
 cases x with
 | str z =>
  obtain ⟨t,rfl⟩:=r;cases (show T = "str" from ty)
  exact ⟨typeIs_str s z t,λ_ e=>nomatch e⟩
 | int i =>
  obtain ⟨t,rfl⟩:=r;cases (show T = "int" from ty)
  exact ⟨typeIs_int s i t,λ_ e=>nomatch e⟩
 | ref p =>
  cases r;rcases ty with ⟨rfl,xs,hq⟩ | ⟨rfl,o,hk,hc,hd⟩ | ⟨rfl,hk⟩ | ⟨rfl,S,n,hk⟩
  . obtain ⟨its,_,pl,_⟩:=I.list hq;refine ⟨pl.isList.typeIs,λa e=>?_⟩;cases e;obtain ⟨o,n,e,c,hd,_⟩:=pl;exact ⟨o,e,hd⟩
  . refine ⟨⟨o,I.kIn p o hk,hc⟩,λa e=>?_⟩;cases e;exact ⟨o,I.kIn _ o hk,hd⟩
  . have z:∃ o,s.heap.get? p=some o/\o.ExactDict:=by
      rcases hk with ⟨kvs,hk⟩ | ⟨kvs,hk⟩
      . obtain ⟨_,_,_,_,o,_,_,e,ex,_⟩:=I.hok p _ hk;exact ⟨o,e,ex⟩
      . obtain ⟨_,_,_,_,o,_,_,e,ex,_⟩:=I.hok p _ hk;exact ⟨o,e,ex⟩
    obtain ⟨o,e,ex⟩:=z;refine ⟨⟨o,e,ex.1⟩,λa e2=>?_⟩;cases e2;exact ⟨o,e,ex.2.1⟩
  . obtain ⟨o,_,_,_,e,ex,_⟩:=I.hok p _ hk;refine ⟨⟨o,e,ex.1⟩,λa e2=>?_⟩;cases e2;exact ⟨o,e,ex.2.1⟩
 | _=>exact False.elim ty
def tBM(K:Fg)(T:String)(r:V->List V->Hp->VK->Prop)(to:TE)(t:TA):TE:=λσ H Q=>to σ H λx H1=>tyV K T x H1/\t σ H1 λxs H2=>r x xs H2 Q
variable {o e:Expr}{es:List Expr}{to:TE}{t:TA}{name:Str}{apos cpos:Pos}{T id:String}{r:V->List V->Hp->VK->Prop}
theorem pe_bm(pa:PlainAttrs T)(slot:Slot T name id)(hty:typeOf (.builtin id)=pure (.type "method_descriptor"))(hm:MtR X id r)(ho:PE X o to)(ha:PA X (e::es) t)(hbase:attributeBase o name X.env (eval o X.env)=eval o X.env:=by rfl)(hfew:((backTo cpos (starEach (e::es) X.env)).all (λx=>!x.1)&&(backToKw cpos (keywordEach [] X.env)).all (λx=>x.1.isSome)&&decide ((e::es).length+([]:List Keyword).length+(if ([]:List Keyword).isEmpty then 0 else 1)<30))=true:=by rfl)(hline:(apos.endLine==cpos.line)=true:=by rfl)(hs:starEach (e::es) X.env=(false,eval e X.env)::starEach es X.env:=by rfl)(hplain:(backTo cpos (starEach es X.env)).any (·.1)=false:=by rfl):PE X (.Call (.Attribute o name apos) (e::es) [] cpos) (tBM X.K T r to t):=by
 intro aA s σ H Q I h;refine wpAny_Call_method_late hbase hfew hline rfl (thn (ho aA s σ H _ I h) λv s1 ⟨x,H1,I1,r1,ty,q1⟩=>?_);obtain ⟨h1,h2⟩:=aCY I1 r1 ty;refine ⟨T,id,pa,slot,hty,h1,h2,?_⟩;have hA:=ha cpos aA s1 σ H1 _ I1 q1;rw[hs] at hA ⊢;refine Calls.callWith_builtin (by show (false||(backTo cpos (starEach es X.env)).any (·.1))=false;rw[hplain] <;> rfl) (Calls.evalArgs_plain ?_)
 exact thn hA λus s2 ⟨vs,H2,I2,r2,q2⟩=>hm aA s2 σ H2 x vs v us Q I2 r1 r2 q2
end
def MtM(X:Cx)(id:String)(r:V->List V->Hp->VK->Prop):Prop :=
 ∀ (aA:LAO) (s:Shared) (σ:St) (H:Hp) (x:V) (xs:List V) (v:Value) (us:List Value) (Q:VK),Inv X aA σ H s->aL x v->aN xs us->r x xs H Q ->
  wpAny (model X.prog X.w) X.A (call (.builtin id) (v::us)) (EP X aA σ Q) X.xe s
theorem aN.one:∀ {x:V} {us:List Value},aN [x] us->∃ u,us=[u]/\aL x u
 | _,_,.cons r .nil=>⟨_,rfl,r⟩
section
variable {X:Cx}{aA:LAO}{σ:St}{H:Hp}{s:Shared}{l b:Addr}{xs ys zs:List V}
theorem Inv.lset{its its':List Value}{n:Nat}{f:Array Value->Array Value}{t':Nat}(I:Inv X aA σ H s)(hH:H l=some (.lst xs))(e:s.heap.get? l=some { cls:=.type "list", data:=.seq its.toArray n })(hf:f its.toArray=its'.toArray)(hv:aN ys its')(hz:ys.length<=sizeLine):Inv X aA σ (upd H l (.lst ys)) { s with heap:=s.heap.update l (Obj.mapSeq f),toks:=t' }:=by
 have q:=PySem.IsL.update e f;rw[hf] at q;refine I.write (x:=l) (e:=l) (by rw[hH];exact trivial) (.inl rfl) (λb' u hb hu=>(aO0 s.heap (Obj.mapSeq f) (Ne.symm hb)).trans hu) ⟨_,q⟩ ?_
 exact ⟨hz,its',_,hv,q⟩
theorem Inv.lstM(I:Inv X aA σ H s)(hH:H l=some (.lst xs)):xs.length<=sizeLine/\∃ (its:List Value) (n:Nat),aN xs its/\xs.length=its.length/\s.heap.get? l=some { cls:=.type "list", data:=.seq its.toArray n }:=by obtain ⟨z,its,n,r,e⟩:=I.hok l _ hH;exact ⟨z,its,n,r,r.length,e⟩
end
section
variable {X:Cx}
def aCZ:V->List V->Hp->VK->Prop:=λx vs H Q=>∃ l xs y,x=.ref l/\vs=[y]/\H l=some (.lst xs)/\xs.length<sizeLine/\Q .non (upd H l (.lst (xs++[y])))
theorem pI:MtM X "list.append" aCZ:=by
 intro aA s σ H x vs v us Q I rx rv h;obtain ⟨l,xs,y,rfl,rfl,hH,hz,q⟩:=h;cases rx;obtain ⟨u,rfl,ru⟩:=rv.one;obtain ⟨z,its,n,r,hl,e⟩:=I.lstM hH;refine call_meets F.slot_list_append ⟨_,e,rfl⟩ F.entry_list_append (F.args_list_append_2 _ _) (PySem.list_append l its.toArray n u (by rw[aN5];omega)) ⟨e,?_⟩
 refine ⟨.non,_,I.lset (its':=its++[u]) hH e (by simp) (r.append (.cons ru .nil)) ?_,rfl,q⟩
 rw[aOH,List.length_singleton];omega
end
section
variable {prog:Program}{w:World}{A:Around}{E:VSP}{s:Shared}
end
section
variable {X:Cx}
end
section
variable {κ:Type}[DecidableEq κ]
def dA(kvs:List (κ×V))(k:κ):Option V:=(kvs.find? λkv=>decide (kv.1=k)).map (·.2)
def eK(kvs:List (κ×V))(k:κ)(v:V):List (κ×V) :=
 if (kvs.any λkv=>decide (kv.1=k))=true then kvs.map (λkv=>if kv.1=k then (kv.1,v) else kv) else kvs++[(k,v)]
theorem m6{p:κ×V}{r:List (κ×V)}{k:κ}(e:p.1=k):dA (p::r) k=some p.2:=by simp[dA,aO6,e]
theorem m7{p:κ×V}{r:List (κ×V)}{k:κ}(e:¬ p.1=k):dA (p::r) k=dA r k:=by simp[dA,aO6,e]
theorem tW(k:κ):∀ kvs:List (κ×V),(kvs.any λkv=>decide (kv.1=k))=(dA kvs k).isSome
 | []=>rfl
 | p::r=>by
  rw[aO5];by_cases e:p.1=k
  . simp only[m6 e,aO7 e,Bool.true_or,Option.isSome_some]
  . rw[m7 e,aM5 e,Bool.false_or];exact tW k r
theorem tX(kvs:List (κ×V))(k:κ)(v:V):(eK kvs k v).length<=kvs.length+1:=by
 unfold eK;split
 . rw[aOI];omega
 . rw[aOH,aO8,List.length_nil];omega
theorem dN.isSome_eq{o:Option V}{u:Option Value}(r:dN o u):o.isSome=u.isSome:=by
 cases o with
 | none=>cases u with
  | none=>rfl
  | some _=>exact (show False from r).elim
 | some _=>cases u with
  | none=>exact (show False from r).elim
  | some _=>rfl
theorem KV.val{kvs:List (κ×V)}{vs:List (κ×Value)}(r:KV kvs vs)(k:κ):dN (dA kvs k) (valueAt vs k):=by
 unfold KV at r
 induction r with
 | nil=>exact True.intro
 | @cons p q ps qs h t ih =>
  obtain ⟨h1,h2⟩:=h;by_cases e:p.1=k
  . have e':q.1=k:=h1.symm.trans e;have b:valueAt (q::qs) k=some q.2:=by simp[valueAt,aO6,e']
    rw[m6 e,b];exact h2
  . have e':¬ q.1=k:=λz=>e (h1.trans z);have b:valueAt (q::qs) k=valueAt qs k:=by simp[valueAt,aO6,e']
    rw[m7 e,b];exact ih
theorem KV.any{kvs:List (κ×V)}{vs:List (κ×Value)}(r:KV kvs vs)(k:κ):(kvs.any λkv=>decide (kv.1=k))=vs.any λkv=>decide (kv.1=k):=by
 unfold KV at r
 induction r with
 | nil=>rfl
 | cons h t ih=>rw[aO5,aO5,ih,h.1]
theorem KV.repl{kvs:List (κ×V)}{vs:List (κ×Value)}(r:KV kvs vs)(k:κ){y:V}{u:Value}(ry:aL y u):KV (kvs.map λkv=>if kv.1=k then (kv.1,y) else kv) (vs.map λkv=>if kv.1=k then (kv.1,u) else kv):=by
 unfold KV at r ⊢
 induction r with
 | nil=>exact .nil
 | @cons p q ps qs h t ih =>
  rw[aO9,aO9];refine .cons ?_ ih;obtain ⟨h1,h2⟩:=h;by_cases e:p.1=k
  . rw[if_pos e,if_pos (h1.symm.trans e)];exact ⟨h1,ry⟩
  . rw[if_neg e,if_neg (λz=>e (h1.trans z))];exact ⟨h1,h2⟩
theorem KV.put{kvs:List (κ×V)}{vs:List (κ×Value)}(r:KV kvs vs)(k:κ){y:V}{u:Value}(ry:aL y u):KV (eK kvs k y) (stored vs k u):=by
 unfold eK stored;rw[r.any k];by_cases e:(vs.any λkv=>decide (kv.1=k))=true
 . rw[if_pos e,if_pos e];exact r.repl k ry
 . rw[if_neg e,if_neg e];exact Paired.snoc r ⟨rfl,ry⟩
theorem KV.keys{kvs:List (κ×V)}{vs:List (κ×Value)}(r:KV kvs vs):kvs.map (·.1)=vs.map (·.1):=by
 unfold KV at r
 induction r with
 | nil=>rfl
 | cons h t ih=>rw[aO9,aO9,ih,h.1]
theorem KV.length{kvs:List (κ×V)}{vs:List (κ×Value)}(r:KV kvs vs):kvs.length=vs.length:=aM7 r
end
theorem jL{P:Program}{w:World}{k:Key}{u:Value}(r:aL (kV k) u):(bR P w).is k u=true:=by
 cases k with
 | inl i=>obtain ⟨t,e⟩:=(show ∃ t,u=Value.int i t from r);subst e;exact aAO P w i t
 | inr x=>obtain ⟨t,e⟩:=(show ∃ t,u=Value.str x t from r);subst e;exact aAP P w x t
theorem tY{P:Program}{w:World}:∀ {ks:List Key} {us:List Value},aN (ks.map kV) us->ItemsAre (bR P w) ks us
 | [],_,r=>by rw[List.map_nil] at r;cases r;exact .nil
 | k::ks,_,r=>by
  rw[aO9] at r;cases r with
  | cons h t=>exact .cons (jL h) (tY t)
abbrev KT(H:Hp):List (List Key×V)->List (List Key×Addr×Value)->Prop:=Paired λp q=>p.1=q.1/\H q.2.1=some (.tup (p.1.map kV))/\aL p.2 q.2.2
theorem KT.val{H:Hp}{kvs:List (List Key×V)}{xs:List (List Key×Addr×Value)}(r:KT H kvs xs)(k:List Key):dN (dA kvs k) ((atKey xs k).map (·.2)):=by
 induction r with
 | nil=>exact True.intro
 | @cons p q ps qs h t ih =>
  obtain ⟨h1,_,h2⟩:=h;by_cases e:p.1=k
  . have e':q.1=k:=h1.symm.trans e;have b:atKey (q::qs) k=some q.2:=by simp[atKey,aO6,e']
    rw[m6 e,b];exact h2
  . have e':¬ q.1=k:=λz=>e (h1.trans z);have b:atKey (q::qs) k=atKey qs k:=by simp[atKey,aO6,e']
    rw[m7 e,b];exact ih
theorem KT.repl{H:Hp}{kvs:List (List Key×V)}{xs:List (List Key×Addr×Value)}(r:KT H kvs xs)(k:List Key){y:V}{u:Value}(ry:aL y u):KT H (kvs.map λkv=>if kv.1=k then (kv.1,y) else kv) (xs.map (putAt k u)):=by
 induction r with
 | nil=>exact .nil
 | @cons p q ps qs h t ih =>
  rw[aO9,aO9];refine .cons ?_ ih;obtain ⟨h1,h2,h3⟩:=h;unfold putAt;by_cases e:p.1=k
  . rw[if_pos e,if_pos (h1.symm.trans e)];exact ⟨h1,h2,ry⟩
  . rw[if_neg e,if_neg (λz=>e (h1.trans z))];exact ⟨h1,h2,h3⟩
theorem KT.put{H:Hp}{kvs:List (List Key×V)}{xs:List (List Key×Addr×Value)}(r:KT H kvs xs)(k:List Key){b:Addr}{y:V}{u:Value}(hb:H b=some (.tup (k.map kV)))(ry:aL y u):KT H (eK kvs k y) (storedH xs k b u):=by
 have e:(kvs.any λkv=>decide (kv.1=k))=(atKey xs k).isSome:=by rw[tW,(r.val k).isSome_eq,aPA]
 unfold eK storedH;rw[e];by_cases q:(atKey xs k).isSome=true
 . rw[if_pos q,if_pos q];exact r.repl k ry
 . rw[if_neg q,if_neg q];exact Paired.snoc r ⟨rfl,hb,ry⟩
theorem KT.keeps{H H':Hp}{kvs:List (List Key×V)}{xs:List (List Key×Addr×Value)}(r:KT H kvs xs)(ht:∀ b ys,H b=some (.tup ys)->H' b=some (.tup ys)):KT H' kvs xs :=
 Paired.mapP r λ_ _ z=>⟨z.1,ht _ _ z.2.1,z.2.2⟩
section
variable {P:Program}{w:World}{H:Hp}{h:Heap}{a:Addr}
theorem tZ{u:HO}(ok:HOk P w H h)(e:Rd H a u):bU P w H h a u:=e.ok ok
theorem jM{kvs:List (Key×V)}(ok:HOk P w H h)(e:Rd H a (.dK kvs)):kvs.length<=sizeLine/\(a==sysModules)=false/\∃ vs,KV kvs vs/\h.DictOf (bR P w) a vs :=
 show bU P w H h a (.dK kvs) from tZ ok e
theorem m8{kvs:List (Key×V)}(ok:HOk P w H h)(e:H a=some (.dK kvs)):kvs.length<=sizeLine/\(a==sysModules)=false/\∃ vs,KV kvs vs/\h.DictOf (bR P w) a vs:=jM ok (.inl e)
theorem kZ{ks:List Key}(ok:HOk P w H h)(e:H a=some (.tup (ks.map kV))):(tupleKind (bR P w)).is h ks a:=by
 obtain ⟨_,its,r,o,h1,h2,_,n,h3⟩:=(show bU P w H h a (.tup (ks.map kV)) from ok a _ e)
 exact ⟨o,its.toArray,n,h1,h2,h3,by simpa using tY r⟩
theorem k4{kvs:List (List Key×V)}(ok:HOk P w H h)(e:Rd H a (.dT kvs)):kvs.length<=sizeLine/\(a==sysModules)=false/\∃ xs,KT H kvs xs/\h.DictOfH (tupleKind (bR P w)) a xs:=by
 obtain ⟨z,y,xs,r,o,es,ep,h1,h2,h3,h4,h5⟩:=(show bU P w H h a (.dT kvs) from tZ ok e)
 refine ⟨z,y,xs,r,o,es,ep,h1,h2,h3,h4,λx hx=>?_,h5⟩;have all:∀ {l:List (List Key×V)} {m:List (List Key×Addr×Value)},KT H l m->∀ x∈m,(tupleKind (bR P w)).is h x.1 x.2.1:=by
  intro l m q
  induction q with
  | nil=>intro x hx;exact nomatch hx
  | @cons p q ps qs hq t ih =>
   intro x hx;rcases aNK.mp hx with e | hx
   . subst e;exact kZ ok (by rw[<- hq.1];exact hq.2.1)
   . exact ih x hx
 exact all r x hx
theorem dt_of{kvs:List (List Key×V)}(ok:HOk P w H h)(e:H a=some (.dT kvs)):kvs.length<=sizeLine/\(a==sysModules)=false/\∃ xs,KT H kvs xs/\h.DictOfH (tupleKind (bR P w)) a xs:=k4 ok (.inl e)
end
def gZ(H:Hp)(a:Addr)(y:V)(r:Option V):Prop :=
 (∃ kvs k,Rd H a (.dK kvs)/\y=kV k/\r=dA kvs k)\/∃ kvs k b,Rd H a (.dT kvs)/\y=.ref b/\H b=some (.tup (k.map kV))/\r=dA kvs k
def DPut(H:Hp)(a:Addr)(y v:V)(H':Hp):Prop :=
 (∃ kvs k,H a=some (.dK kvs)/\y=kV k/\kvs.length<sizeLine/\H'=upd H a (.dK (eK kvs k v))) \/
 ∃ kvs k b,H a=some (.dT kvs)/\y=.ref b/\H b=some (.tup (k.map kV))/\kvs.length<sizeLine/\H'=upd H a (.dT (eK kvs k v))
section
variable {X:Cx}{aA:LAO}{σ:St}{H:Hp}{s:Shared}{a:Addr}{y v:V}{u r:Value}{o:Option V}{A:Around}{E:VSP}
theorem Inv.big(I:Inv X aA σ H s):sysModules<s.heap.objs.size:=by have h:mainGlobals<s.heap.objs.size:=(I.mod.glob.keeps I.bk).lt;exact Nat.lt_trans (by decide) h
theorem aC0{Q:VSP}(hu:A.units+1<cLine)(I:Inv X aA σ H s)(g:gZ H a y (some v))(ry:aL y u)(h:∀ w' s',Inv X aA σ H s'->aL v w'->Q w' s'):wpAny (model X.prog X.w) A (getItem (.ref a) u) Q E s:=by
 rcases g with ⟨kvs,k,e,ey,l⟩ | ⟨kvs,k,b,e,ey,eb,l⟩
 . subst ey;obtain ⟨z,hd,vs,rel,dd⟩:=jM I.hok e;obtain ⟨w',hw,rw'⟩:=dN.some_of (v:=v) (o:=valueAt vs k) (by rw[l];exact rel.val k)
   exact wpAny_getItem_of (jL ry) dd.mapOf hw (h w' _ (I.tok _) rw')
 . subst ey;cases (show u=Value.ref b from ry)
   obtain ⟨z,hd,xs,rel,dd⟩:=k4 I.hok e;obtain ⟨w',hw,rw'⟩:=dN.some_of (v:=v) (o:=(atKey xs k).map (·.2)) (by rw[l];exact rel.val k)
   obtain ⟨p,hp,hp2⟩:=aPB.mp hw;refine wpAny_getItem_heap (aPC hu) (kZ I.hok eb) dd hp ?_;rw[hp2];exact h w' _ (I.tok _) rw'
theorem d_in{Q:VSP}(hu:A.units+1<cLine)(I:Inv X aA σ H s)(g:gZ H a y o)(ry:aL y u)(h:∀ s',Inv X aA σ H s'->Q (.bool o.isSome) s'):wpAny (model X.prog X.w) A (compareOp .In u (.ref a)) Q E s:=by
 rcases g with ⟨kvs,k,e,ey,l⟩ | ⟨kvs,k,b,e,ey,eb,l⟩
 . subst ey;obtain ⟨z,hd,vs,rel,dd⟩:=jM I.hok e;refine wpAny_in_of (jL ry) hd dd.mapOf ?_;rw[<- (rel.val k).isSome_eq,<- l];exact h _ (I.tok _)
 . subst ey;cases (show u=Value.ref b from ry)
   obtain ⟨z,hd,xs,rel,dd⟩:=k4 I.hok e;refine wpAny_in_heap (aPC hu) (kZ I.hok eb) hd dd ?_;have q:=(rel.val k).isSome_eq;rw[aPA] at q;rw[<- q,<- l];exact h _ (I.tok _)
theorem aC1{Q:VSP}(hu:A.units+1<cLine)(I:Inv X aA σ H s)(g:gZ H a y o)(ry:aL y u)(h:∀ s',Inv X aA σ H s'->Q (.bool (!o.isSome)) s'):wpAny (model X.prog X.w) A (compareOp .NotIn u (.ref a)) Q E s:=by
 rcases g with ⟨kvs,k,e,ey,l⟩ | ⟨kvs,k,b,e,ey,eb,l⟩
 . subst ey;obtain ⟨z,hd,vs,rel,dd⟩:=jM I.hok e;refine wpAny_notIn_of (jL ry) hd dd.mapOf ?_;rw[<- (rel.val k).isSome_eq,<- l];exact h _ (I.tok _)
 . subst ey;cases (show u=Value.ref b from ry)
   obtain ⟨z,hd,xs,rel,dd⟩:=k4 I.hok e;refine wpAny_notIn_heap (aPC hu) (kZ I.hok eb) hd dd ?_;have q:=(rel.val k).isSome_eq;rw[aPA] at q;rw[<- q,<- l];exact h _ (I.tok _)
theorem t5{h':Heap}{t':Nat}{ob:HO}(I:Inv X aA σ H s)(mu:Mut (H a))(hs:Heap.SameBut a s.heap h')(he:∃ q,h'.get? a=some q)(new:bU X.prog X.w (upd H a ob) h' a ob):Inv X aA σ (upd H a ob) { s with heap:=h',toks:=t' } :=
 I.write (x:=a) (e:=a) mu (.inl rfl) (λb q hb z=>(hs.2 b hb).trans z) he new
theorem t7{P:Program}{w:World}{H':Hp}{h':Heap}{kvs:List (Key×V)}{vs:List (Key×Value)}(z:kvs.length<=sizeLine)(hd:(a==sysModules)=false)(rel:KV kvs vs)(dd:h'.DictOf (bR P w) a vs):bU P w H' h' a (.dK kvs):=⟨z,hd,vs,rel,dd⟩
theorem aC2{H':Hp}{Q:Unit->Shared->Prop}(hu:A.units+1<cLine)(I:Inv X aA σ H s)(g:DPut H a y v H')(ry:aL y u)(rv:aL v r)(h:∀ s',Inv X aA σ H' s'->Q () s'):wpAny (model X.prog X.w) A (setItem (.ref a) u r) Q E s:=by
 rcases g with ⟨kvs,k,e,ey,l,eH⟩ | ⟨kvs,k,b,e,ey,eb,l,eH⟩
 . subst ey eH;obtain ⟨z,hd,vs,rel,dd⟩:=m8 I.hok e;have hz:vs.length<=sizeLine:=by rw[<- rel.length];exact z
   have hl:(eK kvs k v).length<=sizeLine:=by have:=tX kvs k v;omega
   refine wpAny_setItem_pairs (hsz:=hz) (jL ry) dd λh' dd' hs=>h _ ?_;have he:∃ q,h'.get? a=some q:=let ⟨q,_,_,hq,_⟩:=dd';⟨q,hq⟩
   exact t5 I (by rw[e];exact True.intro) hs he (t7 hl hd (rel.put k rv) dd')
 . subst ey eH;cases (show u=Value.ref b from ry)
   obtain ⟨z,hd,xs,rel,dd⟩:=dt_of I.hok e;have hz:xs.length<=sizeLine:=by rw[<- aM7 rel];exact z
   have hl:(eK kvs k v).length<=sizeLine:=by have:=tX kvs k v;omega
   refine wpAny_setItem_heap (hsz:=hz) (aPC hu) (kZ I.hok eb) dd λh' dd' hs=>h _ ?_;obtain ⟨q,es,ep,hq,h2,h3,h4,_,h5⟩:=dd';refine t5 I (by rw[e];exact True.intro) hs ⟨q,hq⟩ ⟨hl,hd,_,(rel.put k eb rv).keeps λc ys ec=>?_,q,es,ep,hq,h2,h3,h4,h5⟩
   rw[aO (ne_of ec e (λz=>nomatch z))];exact ec
end
section
variable {X:Cx}{aA:LAO}{σ:St}{H:Hp}{s:Shared}{a:Addr}{kvs:List (Key×V)}{k:Key}{u:Value}{A:Around}{E:VSP}
end
def pJ(i:Expr):Prop:=∀ ov iv,subscripted i false ov iv=operate [ov,iv] (getItem ov iv)
theorem aC3{prog:Program}{w:World}{A:Around}{E:VSP}{s:Shared}{env:Env}{value slice:Expr}{pos:Pos}{T id:String}{Q:VSP}(hl:typeLookup (.type T) "__getitem__" = pure (some (.builtin id)))(hs:pJ slice)(h:wpAny (model prog w) A (eval value env) (λo s₁=>wpAny (model prog w) A (eval slice env) (λi s₂=>s₂.TypeIs o T/\wpAny (model prog w) A (getItem o i) Q E s₂) E s₁) E s):wpAny (model prog w) A (eval (.Subscript value slice pos) env) Q E s:=by
 refine Subscript_ (aNR h (λo s₁ h₁=>aNR h₁ (λi s₂ h₂=>?_) λ_ _ x=>x) λ_ _ x=>x);obtain ⟨hT,h₂⟩:=h₂;unfold subscriptTail;refine aNX ?_;rw[getitemInPython_of_ne hT.not_modules];refine aNX (aPD hT hl ?_);have fin:wpAny (model prog w) A (subscripted slice false o i) (λr s₃=>wpAny (model prog w) A (letTemporaryGo value o r >>= λ_=>pure r) Q E s₃) E s₂:=by rw[hs o i];exact wpAny_operating (aNR h₂ (λr s₃ h₃=>aNX (wpAny_letTemporaryGo (aNW h₃))) λ_ _ x=>x)
 first
  | exact aNW (aNX fin)
  | exact aNX (aNW (aNX fin))
  | exact aNX fin
theorem aC4{X:Cx}{aA:LAO}{σ:St}{H:Hp}{s:Shared}{a:Addr}{y:V}{o:Option V}(I:Inv X aA σ H s)(g:gZ H a y o):s.TypeIs (.ref a) "dict" := by
 rcases g with ⟨kvs,k,e,_,_⟩ | ⟨kvs,k,b,e,_,_,_⟩
 . obtain ⟨_,_,vs,_,dd⟩:=jM I.hok e;exact dd.typeIs
 . obtain ⟨_,_,xs,_,dd⟩:=k4 I.hok e;exact dd.typeIs
def t8(td ty tv:TE):TS:=λD σ H=>tv σ H λv H1=>td σ H1 λx H2=>ty σ H2 λy H3=>∃ a H4,x=.ref a/\DPut H3 a y v H4/\D.nx σ H4
section
variable {X:Cx}{o i e value:Expr}{pos pos' tpos:Pos}{td ty tv:TE}
theorem aC5(hu:X.A.units+1<cLine)(ho:PE X o td)(hi:PE X i ty)(hv:PE X value tv)(hs:swapsWith value (some (.Subscript o i pos')) pos.line X.env=pure false):PS X (.Assign [.Subscript o i pos'] value pos) (t8 td ty tv):=by intro aA s σ H D I h;refine wpAny_Assign_Subscript (thn (hv aA s σ H _ I h) λr s1 ⟨v,H1,I1,rv,q1⟩=>thn (ho aA s1 σ H1 _ I1 q1) λu s2 ⟨x,H2,I2,rx,q2⟩=>thn (hi aA s2 σ H2 _ I2 q2) λiv s3 ⟨y,H3,I3,ry,a,H4,ex,g,q3⟩=>?_) hs;subst ex;obtain rfl:u=Value.ref a:=rx;exact aC2 hu I3 g ry rv λs4 I4=>⟨σ,H4,I4,q3⟩
end
theorem aC6{P:Program}{w:World}{H:Hp}(h:Heap)(hb:sysModules<h.objs.size):bU P w H (h.push { cls:=.type "dict", data:=.dict #[] }) h.objs.size (.dK []) :=
 ⟨aPE _,aM6.mpr (Ne.symm (aND hb)),[],.nil,Heap.DictOf.new h⟩
def aC7:TE:=λ_ H Q=>∀ p,H p=none->Q (.ref p) (upd H p (.dK []))
section
variable {X:Cx}{pos:Pos}
theorem aC8:PE X (.Dict [] [] pos) aC7:=λaA s σ H Q I h =>
 wpAny_Dict_empty ⟨.ref s.heap.objs.size,_,I.laid (a:=s.heap.objs.size) (o:=.dK []) (t':=s.toks) (λ_ _ q=>hps q) (aNY _) (aC6 s.heap I.big),rfl,h _ (I.hok.fresh (aNY _))⟩
end
section
variable {X:Cx}{aA:LAO}{σ:St}{H:Hp}{s:Shared}{a:Addr}{y d:V}{u r:Value}{o:Option V}{A:Around}{E:VSP}
end
section
variable {X:Cx}{o e f:Expr}{apos cpos:Pos}{td ty tx:TE}
end
section
variable {X:Cx}{aA:LAO}{σ:St}{H:Hp}{s:Shared}{a:Addr}{kvs:List (Key×V)}{A:Around}{E:VSP}
theorem aC9{Q:VSP}(I:Inv X aA σ H s)(e:Rd H a (.dK kvs))(h:∀ p s',H p=none->Inv X aA σ (upd H p (.dK kvs)) s'->Q (.ref p) s'):wpAny (model X.prog X.w) A (call (.type "dict") [.ref a]) Q E s:=by
 obtain ⟨z,hd,vs,rel,dd⟩:=jM I.hok e;refine kt_call_dict hd dd (by rw[<- rel.length];exact z) λh' dd' hs=>?_
 refine h _ _ (I.hok.fresh (aNY _)) (I.laid (a:=s.heap.objs.size) (o:=.dK kvs) (t':=s.toks) (λb q hq=>?_) (aNY _) (t7 z (aM6.mpr (Ne.symm (aND I.big))) rel dd'));exact (hs.2 b (aND (aNA hq))).trans (hps hq)
end
section
variable {X:Cx}{aA:LAO}{σ:St}{H:Hp}{s:Shared}{a:Addr}{y:V}{u:Value}{A:Around}{E:VSP}
end
end L2
namespace Att
open PySem PySem.W PySem.Calls PyProof.Rows
theorem aDA{P:Params}{h:Heap}:∀ (ns:List Int) (vs:List Value),WellAll P h vs (ns.map WData.int)->IntsAre vs ns:=by
 intro ns
 induction ns with
 | nil=>intro vs w;rw[List.map_nil] at w;cases w;exact .nil
 | cons n ns ih =>
  intro vs w;rw[aO9] at w;cases w with
  | cons a b=>cases a;exact .cons _ _ (ih _ b)
theorem aDB{l:OpenLaw}{n:Nat}(hn:l.most=some n){P:Params}{h:Heap}{args:List WData}{vals:List Value}(hpre:l.row.toRowW.claim.pre args=true)(hwl:WellAll P h vals args):∃ a vs ns,vals=[Value.ref a]/\args=[WData.list (ns.map WData.int)]/\h.get? a=some { cls:=.type "list", data:=.seq vs.toArray }/\IntsAre vs ns/\ns.length<=n:=by
 have hsh:WShape.hasAll [] args [.list .int]=true:=(pre_splitW hpre).1;have hc:l.pre.holds [] { args:=args }=true:=(pre_splitW hpre).2;obtain ⟨d,r,rfl,h1,h2⟩:=hasAllW_cons hsh;obtain rfl:=hasAllW_nil h2;obtain ⟨xs,rfl,h3⟩:=hasW_list h1;obtain ⟨ns,rfl⟩:=items_int h3;have hlen:ns.length<=n:=by
  unfold OpenLaw.pre at hc;have h4:(WTm.not (.lt (.lit (.int (n:Int))) (.len (.arg 0)))).holds [] { args:=[.list (ns.map .int)] }=true:=by have h4:=(holds_andW hc).1;rw[hn] at h4;exact h4
  have h5:=condW_of h4 (w_not (w_lt w_lit (w_len_list (w_arg rfl))));rw[aOI] at h5;refine Nat.le_of_not_lt λq=>?_;have q':(n:Int)<((ns.length:Nat):Int):=by omega
  first
   | (rw[aO7 q'] at h5;exact absurd h5 (by decide))
   | (simp at h5;omega)
 cases hwl with
 | cons w1 w2 =>
  cases w2;cases w1 with
  | list ho hall=>exact ⟨_,_,ns,rfl,rfl,ho,aDA ns _ hall,hlen⟩
theorem aDC(l:OpenLaw)(args:List WData):l.row.toRowW.claim.post args (.bool true) args=true :=
 postW_of (r:=l.row.toRowW) (X:=(true==true))
  (show WShape.has [] (.bool true) .bool=true by first | rfl | decide | simp[WShape.has,WShape.arms,WShape.armsAll])
  (show (WTm.eq .res (.lit (.bool true))).value [] { args:=args,res:=some (.bool true),after:=args }=some (.bool (true==true)) from w_eq_bool (w_res rfl) w_lit) rfl
theorem aDD{l:OpenLaw}{n:Nat}{q:Program}{loose:List Str}{XP:(Str->Option Value)->Heap->Prop}{YP:World->Heap->Prop}{d:DefRec}(hn:l.most=some n)(hdf:d.params.defaults=[])(call:∀ (w:World) (s₀ s₁:Shared) (mg mb:SOV) (fa:Addr) (o:Obj) (pm cd doc:Value) (a:Addr) (vs:List Value) (ns:List Int),Ground q loose [] XP w s₀ mg mb s₁.heap->YP w s₁.heap->s₁.heap.get? fa=some o->o.data=.func (docDef d.name d.params d.body d.scope pm cd doc)->s₁.heap.CodeRec cd d.name->mg d.name=some (.ref fa)->s₁.heap.get? a=some { cls:=.type "list", data:=.seq vs.toArray } -> IntsAre vs ns->ns.length<=n->s₁.gens = #[]->codeAny (model l.prog w) callerA (.call (.ref fa) ⟨[.ref a],[]⟩) (λr s'=>r=.ok (.ret (.bool true))/\OldK s₁.heap s'.heap/\s'.os=s₁.os/\AllBare s'.gens) s₁):WalkO q loose XP YP l.row.toRowW d [] (λf vs=>PySem.call f vs):=by intro w s₀ s₁ mg mb G Y fa o pm cd doc dV kV ho hd hcd hD hmg hg args vals as hpre hlay hrd hwl hlo;obtain rfl:dV=.none:=Dflts.none hD hdf;obtain rfl:kV=.none:=Dflts.noKw hD;obtain ⟨a,vs,ns,rfl,rfl,hobj,hints,hlen⟩:=aDB hn hpre hwl;refine enter_call (codeAny_mono (call w s₀ s₁ mg mb fa o pm cd doc a vs ns G Y ho (fd_plain hd) hcd hmg hobj hints hlen hg) λr s' hq=>?_);obtain ⟨rfl,h2,h3,h4⟩:=hq;exact ⟨.inl ⟨.bool true,.bool true,[],rfl,λ_=>rfl,.bool true,aDC l _,λ_=>⟨List.Pairwise.nil,λ_ hm=>(nomatch hm)⟩⟩,h2,h3,h4⟩
section
variable {prog:Program}{w:World}{A:Around}{E:VSP}{s:Shared}{K:Frag}
def ledger(h:Heap)(L d:Addr):LAO:=(List.range h.objs.size).filterMap λa=>if a=L\/a=d then none else (h.get? a).map λo=>(a,o)
end
end Att
namespace L2
open PySem PySem.Spec PyProof.Rows
theorem t9:∀ {vs:List Value} {ns:List Int},IntsAre vs ns->aN (ns.map V.int) vs
 | _,_,.nil=>.nil
 | _,_,.cons n t h=>.cons ⟨t,rfl⟩ (t9 h)
def pK(H:Hp):Prop:=∀ b,H b=none\/∃ o xs,H b=some (.frz o (.lst xs))
theorem aDE{P:Program}{w:World}{K:Fg}{mg mb:SOV}{CX:CXT}{k:Nat}{fa a:Addr}{fd:FuncData}{x:Str}{sp:Sp}{s₁:Shared}{vs:List Value}{ns:List Int}(KX:K.In s₁.heap)(hns:s₁.heap.Ns mainGlobals mg)(hb:s₁.heap.Ns builtinsNs mb)(hbb:∀ x:Str,x ≠ "__name__" -> mb x=bootBuiltins x)(hlim:s₁.heap.NoLimit)(hg:s₁.gens = #[])(ha:s₁.heap.get? a=some { cls:=.type "list", data:=.seq vs.toArray })(hi:IntsAre vs ns)(hl:ns.length<=sizeLine)(hr:cN k callerA)(F:∀ base:Heap,K.In base->base.Ns mainGlobals mg->c9 P w K mg base CX k fa fd [x] sp)(hbind:∀ (s:Shared) (u:Value),BindsTo s fd ⟨[u],[]⟩ [(x,u)])(hsp:∀ H:Hp,pK H->SqL K H a (ns.map V.int)->sp [.ref a] H (λv _=>v=.bl true) λ_ _ _=>False)(hCX:∀ H e s',CX [] H s₁ (λ_ _ _=>False) e s'->False):codeAny (model P w) callerA (.call (.ref fa) ⟨[.ref a],[]⟩) (λr s'=>r=.ok (.ret (.bool true))/\OldK s₁.heap s'.heap/\s'.os=s₁.os/\AllBare s'.gens) s₁:=by
 have rv := t9 hi; have lenV := hi.length; have core : ∀ H : Hp, pK H → SqL K H a (ns.map V.int) → HOk P w H s₁.heap → (∀ b, H b ≠ none → b = a) → (H a ≠ none → K.lookup a = none) →
     codeAny (model P w) callerA (.call (.ref fa) ⟨[.ref a],[]⟩) (λr s'=>r=.ok (.ret (.bool true))/\OldK s₁.heap s'.heap/\s'.os=s₁.os/\AllBare s'.gens) s₁:=by
  intro H hO hS hok hA hK;have base_of:∀ {b:Addr} {o:Obj},s₁.heap.get? b=some o->H b=none->(f7 s₁.heap H).get? b=some o:=λe n=>aAR e n;have noA:∀ {b:Addr} {o:Obj} {es:Array DictEntry} {ep:Nat},s₁.heap.get? b=some o->o.data=.dict es ep->H b=none:=λ{b o es ep} e d=>by
   cases q:H b with
   | none=>rfl
   | some u =>
    have e':b=a:=hA b (by rw[q];simp)
    subst e';rw[ha] at e;cases e;have d':Data.seq vs.toArray _=Data.dict es ep:=d;cases d'
  have nsK:∀ {b:Addr} {m:SOV},s₁.heap.Ns b m->(f7 s₁.heap H).Ns b m:=λ{b m} ⟨o,es,ep,e,d,r⟩=>⟨o,es,ep,base_of e (noA e d),d,r⟩;have hKb:K.In (f7 s₁.heap H):=λb o e=>base_of (KX b o e) (by
   cases q:H b with
   | none=>rfl
   | some u =>
    have e':b=a:=hA b (by rw[q];simp)
    subst e'
    rw[hK (by rw[q];simp)] at e;cases e)
  have hM:Mod K mg (f7 s₁.heap H):=⟨hKb,nsK hns,⟨mb,nsK hb,hbb⟩,let ⟨mc,h1,h2⟩:=hlim;⟨mc,nsK h1,h2⟩⟩
  have e0:mW P w K mg (f7 s₁.heap H) callerA [] s₁ H:=⟨rfl,hM,λb o e=>aAS e,Nat.le_of_eq (aAQ _ _),trivial,λb hb=>absurd (show b∈([]:List Addr) from hb) (by simp),hok,.of_eq hg⟩
  refine codeAny_mono ((F _ hKb (nsK hns)).run callerA [] s₁ H ⟨[.ref a],[]⟩ [.ref a] [.ref a] _ _ hr e0 (hbind s₁ (.ref a)) (.cons rfl .nil) (hsp H hO hS)) λr s' h=>?_;cases r with
  | error e=>exact (hCX H e s' h).elim
  | ok fl =>
   cases fl with
   | next=>exact False.elim h
   | brk=>exact False.elim h
   | cont=>exact False.elim h
   | ret u =>
    obtain ⟨v,H',os,bare,un,hok',r',q⟩:=h;have q':v=.bl true:=q;subst q';obtain rfl:u=Value.bool true:=r';refine ⟨rfl,OldK.of_keep λb o e=>?_,os,bare⟩;cases q:H b with
    | none=>exact un.keep b o e q (by intro z;exact absurd (show b∈([]:List Addr) from z) (by simp)) (by simp)
    | some u =>
     rcases hO b with z | ⟨ob,xs,z⟩
     . rw[q] at z;cases z
     . have z2:=un.frzs b ob _ z;obtain ⟨e1,_⟩:=hok b _ z;obtain ⟨e2,_⟩:=hok' b _ z2;rw[e] at e1;cases e1;exact e2
 cases hk:K.lookup a with
 | some o=>have e:=KX a o hk;rw[ha] at e;cases e;refine core (λ_=>none) (λ_=>.inl rfl) (.inr ⟨_,vs.toArray,_,hk,rfl,rfl,rfl,by rw[aN5,lenV];exact hl,by simpa using rv⟩) (λb u z=>by have z':(none:Option HO)=some u:=z;cases z') (λb z=>absurd rfl z) λz=>absurd rfl z
 | none =>
  refine core (λb=>if b=a then some (.frz { cls:=.type "list", data:=.seq vs.toArray } (.lst (ns.map V.int))) else none) (λb=>?_) (.inl (.inr ⟨{ cls:=.type "list", data:=.seq vs.toArray },if_pos rfl⟩)) (λb u z=>?_) (λb z=>?_) λ_=>hk
  . by_cases hb:b=a
    . exact .inr ⟨_,_,if_pos hb⟩
    . exact .inl (if_neg hb)
  . by_cases hb:b=a
    . have z':=(if_pos hb).symm.trans z;cases z';subst hb;exact ⟨ha,by rw[aOI];exact hl,vs,_,rv,ha⟩
    . have z':=(if_neg hb).symm.trans z;cases z'
  . by_cases hb:b=a
    . exact hb
    . exact absurd (if_neg hb) z
abbrev KOf{K:Fg}{h:Heap}(_:K.In h):Fg:=K
theorem aDF{l:PySem.W.OpenLaw}{n k:Nat}{q:Program}{loose:List Str}{XP:(Str->Option Value)->Heap->Prop}{YP:World->Heap->Prop}{d:DefRec}{K:Params->Fg}{CX:World->CXT}{sp:World->Sp}{x:Str}(hn:l.most=some n)(hn2:n<=sizeLine)(hdf:d.params.defaults=[])(hr:cN k callerA)(hY:∀ (w:World) (h:Heap),YP w h->(K w.params).In h)(F:∀ (w:World) (mg:SOV) (fa:Addr) (h:Heap),(K w.params).In h->h.Ns mainGlobals mg->mg d.name=some (.ref fa)->∃ fd:FuncData,(∀ (s:Shared) (u:Value),BindsTo s fd ⟨[u],[]⟩ [(x,u)])/\∀ base:Heap,(K w.params).In base->base.Ns mainGlobals mg->c9 l.prog w (K w.params) mg base (CX w) k fa fd [x] (sp w))(hsp:∀ (w:World) (H:Hp) (a:Addr) (ns:List Int),ns.length<=n->pK H->SqL (K w.params) H a (ns.map V.int)->sp w [.ref a] H (λv _=>v=.bl true) λ_ _ _=>False)(hCX:∀ (w:World) (H:Hp) (s:Shared) (e:Value) (s':Shared),CX w [] H s (λ_ _ _=>False) e s'->False):PySem.W.WalkO q loose XP YP l.row.toRowW d [] (λf vs=>PySem.call f vs):=by refine Att.aDD hn hdf λw s₀ s₁ mg mb fa o pm cd doc a vs ns G Y ho hd hcd hmg hobj hints hlen hg=>?_;have KX:=hY w _ Y;obtain ⟨fd,hb,hF⟩:=F w mg fa _ KX G.T.g hmg;exact aDE KX G.T.g G.T.b G.T.builtins G.T.nolimit hg hobj hints (aNI hlen hn2) hr hF hb (λH hO hS=>hsp w H a ns hlen hO hS) λH e s'=>hCX w H s₁ e s'
def m9(s:Stmt):Arguments:=match s with
 | .FunctionDef _ a _ _ _ _ _ _ _ _=>a
 | _=>{ posonlyargs:=[],args:=[],vararg:=none,kwonlyargs:=[],kw_defaults:=[],kwarg:=none,defaults:=[] }
def jN(s:Stmt):List Stmt:=match s with
 | .FunctionDef _ _ b _ _ _ _ _ _ _=>b
 | _=>[]
def eY(s:Stmt):Scope:=match s with
 | .FunctionDef _ _ _ _ _ _ sc _ _ _=>sc
 | _=>{ kind:=.function,names:=[],isGenerator:=false,isCoroutine:=false }
abbrev E0:XK:=λ_ _ _=>False
structure Fun(K:Fg)(x aP:Str)(st:Stmt)(f:Addr)(fd:FuncData):Prop where
 ex:∃ (oc:Value) (od:Option Addr) (kV doc pm:Value) (an:Option Addr) (cdv ct:Value) (osl:Array (Option Value)),
  fd=PySem.W.fnOf x aP (m9 st) (jN st) (eY st) .none kV doc pm an cdv ct/\K.lookup f=some ⟨oc,od,.func fd,osl⟩/\PySem.W.codeIn K cdv aP=true
 kp:PySem.W.keepIn K (.ref f)=true
section
variable {P:Program}{w:World}{K:Fg}{mg:SOV}{base:Heap}
theorem aDG{x aP:Str}{st:Stmt}{f:Addr}{oc:Value}{od an:Option Addr}{osl:Array (Option Value)}{kV doc pm cdv ct:Value}(l:K.lookup f=some ⟨oc,od,.func (PySem.W.fnOf x aP (m9 st) (jN st) (eY st) .none kV doc pm an cdv ct),osl⟩)(c:PySem.W.codeIn K cdv aP=true)(k:PySem.W.keepIn K (.ref f)=true):Fun K x aP st f (PySem.W.fnOf x aP (m9 st) (jN st) (eY st) .none kV doc pm an cdv ct):=⟨⟨oc,od,kV,doc,pm,an,cdv,ct,osl,rfl,l,c⟩,k⟩
end
section
variable {X:Cx}
end
def aG(H H':Hp):Prop:=∀ b o,H b=some o->H' b=some o
theorem aG.refl(H:Hp):aG H H:=λ_ _ h=>h
theorem aG.trans{H H1 H2:Hp}(a:aG H H1)(b:aG H1 H2):aG H H2:=λc o h=>b c o (a c o h)
theorem aG.free{H H':Hp}(e:aG H H'){l:Addr}(h:H' l=Option.none):H l=Option.none:=by
 cases q:H l with
 | none=>rfl
 | some o=>rw[e l o q] at h;cases h
theorem aG.seq{K:Fg}{H H':Hp}{a:Addr}{xs:List V}(e:aG H H')(h:SqL K H a xs):SqL K H' a xs:=by
 rcases h with (h | ⟨o,h⟩) | h
 . exact .inl (.inl (e _ _ h))
 . exact .inl (.inr ⟨o,e _ _ h⟩)
 . exact .inr h
section
variable {κ:Type}[DecidableEq κ]
end
end L2
namespace D3
open PySem PySem.Spec PyProof.Rows L2
inductive D where
 | non | bl (b:Bool) | int (i:Int) | str (x:Str) | tup (xs:List D) | lst (xs:List D) | dct (kvs:List (Key×D)) | ty (n:String) | ob (a:Addr) | ins (c:Str) (fs:List (Str×D)) | fn (x:Str) | exn (c:Str) | set (ks:List Key)
inductive Md where | fz | fr | bo
 deriving DecidableEq
inductive Res where
 | ok (m:Md) (d:D) | exc (c:Str) | stuck
def fM(a C:Addr):HO:=.ext λh=>∃ o,h.get? a=some o/\o.cls=.ref C
def uA(S:Key->Bool)(ks:List Key):Prop:=ks.Nodup/\∀ k,S k=true↔k∈ks
mutual
def aD(K:Fg)(F:Hp):D->V->Prop
 | .non,v=>v=.non
 | .bl b,v=>v=.bl b
 | .int i,v=>v=.int i
 | .str x,v=>v=.str x/\x.length<=sizeLine/\PyData.strOk x=true
 | .tup ds,v=>∃ a xs,v=.ref a/\SqT K F a xs/\aE K F ds xs
 | .lst ds,v=>∃ a xs,v=.ref a/\SqL K F a xs/\aE K F ds xs
 | .dct kvs,v=>∃ a xs,v=.ref a/\F a=some (.dK xs)/\aM K F kvs xs
 | .ty n,v=>v=.ty n
 | .ob a,v=>v=.ref a
 | .ins c fs,v=>∃ a C dx gs,v=.ref a/\PySem.W.nsIn K mainGlobals c=some (some (.ref C))/\F a=some (.ins C dx gs)/\eZ K F fs gs
 | .fn x,v=>∃ a,v=.ref a/\PySem.W.nsIn K mainGlobals x=some (some (.ref a))
 | .exn c,v=>∃ a C,v=.ref a/\PySem.W.nsIn K mainGlobals c=some (some (.ref C))/\F a=some (fM a C)
 | .set ks,v=>∃ a S,v=.ref a/\F a=some (.set S ks.length)/\uA S ks
def aE(K:Fg)(F:Hp):List D->List V->Prop
 | [],xs=>xs=[]
 | d::ds,xs=>∃ y ys,xs=y::ys/\aD K F d y/\aE K F ds ys
def aM(K:Fg)(F:Hp):List (Key×D)->List (Key×V)->Prop
 | [],xs=>xs=[]
 | (k,d)::ds,xs=>∃ y ys,xs=(k,y)::ys/\aD K F d y/\aM K F ds ys
def eZ(K:Fg)(F:Hp):List (Str×D)->List (Str×V)->Prop
 | [],xs=>xs=[]
 | (k,d)::ds,xs=>∃ y ys,xs=(k,y)::ys/\aD K F d y/\eZ K F ds ys
end
theorem aG.seqT{K:Fg}{H H':Hp}{a:Addr}{xs:List V}(e:aG H H')(h:SqT K H a xs):SqT K H' a xs:=by
 rcases h with (h | ⟨o,h⟩) | h
 . exact .inl (.inl (e _ _ h))
 . exact .inl (.inr ⟨o,e _ _ h⟩)
 . exact .inr h
section
variable {K:Fg}{F F':Hp}
mutual
theorem aD.mono(s:aG F F'):∀ (d:D) (v:V),aD K F d v->aD K F' d v
 | .non,_,h=>by simpa only [aD] using h
 | .bl _,_,h=>by simpa only [aD] using h
 | .int _,_,h=>by simpa only [aD] using h
 | .str _,_,h=>by simpa only [aD] using h
 | .tup ds,v,h=>by simp only[aD] at h ⊢;obtain ⟨a,xs,e,q,r⟩:=h;exact ⟨a,xs,e,aG.seqT s q,aE.mono s ds xs r⟩
 | .lst ds,v,h=>by simp only[aD] at h ⊢;obtain ⟨a,xs,e,q,r⟩:=h;exact ⟨a,xs,e,s.seq q,aE.mono s ds xs r⟩
 | .dct ds,v,h=>by simp only[aD] at h ⊢;obtain ⟨a,xs,e,q,r⟩:=h;exact ⟨a,xs,e,s _ _ q,aM.mono s ds xs r⟩
 | .ty _,_,h=>by simpa only [aD] using h
 | .ob _,_,h=>by simpa only [aD] using h
 | .fn _,_,h=>by simpa only [aD] using h
 | .exn _,_,h=>by simp only[aD] at h ⊢;obtain ⟨a,C,e,n,q⟩:=h;exact ⟨a,C,e,n,s _ _ q⟩
 | .set _,_,h=>by simp only[aD] at h ⊢;obtain ⟨a,S,e,q,r⟩:=h;exact ⟨a,S,e,s _ _ q,r⟩
 | .ins c fs,v,h=>by simp only[aD] at h ⊢;obtain ⟨a,C,dx,gs,e,n,q,r⟩:=h;exact ⟨a,C,dx,gs,e,n,s _ _ q,eZ.mono s fs gs r⟩
theorem aE.mono(s:aG F F'):∀ (ds:List D) (xs:List V),aE K F ds xs->aE K F' ds xs
 | [],_,h=>by simpa only [aE] using h
 | d::ds,xs,h=>by simp only[aE] at h ⊢;obtain ⟨y,ys,e,q,r⟩:=h;exact ⟨y,ys,e,aD.mono s d y q,aE.mono s ds ys r⟩
theorem aM.mono(s:aG F F'):∀ (ds:List (Key×D)) (xs:List (Key×V)),aM K F ds xs->aM K F' ds xs
 | [],_,h=>by simpa only [aM] using h
 | (k,d)::ds,xs,h=>by simp only[aM] at h ⊢;obtain ⟨y,ys,e,q,r⟩:=h;exact ⟨y,ys,e,aD.mono s d y q,aM.mono s ds ys r⟩
theorem eZ.mono(s:aG F F'):∀ (ds:List (Str×D)) (xs:List (Str×V)),eZ K F ds xs->eZ K F' ds xs
 | [],_,h=>by simpa only [eZ] using h
 | (k,d)::ds,xs,h=>by simp only[eZ] at h ⊢;obtain ⟨y,ys,e,q,r⟩:=h;exact ⟨y,ys,e,aD.mono s d y q,eZ.mono s ds ys r⟩
end
theorem aE.length:∀ {ds:List D} {xs:List V},aE K F ds xs->xs.length=ds.length
 | [],_,h=>by simp only[aE] at h;subst h;rfl
 | d::ds,_,h=>by simp only[aE] at h;obtain ⟨y,ys,rfl,_,r⟩:=h;rw[aO8,aO8,aE.length r]
theorem aE.get:∀ {ds:List D} {xs:List V} {i:Nat} {x:V},aE K F ds xs->xs[i]? = some x->∃ d,ds[i]? = some d/\aD K F d x
 | [],_,_,_,h,e=>by simp only[aE] at h;subst h;simp at e
 | d::ds,_,0,_,h,e=>by simp only[aE] at h;obtain ⟨y,ys,rfl,r,_⟩:=h;simp at e;subst e;exact ⟨d,rfl,r⟩
 | d::ds,_,i+1,_,h,e=>by
  simp only[aE] at h;obtain ⟨y,ys,rfl,_,r⟩:=h;obtain ⟨d',e',r'⟩:=aE.get (i:=i) r (by simpa using e)
  exact ⟨d',by simpa using e',r'⟩
theorem aE.get':∀ {ds:List D} {xs:List V} {i:Nat} {d:D},aE K F ds xs->ds[i]? = some d->∃ x,xs[i]? = some x/\aD K F d x
 | [],_,_,_,h,e=>by simp at e
 | d::ds,_,0,_,h,e=>by simp only[aE] at h;obtain ⟨y,ys,rfl,r,_⟩:=h;simp at e;subst e;exact ⟨y,rfl,r⟩
 | d::ds,_,i+1,_,h,e=>by
  simp only[aE] at h;obtain ⟨y,ys,rfl,_,r⟩:=h;obtain ⟨d',e',r'⟩:=aE.get' (i:=i) r (by simpa using e)
  exact ⟨d',by simpa using e',r'⟩
theorem aE.append:∀ {ds es:List D} {xs ys:List V},aE K F ds xs->aE K F es ys->aE K F (ds++es) (xs++ys)
 | [],_,_,_,h,r=>by simp only[aE] at h;subst h;exact r
 | d::ds,_,_,_,h,r=>by simp only[aE] at h;obtain ⟨y,ys,rfl,q,t⟩:=h;show aE K F (d::(ds++_)) (y::(ys++_));simp only[aE];exact ⟨y,_,rfl,q,aE.append t r⟩
theorem aE.nil:aE K F [] []:=by simp only[aE]
theorem aE.cons{d:D}{ds:List D}{x:V}{xs:List V}(h:aD K F d x)(r:aE K F ds xs):aE K F (d::ds) (x::xs):=by simp only[aE];exact ⟨x,xs,rfl,h,r⟩
end
def Top(K:Fg)(F H:Hp)(a:Addr):D->Prop
 | .lst ds=>∃ xs,H a=some (.lst xs)/\aE K F ds xs
 | .dct ds=>∃ xs,H a=some (.dK xs)/\aM K F ds xs
 | .ins c fs=>∃ C dx gs,PySem.W.nsIn K mainGlobals c=some (some (.ref C))/\H a=some (.ins C dx gs)/\eZ K F fs gs
 | .set ks=>∃ S,H a=some (.set S ks.length)/\uA S ks
 | _=>False
def Rp(K:Fg)(F H:Hp)(m:Md)(d:D)(v:V):Prop :=
 match m with
 | .fz=>aD K F d v
 | _=>∃ a,v=.ref a/\F a=none/\Top K F H a d
structure aK(F H F' H':Hp):Prop where
 same:aG H H'
 fsame:aG F F'
 sub:aG F' H'
 new:∀ a,F a=none->H a≠none->F' a=none
theorem aK.refl{F H:Hp}(h:aG F H):aK F H F H:=⟨aG.refl _,aG.refl _,h,λ_ h _=>h⟩
theorem aK.trans{F H F1 H1 F2 H2:Hp}(a:aK F H F1 H1)(b:aK F1 H1 F2 H2):aK F H F2 H2 :=
 ⟨a.same.trans b.same,a.fsame.trans b.fsame,b.sub,λx h1 h2=>b.new x (a.new x h1 h2) (by
  cases e:H x with
  | none=>exact absurd e h2
  | some o=>rw[a.same x o e];exact λz=>nomatch z)⟩
theorem aK.laid{F H:Hp}{p:Addr}(o:HO)(h:aG F H)(hp:H p=none):aK F H (upd F p o) (upd H p o):=by
 have hf:F p=none:=h.free hp;refine ⟨λb u e=>?_,λb u e=>?_,λb u e=>?_,λa h1 h2=>?_⟩
 . rw[aO (cV e hp)];exact e
 . rw[aO (cV e hf)];exact e
 . by_cases hb:b=p
   . subst hb;rw[bQ] at e ⊢;exact e
   . rw[aO hb] at e ⊢;exact h b u e
 . have:a≠p:=by rintro rfl;exact h2 hp
   rw[aO this];exact h1
theorem aK.fresh{F H:Hp}{p:Addr}(o:HO)(h:aG F H)(hp:H p=none):aK F H F (upd H p o):=by
 refine ⟨λb u e=>?_,aG.refl _,λb u e=>?_,λa h1 _=>h1⟩
 . rw[aO (cV e hp)];exact e
 . rw[aO (cV (h b u e) hp)];exact h b u e
theorem Top.step{K:Fg}{F H F' H':Hp}{a:Addr}{d:D}(st:aK F H F' H')(h:Top K F H a d):Top K F' H' a d:=by
 cases d with
 | lst ds=>obtain ⟨xs,e,r⟩:=h;exact ⟨xs,st.same _ _ e,r.mono st.fsame _ _⟩
 | dct ds=>obtain ⟨xs,e,r⟩:=h;exact ⟨xs,st.same _ _ e,r.mono st.fsame _ _⟩
 | ins c fs=>obtain ⟨C,dx,gs,n,e,r⟩:=h;exact ⟨C,dx,gs,n,st.same _ _ e,r.mono st.fsame _ _⟩
 | set ks=>obtain ⟨S,e,r⟩:=h;exact ⟨S,st.same _ _ e,r⟩
 | _=>exact h.elim
theorem Top.there{K:Fg}{F H:Hp}{a:Addr}{d:D}(h:Top K F H a d):H a≠none:=by
 cases d with
 | lst ds=>obtain ⟨xs,e,r⟩:=h;rw[e];exact λz=>nomatch z
 | dct ds=>obtain ⟨xs,e,r⟩:=h;rw[e];exact λz=>nomatch z
 | ins c fs=>obtain ⟨C,dx,gs,n,e,r⟩:=h;rw[e];exact λz=>nomatch z
 | set ks=>obtain ⟨S,e,r⟩:=h;rw[e];exact λz=>nomatch z
 | _=>exact h.elim
theorem Rp.step{K:Fg}{F H F' H':Hp}{m:Md}{d:D}{v:V}(st:aK F H F' H')(h:Rp K F H m d v):Rp K F' H' m d v:=by
 cases m with
 | fz=>exact aD.mono st.fsame d v h
 | fr=>obtain ⟨a,e,n,t⟩:=h;exact ⟨a,e,st.new a n t.there,t.step st⟩
 | bo=>obtain ⟨a,e,n,t⟩:=h;exact ⟨a,e,st.new a n t.there,t.step st⟩
theorem Rp.seqL{K:Fg}{F H:Hp}{m:Md}{ds:List D}{v:V}(s:aG F H)(h:Rp K F H m (.lst ds) v):∃ a xs,v=.ref a/\SqL K H a xs/\aE K F ds xs:=by
 cases m with
 | fz=>have h:aD K F (.lst ds) v:=h;simp only[aD] at h;obtain ⟨a,xs,e,q,r⟩:=h;exact ⟨a,xs,e,s.seq q,r⟩
 | fr=>obtain ⟨a,e,n,xs,q,r⟩:=h;exact ⟨a,xs,e,SqL.of q,r⟩
 | bo=>obtain ⟨a,e,n,xs,q,r⟩:=h;exact ⟨a,xs,e,SqL.of q,r⟩
theorem Rp.seqT{K:Fg}{F H:Hp}{m:Md}{ds:List D}{v:V}(s:aG F H)(h:Rp K F H m (.tup ds) v):∃ a xs,v=.ref a/\SqT K H a xs/\aE K F ds xs:=by
 cases m with
 | fz=>have h:aD K F (.tup ds) v:=h;simp only[aD] at h;obtain ⟨a,xs,e,q,r⟩:=h;exact ⟨a,xs,e,aG.seqT s q,r⟩
 | fr=>obtain ⟨a,e,n,q⟩:=h;exact q.elim
 | bo=>obtain ⟨a,e,n,q⟩:=h;exact q.elim
theorem Rp.dict{K:Fg}{F H:Hp}{m:Md}{ds:List (Key×D)}{v:V}(s:aG F H)(h:Rp K F H m (.dct ds) v):∃ a xs,v=.ref a/\H a=some (.dK xs)/\aM K F ds xs:=by
 cases m with
 | fz=>have h:aD K F (.dct ds) v:=h;simp only[aD] at h;obtain ⟨a,xs,e,q,r⟩:=h;exact ⟨a,xs,e,s _ _ q,r⟩
 | fr=>obtain ⟨a,e,n,xs,q,r⟩:=h;exact ⟨a,xs,e,q,r⟩
 | bo=>obtain ⟨a,e,n,xs,q,r⟩:=h;exact ⟨a,xs,e,q,r⟩
theorem Rp.ins{K:Fg}{F H:Hp}{m:Md}{c:Str}{fs:List (Str×D)}{v:V}(s:aG F H)(h:Rp K F H m (.ins c fs) v):∃ a C dx gs,v=.ref a/\PySem.W.nsIn K mainGlobals c=some (some (.ref C))/\H a=some (.ins C dx gs)/\eZ K F fs gs:=by
 cases m with
 | fz=>have h:aD K F (.ins c fs) v:=h;simp only[aD] at h;obtain ⟨a,C,dx,gs,e,n,q,r⟩:=h;exact ⟨a,C,dx,gs,e,n,s _ _ q,r⟩
 | fr=>obtain ⟨a,e,n,C,dx,gs,z,q,r⟩:=h;exact ⟨a,C,dx,gs,e,z,q,r⟩
 | bo=>obtain ⟨a,e,n,C,dx,gs,z,q,r⟩:=h;exact ⟨a,C,dx,gs,e,z,q,r⟩
theorem Rp.int{K:Fg}{F H:Hp}{m:Md}{i:Int}{v:V}(h:Rp K F H m (.int i) v):v=.int i:=by
 cases m with
 | fz=>have h:aD K F (.int i) v:=h;simpa only [aD] using h
 | fr=>obtain ⟨a,e,n,q⟩:=h;exact q.elim
 | bo=>obtain ⟨a,e,n,q⟩:=h;exact q.elim
theorem Rp.bl{K:Fg}{F H:Hp}{m:Md}{i:Bool}{v:V}(h:Rp K F H m (.bl i) v):v=.bl i:=by
 cases m with
 | fz=>have h:aD K F (.bl i) v:=h;simpa only [aD] using h
 | fr=>obtain ⟨a,e,n,q⟩:=h;exact q.elim
 | bo=>obtain ⟨a,e,n,q⟩:=h;exact q.elim
theorem Rp.non{K:Fg}{F H:Hp}{m:Md}{v:V}(h:Rp K F H m .non v):v=.non:=by
 cases m with
 | fz=>have h:aD K F .non v:=h;simpa only [aD] using h
 | fr=>obtain ⟨a,e,n,q⟩:=h;exact q.elim
 | bo=>obtain ⟨a,e,n,q⟩:=h;exact q.elim
theorem Rp.str{K:Fg}{F H:Hp}{m:Md}{x:Str}{v:V}(h:Rp K F H m (.str x) v):v=.str x/\x.length<=sizeLine/\PyData.strOk x=true:=by
 cases m with
 | fz=>have h:aD K F (.str x) v:=h;simpa only [aD] using h
 | fr=>obtain ⟨a,e,n,q⟩:=h;exact q.elim
 | bo=>obtain ⟨a,e,n,q⟩:=h;exact q.elim
theorem Rp.ty{K:Fg}{F H:Hp}{m:Md}{n:String}{v:V}(h:Rp K F H m (.ty n) v):v=.ty n:=by
 cases m with
 | fz=>have h:aD K F (.ty n) v:=h;simpa only [aD] using h
 | fr=>obtain ⟨a,e,n,q⟩:=h;exact q.elim
 | bo=>obtain ⟨a,e,n,q⟩:=h;exact q.elim
theorem Rp.ob{K:Fg}{F H:Hp}{m:Md}{n:Addr}{v:V}(h:Rp K F H m (.ob n) v):v=.ref n:=by
 cases m with
 | fz=>have h:aD K F (.ob n) v:=h;simpa only [aD] using h
 | fr=>obtain ⟨a,e,n,q⟩:=h;exact q.elim
 | bo=>obtain ⟨a,e,n,q⟩:=h;exact q.elim
theorem rp_ty{K:Fg}{F H:Hp}(i:String):Rp K F H .fz (.ty i) (.ty i):=by show aD K F _ _;simp only[aD]
theorem cO{K:Fg}{F H:Hp}(i:Int):Rp K F H .fz (.int i) (.int i):=by show aD K F _ _;simp only[aD]
theorem cG{K:Fg}{F H:Hp}(i:Bool):Rp K F H .fz (.bl i) (.bl i):=by show aD K F _ _;simp only[aD]
theorem uB{K:Fg}{F H:Hp}:Rp K F H .fz .non .non:=by show aD K F _ _;simp only[aD]
theorem e9{K:Fg}{F H:Hp}{x:Str}(h:x.length<=sizeLine/\PyData.strOk x=true):Rp K F H .fz (.str x) (.str x):=by show aD K F _ _;simp only[aD,true_and];exact h
abbrev Rho:=List (Option (Bool×D))
structure aS(K:Fg)(F0 H0 F H:Hp)(σ:L2.St)(ρ:Rho):Prop where
 st:aK F0 H0 F H
 slot:∀ (i:Nat) (m:Bool) (d:D),ρ[i]? = some (some (m,d))->∃ v,σ[i]? = some (some v)/\Rp K F H (if m then .bo else .fz) d v/\(m=true->∀ a,v=.ref a->H0 a=none)
 apart:∀ (i j:Nat) (d d':D) (a:Addr),i≠j->ρ[i]? = some (some (true,d))->ρ[j]? = some (some (true,d'))->σ[i]? = some (some (.ref a))->σ[j]? = some (some (.ref a))->False
 len:σ.length=ρ.length
theorem aS.step{K:Fg}{F0 H0 F H F' H':Hp}{σ:L2.St}{ρ:Rho}(r:aS K F0 H0 F H σ ρ)(st:aK F H F' H'):aS K F0 H0 F' H' σ ρ :=
 ⟨r.st.trans st,λi m d e=>by obtain ⟨v,e1,e2,e3⟩:=r.slot i m d e;exact ⟨v,e1,e2.step st,e3⟩,r.apart,r.len⟩
theorem aS.sub{K:Fg}{F0 H0 F H:Hp}{σ:L2.St}{ρ:Rho}(r:aS K F0 H0 F H σ ρ):aG F H:=r.st.sub
abbrev XE:=Str->L2.St->Hp->Prop
structure Cw where
 K:Fg
 F0:Hp
 H0:Hp
 EE:XE
def tG(C:Cw)(g:Rho->Res):TE:=λσ H Q=>∃ ρ F,aS C.K C.F0 C.H0 F H σ ρ/\match g ρ with
 | .ok m d=>∀ v F' H',aK F H F' H'->Rp C.K F' H' m d v->(m=.fr->∀ a,v=.ref a->H a=none)->Q v H'
 | .exc c=>∀ F' H',aK F H F' H'->C.EE c σ H'
 | .stuck=>False
abbrev Cw.at(C:Cw)(X:Cx):Cw:={ C with K:=X.K }
def PV(C:Cw)(X:Cx)(e:Expr)(g:Rho->Res):Prop:=PE X e (tG (C.at X) g)
theorem PE.imp{X:Cx}{e:Expr}{t t':TE}(h:PE X e t)(i:∀ σ H Q,t' σ H Q->t σ H Q):PE X e t':=λaA s σ H Q I q=>h aA s σ H Q I (i σ H Q q)
def Res.thn(r:Res)(k:Md->D->Res):Res:=match r with
 | .ok m d=>k m d
 | .exc c=>.exc c
 | .stuck=>.stuck
@[simp] theorem Res.thn_ok(m:Md)(d:D)(k:Md->D->Res):(Res.ok m d).thn k=k m d:=rfl
@[simp] theorem Res.thn_exc(c:Str)(k:Md->D->Res):(Res.exc c).thn k=.exc c:=rfl
@[simp] theorem Res.thn_stuck(k:Md->D->Res):Res.stuck.thn k=.stuck:=rfl
def Res.of:Option (Md×D)->Res
 | some (m,d)=>.ok m d
 | none=>.stuck
@[simp] theorem Res.of_some(m:Md)(d:D):Res.of (some (m,d))=.ok m d:=rfl
@[simp] theorem Res.of_none:Res.of none=.stuck:=rfl
def aT(C:Cw)(F H:Hp)(σ:L2.St)(r:Res)(Q:VK):Prop:=match r with
 | .ok m d=>∀ v F' H',aK F H F' H'->Rp C.K F' H' m d v->(m=.fr->∀ a,v=.ref a->H a=none)->Q v H'
 | .exc c=>∀ F' H',aK F H F' H'->C.EE c σ H'
 | .stuck=>False
theorem aV{C:Cw}{g:Rho->Res}{σ:L2.St}{H:Hp}{Q:VK}:tG C g σ H Q=∃ ρ F,aS C.K C.F0 C.H0 F H σ ρ/\aT C F H σ (g ρ) Q:=by unfold tG aT;rfl
theorem aT.step{C:Cw}{F H F1 H1:Hp}{σ:L2.St}{r:Res}{Q:VK}(st:aK F H F1 H1)(h:aT C F H σ r Q):aT C F1 H1 σ r Q:=by
 cases r with
 | ok m d=>exact λv F' H' s2 rp hf=>h v F' H' (st.trans s2) rp λe a ea=>st.same.free (hf e a ea)
 | exc c=>exact λF' H' s2=>h F' H' (st.trans s2)
 | stuck=>exact h
section
variable {C:Cw}{X:Cx}{a b:Expr}{ga gb:Rho->Res}{pos:Pos}
def cA(ρ:Rho)(i:Nat):Res:=match ρ[i]? with
 | some (some (false,d))=>.ok .fz d
 | some (some (true,d))=>.ok .bo d
 | _=>.stuck
theorem aDH(i:Nat){x:Str}(h:PE X (.Name x pos) (gX i)):PV C X (.Name x pos) (λρ=>cA ρ i):=by
 refine PE.imp h λσ H Q q=>?_;rw[aV] at q;obtain ⟨ρ,F,R,w⟩:=q;unfold cA at w;cases e:ρ[i]? with
 | none=>rw[e] at w;exact w.elim
 | some o =>
  cases o with
  | none=>rw[e] at w;exact w.elim
  | some p =>
   obtain ⟨m,d⟩:=p;obtain ⟨v,e1,r,_⟩:=R.slot i m d e;rw[e] at w;cases m with
   | false=>exact ⟨v,e1,w v F H (.refl R.sub) r (by intro z;cases z)⟩
   | true=>exact ⟨v,e1,w v F H (.refl R.sub) r (by intro z;cases z)⟩
theorem iR{e:Expr}{v:V}(d:D)(h:PE X e (tC v))(r:∀ F H,Rp X.K F H .fz d v):PV C X e (λ_=>.ok .fz d):=by refine PE.imp h λσ H Q q=>?_;rw[aV] at q;obtain ⟨ρ,F,R,w⟩:=q;exact w v F H (.refl R.sub) (r F H) (by intro z;cases z)
theorem aDI{i j}:PV C X (.Constant (.int i) j pos) (λ_=>.ok .fz (.int i)):=iR _ aAU λ_ _=>cO i
theorem pv_bl{i j}:PV C X (.Constant (.bool i) j pos) (λ_=>.ok .fz (.bl i)):=iR _ pe_bl λ_ _=>cG i
theorem aDJ{j}:PV C X (.Constant .none j pos) (λ_=>.ok .fz .non):=iR _ aAV λ_ _=>uB
theorem aDK{x:Str}{j}(h:(decide (x.length<=sizeLine)&&PyData.strOk x)=true:=by decide +kernel):PV C X (.Constant (.str x) j pos) (λ_=>.ok .fz (.str x)) :=
 iR _ aAW λ_ _=>e9 (by rw[aOX,aPF] at h;exact h)
def op2(φ:Md->D->Md->D->Option (Md×D))(x y:Res):Res:=x.thn λm d=>y.thn λn e=>Res.of (φ m d n e)
def OpD(C:Cw)(X:Cx)(f:Value->Value->Sem Value)(φ:Md->D->Md->D->Option (Md×D)):Prop :=
 ∃ r:R2,OpR X f r/\∀ F H m x n y v u k d Q,aG F H->Rp X.K F H m x v->Rp X.K F H n y u->φ m x n y=some (k,d) ->
  (∀ v' F' H',aK F H F' H'->Rp X.K F' H' k d v'->(k=.fr->∀ a,v'=.ref a->H a=none)->Q v' H')->r v u H Q
theorem k6{φ:Md->D->Md->D->Option (Md×D)}{r:R2}(h:∀ F H m x n y v u k d Q,aG F H->Rp C.K F H m x v->Rp C.K F H n y u->φ m x n y=some (k,d)->(∀ v' F' H',aK F H F' H'->Rp C.K F' H' k d v'->(k=.fr->∀ a,v'=.ref a->H a=none)->Q v' H')->r v u H Q){σ:L2.St}{H:Hp}{Q:VK}(q:tG C (λρ=>op2 φ (ga ρ) (gb ρ)) σ H Q):tOp r (tG C ga) (tG C gb) σ H Q:=by
 unfold tOp;rw[aV] at q ⊢;obtain ⟨ρ,F,R,w⟩:=q;refine ⟨ρ,F,R,?_⟩;cases ea:ga ρ with
 | stuck=>simp only[op2,ea,Res.thn] at w;exact w
 | exc c=>simp only[op2,ea,Res.thn] at w;exact w
 | ok m d =>
  intro v F1 H1 s1 r1 _;rw[aV];refine ⟨ρ,F1,R.step s1,?_⟩;have w1:=w.step s1;simp only[op2,ea,Res.thn] at w1;cases eb:gb ρ with
  | stuck=>rw[eb] at w1;exact w1
  | exc c=>rw[eb] at w1;exact w1
  | ok n e =>
   rw[eb] at w1;intro u F2 H2 s2 r2 _;have w2:aT C F2 H2 σ (Res.of (φ m d n e)) Q:=aT.step s2 w1;cases ef:φ m d n e with
   | none=>rw[ef] at w2;exact w2.elim
   | some kd=>obtain ⟨k,d'⟩:=kd;rw[ef] at w2;exact h F2 H2 m d n e v u k d' Q s2.sub (r1.step s2) r2 ef w2
theorem pv_op{op:Operator}{φ}(o:OpD C X (binaryOp op) φ)(ha:PV C X a ga)(hb:PV C X b gb):PV C X (.BinOp a op b pos) (λρ=>op2 φ (ga ρ) (gb ρ)):=by obtain ⟨r,h1,h2⟩:=o;exact PE.imp (pe_op h1 ha hb) λσ H Q q=>k6 h2 q
theorem k7{op:CmpOp}{φ}(o:OpD C X (compareOp op) φ)(ha:PV C X a ga)(hb:PV C X b gb)(hm:behindInMarks op b=false):PV C X (.Compare a [op] [b] pos) (λρ=>op2 φ (ga ρ) (gb ρ)):=by obtain ⟨r,h1,h2⟩:=o;exact PE.imp (aBX h1 ha hb hm) λσ H Q q=>k6 h2 q
def orO(φ ψ:Md->D->Md->D->Option (Md×D)):Md->D->Md->D->Option (Md×D):=λm x n y=>(φ m x n y).orElse λ_=>ψ m x n y
theorem OpD.or{f:Value->Value->Sem Value}{φ ψ}(h:OpD C X f φ)(h':OpD C X f ψ):OpD C X f (orO φ ψ):=by
 obtain ⟨r,h1,h2⟩:=h;obtain ⟨r',h1',h2'⟩:=h';refine ⟨_,h1.or h1',λF H m x n y v u k d Q s rx ry e w=>?_⟩;unfold orO at e;cases e1:φ m x n y with
 | none=>rw[e1] at e;exact .inr (h2' F H m x n y v u k d Q s rx ry e w)
 | some p=>rw[e1] at e;cases e;exact .inl (h2 F H m x n y v u k d Q s rx ry e1 w)
def fI(c:Int->Int->Bool)(g:Int->Int->D):Md->D->Md->D->Option (Md×D):=λ_ x _ y=>match x,y with
 | .int i,.int j=>if c i j=true then some (.fz,g i j) else none
 | _,_=>none
theorem jO{f:Value->Value->Sem Value}{Cc:Int->Int->Prop}{c:Int->Int->Bool}{g:Int->Int->V}{g':Int->Int->D}(o:OpR X f (rI Cc g))(hc:∀ i j,c i j=true->Cc i j)(hg:∀ F H i j,Rp X.K F H .fz (g' i j) (g i j)):OpD C X f (fI c g'):=by
 refine ⟨_,o,λF H m x n y v u k d Q s rx ry e w=>?_⟩;unfold fI at e;split at e
 . rename_i i j;cases rx.int;cases ry.int;split at e
   . rename_i hcc;cases e;exact ⟨i,j,rfl,rfl,hc i j hcc,w _ F H (.refl s) (hg F H i j) (by intro z;cases z)⟩
   . cases e
 . cases e
theorem g9{f:Value->Value->Sem Value}{g:Int->Int->V}{g':Int->Int->D}(o:OpR X f (rI0 g))(hg:∀ F H i j,Rp X.K F H .fz (g' i j) (g i j)):OpD C X f (fI (λ_ _=>true) g'):=by
 refine ⟨_,o,λF H m x n y v u k d Q s rx ry e w=>?_⟩;unfold fI at e;split at e
 . rename_i i j;cases rx.int;cases ry.int;rw[if_pos rfl] at e;cases e;exact ⟨i,j,rfl,rfl,w _ F H (.refl s) (hg F H i j) (by intro z;cases z)⟩
 . cases e
def cH(i:Int):Bool:=decide (i.natAbs.log2<9000)
theorem aDL:OpD C X (binaryOp .Add) (fI (λ_ _=>true) λi j=>.int (i+j)):=g9 aBM λ_ _ i j=>cO _
theorem aDM:OpD C X (binaryOp .Sub) (fI (λ_ _=>true) λi j=>.int (i-j)):=g9 aBN λ_ _ i j=>cO _
theorem aDN{i j:Int}(h:(cH i&&cH j)=true):IntMulOk i j:=by
 rw[aOX] at h;have b:∀ {i:Int},cH i=true->Builtin.Int.intBits i<=2 ^ 20:=λ{i} h=>by
  unfold cH at h;have:=aPG h;unfold Builtin.Int.intBits;split
  . exact aPE _
  . have e:(2:Nat) ^ 20=1048576:=by decide
    omega
 exact IntMulOk.of_bits (b h.1) (b h.2)
def w64(i:Int):Bool:=decide (i.natAbs<2 ^ 63)
theorem uC{i:Int}(h:w64 i=true):Builtin.Int.intBits i<=64:=by
 have h:=aPG h;unfold Builtin.Int.intBits;split
 . exact aPE _
 . rename_i hz;have:i.natAbs.log2<63:=(Nat.log2_lt (by simpa using hz)).mpr h
   omega
theorem aDO:OpD C X (binaryOp .Mult) (fI (λi j=>(cH i&&cH j)||(w64 i||w64 j)) λi j=>.int (i * j)) :=
 jO (Cc:=λi j=>IntMulOk i j) (opI λ_ _ _ _ _ _ _ hc q=>mul_int q hc) (λi j h=>by
  rcases (aPH _ _).mp h with h | h
  . exact aDN h
  . rcases (aPH _ _).mp h with h | h
    . exact IntMulOk.of_left (uC h)
    . exact IntMulOk.of_right (uC h)) λ_ _ i j=>cO _
theorem aDP:OpD C X (binaryOp .Mod) (fI (λ_ j=>decide (0<j)) λi j=>.int (i % j)):=jO aBO (λi j h=>aPG h) λ_ _ i j=>cO _
theorem aDQ:OpR X (binaryOp .FloorDiv) (rI (λ_ j=>0<j/\cH j=true) λi j=>.int (i / j)):=opI λi j _ _ _ _ _ hc q=>by
 obtain ⟨h1,h2⟩:=hc;refine floordiv_int (by omega) ?_ (.inl (PyProof.noPylong_of_log2 (aPG h2)))
 rw[Int.fdiv_eq_ediv_of_nonneg i (by omega)]
 exact q
theorem aDR:OpD C X (binaryOp .FloorDiv) (fI (λ_ j=>decide (0<j)&&cH j) λi j=>.int (i / j)):=jO aDQ (λi j h=>by rw[aOX,aPF] at h;exact h) λ_ _ i j=>cO _
theorem aDS:OpD C X (binaryOp .Pow) (fI (λi j=>decide (0<=j)&&decide (j<=1000000)&&decide (i.natAbs<2 ^ 64)) λi j=>.int (i ^ j.toNat)) :=
 jO aBP (λi j h=>by simp only[aOX,aPF] at h;exact ⟨h.1.1,h.1.2,h.2⟩) λ_ _ i j=>cO _
theorem aDT:OpD C X (compareOp .Lt) (fI (λ_ _=>true) λi j=>.bl (decide (i<j))):=g9 op_lt λ_ _ i j=>cG _
theorem aDU:OpD C X (compareOp .LtE) (fI (λ_ _=>true) λi j=>.bl (decide (i<=j))):=g9 op_le λ_ _ i j=>cG _
theorem aDV:OpD C X (compareOp .Gt) (fI (λ_ _=>true) λi j=>.bl (decide (j<i))):=g9 op_gt λ_ _ i j=>cG _
theorem aDW:OpD C X (compareOp .GtE) (fI (λ_ _=>true) λi j=>.bl (decide (j<=i))):=g9 op_ge λ_ _ i j=>cG _
def fS(c:Str->Str->Bool)(g:Str->Str->D):Md->D->Md->D->Option (Md×D):=λ_ x _ y=>match x,y with
 | .str i,.str j=>if c i j=true then some (.fz,g i j) else none
 | _,_=>none
theorem uD{x y:Str}(hx:PyData.strOk x=true)(hy:PyData.strOk y=true):PyData.strOk (x++y)=true:=by unfold PyData.strOk at *;show (x.cps++y.cps).all _=true;rw[aPI,hx,hy];rfl
theorem aDX:OpD C X (binaryOp .Add) (fS (λi j=>decide (i.length+j.length<=sizeLine)) λi j=>.str (i++j)):=by
 refine ⟨_,aB2,λF H m x n y v u k d Q s rx ry e w=>?_⟩;unfold fS at e;split at e
 . rename_i i j;obtain ⟨rfl,h1⟩:=rx.str;obtain ⟨rfl,h2⟩:=ry.str;split at e
   . rename_i hc;cases e;have hc:=aPG hc;exact ⟨i,j,rfl,rfl,hc,w _ F H (.refl s) (e9 ⟨by rw[strLen_append];exact hc,uD h1.2 h2.2⟩) (by intro z;cases z)⟩
   . cases e
 . cases e
def jP(i j:Str):Bool:=!(Builtin.Str.occurrences j i 0 j.length 1).isEmpty
theorem aDY:OpD C X (compareOp .In) (fS (λ_ _=>true) λi j=>.bl (jP i j)):=by
 refine ⟨_,aBT,λF H m x n y v u k d Q s rx ry e w=>?_⟩;unfold fS at e;split at e
 . rename_i i j;obtain ⟨rfl,h1⟩:=rx.str;obtain ⟨rfl,h2⟩:=ry.str;rw[if_pos rfl] at e;cases e;exact ⟨i,j,rfl,rfl,w _ F H (.refl s) (cG _) (by intro z;cases z)⟩
 . cases e
theorem aDZ:OpD C X (compareOp .NotIn) (fS (λ_ _=>true) λi j=>.bl (!jP i j)):=by
 refine ⟨_,aBW,λF H m x n y v u k d Q s rx ry e w=>?_⟩;unfold fS at e;split at e
 . rename_i i j;obtain ⟨rfl,h1⟩:=rx.str;obtain ⟨rfl,h2⟩:=ry.str;rw[if_pos rfl] at e;cases e;exact ⟨i,j,rfl,rfl,w _ F H (.refl s) (cG _) (by intro z;cases z)⟩
 . cases e
end
section
variable {C:Cw}{X:Cx}{a b c e:Expr}{ga gb gc g:Rho->Res}{pos:Pos}
def aZ:Res->Res
 | .ok .bo _=>.stuck
 | .ok _ d=>.ok .fz d
 | r=>r
theorem aK.freeze{F H F' H':Hp}{x:Addr}{o:HO}(st:aK F H F' H')(hx:H x=none)(hx':F' x=none)(ho:H' x=some o):aK F H (upd F' x o) H':=by
 refine ⟨st.same,λb u q=>?_,λb u q=>?_,λy h1 h2=>?_⟩
 . rw[aO (cV (st.fsame b u q) hx')];exact st.fsame b u q
 . by_cases hb:b=x
   . subst hb;rw[bQ] at q;rw[<- q];exact ho
   . rw[aO hb] at q;exact st.sub b u q
 . have:y≠x:=by rintro rfl;exact h2 hx
   rw[aO this];exact st.new y h1 h2
theorem Top.freeze{K:Fg}{F H:Hp}{x:Addr}{d:D}(hx:F x=none)(h:Top K F H x d):∃ o,H x=some o/\aD K (upd F x o) d (.ref x):=by
 have s:∀ o,aG F (upd F x o):=λo b u q=>by rw[aO (cV q hx)];exact q
 cases d with
 | lst ds=>obtain ⟨xs,q,r⟩:=h;refine ⟨_,q,?_⟩;simp only[aD];exact ⟨x,xs,rfl,SqL.of bQ,r.mono (s _) _ _⟩
 | dct ds=>obtain ⟨xs,q,r⟩:=h;refine ⟨_,q,?_⟩;simp only[aD];exact ⟨x,xs,rfl,bQ,r.mono (s _) _ _⟩
 | ins c fs=>obtain ⟨C,dx,gs,n,q,r⟩:=h;refine ⟨_,q,?_⟩;simp only[aD];exact ⟨x,C,dx,gs,rfl,n,bQ,r.mono (s _) _ _⟩
 | set ks=>obtain ⟨S,q,r⟩:=h;refine ⟨_,q,?_⟩;simp only[aD];exact ⟨x,S,rfl,bQ,r⟩
 | _=>exact h.elim
theorem aT.frz{F H:Hp}{σ:L2.St}{r:Res}{Q:VK}(w:aT C F H σ (aZ r) Q):aT C F H σ r Q:=by
 cases r with
 | exc c=>exact w
 | stuck=>exact w
 | ok m d =>
  cases m with
  | fz=>exact w
  | bo=>exact (show False from w).elim
  | fr=>intro v F' H' st rp fr;obtain ⟨x,rfl,n,t⟩:=rp;obtain ⟨o,ho,r⟩:=t.freeze n;exact w (.ref x) (upd F' x o) H' (st.freeze (fr rfl x rfl) n ho) r (by intro z;cases z)
theorem fN(h:PV C X e g):PV C X e (λρ=>aZ (g ρ)):=PE.imp h λσ H Q q=>by
 rw[aV] at q ⊢;obtain ⟨ρ,F,R,w⟩:=q
 try dsimp only at w
 exact ⟨ρ,F,R,w.frz⟩
def iS(C:Cw)(F H:Hp)(σ:L2.St)(r:Res)(Q:Bool->Hp->Prop):Prop:=match r with
 | .ok _ (.bl b)=>∀ F' H',aK F H F' H'->Q b H'
 | .exc c=>∀ F' H',aK F H F' H'->C.EE c σ H'
 | _=>False
theorem iS.step{F H F1 H1:Hp}{σ:L2.St}{r:Res}{Q:Bool->Hp->Prop}(st:aK F H F1 H1)(h:iS C F H σ r Q):iS C F1 H1 σ r Q:=by
 cases r with
 | ok m d =>
  cases d with
  | bl b=>exact λF' H' s2=>h F' H' (st.trans s2)
  | _=>exact h
 | exc c=>exact λF' H' s2=>h F' H' (st.trans s2)
 | stuck=>exact h
def tT(C:Cw)(g:Rho->Res):TT:=λσ H Q=>∃ ρ F,aS C.K C.F0 C.H0 F H σ ρ/\iS C F H σ (g ρ) Q
def PTv(C:Cw)(X:Cx)(e:Expr)(g:Rho->Res):Prop:=PT X e (tT (C.at X) g)
def PWv(C:Cw)(X:Cx)(e:Expr)(g:Rho->Res):Prop:=PW X e (tT (C.at X) g)
theorem PT.imp{X:Cx}{e:Expr}{t t':TT}(h:PT X e t)(i:∀ σ H Q,t' σ H Q->t σ H Q):PT X e t':=λaA s σ H Q I q=>h aA s σ H Q I (i σ H Q q)
theorem PW.imp{X:Cx}{e:Expr}{t t':TT}(h:PW X e t)(i:∀ σ H Q,t' σ H Q->t σ H Q):PW X e t':=λwhole aA s σ H Q I q=>h whole aA s σ H Q I (i σ H Q q)
def nA:D->Option Bool
 | .non=>some false
 | .bl b=>some b
 | .int i=>some (i != 0)
 | .str x=>some ((x.length:Int) != 0)
 | .tup ds=>some (!ds.isEmpty)
 | .lst ds=>some (!ds.isEmpty)
 | .dct ds=>some (!ds.isEmpty)
 | _=>none
def jQ(r:Res):Res:=r.thn λ_ d=>match nA d with | some b=>.ok .fz (.bl b) | none=>.stuck
theorem aE.isEmpty{K:Fg}{F:Hp}{ds:List D}{xs:List V}(h:aE K F ds xs):ds.isEmpty=xs.isEmpty:=by
 cases ds with
 | nil=>simp only[aE] at h;subst h;rfl
 | cons d ds=>simp only[aE] at h;obtain ⟨y,ys,rfl,_⟩:=h;rfl
theorem aM.isEmpty{K:Fg}{F:Hp}{ds:List (Key×D)}{xs:List (Key×V)}(h:aM K F ds xs):ds.isEmpty=xs.isEmpty:=by
 cases ds with
 | nil=>simp only[aM] at h;subst h;rfl
 | cons d ds=>obtain ⟨k,d⟩:=d;simp only[aM] at h;obtain ⟨y,ys,rfl,_⟩:=h;rfl
theorem aD0{K:Fg}{F H:Hp}{m:Md}{d:D}{v:V}{k:Bool}(s:aG F H)(h:Rp K F H m d v)(e:nA d=some k):pE K v H k:=by
 cases d with
 | non=>cases h.non;cases e;rfl
 | bl b=>cases h.bl;cases e;rfl
 | int i=>cases h.int;cases e;rfl
 | str x=>obtain ⟨rfl,hl,_⟩:=h.str;cases e;exact ⟨hl,rfl⟩
 | tup ds=>obtain ⟨a,xs,rfl,q,r⟩:=h.seqT s;cases e;exact .inr (.inl ⟨xs,q,by rw[r.isEmpty]⟩)
 | lst ds=>obtain ⟨a,xs,rfl,q,r⟩:=h.seqL s;cases e;exact .inl ⟨xs,q,by rw[r.isEmpty]⟩
 | dct ds=>obtain ⟨a,xs,rfl,q,r⟩:=h.dict s;cases e;exact .inr (.inr ⟨xs,q,by rw[r.isEmpty]⟩)
 | ty n=>cases e
 | ob n=>cases e
 | ins n=>cases e
 | fn n=>cases e
 | exn n=>cases e
 | set n=>cases e
theorem aD1(h:PV C X e g)(he:∀ whole,isTrue e X.env whole=(do let v <- whole;standAt e.pos;holding [v] (truthy v)):=by intro _;rfl):PTv C X e (λρ=>jQ (g ρ)):=by
 refine PT.imp (aB1 h he) λσ H Q q=>?_;obtain ⟨ρ,F,R,w⟩:=q
 try dsimp only at w
 rw[aV];refine ⟨ρ,F,R,?_⟩;cases er:g ρ with
 | stuck=>rw[er] at w;exact w
 | exc c=>rw[er] at w;exact w
 | ok m d =>
  rw[er] at w;intro v F' H' st rp _;have w:iS (C.at X) F H σ (match nA d with | some b=>.ok .fz (.bl b) | none=>.stuck) Q:=w
  cases ed:nA d with
  | none=>rw[ed] at w;exact w.elim
  | some k=>rw[ed] at w;exact ⟨k,aD0 st.sub rp ed,w F' H' st⟩
theorem k8{op:CmpOp}{φ}(o:OpD C X (compareOp op) φ)(hb':∀ m x n y k d,φ m x n y=some (k,d)->∃ t,k=.fz/\d=.bl t)(ha:PV C X a ga)(hb:PV C X b gb)(hm:behindInMarks op b=false):PTv C X (.Compare a [op] [b] pos) (λρ=>op2 φ (ga ρ) (gb ρ)):=by
 obtain ⟨r,h1,h2⟩:=o;refine PT.imp (aBY h1 ha hb hm) λσ H Q q=>?_;obtain ⟨ρ,F,R,w⟩:=q
 try dsimp only at w
 unfold sX;refine k6 h2 ?_;rw[aV];refine ⟨ρ,F,R,?_⟩;cases er:op2 φ (ga ρ) (gb ρ) with
 | stuck=>rw[er] at w;exact w
 | exc c=>rw[er] at w;exact w
 | ok m d =>
  rw[er] at w;have:∃ t,m=.fz/\d=.bl t:=by
   unfold op2 at er;cases e1:ga ρ with
   | stuck=>rw[e1] at er;cases er
   | exc c=>rw[e1] at er;cases er
   | ok m1 d1 =>
    cases e2:gb ρ with
    | stuck=>rw[e1,e2] at er;cases er
    | exc c=>rw[e1,e2] at er;cases er
    | ok m2 d2 =>
     rw[e1,e2] at er;have er:Res.of (φ m1 d1 m2 d2)=.ok m d:=er;cases e3:φ m1 d1 m2 d2 with
     | none=>rw[e3] at er;cases er
     | some kd=>rw[e3] at er;obtain ⟨k,d'⟩:=kd;cases er;exact hb' _ _ _ _ _ _ e3
  obtain ⟨t,rfl,rfl⟩:=this;intro v F' H' st rp _;cases rp.bl;exact ⟨t,rfl,w F' H' st⟩
def dF(x:Res)(y:Res):Res:=x.thn λ_ d=>match d with | .bl true=>y | .bl false=>.ok .fz (.bl false) | _=>.stuck
def orR(x:Res)(y:Res):Res:=x.thn λ_ d=>match d with | .bl true=>.ok .fz (.bl true) | .bl false=>y | _=>.stuck
def k9(x:Res):Res:=x.thn λ_ d=>match d with | .bl b=>.ok .fz (.bl (!b)) | _=>.stuck
theorem aD2(ha:PTv C X a ga):PTv C X (.UnaryOp .Not a pos) (λρ=>k9 (ga ρ)):=by
 refine PT.imp (aA0 ha) λσ H Q q=>?_;obtain ⟨ρ,F,R,w⟩:=q
 try dsimp only at w
 refine ⟨ρ,F,R,?_⟩;cases er:ga ρ with
 | stuck=>rw[er] at w;exact w
 | exc c=>rw[er] at w;exact w
 | ok m d =>
  rw[er] at w;cases d with
  | bl b=>exact w
  | _=>exact w
theorem uE{op:BoolOp}(h:PTv C X a ga):PWv C X (.BoolOp op [a] pos) ga:=by
 cases op with
 | And=>exact aAX h
 | Or=>exact aAY h
theorem uF{σ:L2.St}{H:Hp}{Q:Bool->Hp->Prop}(q:tT C (λρ=>dF (ga ρ) (gb ρ)) σ H Q):pB (tT C ga) (tT C gb) σ H Q:=by
 obtain ⟨ρ,F,R,w⟩:=q
 try dsimp only at w
 refine ⟨ρ,F,R,?_⟩;cases er:ga ρ with
 | stuck=>rw[er] at w;exact w
 | exc c=>rw[er] at w;exact w
 | ok m d =>
  rw[er] at w;cases d with
  | bl b =>
   intro F' H' st;cases b with
   | true=>rw[if_pos rfl];exact ⟨ρ,F',R.step st,iS.step st w⟩
   | false=>rw[if_neg aO3];exact w F' H' st
  | _=>exact w
theorem tT_or{σ:L2.St}{H:Hp}{Q:Bool->Hp->Prop}(q:tT C (λρ=>orR (ga ρ) (gb ρ)) σ H Q):tOr (tT C ga) (tT C gb) σ H Q:=by
 obtain ⟨ρ,F,R,w⟩:=q
 try dsimp only at w
 refine ⟨ρ,F,R,?_⟩;cases er:ga ρ with
 | stuck=>rw[er] at w;exact w
 | exc c=>rw[er] at w;exact w
 | ok m d =>
  rw[er] at w;cases d with
  | bl b =>
   intro F' H' st;cases b with
   | true=>rw[if_pos rfl];exact w F' H' st
   | false=>rw[if_neg aO3];exact ⟨ρ,F',R.step st,iS.step st w⟩
  | _=>exact w
theorem aD3{bB:List Expr}(ha:PTv C X a ga)(hb:PWv C X (.BoolOp .And (b::bB) pos) gb):PWv C X (.BoolOp .And (a::b::bB) pos) (λρ=>dF (ga ρ) (gb ρ)):=PW.imp (aAZ ha hb) λ_ _ _ q=>uF q
theorem aD4{bB:List Expr}(ha:PTv C X a ga)(hb:PWv C X (.BoolOp .Or (b::bB) pos) gb):PWv C X (.BoolOp .Or (a::b::bB) pos) (λρ=>orR (ga ρ) (gb ρ)):=PW.imp (pw_or ha hb) λ_ _ _ q=>tT_or q
theorem pt_w(h:PWv C X e g):PTv C X e g:=PW.pt h
theorem uG{op}(h:PV C X a ga):PV C X (.BoolOp op [a] pos) ga:=aA1 h
theorem aD5{bB:List Expr}(ha:PV C X a ga)(hb:PV C X (.BoolOp .And (b::bB) pos) gb):PV C X (.BoolOp .And (a::b::bB) pos) (λρ=>dF (ga ρ) (gb ρ)):=by
 refine PE.imp (aA2 ha hb) λσ H Q q=>?_;unfold sP;rw[aV] at q ⊢;obtain ⟨ρ,F,R,w⟩:=q
 try dsimp only at w
 refine ⟨ρ,F,R,?_⟩;cases er:ga ρ with
 | stuck=>rw[er] at w;exact w
 | exc c=>rw[er] at w;exact w
 | ok m d =>
  rw[er] at w;cases d with
  | bl k =>
   intro v F' H' st rp _;cases rp.bl;refine ⟨k,rfl,?_⟩;cases k with
   | true=>rw[if_pos rfl,aV];exact ⟨ρ,F',R.step st,aT.step st w⟩
   | false=>rw[if_neg aO3];exact w (.bl false) F' H' st (cG _) (by intro z;cases z)
  | _=>exact w.elim
theorem aD6{bB:List Expr}(ha:PV C X a ga)(hb:PV C X (.BoolOp .Or (b::bB) pos) gb):PV C X (.BoolOp .Or (a::b::bB) pos) (λρ=>orR (ga ρ) (gb ρ)):=by
 refine PE.imp (pe_or ha hb) λσ H Q q=>?_;unfold tOrV;rw[aV] at q ⊢;obtain ⟨ρ,F,R,w⟩:=q
 try dsimp only at w
 refine ⟨ρ,F,R,?_⟩;cases er:ga ρ with
 | stuck=>rw[er] at w;exact w
 | exc c=>rw[er] at w;exact w
 | ok m d =>
  rw[er] at w;cases d with
  | bl k =>
   intro v F' H' st rp _;cases rp.bl;refine ⟨k,rfl,?_⟩;cases k with
   | true=>rw[if_pos rfl];exact w (.bl true) F' H' st (cG _) (by intro z;cases z)
   | false=>rw[if_neg aO3,aV];exact ⟨ρ,F',R.step st,aT.step st w⟩
  | _=>exact w.elim
theorem aD7(ha:PV C X a ga):PV C X (.UnaryOp .Not a pos) (λρ=>k9 (ga ρ)):=by
 refine PE.imp (aA3 ha) λσ H Q q=>?_;unfold sQ;rw[aV] at q ⊢;obtain ⟨ρ,F,R,w⟩:=q
 try dsimp only at w
 refine ⟨ρ,F,R,?_⟩;cases er:ga ρ with
 | stuck=>rw[er] at w;exact w
 | exc c=>rw[er] at w;exact w
 | ok m d =>
  rw[er] at w;cases d with
  | bl k=>intro v F' H' st rp _;cases rp.bl;exact ⟨k,rfl,w _ F' H' st (cG _) (by intro z;cases z)⟩
  | _=>exact w.elim
def ixD:Md->D->Md->D->Option (Md×D):=λ_ x _ y=>match x,y with
 | .lst ds,.int i=>(atI ds i).map λd=>(.fz,d)
 | .tup ds,.int i=>(atI ds i).map λd=>(.fz,d)
 | .str z,.int i=>(atI z.cps.toList i).map λc=>(.fz,.str ⟨#[c]⟩)
 | _,_=>none
theorem aE.atI{K:Fg}{F:Hp}{ds:List D}{xs:List V}{i:Int}{d:D}(h:aE K F ds xs)(e:atI ds i=some d):∃ x,L2.atI xs i=some x/\aD K F d x:=by
 unfold L2.atI at *;rw[h.length];cases q:ixN ds.length i with
 | none=>rw[q] at e;cases e
 | some j=>rw[q] at e;exact h.get' e
theorem aD8{F H:Hp}{m n k:Md}{x y d:D}{v u:V}{Q:VK}(s:aG F H)(rx:Rp X.K F H m x v)(ry:Rp X.K F H n y u)(e:ixD m x n y=some (k,d))(w:∀ v' F' H',aK F H F' H'->Rp X.K F' H' k d v'->(k=.fr->∀ a,v'=.ref a->H a=none)->Q v' H'):rIx X.K v u H Q:=by
 unfold ixD at e;split at e
 . rename_i ds i;cases ry.int;obtain ⟨p,xs,rfl,hq,r⟩:=rx.seqL s;cases ei:atI ds i with
   | none=>rw[ei] at e;cases e
   | some d'=>rw[ei] at e;cases e;obtain ⟨x',ex,rx'⟩:=r.atI ei;exact .inl ⟨p,xs,i,x',rfl,rfl,hq,ex,w x' F H (.refl s) rx' (by intro z;cases z)⟩
 . rename_i ds i;cases ry.int;obtain ⟨p,xs,rfl,hq,r⟩:=rx.seqT s;cases ei:atI ds i with
   | none=>rw[ei] at e;cases e
   | some d'=>rw[ei] at e;cases e;obtain ⟨x',ex,rx'⟩:=r.atI ei;exact .inr (.inl ⟨p,xs,i,x',rfl,rfl,hq,ex,w x' F H (.refl s) rx' (by intro z;cases z)⟩)
 . rename_i z i;cases ry.int;obtain ⟨rfl,hl,hk⟩:=rx.str;cases ei:atI z.cps.toList i with
   | none=>rw[ei] at e;cases e
   | some c =>
    rw[ei] at e;cases e;refine .inr (.inr ⟨z,i,c,rfl,rfl,hl,ei,w _ F H (.refl s) (e9 ⟨?_,?_⟩) (by intro z;cases z)⟩)
    . show 1<=sizeLine;decide
    . obtain ⟨j,_,hj,_⟩:=mZ ei;unfold PyData.strOk at hk ⊢;rw[aPJ] at hk;have hc:=hk c (by rw[<- aPK];exact aOG hj)
      simpa using hc
 . cases e
theorem pv_ix(ha:PV C X a ga)(hb:PV C X b gb)(hs:m5 b:=by intro _ _;rfl):PV C X (.Subscript a b pos) (λρ=>op2 ixD (ga ρ) (gb ρ)):=by exact PE.imp (tR aCN ha hb hs) λσ H Q q=>k6 (λF H m x n y v u k d Q s rx ry e w=>aD8 s rx ry e w) q
theorem aD9:SlR X (λx lo hi H Q=>∃ z,x=.str z/\z.length<=sizeLine/\Q (.str (Txt.slice z lo hi)) H):=by
 intro aA s σ H x v vl vu lo hi sl Q I rx hs pl pu h;obtain ⟨z,rfl,hz,q⟩:=h;obtain ⟨t,rfl⟩:=rx;refine ⟨"str", _,PySem.F.slot_str_getitem.lookup,typeIs_str _ _ _,?_⟩;have fin:∀ t' k,EP X aA σ Q (.str (Txt.slice z lo hi) t') { s with toks:=k }:=λt' k=>⟨.str (Txt.slice z lo hi),H,I.tok _,⟨_,rfl⟩,q⟩
 cases pl with
 | none =>
  cases pu with
  | none=>exact aPL (l:=none) (u:=none) (st:=none) hs rfl (aPM ⟨aNI (aPN z _ _) hz,λt' k=>fin t' k⟩)
  | int j tj=>exact aPL (l:=none) (u:=some (j,tj)) (st:=none) hs rfl (aPM ⟨aNI (aPN z _ _) hz,λt' k=>fin t' k⟩)
 | int i ti =>
  cases pu with
  | none=>exact aPL (l:=some (i,ti)) (u:=none) (st:=none) hs rfl (aPM ⟨aNI (aPN z _ _) hz,λt' k=>fin t' k⟩)
  | int j tj=>exact aPL (l:=some (i,ti)) (u:=some (j,tj)) (st:=none) hs rfl (aPM ⟨aNI (aPN z _ _) hz,λt' k=>fin t' k⟩)
theorem aEA{z:Str}{lo hi:Option Int}(h:PyData.strOk z=true):PyData.strOk (Txt.slice z lo hi)=true:=by
 unfold Txt.slice;split
 . exact h
 . unfold PyData.strOk at *;rw[aPJ] at h ⊢;intro c hc;rw[<- aPK,List.toList_toArray,aN1] at hc;obtain ⟨j,_,hj⟩:=hc;exact h c (Array.mem_of_getElem? hj)
def POv(C:Cw)(X:Cx):Option Expr->Option (Rho->Res)->Prop
 | none,none=>True
 | some e,some g=>PV C X e g
 | _,_=>False
def uH(C:Cw):Option (Rho->Res)->TO
 | none=>tO
 | some g=>mY (tG C g)
theorem uI{e:Option Expr}{g:Option (Rho->Res)}(h:POv C X e g):PO X e (uH (C.at X) g):=by
 cases e with
 | none=>cases g with
  | none=>exact aCG
  | some g=>exact h.elim
 | some e=>cases g with
  | none=>exact h.elim
  | some g=>exact aCH h
def cP(g:Option (Rho->Res))(ρ:Rho)(k:Option Int->Res):Res:=match g with
 | none=>k none
 | some g=>(g ρ).thn λ_ d=>match d with | .int i=>k (some i) | _=>.stuck
theorem jR{F H:Hp}{σ:L2.St}{g:Option (Rho->Res)}{ρ:Rho}{k:Option Int->Res}{Q:VK}{R:Option Int->Hp->Prop}(RS:aS C.K C.F0 C.H0 F H σ ρ)(w:aT C F H σ (cP g ρ k) Q)(h:∀ i F' H',aK F H F' H'->aS C.K C.F0 C.H0 F' H' σ ρ->aT C F' H' σ (k i) Q->R i H'):uH C g σ H R:=by
 cases g with
 | none=>exact h none F H (.refl RS.sub) RS w
 | some g =>
  show mY (tG C g) σ H R;unfold mY;rw[aV];refine ⟨ρ,F,RS,?_⟩;have w:aT C F H σ ((g ρ).thn λ_ d=>match d with | .int i=>k (some i) | _=>.stuck) Q:=w
  cases er:g ρ with
  | stuck=>rw[er] at w;exact w
  | exc c=>rw[er] at w;exact w
  | ok m d =>
   rw[er] at w;intro v F' H' st rp _;cases d with
   | int i=>cases rp.int;exact ⟨i,rfl,h (some i) F' H' st (RS.step st) (aT.step st w)⟩
   | _=>exact (show False from w).elim
def pL:Md->D->Md->D->Option (Md×D):=λ_ x _ y=>match x,y with
 | .str z,.int n=>if (decide (1<=n)&&decide (n<=1000000)&&decide (z.length * n.toNat<=sizeLine))=true then some (.fz,.str (Txt.mul z n)) else none
 | _,_=>none
theorem uJ{α:Type}(xs:Array α):∀ (k:Nat) (acc:Array α),((List.replicate k xs).foldl (· ++ ·) acc).size=acc.size+k * xs.size
 | 0,acc=>by simp
 | k+1,acc=>by rw[List.replicate_succ,List.foldl_cons,uJ xs k,aPO,Nat.succ_mul];omega
theorem uK{α:Type}(p:α->Bool)(xs:Array α)(h:xs.all p=true):∀ (k:Nat) (acc:Array α),acc.all p=true->((List.replicate k xs).foldl (· ++ ·) acc).all p=true
 | 0,acc,q=>q
 | k+1,acc,q=>by rw[List.replicate_succ,List.foldl_cons];exact uK p xs h k _ (by rw[aPI,q,h];rfl)
theorem aEB(z:Str){n:Int}(h:1<=n):(Txt.mul z n).length=z.length * n.toNat:=by
 unfold Txt.mul;rw[if_neg (by omega)]
 split
 . rename_i hc;rcases (aPH _ _).mp hc with hc | hc
   . have:n=1:=by simpa using hc
     subst this;simp
   . have:z.length=0:=by simpa using hc
     rw[this];simp
 . show Array.size (List.foldl (· ++ ·) #[] (List.replicate n.toNat z.cps))=_;rw[uJ,Nat.mul_comm];simp[Str.length]
theorem aEC{z:Str}{n:Int}(h:PyData.strOk z=true):PyData.strOk (Txt.mul z n)=true:=by
 unfold Txt.mul;split
 . decide +kernel
 . split
   . exact h
   . unfold PyData.strOk at *;exact uK _ _ h _ _ (by simp)
theorem aED:OpD C X (binaryOp .Mult) pL:=by
 refine ⟨λx y H Q=>∃ z n,x=.str z/\y=.int n/\MulOk z n/\Q (.str (Txt.mul z n)) H,?_,?_⟩
 . intro aA s σ H x y v u Q I rx ry h;obtain ⟨z,n,rfl,rfl,hm,q⟩:=h;obtain ⟨t,rfl⟩:=rx;obtain ⟨t',rfl⟩:=ry;exact SB.mul hm λt' k=>⟨.str (Txt.mul z n),H,I.tok _,⟨_,rfl⟩,q⟩
 . intro F H m x n y v u k d Q s rx ry e w;unfold pL at e;split at e
   . rename_i z i;obtain ⟨rfl,hz,hk⟩:=rx.str;cases ry.int;split at e
     . rename_i hc;simp only[aOX,aPF] at hc;obtain ⟨⟨h1,h2⟩,h3⟩:=hc;cases e;refine ⟨z,i,rfl,rfl,⟨?_,λ_ _=>?_,λ_ _=>?_⟩,w _ F H (.refl s) (e9 ⟨by rw[aEB z h1];exact h3,aEC hk⟩) (by intro z;cases z)⟩
       . rw[aPP];exact ⟨aM5 (by omega),aM5 (by omega)⟩
       . have hs:sizeLine=16777216:=aN4;have:(2 ^ 63-1:Int) / i ≥ (2 ^ 63-1) / 1000000:=by
           apply Int.le_ediv_of_mul_le (by omega)
           have e1:(2 ^ 63-1:Int) / 1000000=9223372036854:=by decide
           rw[e1];have:(9223372036854:Int) * i<=9223372036854 * 1000000:=Int.mul_le_mul_of_nonneg_left h2 (by decide)
           have e2:(9223372036854:Int) * 1000000<=2 ^ 63-1:=by decide
           omega
         have e1:(2 ^ 63-1:Int) / 1000000=9223372036854:=by decide
         omega
       . unfold Builtin.Str.tooLong;exact aM5 (by omega)
     . cases e
   . cases e
end
inductive aW where
 | ok (xs:List (Md×D)) | exc (c:Str) | stuck
def RpL(K:Fg)(F H:Hp):List (Md×D)->List V->Prop
 | [],vs=>vs=[]
 | (m,d)::r,vs=>∃ v us,vs=v::us/\Rp K F H m d v/\RpL K F H r us
def aW.thn(r:aW)(k:List (Md×D)->Res):Res:=match r with
 | .ok xs=>k xs
 | .exc c=>.exc c
 | .stuck=>.stuck
@[simp] theorem aW.thn_ok(xs:List (Md×D))(k:List (Md×D)->Res):(aW.ok xs).thn k=k xs:=rfl
@[simp] theorem aW.thn_exc(c:Str)(k:List (Md×D)->Res):(aW.exc c).thn k=.exc c:=rfl
@[simp] theorem aW.thn_stuck(k:List (Md×D)->Res):aW.stuck.thn k=.stuck:=rfl
def lA(C:Cw)(F H:Hp)(σ:L2.St)(r:aW)(Q:List V->Hp->Prop):Prop:=match r with
 | .ok xs=>∀ vs F' H',aK F H F' H'->RpL C.K F' H' xs vs->Q vs H'
 | .exc c=>∀ F' H',aK F H F' H'->C.EE c σ H'
 | .stuck=>False
theorem lA.step{C:Cw}{F H F1 H1:Hp}{σ:L2.St}{r:aW}{Q:List V->Hp->Prop}(st:aK F H F1 H1)(h:lA C F H σ r Q):lA C F1 H1 σ r Q:=by
 cases r with
 | ok m=>exact λv F' H' s2 rp=>h v F' H' (st.trans s2) rp
 | exc c=>exact λF' H' s2=>h F' H' (st.trans s2)
 | stuck=>exact h
def tAv(C:Cw)(g:Rho->aW):TA:=λσ H Q=>∃ ρ F,aS C.K C.F0 C.H0 F H σ ρ/\lA C F H σ (g ρ) Q
def PAv(C:Cw)(X:Cx)(es:List Expr)(g:Rho->aW):Prop:=PA X es (tAv (C.at X) g)
theorem PA.imp{X:Cx}{e:List Expr}{t t':TA}(h:PA X e t)(i:∀ σ H Q,t' σ H Q->t σ H Q):PA X e t':=λp aA s σ H Q I q=>h p aA s σ H Q I (i σ H Q q)
def dO(x:Res)(y:aW):aW:=match x with
 | .ok m d=>(match y with | .ok r=>.ok ((m,d)::r) | .exc c=>.exc c | .stuck=>.stuck)
 | .exc c=>.exc c
 | .stuck=>.stuck
@[simp] theorem aEE(m:Md)(d:D)(r:List (Md×D)):dO (.ok m d) (.ok r)=.ok ((m,d)::r):=rfl
section
variable {C:Cw}{X:Cx}{a b c e:Expr}{es:List Expr}{ga gb gc g:Rho->Res}{gs:Rho->aW}{pos p:Pos}{x:Str}
theorem nB:PAv C X [] (λ_=>.ok []):=PA.imp pH λσ H Q q=>by obtain ⟨ρ,F,R,w⟩:=q;exact w [] F H (.refl R.sub) rfl
theorem nC(ha:PV C X e g)(hr:PAv C X es gs)(hs:starEach (e::es) X.env=(false,eval e X.env)::starEach es X.env:=by rfl):PAv C X (e::es) (λρ=>dO (g ρ) (gs ρ)):=by
 refine PA.imp (mV ha hr hs) λσ H Q q=>?_;unfold jJ;obtain ⟨ρ,F,R,w⟩:=q;dsimp only at w;rw[aV];refine ⟨ρ,F,R,?_⟩;cases er:g ρ with
 | stuck=>rw[er] at w;exact w
 | exc c=>rw[er] at w;exact w
 | ok m d =>
  rw[er] at w;intro v F1 H1 s1 r1 _;refine ⟨ρ,F1,R.step s1,?_⟩;have w1:=lA.step s1 w;cases es':gs ρ with
  | stuck=>rw[es'] at w1;exact w1
  | exc c=>rw[es'] at w1;exact w1
  | ok r=>rw[es'] at w1;intro vs F2 H2 s2 r2;exact w1 (v::vs) F2 H2 s2 ⟨v,vs,rfl,r1.step s2,r2⟩
def cB:List (Md×D)->Option (List D)
 | []=>some []
 | (.fz,d)::r=>(cB r).map (d :: ·)
 | _::_=>none
theorem RpL.fz{K:Fg}{F H:Hp}:∀ {xs:List (Md×D)} {vs:List V} {ds:List D},RpL K F H xs vs->cB xs=some ds->aE K F ds vs
 | [],_,_,h,e=>by cases e;rw[show _=[] from h];exact aE.nil
 | (.fz,d)::r,_,_,h,e=>by
  obtain ⟨v,us,rfl,r1,r2⟩:=h;unfold cB at e;cases q:cB r with
  | none=>rw[q] at e;cases e
  | some ds'=>rw[q] at e;cases e;exact aE.cons r1 (RpL.fz r2 q)
 | (.fr,d)::r,_,_,h,e=>by cases e
 | (.bo,d)::r,_,_,h,e=>by cases e
def fA(r:aW):Res:=r.thn λxs=>match cB xs with | some ds=>if ds.length<=sizeLine then .ok .fz (.tup ds) else .stuck | none=>.stuck
def dZ(r:aW):Res:=r.thn λxs=>match cB xs with | some ds=>if ds.length<=sizeLine then .ok .fr (.lst ds) else .stuck | none=>.stuck
theorem aD.tup_of{K:Fg}{F:Hp}{p:Addr}{ds:List D}{xs:List V}(hp:F p=none)(r:aE K F ds xs):aD K (upd F p (.tup xs)) (.tup ds) (.ref p):=by simp only[aD];exact ⟨p,xs,rfl,SqT.of bQ,r.mono (λb u q=>by rw[aO (cV q hp)];exact q) _ _⟩
theorem aEF{x1}(h:PAv C X es gs):PV C X (.Tuple es x1 pos) (λρ=>fA (gs ρ)):=by
 refine PE.imp (aB6 h) λσ H Q q=>?_;unfold tTup;rw[aV] at q;obtain ⟨ρ,F,R,w⟩:=q;refine ⟨ρ,F,R,?_⟩;cases er:gs ρ with
 | stuck=>rw[er] at w;exact w
 | exc c=>rw[er] at w;exact w
 | ok xs =>
  rw[er] at w;intro vs F1 H1 s1 r1;have w1:aT (C.at X) F1 H1 σ (match cB xs with | some ds=>if ds.length<=sizeLine then .ok .fz (.tup ds) else .stuck | none=>.stuck) Q:=aT.step s1 w
  cases ef:cB xs with
  | none=>rw[ef] at w1;exact w1.elim
  | some ds =>
   rw[ef] at w1;dsimp only at w1;split at w1
   . rename_i hl;have r2:=r1.fz ef;refine ⟨by rw[r2.length];exact hl,λp hp=>?_⟩
     exact w1 (.ref p) _ _ (aK.laid (.tup vs) s1.sub hp) (aD.tup_of (s1.sub.free hp) r2) (by intro z;cases z)
   . exact w1.elim
theorem aEG(h:PAv C X es gs):PV C X (.List es pos) (λρ=>dZ (gs ρ)):=by
 refine PE.imp (aB7 h) λσ H Q q=>?_;unfold tLst;rw[aV] at q;obtain ⟨ρ,F,R,w⟩:=q;refine ⟨ρ,F,R,?_⟩;cases er:gs ρ with
 | stuck=>rw[er] at w;exact w
 | exc c=>rw[er] at w;exact w
 | ok xs =>
  rw[er] at w;intro vs F1 H1 s1 r1;have w1:aT (C.at X) F1 H1 σ (match cB xs with | some ds=>if ds.length<=sizeLine then .ok .fr (.lst ds) else .stuck | none=>.stuck) Q:=aT.step s1 w
  cases ef:cB xs with
  | none=>rw[ef] at w1;exact w1.elim
  | some ds =>
   rw[ef] at w1;dsimp only at w1;split at w1
   . rename_i hl;have r2:=r1.fz ef;refine ⟨by rw[r2.length];exact hl,λp hp=>?_⟩
     refine w1 (.ref p) F1 _ (aK.fresh (.lst vs) s1.sub hp) ⟨p,rfl,s1.sub.free hp,vs,bQ,r2⟩ λ_ a ea=>by cases ea;exact hp
   . exact w1.elim
def jS:D->Option Key
 | .int i=>some (.inl i)
 | .str x=>some (.inr x)
 | _=>none
theorem pM{K:Fg}{F H:Hp}{m:Md}{d:D}{k:Key}{v:V}(e:jS d=some k)(r:Rp K F H m d v):v=kV k:=by
 cases d with
 | int i=>cases e;exact r.int
 | str x=>cases e;exact r.str.1
 | _=>cases e
def dP(X:Cx)(f:Value)(φ:List (Md×D)->Option (Md×D)):Prop :=
 ∃ r:List V->Hp->VK->Prop,fJ X f r/\∀ F H xs vs k d Q,aG F H->RpL X.K F H xs vs->φ xs=some (k,d) ->
  (∀ v' F' H',aK F H F' H'->Rp X.K F' H' k d v'->(k=.fr->∀ a,v'=.ref a->H a=none)->Q v' H')->r vs H Q
def d8(φ:List (Md×D)->Option (Md×D))(r:aW):Res:=r.thn λxs=>Res.of (φ xs)
theorem uL{φ:List (Md×D)->Option (Md×D)}{r:List V->Hp->VK->Prop}(h:∀ F H xs vs k d Q,aG F H->RpL C.K F H xs vs->φ xs=some (k,d)->(∀ v' F' H',aK F H F' H'->Rp C.K F' H' k d v'->(k=.fr->∀ a,v'=.ref a->H a=none)->Q v' H')->r vs H Q){σ:L2.St}{H:Hp}{Q:VK}(q:tG C (λρ=>d8 φ (gs ρ)) σ H Q):tCB r (tAv C gs) σ H Q:=by
 unfold tCB;rw[aV] at q;obtain ⟨ρ,F,R,w⟩:=q;refine ⟨ρ,F,R,?_⟩;cases er:gs ρ with
 | stuck=>rw[er] at w;exact w
 | exc c=>rw[er] at w;exact w
 | ok xs =>
  rw[er] at w;intro vs F1 H1 s1 r1;have w1:aT C F1 H1 σ (Res.of (φ xs)) Q:=aT.step s1 w;cases ef:φ xs with
  | none=>rw[ef] at w1;exact w1.elim
  | some kd=>obtain ⟨k,d⟩:=kd;rw[ef] at w1;exact h F1 H1 xs vs k d Q s1.sub r1 ef w1
theorem aEH{id:String}{φ}(o:dP X (.builtin id) φ)(hg:Gl X x)(hm:X.mg x=none)(hv:bootBuiltins x=some (.builtin id))(ha:PAv C X (e::es) gs)(hn:x ≠ "__name__" := by decide)(hdb:(x==("__debug__" : Str))=false:=by decide)(he:starEach (e::es) X.env=(false,eval e X.env)::starEach es X.env:=by rfl)(hpl:(backTo pos (starEach es X.env)).any (·.1)=false:=by rfl):PV C X (.Call (.Name x p) (e::es) [] pos) (λρ=>d8 φ (gs ρ)):=by obtain ⟨r,h1,h2⟩:=o;exact PE.imp (tJ h1 hg hm hv ha hn hdb he hpl) λσ H Q q=>uL h2 q
def hU:List (Md×D)->Option (Md×D)
 | [(_,.str z)]=>some (.fz,.int z.length)
 | [(_,.lst ds)]=>some (.fz,.int ds.length)
 | [(_,.tup ds)]=>some (.fz,.int ds.length)
 | _=>none
theorem RpL.one{K:Fg}{F H:Hp}{m:Md}{d:D}{vs:List V}(h:RpL K F H [(m,d)] vs):∃ v,vs=[v]/\Rp K F H m d v:=by obtain ⟨v,us,rfl,r,e⟩:=h;exact ⟨v,by rw[show us=[] from e],r⟩
theorem RpL.two{K:Fg}{F H:Hp}{m n:Md}{d e:D}{vs:List V}(h:RpL K F H [(m,d),(n,e)] vs):∃ v u,vs=[v,u]/\Rp K F H m d v/\Rp K F H n e u:=by obtain ⟨v,us,rfl,r,v',us',rfl,r',e⟩:=h;exact ⟨v,v',by rw[show us'=[] from e],r,r'⟩
theorem aEI:dP X (.builtin "len") hU:=by
 refine ⟨_,aB5,λF H xs vs k d Q s rx e w=>?_⟩;unfold hU at e;split at e
 . rename_i m z;cases e;obtain ⟨v,rfl,r⟩:=rx.one;obtain ⟨rfl,hz,_⟩:=r.str;exact ⟨_,z.length,rfl,⟨hz,rfl⟩,w _ F H (.refl s) (cO _) (by intro z;cases z)⟩
 . rename_i m ds;cases e;obtain ⟨v,rfl,r⟩:=rx.one;obtain ⟨a,xs,rfl,q,rl⟩:=r.seqL s;exact ⟨_,xs.length,rfl,.inl ⟨xs,q,rfl⟩,by rw[rl.length];exact w _ F H (.refl s) (cO _) (by intro z;cases z)⟩
 . rename_i m ds;cases e;obtain ⟨v,rfl,r⟩:=rx.one;obtain ⟨a,xs,rfl,q,rl⟩:=r.seqT s;exact ⟨_,xs.length,rfl,.inr ⟨xs,q,rfl⟩,by rw[rl.length];exact w _ F H (.refl s) (cO _) (by intro z;cases z)⟩
 . cases e
def tyN:D->Option String
 | .non=>some "NoneType" | .bl _=>some "bool" | .int _=>some "int" | .str _=>some "str" | .tup _=>some "tuple" | .lst _=>some "list" | .dct _=>some "dict" | _=>none
def lB(t c:String):Option Bool:=if ["int", "bool", "str", "list", "tuple", "dict"].contains c=true then some (t==c||(t == "bool" && c == "int")) else none
def nD:List (Md×D)->Option (Md×D)
 | [(_,d),(_,.ty c)]=>match tyN d with | some t=>(lB t c).map λb=>(.fz,.bl b) | none=>none
 | _=>none
theorem aEJ{K:Fg}{d:D}{t c:String}{b:Bool}(ht:tyN d=some t)(e:lB t c=some b):PySem.W.kitOne K (.type t) (.type c)=some b:=by
 unfold lB at e;split at e
 . rename_i hc;simp only[List.contains_cons,List.contains_nil,Bool.or_false,aPH,aPQ] at hc;cases e;have ht':t = "NoneType" \/ t = "bool" \/ t = "int" \/ t = "str" \/ t = "tuple" \/ t = "list" \/ t = "dict" := by cases d <;> cases ht <;> simp
   rcases hc with rfl | rfl | rfl | rfl | rfl | rfl <;> rcases ht' with rfl | rfl | rfl | rfl | rfl | rfl | rfl <;> rfl
 . cases e
theorem aEK:dP X (.builtin "isinstance") nD:=by
 refine ⟨λvs H Q=>∃ (F:Hp) (m:Md) (d:D) (v:V) (t c:String) (b:Bool),aG F H/\Rp X.K F H m d v/\vs=[v,.ty c]/\tyN d=some t/\lB t c=some b/\Q (.bl b) H,?_,?_⟩
 . intro aA s σ H xs us Q I r h;obtain ⟨F,m,d,v,t,c,b,sF,rp,rfl,ht,hb,q⟩:=h;obtain ⟨u,u',rfl,ru,ru'⟩:=sZ r;cases (show u'=Value.type c from ru')
   have e:=aEJ (K:=X.K) ht hb;have fin:∀ tk,EP X aA σ Q (.bool b) { s with toks:=tk }:=λtk=>⟨.bl b,H,I.tok _,rfl,q⟩
   cases d with
   | non=>cases rp.non;cases ht;cases (show u=Value.none from ru);exact aPR PySem.W.kitx_none I.kIn True.intro e (λz=>nomatch z) fin
   | bl y=>cases rp.bl;cases ht;cases (show u=Value.bool y from ru);exact aPR PySem.W.kitx_bool I.kIn True.intro e (λz=>nomatch z) fin
   | int i=>cases rp.int;cases ht;obtain ⟨t,q⟩:=(show ∃ t,u=Value.int i t from ru);cases q;exact aPR PySem.W.kitx_int I.kIn True.intro e (λz=>nomatch z) fin
   | str y=>obtain ⟨rfl,_⟩:=rp.str;cases ht;obtain ⟨t,q⟩:=(show ∃ t,u=Value.str y t from ru);cases q;exact aPR PySem.W.kitx_str I.kIn True.intro e (λz=>nomatch z) fin
   | tup ds =>
    obtain ⟨a,xs,rfl,hq,_⟩:=rp.seqT sF;cases ht;cases (show u=Value.ref a from ru)
    obtain ⟨its,_,⟨o,h1,h2,_⟩,_⟩:=I.tuple hq;exact aPR PySem.W.kitx_tuple I.kIn ⟨o,h1,h2⟩ e (λz=>nomatch z) fin
   | lst ds =>
    obtain ⟨a,xs,rfl,hq,_⟩:=rp.seqL sF;cases ht;cases (show u=Value.ref a from ru)
    obtain ⟨its,_,⟨o,n,h1,h2,_⟩,_⟩:=I.list hq;exact aPR PySem.W.kitx_list I.kIn ⟨o,h1,h2⟩ e (λz=>nomatch z) fin
   | dct ds =>
    obtain ⟨a,xs,rfl,hq,_⟩:=rp.dict sF;cases ht;cases (show u=Value.ref a from ru)
    obtain ⟨_,_,vs,_,p⟩:=(show bU X.prog X.w H s.heap a (.dK xs) from I.hok a _ hq)
    obtain ⟨o,es,ep,h1,h2,_⟩:=p;exact aPR PySem.W.kitx_dict I.kIn ⟨o,h1,h2.1⟩ e (λz=>nomatch z) fin
   | _=>cases ht
 . intro F H xs vs k d Q s rx e w;unfold nD at e;split at e
   . rename_i m d' n c;obtain ⟨v,u,rfl,r1,r2⟩:=rx.two;cases r2.ty;cases et:tyN d' with
     | none=>rw[et] at e;cases e
     | some t =>
      rw[et] at e;dsimp only at e;cases eb:lB t c with
      | none=>rw[eb] at e;cases e
      | some b=>rw[eb] at e;cases e;exact ⟨F,m,d',v,t,c,b,s,r1,rfl,et,eb,w _ F H (.refl s) (cG _) (by intro z;cases z)⟩
   . cases e
theorem pv_ty{T:String}(hg:Gl X x)(hm:X.mg x=none)(hv:bootBuiltins x=some (.type T))(hn:x ≠ "__name__" := by decide)(hd:(x==("__debug__" : Str))=false:=by decide):PV C X (.Name x pos) (λ_=>.ok .fz (.ty T)) :=
 iR _ (sO (v:=.ty T) hg hm hv rfl hn hd) λ_ _=>rp_ty T
theorem aEL{y:Str}{t:Tok}(hg:Gl X x)(hm:X.mg x=some (.str y t))(h:(decide (y.length<=sizeLine)&&PyData.strOk y)=true:=by decide +kernel)(hd:(x==("__debug__" : Str))=false:=by decide):PV C X (.Name x pos) (λ_=>.ok .fz (.str y)) :=
 iR _ (pA (v:=.str y) hg hm ⟨t,rfl⟩ hd) λ_ _=>e9 (by rw[aOX,aPF] at h;exact h)
theorem aEM{y:Int}{t:Tok}(hg:Gl X x)(hm:X.mg x=some (.int y t))(hd:(x==("__debug__" : Str))=false:=by decide):PV C X (.Name x pos) (λ_=>.ok .fz (.int y)) :=
 iR _ (pA (v:=.int y) hg hm ⟨t,rfl⟩ hd) λ_ _=>cO _
end
inductive aF where
 | nx (ρ:Rho) | rt (m:Md) (d:D) | bk (ρ:Rho) | ct (ρ:Rho) | exc (c:Str) (ρ:Rho) | stuck
def bS(C:Cw)(Fa:Hp)(r:aF)(E:cM):Prop:=match r with
 | .nx ρ=>∀ σ F H,aG Fa F->aS C.K C.F0 C.H0 F H σ ρ->E.nx σ H
 | .bk ρ=>∀ σ F H,aG Fa F->aS C.K C.F0 C.H0 F H σ ρ->E.bk σ H
 | .ct ρ=>∀ σ F H,aG Fa F->aS C.K C.F0 C.H0 F H σ ρ->E.ct σ H
 | .exc c ρ=>∀ σ F H,aG Fa F->aS C.K C.F0 C.H0 F H σ ρ->C.EE c σ H
 | .rt m d=>∀ v F H,aK C.F0 C.H0 F H->Rp C.K F H m d v->(m=.fr->∀ a,v=.ref a->C.H0 a=none)->E.rt v H
 | .stuck=>False
theorem bS.mono{C:Cw}{F F1:Hp}{r:aF}{E:cM}(s:aG F F1)(w:bS C F r E):bS C F1 r E:=by
 cases r with
 | nx ρ=>exact λσ F' H' z R=>w σ F' H' (s.trans z) R
 | bk ρ=>exact λσ F' H' z R=>w σ F' H' (s.trans z) R
 | ct ρ=>exact λσ F' H' z R=>w σ F' H' (s.trans z) R
 | exc c ρ=>exact λσ F' H' z R=>w σ F' H' (s.trans z) R
 | rt m d=>exact w
 | stuck=>exact w
def tH(C:Cw)(g:Rho->aF):TS:=λE σ H=>∃ ρ F,aS C.K C.F0 C.H0 F H σ ρ/\bS C F (g ρ) E
def PSv(C:Cw)(X:Cx)(st:Stmt)(g:Rho->aF):Prop:=PS X st (tH (C.at X) g)
def PBv(C:Cw)(X:Cx)(st:List Stmt)(g:Rho->aF):Prop:=PSs X st (tH (C.at X) g)
theorem PS.imp{X:Cx}{e:Stmt}{t t':TS}(h:PS X e t)(i:∀ E σ H,t' E σ H->t E σ H):PS X e t':=λaA s σ H E I q=>h aA s σ H E I (i E σ H q)
theorem PSs.imp{X:Cx}{e:List Stmt}{t t':TS}(h:PSs X e t)(i:∀ E σ H,t' E σ H->t E σ H):PSs X e t':=λaA s σ H E I q=>h aA s σ H E I (i E σ H q)
def aF.thn(r:aF)(k:Rho->aF):aF:=match r with
 | .nx ρ=>k ρ
 | r=>r
@[simp] theorem aF.thn_nx(ρ:Rho)(k:Rho->aF):(aF.nx ρ).thn k=k ρ:=rfl
@[simp] theorem aF.thn_rt(m:Md)(d:D)(k:Rho->aF):(aF.rt m d).thn k=.rt m d:=rfl
@[simp] theorem aF.thn_bk(ρ:Rho)(k:Rho->aF):(aF.bk ρ).thn k=.bk ρ:=rfl
@[simp] theorem aF.thn_ct(ρ:Rho)(k:Rho->aF):(aF.ct ρ).thn k=.ct ρ:=rfl
@[simp] theorem aF.thn_exc(c:Str)(ρ:Rho)(k:Rho->aF):(aF.exc c ρ).thn k=.exc c ρ:=rfl
@[simp] theorem aF.thn_stuck(k:Rho->aF):aF.stuck.thn k=.stuck:=rfl
section
variable {C:Cw}{X:Cx}{a b c e:Expr}{es:List Expr}{ga gb gc g:Rho->Res}{gs:Rho->aW}{pos p:Pos}{x:Str}{st:Stmt}{sts:List Stmt}{h1 h2:Rho->aF}
theorem aEN:PBv C X [] (λρ=>.nx ρ):=PSs.imp aA4 λE σ H q=>by obtain ⟨ρ,F,R,w⟩:=q;exact w σ F H (aG.refl _) R
theorem aEO{E:cM}{σ:L2.St}{H:Hp}(q:tH C (λρ=>(h1 ρ).thn h2) E σ H):tSeq (tH C h1) (tH C h2) E σ H:=by
 obtain ⟨ρ,F,R,w⟩:=q;refine ⟨ρ,F,R,?_⟩;dsimp only at w;cases er:h1 ρ with
 | nx ρ'=>rw[er] at w;exact λσ' F' H' z R'=>⟨ρ',F',R',bS.mono z w⟩
 | rt m d=>rw[er] at w;exact w
 | bk ρ'=>rw[er] at w;exact w
 | ct ρ'=>rw[er] at w;exact w
 | exc c ρ'=>rw[er] at w;exact w
 | stuck=>rw[er] at w;exact w
theorem aEP(ha:PSv C X st h1)(hb:PBv C X sts h2):PBv C X (st::sts) (λρ=>(h1 ρ).thn h2):=PSs.imp (aA5 ha hb) λE σ H q=>aEO q
def Res.thS(r:Res)(ρ:Rho)(k:Md->D->aF):aF:=match r with
 | .ok m d=>k m d
 | .exc c=>.exc c ρ
 | .stuck=>.stuck
@[simp] theorem Res.thS_ok(m:Md)(d:D)(ρ:Rho)(k:Md->D->aF):(Res.ok m d).thS ρ k=k m d:=rfl
@[simp] theorem Res.thS_exc(c:Str)(ρ:Rho)(k:Md->D->aF):(Res.exc c).thS ρ k=.exc c ρ:=rfl
@[simp] theorem Res.thS_stuck(ρ:Rho)(k:Md->D->aF):Res.stuck.thS ρ k=.stuck:=rfl
theorem gB{F:Hp}{σ:L2.St}{H:Hp}{ρ:Rho}{k:Md->D->aF}{E:cM}{Q:VK}(R:aS C.K C.F0 C.H0 F H σ ρ)(w:bS C F ((g ρ).thS ρ k) E)(h:∀ m d v F' H',bS C F' (k m d) E->aK F H F' H'->aS C.K C.F0 C.H0 F' H' σ ρ->Rp C.K F' H' m d v->(m=.fr->∀ a,v=.ref a->H a=none)->Q v H'):tG C g σ H Q:=by
 rw[aV];refine ⟨ρ,F,R,?_⟩;cases er:g ρ with
 | stuck=>rw[er] at w;exact w
 | exc c=>rw[er] at w;exact λF' H' s=>w σ F' H' s.fsame (R.step s)
 | ok m d=>rw[er] at w;exact λv F' H' s rp fr=>h m d v F' H' (bS.mono s.fsame w) s (R.step s) rp fr
theorem aEQ(he:PV C X e g)(hs:swapsWith e none pos.line X.env=pure false:=by rfl):PSv C X (.Expr e pos) (λρ=>(g ρ).thS ρ λ_ _=>.nx ρ):=PS.imp (sS he hs) λE σ H q=>by obtain ⟨ρ,F,R,w⟩:=q;exact gB R w λm d v F' H' w' s R' rp fr=>w' σ F' H' (aG.refl _) R'
def fO(r:Res)(ρ:Rho):aF:=r.thS ρ λm d=>match m with | .bo=>.stuck | m=>.rt m d
theorem aER(he:PV C X e g):PSv C X (.Return (some e) pos) (λρ=>fO (g ρ) ρ):=PS.imp (sU he) λE σ H q=>by
 obtain ⟨ρ,F,R,w⟩:=q;refine gB R w λm d v F' H' w' s R' rp fr=>?_;cases m with
 | bo=>exact (show False from w').elim
 | fz=>exact w' v F' H' R'.st rp (by intro z;cases z)
 | fr=>exact w' v F' H' R'.st rp λ_ a ea=>R.st.same.free (fr rfl a ea)
def fP(ρ:Rho)(i:Nat):aF:=match ρ[i]? with
 | some (some (false,d))=>.rt .fz d
 | some (some (true,d))=>.rt .fr d
 | _=>.stuck
theorem aES(i:Nat)(h:PE X (.Name x p) (gX i)):PSv C X (.Return (some (.Name x p)) pos) (λρ=>fP ρ i):=PS.imp (sU h) λE σ H q=>by
 obtain ⟨ρ,F,R,w⟩:=q;dsimp only at w;unfold fP at w;cases e:ρ[i]? with
 | none=>rw[e] at w;exact w.elim
 | some o =>
  cases o with
  | none=>rw[e] at w;exact w.elim
  | some q =>
   obtain ⟨m,d⟩:=q;obtain ⟨v,e1,r,hh⟩:=R.slot i m d e;rw[e] at w;cases m with
   | false=>exact ⟨v,e1,w v F H R.st r (by intro z;cases z)⟩
   | true=>exact ⟨v,e1,w v F H R.st r λ_=>hh rfl⟩
def ifS(t:Res)(ρ:Rho)(x y:aF):aF:=t.thS ρ λ_ d=>match d with | .bl true=>x | .bl false=>y | _=>.stuck
theorem aET{s1 s2:List Stmt}(hc:PTv C X c gc)(ha:PBv C X s1 h1)(hb:PBv C X s2 h2):PSv C X (.If c s1 s2 pos) (λρ=>ifS (gc ρ) ρ (h1 ρ) (h2 ρ)):=by
 refine PS.imp (ps_if hc ha hb) λE σ H q=>?_;obtain ⟨ρ,F,R,w⟩:=q;dsimp only at w;refine ⟨ρ,F,R,?_⟩;cases er:gc ρ with
 | stuck=>rw[er] at w;exact w
 | exc c=>rw[er] at w;exact λF' H' s=>w σ F' H' s.fsame (R.step s)
 | ok m d =>
  rw[er] at w;cases d with
  | bl k =>
   intro F' H' s;cases k with
   | true=>rw[if_pos rfl];exact ⟨ρ,F',R.step s,bS.mono s.fsame w⟩
   | false=>rw[if_neg aO3];exact ⟨ρ,F',R.step s,bS.mono s.fsame w⟩
  | _=>exact w.elim
def dQ(ρ:Rho)(i:Nat)(r:Res):aF:=r.thS ρ λm d=>match m with
 | .fz=>.nx (ρ.set i (some (false,d)))
 | .fr=>.nx (ρ.set i (some (true,d)))
 | .bo=>.stuck
theorem aS.set{K:Fg}{F0 H0 F H F' H':Hp}{σ:L2.St}{ρ:Rho}{i:Nat}{m:Bool}{d:D}{v:V}(R0:aS K F0 H0 F H σ ρ)(s:aK F H F' H')(rp:Rp K F' H' (if m then .bo else .fz) d v)(fr:m=true->∀ a,v=.ref a->H a=none):aS K F0 H0 F' H' (σ.set i (some v)) (ρ.set i (some (m,d))):=by
 have R:=R0.step s;refine ⟨R.st,λj m' d' e=>?_,λj k d1 d2 a hjk e1 e2 q1 q2=>?_,by rw[aO1,aO1];exact R.len⟩
 . by_cases hj:j=i
   . subst hj;rw[aPS] at e;by_cases hl:j<ρ.length
     . rw[if_pos rfl,if_pos hl] at e;cases e;refine ⟨v,by rw[aPS,if_pos rfl,if_pos (by rw[R.len];exact hl)],rp,λz a ea=>R0.st.same.free (fr z a ea)⟩
     . rw[if_pos rfl,if_neg hl] at e;cases e
   . rw[aNQ (λz=>hj z.symm)] at e ⊢;exact R.slot j m' d' e
 . have old:∀ (l:Nat) (d:D) (b:Addr),l≠i->ρ[l]? = some (some (true,d))->σ[l]? = some (some (.ref b))->H b≠none:=λl d b hl e q=>by obtain ⟨u,q',r,_⟩:=R0.slot l true d e;rw[q] at q';cases q';obtain ⟨b',eb,_,t⟩:=r;cases eb;exact t.there
   by_cases hj:j=i
   . subst hj;rw[aNQ hjk] at e2 q2;rw[aPS] at e1 q1;by_cases hl:j<ρ.length
     . rw[if_pos rfl,if_pos hl] at e1;rw[if_pos rfl,if_pos (by rw[R.len];exact hl)] at q1
       cases e1;cases q1;exact old k d2 a (λz=>hjk z.symm) e2 q2 (fr rfl a rfl)
     . rw[if_pos rfl,if_neg hl] at e1;cases e1
   . by_cases hk:k=i
     . subst hk;rw[aNQ (λz=>hjk z.symm)] at e1 q1;rw[aPS] at e2 q2;by_cases hl:k<ρ.length
       . rw[if_pos rfl,if_pos hl] at e2;rw[if_pos rfl,if_pos (by rw[R.len];exact hl)] at q2
         cases e2;cases q2;exact old j d1 a hjk e1 q1 (fr rfl a rfl)
       . rw[if_pos rfl,if_neg hl] at e2;cases e2
     . rw[aNQ (λz=>hj z.symm)] at e1 q1;rw[aNQ (λz=>hk z.symm)] at e2 q2;exact R.apart j k d1 d2 a hjk e1 e2 q1 q2
theorem lC{g:Rho->Res}{i:Nat}{E:cM}{σ:L2.St}{H:Hp}(q:tH (C.at X) (λρ=>dQ ρ i (g ρ)) E σ H):iQ (tG (C.at X) g) (jG i) E σ H:=by
 obtain ⟨ρ,F,R,w⟩:=q;dsimp only at w;refine gB R w λm d v F' H' w' s R' rp fr=>?_;cases m with
 | bo=>exact (show False from w').elim
 | fz=>exact w' _ F' H' (aG.refl _) (R.set (m:=false) s rp (by intro z;cases z))
 | fr=>exact w' _ F' H' (aG.refl _) (R.set (m:=true) s rp λ_ a ea=>fr rfl a ea)
theorem aEU{i:Nat}{pos':Pos}(hN:X.N.Nodup)(hi:X.N[i]? = some x)(hx:Loc X.env.scope x)(he:PV C X e g)(hs:swapsWith e (some (.Name x pos')) pos.line X.env=pure false:=by rfl)(hf:X.fn x=true\/X.env.scope.names.lookup x=some .local:=by first | exact .inl rfl | exact .inr rfl | assumption):PSv C X (.Assign [.Name x pos'] e pos) (λρ=>dQ ρ i (g ρ)):=PS.imp (aBB hN hi hx he hs hf) λE σ H q=>lC q
end
def Its(x:Str):It:=⟨λi _=>i<x.cps.size,λi H v H'=>H'=H/\∃ c,x.cps[i]? = some c/\v=.str ⟨#[c]⟩,λi _=>x.cps.size<=i⟩
theorem uM{P:Program}{w:World}{K:Fg}{tg:Expr}(it:Addr)(x:Str)(t:Tok)(ty:String)(hty:["enumerate", "zip", "dict_itemiterator", "dict_reverseitemiterator", "odict_iterator", "itertools.zip_longest", "itertools.pairwise"].contains ty=false)(W:∀ A':Around,A'.handled=none->Walks P w A' it [it] [it] x.cps.size (SignAt x) (λi h=>h.IsStrIter it ty x t i))(Sf:∀ (A:Around) (i:Nat) (s:Shared) (Q:VSP) (E:VSP),s.heap.IsStrIter it ty x t i->Q (.ref it) s->wpAny (model P w) A (pyIter (.ref it)) Q E s):gY P w K tg (Its x) [it] it (λi h=>i<=x.cps.size/\h.IsStrIter it ty x t i) where
 mem:=by simp
 obj:=λi h st b hb=>by
  have e:b=it:=by simpa using hb
  subst e;obtain ⟨_,o,e,c,d⟩:=st;exact ⟨o,e,λv z=>by rw[d] at z;cases z⟩
 keep:=λi h h' st k=>⟨st.1,let ⟨o,e,r⟩:=st.2;⟨o,k it (by simp) o e,r⟩⟩
 item:=by
  intro X hP hw hK hc i aA s σ H E I hf st hg;subst hP hw hK;obtain ⟨f0,f1,f2,f3,f4,f5⟩:=hf it (by simp)
  refine (W X.A (I.ok.hd hc)).item i s _ _ hg st.2 λv h' tk hv st' kk=>?_;obtain ⟨c,u,hc',rfl⟩:=hv;have I1:Inv X aA σ H { s with heap:=h',toks:=tk }:=I.turned (λb o hb e=>kk b o (by simpa using hb) e) f0 f1 f3 f4 f5
  obtain ⟨o,e,oc,d⟩:=id st';exact ⟨_,rfl,mP (s:={ s with heap:=h',toks:=tk }) e oc d hty ⟨.str ⟨#[c]⟩,H,I1,⟨u,rfl⟩,⟨rfl,c,hc',rfl⟩,⟨hg,st'⟩,λb hb=>(hf b hb).1⟩⟩
 done:=by
  intro X hP hw hK hc i aA s σ H E I hf st hg;subst hP hw hK;obtain ⟨f0,f1,f2,f3,f4,f5⟩:=hf it (by simp)
  have e:i=x.cps.size:=Nat.le_antisymm st.1 hg;subst e;exact (W X.A (I.ok.hd hc)).done s _ _ st.2 λh' tk kk=>⟨rfl,I.turned (λb o hb e=>kk b o (by simpa using hb) e) f0 f1 f3 f4 f5⟩
 self:=λA i s Q E st h=>Sf A i s Q E st.2 h
def iStr(te:TE):TI:=λσ H R=>te σ H λx H1=>∃ z,x=.str z/\R (Its z) H1
theorem aEV{X:Cx}{tg l:Expr}{tl:TE}(hl:PE X l tl):PI X tg l (iStr tl):=by
 intro aA s σ H R I h;refine thn (hl aA s σ H _ I h) λv s1 ⟨x,H1,I1,r1,q1⟩=>?_;obtain ⟨z,e,q⟩:=q1;subst e;obtain ⟨t,rfl⟩:=r1;have fin:∀ (ty:String) (o:Obj),o={ cls:=.type ty,data:=.fields #[.str z t,.int ((0:Nat):Int) 0] } -> (∀ b:Addr,b∈[s1.heap.objs.size]->dY X aA H1 b)/\Inv X aA σ H1 { s1 with heap:=s1.heap.push o }/\(s1.heap.push o).IsStrIter s1.heap.objs.size ty z t 0:=λty o eo=>by
  refine ⟨λb hb=>?_,I1.kept (t':=s1.toks) λb o e=>hps e,⟨o,aM9 _ (by rw[eo];rfl),by rw[eo],by rw[eo]⟩⟩
  have e:b=s1.heap.objs.size:=by simpa using hb
  subst e;exact I1.fpOk (aNY _) (I1.hok.fresh (aNY _))
 cases ha:z.cps.all (· < 128)
 . refine wpAny_pyIter_wide ha ?_;obtain ⟨f1,f2,f3⟩:=fin "str_iterator" _ rfl;exact ⟨s1.heap.objs.size,[s1.heap.objs.size],_,Its z,H1,rfl,f2,uM _ z t "str_iterator" (by decide) (λA' hA=>Walks.strWide hA _ z t) (λA i s Q E st h=>wpAny_pyIter_striter_wide st h),⟨aPE _,f3⟩,f1,q⟩
 . refine wpAny_pyIter_ascii ha ?_;obtain ⟨f1,f2,f3⟩:=fin "str_ascii_iterator" _ rfl;exact ⟨s1.heap.objs.size,[s1.heap.objs.size],_,Its z,H1,rfl,f2,uM _ z t "str_ascii_iterator" (by decide) (λA' hA=>Walks.strAscii hA _ z t) (λA i s Q E st h=>wpAny_pyIter_striter_ascii st h),⟨aPE _,f3⟩,f1,q⟩
theorem PI.imp{X:Cx}{tg e:Expr}{t t':TI}(h:PI X tg e t)(i:∀ σ H R,t' σ H R->t σ H R):PI X tg e t':=λaA s σ H R I q=>h aA s σ H R I (i σ H R q)
theorem PI.or{X:Cx}{tg e:Expr}{t t':TI}(h:PI X tg e t)(h':PI X tg e t'):PI X tg e (λσ H R=>t σ H R\/t' σ H R):=λaA s σ H R I q=>by
 rcases q with q | q
 . exact h aA s σ H R I q
 . exact h' aA s σ H R I q
structure lD(K:Fg)(F:Hp)(J:It)(ds:List D):Prop where
 go:∀ i H,aG F H->i<ds.length->J.go i H
 stop:∀ i H,aG F H->ds.length<=i->J.stop i H
 yld:∀ i Fc H x H',aG F Fc->aG Fc H->i<ds.length->J.yld i H x H'->∃ F' d,ds[i]? = some d/\aK Fc H F' H'/\aD K F' d x
def WantI(C:Cw)(F H:Hp)(σ:L2.St)(r:Res)(R:It->Hp->Prop):Prop:=match r with
 | .ok _ (.lst ds)=>∀ J F' H',aK F H F' H'->lD C.K F' J ds->R J H'
 | .exc c=>∀ F' H',aK F H F' H'->C.EE c σ H'
 | _=>False
def tIv(C:Cw)(g:Rho->Res):TI:=λσ H R=>∃ ρ F,aS C.K C.F0 C.H0 F H σ ρ/\WantI C F H σ (g ρ) R
def PIv(C:Cw)(X:Cx)(tg e:Expr)(g:Rho->Res):Prop:=PI X tg e (tIv (C.at X) g)
def jT(z:Str):List D:=z.cps.toList.map λc=>.str ⟨#[c]⟩
def hV(r:Res):Res:=r.thn λ_ d=>match d with
 | .lst ds=>.ok .fz (.lst ds)
 | .tup ds=>.ok .fz (.lst ds)
 | .str z=>.ok .fz (.lst (jT z))
 | _=>.stuck
section
variable {C:Cw}{X:Cx}{tg e:Expr}{g:Rho->Res}{gs:Rho->aW}{pos p:Pos}
theorem aEW{K:Fg}{F:Hp}{a:Addr}{ds:List D}{xs:List V}(hq:SqT K F a xs)(r:aE K F ds xs):lD K F (Itt K a) ds where
 go:=λi H s hi=>by
  have hl:i<xs.length:=by rw[r.length];exact hi
  exact ⟨xs,xs[i],aG.seqT s hq,by simp[hl]⟩
 stop:=λi H s hi=>⟨xs,aG.seqT s hq,by rw[r.length];exact hi⟩
 yld:=λi Fc H x H' s1 s2 hi y=>by obtain ⟨rfl,y⟩:=y;have hx:=y xs (aG.seqT s2 (aG.seqT s1 hq));obtain ⟨d,e,rd⟩:=r.get hx;exact ⟨Fc,d,e,.refl s2,rd.mono s1 _ _⟩
theorem aEX{K:Fg}{F:Hp}{z:Str}(hk:PyData.strOk z=true):lD K F (Its z) (jT z) where
 go:=λi H s hi=>by simpa[jT,Its] using hi
 stop:=λi H s hi=>by simpa[jT,Its] using hi
 yld:=λi Fc H x H' s1 s2 hi y=>by
  obtain ⟨rfl,c,hc,rfl⟩:=y;refine ⟨Fc,.str ⟨#[c]⟩,by simp[jT,hc],.refl s2,?_⟩
  simp only[aD,true_and];refine ⟨by show 1<=sizeLine;decide,?_⟩
  unfold PyData.strOk at hk ⊢;rw[aPJ] at hk;simpa using hk c (Array.mem_of_getElem? hc)
theorem aEY(h:PV C X e g):PIv C X tg e (λρ=>hV (aZ (g ρ))):=by
 have h:=fN h;refine PI.imp (PI.or (aBF h) (PI.or (aBG h) (aEV h))) λσ H R q=>?_;obtain ⟨ρ,F,RS,w⟩:=q;dsimp only at w;cases er:aZ (g ρ) with
 | stuck=>rw[er] at w;exact w.elim
 | exc c=>refine .inl ?_;unfold pC;rw[aV];refine ⟨ρ,F,RS,?_⟩;rw[er] at w ⊢;exact w
 | ok m d =>
  rw[er] at w;have hm:m=.fz:=by
   cases h:g ρ with
   | ok m' d'=>rw[h] at er;cases m' <;> cases er <;> rfl
   | exc c=>rw[h] at er;cases er
   | stuck=>rw[h] at er;cases er
  subst hm;cases d with
  | lst ds =>
   refine .inl ?_; unfold pC; rw [aV]; refine ⟨ρ, F, RS, ?_⟩; rw [er]; intro v F' H' st rp _; have rp : aD X.K F' (.lst ds) v := rp; simp only [aD] at rp; obtain ⟨a, xs, rfl, hq, r⟩ := rp; exact ⟨a, rfl, ⟨xs, st.sub.seq hq⟩, w _ F' H' st ⟨fun i H s hi => by
       have hl:i<xs.length:=by rw[r.length];exact hi
       exact ⟨xs,xs[i],s.seq hq,by simp[hl]⟩,λi H s hi=>⟨xs,s.seq hq,by rw[r.length];exact hi⟩,λi Fc H x H' s1 s2 hi y=>by
       obtain ⟨rfl,y⟩:=y;have hx:=y xs (s2.seq (s1.seq hq));obtain ⟨d,e,rd⟩:=r.get hx;exact ⟨Fc,d,e,.refl s2,rd.mono s1 _ _⟩⟩⟩
  | tup ds=>refine .inr (.inl ?_);unfold iTup;rw[aV];refine ⟨ρ,F,RS,?_⟩;rw[er];intro v F' H' st rp _;have rp:aD X.K F' (.tup ds) v:=rp;simp only[aD] at rp;obtain ⟨a,xs,rfl,hq,r⟩:=rp;exact ⟨a,rfl,⟨xs,aG.seqT st.sub hq⟩,w _ F' H' st (aEW hq r)⟩
  | str z=>refine .inr (.inr ?_);unfold iStr;rw[aV];refine ⟨ρ,F,RS,?_⟩;rw[er];intro v F' H' st rp _;obtain ⟨rfl,hz,hk⟩:=Rp.str rp;exact ⟨z,rfl,w _ F' H' st (aEX hk)⟩
  | _=>exact w.elim
def bI(lo hi:Int):List D:=(List.range (hi-lo).toNat).map λi=>.int (lo+(i:Nat))
def jU(r:aW):Res:=r.thn λxs=>match xs with
 | [(_,.int n)]=>if (decide (-(2 ^ 62)<=n)&&decide (n<2 ^ 62))=true then .ok .fz (.lst (bI 0 n)) else .stuck
 | _=>.stuck
theorem aEZ{K:Fg}{F:Hp}{lo hi:Int}:lD K F (Itr lo (hi-lo).toNat) (bI lo hi) where
 go:=λi H s h=>by simpa[bI,Itr] using h
 stop:=λi H s h=>by simpa[bI,Itr] using h
 yld:=λi Fc H x H' s1 s2 h y=>by
  obtain ⟨rfl,rfl⟩:=y;have h':i<(hi-lo).toNat:=by simpa[bI] using h
  refine ⟨Fc,.int (lo+i),?_,.refl s2,by simp only[aD]⟩
  simp only[bI,aOE,List.getElem?_range h',aPT]
theorem aE0{a:Expr}(hg:Gl X "range")(hm:X.mg "range" = none)(ha:PAv C X [a] gs)(hs:starEach [a] X.env=[(false,eval a X.env)]:=by rfl):PIv C X tg (.Call (.Name "range" p) [a] [] pos) (λρ=>jU (gs ρ)):=by
 refine PI.imp (aBI hg hm ha hs) λσ H R q=>?_;obtain ⟨ρ,F,RS,w⟩:=q;dsimp only at w;unfold sW;refine ⟨ρ,F,RS,?_⟩;cases er:gs ρ with
 | stuck=>rw[er] at w;exact w
 | exc c=>rw[er] at w;exact w
 | ok xs =>
  rw[er] at w;intro vs F' H' st rp;unfold jU at w;rw[aW.thn_ok] at w;split at w
  . rename_i m n;split at w
    . rename_i hc;rw[aOX,aPF,aPF] at hc;obtain ⟨v,rfl,r⟩:=rp.one;cases r.int;have:=aEZ (K:=X.K) (F:=F') (lo:=0) (hi:=n);rw[Int.sub_zero] at this;exact ⟨n,rfl,hc.1,hc.2,w _ F' H' st this⟩
    . exact w.elim
  . exact w.elim
def PGv(C:Cw)(X:Cx)(tg:Expr)(k:D->Rho->Option Rho):Prop:=∃ t:TG,PG X tg t/\∀ F H σ ρ ρ' d v Q,aS X.K C.F0 C.H0 F H σ ρ->aD X.K F d v->k d ρ=some ρ' ->
 (∀ σ' F' H',aG F F'->aS X.K C.F0 C.H0 F' H' σ' ρ'->Q σ' H')->t v σ H Q
def bK(k:D->Rho->Option Rho)(body:Rho->aF):List D->Rho->aF
 | [],ρ=>.nx ρ
 | d::ds,ρ=>match k d ρ with
  | none=>.stuck
  | some ρ1=>match body ρ1 with
   | .nx ρ2=>bK k body ds ρ2
   | .ct ρ2=>bK k body ds ρ2
   | .bk ρ2=>.nx ρ2
   | r=>r
def iT(r:Res)(ρ:Rho)(k:D->Rho->Option Rho)(body:Rho->aF):aF:=r.thS ρ λ_ d=>match d with | .lst ds=>bK k body ds ρ | _=>.stuck
theorem aE1{body:List Stmt}{k:D->Rho->Option Rho}{h1:Rho->aF}(hp:PassesOwn (model X.prog X.w) X.A X.env X.xe)(hc:X.calm=true)(hi:PIv C X tg e g)(hg:PGv C X tg k)(hb:PBv C X body h1)(hs:∀ x,foldedSetIterable e X.env x=pure x:=by intro _;rfl):PSv C X (.For tg e body [] pos) (λρ=>iT (g ρ) ρ k h1):=by
 obtain ⟨t,ht,hk⟩:=hg;refine PS.imp (aBK hp hc hi ht hb hs) λE σ H q=>?_;obtain ⟨ρ,F,RS,w⟩:=q;dsimp only at w;unfold tFor;refine ⟨ρ,F,RS,?_⟩;cases er:g ρ with
 | stuck=>rw[er] at w;exact w
 | exc c=>rw[er] at w;exact λF' H' s=>w σ F' H' s.fsame (RS.step s)
 | ok m d =>
  rw[er] at w;cases d with
  | lst ds =>
   intro J F1 H1 s1 hJ;have w:bS (C.at X) F1 (bK k h1 ds ρ) E:=bS.mono s1.fsame w;refine ⟨λi m σ' H'=>m=ds.length-i/\i<=ds.length/\∃ ρ' F',aG F1 F'/\aS X.K C.F0 C.H0 F' H' σ' ρ'/\bS (C.at X) F' (bK k h1 (ds.drop i) ρ') E,⟨ds.length,by simp,aPE _,ρ,F1,aG.refl _,RS.step s1,by simpa using w⟩,?_⟩
   rintro i m σ' H' ⟨rfl,hi,ρ',F',sF,R',w'⟩;by_cases hlt:i<ds.length
   . refine .inr ⟨hJ.go i H' (sF.trans R'.sub) hlt,λσ2 H2=>∃ ρ2 F2,aG F1 F2/\aS X.K C.F0 C.H0 F2 H2 σ2 ρ2/\bS (C.at X) F2 (bK k h1 (ds.drop (i+1)) ρ2) E,λσ2 H2 ⟨ρ2,F2,a,b,c⟩=>⟨ds.length-(i+1),by omega,rfl,hlt,ρ2,F2,a,b,c⟩,λx H2 y=>?_⟩
     obtain ⟨F2,d,ed,s2,rd⟩:=hJ.yld i F' H' x H2 sF R'.sub hlt y;have hd:ds.drop i=d::ds.drop (i+1):=by rw[aPU hlt];rw[aPV hlt] at ed;cases ed;rfl
     rw[hd] at w';unfold bK at w';cases ek:k d ρ' with
     | none=>rw[ek] at w';exact w'.elim
     | some ρ1 =>
      rw[ek] at w';dsimp only at w';refine hk F2 H2 σ' ρ' ρ1 d x _ (R'.step s2) rd ek λσ3 F3 H3 z3 R3=>?_;have z13:aG F1 F3:=(sF.trans s2.fsame).trans z3;have w3:=bS.mono (s2.fsame.trans z3) w';refine ⟨ρ1,F3,R3,?_⟩;cases eb:h1 ρ1 with
      | nx ρ2=>rw[eb] at w3;exact λσ4 F4 H4 z4 R4=>⟨ρ2,F4,z13.trans z4,R4,bS.mono z4 w3⟩
      | ct ρ2=>rw[eb] at w3;exact λσ4 F4 H4 z4 R4=>⟨ρ2,F4,z13.trans z4,R4,bS.mono z4 w3⟩
      | bk ρ2=>rw[eb] at w3;exact λσ4 F4 H4 z4 R4=>w3 σ4 F4 H4 z4 R4
      | rt m d=>rw[eb] at w3;exact w3
      | exc c ρ2=>rw[eb] at w3;exact w3
      | stuck=>rw[eb] at w3;exact w3
   . have ei:i=ds.length:=by omega
     subst ei;refine .inl ⟨hJ.stop _ H' (sF.trans R'.sub) (aNY _),?_⟩;rw[aPW] at w';exact w' σ' F' H' (aG.refl _) R'
  | _=>exact w.elim
end
end D3
namespace L2
open PySem PySem.Spec PyProof.Rows
theorem pN {env : Env} : ∀ (names : List (Str × NameKind)) (acc : List (Str × Addr)), (∀ y ∈ names, y.2 = .free → ∃ c, env.cells.lookup y.1 = some c) → (∀ y c, acc.lookup y = some c → env.cells.lookup y = some c) →
    ∃ cl,(forIn names acc λ(x:Str×NameKind) (cs:List (Str×Addr))=>(if x.2 == .free then (do let c <- cellOf env x.1;pure (ForInStep.yield ((x.1,c)::cs))) else pure (ForInStep.yield cs):Sem (ForInStep (List (Str×Addr)))))=pure cl /\
     (∀ y c,cl.lookup y=some c->env.cells.lookup y=some c)/\(∀ y c,acc.lookup y=some c->cl.lookup y=some c)/\∀ y,(y,NameKind.free)∈names->∃ c,cl.lookup y=some c
 | [],acc,_,ha=>⟨acc,by rw[aPX],ha,λ_ _ h=>h,λ_ h=>by cases h⟩
 | (n,k)::r,acc,h,ha=>by
  rw[aPY];by_cases hk:k=.free
  . subst hk;obtain ⟨c,ec⟩:=h (n,.free) mcs rfl;have hc:cellOf env n=pure c:=by unfold cellOf;rw[ec]
    have e:((if (NameKind.free==NameKind.free)=true then (do let c <- cellOf env n;pure (ForInStep.yield ((n,c)::acc))) else pure (ForInStep.yield acc)):Sem (ForInStep (List (Str×Addr))))=pure (ForInStep.yield ((n,c)::acc)):=by rw[if_pos (by decide),hc,aPZ]
    obtain ⟨cl,e1,e2,e3,e4⟩:=pN (env:=env) r ((n,c)::acc) (λy hy=>h y (mcm hy)) (λy c' q=>by
     rw[aP0] at q;cases hyn:y==n with
     | true=>rw[hyn] at q;cases q;rw[aPQ.mp hyn];exact ec
     | false=>rw[hyn] at q;exact ha y c' q)
    refine ⟨cl,?_,e2,λy c' q=>?_,λy hy=>?_⟩
    . dsimp only;rw[e,aPZ];exact e1
    . cases hyn:y==n with
      | true=>have:=aPQ.mp hyn;subst this;have q':=ha y c' q;rw[ec] at q';cases q';exact e3 y c (by rw[aP0,hyn])
      | false=>exact e3 y c' (by rw[aP0,hyn];exact q)
    . rcases aNK.mp hy with z | z
      . cases z;exact ⟨c,e3 n c (by rw[aP0,aP1])⟩
      . exact e4 y z
  . have e:((if (k==NameKind.free)=true then (do let c <- cellOf env n;pure (ForInStep.yield ((n,c)::acc))) else pure (ForInStep.yield acc)):Sem (ForInStep (List (Str×Addr))))=pure (ForInStep.yield acc):=by rw[if_neg (by simpa using hk)]
    obtain ⟨cl,e1,e2,e3,e4⟩:=pN (env:=env) r acc (λy hy=>h y (mcm hy)) ha;refine ⟨cl,?_,e2,e3,λy hy=>?_⟩
    . dsimp only;rw[e,aPZ];exact e1
    . rcases aNK.mp hy with z | z
      . cases z;exact absurd rfl hk
      . exact e4 y z
theorem uN{scope:Scope}{env:Env}(h:∀ y∈scope.names,y.2=.free->∃ c,env.cells.lookup y.1=some c):∃ cl,closureFor scope env=pure cl/\(∀ y c,cl.lookup y=some c->env.cells.lookup y=some c)/\∀ y,(y,NameKind.free)∈scope.names->∃ c,cl.lookup y=some c:=by
 obtain ⟨cl,e1,e2,_,e4⟩:=pN (env:=env) scope.names [] h (λy c q=>by simp at q)
 refine ⟨cl,?_,e2,e4⟩;unfold closureFor;rw[bind_pure];exact e1
theorem uO{scope:Scope}{env:Env}(bV:∀ y∈scope.names,y.2 ≠ .cell){x:Str}(h:(relabel scope env).names.lookup x=some .cell\/(relabel scope env).names.lookup x=some .free):(x,NameKind.free)∈scope.names:=by
 unfold relabel at h;dsimp only at h;have go:∀ (l:List (Str×NameKind)),(∀ y∈l,y.2 ≠ .cell)->((l.map λ(n,k)=>if (k==NameKind.free&&env.scope.kind == .function&&env.kindOf n==some .cell) then (n,NameKind.cell) else (n,k)).lookup x=some .cell\/(l.map λ(n,k)=>if (k==NameKind.free&&env.scope.kind == .function&&env.kindOf n==some .cell) then (n,NameKind.cell) else (n,k)).lookup x=some .free)->(x,NameKind.free)∈l:=by
  intro l
  induction l with
  | nil=>intro _ h;simp at h
  | cons y l ih =>
   intro hc h;obtain ⟨n,k⟩:=y;rw[aO9] at h;by_cases hx:x=n
   . subst hx;have hk:k=.free:=by
       by_cases hk:k=.free
       . exact hk
       . have e:(k==NameKind.free&&env.scope.kind == .function&&env.kindOf x==some .cell)=false:=by
           have:(k==NameKind.free)=false:=by simpa using hk
           rw[this];rfl
         simp only[e,Bool.false_eq_true,aOQ,aP0,aP1] at h;rcases h with h | h
         . cases h;exact absurd rfl (hc _ mcs)
         . cases h;exact absurd rfl hk
     subst hk;exact mcs
   . have hb:(x==n)=false:=by simpa using hx
     have hh:∀ (kk:NameKind) (l':List (Str×NameKind)),((n,kk)::l').lookup x=l'.lookup x:=λkk l'=>by rw[aP0,hb]
     by_cases hcond:(k==NameKind.free&&env.scope.kind == .function&&env.kindOf n==some .cell)=true
     . dsimp only at h;rw[if_pos hcond,hh] at h;exact mcm (ih (λy hy=>hc y (mcm hy)) h)
     dsimp only at h;rw[if_neg hcond,hh] at h;exact mcm (ih (λy hy=>hc y (mcm hy)) h)
 exact go scope.names bV h
def aQ(X:Cx)(scope:Scope)(N:List Str)(cl:List (Str×Addr))(C:Addr)(fp:List Addr)(s3:Shared)(H3:Hp):Cx where
 prog:=X.prog
 w:=X.w
 K:=X.K
 mg:=X.mg
 base:=X.base
 A:=X.A
 N:=N
 s₀:=s3
 H₀:=H3
 env:=compEnvC scope cl C X.env
 outer:=X.stack
 stack:=X.stack
 ex:=fp
 fn:=λ_=>false
 calm:=X.calm
 pn:=[]
 xe:=λ_ _=>False
def cQ(X:Cx)(cs:List Expr)(t:TT):Prop :=
 ∀ (aA:LAO) (s:Shared) (σ:St) (H:Hp) (Q:Bool->Hp->Prop),Inv X aA σ H s->t σ H Q ->
  wpAny (model X.prog X.w) X.A (forIn cs true λc r=>if r=true then do let ok <- isTrue c X.env (eval c X.env);pure (ForInStep.yield ok) else pure (ForInStep.yield r)) (TP X aA σ Q) X.xe s
theorem aE2{X:Cx}:cQ X [] (λ_ H Q=>Q true H):=λaA s σ H Q I h=>by rw[aPX];exact aNW ⟨H,I,h⟩
theorem uP{X:Cx}:∀ cs:List Expr,(forIn cs false λc r=>if r=true then do let ok <- isTrue c X.env (eval c X.env);pure (ForInStep.yield ok) else pure (ForInStep.yield r):Sem Bool)=pure false
 | []=>by rw[aPX]
 | c::cs=>by rw[aPY,if_neg aO3,aPZ];exact uP cs
theorem aE3{X:Cx}{c:Expr}{cs:List Expr}{t u:TT}(hc:PT X c t)(hr:cQ X cs u):cQ X (c::cs) (pB t u):=λaA s σ H Q I h=>by
 rw[aPY,if_pos rfl];refine aNX (aNX (thn (hc aA s σ H _ I h) λb s1 ⟨H1,I1,q1⟩=>aNW ?_));cases b with
 | true=>rw[if_pos rfl] at q1;exact hr aA s1 σ H1 Q I1 q1
 | false=>rw[if_neg aO3] at q1;dsimp only;rw[uP];exact aNW ⟨H1,I1,q1⟩
section
variable {prog:Program}{w:World}{A:Around}{R:Result->Shared->Prop}{s:Shared}
theorem aE4 {elt target aH : Expr} {ifs : List Expr} {scope : Scope} {pos : Pos} {it acc : Value} {env : Env} (I : Nat → Shared → Prop) (turn : ∀ n s, I n s → wpAny (model prog w) A (pyNext it) (fun r s1 => match r with
      | none=>R (.ok .next) s1
      | some v => wpAny (model prog w) A (letOwnedTupleGo target it v) (fun _ s1' => wpAny (model prog w) A (assign target env v) (fun _ s2 =>
          wpAny (model prog w) A (forIn ifs true λc r=>if r=true then do let ok <- isTrue c env (eval c env);pure (ForInStep.yield ok) else pure (ForInStep.yield r)) (λok s3 =>
           if ok=true then wpAny (model prog w) A (eval elt env) (λx s4 =>
            wpAny (model prog w) A (call (.builtin "list.append") [acc,x]) (λ_ s5=>∃ m,m<n/\I m s5) (λ_ _=>False) s4) (λ_ _=>False) s3
           else ∃ m, m < n ∧ I m s3) (fun _ _ => False) s2) (fun _ _ => False) s1') (fun _ _ => False) s1) (fun _ _ => False) s)
    (n:Nat) (h:I n s) :
    codeAny (model prog w) A (.compLoop (.ListComp elt [⟨target,aH,ifs,0⟩] scope pos) 0 it acc env) R s:=by
 refine codeAny_loop rfl I (λn s hI=>?_) n h;show wpAny _ A ((compTurn (.ListComp elt [⟨target,aH,ifs,0⟩] scope pos) 0 it acc env).onRaise (λx=>do noteFrame x env;theTreesLotGoes x)) _ _ s
 refine wpAny_noted ?_;rw[compTurn_list];refine aNX (aP2 (aNX (aNR (turn n s hI) (λr s1 h1=>?_) λ_ _ h'=>h'.elim)));cases r with
 | none=>exact aNW h1
 | some v =>
  refine aNX (aNR h1 (λ_ s1' h1'=>?_) λ_ _ h'=>h'.elim);refine aNX (aNR h1' (λ_ s2 h2=>aNX (aNR h2 (λok s3 h3=>?_) λ_ _ h'=>h'.elim)) λ_ _ h'=>h'.elim);cases ok with
  | false=>exact aNW ⟨rfl,h3⟩
  | true=>exact aNX (aNX (aNR h3 (λx s4 h4=>aNX (aNR h4 (λ_ s5 h5=>aNW (aNW ⟨rfl,h5⟩)) λ_ _ h'=>h'.elim)) λ_ _ h'=>h'.elim))
end
def cE(aB:List Nat)(σ:St):St:=aB.map λi=>(σ[i]?).getD none
def Weak(σ σ':St):Prop:=σ.length=σ'.length/\∀ (j:Nat) v,σ[j]? = some (some v)->σ'[j]? = some (some v)
def gD(aB:List Nat)(k:Nat)(wi:TI)(gt:TG)(tt:TT)(te:TE):TE:=λσ H Q=>wi σ H λJ H1=>∀ D,H1 D=none ->
 ∃ W:Nat->Nat->List V->Hp->Prop,(∃ m,W 0 m [] (upd H1 D (.lst [])))/\∀ i m ys H,W i m ys H->H D=some (.lst ys) /\
  ((J.stop i H/\Q (.ref D) H)\/(J.go i H/\ys.length<sizeLine/\∀ x H',J.yld i H x H'->gt x (cE aB σ++List.replicate k none) H' λσ2 H2=>Weak (cE aB σ++List.replicate k none) σ2/\tt σ2 H2 λb H3 =>
   if b=true then te σ2 H3 λy H4=>H4 D=some (.lst ys)/\∃ m',m'<m/\W (i+1) m' (ys++[y]) (upd H4 D (.lst (ys++[y]))) else ∃ m',m'<m/\W (i+1) m' ys H3))
theorem uQ{X:Cx}{elt aH tg:Expr}{ifs:List Expr}{scope:Scope}{pos:Pos}{aB:List Nat}{aC tgN:List Str}{wi:TI}{gt:TG}{tt:TT}{te:TE}{use:Option (Value->Sem Unit)}{QQ:VSP}{aA:LAO}{s:Shared}{σ:St}{H:Hp}{Q:VK}(hc:X.calm=true)(hi:PI X tg aH wi)(bV:∀ y∈scope.names,y.2 ≠ .cell)(bZ:scope.kind=.function)(cZ:∀ y∈scope.names,y.2=.local->scope.names.lookup y.1=some .local)(cD:∀ y∈scope.names,y.2=.free->X.env.kindOf y.1=some .cell\/X.env.kindOf y.1=some .free)(cL:aC.map some=aB.map λi=>X.N[i]?)(c8:∀ y∈aC,(y,NameKind.free)∈scope.names)(c7:∀ y∈aC,(relabel scope X.env).names.lookup y=some .cell\/(relabel scope X.env).names.lookup y=some .free)(hg:∀ cl C fp s3 H3,PG (aQ X scope (aC++tgN) cl C fp s3 H3) tg gt)(hf:∀ cl C fp s3 H3,cQ (aQ X scope (aC++tgN) cl C fp s3 H3) ifs tt)(he:∀ cl C fp s3 H3,PE (aQ X scope (aC++tgN) cl C fp s3 H3) elt te)(hs:∀ x,foldedSetIterable aH X.env x=pure x)(I:Inv X aA σ H s)(h:gD aB tgN.length wi gt tt te σ H Q)(hend:∀ (D Z:Addr) (s6:Shared) (H5:Hp),(∃ m,s6.heap.Ns Z m)->(∀ h'',Heap.SameBut Z s6.heap h''->Inv X aA σ H5 { s6 with heap:=h'' })->H5 Z=none->X.s₀.heap.objs.size<=Z->Z≠X.env.locals->(∀ x c,X.env.cells.lookup x=some c->c≠Z)->(∀ p∈X.pn++aA,p.1≠Z)->Q (.ref D) H5->compPost (model X.prog X.w) X.A X.xe use QQ (.ref D) Z (.ok .next) s6):wpAny (model X.prog X.w) X.A (comprehension (.ListComp elt [⟨tg,aH,ifs,0⟩] scope pos) scope X.env (firstIterPos [⟨tg,aH,ifs,0⟩] pos) (newList []) (firstAsync [⟨tg,aH,ifs,0⟩]) (firstIter [⟨tg,aH,ifs,0⟩] X.env) use) QQ X.xe s:=by
 obtain ⟨cl,hclos,clsub,clhas⟩:=uN (scope:=scope) (env:=X.env) λy hy hk=>I.ok.has y.1 (cD y hy hk);refine wpAny_comprehension_free (use:=use) rfl hs hclos bZ cZ (thn (hi aA s σ H _ I h) λv s1 h1=>thn h1 λitv s2 h2=>?_);obtain ⟨it,fp,tn,J,H2,e,I2,T,st2,f2,q⟩:=h2;subst e;refine aOY ?_;have hn:H2 s2.heap.objs.size=none:=I2.hok.fresh (aNY _);obtain ⟨W,⟨m0,w0⟩,turn⟩:=q s2.heap.objs.size hn;have I3:Inv X aA σ (upd H2 s2.heap.objs.size (.lst [])) { s2 with heap:=s2.heap.push { cls:=.type "list", dict:=none,data:=.seq ([]:List Value).toArray } } :=
  I2.laid (t':=s2.toks) (λb u e=>hps e) (aNY _) ⟨aPE _,[],0,.nil,aM9 _ rfl⟩
 generalize hs3:({ s2 with heap:=s2.heap.push { cls:=.type "list", dict:=none,data:=.seq ([]:List Value).toArray } }:Shared)=s3 at I3 ⊢
 generalize hH3:upd H2 s2.heap.objs.size (.lst [])=H3 at I3 w0;have fpl:∀ b∈fp,b<s2.heap.objs.size:=λb hb=>by obtain ⟨o,eo,_⟩:=T.obj 0 _ st2 b hb;exact aNA eo
 have sz3:s3.heap.objs.size=s2.heap.objs.size+1:=by rw[<- hs3];exact Heap.size_push _ _
 have keep23:∀ b o,s2.heap.get? b=some o->s3.heap.get? b=some o:=λb o e=>by rw[<- hs3];exact hps e
 have hDf:s2.heap.objs.size∉fp:=λhb=>aNC _ (fpl _ hb);refine wpAny_newFunctionEnv bV (by intro y hy;simp at hy) (λh4 hns hsb=>?_) bZ
 try dsimp only at hns hsb ⊢
 have keep34:∀ b o,s3.heap.get? b=some o->h4.get? b=some o:=λb o e=>hsb.extBut b o (aND (aNA e)) (hps e);have nostk:∀ b∈fp,b∉frs X.stack:=λb hb z=>by
  obtain ⟨_,f1,f2',_⟩:=f2 b hb;rcases aNK.mp (I2.stkSub b z) with q | q
  . exact f1 q
  . exact f2' q
 have okc:(aQ X scope (aC++tgN) cl s3.heap.objs.size fp s3 H3).Ok :=
  { mod:=I3.ok.mod
    kind:=bZ
    glob:=I3.ok.glob
    blt:=I3.ok.blt
    above:=aNY _
    inj:=λx y c h1 h2=>I3.ok.inj x y c (clsub x c h1) (clsub y c h2)
    has:=λx hx=>clhas x (uO bV hx)
    cab:=λx c z=>by cases z
    hd:=I3.ok.hd
    frames:=I3.ok.frames
    stk:=.inl rfl
    exf:=λb hb=>⟨aND (by show b<s3.heap.objs.size;rw[sz3];exact aP3 (fpl b hb)),λx c e=>(f2 b hb).2.2.2.2.1 x c (clsub x c e)⟩
    bs:=I3.bs
    bsz:=aNI I3.ok.bsz I3.sz
    noex:=λb o e hb=>by
     obtain ⟨_,_,_,f3,_⟩:=f2 b hb;rcases f3 with z | z
     . exact I2.ok.noex b o e z
     . exact absurd (aNA (I2.ok.bs b o e).1) (Nat.not_lt.mpr z)
    exfs:=nostk
    funs:=I3.stack
    frf:=I3.stkFree }
 have capLen:aC.length=aB.length:=by have:=congrArg List.length cL;simpa using this
 generalize hσ0:cE aB σ++List.replicate tgN.length none=σ0 at turn;have Ic:Inv (aQ X scope (aC++tgN) cl s3.heap.objs.size fp s3 H3) [] σ0 H3 { s3 with heap:=h4,toks:=s3.toks+([]:List (Str×Value)).length }:=by
  refine ⟨okc,rfl,I3.bare,Un.kept keep34,⟨_,hns,λi y v h1 h2 h3=>?_⟩,λx c e=>?_,I3.hok.fresh (aNY _),λx c e=>I3.freeC x c (clsub x c e),λp hp=>absurd (show p∈([]:LAO) from hp) (by simp),I3.hok.kept keep34,?_⟩
  . by_cases hi:i<aB.length
    . have ey:aC[i]? = some y:=by have h1:(aC++tgN)[i]? = some y:=h1;rw[aOD (by rw[capLen];exact hi)] at h1;exact h1
      have hj:X.N[aB[i]]? = some y:=by
       have e1:(aC.map some)[i]? = (aB.map λi=>X.N[i]?)[i]?:=by rw[cL]
       rw[aOE,aOE,ey,aPV hi] at e1;simpa using e1.symm
      have ev:σ[aB[i]]? = some (some v):=by
       rw[<- hσ0,aOD (by simpa[cE] using hi)] at h2
       unfold cE at h2;rw[aOE,aPV hi] at h2;simp only[aPT,aP4] at h2;cases z:σ[aB[i]]? with
       | none=>rw[z] at h2;cases h2
       | some o=>rw[z] at h2;exact congrArg some h2
      have hyf:=c8 y (aOG ey);have hkX:=cD _ hyf rfl;obtain ⟨m,_,hl⟩:=I3.loc;obtain ⟨u,ru,lk⟩:=hl aB[i] y v hj ev (by rcases hkX with z | z;exact .inr (.inl z);exact .inr (.inr z))
      refine ⟨u,ru,.inr ⟨c7 y (aOG ey),?_⟩⟩;rcases lk with ⟨hk,_⟩ | ⟨_,c,ec,ic⟩
      . rcases hkX with z | z
        . rw[show X.env.kindOf y=some .cell from z] at hk;cases hk
        . rw[show X.env.kindOf y=some .free from z] at hk;cases hk
      . obtain ⟨c',ec'⟩:=clhas y hyf;have:=clsub y c' ec';rw[ec] at this;cases this;exact ⟨c,ec',ic.keeps keep34⟩
    . rw[<- hσ0,aOB (by simpa[cE] using hi),aOC] at h2
      split at h2 <;> cases h2
  . obtain ⟨v,q⟩:=I3.cell x c (clsub x c e);exact ⟨v,q.keeps keep34⟩
  . rw[<- hσ0];show (cE aB σ++List.replicate tgN.length none).length=(aC++tgN).length;simp[cE,capLen]
 have fpc:∀ {H':Hp},(∀ b∈fp,H' b=none)->∀ b∈fp,dY (aQ X scope (aC++tgN) cl s3.heap.objs.size fp s3 H3) [] H' b:=λhn b hb =>
  ⟨hn b hb,(okc.exf b hb).1,nostk b hb,.inl hb,(okc.exf b hb).2,λp hp=>absurd (show p∈([]:LAO) from hp) (by simp)⟩
 have loop:codeAny (model X.prog X.w) X.A (.compLoop (.ListComp elt [⟨tg,aH,ifs,0⟩] scope pos) 0 (.ref it) (.ref s2.heap.objs.size) (compEnvC scope cl s3.heap.objs.size X.env)) (compPost (model X.prog X.w) X.A X.xe use QQ (.ref s2.heap.objs.size) s3.heap.objs.size) { s3 with heap:=h4,toks:=s3.toks+([]:List (Str×Value)).length }:=by
  refine aE4 (λn s'=>∃ i ys H',Inv (aQ X scope (aC++tgN) cl s3.heap.objs.size fp s3 H3) [] σ0 H' s'/\tn i s'.heap/\(∀ b∈fp,H' b=none)/\W i n ys H') ?_ m0
   ⟨0,[],H3,Ic,T.keep _ _ _ st2 (λb hb o e=>keep34 b o (keep23 b o e)),λb hb=>by rw[<- hH3,aO (by intro z;rw[z] at hb;exact hDf hb)];exact (f2 b hb).1,w0⟩
  rintro n s5 ⟨i,ys,H5,I5,st5,fr5,w5⟩;obtain ⟨hD,hw⟩:=turn i n ys H5 w5;rcases hw with ⟨stop,qq⟩ | ⟨go,hlen,step⟩
  . refine thn (T.done (aQ X scope (aC++tgN) cl s3.heap.objs.size fp s3 H3) rfl rfl rfl hc i [] s5 σ0 H5 _ I5 (fpc fr5) st5 stop) λr s6 ⟨hr,I6⟩=>?_;subst hr;obtain ⟨m,hm,_⟩:=id I6.loc;refine hend s2.heap.objs.size s3.heap.objs.size s6 H5 ⟨m,hm⟩ (λh'' hsb2=>?_) I6.free I3.sz (λz=>?_) (λx c ec z=>?_) (λp hp z=>?_) qq;rotate_left
    . obtain ⟨m,⟨o,es,ep,ho,_⟩,_⟩:=id I3.loc;rw[<- z] at ho;exact aNC _ (aNA ho)
    . obtain ⟨v,o,ho,_⟩:=I3.cell x c ec;rw[z] at ho;exact aNC _ (aNA ho)
    . have:=(I3.pin p hp).1;rw[z] at this;exact aNC _ (aNA this)
    have u:=I6.base;have neC:∀ b o,s3.heap.get? b=some o->b≠s3.heap.objs.size:=λb o e=>aND (aNA e);have un:Un (frs X.stack) fp H3 H5 s3.heap h'':=by
     refine ⟨λb o e n hb hx=>hsb2.extBut b o (neC b o e) (u.keep b o e n hb hx),λb o e n hb hx=>?_,u.free,λb o e hx=>?_,u.tups,u.frzs,u.tbls⟩
     . obtain ⟨sl,q⟩:=u.slot b o e n hb hx;exact ⟨sl,hsb2.extBut b _ (neC b o e) q⟩
     . obtain ⟨o',q⟩:=u.there b o e hx;exact ⟨o',hsb2.extBut b _ (neC b o e) q⟩
    have hok : HOk X.prog X.w H5 h'' := fun a o e => (I6.hok a o e).stay (fun b v hb q => hsb2.extBut b v (by
        intro z;have fr:=I6.free;rcases hb with hb | hb
        . rw[hb] at z;rw[z] at e;rw[show H5 s3.heap.objs.size=none from fr] at e;cases e
        . rw[z,show H5 s3.heap.objs.size=none from fr] at hb;cases hb) q) (λ_ q=>q) λ_ _ q=>q
    have os6:=I6.os;obtain ⟨hh,g6,d6,t6,o6⟩:=s6;obtain rfl:o6=s3.os:=os6;have I8:=I3.call (h':=h'') (g':=g6) (d':=d6) (t':=t6) (ch:=fp) un hok I6.bare λb hb=>by obtain ⟨_,f1,_,f3,f4,f5⟩:=f2 b hb;exact ⟨f3,f1,f4,f5⟩
    exact I8
  . refine thn (T.item (aQ X scope (aC++tgN) cl s3.heap.objs.size fp s3 H3) rfl rfl rfl hc i [] s5 σ0 H5 _ I5 (fpc fr5) st5 go) λr s6 ⟨u,hr,h6⟩=>?_;subst hr;refine thn h6 λ_ s7 ⟨x,H7,I7,r7,y7,st7,fr7⟩=>?_;have I7':=I7.pinned (fpc fr7) (T.obj _ _ st7);refine thn (hg cl s3.heap.objs.size fp s3 H3 _ s7 σ0 H7 x u _ I7' r7 (step x H7 y7)) λ_ s8 ⟨σ8,H8,I8,wk,q8⟩=>?_;have back:∀ {H':Hp} {s':Shared} {m':Nat} {ys':List V},Inv (aQ X scope (aC++tgN) cl s3.heap.objs.size fp s3 H3) ([]++jH fp s7.heap) σ8 H' s'->m'<n->W (i+1) m' ys' H' ->
        ∃ m,m<n/\∃ i ys H',Inv (aQ X scope (aC++tgN) cl s3.heap.objs.size fp s3 H3) [] σ0 H' s'/\tn i s'.heap/\(∀ b∈fp,H' b=none)/\W i m ys H':=λ{H' s' m' ys'} I' hm w'=>by
      have pinned:∀ b∈fp,∀ o,s7.heap.get? b=some o->s'.heap.get? b=some o/\H' b=none:=λb hb o e=>by have:=I'.pin (b,o) (aN2 _ (aN2 _ (mQ hb e)));exact ⟨this.1,this.2.1⟩
      refine ⟨m',hm,i+1,ys',H',I'.unpinned.weak wk.1 wk.2,T.keep _ _ _ st7 λb hb o e=>(pinned b hb o e).1,λb hb=>?_,w'⟩;obtain ⟨o,e,_⟩:=T.obj _ _ st7 b hb;exact (pinned b hb o e).2
    refine thn (hf cl s3.heap.objs.size fp s3 H3 _ s8 σ8 H8 _ I8 q8) λb s9 ⟨H9,I9,q9⟩=>?_;cases b with
    | false=>rw[if_neg aO3] at q9 ⊢;obtain ⟨m',hm,w9⟩:=q9;exact back I9 hm w9
    | true =>
     rw[if_pos rfl] at q9 ⊢;refine thn (he cl s3.heap.objs.size fp s3 H3 _ s9 σ8 H9 _ I9 q9) λy s10 ⟨yv,H10,I10,r10,hD10,m',hm,w10⟩=>?_;refine thn (pI (X:=aQ X scope (aC++tgN) cl s3.heap.objs.size fp s3 H3) _ s10 σ8 H10 (.ref s2.heap.objs.size) [yv] (.ref s2.heap.objs.size) [y] (λv H'=>v=.non/\H'=upd H10 s2.heap.objs.size (.lst (ys++[yv]))) I10 rfl (.cons r10 .nil)
      ⟨s2.heap.objs.size,ys,yv,rfl,rfl,hD10,hlen,rfl,rfl⟩) λ_ s11 ⟨v,H11,I11,_,_,e11⟩=>?_
     subst e11;exact back I11 hm w10
 exact codeAny_compStart_list loop (T.self _ 0 _ _ _ (T.keep _ _ _ st2 (λb hb o e=>keep34 b o (keep23 b o e))) loop)
theorem aE5{X:Cx}{elt aH tg:Expr}{ifs:List Expr}{scope:Scope}{pos:Pos}{aB:List Nat}{aC tgN:List Str}{wi:TI}{gt:TG}{tt:TT}{te:TE}(hc:X.calm=true)(hi:PI X tg aH wi)(bV:∀ y∈scope.names,y.2 ≠ .cell)(bZ:scope.kind=.function)(cZ:∀ y∈scope.names,y.2=.local->scope.names.lookup y.1=some .local)(cD:∀ y∈scope.names,y.2=.free->X.env.kindOf y.1=some .cell\/X.env.kindOf y.1=some .free)(cL:aC.map some=aB.map λi=>X.N[i]?)(c8:∀ y∈aC,(y,NameKind.free)∈scope.names)(c7:∀ y∈aC,(relabel scope X.env).names.lookup y=some .cell\/(relabel scope X.env).names.lookup y=some .free)(hg:∀ cl C fp s3 H3,PG (aQ X scope (aC++tgN) cl C fp s3 H3) tg gt)(hf:∀ cl C fp s3 H3,cQ (aQ X scope (aC++tgN) cl C fp s3 H3) ifs tt)(he:∀ cl C fp s3 H3,PE (aQ X scope (aC++tgN) cl C fp s3 H3) elt te)(hs:∀ x,foldedSetIterable aH X.env x=pure x:=by intro _;rfl):PE X (.ListComp elt [⟨tg,aH,ifs,0⟩] scope pos) (gD aB tgN.length wi gt tt te):=by intro aA s σ H Q I h;rw[eval_ListComp];exact uQ (use:=none) hc hi bV bZ cZ cD cL c8 c7 hg hf he hs I h λD Z s6 H5 hm hI _ _ _ _ _ q=>by obtain ⟨m,hm⟩:=hm;exact ⟨m,hm,λh'' hs=>⟨.ref D,H5,hI h'' hs,rfl,q⟩⟩
theorem Inv.dropped{X:Cx}{aA:LAO}{σ:St}{H:Hp}{s:Shared}{h'':Heap}{Z:Addr}(I:Inv X aA σ H s)(hs:Heap.SameBut Z s.heap h'')(hz:H Z=none)(h0:X.s₀.heap.objs.size<=Z)(h1:Z≠X.env.locals)(h2:∀ x c,X.env.cells.lookup x=some c->c≠Z)(h3:∀ p∈X.pn++aA,p.1≠Z):Inv X aA σ H { s with heap:=h'' }:=by
 have un:Un (frs X.stack) [Z] H H s.heap h'':=by
  have k:∀ b o,s.heap.get? b=some o->b∉[Z]->h''.get? b=some o:=λb o e hb=>hs.extBut b o (λz=>hb (by rw[z];exact mcs)) e
  exact ⟨λb o e _ _ hx=>k b o e hx,λb o e _ _ hx=>⟨o.slots,k b o e hx⟩,λ_ _ _ n _=>n,λb o e hx=>⟨o,k b o e hx⟩,λ_ _ q=>q,λ_ _ _ q=>q,λ_ ps q=>⟨#[],by simpa using q⟩⟩
 have hok:HOk X.prog X.w H h'':=λa o e=>(I.hok a o e).stay (λb v hb q=>hs.extBut b v (by
  rintro rfl;rcases hb with hb | hb
  . rw[hb,e] at hz;cases hz
  . rw[hz] at hb;cases hb) q) (λ_ q=>q) λ_ _ q=>q
 obtain ⟨hh,g,d,t,o⟩:=s;exact I.call (g':=g) (d':=d) (t':=t) (ch:=[Z]) un hok I.bare λb hb=>by
  obtain rfl:b=Z:=by simpa using hb
  exact ⟨.inr h0,h1,h2,h3⟩
theorem aE6{i:Nat}{x:Str}{pos' spos:Pos}{X:Cx}{elt aH tg:Expr}{ifs:List Expr}{scope:Scope}{pos:Pos}{aB:List Nat}{aC tgN:List Str}{wi:TI}{gt:TG}{tt:TT}{te:TE}(hc:X.calm=true)(hi:PI X tg aH wi)(bV:∀ y∈scope.names,y.2 ≠ .cell)(bZ:scope.kind=.function)(cZ:∀ y∈scope.names,y.2=.local->scope.names.lookup y.1=some .local)(cD:∀ y∈scope.names,y.2=.free->X.env.kindOf y.1=some .cell\/X.env.kindOf y.1=some .free)(cL:aC.map some=aB.map λi=>X.N[i]?)(c8:∀ y∈aC,(y,NameKind.free)∈scope.names)(c7:∀ y∈aC,(relabel scope X.env).names.lookup y=some .cell\/(relabel scope X.env).names.lookup y=some .free)(hg:∀ cl C fp s3 H3,PG (aQ X scope (aC++tgN) cl C fp s3 H3) tg gt)(hf:∀ cl C fp s3 H3,cQ (aQ X scope (aC++tgN) cl C fp s3 H3) ifs tt)(he:∀ cl C fp s3 H3,PE (aQ X scope (aC++tgN) cl C fp s3 H3) elt te)(hN:X.N.Nodup)(hx:X.N[i]? = some x)(hk:X.env.scope.names.lookup x=some .local)(hsw:swapsWith (.ListComp elt [⟨tg,aH,ifs,0⟩] scope pos) (some (.Name x pos')) spos.line X.env=pure true)(hs:∀ x,foldedSetIterable aH X.env x=pure x:=by intro _;rfl):PS X (.Assign [.Name x pos'] (.ListComp elt [⟨tg,aH,ifs,0⟩] scope pos) spos) (iQ (gD aB tgN.length wi gt tt te) (jG i)):=by
 intro aA s σ H En I h;rw[exec_Assign_Name_used _ _ _ _ hsw];refine aNX (aP2 (aNX ?_));show wpAny _ X.A (comprehension (.ListComp elt [⟨tg,aH,ifs,0⟩] scope pos) scope X.env (firstIterPos [⟨tg,aH,ifs,0⟩] pos) (newList []) (firstAsync [⟨tg,aH,ifs,0⟩]) (firstIter [⟨tg,aH,ifs,0⟩] X.env) (some (assign (.Name x pos') X.env)) >>= _) _ _ s;refine aNX (uQ (use:=some (assign (.Name x pos') X.env)) hc hi bV bZ cZ cD cL c8 c7 hg hf he hs I h λD Z s6 H5 hm hI hz h0 h1 h2 h3 q=>?_);obtain ⟨m,hm⟩:=hm;have I6:=hI s6.heap (Heap.SameBut.refl _ _);refine aNV (o9 I6 hN hx (.inl hk) (show aL (.ref D) (.ref D) from rfl) (λs' I' hch=>?_) (.inr hk))
 obtain ⟨a,sb,ha⟩:=hch;have na:Z≠a:=by
  rcases ha with rfl | ha
  . exact h1
  . exact λz=>h2 x a ha z.symm
 exact ⟨m,hm.sameBut sb na,λh'' hs2=>aNW (aNW ⟨_,H5,I'.dropped hs2 hz h0 h1 h2 h3,q⟩)⟩
end L2
namespace D3
open PySem PySem.Spec PyProof.Rows L2
def cI(aB:List Nat)(ρ:Rho):Rho:=aB.map λi=>match ρ[i]? with | some (some (false,d))=>some (false,d) | _=>none
def cR(k:D->Rho->Option Rho)(t e:Rho->Res)(ρ0:Rho):List D->Option (List D)
 | []=>some []
 | d::ds=>match k d ρ0 with
  | none=>none
  | some ρ1=>match t ρ1 with
   | .ok _ (.bl true)=>(match aZ (e ρ1) with | .ok _ y=>(cR k t e ρ0 ds).map (y :: ·) | _=>none)
   | .ok _ (.bl false)=>cR k t e ρ0 ds
   | _=>none
def dR(src:Res)(ρ:Rho)(aB:List Nat)(n:Nat)(k:D->Rho->Option Rho)(t e:Rho->Res):Res:=src.thn λ_ d=>match d with
 | .lst ds=>if ds.length<sizeLine then (match cR k t e (cI aB ρ++List.replicate n none) ds with | some ys=>.ok .fr (.lst ys) | none=>.stuck) else .stuck
 | _=>.stuck
abbrev Cw.nox(C:Cw):Cw:={ C with EE:=λ_ _ _=>False }
theorem aK.upd{F H F' H':Hp}{x:Addr}{o:HO}(st:aK F H F' H')(hx:H x=none)(hx':F' x=none):aK F H F' (L2.upd H' x o) :=
 ⟨λb u q=>by rw[aO (cV q hx)];exact st.same b u q,st.fsame,λb u q=>by rw[aO (cV q hx')];exact st.sub b u q,st.new⟩
section
variable {C:Cw}{X:Cx}{e:Expr}{g:Rho->Res}{pos p:Pos}
theorem aE7:cQ X [] (tT (C.at X) λ_=>.ok .fz (.bl true)):=λaA s σ H Q I h=>by obtain ⟨ρ,F,R,w⟩:=h;exact aE2 aA s σ H Q I (w F H (.refl R.sub))
theorem aE8{c:Expr}{cs:List Expr}{ga gb:Rho->Res}(hc:PTv C X c ga)(hr:cQ X cs (tT (C.at X) gb)):cQ X (c::cs) (tT (C.at X) λρ=>dF (ga ρ) (gb ρ)):=λaA s σ H Q I h =>
 aE3 hc hr aA s σ H Q I (uF h)
theorem uR{K:Fg}{F0 H0 F H:Hp}{σ:L2.St}{ρ:Rho}(aB:List Nat)(n:Nat)(R:aS K F0 H0 F H σ ρ):aS K F0 H0 F H (cE aB σ++List.replicate n none) (cI aB ρ++List.replicate n none):=by
 have low:∀ (i:Nat) (m:Bool) (d:D),(cI aB ρ++List.replicate n none)[i]? = some (some (m,d))->m=false/\∃ v,(cE aB σ++List.replicate n none)[i]? = some (some v)/\aD K F d v:=λi m d e=>by
  by_cases hi:i<aB.length
  . rw[aOD (by simpa[cI] using hi)] at e
    rw[aOD (by simpa[cE] using hi)]
    unfold cI at e;unfold cE;rw[aOE,aPV hi] at e ⊢;simp only[aPT,aP4] at e;cases z:ρ[aB[i]]? with
    | none=>rw[z] at e;cases e
    | some o =>
     rw[z] at e;cases o with
     | none=>cases e
     | some q =>
      obtain ⟨b,d'⟩:=q;cases b with
      | true=>cases e
      | false=>cases e;obtain ⟨v,e1,r,_⟩:=R.slot _ _ _ z;exact ⟨rfl,v,by simp[e1],r⟩
  . rw[aOB (by simpa[cI] using hi),aOC] at e
    split at e <;> cases e
 refine ⟨R.st,λi m d e=>?_,λi j d d' a _ e1 _ _ _=>?_,by simp[cE,cI]⟩
 . obtain ⟨rfl,v,e1,r⟩:=low i m d e;exact ⟨v,e1,r,by intro z;cases z⟩
 . have:=(low i true d e1).1;cases this
end
mutual
def bE:D->Option PyData
 | .non=>some .none
 | .bl b=>some (.bool b)
 | .int i=>some (.int i)
 | .str x=>some (.str x)
 | .tup ds=>(cS ds).map .tuple
 | .lst ds=>(cS ds).map .list
 | _=>none
def cS:List D->Option (List PyData)
 | []=>some []
 | d::ds=>match bE d,cS ds with
  | some p,some ps=>some (p::ps)
  | _,_=>none
end
section
variable {X:Cx}{aA:LAO}{σ:L2.St}{F H:Hp}{s:Shared}
mutual
theorem nE(I:Inv X aA σ H s)(sF:aG F H):∀ (d:D) (p:PyData) (v:V) (u:Value),aD X.K F d v->aL v u->bE d=some p->(∃ as,Reads s.heap u p as)/\p.canLay0=true
 | .non,p,v,u,h,r,e=>by simp only[aD] at h;subst h;cases r;simp only[bE] at e;cases e;exact ⟨⟨_,.none⟩,rfl⟩
 | .bl b,p,v,u,h,r,e=>by simp only[aD] at h;subst h;cases r;simp only[bE] at e;cases e;exact ⟨⟨_,.bool b⟩,rfl⟩
 | .int i,p,v,u,h,r,e=>by simp only[aD] at h;subst h;obtain ⟨t,rfl⟩:=r;simp only[bE] at e;cases e;exact ⟨⟨_,.int i t⟩,rfl⟩
 | .str x,p,v,u,h,r,e=>by simp only[aD] at h;obtain ⟨rfl,_,hk⟩:=h;obtain ⟨t,rfl⟩:=r;simp only[bE] at e;cases e;exact ⟨⟨_,.str x t⟩,by simpa only [PyData.canLay0] using hk⟩
 | .tup ds,p,v,u,h,r,e=>by
  simp only[aD] at h;obtain ⟨a,xs,rfl,q,rl⟩:=h;cases r;simp only[bE] at e;cases ep:cS ds with
  | none=>rw[ep] at e;cases e
  | some ps=>rw[ep] at e;cases e;obtain ⟨its,rv,⟨o,h1,h2,n,h3⟩,_⟩:=I.tuple (aG.seqT sF q);obtain ⟨⟨as,ra⟩,hc⟩:=nF I sF ds ps xs its rl rv ep;exact ⟨⟨_,.tuple h1 h2 h3 (by simpa using ra)⟩,by simpa only [PyData.canLay0] using hc⟩
 | .lst ds,p,v,u,h,r,e=>by
  simp only[aD] at h;obtain ⟨a,xs,rfl,q,rl⟩:=h;cases r;simp only[bE] at e;cases ep:cS ds with
  | none=>rw[ep] at e;cases e
  | some ps=>rw[ep] at e;cases e;obtain ⟨its,rv,⟨o,n,h1,h2,_,h3⟩,_⟩:=I.list (sF.seq q);obtain ⟨⟨as,ra⟩,hc⟩:=nF I sF ds ps xs its rl rv ep;exact ⟨⟨_,.list h1 h2 h3 (by simpa using ra)⟩,by simpa only [PyData.canLay0] using hc⟩
 | .dct _,p,v,u,h,r,e=>by simp only[bE] at e;cases e
 | .ty _,p,v,u,h,r,e=>by simp only[bE] at e;cases e
 | .ob _,p,v,u,h,r,e=>by simp only[bE] at e;cases e
 | .ins _ _,p,v,u,h,r,e=>by simp only[bE] at e;cases e
 | .fn _,p,v,u,h,r,e=>by simp only[bE] at e;cases e
 | .exn _,p,v,u,h,r,e=>by simp only[bE] at e;cases e
 | .set _,p,v,u,h,r,e=>by simp only[bE] at e;cases e
theorem nF(I:Inv X aA σ H s)(sF:aG F H):∀ (ds:List D) (ps:List PyData) (xs:List V) (us:List Value),aE X.K F ds xs->aN xs us->cS ds=some ps->(∃ as,ReadsAll s.heap us ps as)/\PyData.canLayAll0 ps=true
 | [],ps,xs,us,h,r,e=>by simp only[aE] at h;subst h;cases r;simp only[cS] at e;cases e;exact ⟨⟨_,.nil⟩,rfl⟩
 | d::ds,ps,xs,us,h,r,e=>by
  simp only[aE] at h;obtain ⟨y,ys,rfl,hd,hl⟩:=h;cases r with
  | cons r1 r2 =>
   simp only[cS] at e;cases e1:bE d with
   | none=>rw[e1] at e;cases e
   | some p =>
    cases e2:cS ds with
    | none=>rw[e1,e2] at e;cases e
    | some ps'=>rw[e1,e2] at e;cases e;obtain ⟨⟨as,ra⟩,hc⟩:=nE I sF d p y _ hd r1 e1;obtain ⟨⟨bs,rb⟩,hc'⟩:=nF I sF ds ps' ys _ hl r2 e2;exact ⟨⟨_,.cons ra rb⟩,by simp only[PyData.canLayAll0,hc,hc',Bool.and_self]⟩
end
theorem uS(I:Inv X aA σ H s)(sF:aG F H){m:Md}{d:D}{p:PyData}{v:V}{u:Value}(h:Rp X.K F H m d v)(r:aL v u)(e:bE d=some p):(∃ as,Reads s.heap u p as)/\p.canLay0=true:=by
 cases m with
 | fz=>exact nE I sF d p v u h r e
 | _ =>
  obtain ⟨a,rfl,n,t⟩:=h;cases d with
  | lst ds =>
   obtain ⟨xs,q,rl⟩:=t;cases r;simp only[bE] at e;cases ep:cS ds with
   | none=>rw[ep] at e;cases e
   | some ps=>rw[ep] at e;cases e;obtain ⟨its,rv,⟨o,n,h1,h2,_,h3⟩,_⟩:=I.list (SqL.of q);obtain ⟨⟨as,ra⟩,hc⟩:=nF I sF ds ps xs its rl rv ep;exact ⟨⟨_,.list h1 h2 h3 (by simpa using ra)⟩,by simpa only [PyData.canLay0] using hc⟩
  | dct ds=>simp only[bE] at e;cases e
  | ins _ _=>simp only[bE] at e;cases e
  | set _=>simp only[bE] at e;cases e
  | _=>exact t.elim
end
def d9(p:PyData):Bool:=decide (p.depth<=50)
def eqF(neg:Bool):Md->D->Md->D->Option (Md×D):=λ_ x _ y=>match bE x,bE y with
 | some p,some q=>if (d9 p&&d9 q)=true then some (.fz,.bl (if neg then !PyData.eqv p q else PyData.eqv p q)) else none
 | _,_=>none
section
variable {C:Cw}{X:Cx}
theorem uT{f:Value->Value->Sem Value}{neg:Bool}(hu:X.A.units+64<cLine)(rule:∀ (s:Shared) (a b:Value) (da db:PyData) (as bs:List Addr) (Q:VSP),Reads s.heap a da as->Reads s.heap b db bs->da.canLay0=true->db.canLay0=true->X.A.units+min da.depth db.depth<cLine->Q (.bool (if neg then !PyData.eqv da db else PyData.eqv da db)) s->wpAny (model X.prog X.w) X.A (f a b) Q X.xe s):OpD C X f (eqF neg):=by
 refine ⟨λx y H Q=>∃ F m n d e p q,aG F H/\Rp X.K F H m d x/\Rp X.K F H n e y/\bE d=some p/\bE e=some q/\(d9 p&&d9 q)=true/\Q (.bl (if neg then !PyData.eqv p q else PyData.eqv p q)) H,?_,?_⟩
 . intro aA s σ H x y v u Q I rx ry h;obtain ⟨F,m,n,d,e,p,q,sF,hd,he,ep,eq,hs,hQ⟩:=h;obtain ⟨⟨as,ra⟩,ca⟩:=uS I sF hd rx ep;obtain ⟨⟨bs,rb⟩,cb⟩:=uS I sF he ry eq;rw[aOX] at hs;have h1:=aPG hs.1;refine rule s v u p q as bs _ ra rb ca cb (by have:=Nat.min_le_left p.depth q.depth;omega) ⟨.bl _,H,I,rfl,hQ⟩
 . intro F H m x n y v u k d Q s rx ry e w;unfold eqF at e;split at e
   . rename_i p q ep eq;split at e
     . rename_i hc;cases e;exact ⟨F,m,n,x,y,p,q,s,rx,ry,ep,eq,hc,w _ F H (.refl s) (cG _) (by intro z;cases z)⟩
     . cases e
   . cases e
theorem aE9(hu:X.A.units+64<cLine):OpD C X (compareOp .Eq) (eqF false):=uT hu λs a b da db as bs Q ra rb ca cb hd q=>SeqAt.compareEq_reads ra rb ca cb hd q
theorem aFA(hu:X.A.units+64<cLine):OpD C X (compareOp .NotEq) (eqF true):=uT hu λs a b da db as bs Q ra rb ca cb hd q=>SeqAt.compareNe_reads ra rb ca cb hd q
end
section
variable {C:Cw}{X:Cx}{o e:Expr}{es:List Expr}{go:Rho->Res}{gs:Rho->aW}{apos cpos:Pos}{T id:String}{name:Str}
end
def spV(K:Fg)(mg:SOV)(n:Nat)(Φ:List D->Res):Sp:=λvs H Q E=>vs.length=n/\∃ F ds,aG F H/\aE K F ds vs/\match Φ ds with
 | .ok m d=>m ≠ .bo/\∀ v F' H',aK F H F' H'->Rp K F' H' m d v->(m=.fr->∀ a,v=.ref a->H a=none)->Q v H'
 | .exc c=>∀ F' H' u,aK F H F' H'->mg c=some u->E u none H'
 | .stuck=>False
structure FnV(P:Program)(w:World)(K:Fg)(mg:SOV)(base:Heap)(CX:CXT)(k:Nat)(x:Str)(n:Nat)(Φ:List D->Res):Prop where
 ex:∃ f fd ps,c9 P w K mg base CX k f fd ps (spV K mg n Φ)/\mg x=some (.ref f)/\PySem.W.keepIn K (.ref f)=true/\fK K fd ps []
def aX(n:Nat)(Φ:List D->Res)(r:aW):Res:=r.thn λxs=>match cB xs with
 | some ds=>if ds.length=n then (match Φ ds with | .ok .bo _=>.stuck | r=>r) else .stuck
 | none=>.stuck
def XOk(CX:CXT)(C:Cw)(X:Cx):Prop:=∀ (aA:LAO) (σ:L2.St) (H:Hp) (s:Shared) (e:Value) (s':Shared),Inv X aA σ H s->CX X.stack H s (λu _ H'=>∃ c,X.mg c=some u/\C.EE c σ H') e s'->X.xe e s'
section
variable {C:Cw}{X:Cx}{e:Expr}{es:List Expr}{gs:Rho->aW}{p pos:Pos}{x:Str}{k n:Nat}{Φ:List D->Res}{CX:CXT}
theorem uU{f:Addr}{fd:FuncData}{ps:List Str}{aA:LAO}{σ:L2.St}{H:Hp}{s:Shared}{Q:VK}{us:List Value}{vs:List V}{E:XK}(F:c9 X.prog X.w X.K X.mg X.base CX k f fd ps (spV X.K X.mg n Φ))(hr:cN k X.A)(hb:fK X.K fd ps [])(hx:∀ e s',CX X.stack H s E e s'->X.xe e s')(I:Inv X aA σ H s)(r:aN vs us)(h:spV X.K X.mg n Φ vs H Q E):wpAny (model X.prog X.w) X.A (call (.ref f) us) (EP X aA σ Q) X.xe s:=by
 have hl:(us++[]).length=ps.length:=by rw[aN6,<- r.length];exact F.len _ _ _ _ h
 have hb':=hb s us I.kIn hl;rw[aN6] at hb';refine wpAny_call (codeAny_mono (F.run X.A X.stack s H ⟨us,[]⟩ us vs Q E hr I.env0 hb' r h) λr s' hq=>?_);cases r with
 | error e=>exact hx e s' hq
 | ok fl =>
  cases fl with
  | ret u=>exact I.after hq
  | next=>exact False.elim hq
  | brk=>exact False.elim hq
  | cont=>exact False.elim hq
theorem aFB(F:FnV X.prog X.w X.K X.mg X.base CX k x n Φ)(hr:cN k X.A)(hx:XOk CX (C.at X) X)(hg:Gl X x)(ha:PAv C X (e::es) gs)(hdb:(x==("__debug__" : Str))=false:=by decide)(he:starEach (e::es) X.env=(false,eval e X.env)::starEach es X.env:=by rfl)(hpl:(backTo pos (starEach es X.env)).any (·.1)=false:=by rfl):PV C X (.Call (.Name x p) (e::es) [] pos) (λρ=>aX n Φ (gs ρ)):=by
 obtain ⟨f,fd,ps,FF,hm,hk,hb⟩:=F.ex;intro aA s σ H Q I h;rw[aV] at h;obtain ⟨ρ,F,R,w⟩:=h;refine aOJ (kU I hg hm ?_ hdb);refine PySem.W.callWith_K (h₀:=X.base) I.ok.mod.kin hk (thn (ha pos aA s σ H (λvs H1=>spV X.K X.mg n Φ vs H1 Q λu _ H'=>∃ c,X.mg c=some u/\C.EE c σ H') I ?_) λus s1 ⟨vs,H1,I1,r,q⟩=>⟨I1.kIn,uU FF hr hb (λe s' hc=>hx aA σ H1 s1 e s' I1 hc) I1 r q⟩) he hpl;refine ⟨ρ,F,R,?_⟩;cases er:gs ρ with
 | stuck=>rw[er] at w;exact w
 | exc c=>rw[er] at w;exact w
 | ok xs =>
  rw[er] at w;intro vs F1 H1 s1 r1;have w1:aT (C.at X) F1 H1 σ (aX n Φ (.ok xs)) Q:=aT.step s1 w;unfold aX at w1;rw[aW.thn_ok] at w1;cases ef:cB xs with
  | none=>rw[ef] at w1;exact w1.elim
  | some ds =>
   rw[ef] at w1;dsimp only at w1;split at w1
   . rename_i hn;have rl:=r1.fz ef;refine ⟨by rw[rl.length];exact hn,F1,ds,s1.sub,rl,?_⟩
     cases ep:Φ ds with
     | stuck=>rw[ep] at w1;exact w1
     | exc c=>rw[ep] at w1;exact λF' H' u st hu=>⟨c,hu,w1 F' H' st⟩
     | ok m d =>
      rw[ep] at w1;cases m with
      | bo=>exact w1.elim
      | fz=>exact ⟨by decide,w1⟩
      | fr=>exact ⟨by decide,w1⟩
   . exact w1.elim
end
def endR:aF->Res
 | .nx _=>.ok .fz .non
 | .rt m d=>.ok m d
 | .exc c _=>.exc c
 | _=>.stuck
def fB(n:Nat)(ds:List D):Rho:=ds.map (λd=>some (false,d))++List.replicate (n-ds.length) none
theorem aFC{K:Fg}{F H:Hp}{N:List Str}{ds:List D}{vs:List V}(s:aG F H)(r:aE K F ds vs):aS K F H F H (eX N vs) (fB N.length ds):=by
 have low:∀ (i:Nat) (m:Bool) (d:D),(fB N.length ds)[i]? = some (some (m,d))->m=false/\∃ v,(eX N vs)[i]? = some (some v)/\aD K F d v:=λi m d e=>by
  unfold fB at e;unfold L2.eX;by_cases hi:i<ds.length
  . rw[aOD (by simpa using hi),aOE,aPV hi] at e
    cases e;obtain ⟨v,ev,rv⟩:=r.get' (aPV hi);exact ⟨rfl,v,by rw[aOD (by simpa[r.length] using hi),aOE,ev];rfl,rv⟩
  . rw[aOB (by simpa using hi),aOC] at e
    split at e <;> cases e
 refine ⟨.refl s,λi m d e=>?_,λi j d d' a _ e1 _ _ _=>?_,by simp[L2.eX,fB,r.length]⟩
 . obtain ⟨rfl,v,e1,rv⟩:=low i m d e;exact ⟨v,e1,rv,by intro z;cases z⟩
 . have:=(low i true d e1).1;cases this
def nG(ns:List Int):List D:=[.lst (ns.map .int)]
theorem uV{K:Fg}{F:Hp}:∀ ns:List Int,aE K F (ns.map D.int) (ns.map V.int)
 | []=>aE.nil
 | n::ns=>aE.cons (by simp only[aD]) (uV ns)
def noK:Md->D->Md->D->Option (Md×D):=λ_ _ _ _=>none
abbrev fAdd:Md->D->Md->D->Option (Md×D):=orO (fI (λ_ _=>true) λi j=>.int (i+j)) (fS (λi j=>decide (i.length+j.length<=sizeLine)) λi j=>.str (i++j))
abbrev fSub:Md->D->Md->D->Option (Md×D):=fI (λ_ _=>true) λi j=>.int (i-j)
abbrev fMul:Md->D->Md->D->Option (Md×D):=orO (fI (λi j=>(cH i&&cH j)||(w64 i||w64 j)) λi j=>.int (i * j)) pL
abbrev fMod:Md->D->Md->D->Option (Md×D):=fI (λ_ j=>decide (0<j)) λi j=>.int (i % j)
abbrev fDiv:Md->D->Md->D->Option (Md×D):=fI (λ_ j=>decide (0<j)&&cH j) λi j=>.int (i / j)
abbrev fPow:Md->D->Md->D->Option (Md×D):=fI (λi j=>decide (0<=j)&&decide (j<=1000000)&&decide (i.natAbs<2 ^ 64)) λi j=>.int (i ^ j.toNat)
abbrev fLt:Md->D->Md->D->Option (Md×D):=fI (λ_ _=>true) λi j=>.bl (decide (i<j))
abbrev fLe:Md->D->Md->D->Option (Md×D):=fI (λ_ _=>true) λi j=>.bl (decide (i<=j))
abbrev fGt:Md->D->Md->D->Option (Md×D):=fI (λ_ _=>true) λi j=>.bl (decide (j<i))
abbrev fGe:Md->D->Md->D->Option (Md×D):=fI (λ_ _=>true) λi j=>.bl (decide (j<=i))
abbrev fEq:Md->D->Md->D->Option (Md×D):=orO (eqF false) noK
abbrev fNe:Md->D->Md->D->Option (Md×D):=orO (eqF true) noK
abbrev fIn:Md->D->Md->D->Option (Md×D):=fS (λ_ _=>true) λi j=>.bl (jP i j)
abbrev aFD:Md->D->Md->D->Option (Md×D):=fS (λ_ _=>true) λi j=>.bl (!jP i j)
def IsB(φ:Md->D->Md->D->Option (Md×D)):Prop:=∀ m x n y k d,φ m x n y=some (k,d)->∃ t,k=.fz/\d=.bl t
theorem nH{c:Int->Int->Bool}{g:Int->Int->Bool}:IsB (fI c λi j=>.bl (g i j)):=λm x n y k d e=>by
 unfold fI at e;split at e
 . split at e
   . cases e;exact ⟨_,rfl,rfl⟩
   . cases e
 . cases e
theorem uW{c:Str->Str->Bool}{g:Str->Str->Bool}:IsB (fS c λi j=>.bl (g i j)):=λm x n y k d e=>by
 unfold fS at e;split at e
 . split at e
   . cases e;exact ⟨_,rfl,rfl⟩
   . cases e
 . cases e
theorem lE{φ ψ}(h:IsB φ)(h':IsB ψ):IsB (orO φ ψ):=λm x n y k d e=>by
 unfold orO at e;cases e1:φ m x n y with
 | none=>rw[e1] at e;exact h' _ _ _ _ _ _ e
 | some p=>rw[e1] at e;cases e;exact h _ _ _ _ _ _ e1
theorem uX{neg:Bool}:IsB (eqF neg):=λm x n y k d e=>by
 unfold eqF at e;split at e
 . split at e
   . cases e;exact ⟨_,rfl,rfl⟩
   . cases e
 . cases e
section
variable {C:Cw}{X:Cx}
theorem pO{f:Value->Value->Sem Value}:OpD C X f noK:=⟨λ_ _ _ _=>False,λ_ _ _ _ _ _ _ _ _ _ _ _ h=>h.elim,λ_ _ _ _ _ _ _ _ _ _ _ _ _ _ e _=>by cases e⟩
theorem o_add:OpD C X (binaryOp .Add) fAdd:=aDL.or aDX
theorem o_mul:OpD C X (binaryOp .Mult) fMul:=aDO.or aED
theorem o_eq(hu:X.A.units+64<cLine):OpD C X (compareOp .Eq) fEq:=(aE9 hu).or pO
theorem o_ne(hu:X.A.units+64<cLine):OpD C X (compareOp .NotEq) fNe:=(aFA hu).or pO
def phi(n N:Nat)(g:Rho->aF):List D->Res:=λds=>if ds.length=n then endR (g (fB N ds)) else .stuck
end
def jV(scope sc:Scope):List (Str×NameKind):=scope.names.map λ(n,k)=>if (k == .free&&sc.kind == .function&&sc.names.lookup n==some .cell) then (n,.cell) else (n,k)
theorem aFE:bootBuiltins "len" = some (.builtin "len"):=by decide +kernel
theorem uY:bootBuiltins "isinstance" = some (.builtin "isinstance"):=by decide +kernel
theorem aFF:bootBuiltins "int" = some (.type "int"):=by decide +kernel
theorem aFG:bootBuiltins "bool" = some (.type "bool"):=by decide +kernel
theorem aFH:bootBuiltins "str" = some (.type "str"):=by decide +kernel
theorem aFI:bootBuiltins "tuple" = some (.type "tuple"):=by decide +kernel
theorem uZ:bootBuiltins "list" = some (.type "list"):=by decide +kernel
theorem aFJ:bootBuiltins "dict" = some (.type "dict"):=by decide +kernel
structure CI where
 name:Str
 ups:List Str
 flds:List Str
 meths:List (Str×Str×Nat)
def cW:Expr->Bool | .Starred ..=>false | _=>true
def aFK:Expr->Bool | .Call (.Name x _) [] [] _=>x != "super" | _=>true
theorem cX{x:Expr}{es:List Expr}{env:Env}(h:cW x=true):starEach (x::es) env=(false,eval x env)::starEach es env:=by cases x <;> first | rfl | cases h
theorem iU(pos:Pos)(env:Env):∀ {es:List Expr},(∀ x∈es,cW x=true)->(backTo pos (starEach es env)).any (·.1)=false
 | [],_=>rfl
 | x::es,h=>by rw[cX (h x mcs)];show ((false||(backTo pos (starEach es env)).any (·.1))=false);rw[iU pos env λy hy=>h y (mcm hy)];rfl
theorem u0(pos:Pos)(env:Env):∀ {es:List Expr},(∀ x∈es,cW x=true)->(backTo pos (starEach es env)).all (λx=>!x.1)=true
 | [],_=>rfl
 | x::es,h=>by rw[cX (h x mcs)];show ((true&&(backTo pos (starEach es env)).all (λx=>!x.1))=true);rw[u0 pos env λy hy=>h y (mcm hy)];rfl
theorem aFL{o:Expr}{n:Str}{env:Env}{w:Sem Value}(h:aFK o=true):attributeBase o n env w=w:=by
 cases o with
 | Call f as ks pos =>
  cases f with
  | Name x p =>
   cases as with
   | nil =>
    cases ks with
    | nil=>show (if x != "super" || n == "__class__" || env.kindOf "super" != some .globalImplicit||env.kindOf "__class__" != some .free then w else _)=w;have:(x != ("super" : Str))=true:=h;rw[if_pos (by rw[this];rfl)]
    | cons _ _=>rfl
   | cons _ _=>rfl
  | _=>rfl
 | _=>rfl
structure MtV(P:Program)(w:World)(K:Fg)(mg:SOV)(base:Heap)(CX:CXT)(k:Nat)(c m:Str)(n:Nat)(Φ:List D->Res):Prop where
 ex:∃ C f fd ps,PySem.W.nsIn K mainGlobals c=some (some (.ref C))/\Cls K C/\pG K C m f/\c9 P w K mg base CX k f fd ps (spV K mg n Φ)/\fK K fd ps []
structure FlV(K:Fg)(c f:Str):Prop where
 ex:∃ C,PySem.W.nsIn K mainGlobals c=some (some (.ref C))/\Cls K C/\pF K C f
def CI.meth(cl:List CI)(c m:Str):Option (Str×Nat):=match cl.find? (λi=>i.name==c) with
 | some i=>i.meths.lookup m
 | none=>none
section
variable {C:Cw}{X:Cx}{o e:Expr}{es:List Expr}{go:Rho->Res}{gs:Rho->aW}{apos pos:Pos}{m f:Str}{k:Nat}{Φ:Str->List D->Res}{CX:CXT}{cl:List CI}
end
theorem aS.mut{K:Fg}{F0 H0 F H:Hp}{σ:L2.St}{ρ:Rho}{i:Nat}{d d':D}{a:Addr}{o:HO}(R:aS K F0 H0 F H σ ρ)(e:ρ[i]? = some (some (true,d)))(ev:σ[i]? = some (some (.ref a)))(t:Top K F (upd H a o) a d'):aS K F0 H0 F (upd H a o) σ (ρ.set i (some (true,d'))):=by
 obtain ⟨v,ev',rp,hn⟩:=R.slot i true d e;rw[ev] at ev';cases ev';have h0:H0 a=none:=hn rfl a rfl;obtain ⟨a',ea,hf,tt⟩:=rp;cases ea;have hl:i<ρ.length:=(aNN.mp e).1;have st:aK F0 H0 F (upd H a o):=⟨λb u q=>by rw[aO (cV q h0)];exact R.st.same b u q,R.st.fsame,λb u q=>by rw[aO (cV q hf)];exact R.st.sub b u q,R.st.new⟩
 refine ⟨st,λj m d2 e2=>?_,λj l d1 d2 b hjl e1 e2 q1 q2=>?_,by rw[aO1];exact R.len⟩
 . by_cases hj:j=i
   . subst hj;rw[aNP hl] at e2;cases e2;exact ⟨.ref a,ev,⟨a,rfl,hf,t⟩,λ_ b eb=>by cases eb;exact h0⟩
   . rw[aNQ (λz=>hj z.symm)] at e2;obtain ⟨u,eu,ru,hu⟩:=R.slot j m d2 e2;refine ⟨u,eu,?_,hu⟩;cases m with
     | false=>exact ru
     | true =>
      obtain ⟨b,eb,hb,tb⟩:=ru;subst eb;have hba:b≠a:=λz=>by subst z;exact R.apart j i d2 d b hj e2 e eu ev
      refine ⟨b,rfl,hb,?_⟩;cases d2 with
      | lst ds=>obtain ⟨xs,q,r⟩:=tb;exact ⟨xs,by rw[aO hba];exact q,r⟩
      | dct ds=>obtain ⟨xs,q,r⟩:=tb;exact ⟨xs,by rw[aO hba];exact q,r⟩
      | ins c fs=>obtain ⟨C,dx,gs,n,q,r⟩:=tb;exact ⟨C,dx,gs,n,by rw[aO hba];exact q,r⟩
      | set ks=>obtain ⟨S,q,r⟩:=tb;exact ⟨S,by rw[aO hba];exact q,r⟩
      | _=>exact tb.elim
 . have back:∀ (l:Nat) (d2:D),(ρ.set i (some (true,d')))[l]? = some (some (true,d2))->∃ d3,ρ[l]? = some (some (true,d3)):=λl d2 q=>by
     by_cases hl':l=i
     . subst hl';exact ⟨d,e⟩
     . rw[aNQ (λz=>hl' z.symm)] at q;exact ⟨d2,q⟩
   obtain ⟨d3,q3⟩:=back j d1 e1;obtain ⟨d4,q4⟩:=back l d2 e2;exact R.apart j l d3 d4 b hjl q3 q4 q1 q2
section
variable {C:Cw}{X:Cx}{e:Expr}{g:Rho->Res}{pos p pos':Pos}{f x:Str}{cl:List CI}
end
structure MkV0(K:Fg)(mg:SOV)(c:Str):Prop where
 ex:∃ C,PySem.W.nsIn K mainGlobals c=some (some (.ref C))/\mg c=some (.ref C)/\PySem.W.makesIn K C=true/\PySem.W.findIn K (.ref C) "__init__" = some (some (.builtin "object.__init__"))/\PySem.W.keepIn K (.ref C)=true
def spI(K:Fg)(mg:SOV)(c:Str)(n:Nat)(Φ:List D->Res):Sp:=λvs H Q E=>∃ x us dx C H1 F ds,vs=.ref x::us/\us.length=n/\PySem.W.nsIn K mainGlobals c=some (some (.ref C)) /\
 H=upd (upd H1 dx (.own x)) x (.ins C dx [])/\H1 x=none/\H1 dx=none/\dx≠x/\aG F H1/\aE K F ds us/\match Φ ds with
 | .ok _ d=>∀ F' H',aK F H1 F' H'->Rp K F' H' .fr d (.ref x)->Q .non H'
 | .exc c=>∀ F' H' u,aK F H1 F' H'->mg c=some u->E u none H'
 | .stuck=>False
structure InV(P:Program)(w:World)(K:Fg)(mg:SOV)(base:Heap)(CX:CXT)(k:Nat)(c:Str)(n:Nat)(Φ:List D->Res):Prop where
 ex:∃ C f fd ps,PySem.W.nsIn K mainGlobals c=some (some (.ref C))/\mg c=some (.ref C)/\Mk K C f/\c9 P w K mg base CX k f fd ps (spI K mg c n Φ)/\fK K fd ps []
section
variable {C:Cw}{X:Cx}{e:Expr}{es:List Expr}{gs:Rho->aW}{p pos:Pos}{x c:Str}{k n:Nat}{Φ:List D->Res}{CX:CXT}
end
structure IsV(K:Fg)(mg:SOV)(cl:List CI)(c:Str):Prop where
 ex:∃ C,mg c=some (.ref C)/\(∀ t∈["NoneType", "bool", "int", "str", "tuple", "list", "dict"],PySem.W.kitOne K (.type t) (.ref C)=some false) /\
  ∀ i∈cl,∃ C',PySem.W.nsIn K mainGlobals i.name=some (some (.ref C'))/\Cls K C'/\PySem.W.findIn K (.ref C') "__class__" = some (some (.builtin "object.__class__")) /\
   PySem.W.specialIn K (.builtin "object.__class__") "__get__" = some (some (.builtin "getset_descriptor.__get__"))/\PySem.W.takesIn K (.builtin "object.__class__")=some true/\PySem.W.mroIn K C' (.type "object")=some true /\
   PySem.W.kitOne K (.ref C') (.ref C)=some (i.ups.contains c)
section
variable {C:Cw}{X:Cx}{e:Expr}{g:Rho->Res}{p q pos:Pos}{c:Str}{cl:List CI}
end
section
variable {C:Cw}{X:Cx}{a b c e:Expr}{ga gb gc g:Rho->Res}{gs:Rho->aW}{pos:Pos}
def fC:D->Bool | .non=>true | _=>false
theorem u3{K:Fg}{F H:Hp}{m:Md}{d:D}{v:V}(s:aG F H)(r:Rp K F H m d v):decide (v=.non)=fC d:=by
 cases d with
 | non=>cases r.non;rfl
 | bl _=>cases r.bl;rfl
 | int _=>cases r.int;rfl
 | str _=>cases r.str.1;rfl
 | tup _=>obtain ⟨_,_,rfl,_⟩:=r.seqT s;rfl
 | lst _=>obtain ⟨_,_,rfl,_⟩:=r.seqL s;rfl
 | dct _=>obtain ⟨_,_,rfl,_⟩:=r.dict s;rfl
 | ty _=>cases r.ty;rfl
 | ob _=>cases r.ob;rfl
 | ins _ _=>obtain ⟨_,_,_,_,rfl,_⟩:=r.ins s;rfl
 | fn _ =>
  cases m with
  | fz=>have r:aD K F _ v:=r;simp only[aD] at r;obtain ⟨_,rfl,_⟩:=r;rfl
  | fr=>obtain ⟨_,_,_,q⟩:=r;exact q.elim
  | bo=>obtain ⟨_,_,_,q⟩:=r;exact q.elim
 | exn _ =>
  cases m with
  | fz=>have r:aD K F _ v:=r;simp only[aD] at r;obtain ⟨_,_,rfl,_⟩:=r;rfl
  | fr=>obtain ⟨_,_,_,q⟩:=r;exact q.elim
  | bo=>obtain ⟨_,_,_,q⟩:=r;exact q.elim
 | set _ =>
  cases m with
  | fz=>have r:aD K F _ v:=r;simp only[aD] at r;obtain ⟨_,_,rfl,_⟩:=r;rfl
  | fr=>obtain ⟨_,rfl,_,_⟩:=r;rfl
  | bo=>obtain ⟨_,rfl,_,_⟩:=r;rfl
def fIs(neg:Bool):Md->D->Md->D->Option (Md×D):=λ_ x _ y=>match y with
 | .non=>some (.fz,.bl (if neg then !fC x else fC x))
 | _=>none
theorem aFM:OpD C X (compareOp .Is) (fIs false):=by
 refine ⟨_,aBU,λF H m x n y v u k d Q s rx ry e w=>?_⟩;unfold fIs at e;split at e
 . cases e;cases ry.non;exact ⟨rfl,by rw[u3 s rx];exact w _ F H (.refl s) (cG _) (by intro z;cases z)⟩
 . cases e
theorem aFN:OpD C X (compareOp .IsNot) (fIs true):=by
 refine ⟨_,aBV,λF H m x n y v u k d Q s rx ry e w=>?_⟩;unfold fIs at e;split at e
 . cases e;cases ry.non;exact ⟨rfl,by rw[u3 s rx];exact w _ F H (.refl s) (cG _) (by intro z;cases z)⟩
 . cases e
theorem u4{neg:Bool}:IsB (fIs neg):=λm x n y k d e=>by
 unfold fIs at e;split at e
 . cases e;exact ⟨_,rfl,rfl⟩
 . cases e
theorem aFO:OpR X (binaryOp .Add) (λx y H Q=>∃ l b xs ys,x=.ref l/\y=.ref b/\SqL X.K H l xs/\SqL X.K H b ys/\xs.length+ys.length<=sizeLine/\∀ p,H p=none->Q (.ref p) (upd H p (.lst (xs++ys)))):=by
 intro aA s σ H x y v u Q I rx ry h;obtain ⟨l,b,xs,ys,rfl,rfl,hl,hb,hz,q⟩:=h;cases rx;cases ry;obtain ⟨its,r1,p1,_⟩:=I.list hl;obtain ⟨its2,r2,p2,_⟩:=I.list hb;obtain ⟨⟨cls,dd,data,sl⟩,n,ho,hc,hd1,hd⟩:=p1;obtain ⟨⟨cls2,dd2,data2,sl2⟩,n2,ho2,hc2,hd2',hd2⟩:=p2;simp only at hc hd hc2 hd2;subst hc hd hc2 hd2;have e:its.toArray++its2.toArray=(its++its2).toArray:=by simp
 have l1:=r1.length;have l2:=r2.length;refine aOK ⟨_,ho,rfl⟩ ⟨_,ho2,rfl⟩ noFill_list_add seq_list_add PySem.F.slot_list_add PySem.F.entry_list_add (PySem.F.args_list_add_2 _ _) (list_addW l b its.toArray its2.toArray n n2 dd dd2 sl sl2 (by simp;omega)) ⟨ho,ho2,?_⟩
 rw[e];refine ⟨.ref s.heap.objs.size,_,I.laid (t':=s.toks) (o:=.lst (xs++ys)) (λb ob q=>hps q) (aNY _) ?_,rfl,q _ (I.hok.fresh (aNY _))⟩;exact ⟨by rw[aOH];exact hz,_,0,r1.append r2,aM9 _ rfl⟩
theorem aFP:OpR X (binaryOp .Add) (λx y H Q=>∃ l b xs ys,x=.ref l/\y=.ref b/\SqT X.K H l xs/\SqT X.K H b ys/\xs.length+ys.length<=sizeLine/\(xs=[]->Q (.ref b) H)/\(xs≠[]->ys=[]->Q (.ref l) H)/\(xs≠[]->ys≠[]->∀ p,H p=none->Q (.ref p) (upd H p (.tup (xs++ys))))):=by
 intro aA s σ H x y v u Q I rx ry h;obtain ⟨l,b,xs,ys,rfl,rfl,hl,hb,hz,q0,q1,q2⟩:=h;cases rx;cases ry;obtain ⟨its,r1,p1,_⟩:=I.tuple hl;obtain ⟨its2,r2,p2,_⟩:=I.tuple hb;have n1:=r1.nil_iff;have n2:=r2.nil_iff;have l1:=r1.length;have l2:=r2.length;by_cases hv:its=[]
 . obtain ⟨⟨cls,dd,data,sl⟩,ho,hc,n,hd⟩:=id p1;obtain ⟨⟨cls2,dd2,data2,sl2⟩,ho2,hc2,n2',hd2⟩:=id p2;simp only at hc hd hc2 hd2;subst hc hd hc2 hd2;exact aOK ⟨_,ho,rfl⟩ ⟨_,ho2,rfl⟩ aOL seq_tuple_add aOM aON (aOO _ _)
     (tuple_addW0 l b its.toArray its2.toArray n n2' dd dd2 sl sl2 (by simp[hv])) ⟨ho,ho2,⟨.ref b,H,I,rfl,q0 (n1.mp hv)⟩⟩
 . refine HT.aCA p1 p2 hv (λz=>⟨.ref l,H,I,rfl,q1 (λw=>hv (n1.mpr w)) (n2.mp z)⟩) (λz=>?_) (by omega)
   refine ⟨.ref s.heap.objs.size,_,I.laid (t':=s.toks) (o:=.tup (xs++ys)) (λb ob q=>hps q) (aNY _) ?_,rfl,q2 (λw=>hv (n1.mpr w)) (λw=>z (n2.mpr w)) _ (I.hok.fresh (aNY _))⟩;exact ⟨by rw[aOH];exact hz,_,r1.append r2,fZ.new _ _⟩
def nI:Md->D->Md->D->Option (Md×D):=λm x n y=>match x,y with
 | .lst xs,.lst ys=>if xs.length+ys.length<=sizeLine then some (.fr,.lst (xs++ys)) else none
 | .tup xs,.tup ys=>if xs.length+ys.length<=sizeLine then some (.fz,.tup (xs++ys)) else none
 | _,_=>none
theorem aE.nilIff{K:Fg}{F:Hp}{ds:List D}{xs:List V}(h:aE K F ds xs):xs=[]↔ds=[]:=by
 have:=h.length;constructor
 . intro e;subst e;cases ds with | nil=>rfl | cons _ _=>simp at this
 . intro e;subst e;cases xs with | nil=>rfl | cons _ _=>simp at this
theorem aFQ:OpD C X (binaryOp .Add) nI:=by
 refine ⟨_,aFO.or aFP,λF H m x n y v u k d Q s rx ry e w=>?_⟩;unfold nI at e;split at e
 . rename_i xs ys;split at e
   . rename_i hz;cases e;obtain ⟨a,us,rfl,q1,r1⟩:=rx.seqL s;obtain ⟨b,vs,rfl,q2,r2⟩:=ry.seqL s;refine .inl ⟨a,b,us,vs,rfl,rfl,q1,q2,by rw[r1.length,r2.length];exact hz,λp hp=>?_⟩
     exact w (.ref p) F _ (aK.fresh _ s hp) ⟨p,rfl,s.free hp,_,bQ,r1.append r2⟩ λ_ a ea=>by cases ea;exact hp
   . cases e
 . rename_i xs ys;split at e
   . rename_i hz;cases e;have ex:=rx;have ey:=ry;obtain ⟨a,us,rfl,q1,r1⟩:=rx.seqT s;obtain ⟨b,vs,rfl,q2,r2⟩:=ry.seqT s;have fz:∀ {m:Md} {zs:List D} {c:Addr},Rp X.K F H m (.tup zs) (.ref c)->aD X.K F (.tup zs) (.ref c):=λ{m zs c} h=>by
       cases m with
       | fz=>exact h
       | fr=>obtain ⟨_,_,_,q⟩:=h;exact q.elim
       | bo=>obtain ⟨_,_,_,q⟩:=h;exact q.elim
     refine .inr ⟨a,b,us,vs,rfl,rfl,q1,q2,by rw[r1.length,r2.length];exact hz,λz=>?_,λ_ z=>?_,λ_ _ p hp=>?_⟩
     . have:xs=[]:=r1.nilIff.mp z;subst this;exact w (.ref b) F H (.refl s) (fz ey) (by intro z;cases z)
     . have:ys=[]:=r2.nilIff.mp z;subst this;rw[aN6] at w;exact w (.ref a) F H (.refl s) (fz ex) (by intro z;cases z)
     . exact w (.ref p) _ _ (aK.laid (.tup (us++vs)) s hp) (aD.tup_of (s.free hp) (r1.append r2)) (by intro z;cases z)
   . cases e
 . cases e
def cY:D->Bool | .non | .bl _ | .int _ | .str _=>true | _=>false
def eqD:D->D->Bool
 | .non,.non=>true
 | .bl a,.bl b=>a==b
 | .bl a,.int b=>(if a then 1 else 0)==b
 | .int a,.bl b=>a==(if b then 1 else 0)
 | .int a,.int b=>a==b
 | .str a,.str b=>a==b
 | _,_=>false
def jW(neg:Bool):Md->D->Md->D->Option (Md×D):=λ_ x _ y=>match y with
 | .lst ys=>if (cY x&&ys.all cY)=true then some (.fz,.bl (if neg then !(ys.any λy=>eqD y x) else (ys.any λy=>eqD y x))) else none
 | .tup ys=>if (cY x&&ys.all cY)=true then some (.fz,.bl (if neg then !(ys.any λy=>eqD y x) else (ys.any λy=>eqD y x))) else none
 | _=>none
def vOf:D->V | .non=>.non | .bl b=>.bl b | .int i=>.int i | .str x=>.str x | _=>.non
theorem pP{K:Fg}{F H:Hp}{m:Md}{d:D}{v:V}(h:cY d=true)(r:Rp K F H m d v):v=vOf d:=by
 cases d with
 | non=>exact r.non
 | bl _=>exact r.bl
 | int _=>exact r.int
 | str _=>exact r.str.1
 | _=>cases h
theorem pQ{K:Fg}{F:Hp}:∀ {ds:List D} {xs:List V},ds.all cY=true->aE K F ds xs->xs=ds.map vOf
 | [],_,_,r=>by simp only[aE] at r;exact r
 | d::ds,_,h,r=>by simp only[aE] at r;obtain ⟨y,ys,rfl,r1,r2⟩:=r;rw[aO4,aOX] at h;rw[aO9,pP (H:=F) (m:=.fz) h.1 r1,pQ h.2 r2]
theorem pR{d:D}(h:cY d=true):fL (vOf d)=true:=by cases d <;> first | rfl | cases h
theorem aFR{x y:D}(hx:cY x=true)(hy:cY y=true):eqV (vOf x) (vOf y)=eqD x y:=by cases x <;> cases y <;> first | rfl | (cases hx;done) | (cases hy;done)
theorem pS{x:D}(hx:cY x=true):∀ {ds:List D},ds.all cY=true->inV (vOf x) (ds.map vOf)=ds.any λy=>eqD y x
 | [],_=>rfl
 | d::ds,h=>by rw[aO4,aOX] at h;show (eqV (vOf d) (vOf x)||inV (vOf x) (ds.map vOf))=(eqD d x||ds.any _);rw[aFR h.1 hx,pS hx h.2]
theorem pT:∀ {ds:List D},ds.all cY=true->(ds.map vOf).all fL=true
 | [],_=>rfl
 | d::ds,h=>by rw[aO4,aOX] at h;rw[aO9,aO4,pR h.1,pT h.2];rfl
theorem u5{neg:Bool}{f:Value->Value->Sem Value}(o:OpR X f (rIn X.K neg)):OpD C X f (jW neg):=by
 refine ⟨_,o,λF H m x n y v u k d Q s rx ry e w=>?_⟩;unfold jW at e;split at e
 . rename_i ys;split at e
   . rename_i hf;rw[aOX] at hf;cases e;obtain ⟨b,vs,rfl,q2,r2⟩:=ry.seqL s;have ev:=pP hf.1 rx;have es:=pQ hf.2 r2;subst ev;subst es;exact ⟨b,_,rfl,.inl q2,pR hf.1,pT hf.2,by rw[pS hf.1 hf.2];exact w _ F H (.refl s) (cG _) (by intro z;cases z)⟩
   . cases e
 . rename_i ys;split at e
   . rename_i hf;rw[aOX] at hf;cases e;obtain ⟨b,vs,rfl,q2,r2⟩:=ry.seqT s;have ev:=pP hf.1 rx;have es:=pQ hf.2 r2;subst ev;subst es;exact ⟨b,_,rfl,.inr q2,pR hf.1,pT hf.2,by rw[pS hf.1 hf.2];exact w _ F H (.refl s) (cG _) (by intro z;cases z)⟩
   . cases e
 . cases e
theorem u6{neg:Bool}:IsB (jW neg):=λm x n y k d e=>by
 unfold jW at e;split at e
 . split at e
   . cases e;exact ⟨_,rfl,rfl⟩
   . cases e
 . split at e
   . cases e;exact ⟨_,rfl,rfl⟩
   . cases e
 . cases e
def jX:List (Md×D)->Option (Md×D)
 | [(_,.lst ds)]=>some (.fz,.tup ds)
 | [(.fz,.tup ds)]=>some (.fz,.tup ds)
 | _=>none
def jY:List (Md×D)->Option (Md×D)
 | [(_,.lst ds)]=>some (.fr,.lst ds)
 | [(_,.tup ds)]=>some (.fr,.lst ds)
 | _=>none
def pU:List (Md×D)->Option (Md×D)
 | [(_,.int i)]=>some (.fz,.int i)
 | [(_,.bl b)]=>some (.fz,.int (if b then 1 else 0))
 | _=>none
def nJ(i:Int):Bool:=decide (i.natAbs.log2<1920)
def jZ(i:Int):Str:=Str.ofString (toString i)
def lF:List (Md×D)->Option (Md×D)
 | [(_,.int i)]=>if nJ i=true then some (.fz,.str (jZ i)) else none
 | _=>none
theorem aFS:dP X (.type "tuple") jX:=by
 refine ⟨_,aCX,λF H xs vs k d Q s rx e w=>?_⟩;unfold jX at e;split at e
 . rename_i m ds;cases e;obtain ⟨v,rfl,r⟩:=rx.one;obtain ⟨a,xs,rfl,q,rl⟩:=r.seqL s;exact ⟨a,xs,rfl,.inl ⟨q,λl hl=>w (.ref l) _ _ (aK.laid (.tup xs) s hl) (aD.tup_of (s.free hl) rl) (by intro z;cases z)⟩⟩
 . rename_i ds;cases e;obtain ⟨v,rfl,r⟩:=rx.one;have r0:=r;obtain ⟨a,xs,rfl,q,rl⟩:=r.seqT s;exact ⟨a,xs,rfl,.inr ⟨q,w (.ref a) F H (.refl s) r0 (by intro z;cases z)⟩⟩
 . cases e
theorem aFT:dP X (.type "list") jY:=by
 refine ⟨_,aCW,λF H xs vs k d Q s rx e w=>?_⟩;unfold jY at e;split at e
 . rename_i m ds;cases e;obtain ⟨v,rfl,r⟩:=rx.one;obtain ⟨a,xs,rfl,q,rl⟩:=r.seqL s;exact ⟨a,xs,rfl,.inl q,λl hl=>w (.ref l) F _ (aK.fresh _ s hl) ⟨l,rfl,s.free hl,xs,bQ,rl⟩ λ_ a ea=>by cases ea;exact hl⟩
 . rename_i m ds;cases e;obtain ⟨v,rfl,r⟩:=rx.one;obtain ⟨a,xs,rfl,q,rl⟩:=r.seqT s;exact ⟨a,xs,rfl,.inr q,λl hl=>w (.ref l) F _ (aK.fresh _ s hl) ⟨l,rfl,s.free hl,xs,bQ,rl⟩ λ_ a ea=>by cases ea;exact hl⟩
 . cases e
theorem aFU:dP X (.type "int") pU:=by
 refine ⟨_,aB3,λF H xs vs k d Q s rx e w=>?_⟩;unfold pU at e;split at e
 . cases e;obtain ⟨v,rfl,r⟩:=rx.one;cases r.int;exact .inl ⟨_,rfl,w _ F H (.refl s) (cO _) (by intro z;cases z)⟩
 . cases e;obtain ⟨v,rfl,r⟩:=rx.one;cases r.bl;exact .inr ⟨_,rfl,w _ F H (.refl s) (cO _) (by intro z;cases z)⟩
 . cases e
end
theorem u7(i:Int):PyData.strOk (Str.ofString (toString i))=true:=by
 unfold PyData.strOk;rw[aPJ];intro c hc;have hc':c∈(Str.ofString (toString i)).cps.toList:=by rw[aPK];exact hc
 have:¬ (c≠45/\(c<48\/57<c)):=λh=>int_text_free' c h i hc';have hb:c<58:=by omega
 simp;omega
section
variable {X:Cx}
theorem aFV:dP X (.type "str") lF:=by
 refine ⟨_,aB4,λF H xs vs k d Q s rx e w=>?_⟩;unfold lF at e;split at e
 . rename_i m i;split at e
   . rename_i hs;cases e;obtain ⟨v,rfl,r⟩:=rx.one;cases r.int;have hl:i.natAbs.log2<1920:=aPG hs;have h1:(jZ i).length<=1921:=int_text_len_1921 hl;have hz:sizeLine=16777216:=aN4;exact ⟨i,rfl,hl,w _ F H (.refl s) (e9 ⟨by omega,u7 i⟩) (by intro z;cases z)⟩
   . cases e
 . cases e
end
theorem u8{C:Cw}{X:Cx}{T:String}{φ}{x:Str}{e:Expr}{es:List Expr}{gs:Rho->aW}{p pos:Pos}(o:dP X (.type T) φ)(hg:Gl X x)(hm:X.mg x=none)(hv:bootBuiltins x=some (.type T))(ha:PAv C X (e::es) gs)(hn:x ≠ "__name__")(hdb:(x==("__debug__" : Str))=false)(hst:∀ x∈e::es,cW x=true):PV C X (.Call (.Name x p) (e::es) [] pos) (λρ=>d8 φ (gs ρ)):=by obtain ⟨r,h1,h2⟩:=o;exact PE.imp (aB9 h1 hg hm hv ha hn hdb (cX (hst e mcs)) (iU _ _ λy hy=>hst y (mcm hy))) λσ H Q q=>uL h2 q
section
variable {prog:Program}{w:World}{A:Around}{E:VSP}{s:Shared}
theorem aFW{l:Addr}{items:Array Value}{Q:List Value->Shared->Prop}(hA:A.handled=none)(ht:s.heap.IsList l items)(h:∀ h',Heap.ExtBut s.heap.objs.size s.heap h'->∀ tk,Q items.toList { s with heap:=h',toks:=tk }):wpAny (model prog w) A (unpackItems (.ref l) items.size none) Q E s:=by
 unfold unpackItems notIterableAtAll;refine aNX (aNX (aPD ht.typeIs PySem.F.slot_list_iter.lookup ?_));refine aNW ?_;dsimp only;rw[if_neg aO3];refine aNX (aOT (wpAny_pyIter_list ht ?_));have hlt:l<s.heap.objs.size:=by obtain ⟨o,e,_⟩:=ht;exact aNA e
 have hne:l≠s.heap.objs.size:=aND hlt;have keep:∀ b o,s.heap.get? b=some o->(s.heap.push { cls:=Value.type "list_iterator", data:=Data.fields #[Value.ref l,Value.int 0 0] }).get? b=some o:=λb o q=>hps q;have ht':(s.heap.push { cls:=Value.type "list_iterator", data:=Data.fields #[Value.ref l,Value.int 0 0] }).IsList l items:=by obtain ⟨o,e,c⟩:=ht;exact ⟨o,keep l o e,c⟩
 have hi':(s.heap.push { cls:=Value.type "list_iterator", data:=Data.fields #[Value.ref l,Value.int 0 0] }).IsListIter s.heap.objs.size l 0:=⟨_,aM9 _ rfl,rfl,rfl⟩;refine aNX (aOT (PySem.W.kun_draw hne items.size 0 _ _ hi' ht' (by omega) λh' hi hsb=>?_))
 have ei:List.take items.size (List.drop 0 items.toList)=items.toList:=by rw[aP5];exact aP6 (by simp)
 rw[ei];rw[if_neg (by simp)]
 have hl2:h'.IsList l items:=by obtain ⟨o,e,c⟩:=ht';exact ⟨o,by rw[hsb.2 l hne];exact e,c⟩
 rw[aP7] at hi;refine aNX (aOT ((Walks.list hA s.heap.objs.size l hne items).done _ _ _ ⟨hi,hl2⟩ λh2 tk k2=>?_));rw[if_neg (by simp)]
 refine aNW (h h2 (λb o hb e=>k2 b o (by simpa using hb) ?_) tk)
 show h'.get? b=some o;rw[hsb.2 b hb];exact keep b o e
theorem aFX{env:Env}{elts:List Expr}{k:Nat}{pos:Pos}{l:Addr}{items:Array Value}{Q:Unit->Shared->Prop}(hA:A.handled=none)(ht:s.heap.IsList l items)(hn:(assignEach elts env).length=items.size)(hst:(assignEach elts env).findIdx? (·.1)=none)(h:∀ h',Heap.ExtBut s.heap.objs.size s.heap h'->∀ tk,wpAny (model prog w) A (assignInOrder ((assignEach elts env).map (·.2)) items.toList) Q E { s with heap:=h',toks:=tk }):wpAny (model prog w) A (assign (.Tuple elts k pos) env (.ref l)) Q E s:=by rw[assign_Tuple];refine aNX (aP2 ?_);unfold unpack;rw[hst,hn];exact aNX (aOT (aFW hA ht h))
theorem aFY{t sl:Addr}{items:Array Value}{vl vu:Value}{lo hi:Option Int}{Q:VSP}(ht:IsTup s.heap t items)(hs:s.heap.IsSliceOf sl vl vu .none)(pl:IsPart vl lo)(pu:IsPart vu hi)(h0:HT.sIx items.size 0 lo=0)(h1:HT.sIx items.size items.size hi=items.size)(h:Q (.ref t) s):wpAny (model prog w) A (getItem (.ref t) (.ref sl)) Q E s:=by
 obtain ⟨os,hos,hcs,hds⟩:=id hs;have tS:s.TypeIs (.ref sl) "slice" := ⟨os,hos,hcs⟩;unfold getItem
 try with_reducible refine aOT ?_
 first | refine aNX (aNW ?_) | skip
 refine aNX (wpAny_sequenceKey ht.typeIs (by decide) (aNX (aOU (name:=Str.ofString "__getitem__") ht.typeIs aOV (aOW aOV ht.typeIs entry_tuple_getitem ?_ (args_tuple_getitem _ _)))))
 show wpAny _ _ (Builtin.Tuple.tupleItemsOf (.ref t) >>= _) _ _ s;refine aNX (tupleItemsOf_ ht (aNX (wpAny_typeOf tS ?_)));rw[if_pos (by decide)]
 refine aNX (HT.tN hs pl pu ?_);have yes:(((HT.sIx items.size 0 lo:Nat):Int)==0&&(1:Int)==1&&(HT.sIx items.size items.size hi-HT.sIx items.size 0 lo)==items.size)=true:=by rw[h0,h1];simp
 show wpAny _ _ (if (((HT.sIx items.size 0 lo:Nat):Int)==0&&(1:Int)==1&&(HT.sIx items.size items.size hi-HT.sIx items.size 0 lo)==items.size)=true then _ else _) _ _ s;rw[if_pos yes];unfold Builtin.Tuple.tupleIsExact;refine aNX (aNX (wpAny_typeOf ht.typeIs (aNW ?_)));rw[if_pos (by decide)]
 refine aNX (wpAny_rule ?_)
 first
  | exact aNW ⟨_,rfl,aNW h⟩
  | exact ⟨_,rfl,aNW h⟩
end
section
variable {X:Cx}{pos:Pos}
def rSlW(K:Fg):V->Option Int->Option Int->Hp->VK->Prop:=λx lo hi H Q=>∃ a xs,x=.ref a/\SqT K H a xs/\(HT.sIx xs.length 0 lo=0/\HT.sIx xs.length xs.length hi=xs.length)/\Q x H
theorem aFZ:SlR X (rSlW X.K):=by
 intro aA s σ H x v vl vu lo hi sl Q I rx hs pl pu h;obtain ⟨a,xs,rfl,hx,hw,q⟩:=h;cases rx;obtain ⟨its,r,ht,hz⟩:=I.tuple hx;have hlen:its.toArray.size=xs.length:=by rw[aN5];exact r.length.symm
 exact ⟨"tuple", _,PyProof.Rows.slot_tuple_getitem.lookup,ht.typeIs,aFY ht hs pl pu (by rw[hlen];exact hw.1) (by rw[hlen];exact hw.2) ⟨.ref a,H,I,rfl,q⟩⟩
def gSeq(K:Fg)(n:Nat)(t:TGs):TG:=λv σ H Q=>∃ a xs,v=.ref a/\(SqT K H a xs\/SqL K H a xs)/\xs.length=n/\t xs σ H Q
theorem aF0{es:List Expr}{k:Nat}{t:TGs}{n:Nat}(hc:X.calm=true)(h:PGs X es t)(hn:(assignEach es X.env).length=n)(hst:(assignEach es X.env).findIdx? (·.1)=none):PG X (.Tuple es k pos) (gSeq X.K n t):=by
 intro aA s σ H v u Q I r hw;obtain ⟨a,xs,e1,hq,hl,hw⟩:=hw;rcases hq with hq | hq
 . exact aA9 hc h hn hst aA s σ H v u Q I r ⟨a,xs,e1,hq,hl,hw⟩
 . subst e1;cases r;obtain ⟨its,rv,ht,hz⟩:=I.list hq;refine aFX (I.ok.hd hc) ht.isList (by simp[hn,<- hl,rv.length]) hst λh' hx tk=>?_
   have I1:Inv X aA σ H { s with heap:=h',toks:=tk }:=I.kept (t':=tk) λb o e=>hx b o (aND (aNA e)) e
   exact h aA _ σ H xs _ Q I1 (by simpa using rv) hw
end
inductive Tg where
 | nm (i:Nat) | tp (ts:List Tg)
mutual
def aI:Tg->D->Rho->Option Rho
 | .nm i,d,ρ=>some (ρ.set i (some (false,d)))
 | .tp ts,d,ρ=>match d with
  | .tup ds=>dB ts ds ρ
  | .lst ds=>dB ts ds ρ
  | _=>none
def dB:List Tg->List D->Rho->Option Rho
 | [],ds,ρ=>if ds.isEmpty then some ρ else none
 | t::ts,ds,ρ=>match ds with
  | d::ds=>(match aI t d ρ with | some ρ1=>dB ts ds ρ1 | none=>none)
  | []=>none
end
mutual
def dG:Tg->List Nat
 | .nm i=>[i]
 | .tp ts=>nK ts
def nK:List Tg->List Nat
 | []=>[]
 | t::ts=>dG t++nK ts
end
mutual
def gOf(K:Fg):Tg->TG
 | .nm i=>jG i
 | .tp ts=>gSeq K ts.length (hZ K ts)
def hZ(K:Fg):List Tg->TGs
 | []=>gNil
 | t::ts=>sV (gOf K t) (hZ K ts)
end
def PGw(X:Cx)(tg:Expr)(t:Tg):Prop:=PG X tg (gOf X.K t)
def iV(X:Cx)(tgs:List Expr)(ts:List Tg):Prop:=PGs X tgs (hZ X.K ts)
def iA:Expr->Bool | .Starred ..=>false | _=>true
theorem pV{e:Expr}{es:List Expr}{env:Env}(h:iA e=true):assignEach (e::es) env=(false,assign e env)::assignEach es env:=by cases e <;> first | rfl | cases h
theorem pW:∀ {ts:List Tg} {ds:List D} {ρ ρ':Rho},dB ts ds ρ=some ρ'->ds.length=ts.length
 | [],ds,ρ,ρ',e=>by
  simp only[dB] at e;split at e
  . rename_i h;have:ds=[]:=by simpa using h
    subst this;rfl
  . cases e
 | t::ts,ds,ρ,ρ',e=>by
  simp only[dB] at e;split at e
  . split at e
    . rw[aO8,aO8,pW e]
    . cases e
  . cases e
mutual
theorem lG{K:Fg}{F0 H0:Hp}:∀ (t:Tg) {F H:Hp} {σ:L2.St} {ρ ρ':Rho} {d:D} {v:V} {Q:L2.St->Hp->Prop},aS K F0 H0 F H σ ρ->aD K F d v->aI t d ρ=some ρ'->(∀ σ',aS K F0 H0 F H σ' ρ'->σ'.length=σ.length->(∀ j,j∉dG t->σ'[j]? = σ[j]?)->Q σ' H)->gOf K t v σ H Q
 | .nm i,F,H,σ,ρ,ρ',d,v,Q,R,r,e,w=>by
  simp only[aI] at e;cases e;simp only[gOf];refine w _ (R.set (m:=false) (.refl R.sub) r (by intro z;cases z)) (by rw[aO1]) λj hj=>?_
  simp only[dG,aP8] at hj;rw[aNQ (λz=>hj z.symm)]
 | .tp ts,F,H,σ,ρ,ρ',d,v,Q,R,r,e,w=>by
  simp only[aI] at e;split at e
  . rename_i ds;simp only[aD] at r;obtain ⟨a,xs,rfl,hq,rl⟩:=r;simp only[gOf];refine ⟨a,xs,rfl,.inl (aG.seqT R.sub hq),by rw[rl.length];exact pW e,pX ts R rl e ?_⟩
    simp only[dG] at w;exact w
  . rename_i ds;simp only[aD] at r;obtain ⟨a,xs,rfl,hq,rl⟩:=r;simp only[gOf];refine ⟨a,xs,rfl,.inr (R.sub.seq hq),by rw[rl.length];exact pW e,pX ts R rl e ?_⟩
    simp only[dG] at w;exact w
  . cases e
theorem pX{K:Fg}{F0 H0:Hp}:∀ (ts:List Tg) {F H:Hp} {σ:L2.St} {ρ ρ':Rho} {ds:List D} {vs:List V} {Q:L2.St->Hp->Prop},aS K F0 H0 F H σ ρ->aE K F ds vs->dB ts ds ρ=some ρ'->(∀ σ',aS K F0 H0 F H σ' ρ'->σ'.length=σ.length->(∀ j,j∉nK ts->σ'[j]? = σ[j]?)->Q σ' H)->hZ K ts vs σ H Q
 | [],F,H,σ,ρ,ρ',ds,vs,Q,R,r,e,w=>by
  simp only[dB] at e;split at e
  . cases e;rename_i hd;have:ds=[]:=by simpa using hd
    subst this;simp only[aE] at r;simp only[hZ];exact ⟨r,w σ R rfl λ_ _=>rfl⟩
  . cases e
 | t::ts,F,H,σ,ρ,ρ',ds,vs,Q,R,r,e,w=>by
  simp only[dB] at e;split at e
  . rename_i d ds';split at e
    . rename_i ρ1 e1;simp only[aE] at r;obtain ⟨y,ys,rfl,r1,r2⟩:=r;simp only[hZ];refine ⟨y,ys,rfl,lG t R r1 e1 λσ1 R1 l1 k1=>pX ts R1 r2 e λσ2 R2 l2 k2=>w σ2 R2 (l2.trans l1) λj hj=>?_⟩;simp only[nK,aNL,not_or] at hj;rw[k2 j hj.2,k1 j hj.1]
    . cases e
  . cases e
end
section
variable {C:Cw}{X:Cx}{pos:Pos}
theorem aF1{x:Str}{i:Nat}(hN:X.N.Nodup)(hi:X.N[i]? = some x)(hx:L2.Loc X.env.scope x)(hf:X.fn x=true\/X.env.scope.names.lookup x=some .local):PGw X (.Name x pos) (.nm i):=by unfold PGw;simp only[gOf];exact aA6 hN hi hx hf
theorem aF2:iV X [] []:=by unfold iV;simp only[hZ];exact aA7
theorem aF3{e:Expr}{es:List Expr}{t:Tg}{ts:List Tg}(h1:PGw X e t)(h2:iV X es ts)(hs:iA e=true):iV X (e::es) (t::ts):=by unfold iV;simp only[hZ];exact aA8 h1 h2 (by rw[pV hs];rfl)
theorem aF4{es:List Expr}{env:Env}(hs:∀ e∈es,iA e=true):(assignEach es env).length=es.length/\(assignEach es env).findIdx? (·.1)=none:=by
 induction es with
 | nil=>exact ⟨rfl,rfl⟩
 | cons e es ih =>
  obtain ⟨h1,h2⟩:=ih λx hx=>hs x (mcm hx);rw[pV (hs e mcs)];refine ⟨by rw[aO8,aO8,h1],?_⟩
  rw[List.findIdx?_cons];simp[h2]
theorem aF5{es:List Expr}{ts:List Tg}{k:Nat}(hc:X.calm=true)(h:iV X es ts)(hs:∀ e∈es,iA e=true)(hl:es.length=ts.length):PGw X (.Tuple es k pos) (.tp ts):=by have st:=aF4 (env:=X.env) hs;unfold PGw;simp only[gOf];exact aF0 (n:=ts.length) hc h (by rw[st.1,hl]) st.2
theorem aF6{tg:Expr}{t:Tg}(h:PGw X tg t):PGv C X tg (aI t) :=
 ⟨_,h,λF H σ ρ ρ' d v Q R r e w=>lG t R r e λσ' R' _ _=>w σ' F H (aG.refl _) R'⟩
def iB(t:Tg)(ρ:Rho)(r:Res):aF:=(aZ r).thS ρ λm d=>match m with | .fz=>(match aI t d ρ with | some ρ'=>.nx ρ' | none=>.stuck) | _=>.stuck
theorem aF7{tg e:Expr}{t:Tg}{g:Rho->Res}(he:PV C X e g)(hg:PGw X tg t)(hs:swapsWithSole [tg] e pos.line X.env=pure false)(hw:swappedStores [tg] e X.env=pure none)(hst:iA tg=true):PSv C X (.Assign [tg] e pos) (λρ=>iB t ρ (g ρ)):=by
 refine PS.imp (aBA (fN he) hg hs hw (by rw[pV hst];rfl)) λEn σ H qq=>?_
 obtain ⟨ρ,F,R,w⟩:=qq;unfold iB at w;refine gB R w λm d v F' H' w' s R' rp fr=>?_;cases m with
 | fr=>exact (show False from w').elim
 | bo=>exact (show False from w').elim
 | fz =>
 cases eg:aI t d ρ with
 | none=>rw[eg] at w';exact (show False from w').elim
 | some ρ'=>rw[eg] at w';have rv:aD X.K F' d v:=rp;exact lG t R' rv eg λσ' R'' _ _=>w' σ' F' H' (aG.refl _) R''
end
section
variable {C:Cw}{X:Cx}{e:Expr}{g:Rho->Res}{pos p:Pos}
theorem u9{t:Tg}{tgN:List Str}{aB:List Nat}{gi gt ge:Rho->Res}(hsl:∀ j∈dG t,aB.length<=j){σ:L2.St}{H:Hp}{Q:VK}(q:tG (C.at X) (λρ=>dR (gi ρ) ρ aB tgN.length (aI t) gt ge) σ H Q):gD aB tgN.length (tIv (C.at X) gi) (gOf X.K t) (tT (C.nox.at X) gt) (tG (C.nox.at X) λρ=>aZ (ge ρ)) σ H Q:=by
 rw[aV] at q;obtain ⟨ρ,F,RS,w⟩:=q;unfold gD;refine ⟨ρ,F,RS,?_⟩;cases er:gi ρ with
 | stuck=>rw[er] at w;exact w
 | exc c=>rw[er] at w;exact w
 | ok m d =>
  rw[er] at w;cases d with
  | lst ds =>
   unfold dR at w;rw[Res.thn_ok] at w;dsimp only at w;split at w
   . rename_i hsz;intro J F1 H1 s1 hJ Da hDa;cases et:cR (aI t) gt ge (cI aB ρ++List.replicate tgN.length none) ds with
     | none=>rw[et] at w;exact w.elim
     | some total =>
      rw[et] at w;have hD0:H Da=none:=s1.same.free hDa;have hF1:F1 Da=none:=s1.sub.free hDa;have R0:=uR aB tgN.length RS;refine ⟨λi m ys H'=>m=ds.length-i/\i<=ds.length/\H' Da=some (.lst ys)/\∃ F' zs,aK F H F' H'/\aG F1 F'/\F' Da=none/\aE X.K F' zs ys/\zs.length<=i /\
       ∃ bB,cR (aI t) gt ge (cI aB ρ++List.replicate tgN.length none) (ds.drop i)=some bB/\total=zs++bB,
       ⟨ds.length,by simp,aPE _,bQ,F1,[],s1.upd hD0 hF1,aG.refl _,hF1,aE.nil,aNY _,total,by simpa using et,rfl⟩,?_⟩
      rintro i m ys H' ⟨rfl,hile,hD,F',zs,st,sF,hFD,rz,hzl,bB,ec,etot⟩;refine ⟨hD,?_⟩;by_cases hlt:i<ds.length
      . refine .inr ⟨hJ.go i H' (sF.trans st.sub) hlt,by rw[rz.length];omega,λv H2 y=>?_⟩
        obtain ⟨F2,d,ed,s2,rd⟩:=hJ.yld i F' H' v H2 sF st.sub hlt y;have hd:ds.drop i=d::ds.drop (i+1):=by rw[aPU hlt];rw[aPV hlt] at ed;cases ed;rfl
        rw[hd] at ec;unfold cR at ec;have hD2:H2 Da=some (.lst ys):=s2.same _ _ hD;have hF2:F2 Da=none:=s2.new _ hFD (by rw[hD];exact λz=>nomatch z)
        cases eg:aI t d (cI aB ρ++List.replicate tgN.length none) with
        | none=>rw[eg] at ec;cases ec
        | some ρ1 =>
        rw[eg] at ec;dsimp only at ec;have R2:=(R0.step st).step s2;refine lG t R2 rd eg λσ1 R1 len1 keep1=>?_;refine ⟨⟨len1.symm,λj u ej=>?_⟩,ρ1,F2,R1,?_⟩
        . by_cases hj:j∈dG t
          . have:=hsl j hj;rw[aOB (by simpa[cE] using this),aOC] at ej
            split at ej <;> cases ej
          . rw[keep1 j hj];exact ej
        cases ett:gt ρ1 with
        | stuck=>rw[ett] at ec;cases ec
        | exc c=>rw[ett] at ec;cases ec
        | ok mt dt =>
         cases dt with
         | bl b =>
          rw[ett] at ec;intro F3 H3 s3;have hD3:H3 Da=some (.lst ys):=s3.same _ _ hD2;have hF3:F3 Da=none:=s3.new _ hF2 (by rw[hD2];exact λz=>nomatch z)
          cases b with
          | false=>rw[if_neg aO3];exact ⟨ds.length-(i+1),by omega,rfl,hlt,hD3,F3,zs,(st.trans s2).trans s3,(sF.trans s2.fsame).trans s3.fsame,hF3,rz.mono (s2.fsame.trans s3.fsame) _ _,Nat.le_succ_of_le hzl,bB,ec,etot⟩
          | true =>
           rw[if_pos rfl,aV];refine ⟨_,F3,R1.step s3,?_⟩;dsimp only at ec;cases ee:aZ (ge ρ1) with
           | stuck=>rw[ee] at ec;cases ec
           | exc c=>rw[ee] at ec;cases ec
           | ok me ye =>
            rw[ee] at ec;dsimp only at ec;have hme:me=.fz:=by
             cases h:ge ρ1 with
             | ok m' d'=>rw[h] at ee;cases m' <;> cases ee <;> rfl
             | exc c=>rw[h] at ee;cases ee
             | stuck=>rw[h] at ee;cases ee
            subst hme;cases er2:cR (aI t) gt ge (cI aB ρ++List.replicate tgN.length none) (ds.drop (i+1)) with
            | none=>rw[er2] at ec;cases ec
            | some rest' =>
             rw[er2] at ec;cases ec;intro u F4 H4 s4 ru _;have hD4:H4 Da=some (.lst ys):=s4.same _ _ hD3;have hF4:F4 Da=none:=s4.new _ hF3 (by rw[hD3];exact λz=>nomatch z)
             refine ⟨hD4,ds.length-(i+1),by omega,rfl,hlt,bQ,F4,zs++[ye],(((st.trans s2).trans s3).trans s4).upd hD0 hF4,((sF.trans s2.fsame).trans s3.fsame).trans s4.fsame,hF4,?_,by simp;omega,rest',er2,by rw[etot];simp⟩
             exact aE.append (rz.mono ((s2.fsame.trans s3.fsame).trans s4.fsame) _ _) (aE.cons ru aE.nil)
         | _=>rw[ett] at ec;cases ec
      . have ei:i=ds.length:=by omega
        subst ei;rw[aPW] at ec;cases ec;rw[aN6] at etot;subst etot;exact .inl ⟨hJ.stop _ H' (sF.trans st.sub) (aNY _),w (.ref Da) F' H' st ⟨Da,rfl,hFD,ys,hD,rz⟩ λ_ a ea=>by cases ea;exact hD0⟩
   . exact w.elim
  | _=>exact w.elim
theorem aF8{aH elt tg:Expr}{t:Tg}{tgN:List Str}{ifs:List Expr}{scope:Scope}{aB:List Nat}{aC:List Str}{gi gt ge:Rho->Res}(hc:X.calm=true)(hi:PIv C X tg aH gi)(bV:∀ y∈scope.names,y.2 ≠ .cell)(bZ:scope.kind=.function)(cZ:∀ y∈scope.names,y.2=.local->scope.names.lookup y.1=some .local)(cD:∀ y∈scope.names,y.2=.free->X.env.kindOf y.1=some .cell\/X.env.kindOf y.1=some .free)(cL:aC.map some=aB.map λi=>X.N[i]?)(c8:∀ y∈aC,(y,NameKind.free)∈scope.names)(c7:∀ y∈aC,(relabel scope X.env).names.lookup y=some .cell\/(relabel scope X.env).names.lookup y=some .free)(hsl:∀ j∈dG t,aB.length<=j)(hg:∀ cl A fp s3 H3,PGw (aQ X scope (aC++tgN) cl A fp s3 H3) tg t)(hf:∀ cl A fp s3 H3,cQ (aQ X scope (aC++tgN) cl A fp s3 H3) ifs (tT (C.nox.at X) gt))(he:∀ cl A fp s3 H3,PV C.nox (aQ X scope (aC++tgN) cl A fp s3 H3) elt ge)(hs:∀ x,foldedSetIterable aH X.env x=pure x:=by intro _;rfl):PV C X (.ListComp elt [⟨tg,aH,ifs,0⟩] scope pos) (λρ=>dR (gi ρ) ρ aB tgN.length (aI t) gt ge):=by
 have capLen:aC.length=aB.length:=by simpa using congrArg List.length cL
 refine PE.imp (aE5 (aC:=aC) (tgN:=tgN) (gt:=gOf X.K t) (tt:=tT (C.nox.at X) gt) (te:=tG (C.nox.at X) λρ=>aZ (ge ρ)) hc hi bV bZ cZ cD cL c8 c7
  hg hf (λcl A fp s3 H3=>fN (he cl A fp s3 H3)) hs) λσ H Q q=>u9 hsl q
theorem aF9(fz:Bool){i:Nat}{x:Str}{pos' spos:Pos}{aH elt tg:Expr}{t:Tg}{tgN:List Str}{ifs:List Expr}{scope:Scope}{aB:List Nat}{aC:List Str}{gi gt ge:Rho->Res}(hc:X.calm=true)(hi:PIv C X tg aH gi)(bV:∀ y∈scope.names,y.2 ≠ .cell)(bZ:scope.kind=.function)(cZ:∀ y∈scope.names,y.2=.local->scope.names.lookup y.1=some .local)(cD:∀ y∈scope.names,y.2=.free->X.env.kindOf y.1=some .cell\/X.env.kindOf y.1=some .free)(cL:aC.map some=aB.map λi=>X.N[i]?)(c8:∀ y∈aC,(y,NameKind.free)∈scope.names)(c7:∀ y∈aC,(relabel scope X.env).names.lookup y=some .cell\/(relabel scope X.env).names.lookup y=some .free)(hsl:∀ j∈dG t,aB.length<=j)(hg:∀ cl A fp s3 H3,PGw (aQ X scope (aC++tgN) cl A fp s3 H3) tg t)(hf:∀ cl A fp s3 H3,cQ (aQ X scope (aC++tgN) cl A fp s3 H3) ifs (tT (C.nox.at X) gt))(he:∀ cl A fp s3 H3,PV C.nox (aQ X scope (aC++tgN) cl A fp s3 H3) elt ge)(hN:X.N.Nodup)(hx:X.N[i]? = some x)(hk:X.env.scope.names.lookup x=some .local)(hsw:swapsWith (.ListComp elt [⟨tg,aH,ifs,0⟩] scope pos) (some (.Name x pos')) spos.line X.env=pure true)(hs:∀ x,foldedSetIterable aH X.env x=pure x:=by intro _;rfl):PSv C X (.Assign [.Name x pos'] (.ListComp elt [⟨tg,aH,ifs,0⟩] scope pos) spos) (λρ=>dQ ρ i (if fz=true then aZ (dR (gi ρ) ρ aB tgN.length (aI t) gt ge) else dR (gi ρ) ρ aB tgN.length (aI t) gt ge)):=by
 refine PS.imp (aE6 (aC:=aC) (tgN:=tgN) (gt:=gOf X.K t) (tt:=tT (C.nox.at X) gt) (te:=tG (C.nox.at X) λρ=>aZ (ge ρ)) hc hi bV bZ cZ cD cL c8 c7
  hg hf (λcl A fp s3 H3=>fN (he cl A fp s3 H3)) hN hx hk hsw hs) λE σ H q=>u9 hsl ?_
 cases fz with
 | false=>exact lC q
 | true=>have q:=lC q;unfold iQ at q;rw[aV] at q ⊢;obtain ⟨ρ,F,R,w⟩:=q;exact ⟨ρ,F,R,aT.frz w⟩
end
def pY:D->Option Str
 | .str z=>some z
 | .int i=>if nJ i=true then some (jZ i) else none
 | _=>none
def nL(r:Res):Res:=r.thn λ_ d=>match pY d with | some z=>.ok .fz (.str z) | none=>.stuck
section
variable {C:Cw}{X:Cx}{e:Expr}{g:Rho->Res}{pos p:Pos}
theorem aGA(he:PV C X e g):PV C X (.FormattedValue e (-1) none pos) (λρ=>nL (g ρ)):=by
 intro aA s σ H Q I q;rw[aV] at q;obtain ⟨ρ,F,R,w⟩:=q;refine FormattedValue_plain (thn (he aA s σ H (λv H1=>∃ F1 m d,aK F H F1 H1/\Rp X.K F1 H1 m d v/\g ρ=.ok m d) I ?_) λu s1 ⟨v,H1,I1,rv,F1,m,d,st1,rp,eg⟩=>?_)
 . rw[aV];refine ⟨ρ,F,R,?_⟩;cases er:g ρ with
   | stuck=>rw[er] at w;exact w
   | exc c=>rw[er] at w;exact w
   | ok m d=>exact λv F1 H1 s1 r1 _=>⟨F1,m,d,s1,r1,rfl⟩
 . rw[eg] at w;have w1:aT (C.at X) F1 H1 σ (match pY d with | some z=>.ok .fz (.str z) | none=>.stuck) Q:=aT.step st1 w
   cases d with
   | str z=>obtain ⟨rfl,hz,hk⟩:=rp.str;obtain ⟨t,rfl⟩:=rv;exact formatField_str (λt' tk=>⟨.str z,H1,I1.tok _,⟨_,rfl⟩,w1 _ F1 H1 (.refl st1.sub) (e9 ⟨hz,hk⟩) (by intro z;cases z)⟩) hz
   | int i =>
    cases rp.int;obtain ⟨t,rfl⟩:=rv;unfold pY at w1;dsimp only at w1;split at w1
    . rename_i z hz;split at hz
      . rename_i hs;cases hz;have hl:i.natAbs.log2<1920:=aPG hs;have h1:(jZ i).length<=1921:=int_text_len_1921 hl;have hzz:sizeLine=16777216:=aN4;exact formatField_int_small hl ⟨.str (jZ i),H1,I1.tok _,⟨_,rfl⟩,w1 _ F1 H1 (.refl st1.sub) (e9 ⟨by omega,u7 i⟩) (by intro z;cases z)⟩
      . cases hz
    . exact w1.elim
   | _=>exact w1.elim
end
def dS(out:Str):List (Rho->Res)->Rho->Res
 | [],_=>if out.length<=sizeLine then .ok .fz (.str out) else .stuck
 | g::gs,ρ=>(g ρ).thn λ_ d=>match d with
  | .str y=>if (out++y).length<=sizeLine then dS (out++y) gs ρ else .stuck
  | _=>.stuck
inductive PVL(C:Cw)(X:Cx):List Expr->List (Rho->Res)->Prop where
 | nil:PVL C X [] []
 | cons {e:Expr} {g:Rho->Res} {es:List Expr} {gs:List (Rho->Res)} (h:PV C X e g) (r:PVL C X es gs):PVL C X (e::es) (g::gs)
theorem vA{C:Cw}{X:Cx}:∀ {es:List Expr} {gs:List (Rho->Res)},PVL C X es gs->∀ (out:Str) (aA:LAO) (s:Shared) (σ:L2.St) (H F:Hp) (ρ:Rho) (Q:VK),PyData.strOk out=true->Inv X aA σ H s->aS X.K C.F0 C.H0 F H σ ρ->aT (C.at X) F H σ (dS out gs ρ) Q->wpAny (model X.prog X.w) X.A (joinParts out (evalEach es X.env)) (EP X aA σ Q) X.xe s
 | _,_,.nil,out,aA,s,σ,H,F,ρ,Q,hk,I,R,w=>by
  unfold dS at w;split at w
  . rename_i hl;exact joinParts_nil ⟨.str out,H,I.tok _,⟨_,rfl⟩,w _ F H (.refl R.sub) (e9 ⟨hl,hk⟩) (by intro z;cases z)⟩ hl
  . exact w.elim
 | _,_,.cons (e:=e) (g:=g) (gs:=gs) h r,out,aA,s,σ,H,F,ρ,Q,hk,I,R,w=>by
  refine joinParts_cons (thn (h aA s σ H (λv H1=>∃ F1 m d,aK F H F1 H1/\Rp X.K F1 H1 m d v/\g ρ=.ok m d) I ?_) λu s1 ⟨v,H1,I1,rv,F1,m,d,st1,rp,eg⟩=>?_)
  . rw[aV];refine ⟨ρ,F,R,?_⟩;unfold dS at w;cases er:g ρ with
    | stuck=>rw[er] at w;exact w
    | exc c=>rw[er] at w;exact w
    | ok m d=>exact λv F1 H1 s1 r1 _=>⟨F1,m,d,s1,r1,rfl⟩
  . unfold dS at w;rw[eg] at w;cases d with
    | str y =>
     have w1:aT (C.at X) F1 H1 σ (if (out++y).length<=sizeLine then dS (out++y) gs ρ else .stuck) Q:=aT.step st1 w;split at w1
     . rename_i hl;obtain ⟨rfl,hz,hy⟩:=rp.str;obtain ⟨t,rfl⟩:=rv;exact ⟨hl,vA r (out++y) aA s1 σ H1 F1 ρ Q (uD hk hy) I1 (R.step st1) w1⟩
     . exact w1.elim
    | _=>exact (show False from w).elim
theorem aGB{C:Cw}{X:Cx}{e1 e2:Expr}{es:List Expr}{gs:List (Rho->Res)}{pos:Pos}(h:PVL C X (e1::e2::es) gs):PV C X (.JoinedStr (e1::e2::es) pos) (dS Str.empty gs):=by intro aA s σ H Q I q;rw[aV] at q;obtain ⟨ρ,F,R,w⟩:=q;exact JoinedStr_many (vA h Str.empty aA s σ H F ρ Q (by decide +kernel) I R w)
section
open PySem.SeqAt
open PySem.AutoSeq1 (wpAny_loadPart')
open PySem.MeetsSeq PySem.MeetsSeq2 PySem.MeetsSeq3
end
section
variable {prog:Program}{w:World}{A:Around}{E:VSP}{s:Shared}
end
section
variable {C:Cw}{X:Cx}
def j3:List (Md×D)->Option (Md×D):=λxs=>match xs with
 | [(_,.str z)]=>if z.length<=640 then (PySem.intText? z).map λn=>(.fz,.int n) else none
 | _=>pU xs
theorem aGC:dP X (.type "int") j3:=by
 obtain ⟨r,h1,h2⟩:=aFU (X:=X);refine ⟨λxs H Q=>r xs H Q\/∃ z n,xs=[.str z]/\z.length<=640/\PySem.intText? z=some n/\Q (.int n) H,?_,λF H xs vs k d Q s rx e w=>?_⟩
 . intro aA s σ H xs us Q I rr h;rcases h with h | ⟨z,n,rfl,hl,hn,q⟩
   . exact h1 aA s σ H xs us Q I rr h
   . obtain ⟨u,rfl,t,rfl⟩:=f8 rr;exact PySem.W.KIN.call_text hn hl ⟨.int n,H,I.tok _,⟨_,rfl⟩,q⟩
 . unfold j3 at e;split at e
   . rename_i m z;split at e
     . rename_i hl;cases en:PySem.intText? z with
       | none=>rw[en] at e;cases e
       | some n=>rw[en] at e;cases e;obtain ⟨v,rfl,r0⟩:=rx.one;obtain ⟨rfl,_⟩:=r0.str;exact .inr ⟨z,n,rfl,hl,en,w _ F H (.refl s) (cO _) (by intro z;cases z)⟩
     . cases e
   . exact .inl (h2 F H xs vs k d Q s rx e w)
def pZ:Md->D->Md->D->Option (Md×D):=λ_ x _ y=>match x,y with
 | .str z,.int n=>if (decide (n<1)&&decide (-1000<=n))=true then some (.fz,.str Str.empty) else none
 | _,_=>none
theorem aGD:OpD C X (binaryOp .Mult) pZ:=by
 refine ⟨λx y H Q=>∃ z n,x=.str z/\y=.int n/\n<1 /\ -1000<=n/\Q (.str Str.empty) H,?_,?_⟩
 . intro aA s σ H x y v u Q I rx ry h;obtain ⟨z,n,rfl,rfl,h1,h2,q⟩:=h;obtain ⟨t,rfl⟩:=rx;obtain ⟨t',rfl⟩:=ry;exact PySem.P.mul_str_none h1 (by omega) ⟨.str Str.empty,H,I.tok _,⟨_,rfl⟩,q⟩
 . intro F H m x n y v u k d Q s rx ry e w;unfold pZ at e;split at e
   . rename_i z i;obtain ⟨rfl,hz,hk⟩:=rx.str;cases ry.int;split at e
     . rename_i hc;simp only[aOX,aPF] at hc;cases e;exact ⟨z,i,rfl,rfl,hc.1,hc.2,w _ F H (.refl s) (e9 ⟨by decide +kernel,by decide +kernel⟩) (by intro z;cases z)⟩
     . cases e
   . cases e
end
section
open PySem.SeqAt
open PySem.AutoSeq1 (wpAny_loadPart')
open PySem.MeetsSeq PySem.MeetsSeq2 PySem.MeetsSeq3
variable {prog:Program}{w:World}{A:Around}{E:VSP}{s:Shared}
theorem aGE{it t:Addr}{i:Nat}{xs:Array Value}{x:Value}{Q:VSP}(hi:s.heap.IsTupleIter it t i)(ht:IsTup s.heap t xs)(hx:xs[i]? = some x)(q:∀ h',h'.IsTupleIter it t (i+1)->Heap.SameBut it s.heap h'->Q x { s with heap:=h' }):wpAny (model prog w) A (Builtin.SmallTypes.nextOf (.ref it)) Q E s:=by
 have ty:=hi.typeIs;obtain ⟨o,ho,hc,hd⟩:=hi;obtain ⟨p,hp,_,n,hs⟩:=ht
 delta Builtin.SmallTypes.nextOf
 apply aNX;apply aOU (name:=Str.ofString "__next__") ty aP9;refine aOW aP9 ty aQA ?w (aQB _)
 case w =>
  refine aNX (m:=field (.ref it) 0) (aOR ho hd (x:=.ref t) rfl ?_);rw[show (Value.ref t==Value.none)=false from rfl,if_neg aO3]
  refine aNX (m:=field (.ref it) 1) (aOR ho hd (x:=.int i 0) rfl ?_);apply aNX;apply wpAny_seqItems hp hs;rw[aOP];simp only[hx];apply aNX;apply aQC ho hd (by simp)
  refine aNW ⟨x,rfl,aNW (q _ ⟨_,aOZ _ ho (Obj.isFreed_of_fields (aQD hd _)),?_,?_⟩ (Heap.SameBut.update ..))⟩
  . rw[Obj.cls_mapFields,hc]
  . rw[aQD hd];simp[rawInt]
theorem vB{it t:Addr}{i:Nat}{xs:Array Value}{Q:VSP}(h0:A.handled=none)(hi:s.heap.IsTupleIter it t i)(ht:IsTup s.heap t xs)(hx:xs[i]? = none)(q:∀ h' e,Heap.ExtBut it s.heap h'->(∃ o,h'.get? e=some o/\o.cls=.type "StopIteration")->E (.ref e) { s with heap:=h' }):wpAny (model prog w) A (Builtin.SmallTypes.nextOf (.ref it)) Q E s:=by
 have ty:=hi.typeIs;obtain ⟨o,ho,hc,hd⟩:=hi;obtain ⟨p,hp,_,n,hs⟩:=ht
 delta Builtin.SmallTypes.nextOf
 apply aNX;apply aOU (name:=Str.ofString "__next__") ty aP9;refine aOW aP9 ty aQA ?w (aQB _)
 case w =>
  refine aNX (m:=field (.ref it) 0) (aOR ho hd (x:=.ref t) rfl ?_);rw[show (Value.ref t==Value.none)=false from rfl,if_neg aO3]
  refine aNX (m:=field (.ref it) 1) (aOR ho hd (x:=.int i 0) rfl ?_);apply aNX;apply wpAny_seqItems hp hs;rw[aOP];simp only[hx];apply aNX;apply wpAny_rule;apply aNX;apply aQC ho hd (by simp)
  refine aNX (m:=newExc (.type "StopIteration") []) ?_;simp only[newExc,newTuple];apply aNX;refine aOY ?_ (by size_fits)
  apply aNX (m:=firstArgMember _ _);refine aQE (a:=.none) ?_ ?_
  . first | rfl | (unfold firstArgMember;rfl)
  refine aOY (hd:=by size_fits) ?_
  simp only[raiseNew];apply aNX;apply wpAny_handled
  first | rw[show A.in1.handled=none from h0] | rw[h0]
  refine wpAny_throw ?_;exact q _ _ ((Heap.SameBut.extBut (Heap.SameBut.update ..)).push _ |>.push _) ⟨_,aM9 _ rfl,rfl⟩
theorem vC{h h':Heap}{a:Addr}{xs:Array Value}(x:IsTup h a xs)(k:∀ o,h.get? a=some o->h'.get? a=some o):IsTup h' a xs:=by obtain ⟨o,ho,r⟩:=x;exact ⟨o,k o ho,r⟩
end
section
variable {X:Cx}{aA:LAO}{σ:L2.St}{H:Hp}{s:Shared}{h':Heap}
theorem aGF{t':Nat}{its:List Addr}{n:Addr}{xs:List V}(I:Inv X aA σ H s)(k:∀ b o,b∉its->s.heap.get? b=some o->h'.get? b=some o)(hf:∀ b∈its,dY X aA H b)(hn:s.heap.objs.size<=n)(new:∃ us,aN xs us/\fZ h' n us.toArray)(hz:xs.length<=sizeLine):Inv X aA σ (upd H n (.tup xs)) { s with heap:=h',toks:=t' }:=by
 have fr:H n=none:=I.hok.fresh hn;have lt:∀ {b o},s.heap.get? b=some o->b≠n:=λe z=>absurd (aNA e) (by rw[z];exact Nat.not_lt.mpr hn)
 have nb:∀ {b u},H b=some u->b≠n:=λe z=>by rw[z,fr] at e;cases e
 have ni:∀ {b u},H b=some u->b∉its:=λe z=>by rw[(hf _ z).1] at e;cases e
 refine I.call (g':=s.gens) (d':=s.drawn) (ch:=its) ⟨λb o e _ _ hx=>k b o hx e,λb o e _ _ hx=>⟨o.slots,k b o hx e⟩,λb o e h0 _=>by rw[aO (lt e)];exact h0,λb o e hx=>⟨o,k b o hx e⟩,
  λb u e=>by rw[aO (nb e)];exact e,λb u v e=>by rw[aO (nb e)];exact e,λb u e=>⟨#[],by rw[aO (nb e),e];simp⟩⟩ (λb u e=>?_) I.bare λb hb=>?_
 . by_cases hb:b=n
   . subst hb;rw[bQ] at e;cases e;exact ⟨hz,new⟩
   . rw[aO hb] at e;refine (I.hok b u e).stay (λc v hc q=>k c v ?_ q) (λc q=>?_) λc v q=>?_
     . rcases hc with z | z
       . rw[z];exact ni e
       . exact ni z
     . rw[aO (nb q)];exact q
     . rw[aO (nb q)];exact q
 . obtain ⟨f0,f1,f2,f3,f4,f5⟩:=hf b hb;exact ⟨f3,f1,f4,f5⟩
theorem aGG{t':Nat}{its:List Addr}(I:Inv X aA σ H s)(k:∀ b o,b∉its->s.heap.get? b=some o->h'.get? b=some o)(hf:∀ b∈its,dY X aA H b):Inv X aA σ H { s with heap:=h',toks:=t' }:=by
 have ni:∀ {b u},H b=some u->b∉its:=λe z=>by rw[(hf _ z).1] at e;cases e
 refine I.call (g':=s.gens) (d':=s.drawn) (ch:=its) ⟨λb o e _ _ hx=>k b o hx e,λb o e _ _ hx=>⟨o.slots,k b o hx e⟩,λb o e h0 _=>h0,λb o e hx=>⟨o,k b o hx e⟩,
  λb u e=>e,λb u v e=>e,λb u e=>⟨#[],by rw[e];simp⟩⟩ (λb u e=>?_) I.bare λb hb=>?_
 . refine (I.hok b u e).stay (λc v hc q=>k c v ?_ q) (λ_ q=>q) λ_ _ q=>q;rcases hc with z | z
   . rw[z];exact ni e
   . exact ni z
 . obtain ⟨f0,f1,f2,f3,f4,f5⟩:=hf b hb;exact ⟨f3,f1,f4,f5⟩
end
section
variable {C:Cw}{X:Cx}{tg e:Expr}{g:Rho->Res}{gs:Rho->aW}{pos p:Pos}
end
open PySem.AutoSeq1 (wpAny_loadPart')
theorem aGH{prog:Program}{w:World}{A:Around}(hh:A.handled=none)(it t:Addr)(hne:t≠it)(items:Array Value):Draws prog w A it [it,t] items.size (λi v=>items[i]? = some v) (λi h=>h.IsTupleIter it t i/\IsTup h t items) where
 live:=λ_ _ st=>let ⟨o,ho,_⟩:=st.1;⟨o,ho⟩
 frame:=λ_ _ _ st hk=>⟨st.1.at λo e=>hk it (by simp) o e,vC st.2 λo e=>hk t (by simp) o e⟩
 item:=λi s Q E hi st hQ=>by
  refine aGE st.1 st.2 (x:=items[i]) (by simp[hi]) λh' hit' hs'=>?_
  exact hQ _ h' s.toks (by simp[hi]) ⟨hit',vC st.2 λo e=>hs'.extBut _ o hne e⟩ hs'
 done:=λs Q E st hE=>vB hh st.1 st.2 (by simp) hE
theorem aGI(l:Addr)(items:Array Value):Meets (Builtin.«enumerate.__new__» ⟨[.type "enumerate", .ref l],[]⟩) (λ_ R s=>s.heap.IsTuple l items/\R (.ok (.ret (.ref (s.heap.push { cls:=.type "tuple_iterator", data:=.fields #[.ref l,.int 0 0] }).objs.size))) { s with heap:=(s.heap.push { cls:=.type "tuple_iterator", data:=.fields #[.ref l,.int 0 0] }).push { cls:=.type "enumerate", data:=.fields #[.none,.bool false,.ref s.heap.objs.size,rawInt 0,.none,.none] } }) :=
 .of_wp λprog w A R s h=>by
  obtain ⟨hp,g,d,tk,os⟩:=s;obtain ⟨hL,h⟩:=h;have hsub:=sub_enumerate;have hL:Heap.IsTuple (Shared.heap ⟨hp,g,d,tk,os⟩) l items:=hL;obtain ⟨o,ho,hc,n,hd⟩:=id hL
  wp_walk using wpAny_loadPart' ho
  refine wpAny_stack_any λst=>aNW ?_;split
  . rename_i c _ _ _ _ _;cases (c==Value.type "enumerate")
    . wp_walk using wpAny_loadPart' ho,aNZ hL
      exact ⟨_,rfl,h⟩
    . wp_walk using wpAny_loadPart' ho,aNZ hL
      exact ⟨_,rfl,h⟩
  . wp_walk using wpAny_loadPart' ho,aNZ hL
    exact ⟨_,rfl,h⟩
section
variable {prog:Program}{w:World}{A:Around}{E:VSP}{s:Shared}
theorem aGJ{a:Addr}{us:Array Value}{Q:VSP}(ha:s.heap.IsTuple a us)(q:∀ g,IsEnum g (s.heap.objs.size+1) s.heap.objs.size 0 .none->g.IsTupleIter s.heap.objs.size a 0->(∀ c u,s.heap.get? c=some u->g.get? c=some u)->Q (.ref (s.heap.objs.size+1)) { s with heap:=g }):wpAny (model prog w) A (call (.type "enumerate") [.ref a]) Q E s:=by
 let i0:Obj:={ cls:=.type "tuple_iterator", data:=.fields #[.ref a,.int 0 0] }
 let e0:Obj:={ cls:=.type "enumerate", data:=.fields #[.none,.bool false,.ref s.heap.objs.size,rawInt 0,.none,.none] }
 have z1:(s.heap.push i0).objs.size=s.heap.objs.size+1:=Heap.size_push ..;have g1:((s.heap.push i0).push e0).get? (s.heap.objs.size+1)=some e0:=by rw[<- z1];exact aM9 _ rfl
 have g0:((s.heap.push i0).push e0).get? s.heap.objs.size=some i0:=hps (aM9 _ rfl);have up:∀ c u,s.heap.get? c=some u->((s.heap.push i0).push e0).get? c=some u:=λc u z=>hps (hps z);have fin:(∃ o,((s.heap.push i0).push e0).get? (s.heap.objs.size+1)=some o/\o.cls=.type "enumerate")/\Q (.ref (s.heap.objs.size+1)) { s with heap:=(s.heap.push i0).push e0 }:=⟨⟨e0,g1,rfl⟩,q _ g1 ⟨i0,g0,rfl,rfl⟩ up⟩
 rw[<- z1] at fin;exact callType_new F.called_enumerate (by decide) (F.typeCall_enumerate_1 _) (F.newCall_enumerate_1 _) (λo=>F.args_object_init_2 o _) F.entry_enumerate_new (aGI a us) ⟨ha,fin⟩
end
def Ite(Sq:Hp->List V->Prop):It :=
 ⟨fun i H => ∃ xs x, Sq H xs ∧ xs[i]? = some x,
  λi H v H'=>∃ p x,v=.ref p/\H p=none/\H'=upd H p (.tup [.int i,x])/\∀ xs,Sq H xs->xs[i]? = some x,
  λi H=>∃ xs,Sq H xs/\xs.length<=i⟩
section
variable {P:Program}{w:World}{K:Fg}{elts:List Expr}{cx:Nat}{pos:Pos}
theorem vD{Sq:Hp->List V->Prop}(e it l:Addr)(hei:e≠it)(hel:e≠l)(hli:l≠it)(It':Nat->Heap->Prop)(At:Heap->Array Value->Prop)(live:∀ i h,It' i h->∃ o,h.get? it=some o/\∀ v,o.data ≠ .cell v)(keep:∀ i h h',It' i h->(∀ o,h.get? it=some o->h'.get? it=some o)->It' i h')(dr:∀ A:Around,A.handled=none->∀ items:Array Value,Draws P w A it [it,l] items.size (λi v=>items[i]? = some v) (λi h=>It' i h/\At h items))(dn:∀ (A:Around) (s:Shared) (items:Array Value) (k:Nat) (Q E:VSP),A.handled=none->It' k s.heap->At s.heap items->items[k]? = none->(∀ h' x,Heap.ExtBut it s.heap h'->(∃ o,h'.get? x=some o/\o.cls=.type "StopIteration")->E (.ref x) { s with heap:=h' })->wpAny (model P w) A (Builtin.SmallTypes.nextOf (.ref it)) Q E s)(look:∀ (X:Cx) (aA:LAO) (s:Shared) (σ:L2.St) (H:Hp) (xs:List V),X.prog=P->X.w=w->X.K=K->Inv X aA σ H s->Sq H xs->∃ us,aN xs us/\At s.heap us.toArray)(inj:∀ (X:Cx) (aA:LAO) (s:Shared) (σ:L2.St) (H:Hp) (xs ys:List V),X.prog=P->X.w=w->X.K=K->Inv X aA σ H s->Sq H xs->Sq H ys->ys=xs):gY P w K (.Tuple elts cx pos) (Ite Sq) [e,it] e (λk h=>(∃ old,IsEnum h e it k old)/\It' k h) where
 mem:=by simp
 obj:=λk h st b hb=>by
  obtain ⟨⟨old,he⟩,hi⟩:=st;simp only[aNK,aQF,aQG] at hb;rcases hb with rfl | rfl
  . exact ⟨_,he,λv e=>by cases e⟩
  . obtain ⟨o,e,d⟩:=live k h hi;exact ⟨o,e,d⟩
 keep:=λk h h' st q=>by obtain ⟨⟨old,he⟩,hi⟩:=st;exact ⟨⟨old,q e (by simp) _ he⟩,keep k h h' hi λo e=>q it (by simp) o e⟩
 item:=by
  intro X hP hw hK hc k aA s σ H E I hf st hg;obtain ⟨⟨old,he⟩,hi⟩:=st;obtain ⟨xs,x,ql,hx⟩:=hg;obtain ⟨us,r1,p1⟩:=look X aA s σ H xs hP hw hK I ql;obtain ⟨u,hu,ru⟩:=r1.get hx;have hlt:k<us.toArray.size:=by rw[aN5];exact (aNN.mp hu).1
  refine wpAny_pyNext_enum_itemD (dr X.A.in1 (I.ok.hd hc) us.toArray) he ⟨hi,p1⟩ hlt hei (by simp[hei,hel]) λx' h' tk hx' a1 a2 a3 a4 a5=>?_
  have:x'=u:=by rw[List.getElem?_toArray] at hx';rw[hu] at hx';exact (aM8 hx').symm
  subst this;refine ⟨_,rfl,wpAny_letOwnedTupleGo_enum (s:={ s with heap:=h',toks:=tk+1 }) a1 λh2 b1 b2=>?_⟩
  have en:s.heap.objs.size≠e:=λq=>absurd (aNA he) (by rw[<- q];exact aNC _)
  have up:∀ b o,b∉[e,it]->s.heap.get? b=some o->h2.get? b=some o:=λb o hb z=>by simp only[aNK,aQF,aQG,not_or] at hb;exact b2.extBut _ _ hb.1 (a5 b o hb.1 hb.2 z)
  have I2:=aGF (t':=tk+1) (xs:=[.int k,x]) I up hf (aNY _) ⟨[.int k tk,x'],.cons ⟨tk,rfl⟩ (.cons ru .nil),⟨_,b2.extBut _ _ en a3,rfl,rfl,_,rfl⟩⟩ (show 2<=sizeLine by decide +kernel)
  refine ⟨.ref s.heap.objs.size,_,I2,rfl,⟨_,x,rfl,I.hok.fresh (aNY _),rfl,λzs q=>by rw[inj X aA s σ H xs zs hP hw hK I ql q];exact hx⟩,?_,λb hb=>?_⟩
  . have ek:((k:Int)+1)=((k+1:Nat):Int):=by omega
    rw[ek] at b1;exact ⟨⟨x',b1⟩,keep _ _ _ a2.1 λo z=>b2.extBut _ o hei.symm z⟩
  . have hb0:=hb;obtain ⟨o,z⟩:∃ o,s.heap.get? b=some o:=by
      simp only[aNK,aQF,aQG] at hb;rcases hb with rfl | rfl
      . exact ⟨_,he⟩
      . obtain ⟨o,z,_⟩:=live _ _ hi;exact ⟨o,z⟩
    rw[aO λq=>absurd (aNA z) (by rw[q];exact aNC _)]
    exact (hf b hb0).1
 done:=by
  intro X hP hw hK hc k aA s σ H E I hf st hg;obtain ⟨⟨old,he⟩,hi⟩:=st;obtain ⟨xs,ql,hn⟩:=hg;obtain ⟨us,r1,p1⟩:=look X aA s σ H xs hP hw hK I ql;have e1:=r1.length;have te:s.TypeIs (.ref e) "enumerate" := ⟨_,he,rfl⟩
  delta pyNext
  apply aNX;apply wpAny_attempt;apply aOU (name:=Str.ofString "__next__") te F.slot_enumerate_next;refine aOW F.slot_enumerate_next te F.entry_enumerate_next ?nx (F.args_enumerate_next_1 _);refine aNX (m:=field (.ref e) 2) (aOR he rfl (x:=.ref it) rfl ?_);refine aNX (dn X.A.in1 s us.toArray k _ _ (I.ok.hd hc) hi p1 (by simp;omega) λh' x he' hx'=>?_)
  obtain ⟨o,ho,hc'⟩:=hx';refine aNX (wpAny_isInstance (T := "StopIteration") (b:=true) ⟨o,ho,hc'⟩ isSubtype_stop ?_);refine aNW ⟨rfl,aGG (t':=s.toks) I (λb o hb z=>he' b o (by
   simp only[aNK,aQF,aQG,not_or] at hb;exact hb.2) z) hf⟩
 self:=λ_ _ _ _ _ st h=>by obtain ⟨⟨old,he⟩,_⟩:=st;exact aQH he h
theorem aGK(e it l:Addr)(hei:e≠it)(hel:e≠l)(hli:l≠it):gY P w K (.Tuple elts cx pos) (Ite λH=>SqL K H l) [e,it] e (λk h=>(∃ old,IsEnum h e it k old)/\h.IsListIter it l k) :=
 vD e it l hei hel hli (fun k h => h.IsListIter it l k) (fun h xs => h.IsList l xs) (fun i h st => by
     obtain ⟨o,e,_,d⟩:=st;exact ⟨o,e,λv q=>by rw[d] at q;cases q⟩) (λi h h' st k=>st.at k) (λA hA items=>Draws.list hA it l hli items)
  (λA s items k Q E hA st ha hx q=>wpAny_nextOf_list_end hA st ha hx q)
  (λX aA s σ H xs hP hw hK I q=>by
   subst hK;obtain ⟨us,r,p,_⟩:=I.list q;exact ⟨us,r,p.isList⟩)
  (λX aA s σ H xs ys hP hw hK I q q'=>by subst hK;exact I.list_inj q' q)
theorem aGL(e it l:Addr)(hei:e≠it)(hel:e≠l)(hli:l≠it):gY P w K (.Tuple elts cx pos) (Ite λH=>SqT K H l) [e,it] e (λk h=>(∃ old,IsEnum h e it k old)/\h.IsTupleIter it l k) :=
 vD e it l hei hel hli (fun k h => h.IsTupleIter it l k) (fun h xs => IsTup h l xs) (fun i h st => by
     obtain ⟨o,e,_,d⟩:=st;exact ⟨o,e,λv q=>by rw[d] at q;cases q⟩) (λi h h' st k=>st.at k) (λA hA items=>aGH hA it l hli items)
  (λA s items k Q E hA st ha hx q=>vB hA st ha hx q)
  (λX aA s σ H xs hP hw hK I q=>by
   subst hK;obtain ⟨us,r,p,_⟩:=I.tuple q;exact ⟨us,r,p⟩)
  (λX aA s σ H xs ys hP hw hK I q q'=>by subst hK;exact I.tuple_inj q' q)
end
section
variable {C:Cw}{X:Cx}{tg e:Expr}{g:Rho->Res}{gs:Rho->aW}{pos p:Pos}
theorem aGM:bootBuiltins ("enumerate" : Str)=some (.type "enumerate"):=by first | rfl | decide +kernel | kernel_rfl
def vE(K:Fg)(ta:TA):TI:=λσ H R=>ta σ H λvs H1=>∃ a xs,vs=[.ref a]/\((SqL K H1 a xs/\R (Ite λH=>SqL K H a) H1)\/(SqT K H1 a xs/\R (Ite λH=>SqT K H a) H1))
theorem aGN{a:Expr}{ta:TA}{elts:List Expr}{cx}{pp:Pos}(hg:Gl X "enumerate")(hm:X.mg "enumerate" = none)(ha:PA X [a] ta)(hs:starEach [a] X.env=[(false,eval a X.env)]:=by rfl):PI X (.Tuple elts cx pp) (.Call (.Name "enumerate" p) [a] [] pos) (vE X.K ta):=by
 intro aA s σ H R I h;refine Call_ (kW I hg hm aGM (aN0 (thn (ha pos aA s σ H _ I h) λus s1 q1=>?_) (by rw[hs];rfl) (by rfl)))
 obtain ⟨vs,H1,I1,r1,l,xs,rfl,q⟩:=q1;cases r1 with
 | cons r rr =>
  cases rr;cases r;have fb:∀ b:Addr,s1.heap.objs.size<=b->dY X aA H1 b:=λb hb=>I1.fpOk hb (I1.hok.fresh hb);have fin:∀ b:Addr,b∈[s1.heap.objs.size+1,s1.heap.objs.size]->dY X aA H1 b:=λb hb=>by
   simp only[aNK,aQF,aQG] at hb;rcases hb with rfl | rfl
   . exact fb _ (Nat.le_succ _)
   . exact fb _ (aNY _)
  rcases q with ⟨ql,q⟩ | ⟨ql,q⟩
  . obtain ⟨ls,_,p1,_⟩:=I1.list ql;have ll:l<s1.heap.objs.size:=by obtain ⟨o,n,e,_⟩:=id p1;exact aNA e
    refine call_enumerate_list p1.isList λh' a1 a2 a3 a4=>aQH (s:={ s1 with heap:=h' }) a1 ?_
    exact ⟨_,[s1.heap.objs.size+1,s1.heap.objs.size],_,_,H1,rfl,I1.kept (t':=s1.toks) a4,aGK _ _ l (Nat.succ_ne_self _) (Nat.ne_of_gt (aP3 ll)) (aND ll),⟨⟨_,a1⟩,a2⟩,fin,q⟩
  . obtain ⟨ls,_,p1,_⟩:=I1.tuple ql;have ll:l<s1.heap.objs.size:=by obtain ⟨o,e,_⟩:=id p1;exact aNA e
    refine aGJ (show s1.heap.IsTuple l ls.toArray from p1) λh' a1 a2 a4=>aQH (s:={ s1 with heap:=h' }) a1 ?_
    exact ⟨_,[s1.heap.objs.size+1,s1.heap.objs.size],_,_,H1,rfl,I1.kept (t':=s1.toks) a4,aGL _ _ l (Nat.succ_ne_self _) (Nat.ne_of_gt (aP3 ll)) (aND ll),⟨⟨_,a1⟩,a2⟩,fin,q⟩
def bT:Nat->List D->List D
 | _,[]=>[]
 | i,d::ds=>.tup [.int i,d]::bT (i+1) ds
theorem nM:∀ {ds:List D} {i:Nat},(bT i ds).length=ds.length
 | [],_=>rfl
 | d::ds,i=>by simp only[bT,aO8,nM]
theorem vF:∀ {ds:List D} {j i:Nat} {d:D},ds[i]? = some d->(bT j ds)[i]? = some (.tup [.int ((j+i:Nat):Int),d])
 | [],_,_,_,h=>by simp at h
 | x::ds,j,0,d,h=>by simp at h;subst h;rfl
 | x::ds,j,i+1,d,h=>by
  have:=vF (ds:=ds) (j:=j+1) (i:=i) (by simpa using h)
  have e:j+1+i=j+(i+1):=by omega
  rw[e] at this;simpa[bT] using this
theorem vG{K:Fg}{F:Hp}{Sq:Hp->List V->Prop}{ds:List D}{xs:List V}(qa:∀ H,aG F H->Sq H xs)(ra:aE K F ds xs):lD K F (Ite Sq) (bT 0 ds) where
 go:=λi H s hi=>by
  rw[nM] at hi;have h1:i<xs.length:=by rw[ra.length];omega
  exact ⟨xs,xs[i],qa H s,by simp[h1]⟩
 stop:=λi H s hi=>by rw[nM] at hi;exact ⟨xs,qa H s,by rw[ra.length];omega⟩
 yld:=λi Fc H x H' s1 s2 hi y=>by rw[nM] at hi;obtain ⟨p,u,rfl,hp,rfl,hx⟩:=y;have ex:=hx xs (qa H (s1.trans s2));obtain ⟨u',e1,r1⟩:=ra.get' (aPV hi);rw[ex] at e1;cases e1;refine ⟨_,_,vF (aPV hi),aK.laid (.tup [.int i,u]) s2 hp,?_⟩;refine aD.tup_of (s2.free hp) ?_;simp only[aE];exact ⟨.int i,[u],rfl,by simp only[aD,aP7],u,[],rfl,r1.mono s1 _ _,rfl⟩
def nN(r:aW):Res:=r.thn λxs=>match xs with
 | [(.fz,.lst ds)]=>.ok .fz (.lst (bT 0 ds))
 | [(.fz,.tup ds)]=>.ok .fz (.lst (bT 0 ds))
 | _=>.stuck
theorem aGO{a:Expr}{elts:List Expr}{cx}{pp:Pos}(hg:Gl X "enumerate")(hm:X.mg "enumerate" = none)(ha:PAv C X [a] gs)(hs:starEach [a] X.env=[(false,eval a X.env)]:=by rfl):PIv C X (.Tuple elts cx pp) (.Call (.Name "enumerate" p) [a] [] pos) (λρ=>nN (gs ρ)):=by
 refine PI.imp (aGN hg hm ha hs) λσ H R q=>?_;obtain ⟨ρ,F,RS,w⟩:=q;dsimp only at w;unfold vE;refine ⟨ρ,F,RS,?_⟩;cases er:gs ρ with
 | stuck=>rw[er] at w;exact w
 | exc c=>rw[er] at w;exact w
 | ok xs =>
  rw[er] at w;intro vs F' H' st rp;unfold nN at w;rw[aW.thn_ok] at w;split at w
  . rename_i ds;obtain ⟨v,rfl,r⟩:=rp.one;have r:aD X.K F' (.lst ds) v:=r;simp only[aD] at r;obtain ⟨a1,x1,rfl,q1,l1⟩:=r;exact ⟨a1,x1,rfl,.inl ⟨st.sub.seq q1,w _ F' H' st (vG (λH s=>s.seq q1) l1)⟩⟩
  . rename_i ds;obtain ⟨v,rfl,r⟩:=rp.one;have r:aD X.K F' (.tup ds) v:=r;simp only[aD] at r;obtain ⟨a1,x1,rfl,q1,l1⟩:=r;exact ⟨a1,x1,rfl,.inr ⟨aG.seqT st.sub q1,w _ F' H' st (vG (λH s=>aG.seqT s q1) l1)⟩⟩
  . exact w.elim
end
end D3
namespace D3
open PySem PySem.Spec PySem.Calls PyProof.Rows L2 PySem.W
section
variable {prog:Program}{w:World}{A:Around}{E:VSP}{s:Shared}{K:Fg}{x D:Addr}{ox:Obj}{od:Option Obj}
def XAt(h:Heap)(x:Addr)(ox:Obj)(D:Addr):Prop:=h.get? x=some ox/\ox.cls=.ref D
theorem XAt.type{M:Model}{h:Heap}(I:XAt h x ox D):Looks M h (typeOf (.ref x)) (.ref D):=I.2 ▸ (Looks.ld I.1).andThen .now
structure iC(K:Fg)(D:Addr):Prop where
 ga:PySem.W.findIn K (.ref D) "__getattribute__" = some (some (.builtin "BaseException.__getattribute__"))
 gn:PySem.W.findIn K (.ref D) "__getattr__" = some none
 ca:PySem.W.findIn K (.ref D) "__class__" = some (some (.builtin "object.__class__"))
 bx:PySem.W.mroIn K D (.type "BaseException")=some true
 ob:PySem.W.mroIn K D (.type "object")=some true
 hn:PySem.W.specialIn K (.builtin "object.__class__") "__get__" = some (some (.builtin "getset_descriptor.__get__"))
 tk:PySem.W.takesIn K (.builtin "object.__class__")=some true
theorem aGP(v:Value):bindSpecial (.builtin "BaseException.__getattribute__") v=pure (.builtin "BaseException.__getattribute__", [v]):=F.excAttr_ValueError.ga.bind v
theorem aGQ{nameV:Value}{Q:Unit->Shared->Prop}(X:K.In s.heap)(I:XAt s.heap x ox D)(Z:iC K D)(h:Q () s):wpAny (model prog w) A (checkBuiltinCall "BaseException.__getattribute__" ⟨[.ref x,nameV],[]⟩) Q E s:=by
 have k1:builtinKind "BaseException.__getattribute__" = some .slot/\splitId "BaseException.__getattribute__" = some ("BaseException", "__getattribute__"):=by decide +kernel
 have ha:=F.args_bexc_ga (.ref x) nameV;have L0:=I.type (M:=model prog w);have L1:=aQI (M:=model prog w) X Z.bx;obtain ⟨hh,g,d,t,os⟩:=s;simp only[checkBuiltinCall,k1.1,k1.2];refine aNX ?_;unfold isInstance;refine aNX (L0.at (L1.at ?_))
 repeat (first | wp_step)
 exact h
theorem aGR{M:Model}{h:Heap}(X:K.In h)(Z:iC K D):Looks M h (Builtin.ObjectAttr.find (.ref x) (.ref D) "__class__") (.bind (.builtin "getset_descriptor.__get__") (.builtin "object.__class__")):=by
 have L1:=aQJ (M:=M) X Z.ca;have L2:=PySem.W.looks_specialIn (M:=M) X Z.hn;have L3:=PySem.W.looks_takesIn (M:=M) X Z.tk;unfold Builtin.ObjectAttr.find;refine L1.andThen ?_;refine Looks.andThen (a:=some (.builtin "getset_descriptor.__get__")) (by exact L2) ?_
 have L4:Looks M h (Builtin.ObjectAttr.dataDescriptor? (some (.builtin "object.__class__")) (some (.builtin "getset_descriptor.__get__"))) (some (.builtin "getset_descriptor.__get__", .builtin "object.__class__")):=by unfold Builtin.ObjectAttr.dataDescriptor?;refine L3.andThen ?_;rw[if_pos rfl];exact .now
 refine L4.andThen ?_;exact Looks.tag .now
theorem aGS{R:Result->Shared->Prop}{tp:Value}(X:K.In s.heap)(I:XAt s.heap x ox D)(hm:PySem.W.mroIn K D (.type "object")=some true)(h:R (.ok (.ret (.ref D))) s):codeAny (model prog w) A (.call (.builtin "getset_descriptor.__get__") ⟨[.builtin "object.__class__", .ref x,tp],[]⟩) R s:=by
 obtain ⟨hh,g,dr,t,os⟩:=s;have L0:=I.type (M:=model prog w);have L1:=aQI (M:=model prog w) X hm;refine codeAny_call_builtin KF.slot_gs.plain KF.entry_gs ?_;refine KF.slot_gs.check _ _ _ _ _ _ _ _ KF.type_class (KF.args_gs _ _ _) ?_;unfold Builtin.«getset_descriptor.__get__» Builtin.Getset_descriptor.descrGet;rw[dga_obj];refine aNX (aNW ?_);unfold Builtin.Getset_descriptor.descrGetter Builtin.Getset_descriptor.descrCheckInstance Builtin.Getset_descriptor.descrNameAndClass isInstance;simp only[KF.owner_class]
 repeat lk
 refine ⟨Code.quiet_builtin _ (by decide +kernel),?_⟩
 refine codeAny_builtin KF.entry_class ?_;unfold Builtin.«object.__class__»;unfold shownTypeOf
 repeat lk
 exact h
theorem aGT{tk:Tok}{Q:Fin->Shared->Prop}(X:K.In s.heap)(I:XAt s.heap x ox D)(Z:iC K D)(h:Q (.done (.ret (.ref D))) s):wpAny (model prog w) A (Builtin.«object.__getattribute__» ⟨[.ref x,.str "__class__" tk],[]⟩) Q E s:=by
 have L0:=I.type (M:=model prog w);have L1:=aGR (x:=x) (M:=model prog w) X Z;unfold Builtin.«object.__getattribute__»;refine aNX (m:=slotArgs _ _ _) (aQE (a:=(.ref x,[.str "__class__" tk])) (by first | rfl | kernel_rfl) ?_)
 refine aNX (m:=Builtin.ObjectAttr.attrName _) (aQE (a:=Str.ofString "__class__") (by first | rfl | kernel_rfl) ?_)
 refine aNX (L0.at (aNX (L1.at ?_)));dsimp only;unfold Builtin.ObjectAttr.bindTo;dsimp only;refine aNX (aOT (wpAny_call (aGS X I Z.ob ?_)));exact aNW h
theorem aGU{fill expr:Bool}{tk:Tok}{Q:VSP}(X:K.In s.heap)(I:XAt s.heap x ox D)(Z:iC K D)(h:Q (.ref D) s):wpAny (model prog w) A (getAttrBy (.ref x) (.str "__class__" tk) fill expr) Q E s:=by
 have L0:=I.type (M:=model prog w);have L1:=aQJ (M:=model prog w) X Z.ga;have L2:=aQJ (M:=model prog w) X Z.gn;have c0:(expr&&onTheHeap (.builtin "BaseException.__getattribute__"))=false:=by cases expr <;> rfl
 have c1:(onTheHeap (.ref D)&&Value.builtin "BaseException.__getattribute__" == .builtin "object.__getattribute__")=false:=by rw[show (Value.builtin "BaseException.__getattribute__" == .builtin "object.__getattribute__")=false by decide +kernel];rfl
 unfold getAttrBy;refine aOT (aNX (L0.at (aNX (L1.at ?_))));dsimp only;rw[if_neg (by rw[c1];exact aO3)]
 unfold getAttrByItsOwn hookBefore;rw[if_pos (by rfl)]
 refine aNX (L2.at (aNX (wpAny_attempt (aOT ?_))));unfold callGetattribute;rw[if_neg (by rw[c0];exact aO3)]
 unfold boundAndCalled;rw[aGP];refine aNX (aNW (wpAny_call (codeAny_call_builtin F.excAttr_ValueError.ga.plain F.entry_bexc_ga (aGQ X I Z (aGT X I Z ?_)))));exact aQE (PySem.W.handedOut_of rfl) h
theorem aGV{Q:Option Value->Shared->Prop}(X:K.In s.heap)(I:XAt s.heap x ox D)(Z:iC K D)(h:Q (some (.ref D)) { s with toks:=s.toks+1 }):wpAny (model prog w) A (getAttr? (.ref x) "__class__") Q E s:=by unfold getAttr? getAttrBy?;refine aNX (wpAny_mkText (aNX (wpAny_attempt (aGU (s:={ s with toks:=s.toks+1 }) X I Z (aNW h)))))
theorem aGW(Z:iC K D):PySem.W.KitX K (.ref x) (.ref D) (λh=>XAt h x ox D) where
 ty:=λ_ _ _ I=>I.type
 it:=λ_ _ X _=>by
  have:=Z.ob;unfold PySem.W.mroIn at this;obtain ⟨cdD,hcD,_⟩:=aQK.mp this;unfold PySem.W.clsIn at hcD;split at hcD
  . rename_i c' d' cd' sl' ho;intro A' Q' E' s' k q;unfold isType loadHead;exact aNX (wpAny_loadPart (k _ _ (X _ _ ho)) (aNW q))
  . cases hcD
 ne:=λh tp dd its n sl X htp=>by
  have:=Z.ob;unfold PySem.W.mroIn at this;obtain ⟨cdD,hcD,_⟩:=aQK.mp this;refine Bool.eq_false_iff.mpr λq=>?_;have e:D=tp:=Value.ref.inj (aPQ.mp q);subst e;unfold PySem.W.clsIn at hcD;split at hcD
  . rename_i c' d' cd' sl' ho;have z:=(X _ _ ho).symm.trans htp;cases z
  . cases hcD
 ca:=λX I k=>aGV X I Z k
theorem aGX{e C2:Addr}{b:Bool}{Q:Bool->Shared->Prop}(X:K.In s.heap)(I:XAt s.heap e ox D)(h2:PySem.W.mroIn K C2 (.type "BaseException")=some true)(hty:PySem.W.typeIn K (.ref C2)=some (.type "type"))(hb:PySem.W.mroIn K D (.ref C2)=some b)(h:Q b s):wpAny (model prog w) A (excMatches (.ref e) (.ref C2)) Q E s:=by
 have L0:=I.type (M:=model prog w);have L1:=PySem.W.looks_typeIn (M:=model prog w) X hty;have L3:=aQI (M:=model prog w) X h2;have L4:=aQI (M:=model prog w) X hb;have L5:Looks (model prog w) s.heap (isType (.ref C2)) true:=by
  unfold PySem.W.mroIn at h2;obtain ⟨cdD,hcD,_⟩:=aQK.mp h2;unfold PySem.W.clsIn at hcD;split at hcD
  . rename_i c' d' cd' sl' ho;intro A' Q' E' s' k q;unfold isType loadHead;exact aNX (wpAny_loadPart (k _ _ (X _ _ ho)) (aNW q))
  . cases hcD
 unfold excMatches;refine aNX ?_;unfold isInstance;refine aNX (L1.at (aQE tc_notTuple ?_));rw[if_neg aO3];refine aNX (aNW ?_);dsimp only;rw[aPY];refine aNX (aNX (aNX ?_));unfold isExcClass;refine aNX (L5.at ?_);rw[if_pos rfl];refine L3.at ?_;rw[Bool.not_true,if_neg aO3];refine aNW ?_;dsimp only;rw[aPX];refine aNW (aNX (L0.at ?_));rw[aPY];refine aNX (aNX (aNX (L4.at ?_)));cases b with
 | true=>rw[if_pos rfl];exact aNW (aNW (aNW h))
 | false=>rw[if_neg aO3];refine aNW ?_;dsimp only;rw[aPX];exact aNW (aNW h)
end
end D3
namespace D3
open PySem PySem.Spec PySem.Calls PyProof.Rows L2
structure Fly(P:Program)(w:World)(outer:List Env)(H:Hp)(s:Shared)(H1:Hp)(B hp:Heap):Prop where
 un:Un (frs outer) [] H H1 s.heap hp
 ok:HOk P w H1 hp
 kb:∀ b o,hp.get? b=some o->s.heap.get? b≠none->b∉frs outer->B.get? b=some o
 kh:∀ b u,H1 b=some u->∃ o,hp.get? b=some o/\B.get? b=some o
 fr:∀ b∈frs outer,H b=none/\∃ o,s.heap.get? b=some o/\∀ vs,o.data ≠ .fields vs
section
variable {P:Program}{w:World}{outer:List Env}{H H1:Hp}{s:Shared}{B hp h':Heap}
theorem dH{b:Addr}:b∉([]:List Addr):=by simp
theorem Fly.slots(f:Fly P w outer H s H1 B hp)(up:hp.UpToSlots h'){b:Addr}(hb:b∈frs outer):∃ o sl sl',s.heap.get? b=some o/\hp.get? b=some { o with slots:=sl }/\h'.get? b=some { o with slots:=sl' }:=by obtain ⟨hn,o,e,nf⟩:=f.fr b hb;obtain ⟨sl,e1⟩:=f.un.slot b o e hn hb dH;obtain ⟨sl',e2⟩:=up b _ e1 nf;exact ⟨o,sl,sl',e,e1,e2⟩
theorem Fly.on(f:Fly P w outer H s H1 B hp)(st:B.StaysIn h')(up:hp.UpToSlots h'):Fly P w outer H s H1 B h' where
 un:={
  keep:=λb o e n hb _=>st b o (f.kb b o (f.un.keep b o e n hb dH) (by rw[e];exact λz=>nomatch z) hb)
  slot:=λb o e n hb _=>by obtain ⟨o',sl,sl',e0,_,e2⟩:=f.slots up hb;rw[e] at e0;cases e0;exact ⟨sl',e2⟩
  free:=f.un.free
  there:=λb o e _=>by
   by_cases hb:b∈frs outer
   . obtain ⟨o',sl,sl',e0,_,e2⟩:=f.slots up hb;exact ⟨_,e2⟩
   . obtain ⟨o',e1⟩:=f.un.there b o e dH;exact ⟨o',st b o' (f.kb b o' e1 (by rw[e];exact λz=>nomatch z) hb)⟩
  tups:=f.un.tups
  frzs:=f.un.frzs
  tbls:=f.un.tbls }
 ok := fun a o e => (f.ok a o e).stay (fun b u hb q => by
     have:∃ u',H1 b=some u':=by
      rcases hb with rfl | hb
      . exact ⟨o,e⟩
      . exact ⟨_,hb⟩
     obtain ⟨u',eu⟩:=this;obtain ⟨o',e1,e2⟩:=f.kh b u' eu;rw[q] at e1;cases e1;exact st b u e2) (λ_ q=>q) λ_ _ q=>q
 kb:=λb o e ns hb=>by
  cases e0:s.heap.get? b with
  | none=>exact absurd e0 ns
  | some o0=>obtain ⟨o',e1⟩:=f.un.there b o0 e0 dH;have e2:=f.kb b o' e1 ns hb;have e3:=st b o' e2;rw[e] at e3;cases e3;exact e2
 kh:=λb u e=>by obtain ⟨o,_,e2⟩:=f.kh b u e;exact ⟨o,st b o e2,e2⟩
 fr:=f.fr
end
def CX1(P:Program)(w:World):CXT:=λouter H s E ev s'=>∃ (e C:Addr) (a0:Value) (H1:Hp) (B:Heap),
 ev=.ref e/\s'.os=s.os/\AllBare s'.gens/\Heap.FlyingW B outer e (.ref C) a0 s'.heap/\Fly P w outer H s H1 B s'.heap/\E (.ref C) none H1
section
variable {X:Cx}{aA:LAO}{σ:L2.St}{H H1:Hp}{s s':Shared}{B hp:Heap}{E:XK}
theorem aGY(I:Inv X aA σ H s):∀ b∈frs X.stack,H b=none/\∃ o,s.heap.get? b=some o/\∀ vs,o.data ≠ .fields vs:=λb hb =>
 ⟨I.stkFree b hb,(I.stack.mem hb).2⟩
theorem Fly.inv(I:Inv X aA σ H s)(f:Fly X.prog X.w X.stack H s H1 B s'.heap)(ho:s'.os=s.os)(hg:AllBare s'.gens):Inv X aA σ H1 s' :=
 Inv.call' (ch:=[]) I ho f.un f.ok hg (λb z=>absurd z dH)
theorem Fly.out(I:Inv X aA σ H s)(f:Fly X.prog X.w X.stack H s H1 B s'.heap)(ho:s'.os=s.os)(hg:AllBare s'.gens)(hx:X.ex=[])(hs:X.stack=X.env::X.outer)(hf:X.env.frame=some X.env.locals){h':Heap}(st:B.StaysIn h')(up:s'.heap.UpToSlots h'):Fly X.prog X.w X.outer X.H₀ X.s₀ H1 B h':=by
 have I1:=f.inv I ho hg;have f1:=f.on st up;have ub:=I1.base;rw[hx] at ub;have old:∀ b o,X.s₀.heap.get? b=some o->∃ o',s.heap.get? b=some o':=λb o e=>I.base.there b o e (by rw[hx];exact dH)
 have nl:∀ b o,X.s₀.heap.get? b=some o->b≠X.env.locals:=λb o e z=>absurd (aNA e) (by rw[z];exact Nat.not_lt.mpr I.ok.above)
 have sub:∀ b,b∉frs X.outer->b≠X.env.locals->b∉frs X.stack:=λb h1 h2 z=>by
  rcases aNK.mp (I.stkSub b z) with q | q
  . exact h2 q
  . exact h1 q
 have sup:∀ b,b∈frs X.outer->b∈frs X.stack:=λb hb=>by rw[hs];unfold frs;rw[aNJ,hf];exact mcm hb
 refine ⟨⟨λb o e n hb _=>?_,λb o e n hb _=>?_,ub.free,λb o e _=>?_,ub.tups,ub.frzs,ub.tbls⟩,f1.ok,λb o e ns hb=>?_,f1.kh,λb hb=>?_⟩
 . have e1:=ub.keep b o e n hb dH;obtain ⟨o',e0⟩:=old b o e;exact st b o (f.kb b o e1 (by rw[e0];exact λz=>nomatch z) (sub b hb (nl b o e)))
 . obtain ⟨sl,e1⟩:=ub.slot b o e n hb dH;obtain ⟨o',sl1,sl2,e0,e1',e2⟩:=f.slots up (sup b hb);have q:=aM8 (e1.symm.trans e1');refine ⟨sl2,?_⟩;rw[e2];obtain ⟨c1,d1,t1,l1⟩:=o;obtain ⟨c2,d2,t2,l2⟩:=o';simp only[Obj.mk.injEq] at q;obtain ⟨rfl,rfl,rfl,_⟩:=q;rfl
 . obtain ⟨o',e0⟩:=old b o e;exact f1.un.there b o' e0 dH
 . cases e0:X.s₀.heap.get? b with
   | none=>exact absurd e0 ns
   | some o0=>obtain ⟨o',e1⟩:=old b o0 e0;exact f1.kb b o e (by rw[e1];exact λz=>nomatch z) (sub b hb (nl b o0 e0))
 . exact ⟨I.ok.frf b hb,(I.ok.funs.mem hb).2⟩
def lH(h:Heap)(l:List Env):Heap:=PySem.W.hideAll h (frs l)
theorem Fly.raise(I:Inv X aA σ H s)(hx:X.ex=[])(hs:X.stack=X.env::X.outer)(hf:X.env.frame=some X.env.locals){h':Heap}(st:(lH s.heap X.stack).StaysIn h')(up:s.heap.UpToSlots h'):Fly X.prog X.w X.outer X.H₀ X.s₀ H (lH s.heap X.stack) h':=by
 have f:Fly X.prog X.w X.stack H s H (lH s.heap X.stack) s.heap :=
  ⟨Un.refl,I.hok,λb o e _ hb=>aNE _ e hb,λb u e=>by
   have hn:b∉frs X.stack:=λz=>by rw[I.stkFree b z] at e;cases e
   have:∃ o,s.heap.get? b=some o:=by
    have:=I.hok b u e;cases u with
    | lst xs=>obtain ⟨_,_,_,_,e⟩:=this;exact ⟨_,e⟩
    | tup xs=>obtain ⟨_,_,_,o,e,_⟩:=this;exact ⟨_,e⟩
    | dK kvs=>obtain ⟨_,_,_,_,o,_,_,e,_⟩:=this;exact ⟨_,e⟩
    | dT kvs=>obtain ⟨_,_,_,_,o,_,_,e,_⟩:=this;exact ⟨_,e⟩
    | set S n=>obtain ⟨o,_,_,_,e,_⟩:=this;exact ⟨_,e⟩
    | ins C dx fs=>obtain ⟨_,_,_,e,_⟩:=this;exact ⟨_,e⟩
    | own y=>obtain ⟨_,e⟩:=this;exact ⟨_,e⟩
    | xd fs=>obtain ⟨_,⟨_,_,_,e,_⟩,_⟩:=this;exact ⟨_,e⟩
    | rng lo hi=>obtain ⟨_,_,_,e⟩:=this;exact ⟨_,e⟩
    | frz ob u=>obtain ⟨e,_⟩:=this;exact ⟨_,e⟩
    | tbl ps=>exact ⟨_,this⟩
    | met f y=>exact ⟨_,this⟩
    | ext φ=>obtain ⟨_,⟨_,e⟩,_⟩:=this;exact ⟨_,e⟩
   obtain ⟨o,eo⟩:=this;exact ⟨o,eo,aNE _ eo hn⟩,aGY I⟩
 exact f.out I rfl I.bare hx hs hf st up
end
def qA:List Value:=[.type "ValueError", .type "Exception", .type "BaseException", .type "object"]
def lI(K:Fg)(C:Addr):Prop:=PySem.W.excIn K C qA "ValueError.__new__" = true
def qB(C:Cw)(X:Cx):Prop:=∀ (aA:LAO) (σ:L2.St) (H:Hp) (s:Shared) (c:Str) (Cc:Addr) (vs:List Value) (h':Heap) (e:Addr),Inv X aA σ H s->X.mg c=some (.ref Cc)->C.EE c σ H ->
 Heap.MadeExcOf s.heap h' e (.ref Cc) vs->X.xe (.ref e) { s with heap:=h' }
def rzR(c:Str)(ρ:Rho):aW->aF
 | .ok xs=>if xs.length<=sizeLine then .exc c ρ else .stuck
 | .exc c'=>.exc c' ρ
 | .stuck=>.stuck
theorem aGZ{K:Fg}{C:Addr}(q:lI K C):∃ bm N nm qn bs hd sn sub ab col dd k0 k1 k2 k3 k5,∀ h:Heap,K.In h->h.get? C=some (excClassObj nm qn C N bs bm hd sn sub ab col dd k0 k1 k2 k3 k5 "ValueError.__new__")/\h.Ns N (h.nsMap N)/\h.nsMap N "__init__" = none/\OwnTail h qA bm:=by
 unfold lI PySem.W.excIn at q;split at q
 . rename_i dd cd sl ho;split at q
   . rename_i C' bm k0 k1 k2 k3 n k5 hm hs;rw[aOX,aOX,aOX,aOX,aOX] at q;obtain ⟨⟨⟨⟨⟨q1,q2⟩,q3⟩,q4⟩,q5⟩,q6⟩:=q;obtain ⟨nm,bs,mro,ns,qn,hd,sn,sub,ab,col,del⟩:=cd;have e1:C'=C:=aPQ.mp q1;have e2:n = "ValueError.__new__" := aPQ.mp q2;have e3:del=false:=by simpa using q3
     have e4:sl = #[k0,k1,k2,k3,some (.builtin n),k5]:=Array.ext' hs;have e5:mro=.ref C'::bm:=hm;subst e1 e2 e3 e4 e5;refine ⟨bm,ns,nm,qn,bs,hd,sn,sub,ab,col,dd,k0,k1,k2,k3,k5,λh X=>⟨X _ _ ho,.of_isNs (PySem.W.isNs_of_in X q5),PySem.W.nsMap_none_of_in X q5 (aPQ.mp q6),PySem.W.tail_of_in X q4⟩⟩
   . cases q
 . cases q
theorem vH{K:Fg}{F H:Hp}:∀ {xs:List (Md×D)} {vs:List V},RpL K F H xs vs->vs.length=xs.length
 | [],_,h=>by rw[show _=[] from h];rfl
 | _::_,_,h=>by obtain ⟨v,us,rfl,_,r⟩:=h;rw[aO8,aO8,vH r]
section
variable {C:Cw}{X:Cx}{e:Expr}{es:List Expr}{gs:Rho->aW}{x:Str}{np cpos pos:Pos}
theorem aG0{Cc:Addr}(hm:X.mg x=some (.ref Cc))(Z:lI X.K Cc)(hh:X.A.handled=none)(hr:qB C X)(hg:Gl X x)(ha:PAv C X (e::es) gs)(hd:(x==("__debug__" : Str))=false)(hst:∀ y∈e::es,cW y=true):PSv C X (.Raise (some (.Call (.Name x np) (e::es) [] cpos)) none pos) (λρ=>rzR x ρ (gs ρ)):=by
 intro aA s σ H En I q;obtain ⟨ρ,F,R,w⟩:=q;obtain ⟨bm,N,nm,qn,bs,hdc,sn,sub,ab,col,dd,k0,k1,k2,k3,k5,hobj⟩:=aGZ Z;have vb:=_root_.PySem.F.excBase_ValueError;have B0:=hobj X.base I.mod.kin;have st:=cX (es:=es) (env:=X.env) (hst e mcs);refine wpAny_Raise_call_subU (C:=Cc) (nm:=nm) (q:=qn) (N:=N) (bs:=bs) (bm:=bm) (hdct:=hdc) (sn:=sn) (sub:=sub) (ab:=ab) (col:=col) (dd:=dd) (k0:=k0) (k1:=k1) (k2:=k2) (k3:=k3) (k5:=k5)
  vb vb.hasB vb (mN:=X.base.nsMap N) (B0.2.2.2.hasType vb.hasBase) hh (iU _ _ hst) B0.2.2.1 (kU I hg hm ⟨rfl,?_⟩ hd)
 rw[st];refine Calls.evalArgs_plain ?_;have main:=ha cpos aA s σ H (λvs H1=>vs.length<=sizeLine/\C.EE x σ H1) I ?_
 . rw[st] at main;refine aNR main (λus s2 h2=>?_) λ_ _ z=>z;obtain ⟨vs,H1,I1,r1,hl,he⟩:=h2;have B1:=hobj s2.heap I1.kIn;exact ⟨rfl,by rw[<- r1.length];exact hl,B1.1,B0.2.1.keeps I1.bk,B1.2.2.2,λh' ex made=>hr aA σ H1 s2 x Cc us h' ex I1 hm he made⟩
 . refine ⟨ρ,F,R,?_⟩;dsimp only at w;cases er:gs ρ with
   | stuck=>rw[er] at w;exact w
   | exc c=>rw[er] at w;exact λF' H' st=>w σ F' H' st.fsame (R.step st)
   | ok xs =>
    rw[er] at w;intro vs F' H' st rp;have w:bS (C.at X) F (if xs.length<=sizeLine then .exc x ρ else .stuck) En:=w;split at w
    . rename_i hl;exact ⟨by rw[vH rp];exact hl,w σ F' H' st.fsame (R.step st)⟩
    . exact w.elim
structure iW(X:Cx):Prop where
 hx:X.ex=[]
 hs:X.stack=X.env::X.outer
 hf:X.env.frame=some X.env.locals
end
section
variable {P:Program}{w:World}{K:Fg}{mg:SOV}{base:Heap}{N:List Str}{aP:Str}{scope:Scope}{f:Addr}{cdv:Value}{A:Around}{outer:List Env}{s:Shared}{H:Hp}{E:XK}
theorem fnCx:iW (dE (CX1 P w) P w K mg base N aP scope f cdv A outer s H E):=⟨rfl,rfl,rfl⟩
def lJ(mg:SOV)(E:XK):XE:=λc _ H'=>∀ u,mg c=some u->E u none H'
theorem aG1{C:Cw}(hE:C.EE=lJ mg E):XOk (CX1 P w) C (dE (CX1 P w) P w K mg base N aP scope f cdv A outer s H E):=by intro aA σ H1 s1 ev s' I h;obtain ⟨e,Cc,a0,H2,B,rfl,ho,hg,fl,fy,c,hm,he⟩:=h;rw[hE] at he;have I0:=I.ok.frames;refine wpAny_leaves_onW I0 rfl fl λh' fl' up=>?_;exact ⟨e,Cc,a0,H2,B,rfl,ho.trans I.os,hg,fl',fy.out I ho hg rfl rfl rfl fl'.1 up,he _ hm⟩
theorem aG2{C:Cw}(hE:C.EE=lJ mg E):qB C (dE (CX1 P w) P w K mg base N aP scope f cdv A outer s H E):=by
 intro aA σ H1 s1 c Cc vs h1 e I hm he made;rw[hE] at he;have I0:=I.ok.frames;have hin:∀ env∈(dE (CX1 P w) P w K mg base N aP scope f cdv A outer s H E).stack,∀ a,env.frame=some a->a∈frs (dE (CX1 P w) P w K mg base N aP scope f cdv A outer s H E).stack:=λenv he a ha=>aN1.mpr ⟨env,he,ha⟩;have FF:s1.heap.FunFrames (lH s1.heap (dE (CX1 P w) P w K mg base N aP scope f cdv A outer s H E).stack) _:=PySem.W.funFrames_hide I.stack hin;have st0:(lH s1.heap (dE (CX1 P w) P w K mg base N aP scope f cdv A outer s H E).stack).StaysIn s1.heap:=λb o q=>aNG _ q;refine wpAny_leaves_madeW (s:={ s1 with heap:=h1 }) I0 rfl st0 FF made λh' t fl _ _ up=>?_
 have up0:s1.heap.UpToSlots h':=(Heap.UpToSlots.of_keeps made.keeps).trans up;exact ⟨e,Cc,.ref t,H1,_,rfl,I.os,I.bare,fl,Fly.raise I rfl rfl rfl fl.1 up0,he _ hm⟩
end
structure HX where
 cls:Str
 slot:Option Nat
 g:Rho->aF
def unS{α:Type}(i:Option Nat)(ρ:List (Option α)):List (Option α):=match i with | none=>ρ | some i=>ρ.set i none
def inR(i:Option Nat)(c:Str)(ρ:Rho):Rho:=match i with | none=>ρ | some i=>ρ.set i (some (false,.exn c))
def unR(i:Option Nat):aF->aF
 | .nx ρ=>.nx (unS i ρ)
 | .bk ρ=>.bk (unS i ρ)
 | .ct ρ=>.ct (unS i ρ)
 | .rt m d=>.rt m d
 | _=>.stuck
def gE(xt:Str->Str->Option Bool)(c:Str)(ρ:Rho):List HX->aF
 | []=>.stuck
 | h::r=>match xt c h.cls with
  | some true=>unR h.slot (h.g (inR h.slot c ρ))
  | some false=>gE xt c ρ r
  | none=>.stuck
def j4(xt:Str->Str->Option Bool)(hs:List HX):aF->aF
 | .exc c ρ=>gE xt c ρ hs
 | r=>r
def j5(K:Fg)(mg:SOV)(xt:Str->Str->Option Bool):Prop:=∀ c x b,xt c x=some b->∃ C C2,PySem.W.nsIn K mainGlobals c=some (some (.ref C))/\mg c=some (.ref C)/\mg x=some (.ref C2) /\
 PySem.W.mroIn K C2 (.type "BaseException")=some true/\PySem.W.typeIn K (.ref C2)=some (.type "type")/\PySem.W.mroIn K C (.ref C2)=some b
abbrev mkX(X:Cx)(e:Addr):Cx:={ X with A:=X.A.mark (some (.ref e)),calm:=false,xe:=λ_ _=>False }
section
variable {X:Cx}{aA:LAO}{σ:L2.St}{H:Hp}{s:Shared}{e:Addr}
theorem ok_mk(o:X.Ok):(mkX X e).Ok :=
 ⟨o.mod,o.kind,o.glob,o.blt,o.above,o.inj,o.has,o.cab,λz=>(aO3 z).elim,o.frames,o.stk,o.exf,o.bs,o.bsz,o.noex,o.exfs,o.funs,o.frf⟩
theorem qC(I:Inv X aA σ H s):Inv (mkX X e) aA σ H s:=⟨ok_mk I.ok,I.os,I.bare,I.base,I.loc,I.cell,I.free,I.freeC,I.pin,I.hok,I.len⟩
theorem iD(o:X.Ok)(I:Inv (mkX X e) aA σ H s):Inv X aA σ H s:=⟨o,I.os,I.bare,I.base,I.loc,I.cell,I.free,I.freeC,I.pin,I.hok,I.len⟩
theorem nO {M : Model} {A : Around} {E : Value → Shared → Prop} {i : Nat} {x : Str} {pos : Pos} {Q : Unit → Shared → Prop} (I : Inv X aA σ H s) (hN : X.N.Nodup) (hi : X.N[i]? = some x) (hx : X.env.scope.names.lookup x = some .local)
    (h:∀ s',Inv X aA (σ.set i none) H s'->Q () s'):wpAny M A (do bindName X.env x .none;unbindBehindTheSuite X.env x pos) Q E s:=by
 refine aNX (wpAny_bindName (mO (v:=.non) I hN hi (.inl hx) rfl (λs1 I1=>?_) (.inr hx)));unfold unbindBehindTheSuite;refine wpAny_onRaise ?_;obtain ⟨m,hn,hl⟩:=id I1.loc;have hiσ:i<σ.length:=by rw[I.len];exact (aNN.mp hi).1
 have hcls:(X.env.scope.kind == .class||(X.env.scope.kind == .module&&X.env.locals != X.env.globals))=false:=by rw[I.ok.kind];rfl
 obtain ⟨u,ru,lk⟩:=hl i x .non hi (by rw[aNP hiσ]) (.inl hx)
 have hv:m x=some u:=by
  rcases lk with ⟨_,q⟩ | ⟨k,_⟩
  . exact q
  . exfalso;have hx':X.env.kindOf x=some .local:=hx;rcases k with k | k <;> rw[hx'] at k <;> cases k
 refine wpAny_unbindName_local hx hn hv hcls λh' u' hn' hs=>h _ ?_;obtain ⟨oL,_,_,hoL,_⟩:=id hn;have cne:=I1.cne;refine ⟨I1.ok,I1.os,I1.bare,⟨λb o e n hb hx=>?_,λb o e n hb hx=>?_,I1.base.free,λb o e hx=>?_,I1.base.tups,I1.base.frzs,I1.base.tbls⟩,⟨_,hn',λj y v' e1 e2 e3=>?_⟩,λy c e=>?_,I1.free,I1.freeC,λp hp=>?_,λb ob e=>?_,by simpa using I.len⟩
 . exact (hs.2 b (aND (aNB (aNA e) I1.ok.above))).trans (I1.base.keep b o e n hb hx)
 . obtain ⟨sl,e1⟩:=I1.base.slot b o e n hb hx;exact ⟨sl,(hs.2 b (aND (aNB (aNA e) I1.ok.above))).trans e1⟩
 . obtain ⟨o',e1⟩:=I1.base.there b o e hx;exact ⟨o',(hs.2 b (aND (aNB (aNA e) I1.ok.above))).trans e1⟩
 . by_cases hj:j=i
   . subst hj;rw[aNP hiσ] at e2;cases e2
   . rw[aNQ (Ne.symm hj)] at e2;obtain ⟨u2,r2,q⟩:=hl j y v' e1 (by rw[aNQ (Ne.symm hj)];exact e2) e3
     refine ⟨u2,r2,?_⟩;rcases q with ⟨k,e⟩ | ⟨k,c,e,z⟩
     . refine .inl ⟨k,?_⟩;have:y≠x:=λe=>hj (o8 hN e1 (e ▸ hi));simp[this,e]
     . exact .inr ⟨k,c,e,z.sameBut hs (cne y c e)⟩
 . obtain ⟨w',z⟩:=I1.cell y c e;exact ⟨w',z.sameBut hs (cne y c e)⟩
 . obtain ⟨e,n,ne,nf,d⟩:=I1.pin p hp;exact ⟨(hs.2 p.1 ne).trans e,n,ne,nf,d⟩
 . refine (I1.hok b ob e).stay (λc w' hc q=>(hs.2 c ?_).trans q) (λ_ q=>q) λ_ _ q=>q;rintro rfl;have fr:=I1.free;rcases hc with z | hc
   . rw[z] at fr;rw[fr] at e;cases e
   . rw[fr] at hc;cases hc
theorem aG3{K:Fg}{F0 H0 F H:Hp}{σ:L2.St}{ρ:Rho}(i:Nat)(R:aS K F0 H0 F H σ ρ):aS K F0 H0 F H (σ.set i none) (ρ.set i none):=by
 have back:∀ (l:Nat) (m:Bool) (d:D),(ρ.set i none)[l]? = some (some (m,d))->l≠i/\ρ[l]? = some (some (m,d)):=λl m d q=>by
  by_cases hl:l=i
  . subst hl;rw[aPS] at q;split at q
    . split at q <;> cases q
    . exact absurd rfl (by assumption)
  . rw[aNQ (λz=>hl z.symm)] at q;exact ⟨hl,q⟩
 refine ⟨R.st,λl m d e=>?_,λl j d d' a hlj e1 e2 q1 q2=>?_,by simp[R.len]⟩
 . obtain ⟨hl,q⟩:=back l m d e;rw[aNQ (λz=>hl z.symm)];exact R.slot l m d q
 . obtain ⟨h1,k1⟩:=back l true d e1;obtain ⟨h2,k2⟩:=back j true d' e2;rw[aNQ (λz=>h1 z.symm)] at q1;rw[aNQ (λz=>h2 z.symm)] at q2;exact R.apart l j d d' a hlj k1 k2 q1 q2
end
inductive gG(C:Cw)(X:Cx):List ExceptHandler->List HX->Prop
 | nil:gG C X [] []
 | plain {x : Str} {np hp : Pos} {b : Stmt} {suite : List Stmt} {g : Rho → aF} {r : List ExceptHandler} {r' : List HX} : Gl X x → (x == ("__debug__" : Str)) = false → (∀ e, PBv C.nox (mkX X e) (b :: suite) g) → gG C X r r' →
     gG C X (.ExceptHandler (some (.Name x np)) none (b::suite) hp::r) (⟨x,none,g⟩::r')
 | named {x n : Str} {i : Nat} {np hp : Pos} {b : Stmt} {suite : List Stmt} {g : Rho → aF} {r : List ExceptHandler} {r' : List HX} : Gl X x → (x == ("__debug__" : Str)) = false → X.N[i]? = some n → X.env.scope.names.lookup n = some .local →
     (∀ e,PBv C.nox (mkX X e) (b::suite) g)->gG C X r r'->gG C X (.ExceptHandler (some (.Name x np)) (some n) (b::suite) hp::r) (⟨x,some i,g⟩::r')
section
variable {C:Cw}{X:Cx}{aA:LAO}{σ:L2.St}{H H1:Hp}{s s0:Shared}{e Cc:Addr}{a0:Value}{B:Heap}
theorem Fly.h1e(fl:Heap.FlyingW B X.stack e (.ref Cc) a0 s.heap)(fy:Fly X.prog X.w X.stack H s0 H1 B s.heap):H1 e=none:=by
 cases q:H1 e with
 | none=>rfl
 | some u=>obtain ⟨o,_,z⟩:=fy.kh e u q;rw[fl.2.1] at z;cases z
theorem Fly.s0e(fl:Heap.FlyingW B X.stack e (.ref Cc) a0 s.heap)(fy:Fly X.prog X.w X.stack H s0 H1 B s.heap):s0.heap.get? e=none:=by
 cases q:s0.heap.get? e with
 | none=>rfl
 | some o =>
  exfalso;by_cases hb:e∈frs X.stack
  . obtain ⟨o',sl,_,e0,e1,_⟩:=fy.slots (Heap.UpToSlots.refl _) hb;obtain ⟨_,o2,e2,nf⟩:=fy.fr e hb;rw[e0] at e2;cases e2;obtain ⟨oe,vs,he,_,hd,_⟩:=fl.first
    rw[e1] at he;cases he;exact nf vs hd
  . obtain ⟨o',e1⟩:=fy.un.there e o q dH;have:=fy.kb e o' e1 (by rw[q];exact λz=>nomatch z) hb
    rw[fl.2.1] at this;cases this
theorem Fly.held(I0:Inv X aA σ H s0)(fl:Heap.FlyingW B X.stack e (.ref Cc) a0 s.heap)(fy:Fly X.prog X.w X.stack H s0 H1 B s.heap)(ho:s.os=s0.os)(hg:AllBare s.gens):Inv X aA σ (upd H1 e (fM e Cc)) s:=by
 have h1:=Fly.h1e fl fy;have h0:=Fly.s0e fl fy;obtain ⟨oe,he,hc⟩:=fl.there;have nb:∀ {b u},H1 b=some u->b≠e:=λq z=>by rw[z,h1] at q;cases q
 refine Inv.call' (ch:=[]) I0 ho ⟨fy.un.keep,fy.un.slot,λb o q n z=>?_,fy.un.there,λb xs q=>?_,λb o u q=>?_,λb ps q=>?_⟩ (λb u q=>?_) hg (λb z=>absurd z dH)
 . rw[aO λz=>by rw[z,h0] at q;cases q];exact fy.un.free b o q n z
 . have:=fy.un.tups b xs q;rw[aO (nb this)];exact this
 . have:=fy.un.frzs b o u q;rw[aO (nb this)];exact this
 . obtain ⟨more,this⟩:=fy.un.tbls b ps q;exact ⟨more,by rw[aO (nb this)];exact this⟩
 . by_cases hb:b=e
   . subst hb;rw[bQ] at q;cases q;exact ⟨⟨oe,he,hc⟩,⟨oe,he⟩,λh1 h2 p k=>by obtain ⟨o,q,z⟩:=p;exact ⟨o,k o q,z⟩⟩
   . rw[aO hb] at q;exact (fy.ok b u q).stay (λ_ _ _ z=>z) (λc z=>by rw[aO (nb z)];exact z) λc xs z=>by rw[aO (nb z)];exact z
def unE(i:Option Nat)(D:cM):cM:={ nx:=λσ H=>D.nx (unS i σ) H,rt:=D.rt,bk:=λσ H=>D.bk (unS i σ) H,ct:=λσ H=>D.ct (unS i σ) H }
theorem vI{F:Hp}{r:aF}{D:cM}(i:Option Nat)(w:bS C F (unR i r) D):bS C.nox F r (unE i D):=by
 have un:∀ {σ F' H' ρ},aS C.K C.F0 C.H0 F' H' σ ρ->aS C.K C.F0 C.H0 F' H' (unS i σ) (unS i ρ):=λR=>by
  cases i with
  | none=>exact R
  | some i=>exact aG3 i R
 cases r with
 | nx ρ=>exact λσ F' H' z R=>w _ F' H' z (un R)
 | bk ρ=>exact λσ F' H' z R=>w _ F' H' z (un R)
 | ct ρ=>exact λσ F' H' z R=>w _ F' H' z (un R)
 | rt m d=>exact w
 | exc c ρ=>exact w.elim
 | stuck=>exact w
theorem aG4{xt:Str->Str->Option Bool}(hxt:j5 X.K X.mg xt)(hN:X.N.Nodup){c:Str}{ρ:Rho}{F:Hp}{D:cM}(I0:Inv X aA σ H s0)(hm:X.mg c=some (.ref Cc))(R:aS X.K C.F0 C.H0 F H1 σ ρ):∀ {hs:List ExceptHandler} {hx:List HX} {s:Shared},gG C X hs hx->Heap.FlyingW B X.stack e (.ref Cc) a0 s.heap->Fly X.prog X.w X.stack H s0 H1 B s.heap->s.os=s0.os->AllBare s.gens->bS (C.at X) F (gE xt c ρ hx) D->wpAny (model X.prog X.w) X.A (handleBy (.ref e) X.env hs) (SP X aA D) X.xe s:=by
 have test : ∀ {x : Str} {np hp : Pos} {s : Shared} {b : Bool} {C2 : Addr} {RR : Result → Shared → Prop}, Gl X x → (x == ("__debug__" : Str)) = false → Heap.FlyingW B X.stack e (.ref Cc) a0 s.heap → Fly X.prog X.w X.stack H s0 H1 B s.heap → s.os = s0.os → AllBare s.gens →
     X.mg x=some (.ref C2)->PySem.W.mroIn X.K C2 (.type "BaseException")=some true->PySem.W.typeIn X.K (.ref C2)=some (.type "type")->PySem.W.mroIn X.K Cc (.ref C2)=some b->RR (.ok (if b then .brk else .next)) s ->
     codeAny (model X.prog X.w) (X.A.mark (some (.ref e))) (.handlers (.ref e) [.ExceptHandler (some (.Name x np)) none [] hp] X.env) RR s:=by
  intro x np hp s b C2 RR hg hd fl fy ho hb m2 x1 x2 x3 q;have I:=fy.inv I0 ho hb;obtain ⟨oe,he,hc⟩:=fl.there;exact codeAny_handlers_test (kU (X:=mkX X e) (qC I) hg m2 (aGX I.kIn ⟨he,hc⟩ x1 x2 x3 q) hd)
 intro hs hx s hk
 induction hk generalizing s with
 | nil=>intro _ _ _ _ w;exact w.elim
 | @plain x np hp b suite g r r' hg hd hsu _ ih =>
  intro fl fy ho hb w;unfold gE at w;dsimp only at w;cases ex:xt c x with
  | none=>rw[ex] at w;exact w.elim
  | some bb =>
   rw[ex] at w;obtain ⟨C1,C2,_,m1,m2,x1,x2,x3⟩:=hxt c x bb ex;rw[hm] at m1;cases m1;refine wpAny_handleBy_cons (test hg hd fl fy ho hb m2 x1 x2 x3 ?_) (by intro q;cases q)
   cases bb with
   | false=>exact ih fl fy ho hb w
   | true =>
    refine codeAny_handlers_suite (lands_againW fl λh6 fl6 up6=>?_);have fy6:=fy.on fl6.1 up6;have I6:Inv X aA σ H1 { s with heap:=h6 }:=fy6.inv I0 (s':={ s with heap:=h6 }) ho hb
    refine aNR (hsu e aA { s with heap:=h6 } σ H1 (unE none D) (qC I6) ⟨ρ,F,R,vI none w⟩) (λf s7 h7=>?_) λ_ _ z=>z.elim
    cases f with
    | next=>obtain ⟨σ',H',J,q⟩:=h7;exact ⟨σ',H',iD I0.ok J,q⟩
    | brk=>obtain ⟨σ',H',J,q⟩:=h7;exact ⟨σ',H',iD I0.ok J,q⟩
    | cont=>obtain ⟨σ',H',J,q⟩:=h7;exact ⟨σ',H',iD I0.ok J,q⟩
    | ret u=>obtain ⟨v,σ',H',J,r,q⟩:=h7;exact ⟨v,σ',H',iD I0.ok J,r,q⟩
 | @named x n i np hp b suite g r r' hg hd hi hl hsu _ ih =>
  intro fl fy ho hb w;unfold gE at w;dsimp only at w;cases ex:xt c x with
  | none=>rw[ex] at w;exact w.elim
  | some bb =>
   rw[ex] at w;obtain ⟨C1,C2,n1,m1,m2,x1,x2,x3⟩:=hxt c x bb ex;rw[hm] at m1;cases m1;refine wpAny_handleBy_cons (test hg hd fl fy ho hb m2 x1 x2 x3 ?_) (by intro q;cases q)
   cases bb with
   | false=>exact ih fl fy ho hb w
   | true =>
    refine codeAny_handlers_suite_as (lands_againW fl λh6 fl6 up6=>?_);have fy6:=fy.on fl6.1 up6;have I6:Inv X aA σ (upd H1 e (fM e Cc)) { s with heap:=h6 }:=Fly.held (s:={ s with heap:=h6 }) I0 fl6 fy6 ho hb
    have st:aK F H1 (upd F e (fM e Cc)) (upd H1 e (fM e Cc)):=aK.laid _ R.sub (Fly.h1e fl fy);have rp:Rp X.K (upd F e (fM e Cc)) (upd H1 e (fM e Cc)) .fz (.exn c) (.ref e):=by show aD X.K _ _ _;simp only[aD];exact ⟨e,Cc,rfl,n1,bQ⟩
    have R7:=R.set (i:=i) (m:=false) st rp (by intro z;cases z)
    refine mO (v:=.ref e) I6 hN hi (.inl hl) rfl (λs7 I7=>?_) (.inr hl);refine aNR (hsu e aA s7 _ _ (unE (some i) D) (qC I7) ⟨_,_,R7,vI (some i) (bS.mono st.fsame w)⟩) (λf s8 h8=>?_) λ_ _ z=>z.elim;cases f with
    | next=>obtain ⟨σ',H',J,q⟩:=h8;exact nO (iD I0.ok J) hN hi hl λs9 J9=>⟨_,H',J9,q⟩
    | brk=>obtain ⟨σ',H',J,q⟩:=h8;exact nO (iD I0.ok J) hN hi hl λs9 J9=>⟨_,H',J9,q⟩
    | cont=>obtain ⟨σ',H',J,q⟩:=h8;exact nO (iD I0.ok J) hN hi hl λs9 J9=>⟨_,H',J9,q⟩
    | ret u=>obtain ⟨v,σ',H',J,r,q⟩:=h8;exact nO (iD I0.ok J) hN hi hl λs9 J9=>⟨v,_,H',J9,r,q⟩
end
abbrev j6(X:Cx)(aA:LAO)(D:cM)(hs:List ExceptHandler):Cx:={ X with pn:=X.pn++aA,xe:=λe s₁=>wpAny (model X.prog X.w) X.A (noteFrame e X.env) (λ_ s₂ =>
 wpAny (model X.prog X.w) X.A (setFlight e none) (λ_ s₃=>wpAny (model X.prog X.w) X.A (handleBy e X.env hs) (SP X aA D) X.xe s₃) X.xe s₂) X.xe s₁ }
abbrev qD(C:Cw)(X:Cx)(xt:Str->Str->Option Bool)(hx:List HX)(D:cM):Cw:={ C with EE:=λc σ H=>∃ ρ' F',aS X.K C.F0 C.H0 F' H σ ρ'/\bS (C.at X) F' (gE xt c ρ' hx) D }
section
variable {C:Cw}{X:Cx}{aA:LAO}{σ:L2.St}{H:Hp}{s:Shared}{D:cM}{hs:List ExceptHandler}{hx:List HX}{xt:Str->Str->Option Bool}
theorem aG5(o:X.Ok):(j6 X aA D hs).Ok:=⟨o.mod,o.kind,o.glob,o.blt,o.above,o.inj,o.has,o.cab,o.hd,o.frames,o.stk,o.exf,o.bs,o.bsz,o.noex,o.exfs,o.funs,o.frf⟩
theorem aG6(I:Inv X aA σ H s):Inv (j6 X aA D hs) [] σ H s:=⟨aG5 I.ok,I.os,I.bare,I.base,I.loc,I.cell,I.free,I.freeC,λp hp=>I.pin p (by rw[aN6] at hp;exact hp),I.hok,I.len⟩
theorem lK{pins':LAO}(o:X.Ok)(I:Inv (j6 X aA D hs) pins' σ H s):Inv X aA σ H s:=⟨o,I.os,I.bare,I.base,I.loc,I.cell,I.free,I.freeC,λp hp=>I.pin p (aNM _ hp),I.hok,I.len⟩
theorem aG7(FX:iW X)(o:X.Ok)(hxt:j5 X.K X.mg xt)(hN:X.N.Nodup)(hk:gG C X hs hx):XOk (CX1 X.prog X.w) (qD C X xt hx D) (j6 X aA D hs):=by
 intro pins' σ H s ev s' I h;obtain ⟨e,Cc,a0,H1,B,rfl,ho,hg,fl,fy,c,hm,ρ',F',R',w'⟩:=h;have J:=lK o I;have fr:X.A.frames=some (X.env::X.outer):=by rw[<- FX.hs];exact o.frames
 have fl0:Heap.FlyingW B (X.env::X.outer) e (.ref Cc) a0 s'.heap:=by rw[<- FX.hs];exact fl
 refine wpAny_looks_onW fr FX.hf fl0 λh4 held up4=>wpAny_landsW held λh5 fl5 up5=>?_;have fl6:Heap.FlyingW B X.stack e (.ref Cc) a0 h5:=by rw[FX.hs];exact fl5
 exact aG4 (C:=C) hxt hN J hm R' hk (s:={ s' with heap:=h5 }) fl6 ((fy.on held.1 up4).on fl5.1 up5) ho hg w'
theorem aG8{h0:ExceptHandler}{hr:List ExceptHandler}{body:List Stmt}{pos:Pos}{gb:Rho->aF}(FX:iW X)(hxt:j5 X.K X.mg xt)(hN:X.N.Nodup)(hk:gG C X (h0::hr) hx)(hb:∀ (o:X.Ok) (aA:LAO) (D:cM),PBv (qD C X xt hx D) (j6 X aA D (h0::hr)) body gb):PSv C X (.Try body (h0::hr) [] [] pos) (λρ=>j4 xt hx (gb ρ)):=by
 intro aA s σ H D I q;obtain ⟨ρ,F,R,w⟩:=q;dsimp only at w;refine wpAny_Try_except ?_;have main:=hb I.ok aA D [] s σ H D (aG6 I) ⟨ρ,F,R,?_⟩
 . refine aNR main (λf s1 h1=>?_) λ_ _ z=>z;cases f with
   | next=>obtain ⟨σ',H',J,q⟩:=h1;exact aNU ⟨σ',H',lK I.ok J,q⟩
   | brk=>obtain ⟨σ',H',J,q⟩:=h1;exact ⟨σ',H',lK I.ok J,q⟩
   | cont=>obtain ⟨σ',H',J,q⟩:=h1;exact ⟨σ',H',lK I.ok J,q⟩
   | ret u=>obtain ⟨v,σ',H',J,r,q⟩:=h1;exact ⟨v,σ',H',lK I.ok J,r,q⟩
 . cases er:gb ρ with
   | nx ρ'=>rw[er] at w;exact w
   | bk ρ'=>rw[er] at w;exact w
   | ct ρ'=>rw[er] at w;exact w
   | rt m d=>rw[er] at w;exact w
   | stuck=>rw[er] at w;exact w
   | exc c ρ'=>rw[er] at w;exact λσ' F' H' z R'=>⟨ρ',F',R',bS.mono z w⟩
end
def gH(mg:SOV)(n:Str)(cv:V):Prop:=(∃ C,mg n=some (.ref C)/\cv=.ref C)\/(mg n=none/\n ≠ "__name__" /\ ∃ T,bootBuiltins n=some (.type T)/\cv=.ty T)
def nP:V->Value | .ref a=>.ref a | .ty T=>.type T | _=>.none
def nQ(K:Fg)(mg:SOV)(xis:Str->Str->Option Bool):Prop:=∀ c n b,xis c n=some b->∃ C cv,PySem.W.nsIn K mainGlobals c=some (some (.ref C))/\iC K C/\gH mg n cv/\PySem.W.kitOne K (.ref C) (nP cv)=some b
def nR(xis:Str->Str->Option Bool)(n:Str)(r:Res):Res:=r.thn λ_ d=>match d with
 | .exn c=>(match xis c n with | some b=>.ok .fz (.bl b) | none=>.stuck)
 | _=>.stuck
section
variable {C:Cw}{X:Cx}{e:Expr}{g:Rho->Res}{p q pos tp:Pos}{n:Str}{xis:Str->Str->Option Bool}
theorem aG9{cv:V}(h:gH X.mg n cv)(hg:Gl X n)(hd:(n==("__debug__" : Str))=false):PE X (.Name n q) (tC cv):=by
 rcases h with ⟨C',hm,rfl⟩ | ⟨hm,hn,T,hv,rfl⟩
 . exact pA hg hm rfl hd
 . exact sO hg hm hv rfl hn hd
theorem aHA{K:Fg}{F H:Hp}{m:Md}{c:Str}{v:V}(s:aG F H)(h:Rp K F H m (.exn c) v):∃ a C,v=.ref a/\PySem.W.nsIn K mainGlobals c=some (some (.ref C))/\H a=some (fM a C):=by
 cases m with
 | fz=>have h:aD K F (.exn c) v:=h;simp only[aD] at h;obtain ⟨a,C,e,n,q⟩:=h;exact ⟨a,C,e,n,s _ _ q⟩
 | fr=>obtain ⟨_,_,_,q⟩:=h;exact q.elim
 | bo=>obtain ⟨_,_,_,q⟩:=h;exact q.elim
theorem aHB{cv:V}{u:Value}(h:gH X.mg n cv)(r:aL cv u):u=nP cv:=by
 rcases h with ⟨C',hm,rfl⟩ | ⟨hm,hn,T,hv,rfl⟩
 . exact r
 . exact r
theorem aHC{cv cv':V}(h:gH X.mg n cv)(h':gH X.mg n cv'):cv=cv':=by
 rcases h with ⟨C1,hm,rfl⟩ | ⟨hm,hn,T,hv,rfl⟩ <;> rcases h' with ⟨C2,hm',rfl⟩ | ⟨hm',hn',T',hv',rfl⟩
 . rw[hm] at hm';cases hm';rfl
 . rw[hm] at hm';cases hm'
 . rw[hm] at hm';cases hm'
 . rw[hv] at hv';cases hv';rfl
theorem aHD(hX:nQ X.K X.mg xis)(hcv:∃ cv,gH X.mg n cv)(hg:Gl X "isinstance")(hn:X.mg "isinstance" = none)(hgc:Gl X n)(hdb:(n==("__debug__" : Str))=false)(he:PV C X e g)(hs:cW e=true):PV C X (.Call (.Name "isinstance" p) [e,.Name n q] [] pos) (λρ=>nR xis n (g ρ)):=by
 obtain ⟨cv,hcv⟩:=hcv;have ha:PA X [e,.Name n q] (jJ (tG (C.at X) g) (jJ (tC cv) tNil)):=mV he (mV (aG9 hcv hgc hdb) pH) (cX hs);have hc:fJ X (.builtin "isinstance") (λvs H Q=>∃ a C' b,vs=[.ref a,cv]/\H a=some (fM a C')/\iC X.K C'/\PySem.W.kitOne X.K (.ref C') (nP cv)=some b/\Q (.bl b) H):=by
  intro aA s σ H vs us Q I r h;obtain ⟨a,C',b,rfl,ho,Z,hb,hq⟩:=h;obtain ⟨u,u',rfl,ru,ru'⟩:=sZ r;cases (show u=Value.ref a from ru)
  have eu:=aHB hcv ru';subst eu;obtain ⟨⟨o,h1,h2⟩,_⟩:=(show bU X.prog X.w H s.heap a (fM a C') from I.hok a _ ho)
  exact aPR (aGW (ox:=o) Z) I.kIn ⟨h1,h2⟩ hb (λz=>nomatch z) λtk=>⟨.bl b,H,I.tok _,rfl,hq⟩
 refine PE.imp (tJ hc hg hn uY ha (by decide) (by decide) (cX hs) (iU _ _ λy hy=>by simp only[aNK,aQF,aQG] at hy;subst hy;rfl)) λσ H Q q=>?_
 rw[aV] at q;obtain ⟨ρ,F,R,w⟩:=q;unfold tCB jJ;rw[aV];refine ⟨ρ,F,R,?_⟩;cases er:g ρ with
 | stuck=>rw[er] at w;exact w
 | exc c=>rw[er] at w;exact w
 | ok m d =>
  rw[er] at w;intro v F1 H1 s1 r1 _;have w1:aT (C.at X) F1 H1 σ (nR xis n (.ok m d)) Q:=aT.step s1 w;cases d with
  | exn c =>
   have w1:aT (C.at X) F1 H1 σ (match xis c n with | some b=>.ok .fz (.bl b) | none=>.stuck) Q:=w1
   cases ex:xis c n with
   | none=>rw[ex] at w1;exact w1.elim
   | some b=>rw[ex] at w1;obtain ⟨C',cv',n1,Z,hcv',kb⟩:=hX c n b ex;cases aHC hcv hcv';obtain ⟨a,C2,rfl,n2,ho⟩:=aHA s1.sub r1;rw[n1] at n2;cases n2;exact ⟨a,C',b,rfl,ho,Z,kb,w1 _ F1 H1 (.refl s1.sub) (cG _) (by intro z;cases z)⟩
  | _=>exact w1.elim
end
theorem aHE{P:Program}{w:World}{K:Fg}{mg:SOV}{base:Heap}{x aP:Str}{st:Stmt}{f:Addr}{fd:FuncData}{N ps:List Str}{k:Nat}{g:Rho->aF}(F:Fun K x aP st f fd)(S:mX N ps (eY st))(hbody:∀ (C:Cw) (cdv:Value) (A:Around) (outer:List Env) (s:Shared) (H:Hp) (E:XK),C.EE=lJ mg E->cN k (A.deeper (envOfC aP (eY st) s.heap.objs.size f cdv))->PBv C (dE (CX1 P w) P w K mg base N aP (eY st) f cdv A outer s H E) (jN st) g):c9 P w K mg base (CX1 P w) (k+1) f fd ps (spV K mg ps.length (phi ps.length N.length g)):=by
 obtain ⟨oc,od,kV,doc,pm,an,cdv,ct,osl,rfl,lk,hcd⟩:=F.ex;refine fn_of lk hcd S (λvs H Q E h=>h.1) λA outer s H vs Q E hr h=>?_;obtain ⟨hl,F0,ds,sF,rl,h⟩:=h;have hl':ds.length=ps.length:=by rw[<- rl.length];exact hl
 let C:Cw:=⟨K,F0,H,lJ mg E⟩
 refine ⟨_,hbody C cdv A outer s H E rfl hr,fB N.length ds,F0,aFC sF rl,?_⟩;unfold phi at h;rw[if_pos hl'] at h;cases er:g (fB N.length ds) with
 | nx ρ=>rw[er] at h;exact λσ' F' H' _ R=>h.2 .non F' H' R.st uB (by intro z;cases z)
 | rt m d=>rw[er] at h;exact λv F' H' s rp fr=>h.2 v F' H' s rp fr
 | bk ρ=>rw[er] at h;exact h.elim
 | ct ρ=>rw[er] at h;exact h.elim
 | exc c ρ=>rw[er] at h;exact λσ' F' H' _ R u hu=>h F' H' u R.st hu
 | stuck=>rw[er] at h;exact h.elim
def gI(ρ:Rho)(i:Nat)(r:Res):aF:=match ρ[i]? with
 | some (some (true,.lst ds))=>(aZ r).thS ρ λm d=>match m with | .fz=>if ds.length<sizeLine then .nx (ρ.set i (some (true,.lst (ds++[d])))) else .stuck | _=>.stuck
 | _=>.stuck
section
variable {C:Cw}{X:Cx}{e:Expr}{g:Rho->Res}{x:Str}{p ap cp pos:Pos}
theorem aHF(i:Nat)(hv:PE X (.Name x p) (gX i))(he:PV C X e g)(hs:cW e=true)(hline:ap.endLine=cp.line):PSv C X (.Expr (.Call (.Attribute (.Name x p) "append" ap) [e] [] cp) pos) (λρ=>gI ρ i (g ρ)):=by
 have h1 := pe_bm (X := X) (o := .Name x p) (e := e) (es := []) (apos := ap) (cpos := cp) PySem.F.plainAttrs_list PySem.F.slot_list_append PySem.F.type_list_append pI hv (mV (fN he) pH (cX hs)) (aFL rfl) (by
     rw[u0 _ _ (λy hy=>by simp only[aNK,aQF,aQG] at hy;subst hy;exact hs)];rfl) (aPQ.mpr hline) (cX hs) rfl
 refine PS.imp (sS h1) λE σ H q=>?_;obtain ⟨ρ,F,R,w⟩:=q;dsimp only at w;unfold sR tBM;cases e0:ρ[i]? with
 | none=>unfold gI at w;rw[e0] at w;exact w.elim
 | some o =>
  cases o with
  | none=>unfold gI at w;rw[e0] at w;exact w.elim
  | some bd =>
   obtain ⟨b,d0⟩:=bd;cases b with
   | false=>unfold gI at w;rw[e0] at w;exact w.elim
   | true =>
    cases d0 with
    | lst ds =>
     unfold gI at w;rw[e0] at w;dsimp only at w;obtain ⟨v0,ev0,rp0,hn0⟩:=R.slot i true _ e0;obtain ⟨a,ea,hfa,xs,hh,rl⟩:=rp0;subst ea;refine ⟨.ref a,ev0,.inl ⟨rfl,xs,SqL.of hh⟩,?_⟩;unfold jJ;refine gB R w λm d v F' H' w' s R' rp fr=>?_;cases m with
     | fr=>exact (show False from w').elim
     | bo=>exact (show False from w').elim
     | fz =>
     dsimp only at w';split at w'
     . rename_i hl;have hh':H' a=some (.lst xs):=s.same _ _ hh;refine ⟨a,xs,v,rfl,rfl,hh',by rw[rl.length];exact hl,?_⟩
       exact w' σ F' _ (aG.refl _) (R'.mut e0 ev0 ⟨_,bQ,aE.append (rl.mono s.fsame _ _) (aE.cons rp aE.nil)⟩)
     . exact w'.elim
    | _=>unfold gI at w;rw[e0] at w;exact w.elim
end
def Hld(B:Heap)(l:List Env)(e:Addr)(cls a0:Value)(h:Heap):Prop:=B.StaysIn h/\B.get? e=none/\h.FunFrames B l/\∃ fl,h.TracedAtW B e cls a0 fl
section
variable {M:Model}{A:Around}{E:VSP}{s:Shared}{B:Heap}{env:Env}{outer:List Env}{L e:Addr}{cls a0:Value}{Q:Unit->Shared->Prop}
theorem aHG(hfr:A.frames=some (env::outer))(hf:env.frame=some L)(hh:Hld B (env::outer) e cls a0 s.heap)(hQ:∀ h',Heap.HeldW B (env::outer) e cls a0 L h'->s.heap.UpToSlots h'->Q () { s with heap:=h' }):wpAny M A (noteFrame (.ref e) env) Q E s:=by
 obtain ⟨k1,k2,k3,fl,ht⟩:=hh;by_cases hl:fl=rawInt L
 . subst hl;exact wpAny_noteFrame_againW hf ht (hQ s.heap ⟨k1,k2,k3,ht⟩ (Heap.UpToSlots.refl _))
 obtain ⟨oe,xs,T,oT,ys,q1,⟨q2,q3⟩,q4,q5,q6,q7,q8,q9,q10⟩:=ht;subst q2;unfold noteFrame;simp only[hf];refine aNX (aOR q1 q4 q5 ?_);have n1:(Value.ref T != Value.none)=true:=by simp
 have n2:¬ ((fl==rawInt L)=true):=by rw[aPQ];exact hl
 rw[if_pos n1];refine aNX (aOR q8 q9 q10 ?_);rw[if_neg n2];obtain ⟨lt3,_⟩:=aQL.mp q10;obtain ⟨lt1,_⟩:=aQL.mp q5;refine aNX (aQC q8 q9 lt3 ?_);generalize hg:s.heap.update T (Obj.mapFields λz=>z.setIfInBounds 3 Value.none)=g;have oth:∀ b,b≠T->g.get? b=s.heap.get? b:=λb hb=>by rw[<- hg];exact aO0 _ _ (Ne.symm hb)
 have plain:∀ b o,s.heap.get? b=some o->(∀ z,o.data ≠ .fields z)->g.get? b=some o:=λb o w1 w2=>by rw[oth b (by rintro rfl;rw[q8] at w1;cases w1;exact w2 ys q9)];exact w1
 have inB:∀ b o,B.get? b=some o->g.get? b=some o:=λb o w=>by rw[oth b (by rintro rfl;rw[q6] at w;cases w)];exact k1 b o w
 refine wpAny_entryW (s:={ s with heap:=g }) hfr (k3.of_keeps λb o w1 w2=>⟨o,plain b o w1 w2,rfl⟩) hf (by show g.get? e=_;rw[oth e (Ne.symm q7)];exact q1) inB k2 q4 lt1 q3 λh' hn=>?_
 obtain ⟨m1,m2,m3,m4⟩:=hn;exact hQ h' ⟨m1,k2,m2,m3⟩ λb o w1 w2=>m4 b o (plain b o w1 w2) w2
theorem aHH(hfr:A.frames=some (env::outer))(hf:env.frame=some L)(hh:Hld B (env::outer) e cls a0 s.heap)(hQ:∀ h',Heap.FlyingW B outer e cls a0 h'->s.heap.UpToSlots h'->Q () { s with heap:=h' }):wpAny M A (leaving env (.ref e)) Q E s:=by
 unfold leaving;refine aNX (aHG hfr hf hh λh4 held up4=>?_);refine wpAny_landsW (s:={ s with heap:=h4 }) held λh5 fl up5=>?_
 obtain ⟨w1,w2,w3,w4⟩:=fl;exact hQ h5 ⟨w1,w2,w3.2.2,w4⟩ (up4.trans up5)
theorem aHI{α:Type}{l:List Env}{what:String}{R:α->Shared->Prop}{cenv:Env}(hh:Hld B l e cls a0 s.heap)(hE:∀ h',Hld B l e cls a0 h'->(∀ b o,s.heap.get? b=some o->(∀ z,o.data ≠ .fields z)->h'.get? b=some o)->(∀ b o,B.get? b=some o->h'.get? b=some o)->E (.ref e) { s with heap:=h' }):wpAny M A (PySem.passOn what (.ref e) cenv:Sem α) R E s:=by
 obtain ⟨k1,k2,k3,fl,ht⟩:=hh;obtain ⟨oe,xs,T,oT,ys,q1,q2,q4,q5,q6,q7,q8,q9,q10⟩:=ht;obtain ⟨lt3,_⟩:=aQL.mp q10;have n1:(Value.ref T != Value.none)=true:=by simp
 have n0:¬ ((Value.ref T==Value.none)=true):=by simp
 unfold PySem.passOn;refine aNX (aOR q1 q4 q5 ?_);rw[if_neg n0];show wpAny M A (do setFlight (.ref e) cenv.frame;throw (.ref e)) R E s
 refine aNX ?_;unfold setFlight;refine aNX (aOR q1 q4 q5 ?_);rw[if_pos n1];refine aQC q8 q9 lt3 (wpAny_throw ?_);generalize hv:(cenv.frame.elim Value.none λf=>rawInt f)=v;generalize hg:s.heap.update T (Obj.mapFields λz=>z.setIfInBounds 3 v)=g;have oth:∀ b,b≠T->g.get? b=s.heap.get? b:=λb hb=>by rw[<- hg];exact aO0 _ _ (Ne.symm hb)
 have plain:∀ b o,s.heap.get? b=some o->(∀ z,o.data ≠ .fields z)->g.get? b=some o:=λb o w1 w2=>by rw[oth b (by rintro rfl;rw[q8] at w1;cases w1;exact w2 ys q9)];exact w1
 have inB:∀ b o,B.get? b=some o->g.get? b=some o:=λb o w=>by rw[oth b (by rintro rfl;rw[q6] at w;cases w)];exact k1 b o w
 refine hE g ⟨inB,k2,k3.of_keeps λb o w1 w2=>⟨o,plain b o w1 w2,rfl⟩,v,oe,xs,T,Obj.mapFields (λz=>z.setIfInBounds 3 v) oT,ys.setIfInBounds 3 v,?_,q2,q4,q5,q6,q7,?_,aQD q9 _,by simp[lt3]⟩ plain inB
 . rw[oth e (Ne.symm q7)];exact q1
 . rw[<- hg];exact aOZ _ q8 (Obj.isFreed_of_fields (aQD q9 _))
end
def HX1(P:Program)(w:World):CXT:=λouter H s E ev s'=>∃ (e C:Addr) (a0:Value) (H1:Hp) (B:Heap),
 ev=.ref e/\s'.os=s.os/\AllBare s'.gens/\Hld B outer e (.ref C) a0 s'.heap/\Fly P w outer H s H1 B s'.heap/\E (.ref C) none H1
section
variable {P:Program}{w:World}{K:Fg}{mg:SOV}{base:Heap}{N:List Str}{aP:Str}{scope:Scope}{f:Addr}{cdv:Value}{A:Around}{outer:List Env}{s:Shared}{H:Hp}{E:XK}
theorem aHJ{C:Cw}(hE:C.EE=lJ mg E):XOk (HX1 P w) C (dE (CX1 P w) P w K mg base N aP scope f cdv A outer s H E):=by intro aA σ H1 s1 ev s' I h;obtain ⟨e,Cc,a0,H2,B,rfl,ho,hg,fl,fy,c,hm,he⟩:=h;rw[hE] at he;refine aHH I.ok.frames rfl fl λh' fl' up=>?_;exact ⟨e,Cc,a0,H2,B,rfl,ho.trans I.os,hg,fl',fy.out I ho hg rfl rfl rfl fl'.1 up,he _ hm⟩
end
section
variable {C:Cw}{X:Cx}{aA:LAO}{D:cM}{hs:List ExceptHandler}{hx:List HX}{xt:Str->Str->Option Bool}
end
section
variable {P:Program}{w:World}{outer:List Env}{H H1:Hp}{s:Shared}{B hp h':Heap}{Z:Addr}
theorem Fly.hide(f:Fly P w outer H s H1 B hp)(hz:Z∉frs outer)(h1:H1 Z=none):Fly P w outer H { s with heap:=PySem.W.hideAll s.heap [Z] } H1 (PySem.W.hideAll B [Z]) hp where
 un:={
  keep:=λb o e=>f.un.keep b o (aNG _ e)
  slot:=λb o e=>f.un.slot b o (aNG _ e)
  free:=λb o e=>f.un.free b o (aNG _ e)
  there:=λb o e=>f.un.there b o (aNG _ e)
  tups:=f.un.tups
  frzs:=f.un.frzs
  tbls:=f.un.tbls }
 ok:=f.ok
 kb:=λb o e ns hb=>by
  have nz:b∉[Z]:=λz=>ns (aNH _ z);refine aNE _ (f.kb b o e (λz=>ns ?_) hb) nz;cases q:(PySem.W.hideAll s.heap [Z]).get? b with
  | none=>rfl
  | some o'=>rw[aNG _ q] at z;cases z
 kh:=λb u e=>by obtain ⟨o,e1,e2⟩:=f.kh b u e;exact ⟨o,e1,aNE _ e2 λz=>by rw[aP8] at z;subst z;rw[h1] at e;cases e⟩
 fr:=λb hb=>by obtain ⟨e1,o,e2,e3⟩:=f.fr b hb;exact ⟨e1,o,aNE _ e2 λz=>by rw[aP8] at z;subst z;exact hz hb,e3⟩
theorem Fly.on2(f:Fly P w outer H s H1 B hp)(st:B.StaysIn h')(up:∀ b∈frs outer,∀ o,hp.get? b=some o->(∀ vs,o.data ≠ .fields vs)->∃ sl,h'.get? b=some { o with slots:=sl }):Fly P w outer H s H1 B h':=by
 have slots:∀ {b:Addr},b∈frs outer->∃ o sl',s.heap.get? b=some o/\h'.get? b=some { o with slots:=sl' }:=λ{b} hb=>by obtain ⟨hn,o,e,nf⟩:=f.fr b hb;obtain ⟨sl,e1⟩:=f.un.slot b o e hn hb dH;obtain ⟨sl',e2⟩:=up b hb _ e1 nf;exact ⟨o,sl',e,e2⟩
 refine ⟨⟨λb o e n hb _=>st b o (f.kb b o (f.un.keep b o e n hb dH) (by rw[e];exact λz=>nomatch z) hb),λb o e n hb _=>?_,f.un.free,λb o e _=>?_,f.un.tups,f.un.frzs,f.un.tbls⟩,?_,λb o e ns hb=>?_,λb u e=>?_,f.fr⟩
 . obtain ⟨o',sl',e0,e2⟩:=slots hb;rw[e] at e0;cases e0;exact ⟨sl',e2⟩
 . by_cases hb:b∈frs outer
   . obtain ⟨o',sl',e0,e2⟩:=slots hb;exact ⟨_,e2⟩
   . obtain ⟨o',e1⟩:=f.un.there b o e dH;exact ⟨o',st b o' (f.kb b o' e1 (by rw[e];exact λz=>nomatch z) hb)⟩
 . exact λa o e=>(f.ok a o e).stay (λb u hb q=>by
     have:∃ u',H1 b=some u':=by
      rcases hb with rfl | hb
      . exact ⟨o,e⟩
      . exact ⟨_,hb⟩
     obtain ⟨u',eu⟩:=this;obtain ⟨o',e1,e2⟩:=f.kh b u' eu;rw[q] at e1;cases e1;exact st b u e2) (λ_ q=>q) λ_ _ q=>q
 . cases e0:s.heap.get? b with
   | none=>exact absurd e0 ns
   | some o0=>obtain ⟨o',e1⟩:=f.un.there b o0 e0 dH;have e2:=f.kb b o' e1 ns hb;have e3:=st b o' e2;rw[e] at e3;cases e3;exact e2
 . obtain ⟨o,_,e2⟩:=f.kh b u e;exact ⟨o,st b o e2,e2⟩
end
abbrev gJ(X:Cx)(scope:Scope)(N:List Str)(cl:List (Str×Addr))(C:Addr)(fp:List Addr)(s3:Shared)(H3:Hp)(XE:VSP):Cx:={ aQ X scope N cl C fp s3 H3 with xe:=XE }
section
variable {X:Cx}{XE:VSP}{aA:LAO}{σ:L2.St}{H:Hp}{s:Shared}
theorem ok_xe(o:X.Ok):({ X with xe:=XE }:Cx).Ok:=⟨o.mod,o.kind,o.glob,o.blt,o.above,o.inj,o.has,o.cab,o.hd,o.frames,o.stk,o.exf,o.bs,o.bsz,o.noex,o.exfs,o.funs,o.frf⟩
theorem aHK(o:({ X with xe:=XE }:Cx).Ok):X.Ok:=⟨o.mod,o.kind,o.glob,o.blt,o.above,o.inj,o.has,o.cab,o.hd,o.frames,o.stk,o.exf,o.bs,o.bsz,o.noex,o.exfs,o.funs,o.frf⟩
theorem aHL(I:Inv X aA σ H s):Inv { X with xe:=XE } aA σ H s:=⟨ok_xe I.ok,I.os,I.bare,I.base,I.loc,I.cell,I.free,I.freeC,I.pin,I.hok,I.len⟩
theorem vJ(I:Inv { X with xe:=XE } aA σ H s):Inv X aA σ H s:=⟨aHK I.ok,I.os,I.bare,I.base,I.loc,I.cell,I.free,I.freeC,I.pin,I.hok,I.len⟩
end
theorem aHM{e:Value}{env env':Env}(h:env.frame=env'.frame):noteFrame e env=noteFrame e env':=by unfold noteFrame PySem.frameOf;rw[h]
theorem aHN(h:Heap)(Z:Addr):Heap.SameBut Z h (PySem.W.hideAll h [Z]):=⟨PySem.W.hideAll_size _ _,λb hb=>by
 have nz:b∉[Z]:=λz=>hb (aP8.mp z);cases e:h.get? b with
 | some o=>exact aNE _ e nz
 | none =>
  cases e':(PySem.W.hideAll h [Z]).get? b with
  | none=>rfl
  | some o=>rw[aNG _ e'] at e;cases e⟩
theorem vK{h h' B B':Heap}:∀ {l:List Env},h.FunFrames B l->(∀ b,B.get? b=none->B'.get? b=none)->(∀ b∈frs l,∀ o,h.get? b=some o->h'.get? b=some o)->h'.FunFrames B' l
 | [],_,_,_=>trivial
 | env::l,f,hb,k=>by
  obtain ⟨k1,⟨L,o,f1,f2,f3,f4⟩,f5⟩:=f;have mem:∀ b∈frs l,b∈frs (env::l):=λb hb=>by unfold frs at hb ⊢;rw[aNJ,f1];exact mcm hb
  refine ⟨k1,⟨L,o,f1,hb L f2,k L ?_ o f3,f4⟩,vK f5 hb λb hb o e=>k b (mem b hb) o e⟩;unfold frs;rw[aNJ,f1];exact mcs
theorem aHO{B h h':Heap}{l:List Env}{e L Z:Addr}{cls a0:Value}(hd:Heap.HeldW B l e cls a0 L h)(hB:∃ o,B.get? Z=some o)(sb:Heap.SameBut Z h h')(hz:Z∉frs l):Hld (PySem.W.hideAll B [Z]) l e cls a0 h':=by
 obtain ⟨k1,k2,k3,oe,xs,T,oT,ys,q1,q2,q4,q5,q6,q7,q8,q9,q10⟩:=hd;obtain ⟨oZ,hB⟩:=hB;have ne:∀ b,B.get? b=none->b≠Z:=λb w z=>by rw[z,hB] at w;cases w
 have none':∀ b,B.get? b=none->(PySem.W.hideAll B [Z]).get? b=none:=λb w=>by
  cases q:(PySem.W.hideAll B [Z]).get? b with
  | none=>rfl
  | some o=>rw[aNG _ q] at w;cases w
 refine ⟨λb o w=>?_,none' e k2,vK k3 none' λb hb o w=>?_,rawInt L,oe,xs,T,oT,ys,?_,q2,q4,q5,none' T q6,q7,?_,q9,q10⟩
 . have nz:b≠Z:=λz=>by rw[z,aNH _ (aP8.mpr rfl)] at w;cases w
   rw[sb.2 b nz];exact k1 b o (aNG _ w)
 . rw[sb.2 b (by rintro rfl;exact hz hb)];exact w
 . rw[sb.2 e (ne e k2)];exact q1
 . rw[sb.2 T (ne T q6)];exact q8
end D3
namespace L2
open PySem PySem.Spec PyProof.Rows D3
section
variable {prog:Program}{w:World}{A:Around}{R:Result->Shared->Prop}{s:Shared}
theorem aHP {elt target aH : Expr} {ifs : List Expr} {scope : Scope} {pos : Pos} {it acc : Value} {env : Env} (I : Nat → Shared → Prop) (turn : ∀ n s, I n s → wpAny (model prog w) A (pyNext it) (fun r s1 => match r with
      | none=>R (.ok .next) s1
      | some v => wpAny (model prog w) A (letOwnedTupleGo target it v) (fun _ s1' => wpAny (model prog w) A (assign target env v) (fun _ s2 =>
          wpAny (model prog w) A (forIn ifs true λc r=>if r=true then do let ok <- isTrue c env (eval c env);pure (ForInStep.yield ok) else pure (ForInStep.yield r)) (λok s3 =>
           if ok=true then wpAny (model prog w) A (eval elt env) (λx s4 =>
            wpAny (model prog w) A (call (.builtin "list.append") [acc,x]) (λ_ s5=>∃ m,m<n/\I m s5) (λ_ _=>False) s4) (notedBy (model prog w) A env λx s'=>R (.error x) s') s3
           else ∃ m, m < n ∧ I m s3) (fun _ _ => False) s2) (fun _ _ => False) s1') (fun _ _ => False) s1) (fun _ _ => False) s)
    (n:Nat) (h:I n s) :
    codeAny (model prog w) A (.compLoop (.ListComp elt [⟨target,aH,ifs,0⟩] scope pos) 0 it acc env) R s:=by
 refine codeAny_loop rfl I (λn s hI=>?_) n h;show wpAny _ A ((compTurn (.ListComp elt [⟨target,aH,ifs,0⟩] scope pos) 0 it acc env).onRaise (λx=>do noteFrame x env;theTreesLotGoes x)) _ _ s
 refine wpAny_noted ?_;rw[compTurn_list];refine aNX (aP2 (aNX (aNR (turn n s hI) (λr s1 h1=>?_) λ_ _ h'=>h'.elim)));cases r with
 | none=>exact aNW h1
 | some v =>
  refine aNX (aNR h1 (λ_ s1' h1'=>?_) λ_ _ h'=>h'.elim);refine aNX (aNR h1' (λ_ s2 h2=>aNX (aNR h2 (λok s3 h3=>?_) λ_ _ h'=>h'.elim)) λ_ _ h'=>h'.elim);cases ok with
  | false=>exact aNW ⟨rfl,h3⟩
  | true=>exact aNX (aNX (aNR h3 (λx s4 h4=>aNX (aNR h4 (λ_ s5 h5=>aNW (aNW ⟨rfl,h5⟩)) λ_ _ h'=>h'.elim)) λ_ _ h'=>h'))
end
theorem aHQ{X:Cx}{C0:Cw}{elt aH tg:Expr}{ifs:List Expr}{scope:Scope}{pos:Pos}{aB:List Nat}{aC tgN:List Str}{wi:TI}{gt:TG}{tt:TT}{te:TE}{use:Option (Value->Sem Unit)}{QQ:VSP}{aA:LAO}{s:Shared}{σ:St}{H:Hp}{Q:VK}(hc:X.calm=true)(hi:PI X tg aH wi)(bV:∀ y∈scope.names,y.2 ≠ .cell)(bZ:scope.kind=.function)(cZ:∀ y∈scope.names,y.2=.local->scope.names.lookup y.1=some .local)(cD:∀ y∈scope.names,y.2=.free->X.env.kindOf y.1=some .cell\/X.env.kindOf y.1=some .free)(cL:aC.map some=aB.map λi=>X.N[i]?)(c8:∀ y∈aC,(y,NameKind.free)∈scope.names)(c7:∀ y∈aC,(relabel scope X.env).names.lookup y=some .cell\/(relabel scope X.env).names.lookup y=some .free)(hg:∀ cl C fp s3 H3,PG (aQ X scope (aC++tgN) cl C fp s3 H3) tg gt)(hf:∀ cl C fp s3 H3,cQ (aQ X scope (aC++tgN) cl C fp s3 H3) ifs tt)(FX:iW X)(xh:XOk (HX1 X.prog X.w) C0 X)(he:∀ cl C fp s3 H3 XE,XOk (CX1 X.prog X.w) { C0 with EE:=λc _ H'=>C0.EE c σ H' } (gJ X scope (aC++tgN) cl C fp s3 H3 XE)->PE (gJ X scope (aC++tgN) cl C fp s3 H3 XE) elt te)(hs:∀ x,foldedSetIterable aH X.env x=pure x)(I:Inv X aA σ H s)(h:gD aB tgN.length wi gt tt te σ H Q)(hend:∀ (D Z:Addr) (s6:Shared) (H5:Hp),(∃ m,s6.heap.Ns Z m)->(∀ h'',Heap.SameBut Z s6.heap h''->Inv X aA σ H5 { s6 with heap:=h'' })->H5 Z=none->X.s₀.heap.objs.size<=Z->Z≠X.env.locals->(∀ x c,X.env.cells.lookup x=some c->c≠Z)->(∀ p∈X.pn++aA,p.1≠Z)->Q (.ref D) H5->compPost (model X.prog X.w) X.A X.xe use QQ (.ref D) Z (.ok .next) s6):wpAny (model X.prog X.w) X.A (comprehension (.ListComp elt [⟨tg,aH,ifs,0⟩] scope pos) scope X.env (firstIterPos [⟨tg,aH,ifs,0⟩] pos) (newList []) (firstAsync [⟨tg,aH,ifs,0⟩]) (firstIter [⟨tg,aH,ifs,0⟩] X.env) use) QQ X.xe s:=by
 obtain ⟨cl,hclos,clsub,clhas⟩:=uN (scope:=scope) (env:=X.env) λy hy hk=>I.ok.has y.1 (cD y hy hk);refine wpAny_comprehension_free (use:=use) rfl hs hclos bZ cZ (thn (hi aA s σ H _ I h) λv s1 h1=>thn h1 λitv s2 h2=>?_);obtain ⟨it,fp,tn,J,H2,e,I2,T,st2,f2,q⟩:=h2;subst e;refine aOY ?_;have hn:H2 s2.heap.objs.size=none:=I2.hok.fresh (aNY _);obtain ⟨W,⟨m0,w0⟩,turn⟩:=q s2.heap.objs.size hn;have I3:Inv X aA σ (upd H2 s2.heap.objs.size (.lst [])) { s2 with heap:=s2.heap.push { cls:=.type "list", dict:=none,data:=.seq ([]:List Value).toArray } } :=
  I2.laid (t':=s2.toks) (λb u e=>hps e) (aNY _) ⟨aPE _,[],0,.nil,aM9 _ rfl⟩
 generalize hs3:({ s2 with heap:=s2.heap.push { cls:=.type "list", dict:=none,data:=.seq ([]:List Value).toArray } }:Shared)=s3 at I3 ⊢
 generalize hH3:upd H2 s2.heap.objs.size (.lst [])=H3 at I3 w0;have fpl:∀ b∈fp,b<s2.heap.objs.size:=λb hb=>by obtain ⟨o,eo,_⟩:=T.obj 0 _ st2 b hb;exact aNA eo
 have sz3:s3.heap.objs.size=s2.heap.objs.size+1:=by rw[<- hs3];exact Heap.size_push _ _
 have keep23:∀ b o,s2.heap.get? b=some o->s3.heap.get? b=some o:=λb o e=>by rw[<- hs3];exact hps e
 have hDf:s2.heap.objs.size∉fp:=λhb=>aNC _ (fpl _ hb);refine wpAny_newFunctionEnv bV (by intro y hy;simp at hy) (λh4 hns hsb=>?_) bZ
 try dsimp only at hns hsb ⊢
 have keep34:∀ b o,s3.heap.get? b=some o->h4.get? b=some o:=λb o e=>hsb.extBut b o (aND (aNA e)) (hps e);have nostk:∀ b∈fp,b∉frs X.stack:=λb hb z=>by
  obtain ⟨_,f1,f2',_⟩:=f2 b hb;rcases aNK.mp (I2.stkSub b z) with q | q
  . exact f1 q
  . exact f2' q
 have okc:(aQ X scope (aC++tgN) cl s3.heap.objs.size fp s3 H3).Ok :=
  { mod:=I3.ok.mod
    kind:=bZ
    glob:=I3.ok.glob
    blt:=I3.ok.blt
    above:=aNY _
    inj:=λx y c h1 h2=>I3.ok.inj x y c (clsub x c h1) (clsub y c h2)
    has:=λx hx=>clhas x (uO bV hx)
    cab:=λx c z=>by cases z
    hd:=I3.ok.hd
    frames:=I3.ok.frames
    stk:=.inl rfl
    exf:=λb hb=>⟨aND (by show b<s3.heap.objs.size;rw[sz3];exact aP3 (fpl b hb)),λx c e=>(f2 b hb).2.2.2.2.1 x c (clsub x c e)⟩
    bs:=I3.bs
    bsz:=aNI I3.ok.bsz I3.sz
    noex:=λb o e hb=>by
     obtain ⟨_,_,_,f3,_⟩:=f2 b hb;rcases f3 with z | z
     . exact I2.ok.noex b o e z
     . exact absurd (aNA (I2.ok.bs b o e).1) (Nat.not_lt.mpr z)
    exfs:=nostk
    funs:=I3.stack
    frf:=I3.stkFree }
 have capLen:aC.length=aB.length:=by have:=congrArg List.length cL;simpa using this
 generalize hσ0:cE aB σ++List.replicate tgN.length none=σ0 at turn;have Ic:Inv (aQ X scope (aC++tgN) cl s3.heap.objs.size fp s3 H3) [] σ0 H3 { s3 with heap:=h4,toks:=s3.toks+([]:List (Str×Value)).length }:=by
  refine ⟨okc,rfl,I3.bare,Un.kept keep34,⟨_,hns,λi y v h1 h2 h3=>?_⟩,λx c e=>?_,I3.hok.fresh (aNY _),λx c e=>I3.freeC x c (clsub x c e),λp hp=>absurd (show p∈([]:LAO) from hp) (by simp),I3.hok.kept keep34,?_⟩
  . by_cases hi:i<aB.length
    . have ey:aC[i]? = some y:=by have h1:(aC++tgN)[i]? = some y:=h1;rw[aOD (by rw[capLen];exact hi)] at h1;exact h1
      have hj:X.N[aB[i]]? = some y:=by
       have e1:(aC.map some)[i]? = (aB.map λi=>X.N[i]?)[i]?:=by rw[cL]
       rw[aOE,aOE,ey,aPV hi] at e1;simpa using e1.symm
      have ev:σ[aB[i]]? = some (some v):=by
       rw[<- hσ0,aOD (by simpa[cE] using hi)] at h2
       unfold cE at h2;rw[aOE,aPV hi] at h2;simp only[aPT,aP4] at h2;cases z:σ[aB[i]]? with
       | none=>rw[z] at h2;cases h2
       | some o=>rw[z] at h2;exact congrArg some h2
      have hyf:=c8 y (aOG ey);have hkX:=cD _ hyf rfl;obtain ⟨m,_,hl⟩:=I3.loc;obtain ⟨u,ru,lk⟩:=hl aB[i] y v hj ev (by rcases hkX with z | z;exact .inr (.inl z);exact .inr (.inr z))
      refine ⟨u,ru,.inr ⟨c7 y (aOG ey),?_⟩⟩;rcases lk with ⟨hk,_⟩ | ⟨_,c,ec,ic⟩
      . rcases hkX with z | z
        . rw[show X.env.kindOf y=some .cell from z] at hk;cases hk
        . rw[show X.env.kindOf y=some .free from z] at hk;cases hk
      . obtain ⟨c',ec'⟩:=clhas y hyf;have:=clsub y c' ec';rw[ec] at this;cases this;exact ⟨c,ec',ic.keeps keep34⟩
    . rw[<- hσ0,aOB (by simpa[cE] using hi),aOC] at h2
      split at h2 <;> cases h2
  . obtain ⟨v,q⟩:=I3.cell x c (clsub x c e);exact ⟨v,q.keeps keep34⟩
  . rw[<- hσ0];show (cE aB σ++List.replicate tgN.length none).length=(aC++tgN).length;simp[cE,capLen]
 have fpc:∀ {H':Hp},(∀ b∈fp,H' b=none)->∀ b∈fp,dY (aQ X scope (aC++tgN) cl s3.heap.objs.size fp s3 H3) [] H' b:=λhn b hb =>
  ⟨hn b hb,(okc.exf b hb).1,nostk b hb,.inl hb,(okc.exf b hb).2,λp hp=>absurd (show p∈([]:LAO) from hp) (by simp)⟩
 have outw:∀ {p6:LAO} {σ6:St} {H6:Hp} {s6:Shared},Inv (aQ X scope (aC++tgN) cl s3.heap.objs.size fp s3 H3) p6 σ6 H6 s6->∀ h'',Heap.SameBut s3.heap.objs.size s6.heap h''->Inv X aA σ H6 { s6 with heap:=h'' }:=λ{p6 σ6 H6 s6} J h'' hsb2=>by
  have u:=J.base;have neC:∀ b o,s3.heap.get? b=some o->b≠s3.heap.objs.size:=λb o e=>aND (aNA e);have un:Un (frs X.stack) fp H3 H6 s3.heap h'':=by
   refine ⟨λb o e n hb hx=>hsb2.extBut b o (neC b o e) (u.keep b o e n hb hx),λb o e n hb hx=>?_,u.free,λb o e hx=>?_,u.tups,u.frzs,u.tbls⟩
   . obtain ⟨sl,q⟩:=u.slot b o e n hb hx;exact ⟨sl,hsb2.extBut b _ (neC b o e) q⟩
   . obtain ⟨o',q⟩:=u.there b o e hx;exact ⟨o',hsb2.extBut b _ (neC b o e) q⟩
  have hok : HOk X.prog X.w H6 h'' := fun a o e => (J.hok a o e).stay (fun b v hb q => hsb2.extBut b v (by
      intro z;have fr:=J.free;rcases hb with hb | hb
      . rw[hb] at z;rw[z] at e;rw[show H6 s3.heap.objs.size=none from fr] at e;cases e
      . rw[z,show H6 s3.heap.objs.size=none from fr] at hb;cases hb) q) (λ_ q=>q) λ_ _ q=>q
  have os6:=J.os;obtain ⟨hh,g6,d6,t6,o6⟩:=s6;obtain rfl:o6=s3.os:=os6;have I8:=I3.call (h':=h'') (g':=g6) (d':=d6) (t':=t6) (ch:=fp) un hok J.bare λb hb=>by obtain ⟨_,f1,_,f3,f4,f5⟩:=f2 b hb;exact ⟨f3,f1,f4,f5⟩
  exact I8
 have stk:s3.heap.objs.size∉frs X.stack:=λz=>by obtain ⟨_,o,eo,_⟩:=I3.stack.mem z;exact aNC _ (aNA eo)
 have xk:XOk (CX1 X.prog X.w) { C0 with EE:=λc _ H'=>C0.EE c σ H' } (gJ X scope (aC++tgN) cl s3.heap.objs.size fp s3 H3 (notedBy (model X.prog X.w) X.A (compEnvC scope cl s3.heap.objs.size X.env) λx s'=>compPost (model X.prog X.w) X.A X.xe use QQ (.ref s2.heap.objs.size) s3.heap.objs.size (.error x) s')):=by
  intro p6 σ6 H6 s6 ev s' J hh;obtain ⟨e,Cc,a0,H7,B,rfl,ho,hgb,fl,fy,c,hm,hee⟩:=hh;have J0:=vJ J;obtain ⟨L,hL⟩:∃ L,X.env.frame=some L:=⟨_,FX.hf⟩;have fr:X.A.frames=some (X.env::X.outer):=by rw[<- FX.hs];exact I3.ok.frames
  have fl0:Heap.FlyingW B (X.env::X.outer) e (.ref Cc) a0 s'.heap:=by rw[<- FX.hs];exact fl
  show wpAny _ _ (noteFrame (.ref e) (compEnvC scope cl s3.heap.objs.size X.env)) _ _ s';rw[aHM (env:=compEnvC scope cl s3.heap.objs.size X.env) (env':=X.env) rfl];refine wpAny_looks_onW fr hL fl0 λh4 held up4=>?_;have f4:Fly X.prog X.w X.stack H6 s6 H7 B h4:=Fly.on (fy:Fly X.prog X.w X.stack H6 s6 H7 B s'.heap) held.1 up4;have J4:Inv (aQ X scope (aC++tgN) cl s3.heap.objs.size fp s3 H3) p6 σ6 H7 { s' with heap:=h4 }:=Fly.inv (X:=aQ X scope (aC++tgN) cl s3.heap.objs.size fp s3 H3) (s':={ s' with heap:=h4 }) J0 f4 ho hgb
  have hz:H7 s3.heap.objs.size=none:=J4.free;have held:Heap.HeldW B X.stack e (.ref Cc) a0 L h4:=by rw[FX.hs];exact held
  have post:∃ m,h4.Ns s3.heap.objs.size m/\∀ h',Heap.SameBut s3.heap.objs.size h4 h'->∀ cenv:Env,cenv.locals=s3.heap.objs.size->wpAny (model X.prog X.w) X.A (PySem.passOn "comprehension.variables-let-go" (.ref e) cenv:Sem Value) (λ_ _=>False) X.xe { s' with heap:=h' }:=by
   obtain ⟨m,hm4,_⟩:=J4.loc;refine ⟨m,hm4,λh5 sb cenv _=>?_⟩;have hB:∃ o,B.get? s3.heap.objs.size=some o:=by obtain ⟨_,⟨o,es,ep,e0,_⟩,_⟩:=J4.loc;obtain ⟨_,⟨o',es',ep',e0',_⟩,_⟩:=J0.loc;exact ⟨o,f4.kb _ o e0 (by rw[show s6.heap.get? s3.heap.objs.size=some o' from e0'];exact λz=>nomatch z) stk⟩
   have hne:e≠s3.heap.objs.size:=by rintro rfl;obtain ⟨o,hB⟩:=hB;rw[held.2.1] at hB;cases hB
   have q:Hld (PySem.W.hideAll B [s3.heap.objs.size]) X.stack e (.ref Cc) a0 h5:=aHO held hB sb stk;refine aHI (s:={ s' with heap:=h5 }) q λh6 q6 pl inB=>?_
   have f6:=(fy:Fly X.prog X.w X.stack H6 s6 H7 B s'.heap).hide stk hz;refine xh aA σ H6 { s6 with heap:=PySem.W.hideAll s6.heap [s3.heap.objs.size] } _ _ (outw J0 _ (aHN _ _)) ⟨e,Cc,a0,H7,_,rfl,ho,hgb,q6,f6.on2 inB λb hb o e1 e2=>?_,c,hm,hee⟩
   obtain ⟨sl,e4⟩:=up4 b o e1 e2;have nb:b≠s3.heap.objs.size:=by rintro rfl;exact stk hb
   exact ⟨sl,pl b _ (by show h5.get? b=_;rw[sb.2 b nb];exact e4) e2⟩
  cases use <;> exact post
 have loop:codeAny (model X.prog X.w) X.A (.compLoop (.ListComp elt [⟨tg,aH,ifs,0⟩] scope pos) 0 (.ref it) (.ref s2.heap.objs.size) (compEnvC scope cl s3.heap.objs.size X.env)) (compPost (model X.prog X.w) X.A X.xe use QQ (.ref s2.heap.objs.size) s3.heap.objs.size) { s3 with heap:=h4,toks:=s3.toks+([]:List (Str×Value)).length }:=by
  refine aHP (λn s'=>∃ i ys H',Inv (aQ X scope (aC++tgN) cl s3.heap.objs.size fp s3 H3) [] σ0 H' s'/\tn i s'.heap/\(∀ b∈fp,H' b=none)/\W i n ys H') ?_ m0
   ⟨0,[],H3,Ic,T.keep _ _ _ st2 (λb hb o e=>keep34 b o (keep23 b o e)),λb hb=>by rw[<- hH3,aO (by intro z;rw[z] at hb;exact hDf hb)];exact (f2 b hb).1,w0⟩
  rintro n s5 ⟨i,ys,H5,I5,st5,fr5,w5⟩;obtain ⟨hD,hw⟩:=turn i n ys H5 w5;rcases hw with ⟨stop,qq⟩ | ⟨go,hlen,step⟩
  . refine thn (T.done (aQ X scope (aC++tgN) cl s3.heap.objs.size fp s3 H3) rfl rfl rfl hc i [] s5 σ0 H5 _ I5 (fpc fr5) st5 stop) λr s6 ⟨hr,I6⟩=>?_;subst hr;obtain ⟨m,hm,_⟩:=id I6.loc;refine hend s2.heap.objs.size s3.heap.objs.size s6 H5 ⟨m,hm⟩ (λh'' hsb2=>?_) I6.free I3.sz (λz=>?_) (λx c ec z=>?_) (λp hp z=>?_) qq;rotate_left
    . obtain ⟨m,⟨o,es,ep,ho,_⟩,_⟩:=id I3.loc;rw[<- z] at ho;exact aNC _ (aNA ho)
    . obtain ⟨v,o,ho,_⟩:=I3.cell x c ec;rw[z] at ho;exact aNC _ (aNA ho)
    . have:=(I3.pin p hp).1;rw[z] at this;exact aNC _ (aNA this)
    exact outw I6 h'' hsb2
  . refine thn (T.item (aQ X scope (aC++tgN) cl s3.heap.objs.size fp s3 H3) rfl rfl rfl hc i [] s5 σ0 H5 _ I5 (fpc fr5) st5 go) λr s6 ⟨u,hr,h6⟩=>?_;subst hr;refine thn h6 λ_ s7 ⟨x,H7,I7,r7,y7,st7,fr7⟩=>?_;have I7':=I7.pinned (fpc fr7) (T.obj _ _ st7);refine thn (hg cl s3.heap.objs.size fp s3 H3 _ s7 σ0 H7 x u _ I7' r7 (step x H7 y7)) λ_ s8 ⟨σ8,H8,I8,wk,q8⟩=>?_;have back:∀ {H':Hp} {s':Shared} {m':Nat} {ys':List V},Inv (aQ X scope (aC++tgN) cl s3.heap.objs.size fp s3 H3) ([]++jH fp s7.heap) σ8 H' s'->m'<n->W (i+1) m' ys' H' ->
        ∃ m,m<n/\∃ i ys H',Inv (aQ X scope (aC++tgN) cl s3.heap.objs.size fp s3 H3) [] σ0 H' s'/\tn i s'.heap/\(∀ b∈fp,H' b=none)/\W i m ys H':=λ{H' s' m' ys'} I' hm w'=>by
      have pinned:∀ b∈fp,∀ o,s7.heap.get? b=some o->s'.heap.get? b=some o/\H' b=none:=λb hb o e=>by have:=I'.pin (b,o) (aN2 _ (aN2 _ (mQ hb e)));exact ⟨this.1,this.2.1⟩
      refine ⟨m',hm,i+1,ys',H',I'.unpinned.weak wk.1 wk.2,T.keep _ _ _ st7 λb hb o e=>(pinned b hb o e).1,λb hb=>?_,w'⟩;obtain ⟨o,e,_⟩:=T.obj _ _ st7 b hb;exact (pinned b hb o e).2
    refine thn (hf cl s3.heap.objs.size fp s3 H3 _ s8 σ8 H8 _ I8 q8) λb s9 ⟨H9,I9,q9⟩=>?_;cases b with
    | false=>rw[if_neg aO3] at q9 ⊢;obtain ⟨m',hm,w9⟩:=q9;exact back I9 hm w9
    | true =>
     rw[if_pos rfl] at q9 ⊢;refine thn (he cl s3.heap.objs.size fp s3 H3 _ xk _ s9 σ8 H9 _ (aHL I9) q9) λy s10 ⟨yv,H10,I10,r10,hD10,m',hm,w10⟩=>?_;have I10:=vJ I10;refine thn (pI (X:=aQ X scope (aC++tgN) cl s3.heap.objs.size fp s3 H3) _ s10 σ8 H10 (.ref s2.heap.objs.size) [yv] (.ref s2.heap.objs.size) [y] (λv H'=>v=.non/\H'=upd H10 s2.heap.objs.size (.lst (ys++[yv]))) I10 rfl (.cons r10 .nil)
      ⟨s2.heap.objs.size,ys,yv,rfl,rfl,hD10,hlen,rfl,rfl⟩) λ_ s11 ⟨v,H11,I11,_,_,e11⟩=>?_
     subst e11;exact back I11 hm w10
 exact codeAny_compStart_list loop (T.self _ 0 _ _ _ (T.keep _ _ _ st2 (λb hb o e=>keep34 b o (keep23 b o e))) loop)
theorem aHR{C0:Cw}{i:Nat}{x:Str}{pos' spos:Pos}{X:Cx}{elt aH tg:Expr}{ifs:List Expr}{scope:Scope}{pos:Pos}{aB:List Nat}{aC tgN:List Str}{wi:TI}{gt:TG}{tt:TT}{te:L2.St->TE}(hc:X.calm=true)(hi:PI X tg aH wi)(bV:∀ y∈scope.names,y.2 ≠ .cell)(bZ:scope.kind=.function)(cZ:∀ y∈scope.names,y.2=.local->scope.names.lookup y.1=some .local)(cD:∀ y∈scope.names,y.2=.free->X.env.kindOf y.1=some .cell\/X.env.kindOf y.1=some .free)(cL:aC.map some=aB.map λi=>X.N[i]?)(c8:∀ y∈aC,(y,NameKind.free)∈scope.names)(c7:∀ y∈aC,(relabel scope X.env).names.lookup y=some .cell\/(relabel scope X.env).names.lookup y=some .free)(hg:∀ cl C fp s3 H3,PG (aQ X scope (aC++tgN) cl C fp s3 H3) tg gt)(hf:∀ cl C fp s3 H3,cQ (aQ X scope (aC++tgN) cl C fp s3 H3) ifs tt)(FX:iW X)(xh:XOk (HX1 X.prog X.w) C0 X)(he:∀ σ cl C fp s3 H3 XE,XOk (CX1 X.prog X.w) { C0 with EE:=λc _ H'=>C0.EE c σ H' } (gJ X scope (aC++tgN) cl C fp s3 H3 XE)->PE (gJ X scope (aC++tgN) cl C fp s3 H3 XE) elt (te σ))(hN:X.N.Nodup)(hx:X.N[i]? = some x)(hk:X.env.scope.names.lookup x=some .local)(hsw:swapsWith (.ListComp elt [⟨tg,aH,ifs,0⟩] scope pos) (some (.Name x pos')) spos.line X.env=pure true)(hs:∀ x,foldedSetIterable aH X.env x=pure x:=by intro _;rfl):PS X (.Assign [.Name x pos'] (.ListComp elt [⟨tg,aH,ifs,0⟩] scope pos) spos) (λEn σ H=>iQ (gD aB tgN.length wi gt tt (te σ)) (jG i) En σ H):=by
 intro aA s σ H En I h;rw[exec_Assign_Name_used _ _ _ _ hsw];refine aNX (aP2 (aNX ?_));show wpAny _ X.A (comprehension (.ListComp elt [⟨tg,aH,ifs,0⟩] scope pos) scope X.env (firstIterPos [⟨tg,aH,ifs,0⟩] pos) (newList []) (firstAsync [⟨tg,aH,ifs,0⟩]) (firstIter [⟨tg,aH,ifs,0⟩] X.env) (some (assign (.Name x pos') X.env)) >>= _) _ _ s;refine aNX (aHQ (C0:=C0) (use:=some (assign (.Name x pos') X.env)) hc hi bV bZ cZ cD cL c8 c7 hg hf FX xh (he σ) hs I h λD Z s6 H5 hm hI hz h0 h1 h2 h3 q=>?_);obtain ⟨m,hm⟩:=hm;have I6:=hI s6.heap (Heap.SameBut.refl _ _);refine aNV (o9 I6 hN hx (.inl hk) (show aL (.ref D) (.ref D) from rfl) (λs' I' hch=>?_) (.inr hk))
 obtain ⟨a,sb,ha⟩:=hch;have na:Z≠a:=by
  rcases ha with rfl | ha
  . exact h1
  . exact λz=>h2 x a ha z.symm
 exact ⟨m,hm.sameBut sb na,λh'' hs2=>aNW (aNW ⟨_,H5,I'.dropped hs2 hz h0 h1 h2 h3,q⟩)⟩
end L2
namespace D3
open PySem PySem.Spec PyProof.Rows L2
inductive dI where
 | ok (ds:List D) | exc (c:Str) | stuck
def dI.glue(zs:List D):dI->dI
 | .ok ys=>.ok (zs++ys)
 | .exc c=>.exc c
 | .stuck=>.stuck
def dJ(k:D->Rho->Option Rho)(t e:Rho->Res)(ρ0:Rho):List D->dI
 | []=>.ok []
 | d::ds=>match k d ρ0 with
  | none=>.stuck
  | some ρ1=>match t ρ1 with
   | .ok _ (.bl true)=>(match aZ (e ρ1) with | .ok _ y=>(dJ k t e ρ0 ds).glue [y] | .exc c=>.exc c | .stuck=>.stuck)
   | .ok _ (.bl false)=>dJ k t e ρ0 ds
   | _=>.stuck
def dI.out:dI->Res
 | .ok ys=>.ok .fr (.lst ys)
 | .exc c=>.exc c
 | .stuck=>.stuck
def j7(src:Res)(ρ:Rho)(aB:List Nat)(n:Nat)(k:D->Rho->Option Rho)(t e:Rho->Res):Res:=src.thn λ_ d=>match d with
 | .lst ds=>if ds.length<sizeLine then (dJ k t e (cI aB ρ++List.replicate n none) ds).out else .stuck
 | _=>.stuck
theorem dI.glue_glue(a b:List D)(r:dI):dI.glue a (dI.glue b r)=dI.glue (a++b) r:=by cases r <;> simp[dI.glue]
abbrev Cw.on(C:Cw)(σ:L2.St):Cw:={ C with EE:=λc _ H'=>C.EE c σ H' }
section
variable {C:Cw}{X:Cx}{pos:Pos}
theorem aHS{t:Tg}{tgN:List Str}{aB:List Nat}{gi gt ge:Rho->Res}(hsl:∀ j∈dG t,aB.length<=j){σ:L2.St}{H:Hp}{Q:VK}(q:tG (C.at X) (λρ=>j7 (gi ρ) ρ aB tgN.length (aI t) gt ge) σ H Q):gD aB tgN.length (tIv (C.at X) gi) (gOf X.K t) (tT (C.nox.at X) gt) (tG ((C.at X).on σ) λρ=>aZ (ge ρ)) σ H Q:=by
 rw[aV] at q;obtain ⟨ρ,F,RS,w⟩:=q;unfold gD;refine ⟨ρ,F,RS,?_⟩;cases er:gi ρ with
 | stuck=>rw[er] at w;exact w
 | exc c=>rw[er] at w;exact w
 | ok m d =>
  rw[er] at w;cases d with
  | lst ds =>
   unfold j7 at w;rw[Res.thn_ok] at w;dsimp only at w;split at w
   . rename_i hsz;intro J F1 H1 s1 hJ Da hDa;generalize et:dJ (aI t) gt ge (cI aB ρ++List.replicate tgN.length none) ds=total at w;have hD0:H Da=none:=s1.same.free hDa;have hF1:F1 Da=none:=s1.sub.free hDa;have R0:=uR aB tgN.length RS;refine ⟨λi m ys H'=>m=ds.length-i/\i<=ds.length/\H' Da=some (.lst ys)/\∃ F' zs,aK F H F' H'/\aG F1 F'/\F' Da=none/\aE X.K F' zs ys/\zs.length<=i /\
       total=(dJ (aI t) gt ge (cI aB ρ++List.replicate tgN.length none) (ds.drop i)).glue zs,
       ⟨ds.length,by simp,aPE _,bQ,F1,[],s1.upd hD0 hF1,aG.refl _,hF1,aE.nil,aNY _,by rw[aP5,et];cases total <;> rfl⟩,?_⟩
     rintro i m ys H' ⟨rfl,hile,hD,F',zs,st,sF,hFD,rz,hzl,ec⟩;refine ⟨hD,?_⟩;by_cases hlt:i<ds.length
     . refine .inr ⟨hJ.go i H' (sF.trans st.sub) hlt,by rw[rz.length];omega,λv H2 y=>?_⟩
       obtain ⟨F2,d,ed,s2,rd⟩:=hJ.yld i F' H' v H2 sF st.sub hlt y;have hd:ds.drop i=d::ds.drop (i+1):=by rw[aPU hlt];rw[aPV hlt] at ed;cases ed;rfl
       rw[hd] at ec;unfold dJ at ec;have hD2:H2 Da=some (.lst ys):=s2.same _ _ hD;have hF2:F2 Da=none:=s2.new _ hFD (by rw[hD];exact λz=>nomatch z)
       cases eg:aI t d (cI aB ρ++List.replicate tgN.length none) with
       | none=>rw[eg] at ec;rw[ec] at w;exact w.elim
       | some ρ1 =>
       rw[eg] at ec;dsimp only at ec;have R2:=(R0.step st).step s2;refine lG t R2 rd eg λσ1 R1 len1 keep1=>?_;refine ⟨⟨len1.symm,λj u ej=>?_⟩,ρ1,F2,R1,?_⟩
       . by_cases hj:j∈dG t
         . have:=hsl j hj;rw[aOB (by simpa[cE] using this),aOC] at ej
           split at ej <;> cases ej
         . rw[keep1 j hj];exact ej
       cases ett:gt ρ1 with
       | stuck=>rw[ett] at ec;rw[ec] at w;exact w.elim
       | exc c=>rw[ett] at ec;rw[ec] at w;exact w.elim
       | ok mt dt =>
        cases dt with
        | bl b =>
         rw[ett] at ec;intro F3 H3 s3;have hD3:H3 Da=some (.lst ys):=s3.same _ _ hD2;have hF3:F3 Da=none:=s3.new _ hF2 (by rw[hD2];exact λz=>nomatch z)
         cases b with
         | false=>rw[if_neg aO3];exact ⟨ds.length-(i+1),by omega,rfl,hlt,hD3,F3,zs,(st.trans s2).trans s3,(sF.trans s2.fsame).trans s3.fsame,hF3,rz.mono (s2.fsame.trans s3.fsame) _ _,Nat.le_succ_of_le hzl,ec⟩
         | true =>
          rw[if_pos rfl,aV];refine ⟨_,F3,R1.step s3,?_⟩;dsimp only at ec;cases ee:aZ (ge ρ1) with
          | stuck=>rw[ee] at ec;rw[ec] at w;exact w.elim
          | exc c=>rw[ee] at ec;rw[ec] at w;exact λF4 H4 s4=>w F4 H4 (((st.trans s2).trans s3).trans s4)
          | ok me ye =>
           rw[ee] at ec;dsimp only at ec;have hme:me=.fz:=by
            cases h:ge ρ1 with
            | ok m' d'=>rw[h] at ee;cases m' <;> cases ee <;> rfl
            | exc c=>rw[h] at ee;cases ee
            | stuck=>rw[h] at ee;cases ee
           subst hme;intro u F4 H4 s4 ru _;have hD4:H4 Da=some (.lst ys):=s4.same _ _ hD3;have hF4:F4 Da=none:=s4.new _ hF3 (by rw[hD3];exact λz=>nomatch z)
           refine ⟨hD4,ds.length-(i+1),by omega,rfl,hlt,bQ,F4,zs++[ye],(((st.trans s2).trans s3).trans s4).upd hD0 hF4,((sF.trans s2.fsame).trans s3.fsame).trans s4.fsame,hF4,?_,by simp;omega,by rw[ec,dI.glue_glue]⟩
           exact aE.append (rz.mono ((s2.fsame.trans s3.fsame).trans s4.fsame) _ _) (aE.cons ru aE.nil)
        | _=>rw[ett] at ec;rw[ec] at w;exact w.elim
     . have ei:i=ds.length:=by omega
       subst ei;rw[aPW] at ec;have ec:total=.ok zs:=by rw[ec];show dI.ok (zs++[])=_;rw[aN6]
       subst ec;exact .inl ⟨hJ.stop _ H' (sF.trans st.sub) (aNY _),w (.ref Da) F' H' st ⟨Da,rfl,hFD,ys,hD,rz⟩ λ_ a ea=>by cases ea;exact hD0⟩
   . exact w.elim
  | _=>exact w.elim
theorem aHT(fz:Bool){i:Nat}{x:Str}{pos' spos:Pos}{aH elt tg:Expr}{t:Tg}{tgN:List Str}{ifs:List Expr}{scope:Scope}{aB:List Nat}{aC:List Str}{gi gt ge:Rho->Res}(hc:X.calm=true)(hi:PIv C X tg aH gi)(bV:∀ y∈scope.names,y.2 ≠ .cell)(bZ:scope.kind=.function)(cZ:∀ y∈scope.names,y.2=.local->scope.names.lookup y.1=some .local)(cD:∀ y∈scope.names,y.2=.free->X.env.kindOf y.1=some .cell\/X.env.kindOf y.1=some .free)(cL:aC.map some=aB.map λi=>X.N[i]?)(c8:∀ y∈aC,(y,NameKind.free)∈scope.names)(c7:∀ y∈aC,(relabel scope X.env).names.lookup y=some .cell\/(relabel scope X.env).names.lookup y=some .free)(hsl:∀ j∈dG t,aB.length<=j)(hg:∀ cl A fp s3 H3,PGw (aQ X scope (aC++tgN) cl A fp s3 H3) tg t)(hf:∀ cl A fp s3 H3,cQ (aQ X scope (aC++tgN) cl A fp s3 H3) ifs (tT (C.nox.at X) gt))(FX:iW X)(xh:XOk (HX1 X.prog X.w) (C.at X) X)(he:∀ σ cl A fp s3 H3 XE,XOk (CX1 X.prog X.w) ((C.at X).on σ) (gJ X scope (aC++tgN) cl A fp s3 H3 XE)->PV ((C.at X).on σ) (gJ X scope (aC++tgN) cl A fp s3 H3 XE) elt ge)(hN:X.N.Nodup)(hx:X.N[i]? = some x)(hk:X.env.scope.names.lookup x=some .local)(hsw:swapsWith (.ListComp elt [⟨tg,aH,ifs,0⟩] scope pos) (some (.Name x pos')) spos.line X.env=pure true)(hs:∀ x,foldedSetIterable aH X.env x=pure x:=by intro _;rfl):PSv C X (.Assign [.Name x pos'] (.ListComp elt [⟨tg,aH,ifs,0⟩] scope pos) spos) (λρ=>dQ ρ i (if fz=true then aZ (j7 (gi ρ) ρ aB tgN.length (aI t) gt ge) else j7 (gi ρ) ρ aB tgN.length (aI t) gt ge)):=by
 refine PS.imp (L2.aHR (C0:=C.at X) (aC:=aC) (tgN:=tgN) (gt:=gOf X.K t) (tt:=tT (C.nox.at X) gt) (te:=λσ=>tG ((C.at X).on σ) λρ=>aZ (ge ρ)) hc hi bV bZ cZ cD cL c8 c7
  hg hf FX xh (λσ cl A fp s3 H3 XE xo=>fN (he σ cl A fp s3 H3 XE xo)) hN hx hk hsw hs) λE σ H q=>aHS hsl ?_
 cases fz with
 | false=>exact lC q
 | true=>have q:=lC q;unfold iQ at q;rw[aV] at q ⊢;obtain ⟨ρ,F,R,w⟩:=q;exact ⟨ρ,F,R,aT.frz w⟩
end
section
variable {prog:Program}{w:World}{A:Around}{R:Result->Shared->Prop}{J:Addr}{fp wr:List Addr}{n:Nat}{P:Nat->Value->Prop}{St:Nat->Heap->Prop}{ns:List Int}{S:Addr}
end
section
variable {prog:Program}{w:World}{A:Around}{E:VSP}{s:Shared}
end
section
variable {C:Cw}{X:Cx}{e:Expr}{g:Rho->Res}{p q kp pos:Pos}{j}
end
theorem aE.drop{K:Fg}{F:Hp}:∀ (n:Nat) {ds:List D} {xs:List V},aE K F ds xs->aE K F (ds.drop n) (xs.drop n)
 | 0,_,_,h=>h
 | n+1,[],xs,h=>by simp only[aE] at h;subst h;simp[aE]
 | n+1,d::ds,xs,h=>by simp only[aE] at h;obtain ⟨v,vs,rfl,_,t⟩:=h;exact aE.drop n t
theorem aE.take{K:Fg}{F:Hp}:∀ (n:Nat) {ds:List D} {xs:List V},aE K F ds xs->aE K F (ds.take n) (xs.take n)
 | 0,_,_,_=>by simp[aE]
 | n+1,[],xs,h=>by simp only[aE] at h;subst h;simp[aE]
 | n+1,d::ds,xs,h=>by simp only[aE] at h;obtain ⟨v,vs,rfl,r,t⟩:=h;simp only[List.take_succ_cons,aE];exact ⟨v,_,rfl,r,aE.take n t⟩
def cF(xs:List D)(lo hi:Option Int):List D:=(xs.drop (HT.sIx xs.length 0 lo)).take (HT.sIx xs.length xs.length hi-HT.sIx xs.length 0 lo)
theorem aE.cut{K:Fg}{F:Hp}{ds:List D}{xs:List V}(h:aE K F ds xs)(lo hi:Option Int):aE K F (cF ds lo hi) (f9 xs lo hi):=by unfold cF f9;rw[h.length];exact (h.drop _).take _
def lL(n:Nat)(lo hi:Option Int):Bool:=HT.sIx n 0 lo==0&&HT.sIx n n hi==n
def slP(x:Res)(lo hi:Option (Rho->Res))(ρ:Rho):Res:=x.thn λm d=>match d with
 | .str z=>cP lo ρ λl=>cP hi ρ λh=>.ok .fz (.str (Txt.slice z l h))
 | .lst ds=>cP lo ρ λl=>cP hi ρ λh=>.ok .fr (.lst (cF ds l h))
 | .tup ds=>cP lo ρ λl=>cP hi ρ λh=>if (lL ds.length l h&&m != .fz)=true then .stuck else .ok .fz (.tup (cF ds l h))
 | _=>.stuck
section
variable {C:Cw}{X:Cx}{a:Expr}{ga:Rho->Res}{pos:Pos}
theorem aHU{lo hi:Option Expr}{gl gh:Option (Rho->Res)}{p2:Pos}(ha:PV C X a ga)(hl:POv C X lo gl)(hh:POv C X hi gh):PV C X (.Subscript a (.Slice lo hi none p2) pos) (λρ=>slP (ga ρ) gl gh ρ):=by
 refine PE.imp (aCI (aD9.or (aCS.or (aCJ.or aFZ))) ha (uI hl) (uI hh)) λσ H Q q=>?_;unfold tSl;rw[aV] at q ⊢;obtain ⟨ρ,F,R,w⟩:=q
 try dsimp only at w
 refine ⟨ρ,F,R,?_⟩;cases er:ga ρ with
 | stuck=>rw[er] at w;exact w
 | exc c=>rw[er] at w;exact w
 | ok m d =>
  rw[er] at w;intro v F1 H1 s1 rp _;cases d with
  | str z=>obtain ⟨rfl,hz,hk⟩:=rp.str;have w1:aT (C.at X) F1 H1 σ (cP gl ρ λl=>cP gh ρ λh=>.ok .fz (.str (Txt.slice z l h))) Q:=aT.step s1 w;refine jR (R.step s1) w1 λl F2 H2 s2 R2 w2=>jR R2 w2 λh F3 H3 s3 R3 w3=>.inl ?_;exact ⟨z,rfl,hz,w3 _ F3 H3 (.refl R3.sub) (e9 ⟨aNI (aPN z _ _) hz,aEA hk⟩) (by intro z;cases z)⟩
  | lst ds=>have w1:aT (C.at X) F1 H1 σ (cP gl ρ λl=>cP gh ρ λh=>.ok .fr (.lst (cF ds l h))) Q:=aT.step s1 w;refine jR (R.step s1) w1 λl F2 H2 s2 R2 w2=>jR R2 w2 λh F3 H3 s3 R3 w3=>.inr (.inl ?_);obtain ⟨p,xs,rfl,hq,rl⟩:=((rp.step s2).step s3).seqL R3.sub;exact ⟨p,xs,rfl,hq,λp' hp'=>w3 (.ref p') F3 _ (aK.fresh _ R3.sub hp') ⟨p',rfl,R3.sub.free hp',_,bQ,rl.cut l h⟩ λ_ a ea=>by cases ea;exact hp'⟩
  | tup ds =>
   have w1:aT (C.at X) F1 H1 σ (cP gl ρ λl=>cP gh ρ λh=>if (lL ds.length l h&&m != .fz)=true then .stuck else .ok .fz (.tup (cF ds l h))) Q:=aT.step s1 w;refine jR (R.step s1) w1 λl F2 H2 s2 R2 w2=>jR R2 w2 λh F3 H3 s3 R3 w3=>.inr (.inr ?_);obtain ⟨p,xs,rfl,hq,rl⟩:=((rp.step s2).step s3).seqT R3.sub;have lw:lL ds.length l h=true↔HT.sIx xs.length 0 l=0/\HT.sIx xs.length xs.length h=xs.length:=by rw[rl.length];unfold lL;simp
   cases hw:lL ds.length l h with
   | true =>
    cases m with
    | fz =>
     rw[hw,if_neg (by decide)] at w3
     have e:=lw.mp hw;have ec:cF ds l h=ds:=by unfold cF;rw[<- rl.length,e.1,e.2,rl.length,aP5,Nat.sub_zero];exact aQM
     rw[ec] at w3;exact .inr ⟨p,xs,rfl,hq,e,w3 (.ref p) F3 H3 (.refl R3.sub) ((rp.step s2).step s3) (by intro z;cases z)⟩
    | fr=>rw[hw,if_pos (by decide)] at w3;exact w3.elim
    | bo=>rw[hw,if_pos (by decide)] at w3;exact w3.elim
   | false =>
    rw[hw,if_neg (by simp)] at w3
    refine .inl ⟨p,xs,rfl,hq,λz=>?_,λp' hp'=>w3 (.ref p') _ _ (aK.laid (.tup (f9 xs l h)) R3.sub hp') (aD.tup_of (R3.sub.free hp') (rl.cut l h)) (by intro z;cases z)⟩
    rw[lw.mpr z] at hw;cases hw
  | _=>exact (show False from w).elim
end
section
variable {C:Cw}{X:Cx}{pos:Pos}
theorem aHV:PV C X (.Dict [] [] pos) (λ_=>.ok .fr (.dct [])):=by refine PE.imp aC8 λσ H Q q=>?_;rw[aV] at q;obtain ⟨ρ,F,R,w⟩:=q;intro p hp;exact w (.ref p) F _ (aK.fresh _ R.sub hp) ⟨p,rfl,R.sub.free hp,[],bQ,by simp[aM]⟩ λ_ a ea=>by cases ea;exact hp
end
def bC(kvs:List (Key×D))(k:Key):Option D:=(kvs.find? λkv=>decide (kv.1=k)).map (·.2)
theorem aM.val{K:Fg}{F:Hp}:∀ {kvs:List (Key×D)} {xs:List (Key×V)} (k:Key),aM K F kvs xs->match bC kvs k with | some d=>∃ v,dA xs k=some v/\aD K F d v | none=>dA xs k=none
 | [],xs,k,h=>by simp only[aM] at h;subst h;rfl
 | (k',d)::kvs,xs,k,h=>by
  simp only[aM] at h;obtain ⟨y,ys,rfl,r,t⟩:=h;by_cases e:k'=k
  . have e1:bC ((k',d)::kvs) k=some d:=by simp[bC,aO6,e]
    rw[e1];exact ⟨y,m6 e,r⟩
  . have e1:bC ((k',d)::kvs) k=bC kvs k:=by simp[bC,aO6,e]
    rw[e1,m7 (p:=(k',y)) e];exact aM.val k t
section
variable {X:Cx}
def rIxK:R2:=λx y H Q=>∃ a v,x=.ref a/\gZ H a y (some v)/\Q v H
theorem aHW(hu:X.A.units+1<cLine):IxR X rIxK:=by
 intro value slice aA s σ H x y v u Q I rx ry h hsub;obtain ⟨a,w',rfl,g,q⟩:=h;cases (show v=Value.ref a from rx)
 have hT:s.TypeIs (.ref a) "dict" := aC4 I g;unfold subscriptTail;refine aNX ?_;rw[getitemInPython_of_ne hT.not_modules];refine aNX (aPD hT PySem.F.slot_dict_getitem.lookup ?_);have fin:wpAny (model X.prog X.w) X.A (subscripted slice false (.ref a) u) (λr s3=>wpAny (model X.prog X.w) X.A (letTemporaryGo value (.ref a) r >>= λ_=>pure r) (EP X aA σ Q) X.xe s3) X.xe s:=by rw[hsub];exact wpAny_operating (aC0 hu I g ry λz s3 I3 rz=>aNX (wpAny_letTemporaryGo (aNW ⟨w',H,I3,rz,q⟩)))
 first
  | exact aNW (aNX fin)
  | exact aNX (aNW (aNX fin))
  | exact aNX fin
end
def ixK:Md->D->Md->D->Option (Md×D):=λ_ x _ y=>match x,jS y with
 | .dct kvs,some k=>(bC kvs k).map λd=>(.fz,d)
 | _,_=>none
theorem qE{K:Fg}{F H:Hp}{m n:Md}{kvs:List (Key×D)}{y:D}{k:Key}{v u:V}(s:aG F H)(rx:Rp K F H m (.dct kvs) v)(ry:Rp K F H n y u)(ek:jS y=some k):∃ a xs,v=.ref a/\H a=some (.dK xs)/\aM K F kvs xs/\gZ H a u (dA xs k):=by obtain ⟨a,xs,rfl,hh,rk⟩:=rx.dict s;exact ⟨a,xs,rfl,hh,rk,.inl ⟨xs,k,.inl hh,pM ek ry,rfl⟩⟩
section
variable {C:Cw}{X:Cx}{a b:Expr}{ga gb:Rho->Res}{pos:Pos}
def inK(neg:Bool):Md->D->Md->D->Option (Md×D):=λ_ x _ y=>match jS x,y with
 | some k,.dct kvs=>some (.fz,.bl (if neg then !(bC kvs k).isSome else (bC kvs k).isSome))
 | _,_=>none
theorem vL{K:Fg}{F:Hp}{kvs:List (Key×D)}{xs:List (Key×V)}(k:Key)(h:aM K F kvs xs):(dA xs k).isSome=(bC kvs k).isSome:=by
 have:=aM.val k h;cases e:bC kvs k with
 | none=>rw[e] at this;have this:dA xs k=none:=this;rw[this];rfl
 | some d=>rw[e] at this;obtain ⟨v,ev,_⟩:=this;rw[ev];rfl
theorem vM(hu:X.A.units+1<cLine):OpD C X (compareOp .In) (inK false):=by
 refine ⟨λx y H Q=>∃ a o,y=.ref a/\gZ H a x o/\Q (.bl o.isSome) H,?_,?_⟩
 . intro aA s σ H x y v u Q I rx ry h;obtain ⟨a,o,rfl,g,q⟩:=h;cases (show u=Value.ref a from ry)
   exact d_in hu I g rx λs3 I3=>⟨.bl o.isSome,H,I3,rfl,q⟩
 . intro F H m x n y v u k d Q s rx ry e w;unfold inK at e;split at e
   . rename_i ky kvs ek;cases e;obtain ⟨p,xs,rfl,hh,rk,g⟩:=qE s ry rx ek;exact ⟨p,_,rfl,g,by rw[vL ky rk];exact w _ F H (.refl s) (cG _) (by intro z;cases z)⟩
   . cases e
theorem vN(hu:X.A.units+1<cLine):OpD C X (compareOp .NotIn) (inK true):=by
 refine ⟨λx y H Q=>∃ a o,y=.ref a/\gZ H a x o/\Q (.bl (!o.isSome)) H,?_,?_⟩
 . intro aA s σ H x y v u Q I rx ry h;obtain ⟨a,o,rfl,g,q⟩:=h;cases (show u=Value.ref a from ry)
   exact aC1 hu I g rx λs3 I3=>⟨.bl (!o.isSome),H,I3,rfl,q⟩
 . intro F H m x n y v u k d Q s rx ry e w;unfold inK at e;split at e
   . rename_i ky kvs ek;cases e;obtain ⟨p,xs,rfl,hh,rk,g⟩:=qE s ry rx ek;exact ⟨p,_,rfl,g,by rw[vL ky rk];exact w _ F H (.refl s) (cG _) (by intro z;cases z)⟩
   . cases e
def nS:List (Md×D)->Option (Md×D)
 | [(_,.dct kvs)]=>some (.fr,.dct kvs)
 | _=>none
theorem aHX:dP X (.type "dict") nS:=by
 refine ⟨λvs H Q=>∃ a xs,vs=[.ref a]/\H a=some (.dK xs)/\∀ p,H p=none->Q (.ref p) (upd H p (.dK xs)),?_,?_⟩
 . intro aA s σ H vs us Q I r h;obtain ⟨a,xs,rfl,hh,q⟩:=h;obtain ⟨u,rfl,ru⟩:=f8 r;cases (show u=Value.ref a from ru)
   exact aC9 I (.inl hh) λp s' hp I'=>⟨.ref p,_,I',rfl,q p hp⟩
 . intro F H xs vs k d Q s rx e w;unfold nS at e;split at e
   . rename_i m kvs;cases e;obtain ⟨v,rfl,r⟩:=rx.one;obtain ⟨a,ys,rfl,hh,rk⟩:=r.dict s;exact ⟨a,ys,rfl,hh,λp hp=>w (.ref p) F _ (aK.fresh _ s hp) ⟨p,rfl,s.free hp,ys,bQ,rk⟩ λ_ b eb=>by cases eb;exact hp⟩
   . cases e
end
def iX(kvs:List (Key×D))(k:Key)(d:D):List (Key×D):=if (kvs.any λkv=>decide (kv.1=k))=true then kvs.map (λkv=>if kv.1=k then (kv.1,d) else kv) else kvs++[(k,d)]
theorem aM.keys{K:Fg}{F:Hp}:∀ {kvs:List (Key×D)} {xs:List (Key×V)},aM K F kvs xs->xs.map (·.1)=kvs.map (·.1)
 | [],xs,h=>by simp only[aM] at h;subst h;rfl
 | (k,d)::kvs,xs,h=>by simp only[aM] at h;obtain ⟨y,ys,rfl,_,t⟩:=h;simp[aM.keys t]
theorem aM.snoc{K:Fg}{F:Hp}{k:Key}{d:D}{v:V}(r:aD K F d v):∀ {kvs:List (Key×D)} {xs:List (Key×V)},aM K F kvs xs->aM K F (kvs++[(k,d)]) (xs++[(k,v)])
 | [],xs,h=>by simp only[aM] at h;subst h;simp only[List.nil_append,aM];exact ⟨v,[],rfl,r,rfl⟩
 | (k',d')::kvs,xs,h=>by simp only[aM] at h;obtain ⟨y,ys,rfl,r',t⟩:=h;simp only[List.cons_append,aM];exact ⟨y,_,rfl,r',aM.snoc r t⟩
theorem aM.repl{K:Fg}{F:Hp}{k:Key}{d:D}{v:V}(r:aD K F d v):∀ {kvs:List (Key×D)} {xs:List (Key×V)},aM K F kvs xs->aM K F (kvs.map λkv=>if kv.1=k then (kv.1,d) else kv) (xs.map λkv=>if kv.1=k then (kv.1,v) else kv)
 | [],xs,h=>by simp only[aM] at h;subst h;simp[aM]
 | (k',d')::kvs,xs,h=>by
  simp only[aM] at h;obtain ⟨y,ys,rfl,r',t⟩:=h;have ih:=aM.repl (k:=k) r t;by_cases e:k'=k
  . simp only[aO9,e,if_true,aM];exact ⟨v,_,rfl,r,ih⟩
  . simp only[aO9,e,aOQ,aM];exact ⟨y,_,rfl,r',ih⟩
theorem aM.put{K:Fg}{F:Hp}{k:Key}{d:D}{v:V}{kvs:List (Key×D)}{xs:List (Key×V)}(h:aM K F kvs xs)(r:aD K F d v):aM K F (iX kvs k d) (eK xs k v):=by
 have e:(xs.any λkv=>decide (kv.1=k))=(kvs.any λkv=>decide (kv.1=k)):=by
  have:=h.keys;have a1:∀ {β:Type} (l:List (Key×β)),(l.any λkv=>decide (kv.1=k))=(l.map (·.1)).any (λx=>decide (x=k)):=λl=>by rw[List.any_map];rfl
  rw[a1,a1,this]
 unfold iX eK;rw[e];split
 . exact aM.repl r h
 . exact aM.snoc r h
theorem aM.len{K:Fg}{F:Hp}{kvs:List (Key×D)}{xs:List (Key×V)}(h:aM K F kvs xs):xs.length=kvs.length:=by have:=congrArg List.length h.keys;simpa using this
def iE(ρ:Rho)(i:Nat)(rk rv:Res):aF:=match ρ[i]? with
 | some (some (true,.dct kvs))=>(aZ rv).thS ρ λm d=>match m with
  | .fz=>rk.thS ρ λ_ kd=>(match jS kd with
   | some k=>if kvs.length<sizeLine then .nx (ρ.set i (some (true,.dct (iX kvs k d)))) else .stuck
   | none=>.stuck)
  | _=>.stuck
 | _=>.stuck
section
variable {C:Cw}{X:Cx}{e ke:Expr}{g gk:Rho->Res}{x:Str}{p sp pos:Pos}
theorem aHY(i:Nat)(hu:X.A.units+1<cLine)(hv:PE X (.Name x p) (gX i))(hk:PV C X ke gk)(he:PV C X e g)(hsw:swapsWith e (some (.Subscript (.Name x p) ke sp)) pos.line X.env=pure false):PSv C X (.Assign [.Subscript (.Name x p) ke sp] e pos) (λρ=>iE ρ i (gk ρ) (g ρ)):=by
 refine PS.imp (aC5 hu hv hk (fN he) hsw) λE σ H q=>?_;obtain ⟨ρ,F,R,w⟩:=q;dsimp only at w;unfold t8;cases e0:ρ[i]? with
 | none=>unfold iE at w;rw[e0] at w;exact w.elim
 | some o =>
  cases o with
  | none=>unfold iE at w;rw[e0] at w;exact w.elim
  | some bd =>
   obtain ⟨b,d0⟩:=bd;cases b with
   | false=>unfold iE at w;rw[e0] at w;exact w.elim
   | true =>
    cases d0 with
    | dct kvs =>
     unfold iE at w;rw[e0] at w;dsimp only at w;obtain ⟨v0,ev0,rp0,hn0⟩:=R.slot i true _ e0;obtain ⟨a,ea,hfa,xs,hh,rk⟩:=rp0;subst ea;refine gB R w λm d v F' H' w' s R' rp fr=>?_;cases m with
     | fr=>exact (show False from w').elim
     | bo=>exact (show False from w').elim
     | fz =>
     dsimp only at w';refine ⟨.ref a,ev0,?_⟩;refine gB R' w' λm2 kd u F2 H2 w2 s2 R2 rp2 _=>?_;cases ek:jS kd with
     | none=>rw[ek] at w2;exact w2.elim
     | some k =>
      rw[ek] at w2;dsimp only at w2;split at w2
      . rename_i hl;have hh2:H2 a=some (.dK xs):=s2.same _ _ (s.same _ _ hh);refine ⟨a,_,rfl,.inl ⟨xs,k,hh2,pM ek rp2,by rw[rk.len];exact hl,rfl⟩,?_⟩
        exact w2 σ F2 _ (aG.refl _) (R2.mut e0 ev0 ⟨_,bQ,aM.put (rk.mono (s.fsame.trans s2.fsame) _ _) (aD.mono s2.fsame _ _ rp)⟩)
      . exact w2.elim
    | _=>unfold iE at w;rw[e0] at w;exact w.elim
end
section
variable {C:Cw}{X:Cx}{a b:Expr}{ga gb:Rho->Res}{pos:Pos}
theorem aHZ(hu:X.A.units+1<cLine)(ha:PV C X a ga)(hb:PV C X b gb)(hs:m5 b):PV C X (.Subscript a b pos) (λρ=>op2 ixK (ga ρ) (gb ρ)):=by
 refine PE.imp (tR (aHW hu) ha hb hs) λσ H Q q=>k6 (λF H m x n y v u k d Q s rx ry e w=>?_) q;unfold ixK at e;split at e
 . rename_i kvs ky ek;obtain ⟨p,xs,rfl,hh,rk,g⟩:=qE s rx ry ek;cases eg:bC kvs ky with
   | none=>rw[eg] at e;cases e
   | some d'=>rw[eg] at e;cases e;have:=aM.val ky rk;rw[eg] at this;obtain ⟨v',ev,rv⟩:=this;rw[ev] at g;exact ⟨p,v',rfl,g,w v' F H (.refl s) rv (by intro z;cases z)⟩
 . cases e
theorem aH0{neg:Bool}{op:CmpOp}(ho:op=if neg then .NotIn else .In)(hu:X.A.units+1<cLine)(ha:PV C X a ga)(hb:PV C X b gb)(hm:behindInMarks op b=false):PV C X (.Compare a [op] [b] pos) (λρ=>op2 (inK neg) (ga ρ) (gb ρ)):=by
 cases neg with
 | false=>subst ho;exact k7 (vM hu) ha hb hm
 | true=>subst ho;exact k7 (vN hu) ha hb hm
end
end D3
namespace D3
open PySem PySem.Spec PyProof.Rows L2 PySem.SeqAt PySem.MeetsSeq
section
variable {X:Cx}{o e:Expr}{apos cpos:Pos}{td ty:TE}
end
section
variable {C:Cw}{X:Cx}{o e:Expr}{apos cpos:Pos}{go g:Rho->Res}
end
end D3
namespace D3
open PySem PySem.Spec PyProof.Rows L2
def eL(kb:List (Key×D)):List (Key×D)->Option Bool
 | []=>some true
 | (k,d)::r=>match bC kb k with
  | none=>some false
  | some e=>(match bE d,bE e with
   | some p,some q=>if (d9 p&&d9 q)=true then (eL kb r).map λb=>PyData.eqv p q&&b else none
   | _,_=>none)
def eqN(neg:Bool):Md->D->Md->D->Option (Md×D):=λ_ x _ y=>match x,y with
 | .dct ka,.dct kb=>(eL kb ka).map λr=>(.fz,.bl (if neg then !(ka.length==kb.length&&r) else (ka.length==kb.length&&r)))
 | _,_=>none
section
variable {C:Cw}{X:Cx}
theorem vO{aA:LAO}{σ:L2.St}{F H:Hp}{s:Shared}(hu:X.A.units+64<cLine)(I:L2.Inv X aA σ H s)(sF:aG F H){kb:List (Key×D)}{ys:List (Key×V)}{vb:List (Key×Value)}(rb:aM X.K F kb ys)(kvb:KV ys vb):∀ {ka:List (Key×D)} {xs:List (Key×V)} {va:List (Key×Value)} {r:Bool},aM X.K F ka xs->KV xs va->eL kb ka=some r->PySem.W.KeqHits X.A.in1 s vb va r
 | [],xs,va,r,h,kv,e=>by simp only[aM] at h;subst h;cases kv;cases e;exact .nil
 | (k,d)::ka,xs,va,r,h,kv,e=>by
  simp only[aM] at h;obtain ⟨y,xs',rfl,ry,t⟩:=h;cases kv with
  | cons h1 t1 =>
   rename_i q1 va';obtain ⟨k1,u1⟩:=q1;obtain ⟨e1,r1⟩:=h1;dsimp only at e1 r1;subst e1;unfold eL at e;have hv:=aM.val k rb;have hr:=kvb.val k;cases eg:bC kb k with
   | none=>rw[eg] at e hv;cases e;have hv:dA ys k=none:=hv;rw[hv] at hr;exact .miss (dN.none_of hr)
   | some ee =>
    rw[eg] at e hv;obtain ⟨v2,ev2,rv2⟩:=hv;rw[ev2] at hr;obtain ⟨u2,eu2,ru2⟩:=dN.some_of hr;dsimp only at e;split at e
    . rename_i p q ep eq;split at e
      . rename_i hs;cases eh:eL kb ka with
        | none=>rw[eh] at e;cases e
        | some b=>rw[eh] at e;cases e;rw[aOX] at hs;have hs1:=aPG hs.1;obtain ⟨⟨as,ra⟩,ca⟩:=nE I sF d p y u1 ry r1 ep;obtain ⟨⟨bs,rb'⟩,cb⟩:=nE I sF ee q v2 u2 rv2 ru2 eq;exact .hit eu2 (SeqAt.eqAt_reads p q X.A.in1 s u1 u2 as bs ra rb' ca cb (by show X.A.units+1+min p.depth q.depth<cLine;have:=Nat.min_le_left p.depth q.depth;omega)) (vO hu I sF rb kvb t t1 eh)
      . cases e
    . cases e
theorem vP{f:Value->Value->Sem Value}{neg:Bool}(hu:X.A.units+64<cLine)(rule:∀ (s:Shared) (a b:Addr) (ka kb:List (Key×Value)) (r:Bool) (Q:VSP),(a==sysModules)=false->(b==sysModules)=false->s.heap.DictOf (bR X.prog X.w) a ka->s.heap.DictOf (bR X.prog X.w) b kb->(ka.length=kb.length->PySem.W.KeqHits X.A.in1 s kb ka r)->Q (.bool (if neg then !(ka.length==kb.length&&r) else (ka.length==kb.length&&r))) s->wpAny (model X.prog X.w) X.A (f (.ref a) (.ref b)) Q X.xe s):OpD C X f (eqN neg):=by
 refine ⟨λx y H Q=>∃ F m n ka kb r,aG F H/\Rp X.K F H m (.dct ka) x/\Rp X.K F H n (.dct kb) y/\eL kb ka=some r/\Q (.bl (if neg then !(ka.length==kb.length&&r) else (ka.length==kb.length&&r))) H,?_,?_⟩
 . intro aA s σ H x y v u Q I rx ry h;obtain ⟨F,m,n,ka,kb,r,sF,hd,he,eh,hQ⟩:=h;obtain ⟨a,xs,rfl,ha,ra⟩:=hd.dict sF;obtain ⟨b,ys,rfl,hb,rb⟩:=he.dict sF;cases rx;cases ry;obtain ⟨_,sa,va,rva,da⟩:=m8 I.hok ha;obtain ⟨_,sb,vb,rvb,db⟩:=m8 I.hok hb;have la:va.length=ka.length:=by rw[<- ra.len];exact (aM7 rva).symm
   have lb:vb.length=kb.length:=by rw[<- rb.len];exact (aM7 rvb).symm
   refine rule s a b va vb r _ sa sb da db (λ_=>vO hu I sF rb rvb ra rva eh) ⟨.bl _,H,I,rfl,?_⟩;rw[la,lb];exact hQ
 . intro F H m x n y v u k d Q s rx ry e w;unfold eqN at e;split at e
   . rename_i ka kb;cases eh:eL kb ka with
     | none=>rw[eh] at e;cases e
     | some r=>rw[eh] at e;cases e;exact ⟨F,m,n,ka,kb,r,s,rx,ry,eh,w _ F H (.refl s) (cG _) (by intro z;cases z)⟩
   . cases e
theorem vQ(hu:X.A.units+64<cLine):OpD C X (compareOp .Eq) (eqN false):=vP hu λs a b ka kb r Q sa sb da db hits q=>PySem.W.keq_eq sa sb da db (by omega) hits q
theorem vR(hu:X.A.units+64<cLine):OpD C X (compareOp .NotEq) (eqN true):=vP hu λs a b ka kb r Q sa sb da db hits q=>PySem.W.keq_ne sa sb da db (by omega) hits q
end
def iY(w:World)(K:Fg):List (Str×Str)->List DictEntry->Prop
 | [],es=>es=[]
 | (z,f)::r,es=>∃ t a es',es=⟨PyData.keyHash w.params z,.str z t,.ref a⟩::es'/\PySem.W.nsIn K mainGlobals f=some (some (.ref a))/\iY w K r es'
structure iF(w:World)(K:Fg)(mg:SOV)(x:Str)(tb:List (Str×Str)):Prop where
 ex:∃ a ob es ep,mg x=some (.ref a)/\K.lookup a=some ob/\ob.ExactDict/\ob.data=.dict es ep/\iY w K tb es.toList
 nd:(tb.map (·.1)).Nodup
theorem iY.pairs{P:Program}{w:World}{K:Fg}:∀ {tb:List (Str×Str)} {es:List DictEntry},iY w K tb es->∃ kvs:List (Key×Value),Pairs (bR P w) es kvs/\kvs.map (·.1)=tb.map (λp=>.inr p.1)/\(∀ e∈es,∃ k,(bR P w).is k e.key=true/\e.hash=(bR P w).hash k)/\∀ z f,tb.lookup z=some f->∃ a,valueAt kvs (.inr z)=some (.ref a)/\PySem.W.nsIn K mainGlobals f=some (some (.ref a))
 | [],es,h=>by
  have h:es=[]:=h;subst h;refine ⟨[],.nil,rfl,λe h=>?_,λz f h=>?_⟩
  . cases h
  . cases h
 | (z,f)::r,es,h=>by
  obtain ⟨t,a,es',rfl,hn,hr⟩:=h;obtain ⟨kvs,p1,p2,p3,p4⟩:=iY.pairs (P:=P) hr;have hi:(bR P w).is (.inr z) (.str z t)=true:=by show Value.isStrOf z (.str z t)=true;simp[Value.isStrOf]
  refine ⟨(.inr z,.ref a)::kvs,.cons hi rfl p1,by simp[p2],λe he=>?_,λz' f' hz=>?_⟩
  . rcases aNK.mp he with rfl | he
    . exact ⟨.inr z,hi,rfl⟩
    . exact p3 e he
  . rw[aP0] at hz;unfold valueAt;by_cases e:z'=z
    . subst e;rw[aP1] at hz;cases hz;exact ⟨a,by simp[aO6],hn⟩
    . have:(z'==z)=false:=aM6.mpr e;rw[this] at hz;obtain ⟨a',q1,q2⟩:=p4 z' f' hz;refine ⟨a',?_,q2⟩;unfold valueAt at q1;simp[aO6];simpa[Ne.symm e] using q1
abbrev Tbl:=List (Str×Str)
abbrev Fns:=List Str
def j8(tb:List (Str×Str))(r:Res):Res:=r.thn λ_ d=>match d with
 | .str z=>(match tb.lookup z with | some f=>.ok .fz (.fn f) | none=>.stuck)
 | _=>.stuck
def lM(Φ:Str->List D->Res)(fs:List Str)(n:Nat)(r:Res)(as:aW):Res:=match r with
 | .ok .fz (.fn f)=>if fs.contains f=true then aX n (Φ f) as else .stuck
 | _=>.stuck
section
variable {C:Cw}{X:Cx}{e b:Expr}{es:List Expr}{gs:Rho->aW}{gb:Rho->Res}{p pos:Pos}{x:Str}{k n:Nat}{tb:List (Str×Str)}
theorem aH1(T:iF X.w X.K X.mg x tb)(hg:Gl X x)(hb:PV C X b gb)(hs:pJ b)(hd:(x==("__debug__" : Str))=false):PV C X (.Subscript (.Name x p) b pos) (λρ=>j8 tb (gb ρ)):=by
 obtain ⟨a,ob,es,ep,hm,hk,xd,hdt,te⟩:=T.ex;intro aA s σ H Q I h;rw[aV] at h;obtain ⟨ρ,F,R,w⟩:=h;have hb':=hb aA s σ H (λy H2=>∃ z f,y=.str z/\tb.lookup z=some f/\∀ fa,PySem.W.nsIn X.K mainGlobals f=some (some (.ref fa))->Q (.ref fa) H2) I (by
  rw[aV];refine ⟨ρ,F,R,?_⟩;cases er:gb ρ with
  | stuck=>rw[er] at w;exact w
  | exc c=>rw[er] at w;exact w
  | ok m d =>
   rw[er] at w;intro v F1 H1 s1 r1 _;have w1:aT (C.at X) F1 H1 σ (j8 tb (.ok m d)) Q:=aT.step s1 w;unfold j8 at w1;rw[Res.thn_ok] at w1;cases d with
   | str z =>
    dsimp only at w1;cases el:tb.lookup z with
    | none=>rw[el] at w1;exact w1.elim
    | some f =>
     rw[el] at w1;refine ⟨z,f,?_,el,λfa hf=>w1 (.ref fa) F1 H1 (.refl s1.sub) (by show aD _ _ _ _;simp only[aD];exact ⟨fa,rfl,hf⟩) (by intro z;cases z)⟩
     exact (pM (k:=.inr z) rfl r1)
   | _=>exact w1.elim)
 refine aC3 PySem.F.slot_dict_getitem.lookup hs (kU I hg hm (thn hb' λiv s2 ⟨y,H2,I2,ry,z,f,ey,el,q⟩=>?_) hd);subst ey;obtain ⟨kvs,p1,p2,p3,p4⟩:=iY.pairs (P:=X.prog) te;have hh:s2.heap.get? a=some ob:=I2.kIn a ob hk
 have dd:s2.heap.DictOf (bR X.prog X.w) a kvs:=⟨ob,es,ep,hh,xd,hdt,λe he=>p3 e (by simpa using he),p1,by
  rw[p2];have:=T.nd;unfold List.Nodup at this ⊢;rw[List.pairwise_map] at this ⊢;exact this.imp λh z=>h (Sum.inr.inj z)⟩
 obtain ⟨fa,v1,v2⟩:=p4 z f el;exact ⟨dd.typeIs,wpAny_getItem_of (jL (k:=.inr z) ry) dd.mapOf v1 ⟨.ref fa,H2,I2.tok _,rfl,q fa v2⟩⟩
theorem aH2{i:Nat}{fs:List Str}{Φ:Str->List D->Res}{CX:CXT}(F:∀ f,fs.contains f=true->FnV X.prog X.w X.K X.mg X.base CX k f n (Φ f))(hr:cN k X.A)(hx:XOk CX (C.at X) X)(hv:PE X (.Name x p) (gX i))(ha:PAv C X (e::es) gs)(he:starEach (e::es) X.env=(false,eval e X.env)::starEach es X.env)(hpl:(backTo pos (starEach es X.env)).any (·.1)=false):PV C X (.Call (.Name x p) (e::es) [] pos) (λρ=>lM Φ fs n (cA ρ i) (gs ρ)):=by
 intro aA s σ H Q I h;rw[aV] at h;obtain ⟨ρ,G,R,w⟩:=h;unfold lM at w;split at w;rotate_left
 . exact w.elim
 rename_i f eg;split at w;rotate_left
 . exact w.elim
 rename_i hf;obtain ⟨fa,fd,ps,FF,hm,hk,hb⟩:=(F f hf).ex;have sl:ρ[i]? = some (some (false,.fn f)):=by
  unfold cA at eg;split at eg
  . rename_i d q;cases eg;exact q
  . cases eg
  . cases eg
 obtain ⟨v,ev,rv,_⟩:=R.slot i false (.fn f) sl;have rv:aD X.K G (.fn f) v:=rv;simp only[aD] at rv;obtain ⟨a,rfl,na⟩:=rv;have ea:a=fa:=by have:=aQN I.ok.mod.kin I.ok.mod.glob na;rw[hm] at this;cases this;rfl
 subst ea;refine aOJ (thn (hv aA s σ H (λv' H'=>v'=.ref a/\H'=H) I ⟨.ref a,ev,rfl,rfl⟩) λu s0 ⟨v',H0,I0,ru,e1,e2⟩=>?_);subst e1 e2;obtain rfl:u=Value.ref a:=ru;refine PySem.W.callWith_K (h₀:=X.base) I0.ok.mod.kin hk (thn (ha pos aA s0 σ H0 (λvs H1=>spV X.K X.mg n (Φ f) vs H1 Q λu _ H'=>∃ c,X.mg c=some u/\C.EE c σ H') I0 ?_) λus s1 ⟨vs,H1,I1,r,q⟩=>⟨I1.kIn,uU FF hr hb (λe s' hc=>hx aA σ H1 s1 e s' I1 hc) I1 r q⟩) he hpl;refine ⟨ρ,G,R,?_⟩;cases er:gs ρ with
 | stuck=>rw[er] at w;exact w
 | exc c=>rw[er] at w;exact w
 | ok xs =>
  rw[er] at w;intro vs F1 H1 s1 r1;have w1:aT (C.at X) F1 H1 σ (aX n (Φ f) (.ok xs)) Q:=aT.step s1 w;unfold aX at w1;rw[aW.thn_ok] at w1;cases ef:cB xs with
  | none=>rw[ef] at w1;exact w1.elim
  | some ds =>
   rw[ef] at w1;dsimp only at w1;split at w1
   . rename_i hn;have rl:=r1.fz ef;refine ⟨by rw[rl.length];exact hn,F1,ds,s1.sub,rl,?_⟩
     cases ep:Φ f ds with
     | stuck=>rw[ep] at w1;exact w1
     | exc c=>rw[ep] at w1;exact λF' H' u st hu=>⟨c,hu,w1 F' H' st⟩
     | ok m d =>
      rw[ep] at w1;cases m with
      | bo=>exact w1.elim
      | fz=>exact ⟨by decide,w1⟩
      | fr=>exact ⟨by decide,w1⟩
   . exact w1.elim
end
def nT:Key->D | .inl i=>.int i | .inr x=>.str x
def nU:Key->Bool | .inl _=>true | .inr x=>decide (x.length<=sizeLine)&&PyData.strOk x
def iZ:List (Md×D)->Option (Md×D)
 | [(_,.dct kvs)]=>if (kvs.all λkv=>nU kv.1)=true then some (.fr,.lst (kvs.map λkv=>nT kv.1)) else none
 | _=>none
section
variable {X:Cx}
theorem is_kV{P:Program}{w:World}{k:Key}{u:Value}(h:(bR P w).is k u=true):aL (kV k) u:=by
 cases k with
 | inl i =>
  have h:Value.isInt i u=true:=h;cases u <;> simp[Value.isInt] at h
  subst h;exact ⟨_,rfl⟩
 | inr x =>
  have h:Value.isStrOf x u=true:=h;cases u <;> simp[Value.isStrOf] at h
  subst h;exact ⟨_,rfl⟩
theorem vS{P:Program}{w:World}:∀ {vs:List (Key×Value)} {us:List Value},us.length=vs.length->(∀ (j:Nat) v,us[j]? = some v->∃ k x,vs[j]? = some (k,x)/\(bR P w).is k v=true)->aN (vs.map λkv=>kV kv.1) us
 | [],[],_,_=>.nil
 | [],_::_,h,_=>by simp at h
 | _::_,[],h,_=>by simp at h
 | kv::vs,u::us,h,q=>by obtain ⟨k,x,e1,e2⟩:=q 0 u rfl;cases e1;exact .cons (is_kV e2) (vS (by simpa using h) λj v hv=>q (j+1) v hv)
theorem aH3(hc:X.calm=true):fJ X (.type "list") (λxs H Q=>∃ p kvs,xs=[.ref p]/\H p=some (.dK kvs)/\∀ l,H l=none->Q (.ref l) (upd H l (.lst (kvs.map λkv=>kV kv.1)))):=by
 intro aA s σ H xs us Q I r h;obtain ⟨p,kvs,rfl,hp,q⟩:=h;obtain ⟨u,rfl,rx⟩:=f8 r;cases rx;obtain ⟨hz,hd,vs,rel,o,es,ep,dd⟩:=m8 I.hok hp;refine PySem.W.kdl_call (PySem.W.kdl_dict (knd:=bR X.prog X.w) (kvs:=vs) (ep:=ep) hd) (I.ok.hd hc) ⟨o,es,dd⟩ (by rw[<- rel.length];exact hz) λh' tk acc c' kp hg it=>?_
 have ek:vs.map (λkv=>kV kv.1)=kvs.map λkv=>kV kv.1:=by have:=congrArg (List.map kV) rel.keys;simpa[aQO,Function.comp_def] using this.symm
 have rv:aN (kvs.map λkv=>kV kv.1) acc.toList:=by rw[<- ek];exact vS (P:=X.prog) (w:=X.w) (by rw[aNT];exact it.1) λj v hv=>it.2 j v (by simpa using hv)
 exact ⟨.ref s.heap.objs.size,_,I.laid (t':=tk) kp (aNY _) (show bU X.prog X.w _ h' _ (.lst (kvs.map λkv=>kV kv.1)) from ⟨by rw[aOI];exact hz,acc.toList,c',rv,by simpa using hg⟩),rfl,q _ (I.hok.fresh (aNY _))⟩
theorem vT{K:Fg}{F:Hp}:∀ {kvs:List (Key×D)} {xs:List (Key×V)},aM K F kvs xs->(kvs.all λkv=>nU kv.1)=true->aE K F (kvs.map λkv=>nT kv.1) (xs.map λkv=>kV kv.1)
 | [],xs,h,_=>by simp only[aM] at h;subst h;simp[aE]
 | (k,d)::kvs,xs,h,a=>by
  simp only[aM] at h;obtain ⟨y,ys,rfl,_,t⟩:=h;rw[aO4,aOX] at a;simp only[aO9,aE];refine ⟨_,_,rfl,?_,vT t a.2⟩;cases k with
  | inl i=>simp only[nT,aD,kV]
  | inr x=>have a1:(decide (x.length<=sizeLine)&&PyData.strOk x)=true:=a.1;rw[aOX,aPF] at a1;show aD K F (.str x) (.str x);unfold aD;exact ⟨rfl,a1⟩
theorem aH4(hc:X.calm=true):dP X (.type "list") iZ:=by
 refine ⟨_,aH3 hc,λF H xs vs k d Q s rx e w=>?_⟩;unfold iZ at e;split at e
 . rename_i m kvs;split at e
   . rename_i ha;cases e;obtain ⟨v,rfl,r⟩:=rx.one;obtain ⟨a,xs,rfl,hh,rk⟩:=r.dict s;exact ⟨a,xs,rfl,hh,λl hl=>w (.ref l) F _ (aK.fresh _ s hl) ⟨l,rfl,s.free hl,_,bQ,vT rk ha⟩ λ_ a ea=>by cases ea;exact hl⟩
   . cases e
 . cases e
end
theorem aS.frz{K:Fg}{F0 H0 F H:Hp}{σ:L2.St}{ρ:Rho}(R:aS K F0 H0 F H σ ρ){i:Nat}{d:D}(e:ρ[i]? = some (some (true,d))):∃ F',aG F F'/\aS K F0 H0 F' H σ (ρ.set i (some (false,d))):=by
 obtain ⟨v,ev,rp,hn⟩:=R.slot i true d e;obtain ⟨x,rfl,nx,t⟩:=rp;obtain ⟨o,ho,r⟩:=t.freeze nx;have sm:aG F (upd F x o):=λb u q=>by rw[aO (cV q nx)];exact q
 have hi:i<ρ.length:=(aNN.mp e).1;refine ⟨upd F x o,sm,R.st.freeze (hn rfl x rfl) nx ho,λj m d' ej=>?_,λj k d1 d2 a hjk e1 e2 q1 q2=>?_,by rw[aO1];exact R.len⟩
 . by_cases hj:j=i
   . subst hj;rw[aNP hi] at ej;cases ej;exact ⟨.ref x,ev,r,by intro z;cases z⟩
   . rw[aNQ (λz=>hj z.symm)] at ej;obtain ⟨v',ev',rp',hn'⟩:=R.slot j m d' ej;refine ⟨v',ev',?_,hn'⟩;cases m with
     | false=>exact aD.mono sm _ _ rp'
     | true =>
      obtain ⟨a,rfl,na,t'⟩:=rp';have ax:a≠x:=λz=>by subst z;exact R.apart j i d' d a hj ej e ev' ev
      refine ⟨a,rfl,by rw[aO ax];exact na,?_⟩
      cases d' with
      | lst ds=>obtain ⟨xs,q,rr⟩:=t';exact ⟨xs,q,rr.mono sm _ _⟩
      | dct ds=>obtain ⟨xs,q,rr⟩:=t';exact ⟨xs,q,rr.mono sm _ _⟩
      | ins c fs=>obtain ⟨C,dx,gs,n,q,rr⟩:=t';exact ⟨C,dx,gs,n,q,rr.mono sm _ _⟩
      | set ks=>obtain ⟨S,q,rr⟩:=t';exact ⟨S,q,rr⟩
      | _=>exact t'.elim
 . have own:∀ {j:Nat} {d1:D},(ρ.set i (some (false,d)))[j]? = some (some (true,d1))->ρ[j]? = some (some (true,d1)):=λ{j d1} z=>by
     by_cases hj:j=i
     . subst hj;rw[aNP hi] at z;cases z
     . rw[aNQ (λy=>hj y.symm)] at z;exact z
   exact R.apart j k d1 d2 a hjk (own e1) (own e2) q1 q2
def j9(ρ:Rho)(i:Nat):aF:=match ρ[i]? with
 | some (some (true,d))=>.nx (ρ.set i (some (false,d)))
 | _=>.stuck
theorem aH5{C:Cw}{X:Cx}{sts:List Stmt}{i:Nat}{g:Rho->aF}(h:PBv C X sts g):PBv C X sts (λρ=>(j9 ρ i).thn g):=by
 refine PSs.imp h λE σ H q=>?_;obtain ⟨ρ,F,R,w⟩:=q;dsimp only at w;unfold j9 at w;split at w
 . rename_i d e;obtain ⟨F',sm,R'⟩:=R.frz e;exact ⟨_,F',R',bS.mono sm w⟩
 . exact w.elim
def Ent(w:World):List Str->List (Int×Value)->Prop
 | [],l=>l=[]
 | x::xs,l=>∃ t r,l=(hashStr w x,.str x t)::r/\Ent w xs r
def qF(w:World):Bool:=w.params.followText "set-order"
def SetX(w:World)(h:Heap)(a:Addr)(xs:List Str):Prop:=∃ o es ep t,h.get? a=some o/\o.ExactSet/\o.data=.set es ep t/\Ent w xs es.toList/\xs.Nodup/\xs.length<scanBound/\t.fits es.size=true/\t.led = !qF w/\(xs=[]\/t.plain=false)
section
variable {prog:Program}{w:World}{A:Around}{E:VSP}{s:Shared}
end
section
variable {prog:Program}{w:World}{A:Around}{E:VSP}{s:Shared}
end
section
variable {prog:Program}{w:World}{A:Around}{E:VSP}{s:Shared}
end
def Small(m:Nat):Prop:=m=7\/m=15\/m=31
section
variable {m:Nat}{ow:Array (Option Nat)}
end
def SetM(w:World)(h:Heap)(a:Addr)(xs:List Str):Prop:=∃ o es ep t,h.get? a=some o/\o.ExactSet/\o.data=.set es ep t/\Ent w xs es.toList/\xs.Nodup/\xs.length<scanBound/\t.fits es.size=true/\t.led = !qF w/\(xs=[]\/t.plain=false)/\Small t.mask/\t.dummies = #[]
section
variable {prog:Program}{w:World}{A:Around}{E:VSP}{s:Shared}
def Wide(h:Heap)(a:Addr)(n:Nat):Prop:=∀ o es ep t,h.get? a=some o->o.data=.set es ep t->n<=t.mask
end
section
variable {prog:Program}{w:World}{A:Around}{E:VSP}{s:Shared}
end
section
variable {prog:Program}{w:World}{A:Around}{E:VSP}{s:Shared}{I a:Addr}{i n ep:Nat}{o:Obj}{es:Array (Int×Value)}{t:SetTable}
end
section
variable {prog:Program}{w:World}{A:Around}{E:VSP}{s:Shared}
variable {I a:Addr}{ep:Nat}{o:Obj}{es:Array (Int×Value)}{t:SetTable}
end
section
variable {prog:Program}{w:World}{A:Around}{E:VSP}{s:Shared}{a:Addr}{xs:List Str}
end
def sx(w:World)(l:Addr)(ys:List Str):HO:=.ext λh=>SetX w h l ys
section
variable {X:Cx}
end
section
variable {C:Cw}{X:Cx}{ga gb:Rho->Res}{ea eb:Expr}
end
section
variable {C:Cw}{X:Cx}{ga gb:Rho->Res}{ea eb:Expr}{p p1 p2 q q1 q2 pos:Pos}
end
section
variable {prog:Program}{w:World}{A:Around}{E:VSP}{s:Shared}{I l:Addr}{items:Array Value}
end
section
variable {C:Cw}{X:Cx}{ga:Rho->Res}{ea:Expr}{p p1 q1 pos:Pos}
end
section
variable {prog:Program}{w:World}{A:Around}{R:Result->Shared->Prop}{s:Shared}{b:Bool}{elt tg aH tg2 sN:Expr}{ifs:List Expr}{scope:Scope}{pos:Pos}{it acc:Value}{env:Env}
end
def AllF(ρ:Rho):Prop:=∀ (i:Nat) (m:Bool) (d:D),ρ[i]? = some (some (m,d))->m=false
def AR(K:Fg)(w:World)(b:Bool)(Da:Addr)(F:Hp)(zs:List D)(o:HO):Prop:=match b with
 | true=>∃ ys,o=.lst ys/\aE K F zs ys
 | false=>∃ (ns ys:List Str),zs=ns.map .str/\o=sx w Da ys/\ys.Nodup/\ys.length<=ns.length/\(∀ x,x∈ys↔x∈ns)/\∀ x∈ns,x.length<=sizeLine/\PyData.strOk x=true
section
variable {C:Cw}{X:Cx}
end
section
variable {C:Cw}{X:Cx}{elt aH tg sN tg2:Expr}{ifs:List Expr}{scope:Scope}{pos:Pos}{aB:List Nat}{aC tgN:List Str}{gi gt gi2 ge:Rho->Res}
variable (hc : X.calm = true) (hi : PIv C X tg aH gi) (bV : ∀ y ∈ scope.names, y.2 ≠ .cell) (bZ : scope.kind = .function) (cZ : ∀ y ∈ scope.names, y.2 = .local → scope.names.lookup y.1 = some .local)
    (cD:∀ y∈scope.names,y.2=.free->X.env.kindOf y.1=some .cell\/X.env.kindOf y.1=some .free)
    (cL:aC.map some=aB.map λi=>X.N[i]?) (c8:∀ y∈aC,(y,NameKind.free)∈scope.names)
    (c7:∀ y∈aC,(relabel scope X.env).names.lookup y=some .cell\/(relabel scope X.env).names.lookup y=some .free)
    (hn:tgN.length=2)
    (hg:∀ cl A fp s3 H3,PGw (aQ X scope (aC++tgN) cl A fp s3 H3) tg (.nm aB.length)) (hf:∀ cl A fp s3 H3,cQ (aQ X scope (aC++tgN) cl A fp s3 H3) ifs (tT (C.nox.at X) gt))
    (hi2:∀ cl A fp s3 H3,PIv C.nox (aQ X scope (aC++tgN) cl A fp s3 H3) tg2 sN gi2) (hg2:∀ cl A fp s3 H3,PGw (aQ X scope (aC++tgN) cl A fp s3 H3) tg2 (.nm (aB.length+1)))
    (he:∀ cl A fp s3 H3,PV C.nox (aQ X scope (aC++tgN) cl A fp s3 H3) elt ge)
    (hs:∀ x,foldedSetIterable aH X.env x=pure x) (hs2:∀ env x,foldedSetIterable sN env x=pure x)
include hc hi bV bZ cZ cD cL c8 c7 hn hg hf hi2 hg2 he hs hs2
end
end D3
namespace D3
open PySem PySem.Spec PyProof.Rows L2 PySem.W
structure StrO(n:Nat)(lt:Nat->Nat->Bool):Prop where
 tr:∀ {i j k},lt i j=true->lt j k=true->lt i k=true
 asy:∀ {i j},lt i j=true->lt j i=false
 tot:∀ {i j},i<n->j<n->i≠j->lt i j=true\/lt j i=true
section
variable {n:Nat}{lt:Nat->Nat->Bool}{cmp:Nat->Nat->(Bool->Shared->Prop)->Shared->Prop}{J:Shared->Prop}
def Upto(lt:Nat->Nat->Bool)(p:Array Nat)(b:Nat):Prop:=∀ i j,i<j->j<b->lt (p.getD i 0) (p.getD j 0)=true
def Dnto(lt:Nat->Nat->Bool)(p:Array Nat)(b:Nat):Prop:=∀ i j,i<j->j<b->lt (p.getD j 0) (p.getD i 0)=true
end
section
variable {prog:Program}{w:World}{A:Around}{E:VSP}{s:Shared}
end
section
variable {prog:Program}{w:World}{A:Around}{E:VSP}{s:Shared}
end
section
variable {X:Cx}
end
end D3
namespace D3
open PySem PySem.Spec PyProof.Rows L2 PySem.SeqAt PySem.MeetsSeq
abbrev vU:Md->D->Md->D->Option (Md×D):=fI (λ_ _=>true) λi j=>.int (Builtin.bitAnd i j)
abbrev fBor:Md->D->Md->D->Option (Md×D):=fI (λ_ _=>true) λi j=>.int (Builtin.bitOr i j)
abbrev fShl:Md->D->Md->D->Option (Md×D):=fI (λi j=>decide (0<=j)&&decide (j<=1000000)&&decide (i.natAbs<2 ^ 64)) λi j=>.int (i * 2 ^ j.toNat)
abbrev fShr:Md->D->Md->D->Option (Md×D):=fI (λ_ j=>decide (0<=j)) λi j=>.int (i / 2 ^ j.toNat)
section
variable {C:Cw}{X:Cx}
theorem aH6:OpD C X (binaryOp .BitAnd) vU:=g9 aBS λ_ _ i j=>cO _
theorem aH7:OpD C X (binaryOp .BitOr) fBor:=g9 op_or λ_ _ i j=>cO _
theorem aH8:OpD C X (binaryOp .LShift) fShl:=jO aBQ (λi j h=>by
 simp only[aOX,aPF] at h;exact ⟨h.1.1,h.1.2,h.2⟩) λ_ _ i j=>cO _
theorem aH9:OpD C X (binaryOp .RShift) fShr:=jO aBR (λi j h=>aPG h) λ_ _ i j=>cO _
end
section
variable {X:Cx}{o e:Expr}{apos cpos:Pos}{td ty:TE}
end
section
variable {C:Cw}{X:Cx}{o e:Expr}{apos cpos:Pos}{go g:Rho->Res}
end
end D3
namespace D3
open PySem PySem.Spec PyProof.Rows L2
section
variable {C:Cw}{X:Cx}{pos:Pos}{scope:Scope}{aB:List Nat}{aC:List Str}{x d m:Str}{p0 p1 p2 p3 p4 p5 p6 p7 p8 p9:Pos}{i j jd jm k0:Nat}
end
end D3
namespace L2
open PySem PySem.Spec PyProof.Rows D3
end L2
namespace D3
open PySem PySem.Spec PyProof.Rows L2
section
variable {C:Cw}{X:Cx}{pos:Pos}
end
abbrev Rise(xs:Array Nat):Prop:=xs.toList.Pairwise (· < ·)
def PlOk(t:SetTable):Prop:=t.plain=false\/(t.dummies = #[]/\Rise t.place)
def EntI(w:World):List Int->List (Int×Value)->Prop
 | [],l=>l=[]
 | x::xs,l=>∃ t r,l=(hashInt x,.int x t)::r/\EntI w xs r
def SetI(w:World)(h:Heap)(a:Addr)(xs:List Int):Prop:=∃ o es ep t,h.get? a=some o/\o.ExactSet/\o.data=.set es ep t/\EntI w xs es.toList/\xs.Nodup/\xs.length<scanBound/\t.fits es.size=true/\t.led = !qF w/\PlOk t
section
variable {prog:Program}{w:World}{A:Around}{E:VSP}{s:Shared}
end
section
variable {prog:Program}{w:World}{A:Around}{E:VSP}{s:Shared}
end
section
variable {prog:Program}{w:World}{A:Around}{E:VSP}{s:Shared}
end
section
variable {prog:Program}{w:World}{A:Around}{E:VSP}{s:Shared}
variable {I a:Addr}{ep:Nat}{o:Obj}{es:Array (Int×Value)}{t:SetTable}
end
section
variable {prog:Program}{w:World}{A:Around}{E:VSP}{s:Shared}{a:Addr}{xs:List Int}
end
section
variable {X:Cx}
end
section
variable {C:Cw}{X:Cx}{ga:Rho->Res}{ea:Expr}{p p1 q1 pos:Pos}
end
section
variable {C:Cw}{X:Cx}{e:Expr}{es:List Expr}{gs:Rho->aW}{p pos:Pos}{x:Str}{k n:Nat}{Φ:List D->Res}{CX:CXT}
end
def gK(ρ:Rho)(i:Nat)(rk rv:Res):aF:=match ρ[i]? with
 | some (some (true,.lst ds))=>(aZ rv).thS ρ λm d=>match m with
  | .fz=>rk.thS ρ λ_ kd=>(match kd with
   | .int k=>(match ixN ds.length k with | some j=>.nx (ρ.set i (some (true,.lst (ds.set j d)))) | none=>.stuck)
   | _=>.stuck)
  | _=>.stuck
 | _=>.stuck
theorem aE.set{K:Fg}{F:Hp}:∀ {ds:List D} {xs:List V} {j:Nat} {d:D} {v:V},aE K F ds xs->aD K F d v->aE K F (ds.set j d) (xs.set j v)
 | [],_,_,_,_,h,_=>by simp only[aE] at h;subst h;exact aE.nil
 | d'::ds,_,0,_,_,h,r=>by simp only[aE] at h;obtain ⟨y,ys,rfl,q,t⟩:=h;exact aE.cons r t
 | d'::ds,_,j+1,_,_,h,r=>by simp only[aE] at h;obtain ⟨y,ys,rfl,q,t⟩:=h;exact aE.cons q (aE.set t r)
section
variable {C:Cw}{X:Cx}{e ke:Expr}{g gk:Rho->Res}{x:Str}{p ap cp sp pos:Pos}
theorem aIA(i:Nat)(hv:PE X (.Name x p) (gX i))(hk:PV C X ke gk)(he:PV C X e g)(hsw:swapsWith e (some (.Subscript (.Name x p) ke sp)) pos.line X.env=pure false):PSv C X (.Assign [.Subscript (.Name x p) ke sp] e pos) (λρ=>gK ρ i (gk ρ) (g ρ)):=by
 have h1:PS X (.Assign [.Subscript (.Name x p) ke sp] e pos) (λE σ H=>tG (C.at X) (λρ=>aZ (g ρ)) σ H λv H1=>gX i σ H1 λo H2=>tG (C.at X) gk σ H2 λk H3=>tU o k v H3 (λH4=>E.nx σ H4)):=by intro aA s σ H D I h;refine wpAny_Assign_Subscript (thn (fN he aA s σ H _ I h) λr s1 ⟨v,H1,I1,rv,q1⟩=>thn (hv aA s1 σ H1 _ I1 q1) λu s2 ⟨x,H2,I2,rx,q2⟩=>thn (hk aA s2 σ H2 _ I2 q2) λiv s3 ⟨y,H3,I3,ry,q3⟩=>?_) hsw;refine thn (aCP aA s3 σ H3 _ _ _ _ _ _ _ I3 rx ry rv q3) λ_ s4 ⟨H4,I4,q4⟩=>?_;exact ⟨σ,H4,I4,q4⟩
 refine PS.imp h1 λE σ H q=>?_;obtain ⟨ρ,F,R,w⟩:=q;dsimp only at w;cases e0:ρ[i]? with
 | none=>unfold gK at w;rw[e0] at w;exact w.elim
 | some o =>
  cases o with
  | none=>unfold gK at w;rw[e0] at w;exact w.elim
  | some bd =>
   obtain ⟨b,d0⟩:=bd;cases b with
   | false=>unfold gK at w;rw[e0] at w;exact w.elim
   | true =>
    cases d0 with
    | lst ds =>
     unfold gK at w;rw[e0] at w;dsimp only at w;obtain ⟨v0,ev0,rp0,hn0⟩:=R.slot i true _ e0;obtain ⟨a,ea,hfa,xs,hh,rl⟩:=rp0;subst ea;refine gB R w λm d v F' H' w' s R' rp fr=>?_;cases m with
     | fr=>exact (show False from w').elim
     | bo=>exact (show False from w').elim
     | fz =>
     dsimp only at w';refine ⟨.ref a,ev0,?_⟩;refine gB R' w' λm2 kd u F2 H2 w2 s2 R2 rp2 _=>?_;cases kd with
     | int k =>
      dsimp only at w2;cases ej:ixN ds.length k with
      | none=>rw[ej] at w2;exact w2.elim
      | some j =>
       rw[ej] at w2;dsimp only at w2;have hh2:H2 a=some (.lst xs):=s2.same _ _ (s.same _ _ hh);cases rp2.int;refine ⟨a,xs,k,j,rfl,rfl,hh2,by rw[rl.length];exact ej,?_⟩
       exact w2 σ F2 _ (aG.refl _) (R2.mut e0 ev0 ⟨_,bQ,aE.set (rl.mono (s.fsame.trans s2.fsame) _ _) (aD.mono s2.fsame _ _ rp)⟩)
     | _=>exact (show False from w2).elim
    | _=>unfold gK at w;rw[e0] at w;exact w.elim
end
section
open PySem.SeqAt
open PySem.AutoSeq1 (wpAny_loadPart')
open PySem.MeetsSeq PySem.MeetsSeq2 PySem.MeetsSeq3
variable {prog:Program}{w:World}{A:Around}{E:VSP}{s:Shared}
end
section
variable {prog:Program}{w:World}{A:Around}{E:VSP}{s:Shared}
end
section
variable {prog:Program}{w:World}{K:Type}[DecidableEq K]{knd:KeyKind prog w K}{A:Around}{E:VSP}{s:Shared}
end
section
variable {C:Cw}{X:Cx}{ga gb:Rho->Res}{ea eb:Expr}{p p1 q1 pos:Pos}
end
end D3
set_option genSizeOfSpec false
set_option genInjectivity false
namespace D3
open PySem PySem.Spec PyProof.Rows L2
inductive KC where | s (y:Str) | i (n:Int) | t (tb:List (Str×Str))
 deriving DecidableEq
def KC.d:KC->D | .s y=>.str y | .i n=>.int n | .t _=>.non
inductive GV where | con (c:KC) | fn (n:Nat) | no | cls
 deriving DecidableEq
inductive Bn where | len | isinstance
 deriving DecidableEq
def Bn.name:Bn->Str
 | .len => "len" | .isinstance => "isinstance"
def Bn.f:Bn->List (Md×D)->Option (Md×D)
 | .len=>hU | .isinstance=>nD
def Bn.id:Bn->String
 | .len => "len" | .isinstance => "isinstance"
inductive Ty where | int | bool | str | tuple | list | dict
 deriving DecidableEq
def Ty.f:Ty->List (Md×D)->Option (Md×D)
 | .tuple=>jX | .list=>jY | .int=>j3 | .str=>lF | .dict=>nS | _=>λ_=>none
def Ty.id:Ty->String
 | .int => "int" | .bool => "bool" | .str => "str" | .tuple => "tuple" | .list => "list" | .dict => "dict"
structure WD where
 Φ:Str->List D->Res
 I:Str->Option (List D->Res)
 cl:List CI
 xt:List ((Str×Str)×Bool)
 xi:List ((Str×Str)×Bool)
def WD.xf(W:WD):Str->Str->Option Bool:=λc x=>W.xt.lookup (c,x)
def WD.xg(W:WD):Str->Str->Option Bool:=λc x=>W.xi.lookup (c,x)
inductive E where
 | var (i:Nat) | non | bl (b:Bool) | int (i:Int) | str (x:Str)
 | glob (x:Str) (c:KC) | ty (t:Ty)
 | bin (op:Operator) (a b:E) | cmp (op:CmpOp) (a b:E)
 | andL (es:List E) | orL (es:List E) | not (a:E) | tru (a:E) | frz (a:E)
 | ix (a b:E) | slice (a:E) (lo hi:Option E)
 | tup (es:List E) | lst (es:List E)
 | call (f:Str) (n:Nat) (es:List E) | bcall (b:Bn) (es:List E)
 | items (a:E) | rng1 (a:E) | enum1 (a:E)
 | comp (elt it:E) (ts:List E) (aB:List Nat) (t:Tg) (n:Nat) | fmt (a:E) | fstr (es:List E)
 | tcall (t:Ty) (es:List E)
 | isx1 (a:E) (n:Str)
 | dlist (a:E) | deed (x:Str) (tb:Tbl) (a:E) | callv (i:Nat) (fs:Fns) (n:Nat) (es:List E)
 | dnew | dix (a b:E) | din (neg:Bool) (a b:E) | deq (neg:Bool) (a b:E)
 | compX (elt it:E) (ts:List E) (aB:List Nat) (t:Tg) (n:Nat)
def noF:Md->D->Md->D->Option (Md×D):=λ_ _ _ _=>none
def bN:Operator->Md->D->Md->D->Option (Md×D)
 | .Add=>orO fAdd nI | .Sub=>fSub | .Mult=>orO fMul pZ | .Mod=>fMod | .FloorDiv=>fDiv | .Pow=>fPow | .BitAnd=>vU | .BitOr=>fBor | .LShift=>fShl | .RShift=>fShr | _=>noF
def a8:CmpOp->Md->D->Md->D->Option (Md×D)
 | .Lt=>orO fLt noK | .LtE=>fLe | .Gt=>fGt | .GtE=>fGe | .Eq=>fEq | .NotEq=>fNe | .In=>orO fIn (jW false) | .NotIn=>orO aFD (jW true) | .Is=>fIs false | .IsNot=>fIs true
mutual
def evE(W:WD):E->Rho->Res
 | .var i,ρ=>cA ρ i
 | .non,_=>.ok .fz .non
 | .bl b,_=>.ok .fz (.bl b)
 | .int i,_=>.ok .fz (.int i)
 | .str x,_=>.ok .fz (.str x)
 | .glob _ c,_=>.ok .fz c.d
 | .ty t,_=>.ok .fz (.ty t.id)
 | .bin op a b,ρ=>op2 (bN op) (evE W a ρ) (evE W b ρ)
 | .cmp op a b,ρ=>op2 (a8 op) (evE W a ρ) (evE W b ρ)
 | .andL es,ρ=>evA W es ρ
 | .orL es,ρ=>dC W es ρ
 | .not a,ρ=>k9 (evE W a ρ)
 | .tru a,ρ=>jQ (evE W a ρ)
 | .frz a,ρ=>aZ (evE W a ρ)
 | .ix a b,ρ=>op2 ixD (evE W a ρ) (evE W b ρ)
 | .slice a lo hi,ρ=>slP (evE W a ρ) (evO W lo) (evO W hi) ρ
 | .tup es,ρ=>fA (bD W es ρ)
 | .lst es,ρ=>dZ (bD W es ρ)
 | .call f n es,ρ=>aX n (W.Φ f) (bD W es ρ)
 | .bcall b es,ρ=>d8 b.f (bD W es ρ)
 | .items a,ρ=>hV (aZ (evE W a ρ))
 | .rng1 a,ρ=>jU (dO (evE W a ρ) (.ok []))
 | .enum1 a,ρ=>nN (dO (aZ (evE W a ρ)) (.ok []))
 | .isx1 a n,ρ=>nR W.xg n (evE W a ρ)
 | .comp elt it ts aB t n,ρ=>dR (evE W it ρ) ρ aB n (aI t) (λρ=>evF W ts ρ) (λρ=>evE W elt ρ)
 | .fmt a,ρ=>nL (evE W a ρ)
 | .fstr es,ρ=>dS Str.empty (evL W es) ρ
 | .tcall t es,ρ=>d8 t.f (bD W es ρ)
 | .dnew,_=>.ok .fr (.dct [])
 | .compX elt it ts aB t n,ρ=>j7 (evE W it ρ) ρ aB n (aI t) (λρ=>evF W ts ρ) (λρ=>evE W elt ρ)
 | .dlist a,ρ=>d8 iZ (dO (evE W a ρ) (.ok []))
 | .deed _ tb a,ρ=>j8 tb (evE W a ρ)
 | .callv i fs n es,ρ=>lM W.Φ fs n (cA ρ i) (bD W es ρ)
 | .dix a b,ρ=>op2 ixK (evE W a ρ) (evE W b ρ)
 | .deq neg a b,ρ=>op2 (eqN neg) (evE W a ρ) (evE W b ρ)
 | .din neg a b,ρ=>op2 (inK neg) (evE W a ρ) (evE W b ρ)
def bD(W:WD):List E->Rho->aW
 | [],_=>.ok []
 | e::es,ρ=>dO (evE W e ρ) (bD W es ρ)
def evA(W:WD):List E->Rho->Res
 | [],_=>.stuck
 | [e],ρ=>evE W e ρ
 | e::es,ρ=>dF (evE W e ρ) (evA W es ρ)
def dC(W:WD):List E->Rho->Res
 | [],_=>.stuck
 | [e],ρ=>evE W e ρ
 | e::es,ρ=>orR (evE W e ρ) (dC W es ρ)
def evF(W:WD):List E->Rho->Res
 | [],_=>.ok .fz (.bl true)
 | e::es,ρ=>dF (evE W e ρ) (evF W es ρ)
def evL(W:WD):List E->List (Rho->Res)
 | []=>[]
 | e::es=>evE W e::evL W es
def evO(W:WD):Option E->Option (Rho->Res)
 | none=>none
 | some e=>some (evE W e)
end
structure MG where
 G:List (Str×GV)
 mk0:List Str
 mki:List (Str×Str×Nat)
 iso:List Str
 xcs:List Str
 xns:List Str
structure MC where
 N:List Str
 sc:Scope
 g:MG
 fn:Bool
 calm:Bool
 rz:Bool
def MC.kind(m:MC)(x:Str):Option NameKind:=m.sc.names.lookup x
def MC.vis(m:MC)(x:Str):Bool:=(m.kind x==some .local||m.kind x==some .cell||m.kind x==some .free)&&x != "__debug__" && x != "__classdict__"
def MC.glob(m:MC)(x:Str)(v:GV):Bool:=m.kind x==some .globalImplicit&&m.g.G.lookup x==some v&&x != "__debug__" && x != "__name__"
def MC.gk(m:MC)(x:Str):Bool:=m.kind x==some .globalImplicit&&x != "__debug__"
def strK(x:Str):Bool:=decide (x.length<=sizeLine)&&PyData.strOk x
def lN:Expr->Bool | .Slice ..=>false | _=>true
def aIB:Expr->Bool | .Tuple ..=>true | _=>false
def eM:Expr->Bool | .Set ..=>false | _=>true
def vV:Expr->Bool | .UnaryOp .Not _ _=>false | .BoolOp ..=>false | .IfExp ..=>false | .Compare ..=>false | _=>true
def MC.sub(m:MC)(scope:Scope)(aC tgN:List Str):MC:={ m with N:=aC++tgN,sc:={ scope with names:=jV scope m.sc },fn:=false,rz:=false }
def MC.loc(m:MC)(i:Nat)(x:Str):Bool:=m.N[i]?==some x&&(m.kind x==some .local||(m.fn&&m.kind x==some .cell))
mutual
def mG(m:MC):Tg->Expr->Bool
 | .nm i,e=>match e with | .Name x _=>m.loc i x | _=>false
 | .tp ts,e=>match e with | .Tuple es _ _=>m.calm&&es.all iA&&mGs m ts es | _=>false
def mGs(m:MC):List Tg->List Expr->Bool
 | [],es=>es.isEmpty
 | t::ts,l=>match l with | e::es=>mG m t e&&mGs m ts es | _=>false
end
def eA:Nat->Expr->List Str
 | _,.Name x _=>[x]
 | n+1,.Tuple es _ _=>es.flatMap (eA n)
 | _,_=>[]
def kA(scope sc:Scope)(N:List Str)(aB:List Nat)(aC tgN:List Str):Bool :=
 scope.names.all (λy=>y.2 != .cell)&&scope.kind == .function&&scope.names.all (λy=>y.2 != .local||scope.names.lookup y.1==some .local) &&
 scope.names.all (λy=>y.2 != .free||sc.names.lookup y.1==some .cell||sc.names.lookup y.1==some .free)&&(aC.map some==aB.map λi=>N[i]?)&&aC.all (λy=>scope.names.contains (y,.free)) &&
 aC.all (λy=>(jV scope sc).lookup y==some .cell||(jV scope sc).lookup y==some .free)&&decide (aC++tgN).Nodup
def gM:KC->Bool | .s y=>strK y | .i _=>true | .t _=>false
structure SX(k:Nat)(W:WD)(m:MC)(C:Cw)(X:Cx):Prop where
 hN:X.N=m.N
 hs:X.env.scope=m.sc
 cm:m.calm=true->X.calm=true
 rm:m.calm=true->cN k X.A
 un:X.A.units+64<cLine
 xo:m.calm=true->XOk (CX1 X.prog X.w) (C.at X) X
 xt:j5 X.K X.mg W.xf
 xi:nQ X.K X.mg W.xg
 xc:∀ c,c∈m.g.xcs->∃ Cc,X.mg c=some (.ref Cc)/\lI X.K Cc
 xn:∀ n,n∈m.g.xns->∃ cv,gH X.mg n cv
 con:∀ x c,m.g.G.lookup x=some (.con c)->match c with | .s y=>∃ t,X.mg x=some (.str y t) | .i n=>∃ t,X.mg x=some (.int n t) | .t tb=>iF X.w X.K X.mg x tb
 no:∀ x,m.g.G.lookup x=some .no->X.mg x=none
 mk0:∀ c,c∈m.g.mk0->MkV0 X.K X.mg c
 mki:∀ c key n,(c,key,n)∈m.g.mki->∀ Φ,W.I key=some Φ->∃ j,j+1<=k/\InV X.prog X.w X.K X.mg X.base (CX1 X.prog X.w) j c n Φ
 iso:∀ c,c∈m.g.iso->IsV X.K X.mg W.cl c
 fl:∀ i f,i∈W.cl->f∈i.flds->FlV X.K i.name f
 mt:∀ c m key n,CI.meth W.cl c m=some (key,n)->MtV X.prog X.w X.K X.mg X.base (CX1 X.prog X.w) k c m n (W.Φ key)
 fn:∀ x n,m.g.G.lookup x=some (.fn n)->FnV X.prog X.w X.K X.mg X.base (CX1 X.prog X.w) k x n (W.Φ x)
 fnn:m.fn=true->∀ x,X.fn x=true
section
variable {k:Nat}{W:WD}{m:MC}{C:Cw}{X:Cx}{x y:Expr}
theorem SX.gl(S:SX k W m C X){z:Str}{v:GV}(h:m.glob z v=true):Gl X z/\m.g.G.lookup z=some v/\(z==("__debug__" : Str))=false/\z ≠ "__name__" := by
 unfold MC.glob MC.kind at h;simp only[aOX,aPQ,aQP] at h;obtain ⟨⟨⟨h1,h2⟩,h3⟩,h4⟩:=h;refine ⟨?_,h2,by simpa using h3,h4⟩
 show X.env.scope.names.lookup z=_;rw[S.hs];exact h1
theorem SX.gk(S:SX k W m C X){z:Str}(h:m.gk z=true):Gl X z/\(z==("__debug__" : Str))=false:=by
 unfold MC.gk MC.kind at h;simp only[aOX,aPQ,aQP] at h;refine ⟨?_,by simpa using h.2⟩
 show X.env.scope.names.lookup z=_;rw[S.hs];exact h.1
theorem SX.vis(S:SX k W m C X){z:Str}(h:m.vis z=true):Vis X.env.scope z/\(z==("__debug__" : Str))=false/\(z==("__classdict__" : Str))=false:=by
 unfold MC.vis MC.kind at h;simp only[aOX,aPH,aPQ,aQP] at h;obtain ⟨⟨h1,h2⟩,h3⟩:=h;refine ⟨?_,by simpa using h2,by simpa using h3⟩
 unfold Vis;rw[S.hs];rcases h1 with (h1 | h1) | h1
 . exact .inl h1
 . exact .inr (.inl h1)
 . exact .inr (.inr h1)
theorem aIC(b:Bn):bootBuiltins b.name=some (.builtin b.id):=by
 cases b
 . exact aFE
 . exact uY
theorem aID(b:Bn){c:Bool}(hc:c=true->X.calm=true)(h:(c||b == .len||b == .isinstance)=true):dP X (.builtin b.id) b.f:=by
 have hc:(b == .len||b == .isinstance)=false->X.calm=true:=λz=>hc (by cases c with | true=>rfl | false=>rw[Bool.false_or] at h;rw[h] at z;cases z)
 cases b
 . exact aEI
 . exact aEK
theorem aIE{f:Value}:dP X f (λ_=>none):=⟨λ_ _ _=>False,λ_ _ _ _ _ _ _ _ _ h=>h.elim,λ_ _ _ _ _ _ _ _ _ e _=>by cases e⟩
theorem aIF(t:Ty):dP X (.type t.id) t.f:=by
 cases t
 . exact aGC
 . exact aIE
 . exact aFV
 . exact aFS
 . exact aFT
 . exact aHX
theorem vW(t:Ty):bootBuiltins (t.id:Str)=some (.type t.id):=by
 cases t
 . exact aFF
 . exact aFG
 . exact aFH
 . exact aFI
 . exact uZ
 . exact aFJ
theorem aIG(op:Operator):(∃ φ,bN op=φ/\OpD C X (binaryOp op) φ)\/bN op=noF:=by
 cases op
 case Add=>exact .inl ⟨_,rfl,o_add.or aFQ⟩
 case Sub=>exact .inl ⟨_,rfl,aDM⟩
 case Mult=>exact .inl ⟨_,rfl,o_mul.or aGD⟩
 case Mod=>exact .inl ⟨_,rfl,aDP⟩
 case FloorDiv=>exact .inl ⟨_,rfl,aDR⟩
 case Pow=>exact .inl ⟨_,rfl,aDS⟩
 case BitAnd=>exact .inl ⟨_,rfl,aH6⟩
 case BitOr=>exact .inl ⟨_,rfl,aH7⟩
 case LShift=>exact .inl ⟨_,rfl,aH8⟩
 case RShift=>exact .inl ⟨_,rfl,aH9⟩
 all_goals exact .inr rfl
theorem vX{neg:Bool}:IsB (inK neg):=λm x n y k d e=>by
 unfold inK at e;split at e
 . cases e;exact ⟨_,rfl,rfl⟩
 . cases e
theorem vY{neg:Bool}:IsB (eqN neg):=λm x n y k d e=>by
 unfold eqN at e;split at e
 . rename_i ka kb;cases eh:eL kb ka with
   | none=>rw[eh] at e;cases e
   | some r=>rw[eh] at e;cases e;exact ⟨_,rfl,rfl⟩
 . cases e
theorem qG:IsB noK:=λ_ _ _ _ _ _ z=>by cases z
theorem aIH(op:CmpOp)(hu:X.A.units+64<cLine):(OpD C X (compareOp op) (a8 op)/\IsB (a8 op))\/a8 op=noF:=by
 cases op
 case Lt=>exact .inl ⟨aDT.or pO,lE nH qG⟩
 case LtE=>exact .inl ⟨aDU,nH⟩
 case Gt=>exact .inl ⟨aDV,nH⟩
 case GtE=>exact .inl ⟨aDW,nH⟩
 case Eq=>exact .inl ⟨o_eq hu,lE uX qG⟩
 case NotEq=>exact .inl ⟨o_ne hu,lE uX qG⟩
 case In=>exact .inl ⟨aDY.or (u5 aCU),lE uW u6⟩
 case NotIn=>exact .inl ⟨aDZ.or (u5 aCV),lE uW u6⟩
 case Is=>exact .inl ⟨aFM,u4⟩
 case IsNot=>exact .inl ⟨aFN,u4⟩
theorem vZ{f:Value->Value->Sem Value}:OpD C X f noF:=⟨λ_ _ _ _=>False,λ_ _ _ _ _ _ _ _ _ _ _ _ h=>h.elim,λ_ _ _ _ _ _ _ _ _ _ _ _ _ _ e _=>by cases e⟩
theorem aII(op:Operator):OpD C X (binaryOp op) (bN op):=by
 rcases aIG (C:=C) (X:=X) op with ⟨φ,e,h⟩ | e
 . rw[e];exact h
 . rw[e];exact vZ
theorem qH(op:CmpOp)(hu:X.A.units+64<cLine):OpD C X (compareOp op) (a8 op)/\IsB (a8 op):=by
 rcases aIH (C:=C) op hu with h | e
 . exact h
 . rw[e];exact ⟨vZ,λ_ _ _ _ _ _ z=>by cases z⟩
theorem gN(op:CmpOp){e:Expr}(h:eM e=true):behindInMarks op e=false:=by cases e <;> first | rfl | cases h
theorem nV{e:Expr}{env:Env}(h:eM e=true):∀ v,foldedSetIterable e env v=pure v:=by intro v;cases e <;> first | rfl | cases h
theorem v5{e:Expr}(h:lN e=true):m5 e:=by intro o i;cases e <;> first | rfl | cases h
theorem noSl{e:Expr}(h:lN e=true):pJ e:=by intro o i;cases e <;> first | rfl | cases h
theorem aIJ{e:Expr}{env:Env}(h:vV e=true):∀ whole,isTrue e env whole=(do let v <- whole;standAt e.pos;holding [v] (truthy v)):=by
 intro whole;cases e
 case UnaryOp op _ _=>cases op <;> first | rfl | cases h
 all_goals first | rfl | cases h
theorem SX.sub(S:SX k W m C X){scope:Scope}{aC tgN:List Str}(cl:List (Str×Addr))(A:Addr)(fp:List Addr)(s3:Shared)(H3:Hp):SX k W (m.sub scope aC tgN) C.nox (aQ X scope (aC++tgN) cl A fp s3 H3):=by
 refine ⟨rfl,?_,S.cm,S.rm,S.un,λ_ aA σ H s e s' I h=>?_,S.xt,S.xi,S.xc,S.xn,S.con,S.no,S.mk0,S.mki,S.iso,S.fl,S.mt,S.fn,λz=>by cases z⟩
 rotate_left
 . obtain ⟨_,_,_,_,_,_,_,_,_,_,_,_,z⟩:=h;exact z.elim
 show (compEnvC scope cl A X.env).scope=_;unfold MC.sub;rw[<- S.hs];rfl
theorem SX.subX(S:SX k W m C X){scope:Scope}{aC tgN:List Str}{σ:L2.St}{cl:List (Str×Addr)}{A:Addr}{fp:List Addr}{s3:Shared}{H3:Hp}{XE:VSP}(xo:XOk (CX1 X.prog X.w) ((C.at X).on σ) (gJ X scope (aC++tgN) cl A fp s3 H3 XE)):SX k W (m.sub scope aC tgN) ((C.at X).on σ) (gJ X scope (aC++tgN) cl A fp s3 H3 XE):=by
 refine ⟨rfl,?_,S.cm,S.rm,S.un,λ_=>xo,S.xt,S.xi,S.xc,S.xn,S.con,S.no,S.mk0,S.mki,S.iso,S.fl,S.mt,S.fn,λz=>by cases z⟩
 show (compEnvC scope cl A X.env).scope=_;unfold MC.sub;rw[<- S.hs];rfl
theorem SX.loc(S:SX k W m C X){i:Nat}{z:Str}(h:m.loc i z=true):X.N[i]? = some z/\L2.Loc X.env.scope z/\(X.fn z=true\/X.env.scope.names.lookup z=some .local):=by
 unfold MC.loc MC.kind at h;simp only[aOX,aPH,aPQ] at h;refine ⟨by rw[S.hN];exact h.1,?_,?_⟩
 . unfold L2.Loc;rw[S.hs];rcases h.2 with q | q
   . exact .inl q
   . exact .inr q.2
 . rw[S.hs];rcases h.2 with q | q
   . exact .inr q
   . exact .inl (S.fnn q.1 z)
mutual
theorem sG(S:SX k W m C X)(hN:m.N.Nodup):∀ (t:Tg) {e:Expr},mG m t e=true->PGw X e t
 | .nm i,e,h=>by
  simp only[mG] at h;split at h
  . obtain ⟨a,b,c⟩:=S.loc h;exact aF1 (by rw[S.hN];exact hN) a b c
  . cases h
 | .tp ts,e,h=>by
  simp only[mG] at h;split at h
  . rw[aOX,aOX,aQQ] at h;obtain ⟨p,l⟩:=sGs S hN ts h.2 h.1.2;exact aF5 (S.cm h.1.1) p h.1.2 l
  . cases h
theorem sGs(S:SX k W m C X)(hN:m.N.Nodup):∀ (ts:List Tg) {es:List Expr},mGs m ts es=true->(∀ e∈es,iA e=true)->iV X es ts/\es.length=ts.length
 | [],[],h,_=>⟨aF2,rfl⟩
 | [],_::_,h,_=>by simp[mGs] at h
 | t::ts,[],h,_=>by simp[mGs] at h
 | t::ts,e::es,h,hs=>by simp only[mGs,aOX] at h;obtain ⟨p,l⟩:=sGs S hN ts h.2 λx hx=>hs x (mcm hx);exact ⟨aF3 (sG S hN t h.1) p (hs e mcs),by rw[aO8,aO8,l]⟩
end
end
abbrev PE(m:MC)(f:E)(e:Expr):Prop:=∀ {k:Nat} {W:WD} {C:Cw} {X:Cx},SX k W m C X->PV C X e (evE W f)
abbrev PTE(m:MC)(f:E)(e:Expr):Prop:=∀ {k:Nat} {W:WD} {C:Cw} {X:Cx},SX k W m C X->PTv C X e (evE W f)
abbrev PIE(m:MC)(tg:Expr)(f:E)(e:Expr):Prop:=∀ {k:Nat} {W:WD} {C:Cw} {X:Cx},SX k W m C X->PIv C X tg e (evE W f)
inductive dD(m:MC):List E->List Expr->Prop
 | nil:dD m [] []
 | cons {f fs x xs}:cW x=true->PE m f x->dD m fs xs->dD m (f::fs) (x::xs)
inductive eN(m:MC):List E->List Expr->Prop
 | nil:eN m [] []
 | cons {f fs x xs}:PTE m f x->eN m fs xs->eN m (f::fs) (x::xs)
abbrev CkE(m:MC)(f:E)(e:Expr):Type:=Option (PLift (PE m f e))
abbrev CkT(m:MC)(f:E)(e:Expr):Type:=Option (PLift (PTE m f e))
abbrev CkI(m:MC)(tg:Expr)(f:E)(e:Expr):Type:=Option (PLift (PIE m tg f e))
abbrev eB(m:MC)(f:List E)(e:List Expr):Type:=Option (PLift (dD m f e))
abbrev CkF(m:MC)(f:List E)(e:List Expr):Type:=Option (PLift (eN m f e))
abbrev CkO(m:MC)(f:Option E)(e:Option Expr):Type:=Option (PLift (∀ {k:Nat} {W:WD} {C:Cw} {X:Cx},SX k W m C X->POv C X e (evO W f)))
theorem got{P:Prop}:∀ {o:Option (PLift P)},o.isSome=true->P
 | some p,_=>p.down
 | none,h=>nomatch h
section
variable {k:Nat}{W:WD}{m:MC}{C:Cw}{X:Cx}
theorem dD.star:∀ {fs:List E} {es:List Expr},dD m fs es->∀ x∈es,cW x=true
 | _,_,.nil=>λx hx=>by cases hx
 | _,_,.cons s _ q=>λx hx=>by
  rcases aNK.mp hx with rfl | hx
  . exact s
  . exact q.star x hx
theorem dD.es(S:SX k W m C X):∀ {fs:List E} {es:List Expr},dD m fs es->PAv C X es (bD W fs)
 | _,_,.nil=>by simp only[bD];exact nB
 | _,_,.cons s p q=>by simp only[bD];exact nC (p S) (q.es S) (cX s)
theorem dD.l(S:SX k W m C X):∀ {fs:List E} {es:List Expr},dD m fs es->PVL C X es (evL W fs)
 | _,_,.nil=>by simp only[evL];exact .nil
 | _,_,.cons s p q=>by simp only[evL];exact .cons (p S) (q.l S)
theorem dD.a{pos:Pos}(S:SX k W m C X):∀ {fs:List E} {es:List Expr},dD m fs es->PV C X (.BoolOp .And es pos) (evA W fs)
 | _,_,.nil=>λaA s σ H Q I q=>by rw[aV] at q;obtain ⟨ρ,F,R,w⟩:=q;exact w.elim
 | _,_,.cons s p .nil=>by simp only[evA];exact uG (p S)
 | _,_,.cons s p (.cons s' p' q)=>by simp only[evA];exact aD5 (p S) (dD.a S (.cons s' p' q))
theorem dD.o{pos:Pos}(S:SX k W m C X):∀ {fs:List E} {es:List Expr},dD m fs es->PV C X (.BoolOp .Or es pos) (dC W fs)
 | _,_,.nil=>λaA s σ H Q I q=>by rw[aV] at q;obtain ⟨ρ,F,R,w⟩:=q;exact w.elim
 | _,_,.cons s p .nil=>by simp only[dC];exact uG (p S)
 | _,_,.cons s p (.cons s' p' q)=>by simp only[dC];exact aD6 (p S) (dD.o S (.cons s' p' q))
theorem eN.a{pos:Pos}(S:SX k W m C X):∀ {fs:List E} {es:List Expr},eN m fs es->PWv C X (.BoolOp .And es pos) (evA W fs)
 | _,_,.nil=>λwhole aA s σ H Q I q=>by obtain ⟨ρ,F,R,w⟩:=q;exact w.elim
 | _,_,.cons p .nil=>by simp only[evA];exact uE (p S)
 | _,_,.cons p (.cons p' q)=>by simp only[evA];exact aD3 (p S) (eN.a S (.cons p' q))
theorem eN.o{pos:Pos}(S:SX k W m C X):∀ {fs:List E} {es:List Expr},eN m fs es->PWv C X (.BoolOp .Or es pos) (dC W fs)
 | _,_,.nil=>λwhole aA s σ H Q I q=>by obtain ⟨ρ,F,R,w⟩:=q;exact w.elim
 | _,_,.cons p .nil=>by simp only[dC];exact uE (p S)
 | _,_,.cons p (.cons p' q)=>by simp only[dC];exact aD4 (p S) (eN.o S (.cons p' q))
theorem eN.f(S:SX k W m C X):∀ {fs:List E} {es:List Expr},eN m fs es->cQ X es (tT (C.at X) (evF W fs))
 | _,_,.nil=>by
  have:evF W []=λ_=>.ok .fz (.bl true):=by funext ρ;simp only[evF]
  rw[this];exact aE7
 | f::fs,_,.cons p q=>by
  have:evF W (f::fs)=λρ=>dF (evE W f ρ) (evF W fs ρ):=by funext ρ;simp only[evF]
  rw[this];exact aE8 (p S) (q.f S)
section
variable {fs:List E}{es:List Expr}{r:eB m fs es}{t:CkF m fs es}{pos:Pos}
theorem gSt(h:r.isSome=true):∀ x∈es,cW x=true:=(got h).star
theorem gEs(h:r.isSome=true)(S:SX k W m C X):PAv C X es (bD W fs):=(got h).es S
theorem gL(h:r.isSome=true)(S:SX k W m C X):PVL C X es (evL W fs):=(got h).l S
theorem gA(h:r.isSome=true)(S:SX k W m C X):PV C X (.BoolOp .And es pos) (evA W fs):=(got h).a S
theorem gOr(h:r.isSome=true)(S:SX k W m C X):PV C X (.BoolOp .Or es pos) (dC W fs):=(got h).o S
theorem gWA(h:t.isSome=true)(S:SX k W m C X):PWv C X (.BoolOp .And es pos) (evA W fs):=(got h).a S
theorem gWO(h:t.isSome=true)(S:SX k W m C X):PWv C X (.BoolOp .Or es pos) (dC W fs):=(got h).o S
theorem gF(h:t.isSome=true)(S:SX k W m C X):cQ X es (tT (C.at X) (evF W fs)):=(got h).f S
end
end
noncomputable def aIK{m:MC}{a e}(r1:CkE m a e):CkE m (.frz a) e:=if h:r1.isSome=true then some ⟨λS=>fN (got h S)⟩ else none
noncomputable def aIL {m : MC} {a e} (r1 : CkE m a e) : CkT m (.tru a) e := if h : (vV e && r1.isSome) = true then some ⟨fun {k} {W} {C} {X} S => by
    simp only[aOX] at h;exact aD1 (got h.2 S) (aIJ h.1)⟩ else none
noncomputable def aIM{m:MC}{tg a e}(r1:CkE m a e):CkI m tg (.items a) e:=if h:r1.isSome=true then some ⟨λS=>aEY (got h S)⟩ else none
noncomputable def aIN {m : MC} {i} {x} {p1} : CkE m (.var i) (.Name x p1) := if h : (m.N[i]? == some x && m.vis x) = true then some ⟨fun {k} {W} {C} {X} S => by
    simp only[aOX,aPQ] at h;obtain ⟨h1,h2,h3⟩:=S.vis h.2
    exact aDH i (jF (by rw[S.hN];exact h.1) h1 h2 h3)⟩ else none
noncomputable def aIO {m : MC} {y} {c} {x} {p1} : CkE m (.glob y c) (.Name x p1) := if h : (x == y && m.glob x (.con c) && gM c) = true then some ⟨fun {k} {W} {C} {X} S => by
    simp only[aOX,aPQ] at h;obtain ⟨⟨rfl,h1⟩,h2⟩:=h;obtain ⟨g,l,hd,hn⟩:=S.gl h1;have:=S.con _ _ l;cases c with
    | s y=>obtain ⟨t,ht⟩:=this;exact aEL g ht h2 hd
    | i n=>obtain ⟨t,ht⟩:=this;exact aEM g ht hd
    | t tb=>cases h2⟩ else none
noncomputable def kE_ty {m : MC} {t} {x} {p1} : CkE m (.ty t) (.Name x p1) := if h : (x == (t.id : Str) && m.glob x .no) = true then some ⟨fun {k} {W} {C} {X} S => by
    simp only[aOX,aPQ] at h;obtain ⟨rfl,h1⟩:=h;obtain ⟨g,l,hd,hn⟩:=S.gl h1;exact pv_ty g (S.no _ l) (vW t) hn hd⟩ else none
noncomputable def aIP {m : MC} {p0} {p1} : CkE m (.non) (.Constant .none p0 p1) := if h : (true) = true then some ⟨fun {k} {W} {C} {X} S => by
    exact aDJ⟩ else none
noncomputable def kE_bl {m : MC} {c} {b} {p1} {p2} : CkE m (.bl c) (.Constant (.bool b) p1 p2) := if h : (b == c) = true then some ⟨fun {k} {W} {C} {X} S => by
    simp only[aPQ] at h;subst h;exact pv_bl⟩ else none
noncomputable def aIQ {m : MC} {c} {b} {p1} {p2} : CkE m (.int c) (.Constant (.int b) p1 p2) := if h : (b == c) = true then some ⟨fun {k} {W} {C} {X} S => by
    simp only[aPQ] at h;subst h;exact aDI⟩ else none
noncomputable def aIR {m : MC} {c} {b} {p1} {p2} : CkE m (.str c) (.Constant (.str b) p1 p2) := if h : (b == c && strK b) = true then some ⟨fun {k} {W} {C} {X} S => by
    simp only[aOX,aPQ] at h;obtain ⟨rfl,h⟩:=h;exact aDK h⟩ else none
noncomputable def aIS {m : MC} {op} {a} {b} {x} {o} {y} {p3} (r1 : CkE m a x) (r2 : CkE m b y) : CkE m (.bin op a b) (.BinOp x o y p3) := if h : (o == op && (r1.isSome && r2.isSome)) = true then some ⟨fun {k} {W} {C} {X} S => by
    simp only[aOX,aPQ] at h;obtain ⟨rfl,h1,h2⟩:=h;exact pv_op (aII _) (got h1 S) (got h2 S)⟩ else none
noncomputable def aIT {m : MC} {op} {a} {b} {x} {o} {y} {p3} (r1 : CkE m a x) (r2 : CkE m b y) : CkE m (.cmp op a b) (.Compare x [o] [y] p3) := if h : (o == op && eM y && (r1.isSome && r2.isSome)) = true then some ⟨fun {k} {W} {C} {X} S => by
    simp only[aOX,aPQ] at h;obtain ⟨⟨rfl,hs⟩,h1,h2⟩:=h;exact k7 (qH _ S.un).1 (got h1 S) (got h2 S) (gN _ hs)⟩ else none
noncomputable def aIU {m : MC} {es} {xs} {p1} (r1 : eB m es xs) : CkE m (.andL es) (.BoolOp .And xs p1) := if h : (r1.isSome) = true then some ⟨fun {k} {W} {C} {X} S => by
    exact gA h S⟩ else none
noncomputable def aIV {m : MC} {es} {xs} {p1} (r1 : eB m es xs) : CkE m (.orL es) (.BoolOp .Or xs p1) := if h : (r1.isSome) = true then some ⟨fun {k} {W} {C} {X} S => by
    exact gOr h S⟩ else none
noncomputable def aIW {m : MC} {a} {x} {p1} (r1 : CkE m a x) : CkE m (.not a) (.UnaryOp .Not x p1) := if h : (r1.isSome) = true then some ⟨fun {k} {W} {C} {X} S => by
    exact aD7 (got h S)⟩ else none
noncomputable def aIX {m : MC} {a} {l} {u} {x} {lo} {hi} {p3} {p4} (r1 : CkE m a x) (r2 : CkO m l lo) (r3 : CkO m u hi) : CkE m (.slice a l u) (.Subscript x (.Slice lo hi none p3) p4) := if h : (r1.isSome && (r2.isSome && r3.isSome)) = true then some ⟨fun {k} {W} {C} {X} S => by
    simp only[aOX] at h;obtain ⟨h0,h1,h2⟩:=h;exact aHU (got h0 S) (got h1 S) (got h2 S)⟩ else none
noncomputable def kE_ix {m : MC} {a} {b} {x} {y} {p2} (r1 : CkE m a x) (r2 : CkE m b y) : CkE m (.ix a b) (.Subscript x y p2) := if h : (lN y && (r1.isSome && r2.isSome)) = true then some ⟨fun {k} {W} {C} {X} S => by
    simp only[aOX] at h;obtain ⟨h0,h1,h2⟩:=h;exact pv_ix (got h1 S) (got h2 S) (v5 h0)⟩ else none
noncomputable def aIY {m : MC} {es} {es0} {p1} {p2} (r1 : eB m es es0) : CkE m (.tup es) (.Tuple es0 p1 p2) := if h : (r1.isSome) = true then some ⟨fun {k} {W} {C} {X} S => by
    exact aEF (gEs h S)⟩ else none
noncomputable def aIZ {m : MC} {es} {es0} {p1} (r1 : eB m es es0) : CkE m (.lst es) (.List es0 p1) := if h : (r1.isSome) = true then some ⟨fun {k} {W} {C} {X} S => by
    exact aEG (gEs h S)⟩ else none
noncomputable def aI0 {m : MC} {g} {n} {es} {f} {p} {x} {xs} {cp} (r1 : eB m es (x :: xs)) : CkE m (.call g n es) (.Call (.Name f p) (x :: xs) [] cp) := if h : (m.calm && f == g && m.glob f (.fn n) && r1.isSome) = true then some ⟨fun {k} {W} {C} {X} S => by
    simp only[aOX,aPQ] at h;obtain ⟨⟨⟨hq,rfl⟩,h1⟩,h2⟩:=h;obtain ⟨gl,l,hd,hn⟩:=S.gl h1;have st:=gSt h2;exact aFB (S.fn _ _ l) (S.rm hq) (S.xo hq) gl (gEs h2 S) hd (cX (st x mcs)) (iU _ _ λy hy=>st y (mcm hy))⟩ else none
noncomputable def aI1 {m : MC} {b} {es} {f} {p} {x} {xs} {cp} (r1 : eB m es (x :: xs)) : CkE m (.bcall b es) (.Call (.Name f p) (x :: xs) [] cp) := if h : ((m.calm || b == .len || b == .isinstance) && f == b.name && m.glob f .no && r1.isSome) = true then some ⟨fun {k} {W} {C} {X} S => by
    rw[aOX,aOX,aOX] at h;obtain ⟨⟨⟨hq,hz⟩,h1⟩,h2⟩:=h;cases (aPQ.mp hz);obtain ⟨gl,l,hd,hn⟩:=S.gl h1;have st:=gSt h2;exact aEH (aID b S.cm hq) gl (S.no _ l) (aIC b) (gEs h2 S) hn hd (cX (st x mcs)) (iU _ _ λy hy=>st y (mcm hy))⟩ else none
noncomputable def aI2 {m : MC} {t} {es} {f} {p1} {x} {xs} {p4} (r1 : eB m es (x :: xs)) : CkE m (.tcall t es) (.Call (.Name f p1) (x :: xs) [] p4) := if h : (f == (t.id : Str) && m.glob f .no && r1.isSome) = true then some ⟨fun {k} {W} {C} {X} S => by
    simp only[aOX,aPQ] at h;obtain ⟨⟨rfl,h1⟩,h2⟩:=h;obtain ⟨gl,l,hd,hn⟩:=S.gl h1;exact u8 (aIF t) gl (S.no _ l) (vW t) (gEs h2 S) hn hd (gSt h2)⟩ else none
noncomputable def aI3 {m : MC} {p0} : CkE m (.dnew) (.Dict [] [] p0) := if h : (true) = true then some ⟨fun {k} {W} {C} {X} S => by
    exact aHV⟩ else none
noncomputable def aI4 {m : MC} {a} {f} {p1} {x} {p3} (r1 : CkE m a x) : CkE m (.dlist a) (.Call (.Name f p1) [x] [] p3) := if h : (m.calm && f == "list" && m.glob f .no && cW x && r1.isSome) = true then some ⟨fun {k} {W} {C} {X} S => by
    simp only[aOX,aPQ] at h;obtain ⟨⟨⟨⟨hq,rfl⟩,h1⟩,hs⟩,h2⟩:=h;obtain ⟨gl,l,hd,hn⟩:=S.gl h1;exact u8 (aH4 (S.cm hq)) gl (S.no _ l) uZ (nC (got h2 S) nB (cX hs)) hn hd (λy hy=>by rw[aP8] at hy;subst hy;exact hs)⟩ else none
noncomputable def aI5 {m : MC} {y} {tb} {a} {x} {p1} {b} {p3} (r1 : CkE m a b) : CkE m (.deed y tb a) (.Subscript (.Name x p1) b p3) := if h : (x == y && m.glob x (.con (.t tb)) && lN b && r1.isSome) = true then some ⟨fun {k} {W} {C} {X} S => by
    simp only[aOX,aPQ] at h;obtain ⟨⟨⟨rfl,h1⟩,h2⟩,h3⟩:=h;obtain ⟨gl,l,hd,hn⟩:=S.gl h1;exact aH1 (S.con _ _ l) gl (got h3 S) (noSl h2) hd⟩ else none
noncomputable def aI6 {m : MC} {i} {fs} {n} {es} {f} {p} {x} {xs} {cp} (r1 : eB m es (x :: xs)) : CkE m (.callv i fs n es) (.Call (.Name f p) (x :: xs) [] cp) := if h : (m.calm && m.N[i]? == some f && m.vis f && fs.all (fun g => m.g.G.lookup g == some (.fn n)) && r1.isSome) = true then some ⟨fun {k} {W} {C} {X} S => by
    simp only[aOX,aPQ,aQQ] at h;obtain ⟨⟨⟨⟨hq,h1⟩,h2⟩,h3⟩,h4⟩:=h;obtain ⟨v1,v2,v3⟩:=S.vis h2;have st:=gSt h4
    exact aH2 (λg hg=>S.fn g n (h3 g (aQR.mp hg))) (S.rm hq) (S.xo hq) (jF (by rw[S.hN];exact h1) v1 v2 v3) (gEs h4 S) (cX (st x mcs)) (iU _ _ λy hy=>st y (mcm hy))⟩ else none
noncomputable def aI7 {m : MC} {neg} {a} {b} {x} {o} {y} {p3} (r1 : CkE m a x) (r2 : CkE m b y) : CkE m (.deq neg a b) (.Compare x [o] [y] p3) := if h : (o == (if neg then .NotEq else .Eq) && eM y && (r1.isSome && r2.isSome)) = true then some ⟨fun {k} {W} {C} {X} S => by
    simp only[aOX,aPQ] at h;obtain ⟨⟨ho,hs⟩,h1,h2⟩:=h;cases neg with
    | false=>cases (show _=CmpOp.Eq from ho);exact k7 (vQ S.un) (got h1 S) (got h2 S) (gN _ hs)
    | true=>cases (show _=CmpOp.NotEq from ho);exact k7 (vR S.un) (got h1 S) (got h2 S) (gN _ hs)⟩ else none
noncomputable def aI8 {m : MC} {a} {b} {x} {y} {p2} (r1 : CkE m a x) (r2 : CkE m b y) : CkE m (.dix a b) (.Subscript x y p2) := if h : (lN y && (r1.isSome && r2.isSome)) = true then some ⟨fun {k} {W} {C} {X} S => by
    simp only[aOX] at h;obtain ⟨h0,h1,h2⟩:=h
    exact aHZ (aQS (aQT (by decide:1<=64) _) S.un) (got h1 S) (got h2 S) (v5 h0)⟩ else none
noncomputable def aI9 {m : MC} {neg} {a} {b} {x} {o} {y} {p3} (r1 : CkE m a x) (r2 : CkE m b y) : CkE m (.din neg a b) (.Compare x [o] [y] p3) := if h : (o == (if neg then .NotIn else .In) && eM y && (r1.isSome && r2.isSome)) = true then some ⟨fun {k} {W} {C} {X} S => by
    simp only[aOX,aPQ] at h;obtain ⟨⟨ho,hs⟩,h1,h2⟩:=h
    exact aH0 ho (aQS (aQT (by decide:1<=64) _) S.un) (got h1 S) (got h2 S) (gN _ hs)⟩ else none
noncomputable def aJA {m : MC} {a} {n} {f} {p1} {x} {d} {p4} {p5} (r1 : CkE m a x) : CkE m (.isx1 a n) (.Call (.Name f p1) [x, .Name d p4] [] p5) := if h : (f == "isinstance" && m.glob f .no && d == n && m.gk d && m.g.xns.contains d && cW x && r1.isSome) = true then some ⟨fun {k} {W} {C} {X} S => by
    simp only[aOX,aPQ,aQR] at h;obtain ⟨⟨⟨⟨⟨⟨rfl,h1⟩,rfl⟩,h2⟩,h3⟩,h4⟩,h5⟩:=h;obtain ⟨gl,l,hd,hn⟩:=S.gl h1;obtain ⟨gl2,hd2⟩:=S.gk h2;exact aHD S.xi (S.xn _ h3) gl (S.no _ l) gl2 hd2 (got h5 S) h4⟩ else none
noncomputable def aJB {m : MC} {el} {it} {ts} {aB} {t} {n} {elt} {tg} {aH} {ifs} {scope} {cp} (r1 : CkI m tg it aH) (r2 : CkE (m.sub scope (aB.filterMap fun i => m.N[i]?) (eA 4 tg)) el elt) (r3 : CkF (m.sub scope (aB.filterMap fun i => m.N[i]?) (eA 4 tg)) ts ifs) : CkE m (.comp el it ts aB t n) (.ListComp elt [⟨tg, aH, ifs, 0⟩] scope cp) := if h : (m.calm && kA scope m.sc m.N aB (aB.filterMap fun i => m.N[i]?) (eA 4 tg) && eM aH && decide ((eA 4 tg).length = n) && (dG t).all (fun j => decide (aB.length ≤ j)) && mG (m.sub scope (aB.filterMap fun i => m.N[i]?) (eA 4 tg)) t tg && (r1.isSome && (r2.isSome && r3.isSome))) = true then some ⟨fun {k} {W} {C} {X} S => by
    simp only[aOX,aPF,aQQ] at h;obtain ⟨⟨⟨⟨⟨⟨hq,ho⟩,hn⟩,hl⟩,hs⟩,hg⟩,h1,h2,h3⟩:=h;unfold kA at ho;simp only[aOX,aQQ,aPH,aQP,aPQ,aPF,aQR] at ho;obtain ⟨⟨⟨⟨⟨⟨⟨g1,g2⟩,g3⟩,g4⟩,g5⟩,g6⟩,g7⟩,g8⟩:=ho;have er:(relabel scope X.env).names=jV scope m.sc:=by rw[<- S.hs];rfl
    have := aF8 (pos := cp) (tgN := eA 4 tg) (t := t) (S.cm hq) (got h1 S) g1 g2 (fun y hy e => (g3 y hy).resolve_left fun z => z e) (fun y hy e => by
        have:=g4 y hy;show X.env.scope.names.lookup y.1=_\/X.env.scope.names.lookup y.1=_;rw[S.hs];rcases this with (z | z) | z
        . exact absurd e z
        . exact .inl z
        . exact .inr z) (by rw[S.hN];exact g5) g6 (λy hy=>by rw[er];exact g7 y hy) (λj hj=>hs j hj) (λcl A fp s3 H3=>sG (S.sub cl A fp s3 H3) g8 t hg)
        (λcl A fp s3 H3=>gF h3 (S.sub cl A fp s3 H3)) (λcl A fp s3 H3=>got h2 (S.sub cl A fp s3 H3)) (nV hn)
    rw[hl] at this;exact this⟩ else none
noncomputable def aJC {m : MC} {a} {x} {k} {p2} (r1 : CkE m a x) : CkE m (.fmt a) (.FormattedValue x k none p2) := if h : (k == -1 && r1.isSome) = true then some ⟨fun {k} {W} {C} {X} S => by
    simp only[aOX,aPQ] at h;obtain ⟨rfl,h⟩:=h;exact aGA (got h S)⟩ else none
noncomputable def aJD {m : MC} {es} {x} {y} {xs} {p3} (r1 : eB m es (x :: y :: xs)) : CkE m (.fstr es) (.JoinedStr (x :: y :: xs) p3) := if h : (r1.isSome) = true then some ⟨fun {k} {W} {C} {X} S => by
    exact aGB (gL h S)⟩ else none
noncomputable def aJE {m : MC} {neg} {a} {b} {x} {o} {y} {p3} (r1 : CkE m a x) (r2 : CkE m b y) : CkT m (.deq neg a b) (.Compare x [o] [y] p3) := if h : (o == (if neg then .NotEq else .Eq) && eM y && (r1.isSome && r2.isSome)) = true then some ⟨fun {k} {W} {C} {X} S => by
    simp only[aOX,aPQ] at h;obtain ⟨⟨ho,hs⟩,h1,h2⟩:=h;cases neg with
    | false=>cases (show _=CmpOp.Eq from ho);exact k8 (vQ S.un) vY (got h1 S) (got h2 S) (gN _ hs)
    | true=>cases (show _=CmpOp.NotEq from ho);exact k8 (vR S.un) vY (got h1 S) (got h2 S) (gN _ hs)⟩ else none
noncomputable def aJF {m : MC} {neg} {a} {b} {x} {o} {y} {p3} (r1 : CkE m a x) (r2 : CkE m b y) : CkT m (.din neg a b) (.Compare x [o] [y] p3) := if h : (o == (if neg then .NotIn else .In) && eM y && (r1.isSome && r2.isSome)) = true then some ⟨fun {k} {W} {C} {X} S => by
    simp only[aOX,aPQ] at h;obtain ⟨⟨ho,hs⟩,h1,h2⟩:=h;have hu:X.A.units+1<cLine:=aQS (aQT (by decide:1<=64) _) S.un
    cases neg with
    | false=>cases (show _=CmpOp.In from ho);exact k8 (vM hu) vX (got h1 S) (got h2 S) (gN _ hs)
    | true=>cases (show _=CmpOp.NotIn from ho);exact k8 (vN hu) vX (got h1 S) (got h2 S) (gN _ hs)⟩ else none
noncomputable def aJG {m : MC} {op} {a} {b} {x} {o} {y} {p3} (r1 : CkE m a x) (r2 : CkE m b y) : CkT m (.cmp op a b) (.Compare x [o] [y] p3) := if h : (o == op && eM y && (r1.isSome && r2.isSome)) = true then some ⟨fun {k} {W} {C} {X} S => by
    simp only[aOX,aPQ] at h;obtain ⟨⟨rfl,hs⟩,h1,h2⟩:=h;exact k8 (qH _ S.un).1 (qH (C:=C) _ S.un).2 (got h1 S) (got h2 S) (gN _ hs)⟩ else none
noncomputable def aJH {m : MC} {es} {xs} {p1} (r1 : CkF m es xs) : CkT m (.andL es) (.BoolOp .And xs p1) := if h : (r1.isSome) = true then some ⟨fun {k} {W} {C} {X} S => by
    exact pt_w (gWA h S)⟩ else none
noncomputable def aJI {m : MC} {es} {xs} {p1} (r1 : CkF m es xs) : CkT m (.orL es) (.BoolOp .Or xs p1) := if h : (r1.isSome) = true then some ⟨fun {k} {W} {C} {X} S => by
    exact pt_w (gWO h S)⟩ else none
noncomputable def aJJ {m : MC} {a} {x} {p1} (r1 : CkT m a x) : CkT m (.not a) (.UnaryOp .Not x p1) := if h : (r1.isSome) = true then some ⟨fun {k} {W} {C} {X} S => by
    exact aD2 (got h S)⟩ else none
noncomputable def aJK {m : MC} {tg0} {a} {f} {p1} {x} {p3} (r1 : CkE m a x) : CkI m tg0 (.rng1 a) (.Call (.Name f p1) [x] [] p3) := if h : (f == "range" && m.glob f .no && cW x && r1.isSome) = true then some ⟨fun {k} {W} {C} {X} S => by
    simp only[aOX,aPQ] at h;obtain ⟨⟨⟨rfl,h1⟩,h2⟩,h3⟩:=h;obtain ⟨gl,l,hd,hn⟩:=S.gl h1;exact aE0 gl (S.no _ l) (nC (got h3 S) nB (cX h2)) (cX h2)⟩ else none
noncomputable def aJL {m : MC} {tg0} {a} {f} {p1} {x} {p3} (r1 : CkE m a x) : CkI m tg0 (.enum1 a) (.Call (.Name f p1) [x] [] p3) := if h : (f == "enumerate" && aIB tg0 && m.glob f .no && cW x && r1.isSome) = true then some ⟨fun {k} {W} {C} {X} S => by
    simp only[aOX,aPQ] at h;obtain ⟨⟨⟨⟨rfl,ht⟩,h1⟩,h2⟩,h3⟩:=h;obtain ⟨gl,l,hd,hn⟩:=S.gl h1;cases tg0 <;> first
     | (cases ht;done)
     | exact aGO gl (S.no _ l) (nC (fN (got h3 S)) nB (cX h2)) (cX h2)⟩ else none
noncomputable def kEs {m : MC} {f fs x xs} (r1 : CkE m f x) (r2 : eB m fs xs) : eB m (f :: fs) (x :: xs) := if h : (cW x && r1.isSome && r2.isSome) = true then some ⟨by
    simp only[aOX] at h;exact .cons h.1.1 (@got _ r1 h.1.2) (got h.2)⟩ else none
noncomputable def kO{m:MC}{f x}(r1:CkE m f x):CkO m (some f) (some x):=if h:r1.isSome=true then some ⟨λS=>by simp only[evO];exact got h S⟩ else none
noncomputable def kF {m : MC} {f fs x xs} (r1 : CkT m f x) (r2 : CkF m fs xs) : CkF m (f :: fs) (x :: xs) := if h : (r1.isSome && r2.isSome) = true then some ⟨by
    simp only[aOX] at h;exact .cons (@got _ r1 h.1) (got h.2)⟩ else none
set_option maxHeartbeats 4000000 in
mutual
noncomputable def ckE:(m:MC)->(f:E)->(e:Expr)->CkE m f e
 | m,.frz a,e=>aIK (ckE m a e)
 | m,.var i,e=>match e with | .Name x p1=>aIN | _=>none
 | m,.glob y c,e=>match e with | .Name x p1=>aIO | _=>none
 | m,.ty t,e=>match e with | .Name x p1=>kE_ty | _=>none
 | m,.non,e=>match e with | .Constant .none p0 p1=>aIP | _=>none
 | m,.bl c,e=>match e with | .Constant (.bool b) p1 p2=>kE_bl | _=>none
 | m,.int c,e=>match e with | .Constant (.int b) p1 p2=>aIQ | _=>none
 | m,.str c,e=>match e with | .Constant (.str b) p1 p2=>aIR | _=>none
 | m,.bin op a b,e=>match e with | .BinOp x o y p3=>aIS (ckE m a x) (ckE m b y) | _=>none
 | m,.cmp op a b,e=>match e with | .Compare x [o] [y] p3=>aIT (ckE m a x) (ckE m b y) | _=>none
 | m,.andL es,e=>match e with | .BoolOp .And xs p1=>aIU (fD m es xs) | _=>none
 | m,.orL es,e=>match e with | .BoolOp .Or xs p1=>aIV (fD m es xs) | _=>none
 | m,.not a,e=>match e with | .UnaryOp .Not x p1=>aIW (ckE m a x) | _=>none
 | m,.slice a l u,e=>match e with | .Subscript x (.Slice lo hi none p3) p4=>aIX (ckE m a x) (ckO m l lo) (ckO m u hi) | _=>none
 | m,.ix a b,e=>match e with | .Subscript x y p2=>kE_ix (ckE m a x) (ckE m b y) | _=>none
 | m,.tup es,e=>match e with | .Tuple es0 p1 p2=>aIY (fD m es es0) | _=>none
 | m,.lst es,e=>match e with | .List es0 p1=>aIZ (fD m es es0) | _=>none
 | m,.call g n es,e=>match e with | .Call (.Name f p) (x::xs) [] cp=>aI0 (fD m es (x::xs)) | _=>none
 | m,.bcall b es,e=>match e with | .Call (.Name f p) (x::xs) [] cp=>aI1 (fD m es (x::xs)) | _=>none
 | m,.tcall t es,e=>match e with | .Call (.Name f p1) (x::xs) [] p4=>aI2 (fD m es (x::xs)) | _=>none
 | m,.dnew,e=>match e with | .Dict [] [] p0=>aI3 | _=>none
 | m,.dlist a,e=>match e with | .Call (.Name f p1) [x] [] p3=>aI4 (ckE m a x) | _=>none
 | m,.deed y tb a,e=>match e with | .Subscript (.Name x p1) b p3=>aI5 (ckE m a b) | _=>none
 | m,.callv i fs n es,e=>match e with | .Call (.Name f p) (x::xs) [] cp=>aI6 (fD m es (x::xs)) | _=>none
 | m,.deq neg a b,e=>match e with | .Compare x [o] [y] p3=>aI7 (ckE m a x) (ckE m b y) | _=>none
 | m,.dix a b,e=>match e with | .Subscript x y p2=>aI8 (ckE m a x) (ckE m b y) | _=>none
 | m,.din neg a b,e=>match e with | .Compare x [o] [y] p3=>aI9 (ckE m a x) (ckE m b y) | _=>none
 | m,.isx1 a n,e=>match e with | .Call (.Name f p1) [x,.Name d p4] [] p5=>aJA (ckE m a x) | _=>none
 | m,.comp el it ts aB t n,e=>match e with | .ListComp elt [⟨tg,aH,ifs,0⟩] scope cp=>aJB (ckI m tg it aH) (ckE (m.sub scope (aB.filterMap λi=>m.N[i]?) (eA 4 tg)) el elt) (ckF (m.sub scope (aB.filterMap λi=>m.N[i]?) (eA 4 tg)) ts ifs) | _=>none
 | _,.compX _ _ _ _ _ _,_=>none
 | m,.fmt a,e=>match e with | .FormattedValue x k none p2=>aJC (ckE m a x) | _=>none
 | m,.fstr es,e=>match e with | .JoinedStr (x::y::xs) p3=>aJD (fD m es (x::y::xs)) | _=>none
 | _,.tru _,_=>none
 | _,.items _,_=>none
 | _,.rng1 _,_=>none
 | _,.enum1 _,_=>none
noncomputable def ckT:(m:MC)->(f:E)->(e:Expr)->CkT m f e
 | m,.tru a,e=>aIL (ckE m a e)
 | m,.deq neg a b,e=>match e with | .Compare x [o] [y] p3=>aJE (ckE m a x) (ckE m b y) | _=>none
 | m,.din neg a b,e=>match e with | .Compare x [o] [y] p3=>aJF (ckE m a x) (ckE m b y) | _=>none
 | m,.cmp op a b,e=>match e with | .Compare x [o] [y] p3=>aJG (ckE m a x) (ckE m b y) | _=>none
 | m,.andL es,e=>match e with | .BoolOp .And xs p1=>aJH (ckF m es xs) | _=>none
 | m,.orL es,e=>match e with | .BoolOp .Or xs p1=>aJI (ckF m es xs) | _=>none
 | m,.not a,e=>match e with | .UnaryOp .Not x p1=>aJJ (ckT m a x) | _=>none
 | _,_,_=>none
noncomputable def ckI:(m:MC)->(tg:Expr)->(f:E)->(e:Expr)->CkI m tg f e
 | m,tg,.items a,e=>aIM (ckE m a e)
 | m,tg0,.rng1 a,e=>match e with | .Call (.Name f p1) [x] [] p3=>aJK (ckE m a x) | _=>none
 | m,tg0,.enum1 a,e=>match e with | .Call (.Name f p1) [x] [] p3=>aJL (ckE m a x) | _=>none
 | _,_,_,_=>none
noncomputable def fD:(m:MC)->(fs:List E)->(es:List Expr)->eB m fs es
 | m,[],es=>match es with | []=>some ⟨.nil⟩ | _=>none
 | m,f::fs,l=>match l with | x::xs=>kEs (ckE m f x) (fD m fs xs) | _=>none
noncomputable def ckO:(m:MC)->(f:Option E)->(e:Option Expr)->CkO m f e
 | m,none,e=>match e with | none=>some ⟨λ_=>True.intro⟩ | _=>none
 | m,some f,l=>match l with | some x=>kO (ckE m f x) | _=>none
noncomputable def ckF:(m:MC)->(fs:List E)->(es:List Expr)->CkF m fs es
 | m,[],es=>match es with | []=>some ⟨.nil⟩ | _=>none
 | m,f::fs,l=>match l with | x::xs=>kF (ckT m f x) (ckF m fs xs) | _=>none
end
noncomputable def mE(m:MC)(f:E)(e:Expr):Bool:=(ckE m f e).isSome
noncomputable def mT(m:MC)(f:E)(e:Expr):Bool:=(ckT m f e).isSome
noncomputable def mI(m:MC)(tg:Expr)(f:E)(e:Expr):Bool:=(ckI m tg f e).isSome
noncomputable def mEs(m:MC)(f:List E)(e:List Expr):Bool:=(fD m f e).isSome
noncomputable def mF(m:MC)(f:List E)(e:List Expr):Bool:=(ckF m f e).isSome
theorem aJM{m:MC}{fs:List E}{es:List Expr}(h:mEs m fs es=true):∀ x∈es,cW x=true:=gSt h
section
variable {k:Nat}{W:WD}
theorem sE(f:E){m:MC}{C:Cw}{X:Cx}{e:Expr}(S:SX k W m C X)(h:mE m f e=true):PV C X e (evE W f):=got h S
theorem sT(f:E){m:MC}{C:Cw}{X:Cx}{e:Expr}(S:SX k W m C X)(h:mT m f e=true):PTv C X e (evE W f):=got h S
theorem sI(f:E){m:MC}{C:Cw}{X:Cx}{tg e:Expr}(S:SX k W m C X)(h:mI m tg f e=true):PIv C X tg e (evE W f):=got h S
theorem sEs(fs:List E){m:MC}{C:Cw}{X:Cx}{es:List Expr}(S:SX k W m C X)(h:mEs m fs es=true):PAv C X es (bD W fs):=gEs h S
theorem sF(fs:List E){m:MC}{C:Cw}{X:Cx}{es:List Expr}(S:SX k W m C X)(h:mF m fs es=true):cQ X es (tT (C.at X) (evF W fs)):=gF h S
end
end D3
set_option genSizeOfSpec false
set_option genInjectivity false
namespace D3
open PySem PySem.Spec PyProof.Rows L2
mutual
inductive S where
 | ret (e:E) | retV (i:Nat) | set (i:Nat) (e:E) | ite (c:E) (a b:List S) | for (it:E) (t:Tg) (body:List S)
 | expr (e:E) | asg (t:Tg) (e:E)
 | rz (c:Str) (es:List E) | tr (b:List S) (hs:List Hn) | app (i:Nat) (e:E) | lput (i:Nat) (k e:E) | setC (i:Nat) (fz:Bool) (e:E) | dput (i:Nat) (k e:E) | frzV (i:Nat)
inductive Hn where
 | mk (c:Str) (i:Option Nat) (b:List S)
end
mutual
noncomputable def evS(W:WD):S->Rho->aF
 | .ret e,ρ=>fO (evE W e ρ) ρ
 | .retV i,ρ=>fP ρ i
 | .set i e,ρ=>dQ ρ i (evE W e ρ)
 | .ite c a b,ρ=>ifS (evE W c ρ) ρ (evB W a ρ) (evB W b ρ)
 | .for it t body,ρ=>iT (evE W it ρ) ρ (aI t) (evB W body)
 | .asg t e,ρ=>iB t ρ (evE W e ρ)
 | .expr e,ρ=>(evE W e ρ).thS ρ λ_ _=>.nx ρ
 | .rz c es,ρ=>rzR c ρ (bD W es ρ)
 | .tr b hs,ρ=>j4 W.xf (eO W hs) (evB W b ρ)
 | .app i e,ρ=>gI ρ i (evE W e ρ)
 | .lput i k e,ρ=>gK ρ i (evE W k ρ) (evE W e ρ)
 | .frzV i,ρ=>j9 ρ i
 | .dput i k e,ρ=>iE ρ i (evE W k ρ) (evE W e ρ)
 | .setC i fz e,ρ=>dQ ρ i (if fz=true then aZ (evE W e ρ) else evE W e ρ)
noncomputable def evH(W:WD):Hn->HX
 | .mk c i b=>⟨c,i,evB W b⟩
noncomputable def eO(W:WD):List Hn->List HX
 | []=>[]
 | h::r=>evH W h::eO W r
noncomputable def evB(W:WD):List S->Rho->aF
 | [],ρ=>.nx ρ
 | s::r,ρ=>(evS W s ρ).thn (evB W r)
end
noncomputable def i3:Expr->Bool | .ListComp ..=>false | .SetComp ..=>false | .DictComp ..=>false | _=>true
noncomputable def mC(m:MC)(elt:Expr)(scope:Scope):E->List Comprehension->Bool
 | .comp el it ts aB t n,gens=>match gens with
  | [⟨tg,aH,ifs,0⟩] =>
   let aC:=aB.filterMap λi=>m.N[i]?
   let tgN:=eA 4 tg
   m.calm&&kA scope m.sc m.N aB aC tgN&&eM aH&&decide (tgN.length=n)&&(dG t).all (λj=>decide (aB.length<=j))&&mG (m.sub scope aC tgN) t tg&&(mI m tg it aH&&(mE (m.sub scope aC tgN) el elt&&mF (m.sub scope aC tgN) ts ifs))
  | _=>false
 | .compX el it ts aB t n,gens=>match gens with
  | [⟨tg,aH,ifs,0⟩] =>
   let aC:=aB.filterMap λi=>m.N[i]?
   let tgN:=eA 4 tg
   m.calm&&m.rz&&kA scope m.sc m.N aB aC tgN&&eM aH&&decide (tgN.length=n)&&(dG t).all (λj=>decide (aB.length<=j))&&mG (m.sub scope aC tgN) t tg&&(mI m tg it aH&&(mE (m.sub scope aC tgN) el elt&&mF (m.sub scope aC tgN) ts ifs))
  | _=>false
 | _,_=>false
noncomputable def v6:Expr->Bool | .Tuple ..=>false | _=>true
theorem lO{e:Expr}{t:Option Expr}{n:Nat}{env:Env}(h:i3 e=true):swapsWith e t n env=pure false:=by cases e <;> first | rfl | cases h
theorem aJN{m:MC}{e:Expr}{x:Str}{p:Pos}{n:Nat}{env:Env}(hs:env.scope=m.sc)(h:(i3 e||m.kind x==some .cell)=true):swapsWith e (some (.Name x p)) n env=pure false:=by
 rw[aPH,aPQ] at h;rcases h with h | h
 . exact lO h
 . have hk:env.kindOf x=some .cell:=by show env.scope.names.lookup x=_;rw[hs];exact h
   unfold swapsWith;have kc:(NameKind.cell==NameKind.local)=false:=by decide
   cases e <;> first | rfl | (simp[hk,kc])
theorem aJO{t:Expr}{e:Expr}{env:Env}(h:v6 e=true):swappedStores [t] e env=pure none:=by
 unfold swappedStores;split
 . rename_i q;split at q
   . cases h
   . cases h
   . cases q
 . rfl
section
variable {k:Nat}{W:WD}{m:MC}{C:Cw}{X:Cx}
structure SB(k:Nat)(W:WD)(m:MC)(C:Cw)(X:Cx):Prop extends SX k W m C X where
 nd:m.N.Nodup
 hp:PassesOwn (model X.prog X.w) X.A X.env X.xe
 ro:m.rz=true->qB (C.at X) X/\iW X/\XOk (HX1 X.prog X.w) (C.at X) X
end
theorem aJP{k:Nat}{W:WD}{m:MC}{C:Cw}{X:Cx}(S:SB k W m C X)(fz:Bool){i:Nat}{el it:E}{ts:List E}{aB:List Nat}{t:Tg}{n:Nat}{x:Str}{px cp sp:Pos}{elt:Expr}{gens:List Comprehension}{scope:Scope}(h1:m.N[i]? = some x)(h2:m.kind x=some .local)(h3:m.sc.kind=.function)(h4:px.line=cp.line)(h5:(scope.names.any λy=>y.1==x&&(y.2 == .local||y.2 == .cell))=false)(h:mC m elt scope (.comp el it ts aB t n) gens=true):PSv C X (.Assign [.Name x px] (.ListComp elt gens scope cp) sp) (λρ=>dQ ρ i (if fz=true then aZ (evE W (.comp el it ts aB t n) ρ) else evE W (.comp el it ts aB t n) ρ)):=by
 have hk:X.env.scope.names.lookup x=some .local:=by rw[S.hs];exact h2
 conv at h=>lhs;whnf
 split at h
 . rename_i tg aH ifs;simp only[aOX,aPF,aQQ] at h;obtain ⟨⟨⟨⟨⟨⟨hq,ho⟩,hn⟩,hl⟩,hs⟩,hg⟩,k1,k2,k3⟩:=h;unfold kA at ho;simp only[aOX,aQQ,aPH,aQP,aPQ,aPF,aQR] at ho;obtain ⟨⟨⟨⟨⟨⟨⟨g1,g2⟩,g3⟩,g4⟩,g5⟩,g6⟩,g7⟩,g8⟩:=ho;have er:(relabel scope X.env).names=jV scope m.sc:=by rw[<- S.hs];rfl
   have bk:X.env.blockKind=.function:=by unfold Env.blockKind;rw[S.hs,h3];rfl
   have hsw:swapsWith (.ListComp elt [⟨tg,aH,ifs,0⟩] scope cp) (some (.Name x px)) sp.line X.env=pure true:=by
    have kx:X.env.kindOf x=some .local:=hk;unfold swapsWith;have k1:(ScopeKind.function==ScopeKind.function)=true:=by decide
    have k2:(some NameKind.local==some NameKind.local)=true:=by decide
    simp only[bk,kx,Expr.pos,h4,h5,k1,k2,aP1];rfl
   have := aF9 fz (pos := cp) (pos' := px) (spos := sp) (i := i) (x := x) (tgN := eA 4 tg) (t := t) (S.cm hq) (sI it S.toSX k1) g1 g2 (fun y hy e => (g3 y hy).resolve_left fun z => z e) (fun y hy e => by
       have:=g4 y hy;show X.env.scope.names.lookup y.1=_\/X.env.scope.names.lookup y.1=_;rw[S.hs];rcases this with (z | z) | z
       . exact absurd e z
       . exact .inl z
       . exact .inr z) (by rw[S.hN];exact g5) g6 (λy hy=>by rw[er];exact g7 y hy) (λj hj=>hs j hj) (λcl A fp s3 H3=>sG (S.toSX.sub cl A fp s3 H3) g8 t hg)
       (λcl A fp s3 H3=>sF ts (S.toSX.sub cl A fp s3 H3) k3) (λcl A fp s3 H3=>sE el (S.toSX.sub cl A fp s3 H3) k2) (by rw[S.hN];exact S.nd) (by rw[S.hN];exact h1) hk hsw (nV hn)
   rw[hl] at this;exact this
 . cases h
theorem aJQ{k:Nat}{W:WD}{m:MC}{C:Cw}{X:Cx}(S:SB k W m C X)(fz:Bool){i:Nat}{el it:E}{ts:List E}{aB:List Nat}{t:Tg}{n:Nat}{x:Str}{px cp sp:Pos}{elt:Expr}{gens:List Comprehension}{scope:Scope}(h1:m.N[i]? = some x)(h2:m.kind x=some .local)(h3:m.sc.kind=.function)(h4:px.line=cp.line)(h5:(scope.names.any λy=>y.1==x&&(y.2 == .local||y.2 == .cell))=false)(h:mC m elt scope (.compX el it ts aB t n) gens=true):PSv C X (.Assign [.Name x px] (.ListComp elt gens scope cp) sp) (λρ=>dQ ρ i (if fz=true then aZ (evE W (.compX el it ts aB t n) ρ) else evE W (.compX el it ts aB t n) ρ)):=by
 have hk:X.env.scope.names.lookup x=some .local:=by rw[S.hs];exact h2
 conv at h=>lhs;whnf
 split at h
 . rename_i tg aH ifs;simp only[aOX,aPF,aQQ] at h;obtain ⟨⟨⟨⟨⟨⟨⟨hq,hr⟩,ho⟩,hn⟩,hl⟩,hs⟩,hg⟩,k1,k2,k3⟩:=h;unfold kA at ho;simp only[aOX,aQQ,aPH,aQP,aPQ,aPF,aQR] at ho;obtain ⟨⟨⟨⟨⟨⟨⟨g1,g2⟩,g3⟩,g4⟩,g5⟩,g6⟩,g7⟩,g8⟩:=ho;have er:(relabel scope X.env).names=jV scope m.sc:=by rw[<- S.hs];rfl
   have bk:X.env.blockKind=.function:=by unfold Env.blockKind;rw[S.hs,h3];rfl
   have hsw:swapsWith (.ListComp elt [⟨tg,aH,ifs,0⟩] scope cp) (some (.Name x px)) sp.line X.env=pure true:=by
    have kx:X.env.kindOf x=some .local:=hk;unfold swapsWith;have k1:(ScopeKind.function==ScopeKind.function)=true:=by decide
    have k2:(some NameKind.local==some NameKind.local)=true:=by decide
    simp only[bk,kx,Expr.pos,h4,h5,k1,k2,aP1];rfl
   have := aHT fz (pos := cp) (pos' := px) (spos := sp) (i := i) (x := x) (tgN := eA 4 tg) (t := t) (S.cm hq) (sI it S.toSX k1) g1 g2 (fun y hy e => (g3 y hy).resolve_left fun z => z e) (fun y hy e => by
       have:=g4 y hy;show X.env.scope.names.lookup y.1=_\/X.env.scope.names.lookup y.1=_;rw[S.hs];rcases this with (z | z) | z
       . exact absurd e z
       . exact .inl z
       . exact .inr z) (by rw[S.hN];exact g5) g6 (λy hy=>by rw[er];exact g7 y hy) (λj hj=>hs j hj) (λcl A fp s3 H3=>sG (S.toSX.sub cl A fp s3 H3) g8 t hg)
       (λcl A fp s3 H3=>sF ts (S.toSX.sub cl A fp s3 H3) k3) (S.ro hr).2.1 (S.ro hr).2.2 (λσ cl A fp s3 H3 XE xo=>sE el (S.toSX.subX xo) k2) (by rw[S.hN];exact S.nd) (by rw[S.hN];exact h1) hk hsw (nV hn)
   rw[hl] at this;exact this
 . cases h
abbrev CkS(m:MC)(f:D3.S)(st:Stmt):Type:=Option (PLift (∀ {k:Nat} {W:WD} {C:Cw} {X:Cx},SB k W m C X->PSv C X st (evS W f)))
abbrev CkB(m:MC)(f:List D3.S)(sts:List Stmt):Type:=Option (PLift (∀ {k:Nat} {W:WD} {C:Cw} {X:Cx},SB k W m C X->PBv C X sts (evB W f)))
abbrev CkH(m:MC)(hs:List Hn)(es:List ExceptHandler):Type:=Option (PLift (∀ {k:Nat} {W:WD} {C:Cw} {X:Cx},SB k W m C X->gG C X es (eO W hs)))
noncomputable def kH {m : MC} {c : Str} {i : Option Nat} {b : List D3.S} {r : List Hn} {x : Str} {np : Pos} {nm : Option Str} {s : Stmt} {su : List Stmt} {hp : Pos} {es : List ExceptHandler} (rb : CkB { m with calm := false, rz := false } b (s :: su)) (rr : CkH m r es) :
    CkH m (.mk c i b::r) (.ExceptHandler (some (.Name x np)) nm (s::su) hp::es) :=
 if h:(x==c&&m.gk x&&(match i,nm with | none,none=>true | some i,some n=>m.N[i]?==some n&&m.kind n==some .local | _,_=>false)&&rb.isSome&&rr.isSome)=true then some ⟨λ{k} {W} {C} {X} S=>by
  simp only[aOX,aPQ] at h;obtain ⟨⟨⟨⟨rfl,hg⟩,hi⟩,hb⟩,hr'⟩:=h;have hr:=got hr' S;simp only[eO,evH];obtain ⟨gl,hd⟩:=S.toSX.gk hg;have hb:=@got _ _ hb;have suite:∀ ex,PBv C.nox (mkX X ex) (s::su) (evB W b):=λex =>
   hb (C:=C.nox) (X:=mkX X ex) ⟨⟨S.hN,S.hs,λz=>(by cases z),λz=>(by cases z),S.un,λz=>(by cases z),S.xt,S.xi,S.xc,S.xn,S.con,S.no,S.mk0,S.mki,S.iso,S.fl,S.mt,S.fn,S.fnn⟩,S.nd,PassesOwn.never,λz=>by cases z⟩
  cases i with
  | none =>
   cases nm with
   | none=>exact .plain gl hd suite hr
   | some n=>cases hi
  | some i =>
   cases nm with
   | none=>cases hi
   | some n =>
    rw[aOX,aPQ,aPQ] at hi
    exact .named gl hd (by rw[S.hN];exact hi.1) (by rw[S.hs];exact hi.2) suite hr⟩ else none
noncomputable def aJR {m : MC} {f} {e} {p1} : CkS m (.ret f) (.Return (some e) p1) := if h : (mE m f e) = true then some ⟨fun {k} {W} {C} {X} S => by
    exact aER (sE f S.toSX h)⟩ else none
noncomputable def aJS {m : MC} {i} {x} {p1} {p2} : CkS m (.retV i) (.Return (some (.Name x p1)) p2) := if h : (m.N[i]? == some x && m.vis x) = true then some ⟨fun {k} {W} {C} {X} S => by
    simp only[aOX,aPQ] at h;obtain ⟨h1,h2,h3⟩:=S.toSX.vis h.2
    exact aES i (jF (by rw[S.hN];exact h.1) h1 h2 h3)⟩ else none
noncomputable def aJT {m : MC} {i} {f} {x} {p1} {e} {p3} : CkS m (.set i f) (.Assign [.Name x p1] e p3) := if h : (m.loc i x && (i3 e || m.kind x == some .cell) && mE m f e) = true then some ⟨fun {k} {W} {C} {X} S => by
    simp only[aOX] at h;obtain ⟨⟨h1,h2⟩,h3⟩:=h;obtain ⟨b,c,d⟩:=S.toSX.loc h1
    exact aEU (by rw[S.hN];exact S.nd) b c (sE f S.toSX h3) (aJN S.hs h2) d⟩ else none
noncomputable def aJU {m : MC} {i} {f} {g} {x} {p1} {k} {p3} {e} {p5} : CkS m (.dput i f g) (.Assign [.Subscript (.Name x p1) k p3] e p5) := if h : (m.N[i]? == some x && m.vis x && i3 e && mE m f k && mE m g e) = true then some ⟨fun {k} {W} {C} {X} S => by
    simp only[aOX,aPQ] at h;obtain ⟨⟨⟨⟨h1,h2⟩,h3⟩,h4⟩,h5⟩:=h;obtain ⟨v1,v2,v3⟩:=S.toSX.vis h2
    exact aHY i (aQS (aQT (by decide:1<=64) _) S.un) (jF (by rw[S.hN];exact h1) v1 v2 v3) (sE f S.toSX h4) (sE g S.toSX h5) (lO h3)⟩ else none
noncomputable def aJV {m : MC} {i} {fz} {f} {x} {px} {elt} {gens} {scope} {cp} {p6} : CkS m (.setC i fz f) (.Assign [.Name x px] (.ListComp elt gens scope cp) p6) := if h : (m.N[i]? == some x && m.kind x == some .local && m.sc.kind == .function && px.line == cp.line && !(scope.names.any fun y => y.1 == x && (y.2 == .local || y.2 == .cell)) && mC m elt scope f gens) = true then some ⟨fun {k} {W} {C} {X} S => by
    simp only[aOX,aPQ,Bool.not_eq_true'] at h;obtain ⟨⟨⟨⟨⟨h1,h2⟩,h3⟩,h4⟩,h5⟩,h7⟩:=h;cases f with
    | comp el it ts aB t n=>exact aJP S fz h1 h2 h3 h4 h5 h7
    | compX el it ts aB t n=>exact aJQ S fz h1 h2 h3 h4 h5 h7
    | _=>cases h7⟩ else none
noncomputable def aJW {m : MC} {f} {a} {b} {c} {x} {y} {p3} (r1 : CkB m a x) (r2 : CkB m b y) : CkS m (.ite f a b) (.If c x y p3) := if h : (mT m f c && (r1.isSome && r2.isSome)) = true then some ⟨fun {k} {W} {C} {X} S => by
    simp only[aOX] at h;obtain ⟨h1,h2,h3⟩:=h;exact aET (sT f S.toSX h1) (got h2 S) (got h3 S)⟩ else none
noncomputable def aJX {m : MC} {f} {t} {b} {tg} {e} {body} {p3} (r1 : CkB m b body) : CkS m (.for f t b) (.For tg e body [] p3) := if h : (m.calm && mG m t tg && eM e && (mI m tg f e && r1.isSome)) = true then some ⟨fun {k} {W} {C} {X} S => by
    simp only[aOX] at h;obtain ⟨⟨⟨hq,h1⟩,h2⟩,h3,h4⟩:=h;exact aE1 S.hp (S.cm hq) (sI f S.toSX h3) (aF6 (sG S.toSX S.nd t h1)) (got h4 S) (nV h2)⟩ else none
noncomputable def aJY {m : MC} {t} {f} {tg} {e} {p2} : CkS m (.asg t f) (.Assign [tg] e p2) := if h : (mG m t tg && iA tg && i3 e && v6 e && mE m f e) = true then some ⟨fun {k} {W} {C} {X} S => by
    simp only[aOX] at h;obtain ⟨⟨⟨⟨h1,h2⟩,h3⟩,h4⟩,h5⟩:=h;exact aF7 (sE f S.toSX h5) (sG S.toSX S.nd t h1) (lO h3) (aJO h4) h2⟩ else none
noncomputable def aJZ {m : MC} {f} {e} {p1} : CkS m (.expr f) (.Expr e p1) := if h : (i3 e && mE m f e) = true then some ⟨fun {k} {W} {C} {X} S => by
    simp only[aOX] at h;exact aEQ (sE f S.toSX h.2) (lO h.1)⟩ else none
noncomputable def kS_rz {m : MC} {c} {es} {f} {p1} {x} {xs} {p4} {p5} : CkS m (.rz c es) (.Raise (some (.Call (.Name f p1) (x :: xs) [] p4)) none p5) := if h : (m.calm && m.rz && f == c && m.gk f && m.g.xcs.contains f && mEs m es (x :: xs)) = true then some ⟨fun {k} {W} {C} {X} S => by
    simp only[aOX,aPQ,aQR] at h;obtain ⟨⟨⟨⟨⟨hq,hr⟩,rfl⟩,h1⟩,h2⟩,h3⟩:=h;obtain ⟨gl,hd⟩:=S.toSX.gk h1;obtain ⟨Cc,hm,Z⟩:=S.xc _ h2;exact aG0 hm Z (S.rm hq).hd (S.ro hr).1 gl (sEs es S.toSX h3) hd (aJM h3)⟩ else none
noncomputable def aJ0 {m : MC} {i} {f} {x} {p1} {a} {ap} {e} {cp} {p6} : CkS m (.app i f) (.Expr (.Call (.Attribute (.Name x p1) a ap) [e] [] cp) p6) := if h : (m.N[i]? == some x && m.vis x && a == "append" && ap.endLine == cp.line && cW e && mE m f e) = true then some ⟨fun {k} {W} {C} {X} S => by
    simp only[aOX,aPQ] at h;obtain ⟨⟨⟨⟨⟨h1,h2⟩,rfl⟩,h3⟩,h4⟩,h5⟩:=h;obtain ⟨v1,v2,v3⟩:=S.toSX.vis h2
    exact aHF i (jF (by rw[S.hN];exact h1) v1 v2 v3) (sE f S.toSX h5) h4 h3⟩ else none
noncomputable def aJ1 {m : MC} {i} {f} {g} {x} {p1} {k} {p3} {e} {p5} : CkS m (.lput i f g) (.Assign [.Subscript (.Name x p1) k p3] e p5) := if h : (m.N[i]? == some x && m.vis x && i3 e && mE m f k && mE m g e) = true then some ⟨fun {k} {W} {C} {X} S => by
    simp only[aOX,aPQ] at h;obtain ⟨⟨⟨⟨h1,h2⟩,h3⟩,h4⟩,h5⟩:=h;obtain ⟨v1,v2,v3⟩:=S.toSX.vis h2
    exact aIA i (jF (by rw[S.hN];exact h1) v1 v2 v3) (sE f S.toSX h4) (sE g S.toSX h5) (lO h3)⟩ else none
noncomputable def kS_tr {m : MC} {b} {hs} {body} {h0} {hr0} {pos} (r1 : CkB { m with rz := false } b body) (r2 : CkH m hs (h0 :: hr0)) : CkS m (.tr b hs) (.Try body (h0 :: hr0) [] [] pos) := if h : (m.calm && m.rz && r1.isSome && r2.isSome) = true then some ⟨fun {k} {W} {C} {X} S => by
    simp only[aOX] at h;obtain ⟨⟨⟨hq,hr⟩,h1⟩,h2⟩:=h;have hN:X.N.Nodup:=by rw[S.hN];exact S.nd
    have FX:=(S.ro hr).2.1;have hk:=got h2 S;refine aG8 FX S.xt hN hk λo aA D=>?_;have hb:=@got _ _ h1;refine hb (C:=qD C X W.xf (eO W hs) D) (X:=j6 X aA D (h0::hr0)) ⟨⟨S.hN,S.hs,S.cm,S.rm,S.un,λ_=>?_,S.xt,S.xi,S.xc,S.xn,S.con,S.no,S.mk0,S.mki,S.iso,S.fl,S.mt,S.fn,S.fnn⟩,S.nd,PassesOwn.looking,λz=>by cases z⟩
    exact aG7 FX o S.xt hN hk⟩ else none
theorem aJ2{k:Nat}{W:WD}{m:MC}{C:Cw}{X:Cx}(S:SB k W m C X):PBv C X [] (evB W []):=by
 have:evB W []=λρ=>.nx ρ:=by funext ρ;simp only[evB]
 rw[this];exact aEN
noncomputable def aJ3 {m : MC} {i fs sts} (r : CkB m fs sts) : CkB m (.frzV i :: fs) sts := if h : r.isSome = true then some ⟨fun {k} {W} {C} {X} S => by
    have:evB W (.frzV i::fs)=λρ=>(j9 ρ i).thn (evB W fs):=by funext ρ;rfl
    rw[this];exact aH5 (got h S)⟩ else none
noncomputable def aJ4 {m : MC} {f fs st sts} (r : CkS m f st) (r2 : CkB m fs sts) : CkB m (f :: fs) (st :: sts) := if h : (r.isSome && r2.isSome) = true then some ⟨fun {k} {W} {C} {X} S => by
    rw[aOX] at h;have:evB W (f::fs)=λρ=>(evS W f ρ).thn (evB W fs):=by funext ρ;simp only[evB]
    rw[this];exact aEP (got h.1 S) (got h.2 S)⟩ else none
set_option maxHeartbeats 4000000 in
mutual
noncomputable def ckS:(m:MC)->(f:D3.S)->(st:Stmt)->CkS m f st
 | _,.frzV _,_=>none
 | m,.ret f,st=>match st with | .Return (some e) p1=>aJR | _=>none
 | m,.retV i,st=>match st with | .Return (some (.Name x p1)) p2=>aJS | _=>none
 | m,.set i f,st=>match st with | .Assign [.Name x p1] e p3=>aJT | _=>none
 | m,.dput i f g,st=>match st with | .Assign [.Subscript (.Name x p1) k p3] e p5=>aJU | _=>none
 | m,.setC i fz f,st=>match st with | .Assign [.Name x px] (.ListComp elt gens scope cp) p6=>aJV | _=>none
 | m,.ite f a b,st=>match st with | .If c x y p3=>aJW (ckB m a x) (ckB m b y) | _=>none
 | m,.for f t b,st=>match st with | .For tg e body [] p3=>aJX (ckB m b body) | _=>none
 | m,.asg t f,st=>match st with | .Assign [tg] e p2=>aJY | _=>none
 | m,.expr f,st=>match st with | .Expr e p1=>aJZ | _=>none
 | m,.rz c es,st=>match st with | .Raise (some (.Call (.Name f p1) (x::xs) [] p4)) none p5=>kS_rz | _=>none
 | m,.lput i f g,st=>match st with | .Assign [.Subscript (.Name x p1) k p3] e p5=>aJ1 | _=>none
 | m,.app i f,st=>match st with | .Expr (.Call (.Attribute (.Name x p1) a ap) [e] [] cp) p6=>aJ0 | _=>none
 | m,.tr b hs,st=>match st with | .Try body (h0::hr0) [] [] pos=>kS_tr (ckB { m with rz:=false } b body) (ckHs m hs (h0::hr0)) | _=>none
noncomputable def ckHs:(m:MC)->(hs:List Hn)->(es:List ExceptHandler)->CkH m hs es
 | m,[],es=>match es with | []=>some ⟨λ{k} {W} {C} {X} _=>by simp only[eO];exact .nil⟩ | _=>none
 | m,.mk c i b::r,es=>match es with | .ExceptHandler (some (.Name x np)) nm (s::su) hp::es=>kH (ckB { m with calm:=false,rz:=false } b (s::su)) (ckHs m r es) | _=>none
noncomputable def ckB:(m:MC)->(f:List D3.S)->(sts:List Stmt)->CkB m f sts
 | m,[],sts=>match sts with | []=>some ⟨λS=>aJ2 S⟩ | _=>none
 | m,.frzV i::fs,sts=>aJ3 (ckB m fs sts)
 | m,f::fs,sts=>match sts with | st::sts=>aJ4 (ckS m f st) (ckB m fs sts) | _=>none
end
noncomputable def mB(m:MC)(f:List D3.S)(sts:List Stmt):Bool:=(ckB m f sts).isSome
theorem sB{k:Nat}{W:WD}{m:MC}{C:Cw}{X:Cx}(S:SB k W m C X)(f:List D3.S){sts:List Stmt}(h:mB m f sts=true):PBv C X sts (evB W f):=got h S
abbrev IB:=Unit
structure FD where
 ps:List Str
 N:List Str
 b:List D3.S
structure ID where
 c:Str
 ps:List Str
 N:List Str
 ib:IB
structure TB where
 T:List (Str×FD)
 I:List (Str×ID)
 cl:List CI
 xt:List ((Str×Str)×Bool)
 xi:List ((Str×Str)×Bool)
noncomputable def qI(W:WD)(i:ID):List D->Res:=λ_=>.stuck
noncomputable def lP(t:TB)(W:WD)(f:Str):List D->Res:=match t.T.lookup f with
 | some d=>phi d.ps.length d.N.length (evB W d.b)
 | none=>λ_=>.stuck
noncomputable def WT(t:TB):Nat->WD
 | 0=>⟨λ_ _=>.stuck,λ_=>none,t.cl,t.xt,t.xi⟩
 | 1=>⟨λf=>lP t ⟨λ_ _=>.stuck,λ_=>none,t.cl,t.xt,t.xi⟩ f,λ_=>none,t.cl,t.xt,t.xi⟩
 | k+2=>⟨λf=>lP t (WT t (k+1)) f,λkey=>match t.I.lookup key with | some i=>some (qI (WT t k) i) | none=>none,t.cl,t.xt,t.xi⟩
theorem nW(t:TB):∀ k,(WT t k).cl=t.cl
 | 0=>rfl
 | 1=>rfl
 | k+2=>rfl
theorem v7(t:TB):∀ k,(WT t k).xt=t.xt
 | 0=>rfl
 | 1=>rfl
 | k+2=>rfl
theorem v8(t:TB):∀ k,(WT t k).xi=t.xi
 | 0=>rfl
 | 1=>rfl
 | k+2=>rfl
theorem WT_Φ(t:TB):∀ k f,(WT t (k+1)).Φ f=lP t (WT t k) f
 | 0,f=>rfl
 | k+1,f=>rfl
noncomputable def qJ(N ps:List Str)(sc:Scope):Bool:=sc.kind == .function&&!sc.isCoroutine&&!sc.isGenerator&&decide N.Nodup&&(N.take ps.length==ps)&&ps.all (λx=>sc.names.lookup x==some .local||sc.names.lookup x==some .cell)&&sc.names.all (λy=>y.2 != .free)
theorem aJ5{N ps:List Str}{sc:Scope}(h:qJ N ps sc=true):mX N ps sc:=by unfold qJ at h;simp only[aOX,aQQ,aPH,aQP,aPQ,aPF,Bool.not_eq_true'] at h;obtain ⟨⟨⟨⟨⟨⟨h1,h2⟩,h3⟩,h4⟩,h5⟩,h6⟩,h7⟩:=h;exact ⟨h1,h2,h3,h4,h5,h6,h7⟩
noncomputable def i4(g:MG)(st:Stmt)(d:FD):Bool:=qJ d.N d.ps (eY st)&&mB ⟨d.N,eY st,g,true,true,true⟩ d.b (jN st)
noncomputable def idOk(g:MG)(st:Stmt)(d:ID):Bool:=false
noncomputable def v9(K:Fg)(g:MG)(fa:Str->Addr)(key:Str)(d:FD):Prop :=
 ∃ name st fd,Fun K name key st (fa key) fd/\fK K fd d.ps []/\i4 g st d=true
noncomputable def lQ(K:Fg)(g:MG)(fa:Str->Addr):List (Str×FD)->Prop
 | []=>True
 | (x,d)::r=>v9 K g fa x d/\lQ K g fa r
theorem lQ.at{K:Fg}{g:MG}{fa:Str->Addr}:∀ {T:List (Str×FD)} {x:Str} {d:FD},lQ K g fa T->T.lookup x=some d->v9 K g fa x d
 | [],_,_,_,e=>by cases e
 | (y,d')::r,x,d,h,e=>by
  rw[aP0] at e;split at e
  . rename_i hb;cases e;rw[aPQ] at hb;subst hb;exact h.1
  . exact h.2.at e
noncomputable def wA(K:Fg)(mg:SOV)(g:MG)(key:Str)(d:ID):Prop :=
 ∃ name st C f fd,PySem.W.nsIn K mainGlobals d.c=some (some (.ref C))/\mg d.c=some (.ref C)/\Mk K C f/\Fun K name key st f fd/\fK K fd d.ps []/\idOk g st d=true
noncomputable def lR(K:Fg)(mg:SOV)(g:MG):List (Str×ID)->Prop
 | []=>True
 | (x,d)::r=>wA K mg g x d/\lR K mg g r
theorem lR.at{K:Fg}{mg:SOV}{g:MG}:∀ {T:List (Str×ID)} {x:Str} {d:ID},lR K mg g T->T.lookup x=some d->wA K mg g x d
 | [],_,_,_,e=>by cases e
 | (y,d')::r,x,d,h,e=>by
  rw[aP0] at e;split at e
  . rename_i hb;cases e;rw[aPQ] at hb;subst hb;exact h.1
  . exact h.2.at e
noncomputable def GVOk(w:World)(K:Fg)(mg:SOV)(fa:Str->Addr)(x:Str):GV->Prop
 | .con (.s y)=>∃ t,mg x=some (.str y t)
 | .con (.i n)=>∃ t,mg x=some (.int n t)
 | .con (.t tb)=>iF w K mg x tb
 | .no=>mg x=none
 | .fn _=>mg x=some (.ref (fa x))
 | .cls=>True
noncomputable def lS(w:World)(K:Fg)(mg:SOV)(fa:Str->Addr):List (Str×GV)->Prop
 | []=>True
 | (x,v)::r=>GVOk w K mg fa x v/\lS w K mg fa r
theorem lS.at{w:World}{K:Fg}{mg:SOV}{fa:Str->Addr}:∀ {G:List (Str×GV)} {x:Str} {v:GV},lS w K mg fa G->G.lookup x=some v->GVOk w K mg fa x v
 | [],_,_,_,e=>by cases e
 | (y,v')::r,x,v,h,e=>by
  rw[aP0] at e;split at e
  . rename_i hb;cases e;rw[aPQ] at hb;subst hb;exact h.1
  . exact h.2.at e
noncomputable def gOk(G:List (Str×GV))(T:List (Str×FD)):Bool:=G.all λ(x,v)=>match v with | .fn n=>(match T.lookup x with | some d=>d.ps.length==n | none=>false) | _=>true
theorem wB{T:List (Str×FD)}:∀ {G:List (Str×GV)} {x:Str} {n:Nat},gOk G T=true->G.lookup x=some (.fn n)->∃ d,T.lookup x=some d/\d.ps.length=n
 | [],_,_,_,e=>by cases e
 | (y,v')::r,x,n,h,e=>by
  unfold gOk at h;rw[aO4,aOX] at h;rw[aP0] at e;split at e
  . rename_i hb;cases e;rw[aPQ] at hb;subst hb;have h1:=h.1;dsimp only at h1;cases q:T.lookup x with
    | none=>rw[q] at h1;cases h1
    | some d=>rw[q] at h1;exact ⟨d,rfl,by simpa using h1⟩
  . exact wB (G:=r) h.2 e
noncomputable def mtOk(cl:List CI)(T:List (Str×FD)):Bool:=cl.all λi=>i.meths.all λ(_,key,n)=>match T.lookup key with | some d=>d.ps.length==n | none=>false
noncomputable def wC(mki:List (Str×Str×Nat))(I:List (Str×ID)):Bool:=mki.all λ(c,key,n)=>match I.lookup key with | some d=>d.c==c&&d.ps.length==n+1 | none=>false
noncomputable def kB(K:Fg)(fa:Str->Addr)(C:Addr):List (Str×Str×Nat)->Prop
 | []=>True
 | (m,key,_)::r=>pG K C m (fa key)/\kB K fa C r
noncomputable def kC(K:Fg)(C:Addr):List Str->Prop
 | []=>True
 | f::r=>pF K C f/\kC K C r
noncomputable def lT(K:Fg)(fa:Str->Addr):List CI->Prop
 | []=>True
 | i::r=>(∃ C,PySem.W.nsIn K mainGlobals i.name=some (some (.ref C))/\Cls K C/\kB K fa C i.meths/\kC K C i.flds)/\lT K fa r
theorem lT.at{K:Fg}{fa:Str->Addr}:∀ {cl:List CI} {i:CI},lT K fa cl->i∈cl->∃ C,PySem.W.nsIn K mainGlobals i.name=some (some (.ref C))/\Cls K C/\kB K fa C i.meths/\kC K C i.flds
 | [],_,_,h=>by cases h
 | j::r,i,h,hi=>by
  rcases aNK.mp hi with rfl | hi
  . exact h.1
  . exact h.2.at hi
theorem kC.at{K:Fg}{C:Addr}:∀ {l:List Str} {f:Str},kC K C l->f∈l->pF K C f
 | [],_,_,h=>by cases h
 | j::r,i,h,hi=>by
  rcases aNK.mp hi with rfl | hi
  . exact h.1
  . exact h.2.at hi
theorem kB.at{K:Fg}{fa:Str->Addr}{C:Addr}:∀ {l:List (Str×Str×Nat)} {m key:Str} {n:Nat},kB K fa C l->l.lookup m=some (key,n)->pG K C m (fa key)
 | [],_,_,_,_,e=>by cases e
 | (m',key',n')::r,m,key,n,h,e=>by
  rw[aP0] at e;split at e
  . rename_i hb;cases e;rw[aPQ] at hb;subst hb;exact h.1
  . exact h.2.at e
structure GF(w:World)(K:Fg)(mg:SOV)(g:MG)(t:TB)(fa:Str->Addr):Prop where
 con:lS w K mg fa g.G
 gok:gOk g.G t.T=true
 all:lQ K g fa t.T
 alli:lR K mg g t.I
 mk0:∀ c,c∈g.mk0->MkV0 K mg c
 mkok:wC g.mki t.I=true
 iso:∀ c,c∈g.iso->IsV K mg t.cl c
 cls:lT K fa t.cl
 mtok:mtOk t.cl t.T=true
 xtok:j5 K mg (λc x=>t.xt.lookup (c,x))
 xiok:nQ K mg (λc x=>t.xi.lookup (c,x))
 xcok:∀ c,c∈g.xcs->∃ Cc,mg c=some (.ref Cc)/\lI K Cc
 xnok:∀ n,n∈g.xns->∃ cv,gH mg n cv
theorem wD{K:Fg}{mg:SOV}{n:Nat}{Φ:List D->Res}{vs:List V}{H:Hp}{Q:VK}{E:XK}(hz:∀ ds,Φ ds=.stuck)(h:spV K mg n Φ vs H Q E):False:=by obtain ⟨_,F,ds,_,_,h⟩:=h;rw[hz] at h;exact h
section
variable {P:Program}{w:World}{K:Fg}{mg:SOV}{base:Heap}{g:MG}{t:TB}{fa:Str->Addr}
structure kD(P:Program)(w:World)(K:Fg)(mg:SOV)(base:Heap)(t:TB)(fa:Str->Addr)(k:Nat):Prop where
 fn:∀ key d,t.T.lookup key=some d->∃ fd,c9 P w K mg base (CX1 P w) k (fa key) fd d.ps (spV K mg d.ps.length ((WT t k).Φ key))/\fK K fd d.ps []/\PySem.W.keepIn K (.ref (fa key))=true
 ini:∀ key d Φ,t.I.lookup key=some d->(WT t k).I key=some Φ->∃ j,j+1<=k/\InV P w K mg base (CX1 P w) j d.c (d.ps.length-1) Φ
theorem sx_of(f:GF w K mg g t fa){k:Nat}(A:kD P w K mg base t fa k){N:List Str}{sc:Scope}{C:Cw}{X:Cx}(hP:X.prog=P)(hw:X.w=w)(hK:X.K=K)(hmg:X.mg=mg)(hb:X.base=base)(hN:X.N=N)(hs:X.env.scope=sc)(cm:X.calm=true)(rm:cN k X.A)(hfn:∀ x,X.fn x=true)(xo:XOk (CX1 X.prog X.w) (C.at X) X):SX k (WT t k) ⟨N,sc,g,true,true,true⟩ C X:=by
 subst hP hw hK hmg hb;refine ⟨hN,hs,λ_=>cm,λ_=>rm,rm.units,λ_=>xo,?_,?_,f.xcok,f.xnok,λy c l=>?_,λy l=>f.con.at l,λc hc=>f.mk0 c hc,λc key n hm Φ e=>?_,λc hc=>by rw[nW];exact f.iso c hc,λi f' hi hf=>?_,λc m key n e=>?_,λy n l=>?_,λ_=>hfn⟩
 . unfold WD.xf;rw[v7];exact f.xtok
 . unfold WD.xg;rw[v8];exact f.xiok
 . have:=f.con.at l;cases c <;> exact this
 . have h1:=aQQ.mp f.mkok (c,key,n) hm;dsimp only at h1;cases q:t.I.lookup key with
   | none=>rw[q] at h1;cases h1
   | some d=>rw[q] at h1;simp only[aOX,aPQ] at h1;obtain ⟨j,hj,M⟩:=A.ini key d Φ q e;rw[h1.1,h1.2] at M;exact ⟨j,hj,M⟩
 . rw[nW] at hi;obtain ⟨C',h1,h2,_,h4⟩:=f.cls.at hi;exact ⟨C',h1,h2,h4.at hf⟩
 . rw[nW] at e;unfold CI.meth at e;split at e
   . rename_i i ei;have hi:=List.mem_of_find?_eq_some ei;have hn:i.name=c:=by simpa using List.find?_some ei
     obtain ⟨C',h1,h2,h3,_⟩:=f.cls.at hi;have hmo:=aQQ.mp (aQQ.mp f.mtok i hi) (m,key,n) (aOA e);dsimp only at hmo;cases q:t.T.lookup key with
     | none=>rw[q] at hmo;cases hmo
     | some d=>rw[q] at hmo;rw[aPQ] at hmo;obtain ⟨fd,FO,hb,_⟩:=A.fn key d q;rw[hmo] at FO;exact ⟨C',fa key,fd,d.ps,by rw[<- hn];exact h1,h2,h3.at e,FO,hb⟩
   . cases e
 . obtain ⟨d,e,rfl⟩:=wB f.gok l;obtain ⟨fd,FO,hb,hk⟩:=A.fn y d e;exact ⟨fa y,fd,d.ps,FO,f.con.at l,hk,hb⟩
theorem qK(f:GF w K mg g t fa){k:Nat}(A:kD P w K mg base t fa k){key:Str}{d:FD}{name:Str}{st:Stmt}{fd:FuncData}{a:Addr}(F:Fun K name key st a fd)(e:t.T.lookup key=some d)(ok:i4 g st d=true):c9 P w K mg base (CX1 P w) (k+1) a fd d.ps (spV K mg d.ps.length ((WT t (k+1)).Φ key)):=by
 unfold i4 at ok;rw[aOX] at ok;have sc:=aJ5 ok.1;have:(WT t (k+1)).Φ key=phi d.ps.length d.N.length (evB (WT t k) d.b):=by rw[WT_Φ];unfold lP;rw[e]
 rw[this];exact aHE (k:=k) F sc λC cdv A' outer s H En hE hr=>sB (m:=⟨d.N,eY st,g,true,true,true⟩) (X:=dE (CX1 P w) P w K mg base d.N key (eY st) a cdv A' outer s H En) ⟨sx_of f A rfl rfl rfl rfl rfl rfl rfl rfl hr (λ_=>rfl) (aG1 (K:=K) (H:=H) (outer:=outer) hE),sc.nd,PassesOwn.leaving,λ_=>⟨aG2 (K:=K) (H:=H) (outer:=outer) hE,fnCx,aHJ (K:=K) (H:=H) (outer:=outer) hE⟩⟩ d.b ok.2
theorem aJ6(f:GF w K mg g t fa){k:Nat}(A:kD P w K mg base t fa k){key:Str}{d:ID}(e:t.I.lookup key=some d):InV P w K mg base (CX1 P w) (k+1) d.c (d.ps.length-1) (qI (WT t k) d):=by obtain ⟨name,st,C2,a,fd,ns,hm,M,F,hb,ok⟩:=f.alli.at e;cases ok
theorem wE(f:GF w K mg g t fa):∀ k,kD P w K mg base t fa k/\kD P w K mg base t fa (k+1)
 | 0=>by
  have A0:kD P w K mg base t fa 0:=⟨λkey d e=>by
   obtain ⟨name,st,fd,F,hb,_⟩:=f.all.at e;exact ⟨fd,⟨λvs H Q En h=>(wD (λ_=>rfl) h).elim,λA outer s H args us vs Q En _ _ _ _ h=>(wD (λ_=>rfl) h).elim⟩,hb,F.kp⟩,λkey d Φ _ e=>by cases e⟩
  refine ⟨A0,λkey d e=>?_,λkey d Φ _ e=>by cases e⟩
  obtain ⟨name,st,fd,F,hb,ok⟩:=f.all.at e;exact ⟨fd,qK f A0 F e ok,hb,F.kp⟩
 | k+1=>by
  obtain ⟨A0,A1⟩:=wE f k;refine ⟨A1,λkey d e=>?_,λkey d Φ e ei=>?_⟩
  . obtain ⟨name,st,fd,F,hb,ok⟩:=f.all.at e;exact ⟨fd,qK f A1 F e ok,hb,F.kp⟩
  . have ei:(match t.I.lookup key with | some i=>some (qI (WT t k) i) | none=>none)=some Φ:=ei
    rw[e] at ei;cases ei;exact ⟨k+1,aNY _,aJ6 f A0 e⟩
end
noncomputable def qL(K:Fg)(Φ:List D->Res):Sp:=λvs H Q E=>∃ a ns,vs=[.ref a]/\SqL K H a (ns.map V.int)/\Φ (nG ns)=.ok .fz (.bl true)/\∀ H',Q (.bl true) H'
theorem aJ7{P:Program}{w:World}{K:Fg}{mg:SOV}{base:Heap}{CX:CXT}{k:Nat}{f:Addr}{fd:FuncData}{ps:List Str}{Φ:List D->Res}(h:c9 P w K mg base CX k f fd ps (spV K mg 1 Φ)):c9 P w K mg base CX k f fd ps (qL K Φ) :=
 h.imp λvs H Q E ⟨a,ns,e,hq,hp,q⟩=>by
  subst e;refine ⟨rfl,H,nG ns,aG.refl _,aE.cons ?_ aE.nil,?_⟩
  . simp only[aD];exact ⟨a,_,rfl,hq,uV ns⟩
  . rw[hp];exact ⟨by decide,λv F' H' s rp _=>by rw[rp.bl];exact q H'⟩
theorem aJ8{P:Program}{w:World}{K:Fg}{mg:SOV}{base:Heap}{g:MG}{t:TB}{fa:Str->Addr}(f:GF w K mg g t fa)(k:Nat){a:Addr}{fd:FuncData}{d:FD}{st:Stmt}(F:Fun K "law" "law" st a fd)(e:t.T.lookup ("law" : Str)=some d)(ok:i4 g st d=true)(hl:d.ps.length=1):c9 P w K mg base (CX1 P w) (k+1) a fd d.ps (qL K ((WT t (k+1)).Φ ("law" : Str))):=by have:=qK (P:=P) (w:=w) (base:=base) f (wE f k).1 F e ok;rw[hl] at this;exact aJ7 this
end D3
namespace D3
open PySem L2
section
variable {W:WD}{ρ:Rho}{a b c:E}{es:List E}
@[simp] theorem gO{i}:evE W (.var i) ρ=cA ρ i:=Eq.trans rfl rfl
@[simp] theorem e_non:evE W .non ρ=.ok .fz .non:=Eq.trans rfl rfl
@[simp] theorem e_bl{b}:evE W (.bl b) ρ=.ok .fz (.bl b):=Eq.trans rfl rfl
@[simp] theorem e_int{i}:evE W (.int i) ρ=.ok .fz (.int i):=Eq.trans rfl rfl
@[simp] theorem e_str{x}:evE W (.str x) ρ=.ok .fz (.str x):=Eq.trans rfl rfl
@[simp] theorem e_globS{x y}:evE W (.glob x (.s y)) ρ=.ok .fz (.str y):=Eq.trans rfl rfl
@[simp] theorem e_globI{x y}:evE W (.glob x (.i y)) ρ=.ok .fz (.int y):=Eq.trans rfl rfl
@[simp] theorem e_ty{t:Ty}:evE W (.ty t) ρ=.ok .fz (.ty t.id):=Eq.trans rfl rfl
@[simp] theorem fQ{op}:evE W (.bin op a b) ρ=op2 (bN op) (evE W a ρ) (evE W b ρ):=Eq.trans rfl rfl
@[simp] theorem fR{op}:evE W (.cmp op a b) ρ=op2 (a8 op) (evE W a ρ) (evE W b ρ):=Eq.trans rfl rfl
@[simp] theorem qM:evE W (.andL es) ρ=evA W es ρ:=Eq.trans rfl rfl
@[simp] theorem lU:evE W (.orL es) ρ=dC W es ρ:=Eq.trans rfl rfl
@[simp] theorem e_not:evE W (.not a) ρ=k9 (evE W a ρ):=Eq.trans rfl rfl
@[simp] theorem wF:evE W (.tru a) ρ=jQ (evE W a ρ):=Eq.trans rfl rfl
@[simp] theorem gQ:evE W (.frz a) ρ=aZ (evE W a ρ):=Eq.trans rfl rfl
@[simp] theorem dL:evE W (.ix a b) ρ=op2 ixD (evE W a ρ) (evE W b ρ):=Eq.trans rfl rfl
@[simp] theorem i5{l h}:evE W (.slice a l h) ρ=slP (evE W a ρ) (evO W l) (evO W h) ρ:=Eq.trans rfl rfl
@[simp] theorem e_tup:evE W (.tup es) ρ=fA (bD W es ρ):=Eq.trans rfl rfl
@[simp] theorem e_lst:evE W (.lst es) ρ=dZ (bD W es ρ):=Eq.trans rfl rfl
@[simp] theorem e_call{f n}:evE W (.call f n es) ρ=aX n (W.Φ f) (bD W es ρ):=Eq.trans rfl rfl
@[simp] theorem aJ9{f:Bn}:evE W (.bcall f es) ρ=d8 f.f (bD W es ρ):=Eq.trans rfl rfl
@[simp] theorem nX:evE W (.items a) ρ=hV (aZ (evE W a ρ)):=Eq.trans rfl rfl
@[simp] theorem nY:evE W (.rng1 a) ρ=jU (dO (evE W a ρ) (.ok [])):=Eq.trans rfl rfl
@[simp] theorem e_enum1:evE W (.enum1 a) ρ=nN (dO (aZ (evE W a ρ)) (.ok [])):=Eq.trans rfl rfl
@[simp] theorem e_dnew:evE W .dnew ρ=.ok .fr (.dct []):=Eq.trans rfl rfl
@[simp] theorem e_dlist:evE W (.dlist a) ρ=d8 iZ (dO (evE W a ρ) (.ok [])):=Eq.trans rfl rfl
@[simp] theorem e_deed{x tb}:evE W (.deed x tb a) ρ=j8 tb (evE W a ρ):=Eq.trans rfl rfl
@[simp] theorem e_callv{i fs n}:evE W (.callv i fs n es) ρ=lM W.Φ fs n (cA ρ i) (bD W es ρ):=Eq.trans rfl rfl
@[simp] theorem e_dix:evE W (.dix a b) ρ=op2 ixK (evE W a ρ) (evE W b ρ):=Eq.trans rfl rfl
@[simp] theorem e_deq{neg}:evE W (.deq neg a b) ρ=op2 (eqN neg) (evE W a ρ) (evE W b ρ):=Eq.trans rfl rfl
@[simp] theorem e_din{neg}:evE W (.din neg a b) ρ=op2 (inK neg) (evE W a ρ) (evE W b ρ):=Eq.trans rfl rfl
@[simp] theorem aKA{n}:evE W (.isx1 a n) ρ=nR W.xg n (evE W a ρ):=Eq.trans rfl rfl
@[simp] theorem nZ{ts:List E}{aB t n}:evE W (.comp a b ts aB t n) ρ=dR (evE W b ρ) ρ aB n (aI t) (λρ=>evF W ts ρ) (λρ=>evE W a ρ):=Eq.trans rfl rfl
@[simp] theorem aKB{ts:List E}{aB t n}:evE W (.compX a b ts aB t n) ρ=j7 (evE W b ρ) ρ aB n (aI t) (λρ=>evF W ts ρ) (λρ=>evE W a ρ):=Eq.trans rfl rfl
@[simp] theorem wG:evE W (.fmt a) ρ=nL (evE W a ρ):=Eq.trans rfl rfl
@[simp] theorem wH:evE W (.fstr es) ρ=dS Str.empty (evL W es) ρ:=Eq.trans rfl rfl
@[simp] theorem el_nil:evL W []=[]:=by simp only[evL]
@[simp] theorem el_cons:evL W (a::es)=evE W a::evL W es:=by simp only[evL]
@[simp] theorem wI{i:Nat}{d:D}:aI (.nm i) d ρ=some (ρ.set i (some (false,d))):=by simp only[aI]
@[simp] theorem sg_tp{ts:List Tg}{ds:List D}:aI (.tp ts) (.tup ds) ρ=dB ts ds ρ:=by simp only[aI]
@[simp] theorem sg_tpl{ts:List Tg}{ds:List D}:aI (.tp ts) (.lst ds) ρ=dB ts ds ρ:=by simp only[aI]
@[simp] theorem sgs_nil:dB [] [] ρ=some ρ:=by simp[dB]
@[simp] theorem sgs_cons{t:Tg}{ts:List Tg}{d:D}{ds:List D}:dB (t::ts) (d::ds) ρ=(aI t d ρ).bind (dB ts ds):=by simp only[dB];cases aI t d ρ <;> rfl
@[simp] theorem fmt_s{m:Md}{z:Str}:nL (.ok m (.str z))=.ok .fz (.str z):=rfl
@[simp] theorem n5{t:Ty}:evE W (.tcall t es) ρ=d8 t.f (bD W es ρ):=Eq.trans rfl rfl
@[simp] theorem bW:bD W [] ρ=.ok []:=by simp only[bD]
@[simp] theorem aR:bD W (a::es) ρ=dO (evE W a ρ) (bD W es ρ):=by simp only[bD]
@[simp] theorem ea_one:evA W [a] ρ=evE W a ρ:=by simp only[evA]
@[simp] theorem ea_cons:evA W (a::b::es) ρ=dF (evE W a ρ) (evA W (b::es) ρ):=by simp only[evA]
@[simp] theorem eo_one:dC W [a] ρ=evE W a ρ:=by simp only[dC]
@[simp] theorem eo_cons:dC W (a::b::es) ρ=orR (evE W a ρ) (dC W (b::es) ρ):=by simp only[dC]
@[simp] theorem wJ:evF W [] ρ=.ok .fz (.bl true):=by simp only[evF]
@[simp] theorem ef_cons:evF W (a::es) ρ=dF (evE W a ρ) (evF W es ρ):=by simp only[evF]
@[simp] theorem eo_none:evO W none=none:=by simp only[evO]
@[simp] theorem eo_some:evO W (some a)=some (evE W a):=by simp only[evO]
@[simp] theorem kE:evS W (.ret a) ρ=fO (evE W a ρ) ρ:=Eq.trans rfl rfl
@[simp] theorem aKC{i}:evS W (.retV i) ρ=fP ρ i:=Eq.trans rfl rfl
@[simp] theorem n6{i}:evS W (.set i a) ρ=dQ ρ i (evE W a ρ):=Eq.trans rfl rfl
@[simp] theorem kG{x y:List S}:evS W (.ite a x y) ρ=ifS (evE W a ρ) ρ (evB W x ρ) (evB W y ρ):=Eq.trans rfl rfl
@[simp] theorem iG{t:Tg}{y:List S}:evS W (.for a t y) ρ=iT (evE W a ρ) ρ (aI t) (evB W y):=Eq.trans rfl rfl
@[simp] theorem s_asg{t:Tg}:evS W (.asg t a) ρ=iB t ρ (evE W a ρ):=Eq.trans rfl rfl
@[simp] theorem aKD:evS W (.expr a) ρ=(evE W a ρ).thS ρ λ_ _=>.nx ρ:=Eq.trans rfl rfl
@[simp] theorem s_rz{c}:evS W (.rz c es) ρ=rzR c ρ (bD W es ρ):=Eq.trans rfl rfl
@[simp] theorem s_tr{x:List S}{hs:List Hn}:evS W (.tr x hs) ρ=j4 W.xf (eO W hs) (evB W x ρ):=Eq.trans rfl rfl
@[simp] theorem aKE:eO W []=[]:=by simp only[eO]
@[simp] theorem aKF{c:Str}{i:Option Nat}{x:List S}{hs:List Hn}:eO W (.mk c i x::hs)=⟨c,i,evB W x⟩::eO W hs:=by simp only[eO,evH]
@[simp] theorem aKG{i k}:evS W (.lput i k a) ρ=gK ρ i (evE W k ρ) (evE W a ρ):=Eq.trans rfl rfl
@[simp] theorem wK{i}:evS W (.app i a) ρ=gI ρ i (evE W a ρ):=Eq.trans rfl rfl
@[simp] theorem aKH{i}:evS W (.frzV i) ρ=j9 ρ i:=Eq.trans rfl rfl
@[simp] theorem aKI{i}:evS W (.dput i a b) ρ=iE ρ i (evE W a ρ) (evE W b ρ):=Eq.trans rfl rfl
@[simp] theorem s_setC{i}:evS W (.setC i false a) ρ=dQ ρ i (evE W a ρ):=Eq.trans rfl rfl
@[simp] theorem wL{i}:evS W (.setC i true a) ρ=dQ ρ i (aZ (evE W a ρ)):=Eq.trans rfl rfl
@[simp] theorem bL:evB W [] ρ=.nx ρ:=by simp only[evB]
@[simp] theorem aU{s:S}{r:List S}:evB W (s::r) ρ=(evS W s ρ).thn (evB W r):=by simp only[evB]
end
section
variable {m n:Md}{i j:Int}{ρ:Rho}{d:D}
@[simp] theorem x_add:op2 (bN .Add) (.ok m (.int i)) (.ok n (.int j))=.ok .fz (.int (i+j)):=rfl
@[simp] theorem x_band:op2 (bN .BitAnd) (.ok m (.int i)) (.ok n (.int j))=.ok .fz (.int (Builtin.bitAnd i j)):=rfl
@[simp] theorem x_bor:op2 (bN .BitOr) (.ok m (.int i)) (.ok n (.int j))=.ok .fz (.int (Builtin.bitOr i j)):=rfl
@[simp] theorem x_shl(h:0<=j)(h1:j<=1000000)(h2:i.natAbs<2 ^ 64):op2 (bN .LShift) (.ok m (.int i)) (.ok n (.int j))=.ok .fz (.int (i * 2 ^ j.toNat)):=by
 show (match (if (decide (0<=j)&&decide (j<=1000000)&&decide (i.natAbs<2 ^ 64))=true then some (Md.fz,D.int (i * 2 ^ j.toNat)) else none) with | some (m,d)=>Res.ok m d | none=>.stuck)=_
 rw[aO7 h,aO7 h1,aO7 h2];rfl
@[simp] theorem x_shr(h:0<=j):op2 (bN .RShift) (.ok m (.int i)) (.ok n (.int j))=.ok .fz (.int (i / 2 ^ j.toNat)):=by
 show (match (if decide (0<=j)=true then some (Md.fz,D.int (i / 2 ^ j.toNat)) else none) with | some (m,d)=>Res.ok m d | none=>.stuck)=_
 rw[aO7 h];rfl
@[simp] theorem x_sub:op2 (bN .Sub) (.ok m (.int i)) (.ok n (.int j))=.ok .fz (.int (i-j)):=rfl
@[simp] theorem x_lt:op2 (a8 .Lt) (.ok m (.int i)) (.ok n (.int j))=.ok .fz (.bl (decide (i<j))):=rfl
@[simp] theorem x_le:op2 (a8 .LtE) (.ok m (.int i)) (.ok n (.int j))=.ok .fz (.bl (decide (i<=j))):=rfl
@[simp] theorem x_gt:op2 (a8 .Gt) (.ok m (.int i)) (.ok n (.int j))=.ok .fz (.bl (decide (j<i))):=rfl
@[simp] theorem x_ge:op2 (a8 .GtE) (.ok m (.int i)) (.ok n (.int j))=.ok .fz (.bl (decide (j<=i))):=rfl
@[simp] theorem lV(h:0<j):op2 (bN .Mod) (.ok m (.int i)) (.ok n (.int j))=.ok .fz (.int (i % j)):=by show Res.of (if decide (0<j)=true then _ else _)=_;rw[if_pos (aO7 h)];rfl
theorem x_div(h:0<j)(hb:cH j=true):op2 (bN .FloorDiv) (.ok m (.int i)) (.ok n (.int j))=.ok .fz (.int (i / j)):=by show Res.of (if (decide (0<j)&&cH j)=true then _ else _)=_;rw[if_pos (by rw[hb,aO7 h];rfl)];rfl
theorem aKJ(h:i.natAbs<10 ^ 2000):cH i=true:=by
 unfold cH;refine aO7 ?_;by_cases h0:i.natAbs=0
 . rw[h0];decide
 . refine (Nat.log2_lt h0).mpr (Nat.lt_trans h ?_);decide +kernel
theorem aKK{N:Nat}(h:i.natAbs<=N)(hN:N<10 ^ 2000:=by decide +kernel):cH i=true:=aKJ (aQS h hN)
@[simp] theorem wM(h:0<j)(hb:j.natAbs<=1000000000):op2 (bN .FloorDiv) (.ok m (.int i)) (.ok n (.int j))=.ok .fz (.int (i / j)):=x_div h (aKK hb)
theorem wN(h:((cH i&&cH j)||(w64 i||w64 j))=true):op2 (bN .Mult) (.ok m (.int i)) (.ok n (.int j))=.ok .fz (.int (i * j)):=by show Res.of (((if ((cH i&&cH j)||(w64 i||w64 j))=true then _ else _:Option (Md×D)).orElse _).orElse _)=_;rw[if_pos h];rfl
theorem aKL(h:j.natAbs<9000000000000000000):op2 (bN .Mult) (.ok m (.int i)) (.ok n (.int j))=.ok .fz (.int (i * j)):=wN (by
 have:w64 j=true:=aO7 (by omega)
 rw[this];simp)
theorem wO(h:i.natAbs<9000000000000000000):op2 (bN .Mult) (.ok m (.int i)) (.ok n (.int j))=.ok .fz (.int (i * j)):=wN (by
 have:w64 i=true:=aO7 (by omega)
 rw[this];simp)
theorem bO{φ:Md->D->Md->D->Option (Md×D)}{x y d:D}{k:Md}(h:φ m x n y=some (k,d)):op2 φ (.ok m x) (.ok n y)=.ok k d:=by show Res.of (φ m x n y)=_;rw[h];rfl
@[simp] theorem x_eqI:op2 (a8 .Eq) (.ok m (.int i)) (.ok n (.int j))=.ok .fz (.bl (i==j)):=bO rfl
@[simp] theorem x_neI:op2 (a8 .NotEq) (.ok m (.int i)) (.ok n (.int j))=.ok .fz (.bl (i != j)):=bO rfl
@[simp] theorem x_eqB{a b:Bool}:op2 (a8 .Eq) (.ok m (.bl a)) (.ok n (.bl b))=.ok .fz (.bl (a==b)):=bO rfl
@[simp] theorem x_neB{a b:Bool}:op2 (a8 .NotEq) (.ok m (.bl a)) (.ok n (.bl b))=.ok .fz (.bl (a != b)):=bO rfl
@[simp] theorem x_eqS{a b:Str}:op2 (a8 .Eq) (.ok m (.str a)) (.ok n (.str b))=.ok .fz (.bl (a==b)):=bO (by rfl)
@[simp] theorem x_neS{a b:Str}:op2 (a8 .NotEq) (.ok m (.str a)) (.ok n (.str b))=.ok .fz (.bl (a != b)):=bO (by rfl)
@[simp] theorem x_inS{a b:Str}:op2 (a8 .In) (.ok m (.str a)) (.ok n (.str b))=.ok .fz (.bl (jP a b)):=bO rfl
@[simp] theorem x_notinS{a b:Str}:op2 (a8 .NotIn) (.ok m (.str a)) (.ok n (.str b))=.ok .fz (.bl (!jP a b)):=bO rfl
@[simp] theorem wP{a b:Str}(h:a.length+b.length<=sizeLine):op2 (bN .Add) (.ok m (.str a)) (.ok n (.str b))=.ok .fz (.str (a++b)) :=
 bO (by
  have:fS (λi j=>decide (i.length+j.length<=sizeLine)) (λi j=>D.str (i++j)) m (.str a) n (.str b)=some (Md.fz,D.str (a++b)):=by show (if decide (a.length+b.length<=sizeLine)=true then some (Md.fz,D.str (a++b)) else none)=_;rw[if_pos (aO7 h)]
  show orO (orO (fI (λ_ _=>true) λi j=>.int (i+j)) (fS (λi j=>decide (i.length+j.length<=sizeLine)) λi j=>.str (i++j))) nI m (.str a) n (.str b)=_;simp only[orO,this];rfl)
@[simp] theorem x_isN{d:D}:op2 (a8 .Is) (.ok m d) (.ok n .non)=.ok .fz (.bl (fC d)):=bO rfl
@[simp] theorem x_isnotN{d:D}:op2 (a8 .IsNot) (.ok m d) (.ok n .non)=.ok .fz (.bl (!fC d)):=bO rfl
@[simp] theorem qN{x y:List D}(h:x.length+y.length<=sizeLine):op2 (bN .Add) (.ok m (.lst x)) (.ok n (.lst y))=.ok .fr (.lst (x++y)):=bO (by
 show (if x.length+y.length<=sizeLine then some (Md.fr,D.lst (x++y)) else none)=_;rw[if_pos h])
@[simp] theorem aKM{x y:List D}(h:x.length+y.length<=sizeLine):op2 (bN .Add) (.ok m (.tup x)) (.ok n (.tup y))=.ok .fz (.tup (x++y)):=bO (by
 show (if x.length+y.length<=sizeLine then some (Md.fz,D.tup (x++y)) else none)=_;rw[if_pos h])
@[simp] theorem isn_n:fC .non=true:=rfl
@[simp] theorem isn_i{i:Int}:fC (.int i)=false:=rfl
@[simp] theorem isn_b{i:Bool}:fC (.bl i)=false:=rfl
@[simp] theorem isn_s{i:Str}:fC (.str i)=false:=rfl
@[simp] theorem isn_t{i:List D}:fC (.tup i)=false:=rfl
@[simp] theorem isn_l{i:List D}:fC (.lst i)=false:=rfl
@[simp] theorem aKN{y:Res}:dF (.ok m (.bl true)) y=y:=rfl
@[simp] theorem aKO{y:Res}:dF (.ok m (.bl false)) y=.ok .fz (.bl false):=rfl
@[simp] theorem x_orT{y:Res}:orR (.ok m (.bl true)) y=.ok .fz (.bl true):=rfl
@[simp] theorem x_orF{y:Res}:orR (.ok m (.bl false)) y=y:=rfl
@[simp] theorem wQ{a b:Bool}:dF (.ok m (.bl a)) (.ok .fz (.bl b))=.ok .fz (.bl (a&&b)):=by cases a <;> rfl
@[simp] theorem qO{a b:Bool}:orR (.ok m (.bl a)) (.ok .fz (.bl b))=.ok .fz (.bl (a||b)):=by cases a <;> rfl
@[simp] theorem x_not{a:Bool}:k9 (.ok m (.bl a))=.ok .fz (.bl (!a)):=rfl
@[simp] theorem x_tru{a:Bool}:jQ (.ok m (.bl a))=.ok .fz (.bl a):=rfl
@[simp] theorem x_truI:jQ (.ok m (.int i))=.ok .fz (.bl (i != 0)):=rfl
@[simp] theorem n8{x y:aF}:ifS (.ok m (.bl true)) ρ x y=x:=rfl
@[simp] theorem wR{x y:aF}:ifS (.ok m (.bl false)) ρ x y=y:=rfl
@[simp] theorem x_frz:aZ (.ok .fz d)=.ok .fz d:=rfl
@[simp] theorem x_frr:aZ (.ok .fr d)=.ok .fz d:=rfl
@[simp] theorem wS{k:Nat}:dQ ρ k (.ok .fz d)=.nx (ρ.set k (some (false,d))):=rfl
@[simp] theorem x_setr{k:Nat}:dQ ρ k (.ok .fr d)=.nx (ρ.set k (some (true,d))):=rfl
@[simp] theorem x_ret:fO (.ok .fz d) ρ=.rt .fz d:=rfl
@[simp] theorem x_retr:fO (.ok .fr d) ρ=.rt .fr d:=rfl
@[simp] theorem g_0{r:Rho}:cA (some (false,d)::r) 0=.ok .fz d:=rfl
@[simp] theorem g_0b{r:Rho}:cA (some (true,d)::r) 0=.ok .bo d:=rfl
@[simp] theorem g_s{x:Option (Bool×D)}{r:Rho}{i:Nat}:cA (x::r) (i+1)=cA r i:=rfl
@[simp] theorem g_1{x:Option (Bool×D)}{r:Rho}:cA (x::r) 1=cA r 0:=rfl
@[simp] theorem rs_0{r:Rho}:fP (some (false,d)::r) 0=.rt .fz d:=rfl
@[simp] theorem rs_0b{r:Rho}:fP (some (true,d)::r) 0=.rt .fr d:=rfl
@[simp] theorem rs_1{x:Option (Bool×D)}{r:Rho}:fP (x::r) 1=fP r 0:=rfl
@[simp] theorem rs_s{x:Option (Bool×D)}{r:Rho}{i:Nat}:fP (x::r) (i+1)=fP r i:=rfl
@[simp] theorem r_set0{x y:Option (Bool×D)}{r:Rho}:(x::r).set 0 y=y::r:=rfl
@[simp] theorem wT{f:List (Md×D)->Option (Md×D)}{xs:List (Md×D)}:d8 f (.ok xs)=Res.of (f xs):=rfl
@[simp] theorem aKP:Bn.f .len=hU:=rfl
@[simp] theorem bn_isi:Bn.f .isinstance=nD:=rfl
@[simp] theorem ty_int:Ty.f .int=j3:=rfl
@[simp] theorem ty_str:Ty.f .str=lF:=rfl
@[simp] theorem ty_tuple:Ty.f .tuple=jX:=rfl
@[simp] theorem ty_dict:Ty.f .dict=nS:=rfl
@[simp] theorem ty_list:Ty.f .list=jY:=rfl
@[simp] theorem tci_i{i:Int}:j3 [(m,.int i)]=some (.fz,.int i):=rfl
@[simp] theorem tci_b{i:Bool}:j3 [(m,.bl i)]=some (.fz,.int (if i then 1 else 0)):=rfl
@[simp] theorem tct_l{i:List D}:jX [(m,.lst i)]=some (.fz,.tup i):=rfl
@[simp] theorem tct_t{i:List D}:jX [(.fz,.tup i)]=some (.fz,.tup i):=rfl
@[simp] theorem tcl_l{i:List D}:jY [(m,.lst i)]=some (.fr,.lst i):=rfl
@[simp] theorem tcl_t{i:List D}:jY [(m,.tup i)]=some (.fr,.lst i):=rfl
@[simp] theorem tcs_i{i:Int}(h:nJ i=true):lF [(m,.int i)]=some (.fz,.str (jZ i)):=by show (if nJ i=true then _ else _)=_;rw[if_pos h]
@[simp] theorem len_s{z:Str}:hU [(m,.str z)]=some (.fz,.int z.length):=rfl
@[simp] theorem len_l{z:List D}:hU [(m,.lst z)]=some (.fz,.int z.length):=rfl
@[simp] theorem len_t{z:List D}:hU [(m,.tup z)]=some (.fz,.int z.length):=rfl
@[simp] theorem itm_l{z:List D}:hV (.ok m (.lst z))=.ok .fz (.lst z):=rfl
@[simp] theorem itm_t{z:List D}:hV (.ok m (.tup z))=.ok .fz (.lst z):=rfl
@[simp] theorem itm_s{z:Str}:hV (.ok m (.str z))=.ok .fz (.lst (jT z)):=rfl
end
theorem eC{n N:Nat}{g:Rho->aF}{ds:List D}{c:Str}{ρ:Rho}(hl:ds.length=n)(h:g (fB N ds)=.exc c ρ):phi n N g ds=.exc c:=by unfold phi;rw[if_pos hl,h];rfl
theorem lW{n:Nat}{Φ:List D->Res}{xs:List (Md×D)}{ds:List D}{c:Str}(hl:ds.length=n)(ha:cB xs=some ds)(h:Φ ds=.exc c):aX n Φ (.ok xs)=.exc c:=by
 show (match cB xs with | some ds=>if ds.length=n then (match Φ ds with | .ok .bo _=>Res.stuck | r=>r) else .stuck | none=>.stuck)=_
 rw[ha];show (if ds.length=n then _ else _)=_;rw[if_pos hl,h]
@[simp] theorem WT_xf{t:TB}{k:Nat}:(WT t k).xf=λc x=>t.xt.lookup (c,x):=by unfold WD.xf;rw[v7]
@[simp] theorem WT_xg{t:TB}{k:Nat}:(WT t k).xg=λc x=>t.xi.lookup (c,x):=by unfold WD.xg;rw[v8]
@[simp] theorem x_rz{c:Str}{ρ:Rho}{xs:List (Md×D)}(h:xs.length<=sizeLine):rzR c ρ (.ok xs)=.exc c ρ:=by show (if xs.length<=sizeLine then _ else _)=_;rw[if_pos h]
section
variable {c x:Str}{ρ ρ':Rho}{m:Md}{d:D}{xt:Str->Str->Option Bool}{hs:List HX}{g:Rho->aF}
@[simp] theorem x_frx:aZ (.exc c)=.exc c:=rfl
@[simp] theorem aKQ{k:Nat}:dQ ρ k (.exc c)=.exc c ρ:=rfl
@[simp] theorem x_retx:fO (.exc c) ρ=.exc c ρ:=rfl
@[simp] theorem tr_nx:j4 xt hs (.nx ρ)=.nx ρ:=rfl
@[simp] theorem tr_rt:j4 xt hs (.rt m d)=.rt m d:=rfl
@[simp] theorem aKR:j4 xt hs (.exc c ρ)=gE xt c ρ hs:=rfl
theorem hn_t{i:Option Nat}(h:xt c x=some true):gE xt c ρ (⟨x,i,g⟩::hs)=unR i (g (inR i c ρ)):=by
 show (match xt c x with | some true=>unR i (g (inR i c ρ)) | some false=>gE xt c ρ hs | none=>.stuck)=_
 rw[h]
end
theorem bG{n N:Nat}{g:Rho->aF}{ds:List D}{m:Md}{d:D}(hl:ds.length=n)(h:g (fB N ds)=.rt m d):phi n N g ds=.ok m d:=by unfold phi;rw[if_pos hl,h];rfl
theorem kI{n:Nat}{Φ:List D->Res}{xs:List (Md×D)}{ds:List D}{d:D}(hl:ds.length=n)(ha:cB xs=some ds)(h:Φ ds=.ok .fz d):aX n Φ (.ok xs)=.ok .fz d:=by
 show (match cB xs with | some ds=>if ds.length=n then (match Φ ds with | .ok .bo _=>Res.stuck | r=>r) else .stuck | none=>.stuck)=_
 rw[ha];show (if ds.length=n then _ else _)=_;rw[if_pos hl,h]
@[simp] theorem call1{Φ:List D->Res}{a d:D}(h:Φ [a]=.ok .fz d):aX 1 Φ (.ok [(.fz,a)])=.ok .fz d:=kI (ds:=[a]) rfl rfl h
@[simp] theorem qP{Φ:List D->Res}{a b d:D}(h:Φ [a,b]=.ok .fz d):aX 2 Φ (.ok [(.fz,a),(.fz,b)])=.ok .fz d:=kI (ds:=[a,b]) rfl rfl h
@[simp] theorem call3{Φ:List D->Res}{a b c d:D}(h:Φ [a,b,c]=.ok .fz d):aX 3 Φ (.ok [(.fz,a),(.fz,b),(.fz,c)])=.ok .fz d:=kI (ds:=[a,b,c]) rfl rfl h
@[simp] theorem wt_cl{t:TB}{k:Nat}:(WT t k).cl=t.cl:=nW t k
theorem bJ{t:TB}{k:Nat}{f:Str}{d:FD}(h:t.T.lookup f=some d):(WT t (k+1)).Φ f=phi d.ps.length d.N.length (evB (WT t k) d.b):=by rw[WT_Φ];unfold lP;rw[h]
@[simp] theorem call4{Φ:List D->Res}{a b c e d:D}(h:Φ [a,b,c,e]=.ok .fz d):aX 4 Φ (.ok [(.fz,a),(.fz,b),(.fz,c),(.fz,e)])=.ok .fz d:=kI (ds:=[a,b,c,e]) rfl rfl h
theorem fE{W:WD}:∀ {x y:List D3.S} {ρ:Rho},evB W (x++y) ρ=(evB W x ρ).thn (evB W y)
 | [],y,ρ=>by simp
 | s::x,y,ρ=>by
  show evB W (s::(x++y)) ρ=_;rw[aU,aU];cases evS W s ρ with
  | nx ρ'=>exact fE
  | _=>rfl
theorem wU{k:D->Rho->Option Rho}{t e:Rho->Res}{ρ0:Rho}{f:D->D}:∀ {ds:List D},(∀ d∈ds,∃ ρ1 m,k d ρ0=some ρ1/\t ρ1=.ok m (.bl true)/\∃ m',aZ (e ρ1)=.ok m' (f d))->cR k t e ρ0 ds=some (ds.map f)
 | [],_=>rfl
 | d::ds,h=>by obtain ⟨ρ1,m,e1,e2,m',e3⟩:=h d mcs;unfold cR;rw[e1];dsimp only;rw[e2];dsimp only;rw[e3];dsimp only;rw[wU λd hd=>h d (mcm hd)];rfl
theorem aKS{ρ:Rho}{aB:List Nat}{n:Nat}{k:D->Rho->Option Rho}{t e:Rho->Res}{m:Md}{ds:List D}(f:D->D)(hl:ds.length<sizeLine)(h:∀ d∈ds,∃ ρ1 m,k d (cI aB ρ++List.replicate n none)=some ρ1/\t ρ1=.ok m (.bl true)/\∃ m',aZ (e ρ1)=.ok m' (f d)):dR (.ok m (.lst ds)) ρ aB n k t e=.ok .fr (.lst (ds.map f)):=by unfold dR;rw[Res.thn_ok];dsimp only;rw[if_pos hl,wU h]
end D3
namespace Tp
open PySem PySem.W PySem.Calls
structure S where
 t:BT
 n:Nat
 k:Nat
 nm:Value
 g:List DictEntry
 tb:List Value
def tupO(vs:List Value):Obj:=⟨.type "tuple", none,.seq vs.toArray 0,#[]⟩
def fldO(c:Value)(vs:List Value):Obj:=⟨c,none,.fields vs.toArray,#[]⟩
def dicO(es:List DictEntry)(e:Nat):Obj:=⟨.type "dict", none,.dict es.toArray e,#[]⟩
def en(P:Params)(x:Str)(k:Nat)(v:Value):DictEntry:=⟨PyData.keyHash P x,.str x k,v⟩
def texts:List Str->Nat->List Value
 | [],_=>[]
 | x::xs,k=>.str x k::texts xs (k+1)
def fileS:Str := "/claim/cut.py"
def codeO(name aP:Str)(k line argc fl:Nat)(isF:Bool)(a:Nat)(ls cs tm:Value)(j:Nat):Obj :=
 fldO (.type "code") [.str name k,.str aP (k+1),.str fileS (k+2),.int line 0,.int argc 0,.int 0 0,.int 0 0,.int fl 0,.ref a,.bool isF,.int 181 0,.ref (a+1),.none,ls,cs,tm,.int j 0,.int line 0,.str fileS (j+1)]
def frmO(code ns:Nat)(nm:Value):Obj:=⟨.type "frame", none,.plain,#[some (.ref code),some (.ref 3),some (.ref ns),none,some nm,none,some (.ref 0)]⟩
def fnD(name aP:Str)(args:Arguments)(body:List Stmt)(sc:Scope)(gl:Nat)(nm cd:Value):FuncData:=⟨name,aP,args,.stmts body,sc,gl,[],.none,.none,.none,nm,none,cd,.none,0⟩
def insL:List Obj->BT->Nat->BT
 | [],t,_=>t
 | o::os,t,n=>insL os (t.ins n o) (n+1)
def layF(name aP:Str)(args:Arguments)(body:List Stmt)(sc:Scope)(line n k:Nat)(nm:Value):List Obj×Nat×Nat :=
 match localNames args sc (.stmts body) with
 | some (ls,cs) =>
  let a:=ls.length
  let b:=cs.length
  ([tupO [],fldO .none [],tupO (texts ls (k+3)),tupO (texts cs (k+3+a)),⟨.none,none,.func (fnD name aP args body sc 0 .none .none),#[]⟩,
   codeO name aP k line args.args.length 3 true n (.ref (n+2)) (.ref (n+3)) (.ref (n+4)) (k+3+a+b),⟨.type "function", none,.func (fnD name aP args body sc 3 nm (.ref (n+5))),#[]⟩],n+5,k+5+a+b)
 | none =>
  ([tupO [],fldO .none [],⟨.none,none,.func (fnD name aP args body sc 0 .none .none),#[]⟩,
   codeO name aP k line args.args.length 3 true n .none .none (.ref (n+2)) (k+3),⟨.type "function", none,.func (fnD name aP args body sc 3 nm (.ref (n+3))),#[]⟩],n+3,k+5)
def look(x:Str):List DictEntry->Option Value
 | []=>none
 | ⟨_,.str y _,v⟩::es=>match decide (x=y) with | true=>some v | false=>look x es
 | _::es=>look x es
structure B where
 t:BT
 n:Nat
 k:Nat
 es:List DictEntry
 tb:List Value
def layB(P:Params)(cn:Str)(nm:Value):List Stmt->B->B
 | .FunctionDef name args body _ _ _ sc _ _ pos::r,⟨t,n,k,es,tb⟩ =>
  match layF name (cn ++ "." ++ name) args body sc pos.line n k nm with
  | (os,c,j)=>layB P cn nm r ⟨insL os t n,n+os.length,j+1,en P name j (.ref (c+1))::es,.ref c :: .int pos.col 0 :: .int pos.line 0::tb⟩
 | _::r,b=>layB P cn nm r b
 | [],b=>b
def mroOf(t:BT)(a:Nat):List Value×Value:=match t.get a with
 | some ⟨_,_,.cls c,sl⟩=>(c.mro,(sl.getD 4 none).getD .none)
 | _=>([],.none)
def subTo(a:Nat):Obj->Obj
 | ⟨c,d,.cls k,sl⟩=>⟨c,d,.cls { k with subclasses:=k.subclasses++[.ref a] },sl⟩
 | o=>o
def layC(P:Params)(name:Str)(bases:List PySem.Expr)(body:List Stmt)(st:List Str)(line:Nat):S->S
 | ⟨t,n,k,nm,g,tb⟩ =>
  let bs:List Value:=match bases with
   | .Name b _::_=>(match look b g with | some v=>[v] | none=>[.type "ValueError"])
   | _=>[]
  let n2:=n+2
  let t1:=insL [tupO bs,fldO (.type "builtin_function_or_method") [.builtin "type.__prepare__", .type "type"],dicO [] 0,tupO [],fldO .none [],codeO name name (k+2) line 0 0 false (n+3) .none .none .none (k+5),frmO (n+5) n2 nm] t n
  match layB P name nm body ⟨t1,n+7,k+12,[en P "__firstlineno__" (k+11) (.int line (k+10)),en P "__qualname__" (k+9) (.str name (k+8)),en P "__module__" (k+7) nm],[]⟩ with
  | ⟨t2,m,j,es,ct⟩ =>
   let es1:=en P "__static_attributes__" (j+st.length) (.ref m)::es
   let j1:=j+st.length+1
   let t3:=(t2.set n2 λ_=>dicO es1.reverse es1.length).set (n+4) λ_=>fldO .none ct.reverse
   let cl:=m+2
   let cp:=(es1.reverse.take 1)++(es1.reverse.drop 2)
   let fin (mro:List Value) (nw:Value) (bv:List Value) (sl0:Option Value) (xs:List DictEntry) (gs:List Obj) (t:BT) (j:Nat):S :=
    let os:=[tupO (texts st (m-m+(j1-1-st.length))),dicO (cp++xs++[en P "__doc__" j .none]) (2+xs.length),⟨.type "type", none,.cls ⟨name,bv,.ref cl::mro,m+1,name,true,[],[],false,none,false⟩,#[sl0,none,some (.str name k),some (.str name (k+8)),some nw,some (.bool true)]⟩]
     ++ gs++[fldO (.type "super") [.ref cl,.ref cl,.ref cl],fldO (.type "builtin_function_or_method") [.builtin "object.__init_subclass__", .ref cl]]
    ⟨insL os t m,m+os.length,j+3,nm,en P name (j+2) (.ref cl)::g,.ref (n+5) :: .int 0 0 :: .int line 0::tb⟩
   let gw (j a:Nat):=fldO (.type "getset_descriptor") [.str "__weakref__" j,.ref cl,.builtin "ExceptionGroup.__weakref__", .none]
   match bs with
   | [] => fin [.type "object"] (.builtin "object.__new__") [.type "object"] none [en P "__dict__" (j1 + 1) (.ref (m + 3)), en P "__weakref__" (j1 + 3) (.ref (m + 4))]
       [fldO (.type "getset_descriptor") [.str "__dict__" j1,.ref cl,.builtin "function.__dict__", .builtin "function.__dict__#set"],gw (j1+2) 0] t3 (j1+4)
   | .ref a::_=>match mroOf t3 a with
    | (mro,nw)=>fin mro nw bs (some (.ref n)) [] [] (t3.set a (subTo cl)) j1
   | _=>fin [.type "ValueError", .type "Exception", .type "BaseException", .type "object"] (.builtin "ValueError.__new__") bs (some (.ref n)) [en P "__weakref__" (j1+1) (.ref (m+3))] [gw j1 0] t3 (j1+2)
def keysD(P:Params)(g:List DictEntry):List (Option PySem.Expr)->List PySem.Expr->Nat->List DictEntry
 | some (.Constant (.str x) _ _)::ks,.Name y _::vs,k=>en P x k ((look y g).getD .none)::keysD P g ks vs (k+1)
 | _,_,_=>[]
def put(P:Params)(x:Str)(v:Value)(t:BT)(n k:Nat)(nm:Value)(g:List DictEntry)(tb:List Value):S:=match decide (x = "__name__") with
 | true=>⟨t,n,k+1,v,g,tb⟩
 | false=>⟨t,n,k+1,nm,en P x k v::g,tb⟩
def lay1(P:Params):Stmt->S->S
 | .FunctionDef name args body _ _ _ sc _ _ pos,⟨t,n,k,nm,g,tb⟩=>match layF name name args body sc pos.line n k nm with
  | (os,c,j)=>⟨insL os t n,n+os.length,j+1,nm,en P name j (.ref (c+1))::g,.ref c :: .int pos.col 0 :: .int pos.line 0::tb⟩
 | .ClassDef name bases _ body _ _ _ _ _ st pos,s=>layC P name bases body st pos.line s
 | .Assign [.Name x _] (.Constant (.str v) _ _) _,⟨t,n,k,nm,g,tb⟩=>put P x (.str v k) t n (k+1) nm g tb
 | .Assign [.Name x _] (.Constant (.int v) _ _) _,⟨t,n,k,nm,g,tb⟩=>put P x (.int v k) t n (k+1) nm g tb
 | .Assign [.Name x _] (.Dict ks vs _) _,⟨t,n,k,nm,g,tb⟩=>put P x (.ref n) (t.ins n (dicO (keysD P g ks vs k) vs.length)) (n+1) (k+2 * vs.length) nm g tb
 | _,s=>s
def lay(P:Params):List Stmt->S->S
 | [],s=>s
 | st::r,s=>lay P r (lay1 P st s)
def s0(os:List Obj):S :=
 ⟨insL [tupO [],fldO .none [],codeO "<module>" "<module>" 182 1 0 0 false 11 .none .none .none 185,frmO 13 3 (.str "__main__" 164)] (insL os .nil 0) 11,15,187,.str "__main__" 164,[],[]⟩
def nameTo(nm:Value):List DictEntry->List DictEntry
 | e::es=>{ e with val:=nm }::es
 | []=>[]
def mainTo(nm:Value)(g:List DictEntry):Obj->Obj
 | ⟨c,d,.dict es e,sl⟩=>⟨c,d,.dict (nameTo nm es.toList++g.reverse).toArray (e+g.length),sl⟩
 | o=>o
def S.bt(s:S):BT:=(s.t.set 3 (mainTo s.nm s.g)).set 12 λ_=>fldO .none s.tb.reverse
open PyProof.Rows
def z0:Pos:=⟨0,0,0,0⟩
def an:Option Value:=some (.ref 6)
def ev(p:Program):Env:={ scope:=p.main.scope,locals:=mainNs,globals:=mainNs,cells:=[],code:=.ref 13,frame:=some 14 }
def cd(p:Program):Code:=.body (behindTheImports p) (ev p)
def go(tb:String->Option Builtin)(p:Program)(w:World)(F:Nat):List Stmt->SharedT->Code->Pos->Option (SharedT×Code×Pos)
 | [],s,c,q=>some (s,c,q)
 | st::l,s,c,q=>match segRunT tb p w 11 an 1 F s (pieceOf st (ev p) c q [topFrame z0]) with
  | some (.next,s',c',q')=>go tb p w F l s' c' q'
  | _=>none
def ns(F N:Nat):List Stmt->Nat
 | []=>N
 | _::l=>F+ns F N l
section
variable {tb:String->Option Builtin}{p:Program}{w:World}
theorem one{n N:Nat}{s s' r:Shared}{st:Stmt}{bB:List Stmt}{c c':Code}{e:Env}{q q':Pos}(h:segRun tb p w 11 an 1 n s (pieceOf st e c q [topFrame z0])=some (.next,s',c',q'))(k:topRun tb p w 11 an N s' (restOf bB e c' q' [topFrame z0])=some r):topRun tb p w 11 an (n+N) s (restOf (st::bB) e c q [topFrame z0])=some r:=by
 obtain ⟨a,ha,hN⟩:=seg_top (B:=[topFrame z0]) (res:=id)
  (K':=λf=>match f with
   | .next=>(execs bB e).wrap doneF (leaveH e) id id
   | f=>doneF f)
  (H':=leaveH e) rfl n s (pieceOf st e c q [topFrame z0])
  ⟨(exec st e).wrap (λf=>match f with
   | .next=>(execs bB e).wrap doneF (leaveH e) id id
   | f=>doneF f) (leaveH e) id id,c,q,[topFrame z0]⟩ _ _ _ _ ⟨rfl,rfl,.inl ⟨rfl,rfl,_,rfl,rfl⟩⟩ h
 cases ha;unfold restOf;rw[execs_cons_wrap];exact hN N r k
theorem go_top'{F:Nat}:∀ (l:List Stmt) {s s':SharedT} {c c':Code} {q q':Pos},go tb p w F l s c q=some (s',c',q')->∀ {N:Nat} {r:Shared} {bB:List Stmt},topRun tb p w 11 an N s'.abs (restOf bB (ev p) c' q' [topFrame z0])=some r->topRun tb p w 11 an (ns F N l) s.abs (restOf (l++bB) (ev p) c q [topFrame z0])=some r
 | [],_,_,_,_,_,_,h,_,_,_,k=>by cases h;exact k
 | st::l,s,s',c,c',q,q',h,N,r,bB,k=>by
  unfold go at h;split at h
  . rename_i x e;exact one (segRun_of e) (go_top' l h k)
  . cases h
theorem fin2(s:Shared)(c:Code)(q:Pos):topRun tb p w 11 an 2 s (restOf [] (ev p) c q [topFrame z0])=some s:=by obtain ⟨h,g,d,k,o⟩:=s;rfl
noncomputable def sh(P:Params)(S:S)(n k:Nat)(os:OsState):SharedT:=⟨S.bt,n,(boot_heap P).life,#[],boot_drawn,k,os⟩
noncomputable def sA(P:Params):S:=s0 (boot_heap P).objs.toList
theorem run_of{l:List Stmt}{n k:Nat}{c':Code}{q':Pos}(hl:behindTheImports p=l)(pre:∀ (w:World) (os:OsState),topGo treeTable p w 11 an 12 ⟨boot_heap w.params,#[],boot_drawn,boot_toks,os⟩ (topStub p)=some ((sh w.params (sA w.params) 15 187 os).abs,⟨denote treeTable (cd p),cd p,z0,[topFrame z0]⟩))(blk:∀ (w:World) (s:Shared),segRun treeTable p w 11 an 1 1 s (blockOf l (ev p) (cd p) z0 [topFrame z0])=some (.next,s,cd p,z0))(run:∀ (w:World) (os:OsState),go treeTable p w 1000 l (sh w.params (sA w.params) 15 187 os) (cd p) z0=some (sh w.params (lay w.params l (sA w.params)) n k os,c',q')):∀ (w:World) (os:OsState),topRun treeTable p w 11 an (12+(1+ns 1000 2 l)) ⟨boot_heap w.params,#[],boot_drawn,boot_toks,os⟩ (topStub p)=some (sh w.params (lay w.params l (sA w.params)) n k os).abs:=by
 intro w os;refine go_top (pre w os) ?_;unfold cd;rw[hl];refine piece_block (n:=1) (by have:=blk w (sh w.params (sA w.params) 15 187 os).abs;unfold cd at this;rw[hl] at this;exact this) ?_
 have:=go_top' l (run w os) (bB:=[]) (fin2 _ _ _);rw[aN6] at this;unfold cd at this;rw[hl] at this;exact this
end
noncomputable def KK(l:List Stmt)(as:List Addr)(P:Params):Frag:=as.map λa=>(a,((lay P l (sA P)).bt.get a).getD default)
theorem KK_e(l:List Stmt)(as:List Addr)(P:Params):as=(KK l as P).map (·.1):=by unfold KK;rw[aQO];exact (List.map_id as).symm
noncomputable def hk(l:List Stmt)(as:List Addr):Hook:=kHook (KK l as) as (KK_e l as)
noncomputable def H1(l:List Stmt)(n:Nat)(P:Params):Heap:=absHeap (lay P l (sA P)).bt n (boot_heap P).life
noncomputable def S1(l:List Stmt)(n k:Nat)(P:Params)(os:OsState):Shared:=⟨H1 l n P,#[],boot_drawn,k,os⟩
def bnd(n:Str):Stmt->List Str
 | .FunctionDef x ..=>if x==n then [] else [x]
 | .ClassDef x ..=>[x]
 | .Assign [.Name x _] _ _=>if x == "__name__" then [] else [x]
 | _=>[]
def los(l:List Stmt):List Str:=l.flatMap (bnd "law")
def vw(p:Program):Program:={ p with main:={ p.main with body:=p.main.body.filter λst=>match st with | .FunctionDef x ..=>x == "law" | _=>false } }
def xt(r:OpenRow)(s:Shared):Bool:=xlAt (vw r.prog) [] s&&recOk r.toRowW.records s
theorem size1(w:World):((boot_heap w.params).isNs mainGlobals&&(#[]:Array GenState).size==0,(boot_heap w.params).objs.size,(boot_heap w.params).nsMap mainGlobals "__annotations__")=(true,11,an):=by kernel_rfl
end Tp
theorem Tp.twA:Prod.fst (true,(@Tp.go,@Tp.lay,@Tp.sh,@Tp.sA,@Tp.cd,@Tp.ev,@Tp.S.bt,@Tp.KK,@Tp.hk,@Tp.H1,@Tp.S1,@Tp.los,@Tp.vw,@Tp.xt))=true:=by k_qdec
namespace D3
open PySem PySem.Spec PySem.Calls PyProof.Rows L2
theorem wV:∀ {ps:List Str} {us:List Value},ps.Nodup->us.length=ps.length->ps.filterMap (λn=>((ps.zip us).lookup n).map (n,·))=ps.zip us/\∀ n∈ps,((ps.zip us).lookup n).isNone=false
 | [],us,_,_=>⟨rfl,λ_ h=>by cases h⟩
 | p::ps,[],_,h=>by cases h
 | p::ps,u::us,nd,h=>by
  obtain ⟨h1,h2⟩:=aN7.mp nd;obtain ⟨i1,i2⟩:=wV (us:=us) h2 (Nat.succ.inj h);have e:∀ n∈ps,((p,u)::ps.zip us).lookup n=(ps.zip us).lookup n:=λn hn=>by rw[aP0];have:(n==p)=false:=aM6.mpr λz=>h1 (z ▸ hn);rw[this]
  refine ⟨?_,λn hn=>?_⟩
  . rw[List.zip_cons_cons,aNJ,aP0,aP1];dsimp only[Option.map];refine congrArg _ (Eq.trans ?_ i1);have c:∀ l:List Str,(∀ n∈l,n∈ps)->l.filterMap (λn=>(((p,u)::ps.zip us).lookup n).map (n,·))=l.filterMap (λn=>((ps.zip us).lookup n).map (n,·)):=by
      intro l hl
      induction l with
      | nil=>rfl
      | cons a l ih=>rw[aNJ,aNJ,e a (hl a mcs),ih λn hn=>hl n (mcm hn)]
    exact c ps λ_ h=>h
  . rw[List.zip_cons_cons];rcases aNK.mp hn with rfl | hn
    . rw[aP0,aP1];rfl
    . rw[e n hn];exact i2 n hn
theorem aKT{fd:FuncData}{ps:List Str}(h1:fd.params.posonlyargs=[])(h2:fd.params.args.map (·.arg)=ps)(h3:fd.params.vararg=none)(h4:fd.params.kwonlyargs=[])(h5:fd.params.kwarg=none)(hd:fd.defaults=.none)(h6:ps.Nodup)(us:List Value)(hl:us.length=ps.length):bindArgs fd ⟨us,[]⟩=pure (ps.zip us):=by
 obtain ⟨z1,z2⟩:=wV h6 hl;have z3:(ps.take (ps.length-0)).filter (λn=>((ps.zip us).lookup n).isNone)=[]:=by rw[Nat.sub_zero,aQM,List.filter_eq_nil_iff];intro n hn;rw[z2 n hn];decide
 unfold bindArgs;simp only[h1,h2,h3,h4,h5,hd,List.map_nil,List.nil_append,aN6,aPX,aPZ,hl,aNC,seqItems?];have q:(do notAStandIn Value.none;pure none:Sem (Option (Array Value)))=pure none:=rfl
 rw[q];simp only[aPZ,aO2,List.length_nil,Nat.zero_sub,aP5,z3,decide_false,Bool.false_and,Bool.false_eq_true,aOQ,List.isEmpty_nil,Bool.not_true,List.zip_nil_right,aPX,z1,Array.toList_empty,List.drop_nil]
noncomputable def adB(K:Fg)(x:Str):Option Addr:=match PySem.W.nsIn K mainGlobals x with | some (some (.ref a))=>some a | _=>none
theorem eD{K:Fg}{x:Str}{a:Addr}(h:adB K x=some a):PySem.W.nsIn K mainGlobals x=some (some (.ref a)):=by
 unfold adB at h;split at h
 . rename_i b e;cases h;exact e
 . cases h
noncomputable def isKey(key:Str):Addr×Obj->Bool
 | (_,⟨.type t,_,.func fd,_⟩)=>t == "function" && fd.qualname==key
 | _=>false
noncomputable def faK(K:Fg)(key:Str):Addr:=match K.find? (isKey key) with | some p=>p.1 | none=>0
noncomputable def stOf(fd:FuncData)(b:List Stmt):Stmt:=.FunctionDef fd.name fd.params b [] none [] fd.scope none fd.name ⟨0,0,0,0⟩
noncomputable def parB(p:Arguments)(ps:List Str):Bool:=p.posonlyargs.isEmpty&&(p.args.map (·.arg)==ps)&&p.vararg.isNone&&p.kwonlyargs.isEmpty&&p.kwarg.isNone&&decide ps.Nodup
noncomputable def fdB(K:Fg)(nm:Option Str)(key:Str)(a:Addr)(ps:List Str)(f:Stmt->Bool)(fd:FuncData)(b:List Stmt):Bool :=
 (nm.getD fd.name==fd.name)&&((fd.qualname==key)&&(fd.globals==mainGlobals&&(fd.closure.isEmpty&&((fd.defaults == .none)&&(fd.builtins==builtinsNs&&(PySem.W.codeIn K fd.code key&&(PySem.W.keepIn K (.ref a)&&(parB fd.params ps&&f (stOf fd b)))))))))
noncomputable def kJ(K:Fg)(nm:Option Str)(key:Str)(a:Addr)(ps:List Str)(f:Stmt->Bool):Bool:=match K.lookup a with
 | some ⟨_,_,.func fd,_⟩=>(match fd.body with
  | .stmts b=>fdB K nm key a ps f fd b
  | _=>false)
 | _=>false
theorem qQ{K:Fg}{nm:Option Str}{key:Str}{a:Addr}{ps:List Str}{f:Stmt->Bool}(h:kJ K nm key a ps f=true):∃ name st fd,Fun K name key st a fd/\fK K fd ps []/\f st=true/\nm.getD name=name/\∀ us:List Value,us.length=ps.length->bindArgs fd ⟨us,[]⟩=pure (ps.zip us):=by
 unfold kJ at h;split at h
 . rename_i oc od fd sl el;split at h
   . rename_i b eb;unfold fdB at h;simp only[aOX] at h;obtain ⟨h1,h2,h3,h4,h5,h6,h7,h8,h9,h10⟩:=h;obtain ⟨name,qualname,params,body,scope,globals,closure,defaults,kwdefaults,doc,pm,an,code,ct,bl⟩:=fd;dsimp only at *;obtain rfl:=eb;obtain rfl:=aPQ.mp h2;obtain rfl:=aPQ.mp h3;obtain rfl:=List.isEmpty_iff.mp h4;obtain rfl:=aPQ.mp h5;obtain rfl:=aPQ.mp h6;unfold parB at h9;simp only[aOX,List.isEmpty_iff,aPQ,Option.isNone_iff_eq_none,aPF] at h9;obtain ⟨⟨⟨⟨⟨p1,p2⟩,p3⟩,p4⟩,p5⟩,p6⟩:=h9;have bp:=aKT (fd:=PySem.W.fnOf name qualname params b scope .none kwdefaults doc pm an code ct) p1 p2 p3 p4 p5 rfl p6;exact ⟨name,_,_,aDG (st:=stOf ⟨name,qualname,params,.stmts b,scope,mainGlobals,[],.none,kwdefaults,doc,pm,an,code,ct,builtinsNs⟩ b) el h7 h8,.all bp,h10,aPQ.mp h1,bp⟩
   . cases h
 . cases h
noncomputable def gvB(K:Fg)(x:Str):GV->Bool
 | .con (.s y)=>(match PySem.W.nsIn K mainGlobals x with | some (some (.str z _))=>z==y | _=>false)
 | .con (.i n)=>(match PySem.W.nsIn K mainGlobals x with | some (some (.int z _))=>z==n | _=>false)
 | .con (.t _)=>true
 | .no=>PySem.W.nsIn K mainGlobals x==some none
 | .fn _=>PySem.W.nsIn K mainGlobals x==some (some (.ref (faK K x)))
 | .cls=>true
noncomputable def n9(K:Fg)(C:Addr):Bool:=PySem.W.plainGet K C Str.empty&&(PySem.W.hasDictIn K C&&(PySem.W.plainOver K C&&PySem.W.findIn K (.ref C) "__setattr__" == some (some (.builtin "object.__setattr__"))))
theorem wW{K:Fg}{C:Addr}(h:n9 K C=true):Cls K C:=by unfold n9 at h;simp only[aOX,aPQ] at h;exact ⟨h.1,h.2.1,h.2.2.1,h.2.2.2⟩
noncomputable def qR(K:Fg)(C:Addr)(x:Str×Str×Nat):Bool:=PySem.W.findIn K (.ref C) x.1==some (some (.ref (faK K x.2.1)))&&(PySem.W.isFn K (.ref (faK K x.2.1))&&PySem.W.keepIn K (.ref (faK K x.2.1)))
noncomputable def ciB(K:Fg)(i:CI):Bool:=match adB K i.name with
 | some C=>n9 K C&&(i.meths.all (qR K C)&&i.flds.all λf=>PySem.W.findIn K (.ref C) f==some none)
 | none=>false
noncomputable def mk0B(K:Fg)(c:Str):Bool:=match adB K c with
 | some C=>PySem.W.makesIn K C&&(PySem.W.findIn K (.ref C) "__init__" == some (some (.builtin "object.__init__"))&&PySem.W.keepIn K (.ref C))
 | none=>false
noncomputable def clB(K:Fg)(C:Addr):Bool:=PySem.W.findIn K (.ref C) "__class__" == some (some (.builtin "object.__class__"))&&(PySem.W.specialIn K (.builtin "object.__class__") "__get__" == some (some (.builtin "getset_descriptor.__get__"))&&(PySem.W.takesIn K (.builtin "object.__class__")==some true&&PySem.W.mroIn K C (.type "object")==some true))
noncomputable def isoB(K:Fg)(cl:List CI)(c:Str):Bool:=match adB K c with
 | some C=>["NoneType", "bool", "int", "str", "tuple", "list", "dict"].all (λt=>PySem.W.kitOne K (.type t) (.ref C)==some false)&&cl.all λi=>match adB K i.name with
  | some C'=>n9 K C'&&(clB K C'&&PySem.W.kitOne K (.ref C') (.ref C)==some (i.ups.contains c))
  | none=>false
 | none=>false
noncomputable def inB(K:Fg)(g:MG)(x:Str×ID):Bool:=match adB K x.2.c with
 | some C=>PySem.W.makesIn K C&&(PySem.W.findIn K (.ref C) "__init__" == some (some (.ref (faK K x.1)))&&(PySem.W.isFn K (.ref (faK K x.1))&&(PySem.W.keepIn K (.ref C)&&kJ K none x.1 (faK K x.1) x.2.ps (λst=>idOk g st x.2))))
 | none=>false
noncomputable def xtB(K:Fg)(x:(Str×Str)×Bool):Bool:=match adB K x.1.1,adB K x.1.2 with
 | some C,some C2=>PySem.W.mroIn K C2 (.type "BaseException")==some true&&(PySem.W.typeIn K (.ref C2)==some (.type "type")&&PySem.W.mroIn K C (.ref C2)==some x.2)
 | _,_=>false
noncomputable def xcB(K:Fg)(C:Addr):Bool:=PySem.W.findIn K (.ref C) "__getattribute__" == some (some (.builtin "BaseException.__getattribute__"))&&(PySem.W.findIn K (.ref C) "__getattr__" == some none&&(PySem.W.mroIn K C (.type "BaseException")==some true&&clB K C))
noncomputable def cvB(K:Fg)(n:Str):Option V:=match PySem.W.nsIn K mainGlobals n with
 | some (some (.ref C))=>some (.ref C)
 | some none=>if n == "__name__" then none else (match bootBuiltins n with | some (.type T)=>some (.ty T) | _=>none)
 | _=>none
noncomputable def xiB(K:Fg)(x:(Str×Str)×Bool):Bool:=match adB K x.1.1,cvB K x.1.2 with
 | some C,some cv=>xcB K C&&PySem.W.kitOne K (.ref C) (nP cv)==some x.2
 | _,_=>false
noncomputable def rzB(K:Fg)(c:Str):Bool:=match adB K c with
 | some C=>PySem.W.excIn K C qA "ValueError.__new__"
 | none=>false
noncomputable def gfB(K:Fg)(g:MG)(t:TB):Bool :=
 g.G.all (λx=>gvB K x.1 x.2)&&(gOk g.G t.T&&(t.T.all (λx=>kJ K (if x.1 == "law" then some "law" else none) x.1 (faK K x.1) x.2.ps (λst=>i4 g st x.2))&&(t.I.all (inB K g)&&(g.mk0.all (mk0B K)&&(wC g.mki t.I&&(g.iso.all (isoB K t.cl)&&(t.cl.all (ciB K)&&(mtOk t.cl t.T&&(t.xt.all (xtB K)&&(t.xi.all (xiB K)&&(g.xcs.all (rzB K)&&g.xns.all (λn=>(cvB K n).isSome))))))))))))
section
variable {w:World}{K:Fg}{mg:SOV}{h:Heap}(X:K.In h)(G:h.Ns mainGlobals mg)
include X G
theorem wX:∀ {l:List (Str×GV)},(∀ x tb,(x,GV.con (.t tb))∈l->iF w K mg x tb)->l.all (λx=>gvB K x.1 x.2)=true->lS w K mg (faK K) l
 | [],_,_=>trivial
 | (x,v)::l,ht,b=>by
  rw[aO4,aOX] at b;refine ⟨?_,wX (λx tb hx=>ht x tb (mcm hx)) b.2⟩;have b:=b.1;dsimp only at b;cases v with
  | con c =>
   cases c with
   | s y =>
    have b:(match PySem.W.nsIn K mainGlobals x with | some (some (.str z _))=>z==y | _=>false)=true:=b
    split at b
    . rename_i z t e;cases aPQ.mp b;exact ⟨t,aQN X G e⟩
    . cases b
   | i y =>
    have b:(match PySem.W.nsIn K mainGlobals x with | some (some (.int z _))=>z==y | _=>false)=true:=b
    split at b
    . rename_i z t e;cases aPQ.mp b;exact ⟨t,aQN X G e⟩
    . cases b
   | t tb=>exact ht x tb mcs
  | fn n=>exact aQN X G (aPQ.mp b)
  | no=>exact PySem.W.mg_none_of X G (aPQ.mp b)
  | cls=>trivial
theorem wY{n:Str}{cv:V}(e:cvB K n=some cv):gH mg n cv:=by
 unfold cvB at e;split at e
 . rename_i C q;cases e;exact .inl ⟨C,aQN X G q,rfl⟩
 . rename_i q;split at e
   . cases e
   . rename_i hn;split at e
     . rename_i T hb;cases e;exact .inr ⟨PySem.W.mg_none_of X G q,by simpa using hn,T,hb,rfl⟩
     . cases e
 . cases e
end
theorem wZ{K:Fg}{g:MG}:∀ {l:List (Str×FD)},l.all (λx=>kJ K (if x.1 == "law" then some "law" else none) x.1 (faK K x.1) x.2.ps (λst=>i4 g st x.2))=true->lQ K g (faK K) l
 | [],_=>trivial
 | (x,d)::l,b=>by rw[aO4,aOX] at b;obtain ⟨name,st,fd,F,hb,ok,_,_⟩:=qQ b.1;exact ⟨⟨name,st,fd,F,hb,ok⟩,wZ b.2⟩
theorem w6{K:Fg}{C:Addr}:∀ {l:List (Str×Str×Nat)},l.all (qR K C)=true->kB K (faK K) C l
 | [],_=>trivial
 | (m,key,n)::l,b=>by rw[aO4,aOX] at b;have b1:=b.1;unfold qR at b1;simp only[aOX,aPQ] at b1;exact ⟨⟨b1.1,b1.2.1,b1.2.2⟩,w6 b.2⟩
theorem w8{K:Fg}{C:Addr}:∀ {l:List Str},l.all (λf=>PySem.W.findIn K (.ref C) f==some none)=true->kC K C l
 | [],_=>trivial
 | f::l,b=>by rw[aO4,aOX] at b;exact ⟨aPQ.mp b.1,w8 b.2⟩
theorem xA{K:Fg}:∀ {l:List CI},l.all (ciB K)=true->lT K (faK K) l
 | [],_=>trivial
 | i::l,b=>by
  rw[aO4,aOX] at b;refine ⟨?_,xA b.2⟩;have b:=b.1;unfold ciB at b;split at b
  . rename_i C e;simp only[aOX] at b;exact ⟨C,eD e,wW b.1,w6 b.2.1,w8 b.2.2⟩
  . cases b
section
variable {w:World}{K:Fg}{mg:SOV}{h:Heap}(X:K.In h)(G:h.Ns mainGlobals mg)
include X G
theorem xB{g:MG}:∀ {l:List (Str×ID)},l.all (inB K g)=true->lR K mg g l
 | [],_=>trivial
 | (x,d)::l,b=>by
  rw[aO4,aOX] at b;refine ⟨?_,xB b.2⟩;have b:=b.1;unfold inB at b;split at b
  . rename_i C e;simp only[aOX,aPQ] at b;obtain ⟨b1,b2,b3,b4,b5⟩:=b;obtain ⟨name,st,fd,F,hb,ok,_,_⟩:=qQ b5;exact ⟨name,st,C,_,fd,eD e,aQN X G (eD e),⟨b1,b2,b3,b4⟩,F,hb,ok⟩
  . cases b
omit X G in
theorem qS{c x:Str}{v:Bool}:∀ {l:List ((Str×Str)×Bool)},l.lookup (c,x)=some v->((c,x),v)∈l
 | [],e=>by cases e
 | (y,b)::l,e=>by
  rw[aP0] at e;split at e
  . rename_i hb;cases e;rw[<- aPQ.mp hb];exact mcs
  . exact mcm (qS e)
theorem xt_of{l:List ((Str×Str)×Bool)}(b:l.all (xtB K)=true):j5 K mg (λc x=>l.lookup (c,x)):=λc x v e=>by
 have b:=aQQ.mp b ((c,x),v) (qS e);unfold xtB at b;split at b
 . rename_i C C2 e1 e2;simp only[aOX,aPQ] at b;exact ⟨C,C2,eD e1,aQN X G (eD e1),aQN X G (eD e2),b.1,b.2.1,b.2.2⟩
 . cases b
theorem xi_of{l:List ((Str×Str)×Bool)}(b:l.all (xiB K)=true):nQ K mg (λc x=>l.lookup (c,x)):=λc x v e=>by
 have b:=aQQ.mp b ((c,x),v) (qS e);unfold xiB at b;split at b
 . rename_i C cv e1 e2;unfold xcB clB at b;simp only[aOX,aPQ] at b;obtain ⟨⟨b1,b2,b3,b4,b5,b6,b7⟩,b8⟩:=b;exact ⟨C,cv,eD e1,⟨b1,b2,b4,b3,b7,b5,b6⟩,wY X G e2,b8⟩
 . cases b
theorem gf_of{g:MG}{t:TB}(b:gfB K g t=true)(ht:∀ x tb,(x,GV.con (.t tb))∈g.G->iF w K mg x tb):GF w K mg g t (faK K):=by
 unfold gfB at b;simp only[aOX] at b;obtain ⟨b1,b2,b3,b4,b5,b6,b7,b8,b9,b10,b11,b12,b13⟩:=b;refine ⟨wX X G ht b1,b2,wZ b3,xB X G b4,λc hc=>?_,b6,λc hc=>?_,xA b8,b9,xt_of X G b10,xi_of X G b11,λc hc=>?_,λn hn=>?_⟩
 . have b:=aQQ.mp b5 c hc;unfold mk0B at b;split at b
   . rename_i C e;simp only[aOX,aPQ] at b;exact ⟨C,eD e,aQN X G (eD e),b.1,b.2.1,b.2.2⟩
   . cases b
 . have b:=aQQ.mp b7 c hc;unfold isoB at b;split at b
   . rename_i C e;rw[aOX] at b;refine ⟨C,aQN X G (eD e),λt ht=>aPQ.mp (aQQ.mp b.1 t ht),λi hi=>?_⟩;have b:=aQQ.mp b.2 i hi;split at b
     . rename_i C' e';unfold clB at b;simp only[aOX,aPQ] at b;obtain ⟨c1,⟨c2,c3,c4,c5⟩,c6⟩:=b;exact ⟨C',eD e',wW c1,c2,c3,c4,c5,c6⟩
     . cases b
   . cases b
 . have b:=aQQ.mp b12 c hc;unfold rzB at b;split at b
   . rename_i C e;exact ⟨C,aQN X G (eD e),b⟩
   . cases b
 . have b:=aQQ.mp b13 n hn;cases e:cvB K n with
   | none=>rw[e] at b;cases b
   | some cv=>exact ⟨cv,wY X G e⟩
end
noncomputable def qT(K:Fg)(g:MG)(t:TB):Bool:=gfB K g t&&PySem.W.nsIn K mainGlobals "law" == some (some (.ref (faK K "law")))
theorem xC{x:Str}{d:FD}:∀ {l:List (Str×FD)},l.lookup x=some d->(x,d)∈l
 | [],e=>by cases e
 | (y,b)::l,e=>by
  rw[aP0] at e;split at e
  . rename_i hb;cases e;rw[<- aPQ.mp hb];exact mcs
  . exact mcm (xC e)
theorem walkG{l:PySem.W.OpenLaw}{q:Program}{loose:List Str}{XP:(Str->Option Value)->Heap->Prop}{YP:World->Heap->Prop}{d:DefRec}{K:Params->Fg}{g:MG}{t:TB}{kk:Nat}{x:Str}{e:FD}(hn:l.most=some 63)(hdf:d.params.defaults=[])(hdn:d.name = "law")(hY:∀ (w:World) (h:Heap),YP w h->(K w.params).In h)(b:∀ P,qT (K P) g t=true)(ht:∀ (w:World) (mg:SOV) (h:Heap),(K w.params).In h->h.Ns mainGlobals mg->∀ x tb,(x,GV.con (.t tb))∈g.G->iF w (K w.params) mg x tb)(hT:t.T.lookup ("law" : Str)=some e)(hps:e.ps=[x])(hr:cN (kk+1) callerA)(main:∀ ns:List Int,ns.length<=63->(WT t (kk+1)).Φ "law" (nG ns)=.ok .fz (.bl true)):PySem.W.WalkO q loose XP YP l.row.toRowW d [] (λf vs=>PySem.call f vs):=by
 refine L2.aDF (n:=63) (k:=kk+1) (x:=x) (CX:=λw=>CX1 l.prog w) (sp:=λw=>qL (K w.params) ((WT t (kk+1)).Φ ("law" : Str))) hn (by decide) hdf hr hY (λw mg fa h KX G hmg=>?_)
  (λ_ _ a ns hl _ hS=>⟨a,ns,rfl,hS,main ns hl,λ_=>rfl⟩) λ_ _ _ _ _ z=>by obtain ⟨_,_,_,_,_,_,_,_,_,_,z⟩:=z;exact z
 have b:=b w.params;unfold qT at b;rw[aOX,aPQ] at b;have f:=gf_of (w:=w) KX G b.1 (ht w mg h KX G);have e1:=aQN KX G b.2;rw[hdn,e1] at hmg;cases hmg;have b3:t.T.all (λx=>kJ (K w.params) (if x.1 == "law" then some "law" else none) x.1 (faK (K w.params) x.1) x.2.ps (λst=>i4 g st x.2))=true:=by have:=b.1;unfold gfB at this;simp only[aOX] at this;exact this.2.2.1
 obtain ⟨name,st,fd,F,hb,ok,hnm,bp⟩:=qQ (aQQ.mp b3 (("law" : Str),e) (xC hT));have hnm:name = "law" := hnm.symm;subst hnm;refine ⟨fd,λs u=>.of_eq ?_,λbase _ _=>?_⟩
 . have:=bp [u] (by rw[hps];rfl)
   rw[hps] at this;exact this
 . have:=aJ8 (P:=l.prog) (base:=base) f kk F hT ok (by rw[hps];rfl)
   rw[hps] at this;exact this
end D3
namespace Tp
open PySem PySem.W PySem.Calls PyProof.Rows
theorem left{p:Program}{r:OpenRow}{l:List Stmt}{n k:Nat}{as:List Addr}{c':Code}{q':Pos}(hl:behindTheImports p=l)(pre:∀ (w:World) (os:OsState),topGo treeTable p w 11 an 12 ⟨boot_heap w.params,#[],boot_drawn,boot_toks,os⟩ (topStub p)=some ((sh w.params (sA w.params) 15 187 os).abs,⟨denote treeTable (cd p),cd p,z0,[topFrame z0]⟩))(blk:∀ (w:World) (s:Shared),segRun treeTable p w 11 an 1 1 s (blockOf l (ev p) (cd p) z0 [topFrame z0])=some (.next,s,cd p,z0))(run:∀ (w:World) (os:OsState),go treeTable p w 1000 l (sh w.params (sA w.params) 15 187 os) (cd p) z0=some (sh w.params (lay w.params l (sA w.params)) n k os,c',q'))(le:Nat.ble (12+(1+ns 1000 2 l)) 1000000=true)(e1:opening p=plainProg p.main.scope.names)(e2:∀ s,fenceModules? p s=some s)(sM:∀ w:World,(λos=>((staticsOk (importedModules p.main.body) (boot_heap w.params) (H1 l n w.params)&&namesBound p (H1 l n w.params)&&gensDone (S1 l n k w.params os)&&laidKept (boot_heap w.params) (H1 l n w.params)),openSeen (vw p) (los l) (importedModules p.main.body) (xt r) true (S1 l n k w.params os),(hk l as).obs (S1 l n k w.params os)))=λ_=>(true,openGood (vw p) (los l),(hk l as).val w)):LeftO p (vw p) (los l) (xt r) (hk l as).obs (hk l as).val 1000000 :=
 LeftO.of_pieces (H₀:=boot_heap) (H₁:=H1 l n) (m₀:=11) (ann:=an) (boot_open e1 rfl e2) size1 (run_of hl pre blk run) le sM
theorem head{p:OpenLaw}{l:List Stmt}{as:List Addr}{d:DefRec}(left:LeftO p.prog (vw p.prog) (los l) (xt p.row) (hk l as).obs (hk l as).val 1000000)(said:p.row.wellSaid=true)(h1:defOf (vw p.prog) p.name=some (d,[]))(h2:p.prog.theDef p.name=some (d.params,d.body,d.scope))(h3:kwWritten? d.params.kwonlyargs d.params.kw_defaults=some [])(h4:(!p.row.writes||p.row.records.isEmpty)=true)(ok:(chainsOk (vw p.prog)&&opensWell p.prog&&(frees p.row.toRowW&&p.row.within.isEmpty))=true)(hb:p.prog.bare)(hw:p.row.toRowW.promised)(call:WalkO (vw p.prog) (los l) (XL (vw p.prog) []) (hk l as).says p.row.toRowW d [] λf vs=>PySem.call f vs):p.row.Holds :=
 holds_open (r:=p.row) (XP:=XL (vw p.prog) []) (YP:=(hk l as).says) left (hk l as).of (hk l as).keeps (λs e=>xl_of s (Bool.and_eq_true_iff.mp e).1) XL.keeps h1 h2 h3
  (λs e=>recFacts_of (Bool.and_eq_true_iff.mp e).2) h4 said ok hb hw call
end Tp
namespace D3
open PySem PySem.Spec PySem.Calls PyProof.Rows L2
noncomputable def oA:Obj->List DictEntry
 | ⟨.type t,none,.dict es _,sl⟩=>if t = "dict" /\ sl.size=0 then es.toList else []
 | _=>[]
theorem aKU{o:Obj}(h:oA o≠[]):∃ es ep,o=⟨.type "dict", none,.dict es ep,#[]⟩/\oA o=es.toList:=by
 unfold oA at h ⊢;split at h
 . rename_i t es ep sl;split at h
   . rename_i hc;obtain ⟨rfl,hs⟩:=hc;obtain rfl:=Array.eq_empty_of_size_eq_zero hs;exact ⟨es,ep,rfl,rfl⟩
   . exact absurd rfl h
 . exact absurd rfl h
noncomputable def fT(K:Fg)(x:Str):List DictEntry:=match adB K x with
 | some a=>(match K.lookup a with | some o=>oA o | none=>[])
 | none=>[]
theorem aKV{K:Fg}{x:Str}(h:fT K x≠[]):∃ a es ep,adB K x=some a/\K.lookup a=some ⟨.type "dict", none,.dict es ep,#[]⟩/\fT K x=es.toList:=by
 unfold fT at h ⊢;cases ea:adB K x with
 | none=>rw[ea] at h;exact absurd rfl h
 | some a =>
  rw[ea] at h;dsimp only at h ⊢;cases el:K.lookup a with
  | none=>rw[el] at h;exact absurd rfl h
  | some o=>rw[el] at h;dsimp only at h ⊢;obtain ⟨es,ep,rfl,e⟩:=aKU h;exact ⟨a,es,ep,rfl,el,e⟩
noncomputable def kK(P:Params):List (Str×Str)->List DictEntry->List DictEntry
 | (z,_)::r,⟨_,.str _ t,.ref a⟩::es=>⟨PyData.keyHash P z,.str z t,.ref a⟩::kK P r es
 | _,_=>[]
noncomputable def okE(K:Fg):List (Str×Str)->List DictEntry->Bool
 | [],[]=>true
 | (_,f)::r,⟨_,.str _ _,.ref a⟩::es=>PySem.W.nsIn K mainGlobals f==some (some (.ref a))&&okE K r es
 | _,_=>false
theorem xD{w:World}{K:Fg}:∀ {tb:List (Str×Str)} {es:List DictEntry},es=kK w.params tb es->okE K tb es=true->iY w K tb es
 | [],[],_,_=>rfl
 | [],⟨_,.str _ _,.ref _⟩::es,e,_=>by unfold kK at e;cases e
 | (z,f)::r,es,e,ok=>by
  unfold okE at ok;split at ok
  . rename_i h1 h2;cases h2
  . rename_i f' r' hh y t a es' h1;cases h1;rw[aOX,aPQ] at ok;unfold kK at e;injection e with e1 e2
    exact ⟨t,a,es',congrArg (·::es') e1,ok.1,xD e2 ok.2⟩
  . cases ok
theorem aKW{K:Fg}:∀ {tb:List (Str×Str)},tb≠[]->okE K tb []=false
 | [],h=>absurd rfl h
 | p::r,_=>by unfold okE;rfl
theorem aKX{w:World}{K:Fg}{mg:SOV}{h:Heap}{x:Str}{tb:List (Str×Str)}(X:K.In h)(G:h.Ns mainGlobals mg)(e:fT K x=kK w.params tb (fT K x))(ok:okE K tb (fT K x)=true)(ne:tb≠[])(nd:(tb.map (·.1)).Nodup):iF w K mg x tb:=by
 have bad:fT K x≠[]:=λz=>by rw[z,aKW ne] at ok;cases ok
 have t:=xD e ok;obtain ⟨a,es,ep,ea,el,et⟩:=aKV bad;rw[et] at t;exact ⟨⟨a,_,es,ep,aQN X G (eD ea),el,⟨rfl,rfl,rfl⟩,rfl,t⟩,nd⟩
theorem aKY{g:MG}{K:Params->Fg}{y:Str}{t0:List (Str×Str)}(b:(g.G.all λx=>match x.2 with | .con (.t tb)=>x.1==y&&tb==t0 | _=>true)=true)(e:∀ P,fT (K P) y=kK P t0 (fT (K P) y))(ok:∀ P,okE (K P) t0 (fT (K P) y)=true)(ne:t0≠[])(nd:(t0.map (·.1)).Nodup)(w:World)(mg:SOV)(h:Heap)(X:(K w.params).In h)(G:h.Ns mainGlobals mg)(x:Str)(tb:List (Str×Str))(hm:(x,GV.con (.t tb))∈g.G):iF w (K w.params) mg x tb:=by have:=aQQ.mp b _ hm;dsimp only at this;rw[aOX,aPQ,aPQ] at this;obtain ⟨rfl,rfl⟩:=this;exact aKX X G (e w.params) (ok w.params) ne nd
end D3
namespace K42
open PySem L2 D3
def oB:List D3.S:=[.expr (.call "refuse_missing" 2 [(.var 2),(.ix (.var 1) (.int 0))])]
def oC:List D3.S:=[.expr (.call "refuse_missing" 2 [(.var 3),(.var 1)]),.expr (.call "refuse_twice" 2 [(.var 0),(.var 2)])]
def lX:List D3.S:=[.expr (.call "refuse_twice" 2 [(.var 2),(.var 3)])]
def oD:List D3.S:=[.ite (.cmp .NotIn (.var 4) (.var 2)) [.rz "Unlike" [(.fstr [(.str "the column "),(.fmt (.var 4)),(.str " of what is left out isn't there")])]] []]
def iH:List D3.S:=[.set 9 (.ix (.lst [(.int 26),(.int 36)]) (.tcall .int [(.cmp .Gt (.var 8) (.int 0))])),.set 10 (.frz (.bin .FloorDiv (.bin .FloorDiv (.var 0) (.int 7)) (.bin .Add (.var 8) (.int 1)))),.ite (.cmp .Eq (.var 8) (.var 4)) [.set 10 (.frz (.bin .Add (.bin .FloorDiv (.var 0) (.int 240)) (.bin .Mult (.int 5) (.var 6))))] [],.set 7 (.frz (.bin .Add (.var 7) (.ix (.var 2) (.bin .Mod (.var 10) (.var 9)))))]
def dU:List D3.S:=[.set 7 (.str ""),.for (.rng1 (.var 3)) (.nm 8) iH,.app 5 (.var 7)]
def kL:List D3.S:=[.ite (.cmp .NotIn (.var 15) (.var 7)) [.set 8 (.frz (.call "_law_first" 2 [(.var 8),(.str "Unlike")]))] []]
def kM:List D3.S:=[.set 7 (.frz (.bin .Mod (.bin .FloorDiv (.var 4) (.bin .Add (.var 6) (.int 2))) (.int 7))),.set 8 (.frz (.bin .Add (.slice (.var 2) (some (.var 7)) (some (.int 7))) (.slice (.var 2) none (some (.var 7))))),.dput 5 (.ix (.var 3) (.var 6)) (.tcall .tuple [(.slice (.var 8) none (some (.bin .Add (.int 2) (.bin .Mod (.bin .FloorDiv (.var 4) (.ix (.lst [(.int 1),(.int 3),(.int 9)]) (.var 6))) (.int 3)))))])]
def fU:List D3.S:=[.set 12 (.str ""),.ite (.andL [(.cmp .Gt (.bin .Mod (.var 1) (.int 3)) (.int 0)),(.cmp .Eq (.bin .Mod (.bin .Mod (.bin .Add (.bin .Mult (.var 11) (.int 48271)) (.int 11)) (.int 2147483647)) (.bin .Mod (.bin .Mult (.int 3) (.var 1)) (.int 9))) (.int 1))]) [.set 12 (.ix (.var 3) (.int 3))] [],.set 10 (.frz (.call "_law_step" 5 [(.var 10),(.var 11),(.var 5),(.var 2),(.var 12)]))]
def oE:List D3.S:=[.ite (.cmp .In (.ix (.var 0) (.var 1)) (.slice (.var 0) none (some (.var 1)))) [.rz "Twice" [(.fstr [(.str "the column "),(.fmt (.ix (.var 0) (.var 1))),(.str " was there ahead")])]] []]
def gR:List D3.S:=[.set 1 (.ix (.var 0) (.int 0)),.ite (.cmp .Eq (.var 1) (.str "not")) [.ret (.call "columns_in" 1 [(.ix (.var 0) (.int 1))])] [],.ite (.cmp .In (.var 1) (.tup [(.str "both"),(.str "either")])) [.ret (.bin .Add (.call "columns_in" 1 [(.ix (.var 0) (.int 1))]) (.call "columns_in" 1 [(.ix (.var 0) (.int 2))]))] [],.ret (.comp (.ix (.var 0) (.int 1)) (.items (.slice (.var 0) (some (.int 1)) none)) [(.cmp .Eq (.ix (.var 0) (.int 0)) (.str "of"))] [] (.nm 0) 1)]
def kN:List D3.S:=[.ite (.cmp .Eq (.ix (.var 0) (.int 0)) (.str "table")) [.ret (.tup [])] [],.ite (.cmp .In (.ix (.var 0) (.int 0)) (.tup [(.str "join"),(.str "pour"),(.str "leave")])) [.ret (.tup [(.ix (.var 0) (.int 1)),(.ix (.var 0) (.int 2))])] [],.ret (.tup [(.ix (.var 0) (.int 1))])]
def oF:List D3.S:=[.ite (.cmp .NotIn (.var 0) (.var 1)) [.rz "NoColumn" [(.fstr [(.str "there is no column "),(.fmt (.var 0))])]] []]
def xE:List D3.S:=[.for (.items (.call "columns_in" 1 [(.ix (.var 0) (.int 2))])) (.nm 2) oB,.ret (.ix (.var 1) (.int 0))]
def xF:List D3.S:=[.for (.enum1 (.var 0)) (.tp [(.nm 2),(.nm 3)]) oC,.retV 0]
def xG:List D3.S:=[.ret (.call "kept" 2 [(.ix (.var 0) (.int 2)),(.ix (.var 1) (.int 0))])]
def qU:List D3.S:=[.expr (.call "refuse_missing" 2 [(.var 0),(.var 2)]),.ret (.call "kept" 2 [(.var 1),(.var 2)])]
def xH:List D3.S:=[.ret (.call "totalled" 3 [(.ix (.var 0) (.int 2)),(.ix (.var 0) (.int 3)),(.ix (.var 1) (.int 0))])]
def xI:List D3.S:=[.set 2 (.ix (.var 0) (.int 2)),.ite (.cmp .NotEq (.bcall .len [(.var 2)]) (.bcall .len [(.ix (.var 1) (.int 0))])) [.rz "Unlike" [(.str "a call has as many columns as the asking within")]] [],.for (.rng1 (.bcall .len [(.var 2)])) (.nm 3) lX,.retV 2]
def lY:List D3.S:=[.asg (.tp [(.nm 2),(.nm 3)]) (.var 1),.ret (.bin .Add (.var 2) (.tcall .tuple [(.comp (.var 1) (.items (.var 3)) [(.cmp .NotIn (.var 1) (.var 0))] [2] (.nm 1) 1)]))]
def lZ:List D3.S:=[.asg (.tp [(.nm 2),(.nm 3)]) (.var 1),.ite (.cmp .NotEq (.var 2) (.var 3)) [.rz "Unlike" [(.str "both askings of a pour have the same columns in the same order")]] [],.retV 2]
def oG:List D3.S:=[.asg (.tp [(.nm 2),(.nm 3)]) (.var 1),.for (.items (.var 3)) (.nm 4) oD,.retV 2]
def dW:List D3.S:=[.ite (.cmp .Eq (.ix (.var 0) (.int 0)) (.str "table")) [.ret (.call "columns_of_table" 2 [(.ix (.var 0) (.int 1)),(.var 1)])] [],.setC 2 true (.compX (.call "columns_of" 2 [(.var 1),(.var 0)]) (.items (.call "askings_within" 1 [(.var 0)])) [] [1] (.nm 1) 1),.set 3 (.deed "DEEDS" [("pick", "columns_of_pick"),("keep", "columns_of_keep"),("call", "columns_of_call"),("join", "columns_of_join"),("pour", "columns_of_pour"),("total", "columns_of_total"),("leave", "columns_of_leave")] (.ix (.var 0) (.int 0))),.ret (.callv 3 ["columns_of_pick", "columns_of_keep", "columns_of_call", "columns_of_join", "columns_of_pour", "columns_of_total", "columns_of_leave"] 2 [(.var 0),(.var 2)])]
def oH:List D3.S:=[.ite (.din true (.var 0) (.var 1)) [.rz "NoTable" [(.fstr [(.str "there is no table "),(.fmt (.var 0))])]] [],.ret (.dix (.var 1) (.var 0))]
def l3:List D3.S:=[.ite (.cmp .Lt (.var 1) (.bcall .len [(.var 0)])) [.ret (.ix (.var 0) (.var 1))] [],.ret (.int 0)]
def fV:List D3.S:=[.set 2 (.str "abcdefghijklmnopqrstuvwxyz0123456789"),.set 3 (.ix (.lst [(.int 1),(.int 2),(.int 3),(.int 5),(.int 8),(.int 40)]) (.bin .Mod (.var 0) (.int 6))),.set 4 (.frz (.bin .Mod (.bin .FloorDiv (.var 0) (.int 6)) (.var 3))),.set 5 (.lst []),.for (.rng1 (.var 1)) (.nm 6) dU,.retV 5]
def oI:List D3.S:=[.set 2 (.frz (.bin .Mod (.var 1) (.bin .Add (.bcall .len [(.var 0)]) (.int 1)))),.set 3 (.frz (.bin .Add (.slice (.var 0) (some (.var 2)) none) (.slice (.var 0) none (some (.var 2))))),.ret (.slice (.var 3) (some (.bin .Mod (.bin .FloorDiv (.var 1) (.int 7)) (.int 2))) none)]
def qV:List D3.S:=[.set 1 (.lst []),.ite (.tru (.isx1 (.var 0) "NoTable")) [.app 1 (.str "NoTable")] [],.ite (.tru (.isx1 (.var 0) "NoColumn")) [.app 1 (.str "NoColumn")] [],.ite (.tru (.isx1 (.var 0) "Twice")) [.app 1 (.str "Twice")] [],.ite (.tru (.isx1 (.var 0) "Unlike")) [.app 1 (.str "Unlike")] [],.ite (.orL [(.tru (.isx1 (.var 0) "NoKind")),(.tru (.isx1 (.var 0) "NoName")),(.tru (.isx1 (.var 0) "NoNote"))]) [.app 1 (.str "other")] [],.ite (.orL [(.tru (.isx1 (.var 0) "Misfit")),(.tru (.isx1 (.var 0) "NotPlain")),(.tru (.isx1 (.var 0) "NoText"))]) [.app 1 (.str "other")] [],.ite (.not (.tru (.isx1 (.var 0) "ValueError"))) [.app 1 (.str "no ValueError")] [],.retV 1]
def qW:List D3.S:=[.set 2 .non,.set 3 .non,.tr [.set 3 (.frz (.call "columns_of" 2 [(.var 0),(.var 1)]))] [.mk "WhenceError" (some 4) [.set 2 (.var 4)]],.ite (.cmp .IsNot (.var 2) .non) [.ret (.call "_law_classes" 1 [(.var 2)])] [],.ite (.not (.tru (.bcall .isinstance [(.var 3),(.ty .tuple)]))) [.ret (.lst [(.str "no tuple")])] [],.ret (.lst [(.var 3)])]
def iI:List D3.S:=[.set 3 (.frz (.bin .Mod (.var 2) (.int 4))),.ite (.orL [(.cmp .Eq (.var 3) (.int 0)),(.cmp .Eq (.var 0) (.tup []))]) [.set 4 (.frz (.bin .Mod (.bin .FloorDiv (.var 2) (.int 4)) (.bin .Add (.bcall .len [(.var 0)]) (.int 1)))),.ret (.tup [(.frz (.bin .Add (.bin .Add (.slice (.var 0) none (some (.var 4))) (.tup [(.var 1)])) (.slice (.var 0) (some (.var 4)) none))),(.str "NoColumn")])] [],.set 5 (.frz (.bin .Mod (.bin .FloorDiv (.var 2) (.int 4)) (.bcall .len [(.var 0)]))),.set 4 (.frz (.bin .Add (.bin .Add (.var 5) (.int 1)) (.bin .Mod (.bin .FloorDiv (.var 2) (.int 44)) (.bin .Sub (.bcall .len [(.var 0)]) (.var 5))))),.set 6 (.frz (.bin .Add (.bin .Add (.slice (.var 0) none (some (.var 4))) (.tup [(.ix (.var 0) (.var 5))])) (.slice (.var 0) (some (.var 4)) none))),.ite (.cmp .Eq (.var 3) (.int 1)) [.ret (.tup [(.var 6),(.str "Twice")])] [],.ite (.cmp .Eq (.var 3) (.int 2)) [.ret (.tup [(.frz (.bin .Add (.var 6) (.tup [(.var 1)]))),(.str "Twice")])] [],.ret (.tup [(.frz (.bin .Add (.tup [(.var 1)]) (.var 6))),(.str "NoColumn")])]
def i6:List D3.S:=[.set 3 (.frz (.tcall .tuple [(.comp (.ix (.var 0) (.bin .Mod (.bin .Add (.var 2) (.bin .FloorDiv (.var 1) (.int 2))) (.int 11))) (.rng1 (.bcall .len [(.var 0)])) [] [1,2] (.nm 2) 1)])),.set 4 (.frz (.bin .Mod (.var 2) (.int 4))),.ite (.orL [(.cmp .Eq (.var 4) (.int 0)),(.cmp .Lt (.bcall .len [(.var 0)]) (.int 2))]) [.ret (.tup [(.frz (.bin .Add (.var 3) (.tup [(.ix (.var 1) (.int 11))]))),(.str "Unlike")])] [],.ite (.cmp .Eq (.var 4) (.int 1)) [.ret (.tup [(.frz (.slice (.var 3) (some (.int 1)) none)),(.str "Unlike")])] [],.set 5 (.frz (.bin .Mod (.bin .FloorDiv (.var 2) (.int 4)) (.bcall .len [(.var 3)]))),.set 6 (.frz (.bin .Add (.bin .Add (.slice (.var 3) none (some (.var 5))) (.tup [(.ix (.var 3) (.bin .Sub (.var 5) (.int 1)))])) (.slice (.var 3) (some (.bin .Add (.var 5) (.int 1))) none))),.ite (.cmp .Eq (.var 4) (.int 2)) [.ret (.tup [(.var 6),(.str "Twice")])] [],.ret (.tup [(.frz (.bin .Add (.var 6) (.slice (.var 3) none (some (.int 1))))),(.str "Unlike")])]
def i7:List D3.S:=[.ite (.cmp .NotEq (.var 0) (.str "")) [.retV 0] [],.retV 1]
def dX:List D3.S:=[.asg (.tp [(.nm 4),(.nm 5),(.nm 6)]) (.var 0),.set 7 (.lst [(.tup [(.str "just"),(.frz (.bin .Mod (.var 2) (.bin .Pow (.int 10) (.int 30))))]),(.tup [(.str "just"),(.str "a")])]),.ite (.cmp .NotEq (.var 5) (.tup [])) [.set 7 (.lst [(.tup [(.str "of"),(.ix (.var 5) (.bin .Mod (.var 2) (.bcall .len [(.var 5)])))]),(.tup [(.str "of"),(.ix (.var 5) (.bin .Mod (.bin .FloorDiv (.var 2) (.int 2)) (.bcall .len [(.var 5)])))])])] [],.ite (.tru (.var 3)) [.lput 7 (.bin .Mod (.bin .FloorDiv (.var 2) (.int 3)) (.int 2)) (.tup [(.str "of"),(.ix (.var 1) (.int 11))]),.set 6 (.frz (.call "_law_first" 2 [(.var 6),(.str "NoColumn")]))] [],.frzV 7,.set 8 (.tup [(.str "either"),(.tup [(.str "same"),(.tup [(.str "just"),(.int 0)]),(.tup [(.str "just"),(.str "b")])]),(.tup [(.str "not"),(.tup [(.str "under"),(.ix (.var 7) (.int 0)),(.ix (.var 7) (.int 1))])])]),.ret (.lst [(.tup [(.str "pick"),(.var 4),(.var 8)]),(.var 5),(.var 6)])]
def iJ:List D3.S:=[.asg (.tp [(.nm 4),(.nm 5),(.nm 6)]) (.var 0),.set 7 (.frz (.call "_law_kept" 2 [(.var 5),(.var 2)])),.set 8 (.var 7),.ite (.tru (.var 3)) [.asg (.tp [(.nm 8),(.nm 9)]) (.call "_law_spoiled" 3 [(.var 7),(.ix (.var 1) (.int 11)),(.frz (.bin .FloorDiv (.var 2) (.int 28)))]),.set 6 (.frz (.call "_law_first" 2 [(.var 6),(.var 9)]))] [],.ret (.lst [(.tup [(.str "keep"),(.var 4),(.var 8)]),(.var 7),(.var 6)])]
def eP:List D3.S:=[.asg (.tp [(.nm 4),(.nm 5),(.nm 6)]) (.var 0),.set 7 (.frz (.call "_law_kept" 2 [(.var 5),(.var 2)])),.set 8 (.var 7),.set 9 (.ix (.var 1) (.int 11)),.ite (.cmp .NotEq (.var 5) (.tup [])) [.set 9 (.ix (.var 5) (.bin .Mod (.bin .FloorDiv (.var 2) (.int 14)) (.bcall .len [(.var 5)])))] [],.ite (.orL [(.cmp .Eq (.var 5) (.tup [])),(.andL [(.tru (.var 3)),(.cmp .Eq (.bin .Mod (.bin .FloorDiv (.var 2) (.int 28)) (.int 2)) (.int 0))])]) [.set 9 (.ix (.var 1) (.int 11)),.set 6 (.frz (.call "_law_first" 2 [(.var 6),(.str "NoColumn")]))] [],.ite (.tru (.var 3)) [.asg (.tp [(.nm 8),(.nm 10)]) (.call "_law_spoiled" 3 [(.var 7),(.ix (.var 1) (.int 11)),(.frz (.bin .FloorDiv (.var 2) (.int 56)))]),.set 6 (.frz (.call "_law_first" 2 [(.var 6),(.var 10)]))] [],.ret (.lst [(.tup [(.str "total"),(.var 4),(.var 9),(.var 8)]),(.var 7),(.var 6)])]
def iK:List D3.S:=[.asg (.tp [(.nm 4),(.nm 5),(.nm 6)]) (.var 0),.set 7 (.frz (.tcall .tuple [(.comp (.ix (.var 0) (.bin .Mod (.bin .Add (.var 2) (.var 1)) (.int 11))) (.rng1 (.bcall .len [(.var 5)])) [] [1,2] (.nm 2) 1)])),.set 8 (.var 7),.ite (.tru (.var 3)) [.asg (.tp [(.nm 8),(.nm 9)]) (.call "_law_called" 3 [(.var 5),(.var 1),(.frz (.bin .FloorDiv (.var 2) (.int 11)))]),.set 6 (.frz (.call "_law_first" 2 [(.var 6),(.var 9)]))] [],.ret (.lst [(.tup [(.str "call"),(.var 4),(.var 8)]),(.var 7),(.var 6)])]
def iL:List D3.S:=[.asg (.tp [(.nm 5),(.nm 6),(.nm 7)]) (.var 0),.set 8 (.dix (.var 1) (.var 2)),.set 9 (.str ""),.ite (.cmp .NotEq (.var 3) (.str "")) [.set 2 (.var 3),.set 9 (.str "NoTable")] [],.ite (.cmp .Eq (.var 4) (.int 0)) [.set 10 (.frz (.bin .Add (.var 6) (.tcall .tuple [(.comp (.var 1) (.items (.var 8)) [(.cmp .NotIn (.var 1) (.var 0))] [6] (.nm 1) 1)]))),.ret (.lst [(.tup [(.str "join"),(.var 5),(.tup [(.str "table"),(.var 2)])]),(.var 10),(.frz (.call "_law_first" 2 [(.var 7),(.var 9)]))])] [],.set 10 (.frz (.bin .Add (.var 8) (.tcall .tuple [(.comp (.var 1) (.items (.var 6)) [(.cmp .NotIn (.var 1) (.var 0))] [8] (.nm 1) 1)]))),.ret (.lst [(.tup [(.str "join"),(.tup [(.str "table"),(.var 2)]),(.var 5)]),(.var 10),(.frz (.call "_law_first" 2 [(.var 9),(.var 7)]))])]
def cJ:List D3.S:=[.asg (.tp [(.nm 6),(.nm 7),(.nm 8)]) (.var 0),.set 9 (.dix (.var 1) (.var 2)),.set 10 (.cmp .NotEq (.var 5) (.str "")),.ite (.andL [(.tru (.var 10)),(.cmp .Eq (.bin .Mod (.bin .FloorDiv (.var 4) (.int 2)) (.int 3)) (.int 0))]) [.set 2 (.var 5),.set 8 (.frz (.call "_law_first" 2 [(.var 8),(.str "NoTable")]))] [],.set 11 (.ix (.lst [(.str "pour"),(.str "leave")]) (.bin .Mod (.var 4) (.int 2))),.set 12 (.var 7),.ite (.cmp .Eq (.var 11) (.str "leave")) [.set 12 (.frz (.call "_law_kept" 2 [(.var 7),(.frz (.bin .FloorDiv (.var 4) (.int 2)))]))] [],.set 12 (.frz (.slice (.var 12) none (some (.bcall .len [(.var 9)])))),.ite (.andL [(.tru (.var 10)),(.cmp .Eq (.bin .Mod (.bin .FloorDiv (.var 4) (.int 6)) (.int 2)) (.int 0))]) [.set 12 (.frz (.bin .Add (.slice (.var 12) (some (.int 1)) none) (.slice (.var 12) none (some (.int 1)))))] [.ite (.andL [(.tru (.var 10)),(.cmp .NotEq (.var 12) (.tup []))]) [.set 13 (.frz (.bin .Mod (.bin .FloorDiv (.var 4) (.int 12)) (.bcall .len [(.var 12)]))),.set 12 (.frz (.bin .Add (.bin .Add (.slice (.var 12) none (some (.var 13))) (.tup [(.ix (.var 3) (.int 11))])) (.slice (.var 12) (some (.bin .Add (.var 13) (.int 1))) none)))] []],.set 14 (.tup [(.str "call"),(.tup [(.str "keep"),(.tup [(.str "table"),(.var 2)]),(.frz (.slice (.var 9) none (some (.bcall .len [(.var 12)]))))]),(.var 12)]),.ite (.andL [(.cmp .Eq (.var 11) (.str "pour")),(.cmp .NotEq (.var 12) (.var 7))]) [.set 8 (.frz (.call "_law_first" 2 [(.var 8),(.str "Unlike")]))] [],.for (.items (.var 12)) (.nm 15) kL,.ret (.lst [(.tup [(.var 11),(.var 6),(.var 14)]),(.var 7),(.var 8)])]
def iM:List D3.S:=[.set 5 (.frz (.bin .Mod (.var 1) (.int 7))),.set 6 (.frz (.bin .FloorDiv (.var 1) (.int 7))),.set 7 (.cmp .NotEq (.var 4) (.str "")),.set 8 (.ix (.dlist (.var 2)) (.bin .Mod (.var 6) (.int 3))),.ite (.cmp .Eq (.var 5) (.int 0)) [.ret (.call "_law_pick" 4 [(.var 0),(.var 3),(.var 6),(.var 7)])] [],.ite (.cmp .Eq (.var 5) (.int 1)) [.ret (.call "_law_keep" 4 [(.var 0),(.var 3),(.var 6),(.var 7)])] [],.ite (.cmp .Eq (.var 5) (.int 2)) [.ret (.call "_law_call" 4 [(.var 0),(.var 3),(.var 6),(.var 7)])] [],.ite (.cmp .Eq (.var 5) (.int 3)) [.ret (.call "_law_join" 5 [(.var 0),(.var 2),(.var 8),(.var 4),(.frz (.bin .Mod (.bin .FloorDiv (.var 6) (.int 3)) (.int 2)))])] [],.ite (.cmp .Eq (.var 5) (.int 4)) [.ret (.call "_law_total" 4 [(.var 0),(.var 3),(.var 6),(.var 7)])] [],.ret (.call "_law_beside" 6 [(.var 0),(.var 2),(.var 8),(.var 3),(.frz (.bin .FloorDiv (.var 6) (.int 3))),(.var 4)])]
def fF:List D3.S:=[.set 1 (.frz (.call "_law_cell_at" 2 [(.var 0),(.int 0)])),.set 2 (.frz (.call "_law_names" 2 [(.frz (.call "_law_cell_at" 2 [(.var 0),(.int 1)])),(.int 12)])),.set 3 (.frz (.call "_law_names" 2 [(.frz (.call "_law_cell_at" 2 [(.var 0),(.int 2)])),(.int 4)])),.set 4 (.frz (.call "_law_cell_at" 2 [(.var 0),(.int 3)])),.set 5 .dnew,.for (.rng1 (.int 3)) (.nm 6) kM,.frzV 5,.set 9 (.ix (.var 3) (.bin .Mod (.bin .FloorDiv (.var 1) (.int 24)) (.int 3))),.set 10 (.frz (.lst [(.tup [(.str "table"),(.var 9)]),(.dix (.var 5) (.var 9)),(.str "")])),.ite (.cmp .Eq (.bin .Mod (.bin .FloorDiv (.var 1) (.int 3)) (.int 8)) (.int 3)) [.set 10 (.frz (.lst [(.tup [(.str "table"),(.ix (.var 3) (.int 3))]),(.dix (.var 5) (.var 9)),(.str "NoTable")]))] [],.for (.items (.slice (.var 0) (some (.int 4)) (some (.int 16)))) (.nm 11) fU,.set 13 (.frz (.lst [(.ix (.var 10) (.int 2))])),.ite (.cmp .Eq (.ix (.var 10) (.int 2)) (.str "")) [.set 13 (.frz (.lst [(.ix (.var 10) (.int 1))]))] [],.set 14 (.frz (.tcall .dict [(.var 5)])),.ite (.orL [(.cmp .NotEq (.call "_law_told" 2 [(.ix (.var 10) (.int 0)),(.var 14)]) (.var 13)),(.deq true (.var 14) (.var 5))]) [.ret (.bl false)] [],.ite (.cmp .NotEq (.call "_law_told" 2 [(.tup [(.str "table"),(.var 9)]),(.var 14)]) (.lst [(.dix (.var 5) (.var 9))])) [.ret (.bl false)] [],.ret (.cmp .Eq (.call "_law_told" 2 [(.ix (.var 10) (.int 0)),(.var 14)]) (.var 13))]
def xJ:FD:=⟨["columns", "at"],["columns", "at"],oE⟩
def xK:FD:=⟨["test"],["test", "word"],gR⟩
def xL:FD:=⟨["asking"],["asking"],kN⟩
def xM:FD:=⟨["column", "columns"],["column", "columns"],oF⟩
def xN:FD:=⟨["asking", "within"],["asking", "within", "column"],xE⟩
def xO:FD:=⟨["columns", "within"],["columns", "within", "at", "column"],xF⟩
def xP:FD:=⟨["asking", "within"],["asking", "within"],xG⟩
def xQ:FD:=⟨["column", "columns", "within"],["column", "columns", "within"],qU⟩
def xR:FD:=⟨["asking", "within"],["asking", "within"],xH⟩
def xS:FD:=⟨["asking", "within"],["asking", "within", "columns", "at"],xI⟩
def xT:FD:=⟨["asking", "within"],["asking", "within", "one", "other"],lY⟩
def xU:FD:=⟨["asking", "within"],["asking", "within", "one", "other"],lZ⟩
def xV:FD:=⟨["asking", "within"],["asking", "within", "one", "other", "column"],oG⟩
def xW:FD:=⟨["asking", "shapes"],["asking", "shapes", "within", "deed"],dW⟩
def xX:FD:=⟨["name", "shapes"],["name", "shapes"],oH⟩
def xY:FD:=⟨["_law_script", "_law_k"],["_law_script", "_law_k"],l3⟩
def xZ:FD:=⟨["_law_cell", "_law_many"],["_law_cell", "_law_many", "_law_letters", "_law_size", "_law_at", "_law_names_here", "_law_k", "_law_name", "_law_j", "_law_most", "_law_drift"],fV⟩
def yA:FD:=⟨["_law_columns", "_law_c"],["_law_columns", "_law_c", "_law_turn", "_law_spun"],oI⟩
def yB:FD:=⟨["_law_error"],["_law_error", "_law_found"],qV⟩
def yC:FD:=⟨["_law_asking", "_law_shapes"],["_law_asking", "_law_shapes", "_law_caught", "_law_found", "e"],qW⟩
def yD:FD:=⟨["_law_wanted", "_law_absent", "_law_c"],["_law_wanted", "_law_absent", "_law_c", "_law_way", "_law_at", "_law_j", "_law_doubled"],iI⟩
def yE:FD:=⟨["_law_columns", "_law_names_here", "_law_c"],["_law_columns", "_law_names_here", "_law_c", "_law_fresh", "_law_way", "_law_j", "_law_doubled"],i6⟩
def yF:FD:=⟨["_law_due", "_law_more"],["_law_due", "_law_more"],i7⟩
def yG:FD:=⟨["_law_state", "_law_names_here", "_law_c", "_law_bad"],["_law_state", "_law_names_here", "_law_c", "_law_bad", "_law_asking", "_law_columns", "_law_due", "_law_parts", "_law_test"],dX⟩
def yH:FD:=⟨["_law_state", "_law_names_here", "_law_c", "_law_bad"],["_law_state", "_law_names_here", "_law_c", "_law_bad", "_law_asking", "_law_columns", "_law_due", "_law_saved", "_law_heard", "_law_more"],iJ⟩
def yI:FD:=⟨["_law_state", "_law_names_here", "_law_c", "_law_bad"],["_law_state", "_law_names_here", "_law_c", "_law_bad", "_law_asking", "_law_columns", "_law_due", "_law_saved", "_law_heard", "_law_column", "_law_more"],eP⟩
def yJ:FD:=⟨["_law_state", "_law_names_here", "_law_c", "_law_bad"],["_law_state", "_law_names_here", "_law_c", "_law_bad", "_law_asking", "_law_columns", "_law_due", "_law_fresh", "_law_heard", "_law_more"],iK⟩
def yK:FD:=⟨["_law_state", "_law_shapes", "_law_name", "_law_gone", "_law_side"],["_law_state", "_law_shapes", "_law_name", "_law_gone", "_law_side", "_law_asking", "_law_columns", "_law_due", "_law_own", "_law_lacking", "_law_merged"],iL⟩
def yL:FD:=⟨["_law_state", "_law_shapes", "_law_name", "_law_names_here", "_law_c", "_law_gone"],["_law_state", "_law_shapes", "_law_name", "_law_names_here", "_law_c", "_law_gone", "_law_asking", "_law_columns", "_law_due", "_law_own", "_law_bad", "_law_word", "_law_some", "_law_at", "_law_other", "_law_column"],cJ⟩
def yM:FD:=⟨["_law_state", "_law_cell", "_law_shapes", "_law_names_here", "_law_gone"],["_law_state", "_law_cell", "_law_shapes", "_law_names_here", "_law_gone", "_law_way", "_law_c", "_law_bad", "_law_name"],iM⟩
def qX:FD:=⟨["_law_script"],["_law_script", "_law_head", "_law_names_here", "_law_words", "_law_more", "_law_shapes", "_law_k", "_law_turn", "_law_row", "_law_name", "_law_state", "_law_cell", "_law_gone", "_law_due", "_law_handed"],fF⟩
def T:List (Str×FD):=[(("refuse_twice" : Str),xJ),(("columns_in" : Str),xK),(("askings_within" : Str),xL),(("refuse_missing" : Str),xM),(("columns_of_pick" : Str),xN),(("kept" : Str),xO),(("columns_of_keep" : Str),xP),(("totalled" : Str),xQ),(("columns_of_total" : Str),xR),(("columns_of_call" : Str),xS),(("columns_of_join" : Str),xT),(("columns_of_pour" : Str),xU),(("columns_of_leave" : Str),xV),(("columns_of" : Str),xW),(("columns_of_table" : Str),xX),(("_law_cell_at" : Str),xY),(("_law_names" : Str),xZ),(("_law_kept" : Str),yA),(("_law_classes" : Str),yB),(("_law_told" : Str),yC),(("_law_spoiled" : Str),yD),(("_law_called" : Str),yE),(("_law_first" : Str),yF),(("_law_pick" : Str),yG),(("_law_keep" : Str),yH),(("_law_total" : Str),yI),(("_law_call" : Str),yJ),(("_law_join" : Str),yK),(("_law_beside" : Str),yL),(("_law_step" : Str),yM),(("law" : Str),qX)]
def TT:TB:=⟨T,[],[],[((("Twice" : Str),("WhenceError" : Str)),true),((("NoColumn" : Str),("WhenceError" : Str)),true),((("Unlike" : Str),("WhenceError" : Str)),true),((("NoTable" : Str),("WhenceError" : Str)),true)],[((("Twice" : Str),("NoTable" : Str)),false),((("Twice" : Str),("NoColumn" : Str)),false),((("Twice" : Str),("Twice" : Str)),true),((("Twice" : Str),("Unlike" : Str)),false),((("Twice" : Str),("NoKind" : Str)),false),((("Twice" : Str),("NoName" : Str)),false),((("Twice" : Str),("NoNote" : Str)),false),((("Twice" : Str),("Misfit" : Str)),false),((("Twice" : Str),("NotPlain" : Str)),false),((("Twice" : Str),("NoText" : Str)),false),((("Twice" : Str),("ValueError" : Str)),true),((("NoColumn" : Str),("NoTable" : Str)),false),((("NoColumn" : Str),("NoColumn" : Str)),true),((("NoColumn" : Str),("Twice" : Str)),false),((("NoColumn" : Str),("Unlike" : Str)),false),((("NoColumn" : Str),("NoKind" : Str)),false),((("NoColumn" : Str),("NoName" : Str)),false),((("NoColumn" : Str),("NoNote" : Str)),false),((("NoColumn" : Str),("Misfit" : Str)),false),((("NoColumn" : Str),("NotPlain" : Str)),false),((("NoColumn" : Str),("NoText" : Str)),false),((("NoColumn" : Str),("ValueError" : Str)),true),((("Unlike" : Str),("NoTable" : Str)),false),((("Unlike" : Str),("NoColumn" : Str)),false),((("Unlike" : Str),("Twice" : Str)),false),((("Unlike" : Str),("Unlike" : Str)),true),((("Unlike" : Str),("NoKind" : Str)),false),((("Unlike" : Str),("NoName" : Str)),false),((("Unlike" : Str),("NoNote" : Str)),false),((("Unlike" : Str),("Misfit" : Str)),false),((("Unlike" : Str),("NotPlain" : Str)),false),((("Unlike" : Str),("NoText" : Str)),false),((("Unlike" : Str),("ValueError" : Str)),true),((("NoTable" : Str),("NoTable" : Str)),true),((("NoTable" : Str),("NoColumn" : Str)),false),((("NoTable" : Str),("Twice" : Str)),false),((("NoTable" : Str),("Unlike" : Str)),false),((("NoTable" : Str),("NoKind" : Str)),false),((("NoTable" : Str),("NoName" : Str)),false),((("NoTable" : Str),("NoNote" : Str)),false),((("NoTable" : Str),("Misfit" : Str)),false),((("NoTable" : Str),("NotPlain" : Str)),false),((("NoTable" : Str),("NoText" : Str)),false),((("NoTable" : Str),("ValueError" : Str)),true)]⟩
def GG:MG:=⟨[(("DEEDS" : Str),(GV.con (.t [("pick", "columns_of_pick"),("keep", "columns_of_keep"),("call", "columns_of_call"),("join", "columns_of_join"),("pour", "columns_of_pour"),("total", "columns_of_total"),("leave", "columns_of_leave")]))),(("Misfit" : Str),(GV.cls)),(("NoColumn" : Str),(GV.cls)),(("NoKind" : Str),(GV.cls)),(("NoName" : Str),(GV.cls)),(("NoNote" : Str),(GV.cls)),(("NoTable" : Str),(GV.cls)),(("NoText" : Str),(GV.cls)),(("NotPlain" : Str),(GV.cls)),(("Twice" : Str),(GV.cls)),(("Unlike" : Str),(GV.cls)),(("ValueError" : Str),(GV.no)),(("WhenceError" : Str),(GV.cls)),(("_law_beside" : Str),(GV.fn 6)),(("_law_call" : Str),(GV.fn 4)),(("_law_called" : Str),(GV.fn 3)),(("_law_cell_at" : Str),(GV.fn 2)),(("_law_classes" : Str),(GV.fn 1)),(("_law_first" : Str),(GV.fn 2)),(("_law_join" : Str),(GV.fn 5)),(("_law_keep" : Str),(GV.fn 4)),(("_law_kept" : Str),(GV.fn 2)),(("_law_names" : Str),(GV.fn 2)),(("_law_pick" : Str),(GV.fn 4)),(("_law_spoiled" : Str),(GV.fn 3)),(("_law_step" : Str),(GV.fn 5)),(("_law_told" : Str),(GV.fn 2)),(("_law_total" : Str),(GV.fn 4)),(("askings_within" : Str),(GV.fn 1)),(("columns_in" : Str),(GV.fn 1)),(("columns_of" : Str),(GV.fn 2)),(("columns_of_call" : Str),(GV.fn 2)),(("columns_of_join" : Str),(GV.fn 2)),(("columns_of_keep" : Str),(GV.fn 2)),(("columns_of_leave" : Str),(GV.fn 2)),(("columns_of_pick" : Str),(GV.fn 2)),(("columns_of_pour" : Str),(GV.fn 2)),(("columns_of_table" : Str),(GV.fn 2)),(("columns_of_total" : Str),(GV.fn 2)),(("dict" : Str),(GV.no)),(("enumerate" : Str),(GV.no)),(("int" : Str),(GV.no)),(("isinstance" : Str),(GV.no)),(("kept" : Str),(GV.fn 2)),(("len" : Str),(GV.no)),(("list" : Str),(GV.no)),(("range" : Str),(GV.no)),(("refuse_missing" : Str),(GV.fn 2)),(("refuse_twice" : Str),(GV.fn 2)),(("totalled" : Str),(GV.fn 3)),(("tuple" : Str),(GV.no))],[],[],[],["Twice", "NoColumn", "Unlike", "NoTable"],["NoTable", "NoColumn", "Twice", "Unlike", "NoKind", "NoName", "NoNote", "Misfit", "NotPlain", "NoText", "ValueError"]⟩
def top(i:Nat):Stmt:=PySem.Challenge.pw_whencewise_k42_columns_refused.main.body.getD i (.Pass ⟨0,0,0,0⟩)
abbrev qY:Stmt:=top 47
theorem yN(k:Nat):(WT TT (k+1)).Φ "refuse_twice" = phi 2 2 (evB (WT TT k) oE):=bJ (d:=xJ) rfl
theorem qZ(k:Nat):(WT TT (k+1)).Φ "columns_in" = phi 1 2 (evB (WT TT k) gR):=bJ (d:=xK) rfl
theorem yO(k:Nat):(WT TT (k+1)).Φ "askings_within" = phi 1 1 (evB (WT TT k) kN):=bJ (d:=xL) rfl
theorem yP(k:Nat):(WT TT (k+1)).Φ "refuse_missing" = phi 2 2 (evB (WT TT k) oF):=bJ (d:=xM) rfl
theorem aKZ(k:Nat):(WT TT (k+1)).Φ "columns_of_pick" = phi 2 3 (evB (WT TT k) xE):=bJ (d:=xN) rfl
theorem aK0(k:Nat):(WT TT (k+1)).Φ "kept" = phi 2 4 (evB (WT TT k) xF):=bJ (d:=xO) rfl
theorem aK1(k:Nat):(WT TT (k+1)).Φ "columns_of_keep" = phi 2 2 (evB (WT TT k) xG):=bJ (d:=xP) rfl
theorem aK2(k:Nat):(WT TT (k+1)).Φ "totalled" = phi 3 3 (evB (WT TT k) qU):=bJ (d:=xQ) rfl
theorem aK3(k:Nat):(WT TT (k+1)).Φ "columns_of_total" = phi 2 2 (evB (WT TT k) xH):=bJ (d:=xR) rfl
theorem aK4(k:Nat):(WT TT (k+1)).Φ "columns_of_call" = phi 2 4 (evB (WT TT k) xI):=bJ (d:=xS) rfl
theorem aK5(k:Nat):(WT TT (k+1)).Φ "columns_of_join" = phi 2 4 (evB (WT TT k) lY):=bJ (d:=xT) rfl
theorem aK6(k:Nat):(WT TT (k+1)).Φ "columns_of_pour" = phi 2 4 (evB (WT TT k) lZ):=bJ (d:=xU) rfl
theorem aK7(k:Nat):(WT TT (k+1)).Φ "columns_of_leave" = phi 2 5 (evB (WT TT k) oG):=bJ (d:=xV) rfl
theorem rA(k:Nat):(WT TT (k+1)).Φ "columns_of" = phi 2 4 (evB (WT TT k) dW):=bJ (d:=xW) rfl
theorem yQ(k:Nat):(WT TT (k+1)).Φ "columns_of_table" = phi 2 2 (evB (WT TT k) oH):=bJ (d:=xX) rfl
theorem aK8(k:Nat):(WT TT (k+1)).Φ "_law_cell_at" = phi 2 2 (evB (WT TT k) l3):=bJ (d:=xY) rfl
theorem aK9(k:Nat):(WT TT (k+1)).Φ "_law_names" = phi 2 11 (evB (WT TT k) fV):=bJ (d:=xZ) rfl
theorem aLA(k:Nat):(WT TT (k+1)).Φ "_law_kept" = phi 2 4 (evB (WT TT k) oI):=bJ (d:=yA) rfl
theorem aLB(k:Nat):(WT TT (k+1)).Φ "_law_classes" = phi 1 2 (evB (WT TT k) qV):=bJ (d:=yB) rfl
theorem aLC(k:Nat):(WT TT (k+1)).Φ "_law_told" = phi 2 5 (evB (WT TT k) qW):=bJ (d:=yC) rfl
theorem aLD(k:Nat):(WT TT (k+1)).Φ "_law_spoiled" = phi 3 7 (evB (WT TT k) iI):=bJ (d:=yD) rfl
theorem aLE(k:Nat):(WT TT (k+1)).Φ "_law_called" = phi 3 7 (evB (WT TT k) i6):=bJ (d:=yE) rfl
theorem aLF(k:Nat):(WT TT (k+1)).Φ "_law_first" = phi 2 2 (evB (WT TT k) i7):=bJ (d:=yF) rfl
theorem aLG(k:Nat):(WT TT (k+1)).Φ "_law_pick" = phi 4 9 (evB (WT TT k) dX):=bJ (d:=yG) rfl
theorem aLH(k:Nat):(WT TT (k+1)).Φ "_law_keep" = phi 4 10 (evB (WT TT k) iJ):=bJ (d:=yH) rfl
theorem aLI(k:Nat):(WT TT (k+1)).Φ "_law_total" = phi 4 11 (evB (WT TT k) eP):=bJ (d:=yI) rfl
theorem aLJ(k:Nat):(WT TT (k+1)).Φ "_law_call" = phi 4 10 (evB (WT TT k) iK):=bJ (d:=yJ) rfl
theorem aLK(k:Nat):(WT TT (k+1)).Φ "_law_join" = phi 5 11 (evB (WT TT k) iL):=bJ (d:=yK) rfl
theorem aLL(k:Nat):(WT TT (k+1)).Φ "_law_beside" = phi 6 16 (evB (WT TT k) cJ):=bJ (d:=yL) rfl
theorem aLM(k:Nat):(WT TT (k+1)).Φ "_law_step" = phi 5 9 (evB (WT TT k) iM):=bJ (d:=yM) rfl
theorem u_law(k:Nat):(WT TT (k+1)).Φ "law" = phi 1 15 (evB (WT TT k) fF):=bJ (d:=qX) rfl
theorem cK{ds:List D}{m m':Md}{i:Int}{d:D}(h:atI ds i=some d):op2 ixD (.ok m (.lst ds)) (.ok m' (.int i))=.ok .fz d:=bO (by show (atI ds i).map _=_;rw[h];rfl)
theorem fG{ds:List D}{m m':Md}{i:Int}{d:D}(h:atI ds i=some d):op2 ixD (.ok m (.tup ds)) (.ok m' (.int i))=.ok .fz d:=bO (by show (atI ds i).map _=_;rw[h];rfl)
theorem ix_s{z:Str}{m m':Md}{i:Int}{c:Nat}(h:atI z.cps.toList i=some c):op2 ixD (.ok m (.str z)) (.ok m' (.int i))=.ok .fz (.str ⟨#[c]⟩):=bO (by show (atI z.cps.toList i).map _=_;rw[h];rfl)
theorem rB{α:Type}(xs:List α)(v:Int)(n:Int)(hn:n=xs.length)(h:0<n):∃ c,c∈xs/\atI xs (v % n)=some c:=by
 have h0:=aQU v (show n≠0 by omega)
 have h1:=aQV v h;obtain ⟨j,hj⟩:=aQW h0;have hl:j<xs.length:=by omega
 exact ⟨xs[j],aQX hl,by rw[hj];exact bH (aPV hl)⟩
def ce(ns:List Int)(i:Int):Int:=if 0<=i then (ns[i.toNat]?).getD 0 else 0
theorem cell(k:Nat)(ns:List Int){i:Int}(h0:0<=i):(WT TT (k+1)).Φ "_law_cell_at" [.lst (ns.map .int),.int i]=.ok .fz (.int (ce ns i)):=by
 rw[aK8];refine bG rfl ?_;show evB _ l3 [some (false,.lst (ns.map .int)),some (false,.int i)]=_;obtain ⟨j,rfl⟩:=aQW h0;unfold ce;rw[if_pos h0];by_cases h:j<ns.length
 . have hx:op2 ixD (.ok .fz (.lst (ns.map .int))) (.ok .fz (.int j))=.ok .fz (.int ns[j]):=cK (bH (by rw[aOE,aPV h];rfl))
   have h':((j:Int)<(ns.length:Int)):=by omega
   simp[l3,h',hx,h]
 . have h':¬ ((j:Int)<(ns.length:Int)):=by omega
   simp[l3,h',List.getElem?_eq_none (Nat.le_of_not_lt h)]
theorem l4{n:Int}(h0:0<=n)(h1:n<=1000){m:Md}:jU (.ok [(m,.int n)])=.ok .fz (.lst (bI 0 n)):=by unfold jU;rw[aW.thn_ok];dsimp only;rw[if_pos];simp only[aOX,aPF];omega
theorem mem_range{d:D}{n:Int}(h:d∈bI 0 n):∃ i:Nat,(i:Int)<n/\d=.int i:=by simp only[bI,aQY,List.mem_range] at h;obtain ⟨i,hi,rfl⟩:=h;exact ⟨i,by omega,by simp⟩
inductive Pt where | of (k:Str) | just (v:D)
inductive Ts where | atom (s:Bool) (p q:Pt) | no (t:Ts) | two (e:Bool) (a b:Ts)
def nth(f:List Str)(k:Nat):Str:=f.getD k Str.empty
def ptD(f:List Str):Pt->D
 | .of k=>.tup [.str "of", .str k]
 | .just v=>.tup [.str "just", v]
def tsD(f:List Str):Ts->D
 | .atom s p q=>.tup [.str (if s then "same" else "under"),ptD f p,ptD f q]
 | .no t=>.tup [.str "not", tsD f t]
 | .two e a b=>.tup [.str (if e then "either" else "both"),tsD f a,tsD f b]
def Ts.dep:Ts->Nat
 | .atom ..=>0
 | .no t=>t.dep+1
 | .two _ a b=>max a.dep b.dep+1
theorem i0{a b:D}{m m':Md}:op2 ixD (.ok m (.tup [a,b])) (.ok m' (.int 0))=.ok .fz a:=fG (bH (j:=0) rfl)
theorem i1{a b:D}{m m':Md}:op2 ixD (.ok m (.tup [a,b])) (.ok m' (.int 1))=.ok .fz b:=fG (bH (j:=1) rfl)
theorem j0{a b c:D}{m m':Md}:op2 ixD (.ok m (.tup [a,b,c])) (.ok m' (.int 0))=.ok .fz a:=fG (bH (j:=0) rfl)
theorem j1{a b c:D}{m m':Md}:op2 ixD (.ok m (.tup [a,b,c])) (.ok m' (.int 1))=.ok .fz b:=fG (bH (j:=1) rfl)
theorem j2{a b c:D}{m m':Md}:op2 ixD (.ok m (.tup [a,b,c])) (.ok m' (.int 2))=.ok .fz c:=fG (bH (j:=2) rfl)
theorem wd{a b:String}(h:(Str.ofString a==Str.ofString b)=false:=by decide +kernel):(Str.ofString a==Str.ofString b)=false:=h
def cl(f:List Str):Pt->List D
 | .of k=>[.str k]
 | .just _=>[]
def eQ(f:List Str):Ts->List D
 | .atom _ p q=>cl f p++cl f q
 | .no t=>eQ f t
 | .two _ a b=>eQ f a++eQ f b
def kP(w:Str):Bool:=w==Str.ofString "both" || w==Str.ofString "either"
theorem oJ{w:Str}{m m':Md}:op2 (a8 .In) (.ok m (.str w)) (.ok m' (.tup [.str (Str.ofString "both"),.str (Str.ofString "either")]))=.ok .fz (.bl (kP w)):=by refine bO ?_;show some (Md.fz,D.bl (eqD (.str (Str.ofString "both")) (.str w)||(eqD (.str (Str.ofString "either")) (.str w)||false)))=_;congr 3;simp only[eqD,kP,Bool.or_false];rw[aQZ];simp only[aPH,aPQ];exact ⟨λh=>h.imp Eq.symm Eq.symm,λh=>h.imp Eq.symm Eq.symm⟩
theorem be:fA (.ok [(.fz,.str (Str.ofString "both")),(.fz,.str (Str.ofString "either"))])=.ok .fz (.tup [.str (Str.ofString "both"),.str (Str.ofString "either")]):=by rfl
theorem w1:kP (Str.ofString "same")=false:=by decide +kernel
theorem w2:kP (Str.ofString "under")=false:=by decide +kernel
theorem w3:kP (Str.ofString "both")=true:=by decide +kernel
theorem w4:kP (Str.ofString "either")=true:=by decide +kernel
theorem t2{a b:D}:fA (.ok [(.fz,a),(.fz,b)])=.ok .fz (.tup [a,b]):=by rfl
theorem t3{a b c:D}:fA (.ok [(.fz,a),(.fz,b),(.fz,c)])=.ok .fz (.tup [a,b,c]):=by rfl
theorem yR{n:Nat}{Φ:List D->Res}{xs:List (Md×D)}{ds:List D}{d:D}(hl:ds.length=n)(ha:cB xs=some ds)(h:Φ ds=.ok .fr d):aX n Φ (.ok xs)=.ok .fr d:=by
 show (match cB xs with | some ds=>if ds.length=n then (match Φ ds with | .ok .bo _=>Res.stuck | r=>r) else .stuck | none=>.stuck)=_
 rw[ha];show (if ds.length=n then (match Φ ds with | .ok .bo _=>Res.stuck | r=>r) else .stuck)=_
 rw[if_pos hl,h]
theorem oK{Φ:List D->Res}{a d:D}(h:Φ [a]=.ok .fr d):aX 1 Φ (.ok [(.fz,a)])=.ok .fr d:=yR (ds:=[a]) rfl rfl h
theorem cn_no(k:Nat){f:List Str}{t:Ts}{c:List D}(h:(WT TT k).Φ "columns_in" [tsD f t]=.ok .fr (.lst c)):(WT TT (k+1)).Φ "columns_in" [tsD f (.no t)]=.ok .fr (.lst c):=by have c1:aX 1 ((WT TT k).Φ "columns_in") (.ok [(.fz,tsD f t)])=.ok .fr (.lst c):=oK h;rw[qZ];refine bG rfl ?_;show evB (WT TT k) gR [some (false,.tup [.str "not", tsD f t]),none]=_;generalize tsD f t=d at *;simp[gR,i0,i1,c1]
theorem aLN(k:Nat){f:List Str}{e:Bool}{t u:Ts}{b c:List D}(h:(WT TT k).Φ "columns_in" [tsD f t]=.ok .fr (.lst b))(h':(WT TT k).Φ "columns_in" [tsD f u]=.ok .fr (.lst c))(hs:b.length+c.length<=sizeLine):(WT TT (k+1)).Φ "columns_in" [tsD f (.two e t u)]=.ok .fr (.lst (b++c)):=by
 have c1:aX 1 ((WT TT k).Φ "columns_in") (.ok [(.fz,tsD f t)])=.ok .fr (.lst b):=oK h;have c2:aX 1 ((WT TT k).Φ "columns_in") (.ok [(.fz,tsD f u)])=.ok .fr (.lst c):=oK h';rw[qZ];refine bG rfl ?_;show evB (WT TT k) gR [some (false,.tup [.str (if e then "either" else "both"),tsD f t,tsD f u]),none]=_;generalize tsD f t=d at *;generalize tsD f u=d' at *;cases e with
 | true=>simp[gR,j0,j1,j2,wd (a := "either") (b := "not"),be,oJ,w4,c1,c2,qN hs]
 | false=>simp[gR,j0,j1,j2,wd (a := "both") (b := "not"),be,oJ,w3,c1,c2,qN hs]
theorem cut1{W:WD}{ρ:Rho}{a b c:D}{m:Md}:slP (.ok m (.tup [a,b,c])) (some λρ=>evE W (.int 1) ρ) none ρ=.ok .fz (.tup [b,c]):=by simp only[slP,Res.thn_ok,cP,e_int];rfl
def tst(W:WD):Rho->Res:=λρ=>evF W [.cmp .Eq (.ix (.var 0) (.int 0)) (.str "of")] ρ
def elt(W:WD):Rho->Res:=λρ=>evE W (.ix (.var 0) (.int 1)) ρ
theorem yS{W:WD}{f:List Str}(p:Pt){ds ys:List D}(h:cR (aI (.nm 0)) (tst W) (elt W) [none] ds=some ys):cR (aI (.nm 0)) (tst W) (elt W) [none] (ptD f p::ds)=some (cl f p++ys):=by
 have k:aI (.nm 0) (ptD f p) [none]=some [some (false,ptD f p)]:=rfl;rw[cR,k];dsimp only;cases p with
 | of j =>
  have t:tst W [some (false,ptD f (.of j))]=.ok .fz (.bl true):=by simp[tst,ptD,i0]
  have e:elt W [some (false,ptD f (.of j))]=.ok .fz (.str j):=by simp[elt,ptD,i1]
  rw[t,e,h];rfl
 | just v =>
  have t:tst W [some (false,ptD f (.just v))]=.ok .fz (.bl false):=by simp[tst,ptD,i0,wd (a := "just") (b := "of")]
  rw[t,h];rfl
theorem aLO{W:WD}{ρ:Rho}{f:List Str}(p q:Pt){m:Md}:dR (.ok m (.lst [ptD f p,ptD f q])) ρ [] 1 (aI (.nm 0)) (tst W) (elt W)=.ok .fr (.lst (cl f p++cl f q)):=by
 have h0:cR (aI (.nm 0)) (tst W) (elt W) [none] []=some []:=rfl;have h:=yS (W:=W) (f:=f) p (yS (W:=W) (f:=f) q h0);rw[aN6] at h;show (if [ptD f p,ptD f q].length<sizeLine then (match cR (aI (.nm 0)) (tst W) (elt W) [none] [ptD f p,ptD f q] with | some ys=>Res.ok .fr (.lst ys) | none=>.stuck) else .stuck)=_
 rw[h,if_pos (show [ptD f p,ptD f q].length<sizeLine from (by decide +kernel:2<sizeLine))]
theorem last{W:WD}{f:List Str}{w:Str}{p q:Pt}{x:Option (Bool×D)}:evE W (.comp (.ix (.var 0) (.int 1)) (.items (.slice (.var 0) (some (.int 1)) none)) [(.cmp .Eq (.ix (.var 0) (.int 0)) (.str "of"))] [] (.nm 0) 1) [some (false,.tup [.str w,ptD f p,ptD f q]),x]=.ok .fr (.lst (cl f p++cl f q)):=by
 rw[nZ,nX,i5];have e:hV (aZ (slP (evE W (.var 0) [some (false,.tup [.str w,ptD f p,ptD f q]),x]) (evO W (some (.int 1))) (evO W none) [some (false,.tup [.str w,ptD f p,ptD f q]),x]))=.ok .fz (.lst [ptD f p,ptD f q]):=by
  have:=cut1 (W:=W) (ρ:=[some (false,.tup [.str w,ptD f p,ptD f q]),x]) (a:=.str w) (b:=ptD f p) (c:=ptD f q) (m:=.fz);simp only[evO];rw[show evE W (.var 0) [some (false,.tup [.str w,ptD f p,ptD f q]),x]=.ok .fz (.tup [.str w,ptD f p,ptD f q]) by simp]
  rw[this];rfl
 rw[e];exact aLO p q
theorem aLP(k:Nat){f:List Str}{s:Bool}{p q:Pt}:(WT TT (k+1)).Φ "columns_in" [tsD f (.atom s p q)]=.ok .fr (.lst (cl f p++cl f q)):=by
 rw[qZ];refine bG rfl ?_;show evB (WT TT k) gR [some (false,.tup [.str (if s then "same" else "under"),ptD f p,ptD f q]),none]=_;have l:=λw x=>last (W:=WT TT k) (f:=f) (w:=w) (p:=p) (q:=q) (x:=x);unfold gR;generalize E.comp (.ix (.var 0) (.int 1)) (.items (.slice (.var 0) (some (.int 1)) none)) [(.cmp .Eq (.ix (.var 0) (.int 0)) (.str "of"))] [] (.nm 0) 1=z at *;cases s with
 | true=>simp[j0,wd (a := "same") (b := "not"),be,oJ,w1,l]
 | false=>simp[j0,wd (a := "under") (b := "not"),be,oJ,w2,l]
theorem mx1(k n m:Nat):∃ j,k+max n m=j+n:=⟨k+max n m-n,by omega⟩
theorem mx2(k n m:Nat):∃ j,k+max n m=j+m:=⟨k+max n m-m,by omega⟩
theorem oM{f:List Str}:∀ (t:Ts) (k:Nat),(eQ f t).length<=sizeLine->(WT TT (k+t.dep+1)).Φ "columns_in" [tsD f t]=.ok .fr (.lst (eQ f t))
 | .atom s p q,k,_=>aLP k
 | .no t,k,hl=>cn_no (k+t.dep+1) (oM t k hl)
 | .two e a b,k,hl=>by
  have el:(eQ f a).length+(eQ f b).length<=sizeLine:=by rw[<- aOH];exact hl
  have q1:(WT TT (k+max a.dep b.dep+1)).Φ "columns_in" [tsD f a]=.ok .fr (.lst (eQ f a)):=by obtain ⟨j,e⟩:=mx1 k a.dep b.dep;rw[e];exact oM a j (aNI (Nat.le_add_right _ _) el)
  have q2:(WT TT (k+max a.dep b.dep+1)).Φ "columns_in" [tsD f b]=.ok .fr (.lst (eQ f b)):=by obtain ⟨j,e⟩:=mx2 k a.dep b.dep;rw[e];exact oM b j (aNI (Nat.le_add_left _ _) el)
  exact aLN (k+max a.dep b.dep+1) q1 q2 el
theorem aLQ{f:List Str}(t:Ts)(K:Nat)(hK:t.dep+1<=K)(hl:(eQ f t).length<=sizeLine):(WT TT K).Φ "columns_in" [tsD f t]=.ok .fr (.lst (eQ f t)):=by
 have:=oM t (K-t.dep-1) hl;rw[show K-t.dep-1+t.dep+1=K by omega] at this
 exact this
theorem aLR{z:Str}{g:Nat}:(z++⟨#[g]⟩:Str).length=z.length+1:=by show (z.cps++#[g]).size=_;rw[aPO];rfl
theorem l1{a:D}:dZ (.ok [(.fz,a)])=.ok .fr (.lst [a]):=by rfl
theorem l0:dZ (.ok [])=.ok .fr (.lst []):=by rfl
theorem rC{k:D->Rho->Option Rho}{body:Rho->aF}(I:Nat->Rho->Prop):∀ (ds:List D) (i:Nat) {ρ:Rho},(∀ j d,ds[j]? = some d->∀ ρ,I (i+j) ρ->∃ ρ1 ρ2,k d ρ=some ρ1/\body ρ1=.nx ρ2/\I (i+j+1) ρ2)->I i ρ->∃ ρ',bK k body ds ρ=.nx ρ'/\I (i+ds.length) ρ'
 | [],i,ρ,_,h=>⟨ρ,rfl,h⟩
 | d::ds,i,ρ,hs,h=>by
  obtain ⟨ρ1,ρ2,e1,e2,h2⟩:=hs 0 d rfl ρ h;obtain ⟨ρ',e3,h3⟩:=rC (k:=k) (body:=body) I ds (i+1) (λj d hd ρ hρ=>by
   have:=hs (j+1) d (by rw[aQ0];exact hd) ρ (by rw[show i+(j+1)=i+1+j by omega];exact hρ)
   rw[show i+(j+1)+1=i+1+j+1 by omega] at this
   exact this) h2
  refine ⟨ρ',?_,by rw[show i+(d::ds).length=i+1+ds.length by rw[aO8];omega];exact h3⟩
  unfold bK;rw[e1];dsimp only;rw[e2];exact e3
theorem yT{n j:Nat}{d:D}(h:(bI 0 (n:Int))[j]? = some d):j<n/\d=.int (j:Int):=by
 simp only[bI,aOE] at h;by_cases hj:j<n
 . refine ⟨hj,?_⟩;rw[List.getElem?_range (by omega)] at h
   simp at h;exact h.symm
 . rw[List.getElem?_eq_none (by simp;omega)] at h
   cases h
theorem rD(n:Nat):(bI 0 (n:Int)).length=n:=by simp[bI]
def L36:Str:=Str.ofString "abcdefghijklmnopqrstuvwxyz0123456789"
def mst(j:Nat):Int:=if j=0 then 26 else 36
theorem m_l:dZ (.ok [(.fz,.int 26),(.fz,.int 36)])=.ok .fr (.lst [.int 26,.int 36]):=by rfl
theorem rE(j:Nat):0<mst j/\mst j<=36:=by unfold mst;split <;> decide
theorem l36:(L36.cps.toList).length=36:=by decide +kernel
theorem yU(v:Int)(j:Nat):∃ g,L36.cps.toList[(v % mst j).toNat]? = some g/\∀ m m':Md,op2 ixD (.ok m (.str L36)) (.ok m' (.int (v % mst j)))=.ok .fz (.str ⟨#[g]⟩):=by
 obtain ⟨p,q⟩:=rE j;have h0:=aQU v (show mst j≠0 by omega)
 have h1:=aQV v p;have hl:=l36;obtain ⟨i,hi⟩:=aQW h0;have hx:i<L36.cps.toList.length:=by omega
 refine ⟨L36.cps.toList[i],by rw[hi];exact aPV hx,λm m'=>?_⟩
 rw[hi];exact ix_s (bH (aPV hx))
theorem yV(j:Nat):op2 ixD (.ok .fr (.lst [.int 26,.int 36])) (.ok .fz (.int (if 0<j then 1 else 0)))=.ok .fz (.int (mst j)):=by
 cases j with
 | zero=>exact cK (bH (j:=0) rfl)
 | succ j=>rw[if_pos (Nat.succ_pos j)];exact cK (bH (j:=1) rfl)
def i8(c:Int)(a k:Nat):Option Nat:=L36.cps.toList[((c / 240+5 * (k:Int)) % mst a).toNat]?
def inv(c:Int)(a k j:Nat)(z:Str):Prop:=z.length=j/\(a<j->z.cps.toList[a]? = i8 c a k)/\PyData.strOk z=true
theorem l36s:∀ g∈L36.cps.toList,g<1114112:=by decide +kernel
theorem yW{c:Int}{a k j:Nat}{z:Str}{g:Nat}(h:inv c a k j z)(hg:a=j->i8 c a k=some g)(hb:g<1114112):inv c a k (j+1) (z++⟨#[g]⟩):=by
 have ec:(z++⟨#[g]⟩:Str).cps.toList=z.cps.toList++[g]:=by show (z.cps++#[g]).toList=_;simp
 have el:z.cps.toList.length=j:=by rw[aNT];exact h.1
 refine ⟨by rw[aLR,h.1],λha=>?_,?_⟩
 rotate_left
 . have:=h.2.2;unfold PyData.strOk at this ⊢;show (z.cps++#[g]).all _=true;rw[aPI,this];simp[hb]
 rw[ec];by_cases e:a=j
 . rw[aOB (by omega),hg e]
   rw[show a-z.cps.toList.length=0 by omega];rfl
 . rw[aOD (by omega)]
   exact h.2.1 (by omega)
theorem inner(K:Nat){c:Int}{a k s:Nat}(hs:s<=40)(x1:Option (Bool×D))(x5:Option (Bool×D))(x8 x9 x10:Option (Bool×D)):∃ z y8 y9 y10,inv c a k s z/\iT (.ok .fz (.lst (bI 0 (s:Int)))) [some (false,.int c),x1,some (false,.str L36),some (false,.int (s:Int)),some (false,.int (a:Int)),x5,some (false,.int (k:Int)),some (false,.str (Str.ofString "")),x8,x9,x10] (aI (.nm 8)) (evB (WT TT K) iH)=.nx [some (false,.int c),x1,some (false,.str L36),some (false,.int (s:Int)),some (false,.int (a:Int)),x5,some (false,.int (k:Int)),some (false,.str z),y8,y9,y10]:=by
 obtain ⟨ρ',e,I⟩:=rC (k:=aI (.nm 8)) (body:=evB (WT TT K) iH)
  (λj ρ=>∃ z y8 y9 y10,inv c a k j z/\ρ=[some (false,.int c),x1,some (false,.str L36),some (false,.int (s:Int)),some (false,.int (a:Int)),x5,some (false,.int (k:Int)),some (false,.str z),y8,y9,y10])
  (bI 0 (s:Int)) 0 (ρ:=[some (false,.int c),x1,some (false,.str L36),some (false,.int (s:Int)),some (false,.int (a:Int)),x5,some (false,.int (k:Int)),some (false,.str (Str.ofString "")),x8,x9,x10])
  (λj d hd ρ hρ=>by
   obtain ⟨z,y8,y9,y10,hz,rfl⟩:=hρ;obtain ⟨hj,rfl⟩:=yT hd;rw[aP7] at hz ⊢;have d1:op2 (bN .FloorDiv) (.ok .fz (.int (c / 7))) (.ok .fz (.int ((j:Int)+1)))=.ok .fz (.int (c / 7 / ((j:Int)+1))):=wM (by omega) (by omega)
   have m1:op2 (bN .Mult) (.ok .fz (.int 5)) (.ok .fz (.int (k:Int)))=.ok .fz (.int (5 * (k:Int))):=wO (by decide)
   have hsz:sizeLine=16777216:=aN4;have mp:=(rE j).1;by_cases e:j=a
   . obtain ⟨g,hg,eg⟩:=yU (c / 240+5 * (k:Int)) j;have hla:z.length+(⟨#[g]⟩:Str).length<=sizeLine:=by have:(⟨#[g]⟩:Str).length=1:=rfl;have:=hz.1;omega
     have eb:((j:Int)==(a:Int))=true:=by rw[e];exact aP1 _
     refine ⟨[some (false,.int c),x1,some (false,.str L36),some (false,.int (s:Int)),some (false,.int (a:Int)),x5,some (false,.int (k:Int)),some (false,.str z),some (false,.int (j:Int)),y9,y10],[some (false,.int c),x1,some (false,.str L36),some (false,.int (s:Int)),some (false,.int (a:Int)),x5,some (false,.int (k:Int)),some (false,.str (z++⟨#[g]⟩)),some (false,.int (j:Int)),some (false,.int (mst j)),some (false,.int (c / 240+5 * (k:Int)))],by simp,?_,_,_,_,_,yW hz (λh=>by unfold i8;rw[h];exact hg) (l36s g (aOG hg)),rfl⟩
     have mm:=lV (m:=.fz) (n:=.fz) (i:=c / 240+5 * (k:Int)) mp;have mi:=yV j;simp[iH,Ty.f,m_l,mi,d1,m1,eb,mm,eg,wP hla]
   . obtain ⟨g,hg,eg⟩:=yU (c / 7 / ((j:Int)+1)) j;have hla:z.length+(⟨#[g]⟩:Str).length<=sizeLine:=by have:(⟨#[g]⟩:Str).length=1:=rfl;have:=hz.1;omega
     have eb:((j:Int)==(a:Int))=false:=aM6.mpr (by omega)
     refine ⟨[some (false,.int c),x1,some (false,.str L36),some (false,.int (s:Int)),some (false,.int (a:Int)),x5,some (false,.int (k:Int)),some (false,.str z),some (false,.int (j:Int)),y9,y10],[some (false,.int c),x1,some (false,.str L36),some (false,.int (s:Int)),some (false,.int (a:Int)),x5,some (false,.int (k:Int)),some (false,.str (z++⟨#[g]⟩)),some (false,.int (j:Int)),some (false,.int (mst j)),some (false,.int (c / 7 / ((j:Int)+1)))],by simp,?_,_,_,_,_,yW hz (λh=>absurd h.symm e) (l36s g (aOG hg)),rfl⟩
     have mm:=lV (m:=.fz) (n:=.fz) (i:=c / 7 / ((j:Int)+1)) mp;have mi:=yV j;simp[iH,Ty.f,m_l,mi,d1,m1,eb,mm,eg,wP hla])
  ⟨_,_,_,_,⟨by decide +kernel,λh=>absurd h (Nat.not_lt_zero _),by decide +kernel⟩,rfl⟩
 rw[aP7,rD] at I;obtain ⟨z,y8,y9,y10,hz,rfl⟩:=I;exact ⟨z,y8,y9,y10,hz,e⟩
theorem aLS{c:Int}{a k k':Nat}(hk:k<12)(hk':k'<12)(h:i8 c a k=i8 c a k'):k=k':=by
 have nd:∀ i<36,∀ j<36,L36.cps.toList[i]? = L36.cps.toList[j]? -> i=j:=by decide +kernel
 obtain ⟨p,q⟩:=rE a;have a0:=aQU (c / 240+5 * (k:Int)) (show mst a≠0 by omega)
 have a1:=aQV (c / 240+5 * (k:Int)) p;have b0:=aQU (c / 240+5 * (k':Int)) (show mst a≠0 by omega)
 have b1:=aQV (c / 240+5 * (k':Int)) p;have e:=nd _ (by omega) _ (by omega) h
 have e':(c / 240+5 * (k:Int)) % mst a=(c / 240+5 * (k':Int)) % mst a:=by omega
 have hm:mst a=26\/mst a=36:=by unfold mst;split <;> simp
 clear e h a0 a1 b0 b1 p q
 rcases hm with hm | hm <;> rw[hm] at e' <;> omega
theorem aLT{W:WD}{s:Nat}(hs:s<=40){z:Str}{x0 x1 x2 x4 x5 x6 x7 x8 x9 x10 y8 y9 y10:Option (Bool×D)}(e:iT (.ok .fz (.lst (bI 0 (s:Int)))) [x0,x1,x2,some (false,.int (s:Int)),x4,x5,x6,some (false,.str (Str.ofString "")),x8,x9,x10] (aI (.nm 8)) (evB W iH)=.nx [x0,x1,x2,some (false,.int (s:Int)),x4,x5,x6,some (false,.str z),y8,y9,y10]):evB W (dU.take 2) [x0,x1,x2,some (false,.int (s:Int)),x4,x5,x6,x7,x8,x9,x10]=.nx [x0,x1,x2,some (false,.int (s:Int)),x4,x5,x6,some (false,.str z),y8,y9,y10]:=by
 have er:=l4 (m:=.fz) (n:=(s:Int)) (by omega) (by omega)
 have ea:dU.take 2=[.set 7 (.str (Str.ofString "")),.for (.rng1 (.var 3)) (.nm 8) iH]:=rfl;rw[ea];generalize bI 0 (s:Int)=R at *;generalize iH=B at *;generalize Str.ofString "" = E0 at *;have st:[x0,x1,x2,some (false,.int (s:Int)),x4,x5,x6,x7,x8,x9,x10].set 7 (some (false,D.str E0))=[x0,x1,x2,some (false,.int (s:Int)),x4,x5,x6,some (false,.str E0),x8,x9,x10]:=rfl;have g3:cA [x0,x1,x2,some (false,.int (s:Int)),x4,x5,x6,some (false,.str E0),x8,x9,x10] 3=.ok .fz (.int (s:Int)):=rfl;have c1:dO (.ok .fz (.int (s:Int))) (.ok [])=.ok [(.fz,.int (s:Int))]:=rfl;rw[aU,n6,e_str,wS,aF.thn_nx,st,aU,iG,nY,gO,g3,c1,er,e,aF.thn_nx,bL]
def gM(x:Str):Prop:=x.length<=40/\PyData.strOk x=true
def i9(c:Int)(a:Nat)(zs:List Str):Prop:=∀ k,k<zs.length->gM (nth zs k)/\(nth zs k).cps.toList[a]? = i8 c a k
theorem aLU{c:Int}{a:Nat}{zs:List Str}{y:Str}(h:i9 c a zs)(h1:gM y)(h2:y.cps.toList[a]? = i8 c a zs.length):i9 c a (zs++[y]):=by
 intro k hk;rw[aOH] at hk;unfold nth;rw[aQ1];by_cases e:k<zs.length
 . rw[aOD e,<- aQ1];exact h k e
 . have:k=zs.length:=by simp at hk;omega
   subst this;rw[aOB (aNY _),Nat.sub_self];exact ⟨h1,h2⟩
theorem aLV{W:WD}{ds:List D}{z:Str}{x0 x1 x2 x3 x4 x6 y8 y9 y10:Option (Bool×D)}(hl:ds.length<sizeLine):evB W (dU.drop 2) [x0,x1,x2,x3,x4,some (true,.lst ds),x6,some (false,.str z),y8,y9,y10]=.nx [x0,x1,x2,x3,x4,some (true,.lst (ds++[.str z])),x6,some (false,.str z),y8,y9,y10]:=by have ea:dU.drop 2=[.app 5 (.var 7)]:=rfl;rw[ea,aU,wK,gO];show (if ds.length<sizeLine then _ else _:aF).thn _=_;rw[if_pos hl,aF.thn_nx,bL];rfl
theorem turn(K:Nat){c:Int}{a s:Nat}{zs:List Str}(hs:s<=40)(ha:a<s)(hz:i9 c a zs)(hk:zs.length<12)(x1 x7 x8 x9 x10:Option (Bool×D)):∃ y y7 y8 y9 y10,i9 c a (zs++[y])/\evB (WT TT K) dU [some (false,.int c),x1,some (false,.str L36),some (false,.int (s:Int)),some (false,.int (a:Int)),some (true,.lst (zs.map .str)),some (false,.int (zs.length:Int)),x7,x8,x9,x10]=.nx [some (false,.int c),x1,some (false,.str L36),some (false,.int (s:Int)),some (false,.int (a:Int)),some (true,.lst ((zs++[y]).map .str)),some (false,.int (zs.length:Int)),y7,y8,y9,y10]:=by
 obtain ⟨z,y8,y9,y10,hi,e⟩:=inner K (c:=c) (a:=a) (k:=zs.length) hs x1 (some (true,.lst (zs.map .str))) x8 x9 x10;have hsz:sizeLine=16777216:=aN4;have hl:(zs.map D.str).length<sizeLine:=by rw[aOI];omega
 refine ⟨z,some (false,.str z),y8,y9,y10,aLU hz ⟨by have:=hi.1;show z.length<=40;omega,hi.2.2⟩ (hi.2.1 ha),?_⟩
 have ea:dU=dU.take 2++dU.drop 2:=rfl;rw[ea,fE,aLT hs e,aF.thn_nx,aLV hl,aQ2];rfl
def six:List D:=[.int 1,.int 2,.int 3,.int 5,.int 8,.int 40]
theorem six_l:dZ (.ok [(.fz,.int 1),(.fz,.int 2),(.fz,.int 3),(.fz,.int 5),(.fz,.int 8),(.fz,.int 40)])=.ok .fr (.lst six):=by rfl
theorem six_n{d:D}(h:d∈six):∃ s:Nat,0<s/\s<=40/\d=.int (s:Int):=by
 simp only[six,aNK,aQ3,aQG] at h;rcases h with rfl | rfl | rfl | rfl | rfl | rfl
 . exact ⟨1,by decide,by decide,rfl⟩
 . exact ⟨2,by decide,by decide,rfl⟩
 . exact ⟨3,by decide,by decide,rfl⟩
 . exact ⟨5,by decide,by decide,rfl⟩
 . exact ⟨8,by decide,by decide,rfl⟩
 . exact ⟨40,by decide,by decide,rfl⟩
theorem aLW{W:WD}(c:Int)(N:Int):∃ s a:Nat,s<=40/\a<s/\evB W (fV.take 4) [some (false,.int c),some (false,.int N),none,none,none,none,none,none,none,none,none]=.nx [some (false,.int c),some (false,.int N),some (false,.str L36),some (false,.int (s:Int)),some (false,.int (a:Int)),some (true,.lst []),none,none,none,none,none]:=by
 obtain ⟨d,hd,ed⟩:=rB six c 6 rfl (by decide)
 obtain ⟨s,h0,h1,rfl⟩:=six_n hd;have ex:=cK (m:=.fr) (m':=.fz) ed;have a0:=aQU (c / 6) (show (s:Int)≠0 by omega)
 have a1:=aQV (c / 6) (show (0:Int)<(s:Int) by omega)
 obtain ⟨a,ha⟩:=aQW a0;have em:op2 (bN .Mod) (.ok .fz (.int (c / 6))) (.ok .fz (.int (s:Int)))=.ok .fz (.int (a:Int)):=by rw[lV (by omega),ha]
 refine ⟨s,a,h1,by omega,?_⟩
 have ea : fV.take 4 = [.set 2 (.str L36),
     .set 3 (.ix (.lst [(.int 1),(.int 2),(.int 3),(.int 5),(.int 8),(.int 40)]) (.bin .Mod (.var 0) (.int 6))),
     .set 4 (.frz (.bin .Mod (.bin .FloorDiv (.var 0) (.int 6)) (.var 3))),
     .set 5 (.lst [])]:=rfl
 rw[ea];generalize L36=l;simp[six_l,ex,em,l0]
theorem aLX(K:Nat){c:Int}{a s:Nat}(hs:s<=40)(ha:a<s)(x1:Option (Bool×D)){n:Nat}(hn:n<=12):∃ zs y6 y7 y8 y9 y10,zs.length=n/\i9 c a zs/\iT (.ok .fz (.lst (bI 0 (n:Int)))) [some (false,.int c),x1,some (false,.str L36),some (false,.int (s:Int)),some (false,.int (a:Int)),some (true,.lst []),none,none,none,none,none] (aI (.nm 6)) (evB (WT TT K) dU)=.nx [some (false,.int c),x1,some (false,.str L36),some (false,.int (s:Int)),some (false,.int (a:Int)),some (true,.lst (zs.map .str)),y6,y7,y8,y9,y10]:=by
 obtain ⟨ρ',e,I⟩:=rC (k:=aI (.nm 6)) (body:=evB (WT TT K) dU)
  (λj ρ=>∃ zs x6 x7 x8 x9 x10,zs.length=j/\i9 c a zs/\ρ=[some (false,.int c),x1,some (false,.str L36),some (false,.int (s:Int)),some (false,.int (a:Int)),some (true,.lst (zs.map .str)),x6,x7,x8,x9,x10])
  (bI 0 (n:Int)) 0 (ρ:=[some (false,.int c),x1,some (false,.str L36),some (false,.int (s:Int)),some (false,.int (a:Int)),some (true,.lst []),none,none,none,none,none])
  (λj d hd ρ hρ=>by
   obtain ⟨zs,x6,x7,x8,x9,x10,hz,ht,rfl⟩:=hρ;obtain ⟨hj,rfl⟩:=yT hd;rw[aP7] at hz ⊢;subst hz;obtain ⟨y,y7,y8,y9,y10,hy,ey⟩:=turn K hs ha ht (by omega) x1 x7 x8 x9 x10
   refine ⟨[some (false,.int c),x1,some (false,.str L36),some (false,.int (s:Int)),some (false,.int (a:Int)),some (true,.lst (zs.map .str)),some (false,.int (zs.length:Int)),x7,x8,x9,x10],_,by rw[wI];rfl,ey,zs++[y],_,y7,y8,y9,y10,by rw[aOH];rfl,hy,rfl⟩)
  ⟨[],none,none,none,none,none,rfl,λk hk=>absurd hk (Nat.not_lt_zero _),rfl⟩
 rw[aP7,rD] at I;obtain ⟨zs,y6,y7,y8,y9,y10,hz,ht,rfl⟩:=I;exact ⟨zs,y6,y7,y8,y9,y10,hz,ht,e⟩
theorem aLY{W:WD}{x0 x2 x3 x4 y5 y6 y7 y8 y9 y10:Option (Bool×D)}{zs:List D}{n:Nat}(hn:n<=12)(e:iT (.ok .fz (.lst (bI 0 (n:Int)))) [x0,some (false,.int (n:Int)),x2,x3,x4,y5,none,none,none,none,none] (aI (.nm 6)) (evB W dU)=.nx [x0,some (false,.int (n:Int)),x2,x3,x4,some (true,.lst zs),y6,y7,y8,y9,y10]):evB W (fV.drop 4) [x0,some (false,.int (n:Int)),x2,x3,x4,y5,none,none,none,none,none]=.rt .fr (.lst zs):=by
 have er:=l4 (m:=.fz) (n:=(n:Int)) (by omega) (by omega)
 have ea:fV.drop 4=[.for (.rng1 (.var 1)) (.nm 6) dU,.retV 5]:=rfl;rw[ea];generalize bI 0 (n:Int)=R at *;generalize dU=B at *;have g1:cA [x0,some (false,.int (n:Int)),x2,x3,x4,y5,none,none,none,none,none] 1=.ok .fz (.int (n:Int)):=rfl;have c1:dO (.ok .fz (.int (n:Int))) (.ok [])=.ok [(.fz,.int (n:Int))]:=rfl;rw[aU,iG,nY,gO,g1,c1,er,e,aF.thn_nx,aU,aKC];rfl
theorem iN{F:List Str}{k:Nat}(hk:k<F.length):nth F k=F[k]:=by unfold nth;rw[aQ1,aPV hk];rfl
theorem aLZ{c:Int}{a:Nat}{zs:List Str}(h:i9 c a zs)(hl:zs.length<=12):zs.Nodup:=by
 refine aQ4.mpr λi j hi hj hij e=>?_;have h1:=(h i hi).2;have h2:=(h j hj).2;rw[iN hi,e,<- iN hj,h2] at h1;have:=aLS (c:=c) (a:=a) (by omega) (by omega) h1
 omega
theorem names(K:Nat)(c:Int){n:Nat}(hn:n<=12):∃ zs:List Str,zs.length=n/\zs.Nodup/\(∀ z∈zs,gM z)/\(WT TT (K+1)).Φ "_law_names" [.int c,.int (n:Int)]=.ok .fr (.lst (zs.map .str)):=by
 obtain ⟨s,a,hs,ha,e1⟩:=aLW (W:=WT TT K) c (n:Int);obtain ⟨zs,y6,y7,y8,y9,y10,hz,ht,e2⟩:=aLX K (c:=c) hs ha (some (false,.int (n:Int))) hn;refine ⟨zs,hz,aLZ ht (by omega),λz hm=>?_,?_⟩
 . obtain ⟨j,hj,rfl⟩:=aQ5.mp hm;have:=(ht j hj).1;rw[iN hj] at this;exact this
 rw[aK9];refine bG rfl ?_;show evB (WT TT K) fV [some (false,.int c),some (false,.int (n:Int)),none,none,none,none,none,none,none,none,none]=_;have ea:fV=fV.take 4++fV.drop 4:=rfl;rw[ea,fE,e1,aF.thn_nx];exact aLY hn e2
theorem yX{n N:Nat}{g:Rho->aF}{ds:List D}{ρ:Rho}(hl:ds.length=n)(h:g (fB N ds)=.nx ρ):phi n N g ds=.ok .fz .non:=by unfold phi;rw[if_pos hl,h];rfl
abbrev Tp(C:List Str):D:=.tup (C.map .str)
theorem yY{C:List Str}:(C.map D.str).all cY=true:=by rw[List.all_map];exact aQQ.mpr λ_ _=>rfl
theorem yZ{C:List Str}{z:Str}:((C.map D.str).any λy=>eqD y (.str z))=decide (z∈C):=by
 rw[aQZ,List.any_map,List.any_eq_true,aPF];constructor
 . rintro ⟨y,hy,e⟩;have e:(y==z)=true:=e;rw[aPQ] at e;subst e;exact hy
 . exact λh=>⟨z,h,by show (z==z)=true;exact aP1 z⟩
theorem rF{m m':Md}{z:Str}{C:List Str}:op2 (a8 .In) (.ok m (.str z)) (.ok m' (Tp C))=.ok .fz (.bl (decide (z∈C))):=by refine bO ?_;show (if (cY (.str z)&&(C.map D.str).all cY)=true then some (Md.fz,D.bl (if false=true then _ else ((C.map D.str).any λy=>eqD y (.str z)))) else none)=_;rw[yY,yZ];rfl
theorem l5{m m':Md}{z:Str}{C:List Str}:op2 (a8 .NotIn) (.ok m (.str z)) (.ok m' (Tp C))=.ok .fz (.bl (!decide (z∈C))):=by refine bO ?_;show (if (cY (.str z)&&(C.map D.str).all cY)=true then some (Md.fz,D.bl (if true=true then !((C.map D.str).any λy=>eqD y (.str z)) else _)) else none)=_;rw[yY,yZ];rfl
theorem kQ:∀ C:List Str,cS (C.map D.str)=some (C.map PyData.str)
 | []=>rfl
 | z::C=>by
  show (match bE (.str z),cS (C.map D.str) with | some p,some ps=>some (p::ps) | _,_=>none)=_
  rw[kQ C];rfl
theorem rG:∀ C:List Str,PyData.depthAll (C.map PyData.str)=0
 | []=>by simp[PyData.depthAll]
 | z::C=>by simp[PyData.depthAll,PyData.depth,rG C]
theorem kR{C:List Str}:d9 (.tuple (C.map .str))=true:=by unfold d9;simp[PyData.depth,rG]
theorem rH:∀ C:List Str,PyData.eqvAll (C.map PyData.str) (C.map PyData.str)=true
 | []=>by simp[PyData.eqvAll]
 | z::C=>by simp[PyData.eqvAll,PyData.eqv,rH C]
theorem ne_0{m m':Md}{C:List Str}:op2 (a8 .NotEq) (.ok m (Tp C)) (.ok m' (.tup []))=.ok .fz (.bl (!C.isEmpty)):=by
 refine bO ?_;have s0:d9 (.tuple [])=true:=kR (C:=[]);cases C with
 | nil=>simp[a8,fNe,orO,eqF,bE,cS,s0,PyData.eqv,PyData.eqvAll]
 | cons z C=>have:=kR (C:=z::C);rw[aO9] at this;simp[a8,fNe,orO,eqF,bE,cS,kQ,s0,this,PyData.eqv,PyData.eqvAll]
section
variable {W:WD}{ρ:Rho}{ds:List D}{e:E}{i:Nat}{m:Md}
theorem y0:cF ds none (some (i:Int))=ds.take i:=by
 unfold cF;rw[HT.tK,HT.jK,aP5,Nat.sub_zero];by_cases h:i<=ds.length
 . rw[aQ6 h]
 . rw[Nat.min_eq_right (by omega),aQM,aP6 (by omega)]
theorem aL0:cF ds (some (i:Int)) none=ds.drop i:=by
 unfold cF;rw[HT.tK,HT.jK];by_cases h:i<=ds.length
 . rw[aQ6 h];exact aP6 (by rw[aOS];omega)
 . rw[Nat.min_eq_right (by omega),aPW,List.drop_of_length_le (by omega)];simp
theorem rJ(h:evE W e ρ=.ok m (.int (i:Int))):slP (.ok .fz (.tup ds)) (evO W none) (evO W (some e)) ρ=.ok .fz (.tup (ds.take i)):=by simp only[evO,slP,Res.thn_ok,cP,h];rw[if_neg (by simp),y0]
theorem sl_lo(h:evE W e ρ=.ok m (.int (i:Int))):slP (.ok .fz (.tup ds)) (evO W (some e)) (evO W none) ρ=.ok .fz (.tup (ds.drop i)):=by simp only[evO,slP,Res.thn_ok,cP,h];rw[if_neg (by simp),aL0]
theorem y1{m':Md}(h:evE W e ρ=.ok m (.int (i:Int))):slP (.ok m' (.lst ds)) (evO W none) (evO W (some e)) ρ=.ok .fr (.lst (ds.take i)):=by simp only[evO,slP,Res.thn_ok,cP,h];rw[y0]
end
theorem aL1(k:Nat){z:Str}{C:List Str}(h:z∈C):(WT TT (k+1)).Φ "refuse_missing" [.str z,Tp C]=.ok .fz .non:=by rw[yP];refine yX (ρ:=[some (false,.str z),some (false,Tp C)]) rfl ?_;show evB _ oF [some (false,.str z),some (false,Tp C)]=_;have e:=l5 (m:=.fz) (m':=.fz) (z:=z) (C:=C);rw[aO7 h] at e;generalize Tp C=t at *;simp[oF,e]
theorem rK{C:List Str}{i:Nat}(hi:i<C.length){m m':Md}:op2 ixD (.ok m (Tp C)) (.ok m' (.int (i:Int)))=.ok .fz (.str C[i]):=fG (bH (by rw[aOE,aPV hi];rfl))
theorem rL:∀ {ds:List D} {i j:Nat} {d:D},(bT i ds)[j]? = some d->∃ x,ds[j]? = some x/\d=.tup [.int ((i+j:Nat):Int),x]
 | [],i,j,d,h=>by simp[bT] at h
 | x::ds,i,0,d,h=>by simp[bT] at h;exact ⟨x,rfl,h.symm⟩
 | x::ds,i,j+1,d,h=>by simp only[bT,aQ0] at h;obtain ⟨y,hy,e⟩:=rL h;exact ⟨y,by rw[aQ0];exact hy,by rw[e,show i+1+j=i+(j+1) by omega]⟩
theorem h0{a:D}{m m':Md}:op2 ixD (.ok m (.lst [a])) (.ok m' (.int 0))=.ok .fz a:=cK (bH (j:=0) rfl)
theorem f0{a b c d:D}{m m':Md}:op2 ixD (.ok m (.tup [a,b,c,d])) (.ok m' (.int 0))=.ok .fz a:=fG (bH (j:=0) rfl)
theorem f1{a b c d:D}{m m':Md}:op2 ixD (.ok m (.tup [a,b,c,d])) (.ok m' (.int 1))=.ok .fz b:=fG (bH (j:=1) rfl)
theorem f2{a b c d:D}{m m':Md}:op2 ixD (.ok m (.tup [a,b,c,d])) (.ok m' (.int 2))=.ok .fz c:=fG (bH (j:=2) rfl)
theorem f3{a b c d:D}{m m':Md}:op2 ixD (.ok m (.tup [a,b,c,d])) (.ok m' (.int 3))=.ok .fz d:=fG (bH (j:=3) rfl)
theorem oN{C:List Str}{m:Md}:hU [(m,Tp C)]=some (.fz,.int (C.length:Int)):=by show some (Md.fz,D.int ((C.map D.str).length:Int))=_;rw[aOI]
theorem oO{C C':List Str}{m m':Md}(h:C.length+C'.length<=sizeLine):op2 (bN .Add) (.ok m (Tp C)) (.ok m' (Tp C'))=.ok .fz (Tp (C++C')):=by rw[aKM (by rw[aOI,aOI];exact h),<- aQ2]
theorem l6(a b:Str):(a++b).length=a.length+b.length:=by show (a.cps++b.cps).size=_;rw[aPO];rfl
theorem l7{out y:Str}{g:Rho->Res}{gs:List (Rho->Res)}{ρ:Rho}{m:Md}(h:g ρ=.ok m (.str y))(hl:(out++y).length<=sizeLine):dS out (g::gs) ρ=dS (out++y) gs ρ:=by show (g ρ).thn _=_;rw[h];show (if (out++y).length<=sizeLine then _ else _)=_;rw[if_pos hl]
theorem y2{out:Str}{ρ:Rho}(hl:out.length<=sizeLine):dS out [] ρ=.ok .fz (.str out):=by show (if out.length<=sizeLine then _ else _)=_;rw[if_pos hl]
theorem fs2{W:WD}{ρ:Rho}{a z:Str}{e:E}{m:Md}(ha:a.length<=100)(hz:z.length<=40)(h:evE W e ρ=.ok m (.str z)):∃ y,evE W (.fstr [.str a,.fmt e]) ρ=.ok .fz (.str y):=by
 have hs:sizeLine=16777216:=aN4;have q1:(Str.empty++a).length<=100:=by rw[l6];show 0+a.length<=_;omega
 have q2:(Str.empty++a++z).length<=140:=by rw[l6];omega
 refine ⟨Str.empty++a++z,?_⟩;rw[wH];show dS Str.empty [λρ=>evE W (.str a) ρ,λρ=>evE W (.fmt e) ρ] ρ=_;rw[l7 (m:=.fz) (y:=a) rfl (by omega),l7 (m:=.fz) (y:=z) (by show evE W (.fmt e) ρ=_;rw[wG,h];rfl) (by omega),y2 (by omega)]
theorem fs3{W:WD}{ρ:Rho}{a b z:Str}{e:E}{m:Md}(ha:a.length<=100)(hb:b.length<=100)(hz:z.length<=40)(h:evE W e ρ=.ok m (.str z)):∃ y,evE W (.fstr [.str a,.fmt e,.str b]) ρ=.ok .fz (.str y):=by
 have hs:sizeLine=16777216:=aN4;have q1:(Str.empty++a).length<=100:=by rw[l6];show 0+a.length<=_;omega
 have q2:(Str.empty++a++z).length<=140:=by rw[l6];omega
 have q3:(Str.empty++a++z++b).length<=240:=by rw[l6];omega
 refine ⟨Str.empty++a++z++b,?_⟩;rw[wH];show dS Str.empty [λρ=>evE W (.str a) ρ,λρ=>evE W (.fmt e) ρ,λρ=>evE W (.str b) ρ] ρ=_;rw[l7 (m:=.fz) (y:=a) rfl (by omega),l7 (m:=.fz) (y:=z) (by show evE W (.fmt e) ρ=_;rw[wG,h];rfl) (by omega),l7 (m:=.fz) (y:=b) rfl (by omega),y2 (by omega)]
theorem oP{W:WD}{ρ:Rho}{c:Str}{e:E}{m:Md}{d:D}(h:evE W e ρ=.ok m d):evB W [.rz c [e]] ρ=.exc c ρ:=by have hs:sizeLine=16777216:=aN4;rw[aU,s_rz,aR,bW,h];show (rzR c ρ (.ok [(m,d)])).thn _=_;rw[x_rz (by show 1<=_;omega)];rfl
theorem rM{W:WD}{ρ:Rho}{c:Str}{t e:E}{d:D}{m':Md}(ht:evE W t ρ=.ok .fz (.bl true))(h:evE W e ρ=.ok m' d):evB W [.ite t [.rz c [e]] []] ρ=.exc c ρ:=by rw[aU,kG,ht,n8,oP h];rfl
section
variable {W:WD}{c e:E}{ρ ρ':Rho}{x y r:List D3.S}{m:Md}{d:D}{i:Nat}{cs:Str}
theorem bA(h:evE W c ρ=.ok .fz (.bl false)):evB W (.ite c x []::r) ρ=evB W r ρ:=by rw[aU,kG,h,wR,bL,aF.thn_nx]
theorem eE(h:evE W c ρ=.ok .fz (.bl true))(h':evB W x ρ=.rt m d):evB W (.ite c x y::r) ρ=.rt m d:=by rw[aU,kG,h,n8,h',aF.thn_rt]
theorem cT(h:evE W c ρ=.ok .fz (.bl true))(h':evB W x ρ=.nx ρ'):evB W (.ite c x y::r) ρ=evB W r ρ':=by rw[aU,kG,h,n8,h',aF.thn_nx]
theorem rN(h:evE W c ρ=.ok .fz (.bl true))(h':evB W x ρ=.exc cs ρ'):evB W (.ite c x y::r) ρ=.exc cs ρ':=by rw[aU,kG,h,n8,h',aF.thn_exc]
theorem aJ(h:evE W e ρ=.ok .fz d)(hρ:ρ.set i (some (false,d))=ρ'):evB W (.set i e::r) ρ=evB W r ρ':=by rw[aU,n6,h,wS,aF.thn_nx,hρ]
theorem eS(h:evE W e ρ=.ok .fz d):evB W (.ret e::r) ρ=.rt .fz d:=by rw[aU,kE,h,x_ret,aF.thn_rt]
end
def dM:Str:=Str.ofString "NoTable"
def bF:Str:=Str.ofString "NoColumn"
def bX:Str:=Str.ofString "Twice"
def bP:Str:=Str.ofString "Unlike"
theorem aL2(k:Nat){z:Str}{C:List Str}(hz:z.length<=40)(h:¬ z∈C):(WT TT (k+1)).Φ "refuse_missing" [.str z,Tp C]=.exc bF:=by
 rw[yP];refine eC (ρ:=[some (false,.str z),some (false,Tp C)]) rfl ?_;show evB (WT TT k) [.ite (.cmp .NotIn (.var 0) (.var 1)) [.rz "NoColumn" [(.fstr [(.str "there is no column "),(.fmt (.var 0))])]] []] [some (false,.str z),some (false,Tp C)]=_;have e:=l5 (m:=.fz) (m':=.fz) (z:=z) (C:=C);rw[aM5 h] at e;obtain ⟨y,ey⟩:=fs2 (W:=WT TT k) (ρ:=[some (false,.str z),some (false,Tp C)]) (a := "there is no column ") (e:=.var 0) (m:=.fz) (by decide +kernel) hz rfl
 exact rM (by
  generalize Tp C=t at *;simp[e]) ey
theorem aL3(k:Nat){K:List Str}{i:Nat}(hi:i<K.length)(hz:K[i].length<=40)(h:K[i]∈K.take i):(WT TT (k+1)).Φ "refuse_twice" [Tp K,.int (i:Int)]=.exc bX:=by
 rw[yN];refine eC (ρ:=[some (false,Tp K),some (false,.int (i:Int))]) rfl ?_;show evB (WT TT k) [.ite (.cmp .In (.ix (.var 0) (.var 1)) (.slice (.var 0) none (some (.var 1)))) [.rz "Twice" [(.fstr [(.str "the column "),(.fmt (.ix (.var 0) (.var 1))),(.str " was there ahead")])]] []] [some (false,Tp K),some (false,.int (i:Int))]=_;have e1:=rK hi (m:=.fz) (m':=.fz);have e2:slP (.ok .fz (Tp K)) (evO (WT TT k) none) (evO (WT TT k) (some (.var 1))) [some (false,Tp K),some (false,.int (i:Int))]=.ok .fz (Tp (K.take i)):=by rw[rJ (m:=.fz) (i:=i) rfl,<- aQ7]
 have e3:=rF (m:=.fz) (m':=.fz) (z:=K[i]) (C:=K.take i);rw[aO7 h] at e3
 obtain ⟨y,ey⟩:=fs3 (W:=WT TT k) (ρ:=[some (false,Tp K),some (false,.int (i:Int))]) (a := "the column ") (b := " was there ahead") (e:=.ix (.var 0) (.var 1)) (m:=.fz) (z:=K[i]) (by decide +kernel) (by decide +kernel) hz (by
  generalize Tp K=t' at *;simp[e1])
 refine rM ?_ ey;generalize hA:evO (WT TT k) none=A at *;generalize hB:evO (WT TT k) (some (.var 1))=B at *;generalize Tp (K.take i)=t at *;generalize Tp K=t' at *;generalize K[i]=z at *;simp[e1,hA,hB,e2,e3]
theorem aL4(k:Nat){C:List Str}{i:Nat}(hi:i<C.length)(nm:¬ C[i]∈C.take i):(WT TT (k+1)).Φ "refuse_twice" [Tp C,.int (i:Int)]=.ok .fz .non:=by
 rw[yN];refine yX (ρ:=[some (false,Tp C),some (false,.int (i:Int))]) rfl ?_;show evB _ oE [some (false,Tp C),some (false,.int (i:Int))]=_;have e1:=rK hi (m:=.fz) (m':=.fz);have e2:slP (.ok .fz (Tp C)) (evO (WT TT k) none) (evO (WT TT k) (some (.var 1))) [some (false,Tp C),some (false,.int (i:Int))]=.ok .fz (Tp (C.take i)):=by rw[rJ (m:=.fz) (i:=i) rfl,<- aQ7]
 have e3:=rF (m:=.fz) (m':=.fz) (z:=C[i]) (C:=C.take i);rw[aM5 nm] at e3;generalize hA:evO (WT TT k) none=A at *;generalize hB:evO (WT TT k) (some (.var 1))=B at *;generalize Tp (C.take i)=t at *;generalize Tp C=t' at *;generalize C[i]=z at *;simp[oE,e1,hA,hB,e2,e3]
def ans:Option Str->Res
 | none=>.ok .fz .non
 | some c=>.exc c
def out(o:Option Str)(ρ:Rho):aF:=match o with
 | none=>.nx ρ
 | some c=>.exc c ρ
theorem l8{n:Nat}{Φ:List D->Res}{xs:List (Md×D)}{ds:List D}{o:Option Str}(hl:ds.length=n)(ha:cB xs=some ds)(h:Φ ds=ans o):aX n Φ (.ok xs)=ans o:=by
 cases o with
 | none=>exact kI hl ha h
 | some c=>exact lW hl ha h
theorem l9{W:WD}{ρ:Rho}{e:E}{o:Option Str}(h:evE W e ρ=ans o):evS W (.expr e) ρ=out o ρ:=by rw[aKD,h];cases o <;> rfl
theorem rO(k:Nat){z:Str}{C:List Str}(hz:z.length<=40):(WT TT (k+1)).Φ "refuse_missing" [.str z,Tp C]=ans (if z∈C then none else some bF):=by
 by_cases h:z∈C
 . rw[if_pos h];exact aL1 k h
 . rw[if_neg h];exact aL2 k hz h
theorem y3(k:Nat){K:List Str}{i:Nat}(hi:i<K.length)(hz:K[i].length<=40):(WT TT (k+1)).Φ "refuse_twice" [Tp K,.int (i:Int)]=ans (if K[i]∈K.take i then some bX else none):=by
 by_cases h:K[i]∈K.take i
 . rw[if_pos h];exact aL3 k hi hz h
 . rw[if_neg h];exact aL4 k hi h
theorem mD{k:D->Rho->Option Rho}{body:Rho->aF}(I:Rho->Prop)(cls:D->Option Str):∀ {ds:List D} {ρ:Rho},(∀ d∈ds,∀ ρ,I ρ->∃ ρ1 ρ2,k d ρ=some ρ1/\I ρ2/\body ρ1=out (cls d) ρ2)->I ρ->∃ ρ',I ρ'/\bK k body ds ρ=out (ds.findSome? cls) ρ'
 | [],ρ,_,h=>⟨ρ,h,rfl⟩
 | d::ds,ρ,hs,h=>by
  obtain ⟨ρ1,ρ2,e1,h2,e2⟩:=hs d (by simp) ρ h
  unfold bK;rw[e1];dsimp only;rw[aQ8];cases ec:cls d with
  | some c=>rw[ec] at e2;rw[e2];exact ⟨ρ2,h2,rfl⟩
  | none=>rw[ec] at e2;rw[e2];exact mD I cls (λd hd=>hs d (mcm hd)) h2
theorem y4:∀ C C':List Str,PyData.eqvAll (C.map PyData.str) (C'.map PyData.str)=decide (C=C')
 | [],[]=>by rfl
 | [],_::_=>by rfl
 | _::_,[]=>by rfl
 | x::C,y::C'=>by show (PyData.eqv (.str x) (.str y)&&PyData.eqvAll (C.map PyData.str) (C'.map PyData.str))=_;rw[y4 C C'];show ((x==y)&&_)=_;rw[aQZ];simp
theorem zA{m m':Md}{C C':List Str}:op2 (a8 .NotEq) (.ok m (Tp C)) (.ok m' (Tp C'))=.ok .fz (.bl (!decide (C=C'))):=by refine bO ?_;simp[a8,fNe,orO,eqF,bE,kQ,kR,PyData.eqv,y4]
def tpo(o:Option Str)(C:List Str):Res:=match o with
 | none=>.ok .fz (Tp C)
 | some c=>.exc c
theorem oQ{n:Nat}{Φ:List D->Res}{xs:List (Md×D)}{ds:List D}{o:Option Str}{C:List Str}(hl:ds.length=n)(ha:cB xs=some ds)(h:Φ ds=tpo o C):aX n Φ (.ok xs)=tpo o C:=by
 cases o with
 | none=>exact kI hl ha h
 | some c=>exact lW hl ha h
theorem oR{n N:Nat}{W:WD}{b:List D3.S}{ds:List D}{o:Option Str}{C:List Str}{ρ':Rho}{r:Rho->aF}(hl:ds.length=n)(h:evB W b (fB N ds)=(out o ρ').thn r)(hr:r ρ'=.rt .fz (Tp C)):phi n N (evB W b) ds=tpo o C:=by
 cases o with
 | none=>refine bG hl ?_;rw[h];show r ρ'=_;exact hr
 | some c=>refine eC (ρ:=ρ') hl ?_;rw[h];rfl
def jA(C K:List Str):D->Option Str
 | .tup [.int i,.str z]=>if z∈C then (if z∈K.take i.toNat then some bX else none) else some bF
 | _=>none
def bad(C K:List Str):Option Str:=(bT 0 (K.map .str)).findSome? (jA C K)
theorem zB(k:Nat){K C:List Str}(hz:∀ z∈K,z.length<=40):(WT TT (k+2)).Φ "kept" [Tp K,Tp C]=tpo (bad C K) K:=by
 rw[aK0];obtain ⟨ρ',⟨x,y,rfl⟩,e⟩:=mD (k:=aI (.tp [.nm 2,.nm 3])) (body:=evB (WT TT (k+1)) oC) (λρ=>∃ x y,ρ=[some (false,Tp K),some (false,Tp C),x,y]) (jA C K) (ds:=bT 0 (K.map .str)) (ρ:=[some (false,Tp K),some (false,Tp C),none,none])
  (λd hd ρ hρ=>by
   obtain ⟨x,y,rfl⟩:=hρ;obtain ⟨j,hj,ed⟩:=aQ5.mp hd;obtain ⟨v,hv,rfl⟩:=rL (show (bT 0 (K.map .str))[j]? = some d by rw[aPV hj,ed])
   rw[aOE] at hv;obtain ⟨z,hz',rfl⟩:=aPB.mp hv;obtain ⟨hj',ez⟩:=aNN.mp hz';have hl:z.length<=40:=hz z (by rw[<- ez];exact aQX hj')
   have c1:aX 2 ((WT TT (k+1)).Φ "refuse_missing") (.ok [(.fz,.str z),(.fz,Tp C)])=ans (if z∈C then none else some bF):=l8 (ds:=[.str z,Tp C]) rfl rfl (rO k hl);have t0:=y3 k hj' (by rw[ez];exact hl)
   rw[ez] at t0;have c2:aX 2 ((WT TT (k+1)).Φ "refuse_twice") (.ok [(.fz,Tp K),(.fz,.int (j:Int))])=ans (if z∈K.take j then some bX else none):=l8 (ds:=[Tp K,.int (j:Int)]) rfl rfl t0;rw[aP7];refine ⟨[some (false,Tp K),some (false,Tp C),some (false,.int (j:Int)),some (false,.str z)],[some (false,Tp K),some (false,Tp C),some (false,.int (j:Int)),some (false,.str z)],by simp,⟨_,_,rfl⟩,?_⟩
   have e1:evE (WT TT (k+1)) (.call "refuse_missing" 2 [(.var 3),(.var 1)]) [some (false,Tp K),some (false,Tp C),some (false,.int (j:Int)),some (false,.str z)]=_:=c1;have e2:evE (WT TT (k+1)) (.call "refuse_twice" 2 [(.var 0),(.var 2)]) [some (false,Tp K),some (false,Tp C),some (false,.int (j:Int)),some (false,.str z)]=_:=c2;show evB (WT TT (k+1)) [.expr (.call "refuse_missing" 2 [(.var 3),(.var 1)]),.expr (.call "refuse_twice" 2 [(.var 0),(.var 2)])] _=out (if z∈C then (if z∈K.take (j:Int).toNat then some bX else none) else some bF) _;rw[aU,l9 e1,aOP];by_cases h1:z∈C
   . rw[if_pos h1,if_pos h1];show evB (WT TT (k+1)) [.expr (.call "refuse_twice" 2 [(.var 0),(.var 2)])] [some (false,Tp K),some (false,Tp C),some (false,.int (j:Int)),some (false,.str z)]=_;rw[aU,l9 e2];split <;> rfl
   . rw[if_neg h1,if_neg h1];rfl) ⟨none,none,rfl⟩
 refine oR (ρ':=[some (false,Tp K),some (false,Tp C),x,y]) (r:=evB (WT TT (k+1)) [.retV 0]) rfl ?_ rfl;show evB (WT TT (k+1)) (.for (.enum1 (.var 0)) (.tp [(.nm 2),(.nm 3)]) oC::[.retV 0]) [some (false,Tp K),some (false,Tp C),none,none]=_;rw[aU];show (bK (aI (.tp [.nm 2,.nm 3])) (evB (WT TT (k+1)) oC) (bT 0 (K.map .str)) [some (false,Tp K),some (false,Tp C),none,none]).thn _=_;rw[e];rfl
theorem aL5(k:Nat){d:D}{K C:List Str}(hz:∀ z∈K,z.length<=40):(WT TT (k+3)).Φ "columns_of_keep" [.tup [.str "keep", d,Tp K],.lst [Tp C]]=tpo (bad C K) K:=by
 rw[aK1];have c1:aX 2 ((WT TT (k+2)).Φ "kept") (.ok [(.fz,Tp K),(.fz,Tp C)])=tpo (bad C K) K:=oQ (ds:=[Tp K,Tp C]) rfl rfl (zB k hz);have e:evE (WT TT (k+2)) (.call "kept" 2 [(.ix (.var 0) (.int 2)),(.ix (.var 1) (.int 0))]) [some (false,.tup [.str "keep", d,Tp K]),some (false,.lst [Tp C])]=tpo (bad C K) K:=c1;generalize bad C K=o at *;cases o with
 | none=>refine bG rfl ?_;show evB (WT TT (k+2)) [.ret (.call "kept" 2 [(.ix (.var 0) (.int 2)),(.ix (.var 1) (.int 0))])] _=_;exact eS e
 | some c=>refine eC (ρ:=[some (false,.tup [.str "keep", d,Tp K]),some (false,.lst [Tp C])]) rfl ?_;show evB (WT TT (k+2)) [.ret (.call "kept" 2 [(.ix (.var 0) (.int 2)),(.ix (.var 1) (.int 0))])] [some (false,.tup [.str "keep", d,Tp K]),some (false,.lst [Tp C])]=_;rw[aU,kE,e];rfl
theorem aL6(k:Nat){d:D}{z:Str}{K C:List Str}(hz0:z.length<=40)(hz:∀ z∈K,z.length<=40):(WT TT (k+4)).Φ "columns_of_total" [.tup [.str "total", d,.str z,Tp K],.lst [Tp C]]=tpo (if z∈C then bad C K else some bF) K:=by
 have a:(WT TT (k+3)).Φ "totalled" [.str z,Tp K,Tp C]=tpo (if z∈C then bad C K else some bF) K:=by
  rw[aK2];have c1:evE (WT TT (k+2)) (.call "kept" 2 [(.var 1),(.var 2)]) [some (false,.str z),some (false,Tp K),some (false,Tp C)]=tpo (bad C K) K:=show aX 2 ((WT TT (k+2)).Φ "kept") (.ok [(.fz,Tp K),(.fz,Tp C)])=_ from oQ (ds:=[Tp K,Tp C]) rfl rfl (zB k hz)
  have c2:evE (WT TT (k+2)) (.call "refuse_missing" 2 [(.var 0),(.var 2)]) [some (false,.str z),some (false,Tp K),some (false,Tp C)]=ans (if z∈C then none else some bF):=show aX 2 ((WT TT (k+2)).Φ "refuse_missing") (.ok [(.fz,.str z),(.fz,Tp C)])=_ from l8 (ds:=[.str z,Tp C]) rfl rfl (rO (k+1) hz0)
  have q:evB (WT TT (k+2)) qU [some (false,.str z),some (false,Tp K),some (false,Tp C)]=(out (if z∈C then none else some bF) [some (false,.str z),some (false,Tp K),some (false,Tp C)]).thn (evB (WT TT (k+2)) [.ret (.call "kept" 2 [(.var 1),(.var 2)])]):=by show evB (WT TT (k+2)) [.expr (.call "refuse_missing" 2 [(.var 0),(.var 2)]),.ret (.call "kept" 2 [(.var 1),(.var 2)])] _=_;rw[aU,l9 c2]
  by_cases h:z∈C
  . rw[if_pos h] at q ⊢;generalize bad C K=o at *;cases o with
    | none=>exact bG rfl (q.trans (eS c1))
    | some c => exact eC (ρ := [some (false, .str z), some (false, Tp K), some (false, Tp C)]) rfl (q.trans (by
        show evB (WT TT (k+2)) [.ret (.call "kept" 2 [(.var 1),(.var 2)])] [some (false,.str z),some (false,Tp K),some (false,Tp C)]=_;rw[aU,kE,c1];rfl))
  . rw[if_neg h] at q ⊢;exact eC (ρ:=[some (false,.str z),some (false,Tp K),some (false,Tp C)]) rfl q
 generalize (if z∈C then bad C K else some bF)=o at *;rw[aK3];have c1:evE (WT TT (k+3)) (.call "totalled" 3 [(.ix (.var 0) (.int 2)),(.ix (.var 0) (.int 3)),(.ix (.var 1) (.int 0))]) [some (false,.tup [.str "total", d,.str z,Tp K]),some (false,.lst [Tp C])]=tpo o K:=show aX 3 ((WT TT (k+3)).Φ "totalled") (.ok [(.fz,.str z),(.fz,Tp K),(.fz,Tp C)])=_ from oQ (ds:=[.str z,Tp K,Tp C]) rfl rfl a
 cases o with
 | none=>exact bG rfl (show evB (WT TT (k+3)) [.ret (.call "totalled" 3 [(.ix (.var 0) (.int 2)),(.ix (.var 0) (.int 3)),(.ix (.var 1) (.int 0))])] _=_ from eS c1)
 | some c=>refine eC (ρ:=[some (false,.tup [.str "total", d,.str z,Tp K]),some (false,.lst [Tp C])]) rfl ?_;show evB (WT TT (k+3)) [.ret (.call "totalled" 3 [(.ix (.var 0) (.int 2)),(.ix (.var 0) (.int 3)),(.ix (.var 1) (.int 0))])] [some (false,.tup [.str "total", d,.str z,Tp K]),some (false,.lst [Tp C])]=_;rw[aU,kE,c1];rfl
theorem rP{α:Type}{p:α->Prop}[DecidablePred p]{c:Str}:∀ {ds:List D} {xs:List α} {g:α->D} {cls:D->Option Str},ds=xs.map g->(∀ x∈xs,cls (g x)=if p x then none else some c)->ds.findSome? cls=if ∀ x∈xs,p x then none else some c
 | _,[],g,cls,rfl,h=>by simp
 | _,x::xs,g,cls,rfl,h=>by
  have ih:=rP (p:=p) (c:=c) (g:=g) (cls:=cls) (xs:=xs) rfl λy hy=>h y (mcm hy);rw[aO9,aQ8,h x (by simp)]
  by_cases hx:p x
  . rw[if_pos hx];dsimp only;rw[ih];by_cases hr:∀ y∈xs,p y
    . rw[if_pos hr,if_pos (λy hy=>by rcases aNK.mp hy with rfl | hy;exact hx;exact hr y hy)]
    . rw[if_neg hr,if_neg (λq=>hr λy hy=>q y (mcm hy))]
  . rw[if_neg hx,if_neg (λq=>hx (q x (by simp)))]
def rQ(c:Str)(C:List Str):D->Option Str
 | .str z=>if z∈C then none else some c
 | _=>none
theorem zC{c:Str}{C L:List Str}:(L.map D.str).findSome? (rQ c C)=if ∀ z∈L,z∈C then none else some c:=rP (p:=λz=>z∈C) rfl λz _=>rfl
theorem aL7(k:Nat){d t:D}{L C:List Str}(hz:∀ z∈L,z.length<=40)(hc:(WT TT (k+1)).Φ "columns_in" [t]=.ok .fr (.lst (L.map .str))):(WT TT (k+2)).Φ "columns_of_pick" [.tup [.str "pick", d,t],.lst [Tp C]]=tpo (if ∀ z∈L,z∈C then none else some bF) C:=by
 rw[aKZ,<- zC];have x2:op2 ixD (.ok .fz (.tup [.str "pick", d,t])) (.ok .fz (.int 2))=.ok .fz t:=j2;generalize D.tup [.str "pick", d,t]=A at *;have c0:aX 1 ((WT TT (k+1)).Φ "columns_in") (.ok [(.fz,t)])=.ok .fr (.lst (L.map .str)):=oK hc;obtain ⟨ρ',⟨x,rfl⟩,e⟩:=mD (k:=aI (.nm 2)) (body:=evB (WT TT (k+1)) oB) (λρ=>∃ x,ρ=[some (false,A),some (false,.lst [Tp C]),x]) (rQ bF C) (ds:=L.map .str) (ρ:=[some (false,A),some (false,.lst [Tp C]),none])
  (λd hd ρ hρ=>by
   obtain ⟨x,rfl⟩:=hρ;obtain ⟨z,hz',rfl⟩:=aQY.mp hd;have c1:evE (WT TT (k+1)) (.call "refuse_missing" 2 [(.var 2),(.ix (.var 1) (.int 0))]) [some (false,A),some (false,.lst [Tp C]),some (false,.str z)]=ans (if z∈C then none else some bF):=show aX 2 ((WT TT (k+1)).Φ "refuse_missing") (.ok [(.fz,.str z),(.fz,Tp C)])=_ from l8 (ds:=[.str z,Tp C]) rfl rfl (rO k (hz z hz'))
   refine ⟨[some (false,A),some (false,.lst [Tp C]),some (false,.str z)],[some (false,A),some (false,.lst [Tp C]),some (false,.str z)],by simp,⟨_,rfl⟩,?_⟩
   show evB (WT TT (k+1)) [.expr (.call "refuse_missing" 2 [(.var 2),(.ix (.var 1) (.int 0))])] _=out (if z∈C then none else some bF) _;rw[aU,l9 c1];split <;> rfl) ⟨none,rfl⟩
 refine oR (ρ':=[some (false,A),some (false,.lst [Tp C]),x]) (r:=evB (WT TT (k+1)) [.ret (.ix (.var 1) (.int 0))]) rfl ?_ rfl;show evB (WT TT (k+1)) (.for (.items (.call "columns_in" 1 [(.ix (.var 0) (.int 2))])) (.nm 2) oB::[.ret (.ix (.var 1) (.int 0))]) [some (false,A),some (false,.lst [Tp C]),none]=_;have ei:evE (WT TT (k+1)) (.items (.call "columns_in" 1 [(.ix (.var 0) (.int 2))])) [some (false,A),some (false,.lst [Tp C]),none]=.ok .fz (.lst (L.map .str)):=by generalize Tp C=tc;generalize L.map D.str=R at *;simp[x2,c0]
 rw[aU,iG,ei];show (bK (aI (.nm 2)) (evB (WT TT (k+1)) oB) (L.map .str) [some (false,A),some (false,.lst [Tp C]),none]).thn _=_;rw[e]
theorem zD{K:List Str}:(∀ i∈List.range K.length,¬ ∃ h:i<K.length,K[i]∈K.take i)↔K.Nodup:=by
 constructor
 . intro h;rw[List.nodup_iff_pairwise_ne,aQ4];intro i j hi hj hij e;refine h j (List.mem_range.mpr hj) ⟨hj,?_⟩;rw[<- e];exact aQ9.mpr ⟨i,by omega,rfl⟩
 . intro hn i hi ⟨h,q⟩;obtain ⟨j,hj,e⟩:=aQ5.mp q;rw[List.getElem_take] at e;rw[aN9] at hj;have:=(aNO hn).mp e;omega
def clsT(K:List Str):D->Option Str
 | .int i=>if ¬ ∃ h:i.toNat<K.length,K[i.toNat]∈K.take i.toNat then none else some bX
 | _=>none
theorem zE(n:Nat):bI 0 (n:Int)=(List.range n).map λi=>D.int ((i:Nat):Int):=by simp[bI]
theorem aL8{K:List Str}:(bI 0 (K.length:Int)).findSome? (clsT K)=if K.Nodup then none else some bX:=by
 rw[rP (p:=λi=>¬ ∃ h:i<K.length,K[i]∈K.take i) (c:=bX) (zE K.length) λi _=>rfl];by_cases h:K.Nodup
 . rw[if_pos h,if_pos (zD.mpr h)]
 . rw[if_neg h,if_neg (λq=>h (zD.mp q))]
theorem aL9(k:Nat){d:D}{K C:List Str}(hz:∀ z∈K,z.length<=40)(hb:K.length<=900):(WT TT (k+2)).Φ "columns_of_call" [.tup [.str "call", d,Tp K],.lst [Tp C]]=tpo (if K.length=C.length then (if K.Nodup then none else some bX) else some bP) K:=by
 rw[aK4,<- aL8];have x2:op2 ixD (.ok .fz (.tup [.str "call", d,Tp K])) (.ok .fz (.int 2))=.ok .fz (Tp K):=j2;generalize D.tup [.str "call", d,Tp K]=A at *;have l1:=oN (C:=C) (m:=.fz);have l2:=oN (C:=K) (m:=.fz);have en:evE (WT TT (k+1)) (.cmp .NotEq (.bcall .len [(.var 2)]) (.bcall .len [(.ix (.var 1) (.int 0))])) [some (false,A),some (false,.lst [Tp C]),some (false,Tp K),none]=.ok .fz (.bl (!decide (K.length=C.length))):=by
  have q:((K.length:Int) != (C.length:Int)) = !decide (K.length=C.length):=by rw[aQZ];simp;omega
  generalize Tp C=t at *;generalize Tp K=t' at *;rw[<- q];simp[h0,l1,l2]
 have x2':evE (WT TT (k+1)) (.ix (.var 0) (.int 2)) [some (false,A),some (false,.lst [Tp C]),none,none]=.ok .fz (Tp K):=x2;by_cases hl:K.length=C.length
 . rw[if_pos hl];rw[aO7 hl] at en;obtain ⟨ρ',⟨x,rfl⟩,e⟩:=mD (k:=aI (.nm 3)) (body:=evB (WT TT (k+1)) lX) (λρ=>∃ x,ρ=[some (false,A),some (false,.lst [Tp C]),some (false,Tp K),x]) (clsT K) (ds:=bI 0 (K.length:Int)) (ρ:=[some (false,A),some (false,.lst [Tp C]),some (false,Tp K),none])
     (λd hd ρ hρ=>by
      obtain ⟨x,rfl⟩:=hρ;obtain ⟨i,hi,rfl⟩:=mem_range hd;have hi':i<K.length:=by omega
      have c2:evE (WT TT (k+1)) (.call "refuse_twice" 2 [(.var 2),(.var 3)]) [some (false,A),some (false,.lst [Tp C]),some (false,Tp K),some (false,.int (i:Int))]=ans (if K[i]∈K.take i then some bX else none):=show aX 2 ((WT TT (k+1)).Φ "refuse_twice") (.ok [(.fz,Tp K),(.fz,.int (i:Int))])=_ from l8 (ds:=[Tp K,.int (i:Int)]) rfl rfl (y3 k hi' (hz _ (aQX hi')))
      refine ⟨[some (false,A),some (false,.lst [Tp C]),some (false,Tp K),some (false,.int (i:Int))],[some (false,A),some (false,.lst [Tp C]),some (false,Tp K),some (false,.int (i:Int))],by simp,⟨_,rfl⟩,?_⟩
      show evB (WT TT (k+1)) [.expr (.call "refuse_twice" 2 [(.var 2),(.var 3)])] _=out (if ¬ ∃ h:i<K.length,K[i]∈K.take i then none else some bX) _;rw[aU,l9 c2];by_cases q:K[i]∈K.take i
      . rw[if_pos q,if_neg (λz=>z ⟨hi',q⟩)];rfl
      . rw[if_neg q,if_pos (λ⟨_,z⟩=>q z)];rfl) ⟨none,rfl⟩
   refine oR (ρ':=[some (false,A),some (false,.lst [Tp C]),some (false,Tp K),x]) (r:=evB (WT TT (k+1)) [.retV 2]) rfl ?_ rfl;show evB (WT TT (k+1)) (.set 2 (.ix (.var 0) (.int 2)) :: .ite (.cmp .NotEq (.bcall .len [(.var 2)]) (.bcall .len [(.ix (.var 1) (.int 0))])) [.rz "Unlike" [(.str "a call has as many columns as the asking within")]] [] :: .for (.rng1 (.bcall .len [(.var 2)])) (.nm 3) lX::[.retV 2]) [some (false,A),some (false,.lst [Tp C]),none,none]=_;rw[aJ (d:=Tp K) (ρ':=[some (false,A),some (false,.lst [Tp C]),some (false,Tp K),none]) x2' rfl,bA en,aU,iG];have er:=l4 (m:=.fz) (n:=(K.length:Int)) (by omega) (by omega)
   have g:evE (WT TT (k+1)) (.rng1 (.bcall .len [(.var 2)])) [some (false,A),some (false,.lst [Tp C]),some (false,Tp K),none]=.ok .fz (.lst (bI 0 (K.length:Int))):=by
    rw[<- er,nY];have:evE (WT TT (k+1)) (.bcall .len [(.var 2)]) [some (false,A),some (false,.lst [Tp C]),some (false,Tp K),none]=.ok .fz (.int (K.length:Int)):=by generalize Tp C=t at *;generalize Tp K=t' at *;simp[l2]
    rw[this];rfl
   rw[g];show (bK (aI (.nm 3)) (evB (WT TT (k+1)) lX) (bI 0 (K.length:Int)) [some (false,A),some (false,.lst [Tp C]),some (false,Tp K),none]).thn _=_;rw[e]
 . rw[if_neg hl];rw[aM5 hl] at en;refine eC (ρ:=[some (false,A),some (false,.lst [Tp C]),some (false,Tp K),none]) rfl ?_;show evB (WT TT (k+1)) (.set 2 (.ix (.var 0) (.int 2)) :: .ite (.cmp .NotEq (.bcall .len [(.var 2)]) (.bcall .len [(.ix (.var 1) (.int 0))])) [.rz "Unlike" [(.str "a call has as many columns as the asking within")]] [] :: .for (.rng1 (.bcall .len [(.var 2)])) (.nm 3) lX::[.retV 2]) [some (false,A),some (false,.lst [Tp C]),none,none]=_;rw[aJ (d:=Tp K) (ρ':=[some (false,A),some (false,.lst [Tp C]),some (false,Tp K),none]) x2' rfl];exact rN en (oP rfl)
def dif(C' C:List Str):List Str:=C'.filter λz=>!decide (z∈C)
theorem zF{W:WD}{C:List Str}:∀ C':List Str,cR (aI (.nm 1)) (λρ=>evF W [.cmp .NotIn (.var 1) (.var 0)] ρ) (λρ=>evE W (.var 1) ρ) [some (false,Tp C),none] (C'.map .str)=some ((dif C' C).map .str)
 | []=>rfl
 | z::C'=>by
  have ih:=zF (W:=W) (C:=C) C';have k:aI (.nm 1) (.str z) [some (false,Tp C),none]=some [some (false,Tp C),some (false,.str z)]:=rfl;have e:=l5 (m:=.fz) (m':=.fz) (z:=z) (C:=C);have t:evF W [.cmp .NotIn (.var 1) (.var 0)] [some (false,Tp C),some (false,.str z)]=.ok .fz (.bl (!decide (z∈C))):=by generalize Tp C=t at *;simp[e]
  rw[aO9,cR,k];dsimp only;rw[t,ih];unfold dif;rw[List.filter_cons];cases decide (z∈C) with
  | true=>rfl
  | false=>rfl
theorem zG{W:WD}{C C':List Str}{ρ:Rho}{aB:List Nat}{m:Md}(hs:C'.length<sizeLine)(hρ:cI aB ρ=[some (false,Tp C)]):dR (.ok m (.lst (C'.map .str))) ρ aB 1 (aI (.nm 1)) (λρ=>evF W [.cmp .NotIn (.var 1) (.var 0)] ρ) (λρ=>evE W (.var 1) ρ)=.ok .fr (.lst ((dif C' C).map .str)):=by
 show (if (C'.map D.str).length<sizeLine then (match cR (aI (.nm 1)) (λρ=>evF W [.cmp .NotIn (.var 1) (.var 0)] ρ) (λρ=>evE W (.var 1) ρ) (cI aB ρ++[none]) (C'.map .str) with | some ys=>Res.ok .fr (.lst ys) | none=>.stuck) else .stuck)=_
 rw[hρ,if_pos (by rw[aOI];exact hs)]
 show (match cR (aI (.nm 1)) (λρ=>evF W [.cmp .NotIn (.var 1) (.var 0)] ρ) (λρ=>evE W (.var 1) ρ) [some (false,Tp C),none] (C'.map .str) with | some ys=>Res.ok .fr (.lst ys) | none=>.stuck)=_
 rw[zF]
theorem zH{C C':List Str}:(dif C' C).length<=C'.length:=List.length_filter_le _ _
theorem aMA(k:Nat){A:D}{C C':List Str}(hs:C.length+C'.length<sizeLine):(WT TT (k+1)).Φ "columns_of_join" [A,.lst [Tp C,Tp C']]=.ok .fz (Tp (C++dif C' C)):=by
 rw[aK5];refine bG rfl ?_;show evB (WT TT k) lY [some (false,A),some (false,.lst [Tp C,Tp C']),none,none]=_;have dl:=zH (C:=C) (C':=C');have e1:=zG (W:=WT TT k) (C:=C) (C':=C') (m:=.fz) (aB:=[2]) (ρ:=[some (false,A),some (false,.lst [Tp C,Tp C']),some (false,Tp C),some (false,Tp C')]) (by omega) rfl
 have e2:=oO (C:=C) (C':=dif C' C) (m:=.fz) (m':=.fz) (by omega)
 have ea:lY=[.asg (.tp [(.nm 2),(.nm 3)]) (.var 1)]++lY.drop 1:=rfl;have p1:evB (WT TT k) [.asg (.tp [(.nm 2),(.nm 3)]) (.var 1)] [some (false,A),some (false,.lst [Tp C,Tp C']),none,none]=.nx [some (false,A),some (false,.lst [Tp C,Tp C']),some (false,Tp C),some (false,Tp C')]:=by generalize Tp C=t;generalize Tp C'=t';simp[iB]
 rw[ea,fE,p1,aF.thn_nx];show evB (WT TT k) [.ret (.bin .Add (.var 2) (.tcall .tuple [(.comp (.var 1) (.items (.var 3)) [(.cmp .NotIn (.var 1) (.var 0))] [2] (.nm 1) 1)]))] _=_;rw[aU,kE,fQ,n5,aR,bW,nZ,nX,gO,gO];show (fO (op2 (bN .Add) (.ok .fz (Tp C)) (d8 (Ty.f .tuple) (dO (dR (.ok .fz (.lst (C'.map .str))) _ [2] 1 (aI (.nm 1)) _ _) (.ok [])))) _).thn _=_;rw[e1];show (fO (op2 (bN .Add) (.ok .fz (Tp C)) (.ok .fz (Tp (dif C' C)))) _).thn _=_;rw[e2];rfl
theorem aMB(k:Nat){A:D}{C C':List Str}:(WT TT (k+1)).Φ "columns_of_pour" [A,.lst [Tp C,Tp C']]=tpo (if C=C' then none else some bP) C:=by
 rw[aK6];have e:=zA (C:=C) (C':=C') (m:=.fz) (m':=.fz);have p1:evB (WT TT k) [.asg (.tp [(.nm 2),(.nm 3)]) (.var 1)] [some (false,A),some (false,.lst [Tp C,Tp C']),none,none]=.nx [some (false,A),some (false,.lst [Tp C,Tp C']),some (false,Tp C),some (false,Tp C')]:=by generalize Tp C=t;generalize Tp C'=t';simp[iB]
 have ea:lZ=[.asg (.tp [(.nm 2),(.nm 3)]) (.var 1)]++[.ite (.cmp .NotEq (.var 2) (.var 3)) [.rz "Unlike" [(.str "both askings of a pour have the same columns in the same order")]] [],.retV 2]:=rfl
 by_cases h:C=C'
 . rw[if_pos h];rw[aO7 h] at e;refine bG rfl ?_;show evB (WT TT k) lZ [some (false,A),some (false,.lst [Tp C,Tp C']),none,none]=_;rw[ea,fE,p1,aF.thn_nx,bA (show evE (WT TT k) (.cmp .NotEq (.var 2) (.var 3)) [some (false,A),some (false,.lst [Tp C,Tp C']),some (false,Tp C),some (false,Tp C')]=_ from e)]
   rfl
 . rw[if_neg h];rw[aM5 h] at e;refine eC (ρ:=[some (false,A),some (false,.lst [Tp C,Tp C']),some (false,Tp C),some (false,Tp C')]) rfl ?_;show evB (WT TT k) lZ [some (false,A),some (false,.lst [Tp C,Tp C']),none,none]=_;rw[ea,fE,p1,aF.thn_nx];exact rN (show evE (WT TT k) (.cmp .NotEq (.var 2) (.var 3)) [some (false,A),some (false,.lst [Tp C,Tp C']),some (false,Tp C),some (false,Tp C')]=_ from e) (oP rfl)
theorem aMC(k:Nat){A:D}{C C':List Str}(hz:∀ z∈C',z.length<=40):(WT TT (k+1)).Φ "columns_of_leave" [A,.lst [Tp C,Tp C']]=tpo (if ∀ z∈C',z∈C then none else some bP) C:=by
 rw[aK7,<- zC];have p1:evB (WT TT k) [.asg (.tp [(.nm 2),(.nm 3)]) (.var 1)] [some (false,A),some (false,.lst [Tp C,Tp C']),none,none,none]=.nx [some (false,A),some (false,.lst [Tp C,Tp C']),some (false,Tp C),some (false,Tp C'),none]:=by generalize Tp C=t;generalize Tp C'=t';simp[iB]
 obtain ⟨ρ',⟨x,rfl⟩,e⟩:=mD (k:=aI (.nm 4)) (body:=evB (WT TT k) oD) (λρ=>∃ x,ρ=[some (false,A),some (false,.lst [Tp C,Tp C']),some (false,Tp C),some (false,Tp C'),x]) (rQ bP C) (ds:=C'.map .str) (ρ:=[some (false,A),some (false,.lst [Tp C,Tp C']),some (false,Tp C),some (false,Tp C'),none])
  (λd hd ρ hρ=>by
   obtain ⟨x,rfl⟩:=hρ;obtain ⟨z,hz',rfl⟩:=aQY.mp hd;have e:=l5 (m:=.fz) (m':=.fz) (z:=z) (C:=C);refine ⟨[some (false,A),some (false,.lst [Tp C,Tp C']),some (false,Tp C),some (false,Tp C'),some (false,.str z)],[some (false,A),some (false,.lst [Tp C,Tp C']),some (false,Tp C),some (false,Tp C'),some (false,.str z)],by simp,⟨_,rfl⟩,?_⟩
   show evB (WT TT k) [.ite (.cmp .NotIn (.var 4) (.var 2)) [.rz "Unlike" [(.fstr [(.str "the column "),(.fmt (.var 4)),(.str " of what is left out isn't there")])]] []] [some (false,A),some (false,.lst [Tp C,Tp C']),some (false,Tp C),some (false,Tp C'),some (false,.str z)]=out (if z∈C then none else some bP) _;obtain ⟨y,ey⟩:=fs3 (W:=WT TT k) (ρ:=[some (false,A),some (false,.lst [Tp C,Tp C']),some (false,Tp C),some (false,Tp C'),some (false,.str z)]) (a := "the column ") (b := " of what is left out isn't there") (e:=.var 4) (m:=.fz) (z:=z) (by decide +kernel) (by decide +kernel) (hz z hz') rfl
   by_cases h:z∈C
   . rw[aO7 h] at e;rw[if_pos h,bA (show evE (WT TT k) (.cmp .NotIn (.var 4) (.var 2)) [some (false,A),some (false,.lst [Tp C,Tp C']),some (false,Tp C),some (false,Tp C'),some (false,.str z)]=_ from e)];rfl
   . rw[aM5 h] at e;rw[if_neg h];exact rM (show evE (WT TT k) (.cmp .NotIn (.var 4) (.var 2)) [some (false,A),some (false,.lst [Tp C,Tp C']),some (false,Tp C),some (false,Tp C'),some (false,.str z)]=_ from e) ey) ⟨none,rfl⟩
 refine oR (ρ':=[some (false,A),some (false,.lst [Tp C,Tp C']),some (false,Tp C),some (false,Tp C'),x]) (r:=evB (WT TT k) [.retV 2]) rfl ?_ rfl;have ea:oG=[.asg (.tp [(.nm 2),(.nm 3)]) (.var 1)]++[.for (.items (.var 3)) (.nm 4) oD,.retV 2]:=rfl;show evB (WT TT k) oG [some (false,A),some (false,.lst [Tp C,Tp C']),none,none,none]=_;rw[ea,fE,p1,aF.thn_nx,aU,iG];show (bK (aI (.nm 4)) (evB (WT TT k) oD) (C'.map .str) [some (false,A),some (false,.lst [Tp C,Tp C']),some (false,Tp C),some (false,Tp C'),none]).thn _=_;rw[e]
def jpl:List Str:=[Str.ofString "join", Str.ofString "pour", Str.ofString "leave"]
theorem in3{m m':Md}{z:Str}:op2 (a8 .In) (.ok m (.str z)) (.ok m' (.tup [.str (Str.ofString "join"),.str (Str.ofString "pour"),.str (Str.ofString "leave")]))=.ok .fz (.bl (decide (z∈jpl))):=rF (C:=jpl)
theorem tu1{a:D}:fA (.ok [(.fz,a)])=.ok .fz (.tup [a]):=by rfl
theorem oS(k:Nat){A x:D}{w:Str}(h1:op2 ixD (.ok .fz A) (.ok .fz (.int 0))=.ok .fz (.str w))(h2:op2 ixD (.ok .fz A) (.ok .fz (.int 1))=.ok .fz x)(hw:(w==Str.ofString "table")=false)(hj:decide (w∈jpl)=false):(WT TT (k+1)).Φ "askings_within" [A]=.ok .fz (.tup [x]):=by rw[yO];refine bG rfl ?_;show evB _ kN [some (false,A)]=_;have e3:=in3 (m:=.fz) (m':=.fz) (z:=w);rw[hj] at e3;simp[kN,h1,h2,hw,t3,e3,tu1]
theorem rR(k:Nat){x y:D}{w:Str}(hw:(w==Str.ofString "table")=false)(hj:decide (w∈jpl)=true):(WT TT (k+1)).Φ "askings_within" [.tup [.str w,x,y]]=.ok .fz (.tup [x,y]):=by rw[yO];refine bG rfl ?_;show evB _ kN [some (false,.tup [.str w,x,y])]=_;have e3:=in3 (m:=.fz) (m':=.fz) (z:=w);rw[hj] at e3;simp[kN,j0,j1,j2,hw,t3,e3,t2]
theorem zI{M:List (Key×D)}{w:Str}{d:D}(h:bC M (.inr w)=some d){m m':Md}:op2 ixK (.ok m (.dct M)) (.ok m' (.str w))=.ok .fz d:=bO (by
 show (bC M (.inr w)).map _=_;rw[h];rfl)
theorem aMD{M:List (Key×D)}{w:Str}{d:D}(h:bC M (.inr w)=some d){m m':Md}:op2 (inK true) (.ok m (.str w)) (.ok m' (.dct M))=.ok .fz (.bl false):=bO (by
 show some (Md.fz,D.bl (if true=true then !(bC M (.inr w)).isSome else _))=_;rw[h];rfl)
theorem aME(k:Nat){M:List (Key×D)}{w:Str}{d:D}(h:bC M (.inr w)=some d):(WT TT (k+2)).Φ "columns_of" [.tup [.str "table", .str w],.dct M]=.ok .fz d:=by
 have a:(WT TT (k+1)).Φ "columns_of_table" [.str w,.dct M]=.ok .fz d:=by rw[yQ];refine bG rfl ?_;show evB _ oH [some (false,.str w),some (false,.dct M)]=_;simp[oH,aMD h,zI h]
 rw[rA];refine bG rfl ?_;show evB (WT TT (k+1)) dW [some (false,.tup [.str "table", .str w]),some (false,.dct M),none,none]=_;have c1:aX 2 ((WT TT (k+1)).Φ "columns_of_table") (.ok [(.fz,.str w),(.fz,.dct M)])=.ok .fz d:=qP a;simp[dW,i0,i1,c1]
def kS:List (Str×Str):=[("pick", "columns_of_pick"),("keep", "columns_of_keep"),("call", "columns_of_call"),("join", "columns_of_join"),("pour", "columns_of_pour"),("total", "columns_of_total"),("leave", "columns_of_leave")]
def dfs:List Str:=["columns_of_pick", "columns_of_keep", "columns_of_call", "columns_of_join", "columns_of_pour", "columns_of_total", "columns_of_leave"]
theorem aMF{M:List (Key×D)}{w:Str}(h:bC M (.inr w)=none){m m':Md}:op2 (inK true) (.ok m (.str w)) (.ok m' (.dct M))=.ok .fz (.bl true):=bO (by
 show some (Md.fz,D.bl (if true=true then !(bC M (.inr w)).isSome else _))=_;rw[h];rfl)
theorem aMG(k:Nat){M:List (Key×D)}{w:Str}(hw:w.length<=40)(h:bC M (.inr w)=none):(WT TT (k+2)).Φ "columns_of" [.tup [.str "table", .str w],.dct M]=.exc dM:=by
 have a:(WT TT (k+1)).Φ "columns_of_table" [.str w,.dct M]=.exc dM:=by
  rw[yQ];refine eC (ρ:=[some (false,.str w),some (false,.dct M)]) rfl ?_;show evB (WT TT k) (.ite (.din true (.var 0) (.var 1)) [.rz "NoTable" [(.fstr [(.str "there is no table "),(.fmt (.var 0))])]] []::_) [some (false,.str w),some (false,.dct M)]=_;obtain ⟨y,ey⟩:=fs2 (W:=WT TT k) (ρ:=[some (false,.str w),some (false,.dct M)]) (a := "there is no table ") (e:=.var 0) (m:=.fz) (by decide +kernel) hw rfl
  exact rN (show evE (WT TT k) (.din true (.var 0) (.var 1)) [some (false,.str w),some (false,.dct M)]=_ from aMF h) (oP ey)
 rw[rA];refine eC (ρ:=[some (false,.tup [.str "table", .str w]),some (false,.dct M),none,none]) rfl ?_;show evB (WT TT (k+1)) dW [some (false,.tup [.str "table", .str w]),some (false,.dct M),none,none]=_;have c1:aX 2 ((WT TT (k+1)).Φ "columns_of_table") (.ok [(.fz,.str w),(.fz,.dct M)])=.exc dM:=lW (ds:=[.str w,.dct M]) rfl rfl a;simp[dW,i0,i1,c1]
abbrev ρc(A M:D):Rho:=[some (false,A),some (false,M),none,none]
def lo(o:Option Str)(ys:List D):dI:=match o with
 | none=>.ok ys
 | some c=>.exc c
abbrev eCo:E:=.call "columns_of" 2 [(.var 1),(.var 0)]
theorem zJ{W:WD}{M x:D}{xs:List D}{C:List Str}(h:W.Φ "columns_of" [x,M]=.ok .fz (Tp C)):dJ (aI (.nm 1)) (λρ=>evF W [] ρ) (λρ=>evE W eCo ρ) [some (false,M),none] (x::xs)=(dJ (aI (.nm 1)) (λρ=>evF W [] ρ) (λρ=>evE W eCo ρ) [some (false,M),none] xs).glue [Tp C]:=by
 have k:aI (.nm 1) x [some (false,M),none]=some [some (false,M),some (false,x)]:=rfl;have e:evE W eCo [some (false,M),some (false,x)]=.ok .fz (Tp C):=show aX 2 (W.Φ "columns_of") (.ok [(.fz,x),(.fz,M)])=_ from qP h
 rw[dJ,k];dsimp only;rw[wJ];dsimp only;rw[e];rfl
theorem zK{W:WD}{M x:D}{xs:List D}{c:Str}(h:W.Φ "columns_of" [x,M]=.exc c):dJ (aI (.nm 1)) (λρ=>evF W [] ρ) (λρ=>evE W eCo ρ) [some (false,M),none] (x::xs)=.exc c:=by
 have k:aI (.nm 1) x [some (false,M),none]=some [some (false,M),some (false,x)]:=rfl;have e:evE W eCo [some (false,M),some (false,x)]=.exc c:=show aX 2 (W.Φ "columns_of") (.ok [(.fz,x),(.fz,M)])=_ from lW (ds:=[x,M]) rfl rfl h
 rw[dJ,k];dsimp only;rw[wJ];dsimp only;rw[e];rfl
theorem mH{W:WD}{M x:D}{o:Option Str}{C:List Str}(h:W.Φ "columns_of" [x,M]=tpo o C):dJ (aI (.nm 1)) (λρ=>evF W [] ρ) (λρ=>evE W eCo ρ) [some (false,M),none] [x]=lo o [Tp C]:=by
 cases o with
 | none=>rw[zJ h];rfl
 | some c=>rw[zK h];rfl
theorem rS{W:WD}{M x y:D}{o o':Option Str}{C C':List Str}(h:W.Φ "columns_of" [x,M]=tpo o C)(h':W.Φ "columns_of" [y,M]=tpo o' C'):dJ (aI (.nm 1)) (λρ=>evF W [] ρ) (λρ=>evE W eCo ρ) [some (false,M),none] [x,y]=lo (o.or o') [Tp C,Tp C']:=by
 cases o with
 | none=>rw[zJ h,mH h'];cases o' <;> rfl
 | some c=>rw[zK h];rfl
theorem jB(k:Nat){A M:D}{w f:Str}{xs ys:List D}{o o':Option Str}{C:List Str}(h1:op2 ixD (.ok .fz A) (.ok .fz (.int 0))=.ok .fz (.str w))(hw:(w==Str.ofString "table")=false)(hf:kS.lookup w=some f)(hf':dfs.contains f=true)(hx:(WT TT k).Φ "askings_within" [A]=.ok .fz (.tup xs))(hs:xs.length<sizeLine)(hq:dJ (aI (.nm 1)) (λρ=>evF (WT TT k) [] ρ) (λρ=>evE (WT TT k) eCo ρ) [some (false,M),none] xs=lo o ys)(hr:o=none->(WT TT k).Φ f [A,.lst ys]=tpo o' C):(WT TT (k+1)).Φ "columns_of" [A,M]=tpo (o.or o') C:=by
 have cx:aX 1 ((WT TT k).Φ "askings_within") (.ok [(.fz,A)])=.ok .fz (.tup xs):=call1 hx;rw[rA];generalize WT TT k=W at *;have ea:dW=dW.take 1++([.setC 2 true (.compX eCo (.items (.call "askings_within" 1 [(.var 0)])) [] [1] (.nm 1) 1)]++[.set 3 (.deed "DEEDS" kS (.ix (.var 0) (.int 0))),.ret (.callv 3 dfs 2 [(.var 0),(.var 2)])]):=rfl;have p1:evB W (dW.take 1) (ρc A M)=.nx (ρc A M):=by simp[dW,h1,hw]
 have ei:evE W (.items (.call "askings_within" 1 [(.var 0)])) (ρc A M)=.ok .fz (.lst xs):=by simp[cx]
 have ec:evE W (.compX eCo (.items (.call "askings_within" 1 [(.var 0)])) [] [1] (.nm 1) 1) (ρc A M)=(lo o ys).out:=by rw[aKB,ei];show (if xs.length<sizeLine then (dJ (aI (.nm 1)) (λρ=>evF W [] ρ) (λρ=>evE W eCo ρ) [some (false,M),none] xs).out else .stuck)=_;rw[if_pos hs,hq]
 cases o with
 | some c=>refine eC (ρ:=ρc A M) rfl ?_;show evB W dW (ρc A M)=_;rw[ea,fE,p1,aF.thn_nx,fE,aU,wL,ec];rfl
 | none =>
  have p2:evB W [.setC 2 true (.compX eCo (.items (.call "askings_within" 1 [(.var 0)])) [] [1] (.nm 1) 1)] (ρc A M)=.nx [some (false,A),some (false,M),some (false,.lst ys),none]:=by rw[aU,wL,ec];rfl
  have cr:aX 2 (W.Φ f) (.ok [(.fz,A),(.fz,.lst ys)])=tpo o' C:=oQ (ds:=[A,.lst ys]) rfl rfl (hr rfl);have d1:j8 kS (.ok .fz (.str w))=.ok .fz (.fn f):=by
   show (match kS.lookup w with | some f=>Res.ok .fz (.fn f) | none=>.stuck)=_
   rw[hf]
  have d2:lM W.Φ dfs 2 (.ok .fz (.fn f)) (.ok [(.fz,A),(.fz,.lst ys)])=tpo o' C:=by show (if dfs.contains f=true then aX 2 (W.Φ f) (.ok [(.fz,A),(.fz,.lst ys)]) else .stuck)=_;rw[if_pos hf',cr]
  have tail:evB W [.set 3 (.deed "DEEDS" kS (.ix (.var 0) (.int 0))),.ret (.callv 3 dfs 2 [(.var 0),(.var 2)])] [some (false,A),some (false,M),some (false,.lst ys),none]=(fO (tpo o' C) [some (false,A),some (false,M),some (false,.lst ys),some (false,.fn f)]).thn (evB W []):=by generalize kS=T1 at *;generalize dfs=T2 at *;simp[h1,d1,d2]
  have all:evB W dW (ρc A M)=(fO (tpo o' C) [some (false,A),some (false,M),some (false,.lst ys),some (false,.fn f)]).thn (evB W []):=by rw[ea,fE,p1,aF.thn_nx,fE,p2,aF.thn_nx,tail]
  cases o' with
  | none=>exact bG rfl (by show evB W dW (ρc A M)=_;rw[all];rfl)
  | some c=>exact eC (ρ:=[some (false,A),some (false,M),some (false,.lst ys),some (false,.fn f)]) rfl (by show evB W dW (ρc A M)=_;rw[all];rfl)
theorem wn{w:Str}(h:(w==Str.ofString "table")=false:=by decide +kernel):(w==Str.ofString "table")=false:=h
theorem s1:1<sizeLine:=by have:=aN4;omega
theorem s2:2<sizeLine:=by have:=aN4;omega
theorem dp{d k n:Nat}(h:d<=3):d+1<=k+n+6:=aNI (Nat.succ_le_succ h) (aNI (by decide:4<=6) (Nat.le_add_left 6 (k+n)))
theorem ns{n:Nat}(h:n<=900):n<=sizeLine:=aNI h (by have:=aN4;omega)
def Co(M:List (Key×D))(A:D)(o:Option Str)(C:List Str)(n:Nat):Prop:=∀ k,(WT TT (k+n+7)).Φ "columns_of" [A,.dct M]=tpo o C
section
variable {M:List (Key×D)}{d d':D}{o o':Option Str}{C C' K:List Str}{n n':Nat}
theorem Co.mono(h:Co M d o C n)(hn:n<=n'):Co M d o C n':=λk=>by
 have:=h (k+(n'-n));rw[show k+(n'-n)+n+7=k+n'+7 by omega] at this
 exact this
theorem Co.table{w:Str}(h:bC M (.inr w)=some (Tp C)):Co M (.tup [.str "table", .str w]) none C 0:=λk=>aME (k+5) h
theorem Co.gone{w:Str}(hw:w.length<=40)(h:bC M (.inr w)=none):Co M (.tup [.str "table", .str w]) (some dM) C 0:=λk=>aMG (k+5) hw h
theorem Co.pick{t:Ts}{L:List Str}(h:Co M d o C n)(hd:t.dep<=3)(hL:eQ [] t=L.map .str)(hl:L.length<=900)(hz:∀ z∈L,z.length<=40):Co M (.tup [.str "pick", d,tsD [] t]) (o.or (if ∀ z∈L,z∈C then none else some bF)) C (n+1):=λk=>by
 have hc:=aLQ (f:=[]) t (k+n+6) (dp hd) (by rw[hL,aOI];exact ns hl)
 rw[hL] at hc;exact jB (k+n+7) (w:=Str.ofString "pick") (f:=Str.ofString "columns_of_pick") (xs:=[d]) (ys:=[Tp C]) j0 wn (by decide +kernel) (by decide +kernel) (oS (k+n+6) (w:=Str.ofString "pick") j0 j1 wn (by decide +kernel)) s1 (mH (h k)) λ_=>aL7 (k+n+5) hz hc
theorem Co.keep(h:Co M d o C n)(hz:∀ z∈K,z.length<=40):Co M (.tup [.str "keep", d,Tp K]) (o.or (bad C K)) K (n+1):=λk =>
 jB (k+n+7) (w:=Str.ofString "keep") (f:=Str.ofString "columns_of_keep") (xs:=[d]) (ys:=[Tp C]) j0 wn (by decide +kernel) (by decide +kernel) (oS (k+n+6) (w:=Str.ofString "keep") j0 j1 wn (by decide +kernel)) s1 (mH (h k)) λ_=>aL5 (k+n+4) hz
theorem Co.call(h:Co M d o C n)(hz:∀ z∈K,z.length<=40)(hb:K.length<=900):Co M (.tup [.str "call", d,Tp K]) (o.or (if K.length=C.length then (if K.Nodup then none else some bX) else some bP)) K (n+1):=λk =>
 jB (k+n+7) (w:=Str.ofString "call") (f:=Str.ofString "columns_of_call") (xs:=[d]) (ys:=[Tp C]) j0 wn (by decide +kernel) (by decide +kernel) (oS (k+n+6) (w:=Str.ofString "call") j0 j1 wn (by decide +kernel)) s1 (mH (h k)) λ_=>aL9 (k+n+5) hz hb
theorem Co.total{z:Str}(h:Co M d o C n)(hz0:z.length<=40)(hz:∀ z∈K,z.length<=40):Co M (.tup [.str "total", d,.str z,Tp K]) (o.or (if z∈C then bad C K else some bF)) K (n+1):=λk =>
 jB (k+n+7) (w:=Str.ofString "total") (f:=Str.ofString "columns_of_total") (xs:=[d]) (ys:=[Tp C]) f0 wn (by decide +kernel) (by decide +kernel) (oS (k+n+6) (w:=Str.ofString "total") f0 f1 wn (by decide +kernel)) s1 (mH (h k)) λ_=>aL6 (k+n+3) hz0 hz
theorem Co.join(h:Co M d o C n)(h':Co M d' o' C' n)(hs:C.length+C'.length<sizeLine):Co M (.tup [.str "join", d,d']) (o.or o') (C++dif C' C) (n+1):=λk=>by
 have:=jB (k+n+7) (o:=o.or o') (o':=none) (C:=C++dif C' C) (w:=Str.ofString "join") (f:=Str.ofString "columns_of_join") (xs:=[d,d']) (ys:=[Tp C,Tp C']) j0 wn (by decide +kernel) (by decide +kernel) (rR (k+n+6) (w:=Str.ofString "join") wn (by decide +kernel)) s2 (rS (h k) (h' k)) λ_=>aMA (k+n+6) hs
 rw[aRA] at this;exact this
theorem Co.pour(h:Co M d o C n)(h':Co M d' o' C' n):Co M (.tup [.str "pour", d,d']) ((o.or o').or (if C=C' then none else some bP)) C (n+1):=λk =>
 jB (k+n+7) (o:=o.or o') (w:=Str.ofString "pour") (f:=Str.ofString "columns_of_pour") (xs:=[d,d']) (ys:=[Tp C,Tp C']) j0 wn (by decide +kernel) (by decide +kernel) (rR (k+n+6) (w:=Str.ofString "pour") wn (by decide +kernel)) s2 (rS (h k) (h' k)) λ_=>aMB (k+n+6)
theorem Co.leave(h:Co M d o C n)(h':Co M d' o' C' n)(hz:∀ z∈C',z.length<=40):Co M (.tup [.str "leave", d,d']) ((o.or o').or (if ∀ z∈C',z∈C then none else some bP)) C (n+1):=λk =>
 jB (k+n+7) (o:=o.or o') (w:=Str.ofString "leave") (f:=Str.ofString "columns_of_leave") (xs:=[d,d']) (ys:=[Tp C,Tp C']) j0 wn (by decide +kernel) (by decide +kernel) (rR (k+n+6) (w:=Str.ofString "leave") wn (by decide +kernel)) s2 (rS (h k) (h' k)) λ_=>aMC (k+n+6) hz
end
theorem zL:∀ (a b:List D) (i:Nat),bT i (a++b)=bT i a++bT (i+a.length) b
 | [],b,i=>by rfl
 | x::a,b,i=>by show _::bT (i+1) (a++b)=_::(bT (i+1) a++_);rw[zL a b (i+1),aO8,show i+1+a.length=i+(a.length+1) by omega]
theorem zM{C K1 r:List Str}(hn:K1.Nodup)(hs:∀ z∈K1,z∈C):∀ d∈bT 0 (K1.map D.str),jA C (K1++r) d=none:=λd hd=>by
 obtain ⟨j,hj,ed⟩:=aQ5.mp hd;obtain ⟨v,hv,rfl⟩:=rL (show (bT 0 (K1.map .str))[j]? = some d by rw[aPV hj,ed])
 rw[aOE] at hv;obtain ⟨z,hz',rfl⟩:=aPB.mp hv;obtain ⟨hj',ez⟩:=aNN.mp hz';show (if z∈C then (if z∈(K1++r).take ((0+j:Nat):Int).toNat then some bX else none) else some bF)=none;rw[if_pos (hs z (by rw[<- ez];exact aQX hj')),aP7,aOP,aRB (by omega)]
 rw[if_neg];intro q;obtain ⟨i,hi,e⟩:=aQ5.mp q;rw[List.getElem_take] at e;rw[aN9] at hi;rw[<- ez] at e;have:=(aNO hn).mp e;omega
theorem rT{C K:List Str}(hn:K.Nodup)(hs:∀ z∈K,z∈C):bad C K=none:=by unfold bad;rw[List.findSome?_eq_none_iff];have:=zM (r:=[]) hn hs;rw[aN6] at this;exact this
theorem zN{C K1 r:List Str}{z:Str}(hn:K1.Nodup)(hs:∀ z∈K1,z∈C):bad C (K1++z::r)=if z∈C then (if z∈K1 then some bX else bad C (K1++z::r)) else some bF:=by
 have e:bad C (K1++z::r)=(jA C (K1++z::r) (.tup [.int ((K1.length:Nat):Int),.str z])).or ((bT (K1.length+1) (r.map .str)).findSome? (jA C (K1++z::r))):=by unfold bad;rw[aQ2,zL,List.findSome?_append,List.findSome?_eq_none_iff.mpr (zM hn hs),Option.none_or,aOI,aP7];show List.findSome? _ (D.tup [.int ((K1.length:Nat):Int),.str z]::bT (K1.length+1) (r.map .str))=_;rw[aQ8];generalize jA C (K1++z::r) (.tup [.int ((K1.length:Nat):Int),.str z])=q;cases q <;> rfl
 have ec:jA C (K1++z::r) (.tup [.int ((K1.length:Nat):Int),.str z])=if z∈C then (if z∈K1 then some bX else none) else some bF:=by show (if z∈C then (if z∈(K1++z::r).take ((K1.length:Nat):Int).toNat then some bX else none) else some bF)=_;rw[aOP,List.take_left]
 by_cases h:z∈C
 . rw[if_pos h];by_cases h2:z∈K1
   . rw[if_pos h2,e,ec,if_pos h,if_pos h2];rfl
   . rw[if_neg h2]
 . rw[if_neg h,e,ec,if_neg h];rfl
theorem zO{C K1 r:List Str}{z:Str}(hn:K1.Nodup)(hs:∀ z∈K1,z∈C)(h:¬ z∈C):bad C (K1++z::r)=some bF:=by rw[zN hn hs,if_neg h]
theorem zP{C K1 r:List Str}{z:Str}(hn:K1.Nodup)(hs:∀ z∈K1,z∈C)(h:z∈K1):bad C (K1++z::r)=some bX:=by rw[zN hn hs,if_pos (hs z h),if_pos h]
theorem md{c n:Int}(h:0<n):∃ j:Nat,c % n=(j:Int)/\(j:Int)<n:=by
 have h0:=aQU c (show n≠0 by omega)
 have h1:=aQV c h;exact ⟨(c % n).toNat,by omega,by omega⟩
theorem zQ{W:WD}{ρ:Rho}{C:List Str}{e:E}{i:Nat}{m:Md}(h:evE W e ρ=.ok m (.int (i:Int))):slP (.ok .fz (Tp C)) (evO W none) (evO W (some e)) ρ=.ok .fz (Tp (C.take i)):=by rw[rJ h,<- aQ7]
theorem rU{W:WD}{ρ:Rho}{C:List Str}{e:E}{i:Nat}{m:Md}(h:evE W e ρ=.ok m (.int (i:Int))):slP (.ok .fz (Tp C)) (evO W (some e)) (evO W none) ρ=.ok .fz (Tp (C.drop i)):=by rw[sl_lo h,<- List.map_drop]
theorem rV{C:List Str}(hn:C.Nodup)(j:Nat):(C.drop j++C.take j).Nodup:=by
 have:(C.drop j++C.take j).Perm C:=List.perm_append_comm.trans (by rw[List.take_append_drop])
 exact this.symm.nodup hn
theorem rW{C:List Str}{j:Nat}{z:Str}(h:z∈C.drop j++C.take j):z∈C:=by
 rcases aNL.mp h with h | h
 . exact aRC h
 . exact aRD h
theorem zR{C:List Str}{j:Nat}:(C.drop j++C.take j).length=C.length:=by rw[aOH,aOS,aN9];omega
theorem rX(k:Nat){C:List Str}(hn:C.Nodup)(hb:C.length<=900)(c:Int):∃ K:List Str,K.Nodup/\(∀ z∈K,z∈C)/\K.length<=C.length/\(WT TT (k+1)).Φ "_law_kept" [Tp C,.int c]=.ok .fz (Tp K):=by
 obtain ⟨j,ej,hj⟩:=md (c:=c) (n:=(C.length:Int)+1) (by omega)
 obtain ⟨i,ei,hi⟩:=md (c:=c / 7) (n:=2) (by omega)
 refine ⟨(C.drop j++C.take j).drop i,(rV hn j).sublist (List.drop_sublist _ _),λz hz=>rW (aRC hz),by rw[aOS,zR];omega,?_⟩
 rw[aLA];refine bG rfl ?_;show evB (WT TT k) oI [some (false,Tp C),some (false,.int c),none,none]=_;have hsz:sizeLine=16777216:=aN4;have lt:=oN (C:=C) (m:=.fz);have em:op2 (bN .Mod) (.ok .fz (.int c)) (.ok .fz (.int ((C.length:Int)+1)))=.ok .fz (.int (j:Int)):=by rw[lV (by omega),ej]
 have ct:=oO (C:=C.drop j) (C':=C.take j) (m:=.fz) (m':=.fz) (by rw[aOS,aN9];omega)
 have q1:∀ ρ:Rho,ρ[2]? = some (some (false,.int (j:Int)))->slP (.ok .fz (Tp C)) (evO (WT TT k) (some (.var 2))) (evO (WT TT k) none) ρ=.ok .fz (Tp (C.drop j)):=λρ h=>rU (m:=.fz) (by rw[gO];unfold cA;rw[h])
 have q2:∀ ρ:Rho,ρ[2]? = some (some (false,.int (j:Int)))->slP (.ok .fz (Tp C)) (evO (WT TT k) none) (evO (WT TT k) (some (.var 2))) ρ=.ok .fz (Tp (C.take j)):=λρ h=>zQ (m:=.fz) (by rw[gO];unfold cA;rw[h])
 have q3:∀ ρ:Rho,ρ[1]? = some (some (false,.int c))->slP (.ok .fz (Tp (C.drop j++C.take j))) (evO (WT TT k) (some (.bin .Mod (.bin .FloorDiv (.var 1) (.int 7)) (.int 2)))) (evO (WT TT k) none) ρ=.ok .fz (Tp ((C.drop j++C.take j).drop i)):=λρ h=>rU (m:=.fz) (by
  rw[<- ei];have:cA ρ 1=.ok .fz (.int c):=by unfold cA;rw[h]
  simp[this])
 have p1:=q1 [some (false,Tp C),some (false,.int c),some (false,.int (j:Int)),none] rfl;have p2:=q2 [some (false,Tp C),some (false,.int c),some (false,.int (j:Int)),none] rfl;have p3:=q3 [some (false,Tp C),some (false,.int c),some (false,.int (j:Int)),some (false,Tp (C.drop j++C.take j))] rfl;generalize hA:evO (WT TT k) none=A at *;generalize hB:evO (WT TT k) (some (.var 2))=B at *;generalize hD:evO (WT TT k) (some (.bin .Mod (.bin .FloorDiv (.var 1) (.int 7)) (.int 2)))=D' at *
 clear q1 q2 q3
 generalize Tp ((C.drop j++C.take j).drop i)=t4 at *;generalize Tp (C.drop j++C.take j)=t3 at *;generalize Tp (C.drop j)=t1 at *;generalize Tp (C.take j)=t2 at *;generalize Tp C=t0 at *;simp[oI,lt,em,hA,hB,hD,p1,p2,p3,ct]
section
variable {W:WD}{ρ:Rho}{C C':List Str}{a b e:E}{i j:Nat}{m:Md}{u v:Int}{z:Str}{p q r s:D}
theorem iO(ha:evE W a ρ=.ok .fz (Tp C))(h:evE W e ρ=.ok m (.int (i:Int))):evE W (.slice a none (some e)) ρ=.ok .fz (Tp (C.take i)):=by rw[i5,ha];exact zQ h
theorem kT(ha:evE W a ρ=.ok .fz (Tp C))(h:evE W e ρ=.ok m (.int (i:Int))):evE W (.slice a (some e) none) ρ=.ok .fz (Tp (C.drop i)):=by rw[i5,ha];exact rU h
theorem eG(h:C.length+C'.length<=9000)(ha:evE W a ρ=.ok .fz (Tp C))(hb:evE W b ρ=.ok .fz (Tp C')):evE W (.bin .Add a b) ρ=.ok .fz (Tp (C++C')):=by have hsz:sizeLine=16777216:=aN4;rw[fQ,ha,hb,oO (by omega)]
theorem aY(h:evE W a ρ=.ok .fz p):evE W (.frz a) ρ=.ok .fz p:=by rw[gQ,h,x_frz]
theorem eT(ha:evE W a ρ=.ok .fz (Tp C)):evE W (.bcall .len [a]) ρ=.ok .fz (.int (C.length:Int)):=by rw[aJ9,aR,bW,ha,aEE,wT,aKP,oN];rfl
theorem jC(h:evE W a ρ=.ok .fz (.str z)):evE W (.tup [a]) ρ=.ok .fz (Tp [z]):=by show fA (bD W [a] ρ)=_;rw[aR,bW,h];rfl
theorem cC(ha:evE W a ρ=.ok .fz p)(hb:evE W b ρ=.ok .fz q):evE W (.tup [a,b]) ρ=.ok .fz (.tup [p,q]):=by show fA (bD W [a,b] ρ)=_;rw[aR,aR,bW,ha,hb];rfl
theorem eI(ha:evE W a ρ=.ok .fz p)(hb:evE W b ρ=.ok .fz q)(he:evE W e ρ=.ok .fz r):evE W (.tup [a,b,e]) ρ=.ok .fz (.tup [p,q,r]):=by show fA (bD W [a,b,e] ρ)=_;rw[aR,aR,aR,bW,ha,hb,he];rfl
theorem zS{f:E}(ha:evE W a ρ=.ok .fz p)(hb:evE W b ρ=.ok .fz q)(he:evE W e ρ=.ok .fz r)(hf:evE W f ρ=.ok .fz s):evE W (.tup [a,b,e,f]) ρ=.ok .fz (.tup [p,q,r,s]):=by show fA (bD W [a,b,e,f] ρ)=_;rw[aR,aR,aR,aR,bW,ha,hb,he,hf];rfl
theorem fH(ha:evE W a ρ=.ok .fz p)(hb:evE W b ρ=.ok .fz q)(he:evE W e ρ=.ok .fz r):evE W (.lst [a,b,e]) ρ=.ok .fr (.lst [p,q,r]):=by show dZ (bD W [a,b,e] ρ)=_;rw[aR,aR,aR,bW,ha,hb,he];rfl
theorem bM(hv:0<v)(ha:evE W a ρ=.ok .fz (.int u))(hb:evE W b ρ=.ok .fz (.int v)):evE W (.bin .Mod a b) ρ=.ok .fz (.int (u % v)):=by rw[fQ,ha,hb,lV hv]
theorem bY(hv:0<v)(hb':v.natAbs<=1000000000)(ha:evE W a ρ=.ok .fz (.int u))(hb:evE W b ρ=.ok .fz (.int v)):evE W (.bin .FloorDiv a b) ρ=.ok .fz (.int (u / v)):=by rw[fQ,ha,hb,wM hv hb']
theorem fW(ha:evE W a ρ=.ok .fz (.int u))(hb:evE W b ρ=.ok .fz (.int v)):evE W (.bin .Add a b) ρ=.ok .fz (.int (u+v)):=by rw[fQ,ha,hb,x_add]
theorem rY(ha:evE W a ρ=.ok .fz (.int u))(hb:evE W b ρ=.ok .fz (.int v)):evE W (.bin .Sub a b) ρ=.ok .fz (.int (u-v)):=by rw[fQ,ha,hb,x_sub]
theorem mJ(hi:i<C.length)(ha:evE W a ρ=.ok .fz (Tp C))(hb:evE W b ρ=.ok .fz (.int (i:Int))):evE W (.ix a b) ρ=.ok .fz (.str C[i]):=by rw[dL,ha,hb,rK hi]
theorem eJ(ha:evE W a ρ=.ok .fz (.int u))(hb:evE W b ρ=.ok .fz (.int v)):evE W (.cmp .Eq a b) ρ=.ok .fz (.bl (u==v)):=by rw[fR,ha,hb];simp
theorem eq_0{m m':Md}{C:List Str}:op2 (a8 .Eq) (.ok m (Tp C)) (.ok m' (.tup []))=.ok .fz (.bl C.isEmpty):=by
 refine bO ?_;have s0:d9 (.tuple [])=true:=kR (C:=[]);cases C with
 | nil=>simp[a8,fEq,orO,eqF,bE,cS,s0,PyData.eqv,PyData.eqvAll]
 | cons z C=>have:=kR (C:=z::C);rw[aO9] at this;simp[a8,fEq,orO,eqF,bE,cS,kQ,s0,this,PyData.eqv,PyData.eqvAll]
theorem zT(ha:evE W a ρ=.ok .fz (Tp C)):evE W (.cmp .Eq a (.tup [])) ρ=.ok .fz (.bl C.isEmpty):=by rw[fR,ha];exact eq_0
theorem rZ(ha:evE W a ρ=.ok .fz (Tp C)):evE W (.cmp .NotEq a (.tup [])) ρ=.ok .fz (.bl (!C.isEmpty)):=by rw[fR,ha];exact ne_0
end
def du(o:Option Str):Str:=match o with
 | none=>Str.ofString ""
 | some c=>c
def Cz(o:Option Str):Prop:=∀ c,o=some c->c=dM\/c=bF\/c=bX\/c=bP
theorem gS:Cz none:=λ_ h=>by cases h
theorem eU{a b:Option Str}(ha:Cz a)(hb:Cz b):Cz (a.or b):=by
 cases a with
 | none=>exact hb
 | some c=>exact ha
theorem r6:Cz (some dM):=λc h=>.inl (by cases h;rfl)
theorem oU:Cz (some bF):=λc h=>.inr (.inl (by cases h;rfl))
theorem r8:Cz (some bX):=λc h=>.inr (.inr (.inl (by cases h;rfl)))
theorem oV:Cz (some bP):=λc h=>.inr (.inr (.inr (by cases h;rfl)))
theorem zU{c:Str}(h:Cz (some c)):(c==Str.ofString "")=false:=by rcases h c rfl with rfl | rfl | rfl | rfl <;> decide +kernel
theorem aMH(k:Nat){a b:Option Str}(ha:Cz a):(WT TT (k+1)).Φ "_law_first" [.str (du a),.str (du b)]=.ok .fz (.str (du (a.or b))):=by
 rw[aLF];refine bG rfl ?_;show evB (WT TT k) i7 [some (false,.str (du a)),some (false,.str (du b))]=_;cases a with
 | none=>show evB (WT TT k) i7 [some (false,.str (Str.ofString "")),some (false,.str (du b))]=.rt .fz (.str (du b));generalize du b=y;simp[i7]
 | some c =>
  have h:=zU ha;show evB (WT TT k) i7 [some (false,.str c),some (false,.str (du b))]=.rt .fz (.str c);generalize du b=y;have h':(c != Str.ofString "")=true:=by rw[bne,h];rfl
  simp[i7,h',h]
def Spo(C K:List Str)(g:Str)(r:Res):Prop:=∃ H cz,r=.ok .fz (.tup [Tp H,.str cz])/\bad C H=some cz/\Cz (some cz)/\∀ z∈H,z=g\/z∈K
theorem zV{K r:List Str}{z g y:Str}{a:Nat}(hy:y=g\/y∈K)(h:z∈K.take a++y::K.drop a):z=g\/z∈K:=by
 rcases aNL.mp h with h | h
 . exact .inr (aRD h)
 . rcases aNK.mp h with rfl | h
   . exact hy
   . exact .inr (aRC h)
theorem zW(k:Nat){C K:List Str}{g:Str}(hn:K.Nodup)(hs:∀ z∈K,z∈C)(hg:¬ g∈C)(hb:K.length<=900)(c:Int):Spo C K g ((WT TT (k+1)).Φ "_law_spoiled" [Tp K,.str g,.int c]):=by
 rw[aLD];have hsz:sizeLine=16777216:=aN4
 suffices q:∃ H cz,evB (WT TT k) iI [some (false,Tp K),some (false,.str g),some (false,.int c),none,none,none,none]=.rt .fz (.tup [Tp H,.str cz])/\bad C H=some cz/\Cz (some cz)/\∀ z∈H,z=g\/z∈K by obtain ⟨H,cz,e,q1,q2,q3⟩:=q;exact ⟨H,cz,bG rfl e,q1,q2,q3⟩
 obtain ⟨v,ev,hv⟩:=md (c:=c) (n:=4) (by omega)
 generalize hW:WT TT k=W;have nd:=λa=>hn.sublist (aOF a K);have sb:∀ a,∀ z∈K.take a,z∈C:=λa z hz=>hs z (aRD hz);have e3:evE W (.frz (.bin .Mod (.var 2) (.int 4))) [some (false,Tp K),some (false,.str g),some (false,.int c),none,none,none,none]=.ok .fz (.int (v:Int)):=by rw[<- ev];exact aY (bM (by omega) rfl rfl)
 show ∃ H cz,evB W (.set 3 (.frz (.bin .Mod (.var 2) (.int 4)))::iI.drop 1) _=_/\_;rw[aJ (ρ':=[some (false,Tp K),some (false,.str g),some (false,.int c),some (false,.int (v:Int)),none,none,none]) e3 rfl];have eo:evE W (.orL [(.cmp .Eq (.var 3) (.int 0)),(.cmp .Eq (.var 0) (.tup []))]) [some (false,Tp K),some (false,.str g),some (false,.int c),some (false,.int (v:Int)),none,none,none]=.ok .fz (.bl (((v:Int)==0)||K.isEmpty)):=by rw[lU];show orR (evE W (.cmp .Eq (.var 3) (.int 0)) _) (evE W (.cmp .Eq (.var 0) (.tup [])) _)=_;rw[eJ (u:=(v:Int)) (v:=0) rfl rfl,zT (C:=K) rfl,qO]
 by_cases h0:(((v:Int)==0)||K.isEmpty)=true
 . rw[h0] at eo;obtain ⟨a,ea,ha⟩:=md (c:=c / 4) (n:=(K.length:Int)+1) (by omega)
   refine ⟨K.take a++g::K.drop a,bF,?_,zO (nd a) (sb a) hg,oU,λz hz=>zV (r:=[]) (.inl rfl) hz⟩;have e4:evE W (.frz (.bin .Mod (.bin .FloorDiv (.var 2) (.int 4)) (.bin .Add (.bcall .len [(.var 0)]) (.int 1)))) [some (false,Tp K),some (false,.str g),some (false,.int c),some (false,.int (v:Int)),none,none,none]=.ok .fz (.int (a:Int)):=by rw[<- ea];exact aY (bM (by omega) (bY (by omega) (by decide) rfl rfl) (fW (eT rfl) rfl))
   refine eE (x:=[.set 4 (.frz (.bin .Mod (.bin .FloorDiv (.var 2) (.int 4)) (.bin .Add (.bcall .len [(.var 0)]) (.int 1)))),.ret (.tup [(.frz (.bin .Add (.bin .Add (.slice (.var 0) none (some (.var 4))) (.tup [(.var 1)])) (.slice (.var 0) (some (.var 4)) none))),(.str "NoColumn")])]) eo ?_;rw[aJ (ρ':=[some (false,Tp K),some (false,.str g),some (false,.int c),some (false,.int (v:Int)),some (false,.int (a:Int)),none,none]) e4 rfl];refine eS (cC (aY ?_) rfl);have:=eG (W:=W) (ρ:=[some (false,Tp K),some (false,.str g),some (false,.int c),some (false,.int (v:Int)),some (false,.int (a:Int)),none,none]) (C:=K.take a++[g]) (C':=K.drop a) (by simp;omega) (eG (by simp;omega) (iO (a:=.var 0) (e:=.var 4) (m:=.fz) rfl rfl) (jC (a:=.var 1) rfl)) (kT (a:=.var 0) (e:=.var 4) (m:=.fz) rfl rfl)
   rw[aRE] at this;exact this
 . have h0':(((v:Int)==0)||K.isEmpty)=false:=by simpa using h0
   rw[h0'] at eo;rw[aPP] at h0';obtain ⟨hv0,hK⟩:=h0';have hv0:v≠0:=by intro z;subst z;exact absurd hv0 (by decide)
   have hl:0<K.length:=by
    cases K with
    | nil=>cases hK
    | cons _ _=>simp
   obtain ⟨j,ej,hj⟩:=md (c:=c / 4) (n:=(K.length:Int)) (by omega)
   obtain ⟨w,ew,hw⟩:=md (c:=c / 44) (n:=(K.length:Int)-(j:Int)) (by omega)
   have hj':j<K.length:=by omega
   have hat:j+1+w<=K.length:=by omega
   have mem:K[j]∈K.take (j+1+w):=aQ9.mpr ⟨j,by omega,rfl⟩
   have e5:evE W (.frz (.bin .Mod (.bin .FloorDiv (.var 2) (.int 4)) (.bcall .len [(.var 0)]))) [some (false,Tp K),some (false,.str g),some (false,.int c),some (false,.int (v:Int)),none,none,none]=.ok .fz (.int (j:Int)):=by rw[<- ej];exact aY (bM (by omega) (bY (by omega) (by decide) rfl rfl) (eT rfl))
   have e4:evE W (.frz (.bin .Add (.bin .Add (.var 5) (.int 1)) (.bin .Mod (.bin .FloorDiv (.var 2) (.int 44)) (.bin .Sub (.bcall .len [(.var 0)]) (.var 5))))) [some (false,Tp K),some (false,.str g),some (false,.int c),some (false,.int (v:Int)),none,some (false,.int (j:Int)),none]=.ok .fz (.int ((j+1+w:Nat):Int)):=by
    rw[show ((j+1+w:Nat):Int)=(j:Int)+1+(c / 44) % ((K.length:Int)-(j:Int)) by rw[ew];omega]
    exact aY (fW (fW rfl rfl) (bM (by omega) (bY (by omega) (by decide) rfl rfl) (rY (eT rfl) rfl)))
   have e6:evE W (.frz (.bin .Add (.bin .Add (.slice (.var 0) none (some (.var 4))) (.tup [(.ix (.var 0) (.var 5))])) (.slice (.var 0) (some (.var 4)) none))) [some (false,Tp K),some (false,.str g),some (false,.int c),some (false,.int (v:Int)),some (false,.int ((j+1+w:Nat):Int)),some (false,.int (j:Int)),none]=.ok .fz (Tp (K.take (j+1+w)++K[j]::K.drop (j+1+w))):=by
    have:=aY (eG (W:=W) (ρ:=[some (false,Tp K),some (false,.str g),some (false,.int c),some (false,.int (v:Int)),some (false,.int ((j+1+w:Nat):Int)),some (false,.int (j:Int)),none]) (C:=K.take (j+1+w)++[K[j]]) (C':=K.drop (j+1+w)) (by simp;omega) (eG (by simp;omega) (iO (a:=.var 0) (e:=.var 4) (m:=.fz) rfl rfl) (jC (a:=.ix (.var 0) (.var 5)) (mJ hj' rfl rfl))) (kT (a:=.var 0) (e:=.var 4) (m:=.fz) rfl rfl))
    rw[aRE] at this;exact this
   have dl:(K.take (j+1+w)++K[j]::K.drop (j+1+w)).length<=902:=by simp;omega
   have dm:∀ z∈K.take (j+1+w)++K[j]::K.drop (j+1+w),z=g\/z∈K:=λz hz=>zV (r:=[]) (.inr (aQX hj')) hz;have tail:∀ H cz,evB W (iI.drop 5) [some (false,Tp K),some (false,.str g),some (false,.int c),some (false,.int (v:Int)),some (false,.int ((j+1+w:Nat):Int)),some (false,.int (j:Int)),some (false,Tp (K.take (j+1+w)++K[j]::K.drop (j+1+w)))]=.rt .fz (.tup [Tp H,.str cz])->evB W (iI.drop 1) [some (false,Tp K),some (false,.str g),some (false,.int c),some (false,.int (v:Int)),none,none,none]=.rt .fz (.tup [Tp H,.str cz]):=λH cz h=>by
    show evB W (.ite (.orL [(.cmp .Eq (.var 3) (.int 0)),(.cmp .Eq (.var 0) (.tup []))]) _ [] :: .set 5 _ :: .set 4 _ :: .set 6 _::iI.drop 5) _=_;rw[bA eo,aJ (ρ':=[some (false,Tp K),some (false,.str g),some (false,.int c),some (false,.int (v:Int)),none,some (false,.int (j:Int)),none]) e5 rfl,
     aJ (ρ':=[some (false,Tp K),some (false,.str g),some (false,.int c),some (false,.int (v:Int)),some (false,.int ((j+1+w:Nat):Int)),some (false,.int (j:Int)),none]) e4 rfl,
     aJ (ρ':=[some (false,Tp K),some (false,.str g),some (false,.int c),some (false,.int (v:Int)),some (false,.int ((j+1+w:Nat):Int)),some (false,.int (j:Int)),some (false,Tp (K.take (j+1+w)++K[j]::K.drop (j+1+w)))]) e6 rfl]
    exact h
   have b1:=zP (r:=K.drop (j+1+w)) (nd (j+1+w)) (sb (j+1+w)) mem;have b2:=zP (r:=K.drop (j+1+w)++[g]) (nd (j+1+w)) (sb (j+1+w)) mem;have b3:=zO (K1:=[]) (r:=K.take (j+1+w)++K[j]::K.drop (j+1+w)) List.nodup_nil (by simp) hg
   generalize hDd:K.take (j+1+w)++K[j]::K.drop (j+1+w)=Dd at *;generalize hρ:([some (false,Tp K),some (false,.str g),some (false,.int c),some (false,.int (v:Int)),some (false,.int ((j+1+w:Nat):Int)),some (false,.int (j:Int)),some (false,Tp Dd)]:Rho)=ρ6 at *;have g3:evE W (.var 3) ρ6=.ok .fz (.int (v:Int)):=by rw[<- hρ];rfl
   have g6:evE W (.var 6) ρ6=.ok .fz (Tp Dd):=by rw[<- hρ];rfl
   have g1:evE W (.var 1) ρ6=.ok .fz (.str g):=by rw[<- hρ];rfl
   have d5:iI.drop 5=[.ite (.cmp .Eq (.var 3) (.int 1)) [.ret (.tup [(.var 6),(.str "Twice")])] [],.ite (.cmp .Eq (.var 3) (.int 2)) [.ret (.tup [(.frz (.bin .Add (.var 6) (.tup [(.var 1)]))),(.str "Twice")])] [],.ret (.tup [(.frz (.bin .Add (.tup [(.var 1)]) (.var 6))),(.str "NoColumn")])]:=rfl;rw[d5] at tail;have c1:evE W (.cmp .Eq (.var 3) (.int 1)) ρ6=.ok .fz (.bl ((v:Int)==1)):=eJ g3 rfl;have c2:evE W (.cmp .Eq (.var 3) (.int 2)) ρ6=.ok .fz (.bl ((v:Int)==2)):=eJ g3 rfl;have hv4:v=1\/v=2\/v=3:=by omega
   rcases hv4 with rfl | rfl | rfl
   . exact ⟨Dd,bX,tail _ _ (eE c1 (eS (cC g6 rfl))),b1,r8,dm⟩
   . refine ⟨Dd++[g],bX,tail _ _ ?_,by rw[<- hDd,aRE];exact b2,r8,λz hz=>?_⟩
     . rw[bA c1];exact eE c2 (eS (cC (aY (eG (by simp;omega) g6 (jC g1))) rfl))
     . rcases aNL.mp hz with hz | hz
       . exact dm z hz
       . exact .inl (aP8.mp hz)
   . refine ⟨g::Dd,bF,tail _ _ ?_,b3,oU,λz hz=>?_⟩
     . rw[bA c1,bA c2];exact eS (cC (aY (eG (C:=[g]) (by simp;omega) (jC g1) g6)) rfl)
     . rcases aNK.mp hz with hz | hz
       . exact .inl hz
       . exact dm z hz
def fr(P:List Str)(s:Int)(l:Nat):List Str:=(List.range l).map λ(k:Nat)=>nth P (((k:Int)+s) % 11).toNat
theorem aMI{F:List Str}(hF:F.Nodup){φ:Nat->Nat}{w:Nat}(hb:∀ k,k<w->φ k<F.length)(hi:∀ i j,i<j->j<w->φ i≠φ j):((List.range w).map λk=>nth F (φ k)).Nodup:=by rw[List.nodup_iff_pairwise_ne,aQ4];intro i j h1 h2 hij e;simp only[aOI,List.length_range] at h1 h2;simp only[List.getElem_map,List.getElem_range] at e;rw[iN (hb i h1),iN (hb j h2)] at e;exact hi i j hij h2 ((aNO hF).mp e)
section
variable {P:List Str}{g:Str}{s:Int}{l:Nat}
theorem mK(k:Nat):0<=((k:Int)+s) % 11/\(((k:Int)+s) % 11).toNat<11:=by omega
theorem zX(hn:P.Nodup)(hl:P.length=11)(h:l<=11):(fr P s l).Nodup :=
 aMI hn (λk _=>by rw[hl];exact (mK k).2) λi j hij hj e=>by have:=(mK (s:=s) i).1;have:=(mK (s:=s) j).1;omega
theorem zY:(fr P s l).length=l:=by simp[fr]
theorem zZ(hl:P.length=11):∀ z∈fr P s l,z∈P:=λz hz=>by
 obtain ⟨k,_,rfl⟩:=aQY.mp hz;rw[iN (by rw[hl];exact (mK k).2)]
 exact aQX _
theorem ix_P(hl:P.length=11)(k:Nat){m m':Md}:op2 ixD (.ok m (.lst ((P++[g]).map .str))) (.ok m' (.int (((k:Int)+s) % 11)))=.ok .fz (.str (nth P (((k:Int)+s) % 11).toNat)):=by obtain ⟨h0,h1⟩:=mK (s:=s) k;obtain ⟨j,ej⟩:=aQW h0;rw[ej] at h1 ⊢;rw[aOP] at h1 ⊢;refine cK (bH ?_);rw[aOE,aOD (by omega),aPV (by omega),iN (by omega)];rfl
theorem mL(hl:P.length=11){m m':Md}:op2 ixD (.ok m (.lst ((P++[g]).map .str))) (.ok m' (.int 11))=.ok .fz (.str g):=by refine cK (bH (j:=11) ?_);rw[aOE,aOB (by omega),hl];rfl
def nwD(P:List Str)(s:Int):D->D
 | .int i=>.str (nth P ((i+s) % 11).toNat)
 | d=>d
theorem aMJ:(bI 0 (l:Int)).map (nwD P s)=(fr P s l).map .str:=by rw[zE];unfold fr;rw[aQO,aQO];rfl
theorem fresh{W:WD}{ρ:Rho}{aB:List Nat}{c:Int}{e' a:E}{C:List Str}(hl:P.length=11)(hb:C.length<=900)(hcap:cI aB ρ=[some (false,.lst ((P++[g]).map .str)),some (false,.int c)])(he:∀ i:Nat,evE W e' [some (false,.lst ((P++[g]).map .str)),some (false,.int c),some (false,.int (i:Int))]=.ok .fz (.int (((i:Int)+s) % 11)))(ha:evE W a ρ=.ok .fz (Tp C)):evE W (.frz (.tcall .tuple [(.comp (.ix (.var 0) e') (.rng1 (.bcall .len [a])) [] aB (.nm 2) 1)])) ρ=.ok .fz (Tp (fr P s C.length)):=by
 have hsz:sizeLine=16777216:=aN4;have er:evE W (.rng1 (.bcall .len [a])) ρ=.ok .fz (.lst (bI 0 (C.length:Int))):=by rw[nY,eT ha];exact l4 (by omega) (by omega)
 have ec:dR (.ok .fz (.lst (bI 0 (C.length:Int)))) ρ aB 1 (aI (.nm 2)) (λρ=>evF W [] ρ) (λρ=>evE W (.ix (.var 0) e') ρ)=.ok .fr (.lst ((bI 0 (C.length:Int)).map (nwD P s))):=by
  refine aKS _ (by rw[rD];omega) λd hd=>?_
  obtain ⟨i,hi,rfl⟩:=mem_range hd;refine ⟨[some (false,.lst ((P++[g]).map .str)),some (false,.int c),some (false,.int (i:Int))],.fz,by rw[hcap];rfl,rfl,.fz,?_⟩
  rw[dL,he];show aZ (op2 ixD (.ok .fz (.lst ((P++[g]).map .str))) _)=_;rw[ix_P hl];rfl
 rw[aMJ] at ec;refine aY ?_;rw[n5,aR,bW,nZ,er,ec];rfl
end
def cal(C K:List Str):Option Str:=if K.length=C.length then (if K.Nodup then none else some bX) else some bP
theorem aMK{C K:List Str}:Cz (cal C K):=by
 unfold cal;split
 . split
   . exact gS
   . exact r8
 . exact oV
theorem aML{F:List Str}(h:0<F.length){m m':Md}:op2 ixD (.ok m (Tp F)) (.ok m' (.int (-1)))=.ok .fz (.str (F[F.length-1]'(by omega))):=by
 refine fG ?_;unfold atI ixN;rw[if_neg (by omega),aOI]
 rw[if_pos (by omega)]
 show (F.map D.str)[_]? = _;rw[aOE,show (-1+(F.length:Int)).toNat=F.length-1 by omega,aPV (by omega)];rfl
def Cld(C P:List Str)(g:Str)(r:Res):Prop:=∃ H cz,r=.ok .fz (.tup [Tp H,.str cz])/\cal C H=some cz/\(∀ z∈H,z=g\/z∈P)/\H.length<=900
theorem aMM(k:Nat){C P:List Str}{g:Str}(hn:P.Nodup)(hl:P.length=11)(hC:C.length<=11)(c:Int):Cld C P g ((WT TT (k+1)).Φ "_law_called" [Tp C,.lst ((P++[g]).map .str),.int c]):=by
 rw[aLE];have hsz:sizeLine=16777216:=aN4
 suffices q:∃ H cz,evB (WT TT k) i6 [some (false,Tp C),some (false,.lst ((P++[g]).map .str)),some (false,.int c),none,none,none,none]=.rt .fz (.tup [Tp H,.str cz])/\cal C H=some cz/\(∀ z∈H,z=g\/z∈P)/\H.length<=900 by obtain ⟨H,cz,e,q1,q2,q3⟩:=q;exact ⟨H,cz,bG rfl e,q1,q2,q3⟩
 obtain ⟨v,ev,hv⟩:=md (c:=c) (n:=4) (by omega)
 generalize hW:WT TT k=W;generalize hNl:D.lst ((P++[g]).map .str)=Nl;have e3:evE W (.frz (.tcall .tuple [(.comp (.ix (.var 0) (.bin .Mod (.bin .Add (.var 2) (.bin .FloorDiv (.var 1) (.int 2))) (.int 11))) (.rng1 (.bcall .len [(.var 0)])) [] [1,2] (.nm 2) 1)])) [some (false,Tp C),some (false,Nl),some (false,.int c),none,none,none,none]=.ok .fz (Tp (fr P (c / 2) C.length)):=by rw[<- hNl];exact fresh (c:=c) hl (by omega) rfl (λi=>bM (by omega) (fW rfl (bY (by omega) (by decide) rfl rfl)) rfl) rfl
 have hFn:=zX (s:=c / 2) (l:=C.length) hn hl hC;have hFl:=zY (P:=P) (s:=c / 2) (l:=C.length);have hFm:=zZ (s:=c / 2) (l:=C.length) hl;generalize fr P (c / 2) C.length=F at *;have e4:evE W (.frz (.bin .Mod (.var 2) (.int 4))) [some (false,Tp C),some (false,Nl),some (false,.int c),some (false,Tp F),none,none,none]=.ok .fz (.int (v:Int)):=by rw[<- ev];exact aY (bM (by omega) rfl rfl)
 show ∃ H cz,evB W (.set 3 (.frz (.tcall .tuple [(.comp (.ix (.var 0) (.bin .Mod (.bin .Add (.var 2) (.bin .FloorDiv (.var 1) (.int 2))) (.int 11))) (.rng1 (.bcall .len [(.var 0)])) [] [1,2] (.nm 2) 1)])) :: .set 4 (.frz (.bin .Mod (.var 2) (.int 4)))::i6.drop 2) _=_/\_;rw[aJ (ρ':=[some (false,Tp C),some (false,Nl),some (false,.int c),some (false,Tp F),none,none,none]) e3 rfl,aJ (ρ':=[some (false,Tp C),some (false,Nl),some (false,.int c),some (false,Tp F),some (false,.int (v:Int)),none,none]) e4 rfl];have eo:evE W (.orL [(.cmp .Eq (.var 4) (.int 0)),(.cmp .Lt (.bcall .len [(.var 0)]) (.int 2))]) [some (false,Tp C),some (false,Nl),some (false,.int c),some (false,Tp F),some (false,.int (v:Int)),none,none]=.ok .fz (.bl (((v:Int)==0)||decide ((C.length:Int)<2))):=by rw[lU];show orR (evE W (.cmp .Eq (.var 4) (.int 0)) _) (evE W (.cmp .Lt (.bcall .len [(.var 0)]) (.int 2)) _)=_;rw[eJ (u:=(v:Int)) (v:=0) rfl rfl,fR,eT (C:=C) rfl];show orR _ (.ok .fz (.bl (decide ((C.length:Int)<2))))=_;rw[qO]
 have gx:evE W (.ix (.var 1) (.int 11)) [some (false,Tp C),some (false,Nl),some (false,.int c),some (false,Tp F),some (false,.int (v:Int)),none,none]=.ok .fz (.str g):=by rw[dL,<- hNl];exact mL hl
 by_cases h0:(((v:Int)==0)||decide ((C.length:Int)<2))=true
 . rw[h0] at eo;refine ⟨F++[g],bP,?_,?_,λz hz=>?_,by simp;omega⟩
   . refine eE (x:=[.ret (.tup [(.frz (.bin .Add (.var 3) (.tup [(.ix (.var 1) (.int 11))]))),(.str "Unlike")])]) eo (eS (cC (aY (eG (by simp;omega) rfl (jC gx))) rfl))
   . unfold cal;rw[if_neg];rw[aOH,hFl];simp
   . rcases aNL.mp hz with hz | hz
     . exact .inr (hFm z hz)
     . exact .inl (aP8.mp hz)
 . have h0':(((v:Int)==0)||decide ((C.length:Int)<2))=false:=by simpa using h0
   rw[h0'] at eo;rw[aPP,decide_eq_false_iff_not] at h0';obtain ⟨hv0,hC2⟩:=h0';have hv0:v≠0:=by intro z;subst z;exact absurd hv0 (by decide)
   have c1:evE W (.cmp .Eq (.var 4) (.int 1)) [some (false,Tp C),some (false,Nl),some (false,.int c),some (false,Tp F),some (false,.int (v:Int)),none,none]=.ok .fz (.bl ((v:Int)==1)):=eJ rfl rfl;show ∃ H cz,evB W (.ite (.orL [(.cmp .Eq (.var 4) (.int 0)),(.cmp .Lt (.bcall .len [(.var 0)]) (.int 2))]) _ [] :: .ite (.cmp .Eq (.var 4) (.int 1)) [.ret (.tup [(.frz (.slice (.var 3) (some (.int 1)) none)),(.str "Unlike")])] []::i6.drop 4) _=_/\_;rw[bA eo];by_cases h1:v=1
   . subst h1;refine ⟨F.drop 1,bP,eE c1 (eS (cC (aY (kT (i:=1) (m:=.fz) rfl rfl)) rfl)),?_,λz hz=>.inr (hFm z (aRC hz)),by simp;omega⟩
     unfold cal;rw[if_neg];rw[aOS,hFl];omega
   . have h1':((v:Int)==1)=false:=by rw[aM6];omega
     rw[h1'] at c1;rw[bA c1];obtain ⟨j,ej,hj⟩:=md (c:=c / 4) (n:=(F.length:Int)) (by omega)
     have hj':j<F.length:=by omega
     have e5:evE W (.frz (.bin .Mod (.bin .FloorDiv (.var 2) (.int 4)) (.bcall .len [(.var 3)]))) [some (false,Tp C),some (false,Nl),some (false,.int c),some (false,Tp F),some (false,.int (v:Int)),none,none]=.ok .fz (.int (j:Int)):=by rw[<- ej];exact aY (bM (by omega) (bY (by omega) (by decide) rfl rfl) (eT rfl))
     have hx:∃ x,x∈F/\(x∈F.take j\/x∈F.drop (j+1))/\evE W (.ix (.var 3) (.bin .Sub (.var 5) (.int 1))) [some (false,Tp C),some (false,Nl),some (false,.int c),some (false,Tp F),some (false,.int (v:Int)),some (false,.int (j:Int)),none]=.ok .fz (.str x):=by
      cases j with
      | zero =>
       refine ⟨F[F.length-1]'(by omega),aQX _,.inr ?_,?_⟩
       . rw[List.mem_drop_iff_getElem];refine ⟨F.length-2,by omega,?_⟩
         have:0+1+(F.length-2)=F.length-1:=by omega
         simp only[this]
       . have q:=rY (W:=W) (ρ:=[some (false,Tp C),some (false,Nl),some (false,.int c),some (false,Tp F),some (false,.int (v:Int)),some (false,.int ((0:Nat):Int)),none]) (a:=.var 5) (b:=.int 1) (u:=((0:Nat):Int)) (v:=1) rfl rfl;rw[show ((0:Nat):Int)-1 = -1 by omega] at q
         have t:=aML (F:=F) (by omega) (m:=.fz) (m':=.fz)
         rw[dL,q];exact t
      | succ i =>
       refine ⟨F[i],aQX _,.inl (aQ9.mpr ⟨i,by omega,rfl⟩),?_⟩
       have:=rY (W:=W) (ρ:=[some (false,Tp C),some (false,Nl),some (false,.int c),some (false,Tp F),some (false,.int (v:Int)),some (false,.int ((i+1:Nat):Int)),none]) (a:=.var 5) (b:=.int 1) (u:=((i+1:Nat):Int)) (v:=1) rfl rfl;rw[show ((i+1:Nat):Int)-1=(i:Int) by omega] at this
       exact mJ (by omega) rfl this
     obtain ⟨x,hxF,hxd,ex⟩:=hx;have e6:evE W (.frz (.bin .Add (.bin .Add (.slice (.var 3) none (some (.var 5))) (.tup [(.ix (.var 3) (.bin .Sub (.var 5) (.int 1)))])) (.slice (.var 3) (some (.bin .Add (.var 5) (.int 1))) none))) [some (false,Tp C),some (false,Nl),some (false,.int c),some (false,Tp F),some (false,.int (v:Int)),some (false,.int (j:Int)),none]=.ok .fz (Tp (F.take j++[x]++F.drop (j+1))) :=
      aY (eG (by simp;omega) (eG (by simp;omega) (iO (m:=.fz) rfl rfl) (jC ex)) (kT (i:=j+1) (m:=.fz) rfl (by rw[Int.natCast_add];exact fW rfl rfl)))
     have dl:(F.take j++[x]++F.drop (j+1)).length=F.length:=by simp;omega
     have dn:¬ (F.take j++[x]++F.drop (j+1)).Nodup:=λq=>by
      rw[aRE,aRF] at q;obtain ⟨q1,q2,q3⟩:=q;rcases hxd with h | h
      . exact q3 x h x (by simp) rfl
      . rw[List.singleton_append,aN7] at q2;exact q2.1 h
     have dm:∀ z∈F.take j++[x]++F.drop (j+1),z=g\/z∈P:=λz hz=>.inr (hFm z (by
      rcases aNL.mp hz with hz | hz
      . rcases aNL.mp hz with hz | hz
        . exact aRD hz
        . rw[aP8.mp hz];exact hxF
      . exact aRC hz))
     show ∃ H cz,evB W (.set 5 _ :: .set 6 _::i6.drop 6) _=_/\_;rw[aJ (ρ':=[some (false,Tp C),some (false,Nl),some (false,.int c),some (false,Tp F),some (false,.int (v:Int)),some (false,.int (j:Int)),none]) e5 rfl,
      aJ (ρ':=[some (false,Tp C),some (false,Nl),some (false,.int c),some (false,Tp F),some (false,.int (v:Int)),some (false,.int (j:Int)),some (false,Tp (F.take j++[x]++F.drop (j+1)))]) e6 rfl]
     generalize F.take j++[x]++F.drop (j+1)=Dd at *;have d6:i6.drop 6=[.ite (.cmp .Eq (.var 4) (.int 2)) [.ret (.tup [(.var 6),(.str "Twice")])] [],.ret (.tup [(.frz (.bin .Add (.var 6) (.slice (.var 3) none (some (.int 1))))),(.str "Unlike")])]:=rfl;rw[d6];have c2:evE W (.cmp .Eq (.var 4) (.int 2)) [some (false,Tp C),some (false,Nl),some (false,.int c),some (false,Tp F),some (false,.int (v:Int)),some (false,.int (j:Int)),some (false,Tp Dd)]=.ok .fz (.bl ((v:Int)==2)):=eJ rfl rfl;by_cases h2:v=2
     . subst h2;refine ⟨Dd,bX,eE c2 (eS (cC rfl rfl)),?_,dm,by omega⟩
       unfold cal;rw[if_pos (by omega),if_neg dn]
     . have h2':((v:Int)==2)=false:=by rw[aM6];omega
       rw[h2'] at c2;rw[bA c2];refine ⟨Dd++F.take 1,bP,eS (cC (aY (eG (by simp;omega) rfl (iO (i:=1) (m:=.fz) rfl rfl))) rfl),?_,λz hz=>?_,by simp;omega⟩
       . unfold cal;rw[if_neg];rw[aOH,aN9];omega
       . rcases aNL.mp hz with hz | hz
         . exact dm z hz
         . exact .inr (hFm z (aRD hz))
section
variable {W:WD}{e e':E}{ρ ρ':Rho}{r:List D3.S}{d:D}{i:Nat}{t:Tg}
theorem gT(h:evE W e ρ=.ok .fz d)(hg:aI t d ρ=some ρ'):evB W (.asg t e::r) ρ=evB W r ρ':=by
 rw[aU];show (iB t ρ (evE W e ρ)).thn _=_;rw[h];show (match aI t d ρ with | some ρ'=>aF.nx ρ' | none=>.stuck).thn _=_
 rw[hg];rfl
theorem oW(h:evE W e ρ=.ok .fr d)(hρ:ρ.set i (some (true,d))=ρ'):evB W (.set i e::r) ρ=evB W r ρ':=by rw[aU,n6,h];show (aF.nx (ρ.set i (some (true,d)))).thn _=_;rw[hρ];rfl
theorem cU(h:evE W e ρ=.ok .fr d):evB W (.ret e::r) ρ=.rt .fr d:=by rw[aU,kE,h];rfl
theorem aMN{ds:List D}{j:Nat}(h:ρ[i]? = some (some (true,.lst ds)))(hj:j<ds.length)(hk:evE W e ρ=.ok .fz (.int (j:Int)))(hv:evE W e' ρ=.ok .fz d)(hρ:ρ.set i (some (true,.lst (ds.set j d)))=ρ'):evB W (.lput i e e'::r) ρ=evB W r ρ':=by
 have hx:ixN ds.length (j:Int)=some j:=by unfold ixN;rw[if_pos (by omega),if_pos (by omega),aOP]
 rw[aU,aKG,hk,hv];unfold gK;rw[h];show (match ixN ds.length (j:Int) with | some j=>aF.nx (ρ.set i (some (true,.lst (ds.set j d)))) | none=>.stuck).thn _=_
 rw[hx];show (aF.nx (ρ.set i (some (true,.lst (ds.set j d))))).thn _=_;rw[hρ];rfl
theorem z5(h:ρ[i]? = some (some (true,d)))(hρ:ρ.set i (some (false,d))=ρ'):evB W (.frzV i::r) ρ=evB W r ρ':=by rw[aU,aKH];unfold j9;rw[h];show (aF.nx (ρ.set i (some (false,d)))).thn _=_;rw[hρ];rfl
theorem iP{b:Bool}(h:evE W e ρ=.ok .fz (.bl b)):evE W (.tru e) ρ=.ok .fz (.bl b):=by rw[wF,h,x_tru]
end
theorem gU{W:WD}{ρ:Rho}{f:Str}{a b:E}{p q d:D}(ha:evE W a ρ=.ok .fz p)(hb:evE W b ρ=.ok .fz q)(h:W.Φ f [p,q]=.ok .fz d):evE W (.call f 2 [a,b]) ρ=.ok .fz d:=by show aX 2 (W.Φ f) (bD W [a,b] ρ)=_;rw[aR,aR,bW,ha,hb];exact qP h
theorem sC{W:WD}{ρ:Rho}{f:Str}{a b c:E}{p q r d:D}(ha:evE W a ρ=.ok .fz p)(hb:evE W b ρ=.ok .fz q)(hc:evE W c ρ=.ok .fz r)(h:W.Φ f [p,q,r]=.ok .fz d):evE W (.call f 3 [a,b,c]) ρ=.ok .fz d:=by show aX 3 (W.Φ f) (bD W [a,b,c] ρ)=_;rw[aR,aR,aR,bW,ha,hb,hc];exact call3 h
theorem fX{k:Nat}{ρ:Rho}{a b:E}{x y:Option Str}(hx:Cz x)(ha:evE (WT TT (k+1)) a ρ=.ok .fz (.str (du x)))(hb:evE (WT TT (k+1)) b ρ=.ok .fz (.str (du y))):evE (WT TT (k+1)) (.frz (.call "_law_first" 2 [a,b])) ρ=.ok .fz (.str (du (x.or y))):=aY (gU ha hb (aMH k hx))
structure St(M:List (Key×D))(P:List Str)(A:D)(C:List Str)(o:Option Str)(n:Nat):Prop where
 co:Co M A o C n
 cz:Cz o
 nd:C.Nodup
 sub:∀ z∈C,z∈P
 two:2<=n
abbrev stD(A:D)(C:List Str)(o:Option Str):D:=.lst [A,Tp C,.str (du o)]
def Lft(M:List (Key×D))(P:List Str)(n:Nat)(r:Res):Prop:=∃ A C o,r=.ok .fr (stD A C o)/\St M P A C o (n+1)
structure Nms(P:List Str)(g:Str):Prop where
 nd:(P++[g]).Nodup
 pl:P.length=11
 sz:∀ z∈P++[g],z.length<=40
theorem oX:∀ (l N:List Str),l.Nodup->(∀ x∈l,x∈N)->l.length<=N.length
 | [],N,_,_=>aPE _
 | x::l,N,hn,hs=>by
  rw[aN7] at hn;have hx:=hs x mcs;have:=oX l (N.erase x) hn.2 λy hy=>(List.mem_erase_of_ne (show y≠x from λe=>hn.1 (e ▸ hy))).mpr (hs y (mcm hy))
  rw[List.length_erase_of_mem hx] at this;have:0<N.length:=List.length_pos_of_mem hx;rw[aO8];omega
section
variable {M:List (Key×D)}{P C:List Str}{g:Str}{A:D}{o:Option Str}{n:Nat}
theorem Nms.gP(h:Nms P g):¬ g∈P:=λq=>by have:=h.nd;rw[aRF] at this;exact this.2.2 g q g (by simp) rfl
theorem Nms.pn(h:Nms P g):P.Nodup:=(aRF.mp h.nd).1
theorem Nms.z40(h:Nms P g){z:Str}(hz:z∈P):z.length<=40:=h.sz z (aNM _ hz)
theorem Nms.g40(h:Nms P g):g.length<=40:=h.sz g (aN2 _ (by simp))
theorem St.gC(s:St M P A C o n)(h:Nms P g):¬ g∈C:=λq=>h.gP (s.sub g q)
theorem St.le(s:St M P A C o n)(h:Nms P g):C.length<=11:=by rw[<- h.pl];exact oX C P s.nd s.sub
theorem St.z40(s:St M P A C o n)(h:Nms P g):∀ z∈C,z.length<=40:=λz hz=>h.z40 (s.sub z hz)
def oY(p q:Pt):Ts:=.two true (.atom true (.just (.int 0)) (.just (.str "b"))) (.no (.atom false p q))
def nmP:Pt->List Str
 | .of z=>[z]
 | .just _=>[]
theorem z6(p:Pt):cl [] p=(nmP p).map .str:=by cases p <;> rfl
theorem aMO(h:Nms P g)(s:St M P A C o n){p q:Pt}{b:Option Str}(hb:b=if ∀ z∈nmP p++nmP q,z∈C then none else some bF)(hz:∀ z∈nmP p++nmP q,z.length<=40):St M P (.tup [.str "pick", A,tsD [] (oY p q)]) C (o.or b) (n+1):=by
 have:=s.co.pick (t:=oY p q) (L:=nmP p++nmP q) (by show max 0 (0+1)+1<=3;decide) (by
  show ([]++[])++(cl [] p++cl [] q)=_;rw[z6,z6,aQ2];rfl) (by
  have:∀ p:Pt,(nmP p).length<=1:=λp=>by cases p <;> simp[nmP]
  have a:=this p;have b:=this q;rw[aOH];omega) hz
 rw[<- hb] at this;refine ⟨this,eU s.cz ?_,s.nd,s.sub,by have:=s.two;omega⟩
 rw[hb];split
 . exact gS
 . exact oU
abbrev nl(P:List Str)(g:Str):D:=.lst ((P++[g]).map .str)
abbrev ρp(A:D)(C:List Str)(o o':Option Str)(N:D)(c:Int)(b:Bool)(x7 x8:Option (Bool×D)):Rho:=[some (false,stD A C o),some (false,N),some (false,.int c),some (false,.bl b),some (false,A),some (false,Tp C),some (false,.str (du o')),x7,x8]
def jD:Int:=10 ^ 30
theorem p30:0<jD:=by decide +kernel
theorem ev_10{W:WD}{ρ:Rho}:evE W (.bin .Pow (.int 10) (.int 30)) ρ=.ok .fz (.int jD):=by rfl
theorem aMP(k:Nat)(h:Nms P g)(s:St M P A C o n)(c:Int)(b:Bool):Lft M P n ((WT TT (k+2)).Φ "_law_pick" [stD A C o,nl P g,.int c,.bl b]):=by
 have hg:=s.gC h;rw[aLG]
 suffices q:∃ p q:Pt,∃ b',(b'=if ∀ z∈nmP p++nmP q,z∈C then none else some bF)/\(∀ z∈nmP p++nmP q,z.length<=40)/\evB (WT TT (k+1)) dX [some (false,stD A C o),some (false,nl P g),some (false,.int c),some (false,.bl b),none,none,none,none,none]=evB (WT TT (k+1)) (dX.drop 4) (ρp A C o (o.or b') (nl P g) c b (some (true,.lst [ptD [] p,ptD [] q])) none) by
  obtain ⟨p,q,b',h1,h2,e⟩:=q;refine ⟨_,C,o.or b',bG (m:=.fr) rfl (e.trans ?_),aMO h s h1 h2⟩;show evB (WT TT (k+1)) (.frzV 7::_) _=_;rw[z5 (ρ':=ρp A C o (o.or b') (nl P g) c b (some (false,.lst [ptD [] p,ptD [] q])) none) rfl rfl];have e8:evE (WT TT (k+1)) (.tup [(.str "either"),(.tup [(.str "same"),(.tup [(.str "just"),(.int 0)]),(.tup [(.str "just"),(.str "b")])]),(.tup [(.str "not"),(.tup [(.str "under"),(.ix (.var 7) (.int 0)),(.ix (.var 7) (.int 1))])])]) (ρp A C o (o.or b') (nl P g) c b (some (false,.lst [ptD [] p,ptD [] q])) none)=.ok .fz (tsD [] (oY p q)) :=
   eI rfl (eI rfl (cC rfl rfl) (cC rfl rfl)) (cC rfl (eI rfl (show op2 ixD (.ok .fz (.lst [ptD [] p,ptD [] q])) (.ok .fz (.int 0))=_ from cK (bH (j:=0) rfl)) (show op2 ixD (.ok .fz (.lst [ptD [] p,ptD [] q])) (.ok .fz (.int 1))=_ from cK (bH (j:=1) rfl))))
  rw[aJ (ρ':=ρp A C o (o.or b') (nl P g) c b (some (false,.lst [ptD [] p,ptD [] q])) (some (false,tsD [] (oY p q)))) e8 rfl];exact cU (fH (eI rfl rfl rfl) rfl rfl)
 have ga:evB (WT TT (k+1)) dX [some (false,stD A C o),some (false,nl P g),some (false,.int c),some (false,.bl b),none,none,none,none,none]=evB (WT TT (k+1)) (dX.drop 1) (ρp A C o o (nl P g) c b none none):=gT (t:=.tp [(.nm 4),(.nm 5),(.nm 6)]) (e:=.var 0) (r:=dX.drop 1) rfl rfl
 suffices q:∃ p q:Pt,(∀ z∈nmP p++nmP q,z∈C)/\evB (WT TT (k+1)) (dX.drop 1) (ρp A C o o (nl P g) c b none none)=evB (WT TT (k+1)) (dX.drop 3) (ρp A C o o (nl P g) c b (some (true,.lst [ptD [] p,ptD [] q])) none) by
  obtain ⟨p,q,hpq,e⟩:=q;have et:evE (WT TT (k+1)) (.tru (.var 3)) (ρp A C o o (nl P g) c b (some (true,.lst [ptD [] p,ptD [] q])) none)=.ok .fz (.bl b):=iP rfl;cases b with
  | false =>
   refine ⟨p,q,none,by rw[if_pos hpq],λz hz=>s.z40 h z (hpq z hz),?_⟩
   rw[aRA,ga,e];exact bA et
  | true =>
   obtain ⟨j,ej,hj⟩:=md (c:=c / 3) (n:=2) (by omega)
   have ek:evE (WT TT (k+1)) (.bin .Mod (.bin .FloorDiv (.var 2) (.int 3)) (.int 2)) (ρp A C o o (nl P g) c true (some (true,.lst [ptD [] p,ptD [] q])) none)=.ok .fz (.int (j:Int)):=by rw[<- ej];exact bM (by omega) (bY (by omega) (by decide) rfl rfl) rfl
   have eg:evE (WT TT (k+1)) (.tup [(.str "of"),(.ix (.var 1) (.int 11))]) (ρp A C o o (nl P g) c true (some (true,.lst [ptD [] p,ptD [] q])) none)=.ok .fz (ptD [] (.of g)):=cC rfl (show op2 ixD (.ok .fz (nl P g)) (.ok .fz (.int 11))=_ from mL h.pl)
   have run:∀ p' q':Pt,[ptD [] p,ptD [] q].set j (ptD [] (.of g))=[ptD [] p',ptD [] q']->evB (WT TT (k+1)) dX [some (false,stD A C o),some (false,nl P g),some (false,.int c),some (false,.bl true),none,none,none,none,none]=evB (WT TT (k+1)) (dX.drop 4) (ρp A C o (o.or (some bF)) (nl P g) c true (some (true,.lst [ptD [] p',ptD [] q'])) none):=λp' q' hs=>by
    rw[ga,e];refine cT (x:=[.lput 7 (.bin .Mod (.bin .FloorDiv (.var 2) (.int 3)) (.int 2)) (.tup [(.str "of"),(.ix (.var 1) (.int 11))]),.set 6 (.frz (.call "_law_first" 2 [(.var 6),(.str "NoColumn")]))]) et ?_;rw[aMN (ρ':=ρp A C o o (nl P g) c true (some (true,.lst [ptD [] p',ptD [] q'])) none) (ds:=[ptD [] p,ptD [] q]) (j:=j) rfl (by show j<2;omega) ek eg (by rw[hs];rfl)]
    rw[aJ (ρ':=ρp A C o (o.or (some bF)) (nl P g) c true (some (true,.lst [ptD [] p',ptD [] q'])) none) (fX (y:=some bF) s.cz rfl rfl) rfl,bL]
   have hj2:j=0\/j=1:=by omega
   rcases hj2 with rfl | rfl
   . refine ⟨.of g,q,some bF,by rw[if_neg (λz=>hg (z g (by simp[nmP])))],λz hz=>?_,run (.of g) q rfl⟩
     rcases aNL.mp hz with hz | hz
     . rw[aP8.mp hz];exact h.g40
     . exact s.z40 h z (hpq z (aN2 _ hz))
   . refine ⟨p,.of g,some bF,by rw[if_neg (λz=>hg (z g (by simp[nmP])))],λz hz=>?_,run p (.of g) rfl⟩
     rcases aNL.mp hz with hz | hz
     . exact s.z40 h z (hpq z (aNM _ hz))
     . rw[aP8.mp hz];exact h.g40
 have e7:evE (WT TT (k+1)) (.lst [(.tup [(.str "just"),(.frz (.bin .Mod (.var 2) (.bin .Pow (.int 10) (.int 30))))]),(.tup [(.str "just"),(.str "a")])]) (ρp A C o o (nl P g) c b none none)=.ok .fr (.lst [ptD [] (.just (.int (c % jD))),ptD [] (.just (.str "a"))]):=by show dZ (bD (WT TT (k+1)) [(.tup [(.str "just"),(.frz (.bin .Mod (.var 2) (.bin .Pow (.int 10) (.int 30))))]),(.tup [(.str "just"),(.str "a")])] _)=_;rw[aR,aR,bW,cC (p:=.str "just") (q:=.int (c % jD)) rfl (aY (bM p30 rfl ev_10)),cC (p:=.str "just") (q:=.str "a") rfl rfl];rfl
 have st7:evB (WT TT (k+1)) (dX.drop 1) (ρp A C o o (nl P g) c b none none)=evB (WT TT (k+1)) (dX.drop 2) (ρp A C o o (nl P g) c b (some (true,.lst [ptD [] (.just (.int (c % jD))),ptD [] (.just (.str "a"))])) none):=oW (i:=7) (r:=dX.drop 2) e7 rfl;have e5:evE (WT TT (k+1)) (.cmp .NotEq (.var 5) (.tup [])) (ρp A C o o (nl P g) c b (some (true,.lst [ptD [] (.just (.int (c % jD))),ptD [] (.just (.str "a"))])) none)=.ok .fz (.bl (!C.isEmpty)):=rZ rfl;cases hC:C.isEmpty with
 | true =>
  rw[hC] at e5;refine ⟨.just (.int (c % jD)),.just (.str "a"),by simp[nmP],?_⟩
  rw[st7];exact bA e5
 | false =>
  rw[hC] at e5;have hl:0<C.length:=by
   cases C with
   | nil=>cases hC
   | cons _ _=>simp
  obtain ⟨i,ei,hi⟩:=md (c:=c) (n:=(C.length:Int)) (by omega)
  obtain ⟨j,ej,hj⟩:=md (c:=c / 2) (n:=(C.length:Int)) (by omega)
  have hi':i<C.length:=by omega
  have hj':j<C.length:=by omega
  refine ⟨.of C[i],.of C[j],?_,?_⟩
  . intro z hz;have:z=C[i]\/z=C[j]:=by simpa[nmP] using hz
    rcases this with rfl | rfl <;> exact aQX _
  rw[st7];refine cT (x:=[.set 7 (.lst [(.tup [(.str "of"),(.ix (.var 5) (.bin .Mod (.var 2) (.bcall .len [(.var 5)])))]),(.tup [(.str "of"),(.ix (.var 5) (.bin .Mod (.bin .FloorDiv (.var 2) (.int 2)) (.bcall .len [(.var 5)])))])])]) e5 ?_;rw[oW (d:=.lst [ptD [] (.of C[i]),ptD [] (.of C[j])]) (ρ':=ρp A C o o (nl P g) c b (some (true,.lst [ptD [] (.of C[i]),ptD [] (.of C[j])])) none) ?_ rfl,bL];show dZ (bD (WT TT (k+1)) [(.tup [(.str "of"),(.ix (.var 5) (.bin .Mod (.var 2) (.bcall .len [(.var 5)])))]),(.tup [(.str "of"),(.ix (.var 5) (.bin .Mod (.bin .FloorDiv (.var 2) (.int 2)) (.bcall .len [(.var 5)])))])] _)=_;rw[aR,aR,bW,cC (p:=.str "of") (q:=.str C[i]) rfl (mJ hi' rfl (by rw[<- ei];exact bM (by omega) rfl (eT rfl))),cC (p:=.str "of") (q:=.str C[j]) rfl (mJ hj' rfl (by rw[<- ej];exact bM (by omega) (bY (by omega) (by decide) rfl rfl) (eT rfl)))]
  rfl
end
theorem z7{C S:List Str}{z:Str}(h:z∈dif S C):z∈S/\¬ z∈C:=by unfold dif at h;rw[aNF] at h;exact ⟨h.1,by simpa using h.2⟩
theorem z8{C S:List Str}(hC:C.Nodup)(hS:S.Nodup):(C++dif S C).Nodup :=
 aRF.mpr ⟨hC,hS.sublist List.filter_sublist,λa ha b hb e=>(z7 hb).2 (e ▸ ha)⟩
theorem z9{C S N:List Str}(hC:∀ z∈C,z∈N)(hS:∀ z∈S,z∈N):∀ z∈C++dif S C,z∈N:=λz h=>by
 rcases aNL.mp h with h | h
 . exact hC z h
 . exact hS z (z7 h).1
theorem aAA{W:WD}{ρ:Rho}{i j:Nat}{C S:List Str}(hs:C.length+S.length<sizeLine)(hi:cA ρ i=.ok .fz (Tp C))(hj:cA ρ j=.ok .fz (Tp S))(hc:cI [i] ρ=[some (false,Tp C)]):evE W (.bin .Add (.var i) (.tcall .tuple [(.comp (.var 1) (.items (.var j)) [(.cmp .NotIn (.var 1) (.var 0))] [i] (.nm 1) 1)])) ρ=.ok .fz (Tp (C++dif S C)):=by
 have dl:=zH (C:=C) (C':=S);have e1:=zG (W:=W) (C:=C) (C':=S) (m:=.fz) (aB:=[i]) (ρ:=ρ) (by omega) hc
 have e2:=oO (C:=C) (C':=dif S C) (m:=.fz) (m':=.fz) (by omega)
 rw[fQ,n5,aR,bW,nZ,nX,gO,gO,hi,hj];show op2 (bN .Add) (.ok .fz (Tp C)) (d8 (Ty.f .tuple) (dO (dR (.ok .fz (.lst (S.map .str))) _ [i] 1 (aI (.nm 1)) _ _) (.ok [])))=_;rw[e1];exact e2
section
variable {M:List (Key×D)}{P C:List Str}{g:Str}{A:D}{o:Option Str}{n:Nat}
theorem Co.any{C':List Str}(h:Co M A o C n)(ho:o≠none):Co M A o C' n:=λk=>by
 rw[h k];cases o with
 | none=>exact absurd rfl ho
 | some c=>rfl
theorem o1{a:Option Str}{c:Str}:a.or (some c)≠none:=by cases a <;> simp
theorem sD{a b:Option Str}{c:Str}:(a.or (some c)).or b=a.or (some c):=by cases a <;> rfl
abbrev ρk(A:D)(C:List Str)(o o':Option Str)(N:D)(c:Int)(b:Bool)(x7 x8 x9:Option (Bool×D)):Rho:=[some (false,stD A C o),some (false,N),some (false,.int c),some (false,.bl b),some (false,A),some (false,Tp C),some (false,.str (du o')),x7,x8,x9]
theorem aMQ(k:Nat)(h:Nms P g)(s:St M P A C o n)(c:Int)(b:Bool):Lft M P n ((WT TT (k+2)).Φ "_law_keep" [stD A C o,nl P g,.int c,.bl b]):=by
 have hle:=s.le h;obtain ⟨K,kn,ks,kl,ek⟩:=rX k s.nd (by omega) c
 have two:=s.two;rw[aLH];generalize hN:nl P g=N;have ga:evB (WT TT (k+1)) iJ [some (false,stD A C o),some (false,N),some (false,.int c),some (false,.bl b),none,none,none,none,none,none]=evB (WT TT (k+1)) (iJ.drop 1) (ρk A C o o N c b none none none):=gT (t:=.tp [(.nm 4),(.nm 5),(.nm 6)]) (e:=.var 0) (r:=iJ.drop 1) rfl rfl;have e1:evB (WT TT (k+1)) (iJ.drop 1) (ρk A C o o N c b none none none)=evB (WT TT (k+1)) (iJ.drop 3) (ρk A C o o N c b (some (false,Tp K)) (some (false,Tp K)) none):=by show evB (WT TT (k+1)) (.set 7 (.frz (.call "_law_kept" 2 [(.var 5),(.var 2)])) :: .set 8 (.var 7)::iJ.drop 3) _=_;rw[aJ (ρ':=ρk A C o o N c b (some (false,Tp K)) none none) (aY (gU (p:=Tp C) (q:=.int c) rfl rfl ek)) rfl];exact aJ (d:=Tp K) rfl rfl
 have et:evE (WT TT (k+1)) (.tru (.var 3)) (ρk A C o o N c b (some (false,Tp K)) (some (false,Tp K)) none)=.ok .fz (.bl b):=iP rfl;cases b with
 | false =>
  refine ⟨.tup [.str "keep", A,Tp K],K,o,bG rfl ((ga.trans e1).trans ?_),?_,s.cz,kn,λz hz=>s.sub z (ks z hz),by omega⟩
  . show evB (WT TT (k+1)) (.ite (.tru (.var 3)) _ []::[.ret (.lst [(.tup [(.str "keep"),(.var 4),(.var 8)]),(.var 7),(.var 6)])]) _=_;rw[bA et];exact cU (fH (eI rfl rfl rfl) rfl rfl)
  . have:=s.co.keep (K:=K) λz hz=>s.z40 h z (ks z hz);rw[rT kn ks,aRA] at this;exact this
 | true =>
  obtain ⟨H,cz,es,b1,b2,b3⟩:=zW k (g:=g) kn ks (s.gC h) (by omega) (c / 28)
  refine ⟨.tup [.str "keep", A,Tp H],K,o.or (some cz),bG rfl ((ga.trans e1).trans ?_),?_,eU s.cz b2,kn,λz hz=>s.sub z (ks z hz),by omega⟩
  . show evB (WT TT (k+1)) (.ite (.tru (.var 3)) [.asg (.tp [(.nm 8),(.nm 9)]) (.call "_law_spoiled" 3 [(.var 7),(.ix (.var 1) (.int 11)),(.frz (.bin .FloorDiv (.var 2) (.int 28)))]),.set 6 (.frz (.call "_law_first" 2 [(.var 6),(.var 9)]))] []::[.ret (.lst [(.tup [(.str "keep"),(.var 4),(.var 8)]),(.var 7),(.var 6)])]) _=_;rw[cT (ρ':=ρk A C o (o.or (some cz)) N c true (some (false,Tp K)) (some (false,Tp H)) (some (false,.str cz))) et ?_]
    . exact cU (fH (eI rfl rfl rfl) rfl rfl)
    . rw[gT (d:=.tup [Tp H,.str cz]) (ρ':=ρk A C o o N c true (some (false,Tp K)) (some (false,Tp H)) (some (false,.str cz))) (sC (p:=Tp K) (q:=.str g) (r:=.int (c / 28)) rfl (by rw[dL,<- hN];exact mL h.pl) (aY (bY (by omega) (by decide) rfl rfl)) es) rfl,
        aJ (ρ':=ρk A C o (o.or (some cz)) N c true (some (false,Tp K)) (some (false,Tp H)) (some (false,.str cz))) (fX (y:=some cz) s.cz rfl rfl) rfl,bL]
  . have:=s.co.keep (K:=H) λz hz=>by
      rcases b3 z hz with rfl | q
      . exact h.g40
      . exact s.z40 h z (ks z q)
    rw[b1] at this;exact this.any o1
theorem aMR(k:Nat)(h:Nms P g)(s:St M P A C o n)(c:Int)(b:Bool):Lft M P n ((WT TT (k+2)).Φ "_law_call" [stD A C o,nl P g,.int c,.bl b]):=by
 have hle:=s.le h;have two:=s.two;rw[aLJ];have e7:evE (WT TT (k+1)) (.frz (.tcall .tuple [(.comp (.ix (.var 0) (.bin .Mod (.bin .Add (.var 2) (.var 1)) (.int 11))) (.rng1 (.bcall .len [(.var 5)])) [] [1,2] (.nm 2) 1)])) (ρk A C o o (nl P g) c b none none none)=.ok .fz (Tp (fr P c C.length)) :=
  fresh (c:=c) h.pl (by omega) rfl (λi=>bM (by omega) (fW rfl rfl) rfl) rfl
 have hFn:=zX (s:=c) (l:=C.length) h.pn h.pl hle;have hFl:=zY (P:=P) (s:=c) (l:=C.length);have hFm:=zZ (s:=c) (l:=C.length) h.pl;generalize fr P c C.length=F at *;have cl:Cld C P g ((WT TT (k+1)).Φ "_law_called" [Tp C,nl P g,.int (c / 11)]):=aMM k (C:=C) (g:=g) h.pn h.pl hle (c / 11);generalize hN:nl P g=N at *;have ga:evB (WT TT (k+1)) iK [some (false,stD A C o),some (false,N),some (false,.int c),some (false,.bl b),none,none,none,none,none,none]=evB (WT TT (k+1)) (iK.drop 1) (ρk A C o o N c b none none none):=gT (t:=.tp [(.nm 4),(.nm 5),(.nm 6)]) (e:=.var 0) (r:=iK.drop 1) rfl rfl;have e1:evB (WT TT (k+1)) (iK.drop 1) (ρk A C o o N c b none none none)=evB (WT TT (k+1)) (iK.drop 3) (ρk A C o o N c b (some (false,Tp F)) (some (false,Tp F)) none):=by show evB (WT TT (k+1)) (.set 7 _ :: .set 8 (.var 7)::iK.drop 3) _=_;rw[aJ (ρ':=ρk A C o o N c b (some (false,Tp F)) none none) e7 rfl];exact aJ (d:=Tp F) rfl rfl
 have et:evE (WT TT (k+1)) (.tru (.var 3)) (ρk A C o o N c b (some (false,Tp F)) (some (false,Tp F)) none)=.ok .fz (.bl b):=iP rfl;cases b with
 | false =>
  refine ⟨.tup [.str "call", A,Tp F],F,o,bG rfl ((ga.trans e1).trans ?_),?_,s.cz,hFn,hFm,by omega⟩
  . show evB (WT TT (k+1)) (.ite (.tru (.var 3)) _ []::[.ret (.lst [(.tup [(.str "call"),(.var 4),(.var 8)]),(.var 7),(.var 6)])]) _=_;rw[bA et];exact cU (fH (eI rfl rfl rfl) rfl rfl)
  . have:=s.co.call (K:=F) (λz hz=>h.z40 (hFm z hz)) (by omega)
    rw[if_pos hFl,if_pos hFn,aRA] at this;exact this
 | true =>
  obtain ⟨H,cz,es,b1,b3,b4⟩:=cl;have b2:Cz (some cz):=by rw[<- b1];exact aMK
  refine ⟨.tup [.str "call", A,Tp H],F,o.or (some cz),bG rfl ((ga.trans e1).trans ?_),?_,eU s.cz b2,hFn,hFm,by omega⟩
  . show evB (WT TT (k+1)) (.ite (.tru (.var 3)) [.asg (.tp [(.nm 8),(.nm 9)]) (.call "_law_called" 3 [(.var 5),(.var 1),(.frz (.bin .FloorDiv (.var 2) (.int 11)))]),.set 6 (.frz (.call "_law_first" 2 [(.var 6),(.var 9)]))] []::[.ret (.lst [(.tup [(.str "call"),(.var 4),(.var 8)]),(.var 7),(.var 6)])]) _=_;rw[cT (ρ':=ρk A C o (o.or (some cz)) N c true (some (false,Tp F)) (some (false,Tp H)) (some (false,.str cz))) et ?_]
    . exact cU (fH (eI rfl rfl rfl) rfl rfl)
    . rw[gT (d:=.tup [Tp H,.str cz]) (ρ':=ρk A C o o N c true (some (false,Tp F)) (some (false,Tp H)) (some (false,.str cz))) (sC (p:=Tp C) (q:=N) (r:=.int (c / 11)) rfl rfl (aY (bY (by omega) (by decide) rfl rfl)) es) rfl,
        aJ (ρ':=ρk A C o (o.or (some cz)) N c true (some (false,Tp F)) (some (false,Tp H)) (some (false,.str cz))) (fX (y:=some cz) s.cz rfl rfl) rfl,bL]
  . have:Co M (.tup [.str "call", A,Tp H]) (o.or (cal C H)) H (n+1):=s.co.call (K:=H) (λz hz=>by
      rcases b3 z hz with rfl | q
      . exact h.g40
      . exact h.z40 q) b4
    rw[b1] at this;exact this.any o1
abbrev ρt(A:D)(C:List Str)(o o':Option Str)(N:D)(c:Int)(b:Bool)(x7 x8 x9 x10:Option (Bool×D)):Rho:=[some (false,stD A C o),some (false,N),some (false,.int c),some (false,.bl b),some (false,A),some (false,Tp C),some (false,.str (du o')),x7,x8,x9,x10]
theorem aMS(k:Nat)(h:Nms P g)(s:St M P A C o n)(c:Int)(b:Bool):Lft M P n ((WT TT (k+2)).Φ "_law_total" [stD A C o,nl P g,.int c,.bl b]):=by
 have hle:=s.le h;have two:=s.two;obtain ⟨K,kn,ks,kl,ek⟩:=rX k s.nd (by omega) c
 rw[aLI];generalize hN:nl P g=N;have eg:∀ x7 x8 x9 x10 o',evE (WT TT (k+1)) (.ix (.var 1) (.int 11)) (ρt A C o o' N c b x7 x8 x9 x10)=.ok .fz (.str g):=λ_ _ _ _ _=>by rw[dL,<- hN];exact mL h.pl
 have ga:evB (WT TT (k+1)) eP [some (false,stD A C o),some (false,N),some (false,.int c),some (false,.bl b),none,none,none,none,none,none,none]=evB (WT TT (k+1)) (eP.drop 1) (ρt A C o o N c b none none none none):=gT (t:=.tp [(.nm 4),(.nm 5),(.nm 6)]) (e:=.var 0) (r:=eP.drop 1) rfl rfl;have e1:evB (WT TT (k+1)) (eP.drop 1) (ρt A C o o N c b none none none none)=evB (WT TT (k+1)) (eP.drop 4) (ρt A C o o N c b (some (false,Tp K)) (some (false,Tp K)) (some (false,.str g)) none):=by
  show evB (WT TT (k+1)) (.set 7 (.frz (.call "_law_kept" 2 [(.var 5),(.var 2)])) :: .set 8 (.var 7) :: .set 9 (.ix (.var 1) (.int 11))::eP.drop 4) _=_;rw[aJ (ρ':=ρt A C o o N c b (some (false,Tp K)) none none none) (aY (gU (p:=Tp C) (q:=.int c) rfl rfl ek)) rfl,
   aJ (d:=Tp K) (ρ':=ρt A C o o N c b (some (false,Tp K)) (some (false,Tp K)) none none) rfl rfl]
  exact aJ (eg _ _ _ _ _) rfl
 obtain ⟨z,hz,ez⟩:∃ z,(C.isEmpty=false->z∈C)/\evB (WT TT (k+1)) (eP.drop 4) (ρt A C o o N c b (some (false,Tp K)) (some (false,Tp K)) (some (false,.str g)) none)=evB (WT TT (k+1)) (eP.drop 5) (ρt A C o o N c b (some (false,Tp K)) (some (false,Tp K)) (some (false,.str z)) none):=by
  have e5:evE (WT TT (k+1)) (.cmp .NotEq (.var 5) (.tup [])) (ρt A C o o N c b (some (false,Tp K)) (some (false,Tp K)) (some (false,.str g)) none)=.ok .fz (.bl (!C.isEmpty)):=rZ rfl;cases hC:C.isEmpty with
  | true=>rw[hC] at e5;exact ⟨g,λz=>(by cases z),bA e5⟩
  | false =>
   rw[hC] at e5;have hl:0<C.length:=by
    cases C with
    | nil=>cases hC
    | cons _ _=>simp
   obtain ⟨i,ei,hi⟩:=md (c:=c / 14) (n:=(C.length:Int)) (by omega)
   have hi':i<C.length:=by omega
   refine ⟨C[i],λ_=>aQX _,cT (x:=[.set 9 (.ix (.var 5) (.bin .Mod (.bin .FloorDiv (.var 2) (.int 14)) (.bcall .len [(.var 5)])))]) e5 ?_⟩;rw[aJ (d:=.str C[i]) (ρ':=ρt A C o o N c b (some (false,Tp K)) (some (false,Tp K)) (some (false,.str C[i])) none) (mJ hi' rfl (by rw[<- ei];exact bM (by omega) (bY (by omega) (by decide) rfl rfl) (eT rfl))) rfl,bL]
 have eo:evE (WT TT (k+1)) (.orL [(.cmp .Eq (.var 5) (.tup [])),(.andL [(.tru (.var 3)),(.cmp .Eq (.bin .Mod (.bin .FloorDiv (.var 2) (.int 28)) (.int 2)) (.int 0))])]) (ρt A C o o N c b (some (false,Tp K)) (some (false,Tp K)) (some (false,.str z)) none)=.ok .fz (.bl (C.isEmpty||(b&&(c / 28 % 2==0)))):=by rw[lU];show orR (evE (WT TT (k+1)) (.cmp .Eq (.var 5) (.tup [])) _) (evE (WT TT (k+1)) (.andL [(.tru (.var 3)),(.cmp .Eq (.bin .Mod (.bin .FloorDiv (.var 2) (.int 28)) (.int 2)) (.int 0))]) _)=_;rw[zT (C:=C) rfl,qM];show orR _ (dF (evE (WT TT (k+1)) (.tru (.var 3)) _) (evE (WT TT (k+1)) (.cmp .Eq (.bin .Mod (.bin .FloorDiv (.var 2) (.int 28)) (.int 2)) (.int 0)) _))=_;rw[iP (b:=b) rfl,eJ (v:=0) (bM (v:=2) (by omega) (bY (v:=28) (u:=c) (by omega) (by decide) rfl rfl) rfl) rfl,wQ,qO]
 obtain ⟨y,w,hy,hw,hwc,ey⟩:∃ y w,((y∈C/\w=none)\/(y=g/\w=some bF))/\Cz w/\(y∈C\/y=g)/\evB (WT TT (k+1)) (eP.drop 5) (ρt A C o o N c b (some (false,Tp K)) (some (false,Tp K)) (some (false,.str z)) none)=evB (WT TT (k+1)) (eP.drop 6) (ρt A C o (o.or w) N c b (some (false,Tp K)) (some (false,Tp K)) (some (false,.str y)) none):=by
  cases hq:(C.isEmpty||(b&&(c / 28 % 2==0))) with
  | false=>rw[hq] at eo;rw[aPP] at hq;refine ⟨z,none,.inl ⟨hz hq.1,rfl⟩,gS,.inl (hz hq.1),?_⟩;rw[aRA];exact bA eo
  | true =>
   rw[hq] at eo;refine ⟨g,some bF,.inr ⟨rfl,rfl⟩,oU,.inr rfl,cT (x:=[.set 9 (.ix (.var 1) (.int 11)),.set 6 (.frz (.call "_law_first" 2 [(.var 6),(.str "NoColumn")]))]) eo ?_⟩;rw[aJ (ρ':=ρt A C o o N c b (some (false,Tp K)) (some (false,Tp K)) (some (false,.str g)) none) (eg _ _ _ _ _) rfl,
    aJ (ρ':=ρt A C o (o.or (some bF)) N c b (some (false,Tp K)) (some (false,Tp K)) (some (false,.str g)) none) (fX (y:=some bF) s.cz rfl rfl) rfl,bL]
 have y40:y.length<=40:=by
  rcases hwc with q | rfl
  . exact s.z40 h y q
  . exact h.g40
 have et:evE (WT TT (k+1)) (.tru (.var 3)) (ρt A C o (o.or w) N c b (some (false,Tp K)) (some (false,Tp K)) (some (false,.str y)) none)=.ok .fz (.bl b):=iP rfl;have czw:Cz (o.or w):=eU s.cz hw;cases b with
 | false =>
  refine ⟨.tup [.str "total", A,.str y,Tp K],K,o.or w,bG rfl ((((ga.trans e1).trans ez).trans ey).trans ?_),?_,czw,kn,λz hz=>s.sub z (ks z hz),by omega⟩
  . show evB (WT TT (k+1)) (.ite (.tru (.var 3)) _ []::[.ret (.lst [(.tup [(.str "total"),(.var 4),(.var 9),(.var 8)]),(.var 7),(.var 6)])]) _=_;rw[bA et];exact cU (fH (zS rfl rfl rfl rfl) rfl rfl)
  . have:=s.co.total (z:=y) (K:=K) y40 λz hz=>s.z40 h z (ks z hz);rcases hy with ⟨q,rfl⟩ | ⟨rfl,rfl⟩
    . rw[if_pos q,rT kn ks] at this;exact this
    . rw[if_neg (s.gC h)] at this;exact this
 | true =>
  obtain ⟨H,cz,es,b1,b2,b3⟩:=zW k (g:=g) kn ks (s.gC h) (by omega) (c / 56)
  refine ⟨.tup [.str "total", A,.str y,Tp H],K,(o.or w).or (some cz),bG rfl ((((ga.trans e1).trans ez).trans ey).trans ?_),?_,eU czw b2,kn,λz hz=>s.sub z (ks z hz),by omega⟩
  . show evB (WT TT (k+1)) (.ite (.tru (.var 3)) [.asg (.tp [(.nm 8),(.nm 10)]) (.call "_law_spoiled" 3 [(.var 7),(.ix (.var 1) (.int 11)),(.frz (.bin .FloorDiv (.var 2) (.int 56)))]),.set 6 (.frz (.call "_law_first" 2 [(.var 6),(.var 10)]))] []::[.ret (.lst [(.tup [(.str "total"),(.var 4),(.var 9),(.var 8)]),(.var 7),(.var 6)])]) _=_;rw[cT (ρ':=ρt A C o ((o.or w).or (some cz)) N c true (some (false,Tp K)) (some (false,Tp H)) (some (false,.str y)) (some (false,.str cz))) et ?_]
    . exact cU (fH (zS rfl rfl rfl rfl) rfl rfl)
    . rw[gT (d:=.tup [Tp H,.str cz]) (ρ':=ρt A C o (o.or w) N c true (some (false,Tp K)) (some (false,Tp H)) (some (false,.str y)) (some (false,.str cz))) (sC (p:=Tp K) (q:=.str g) (r:=.int (c / 56)) rfl (eg _ _ _ _ _) (aY (bY (by omega) (by decide) rfl rfl)) es) rfl,
        aJ (ρ':=ρt A C o ((o.or w).or (some cz)) N c true (some (false,Tp K)) (some (false,Tp H)) (some (false,.str y)) (some (false,.str cz))) (fX (y:=some cz) czw rfl rfl) rfl,bL]
  . have:=s.co.total (z:=y) (K:=H) y40 λz hz=>by
      rcases b3 z hz with rfl | q
      . exact h.g40
      . exact s.z40 h z (ks z q)
    rcases hy with ⟨q,rfl⟩ | ⟨rfl,rfl⟩
    . rw[if_pos q,b1] at this;rw[aRA];exact this.any o1
    . rw[if_neg (s.gC h)] at this;rw[sD];exact this.any o1
end
section
variable {W:WD}{ρ:Rho}{a b e:E}{z y:Str}
theorem o3(ha:evE W a ρ=.ok .fz (.str z))(hb:evE W b ρ=.ok .fz (.str y)):evE W (.cmp .Eq a b) ρ=.ok .fz (.bl (z==y)):=by rw[fR,ha,hb];simp
theorem sH(ha:evE W a ρ=.ok .fz (.str z))(hb:evE W b ρ=.ok .fz (.str y)):evE W (.cmp .NotEq a b) ρ=.ok .fz (.bl (!(z==y))):=by rw[fR,ha,hb];simp[bne]
theorem mM{M:List (Key×D)}{d:D}(h:bC M (.inr z)=some d)(ha:evE W a ρ=.ok .fz (.dct M))(hb:evE W b ρ=.ok .fz (.str z)):evE W (.dix a b) ρ=.ok .fz d:=by show op2 ixK (evE W a ρ) (evE W b ρ)=_;rw[ha,hb];exact zI h
theorem o4{x w:Bool}(ha:evE W a ρ=.ok .fz (.bl x))(hb:evE W b ρ=.ok .fz (.bl w)):evE W (.andL [a,b]) ρ=.ok .fz (.bl (x&&w)):=by rw[qM];show dF (evE W a ρ) (evE W b ρ)=_;rw[ha,hb,wQ]
end
structure Tb(M:List (Key×D))(P:List Str)(w:Str)(S:List Str):Prop where
 get:bC M (.inr w)=some (Tp S)
 nd:S.Nodup
 sub:∀ z∈S,z∈P
def Gn(M:List (Key×D))(gone:Str):Prop:=(gone==Str.ofString "")=false->bC M (.inr gone)=none/\gone.length<=40
section
variable {M:List (Key×D)}{P C S:List Str}{g w gone:Str}{A:D}{o:Option Str}{n:Nat}
abbrev ρj(s0:D)(M:List (Key×D))(w gone:Str)(sd:Int)(A:D)(C:List Str)(o:Option Str)(S:List Str)(l:Option Str)(x10:Option (Bool×D)):Rho:=[some (false,s0),some (false,.dct M),some (false,.str w),some (false,.str gone),some (false,.int sd),some (false,A),some (false,Tp C),some (false,.str (du o)),some (false,Tp S),some (false,.str (du l)),x10]
theorem aMT(k:Nat)(h:Nms P g)(s:St M P A C o n)(t:Tb M P w S)(hg:Gn M gone)(c:Int):Lft M P n ((WT TT (k+2)).Φ "_law_join" [stD A C o,.dct M,.str w,.str gone,.int (c % 2)]):=by
 have hsz:sizeLine=16777216:=aN4;have hle:=s.le h;have two:=s.two;have hSl:S.length<=11:=by rw[<- h.pl];exact oX S P t.nd t.sub
 rw[aLK];generalize hs0:stD A C o=s0;have ga:evB (WT TT (k+1)) iL [some (false,s0),some (false,.dct M),some (false,.str w),some (false,.str gone),some (false,.int (c % 2)),none,none,none,none,none,none]=evB (WT TT (k+1)) (iL.drop 3) (ρj s0 M w gone (c % 2) A C o S none none):=by
  show evB (WT TT (k+1)) (.asg (.tp [(.nm 5),(.nm 6),(.nm 7)]) (.var 0) :: .set 8 (.dix (.var 1) (.var 2)) :: .set 9 (.str "")::iL.drop 3) _=_
  rw[gT (d:=stD A C o) (ρ':=[some (false,s0),some (false,.dct M),some (false,.str w),some (false,.str gone),some (false,.int (c % 2)),some (false,A),some (false,Tp C),some (false,.str (du o)),none,none,none]) (by rw[hs0];rfl) rfl,
   aJ (ρ':=[some (false,s0),some (false,.dct M),some (false,.str w),some (false,.str gone),some (false,.int (c % 2)),some (false,A),some (false,Tp C),some (false,.str (du o)),some (false,Tp S),none,none]) (mM t.get rfl rfl) rfl]
  exact aJ (d:=.str (Str.ofString "")) rfl rfl
 obtain ⟨w',l,hl,hc,e1⟩:∃ w' l,Co M (.tup [.str "table", .str w']) l S n/\Cz l/\evB (WT TT (k+1)) (iL.drop 3) (ρj s0 M w gone (c % 2) A C o S none none)=evB (WT TT (k+1)) (iL.drop 4) (ρj s0 M w' gone (c % 2) A C o S l none):=by
  have ec:evE (WT TT (k+1)) (.cmp .NotEq (.var 3) (.str "")) (ρj s0 M w gone (c % 2) A C o S none none)=.ok .fz (.bl (!(gone==Str.ofString ""))):=sH rfl rfl;cases hq:gone==Str.ofString "" with
  | true=>rw[hq] at ec;exact ⟨w,none,(Co.table t.get).mono (by omega),gS,bA ec⟩
  | false =>
   rw[hq] at ec;obtain ⟨g1,g2⟩:=hg hq;refine ⟨gone,some dM,(Co.gone g2 g1).mono (by omega),r6,cT (x:=[.set 2 (.var 3),.set 9 (.str "NoTable")]) ec ?_⟩
   rw[aJ (ρ':=ρj s0 M gone gone (c % 2) A C o S none none) (d:=.str gone) rfl rfl,aJ (ρ':=ρj s0 M gone gone (c % 2) A C o S (some dM) none) (d:=.str dM) rfl rfl,bL]
 have es:evE (WT TT (k+1)) (.cmp .Eq (.var 4) (.int 0)) (ρj s0 M w' gone (c % 2) A C o S l none)=.ok .fz (.bl (c % 2==0)):=eJ rfl rfl;cases hq:(c % 2==0) with
 | true =>
  rw[hq] at es;refine ⟨.tup [.str "join", A,.tup [.str "table", .str w']],C++dif S C,o.or l,bG rfl ((ga.trans e1).trans ?_),s.co.join hl (by omega),eU s.cz hc,z8 s.nd t.nd,z9 s.sub t.sub,by omega⟩
  show evB (WT TT (k+1)) (.ite (.cmp .Eq (.var 4) (.int 0)) [.set 10 (.frz (.bin .Add (.var 6) (.tcall .tuple [(.comp (.var 1) (.items (.var 8)) [(.cmp .NotIn (.var 1) (.var 0))] [6] (.nm 1) 1)]))),.ret (.lst [(.tup [(.str "join"),(.var 5),(.tup [(.str "table"),(.var 2)])]),(.var 10),(.frz (.call "_law_first" 2 [(.var 7),(.var 9)]))])] []::iL.drop 5) _=_;refine eE es ?_;rw[aJ (ρ':=ρj s0 M w' gone (c % 2) A C o S l (some (false,Tp (C++dif S C)))) (aY (aAA (by omega) rfl rfl rfl)) rfl]
  exact cU (fH (eI rfl rfl (cC rfl rfl)) rfl (fX s.cz rfl rfl))
 | false =>
  rw[hq] at es;refine ⟨.tup [.str "join", .tup [.str "table", .str w'],A],S++dif C S,l.or o,bG rfl ((ga.trans e1).trans ?_),hl.join s.co (by omega),eU hc s.cz,z8 t.nd s.nd,z9 t.sub s.sub,by omega⟩
  show evB (WT TT (k+1)) (.ite (.cmp .Eq (.var 4) (.int 0)) _ [] :: .set 10 (.frz (.bin .Add (.var 8) (.tcall .tuple [(.comp (.var 1) (.items (.var 6)) [(.cmp .NotIn (.var 1) (.var 0))] [8] (.nm 1) 1)])))::[.ret (.lst [(.tup [(.str "join"),(.tup [(.str "table"),(.var 2)]),(.var 5)]),(.var 10),(.frz (.call "_law_first" 2 [(.var 9),(.var 7)]))])]) _=_;rw[bA es,aJ (ρ':=ρj s0 M w' gone (c % 2) A C o S l (some (false,Tp (S++dif C S)))) (aY (aAA (by omega) rfl rfl rfl)) rfl]
  exact cU (fH (eI rfl (cC rfl rfl) rfl) rfl (fX hc rfl rfl))
abbrev ρb(a0 a1 a2 a3 a4 a5 a6:Option (Bool×D))(C:List Str)(x:Option Str)(a9 a10 a11 a12 a13 a14 a15:Option (Bool×D)):Rho:=[a0,a1,a2,a3,a4,a5,a6,some (false,Tp C),some (false,.str (du x)),a9,a10,a11,a12,a13,a14,a15]
theorem sJ(k:Nat){a0 a1 a2 a3 a4 a5 a6 a9 a10 a11 a12 a13 a14:Option (Bool×D)}:∀ (L:List Str) (x:Option Str) (y:Option (Bool×D)),Cz x->∃ y',bK (aI (.nm 15)) (evB (WT TT (k+1)) kL) (L.map .str) (ρb a0 a1 a2 a3 a4 a5 a6 C x a9 a10 a11 a12 a13 a14 y)=.nx (ρb a0 a1 a2 a3 a4 a5 a6 C (x.or (if ∀ z∈L,z∈C then none else some bP)) a9 a10 a11 a12 a13 a14 y')
 | [],x,y,_=>⟨y,by simp[bK]⟩
 | z::L,x,y,hx=>by
  have e:=l5 (m:=.fz) (m':=.fz) (z:=z) (C:=C);have kk:aI (.nm 15) (.str z) (ρb a0 a1 a2 a3 a4 a5 a6 C x a9 a10 a11 a12 a13 a14 y)=some (ρb a0 a1 a2 a3 a4 a5 a6 C x a9 a10 a11 a12 a13 a14 (some (false,.str z))):=rfl;have en:evE (WT TT (k+1)) (.cmp .NotIn (.var 15) (.var 7)) (ρb a0 a1 a2 a3 a4 a5 a6 C x a9 a10 a11 a12 a13 a14 (some (false,.str z)))=.ok .fz (.bl (!decide (z∈C))):=e;rw[aO9];by_cases hz:z∈C
  . rw[aO7 hz] at en;obtain ⟨y',ih⟩:=sJ k (a0:=a0) (a1:=a1) (a2:=a2) (a3:=a3) (a4:=a4) (a5:=a5) (a6:=a6) (a9:=a9) (a10:=a10) (a11:=a11) (a12:=a12) (a13:=a13) (a14:=a14) L x (some (false,.str z)) hx;refine ⟨y',?_⟩;have eb:evB (WT TT (k+1)) kL (ρb a0 a1 a2 a3 a4 a5 a6 C x a9 a10 a11 a12 a13 a14 (some (false,.str z)))=.nx (ρb a0 a1 a2 a3 a4 a5 a6 C x a9 a10 a11 a12 a13 a14 (some (false,.str z))):=(bA (r:=[]) en).trans bL;unfold bK;rw[kk];dsimp only;rw[eb];dsimp only;rw[ih];congr 3;by_cases hr:∀ z∈L,z∈C
    . rw[if_pos hr,if_pos (λy hy=>by rcases aNK.mp hy with rfl | hy;exact hz;exact hr y hy)]
    . rw[if_neg hr,if_neg (λq=>hr λy hy=>q y (mcm hy))]
  . rw[aM5 hz] at en;obtain ⟨y',ih⟩:=sJ k (a0:=a0) (a1:=a1) (a2:=a2) (a3:=a3) (a4:=a4) (a5:=a5) (a6:=a6) (a9:=a9) (a10:=a10) (a11:=a11) (a12:=a12) (a13:=a13) (a14:=a14) L (x.or (some bP)) (some (false,.str z)) (eU hx oV);refine ⟨y',?_⟩;have eb:evB (WT TT (k+1)) kL (ρb a0 a1 a2 a3 a4 a5 a6 C x a9 a10 a11 a12 a13 a14 (some (false,.str z)))=.nx (ρb a0 a1 a2 a3 a4 a5 a6 C (x.or (some bP)) a9 a10 a11 a12 a13 a14 (some (false,.str z))):=by show evB (WT TT (k+1)) [.ite (.cmp .NotIn (.var 15) (.var 7)) [.set 8 (.frz (.call "_law_first" 2 [(.var 8),(.str "Unlike")]))] []] _=_;rw[cT (ρ':=ρb a0 a1 a2 a3 a4 a5 a6 C (x.or (some bP)) a9 a10 a11 a12 a13 a14 (some (false,.str z))) en ?_,bL];rw[aJ (ρ':=ρb a0 a1 a2 a3 a4 a5 a6 C (x.or (some bP)) a9 a10 a11 a12 a13 a14 (some (false,.str z))) (fX (y:=some bP) hx rfl rfl) rfl,bL]
    unfold bK;rw[kk];dsimp only;rw[eb];dsimp only;rw[ih,sD,if_neg (λq=>hz (q z (by simp)))]
end
section
variable {M:List (Key×D)}{P C S:List Str}{g w gone:Str}{A:D}{o:Option Str}{n:Nat}
abbrev ρd(s0:D)(M:List (Key×D))(w:Str)(N:D)(c:Int)(gone:Str)(A:D)(C:List Str)(x:Option Str)(S:List Str)(b:Bool)(a11 a12 a13 a14:Option (Bool×D))(a15:Option (Bool×D)):Rho :=
 ρb (some (false,s0)) (some (false,.dct M)) (some (false,.str w)) (some (false,N)) (some (false,.int c)) (some (false,.str gone)) (some (false,A)) C x (some (false,Tp S)) (some (false,.bl b)) a11 a12 a13 a14 a15
def wdB(pr:Bool):Str:=if pr=true then Str.ofString "pour" else Str.ofString "leave"
theorem Co.other{l:Option Str}{K:List Str}(h:Nms P g)(t:Tb M P w S){w':Str}(hl:Co M (.tup [.str "table", .str w']) l S 0)(hn:K.Nodup)(hK:K.length<=S.length)(hz:∀ z∈K,z.length<=40)(hS:S.length<=11):Co M (.tup [.str "call", .tup [.str "keep", .tup [.str "table", .str w'],Tp (S.take K.length)],Tp K]) l K 2:=by
 have k1:=hl.keep (K:=S.take K.length) λz hz=>h.z40 (t.sub z (aRD hz));rw[rT (t.nd.sublist (aOF _ _)) λz hz=>aRD hz,aRA] at k1;have k2:=k1.call (K:=K) hz (by omega)
 rw[if_pos (by rw[aN9];omega),if_pos hn,aRA] at k2
 exact k2
theorem aMU{K:List Str}(hn:K.Nodup):(K.drop 1++K.take 1).Nodup:=rV hn 1
theorem aMV(k:Nat)(h:Nms P g)(s:St M P A C o n)(t:Tb M P w S)(hg:Gn M gone)(c:Int):Lft M P n ((WT TT (k+2)).Φ "_law_beside" [stD A C o,.dct M,.str w,nl P g,.int c,.str gone]):=by
 have hsz:sizeLine=16777216:=aN4;have hle:=s.le h;have two:=s.two;have hSl:S.length<=11:=by rw[<- h.pl];exact oX S P t.nd t.sub
 rw[aLL];generalize hN:nl P g=N;have egN:op2 ixD (.ok .fz N) (.ok .fz (.int 11))=.ok .fz (.str g):=by rw[<- hN];exact mL h.pl
 generalize hs0:stD A C o=s0;have e0:evB (WT TT (k+1)) cJ [some (false,s0),some (false,.dct M),some (false,.str w),some (false,N),some (false,.int c),some (false,.str gone),none,none,none,none,none,none,none,none,none,none]=evB (WT TT (k+1)) (cJ.drop 3) (ρd s0 M w N c gone A C o S (!(gone==Str.ofString "")) none none none none none):=by
  show evB (WT TT (k+1)) (.asg (.tp [(.nm 6),(.nm 7),(.nm 8)]) (.var 0) :: .set 9 (.dix (.var 1) (.var 2)) :: .set 10 (.cmp .NotEq (.var 5) (.str ""))::cJ.drop 3) _=_
  rw[gT (d:=stD A C o) (ρ':=ρb (some (false,s0)) (some (false,.dct M)) (some (false,.str w)) (some (false,N)) (some (false,.int c)) (some (false,.str gone)) (some (false,A)) C o none none none none none none none) (by rw[hs0];rfl) rfl,
   aJ (ρ':=ρb (some (false,s0)) (some (false,.dct M)) (some (false,.str w)) (some (false,N)) (some (false,.int c)) (some (false,.str gone)) (some (false,A)) C o (some (false,Tp S)) none none none none none none) (mM t.get rfl rfl) rfl]
  exact aJ (sH rfl rfl) rfl
 have hbad:(!(gone==Str.ofString ""))=true->bC M (.inr gone)=none/\gone.length<=40:=λq=>hg (by simpa using q)
 generalize (!(gone==Str.ofString ""))=b at *;obtain ⟨w',l,hl,hc,e1⟩:∃ w' l,Co M (.tup [.str "table", .str w']) l S 0/\Cz l/\evB (WT TT (k+1)) (cJ.drop 3) (ρd s0 M w N c gone A C o S b none none none none none)=evB (WT TT (k+1)) (cJ.drop 4) (ρd s0 M w' N c gone A C (o.or l) S b none none none none none):=by
  have ec:evE (WT TT (k+1)) (.andL [(.tru (.var 10)),(.cmp .Eq (.bin .Mod (.bin .FloorDiv (.var 4) (.int 2)) (.int 3)) (.int 0))]) (ρd s0 M w N c gone A C o S b none none none none none)=.ok .fz (.bl (b&&(c / 2 % 3==0))):=o4 (iP rfl) (eJ (bM (by omega) (bY (by omega) (by decide) rfl rfl) rfl) rfl)
  cases hq:(b&&(c / 2 % 3==0)) with
  | false=>rw[hq] at ec;refine ⟨w,none,Co.table t.get,gS,?_⟩;rw[aRA];exact bA ec
  | true=>rw[hq] at ec;rw[aOX] at hq;obtain ⟨g1,g2⟩:=hbad hq.1;refine ⟨gone,some dM,Co.gone g2 g1,r6,cT (x:=[.set 2 (.var 5),.set 8 (.frz (.call "_law_first" 2 [(.var 8),(.str "NoTable")]))]) ec ?_⟩;rw[aJ (d:=.str gone) (ρ':=ρd s0 M gone N c gone A C o S b none none none none none) rfl rfl,aJ (ρ':=ρd s0 M gone N c gone A C (o.or (some dM)) S b none none none none none) (fX (y:=some dM) s.cz rfl rfl) rfl,bL]
 have czl:Cz (o.or l):=eU s.cz hc;obtain ⟨pr,K0,k0n,k0s,k0p,e2⟩:∃ pr:Bool,∃ K0:List Str,K0.Nodup/\(∀ z∈K0,z∈C)/\K0.length<=C.length/\evB (WT TT (k+1)) (cJ.drop 4) (ρd s0 M w' N c gone A C (o.or l) S b none none none none none)=evB (WT TT (k+1)) (cJ.drop 7) (ρd s0 M w' N c gone A C (o.or l) S b (some (false,.str (wdB pr))) (some (false,Tp K0)) none none none):=by
  obtain ⟨j,ej,hj⟩:=md (c:=c) (n:=2) (by omega)
  have ex:∀ (i:Nat) (z:Str),[D.str (Str.ofString "pour"),.str (Str.ofString "leave")][i]? = some (.str z)->c % 2=(i:Int)->evE (WT TT (k+1)) (.ix (.lst [(.str "pour"),(.str "leave")]) (.bin .Mod (.var 4) (.int 2))) (ρd s0 M w' N c gone A C (o.or l) S b none none none none none)=.ok .fz (.str z):=λi z hz hi=>by
   have q:evE (WT TT (k+1)) (.bin .Mod (.var 4) (.int 2)) (ρd s0 M w' N c gone A C (o.or l) S b none none none none none)=.ok .fz (.int (c % 2)):=bM (by omega) rfl rfl
   rw[dL,q,hi];show op2 ixD (.ok .fr (.lst [.str (Str.ofString "pour"),.str (Str.ofString "leave")])) _=_;exact cK (bH hz)
  have hj2:j=0\/j=1:=by omega
  rcases hj2 with rfl | rfl
  . refine ⟨true,C,s.nd,λz hz=>hz,aNY _,?_⟩;show evB (WT TT (k+1)) (.set 11 _ :: .set 12 (.var 7) :: .ite (.cmp .Eq (.var 11) (.str "leave")) _ []::cJ.drop 7) _=_;rw[aJ (ρ':=ρd s0 M w' N c gone A C (o.or l) S b (some (false,.str (Str.ofString "pour"))) none none none none) (ex 0 (Str.ofString "pour") rfl ej) rfl,aJ (d:=Tp C) (ρ':=ρd s0 M w' N c gone A C (o.or l) S b (some (false,.str (Str.ofString "pour"))) (some (false,Tp C)) none none none) rfl rfl];exact bA ((o3 (z:=Str.ofString "pour") (y:=Str.ofString "leave") rfl rfl).trans (by rw[show (Str.ofString "pour" == Str.ofString "leave")=false by decide +kernel]))
  . obtain ⟨K,kn,ks,kl,ek⟩:=rX k s.nd (by omega) (c / 2)
    refine ⟨false,K,kn,ks,kl,?_⟩;show evB (WT TT (k+1)) (.set 11 _ :: .set 12 (.var 7) :: .ite (.cmp .Eq (.var 11) (.str "leave")) [.set 12 (.frz (.call "_law_kept" 2 [(.var 7),(.frz (.bin .FloorDiv (.var 4) (.int 2)))]))] []::cJ.drop 7) _=_;rw[aJ (ρ':=ρd s0 M w' N c gone A C (o.or l) S b (some (false,.str (Str.ofString "leave"))) none none none none) (ex 1 (Str.ofString "leave") rfl ej) rfl,aJ (d:=Tp C) (ρ':=ρd s0 M w' N c gone A C (o.or l) S b (some (false,.str (Str.ofString "leave"))) (some (false,Tp C)) none none none) rfl rfl];refine cT ((o3 (z:=Str.ofString "leave") (y:=Str.ofString "leave") rfl rfl).trans (by rw[aP1])) ?_
    rw[aJ (ρ':=ρd s0 M w' N c gone A C (o.or l) S b (some (false,.str (Str.ofString "leave"))) (some (false,Tp K)) none none none) (aY (gU (p:=Tp C) (q:=.int (c / 2)) rfl (aY (bY (by omega) (by decide) rfl rfl)) ek)) rfl,bL]
    rfl
 have e3:evB (WT TT (k+1)) (cJ.drop 7) (ρd s0 M w' N c gone A C (o.or l) S b (some (false,.str (wdB pr))) (some (false,Tp K0)) none none none)=evB (WT TT (k+1)) (cJ.drop 8) (ρd s0 M w' N c gone A C (o.or l) S b (some (false,.str (wdB pr))) (some (false,Tp (K0.take S.length))) none none none):=aJ (i:=12) (e:=.frz (.slice (.var 12) none (some (.bcall .len [(.var 9)])))) (aY (iO (m:=.fz) rfl (eT rfl))) rfl;have k1n:(K0.take S.length).Nodup:=k0n.sublist (aOF _ _);have k1s:∀ z∈K0.take S.length,z∈C:=λz hz=>k0s z (aRD hz);have k1l:(K0.take S.length).length<=S.length:=by rw[aN9];omega
 generalize K0.take S.length=K1 at *;obtain ⟨K,x13,kn,kl,kz,e4⟩:∃ (K:List Str) (x13:Option (Bool×D)),K.Nodup/\K.length<=S.length/\(∀ z∈K,z.length<=40)/\evB (WT TT (k+1)) (cJ.drop 8) (ρd s0 M w' N c gone A C (o.or l) S b (some (false,.str (wdB pr))) (some (false,Tp K1)) none none none)=evB (WT TT (k+1)) (cJ.drop 9) (ρd s0 M w' N c gone A C (o.or l) S b (some (false,.str (wdB pr))) (some (false,Tp K)) x13 none none):=by
  have ec:evE (WT TT (k+1)) (.andL [(.tru (.var 10)),(.cmp .Eq (.bin .Mod (.bin .FloorDiv (.var 4) (.int 6)) (.int 2)) (.int 0))]) (ρd s0 M w' N c gone A C (o.or l) S b (some (false,.str (wdB pr))) (some (false,Tp K1)) none none none)=.ok .fz (.bl (b&&(c / 6 % 2==0))):=o4 (iP rfl) (eJ (bM (by omega) (bY (by omega) (by decide) rfl rfl) rfl) rfl)
  have ed:evE (WT TT (k+1)) (.andL [(.tru (.var 10)),(.cmp .NotEq (.var 12) (.tup []))]) (ρd s0 M w' N c gone A C (o.or l) S b (some (false,.str (wdB pr))) (some (false,Tp K1)) none none none)=.ok .fz (.bl (b&&!K1.isEmpty)):=o4 (iP rfl) (rZ rfl);have c40:∀ z∈K1,z.length<=40:=λz hz=>s.z40 h z (k1s z hz);cases hq:(b&&(c / 6 % 2==0)) with
  | true =>
   rw[hq] at ec;refine ⟨K1.drop 1++K1.take 1,none,aMU k1n,by rw[zR];exact k1l,λz hz=>c40 z (rW hz),cT ec ?_⟩
   show evB (WT TT (k+1)) [.set 12 (.frz (.bin .Add (.slice (.var 12) (some (.int 1)) none) (.slice (.var 12) none (some (.int 1)))))] _=_;rw[aJ (ρ':=ρd s0 M w' N c gone A C (o.or l) S b (some (false,.str (wdB pr))) (some (false,Tp (K1.drop 1++K1.take 1))) none none none) (aY (eG (by rw[aOS,aN9];omega) (kT (i:=1) (m:=.fz) rfl rfl) (iO (i:=1) (m:=.fz) rfl rfl))) rfl,bL]
  | false =>
   rw[hq] at ec;have skip:∀ (x y:List D3.S) (cc:E) (r:List D3.S) (ρ ρ':Rho),evE (WT TT (k+1)) cc ρ=.ok .fz (.bl false)->evB (WT TT (k+1)) y ρ=.nx ρ'->evB (WT TT (k+1)) (.ite cc x y::r) ρ=evB (WT TT (k+1)) r ρ':=λx y cc r ρ ρ' h1 h2=>by rw[aU,kG,h1,wR,h2,aF.thn_nx]
   cases hp:(b&&!K1.isEmpty) with
   | false=>rw[hp] at ed;exact ⟨K1,none,k1n,k1l,c40,skip _ _ _ _ _ _ ec ((bA (r:=[]) ed).trans bL)⟩
   | true =>
    rw[hp] at ed;rw[aOX] at hp;have hk:0<K1.length:=by
     cases K1 with
     | nil=>exact absurd hp.2 (by simp)
     | cons _ _=>simp
    obtain ⟨j,ej,hj⟩:=md (c:=c / 12) (n:=(K1.length:Int)) (by omega)
    have e12:evE (WT TT (k+1)) (.frz (.bin .Add (.bin .Add (.slice (.var 12) none (some (.var 13))) (.tup [(.ix (.var 3) (.int 11))])) (.slice (.var 12) (some (.bin .Add (.var 13) (.int 1))) none))) (ρd s0 M w' N c gone A C (o.or l) S b (some (false,.str (wdB pr))) (some (false,Tp K1)) (some (false,.int (j:Int))) none none)=.ok .fz (Tp (K1.take j++[g]++K1.drop (j+1))) :=
     aY (eG (by simp;omega) (eG (by simp;omega) (iO (m:=.fz) rfl rfl) (jC egN)) (kT (i:=j+1) (m:=.fz) rfl (by rw[Int.natCast_add];exact fW rfl rfl)))
    have hgK:¬ g∈K1:=λq=>s.gC h (k1s g q);refine ⟨K1.take j++[g]++K1.drop (j+1),some (false,.int (j:Int)),?_,by simp;omega,λz hz=>?_,skip _ _ _ _ _ _ ec ?_⟩
    . rw[aRE,List.singleton_append];refine aRF.mpr ⟨k1n.sublist (aOF _ _),aN7.mpr ⟨λq=>hgK (aRC q),k1n.sublist (List.drop_sublist _ _)⟩,λx hx y hy e=>?_⟩;rcases aNK.mp hy with rfl | hy
      . exact hgK (e ▸ aRD hx)
      . obtain ⟨i1,h1,q1⟩:=aQ9.mp hx;obtain ⟨i2,h2,q2⟩:=List.mem_drop_iff_getElem.mp hy;rw[<- q1,<- q2] at e;have:=(aNO k1n).mp e;omega
    . rcases aNL.mp hz with hz | hz
      . rcases aNL.mp hz with hz | hz
        . exact c40 z (aRD hz)
        . rw[aP8.mp hz];exact h.g40
      . exact c40 z (aRC hz)
    . rw[cT (ρ':=ρd s0 M w' N c gone A C (o.or l) S b (some (false,.str (wdB pr))) (some (false,Tp (K1.take j++[g]++K1.drop (j+1)))) (some (false,.int (j:Int))) none none) ed ?_,bL]
      rw[aJ (d:=.int (j:Int)) (ρ':=ρd s0 M w' N c gone A C (o.or l) S b (some (false,.str (wdB pr))) (some (false,Tp K1)) (some (false,.int (j:Int))) none none) (by rw[<- ej];exact aY (bM (by omega) (bY (by omega) (by decide) rfl rfl) (eT rfl))) rfl,
       aJ (ρ':=ρd s0 M w' N c gone A C (o.or l) S b (some (false,.str (wdB pr))) (some (false,Tp (K1.take j++[g]++K1.drop (j+1)))) (some (false,.int (j:Int))) none none) e12 rfl,bL]
 have e5:evB (WT TT (k+1)) (cJ.drop 9) (ρd s0 M w' N c gone A C (o.or l) S b (some (false,.str (wdB pr))) (some (false,Tp K)) x13 none none)=evB (WT TT (k+1)) (cJ.drop 10) (ρd s0 M w' N c gone A C (o.or l) S b (some (false,.str (wdB pr))) (some (false,Tp K)) x13 (some (false,.tup [.str "call", .tup [.str "keep", .tup [.str "table", .str w'],Tp (S.take K.length)],Tp K])) none) :=
  aJ (i:=14) (eI rfl (eI rfl (cC rfl rfl) (aY (iO (m:=.fz) rfl (eT rfl)))) rfl) rfl
 have co2:=(Co.other h t hl kn kl kz hSl).mono two;generalize D.tup [.str "call", .tup [.str "keep", .tup [.str "table", .str w'],Tp (S.take K.length)],Tp K]=O at *;obtain ⟨u,hu,ucz,e6⟩:∃ u:Option Str,(u=if (pr&&!decide (K=C))=true then some bP else none)/\Cz u/\evB (WT TT (k+1)) (cJ.drop 10) (ρd s0 M w' N c gone A C (o.or l) S b (some (false,.str (wdB pr))) (some (false,Tp K)) x13 (some (false,O)) none)=evB (WT TT (k+1)) (cJ.drop 11) (ρd s0 M w' N c gone A C ((o.or l).or u) S b (some (false,.str (wdB pr))) (some (false,Tp K)) x13 (some (false,O)) none):=by
  have hpw:(wdB pr==Str.ofString "pour")=pr:=by cases pr <;> decide +kernel
  have ec:evE (WT TT (k+1)) (.andL [(.cmp .Eq (.var 11) (.str "pour")),(.cmp .NotEq (.var 12) (.var 7))]) (ρd s0 M w' N c gone A C (o.or l) S b (some (false,.str (wdB pr))) (some (false,Tp K)) x13 (some (false,O)) none)=.ok .fz (.bl (pr&&!decide (K=C))) :=
   o4 ((o3 (z:=wdB pr) (y:=Str.ofString "pour") rfl rfl).trans (by rw[hpw])) (show op2 (a8 .NotEq) (.ok .fz (Tp K)) (.ok .fz (Tp C))=_ from zA)
  cases hq:(pr&&!decide (K=C)) with
  | false=>rw[hq] at ec;refine ⟨none,rfl,gS,?_⟩;rw[aRA];exact bA ec
  | true=>rw[hq] at ec;refine ⟨some bP,rfl,oV,cT (x:=[.set 8 (.frz (.call "_law_first" 2 [(.var 8),(.str "Unlike")]))]) ec ?_⟩;rw[aJ (ρ':=ρd s0 M w' N c gone A C ((o.or l).or (some bP)) S b (some (false,.str (wdB pr))) (some (false,Tp K)) x13 (some (false,O)) none) (fX (y:=some bP) czl rfl rfl) rfl,bL]
 obtain ⟨y15,e7⟩:=sJ (C:=C) k (a0:=some (false,s0)) (a1:=some (false,.dct M)) (a2:=some (false,.str w')) (a3:=some (false,N)) (a4:=some (false,.int c)) (a5:=some (false,.str gone)) (a6:=some (false,A)) (a9:=some (false,Tp S)) (a10:=some (false,.bl b)) (a11:=some (false,.str (wdB pr))) (a12:=some (false,Tp K)) (a13:=x13) (a14:=some (false,O)) K ((o.or l).or u) none (eU czl ucz);have e8:evB (WT TT (k+1)) (cJ.drop 11) (ρd s0 M w' N c gone A C ((o.or l).or u) S b (some (false,.str (wdB pr))) (some (false,Tp K)) x13 (some (false,O)) none)=.rt .fr (stD (.tup [.str (wdB pr),A,O]) C (((o.or l).or u).or (if ∀ z∈K,z∈C then none else some bP))):=by show evB (WT TT (k+1)) (.for (.items (.var 12)) (.nm 15) kL::[.ret (.lst [(.tup [(.var 11),(.var 6),(.var 14)]),(.var 7),(.var 8)])]) _=_;rw[aU,iG];show (bK (aI (.nm 15)) (evB (WT TT (k+1)) kL) (K.map .str) (ρd s0 M w' N c gone A C ((o.or l).or u) S b (some (false,.str (wdB pr))) (some (false,Tp K)) x13 (some (false,O)) none)).thn _=_;rw[e7,aF.thn_nx];exact cU (fH (eI rfl rfl rfl) rfl rfl)
 have ycz:Cz (if ∀ z∈K,z∈C then none else some bP):=by
  split
  . exact gS
  . exact oV
 refine ⟨.tup [.str (wdB pr),A,O],C,((o.or l).or u).or (if ∀ z∈K,z∈C then none else some bP),bG rfl (((((((e0.trans e1).trans e2).trans e3).trans e4).trans e5).trans e6).trans e8),?_,eU (eU czl ucz) ycz,s.nd,s.sub,by omega⟩
 cases pr with
 | true =>
  have:=s.co.pour co2;by_cases hK:K=C
  . subst hK;have hu':u=none:=by rw[hu];simp
    rw[hu',if_pos (λz hz=>hz),aRA,aRA];rw[if_pos rfl,aRA] at this;exact this
  . have hu':u=some bP:=by rw[hu];simp[hK]
    rw[hu',sD];rw[if_neg (λq=>hK q.symm)] at this;exact this
 | false =>
  have hu':u=none:=by rw[hu];simp
  rw[hu',aRA];exact s.co.leave co2 kz
end
structure Sh(M:List (Key×D))(P:List Str)(ws:List Str):Prop where
 len:ws.length=3
 keys:iZ [(.fz,.dct M)]=some (.fr,.lst (ws.map .str))
 tb:∀ w∈ws,∃ S,Tb M P w S
section
variable {M:List (Key×D)}{P C ws:List Str}{g gone:Str}{A:D}{o:Option Str}{n:Nat}
theorem eV{W:WD}{ρ:Rho}{f:Str}{m:Nat}{es:List E}{xs:List (Md×D)}{ds:List D}{d:D}(h:bD W es ρ=.ok xs)(ha:cB xs=some ds)(hl:ds.length=m)(hf:W.Φ f ds=.ok .fr d):evE W (.call f m es) ρ=.ok .fr d:=by show aX m (W.Φ f) (bD W es ρ)=_;rw[h];exact yR hl ha hf
abbrev ρq(A:D)(C:List Str)(o:Option Str)(cell:Int)(M:List (Key×D))(N:D)(gone:Str)(v c:Int)(b:Bool)(w:Str):Rho:=[some (false,stD A C o),some (false,.int cell),some (false,.dct M),some (false,N),some (false,.str gone),some (false,.int v),some (false,.int c),some (false,.bl b),some (false,.str w)]
theorem aMW(k:Nat)(h:Nms P g)(sh:Sh M P ws)(s:St M P A C o n)(hg:Gn M gone)(cell:Int):Lft M P n ((WT TT (k+3)).Φ "_law_step" [stD A C o,.int cell,.dct M,nl P g,.str gone]):=by
 obtain ⟨w,hw,ew⟩:=rB ws (cell / 7) 3 (by rw[sh.len];rfl) (by decide)
 obtain ⟨S,tb⟩:=sh.tb w hw;have r0:=aMP (k:=k) h s (cell / 7) (!(gone==Str.ofString ""));have r1:=aMQ (k:=k) h s (cell / 7) (!(gone==Str.ofString ""));have r2:=aMR (k:=k) h s (cell / 7) (!(gone==Str.ofString ""));have r3:=aMT (k:=k) h s tb hg (cell / 7 / 3);have r4:=aMS (k:=k) h s (cell / 7) (!(gone==Str.ofString ""));have r5:=aMV (k:=k) h s tb hg (cell / 7 / 3);rw[aLM];generalize hN:nl P g=N at *;have e0:evB (WT TT (k+2)) iM [some (false,stD A C o),some (false,.int cell),some (false,.dct M),some (false,N),some (false,.str gone),none,none,none,none]=evB (WT TT (k+2)) (iM.drop 4) (ρq A C o cell M N gone (cell % 7) (cell / 7) (!(gone==Str.ofString "")) w):=by
  show evB (WT TT (k+2)) (.set 5 (.frz (.bin .Mod (.var 1) (.int 7))) :: .set 6 (.frz (.bin .FloorDiv (.var 1) (.int 7))) :: .set 7 (.cmp .NotEq (.var 4) (.str "")) :: .set 8 (.ix (.dlist (.var 2)) (.bin .Mod (.var 6) (.int 3)))::iM.drop 4) _=_
  rw[aJ (ρ':=[some (false,stD A C o),some (false,.int cell),some (false,.dct M),some (false,N),some (false,.str gone),some (false,.int (cell % 7)),none,none,none]) (aY (bM (by omega) rfl rfl)) rfl,
   aJ (ρ':=[some (false,stD A C o),some (false,.int cell),some (false,.dct M),some (false,N),some (false,.str gone),some (false,.int (cell % 7)),some (false,.int (cell / 7)),none,none]) (aY (bY (by omega) (by decide) rfl rfl)) rfl,
   aJ (ρ':=[some (false,stD A C o),some (false,.int cell),some (false,.dct M),some (false,N),some (false,.str gone),some (false,.int (cell % 7)),some (false,.int (cell / 7)),some (false,.bl (!(gone==Str.ofString ""))),none]) (sH rfl rfl) rfl]
  refine aJ (d:=.str w) ?_ rfl;have q:evE (WT TT (k+2)) (.bin .Mod (.var 6) (.int 3)) [some (false,stD A C o),some (false,.int cell),some (false,.dct M),some (false,N),some (false,.str gone),some (false,.int (cell % 7)),some (false,.int (cell / 7)),some (false,.bl (!(gone==Str.ofString ""))),none]=.ok .fz (.int (cell / 7 % 3)):=bM (by omega) rfl rfl
  rw[dL,q];have kx:evE (WT TT (k+2)) (.dlist (.var 2)) [some (false,stD A C o),some (false,.int cell),some (false,.dct M),some (false,N),some (false,.str gone),some (false,.int (cell % 7)),some (false,.int (cell / 7)),some (false,.bl (!(gone==Str.ofString ""))),none]=.ok .fr (.lst (ws.map .str)):=by show d8 iZ (.ok [(.fz,.dct M)])=_;rw[wT,sh.keys];rfl
  rw[kx];obtain ⟨j,ej,hj⟩:=md (c:=cell / 7) (n:=3) (by decide)
  rw[ej] at ew ⊢;have hj':j<ws.length:=by rw[sh.len];omega
  have:ws[j]? = some w:=by rw[<- ew];exact (bH (aPV hj')).symm ▸ aPV hj'
  exact cK (bH (by rw[aOE,this];rfl))
 have ec:∀ u:Int,evE (WT TT (k+2)) (.cmp .Eq (.var 5) (.int u)) (ρq A C o cell M N gone (cell % 7) (cell / 7) (!(gone==Str.ofString "")) w)=.ok .fz (.bl (cell % 7==u)):=λu=>eJ rfl rfl;have no:∀ u:Int,cell % 7≠u->evE (WT TT (k+2)) (.cmp .Eq (.var 5) (.int u)) (ρq A C o cell M N gone (cell % 7) (cell / 7) (!(gone==Str.ofString "")) w)=.ok .fz (.bl false):=λu hu=>by rw[ec u,aM6.mpr hu]
 have ys:∀ u:Int,cell % 7=u->evE (WT TT (k+2)) (.cmp .Eq (.var 5) (.int u)) (ρq A C o cell M N gone (cell % 7) (cell / 7) (!(gone==Str.ofString "")) w)=.ok .fz (.bl true):=λu hu=>by rw[ec u,aPQ.mpr hu]
 have fin:∀ r:Res,Lft M P n r->(∀ d,r=.ok .fr d->evB (WT TT (k+2)) (iM.drop 4) (ρq A C o cell M N gone (cell % 7) (cell / 7) (!(gone==Str.ofString "")) w)=.rt .fr d)->Lft M P n (phi 5 9 (evB (WT TT (k+2)) iM) [stD A C o,.int cell,.dct M,N,.str gone]):=λr hr hd=>by obtain ⟨A',C',o',e,q⟩:=hr;exact ⟨A',C',o',bG rfl (e0.trans (hd _ e)),q⟩
 have d4 : iM.drop 4 = [.ite (.cmp .Eq (.var 5) (.int 0)) [.ret (.call "_law_pick" 4 [(.var 0), (.var 3), (.var 6), (.var 7)])] [],
     .ite (.cmp .Eq (.var 5) (.int 1)) [.ret (.call "_law_keep" 4 [(.var 0),(.var 3),(.var 6),(.var 7)])] [],
     .ite (.cmp .Eq (.var 5) (.int 2)) [.ret (.call "_law_call" 4 [(.var 0),(.var 3),(.var 6),(.var 7)])] [],
     .ite (.cmp .Eq (.var 5) (.int 3)) [.ret (.call "_law_join" 5 [(.var 0),(.var 2),(.var 8),(.var 4),(.frz (.bin .Mod (.bin .FloorDiv (.var 6) (.int 3)) (.int 2)))])] [],
     .ite (.cmp .Eq (.var 5) (.int 4)) [.ret (.call "_law_total" 4 [(.var 0),(.var 3),(.var 6),(.var 7)])] [],
     .ret (.call "_law_beside" 6 [(.var 0),(.var 2),(.var 8),(.var 3),(.frz (.bin .FloorDiv (.var 6) (.int 3))),(.var 4)])]:=rfl
 rw[d4] at fin;by_cases h0:cell % 7=0
 . exact fin _ r0 λd e=>eE (ys 0 h0) (cU (eV (xs:=[(.fz,stD A C o),(.fz,N),(.fz,.int (cell / 7)),(.fz,.bl (!(gone==Str.ofString "")))]) (ds:=[stD A C o,N,.int (cell / 7),.bl (!(gone==Str.ofString ""))]) rfl rfl rfl e))
 rw[bA (no 0 h0)] at fin;by_cases h1:cell % 7=1
 . exact fin _ r1 λd e=>eE (ys 1 h1) (cU (eV (xs:=[(.fz,stD A C o),(.fz,N),(.fz,.int (cell / 7)),(.fz,.bl (!(gone==Str.ofString "")))]) (ds:=[stD A C o,N,.int (cell / 7),.bl (!(gone==Str.ofString ""))]) rfl rfl rfl e))
 rw[bA (no 1 h1)] at fin;by_cases h2:cell % 7=2
 . exact fin _ r2 λd e=>eE (ys 2 h2) (cU (eV (xs:=[(.fz,stD A C o),(.fz,N),(.fz,.int (cell / 7)),(.fz,.bl (!(gone==Str.ofString "")))]) (ds:=[stD A C o,N,.int (cell / 7),.bl (!(gone==Str.ofString ""))]) rfl rfl rfl e))
 rw[bA (no 2 h2)] at fin;have e3:evE (WT TT (k+2)) (.frz (.bin .FloorDiv (.var 6) (.int 3))) (ρq A C o cell M N gone (cell % 7) (cell / 7) (!(gone==Str.ofString "")) w)=.ok .fz (.int (cell / 7 / 3)):=aY (bY (by omega) (by decide) rfl rfl)
 have e32:evE (WT TT (k+2)) (.frz (.bin .Mod (.bin .FloorDiv (.var 6) (.int 3)) (.int 2))) (ρq A C o cell M N gone (cell % 7) (cell / 7) (!(gone==Str.ofString "")) w)=.ok .fz (.int (cell / 7 / 3 % 2)):=aY (bM (by omega) (bY (by omega) (by decide) rfl rfl) rfl)
 by_cases h3:cell % 7=3
 . refine fin _ r3 λd e=>eE (ys 3 h3) (cU (eV (xs:=[(.fz,stD A C o),(.fz,.dct M),(.fz,.str w),(.fz,.str gone),(.fz,.int (cell / 7 / 3 % 2))]) (ds:=[stD A C o,.dct M,.str w,.str gone,.int (cell / 7 / 3 % 2)]) ?_ rfl rfl e));rw[aR,aR,aR,aR,aR,bW,e32];rfl
 rw[bA (no 3 h3)] at fin;by_cases h4:cell % 7=4
 . exact fin _ r4 λd e=>eE (ys 4 h4) (cU (eV (xs:=[(.fz,stD A C o),(.fz,N),(.fz,.int (cell / 7)),(.fz,.bl (!(gone==Str.ofString "")))]) (ds:=[stD A C o,N,.int (cell / 7),.bl (!(gone==Str.ofString ""))]) rfl rfl rfl e))
 rw[bA (no 4 h4)] at fin;refine fin _ r5 λd e=>cU (eV (xs:=[(.fz,stD A C o),(.fz,.dct M),(.fz,.str w),(.fz,N),(.fz,.int (cell / 7 / 3)),(.fz,.str gone)]) (ds:=[stD A C o,.dct M,.str w,N,.int (cell / 7 / 3),.str gone]) ?_ rfl rfl e);rw[aR,aR,aR,aR,aR,aR,bW,e3];rfl
end
theorem app_s{W:WD}{e:E}{r:List D3.S}{ρ ρ':Rho}{i:Nat}{ds:List D}{d:D}(h:ρ[i]? = some (some (true,.lst ds)))(hl:ds.length<sizeLine)(he:evE W e ρ=.ok .fz d)(hρ:ρ.set i (some (true,.lst (ds++[d])))=ρ'):evB W (.app i e::r) ρ=evB W r ρ':=by rw[aU,wK,he];unfold gI;rw[h];show (if ds.length<sizeLine then aF.nx (ρ.set i (some (true,.lst (ds++[d])))) else .stuck).thn _=_;rw[if_pos hl,aF.thn_nx,hρ]
theorem gW{W:WD}{ρ:Rho}{c n:Str}{b:Bool}{a:E}(ha:evE W a ρ=.ok .fz (.exn c))(h:W.xg c n=some b):evE W (.tru (.isx1 a n)) ρ=.ok .fz (.bl b):=by
 rw[wF,aKA,ha];show jQ (match W.xg c n with | some b=>Res.ok .fz (.bl b) | none=>.stuck)=_
 rw[h];rfl
theorem o5{W:WD}{c n m:Str}{b:Bool}{ds:List D}{r:List D3.S}(hl:ds.length<sizeLine)(h:W.xg c n=some b):evB W (.ite (.tru (.isx1 (.var 0) n)) [.app 1 (.str m)] []::r) [some (false,.exn c),some (true,.lst ds)]=evB W r [some (false,.exn c),some (true,.lst (if b=true then ds++[.str m] else ds))]:=by
 cases b with
 | false=>rw[bA (gW rfl h)];rfl
 | true =>
  rw[cT (ρ':=[some (false,.exn c),some (true,.lst (ds++[.str m]))]) (gW rfl h) ?_]
  . rfl
  . rw[app_s (ρ':=[some (false,.exn c),some (true,.lst (ds++[.str m]))]) (ds:=ds) (d:=.str m) rfl hl rfl rfl,bL]
theorem or3{W:WD}{ρ:Rho}{a b e:E}(ha:evE W a ρ=.ok .fz (.bl false))(hb:evE W b ρ=.ok .fz (.bl false))(he:evE W e ρ=.ok .fz (.bl false)):evE W (.orL [a,b,e]) ρ=.ok .fz (.bl false):=by rw[lU];show orR (evE W a ρ) (orR (evE W b ρ) (evE W e ρ))=_;rw[ha,hb,he];rfl
theorem o7(k:Nat){c:Str}{b1 b2 b3 b4:Bool}(h1:TT.xi.lookup (c,Str.ofString "NoTable")=some b1)(h2:TT.xi.lookup (c,Str.ofString "NoColumn")=some b2)(h3:TT.xi.lookup (c,Str.ofString "Twice")=some b3)(h4:TT.xi.lookup (c,Str.ofString "Unlike")=some b4)(h5:TT.xi.lookup (c,Str.ofString "NoKind")=some false)(h6:TT.xi.lookup (c,Str.ofString "NoName")=some false)(h7:TT.xi.lookup (c,Str.ofString "NoNote")=some false)(h8:TT.xi.lookup (c,Str.ofString "Misfit")=some false)(h9:TT.xi.lookup (c,Str.ofString "NotPlain")=some false)(ha:TT.xi.lookup (c,Str.ofString "NoText")=some false)(hv:TT.xi.lookup (c,Str.ofString "ValueError")=some true){ds:List D}(hd:ds=(if b4=true then (if b3=true then (if b2=true then (if b1=true then []++[.str "NoTable"] else [])++[.str "NoColumn"] else (if b1=true then []++[.str "NoTable"] else []))++[.str "Twice"] else (if b2=true then (if b1=true then []++[.str "NoTable"] else [])++[.str "NoColumn"] else (if b1=true then []++[.str "NoTable"] else [])))++[.str "Unlike"] else (if b3=true then (if b2=true then (if b1=true then []++[.str "NoTable"] else [])++[.str "NoColumn"] else (if b1=true then []++[.str "NoTable"] else []))++[.str "Twice"] else (if b2=true then (if b1=true then []++[.str "NoTable"] else [])++[.str "NoColumn"] else (if b1=true then []++[.str "NoTable"] else []))))):(WT TT (k+1)).Φ "_law_classes" [.exn c]=.ok .fr (.lst ds):=by
 have hsz:sizeLine=16777216:=aN4;have xg:∀ n,(WT TT k).xg c n=TT.xi.lookup (c,n):=λn=>by rw[WT_xg]
 rw[aLB];refine bG rfl ?_;show evB (WT TT k) (.set 1 (.lst []) :: .ite (.tru (.isx1 (.var 0) "NoTable")) [.app 1 (.str "NoTable")] [] :: .ite (.tru (.isx1 (.var 0) "NoColumn")) [.app 1 (.str "NoColumn")] [] :: .ite (.tru (.isx1 (.var 0) "Twice")) [.app 1 (.str "Twice")] [] :: .ite (.tru (.isx1 (.var 0) "Unlike")) [.app 1 (.str "Unlike")] []::qV.drop 5) [some (false,.exn c),none]=_;rw[oW (d:=.lst []) (ρ':=[some (false,.exn c),some (true,.lst [])]) rfl rfl,o5 (by simp;omega) ((xg _).trans h1),o5 (by split <;> simp <;> omega) ((xg _).trans h2),o5 (by (repeat' split) <;> simp <;> omega) ((xg _).trans h3),o5 (by (repeat' split) <;> simp <;> omega) ((xg _).trans h4),<- hd]
 show evB (WT TT k) (.ite (.orL [(.tru (.isx1 (.var 0) "NoKind")),(.tru (.isx1 (.var 0) "NoName")),(.tru (.isx1 (.var 0) "NoNote"))]) [.app 1 (.str "other")] [] :: .ite (.orL [(.tru (.isx1 (.var 0) "Misfit")),(.tru (.isx1 (.var 0) "NotPlain")),(.tru (.isx1 (.var 0) "NoText"))]) [.app 1 (.str "other")] [] :: .ite (.not (.tru (.isx1 (.var 0) "ValueError"))) [.app 1 (.str "no ValueError")] []::[.retV 1]) _=_;rw[bA (or3 (gW rfl ((xg _).trans h5)) (gW rfl ((xg _).trans h6)) (gW rfl ((xg _).trans h7))),bA (or3 (gW rfl ((xg _).trans h8)) (gW rfl ((xg _).trans h9)) (gW rfl ((xg _).trans ha))),bA (by rw[e_not,gW (b:=true) rfl ((xg _).trans hv)];rfl)]
 rfl
theorem aMX(k:Nat){c:Str}(hc:Cz (some c)):(WT TT (k+1)).Φ "_law_classes" [.exn c]=.ok .fr (.lst [.str c]):=by
 rcases hc c rfl with rfl | rfl | rfl | rfl
 . exact o7 k (b1:=true) (b2:=false) (b3:=false) (b4:=false) (by decide +kernel) (by decide +kernel) (by decide +kernel) (by decide +kernel) (by decide +kernel) (by decide +kernel) (by decide +kernel) (by decide +kernel) (by decide +kernel) (by decide +kernel) (by decide +kernel) rfl
 . exact o7 k (b1:=false) (b2:=true) (b3:=false) (b4:=false) (by decide +kernel) (by decide +kernel) (by decide +kernel) (by decide +kernel) (by decide +kernel) (by decide +kernel) (by decide +kernel) (by decide +kernel) (by decide +kernel) (by decide +kernel) (by decide +kernel) rfl
 . exact o7 k (b1:=false) (b2:=false) (b3:=true) (b4:=false) (by decide +kernel) (by decide +kernel) (by decide +kernel) (by decide +kernel) (by decide +kernel) (by decide +kernel) (by decide +kernel) (by decide +kernel) (by decide +kernel) (by decide +kernel) (by decide +kernel) rfl
 . exact o7 k (b1:=false) (b2:=false) (b3:=false) (b4:=true) (by decide +kernel) (by decide +kernel) (by decide +kernel) (by decide +kernel) (by decide +kernel) (by decide +kernel) (by decide +kernel) (by decide +kernel) (by decide +kernel) (by decide +kernel) (by decide +kernel) rfl
def eW(o:Option Str)(C:List Str):List D:=match o with
 | none=>[Tp C]
 | some c=>[.str c]
theorem xt_ok{c:Str}(hc:Cz (some c)):TT.xt.lookup (c,Str.ofString "WhenceError")=some true:=by rcases hc c rfl with rfl | rfl | rfl | rfl <;> decide +kernel
theorem aAB(k:Nat){A M:D}{C:List Str}{o:Option Str}(ho:Cz o)(h:(WT TT (k+1)).Φ "columns_of" [A,M]=tpo o C):(WT TT (k+2)).Φ "_law_told" [A,M]=.ok .fr (.lst (eW o C)):=by
 rw[aLC];refine bG rfl ?_;show evB (WT TT (k+1)) (.set 2 .non :: .set 3 .non::qW.drop 2) [some (false,A),some (false,M),none,none,none]=_;rw[aJ (d:=.non) (ρ':=[some (false,A),some (false,M),some (false,.non),none,none]) rfl rfl,aJ (d:=.non) (ρ':=[some (false,A),some (false,M),some (false,.non),some (false,.non),none]) rfl rfl];show evB (WT TT (k+1)) (.tr [.set 3 (.frz (.call "columns_of" 2 [(.var 0),(.var 1)]))] [.mk "WhenceError" (some 4) [.set 2 (.var 4)]] :: .ite (.cmp .IsNot (.var 2) .non) [.ret (.call "_law_classes" 1 [(.var 2)])] [] :: .ite (.not (.tru (.bcall .isinstance [(.var 3),(.ty .tuple)]))) [.ret (.lst [(.str "no tuple")])] []::[.ret (.lst [(.var 3)])]) _=_;cases o with
 | none =>
  have e:evE (WT TT (k+1)) (.frz (.call "columns_of" 2 [(.var 0),(.var 1)])) [some (false,A),some (false,M),some (false,.non),some (false,.non),none]=.ok .fz (Tp C):=aY (gU (p:=A) (q:=M) rfl rfl h);rw[aU,s_tr,aJ (ρ':=[some (false,A),some (false,M),some (false,.non),some (false,Tp C),none]) e rfl,bL,tr_nx,aF.thn_nx,bA (show evE (WT TT (k+1)) (.cmp .IsNot (.var 2) .non) [some (false,A),some (false,M),some (false,.non),some (false,Tp C),none]=_ from rfl),bA (show evE (WT TT (k+1)) (.not (.tru (.bcall .isinstance [(.var 3),(.ty .tuple)]))) [some (false,A),some (false,M),some (false,.non),some (false,Tp C),none]=_ from rfl)]
  exact cU (by show dZ (.ok [(.fz,Tp C)])=_;rfl)
 | some c =>
  have e:evE (WT TT (k+1)) (.frz (.call "columns_of" 2 [(.var 0),(.var 1)])) [some (false,A),some (false,M),some (false,.non),some (false,.non),none]=.exc c:=by have c0:aX 2 ((WT TT (k+1)).Φ "columns_of") (.ok [(.fz,A),(.fz,M)])=.exc c:=lW (ds:=[A,M]) rfl rfl h;rw[gQ];show aZ (aX 2 ((WT TT (k+1)).Φ "columns_of") (.ok [(.fz,A),(.fz,M)]))=_;rw[c0];rfl
  have hx:(WT TT (k+1)).xf c (Str.ofString "WhenceError")=some true:=by rw[WT_xf];exact xt_ok ho
  rw[aU,s_tr,aU,n6,e,aKQ,aF.thn_exc,aKR,aKF,aKE,hn_t hx];show (unR (some 4) (evB (WT TT (k+1)) [.set 2 (.var 4)] [some (false,A),some (false,M),some (false,.non),some (false,.non),some (false,.exn c)])).thn _=_;rw[aJ (d:=.exn c) (ρ':=[some (false,A),some (false,M),some (false,.exn c),some (false,.non),some (false,.exn c)]) rfl rfl,bL];show evB (WT TT (k+1)) (.ite (.cmp .IsNot (.var 2) .non) [.ret (.call "_law_classes" 1 [(.var 2)])] []::_) [some (false,A),some (false,M),some (false,.exn c),some (false,.non),none]=_;exact eE (show evE (WT TT (k+1)) (.cmp .IsNot (.var 2) .non) [some (false,A),some (false,M),some (false,.exn c),some (false,.non),none]=_ from rfl) (cU (eV (xs:=[(.fz,.exn c)]) (ds:=[.exn c]) rfl rfl rfl (aMX k ho)))
theorem sll{W:WD}{ρ:Rho}{ds:List D}{e e':E}{i j:Nat}{m m':Md}(h:evE W e ρ=.ok m (.int (i:Int)))(h':evE W e' ρ=.ok m' (.int (j:Int))){m0:Md}:slP (.ok m0 (.lst ds)) (evO W (some e)) (evO W (some e')) ρ=.ok .fr (.lst (cF ds (some (i:Int)) (some (j:Int)))):=by simp only[evO,slP,Res.thn_ok,cP,h,h']
theorem aMY{ds:List D}{i j:Nat}(hi:i<=j)(hj:j<=ds.length):cF ds (some (i:Int)) (some (j:Int))=(ds.take j).drop i:=by unfold cF;rw[HT.jK,HT.jK,aQ6 (show i<=ds.length by omega),aQ6 hj,List.drop_take]
theorem sK{M:List (Key×D)}{k:Key}{d:D}(h:∀ kv∈M,kv.1≠k):iX M k d=M++[(k,d)]:=by unfold iX;rw[if_neg];rw[List.any_eq_true];rintro ⟨kv,hkv,e⟩;exact h kv hkv (aPG e)
theorem aAC{kb:List (Key×D)}:∀ r:List (Key×D),(∀ kv∈r,bC kb kv.1=some kv.2/\∃ S,kv.2=Tp S)->eL kb r=some true
 | [],_=>rfl
 | (k,d)::r,h=>by obtain ⟨h1,S,h2⟩:=h (k,d) mcs;have ih:=aAC r λkv hkv=>h kv (mcm hkv);dsimp only at h1 h2;subst h2;unfold eL;rw[h1,ih];simp[bE,kQ,kR,PyData.eqv,rH]
def sh3(w0 w1 w2:Str)(S0 S1 S2:List Str):List (Key×D):=[(.inr w0,Tp S0),(.inr w1,Tp S1),(.inr w2,Tp S2)]
theorem aMZ{w0 w1 w2:Str}{S0 S1 S2:List Str}(h01:w0≠w1)(h02:w0≠w2)(h12:w1≠w2):bC (sh3 w0 w1 w2 S0 S1 S2) (.inr w0)=some (Tp S0)/\bC (sh3 w0 w1 w2 S0 S1 S2) (.inr w1)=some (Tp S1)/\bC (sh3 w0 w1 w2 S0 S1 S2) (.inr w2)=some (Tp S2):=by refine ⟨?_,?_,?_⟩ <;> simp[bC,sh3,aO6,h01,h02,h12]
theorem aM0{w0 w1 w2:Str}{S0 S1 S2:List Str}(h0:gM w0)(h1:gM w1)(h2:gM w2):iZ [(.fz,.dct (sh3 w0 w1 w2 S0 S1 S2))]=some (.fr,.lst ([w0,w1,w2].map .str)):=by
 have hsz:sizeLine=16777216:=aN4;have k:∀ w,gM w->nU (.inr w)=true:=λw hw=>by show (decide (w.length<=sizeLine)&&PyData.strOk w)=true;rw[hw.2,aO7 (by have:=hw.1;omega)];rfl
 show (if ((sh3 w0 w1 w2 S0 S1 S2).all λkv=>nU kv.1)=true then some (Md.fr,D.lst ((sh3 w0 w1 w2 S0 S1 S2).map λkv=>nT kv.1)) else none)=_;rw[if_pos (by simp[sh3,k _ h0,k _ h1,k _ h2])]
 rfl
abbrev ρL(S:D)(h:Int)(N ws:List Str)(more:Int)(M:Option (Bool×D))(x6 x7 x8 r9 r10 r11 r12 r13 r14:Option (Bool×D)):Rho:=[some (false,S),some (false,.int h),some (false,.lst (N.map .str)),some (false,.lst (ws.map .str)),some (false,.int more),M,x6,x7,x8,r9,r10,r11,r12,r13,r14]
section
variable {W:WD}{N ws:List Str}{h more:Int}{M:List (Key×D)}{S:D}{x7 x8 r9 r10 r11 r12 r13 r14:Option (Bool×D)}
theorem sL(hn:N.Nodup)(hl:N.length=12)(hw:ws.length=4)(hM:M.length<sizeLine){i:Nat}(hi:i<3):∃ R y7 y8,R.Nodup/\(∀ z∈R,z∈N.take 7)/\evB W kM (ρL S h N ws more (some (true,.dct M)) (some (false,.int (i:Int))) x7 x8 r9 r10 r11 r12 r13 r14)=.nx (ρL S h N ws more (some (true,.dct (iX M (.inr (nth ws i)) (Tp R)))) (some (false,.int (i:Int))) y7 y8 r9 r10 r11 r12 r13 r14):=by
 have hsz:sizeLine=16777216:=aN4;obtain ⟨t,et,ht⟩:=md (c:=more / ((i:Int)+2)) (n:=7) (by decide)
 have h7:(N.take 7).Nodup:=hn.sublist (aOF _ _);have eR:((N.map D.str).take 7).drop t++(N.map D.str).take t=((N.take 7).drop t++(N.take 7).take t).map D.str:=by rw[aQ2,List.map_drop,aQ7,aQ7,aQ7,List.take_take,aQ6 (by omega)]
 have e7:evE W (.frz (.bin .Mod (.bin .FloorDiv (.var 4) (.bin .Add (.var 6) (.int 2))) (.int 7))) (ρL S h N ws more (some (true,.dct M)) (some (false,.int (i:Int))) x7 x8 r9 r10 r11 r12 r13 r14)=.ok .fz (.int (t:Int)):=by rw[<- et];exact aY (bM (by omega) (bY (v:=(i:Int)+2) (by omega) (by omega) rfl (fW rfl rfl)) rfl)
 have e8:evE W (.frz (.bin .Add (.slice (.var 2) (some (.var 7)) (some (.int 7))) (.slice (.var 2) none (some (.var 7))))) (ρL S h N ws more (some (true,.dct M)) (some (false,.int (i:Int))) (some (false,.int (t:Int))) x8 r9 r10 r11 r12 r13 r14)=.ok .fz (.lst (((N.take 7).drop t++(N.take 7).take t).map .str)):=by
  have q1:evE W (.slice (.var 2) (some (.var 7)) (some (.int 7))) (ρL S h N ws more (some (true,.dct M)) (some (false,.int (i:Int))) (some (false,.int (t:Int))) x8 r9 r10 r11 r12 r13 r14)=.ok .fr (.lst (((N.map .str).take 7).drop t)):=by rw[i5];show slP (.ok .fz (.lst (N.map .str))) _ _ _=_;rw[sll (m:=.fz) (m':=.fz) (i:=t) (j:=7) rfl rfl,aMY (by omega) (by rw[aOI];omega)]
  have q2:evE W (.slice (.var 2) none (some (.var 7))) (ρL S h N ws more (some (true,.dct M)) (some (false,.int (i:Int))) (some (false,.int (t:Int))) x8 r9 r10 r11 r12 r13 r14)=.ok .fr (.lst ((N.map .str).take t)):=by rw[i5];exact y1 (m:=.fz) rfl
  rw[gQ,fQ,q1,q2,qN (by rw[aOS,aN9,aN9,aOI];omega),eR];rfl
 generalize eF:(N.take 7).drop t++(N.take 7).take t=F at *;have fn:F.Nodup:=by rw[<- eF];exact rV h7 t
 have fm:∀ z∈F,z∈N.take 7:=λz hz=>by rw[<- eF] at hz;exact rW hz
 obtain ⟨g,hg,eg⟩:∃ g:Int,(0<g/\g<=9)/\op2 ixD (.ok .fr (.lst [.int 1,.int 3,.int 9])) (.ok .fz (.int (i:Int)))=.ok .fz (.int g):=by
  match i,hi with
  | 0,_=>exact ⟨1,by decide,cK (bH (j:=0) rfl)⟩
  | 1,_=>exact ⟨3,by decide,cK (bH (j:=1) rfl)⟩
  | 2,_=>exact ⟨9,by decide,cK (bH (j:=2) rfl)⟩
 obtain ⟨q,eq,hq⟩:=md (c:=more / g) (n:=3) (by decide)
 refine ⟨F.take (2+q),some (false,.int (t:Int)),some (false,.lst (F.map .str)),fn.sublist (aOF _ _),λz hz=>fm z (aRD hz),?_⟩;show evB W (.set 7 (.frz (.bin .Mod (.bin .FloorDiv (.var 4) (.bin .Add (.var 6) (.int 2))) (.int 7))) :: .set 8 (.frz (.bin .Add (.slice (.var 2) (some (.var 7)) (some (.int 7))) (.slice (.var 2) none (some (.var 7)))))::[.dput 5 (.ix (.var 3) (.var 6)) (.tcall .tuple [(.slice (.var 8) none (some (.bin .Add (.int 2) (.bin .Mod (.bin .FloorDiv (.var 4) (.ix (.lst [(.int 1),(.int 3),(.int 9)]) (.var 6))) (.int 3)))))])]) _=_;rw[aJ (ρ':=ρL S h N ws more (some (true,.dct M)) (some (false,.int (i:Int))) (some (false,.int (t:Int))) x8 r9 r10 r11 r12 r13 r14) e7 rfl,aJ (ρ':=ρL S h N ws more (some (true,.dct M)) (some (false,.int (i:Int))) (some (false,.int (t:Int))) (some (false,.lst (F.map .str))) r9 r10 r11 r12 r13 r14) e8 rfl];have ek:evE W (.ix (.var 3) (.var 6)) (ρL S h N ws more (some (true,.dct M)) (some (false,.int (i:Int))) (some (false,.int (t:Int))) (some (false,.lst (F.map .str))) r9 r10 r11 r12 r13 r14)=.ok .fz (.str (nth ws i)):=by rw[dL];show op2 ixD (.ok .fz (.lst (ws.map .str))) (.ok .fz (.int (i:Int)))=_;exact cK (bH (by rw[aOE,aPV (by omega),<- iN (by omega)];rfl))
 have ei:evE W (.bin .Add (.int 2) (.bin .Mod (.bin .FloorDiv (.var 4) (.ix (.lst [(.int 1),(.int 3),(.int 9)]) (.var 6))) (.int 3))) (ρL S h N ws more (some (true,.dct M)) (some (false,.int (i:Int))) (some (false,.int (t:Int))) (some (false,.lst (F.map .str))) r9 r10 r11 r12 r13 r14)=.ok .fz (.int ((2+q:Nat):Int)):=by
  rw[show ((2+q:Nat):Int)=2+more / g % 3 by rw[eq];omega]
  exact fW rfl (bM (by omega) (bY hg.1 (by omega) rfl eg) rfl)
 have ev:evE W (.tcall .tuple [(.slice (.var 8) none (some (.bin .Add (.int 2) (.bin .Mod (.bin .FloorDiv (.var 4) (.ix (.lst [(.int 1),(.int 3),(.int 9)]) (.var 6))) (.int 3)))))]) (ρL S h N ws more (some (true,.dct M)) (some (false,.int (i:Int))) (some (false,.int (t:Int))) (some (false,.lst (F.map .str))) r9 r10 r11 r12 r13 r14)=.ok .fz (Tp (F.take (2+q))):=by
  have p3:evE W (.slice (.var 8) none (some (.bin .Add (.int 2) (.bin .Mod (.bin .FloorDiv (.var 4) (.ix (.lst [(.int 1),(.int 3),(.int 9)]) (.var 6))) (.int 3))))) (ρL S h N ws more (some (true,.dct M)) (some (false,.int (i:Int))) (some (false,.int (t:Int))) (some (false,.lst (F.map .str))) r9 r10 r11 r12 r13 r14)=.ok .fr (.lst ((F.take (2+q)).map .str)):=by rw[i5,aQ7];exact y1 (m:=.fz) ei
  rw[n5,aR,bW,p3];rfl
 rw[aU,aKI,ek,ev];show (if M.length<sizeLine then aF.nx (List.set (ρL S h N ws more (some (true,.dct M)) (some (false,.int (i:Int))) (some (false,.int (t:Int))) (some (false,.lst (F.map .str))) r9 r10 r11 r12 r13 r14) 5 (some (true,.dct (iX M (.inr (nth ws i)) (Tp (F.take (2+q))))))) else .stuck).thn _=_;rw[if_pos hM,aF.thn_nx,bL];rfl
theorem aM1:bI 0 3=[.int ((0:Nat):Int),.int ((1:Nat):Int),.int ((2:Nat):Int)]:=rfl
theorem ld{w0 w1 w2 w3:Str}(hn:N.Nodup)(hl:N.length=12)(h01:w0≠w1)(h02:w0≠w2)(h12:w1≠w2){x6:Option (Bool×D)}{r:List D3.S}:∃ S0 S1 S2 y6 y7 y8,(∀ R∈[S0,S1,S2],R.Nodup/\(∀ z∈R,z∈N.take 7))/\evB W (.set 5 .dnew :: .for (.rng1 (.int 3)) (.nm 6) kM :: .frzV 5::r) (ρL S h N [w0,w1,w2,w3] more none x6 x7 x8 r9 r10 r11 r12 r13 r14)=evB W r (ρL S h N [w0,w1,w2,w3] more (some (false,.dct (sh3 w0 w1 w2 S0 S1 S2))) y6 y7 y8 r9 r10 r11 r12 r13 r14):=by
 have hsz:sizeLine=16777216:=aN4;have n0:nth [w0,w1,w2,w3] 0=w0:=rfl;have n1:nth [w0,w1,w2,w3] 1=w1:=rfl;have n2:nth [w0,w1,w2,w3] 2=w2:=rfl;obtain ⟨S0,a6,a7,p0,q0,e0⟩:=sL (W:=W) (S:=S) (h:=h) (more:=more) (M:=[]) (N:=N) (ws:=[w0,w1,w2,w3]) (x7:=x7) (x8:=x8) (r9:=r9) (r10:=r10) (r11:=r11) (r12:=r12) (r13:=r13) (r14:=r14) hn hl rfl (by simp;omega) (i:=0) (by decide)
 rw[sK (by simp)] at e0
 obtain ⟨S1,b6,b7,p1,q1,e1⟩:=sL (W:=W) (S:=S) (h:=h) (more:=more) (M:=[]++[(.inr (nth [w0,w1,w2,w3] 0),Tp S0)]) (N:=N) (ws:=[w0,w1,w2,w3]) (x7:=a6) (x8:=a7) (r9:=r9) (r10:=r10) (r11:=r11) (r12:=r12) (r13:=r13) (r14:=r14) hn hl rfl (by simp;omega) (i:=1) (by decide)
 rw[sK (by rw[n0,n1];simp[h01])] at e1
 obtain ⟨S2,d6,d7,p2,q2,e2⟩:=sL (W:=W) (S:=S) (h:=h) (more:=more) (M:=[]++[(.inr (nth [w0,w1,w2,w3] 0),Tp S0)]++[(.inr (nth [w0,w1,w2,w3] 1),Tp S1)]) (N:=N) (ws:=[w0,w1,w2,w3]) (x7:=b6) (x8:=b7) (r9:=r9) (r10:=r10) (r11:=r11) (r12:=r12) (r13:=r13) (r14:=r14) hn hl rfl (by simp;omega) (i:=2) (by decide)
 rw[sK (by rw[n0,n1,n2];simp[h02,h12])] at e2
 refine ⟨S0,S1,S2,some (false,.int ((2:Nat):Int)),d6,d7,λR hR=>?_,?_⟩
 . simp only[aNK,aQ3,aQG] at hR;rcases hR with rfl | rfl | rfl
   . exact ⟨p0,q0⟩
   . exact ⟨p1,q1⟩
   . exact ⟨p2,q2⟩
 rw[n0] at e0;rw[n0,n1] at e1;rw[n0,n1,n2] at e2;rw[oW (d:=.dct []) (ρ':=ρL S h N [w0,w1,w2,w3] more (some (true,.dct [])) x6 x7 x8 r9 r10 r11 r12 r13 r14) rfl rfl,aU,iG];have er:evE W (.rng1 (.int 3)) (ρL S h N [w0,w1,w2,w3] more (some (true,.dct [])) x6 x7 x8 r9 r10 r11 r12 r13 r14)=.ok .fz (.lst (bI 0 3)):=l4 (m:=.fz) (n:=3) (by decide) (by decide)
 rw[er,aM1];have ef:bK (aI (.nm 6)) (evB W kM) [.int ((0:Nat):Int),.int ((1:Nat):Int),.int ((2:Nat):Int)] (ρL S h N [w0,w1,w2,w3] more (some (true,.dct [])) x6 x7 x8 r9 r10 r11 r12 r13 r14)=.nx (ρL S h N [w0,w1,w2,w3] more (some (true,.dct (sh3 w0 w1 w2 S0 S1 S2))) (some (false,.int ((2:Nat):Int))) d6 d7 r9 r10 r11 r12 r13 r14):=by have st:∀ (i:Int) (M:D) (x6 x7 x8:Option (Bool×D)),aI (.nm 6) (.int i) (ρL S h N [w0,w1,w2,w3] more (some (true,M)) x6 x7 x8 r9 r10 r11 r12 r13 r14)=some (ρL S h N [w0,w1,w2,w3] more (some (true,M)) (some (false,.int i)) x7 x8 r9 r10 r11 r12 r13 r14):=λi M x6 x7 x8=>rfl;rw[bK,st];dsimp only;rw[e0];dsimp only;rw[bK,st];dsimp only;rw[e1];dsimp only;rw[bK,st];dsimp only;rw[e2];dsimp only;rw[bK];rfl
 show (bK (aI (.nm 6)) (evB W kM) [.int ((0:Nat):Int),.int ((1:Nat):Int),.int ((2:Nat):Int)] (ρL S h N [w0,w1,w2,w3] more (some (true,.dct [])) x6 x7 x8 r9 r10 r11 r12 r13 r14)).thn _=_;rw[ef,aF.thn_nx];exact z5 (d:=.dct (sh3 w0 w1 w2 S0 S1 S2)) rfl rfl
end
theorem aAD{k:D->Rho->Option Rho}{body:Rho->aF}(I:Nat->Rho->Prop):∀ {ds:List D} {ρ:Rho},(∀ n,∀ d∈ds,∀ ρ,I (n+1) ρ->∃ ρ1 ρ2,k d ρ=some ρ1/\body ρ1=.nx ρ2/\I n ρ2)->I ds.length ρ->∃ ρ',bK k body ds ρ=.nx ρ'/\I 0 ρ'
 | [],ρ,_,h=>⟨ρ,rfl,h⟩
 | d::ds,ρ,hs,h=>by obtain ⟨ρ1,ρ2,e1,e2,h2⟩:=hs ds.length d mcs ρ h;obtain ⟨ρ',e3,h3⟩:=aAD I (λn d hd=>hs n d (mcm hd)) h2;refine ⟨ρ',?_,h3⟩;unfold bK;rw[e1];dsimp only;rw[e2];exact e3
theorem aM2(xs:List D):(cF xs (some 4) (some 16)).length<=12:=by unfold cF;have e1:HT.sIx xs.length 0 (some 4)=min 4 xs.length:=HT.jK _ _ 4;have e2:HT.sIx xs.length xs.length (some 16)=min 16 xs.length:=HT.jK _ _ 16;rw[e1,e2,aN9];omega
theorem aM3{ns:List Int}{d:D}(h:d∈cF (ns.map D.int) (some 4) (some 16)):∃ c,d=.int c:=by have:=aRC (aRD h);obtain ⟨c,_,rfl⟩:=aQY.mp this;exact ⟨c,rfl⟩
theorem aAE{W:WD}{ρ:Rho}{a:E}{p:D}(ha:evE W a ρ=.ok .fz p):evE W (.frz (.lst [a])) ρ=.ok .fz (.lst [p]):=by rw[gQ];show aZ (dZ (bD W [a] ρ))=_;rw[aR,bW,ha];rfl
theorem aAF{W:WD}{ρ:Rho}{a b e:E}{p q r:D}(ha:evE W a ρ=.ok .fz p)(hb:evE W b ρ=.ok .fz q)(he:evE W e ρ=.ok .fz r):evE W (.frz (.lst [a,b,e])) ρ=.ok .fz (.lst [p,q,r]):=by rw[gQ,fH ha hb he];rfl
section
variable {M:List (Key×D)}{P ws C:List Str}{g w3:Str}{A:D}{o:Option Str}{n:Nat}{S:D}{h more cell:Int}{x6 x7 x8 x9 r12 r13 r14:Option (Bool×D)}
theorem lturn(k:Nat)(hN:Nms P g)(sh:Sh M P ws)(s:St M P A C o n)(h4:∀ m m',op2 ixD (.ok m (.lst ((ws++[w3]).map .str))) (.ok m' (.int 3))=.ok .fz (.str w3))(hg:bC M (.inr w3)=none)(hl:w3.length<=40):∃ A' C' o' y12,St M P A' C' o' (n+1)/\evB (WT TT (k+3)) fU (ρL S h (P++[g]) (ws++[w3]) more (some (false,.dct M)) x6 x7 x8 x9 (some (false,stD A C o)) (some (false,.int cell)) r12 r13 r14)=.nx (ρL S h (P++[g]) (ws++[w3]) more (some (false,.dct M)) x6 x7 x8 x9 (some (false,stD A' C' o')) (some (false,.int cell)) y12 r13 r14):=by
 obtain ⟨gone,hG,e1⟩:∃ gone,Gn M gone/\evB (WT TT (k+3)) fU (ρL S h (P++[g]) (ws++[w3]) more (some (false,.dct M)) x6 x7 x8 x9 (some (false,stD A C o)) (some (false,.int cell)) r12 r13 r14)=evB (WT TT (k+3)) [.set 10 (.frz (.call "_law_step" 5 [(.var 10),(.var 11),(.var 5),(.var 2),(.var 12)]))] (ρL S h (P++[g]) (ws++[w3]) more (some (false,.dct M)) x6 x7 x8 x9 (some (false,stD A C o)) (some (false,.int cell)) (some (false,.str gone)) r13 r14):=by
  have e0:evB (WT TT (k+3)) fU (ρL S h (P++[g]) (ws++[w3]) more (some (false,.dct M)) x6 x7 x8 x9 (some (false,stD A C o)) (some (false,.int cell)) r12 r13 r14)=evB (WT TT (k+3)) (fU.drop 1) (ρL S h (P++[g]) (ws++[w3]) more (some (false,.dct M)) x6 x7 x8 x9 (some (false,stD A C o)) (some (false,.int cell)) (some (false,.str (Str.ofString ""))) r13 r14):=aJ (i:=12) (e:=.str "") (d:=.str (Str.ofString "")) rfl rfl;have d1:fU.drop 1=[.ite (.andL [(.cmp .Gt (.bin .Mod (.var 1) (.int 3)) (.int 0)),(.cmp .Eq (.bin .Mod (.bin .Mod (.bin .Add (.bin .Mult (.var 11) (.int 48271)) (.int 11)) (.int 2147483647)) (.bin .Mod (.bin .Mult (.int 3) (.var 1)) (.int 9))) (.int 1))]) [.set 12 (.ix (.var 3) (.int 3))] [],.set 10 (.frz (.call "_law_step" 5 [(.var 10),(.var 11),(.var 5),(.var 2),(.var 12)]))]:=rfl;rw[e0,d1]
  clear e0 d1
  generalize hρ:ρL S h (P++[g]) (ws++[w3]) more (some (false,.dct M)) x6 x7 x8 x9 (some (false,stD A C o)) (some (false,.int cell)) (some (false,.str (Str.ofString ""))) r13 r14=ρ0;have g1:evE (WT TT (k+3)) (.var 1) ρ0=.ok .fz (.int h):=by rw[<- hρ];rfl
  have g11:evE (WT TT (k+3)) (.var 11) ρ0=.ok .fz (.int cell):=by rw[<- hρ];rfl
  have g3:evE (WT TT (k+3)) (.ix (.var 3) (.int 3)) ρ0=.ok .fz (.str w3):=by rw[dL,<- hρ];exact h4 _ _
  have ca:evE (WT TT (k+3)) (.cmp .Gt (.bin .Mod (.var 1) (.int 3)) (.int 0)) ρ0=.ok .fz (.bl (decide (0<h % 3))):=by
   rw[fR,bM (v:=3) (by omega) g1 rfl]
   simp
  obtain ⟨b,eb⟩:∃ b,evE (WT TT (k+3)) (.andL [(.cmp .Gt (.bin .Mod (.var 1) (.int 3)) (.int 0)),(.cmp .Eq (.bin .Mod (.bin .Mod (.bin .Add (.bin .Mult (.var 11) (.int 48271)) (.int 11)) (.int 2147483647)) (.bin .Mod (.bin .Mult (.int 3) (.var 1)) (.int 9))) (.int 1))]) ρ0=.ok .fz (.bl b):=by
   rw[qM];show ∃ b,dF (evE (WT TT (k+3)) (.cmp .Gt (.bin .Mod (.var 1) (.int 3)) (.int 0)) ρ0) (evE (WT TT (k+3)) (.cmp .Eq (.bin .Mod (.bin .Mod (.bin .Add (.bin .Mult (.var 11) (.int 48271)) (.int 11)) (.int 2147483647)) (.bin .Mod (.bin .Mult (.int 3) (.var 1)) (.int 9))) (.int 1)) ρ0)=.ok .fz (.bl b);rw[ca];by_cases h3:0<h % 3
   . rw[aO7 h3,aKN];have q1:evE (WT TT (k+3)) (.bin .Mod (.bin .Mult (.int 3) (.var 1)) (.int 9)) ρ0=.ok .fz (.int (3 * h % 9)):=bM (by omega) (by rw[fQ,g1];exact wO (by decide)) rfl
     have q2:evE (WT TT (k+3)) (.bin .Mod (.bin .Add (.bin .Mult (.var 11) (.int 48271)) (.int 11)) (.int 2147483647)) ρ0=.ok .fz (.int ((cell * 48271+11) % 2147483647)):=bM (by omega) (fW (by rw[fQ,g11];exact aKL (by decide)) rfl) rfl
     exact ⟨_,eJ (bM (by omega) q2 q1) rfl⟩
   . rw[aM5 h3,aKO];exact ⟨false,rfl⟩
  cases b with
  | false =>
   refine ⟨Str.ofString "", λq=>absurd q (by rw[aP1];exact λz=>nomatch z),?_⟩
   rw[bA eb,<- hρ]
  | true =>
   refine ⟨w3,λ_=>⟨hg,hl⟩,?_⟩;rw[cT (ρ':=ρ0.set 12 (some (false,.str w3))) eb ?_,<- hρ]
   . rfl
   . rw[aJ (ρ':=ρ0.set 12 (some (false,.str w3))) g3 rfl,bL]
 obtain ⟨A',C',o',e2,s'⟩:=aMW k hN sh s hG cell;refine ⟨A',C',o',some (false,.str gone),s',?_⟩;rw[e1,aJ (d:=stD A' C' o') (ρ':=ρL S h (P++[g]) (ws++[w3]) more (some (false,.dct M)) x6 x7 x8 x9 (some (false,stD A' C' o')) (some (false,.int cell)) (some (false,.str gone)) r13 r14) ?_ rfl,bL];have q:evE (WT TT (k+3)) (.call "_law_step" 5 [(.var 10),(.var 11),(.var 5),(.var 2),(.var 12)]) (ρL S h (P++[g]) (ws++[w3]) more (some (false,.dct M)) x6 x7 x8 x9 (some (false,stD A C o)) (some (false,.int cell)) (some (false,.str gone)) r13 r14)=.ok .fr (stD A' C' o'):=eV (xs:=[(.fz,stD A C o),(.fz,.int cell),(.fz,.dct M),(.fz,nl P g),(.fz,.str gone)]) (ds:=[stD A C o,.int cell,.dct M,nl P g,.str gone]) rfl rfl rfl e2;rw[gQ,q];rfl
theorem lloop(k:Nat){ns:List Int}{r11:Option (Bool×D)}{r:List D3.S}(hN:Nms P g)(sh:Sh M P ws)(s:St M P A C o 2)(h4:∀ m m',op2 ixD (.ok m (.lst ((ws++[w3]).map .str))) (.ok m' (.int 3))=.ok .fz (.str w3))(hg:bC M (.inr w3)=none)(hl:w3.length<=40):∃ A' C' o' y11 y12 n',St M P A' C' o' n'/\n'<=14/\evB (WT TT (k+3)) (.for (.items (.slice (.var 0) (some (.int 4)) (some (.int 16)))) (.nm 11) fU::r) (ρL (.lst (ns.map .int)) h (P++[g]) (ws++[w3]) more (some (false,.dct M)) x6 x7 x8 x9 (some (false,stD A C o)) r11 r12 r13 r14)=evB (WT TT (k+3)) r (ρL (.lst (ns.map .int)) h (P++[g]) (ws++[w3]) more (some (false,.dct M)) x6 x7 x8 x9 (some (false,stD A' C' o')) y11 y12 r13 r14):=by
 obtain ⟨ρ',e,I⟩:=aAD (k:=aI (.nm 11)) (body:=evB (WT TT (k+3)) fU) (ds:=cF (ns.map D.int) (some 4) (some 16)) (ρ:=ρL (.lst (ns.map .int)) h (P++[g]) (ws++[w3]) more (some (false,.dct M)) x6 x7 x8 x9 (some (false,stD A C o)) r11 r12 r13 r14)
  (λr ρ=>∃ A C o n y11 y12,St M P A C o n/\n+r<=14/\ρ=ρL (.lst (ns.map .int)) h (P++[g]) (ws++[w3]) more (some (false,.dct M)) x6 x7 x8 x9 (some (false,stD A C o)) y11 y12 r13 r14)
  (λr d hd ρ hρ=>by
   obtain ⟨A,C,o,n,y11,y12,h1,h2,rfl⟩:=hρ;obtain ⟨c,rfl⟩:=aM3 hd;obtain ⟨A',C',o',z12,q1,q2⟩:=lturn k (S:=.lst (ns.map .int)) (h:=h) (more:=more) (cell:=c) (x6:=x6) (x7:=x7) (x8:=x8) (x9:=x9) (r12:=y12) (r13:=r13) (r14:=r14) hN sh h1 h4 hg hl;exact ⟨_,_,by rw[wI];rfl,q2,A',C',o',n+1,_,z12,q1,by omega,rfl⟩)
  ⟨A,C,o,2,r11,r12,s,by have:=aM2 (ns.map D.int);omega,rfl⟩
 obtain ⟨A',C',o',n',y11,y12,q1,q2,rfl⟩:=I;refine ⟨A',C',o',y11,y12,n',q1,by omega,?_⟩
 have sl:evE (WT TT (k+3)) (.items (.slice (.var 0) (some (.int 4)) (some (.int 16)))) (ρL (.lst (ns.map .int)) h (P++[g]) (ws++[w3]) more (some (false,.dct M)) x6 x7 x8 x9 (some (false,stD A C o)) r11 r12 r13 r14)=.ok .fz (.lst (cF (ns.map D.int) (some 4) (some 16))):=by rw[nX,i5];show hV (aZ (slP (.ok .fz (.lst (ns.map .int))) _ _ _))=_;rw[sll (m:=.fz) (m':=.fz) (i:=4) (j:=16) rfl rfl];rfl
 rw[aU,iG,sl];show (bK (aI (.nm 11)) (evB (WT TT (k+3)) fU) (cF (ns.map D.int) (some 4) (some 16)) (ρL (.lst (ns.map .int)) h (P++[g]) (ws++[w3]) more (some (false,.dct M)) x6 x7 x8 x9 (some (false,stD A C o)) r11 r12 r13 r14)).thn _=_;rw[e,aF.thn_nx]
end
theorem aAG(o:Option Str)(C:List Str):∃ p,bE (.lst (eW o C))=some p/\d9 p=true/\PyData.eqv p p=true:=by
 cases o with
 | none=>exact ⟨.list [.tuple (C.map .str)],by simp[eW,bE,cS,kQ],by simp[d9,PyData.depth,PyData.depthAll,rG],by simp[PyData.eqv,PyData.eqvAll,rH]⟩
 | some c=>exact ⟨.list [.str c],by simp[eW,bE,cS],by simp[d9,PyData.depth,PyData.depthAll],by simp[PyData.eqv,PyData.eqvAll]⟩
theorem aAH{o:Option Str}{C:List Str}{m m':Md}:op2 (a8 .NotEq) (.ok m (.lst (eW o C))) (.ok m' (.lst (eW o C)))=.ok .fz (.bl false):=by obtain ⟨p,h1,h2,h3⟩:=aAG o C;refine bO ?_;generalize D.lst (eW o C)=d at *;simp[a8,fNe,orO,eqF,h1,h2,h3]
theorem aM4{o:Option Str}{C:List Str}{m m':Md}:op2 (a8 .Eq) (.ok m (.lst (eW o C))) (.ok m' (.lst (eW o C)))=.ok .fz (.bl true):=by obtain ⟨p,h1,h2,h3⟩:=aAG o C;refine bO ?_;generalize D.lst (eW o C)=d at *;simp[a8,fEq,orO,eqF,h1,h2,h3]
theorem Co.at29{M:List (Key×D)}{A:D}{o:Option Str}{C:List Str}{n:Nat}(h:Co M A o C n)(hn:n<=14):(WT TT 29).Φ "columns_of" [A,.dct M]=tpo o C:=by
 have:=h (22-n);rw[show 22-n+n+7=29 by omega] at this
 exact this
theorem lend{M:List (Key×D)}{P ws C C0:List Str}{g w w3:Str}{A S:D}{o:Option Str}{n:Nat}{h more:Int}{x6 x7 x8 y11 y12:Option (Bool×D)}(s:St M P A C o n)(hn:n<=14)(hw:bC M (.inr w)=some (Tp C0))(hq:op2 (eqN true) (.ok .fz (.dct M)) (.ok .fz (.dct M))=.ok .fz (.bl false)):evB (WT TT 30) (fF.drop 11) (ρL S h (P++[g]) (ws++[w3]) more (some (false,.dct M)) x6 x7 x8 (some (false,.str w)) (some (false,stD A C o)) y11 y12 none none)=.rt .fz (.bl true):=by
 have t1:=aAB 28 s.cz (s.co.at29 hn);have t2:=aAB 28 (A:=.tup [.str "table", .str w]) (M:=.dct M) gS ((Co.table hw).at29 (by decide))
 generalize hP : P ++ [g] = N; generalize hws : ws ++ [w3] = vs; have d11 : fF.drop 11 = [.set 13 (.frz (.lst [(.ix (.var 10) (.int 2))])), .ite (.cmp .Eq (.ix (.var 10) (.int 2)) (.str "")) [.set 13 (.frz (.lst [(.ix (.var 10) (.int 1))]))] [], .set 14 (.frz (.tcall .dict [(.var 5)])),
     .ite (.orL [(.cmp .NotEq (.call "_law_told" 2 [(.ix (.var 10) (.int 0)),(.var 14)]) (.var 13)),(.deq true (.var 14) (.var 5))]) [.ret (.bl false)] [],
     .ite (.cmp .NotEq (.call "_law_told" 2 [(.tup [(.str "table"),(.var 9)]),(.var 14)]) (.lst [(.dix (.var 5) (.var 9))])) [.ret (.bl false)] [],
     .ret (.cmp .Eq (.call "_law_told" 2 [(.ix (.var 10) (.int 0)),(.var 14)]) (.var 13))]:=rfl
 rw[d11];have s0:∀ x13 x14,evE (WT TT 30) (.ix (.var 10) (.int 0)) (ρL S h N vs more (some (false,.dct M)) x6 x7 x8 (some (false,.str w)) (some (false,stD A C o)) y11 y12 x13 x14)=.ok .fz A:=λ_ _=>by rw[dL];exact cK (bH (j:=0) rfl)
 have s1:∀ x13 x14,evE (WT TT 30) (.ix (.var 10) (.int 1)) (ρL S h N vs more (some (false,.dct M)) x6 x7 x8 (some (false,.str w)) (some (false,stD A C o)) y11 y12 x13 x14)=.ok .fz (Tp C):=λ_ _=>by rw[dL];exact cK (bH (j:=1) rfl)
 have s2:∀ x13 x14,evE (WT TT 30) (.ix (.var 10) (.int 2)) (ρL S h N vs more (some (false,.dct M)) x6 x7 x8 (some (false,.str w)) (some (false,stD A C o)) y11 y12 x13 x14)=.ok .fz (.str (du o)):=λ_ _=>by rw[dL];exact cK (bH (j:=2) rfl)
 have p1:∀ r,evB (WT TT 30) (.set 13 (.frz (.lst [(.ix (.var 10) (.int 2))])) :: .ite (.cmp .Eq (.ix (.var 10) (.int 2)) (.str "")) [.set 13 (.frz (.lst [(.ix (.var 10) (.int 1))]))] []::r) (ρL S h N vs more (some (false,.dct M)) x6 x7 x8 (some (false,.str w)) (some (false,stD A C o)) y11 y12 none none)=evB (WT TT 30) r (ρL S h N vs more (some (false,.dct M)) x6 x7 x8 (some (false,.str w)) (some (false,stD A C o)) y11 y12 (some (false,.lst (eW o C))) none):=λr=>by
  rw[aJ (ρ':=ρL S h N vs more (some (false,.dct M)) x6 x7 x8 (some (false,.str w)) (some (false,stD A C o)) y11 y12 (some (false,.lst [.str (du o)])) none) (aAE (s2 _ _)) rfl];have ec:=o3 (b:=.str "") (y:=Str.ofString "") (s2 (some (false,.lst [.str (du o)])) none) rfl;cases o with
  | none =>
   have ec':evE (WT TT 30) (.cmp .Eq (.ix (.var 10) (.int 2)) (.str "")) (ρL S h N vs more (some (false,.dct M)) x6 x7 x8 (some (false,.str w)) (some (false,stD A C none)) y11 y12 (some (false,.lst [.str (du none)])) none)=.ok .fz (.bl true):=ec.trans (by rw[show (du none==Str.ofString "")=true from aP1 _])
   refine cT ec' ?_;rw[aJ (ρ':=ρL S h N vs more (some (false,.dct M)) x6 x7 x8 (some (false,.str w)) (some (false,stD A C none)) y11 y12 (some (false,.lst [Tp C])) none) (aAE (s1 _ _)) rfl,bL];rfl
  | some c =>
   have ec':evE (WT TT 30) (.cmp .Eq (.ix (.var 10) (.int 2)) (.str "")) (ρL S h N vs more (some (false,.dct M)) x6 x7 x8 (some (false,.str w)) (some (false,stD A C (some c))) y11 y12 (some (false,.lst [.str (du (some c))])) none)=.ok .fz (.bl false):=ec.trans (by rw[show (du (some c)==Str.ofString "")=false from zU s.cz])
   rw[bA ec'];rfl
 rw[p1];generalize hL:eW o C=L at *;have n1:∀ m m',op2 (a8 .NotEq) (.ok m (.lst L)) (.ok m' (.lst L))=.ok .fz (.bl false):=λ_ _=>by rw[<- hL];exact aAH
 have n2:∀ m m',op2 (a8 .Eq) (.ok m (.lst L)) (.ok m' (.lst L))=.ok .fz (.bl true):=λ_ _=>by rw[<- hL];exact aM4
 rw[aJ (d:=.dct M) (ρ':=ρL S h N vs more (some (false,.dct M)) x6 x7 x8 (some (false,.str w)) (some (false,stD A C o)) y11 y12 (some (false,.lst L)) (some (false,.dct M))) (by rw[gQ];rfl) rfl]
 have c1:evE (WT TT 30) (.call "_law_told" 2 [(.ix (.var 10) (.int 0)),(.var 14)]) (ρL S h N vs more (some (false,.dct M)) x6 x7 x8 (some (false,.str w)) (some (false,stD A C o)) y11 y12 (some (false,.lst L)) (some (false,.dct M)))=.ok .fr (.lst L):=eV (xs:=[(.fz,A),(.fz,.dct M)]) (ds:=[A,.dct M]) (by rw[aR,aR,bW,s0];rfl) rfl rfl t1
 have c2:evE (WT TT 30) (.call "_law_told" 2 [(.tup [(.str "table"),(.var 9)]),(.var 14)]) (ρL S h N vs more (some (false,.dct M)) x6 x7 x8 (some (false,.str w)) (some (false,stD A C o)) y11 y12 (some (false,.lst L)) (some (false,.dct M)))=.ok .fr (.lst [Tp C0]):=eV (xs:=[(.fz,.tup [.str "table", .str w]),(.fz,.dct M)]) (ds:=[.tup [.str "table", .str w],.dct M]) (by rw[aR,aR,bW,cC (p:=.str "table") (q:=.str w) rfl rfl];rfl) rfl rfl t2
 have c3:evE (WT TT 30) (.lst [(.dix (.var 5) (.var 9))]) (ρL S h N vs more (some (false,.dct M)) x6 x7 x8 (some (false,.str w)) (some (false,stD A C o)) y11 y12 (some (false,.lst L)) (some (false,.dct M)))=.ok .fr (.lst [Tp C0]):=by show dZ (bD (WT TT 30) [(.dix (.var 5) (.var 9))] _)=_;rw[aR,bW,mM hw rfl rfl];rfl
 generalize hρ:ρL S h N vs more (some (false,.dct M)) x6 x7 x8 (some (false,.str w)) (some (false,stD A C o)) y11 y12 (some (false,.lst L)) (some (false,.dct M))=ρ9 at *;have g13:evE (WT TT 30) (.var 13) ρ9=.ok .fz (.lst L):=by rw[<- hρ];rfl
 have g14:evE (WT TT 30) (.deq true (.var 14) (.var 5)) ρ9=.ok .fz (.bl false):=by rw[<- hρ];exact hq
 have eo:evE (WT TT 30) (.orL [(.cmp .NotEq (.call "_law_told" 2 [(.ix (.var 10) (.int 0)),(.var 14)]) (.var 13)),(.deq true (.var 14) (.var 5))]) ρ9=.ok .fz (.bl false):=by rw[lU];show orR (evE (WT TT 30) (.cmp .NotEq (.call "_law_told" 2 [(.ix (.var 10) (.int 0)),(.var 14)]) (.var 13)) ρ9) (evE (WT TT 30) (.deq true (.var 14) (.var 5)) ρ9)=_;rw[fR,c1,g13,n1,g14];rfl
 have eo2:evE (WT TT 30) (.cmp .NotEq (.call "_law_told" 2 [(.tup [(.str "table"),(.var 9)]),(.var 14)]) (.lst [(.dix (.var 5) (.var 9))])) ρ9=.ok .fz (.bl false):=by rw[fR,c2,c3];exact aAH (o:=none) (C:=C0)
 rw[bA eo,bA eo2];exact eS (by rw[fR,c1,g13,n2])
def kk:Nat:=30
theorem main(ns:List Int)(hn:ns.length<=63):(WT TT (kk+1)).Φ ("law" : Str) (nG ns)=.ok .fz (.bl true):=by
 rw[u_law];refine bG rfl ?_;show evB (WT TT 30) fF [some (false,.lst (ns.map .int)),none,none,none,none,none,none,none,none,none,none,none,none,none,none]=_;have c0:=cell 29 ns (i:=0) (by decide)
 have c1:=cell 29 ns (i:=1) (by decide)
 have c2:=cell 29 ns (i:=2) (by decide)
 have c3:=cell 29 ns (i:=3) (by decide)
 obtain ⟨N,n1,n2,n3,n4⟩:=names 29 (ce ns 1) (n:=12) (by decide)
 obtain ⟨ws,v1,v2,v3,v4⟩:=names 29 (ce ns 2) (n:=4) (by decide)
 obtain ⟨w0,w1,w2,w3,rfl⟩:∃ w0 w1 w2 w3,ws=[w0,w1,w2,w3]:=by
  match ws,v1 with
  | [a,b,c,d],_=>exact ⟨a,b,c,d,rfl⟩
 have nd:w0≠w1/\w0≠w2/\w1≠w2/\w0≠w3/\w1≠w3/\w2≠w3:=by simp[aN7] at v2;exact ⟨v2.1.1,v2.1.2.1,v2.2.1.1,v2.1.2.2,v2.2.1.2,v2.2.2⟩
 obtain ⟨h01,h02,h12,h03,h13,h23⟩:=nd
 obtain ⟨P,g,rfl⟩:∃ P g,N=P++[g]:=⟨N.take 11,N[11]'(by omega),by
  have:N=N.take 11++N.drop 11:=(List.take_append_drop 11 N).symm;rw[aPU (by omega),List.drop_eq_nil_of_le (by omega)] at this
  exact this⟩
 have pl:P.length=11:=by rw[aOH] at n1;simpa using n1
 have hN:Nms P g:=⟨n2,pl,λz hz=>(n3 z hz).1⟩;have k1:evE (WT TT 30) (.frz (.call "_law_names" 2 [(.frz (.call "_law_cell_at" 2 [(.var 0),(.int 1)])),(.int 12)])) [some (false,.lst (ns.map .int)),some (false,.int (ce ns 0)),none,none,none,none,none,none,none,none,none,none,none,none,none]=.ok .fz (.lst ((P++[g]).map .str)):=by
  have q:evE (WT TT 30) (.call "_law_names" 2 [(.frz (.call "_law_cell_at" 2 [(.var 0),(.int 1)])),(.int 12)]) [some (false,.lst (ns.map .int)),some (false,.int (ce ns 0)),none,none,none,none,none,none,none,none,none,none,none,none,none]=.ok .fr (.lst ((P++[g]).map .str)) :=
   eV (xs:=[(.fz,.int (ce ns 1)),(.fz,.int 12)]) (ds:=[.int (ce ns 1),.int 12]) (by rw[aR,aR,bW,aY (gU (p:=.lst (ns.map .int)) (q:=.int 1) rfl rfl c1)];rfl) rfl rfl n4
  rw[gQ,q];rfl
 have k2:evE (WT TT 30) (.frz (.call "_law_names" 2 [(.frz (.call "_law_cell_at" 2 [(.var 0),(.int 2)])),(.int 4)])) [some (false,.lst (ns.map .int)),some (false,.int (ce ns 0)),some (false,.lst ((P++[g]).map .str)),none,none,none,none,none,none,none,none,none,none,none,none]=.ok .fz (.lst ([w0,w1,w2,w3].map .str)):=by
  have q:evE (WT TT 30) (.call "_law_names" 2 [(.frz (.call "_law_cell_at" 2 [(.var 0),(.int 2)])),(.int 4)]) [some (false,.lst (ns.map .int)),some (false,.int (ce ns 0)),some (false,.lst ((P++[g]).map .str)),none,none,none,none,none,none,none,none,none,none,none,none]=.ok .fr (.lst ([w0,w1,w2,w3].map .str)) :=
   eV (xs:=[(.fz,.int (ce ns 2)),(.fz,.int 4)]) (ds:=[.int (ce ns 2),.int 4]) (by rw[aR,aR,bW,aY (gU (p:=.lst (ns.map .int)) (q:=.int 2) rfl rfl c2)];rfl) rfl rfl v4
  rw[gQ,q];rfl
 have d0:fF=.set 1 (.frz (.call "_law_cell_at" 2 [(.var 0),(.int 0)])) :: .set 2 (.frz (.call "_law_names" 2 [(.frz (.call "_law_cell_at" 2 [(.var 0),(.int 1)])),(.int 12)])) :: .set 3 (.frz (.call "_law_names" 2 [(.frz (.call "_law_cell_at" 2 [(.var 0),(.int 2)])),(.int 4)])) :: .set 4 (.frz (.call "_law_cell_at" 2 [(.var 0),(.int 3)])) :: .set 5 .dnew :: .for (.rng1 (.int 3)) (.nm 6) kM :: .frzV 5::fF.drop 7:=rfl;rw[d0,aJ (ρ':=[some (false,.lst (ns.map .int)),some (false,.int (ce ns 0)),none,none,none,none,none,none,none,none,none,none,none,none,none]) (aY (gU (p:=.lst (ns.map .int)) (q:=.int 0) rfl rfl c0)) rfl,
  aJ (ρ':=[some (false,.lst (ns.map .int)),some (false,.int (ce ns 0)),some (false,.lst ((P++[g]).map .str)),none,none,none,none,none,none,none,none,none,none,none,none]) k1 rfl,
  aJ (ρ':=[some (false,.lst (ns.map .int)),some (false,.int (ce ns 0)),some (false,.lst ((P++[g]).map .str)),some (false,.lst ([w0,w1,w2,w3].map .str)),none,none,none,none,none,none,none,none,none,none,none]) k2 rfl,
  aJ (ρ':=ρL (.lst (ns.map .int)) (ce ns 0) (P++[g]) [w0,w1,w2,w3] (ce ns 3) none none none none none none none none none none) (aY (gU (p:=.lst (ns.map .int)) (q:=.int 3) rfl rfl c3)) rfl]
 clear d0 k1 k2 c0 c1 c2 c3 n4 v4
 generalize ce ns 0=h;generalize ce ns 3=more;obtain ⟨S0,S1,S2,y6,y7,y8,hS,e2⟩:=ld (W:=WT TT 30) (S:=.lst (ns.map .int)) (h:=h) (more:=more) (w3:=w3) n2 n1 h01 h02 h12 (x6:=none) (x7:=none) (x8:=none) (r9:=none) (r10:=none) (r11:=none) (r12:=none) (r13:=none) (r14:=none) (r:=fF.drop 7);rw[e2]
 clear e2
 obtain ⟨g0,g1,g2⟩:=aMZ (S0:=S0) (S1:=S1) (S2:=S2) h01 h02 h12;have k3:=aM0 (S0:=S0) (S1:=S1) (S2:=S2) (v3 w0 (by simp)) (v3 w1 (by simp)) (v3 w2 (by simp))
 have gno:bC (sh3 w0 w1 w2 S0 S1 S2) (.inr w3)=none:=by simp[bC,sh3,aO6,h03,h13,h23]
 have hS':∀ R∈[S0,S1,S2],R.Nodup/\∀ z∈R,z∈P:=λR hR=>⟨(hS R hR).1,λz hz=>by
  have:=(hS R hR).2 z hz;rw[aRB (by omega)] at this
  exact aRD this⟩
 have sh:Sh (sh3 w0 w1 w2 S0 S1 S2) P [w0,w1,w2]:=⟨rfl,k3,λw hw=>by
  simp only[aNK,aQ3,aQG] at hw;rcases hw with rfl | rfl | rfl
  . exact ⟨S0,g0,(hS' S0 (by simp)).1,(hS' S0 (by simp)).2⟩
  . exact ⟨S1,g1,(hS' S1 (by simp)).1,(hS' S1 (by simp)).2⟩
  . exact ⟨S2,g2,(hS' S2 (by simp)).1,(hS' S2 (by simp)).2⟩⟩
 have hq:op2 (eqN true) (.ok .fz (.dct (sh3 w0 w1 w2 S0 S1 S2))) (.ok .fz (.dct (sh3 w0 w1 w2 S0 S1 S2)))=.ok .fz (.bl false):=bO (by
  have:eL (sh3 w0 w1 w2 S0 S1 S2) (sh3 w0 w1 w2 S0 S1 S2)=some true:=aAC _ λkv hkv=>by
   simp only[sh3,aNK,aQ3,aQG] at hkv;rcases hkv with rfl | rfl | rfl
   . exact ⟨g0,S0,rfl⟩
   . exact ⟨g1,S1,rfl⟩
   . exact ⟨g2,S2,rfl⟩
  show (eL _ _).map _=_;rw[this];simp)
 clear g0 g1 g2 k3 hS hS'
 generalize sh3 w0 w1 w2 S0 S1 S2=M at *;obtain ⟨w,hw,ew⟩:=rB [w0,w1,w2] (h / 24) 3 rfl (by decide)
 obtain ⟨C,tb⟩:=sh.tb w hw;have w40:w3.length<=40:=(v3 w3 (by simp)).1
 have x3:∀ m m',op2 ixD (.ok m (.lst (([w0,w1,w2]++[w3]).map .str))) (.ok m' (.int 3))=.ok .fz (.str w3):=λm m'=>cK (bH (j:=3) rfl);have ex:∀ r9 r10,evE (WT TT 30) (.ix (.var 3) (.bin .Mod (.bin .FloorDiv (.var 1) (.int 24)) (.int 3))) (ρL (.lst (ns.map .int)) h (P++[g]) [w0,w1,w2,w3] more (some (false,.dct M)) y6 y7 y8 r9 r10 none none none none)=.ok .fz (.str w):=λr9 r10=>by
  have q:evE (WT TT 30) (.bin .Mod (.bin .FloorDiv (.var 1) (.int 24)) (.int 3)) (ρL (.lst (ns.map .int)) h (P++[g]) [w0,w1,w2,w3] more (some (false,.dct M)) y6 y7 y8 r9 r10 none none none none)=.ok .fz (.int (h / 24 % 3)):=bM (by omega) (bY (by omega) (by decide) rfl rfl) rfl
  rw[dL,q];obtain ⟨j,ej,hj⟩:=md (c:=h / 24) (n:=3) (by decide)
  rw[ej] at ew ⊢;have hj':j<[w0,w1,w2].length:=by simp;omega
  have:[w0,w1,w2][j]? = some w:=by rw[<- ew];exact (bH (aPV hj')).symm ▸ aPV hj'
  have this':([w0,w1,w2]++[w3])[j]? = some w:=by rw[aOD hj'];exact this
  exact cK (bH (by
   show (([w0,w1,w2]++[w3]).map D.str)[j]? = _;rw[aOE,this'];rfl))
 have d7:fF.drop 7=.set 9 (.ix (.var 3) (.bin .Mod (.bin .FloorDiv (.var 1) (.int 24)) (.int 3))) :: .set 10 (.frz (.lst [(.tup [(.str "table"),(.var 9)]),(.dix (.var 5) (.var 9)),(.str "")])) :: .ite (.cmp .Eq (.bin .Mod (.bin .FloorDiv (.var 1) (.int 3)) (.int 8)) (.int 3)) [.set 10 (.frz (.lst [(.tup [(.str "table"),(.ix (.var 3) (.int 3))]),(.dix (.var 5) (.var 9)),(.str "NoTable")]))] [] :: .for (.items (.slice (.var 0) (some (.int 4)) (some (.int 16)))) (.nm 11) fU::fF.drop 11:=rfl;rw[d7,aJ (ρ':=ρL (.lst (ns.map .int)) h (P++[g]) [w0,w1,w2,w3] more (some (false,.dct M)) y6 y7 y8 (some (false,.str w)) none none none none none) (ex _ _) rfl,
  aJ (d:=stD (.tup [.str "table", .str w]) C none) (ρ':=ρL (.lst (ns.map .int)) h (P++[g]) [w0,w1,w2,w3] more (some (false,.dct M)) y6 y7 y8 (some (false,.str w)) (some (false,stD (.tup [.str "table", .str w]) C none)) none none none none) (aAF (cC rfl rfl) (mM tb.get rfl rfl) rfl) rfl]
 obtain ⟨A,o,s,e3⟩:∃ A o,St M P A C o 2/\∀ r,evB (WT TT 30) (.ite (.cmp .Eq (.bin .Mod (.bin .FloorDiv (.var 1) (.int 3)) (.int 8)) (.int 3)) [.set 10 (.frz (.lst [(.tup [(.str "table"),(.ix (.var 3) (.int 3))]),(.dix (.var 5) (.var 9)),(.str "NoTable")]))] []::r) (ρL (.lst (ns.map .int)) h (P++[g]) [w0,w1,w2,w3] more (some (false,.dct M)) y6 y7 y8 (some (false,.str w)) (some (false,stD (.tup [.str "table", .str w]) C none)) none none none none)=evB (WT TT 30) r (ρL (.lst (ns.map .int)) h (P++[g]) [w0,w1,w2,w3] more (some (false,.dct M)) y6 y7 y8 (some (false,.str w)) (some (false,stD A C o)) none none none none):=by
  have ec:evE (WT TT 30) (.cmp .Eq (.bin .Mod (.bin .FloorDiv (.var 1) (.int 3)) (.int 8)) (.int 3)) (ρL (.lst (ns.map .int)) h (P++[g]) [w0,w1,w2,w3] more (some (false,.dct M)) y6 y7 y8 (some (false,.str w)) (some (false,stD (.tup [.str "table", .str w]) C none)) none none none none)=.ok .fz (.bl (h / 3 % 8==3)):=eJ (bM (by omega) (bY (by omega) (by decide) rfl rfl) rfl) rfl
  cases hb:(h / 3 % 8==3) with
  | false=>rw[hb] at ec;exact ⟨_,none,⟨(Co.table tb.get).mono (by decide),gS,tb.nd,tb.sub,aNY _⟩,λr=>bA ec⟩
  | true =>
   rw[hb] at ec;refine ⟨.tup [.str "table", .str w3],some dM,⟨(Co.gone w40 gno).mono (by decide),r6,tb.nd,tb.sub,aNY _⟩,λr=>cT ec ?_⟩
   rw[aJ (d:=stD (.tup [.str "table", .str w3]) C (some dM)) (ρ':=ρL (.lst (ns.map .int)) h (P++[g]) [w0,w1,w2,w3] more (some (false,.dct M)) y6 y7 y8 (some (false,.str w)) (some (false,stD (.tup [.str "table", .str w3]) C (some dM))) none none none none) (aAF (cC rfl (by rw[dL];exact x3 .fz .fz)) (mM tb.get rfl rfl) rfl) rfl,bL]
 rw[e3];obtain ⟨A',C',o',y11,y12,n',s',hn',e4⟩:=lloop 27 (ns:=ns) (ws:=[w0,w1,w2]) (h:=h) (more:=more) (x6:=y6) (x7:=y7) (x8:=y8) (x9:=some (false,.str w)) (r11:=none) (r12:=none) (r13:=none) (r14:=none) (r:=fF.drop 11) hN sh s x3 gno w40;exact e4.trans (lend s' hn' tb.get hq)
end K42
namespace K42
open PySem PySem.W Tp
theorem tw:Prod.fst (true,PySem.Challenge.pw_whencewise_k42_columns_refused)=true:=by k_qdec
def as:List Addr:=[2,3,15,22,23,24,25,28,35,36,37,40,47,48,49,52,59,60,61,64,71,72,73,76,83,84,85,88,95,96,97,100,107,108,109,112,119,120,121,124,131,132,133,136,143,144,145,148,150,151,153,154,155,158,159,160,162,163,165,166,167,169,170,172,173,174,176,177,179,180,181,183,184,186,187,188,190,191,193,194,195,197,198,200,201,202,204,205,207,208,209,211,212,214,215,216,219,220,221,223,224,226,227,228,230,231,233,234,235,236,239,240,241,243,244,246,247,248,250,251,253,254,255,257,258,260,261,262,264,265,267,268,269,271,272,274,275,276,278,279,281,282,283,285,286,288,289,290,293,294,295,297,298,300,301,302,304,305,307,308,309,311,312,314,315,316,318,319,321,322,323,326,327,328,331,332,333,335,336,338,339,340,342,343,345,346,347,349,350,352,353]
theorem pre(w:World)(os:OsState):topGo treeTable PySem.Challenge.pw_whencewise_k42_columns_refused w 11 an 12 ⟨boot_heap w.params,#[],boot_drawn,boot_toks,os⟩ (topStub PySem.Challenge.pw_whencewise_k42_columns_refused)=some ((sh w.params (sA w.params) 15 187 os).abs,⟨denote treeTable (cd PySem.Challenge.pw_whencewise_k42_columns_refused),cd PySem.Challenge.pw_whencewise_k42_columns_refused,z0,[topFrame z0]⟩):=by
 rw[Fast.te10555944964927167566,Fast.te203182992438928480,Fast.te13144403056285818395,Fast.te15667345088766844465,Fast.te14364793385576792824,Fast.te11892475500146522536]
 kernel_rfl
theorem blk(w:World)(s:Shared):segRun treeTable PySem.Challenge.pw_whencewise_k42_columns_refused w 11 an 1 1 s (blockOf PySem.Challenge.pw_whencewise_k42_columns_refused.main.body (ev PySem.Challenge.pw_whencewise_k42_columns_refused) (cd PySem.Challenge.pw_whencewise_k42_columns_refused) z0 [topFrame z0])=some (.next,s,cd PySem.Challenge.pw_whencewise_k42_columns_refused,z0):=by kernel_rfl
theorem run(w:World)(os:OsState):go treeTable PySem.Challenge.pw_whencewise_k42_columns_refused w 1000 PySem.Challenge.pw_whencewise_k42_columns_refused.main.body (sh w.params (sA w.params) 15 187 os) (cd PySem.Challenge.pw_whencewise_k42_columns_refused) z0=some (sh w.params (lay w.params PySem.Challenge.pw_whencewise_k42_columns_refused.main.body (sA w.params)) 354 713 os,cd PySem.Challenge.pw_whencewise_k42_columns_refused,⟨268,0,295,60⟩) :=
 byRow2 "special-get-raises" (P:=λw=>∀ os:OsState,go treeTable PySem.Challenge.pw_whencewise_k42_columns_refused w 1000 PySem.Challenge.pw_whencewise_k42_columns_refused.main.body (sh w.params (sA w.params) 15 187 os) (cd PySem.Challenge.pw_whencewise_k42_columns_refused) z0=some (sh w.params (lay w.params PySem.Challenge.pw_whencewise_k42_columns_refused.main.body (sA w.params)) 354 713 os,cd PySem.Challenge.pw_whencewise_k42_columns_refused,⟨268,0,295,60⟩))
  (λw os=>by
   rw[Fast.te10555944964927167566,Fast.te203182992438928480,Fast.te13144403056285818395,Fast.te5678740263434597267,Fast.te14364793385576792824,Fast.te10212481707522018265]
   kernel_rfl)
  (λw os=>by
   rw[Fast.te10555944964927167566,Fast.te203182992438928480,Fast.te13144403056285818395,Fast.te5678740263434597267,Fast.te14364793385576792824,Fast.te10212481707522018265]
   kernel_rfl) w os
def tabs:=@D3.aKY K42.GG (KK PySem.Challenge.pw_whencewise_k42_columns_refused.main.body as) "DEEDS" [("pick", "columns_of_pick"),("keep", "columns_of_keep"),("call", "columns_of_call"),("join", "columns_of_join"),("pour", "columns_of_pour"),("total", "columns_of_total"),("leave", "columns_of_leave")] (by decide +kernel) (λP=>by kernel_rfl) (λP=>by kernel_rfl) (by decide) (by decide)
theorem sM(w:World):(λos=>((staticsOk (importedModules PySem.Challenge.pw_whencewise_k42_columns_refused.main.body) (boot_heap w.params) (H1 PySem.Challenge.pw_whencewise_k42_columns_refused.main.body 354 w.params)&&namesBound PySem.Challenge.pw_whencewise_k42_columns_refused (H1 PySem.Challenge.pw_whencewise_k42_columns_refused.main.body 354 w.params)&&gensDone (S1 PySem.Challenge.pw_whencewise_k42_columns_refused.main.body 354 713 w.params os)&&laidKept (boot_heap w.params) (H1 PySem.Challenge.pw_whencewise_k42_columns_refused.main.body 354 w.params)),openSeen (vw PySem.Challenge.pw_whencewise_k42_columns_refused) (los PySem.Challenge.pw_whencewise_k42_columns_refused.main.body) (importedModules PySem.Challenge.pw_whencewise_k42_columns_refused.main.body) (xt PySem.Challenge.rw_whencewise_k42_columns_refused.row) true (S1 PySem.Challenge.pw_whencewise_k42_columns_refused.main.body 354 713 w.params os),(hk PySem.Challenge.pw_whencewise_k42_columns_refused.main.body as).obs (S1 PySem.Challenge.pw_whencewise_k42_columns_refused.main.body 354 713 w.params os)))=λ_=>(true,openGood (vw PySem.Challenge.pw_whencewise_k42_columns_refused) (los PySem.Challenge.pw_whencewise_k42_columns_refused.main.body),(hk PySem.Challenge.pw_whencewise_k42_columns_refused.main.body as).val w):=by
 rw[Fast.te14387180822208032119,Fast.te10555944964927167566,Fast.te5923862056798008813,Fast.te9407923862454927560,Fast.te15884229538025494872,Fast.te4187177175401517315,Fast.te18076920544200396443,Fast.te9318435048543301240,Fast.te17808466708180730929,Fast.te2368527892694137696]
 kernel_rfl
theorem gf(P:Params):D3.qT (KK PySem.Challenge.pw_whencewise_k42_columns_refused.main.body as P) GG TT=true:=by
 kernel_rfl
abbrev dl:DefRec:=⟨"law", L2.m9 qY,L2.jN qY,L2.eY qY,⟨268,0,295,60⟩⟩
end K42
open PySem PySem.W PyProof.Rows
set_option maxRecDepth 100000 in
set_option maxHeartbeats 0 in
theorem PySem.Challenge.cw_whencewise_k42_columns_refused_holds : PySem.Challenge.rw_whencewise_k42_columns_refused.Holds := by
 w_on;o_law
 exact Tp.head (p:=PySem.Challenge.rw_whencewise_k42_columns_refused) (d:=K42.dl) (Tp.left (by kernel_rfl) K42.pre K42.blk K42.run (by kernel_rfl) (by kernel_rfl) (λ_=>by kernel_rfl) K42.sM) (by assumption) (by kernel_rfl) (by kernel_rfl) rfl rfl (by decide +kernel) ⟨rfl,rfl,rfl,rfl,rfl,by decide +kernel⟩ (by w_witness2)
  (D3.walkG (K:=Tp.KK PySem.Challenge.pw_whencewise_k42_columns_refused.main.body K42.as) (kk:=K42.kk) (e:=K42.qX) rfl rfl rfl (λw h Y=>PySem.W.kIn_of Y) K42.gf K42.tabs rfl rfl ⟨rfl,by decide,by decide⟩ K42.main)
