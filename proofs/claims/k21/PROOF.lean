import PyProof.Rows.All
import Wide.All
import OpenK.AllK
import Wide.FinOn
import Lean
import PyProof.EqAt
import PyProof.EqKinds
import PyProof.TupleCall
import PySem.Challenge.RW_whencewise_k21_sums_of_reasons
set_option linter.all false
section
open PySem PySem.Spec PyProof.Rows
def aJU:=@decide_eq_false
def aJV:=@beq_eq_false_iff_ne
def aJW:=@PySem.Paired.length
def aJX:=@PySem.Heap.get?_push_size
def aJY:=@PySem.Heap.lt_size
def aJZ:=@Nat.lt_of_lt_of_le
def aJ0:=@Nat.lt_irrefl
def aJ1:=@Nat.ne_of_lt
def aJ2:=@PySem.W.hideAll_get
def aJ3:=@List.mem_range
def aJ4:=@Nat.le_trans
def aJ5:=@Nat.le_of_lt
def aJ6:=@List.filterMap_cons
def aJ7:=@List.mem_cons
def aJ8:=@List.mem_append
def aJ9:=@List.mem_append_left
def aKA:=@List.getElem?_eq_some_iff
def aKB:=@List.getElem?_set_self
def aKC:=@List.getElem?_set_ne
def aKD:=@Option.some.inj
def aKE:=@PySem.wpAny_mono
def aKF:=@PySem.wpAny_truthy_bool
def aKG:=@Array.length_toList
def aKH:=@PySem.wpAny_pure
def aKI:=@PySem.wpAny_bind
def aKJ:=@PySem.wpAny_load
def aKK:=@PySem.wpAny_pyIter_list
def aKL:=@Nat.le_refl
def aKM:=@PyProof.Rows.callWith_type1
def aKN:=@List.mem_filterMap
def aKO:=@List.mem_append_right
def aKP:=@PySem.wpAny_passesOwn
def aKQ:=@PySem.sizeLine_eq
def aKR:=@List.size_toArray
def aKS:=@Array.mem_toList_iff
def aKT:=@Bool.false_ne_true
def aKU:=@beq_iff_eq
def aKV:=@PySem.Heap.size_push
def aKW:=@Nat.lt_succ_self
def aKX:=@Nat.zero_le
def aKY:=@PySem.Calls.spliced_cons
def aKZ:=@List.append_nil
def aK0:=@List.nodup_cons
def aK1:=@List.of_mem_zip
def aK2:=@List.length_take
def aK3:=@PySem.mem_of_lookup
def aK4:=@List.getElem?_append_right
def aK5:=@List.getElem?_replicate
def aK6:=@List.getElem?_append_left
def aK7:=@List.getElem?_map
def aK8:=@List.mem_of_getElem?
def aK9:=@List.length_append
def aLA:=@List.length_map
def aLB:=@PySem.wpAny_Call_Name_kw
def aLC:=@PySem.concat_meets
def aLD:=@PySem.noFill_tuple_add
def aLE:=@PySem.F.slot_tuple_add
def aLF:=@PySem.F.entry_tuple_add
def aLG:=@PySem.F.args_tuple_add_2
def aLH:=@Int.toNat_natCast
def aLI:=@if_false
def aLJ:=@Prod.ext
def aLK:=@PySem.wpAny_field
def aLL:=@List.length_drop
def aLM:=@PySem.wpAny_holding
def aLN:=@PySem.wpAny_callSpecial?_slot
def aLO:=@PyProof.Rows.slot_tuple_getitem
def aLP:=@PySem.wpAny_call_entry
def aLQ:=@PySem.wpAny_typeOf
def aLR:=@Bool.and_eq_true
def aLS:=@PySem.wpAny_newObj_type
def aLT:=@PySem.Heap.get?_update_self
def aLU:=@PySem.Heap.get?_update_other
def aLV:=@List.length_set
def aLW:=@Option.getD_none
def aLX:=@List.map_nil
def aLY:=@List.map_cons
def aLZ:=@decide_eq_true
def aL0:=@PySem.codeAny_mono
def aL1:=@List.cons.injEq
def aL2:=@List.cons_append
def aL3:=@Nat.add_assoc
def aL4:=@PySem.wpAny_specialOf
def aL5:=@Array.forIn_toList
def aL6:=@PySem.wpAny_forIn_list
def aL7:=@Nat.min_le_left
def aL8:=@PySem.wpAny_isInstance
def aL9:=@Bool.not_true
def aMA:=@Bool.false_eq_true
def aMB:=@List.lookup_cons
def aMC:=@List.length_cons
def aMD:=@decide_eq_true_eq
def aME:=@of_decide_eq_true
def aMF:=@Bool.or_eq_true
def aMG:=@Array.all_eq_true_iff_forall_mem
def aMH:=@PySem.wpAny_getItem_str_slice
def aMI:=@PySem.post_val_or_str
def aMJ:=@PySem.Txt.slice_le
def aMK:=@Array.mem_of_getElem?
def aML:=@PySem.W.kia_one
def aMM:=@List.getElem?_set
def aMN:=@Option.map_some
def aMO:=@List.getElem?_eq_getElem
def aMP:=@List.drop_length
def aMQ:=@List.forIn_nil
def aMR:=@List.forIn_cons
def aMS:=@LawfulMonad.pure_bind
def aMT:=@beq_self_eq_true
def aMU:=@Nat.lt_succ_of_lt
def aMV:=@Nat.not_lt
def aMW:=@Nat.le_succ
def aMX:=@List.drop_zero
def aMY:=@List.take_of_length_le
def aMZ:=@List.mem_singleton
def aM0:=@List.zip_cons_cons
def aM1:=@List.length_nil
def aM2:=@or_false
def aM3:=@Array.getElem?_eq_some_iff
def aM4:=@PySem.wpAny_setField
def aM5:=@List.take_length
def aM6:=@PySem.plainId_quiet
def aM7:=@PySem.codeAny_builtin
def aM8:=@PySem.Around.under_plainId
def aM9:=@PySem.wpAny_askSetting
def aNA:=@List.append_assoc
def aNB:=@PySem.isSubtype_type
def aNC:=@PySem.wpAny_pyIter_slot
def aND:=@PySem.Obj.isFreed_of_fields
def aNE:=@PySem.Obj.data_mapFields
def aNF:=@PySem.Heap.SameBut.update
def aNG:=@PySem.Obj.cls_mapFields
def aNH:=@PySem.wpAny_attempt
def aNI:=@PySem.wpAny_fieldsOf
def aNJ:=@PySem.wpAny_setEntries_of
def aNK:=@bne_self_eq_false
def aNL:=@PySem.wpAny_setState_of
def aNM:=@Array.getElem?_eq_getElem
def aNN:=@Array.getElem?_eq_none
def aNO:=@List.length_range
def aNP:=@List.getElem_mem
def aNQ:=@List.getElem?_toArray
def aNR:=@List.getElem?_eq_none
def aNS:=@PySem.wpAny_ite_split
def aNT:=@Array.getElem?_toList
def aNU:=@Bool.not_eq_true'
def aNV:=@Array.getD_eq_getD_getElem?
def aNW:=@Nat.lt_or_ge
def aNX:=@List.getElem_of_mem
def aNY:=@List.pairwise_append
def aNZ:=@List.pairwise_cons
def aN0:=@List.find?_cons
def aN1:=@List.nil_append
def aN2:=@Array.Perm.refl
def aN3:=@of_decide_eq_false
def aN4:=@List.Perm.refl
def aN5:=@List.pairwise_singleton
def aN6:=@List.pairwise_map
def aN7:=@PySem.wpAny_newList
def aN8:=@PySem.Calls.call_function_entry
def aN9:=@List.all_eq_true
def aOA:=@List.map_map
def aOB:=@PySem.wpAny_dictEntries
def aOC:=@PySem.wpAny_dictEpoch
def aOD:=@PySem.F.slot_dict_keyiterator_next
def aOE:=@PySem.F.entry_dict_keyiterator_next
def aOF:=@PySem.F.args_dict_keyiterator_next_1
def aOG:=@PySem.wpAny_typeNameOfWhole_keyiter
def aOH:=@PySem.wpAny_typeNameOf_keyiter
def aOI:=@PySem.wpAny_isOneOf_keyiter
def aOJ:=@List.mem_map
def aOK:=@List.not_mem_nil
def aOL:=@List.map_congr_left
def aOM:=@bne_iff_ne
def aON:=@List.contains_iff_mem
def aOO:=@List.all_cons
def aOP:=@PySem.W.mg_of
def aOQ:=@List.map_append
def aOR:=@Int.add_zero
def aOS:=@Int.zero_add
def aOT:=@List.mem_map_of_mem
def aOU:=@List.reverse_cons
def aOV:=@Int.eq_ofNat_of_zero_le
end
abbrev VSP := PySem.Value -> PySem.Shared -> Prop
abbrev Fg := PySem.W.Frag
abbrev LAO := List (PySem.Addr × PySem.Obj)
abbrev SOV := PySem.Str -> Option PySem.Value
theorem mcm {α : Type} {a b : α} {l : List α} (h : a ∈ l) : a ∈ b :: l := List.mem_cons_of_mem _ h
theorem mcs {α : Type} {a : α} {l : List α} : a ∈ a :: l := List.mem_cons_self
theorem hps {h : PySem.Heap} {o p : PySem.Obj} {b : PySem.Addr} (e : h.get? b = some o) : (h.push p).get? b = some o := PySem.Heap.get?_push_of_some _ e
set_option Elab.async false
set_option linter.all false
set_option maxRecDepth 100000
namespace L2
open PySem PySem.Spec PyProof.Rows
abbrev Key:=Sum Int Str
def pS:Key->Value->Bool
 | .inl k,v=>Value.isInt k v
 | .inr x,v=>Value.isStrOf x v
def keyH(w:World):Key->Int
 | .inl k=>hashInt k
 | .inr x=>hashStr w x
theorem e9:∀ {k:Key} {v:Value},pS k v=true->(∃ i t,k=Sum.inl i/\v=Value.int i t)\/(∃ x t,k=Sum.inr x/\v=Value.str x t)
 | .inl i,v,h=>by obtain ⟨t,e⟩:=Value.isInt_shape (k:=i) (v:=v) h;exact .inl ⟨i,t,rfl,e⟩
 | .inr x,v,h=>by obtain ⟨t,e⟩:=Value.isStrOf_shape (x:=x) (v:=v) h;exact .inr ⟨x,t,rfl,e⟩
theorem wN(a b:Int):decide ((Sum.inl a:Key)=Sum.inl b)=(a==b):=by
 by_cases e:a=b
 . subst e;simp
 . have h:¬ (Sum.inl a:Key)=Sum.inl b:=λq=>e (Sum.inl.inj q);rw[aJU h];exact (aJV.mpr e).symm
theorem wO(a b:Str):decide ((Sum.inr a:Key)=Sum.inr b)=decide (a=b):=by
 by_cases e:a=b
 . subst e;simp
 . have h:¬ (Sum.inr a:Key)=Sum.inr b:=λq=>e (Sum.inr.inj q);rw[aJU h,aJU e]
theorem wP(a:Int)(b:Str):decide ((Sum.inl a:Key)=Sum.inr b)=false:=aJU (λq=>nomatch q)
theorem wQ(a:Str)(b:Int):decide ((Sum.inr a:Key)=Sum.inl b)=false:=aJU (λq=>nomatch q)
def gY(prog:Program)(w:World):PySem.KeyKind prog w Key where
 is:=pS
 hash:=keyH w
 inj:=λv a b ha hb=>by
  rcases e9 ha with ⟨i,t,rfl,rfl⟩ | ⟨x,t,rfl,rfl⟩
  . rcases e9 hb with ⟨j,u,rfl,e⟩ | ⟨y,u,rfl,e⟩
    . injection e with e1 _;rw[e1]
    . exact nomatch e
  . rcases e9 hb with ⟨j,u,rfl,e⟩ | ⟨y,u,rfl,e⟩
    . exact nomatch e
    . injection e with e1 _;rw[e1]
 byValue:=λk v h=>by rcases e9 h with ⟨i,t,rfl,rfl⟩ | ⟨x,t,rfl,rfl⟩ <;> rfl
 pyHash:=λhv h=>by
  rcases e9 hv with ⟨i,t,rfl,rfl⟩ | ⟨x,t,rfl,rfl⟩
  . exact wpAny_pyHash_int h
  . exact wpAny_pyHash_str h
 eqBool:=λhu hv h=>by
  rcases e9 hu with ⟨i,t,rfl,rfl⟩ | ⟨x,t,rfl,rfl⟩
  . rcases e9 hv with ⟨j,u,rfl,rfl⟩ | ⟨y,u,rfl,rfl⟩
    . rw[wN] at h;exact wpAny_eqBool_int h
    . rw[wP] at h;exact SeqAt.EqAt.int_str i t y u _ _ _ _ h
  . rcases e9 hv with ⟨j,u,rfl,rfl⟩ | ⟨y,u,rfl,rfl⟩
    . rw[wQ] at h;exact SeqAt.EqAt.str_int x t j u _ _ _ _ h
    . rw[wO] at h;exact wpAny_eqBool_str h
 «strs»:=λk x t v h=>by
  rcases e9 h with ⟨i,u,rfl,e⟩ | ⟨y,u,rfl,e⟩
  . exact nomatch e
  . injection e with e1 _
    subst e1;cases v <;> rfl
inductive V where
 | non | bl (b:Bool) | int (i:Int) | str (x:Str) | byt (b:Array UInt8) | flt (b:UInt64) | ref (a:Addr) | ty (n:String)
 deriving DecidableEq
def aI:V->Value->Prop
 | .non,u=>u=Value.none
 | .bl b,u=>u=Value.bool b
 | .int i,u=>∃ t,u=Value.int i t
 | .str x,u=>∃ t,u=Value.str x t
 | .byt b,u=>∃ t,u=Value.bytes b t
 | .flt b,u=>∃ t,u=Value.float b t
 | .ref a,u=>u=Value.ref a
 | .ty n,u=>u=Value.type n
abbrev aJ:List V->List Value->Prop:=Paired aI
theorem aJ.length{xs:List V}{us:List Value}(r:aJ xs us):xs.length=us.length:=aJW r
theorem aJ.get:∀ {xs:List V} {us:List Value} {i:Nat} {x:V},aJ xs us->xs[i]? = some x->∃ u,us[i]? = some u/\aI x u
 | _,_,_,_,.nil,e=>by simp at e
 | _,_,0,_,.cons r _,e=>by simp at e;subst e;exact ⟨_,rfl,r⟩
 | _,_,i+1,x,.cons _ t,e=>by
  obtain ⟨u,h1,h2⟩:=aJ.get (i:=i) (x:=x) t (by simpa using e)
  exact ⟨u,by simpa using h1,h2⟩
theorem aJ.set{x:V}{u:Value}(r:aI x u):∀ {xs:List V} {us:List Value} (i:Nat),aJ xs us->aJ (xs.set i x) (us.set i u)
 | _,_,_,.nil=>.nil
 | _,_,0,.cons _ t=>.cons r t
 | _,_,i+1,.cons q t=>.cons q (aJ.set r i t)
theorem aJ.append:∀ {xs ys:List V} {us ws:List Value},aJ xs us->aJ ys ws->aJ (xs++ys) (us++ws)
 | _,_,_,_,.nil,s=>s
 | _,_,_,_,.cons r t,s=>.cons r (aJ.append t s)
theorem aJ.take:∀ {xs:List V} {us:List Value} (n:Nat),aJ xs us->aJ (xs.take n) (us.take n)
 | _,_,0,_=>.nil
 | _,_,_+1,.nil=>.nil
 | _,_,n+1,.cons r t=>.cons r (aJ.take n t)
theorem aJ.drop:∀ {xs:List V} {us:List Value} (n:Nat),aJ xs us->aJ (xs.drop n) (us.drop n)
 | _,_,0,r=>r
 | _,_,_+1,.nil=>.nil
 | _,_,n+1,.cons _ t=>aJ.drop n t
def cW:Option V->Option Value->Prop
 | some v,some u=>aI v u
 | none,none=>True
 | _,_=>False
def KV{κ:Type}:List (κ×V)->List (κ×Value)->Prop:=Paired λ(p:κ×V) (q:κ×Value)=>p.1=q.1/\aI p.2 q.2
def kV:Key->V
 | .inl i=>.int i
 | .inr x=>.str x
inductive N where | i (n:Int) | s (x:Str) | t (xs:List N)
mutual
def aW(w:World):N->Int
 | .i n=>hashInt n
 | .s x=>hashStr w x
 | .t xs=>reduceHash (Builtin.Tuple.tupleHashOf (cX w xs))
def cX(w:World):List N->List Int
 | []=>[]
 | x::xs=>aW w x::cX w xs
end
def pT(w:World)(x:N×Addr×Value):DictEntry:=⟨aW w x.1,.ref x.2.1,x.2.2⟩
inductive HO where
 /-- a list -/
 | lst (xs:List V)
 /-- a tuple (never changes) -/
 | tup (xs:List V)
 /-- a dict whose keys are ints and texts;one whose keys are tuples of ints and texts (the empty one is both) -/
 | dK (kvs:List (Key×V)) | dT (kvs:List (List Key×V))
 | dN (kvs:List (N×Addr×V))
 /-- a set of ints: its members,its size -/
 | set (S:Key->Bool) (n:Nat)
 /-- an instance of the class at C,its dict at dx,its attributes -/
 | ins (C dx:Addr) (fs:List (Str×V))
 /-- the dict of the instance at x -/
 | own (x:Addr)
 /-- the dict of an exception -/
 | xd (fs:List (Str×V))
 /-- a bound method,f of x -/
 | met (f x:Addr)
 /-- a range object lo,lo+1,.. below hi -/
 | rng (lo hi:Int)
 /-- a thing that is known to the object (the script;a dict while a iW walks it): read,never written while it is so -/
 | frz (o:Obj) (u:HO)
 /-- a code object's table -/
 | tbl (ps:Array Value)
 /-- any other thing,by what is true of its one object (a def of one's own: SetO a S n:=HO.ext λh=>..) -/
 | ext (φ:Heap->Prop)
abbrev Hp:=Addr->Option HO
def upd(H:Hp)(a:Addr)(o:HO):Hp:=λb=>if b=a then some o else H b
theorem bA{H:Hp}{a:Addr}{o:HO}:upd H a o a=some o:=by unfold upd;rw[if_pos rfl]
theorem aP{H:Hp}{a b:Addr}{o:HO}(h:b≠a):upd H a o b=H b:=by unfold upd;rw[if_neg h]
theorem bN{H:Hp}{a b:Addr}{o:HO}(h:H a=some o)(h':H b=none):a≠b:=by intro e;subst e;rw[h] at h';cases h'
def fA(h:Heap)(a:Addr)(items:Array Value):Prop:=∃ o,h.get? a=some o/\o.cls=.type "tuple" /\ o.dict=none/\∃ n,o.data=.seq items n
theorem fA.isTup{h:Heap}{a:Addr}{items:Array Value}(x:fA h a items):IsTup h a items:=by obtain ⟨o,e,c,_,n,d⟩:=x;exact ⟨o,e,c,n,d⟩
theorem fA.new(h:Heap)(items:Array Value):fA (h.push { cls:=.type "tuple", data:=.seq items }) h.objs.size items:=⟨_,aJX _ rfl,rfl,rfl,_,rfl⟩
section
variable (P:Program)(w:World)
def bE(H:Hp)(h:Heap)(a:Addr):HO->Prop
 | .lst xs=>xs.length<=sizeLine/\∃ (its:List Value) (n:Nat),aJ xs its/\h.get? a=some { cls:=.type "list", data:=.seq its.toArray n }
 | .tup xs=>xs.length<=sizeLine/\∃ its:List Value,aJ xs its/\fA h a its.toArray
 | .dK kvs=>kvs.length<=sizeLine/\(a==sysModules)=false/\∃ vs,KV kvs vs/\h.DictOf (gY P w) a vs
 | .dT kvs => kvs.length ≤ sizeLine ∧ (a == sysModules) = false ∧ ∃ xs : List (List Key × Addr × Value),
     Paired (λ(p:List Key×V) (q:List Key×Addr×Value)=>p.1=q.1/\H q.2.1=some (.tup (p.1.map kV))/\aI p.2 q.2.2) kvs xs /\
     ∃ o es ep,h.get? a=some o/\o.ExactDict/\o.data=.dict es ep/\es.toList=xs.map (entryOfKey (tupleKind (gY P w)))/\(xs.map (·.1)).Nodup
 | .dN kvs => kvs.length ≤ sizeLine ∧ (a == sysModules) = false ∧ ∃ xs : List (N × Addr × Value), Paired (fun (p : N × Addr × V) (q : N × Addr × Value) => p.1 = q.1 ∧ p.2.1 = q.2.1 ∧ aI p.2.2 q.2.2) kvs xs ∧
     ∃ o es ep,h.get? a=some o/\o.ExactDict/\o.data=.dict es ep/\es.toList=xs.map (pT w)/\(xs.map (·.1)).Nodup
 | .set S n=>h.SetOf (gY P w) a S n
 | .ins C dx fs => H dx = some (.own a) ∧ fs.length ≤ 1000 ∧ dx ≠ a ∧ h.get? a = some (PySem.W.instObj C dx) ∧
     ∃ mA,h.Ns1 dx mA/\(∀ f,cW (fs.lookup f) (mA f))/\PySem.Within mA (fs.map (·.1))
 | .own _=>∃ o,h.get? a=some o
 | .xd fs=>∃ mA,h.Ns1 a mA/\∀ f,cW (fs.lookup f) (mA f)
 | .rng lo hi=>∃ t u v,h.get? a=some { cls:=.type "range", data:=.fields #[.int lo t,.int hi u,.int 1 v] }
 | .frz o u=>h.get? a=some o/\bE H h a u
 | .tbl ps=>h.get? a=some { cls:=.none,data:=.fields ps }
 | .met f x=>h.get? a=some (PySem.W.methodObj (.ref f) (.ref x))
 | .ext φ=>φ h/\(∃ o,h.get? a=some o)/\∀ h1 h2:Heap,φ h1->(∀ o,h1.get? a=some o->h2.get? a=some o)->φ h2
def HOk(H:Hp)(h:Heap):Prop:=∀ a o,H a=some o->bE P w H h a o
end
section
variable {P:Program}{w:World}{H H':Hp}{h h':Heap}{a:Addr}{o:HO}
theorem bE.lt(x:bE P w H h a o):a<h.objs.size:=by
 cases o with
 | lst xs=>obtain ⟨_,_,_,_,e⟩:=x;exact aJY e
 | tup xs=>obtain ⟨_,_,_,p⟩:=x;exact p.isTup.lt
 | dK kvs=>obtain ⟨_,_,_,_,o,_,_,e,_⟩:=x;exact aJY e
 | dT kvs=>obtain ⟨_,_,_,_,o,_,_,e,_⟩:=x;exact aJY e
 | dN kvs=>obtain ⟨_,_,_,_,o,_,_,e,_⟩:=x;exact aJY e
 | set S n=>obtain ⟨o,_,_,_,e,_⟩:=x;exact aJY e
 | ins C dx fs=>obtain ⟨_,_,_,e,_⟩:=x;exact aJY e
 | own y=>obtain ⟨_,e⟩:=x;exact aJY e
 | xd fs=>obtain ⟨_,⟨_,_,_,e,_⟩,_⟩:=x;exact aJY e
 | rng lo hi=>obtain ⟨_,_,_,e⟩:=x;exact aJY e
 | frz ob u=>obtain ⟨e,_⟩:=x;exact aJY e
 | tbl ps=>exact aJY (show h.get? a=some _ from x)
 | met f y=>exact aJY (show h.get? a=some _ from x)
 | ext φ=>obtain ⟨_,⟨_,e⟩,_⟩:=x;exact aJY e
theorem Paired.mapP{α β:Type}{F G:α->β->Prop}:∀ {l₁:List α} {l₂:List β},Paired F l₁ l₂->(∀ a b,F a b->G a b)->Paired G l₁ l₂
 | _,_,.nil,_=>.nil
 | _,_,.cons r t,f=>.cons (f _ _ r) (Paired.mapP t f)
theorem bE.stay(x:bE P w H h a o)(k:∀ b u,(b=a\/H b=some (.own a))->h.get? b=some u->h'.get? b=some u)(ho:∀ b,H b=some (.own a)->H' b=some (.own a))(ht:∀ b xs,H b=some (.tup xs)->H' b=some (.tup xs)):bE P w H' h' a o:=by
 induction o with
 | lst xs=>obtain ⟨z,its,n,r,e⟩:=x;exact ⟨z,its,n,r,k _ _ (.inl rfl) e⟩
 | tup xs=>obtain ⟨z,its,r,ob,e,c⟩:=x;exact ⟨z,its,r,ob,k _ _ (.inl rfl) e,c⟩
 | dK kvs=>obtain ⟨z,y,vs,r,ob,es,ep,e,c⟩:=x;exact ⟨z,y,vs,r,ob,es,ep,k _ _ (.inl rfl) e,c⟩
 | dT kvs=>obtain ⟨z,y,xs,r,ob,es,ep,e,c⟩:=x;exact ⟨z,y,xs,Paired.mapP r λp q z=>⟨z.1,ht _ _ z.2.1,z.2.2⟩,ob,es,ep,k _ _ (.inl rfl) e,c⟩
 | dN kvs=>obtain ⟨z,y,xs,r,ob,es,ep,e,c⟩:=x;exact ⟨z,y,xs,r,ob,es,ep,k _ _ (.inl rfl) e,c⟩
 | set S n=>obtain ⟨ob,es,ep,t,e,c⟩:=x;exact ⟨ob,es,ep,t,k _ _ (.inl rfl) e,c⟩
 | ins C dx fs=>obtain ⟨d,z,ne,e,mA,⟨od,es,ep,e2,c⟩,r⟩:=x;exact ⟨ho _ d,z,ne,k _ _ (.inl rfl) e,mA,⟨od,es,ep,k _ _ (.inr d) e2,c⟩,r⟩
 | own y=>obtain ⟨ob,e⟩:=x;exact ⟨ob,k _ _ (.inl rfl) e⟩
 | xd fs=>obtain ⟨mA,⟨od,es,ep,e,c⟩,r⟩:=x;exact ⟨mA,⟨od,es,ep,k _ _ (.inl rfl) e,c⟩,r⟩
 | rng lo hi=>obtain ⟨t,u,v,e⟩:=x;exact ⟨t,u,v,k _ _ (.inl rfl) e⟩
 | frz ob u ih=>obtain ⟨e,q⟩:=x;exact ⟨k _ _ (.inl rfl) e,ih q⟩
 | tbl ps=>have e:h.get? a=some { cls:=.none,data:=.fields ps }:=x;show h'.get? a=some { cls:=.none,data:=.fields ps };exact k a _ (.inl rfl) e
 | met f y=>have e:h.get? a=some (PySem.W.methodObj (.ref f) (.ref y)):=x;show h'.get? a=some (PySem.W.methodObj (.ref f) (.ref y));exact k a _ (.inl rfl) e
 | ext φ=>obtain ⟨p,⟨o,e⟩,st⟩:=x;exact ⟨st _ _ p λo q=>k _ _ (.inl rfl) q,⟨o,k _ _ (.inl rfl) e⟩,st⟩
theorem HOk.lt(x:HOk P w H h)(e:H a=some o):a<h.objs.size:=(x a o e).lt
theorem HOk.fresh(x:HOk P w H h)(e:h.objs.size<=a):H a=none:=by
 cases q:H a with
 | none=>rfl
 | some u=>exact absurd (aJZ (x.lt q) e) (aJ0 _)
theorem HOk.kept(x:HOk P w H h)(k:∀ b u,h.get? b=some u->h'.get? b=some u):HOk P w H h':=λa o e =>
 (x a o e).stay (λb u _ q=>k b u q) (λ_ q=>q) λ_ _ q=>q
theorem HOk.laid(x:HOk P w H h)(k:∀ b u,h.get? b=some u->h'.get? b=some u)(hp:h.objs.size<=a)(new:bE P w (upd H a o) h' a o):HOk P w (upd H a o) h':=λb u e=>by
 have hn:=x.fresh hp;by_cases hb:b=a
 . subst hb;rw[bA] at e;cases e;exact new
 . rw[aP hb] at e;exact (x b u e).stay (λc v _ q=>k c v q) (λc q=>by rw[aP (bN q hn)];exact q) λc xs q=>by rw[aP (bN q hn)];exact q
end
def Rd(H:Hp)(a:Addr)(u:HO):Prop:=H a=some u\/∃ o,H a=some (.frz o u)
theorem Rd.ok{P:Program}{w:World}{H:Hp}{h:Heap}{a:Addr}{u:HO}(r:Rd H a u)(x:HOk P w H h):bE P w H h a u:=by
 rcases r with r | ⟨o,r⟩
 . exact x a u r
 . obtain ⟨_,q⟩:=x a _ r;exact q
def Mut:Option HO->Prop
 | some (.lst _)=>True
 | some (.dK _)=>True
 | some (.dT _)=>True
 | some (.dN _)=>True
 | some (.set _ _)=>True
 | some (.ins _ _ _)=>True
 | some (.ext _)=>True
 | _=>False
section
variable {P:Program}{w:World}{H:Hp}{h h':Heap}{x e:Addr}{o':HO}
theorem HOk.write(ok:HOk P w H h)(mu:Mut (H x))(he:e=x\/H e=some (.own x))(k:∀ b u,b≠e->h.get? b=some u->h'.get? b=some u)(heo:∃ u,h'.get? e=some u)(new:bE P w (upd H x o') h' x o'):HOk P w (upd H x o') h':=λb u q=>by
 have nown:∀ c y,H c=some (.own y)->c≠x:=λc y r z=>by subst z;rw[r] at mu;exact mu
 have ntup:∀ c xs,H c=some (.tup xs)->c≠x:=λc xs r z=>by subst z;rw[r] at mu;exact mu
 by_cases hb:b=x
 . subst hb;rw[bA] at q;cases q;exact new
 . rw[aP hb] at q;by_cases hbe:b=e
   . have q':H b=some (.own x):=by
       rcases he with z | z
       . exact absurd (hbe.trans z) hb
       . rw[hbe];exact z
     rw[q] at q';cases q';obtain ⟨v,hv⟩:=heo;exact ⟨v,by rw[hbe];exact hv⟩
   . refine (ok b u q).stay (λc v hc r=>k c v ?_ r) (λc r=>by rw[aP (nown c b r)];exact r) λc xs r=>by rw[aP (ntup c xs r)];exact r
     rcases hc with rfl | hc
     . exact hbe
     . rintro rfl;rcases he with z | z
       . exact nown c b hc z
       . rw[hc] at z;cases z;exact hb rfl
end
structure Un(fs ex:List Addr)(H H':Hp)(h h':Heap):Prop where
 keep:∀ b o,h.get? b=some o->H b=none->b∉fs->b∉ex->h'.get? b=some o
 slot:∀ b o,h.get? b=some o->H b=none->b∈fs->b∉ex->∃ sl,h'.get? b=some { o with slots:=sl }
 free:∀ b o,h.get? b=some o->H b=none->b∉ex->H' b=none
 there:∀ b o,h.get? b=some o->b∉ex->∃ o',h'.get? b=some o'
 tups:∀ b xs,H b=some (.tup xs)->H' b=some (.tup xs)
 frzs:∀ b o u,H b=some (.frz o u)->H' b=some (.frz o u)
 tbls:∀ b ps,H b=some (.tbl ps)->∃ more,H' b=some (.tbl (ps++more))
section
variable {fs fs' ex ex':List Addr}{H H1 H2:Hp}{h h1 h2 h':Heap}{a x e:Addr}{o:HO}
theorem Un.any(u:Un fs ex H H1 h h1){b:Addr}{ob:Obj}(q:h.get? b=some ob)(n:H b=none)(hx:b∉ex):∃ sl,h1.get? b=some { ob with slots:=sl }:=by
 by_cases hb:b∈fs
 . exact u.slot b ob q n hb hx
 . exact ⟨ob.slots,u.keep b ob q n hb hx⟩
theorem Un.kept(k:∀ b u,h.get? b=some u->h'.get? b=some u):Un fs ex H H h h' :=
 ⟨λb ob q _ _ _=>k b ob q,λb ob q _ _ _=>⟨ob.slots,k b ob q⟩,λ_ _ _ n _=>n,λb ob q _=>⟨ob,k b ob q⟩,λ_ _ q=>q,λ_ _ _ q=>q,λ_ ps q=>⟨#[],by rw[q];simp⟩⟩
theorem Un.refl:Un fs ex H H h h:=Un.kept λ_ _ q=>q
theorem Un.laid(k:∀ b u,h.get? b=some u->h'.get? b=some u)(hp:h.objs.size<=a)(hn:H a=none):Un fs ex H (upd H a o) h h' where
 keep:=λb u q _ _ _=>k b u q
 slot:=λb u q _ _ _=>⟨u.slots,k b u q⟩
 free:=λb u q n _=>by rw[aP (aJ1 (aJZ (aJY q) hp))];exact n
 there:=λb u q _=>⟨u,k b u q⟩
 tups:=λb xs q=>by rw[aP (bN q hn)];exact q
 frzs:=λb u xs q=>by rw[aP (bN q hn)];exact q
 tbls:=λb ps q=>⟨#[],by rw[aP (bN q hn),q];simp⟩
theorem Un.write(mu:Mut (H x))(he:e=x\/H e=some (.own x))(k:∀ b u,b≠e->h.get? b=some u->h'.get? b=some u)(heo:∃ u,h'.get? e=some u):Un fs ex H (upd H x o) h h':=by
 have hx:∀ b,H b=none->b≠x:=λb n z=>by subst z;rw[n] at mu;exact mu
 have hb:∀ b,H b=none->b≠e:=λb n z=>by
  subst z;rcases he with r | r
  . exact hx b n r
  . rw[n] at r;cases r
 have hm:∀ b u,H b=some u -> ¬ Mut (some u)->b≠x:=λb u q nm z=>by subst z;rw[q] at mu;exact nm mu
 refine ⟨λb u q n _ _=>k b u (hb b n) q,λb u q n _ _=>⟨u.slots,k b u (hb b n) q⟩,λb u q n _=>by rw[aP (hx b n)];exact n,λb u q _=>?_,
  λb xs q=>by rw[aP (hm b _ q λz=>z)];exact q,λb u xs q=>by rw[aP (hm b _ q λz=>z)];exact q,λb ps q=>⟨#[],by rw[aP (hm b _ q λz=>z),q];simp⟩⟩
 by_cases hbe:b=e
 . subst hbe;exact heo
 . exact ⟨u,k b u hbe q⟩
end
def trk(h:Heap)(H:Hp):List Addr:=(List.range h.objs.size).filter λa=>(H a).isSome
def fB(h:Heap)(H:Hp):Heap:=PySem.W.hideAll h (trk h H)
theorem wR(h:Heap)(H:Hp):(fB h H).objs.size=h.objs.size:=PySem.W.hideAll_size _ _
theorem wS{h:Heap}{H:Hp}{b:Addr}{o:Obj}(e:h.get? b=some o)(n:H b=none):(fB h H).get? b=some o :=
 aJ2 _ e λhm=>by have q:(H b).isSome=true:=(List.mem_filter.mp hm).2;rw[n] at q;simp at q
theorem wT{h:Heap}{H:Hp}{b:Addr}{o:Obj}(e:(fB h H).get? b=some o):h.get? b=some o/\H b=none:=by
 have e':h.get? b=some o:=PySem.W.of_hideAll (trk h H) e;refine ⟨e',?_⟩;cases q:H b with
 | none=>rfl
 | some x =>
  have hm:b∈trk h H:=List.mem_filter.mpr ⟨aJ3.mpr (aJY e'),by simp[q]⟩
  have z:(fB h H).get? b=none:=PySem.W.hideAll_none (trk h H) hm;rw[z] at e;cases e
def wU(g h:Heap)(L:Addr):LAO:=(List.range h.objs.size).filterMap λa=>if a=L\/(g.get? a).isSome=true then none else (h.get? a).map λo=>(a,o)
def aL(g h:Heap)(L d:Addr):LAO:=(wU g h L).filter λp=>decide (p.1≠d)
structure Mod(K:Fg)(mg:SOV)(base:Heap):Prop where
 kin:K.In base
 glob:base.Ns mainGlobals mg
 blt:∃ mb,base.Ns builtinsNs mb/\∀ x:Str,x ≠ "__name__" -> mb x=bootBuiltins x
 nolimit:base.NoLimit
structure Cx where
 prog:Program
 w:World
 K:Fg
 mg:SOV
 base:Heap
 A:Around
 N:List Str
 s₀:Shared
 H₀:Hp
 env:Env
 outer:List Env
 stack:List Env
 ex:List Addr
 fn:Str->Bool
 calm:Bool
 pn:LAO
 xe:VSP
def frs(l:List Env):List Addr:=l.filterMap (·.frame)
abbrev Cx.fs(X:Cx):List Addr:=frs X.outer
def Vis(sc:Scope)(x:Str):Prop:=sc.names.lookup x=some .local\/sc.names.lookup x=some .cell\/sc.names.lookup x=some .free
def Loc(sc:Scope)(x:Str):Prop:=sc.names.lookup x=some .local\/sc.names.lookup x=some .cell
def Look(env:Env)(h:Heap)(m:SOV)(x:Str)(u:Value):Prop :=
 (env.kindOf x=some .local/\m x=some u)\/((env.kindOf x=some .cell\/env.kindOf x=some .free)/\∃ c,env.cells.lookup x=some c/\h.IsCell c (some u))
structure Cx.Ok(X:Cx):Prop where
 mod:Mod X.K X.mg X.base
 kind:X.env.scope.kind=.function
 glob:X.env.globals=mainGlobals
 blt:X.env.builtins=builtinsNs
 above:X.s₀.heap.objs.size<=X.env.locals
 inj:∀ x y c,X.env.cells.lookup x=some c->X.env.cells.lookup y=some c->x=y
 has:∀ x,(X.env.kindOf x=some .cell\/X.env.kindOf x=some .free)->∃ c,X.env.cells.lookup x=some c
 cab:∀ x c,X.fn x=true->X.env.cells.lookup x=some c->X.s₀.heap.objs.size<=c
 hd:X.calm=true->X.A.handled=none
 frames:X.A.frames=some X.stack
 stk:X.stack=X.outer\/(X.stack=X.env::X.outer/\X.env.frame=some X.env.locals)
 exf:∀ b∈X.ex,b≠X.env.locals/\∀ x c,X.env.cells.lookup x=some c->c≠b
 bs:∀ b o,X.base.get? b=some o->X.s₀.heap.get? b=some o/\X.H₀ b=none
 bsz:X.base.objs.size<=X.s₀.heap.objs.size
 noex:∀ b o,X.base.get? b=some o->b∉X.ex
 exfs:∀ b∈X.ex,b∉X.fs
 funs:X.s₀.heap.FunFrames X.base X.outer
 frf:∀ b∈X.fs,X.H₀ b=none
structure Inv(X:Cx)(aA:LAO)(σ:List (Option V))(H:Hp)(s:Shared):Prop where
 ok:X.Ok
 os:s.os=X.s₀.os
 bare:AllBare s.gens
 base:Un X.fs X.ex X.H₀ H X.s₀.heap s.heap
 loc:∃ m,s.heap.Ns X.env.locals m/\∀ (i:Nat) (x:Str) (v:V),X.N[i]? = some x->σ[i]? = some (some v)->Vis X.env.scope x->∃ u,aI v u/\Look X.env s.heap m x u
 cell:∀ x c,X.env.cells.lookup x=some c->∃ v,s.heap.IsCell c v
 free:H X.env.locals=none
 freeC:∀ x c,X.env.cells.lookup x=some c->H c=none
 pin:∀ p∈X.pn++aA,s.heap.get? p.1=some p.2/\H p.1=none/\p.1≠X.env.locals/\p.1∉X.fs/\∀ v,p.2.data ≠ .cell v
 hok:HOk X.prog X.w H s.heap
 len:σ.length=X.N.length
section
variable {X:Cx}{aA:LAO}{σ:List (Option V)}{H H':Hp}{s:Shared}{h':Heap}
theorem Cx.Ok.nofr(ok:X.Ok){b:Addr}{o:Obj}(e:X.base.get? b=some o):b∉X.fs:=λhb=>by have:=(ok.funs.mem hb).1;rw[e] at this;cases this
theorem Inv.bs(I:Inv X aA σ H s):∀ b o,X.base.get? b=some o->s.heap.get? b=some o/\H b=none:=λb o e =>
 ⟨I.base.keep b o (I.ok.bs b o e).1 (I.ok.bs b o e).2 (I.ok.nofr e) (I.ok.noex b o e),I.base.free b o (I.ok.bs b o e).1 (I.ok.bs b o e).2 (I.ok.noex b o e)⟩
theorem Inv.bk(I:Inv X aA σ H s):∀ b o,X.base.get? b=some o->s.heap.get? b=some o:=λb o e=>(I.bs b o e).1
theorem Inv.mod(I:Inv X aA σ H s):Mod X.K X.mg X.base:=I.ok.mod
theorem Inv.kIn(I:Inv X aA σ H s):X.K.In s.heap:=I.ok.mod.kin.keeps I.bk
theorem Inv.lt(I:Inv X aA σ H s):X.env.locals<s.heap.objs.size:=let ⟨_,hn,_⟩:=I.loc;hn.lt
theorem Inv.sz(I:Inv X aA σ H s):X.s₀.heap.objs.size<=s.heap.objs.size:=aJ4 I.ok.above (aJ5 I.lt)
theorem Inv.nofs(I:Inv X aA σ H s){a:Addr}(h:s.heap.objs.size<=a):a∉X.fs:=λhb=>by obtain ⟨_,o,ho,_⟩:=I.ok.funs.mem hb;exact absurd (aJZ (aJY ho) (aJ4 I.sz h)) (aJ0 _)
theorem Inv.cne(I:Inv X aA σ H s):∀ x c,X.env.cells.lookup x=some c->c≠X.env.locals:=λx c e z=>by obtain ⟨v,o,ho,hd⟩:=I.cell x c e;obtain ⟨m,⟨o',es,ep,ho',hd',_⟩,_⟩:=I.loc;rw[z,ho'] at ho;cases ho;rw[hd'] at hd;cases hd
theorem Inv.funs(I:Inv X aA σ H s):s.heap.FunFrames X.base X.outer:=by
 have all:∀ (l:List Env),(∀ b∈frs l,b∈X.fs)->X.s₀.heap.FunFrames X.base l->s.heap.FunFrames X.base l:=by
  intro l
  induction l with
  | nil=>intro _ _;trivial
  | cons env r ih =>
   intro hs hl;obtain ⟨hk,⟨L,o,hf,hn,ho,hd⟩,hr⟩:=hl;have hL:L∈X.fs:=hs L (by unfold frs;rw[aJ6,hf];exact mcs)
   obtain ⟨sl,e⟩:=I.base.slot L o ho (I.ok.frf L hL) hL λz=>I.ok.exfs L z hL;exact ⟨hk,⟨L,_,hf,hn,e,hd⟩,ih (λb hb=>hs b (by unfold frs;rw[aJ6,hf];exact mcm hb)) hr⟩
 exact all X.outer (λ_ hb=>hb) I.ok.funs
theorem Inv.stack(I:Inv X aA σ H s):s.heap.FunFrames X.base X.stack:=by
 rcases I.ok.stk with e | ⟨e,hf⟩
 . rw[e];exact I.funs
 . rw[e];obtain ⟨m,hn,_⟩:=I.loc;refine .cons (by rw[I.ok.kind];decide) hf hn ?_ I.funs
   exact Heap.get?_none_of_le (aJ4 I.ok.bsz I.ok.above)
theorem Inv.stkSub(I:Inv X aA σ H s):∀ b∈frs X.stack,b∈X.env.locals::X.fs:=λb hb=>by
 rcases I.ok.stk with e | ⟨e,hf⟩
 . rw[e] at hb;exact mcm hb
 . rw[e] at hb;unfold frs at hb;rw[aJ6,hf] at hb;exact hb
theorem Inv.stkFree(I:Inv X aA σ H s):∀ b∈frs X.stack,H b=none:=λb hb=>by
 rcases aJ7.mp (I.stkSub b hb) with e | hb
 . rw[e];exact I.free
 . obtain ⟨_,o,ho,_⟩:=I.ok.funs.mem hb;exact I.base.free b o ho (I.ok.frf b hb) λz=>I.ok.exfs b z hb
theorem Inv.step{g':Array GenState}{t':Nat}{d':Drawn}{ch:List Addr}(I:Inv X aA σ H s)(hch:∀ b∈ch,(b∈X.ex\/X.s₀.heap.objs.size<=b)/\b≠X.env.locals/\(∀ x c,X.env.cells.lookup x=some c->c≠b)/\∀ p∈X.pn++aA,p.1≠b)(keep:∀ b o,b≠X.env.locals->b∉X.fs->b∉ch->s.heap.get? b=some o->H b=none->h'.get? b=some o)(slot:∀ b o,b≠X.env.locals->b∈X.fs->b∉ch->s.heap.get? b=some o->H b=none->∃ sl,h'.get? b=some { o with slots:=sl })(free:∀ b o,b∉ch->s.heap.get? b=some o->H b=none->H' b=none)(there:∀ b o,b∉ch->s.heap.get? b=some o->∃ o',h'.get? b=some o')(tups:∀ b xs,H b=some (.tup xs)->H' b=some (.tup xs))(frzs:∀ b o u,H b=some (.frz o u)->H' b=some (.frz o u))(tbls:∀ b ps,H b=some (.tbl ps)->∃ more,H' b=some (.tbl (ps++more)))(ns:∀ m,s.heap.Ns X.env.locals m->h'.Ns X.env.locals m)(hok:HOk X.prog X.w H' h')(hg:AllBare g'):Inv X aA σ H' { s with heap:=h',gens:=g',drawn:=d',toks:=t' }:=by
 have neL:∀ b o,X.s₀.heap.get? b=some o->b≠X.env.locals:=λb o e=>aJ1 (aJZ (aJY e) I.ok.above);have neC:∀ b o,X.s₀.heap.get? b=some o->b∉X.ex->b∉ch:=λb o e hx hb=>by
  rcases (hch b hb).1 with z | z
  . exact hx z
  . exact absurd (aJZ (aJY e) z) (aJ0 _)
 have cellK:∀ x c,X.env.cells.lookup x=some c->∀ v,s.heap.IsCell c v->h'.IsCell c v:=λx c e v ⟨o,ho,hd⟩=>by
  have nch:c∉ch:=λz=>(hch c z).2.2.1 x c e rfl;by_cases hc:c∈X.fs
  . obtain ⟨sl,q⟩:=slot c o (I.cne x c e) hc nch ho (I.freeC x c e);exact ⟨_,q,hd⟩
  . exact ⟨o,keep c o (I.cne x c e) hc nch ho (I.freeC x c e),hd⟩
 refine ⟨I.ok,I.os,hg,⟨λb o e n hb hx=>?_,λb o e n hb hx=>?_,λb o e n hx=>?_,λb o e hx=>?_,λb xs e=>tups b xs (I.base.tups b xs e),λb o xs e=>frzs b o xs (I.base.frzs b o xs e),λb ps e=>?_⟩,?_,λx c e=>?_,?_,λx c e=>?_,λp hp=>?_,hok,I.len⟩
 . exact keep b o (neL b o e) hb (neC b o e hx) (I.base.keep b o e n hb hx) (I.base.free b o e n hx)
 . obtain ⟨sl,e1⟩:=I.base.slot b o e n hb hx;obtain ⟨sl',e2⟩:=slot b _ (neL b o e) hb (neC b o e hx) e1 (I.base.free b o e n hx);exact ⟨sl',e2⟩
 . obtain ⟨o',e1⟩:=I.base.there b o e hx;exact free b o' (neC b o e hx) e1 (I.base.free b o e n hx)
 . obtain ⟨o',e1⟩:=I.base.there b o e hx;exact there b o' (neC b o e hx) e1
 . obtain ⟨m1,e1⟩:=I.base.tbls b ps e;obtain ⟨m2,e2⟩:=tbls b _ e1;exact ⟨m1++m2,by rw[e2,Array.append_assoc]⟩
 . obtain ⟨m,hn,hl⟩:=I.loc;refine ⟨m,ns m hn,λi x v e1 e2 e3=>?_⟩;obtain ⟨u,r,l⟩:=hl i x v e1 e2 e3;refine ⟨u,r,?_⟩;rcases l with l | ⟨k,c,e,z⟩
   . exact .inl l
   . exact .inr ⟨k,c,e,cellK x c e _ z⟩
 . obtain ⟨v,z⟩:=I.cell x c e;exact ⟨v,cellK x c e v z⟩
 . obtain ⟨m,⟨o,_,_,ho,_⟩,_⟩:=I.loc;exact free _ o (λz=>(hch _ z).2.1 rfl) ho I.free
 . obtain ⟨v,o,ho,hd⟩:=I.cell x c e;exact free c o (λz=>(hch c z).2.2.1 x c e rfl) ho (I.freeC x c e)
 . obtain ⟨e,n,ne,nf,d⟩:=I.pin p hp;have nch:p.1∉ch:=λz=>(hch p.1 z).2.2.2 p hp rfl;exact ⟨keep p.1 p.2 ne nf nch e n,free p.1 p.2 nch e n,ne,nf,d⟩
theorem Inv.un{t':Nat}(I:Inv X aA σ H s)(u:Un X.fs [] H H' s.heap h')(hok:HOk X.prog X.w H' h'):Inv X aA σ H' { s with heap:=h',toks:=t' }:=by
 obtain ⟨m,⟨o,es,ep,ho,r⟩,_⟩:=id I.loc;obtain ⟨sl,hL⟩:=u.any ho I.free (by simp)
 exact I.step (g':=s.gens) (d':=s.drawn) (ch:=[]) (λ_ z=>nomatch z) (λb o _ hb _ e n=>u.keep b o e n hb (by simp)) (λb o _ hb _ e n=>u.slot b o e n hb (by simp)) (λb o _ e n=>u.free b o e n (by simp)) (λb o _ e=>u.there b o e (by simp)) u.tups u.frzs u.tbls (λm' hm=>by
  obtain ⟨o',es',ep',ho',r'⟩:=hm;rw[ho] at ho';cases ho';exact ⟨_,es',ep',hL,r'⟩) hok I.bare
theorem Inv.call{g':Array GenState}{t':Nat}{d':Drawn}{ch:List Addr}(I:Inv X aA σ H s)(u:Un (frs X.stack) ch H H' s.heap h')(hok:HOk X.prog X.w H' h')(hg:AllBare g')(hch:∀ b∈ch,(b∈X.ex\/X.s₀.heap.objs.size<=b)/\b≠X.env.locals/\(∀ x c,X.env.cells.lookup x=some c->c≠b)/\∀ p∈X.pn++aA,p.1≠b):Inv X aA σ H' { s with heap:=h',gens:=g',drawn:=d',toks:=t' }:=by
 obtain ⟨m,⟨o,es,ep,ho,r⟩,_⟩:=id I.loc;obtain ⟨sl,hL⟩:=u.any ho I.free λz=>(hch _ z).2.1 rfl;exact I.step (ch:=ch) hch (λb o hL hb hc e n=>u.keep b o e n (λz=>(aJ7.mp (I.stkSub b z)).elim hL hb) hc) (λb o _ _ hc e n=>u.any e n hc) (λb o hc e n=>u.free b o e n hc) (λb o hc e=>u.there b o e hc) u.tups u.frzs u.tbls (λm' hm=>by
  obtain ⟨o',es',ep',ho',r'⟩:=hm;rw[ho] at ho';cases ho';exact ⟨_,es',ep',hL,r'⟩) hok hg
theorem Inv.turned{t':Nat}{it:Addr}(I:Inv X aA σ H s)(k:∀ b o,b≠it->s.heap.get? b=some o->h'.get? b=some o)(hn:H it=none)(hL:it≠X.env.locals)(h1:it∈X.ex\/X.s₀.heap.objs.size<=it)(h2:∀ x c,X.env.cells.lookup x=some c->c≠it)(h3:∀ p∈X.pn++aA,p.1≠it):Inv X aA σ H { s with heap:=h',toks:=t' }:=by
 have nit:∀ b u,H b=some u->b≠it:=λb u e z=>by rw[z,hn] at e;cases e
 refine I.step (g':=s.gens) (d':=s.drawn) (ch:=[it]) (λb hb=>?_) (λb o _ _ hc e _=>k b o (λz=>hc (by simp[z])) e) (λb o _ _ hc e _=>⟨o.slots,k b o (λz=>hc (by simp[z])) e⟩) (λ_ _ _ _ n=>n)
  (λb o hc e=>⟨o,k b o (λz=>hc (by simp[z])) e⟩) (λ_ _ e=>e) (λ_ _ _ e=>e) (λb ps e=>⟨#[],by rw[e];simp⟩) (λm hm=>?_) (λb u e=>?_) I.bare
 . have e:b=it:=by simpa using hb
   subst e;exact ⟨h1,hL,h2,h3⟩
 . obtain ⟨o,es,ep,ho,r⟩:=hm;exact ⟨o,es,ep,k _ o (Ne.symm hL) ho,r⟩
 . refine (I.hok b u e).stay (λc v hc q=>k c v ?_ q) (λ_ q=>q) λ_ _ q=>q;rcases hc with z | z
   . rw[z];exact nit b u e
   . exact nit c _ z
theorem Inv.tok(I:Inv X aA σ H s)(t:Nat):Inv X aA σ H { s with toks:=t }:=I.un (h':=s.heap) (t':=t) Un.refl I.hok
theorem Inv.kept{t':Nat}(I:Inv X aA σ H s)(k:∀ b u,s.heap.get? b=some u->h'.get? b=some u):Inv X aA σ H { s with heap:=h',toks:=t' }:=I.un (Un.kept k) (I.hok.kept k)
theorem Inv.laid{a:Addr}{o:HO}{t':Nat}(I:Inv X aA σ H s)(k:∀ b u,s.heap.get? b=some u->h'.get? b=some u)(hp:s.heap.objs.size<=a)(new:bE X.prog X.w (upd H a o) h' a o):Inv X aA σ (upd H a o) { s with heap:=h',toks:=t' }:=I.un (Un.laid k hp (I.hok.fresh hp)) (I.hok.laid k hp new)
theorem Inv.write{x e:Addr}{o:HO}{t':Nat}(I:Inv X aA σ H s)(mu:Mut (H x))(he:e=x\/H e=some (.own x))(k:∀ b u,b≠e->s.heap.get? b=some u->h'.get? b=some u)(heo:∃ u,h'.get? e=some u)(new:bE X.prog X.w (upd H x o) h' x o):Inv X aA σ (upd H x o) { s with heap:=h',toks:=t' }:=I.un (Un.write mu he k heo) (I.hok.write mu he k heo new)
theorem Inv.weak{σ':List (Option V)}(I:Inv X aA σ H s)(hl:σ'.length=σ.length)(w:∀ (i:Nat) v,σ'[i]? = some (some v)->σ[i]? = some (some v)):Inv X aA σ' H s :=
 ⟨I.ok,I.os,I.bare,I.base,let ⟨m,hn,hl'⟩:=I.loc;⟨m,hn,λi x v e1 e2 e3=>hl' i x v e1 (w i v e2) e3⟩,I.cell,I.free,I.freeC,I.pin,I.hok,hl.trans I.len⟩
theorem Inv.pins_of{pins':LAO}(I:Inv X aA σ H s)(h:∀ p∈pins',s.heap.get? p.1=some p.2/\H p.1=none/\p.1≠X.env.locals/\p.1∉X.fs/\∀ v,p.2.data ≠ .cell v):Inv X pins' σ H s :=
 ⟨I.ok,I.os,I.bare,I.base,I.loc,I.cell,I.free,I.freeC,λp hp=>(aJ8.mp hp).elim (λz=>I.pin p (aJ9 _ z)) (h p),I.hok,I.len⟩
theorem pU{N:List Str}(hN:N.Nodup){i j:Nat}{x:Str}(a:N[i]? = some x)(b:N[j]? = some x):i=j:=by obtain ⟨h1,e1⟩:=aKA.mp a;obtain ⟨h2,e2⟩:=aKA.mp b;exact (List.getElem_inj hN).mp (e1.trans e2.symm)
theorem pV{M:Model}{A:Around}{E:VSP}{i:Nat}{x:Str}{v:V}{u:Value}{Q:Unit->Shared->Prop}(I:Inv X aA σ H s)(hN:X.N.Nodup)(hi:X.N[i]? = some x)(hx:Loc X.env.scope x)(r:aI v u)(h:∀ s',Inv X aA (σ.set i (some v)) H s'->(∃ a,Heap.SameBut a s.heap s'.heap/\(a=X.env.locals\/X.env.cells.lookup x=some a))->Q () s')(hf:X.fn x=true\/X.env.scope.names.lookup x=some .local:=by first | exact .inl rfl | exact .inr rfl | assumption):wpAny M A (storeName X.env x u) Q E s:=by
 obtain ⟨m,hn,hl⟩:=id I.loc;have hcls:(X.env.scope.kind == .class||(X.env.scope.kind == .module&&X.env.locals != X.env.globals))=false:=by rw[I.ok.kind];rfl
 have hiσ:i<σ.length:=by rw[I.len];exact (aKA.mp hi).1
 have cne:=I.cne;have tracked:∀ {a:Addr} {h':Heap},(∃ o,s.heap.get? a=some o/\H a=none)->Heap.SameBut a s.heap h'->HOk X.prog X.w H h':=λ{a h'} ha hs b ob e=>by
  obtain ⟨_,_,cV⟩:=ha;refine (I.hok b ob e).stay (λc w' hc q=>(hs.2 c ?_).trans q) (λ_ q=>q) λ_ _ q=>q;rintro rfl;rcases hc with rfl | hc
  . rw[cV] at e;cases e
  . rw[cV] at hc;cases hc
 rcases hx with hk | hk
 . refine wpAny_storeName_local hk hn (λh' hn' hs=>?_) hcls;obtain ⟨oL,_,_,hoL,_⟩:=id hn;refine h _ ⟨I.ok,I.os,I.bare,⟨λb o e n hb hx=>?_,λb o e n hb hx=>?_,I.base.free,λb o e hx=>?_,I.base.tups,I.base.frzs,I.base.tbls⟩,⟨_,hn',λj y v' e1 e2 e3=>?_⟩,λy c e=>?_,I.free,I.freeC,λp hp=>?_,tracked ⟨oL,hoL,I.free⟩ hs,by simpa using I.len⟩ ⟨_,hs,.inl rfl⟩
   . exact (hs.2 b (aJ1 (aJZ (aJY e) I.ok.above))).trans (I.base.keep b o e n hb hx)
   . obtain ⟨sl,e1⟩:=I.base.slot b o e n hb hx;exact ⟨sl,(hs.2 b (aJ1 (aJZ (aJY e) I.ok.above))).trans e1⟩
   . obtain ⟨o',e1⟩:=I.base.there b o e hx;exact ⟨o',(hs.2 b (aJ1 (aJZ (aJY e) I.ok.above))).trans e1⟩
   . by_cases hj:j=i
     . subst hj;rw[hi] at e1;cases e1;rw[aKB hiσ] at e2;cases e2;exact ⟨u,r,.inl ⟨hk,by simp⟩⟩
     . rw[aKC (Ne.symm hj)] at e2;obtain ⟨u',r',q⟩:=hl j y v' e1 e2 e3;refine ⟨u',r',?_⟩;rcases q with ⟨k,e⟩ | ⟨k,c,e,z⟩
       . refine .inl ⟨k,?_⟩;have:y≠x:=λe=>hj (pU hN e1 (e ▸ hi));simp[this,e]
       . exact .inr ⟨k,c,e,z.sameBut hs (cne y c e)⟩
   . obtain ⟨w',z⟩:=I.cell y c e;exact ⟨w',z.sameBut hs (cne y c e)⟩
   . obtain ⟨e,n,ne,nf,d⟩:=I.pin p hp;exact ⟨(hs.2 p.1 ne).trans e,n,ne,nf,d⟩
 . have hfn:X.fn x=true:=by
     rcases hf with z | z
     . exact z
     . rw[z] at hk;cases hk
   obtain ⟨c,hc⟩:=I.ok.has x (.inl hk);obtain ⟨w',z⟩:=I.cell x c hc;refine wpAny_storeName_cell I.ok.kind hk hc z (λh' hc' hs=>?_);obtain ⟨oc,hoc,hocd⟩:=id z;refine h { s with heap:=h' } ⟨I.ok,I.os,I.bare,⟨λb o e n hb hx=>?_,λb o e n hb hx=>?_,I.base.free,λb o e hx=>?_,I.base.tups,I.base.frzs,I.base.tbls⟩,⟨m,hn.sameBut hs (Ne.symm (cne x c hc)),λj y v' e1 e2 e3=>?_⟩,λy c' e=>?_,I.free,I.freeC,λp hp=>?_,tracked ⟨oc,hoc,I.freeC x c hc⟩ hs,by simpa using I.len⟩ ⟨c,hs,.inr hc⟩
   . exact (hs.2 b (aJ1 (aJZ (aJY e) (I.ok.cab x c hfn hc)))).trans (I.base.keep b o e n hb hx)
   . obtain ⟨sl,e1⟩:=I.base.slot b o e n hb hx;exact ⟨sl,(hs.2 b (aJ1 (aJZ (aJY e) (I.ok.cab x c hfn hc)))).trans e1⟩
   . obtain ⟨o',e1⟩:=I.base.there b o e hx;exact ⟨o',(hs.2 b (aJ1 (aJZ (aJY e) (I.ok.cab x c hfn hc)))).trans e1⟩
   . by_cases hj:j=i
     . subst hj;rw[hi] at e1;cases e1;rw[aKB hiσ] at e2;cases e2;exact ⟨u,r,.inr ⟨.inl hk,c,hc,hc'⟩⟩
     . rw[aKC (Ne.symm hj)] at e2;obtain ⟨u',r',q⟩:=hl j y v' e1 e2 e3;refine ⟨u',r',?_⟩;rcases q with q | ⟨k,c',e,z'⟩
       . exact .inl q
       . refine .inr ⟨k,c',e,z'.sameBut hs ?_⟩;rintro rfl;exact hj (pU hN e1 (I.ok.inj _ _ _ e hc ▸ hi))
   . by_cases hcc:c'=c
     . subst hcc;exact ⟨_,hc'⟩
     . obtain ⟨w2,z2⟩:=I.cell y c' e;exact ⟨w2,z2.sameBut hs hcc⟩
   . obtain ⟨e,n,ne,nf,d⟩:=I.pin p hp;refine ⟨(hs.2 p.1 ?_).trans e,n,ne,nf,d⟩;intro q;rw[q,hoc] at e;have q':oc=p.2:=aKD e;exact d w' (by rw[<- q'];exact hocd)
theorem pW{M:Model}{A:Around}{E:VSP}{i:Nat}{x:Str}{v:V}{u:Value}{Q:Unit->Shared->Prop}(I:Inv X aA σ H s)(hN:X.N.Nodup)(hi:X.N[i]? = some x)(hx:Loc X.env.scope x)(r:aI v u)(h:∀ s',Inv X aA (σ.set i (some v)) H s'->Q () s')(hf:X.fn x=true\/X.env.scope.names.lookup x=some .local:=by first | exact .inl rfl | exact .inr rfl | assumption):wpAny M A (storeName X.env x u) Q E s :=
 pV I hN hi hx r (λs' I' _=>h s' I') hf
theorem Inv.call'{s':Shared}{ch:List Addr}(I:Inv X aA σ H s)(ho:s'.os=s.os)(u:Un (frs X.stack) ch H H' s.heap s'.heap)(hok:HOk X.prog X.w H' s'.heap)(hg:AllBare s'.gens)(hch:∀ b∈ch,(b∈X.ex\/X.s₀.heap.objs.size<=b)/\b≠X.env.locals/\(∀ x c,X.env.cells.lookup x=some c->c≠b)/\∀ p∈X.pn++aA,p.1≠b):Inv X aA σ H' s':=by obtain ⟨h',g',d',t',o'⟩:=s';have e:o'=s.os:=ho;subst e;exact I.call (g':=g') (t':=t') (d':=d') u hok hg hch
end
abbrev XK:=Value->Option Addr->Hp->Prop
abbrev St:=List (Option V)
abbrev VK:=V->Hp->Prop
abbrev TE:=St->Hp->VK->Prop
abbrev TT:=St->Hp->(Bool->Hp->Prop)->Prop
abbrev TA:=St->Hp->(List V->Hp->Prop)->Prop
structure eD where
 nx:St->Hp->Prop
 rt:VK
 bk:St->Hp->Prop:=λ_ _=>False
 ct:St->Hp->Prop:=λ_ _=>False
abbrev TS:=eD->St->Hp->Prop
def EP(X:Cx)(aA:LAO)(σ:St)(Q:VK)(u:Value)(s':Shared):Prop:=∃ v H',Inv X aA σ H' s'/\aI v u/\Q v H'
def TP(X:Cx)(aA:LAO)(σ:St)(Q:Bool->Hp->Prop)(b:Bool)(s':Shared):Prop:=∃ H',Inv X aA σ H' s'/\Q b H'
def AP(X:Cx)(aA:LAO)(σ:St)(Q:List V->Hp->Prop)(us:List Value)(s':Shared):Prop:=∃ vs H',Inv X aA σ H' s'/\aJ vs us/\Q vs H'
def SP(X:Cx)(aA:LAO)(D:eD)(f:Flow)(s':Shared):Prop :=
 match f with
 | .next=>∃ σ' H',Inv X aA σ' H' s'/\D.nx σ' H'
 | .brk=>∃ σ' H',Inv X aA σ' H' s'/\D.bk σ' H'
 | .cont=>∃ σ' H',Inv X aA σ' H' s'/\D.ct σ' H'
 | .ret u=>∃ v σ' H',Inv X aA σ' H' s'/\aI v u/\D.rt v H'
def PE(X:Cx)(e:Expr)(t:TE):Prop :=
 ∀ (aA:LAO) (s:Shared) (σ:St) (H:Hp) (Q:VK),Inv X aA σ H s->t σ H Q->wpAny (model X.prog X.w) X.A (eval e X.env) (EP X aA σ Q) X.xe s
def PT(X:Cx)(e:Expr)(t:TT):Prop :=
 ∀ (aA:LAO) (s:Shared) (σ:St) (H:Hp) (Q:Bool->Hp->Prop),Inv X aA σ H s->t σ H Q->wpAny (model X.prog X.w) X.A (isTrue e X.env (eval e X.env)) (TP X aA σ Q) X.xe s
def PW(X:Cx)(e:Expr)(t:TT):Prop :=
 ∀ (whole:Sem Value) (aA:LAO) (s:Shared) (σ:St) (H:Hp) (Q:Bool->Hp->Prop),Inv X aA σ H s->t σ H Q->wpAny (model X.prog X.w) X.A (isTrue e X.env whole) (TP X aA σ Q) X.xe s
theorem PW.pt{X:Cx}{e:Expr}{t:TT}(h:PW X e t):PT X e t:=h _
def PA(X:Cx)(es:List Expr)(t:TA):Prop :=
 ∀ (pos:Pos) (aA:LAO) (s:Shared) (σ:St) (H:Hp) (Q:List V->Hp->Prop),Inv X aA σ H s->t σ H Q->wpAny (model X.prog X.w) X.A (spliced (backTo pos (starEach es X.env))) (AP X aA σ Q) X.xe s
def PS(X:Cx)(st:Stmt)(t:TS):Prop :=
 ∀ (aA:LAO) (s:Shared) (σ:St) (H:Hp) (D:eD),Inv X aA σ H s->t D σ H->wpAny (model X.prog X.w) X.A (exec st X.env) (SP X aA D) X.xe s
def PSs(X:Cx)(st:List Stmt)(t:TS):Prop :=
 ∀ (aA:LAO) (s:Shared) (σ:St) (H:Hp) (D:eD),Inv X aA σ H s->t D σ H->wpAny (model X.prog X.w) X.A (execs st X.env) (SP X aA D) X.xe s
theorem thn{α:Type}{t:Sem α}{Q Q':α->Shared->Prop}{M:Model}{A:Around}{E:VSP}{s:Shared}(h:wpAny M A t Q E s)(hQ:∀ a s,Q a s->Q' a s):wpAny M A t Q' E s:=aKE h hQ λ_ _ x=>x
section
variable {X:Cx}
def f8(i:Nat):TE:=λσ H Q=>∃ v,σ[i]? = some (some v)/\Q v H
def tC(v:V):TE:=λ_ H Q=>Q v H
theorem iZ{i:Nat}{x:Str}{pos:Pos}(hN:X.N[i]? = some x)(hv:Vis X.env.scope x)(hd:(x==("__debug__" : Str))=false:=by decide)(hcd:(x==("__classdict__" : Str))=false:=by decide):PE X (.Name x pos) (f8 i):=by
 intro aA s σ H Q I h;obtain ⟨v,e,h⟩:=h;obtain ⟨m,hn,hl⟩:=I.loc;obtain ⟨u,r,l⟩:=hl i x v hN e hv;have fin:EP X aA σ Q u s:=⟨v,H,I,r,h⟩;rcases l with ⟨hk,hm⟩ | ⟨hk,c,hc,cJ⟩
 . exact wpAny_Name (wpAny_loadName_local I.ok.kind hk hn hm fin) hd
 . rcases hk with hk | hk
   . exact wpAny_Name (wpAny_loadName_cell I.ok.kind hk hc cJ fin) hd
   . exact wpAny_Name (wpAny_loadName_free I.ok.kind hk hc cJ fin hcd) hd
theorem wV{i j pos}:PE X (.Constant (.int i) j pos) (tC (.int i)):=λ_ _ _ H _ I h=>wpAny_Constant_int ⟨.int i,H,I.tok _,⟨_,rfl⟩,h⟩
theorem pe_bl{b j pos}:PE X (.Constant (.bool b) j pos) (tC (.bl b)):=λ_ _ _ H _ I h=>Constant_bool ⟨.bl b,H,I,rfl,h⟩
theorem wW{j pos}:PE X (.Constant .none j pos) (tC .non):=λ_ _ _ H _ I h=>Constant_none ⟨.non,H,I,rfl,h⟩
theorem wX{x j pos}:PE X (.Constant (.str x) j pos) (tC (.str x)):=λ_ _ _ H _ I h=>Calls.Constant_str ⟨.str x,H,I.tok _,⟨_,rfl⟩,h⟩
def Gl(X:Cx)(x:Str):Prop:=X.env.kindOf x=some .globalImplicit
theorem mN{E:VSP}{aA:LAO}{s:Shared}{σ:St}{H:Hp}{x:Str}{u:Value}{pos:Pos}{Q:VSP}(I:Inv X aA σ H s)(hg:Gl X x)(hm:X.mg x=some u)(h:Q u s)(hd:(x==("__debug__" : Str))=false:=by decide):wpAny (model X.prog X.w) X.A (eval (.Name x pos) X.env) Q E s :=
 Calls.Name_function_global I.ok.kind hg (Calls.loadGlobal_global (by rw[I.ok.glob];exact I.mod.glob.keeps I.bk) hm h) hd
theorem kG{E:VSP}{aA:LAO}{s:Shared}{σ:St}{H:Hp}{x:Str}{u:Value}{pos:Pos}{Q:VSP}(I:Inv X aA σ H s)(hg:Gl X x)(hm:X.mg x=none)(hv:bootBuiltins x=some u)(h:Q u s)(hn:x ≠ "__name__" := by decide)(hd:(x==("__debug__" : Str))=false:=by decide):wpAny (model X.prog X.w) X.A (eval (.Name x pos) X.env) Q E s:=by obtain ⟨mb,h1,h2⟩:=I.mod.blt;exact Calls.Name_function_global I.ok.kind hg (Calls.loadGlobal_builtin (by rw[I.ok.glob];exact I.mod.glob.keeps I.bk) hm (by rw[I.ok.blt];exact h1.keeps I.bk) ((h2 x hn).trans hv) h) hd
theorem pX{x:Str}{v:V}{u:Value}{pos:Pos}(hg:Gl X x)(hm:X.mg x=some u)(r:aI v u)(hd:(x==("__debug__" : Str))=false:=by decide):PE X (.Name x pos) (tC v) :=
 λ_ _ _ H _ I h=>mN I hg hm ⟨v,H,I,r,h⟩ hd
theorem wY{x:Str}{v:V}{u:Value}{pos:Pos}(hg:Gl X x)(hm:X.mg x=none)(hv:bootBuiltins x=some u)(r:aI v u)(hn:x ≠ "__name__" := by decide)(hd:(x==("__debug__" : Str))=false:=by decide):PE X (.Name x pos) (tC v) :=
 λ_ _ _ H _ I h=>kG I hg hm hv ⟨v,H,I,r,h⟩ hn hd
variable {a b:Expr}{ta tb:TE}{pos:Pos}
variable {tA tB':TT}{aL:List Expr}
def mO(t u:TT):TT:=λσ H Q=>t σ H λc H1=>if c=true then u σ H1 Q else Q false H1
def tOr(t u:TT):TT:=λσ H Q=>t σ H λc H1=>if c=true then Q true H1 else u σ H1 Q
def tNot(t:TT):TT:=λσ H Q=>t σ H λc H1=>Q (!c) H1
theorem wZ(ha:PT X a tA):PW X (.BoolOp .And [a] pos) tA:=by
 intro wh aA s σ H Q I h;refine isTrue_and (thn (ha aA s σ H Q I h) λc s1 e=>?_);cases c with
 | true=>exact isTrue_and_nil e
 | false=>exact e
theorem w6(ha:PT X a tA):PW X (.BoolOp .Or [a] pos) tA:=by
 intro wh aA s σ H Q I h;refine isTrue_or (thn (ha aA s σ H Q I h) λc s1 e=>?_);cases c with
 | false=>exact isTrue_or_nil e
 | true=>exact e
theorem w8(ha:PT X a tA)(hb:PW X (.BoolOp .And (b::aL) pos) tB'):PW X (.BoolOp .And (a::b::aL) pos) (mO tA tB'):=by
 intro wh aA s σ H Q I h;refine isTrue_and (thn (ha aA s σ H _ I h) λc s1 ⟨H1,I1,q1⟩=>?_);cases c with
 | true=>exact hb wh aA s1 σ H1 Q I1 q1
 | false=>exact ⟨H1,I1,q1⟩
theorem pw_or(ha:PT X a tA)(hb:PW X (.BoolOp .Or (b::aL) pos) tB'):PW X (.BoolOp .Or (a::b::aL) pos) (tOr tA tB'):=by
 intro wh aA s σ H Q I h;refine isTrue_or (thn (ha aA s σ H _ I h) λc s1 ⟨H1,I1,q1⟩=>?_);cases c with
 | true=>exact ⟨H1,I1,q1⟩
 | false=>exact hb wh aA s1 σ H1 Q I1 q1
theorem xA(ha:PT X a tA):PT X (.UnaryOp .Not a pos) (tNot tA):=by intro aA s σ H Q I h;exact isTrue_not (ha aA s σ H (λc H1=>Q (!c) H1) I h)
def pY(ta tb:TE):TE:=λσ H Q=>ta σ H λx H1=>∃ c,x=.bl c/\if c=true then tb σ H1 Q else Q (.bl false) H1
def tOrV(ta tb:TE):TE:=λσ H Q=>ta σ H λx H1=>∃ c,x=.bl c/\if c=true then Q (.bl true) H1 else tb σ H1 Q
def pZ(ta:TE):TE:=λσ H Q=>ta σ H λx H1=>∃ c,x=.bl c/\Q (.bl (!c)) H1
theorem xB{op}{t:TE}(h:PE X a t):PE X (.BoolOp op [a] pos) t:=λaA s σ H Q I hw=>BoolOp_one (h aA s σ H Q I hw)
theorem xC(ha:PE X a ta)(hb:PE X (.BoolOp .And (b::aL) pos) tb):PE X (.BoolOp .And (a::b::aL) pos) (pY ta tb):=by
 intro aA s σ H Q I h;refine BoolOp_and (thn (ha aA s σ H _ I h) λv s1 ⟨x,H1,I1,r1,q1⟩=>?_);obtain ⟨c,rfl,q1⟩:=q1;cases r1;refine aKF ?_;cases c with
 | true=>exact hb aA s1 σ H1 Q I1 q1
 | false=>exact ⟨.bl false,H1,I1,rfl,q1⟩
theorem pe_or(ha:PE X a ta)(hb:PE X (.BoolOp .Or (b::aL) pos) tb):PE X (.BoolOp .Or (a::b::aL) pos) (tOrV ta tb):=by
 intro aA s σ H Q I h;refine BoolOp_or (thn (ha aA s σ H _ I h) λv s1 ⟨x,H1,I1,r1,q1⟩=>?_);obtain ⟨c,rfl,q1⟩:=q1;cases r1;refine aKF ?_;cases c with
 | false=>exact hb aA s1 σ H1 Q I1 q1
 | true=>exact ⟨.bl true,H1,I1,rfl,q1⟩
theorem xD(ha:PE X a ta):PE X (.UnaryOp .Not a pos) (pZ ta):=by intro aA s σ H Q I h;refine UnaryOp_ (thn (ha aA s σ H _ I h) λv s1 ⟨x,H1,I1,r1,q1⟩=>?_);obtain ⟨c,rfl,q1⟩:=q1;cases r1;exact not_of (aKF ⟨.bl (!c),H1,I1,rfl,q1⟩)
end
def SqL(K:Fg)(H:Hp)(a:Addr)(xs:List V):Prop :=
 Rd H a (.lst xs) \/
  ∃ (o:Obj) (its:Array Value) (n:Nat),K.lookup a=some o/\o.cls=.type "list" /\ o.dict=none/\o.data=.seq its n/\its.size<=sizeLine/\aJ xs its.toList
def SqT(K:Fg)(H:Hp)(a:Addr)(xs:List V):Prop :=
 Rd H a (.tup xs) \/
  ∃ (o:Obj) (its:Array Value) (n:Nat),K.lookup a=some o/\o.cls=.type "tuple" /\ o.dict=none/\o.data=.seq its n/\its.size<=sizeLine/\aJ xs its.toList
def absV:Value->Option V
 | .none=>some .non
 | .bool b=>some (.bl b)
 | .int i _=>some (.int i)
 | .str x _=>some (.str x)
 | .bytes b _=>some (.byt b)
 | .float b _=>some (.flt b)
 | .ref a=>some (.ref a)
 | .type n=>some (.ty n)
 | _=>none
theorem aI.abs{x:V}{u:Value}(r:aI x u):absV u=some x:=by
 cases x with
 | non=>cases r;rfl
 | bl _=>cases r;rfl
 | int _=>obtain ⟨t,rfl⟩:=r;rfl
 | str _=>obtain ⟨t,rfl⟩:=r;rfl
 | byt _=>obtain ⟨t,rfl⟩:=r;rfl
 | flt _=>obtain ⟨t,rfl⟩:=r;rfl
 | ref _=>cases r;rfl
 | ty _=>cases r;rfl
theorem aI.inj{x y:V}{u:Value}(r:aI x u)(q:aI y u):x=y:=aKD (r.abs.symm.trans q.abs)
theorem aJ.inj:∀ {xs ys:List V} {us:List Value},aJ xs us->aJ ys us->xs=ys
 | _,_,_,.nil,.nil=>rfl
 | _,_,_,.cons r t,.cons r' t'=>by rw[r.inj r',aJ.inj t t']
section
variable {X:Cx}{aA:LAO}{σ:St}{H:Hp}{s:Shared}{a:Addr}{xs ys:List V}
theorem SqL.of{K:Fg}(h:H a=some (.lst xs)):SqL K H a xs:=.inl (.inl h)
theorem SqT.of{K:Fg}(h:H a=some (.tup xs)):SqT K H a xs:=.inl (.inl h)
theorem Inv.list(I:Inv X aA σ H s)(h:SqL X.K H a xs):∃ its:List Value,aJ xs its/\PlainL s.heap a its.toArray/\xs.length<=sizeLine:=by
 rcases h with h | ⟨o,its,n,hk,hc,hd,hs,hz,r⟩
 . obtain ⟨z,its,n,r,e⟩:=h.ok I.hok;exact ⟨its,r,⟨_,n,e,rfl,rfl,rfl⟩,z⟩
 . refine ⟨its.toList,r,⟨o,n,I.kIn a o hk,hc,hd,by simpa using hs⟩,?_⟩
   have e:=r.length;simp only[aKG] at e;omega
theorem Inv.tuple(I:Inv X aA σ H s)(h:SqT X.K H a xs):∃ its:List Value,aJ xs its/\IsTup s.heap a its.toArray/\xs.length<=sizeLine:=by
 rcases h with h | ⟨o,its,n,hk,hc,hdt,hs,hz,r⟩
 . obtain ⟨z,its,r,p⟩:=h.ok I.hok;exact ⟨its,r,p.isTup,z⟩
 . refine ⟨its.toList,r,⟨o,I.kIn a o hk,hc,n,by simpa using hs⟩,?_⟩
   have e:=r.length;simp only[aKG] at e;omega
theorem Inv.list_inj(I:Inv X aA σ H s)(h:SqL X.K H a xs)(h':SqL X.K H a ys):xs=ys:=by
 obtain ⟨its,r,⟨o,n,e,_,_,d⟩,_⟩:=I.list h;obtain ⟨its',r',⟨o',n',e',_,_,d'⟩,_⟩:=I.list h';rw[e] at e';cases e';rw[d] at d';injection d' with d1 _
 have:its=its':=by simpa using congrArg Array.toList d1
 subst this;exact r.inj r'
theorem Inv.tuple_inj(I:Inv X aA σ H s)(h:SqT X.K H a xs)(h':SqT X.K H a ys):xs=ys:=by
 obtain ⟨its,r,⟨o,e,_,n,d⟩,_⟩:=I.tuple h;obtain ⟨its',r',⟨o',e',_,n',d'⟩,_⟩:=I.tuple h';rw[e] at e';cases e';rw[d] at d';injection d' with d1 _
 have:its=its':=by simpa using congrArg Array.toList d1
 subst this;exact r.inj r'
end
abbrev Cx.wish(X:Cx)(E:VSP):Cx:={ X with xe:=E }
section
variable {X:Cx}{aA:LAO}{σ:St}{H:Hp}{s:Shared}{E:VSP}
end
section
variable {X:Cx}{st:Stmt}{aL:List Stmt}{t u:TS}{e:Expr}{te:TE}{pos:Pos}
def tNext:TS:=λD σ H=>D.nx σ H
def tSeq(t u:TS):TS:=λD σ H=>t { D with nx:=u D } σ H
theorem xE:PSs X [] tNext:=λ_ _ σ H _ I h=>wpAny_execs_nil ⟨σ,H,I,h⟩
theorem xF(h1:PS X st t)(h2:PSs X aL u):PSs X (st::aL) (tSeq t u):=by
 intro aA s σ H D I h;refine wpAny_execs_cons (thn (h1 aA s σ H { D with nx:=u D } I h) λf s1 q=>?_)
 cases f with
 | next=>obtain ⟨σ',H',I',q⟩:=q;exact h2 aA s1 σ' H' D I' q
 | ret v=>exact q
 | brk=>exact q
 | cont=>exact q
theorem Inv.quiet{aA:LAO}{σ:St}{H:Hp}{s:Shared}(I:Inv X aA σ H s):interactive X.env=false:=by simp[interactive,I.ok.kind]
def qA(te:TE):TS:=λD σ H=>te σ H λ_ H1=>D.nx σ H1
theorem xG(he:PE X e te)(hs:swapsWith e none pos.line X.env=pure false:=by rfl):PS X (.Expr e pos) (qA te):=by intro aA s σ H D I h;exact wpAny_Expr_any (thn (he aA s σ H _ I h) λv s1 ⟨x,H1,I1,r1,q1⟩=>⟨σ,H1,I1,q1⟩) I.quiet hs
def tRet(te:TE):TS:=λD σ H=>te σ H D.rt
theorem qB(he:PE X e te):PS X (.Return (some e) pos) (tRet te):=by intro aA s σ H D I h;exact wpAny_Return_some (thn (he aA s σ H _ I h) λv s1 ⟨x,H1,I1,r1,q1⟩=>⟨x,σ,H1,I1,r1,q1⟩)
def tIfS(c:TT)(t u:TS):TS:=λD σ H=>c σ H λb H1=>if b=true then t D σ H1 else u D σ H1
theorem ps_if{c:Expr}{a b:List Stmt}{tc:TT}(hc:PT X c tc)(ha:PSs X a t)(hb:PSs X b u):PS X (.If c a b pos) (tIfS tc t u):=by
 intro aA s σ H D I h;refine wpAny_If (thn (hc aA s σ H _ I h) λd s1 ⟨H1,I1,q1⟩=>?_);cases d with
 | true=>exact ha aA s1 σ H1 D I1 q1
 | false=>exact hb aA s1 σ H1 D I1 q1
end
abbrev TG:=V->St->Hp->(St->Hp->Prop)->Prop
abbrev TGs:=List V->St->Hp->(St->Hp->Prop)->Prop
def PG(X:Cx)(target:Expr)(t:TG):Prop :=
 ∀ (aA:LAO) (s:Shared) (σ:St) (H:Hp) (v:V) (u:Value) (Q:St->Hp->Prop),Inv X aA σ H s->aI v u->t v σ H Q ->
  wpAny (model X.prog X.w) X.A (assign target X.env u) (λ_ s'=>∃ σ' H',Inv X aA σ' H' s'/\Q σ' H') X.xe s
def PGs(X:Cx)(ts:List Expr)(t:TGs):Prop :=
 ∀ (aA:LAO) (s:Shared) (σ:St) (H:Hp) (vs:List V) (us:List Value) (Q:St->Hp->Prop),Inv X aA σ H s->aJ vs us->t vs σ H Q ->
  wpAny (model X.prog X.w) X.A (assignInOrder ((assignEach ts X.env).map (·.2)) us) (λ_ s'=>∃ σ' H',Inv X aA σ' H' s'/\Q σ' H') X.xe s
abbrev TSet:=V->V->V->Hp->(Hp->Prop)->Prop
def PSet(X:Cx)(t:TSet):Prop :=
 ∀ (aA:LAO) (s:Shared) (σ:St) (H:Hp) (o i v:V) (ov iv u:Value) (Q:Hp->Prop),Inv X aA σ H s->aI o ov->aI i iv->aI v u->t o i v H Q ->
  wpAny (model X.prog X.w) X.A (setItem ov iv u) (λ_ s'=>∃ H',Inv X aA σ H' s'/\Q H') X.xe s
section
variable {X:Cx}{pos:Pos}
def i6(i:Nat):TG:=λv σ H Q=>Q (σ.set i (some v)) H
theorem xH{i:Nat}{x:Str}(hN:X.N.Nodup)(hi:X.N[i]? = some x)(hx:Loc X.env.scope x)(hf:X.fn x=true\/X.env.scope.names.lookup x=some .local:=by first | exact .inl rfl | exact .inr rfl | assumption):PG X (.Name x pos) (i6 i):=by intro aA s σ H v u Q I r h;exact wpAny_assign_Name (pW I hN hi hx r (λs' I'=>⟨_,H,I',h⟩) hf)
def gNil:TGs:=λvs σ H Q=>vs=[]/\Q σ H
def qC(t:TG)(u:TGs):TGs:=λvs σ H Q=>∃ v r,vs=v::r/\t v σ H λσ' H'=>u r σ' H' Q
theorem xI:PGs X [] gNil:=by intro aA s σ H vs us Q I r h;obtain ⟨e,h⟩:=h;subst e;cases r;exact assignInOrder_nil ⟨σ,H,I,h⟩
theorem xJ{e:Expr}{es:List Expr}{t:TG}{u:TGs}(h1:PG X e t)(h2:PGs X es u)(hs:(assignEach (e::es) X.env).map (·.2)=assign e X.env::(assignEach es X.env).map (·.2):=by rfl):PGs X (e::es) (qC t u):=by
 intro aA s σ H vs us Q I r h;obtain ⟨v,vr,e1,h⟩:=h;subst e1;cases r with
 | cons r rr=>rw[hs];refine assignInOrder_cons (thn (h1 aA s σ H _ _ _ I r h) λ_ s1 ⟨σ1,H1,I1,q1⟩=>?_);exact h2 aA s1 σ1 H1 _ _ Q I1 rr q1
def gTup(K:Fg)(n:Nat)(t:TGs):TG:=λv σ H Q=>∃ a xs,v=.ref a/\SqT K H a xs/\xs.length=n/\t xs σ H Q
theorem xK{es:List Expr}{k:Nat}{t:TGs}{n:Nat}(hc:X.calm=true)(h:PGs X es t)(hn:(assignEach es X.env).length=n:=by rfl)(hst:(assignEach es X.env).findIdx? (·.1)=none:=by rfl):PG X (.Tuple es k pos) (gTup X.K n t):=by
 intro aA s σ H v u Q I r hw;obtain ⟨a,xs,e1,hq,hl,hw⟩:=hw;subst e1;cases r;obtain ⟨its,rv,ht,hz⟩:=I.tuple hq;refine assign_Tuple_tuple (I.ok.hd hc) ht (by simp[hn,<- hl,rv.length]) hst λh' hx=>?_
 have I1:Inv X aA σ H { s with heap:=h' }:=I.kept (t':=s.toks) λb o e=>hx b o (aJ1 (aJY e)) e
 exact h aA _ σ H xs _ Q I1 (by simpa using rv) hw
def kH(te:TE)(g:TG):TS:=λD σ H=>te σ H λx H1=>g x σ H1 D.nx
theorem xL{i:Nat}{x:Str}{e:Expr}{te:TE}{pos':Pos}(hN:X.N.Nodup)(hi:X.N[i]? = some x)(hx:Loc X.env.scope x)(he:PE X e te)(hs:swapsWith e (some (.Name x pos')) pos.line X.env=pure false:=by rfl)(hf:X.fn x=true\/X.env.scope.names.lookup x=some .local:=by first | exact .inl rfl | exact .inr rfl | assumption):PS X (.Assign [.Name x pos'] e pos) (kH te (i6 i)):=by intro aA s σ H D I h;refine wpAny_Assign_Name (thn (he aA s σ H _ I h) λv s1 ⟨y,H1,I1,r1,q1⟩=>?_) hs;exact pW I1 hN hi hx r1 (λs2 I2=>⟨_,H1,I2,q1⟩) hf
end
section
variable {X:Cx}{pos:Pos}
end
structure It where
 go:Nat->Hp->Prop
 yld:Nat->Hp->V->Hp->Prop
 stop:Nat->Hp->Prop
def fL(X:Cx)(aA:LAO)(H:Hp)(b:Addr):Prop :=
 H b=none/\b≠X.env.locals/\b∉X.fs/\(b∈X.ex\/X.s₀.heap.objs.size<=b)/\(∀ x c,X.env.cells.lookup x=some c->c≠b)/\∀ p∈X.pn++aA,p.1≠b
theorem Inv.fpOk{X:Cx}{aA:LAO}{σ:St}{H H':Hp}{s:Shared}{b:Addr}(I:Inv X aA σ H s)(hb:s.heap.objs.size<=b)(hn:H' b=none):fL X aA H' b:=by
 refine ⟨hn,Nat.ne_of_gt (aJZ I.lt hb),I.nofs hb,.inr (aJ4 I.sz hb),λx c e z=>?_,λp hp z=>?_⟩
 . obtain ⟨v,q⟩:=I.cell x c e;exact absurd (aJZ q.lt (by rw[z];exact hb)) (aJ0 _)
 . exact absurd (aJZ (aJY (I.pin p hp).1) (by rw[z];exact hb)) (aJ0 _)
structure gZ(P:Program)(w:World)(K:Fg)(tg:Expr)(J:It)(fp:List Addr)(it:Addr)(tn:Nat->Heap->Prop):Prop where
 mem:it∈fp
 obj:∀ i h,tn i h->∀ b∈fp,∃ o,h.get? b=some o/\∀ v,o.data ≠ .cell v
 keep:∀ i h h',tn i h->(∀ b∈fp,∀ o,h.get? b=some o->h'.get? b=some o)->tn i h'
 item:∀ (X:Cx),X.prog=P->X.w=w->X.K=K->X.calm=true->∀ (i:Nat) (aA:LAO) (s:Shared) (σ:St) (H:Hp) (E:VSP),Inv X aA σ H s->(∀ b∈fp,fL X aA H b)->tn i s.heap->J.go i H ->
  wpAny (model P w) X.A (pyNext (.ref it)) (λr s1=>∃ u,r=some u /\
   wpAny (model P w) X.A (letOwnedTupleGo tg (.ref it) u) (λ_ s2=>∃ x H',Inv X aA σ H' s2/\aI x u/\J.yld i H x H'/\tn (i+1) s2.heap/\∀ b∈fp,H' b=none) E s1) E s
 done:∀ (X:Cx),X.prog=P->X.w=w->X.K=K->X.calm=true->∀ (i:Nat) (aA:LAO) (s:Shared) (σ:St) (H:Hp) (E:VSP),Inv X aA σ H s->(∀ b∈fp,fL X aA H b)->tn i s.heap->J.stop i H ->
  wpAny (model P w) X.A (pyNext (.ref it)) (λr s1=>r=none/\Inv X aA σ H s1) E s
 self:∀ (A:Around) (i:Nat) (s:Shared) (Q:VSP) (E:VSP),tn i s.heap->Q (.ref it) s->wpAny (model P w) A (pyIter (.ref it)) Q E s
abbrev TI:=St->Hp->(It->Hp->Prop)->Prop
def PIE(X:Cx)(aA:LAO)(σ:St)(tg:Expr)(R:It->Hp->Prop)(itv:Value)(s2:Shared):Prop :=
 ∃ (it:Addr) (fp:List Addr) (tn:Nat->Heap->Prop) (J:It) (H':Hp),itv=.ref it/\Inv X aA σ H' s2/\gZ X.prog X.w X.K tg J fp it tn/\tn 0 s2.heap/\(∀ b∈fp,fL X aA H' b)/\R J H'
def PI(X:Cx)(tg aO:Expr)(wi:TI):Prop :=
 ∀ (aA:LAO) (s:Shared) (σ:St) (H:Hp) (R:It->Hp->Prop),Inv X aA σ H s->wi σ H R ->
  wpAny (model X.prog X.w) X.A (eval aO X.env) (λv s1=>wpAny (model X.prog X.w) X.A (pyIter v) (PIE X aA σ tg R) X.xe s1) X.xe s
theorem i7{M:Model}{A:Around}{E:VSP}{s:Shared}{tg:Expr}{it:Addr}{u:Value}{o:Obj}{n:String}{vs:Array Value}{Q:Unit->Shared->Prop}(ho:s.heap.get? it=some o)(hc:o.cls=.type n)(hd:o.data=.fields vs)(hn:["enumerate", "zip", "dict_itemiterator", "dict_reverseitemiterator", "odict_iterator", "itertools.zip_longest", "itertools.pairwise"].contains n=false)(hQ:Q () s):wpAny M A (letOwnedTupleGo tg (.ref it) u) Q E s:=by
 unfold letOwnedTupleGo;cases tg <;> first
  | exact aKH hQ
  | (cases u <;> first
      | exact aKH hQ
      | (refine aKI (aKJ ho ?_)
         rw[hc,hd];show wpAny M A (if (["enumerate", "zip", "dict_itemiterator", "dict_reverseitemiterator", "odict_iterator", "itertools.zip_longest", "itertools.pairwise"].contains n&&vs[0]?==some (rawInt _))=true then _ else _) Q E s;rw[if_neg (by intro h;rw[hn,Bool.false_and] at h;cases h)]
         exact aKH hQ))
def Itl(K:Fg)(a:Addr):It :=
 ⟨λi H=>∃ xs x,SqL K H a xs/\xs[i]? = some x,λi H x H'=>H'=H/\∀ xs,SqL K H a xs->xs[i]? = some x,λi H=>∃ xs,SqL K H a xs/\xs.length<=i⟩
def Itt(K:Fg)(a:Addr):It :=
 ⟨λi H=>∃ xs x,SqT K H a xs/\xs[i]? = some x,λi H x H'=>H'=H/\∀ xs,SqT K H a xs->xs[i]? = some x,λi H=>∃ xs,SqT K H a xs/\xs.length<=i⟩
def Itr(lo:Int)(n:Nat):It:=⟨λi _=>i<n,λi H x H'=>H'=H/\x=.int (lo+i),λi _=>n<=i⟩
theorem xM{P:Program}{w:World}{K:Fg}{tg:Expr}(a it:Addr):gZ P w K tg (Itl K a) [it] it (λi h=>h.IsListIter it a i) where
 mem:=by simp
 obj:=λi h st b hb=>by
  have e:b=it:=by simpa using hb
  subst e;obtain ⟨o,e,c,d⟩:=st;exact ⟨o,e,λv z=>by rw[d] at z;cases z⟩
 keep:=λi h h' st k=>st.at λo e=>k it (by simp) o e
 item:=by
  intro X hP hw hK hc i aA s σ H E I hf st hg;subst hP hw hK;obtain ⟨xs,x,hq,hx⟩:=hg;obtain ⟨its,rv,p,hz⟩:=I.list hq;obtain ⟨u,hu,ru⟩:=rv.get hx;obtain ⟨f0,f1,f2,f3,f4,f5⟩:=hf it (by simp)
  refine wpAny_pyNext_list_item st p.isList (x:=u) (by simpa using hu) λh' st' sb=>?_
  have I1:Inv X aA σ H { s with heap:=h' }:=I.turned (t':=s.toks) (λb o hb e=>(sb.2 b hb).trans e) f0 f1 f3 f4 f5
  obtain ⟨o,e,c,d⟩:=id st';exact ⟨u,rfl,i7 (s:={ s with heap:=h' }) e c d (by decide) ⟨x,H,I1,ru,⟨rfl,λys hy=>by rw[I.list_inj hy hq];exact hx⟩,st',λb hb=>(hf b hb).1⟩⟩
 done:=by
  intro X hP hw hK hc i aA s σ H E I hf st hg;subst hP hw hK;obtain ⟨xs,hq,hx⟩:=hg;obtain ⟨its,rv,p,hz⟩:=I.list hq;obtain ⟨f0,f1,f2,f3,f4,f5⟩:=hf it (by simp)
  have hl:=rv.length;exact wpAny_pyNext_list_end (I.ok.hd hc) st p.isList (by simp;omega) λh' eb=>⟨rfl,I.turned (t':=s.toks) (λb o hb e=>eb b o hb e) f0 f1 f3 f4 f5⟩
 self:=λ_ _ _ _ _ st h=>wpAny_pyIter_listiter st h
theorem xN{P:Program}{w:World}{K:Fg}{tg:Expr}(a it:Addr):gZ P w K tg (Itt K a) [it] it (λi h=>h.IsTupleIter it a i) where
 mem:=by simp
 obj:=λi h st b hb=>by
  have e:b=it:=by simpa using hb
  subst e;obtain ⟨o,e,c,d⟩:=st;exact ⟨o,e,λv z=>by rw[d] at z;cases z⟩
 keep:=λi h h' st k=>st.at λo e=>k it (by simp) o e
 item:=by
  intro X hP hw hK hc i aA s σ H E I hf st hg;subst hP hw hK;obtain ⟨xs,x,hq,hx⟩:=hg;obtain ⟨its,rv,p,hz⟩:=I.tuple hq;obtain ⟨u,hu,ru⟩:=rv.get hx;obtain ⟨f0,f1,f2,f3,f4,f5⟩:=hf it (by simp)
  refine wpAny_pyNext_tuple_item st (show s.heap.IsTuple a its.toArray from p) (x:=u) (by simpa using hu) λh' st' sb=>?_
  have I1:Inv X aA σ H { s with heap:=h' }:=I.turned (t':=s.toks) (λb o hb e=>(sb.2 b hb).trans e) f0 f1 f3 f4 f5
  obtain ⟨o,e,c,d⟩:=id st';exact ⟨u,rfl,i7 (s:={ s with heap:=h' }) e c d (by decide) ⟨x,H,I1,ru,⟨rfl,λys hy=>by rw[I.tuple_inj hy hq];exact hx⟩,st',λb hb=>(hf b hb).1⟩⟩
 done:=by
  intro X hP hw hK hc i aA s σ H E I hf st hg;subst hP hw hK;obtain ⟨xs,hq,hx⟩:=hg;obtain ⟨its,rv,p,hz⟩:=I.tuple hq;obtain ⟨f0,f1,f2,f3,f4,f5⟩:=hf it (by simp)
  have hl:=rv.length;exact wpAny_pyNext_tuple_end (I.ok.hd hc) st (show s.heap.IsTuple a its.toArray from p) (by simp;omega) λh' eb=>⟨rfl,I.turned (t':=s.toks) (λb o hb e=>eb b o hb e) f0 f1 f3 f4 f5⟩
 self:=λ_ _ _ _ _ st h=>wpAny_pyIter_tupleiter st h
theorem xO{P:Program}{w:World}{K:Fg}{tg:Expr}(it:Addr)(lo:Int)(n:Nat):gZ P w K tg (Itr lo n) [it] it (λi h=>IsRangeIter h it (lo+(i:Nat) * 1) ((n:Int)-(i:Nat)) 1) where
 mem:=by simp
 obj:=λi h st b hb=>by
  have e:b=it:=by simpa using hb
  subst e;exact ⟨_,st,λv z=>by
   have z':Data.fields _=Data.cell v:=z;cases z'⟩
 keep:=λi h h' st k=>k it (by simp) _ st
 item:=by
  intro X hP hw hK hc i aA s σ H E I hf st hg;subst hP hw hK;obtain ⟨f0,f1,f2,f3,f4,f5⟩:=hf it (by simp)
  have W:=Walks.range (prog:=X.prog) (w:=X.w) (I.ok.hd hc) it lo 1 n;refine W.item i s _ _ hg st λv h' tk hv st' kk=>?_;obtain ⟨t,rfl⟩:=hv;have I1:Inv X aA σ H { s with heap:=h',toks:=tk }:=I.turned (λb o hb e=>kk b o (by simpa using hb) e) f0 f1 f3 f4 f5
  refine ⟨_,rfl,i7 (s:={ s with heap:=h',toks:=tk }) (n := "range_iterator") st' rfl rfl (by decide) ⟨.int (lo+i),H,I1,⟨t,?_⟩,⟨rfl,rfl⟩,st',λb hb=>(hf b hb).1⟩⟩
  rw[Int.mul_one]
 done:=by
  intro X hP hw hK hc i aA s σ H E I hf st hg;subst hP hw hK;obtain ⟨f0,f1,f2,f3,f4,f5⟩:=hf it (by simp)
  exact wpAny_pyNext_range_end (I.ok.hd hc) st (by have:n<=i:=hg;omega) λh' eb=>⟨rfl,I.turned (t':=s.toks) (λb o hb e=>eb b o hb e) f0 f1 f3 f4 f5⟩
 self:=λ_ _ _ _ _ st h=>wpAny_pyIter_rangeiter st h
section
variable {X:Cx}{tg:Expr}
def mP(K:Fg)(tl:TE):TI:=λσ H R=>tl σ H λx H1=>∃ a,x=.ref a/\(∃ xs,SqL K H1 a xs)/\R (Itl K a) H1
def iTup(K:Fg)(tl:TE):TI:=λσ H R=>tl σ H λx H1=>∃ a,x=.ref a/\(∃ xs,SqT K H1 a xs)/\R (Itt K a) H1
theorem xP{l:Expr}{tl:TE}(hl:PE X l tl):PI X tg l (mP X.K tl):=by
 intro aA s σ H R I h;refine thn (hl aA s σ H _ I h) λv s1 ⟨x,H1,I1,r1,q1⟩=>?_;obtain ⟨a,e,⟨xs,hq⟩,q⟩:=q1;subst e;cases r1;obtain ⟨its,rv,p,hz⟩:=I1.list hq;refine aKK p.isList ?_;refine ⟨s1.heap.objs.size,[s1.heap.objs.size],_,_,H1,rfl,I1.kept (t':=s1.toks) λb o e=>hps e,xM a _,⟨_,aJX _ rfl,rfl,rfl⟩,λb hb=>?_,q⟩;have e:b=s1.heap.objs.size:=by simpa using hb
 subst e;exact I1.fpOk (aKL _) (I1.hok.fresh (aKL _))
theorem xQ{l:Expr}{tl:TE}(hl:PE X l tl):PI X tg l (iTup X.K tl):=by
 intro aA s σ H R I h;refine thn (hl aA s σ H _ I h) λv s1 ⟨x,H1,I1,r1,q1⟩=>?_;obtain ⟨a,e,⟨xs,hq⟩,q⟩:=q1;subst e;cases r1;obtain ⟨its,rv,p,hz⟩:=I1.tuple hq;refine wpAny_pyIter_tuple (show s1.heap.IsTuple a its.toArray from p) ?_
 refine ⟨s1.heap.objs.size,[s1.heap.objs.size],_,_,H1,rfl,I1.kept (t':=s1.toks) λb o e=>hps e,xN a _,⟨_,aJX _ rfl,rfl,rfl⟩,λb hb=>?_,q⟩;have e:b=s1.heap.objs.size:=by simpa using hb
 subst e;exact I1.fpOk (aKL _) (I1.hok.fresh (aKL _))
theorem xR{aA:LAO}{σ:St}{H:Hp}{s:Shared}{R:It->Hp->Prop}{E:VSP}{lo hi:Int}{t u v:Tok}{tk:Nat}(I:Inv X aA σ H s)(h1:-(2 ^ 62)<=lo)(h2:lo<2 ^ 62)(h3:-(2 ^ 62)<=hi)(h4:hi<2 ^ 62)(q:R (Itr lo (hi-lo).toNat) H):wpAny (model X.prog X.w) X.A (pyIter (.ref s.heap.objs.size)) (PIE X aA σ tg R) E { s with heap:=s.heap.push { cls:=.type "range", data:=.fields #[.int lo t,.int hi u,.int 1 v] },toks:=tk }:=by
 refine wpAny_pyIter_range (IsRange.new ..) (small_one h1 h2 h3 h4) ?_;have I1:Inv X aA σ H { s with heap:=s.heap.push { cls:=.type "range", data:=.fields #[.int lo t,.int hi u,.int 1 v] },toks:=tk }:=I.kept λb o e=>hps e
 refine ⟨(s.heap.push { cls:=.type "range", data:=.fields #[.int lo t,.int hi u,.int 1 v] }).objs.size,[(s.heap.push { cls:=.type "range", data:=.fields #[.int lo t,.int hi u,.int 1 v] }).objs.size],_,_,H,rfl,
  I1.kept (t':=tk) λb o e=>hps e,xO _ lo (hi-lo).toNat,?_,λb hb=>?_,q⟩
 . have e1:lo+((0:Nat):Int) * 1=lo:=by simp
   have e2:(((hi-lo).toNat:Nat):Int)-((0:Nat):Int)=Builtin.Range.rangeSize lo hi 1:=by rw[rangeSize_one];split <;> omega
   show IsRangeIter _ _ (lo+((0:Nat):Int) * 1) ((((hi-lo).toNat:Nat):Int)-((0:Nat):Int)) 1;rw[e1,e2];exact aJX _ rfl
 . have e:b=(s.heap.push { cls:=.type "range", data:=.fields #[.int lo t,.int hi u,.int 1 v] }).objs.size:=by simpa using hb
   subst e;exact I1.fpOk (aKL _) (I1.hok.fresh (aKL _))
def qD(ta:TA):TI:=λσ H R=>ta σ H λvs H1=>∃ j:Int,vs=[.int j] /\ -(2 ^ 62)<=j/\j<2 ^ 62/\R (Itr 0 j.toNat) H1
theorem xS{a:Expr}{ta:TA}{p pos:Pos}(hg:Gl X "range")(hm:X.mg "range" = none)(ha:PA X [a] ta)(hs:starEach [a] X.env=[(false,eval a X.env)]:=by rfl):PI X tg (.Call (.Name "range" p) [a] [] pos) (qD ta):=by
 intro aA s σ H R I h;refine Call_ (kG I hg hm boot_range (aKM (thn (ha pos aA s σ H _ I h) λus s1 ⟨vs,H1,I1,r1,q1⟩=>?_) hs rfl));obtain ⟨j,e,q1,q2,q⟩:=q1;subst e;cases r1 with
 | cons r rr=>cases rr;obtain ⟨t,rfl⟩:=r;exact call_range_1 (xR I1 (by omega) (by omega) q1 q2 (by simpa using q))
def tFor(wi:TI)(g:TG)(tb:TS):TS:=λD σ H=>wi σ H λJ H1=>∃ W:Nat->Nat->St->Hp->Prop,(∃ m,W 0 m σ H1)/\∀ i m σ H,W i m σ H ->
 (J.stop i H/\D.nx σ H)\/(J.go i H/\∃ N:St->Hp->Prop,(∀ σ' H',N σ' H'->∃ m',m'<m/\W (i+1) m' σ' H')/\∀ x H',J.yld i H x H'->g x σ H' λσ2 H2=>tb { D with nx:=N,ct:=N,bk:=D.nx } σ2 H2)
def i8(fp:List Addr)(h:Heap):LAO:=fp.filterMap λb=>(h.get? b).map λo=>(b,o)
theorem mQ{fp:List Addr}{h:Heap}{b:Addr}{o:Obj}(hb:b∈fp)(e:h.get? b=some o):(b,o)∈i8 fp h:=aKN.mpr ⟨b,hb,by rw[e];rfl⟩
theorem xT{fp:List Addr}{h:Heap}{p:Addr×Obj}(hp:p∈i8 fp h):p.1∈fp/\h.get? p.1=some p.2:=by
 obtain ⟨b,hb,e⟩:=aKN.mp hp;cases q:h.get? b with
 | none=>rw[q] at e;cases e
 | some o=>rw[q] at e;have e':(b,o)=p:=aKD e;subst e';exact ⟨hb,q⟩
theorem Inv.pinned{aA:LAO}{σ:St}{H:Hp}{s:Shared}{fp:List Addr}(I:Inv X aA σ H s)(hf:∀ b∈fp,fL X aA H b)(ho:∀ b∈fp,∃ o,s.heap.get? b=some o/\∀ v,o.data ≠ .cell v):Inv X (aA++i8 fp s.heap) σ H s :=
 I.pins_of λp hp=>(aJ8.mp hp).elim (λz=>I.pin p (aKO _ z)) λz=>by obtain ⟨hb,e⟩:=xT z;obtain ⟨f0,f1,f2,_⟩:=hf p.1 hb;obtain ⟨o,e',d⟩:=ho p.1 hb;rw[e] at e';cases e';exact ⟨e,f0,f1,f2,d⟩
theorem Inv.unpinned{aA pl:LAO}{σ:St}{H:Hp}{s:Shared}(I:Inv X (aA++pl) σ H s):Inv X aA σ H s:=I.pins_of λp hp=>I.pin p (aKO _ (aJ9 _ hp))
theorem xU{aO:Expr}{body:List Stmt}{wi:TI}{g:TG}{tb:TS}{pos:Pos}(hp:PassesOwn (model X.prog X.w) X.A X.env X.xe)(hc:X.calm=true)(hi:PI X tg aO wi)(hg:PG X tg g)(hb:PSs X body tb)(hs:∀ x,foldedSetIterable aO X.env x=pure x:=by intro _;rfl):PS X (.For tg aO body [] pos) (tFor wi g tb):=by
 intro aA s σ H D I h;refine wpAny_For (thn (hi aA s σ H _ I h) λv s1 h1=>thn h1 λitv s2 h2=>?_) hs;obtain ⟨it,fp,tn,J,H2,e,I2,T,st2,f2,W,⟨m0,w0⟩,turn⟩:=h2;subst e;have stat:∀ {H':Hp},(∀ b∈fp,H' b=none)->∀ b∈fp,fL X aA H' b:=λhn b hb=>⟨hn b hb,(f2 b hb).2⟩;refine codeAny_forLoop_any (λn s'=>∃ i σ' H',Inv X aA σ' H' s'/\tn i s'.heap/\(∀ b∈fp,H' b=none)/\W i n σ' H') ?_ m0 ⟨0,σ,H2,I2,st2,λb hb=>(f2 b hb).1,w0⟩;rintro n s3 ⟨i,σ3,H3,I3,st3,fr3,w3⟩;rcases turn i n σ3 H3 w3 with ⟨stop,qn⟩ | ⟨go,N,hN,step⟩
 . refine aKP hp (thn (T.done X rfl rfl rfl hc i aA s3 σ3 H3 X.xe I3 (stat fr3) st3 stop) λr s4 ⟨hr,I4⟩=>?_);subst hr;exact wpAny_execs_nil ⟨σ3,H3,I4,qn⟩
 . refine aKP hp (thn (T.item X rfl rfl rfl hc i aA s3 σ3 H3 X.xe I3 (stat fr3) st3 go) λr s4 ⟨u,hr,h4⟩=>?_);subst hr;refine aKP hp (thn h4 λ_ s5 ⟨x,H5,I5,r5,y5,st5,fr5⟩=>?_);have I5':=I5.pinned (stat fr5) (T.obj _ _ st5);refine aKP hp (thn (hg _ s5 σ3 H5 x u _ I5' r5 (step x H5 y5)) λ_ s6 ⟨σ6,H6,I6,q6⟩=>?_);refine aKP hp (thn (hb _ s6 σ6 H6 _ I6 q6) λf s7 q7=>?_);have again:∀ {σ7:St} {H7:Hp},Inv X (aA++i8 fp s5.heap) σ7 H7 s7->N σ7 H7->∃ m,m<n/\∃ i σ' H',Inv X aA σ' H' s7/\tn i s7.heap/\(∀ b∈fp,H' b=none)/\W i m σ' H':=λ{σ7 H7} I7 n7=>by obtain ⟨m',hm,w7⟩:=hN σ7 H7 n7;refine ⟨m',hm,i+1,σ7,H7,I7.unpinned,T.keep _ _ _ st5 λb hb o e=>(I7.pin (b,o) (aKO _ (aKO _ (mQ hb e)))).1,λb hb=>?_,w7⟩;obtain ⟨o,e,d⟩:=T.obj _ _ st5 b hb;exact (I7.pin (b,o) (aKO _ (aKO _ (mQ hb e)))).2.1
   cases f with
   | next=>obtain ⟨σ7,H7,I7,n7⟩:=q7;exact again I7 n7
   | cont=>obtain ⟨σ7,H7,I7,n7⟩:=q7;exact again I7 n7
   | brk=>obtain ⟨σ7,H7,I7,q7⟩:=q7;exact ⟨σ7,H7,I7.unpinned,q7⟩
   | ret v=>obtain ⟨x7,σ7,H7,I7,r7,q7⟩:=q7;exact ⟨x7,σ7,H7,I7.unpinned,r7,q7⟩
end
abbrev R2:=V->V->Hp->VK->Prop
def OpR(X:Cx)(f:Value->Value->Sem Value)(r:R2):Prop :=
 ∀ (aA:LAO) (s:Shared) (σ:St) (H:Hp) (x y:V) (v u:Value) (Q:VK),Inv X aA σ H s->aI x v->aI y u->r x y H Q ->
  wpAny (model X.prog X.w) X.A (f v u) (EP X aA σ Q) X.xe s
def UnR(X:Cx)(f:Value->Sem Value)(r:V->Hp->VK->Prop):Prop :=
 ∀ (aA:LAO) (s:Shared) (σ:St) (H:Hp) (x:V) (v:Value) (Q:VK),Inv X aA σ H s->aI x v->r x H Q ->
  wpAny (model X.prog X.w) X.A (f v) (EP X aA σ Q) X.xe s
def b0(X:Cx)(f:Value)(r:List V->Hp->VK->Prop):Prop :=
 ∀ (aA:LAO) (s:Shared) (σ:St) (H:Hp) (xs:List V) (us:List Value) (Q:VK),Inv X aA σ H s->aJ xs us->r xs H Q ->
  wpAny (model X.prog X.w) X.A (call f us) (EP X aA σ Q) X.xe s
def TruR(X:Cx)(r:V->Hp->(Bool->Hp->Prop)->Prop):Prop :=
 ∀ (aA:LAO) (s:Shared) (σ:St) (H:Hp) (x:V) (v:Value) (Q:Bool->Hp->Prop),Inv X aA σ H s->aI x v->r x H Q ->
  wpAny (model X.prog X.w) X.A (truthy v) (TP X aA σ Q) X.xe s
def tOp(r:R2)(ta tb:TE):TE:=λσ H Q=>ta σ H λx H1=>tb σ H1 λy H2=>r x y H2 Q
def tUn(r:V->Hp->VK->Prop)(ta:TE):TE:=λσ H Q=>ta σ H λx H1=>r x H1 Q
def rI(C:Int->Int->Prop)(g:Int->Int->V):R2:=λx y H Q=>∃ i j,x=.int i/\y=.int j/\C i j/\Q (g i j) H
def rI0(g:Int->Int->V):R2:=λx y H Q=>∃ i j,x=.int i/\y=.int j/\Q (g i j) H
def rU(g:Int->V):V->Hp->VK->Prop:=λx H Q=>∃ i,x=.int i/\Q (g i) H
section
variable {X:Cx}{a b c:Expr}{ta tb tc:TE}{pos:Pos}
theorem mR(ha:PE X a ta)(hb:PE X b tb){aA:LAO}{s:Shared}{σ:St}{H:Hp}{R:V->V->Hp->Prop}(I:Inv X aA σ H s)(h:ta σ H λx H1=>tb σ H1 λy H2=>R x y H2){Q:VSP}{f:Value->Value->Sem Value}(hf:∀ v u s2 x y H2,Inv X aA σ H2 s2->aI x v->aI y u->R x y H2->wpAny (model X.prog X.w) X.A (f v u) Q X.xe s2):wpAny (model X.prog X.w) X.A (eval a X.env) (λv s₁=>wpAny (model X.prog X.w) X.A (eval b X.env) (λu s₂=>wpAny (model X.prog X.w) X.A (f v u) Q X.xe s₂) X.xe s₁) X.xe s:=by refine thn (ha aA s σ H _ I h) λv s1 ⟨x,H1,I1,r1,q1⟩=>?_;refine thn (hb aA s1 σ H1 _ I1 q1) λu s2 ⟨y,H2,I2,r2,q2⟩=>?_;exact hf v u s2 x y H2 I2 r1 r2 q2
theorem pe_op{op:Operator}{r:R2}(ho:OpR X (binaryOp op) r)(ha:PE X a ta)(hb:PE X b tb):PE X (.BinOp a op b pos) (tOp r ta tb):=by intro aA s σ H Q I h;exact wpAny_BinOp (mR ha hb I h λv u s2 x y H2 I2 rx ry q=>ho aA s2 σ H2 x y v u Q I2 rx ry q)
theorem pe_un{op:UnaryOp}{r:V->Hp->VK->Prop}(ho:UnR X (unaryOp op) r)(ha:PE X a ta):PE X (.UnaryOp op a pos) (tUn r ta):=by intro aA s σ H Q I h;exact UnaryOp_ (thn (ha aA s σ H _ I h) λv s1 ⟨x,H1,I1,r1,q1⟩=>ho aA s1 σ H1 x v Q I1 r1 q1)
theorem opI{f:Value->Value->Sem Value}{C:Int->Int->Prop}{g:Int->Int->Int}(rule:∀ (i j:Int) (t u:Tok) (s:Shared) (Q:VSP) (E:VSP),C i j->Q (.int (g i j) s.toks) { s with toks:=s.toks+1 } -> wpAny (model X.prog X.w) X.A (f (.int i t) (.int j u)) Q E s):OpR X f (rI C λi j=>.int (g i j)):=by intro aA s σ H x y v u Q I rx ry h;obtain ⟨i,j,rfl,rfl,hc,q⟩:=h;obtain ⟨t,rfl⟩:=rx;obtain ⟨t',rfl⟩:=ry;exact rule i j t t' s _ _ hc ⟨.int (g i j),H,I.tok _,⟨_,rfl⟩,q⟩
theorem kI{f:Value->Value->Sem Value}{g:Int->Int->Int}(rule:∀ (i j:Int) (t u:Tok) (s:Shared) (Q:VSP) (E:VSP),Q (.int (g i j) s.toks) { s with toks:=s.toks+1 } -> wpAny (model X.prog X.w) X.A (f (.int i t) (.int j u)) Q E s):OpR X f (rI0 λi j=>.int (g i j)):=by intro aA s σ H x y v u Q I rx ry h;obtain ⟨i,j,rfl,rfl,q⟩:=h;obtain ⟨t,rfl⟩:=rx;obtain ⟨t',rfl⟩:=ry;exact rule i j t t' s _ _ ⟨.int (g i j),H,I.tok _,⟨_,rfl⟩,q⟩
theorem kJ{f:Value->Value->Sem Value}{g:Int->Int->Bool}(rule:∀ (i j:Int) (t u:Tok) (s:Shared) (Q:VSP) (E:VSP),Q (.bool (g i j)) s->wpAny (model X.prog X.w) X.A (f (.int i t) (.int j u)) Q E s):OpR X f (rI0 λi j=>.bl (g i j)):=by intro aA s σ H x y v u Q I rx ry h;obtain ⟨i,j,rfl,rfl,q⟩:=h;obtain ⟨t,rfl⟩:=rx;obtain ⟨t',rfl⟩:=ry;exact rule i j t t' s _ _ ⟨.bl (g i j),H,I,rfl,q⟩
def CPow(i j:Int):Prop:=0<=j/\j<=1000000/\i.natAbs<2 ^ 64
theorem xV(k:Nat):(0:Int)<=2 ^ k:=by rw[two_pow_cast];exact Int.natCast_nonneg _
theorem xW:OpR X (binaryOp .Add) (rI0 λi j=>.int (i+j)):=kI λ_ _ _ _ _ _ _ q=>add_int q
theorem xX:OpR X (binaryOp .Sub) (rI0 λi j=>.int (i-j)):=kI λ_ _ _ _ _ _ _ q=>sub_int q
theorem xY:OpR X (binaryOp .Mod) (rI (λ_ j=>0<j) λi j=>.int (i % j)):=opI λi j _ _ _ _ _ hc q=>by have h1:(0:Int)<j:=hc;exact mod_int' (by omega) (by rw[Int.fmod_eq_emod_of_nonneg i (by omega)];exact q)
theorem xZ:OpR X (binaryOp .Pow) (rI CPow λi j=>.int (i ^ j.toNat)):=opI λ_ _ _ _ _ _ _ hc q=>pow_int_small hc.1 hc.2.1 hc.2.2 q
theorem x0:OpR X (binaryOp .LShift) (rI CPow λi j=>.int (i * 2 ^ j.toNat)):=opI λ_ _ _ _ _ _ _ hc q=>lshift_int_small hc.1 hc.2.1 hc.2.2 q
theorem yA:OpR X (binaryOp .RShift) (rI (λ_ j=>0<=j) λi j=>.int (i / 2 ^ j.toNat)):=opI λi j _ _ _ _ _ hc q =>
 rshift_int hc (by rw[Int.fdiv_eq_ediv_of_nonneg i (xV _)];exact q)
theorem yB:OpR X (binaryOp .BitAnd) (rI0 λi j=>.int (Builtin.bitAnd i j)):=kI λ_ _ _ _ _ _ _ q=>and_int q
theorem op_or:OpR X (binaryOp .BitOr) (rI0 λi j=>.int (Builtin.bitOr i j)):=kI λ_ _ _ _ _ _ _ q=>or_int q
theorem unI{f:Value->Sem Value}{g:Int->Int}(rule:∀ (i:Int) (t:Tok) (s:Shared) (Q:VSP) (E:VSP),Q (.int (g i) s.toks) { s with toks:=s.toks+1 } -> wpAny (model X.prog X.w) X.A (f (.int i t)) Q E s):UnR X f (rU λi=>.int (g i)):=by intro aA s σ H x v Q I rx h;obtain ⟨i,rfl,q⟩:=h;obtain ⟨t,rfl⟩:=rx;exact rule i t s _ _ ⟨.int (g i),H,I.tok _,⟨_,rfl⟩,q⟩
theorem yC:UnR X (unaryOp .USub) (rU λi=>.int (-i)):=unI λ_ _ _ _ _ q=>neg_int q
end
section
variable {X:Cx}{a b c:Expr}{ta tb tc:TE}{pos:Pos}
theorem kK{aA:LAO}{σ:St}{H:Hp}{s:Shared}{Q:VK}{k k':Bool}(I:Inv X aA σ H s)(q:Q (.bl k) H)(e:k=k'):EP X aA σ Q (.bool k') s:=by subst e;exact ⟨.bl k,H,I,rfl,q⟩
theorem op_lt:OpR X (compareOp .Lt) (rI0 λi j=>.bl (decide (i<j))):=kJ λ_ _ _ _ _ _ _ q=>lt_int q
theorem op_le:OpR X (compareOp .LtE) (rI0 λi j=>.bl (decide (i<=j))):=kJ λ_ _ _ _ _ _ _ q=>le_int q
theorem op_gt:OpR X (compareOp .Gt) (rI0 λi j=>.bl (decide (j<i))):=kJ λ_ _ _ _ _ _ _ q=>gt_int q
theorem op_ge:OpR X (compareOp .GtE) (rI0 λi j=>.bl (decide (j<=i))):=kJ λ_ _ _ _ _ _ _ q=>ge_int q
theorem yD:OpR X (compareOp .In) (λx y H Q=>∃ i j,x=.str i/\y=.str j/\Q (.bl (!(Builtin.Str.occurrences j i 0 j.length 1).isEmpty)) H):=by intro aA s σ H x y v u Q I rx ry h;obtain ⟨i,j,rfl,rfl,q⟩:=h;obtain ⟨t,rfl⟩:=rx;obtain ⟨t',rfl⟩:=ry;exact in_str (kK I q rfl)
theorem yE:OpR X (compareOp .Is) (λx y H Q=>y=.non/\Q (.bl (decide (x=.non))) H):=by
 intro aA s σ H x y v u Q I rx ry h;obtain ⟨rfl,q⟩:=h;cases ry;refine is_none_gen (kK I q ?_);cases x <;> first
  | (cases rx;rfl)
  | (obtain ⟨t,rfl⟩:=rx;rfl)
theorem yF:OpR X (compareOp .IsNot) (λx y H Q=>y=.non/\Q (.bl (!decide (x=.non))) H):=by
 intro aA s σ H x y v u Q I rx ry h;obtain ⟨rfl,q⟩:=h;cases ry;refine isnot_none_gen (kK I q ?_);cases x <;> first
  | (cases rx;rfl)
  | (obtain ⟨t,rfl⟩:=rx;rfl)
theorem yG:OpR X (compareOp .NotIn) (λx y H Q=>∃ i j,x=.str i/\y=.str j/\Q (.bl (!(!(Builtin.Str.occurrences j i 0 j.length 1).isEmpty))) H):=by intro aA s σ H x y v u Q I rx ry h;obtain ⟨i,j,rfl,rfl,q⟩:=h;obtain ⟨t,rfl⟩:=rx;obtain ⟨t',rfl⟩:=ry;exact notIn_str (kK I q rfl)
theorem OpR.or{f:Value->Value->Sem Value}{r r':R2}(h:OpR X f r)(h':OpR X f r'):OpR X f (λx y H Q=>r x y H Q\/r' x y H Q):=by
 intro aA s σ H x y v u Q I rx ry q;rcases q with q | q
 . exact h aA s σ H x y v u Q I rx ry q
 . exact h' aA s σ H x y v u Q I rx ry q
theorem yH{op:CmpOp}{r:R2}(ho:OpR X (compareOp op) r)(ha:PE X a ta)(hb:PE X b tb)(hm:behindInMarks op b=false):PE X (.Compare a [op] [b] pos) (tOp r ta tb):=by intro aA s σ H Q I h;exact wpAny_Compare1 (mR ha hb I h λv u s2 x y H2 I2 rx ry q=>ho aA s2 σ H2 x y v u Q I2 rx ry q) hm
def qE(t:TE):TT:=λσ H Q=>t σ H λx H'=>∃ k,x=.bl k/\Q k H'
theorem yI{op:CmpOp}{r:R2}(ho:OpR X (compareOp op) r)(ha:PE X a ta)(hb:PE X b tb)(hm:behindInMarks op b=false):PT X (.Compare a [op] [b] pos) (qE (tOp r ta tb)):=by
 intro aA s σ H Q I h;refine wpAny_isTrue_Compare1 (thn (ha aA s σ H _ I h) λv s1 ⟨x,H1,I1,r1,q1⟩=>thn (hb aA s1 σ H1 _ I1 q1) λu s2 ⟨y,H2,I2,r2,q2⟩ =>
  thn (ho aA s2 σ H2 x y v u _ I2 r1 r2 q2) λc s3 ⟨z,H3,I3,r3,k,e,q3⟩=>?_) hm
 subst e;cases r3;exact aKF ⟨H3,I3,q3⟩
def mS(K:Fg)(x:V)(H:Hp)(k:Bool):Prop :=
 match x with
 | .non=>k=false
 | .bl b=>k=b
 | .int i=>k=(i != 0)
 | .str y=>y.length<=sizeLine/\k=((y.length:Int) != 0)
 | .byt y=>y.size<=sizeLine/\k=((y.size:Int) != 0)
 | .ref p=>(∃ xs,SqL K H p xs/\k = !xs.isEmpty)\/(∃ xs,SqT K H p xs/\k = !xs.isEmpty)\/∃ kvs,H p=some (.dK kvs)/\k = !kvs.isEmpty
 | _=>False
theorem yJ{κ:Type}{kvs:List (κ×V)}{vs:List (κ×Value)}(r:KV kvs vs):(!vs.isEmpty) = !kvs.isEmpty:=by cases r <;> rfl
theorem qF{xs:List V}{its:List Value}(r:aJ xs its):(!its.toArray.isEmpty) = !xs.isEmpty:=by cases r <;> simp
theorem g9:(sizeLine:Nat)<2 ^ 63:=by rw[aKQ];decide
theorem yK:TruR X (λx H Q=>∃ k,mS X.K x H k/\Q k H):=by
 intro aA s σ H x v Q I rx h;obtain ⟨k,e,q⟩:=h;have hl:=g9;have hs:sizeLine=16777216:=aKQ;cases x with
 | non=>cases rx;have e':k=false:=e;subst e';exact truthy_none ⟨H,I,q⟩
 | bl b=>cases rx;have e':k=b:=e;subst e';exact aKF ⟨H,I,q⟩
 | int i=>obtain ⟨t,rfl⟩:=rx;have e':k=(i != 0):=e;subst e';exact PySem.P.truthy_int ⟨H,I,q⟩
 | str y=>obtain ⟨t,rfl⟩:=rx;obtain ⟨hy,e'⟩:y.length<=sizeLine/\k=((y.length:Int) != 0):=e;subst e';exact PySem.P.truthy_str (by omega) ⟨H,I.tok _,q⟩
 | byt y=>obtain ⟨t,rfl⟩:=rx;obtain ⟨hy,e'⟩:y.size<=sizeLine/\k=((y.size:Int) != 0):=e;subst e';exact PySem.W.truthy_bytes (by omega) ⟨H,I.tok _,q⟩
 | ref p =>
  cases rx;have e':(∃ xs,SqL X.K H p xs/\k = !xs.isEmpty)\/(∃ xs,SqT X.K H p xs/\k = !xs.isEmpty)\/∃ kvs,H p=some (.dK kvs)/\k = !kvs.isEmpty:=e;rcases e' with ⟨xs,hx,e'⟩ | ⟨xs,hx,e'⟩ | ⟨kvs,hx,e'⟩
  . subst e';obtain ⟨its,r,pl,hz⟩:=I.list hx;have hlen:=r.length;exact wpAny_truthy_list pl.isList (by simp only[aKR];omega) ⟨H,I.tok _,by rw[qF r];exact q⟩
  . subst e';obtain ⟨its,r,pl,hz⟩:=I.tuple hx;have hlen:=r.length;exact truthy_tuple pl (by simp only[aKR];omega) ⟨H,I.tok _,by rw[qF r];exact q⟩
  . subst e';obtain ⟨hz,hS,vs,r,m⟩:kvs.length<=sizeLine/\(p==sysModules)=false/\∃ vs,KV kvs vs/\s.heap.DictOf (gY X.prog X.w) p vs:=I.hok p _ hx;have hlen:kvs.length=vs.length:=aJW r;exact wpAny_truthy_dict hS m (by omega) ⟨H,I.tok _,by rw[yJ r];exact q⟩
 | _=>exact (show False from e).elim
theorem yL (ha : PE X a ta) (he : ∀ whole, isTrue a X.env whole = (do let v ← whole; standAt a.pos; holding [v] (truthy v))) :
    PT X a (λσ H Q=>ta σ H λx H'=>∃ k,mS X.K x H' k/\Q k H'):=by
 intro aA s σ H Q I h;exact isTrue_plain (thn (ha aA s σ H _ I h) λv s1 ⟨x,H1,I1,r1,q1⟩=>yK aA s1 σ H1 x v Q I1 r1 q1) (he _)
theorem yM:OpR X (binaryOp .Add) (λx y H Q=>∃ i j,x=.str i/\y=.str j/\i.length+j.length<=sizeLine/\Q (.str (i++j)) H):=by intro aA s σ H x y v u Q I rx ry h;obtain ⟨i,j,rfl,rfl,hz,q⟩:=h;obtain ⟨t,rfl⟩:=rx;obtain ⟨t',rfl⟩:=ry;exact add_str (λt' tk=>⟨.str (i++j),H,I.tok _,⟨_,rfl⟩,q⟩) hz
theorem dP{x:V}{us:List Value}(r:aJ [x] us):∃ u,us=[u]/\aI x u:=by
 cases r with
 | cons r1 r2=>cases r2;exact ⟨_,rfl,r1⟩
theorem vals2{x y:V}{us:List Value}(r:aJ [x,y] us):∃ u w',us=[u,w']/\aI x u/\aI y w':=by
 cases r with
 | cons r1 r2 =>
  cases r2 with
  | cons r3 r4=>cases r4;exact ⟨_,_,rfl,r1,r3⟩
theorem yN:b0 X (.type "int") (λxs H Q=>(∃ i,xs=[.int i]/\Q (.int i) H)\/∃ k,xs=[.bl k]/\Q (.int (if k then 1 else 0)) H):=by
 intro aA s σ H xs us Q I r h;rcases h with ⟨i,rfl,q⟩ | ⟨k,rfl,q⟩
 . obtain ⟨u,rfl,t,rfl⟩:=dP r;exact call_int_int ⟨.int i,H,I,⟨_,rfl⟩,q⟩
 . obtain ⟨u,rfl,r1⟩:=dP r;cases r1;exact call_int_bool ⟨.int (if k then 1 else 0),H,I.tok _,⟨_,rfl⟩,q⟩
theorem yO:b0 X (.type "str") (λxs H Q=>∃ i,xs=[.int i]/\i.natAbs.log2<1920/\Q (.str (toString i)) H):=by intro aA s σ H xs us Q I r h;obtain ⟨i,rfl,hz,q⟩:=h;obtain ⟨u,rfl,t,rfl⟩:=dP r;exact PySem.P.str_of_int hz ⟨.str _,H,I.tok _,⟨_,rfl⟩,q⟩
def LenV(K:Fg)(x:V)(H:Hp)(n:Nat):Prop :=
 match x with
 | .str y=>y.length<=sizeLine/\n=y.length
 | .byt y=>y.size<=sizeLine/\n=y.size
 | .ref p=>(∃ xs,SqL K H p xs/\n=xs.length)\/∃ xs,SqT K H p xs/\n=xs.length
 | _=>False
theorem yP:b0 X (.builtin "len") (λxs H Q=>∃ x n,xs=[x]/\LenV X.K x H n/\Q (.int n) H):=by
 intro aA s σ H xs us Q I r h;obtain ⟨x,n,rfl,e,q⟩:=h;obtain ⟨u,rfl,rx⟩:=dP r;have hl:=g9;have hs:sizeLine=16777216:=aKQ;cases x with
 | str y=>obtain ⟨t,rfl⟩:=rx;obtain ⟨hy,e'⟩:y.length<=sizeLine/\n=y.length:=e;subst e';exact len_str (by omega) ⟨.int _,H,I.tok _,⟨_,rfl⟩,q⟩
 | byt y=>obtain ⟨t,rfl⟩:=rx;obtain ⟨hy,e'⟩:y.size<=sizeLine/\n=y.size:=e;subst e';exact PySem.W.len_bytes (by omega) ⟨.int _,H,I.tok _,⟨_,rfl⟩,q⟩
 | ref p =>
  cases rx;have e':(∃ xs,SqL X.K H p xs/\n=xs.length)\/∃ xs,SqT X.K H p xs/\n=xs.length:=e;rcases e' with ⟨xs,hx,e'⟩ | ⟨xs,hx,e'⟩
  . subst e';obtain ⟨its,r',pl,hz⟩:=I.list hx;have hlen:=r'.length;exact Calls.call_len_list pl.isList (by simp only[aKR];omega) ⟨.int xs.length,H,I.tok _,⟨_,by simp only[aKR];rw[hlen]⟩,q⟩
  . subst e';obtain ⟨its,r',pl,hz⟩:=I.tuple hx;have hlen:=r'.length;exact len_tuple pl (by simp only[aKR];omega) ⟨.int xs.length,H,I.tok _,⟨_,by simp only[aKR];rw[hlen]⟩,q⟩
 | _=>exact (show False from e).elim
end
structure kL(h:Heap)(x dx C:Addr)(mA:SOV):Prop where
 obj:h.get? x=some (PySem.W.instObj C dx)
 ns:h.Ns1 dx mA
 ne:dx≠x
theorem yQ{h:Heap}{dx:Addr}{mA:SOV}(n:h.Ns1 dx mA):∃ od,h.get? dx=some od/\∀ name,PySem.W.lookIn name od=some (mA name):=by
 obtain ⟨o,es,ep,ho,hd,hk,_,hm⟩:=n;refine ⟨o,ho,λname=>?_⟩;have e:=hm name;unfold nsFind findBy at e;rw[<- Array.find?_toList] at e;unfold PySem.W.lookIn;rw[hd];dsimp only;split
 . rename_i y q;rw[q] at e;exact congrArg some e
 . rename_i q;rw[q] at e;have a:es.toList.any (·.refKey)=false:=by rw[List.any_eq_false];intro y hy;obtain ⟨z,t,hkey⟩:=hk y (aKS.mp hy);simp[DictEntry.refKey,hkey]
   have a':¬ es.toList.any (·.refKey)=true:=by rw[a];exact aKT
   rw[if_neg a'];exact congrArg some e
theorem kL.look{h:Heap}{x dx C:Addr}{mA:SOV}(I:kL h x dx C mA):∃ od,PySem.W.InstAt h x (PySem.W.instObj C dx) C (some od)/\∀ name,PySem.W.lookIn name od=some (mA name) :=
 let ⟨od,ho,hl⟩:=yQ I.ns
 ⟨od,⟨I.obj,rfl,rfl,ho⟩,hl⟩
section
variable {prog:Program}{w:World}{A:Around}{E:VSP}{s:Shared}{K:Fg}{x dx C f:Addr}{mA:SOV}{name:Str}{v:Value}
theorem yR{pl:Sem Bool}{Q:Value×List Value->Shared->Prop}(X:K.In s.heap)(I:kL s.heap x dx C mA)(hg:PySem.W.plainGet K C name=true)(hf:PySem.W.findIn K (.ref C) name=some (some (.ref f)))(ht:PySem.W.isFn K (.ref f)=true)(hv:mA name=none)(h:Q (.ref f,[.ref x]) s):wpAny (model prog w) A (getMethod (.ref x) name pl) Q E s:=by obtain ⟨od,J,hl⟩:=I.look;exact PySem.W.method_fn X J (PySem.W.plainGet_of hg).1 (PySem.W.plainGet_of hg).2 hf (aKU.mp ht) (by show (PySem.W.lookIn name od).map (·.isSome)=some false;rw[hl,hv];rfl) h
theorem yS{R:Result->Shared->Prop}(X:K.In s.heap)(hm:PySem.W.makesIn K C=true)(hi:PySem.W.findIn K (.ref C) "__init__" = some (some (.builtin "object.__init__")))(hb:∀ self,PySem.W.Looks (model prog w) s.heap (bindSpecial (.builtin "object.__init__") self) (.builtin "object.__init__", [self]))(h:codeAny (model prog w) (A.under (.builtin "type.__call__" ⟨[.ref C],[]⟩)) (.call (.builtin "object.__init__") ⟨[.ref (s.heap.objs.size+1)],[]⟩) (PySem.W.InitBack (s.heap.objs.size+1) R) { s with heap:=(s.heap.push PySem.W.emptyDict).push (PySem.W.instObj C s.heap.objs.size) }):codeAny (model prog w) A (.call (.ref C) ⟨[],[]⟩) R s:=by obtain ⟨hh,g,d,t,os⟩:=s;exact PySem.W.make_core (PySem.W.makes_of X hm) (PySem.W.looks_findIn X hi) hb (.inr ⟨rfl,rfl⟩) h
end
theorem cW.some_of{v:V}{o:Option Value}(r:cW (some v) o):∃ u,o=some u/\aI v u:=by
 cases o with
 | none=>exact (show False from r).elim
 | some u=>exact ⟨u,rfl,r⟩
theorem cW.none_of{o:Option Value}(r:cW none o):o=none:=by
 cases o with
 | none=>rfl
 | some u=>exact (show False from r).elim
section
variable {P:Program}{w:World}{H H':Hp}{h h':Heap}{a C dx:Addr}{fs fs':List (Str×V)}
theorem yT(hok:HOk P w H h)(e:H a=some (.ins C dx fs)):∃ mA,kL h a dx C mA/\(∀ f,cW (fs.lookup f) (mA f))/\PySem.Within mA (fs.map (·.1))/\fs.length<=1000/\H dx=some (.own a):=by
 obtain ⟨d,z,ne,ob,mA,n,r,q⟩:=(show bE P w H h a (.ins C dx fs) from hok a _ e)
 exact ⟨mA,⟨ob,n,ne⟩,r,q,z,d⟩
end
structure Cls(K:Fg)(C:Addr):Prop where
 pg:PySem.W.plainGet K C Str.empty=true
 hd:PySem.W.hasDictIn K C=true
 po:PySem.W.plainOver K C=true
 sa:PySem.W.findIn K (.ref C) "__setattr__" = some (some (.builtin "object.__setattr__"))
theorem Cls.get{K:Fg}{C:Addr}(c:Cls K C)(f:Str):PySem.W.plainGet K C f=true:=c.pg
def mU(K:Fg)(C:Addr)(f:Str):Prop:=PySem.W.findIn K (.ref C) f=some none
structure i9(K:Fg)(C:Addr)(m:Str)(f:Addr):Prop where
 at_:PySem.W.findIn K (.ref C) m=some (some (.ref f))
 fn:PySem.W.isFn K (.ref f)=true
 kp:PySem.W.keepIn K (.ref f)=true
section
variable {X:Cx}{aA:LAO}{σ:St}{H:Hp}{s:Shared}{a C dx:Addr}{fs:List (Str×V)}{f:Str}{v:V}{A:Around}{E:VSP}
theorem yU{m:Str}{g:Addr}{pl:Sem Bool}{Q:Value×List Value->Shared->Prop}(I:Inv X aA σ H s)(e:H a=some (.ins C dx fs))(c:Cls X.K C)(k:i9 X.K C m g)(l:fs.lookup m=none)(h:Q (.ref g,[.ref a]) s):wpAny (model X.prog X.w) A (getMethod (.ref a) m pl) Q E s:=by
 obtain ⟨mA,O,r,_,_,_⟩:=yT I.hok e;have hn:mA m=none:=cW.none_of (by rw[<- l];exact r m)
 exact yR I.kIn O (c.get m) k.at_ k.fn hn h
theorem Inv.made(I:Inv X aA σ H s):Inv X aA σ (upd (upd H s.heap.objs.size (.own (s.heap.objs.size+1))) (s.heap.objs.size+1) (.ins C s.heap.objs.size [])) { s with heap:=(s.heap.push PySem.W.emptyDict).push (PySem.W.instObj C s.heap.objs.size) }:=by
 have e1:(s.heap.push PySem.W.emptyDict).get? s.heap.objs.size=some PySem.W.emptyDict:=aJX s.heap rfl;have e2:((s.heap.push PySem.W.emptyDict).push (PySem.W.instObj C s.heap.objs.size)).get? (s.heap.objs.size+1)=some (PySem.W.instObj C s.heap.objs.size):=by
  have:=aJX (s.heap.push PySem.W.emptyDict) (o:=PySem.W.instObj C s.heap.objs.size) rfl
  rwa [aKV] at this
 have e3:(s.heap.push PySem.W.emptyDict).Ns s.heap.objs.size (λ_=>none):=⟨PySem.W.emptyDict,#[],_,e1,rfl,(λe he=>absurd he (by simp)),λ_=>rfl⟩
 have I1:=I.laid (a:=s.heap.objs.size) (o:=.own (s.heap.objs.size+1)) (h':=s.heap.push PySem.W.emptyDict) (t':=s.toks) (λb u q=>hps q) (aKL _) ⟨_,e1⟩;refine I1.laid (a:=s.heap.objs.size+1) (o:=.ins C s.heap.objs.size []) (t':=s.toks) (λb u q=>hps q) (Nat.le_of_eq (aKV _ _)) ?_;have ne:s.heap.objs.size≠s.heap.objs.size+1:=aJ1 (aKW _);refine ⟨by rw[aP ne,bA],aKX _,ne,e2,λ_=>none,(Heap.Ns1.of_empty e3).at λo q=>hps q,λ_=>True.intro,λy hy=>absurd rfl hy⟩
end
section
variable {X:Cx}{o e value:Expr}{f:Str}{pos pos' tpos:Pos}{ta tv:TE}
theorem yV {pl : Sem Bool} {m : Str} {apos : Pos} {args : List Expr} {aA : List (Addr × Obj)} {s : Shared} {σ : St} {H : Hp} {Q : Value → Shared → Prop} {te : TE} (he : PE X e te) (I : Inv X aA σ H s) (h : te σ H fun x H1 => ∃ a C dx fs g, x = .ref a ∧ H1 a = some (.ins C dx fs) ∧ Cls X.K C ∧ i9 X.K C m g ∧ fs.lookup m = none ∧ ∀ s1, Inv X aA σ H1 s1 → wpAny (model X.prog X.w) X.A (callWith pos (.ref g) [.ref a] (backTo pos (starEach args X.env)) (backToKw pos (keywordEach [] X.env))) Q X.xe s1)
    (ht:eval (.Call (.Attribute e m apos) args [] pos) X.env=(do
     let ov <- eval e X.env
     standAt apos.atName
     let (f,first) <- holding [ov] (getMethod ov m pl)
     callWith pos f first (backTo pos (starEach args X.env)) (backToKw pos (keywordEach [] X.env)))) :
    wpAny (model X.prog X.w) X.A (eval (.Call (.Attribute e m apos) args [] pos) X.env) Q X.xe s:=by
 refine PySem.W.methodCall_KW (pl:=pl) (thn (he aA s σ H _ I h) λu s1 ⟨x,H1,I1,rx,a,C,dx,fs,g,ex,ea,c,k,l,q⟩=>?_) ht;subst ex;obtain rfl:u=Value.ref a:=rx;exact yU I1 ea c k l (q s1 I1)
end
section
variable {X:Cx}{aA:LAO}{σ:St}{H:Hp}{s:Shared}{A:Around}{E:VSP}{Q:VSP}{c:Value}{b:Bool}
end
structure bV(k:Nat)(A:Around):Prop where
 hd:A.handled=none
 dp:A.depth+3 * k+5<recursionLimit
 un:A.units+16 * k+200<cLine
theorem bV.deeper{k:Nat}{A:Around}(r:bV (k+1) A)(env:Env):bV k (A.deeper env) :=
 ⟨r.hd,by have:=r.dp;show A.depth+1+3 * k+5<_;omega,by have:=r.un;show A.units+3+16 * k+200<_;omega⟩
theorem bV.depth{k:Nat}{A:Around}(r:bV k A):A.depth<recursionLimit:=by have:=r.dp;omega
theorem bV.units{k:Nat}{A:Around}(r:bV k A):A.units+64<cLine:=by have:=r.un;omega
def mV:TA:=λ_ H Q=>Q [] H
def jA(ta:TE)(tr:TA):TA:=λσ H Q=>ta σ H λx H1=>tr σ H1 λxs H2=>Q (x::xs) H2
section
variable {X:Cx}{e:Expr}{es:List Expr}{te:TE}{t:TA}{pos:Pos}
theorem kM:PA X [] mV:=λ_ _ _ _ H Q I h=>Calls.spliced_nil ⟨[],H,I,.nil,h⟩
theorem kN(ha:PE X e te)(hr:PA X es t)(hs:starEach (e::es) X.env=(false,eval e X.env)::starEach es X.env:=by rfl):PA X (e::es) (jA te t):=by intro pos aA s σ H Q I h;rw[hs];show wpAny _ _ (spliced ((false,eval e X.env)::backTo pos (starEach es X.env))) _ _ s;refine aKY (thn (ha aA s σ H _ I h) λu s1 ⟨x,H1,I1,r1,q1⟩=>?_);exact thn (hr pos aA s1 σ H1 _ I1 q1) λus s2 ⟨xs,H2,I2,r2,q2⟩=>⟨x::xs,H2,I2,.cons r1 r2,q2⟩
def tTup(t:TA):TE:=λσ H Q=>t σ H λxs H1=>xs.length<=sizeLine/\∀ p,H1 p=none->Q (.ref p) (upd H1 p (.tup xs))
def tLst(t:TA):TE:=λσ H Q=>t σ H λxs H1=>xs.length<=sizeLine/\∀ p,H1 p=none->Q (.ref p) (upd H1 p (.lst xs))
theorem yW{x1}(h:PA X es t):PE X (.Tuple es x1 pos) (tTup t):=by
 intro aA s σ H Q I hq;refine wpAny_Tuple_spliced (thn (h pos aA s σ H _ I hq) λus s1 ⟨xs,H1,I1,r,z,q⟩=>⟨by rw[<- r.length];exact z,?_⟩)
 have hf:H1 s1.heap.objs.size=none:=I1.hok.fresh (aKL _);refine ⟨.ref s1.heap.objs.size,upd H1 s1.heap.objs.size (.tup xs),I1.laid (t':=s1.toks) (λb u e=>hps e) (aKL _) ?_,rfl,q _ hf⟩;exact ⟨z,us,r,⟨_,aJX _ rfl,rfl,rfl,_,rfl⟩⟩
theorem yX(h:PA X es t):PE X (.List es pos) (tLst t):=by
 intro aA s σ H Q I hq;refine wpAny_List_spliced (thn (h pos aA s σ H _ I hq) λus s1 ⟨xs,H1,I1,r,z,q⟩=>⟨by rw[<- r.length];exact z,?_⟩)
 have hf:H1 s1.heap.objs.size=none:=I1.hok.fresh (aKL _);refine ⟨.ref s1.heap.objs.size,upd H1 s1.heap.objs.size (.lst xs),I1.laid (t':=s1.toks) (λb u e=>hps e) (aKL _) ?_,rfl,q _ hf⟩;exact ⟨z,us,0,r,aJX _ rfl⟩
end
abbrev Sp:=List V->Hp->VK->XK->Prop
abbrev CXT:=List Env->Hp->Shared->XK->Value->Shared->Prop
structure kP(P:Program)(w:World)(K:Fg)(mg:SOV)(base:Heap)(A:Around)(outer:List Env)(s:Shared)(H:Hp):Prop where
 frames:A.frames=some outer
 mod:Mod K mg base
 bs:∀ b o,base.get? b=some o->s.heap.get? b=some o/\H b=none
 bsz:base.objs.size<=s.heap.objs.size
 funs:s.heap.FunFrames base outer
 frf:∀ b∈frs outer,H b=none
 hok:HOk P w H s.heap
 bare:AllBare s.gens
def CE(outer:List Env)(P:Program)(w:World)(H:Hp)(s:Shared)(Q:VK)(u:Value)(s':Shared):Prop :=
 ∃ v H',s'.os=s.os/\AllBare s'.gens/\Un (frs outer) [] H H' s.heap s'.heap/\HOk P w H' s'.heap/\aI v u/\Q v H'
def CR(CX:CXT)(outer:List Env)(P:Program)(w:World)(H:Hp)(s:Shared)(Q:VK)(E:XK)(r:Result)(s':Shared):Prop :=
 match r with
 | .ok (.ret u)=>CE outer P w H s Q u s'
 | .ok _=>False
 | .error e=>CX outer H s E e s'
structure cK(P:Program)(w:World)(K:Fg)(mg:SOV)(base:Heap)(CX:CXT)(k:Nat)(f:Addr)(fd:FuncData)(ps:List Str)(sp:Sp):Prop where
 len:∀ vs H Q E,sp vs H Q E->vs.length=ps.length
 run:∀ (A:Around) (outer:List Env) (s:Shared) (H:Hp) (args:Args) (us:List Value) (vs:List V) (Q:VK) (E:XK),bV k A->kP P w K mg base A outer s H->BindsTo s fd args (ps.zip us)->aJ vs us->sp vs H Q E ->
  codeAny (model P w) A (.call (.ref f) args) (CR CX outer P w H s Q E) s
theorem cK.imp{P:Program}{w:World}{K:Fg}{mg:SOV}{base:Heap}{CX:CXT}{k:Nat}{f:Addr}{fd:FuncData}{ps:List Str}{sp sp':Sp}(F:cK P w K mg base CX k f fd ps sp)(h:∀ vs H Q E,sp' vs H Q E->sp vs H Q E):cK P w K mg base CX k f fd ps sp' :=
 ⟨λvs H Q E q=>F.len vs H Q E (h _ _ _ _ q),λA outer s H args us vs Q E hr he hb hv hs=>F.run A outer s H args us vs Q E hr he hb hv (h _ _ _ _ hs)⟩
section
variable {X:Cx}{aA:LAO}{σ:St}{H:Hp}{s s':Shared}
theorem Inv.env0(I:Inv X aA σ H s):kP X.prog X.w X.K X.mg X.base X.A X.stack s H :=
 ⟨I.ok.frames,I.ok.mod,I.bs,aJ4 I.ok.bsz I.sz,I.stack,I.stkFree,I.hok,I.bare⟩
theorem Inv.after{Q:VK}{u:Value}(I:Inv X aA σ H s)(h:CE X.stack X.prog X.w H s Q u s'):EP X aA σ Q u s':=by obtain ⟨v,H',os,bare,un,hok,r,q⟩:=h;obtain ⟨hh,g,d,t,os'⟩:=s';obtain rfl:os'=s.os:=os;exact ⟨v,H',I.call (h':=hh) (g':=g) (d':=d) (t':=t) (ch:=[]) un hok bare (λb z=>absurd z (by simp)),r,q⟩
end
def eU(K:Fg)(fd:FuncData)(ps:List Str)(ds:List Value):Prop :=
 ∀ (s:Shared) (us:List Value),K.In s.heap->(us++ds).length=ps.length->BindsTo s fd ⟨us,[]⟩ (ps.zip (us++ds))
theorem eU.all{K:Fg}{fd:FuncData}{ps:List Str}(h:∀ us:List Value,us.length=ps.length->bindArgs fd ⟨us,[]⟩=pure (ps.zip us)):eU K fd ps []:=λs us _ hl=>by rw[aKZ] at hl ⊢;exact .of_eq (h us hl)
section
variable {X:Cx}{CX:CXT}{k:Nat}{f C:Addr}{fd:FuncData}{ps:List Str}{sp:Sp}{dvs:List V}{ds:List Value}{E:XK}{x m:Str}{p pos apos:Pos}{e o:Expr}{es:List Expr}{ta:TE}{t:TA}
structure Mk(K:Fg)(C f:Addr):Prop where
 makes:PySem.W.makesIn K C=true
 init:PySem.W.findIn K (.ref C) "__init__" = some (some (.ref f))
 fn:PySem.W.isFn K (.ref f)=true
 kp:PySem.W.keepIn K (.ref C)=true
end
section
variable {X:Cx}{CX:CXT}{k:Nat}{f C:Addr}{fd:FuncData}{ps ks:List Str}{sp:Sp}{E:XK}{x m:Str}{p pos apos kpos:Pos}{e o:Expr}{es:List Expr}{kws:List Keyword}{te ta:TE}{t tk:TA}{nm:Option Str}
variable {g:List Value->List Value->List Value}{gV:List V->List V->List V}
end
structure kQ(N P:List Str)(sc:Scope):Prop where
 kind:sc.kind=.function
 co:sc.isCoroutine=false
 gen:sc.isGenerator=false
 nd:N.Nodup
 pre:N.take P.length=P
 par:∀ x∈P,sc.names.lookup x=some .local\/sc.names.lookup x=some .cell
 nofree:∀ y∈sc.names,y.2 ≠ .free
theorem qG{kindOf:Str->Option NameKind}{x:Str}:∀ {binds:List (Str×Value)} {m:SOV},(∀ v,(x,v)∉binds)->bindL kindOf binds m x=m x
 | [],_,_=>rfl
 | (n,v)::r,m,h=>by
  unfold bindL;rw[qG λw hw=>h w (mcm hw)];split
  . have:x≠n:=by rintro rfl;exact h v mcs
    simp[this]
  . rfl
theorem qH{kindOf:Str->Option NameKind}{x:Str}:∀ {binds:List (Str×Value)} {m:SOV},(∀ v,(x,v)∉binds)->bindC kindOf binds m x=m x
 | [],_,_=>rfl
 | (n,v)::r,m,h=>by
  unfold bindC;rw[qH λw hw=>h w (mcm hw)];split
  . rfl
  . have:x≠n:=by rintro rfl;exact h v mcs
    simp[this]
theorem qI{kindOf:Str->Option NameKind}{x:Str}{v:Value}:∀ {P:List Str} {vs:List Value} {i:Nat} {m:SOV},P.Nodup->P[i]? = some x->vs[i]? = some v->kindOf x=some .local->bindL kindOf (P.zip vs) m x=some v
 | [],_,_,_,_,h,_,_=>by simp at h
 | _::_,[],_,_,_,_,h,_=>by simp at h
 | p::P,w::vs,0,m,nd,h1,h2,hk=>by simp at h1 h2;subst h1;subst h2;show bindL kindOf ((p,w)::P.zip vs) m p=_;unfold bindL;rw[qG λv hv=>(aK0.mp nd).1 (aK1 hv).1,if_pos hk];simp
 | p::P,w::vs,i+1,m,nd,h1,h2,hk=>by show bindL kindOf ((p,w)::P.zip vs) m x=_;unfold bindL;exact qI (i:=i) (aK0.mp nd).2 (by simpa using h1) (by simpa using h2) hk
theorem qJ{kindOf:Str->Option NameKind}{x:Str}{v:Value}:∀ {P:List Str} {vs:List Value} {i:Nat} {m:SOV},P.Nodup->P[i]? = some x->vs[i]? = some v->kindOf x≠some .local->bindC kindOf (P.zip vs) m x=some v
 | [],_,_,_,_,h,_,_=>by simp at h
 | _::_,[],_,_,_,_,h,_=>by simp at h
 | p::P,w::vs,0,m,nd,h1,h2,hk=>by simp at h1 h2;subst h1;subst h2;show bindC kindOf ((p,w)::P.zip vs) m p=_;unfold bindC;rw[qH λv hv=>(aK0.mp nd).1 (aK1 hv).1,if_neg hk];simp
 | p::P,w::vs,i+1,m,nd,h1,h2,hk=>by show bindC kindOf ((p,w)::P.zip vs) m x=_;unfold bindC;exact qJ (i:=i) (aK0.mp nd).2 (by simpa using h1) (by simpa using h2) hk
def bW(N:List Str)(vs:List V):St:=vs.map some++List.replicate (N.length-vs.length) none
def cQ(CX:CXT)(P:Program)(w:World)(K:Fg)(mg:SOV)(base:Heap)(N:List Str)(aQ:Str)(scope:Scope)(f:Addr)(cd:Value)(A:Around)(outer:List Env)(s:Shared)(H:Hp)(E:XK):Cx where
 prog:=P
 w:=w
 K:=K
 mg:=mg
 base:=base
 A:=A.deeper (envOfC aQ scope s.heap.objs.size f cd)
 N:=N
 s₀:=s
 H₀:=H
 env:=envOfC aQ scope s.heap.objs.size f cd
 outer:=outer
 stack:=envOfC aQ scope s.heap.objs.size f cd::outer
 ex:=[]
 calm:=true
 fn:=λ_=>true
 pn:=[]
 xe:=λe s'=>wpAny (model P w) (A.deeper (envOfC aQ scope s.heap.objs.size f cd)) (leaving (envOfC aQ scope s.heap.objs.size f cd) e) (λ_ s''=>CX outer H s E e s'') (λe' s''=>CX outer H s E e' s'') s'
theorem qK{sc:Scope}{n:Nat}{x:Str}(h:sc.names.lookup x=some .cell):∃ c,(cellsFrom n sc.names []).lookup x=some c:=by have q:=PySem.W.cellsFrom_some sc.names n [] (.inl h);exact Option.isSome_iff_exists.mp q
theorem yY{CX:CXT}{P:Program}{w:World}{K:Fg}{mg:SOV}{base:Heap}{N ps:List Str}{aQ:Str}{scope:Scope}{f:Addr}{cd:Value}{A:Around}{outer:List Env}{s s1:Shared}{H:Hp}{E:XK}{us:List Value}{vs:List V}(S:kQ N ps scope)(hd:A.handled=none)(e0:kP P w K mg base A outer s H)(hl:vs.length=ps.length)(r:aJ vs us)(x:InCallC s s.heap.objs.size (bindL (envOfC aQ scope s.heap.objs.size f cd).kindOf (ps.zip us) λ_=>none) (cellsFrom (s.heap.objs.size+1) scope.names []) (bindC (envOfC aQ scope s.heap.objs.size f cd).kindOf (ps.zip us) λ_=>none) s1):Inv (cQ CX P w K mg base N aQ scope f cd A outer s H E) [] (bW N vs) H s1:=by
 have hpl:ps.length<=N.length:=by have:=congrArg List.length S.pre;rw[aK2] at this;omega
 obtain ⟨h1,tk,rfl,hk⟩:=x.done;have noA:∀ b:Addr,b∉(cQ CX P w K mg base N aQ scope f cd A outer s H E).ex:=λb z=>absurd (show b∈([]:List Addr) from z) (by simp)
 refine ⟨⟨e0.mod,S.kind,rfl,rfl,aKL _,λy z c h1 h2=>?_,λy hy=>?_,λy c _ h=>?_,λ_=>hd,Around.frames_deeper e0.frames,.inr ⟨rfl,rfl⟩,λb z=>absurd z (noA b),e0.bs,e0.bsz,λb _ _=>noA b,λb z=>absurd z (noA b),e0.funs,e0.frf⟩,
  rfl,e0.bare,Un.kept hk,⟨_,x.toInCall.ns,λi y v h1 h2 h3=>?_⟩,λy c h=>⟨_,x.cell y c h⟩,e0.hok.fresh (aKL _),λy c h=>?_,λp hp=>absurd (show p∈([]:LAO) from hp) (by simp),e0.hok.kept hk,?_⟩
 . exact name_of_addr x.apart (aK3 h1) (aK3 h2)
 . have hy:scope.names.lookup y=some .cell\/scope.names.lookup y=some .free:=hy;rcases hy with hy | hy
   . exact qK hy
   . exact absurd rfl (S.nofree _ (aK3 hy))
 . exact aJ5 (x.above y c (aK3 h))
 . have hi:i<vs.length:=by
     unfold bW at h2;by_cases hi:i<vs.length
     . exact hi
     . rw[aK4 (by simpa using hi)] at h2
       rw[aK5] at h2;split at h2 <;> cases h2
   have ha:vs[i]? = some v:=by
    unfold bW at h2;rw[aK6 (by simpa using hi),aK7] at h2
    cases e:vs[i]? with
    | none=>rw[e] at h2;cases h2
    | some a=>rw[e] at h2;cases h2;rfl
   obtain ⟨u,hu,rv⟩:=r.get ha;have hp:ps[i]? = some y:=by rw[<- S.pre,List.getElem?_take_of_lt (by omega)];exact h1
   have ndP:ps.Nodup:=by rw[<- S.pre];exact S.nd.sublist (List.take_sublist _ _)
   refine ⟨u,rv,?_⟩;rcases S.par y (aK8 hp) with k | k
   . exact .inl ⟨k,qI ndP hp hu k⟩
   . obtain ⟨c,e⟩:=qK (n:=s.heap.objs.size+1) k;refine .inr ⟨.inl k,c,e,?_⟩;have q:=x.cell y c e;rw[qJ ndP hp hu (by show scope.names.lookup y≠_;rw[k];decide)] at q
     exact q
 . exact e0.hok.fresh (aJ5 (x.above y c (aK3 h)))
 . unfold bW;show _=N.length;rw[aK9,aLA,List.length_replicate];omega
theorem fn_of{CX:CXT}{P:Program}{w:World}{K:Fg}{mg:SOV}{base:Heap}{k:Nat}{f:Addr}{name aQ:Str}{params:Arguments}{body:List Stmt}{scope:Scope}{dV kV doc pm cdv ct oc:Value}{an od:Option Addr}{osl:Array (Option Value)}{N ps:List Str}{sp:Sp}(lk:K.lookup f=some ⟨oc,od,.func (PySem.W.fnOf name aQ params body scope dV kV doc pm an cdv ct),osl⟩)(hcd:PySem.W.codeIn K cdv aQ=true)(S:kQ N ps scope)(len:∀ vs H Q E,sp vs H Q E->vs.length=ps.length)(hbody:∀ (A:Around) (outer:List Env) (s:Shared) (H:Hp) (vs:List V) (Q:VK) (E:XK),bV k (A.deeper (envOfC aQ scope s.heap.objs.size f cdv))->sp vs H Q E->∃ t,PSs (cQ CX P w K mg base N aQ scope f cdv A outer s H E) body t/\t { nx:=λ_ H'=>Q .non H',rt:=Q } (bW N vs) H):cK P w K mg base CX (k+1) f (PySem.W.fnOf name aQ params body scope dV kV doc pm an cdv ct) ps sp:=by
 refine ⟨len,λA outer s H args us vs Q E hr e0 hb r hsp=>?_⟩;have hl:=len _ _ _ _ hsp;have KX:K.In s.heap:=e0.mod.kin.keeps λb o e=>(e0.bs b o e).1;have lim:s.heap.NoLimit:=e0.mod.nolimit.keeps λb o e=>(e0.bs b o e).1;have cU:∀ y∈ps.zip us,scope.names.lookup y.1=some .local\/(scope.names.lookup y.1=some .cell/\((cellsFrom (s.heap.objs.size+1) scope.names []).lookup y.1).isSome=true):=λ⟨n,v⟩ hy=>by
  rcases S.par n (aK1 hy).1 with q | q
  . exact .inl q
  . exact .inr ⟨q,PySem.W.cellsFrom_some _ _ _ (.inl q)⟩
 refine codeAny_call_function hr.depth (KX _ _ lk) rfl S.co S.gen rfl (PySem.W.codeRec_of KX hcd) (hb _ _ _ _ ?_);refine wpAny_newFunctionEnv_cells S.kind cU λenv he s1 x=>?_;subst he;refine ⟨lim.keeps x.toInCall.keep,codeAny_func ?_⟩;obtain ⟨t,ht,hq⟩:=hbody A outer s H vs Q E (hr.deeper _) hsp;have I:Inv (cQ CX P w K mg base N aQ scope f cdv A outer s H E) [] (bW N vs) H s1:=yY S hr.hd e0 hl r x;refine aKE (ht [] s1 (bW N vs) H _ I hq) (λfl s' hs=>?_) λe s' hs=>hs;have fin:∀ {σ':St} {H':Hp} {v:V} {u:Value},Inv (cQ CX P w K mg base N aQ scope f cdv A outer s H E) [] σ' H' s'->aI v u->Q v H'->CE outer P w H s Q u s' :=
  λ{σ' H' v u} J rv q=>⟨v,H',J.os,J.bare,J.base,J.hok,rv,q⟩
 cases fl with
 | ret u=>obtain ⟨v,σ',H',J,rv,q⟩:=hs;exact fin J rv q
 | next=>obtain ⟨σ',H',J,q⟩:=hs;exact fin (v:=V.non) (u:=Value.none) J rfl q
 | brk=>obtain ⟨_,_,_,q⟩:=hs;exact False.elim q
 | cont=>obtain ⟨_,_,_,q⟩:=hs;exact False.elim q
section
variable {X:Cx}{x:Str}{p pos:Pos}{e:Expr}{es:List Expr}{t:TA}{id T:String}{r:List V->Hp->VK->Prop}
def tCB(r:List V->Hp->VK->Prop)(t:TA):TE:=λσ H Q=>t σ H λvs H1=>r vs H1 Q
theorem qL(hc:b0 X (.builtin id) r)(hg:Gl X x)(hm:X.mg x=none)(hv:bootBuiltins x=some (.builtin id))(ha:PA X (e::es) t)(hn:x ≠ "__name__" := by decide)(hdb:(x==("__debug__" : Str))=false:=by decide)(he:starEach (e::es) X.env=(false,eval e X.env)::starEach es X.env:=by rfl)(hpl:(backTo pos (starEach es X.env)).any (·.1)=false:=by rfl):PE X (.Call (.Name x p) (e::es) [] pos) (tCB r t):=by intro aA s σ H Q I h;refine aLB (kG I hg hm hv ?_ hn hdb);exact PyProof.Rows.callWith_builtin1 (thn (ha pos aA s σ H _ I h) λus s1 ⟨vs,H1,I1,r1,q1⟩=>hc aA s1 σ H1 vs us Q I1 r1 q1) he hpl
theorem qM(hc:b0 X (.type T) r)(hg:Gl X x)(hm:X.mg x=none)(hv:bootBuiltins x=some (.type T))(ha:PA X (e::es) t)(hn:x ≠ "__name__" := by decide)(hdb:(x==("__debug__" : Str))=false:=by decide)(he:starEach (e::es) X.env=(false,eval e X.env)::starEach es X.env:=by rfl)(hpl:(backTo pos (starEach es X.env)).any (·.1)=false:=by rfl):PE X (.Call (.Name x p) (e::es) [] pos) (tCB r t):=by intro aA s σ H Q I h;refine aLB (kG I hg hm hv ?_ hn hdb);exact aKM (thn (ha pos aA s σ H _ I h) λus s1 ⟨vs,H1,I1,r1,q1⟩=>hc aA s1 σ H1 vs us Q I1 r1 q1) he hpl
end
end L2
namespace HT
open PySem PyProof.Rows
section
open PySem.SeqAt
open PySem.AutoSeq1 (wpAny_loadPart')
open PySem.MeetsSeq PySem.MeetsSeq2 PySem.MeetsSeq3
end
section
variable {prog:Program}{w:World}{A:Around}{E:VSP}{s:Shared}
theorem yZ{t b:Addr}{vs ws:List Value}{Q:VSP}(ht:IsTup s.heap t vs.toArray)(hb:IsTup s.heap b ws.toArray)(hv:vs≠[])(h1:ws=[]->Q (.ref t) s)(h2:ws≠[]->Q (.ref s.heap.objs.size) { s with heap:=s.heap.push { cls:=.type "tuple", data:=.seq (vs++ws).toArray } })(hsz:vs.length+ws.length<=sizeLine):wpAny (model prog w) A (binaryOp .Add (.ref t) (.ref b)) Q E s:=by
 obtain ⟨⟨cls,dd,data,sl⟩,ho,hc,n,hd⟩:=id ht;obtain ⟨⟨cls2,dd2,data2,sl2⟩,ho2,hc2,n2,hd2⟩:=id hb;simp only at hc hd hc2 hd2;subst hc hd hc2 hd2;have e:vs.toArray++ws.toArray=(vs++ws).toArray:=by simp
 by_cases hw:ws=[]
 . exact aLC ⟨_,ho,rfl⟩ ⟨_,ho2,rfl⟩ aLD seq_tuple_add aLE aLF (aLG _ _)
     (tuple_addW1 t b vs.toArray ws.toArray n n2 dd dd2 sl sl2 (by simpa using hv) (by simp[hw])) ⟨ho,ho2,h1 hw⟩
 . refine aLC ⟨_,ho,rfl⟩ ⟨_,ho2,rfl⟩ aLD seq_tuple_add aLE aLF (aLG _ _)
     (tuple_addW2 t b vs.toArray ws.toArray n n2 dd dd2 sl sl2 (by simpa using hv) (by simpa using hw) (by rw[aKR,aKR];exact hsz)) ⟨ho,ho2,?_⟩
   rw[e];exact h2 hw
def sIx(n d:Nat):Option Int->Nat
 | none=>d
 | some v=>if v<0 then (v+(n:Int)).toNat else min v.toNat n
theorem qN(n d:Nat):sIx n d none=d:=rfl
theorem qO(n d k:Nat):sIx n d (some (k:Int))=min k n:=by show (if (k:Int)<0 then ((k:Int)+(n:Int)).toNat else min (k:Int).toNat n)=min k n;rw[if_neg (by omega),aLH]
theorem y0(n d:Nat)(hd:d<=n)(o:Option Int):sIx n d o<=n:=by
 cases o with
 | none=>exact hd
 | some v =>
  show (if v<0 then (v+(n:Int)).toNat else min v.toNat n)<=n;by_cases hv:v<0
  . rw[if_pos hv];omega
  . rw[if_neg hv];exact Nat.min_le_right _ _
theorem qP(v:Int)(n d:Nat):(if v<0 then max (v+(n:Int)) 0 else min v (n:Int))=((sIx n d (some v):Nat):Int):=by
 show (if v<0 then max (v+(n:Int)) 0 else min v (n:Int))=(((if v<0 then (v+(n:Int)).toNat else min v.toNat n):Nat):Int);by_cases hv:v<0
 . simp only[if_pos hv];omega
 . simp only[if_neg hv];omega
theorem y6(lo hi:Option Int)(n:Nat):Builtin.Slice.sliceAdjust lo hi 1 (n:Int)=(((sIx n 0 lo:Nat):Int),((sIx n n hi:Nat):Int)):=by
 have h1:¬ ((1:Int)<0):=by omega
 unfold Builtin.Slice.sliceAdjust;simp only[h1,aLI];refine aLJ ?_ ?_
 . cases lo with
   | none=>rfl
   | some v=>exact qP v n 0
 . cases hi with
   | none=>rfl
   | some v=>exact qP v n n
theorem zA(i j:Nat):Builtin.Slice.slicePlaces (i:Int) (j:Int) 1=j-i:=by
 unfold Builtin.Slice.slicePlaces;have h1:(1:Int) > 0:=by omega
 simp only[h1,if_true,Int.ediv_one];split <;> omega
theorem qQ{v:Value}{o:Option Int}{Q:Option Int->Shared->Prop}(p:IsPart v o)(h:Q o s):wpAny (model prog w) A (Builtin.Slice.slicePartIndex v) Q E s:=by
 cases p with
 | none=>exact slicePart_none h
 | int i t=>exact slicePart_int h
theorem qR{sl:Addr}{vl vu:Value}{lo hi:Option Int}{n:Nat}{Q:Int×Int×Nat->Shared->Prop}(hs:s.heap.IsSliceOf sl vl vu .none)(pl:IsPart vl lo)(pu:IsPart vu hi)(h:Q (((sIx n 0 lo:Nat):Int),1,sIx n n hi-sIx n 0 lo) s):wpAny (model prog w) A (Builtin.Slice.sliceApplied (.ref sl) (pure (n:Int))) Q E s:=by
 obtain ⟨os,hos,hcs,hds⟩:=id hs;unfold Builtin.Slice.sliceApplied Builtin.Slice.sliceFields;refine aKI (aKI (aLK hos hds (x:=vl) rfl (aKI (aLK hos hds (x:=vu) rfl (aKI (aLK hos hds (x:=.none) rfl (aKH ?_)))))));refine aKI (slicePart_none ?_);show wpAny _ _ (if ((1:Int)==0)=true then _ else _) _ _ s;rw[if_neg (by decide)]
 refine aKI (qQ pl (aKI (qQ pu (aKI (aKH ?_)))));show wpAny _ _ (match Builtin.Slice.sliceAdjust lo hi 1 (n:Int) with | (lo,hi)=>pure (lo,(1:Int),Builtin.Slice.slicePlaces lo hi 1)) _ _ s
 rw[y6 lo hi n];show wpAny _ _ (pure (((sIx n 0 lo:Nat):Int),(1:Int),Builtin.Slice.slicePlaces ((sIx n 0 lo:Nat):Int) ((sIx n n hi:Nat):Int) 1)) _ _ s;rw[zA];exact aKH h
theorem zB(xs:Array Value)(i k:Nat):((List.range k).filterMap λ(m:Nat)=>xs[((i:Int)+(m:Int) * 1).toNat]?).toArray=((xs.toList.drop i).take k).toArray:=by
 have e:(λ(m:Nat)=>xs[((i:Int)+(m:Int) * 1).toNat]?)=λm=>xs[i+m]?:=by
  funext m;have:((i:Int)+(m:Int) * 1).toNat=i+m:=by omega
  rw[this]
 rw[e];have:=pick_run xs i k;rw[List.filterMap_map] at this;have e2:((λx=>xs[x]?) ∘ λx=>i+x)=λm=>xs[i+m]?:=rfl;rw[e2] at this;rw[this]
theorem zC{t sl:Addr}{items:Array Value}{vl vu:Value}{lo hi:Option Int}{Q:VSP}(ht:IsTup s.heap t items)(hs:s.heap.IsSliceOf sl vl vu .none)(pl:IsPart vl lo)(pu:IsPart vu hi)(hw:¬ (sIx items.size 0 lo=0/\sIx items.size items.size hi=items.size))(h:Q (.ref s.heap.objs.size) { s with heap:=s.heap.push { cls:=.type "tuple", data:=.seq ((items.toList.drop (sIx items.size 0 lo)).take (sIx items.size items.size hi-sIx items.size 0 lo)).toArray } })(hsz:items.size<=sizeLine):wpAny (model prog w) A (getItem (.ref t) (.ref sl)) Q E s:=by
 have htake:sizeOk (.seq ((items.toList.drop (sIx items.size 0 lo)).take (sIx items.size items.size hi-sIx items.size 0 lo)).toArray):=by show ((items.toList.drop (sIx items.size 0 lo)).take (sIx items.size items.size hi-sIx items.size 0 lo)).toArray.size<=sizeLine;rw[aKR,aK2,aLL,aKG];omega
 have hj:sIx items.size items.size hi<=items.size:=y0 _ _ (aKL _) hi;obtain ⟨os,hos,hcs,hds⟩:=id hs;have hTs:s.TypeIs (.ref sl) "slice" := ⟨os,hos,hcs⟩;unfold getItem
 try with_reducible refine aLM ?_
 first | refine aKI (aKH ?_) | skip
 refine aKI (wpAny_sequenceKey ht.typeIs (by decide) ?_)
 refine aKI (aLN (name:=Str.ofString "__getitem__") ht.typeIs aLO
  (aLP aLO ht.typeIs entry_tuple_getitem ?_ (args_tuple_getitem _ _)))
 show wpAny _ _ (Builtin.Tuple.tupleItemsOf (.ref t) >>= _) _ _ s;refine aKI (tupleItemsOf_ ht ?_);refine aKI (aLQ hTs ?_);rw[if_pos (by decide)]
 refine aKI (qR hs pl pu ?_);have hno:¬ ((((sIx items.size 0 lo:Nat):Int)==0&&(1:Int)==1&&(sIx items.size items.size hi-sIx items.size 0 lo)==items.size)=true):=by intro q;rw[aLR,aLR] at q;have q1:((sIx items.size 0 lo:Nat):Int)=0:=eq_of_beq q.1.1;have q2:sIx items.size items.size hi-sIx items.size 0 lo=items.size:=eq_of_beq q.2;exact hw ⟨by omega,by omega⟩
 show wpAny _ _ (if (((sIx items.size 0 lo:Nat):Int)==0&&(1:Int)==1&&(sIx items.size items.size hi-sIx items.size 0 lo)==items.size)=true then _ else _) _ _ s;rw[if_neg hno,zB]
 first
  | exact aKI (m:=Builtin.Tuple.tupleExact _) (aLS (aKH ⟨_,rfl,aKH h⟩) htake)
  | exact aKI (m:=Builtin.Tuple.tupleExact _) (aLS (aKI (aKH (aKH ⟨_,rfl,aKH h⟩))) htake)
  | exact aKI (aKI (m:=Builtin.Tuple.tupleExact _) (aLS (aKH (aKH ⟨_,rfl,aKH h⟩)) htake))
  | exact aKI (aKI (m:=Builtin.Tuple.tupleExact _) (aLS (aKH ⟨_,rfl,aKH h⟩) htake))
end
end HT
namespace L2
open PySem PySem.Spec PyProof.Rows
abbrev TO:=St->Hp->(Option Int->Hp->Prop)->Prop
def PO(X:Cx)(e:Option Expr)(t:TO):Prop :=
 ∀ (aA:LAO) (s:Shared) (σ:St) (H:Hp) (Q:Option Int->Hp->Prop),Inv X aA σ H s->t σ H Q ->
  wpAny (model X.prog X.w) X.A (evalPart e X.env) (λu s'=>∃ o H',Inv X aA σ H' s'/\IsPart u o/\Q o H') X.xe s
def qS:TO:=λ_ H Q=>Q none H
def kR(t:TE):TO:=λσ H Q=>t σ H λx H1=>∃ i,x=.int i/\Q (some i) H1
section
variable {X:Cx}{e:Expr}{te:TE}{lo hi:Option Expr}{tl th:TO}{pos p2:Pos}
theorem zD:PO X none qS:=by intro aA s σ H Q I h;rw[evalPart_none];exact aKH ⟨none,H,I,.none,h⟩
theorem zE(h:PE X e te):PO X (some e) (kR te):=by intro aA s σ H Q I hw;rw[evalPart_some];refine thn (h aA s σ H _ I hw) λu s1 ⟨x,H1,I1,r1,q1⟩=>?_;obtain ⟨i,rfl,q⟩:=q1;obtain ⟨t,rfl⟩:=r1;exact ⟨some i,H1,I1,.int i t,q⟩
def SlR(X:Cx)(r:V->Option Int->Option Int->Hp->VK->Prop):Prop :=
 ∀ (aA:LAO) (s:Shared) (σ:St) (H:Hp) (x:V) (v vl vu:Value) (lo hi:Option Int) (sl:Addr) (Q:VK),Inv X aA σ H s->aI x v->s.heap.IsSliceOf sl vl vu .none->IsPart vl lo->IsPart vu hi->r x lo hi H Q ->
  ∃ T id,typeLookup (.type T) "__getitem__" = pure (some (.builtin id))/\s.TypeIs v T/\wpAny (model X.prog X.w) X.A (getItem v (.ref sl)) (EP X aA σ Q) X.xe s
theorem SlR.or{r r':V->Option Int->Option Int->Hp->VK->Prop}(h:SlR X r)(h':SlR X r'):SlR X (λx lo hi H Q=>r x lo hi H Q\/r' x lo hi H Q):=by
 intro aA s σ H x v vl vu lo hi sl Q I rx hs pl pu q;rcases q with q | q
 . exact h aA s σ H x v vl vu lo hi sl Q I rx hs pl pu q
 . exact h' aA s σ H x v vl vu lo hi sl Q I rx hs pl pu q
def tSl(r:V->Option Int->Option Int->Hp->VK->Prop)(te:TE)(tl th:TO):TE:=λσ H Q=>te σ H λx H1=>tl σ H1 λl H2=>th σ H2 λu H3=>r x l u H3 Q
theorem zF{r:V->Option Int->Option Int->Hp->VK->Prop}(hr:SlR X r)(he:PE X e te)(hl:PO X lo tl)(hu:PO X hi th):PE X (.Subscript e (.Slice lo hi none p2) pos) (tSl r te tl th):=by
 intro aA s σ H Q I h;refine Subscript_ (thn (he aA s σ H _ I h) λv s1 ⟨x,H1,I1,r1,q1⟩=>?_);refine wpAny_Slice (thn (hl aA s1 σ H1 _ I1 q1) λvl s2 ⟨l,H2,I2,pl,q2⟩=>thn (hu aA s2 σ H2 _ I2 q2) λvu s3 ⟨u,H3,I3,pu,q3⟩=>?_);rw[evalPart_none];refine aKH ?_;have I4:Inv X aA σ H3 { s3 with heap:=s3.heap.push { cls:=.type "slice", data:=.fields #[vl,vu,.none] } }:=I3.kept (t':=s3.toks) λb ob q=>hps q
 obtain ⟨T,id,hT,ht,hg⟩:=hr aA { s3 with heap:=s3.heap.push { cls:=.type "slice", data:=.fields #[vl,vu,.none] } } σ H3 x v vl vu l u s3.heap.objs.size Q I4 r1 (Heap.IsSliceOf.new ..) pl pu q3
 show wpAny (model X.prog X.w) X.A (subscriptTail e (.Slice lo hi none p2) v (.ref s3.heap.objs.size)) (EP X aA σ Q) X.xe { s3 with heap:=s3.heap.push { cls:=.type "slice", data:=.fields #[vl,vu,.none] } }
 exact tail_any (ops:=[.ref s3.heap.objs.size,v]) ht hT hg (by with_unfolding_all rfl)
def fC(xs:List V)(lo hi:Option Int):List V:=(xs.drop (HT.sIx xs.length 0 lo)).take (HT.sIx xs.length xs.length hi-HT.sIx xs.length 0 lo)
theorem qT(xs:List V)(lo hi:Option Int):(fC xs lo hi).length<=xs.length:=by unfold fC;rw[aK2,aLL];omega
def rSlT(K:Fg):V->Option Int->Option Int->Hp->VK->Prop:=λx lo hi H Q=>∃ a xs,x=.ref a/\SqT K H a xs /\
 ¬ (HT.sIx xs.length 0 lo=0/\HT.sIx xs.length xs.length hi=xs.length)/\∀ p,H p=none->Q (.ref p) (upd H p (.tup (fC xs lo hi)))
theorem zG:SlR X (rSlT X.K):=by
 intro aA s σ H x v vl vu lo hi sl Q I rx hs pl pu h;obtain ⟨a,xs,rfl,hx,hw,q⟩:=h;cases rx;obtain ⟨its,r,ht,hz⟩:=I.tuple hx;have hlen:its.toArray.size=xs.length:=by rw[aKR];exact r.length.symm
 refine ⟨"tuple", _,PyProof.Rows.slot_tuple_getitem.lookup,ht.typeIs,?_⟩;refine HT.zC ht hs pl pu (by rw[hlen];exact hw) ?_ (by rw[hlen];exact hz)
 rw[hlen];refine ⟨.ref s.heap.objs.size,_,I.laid (t':=s.toks) (o:=.tup (fC xs lo hi)) (λb ob q=>hps q) (aKL _) ?_,rfl,q _ (I.hok.fresh (aKL _))⟩;exact ⟨aJ4 (qT xs lo hi) hz,_,(r.drop (HT.sIx xs.length 0 lo)).take (HT.sIx xs.length xs.length hi-HT.sIx xs.length 0 lo),fA.new _ _⟩
theorem aJ.nil_iff{xs:List V}{us:List Value}(r:aJ xs us):us=[]↔xs=[]:=by
 cases r with
 | nil=>simp
 | cons _ _=>simp
end
def ixN(n:Nat)(i:Int):Option Nat:=if 0<=i then (if i<n then some i.toNat else none) else if -(n:Int)<=i then some (i+n).toNat else none
def atI{α:Type}(xs:List α)(i:Int):Option α:=(ixN xs.length i).bind λj=>xs[j]?
theorem qU{n:Nat}{i:Int}{j:Nat}(h:ixN n i=some j):seqIndex? i n=some j/\j<n /\ -(n:Int)<=i/\i<n:=by
 unfold ixN at h;by_cases h0:0<=i
 . rw[if_pos h0] at h;by_cases h1:i<n
   . rw[if_pos h1] at h;have e:i.toNat=j:=aKD h;exact ⟨by rw[seqIndex_of h0 h1,e],by omega,by omega,h1⟩
   . rw[if_neg h1] at h;cases h
 . rw[if_neg h0] at h;by_cases h1:-(n:Int)<=i
   . rw[if_pos h1] at h;have e:(i+n).toNat=j:=aKD h;exact ⟨by rw[seqIndex_neg (by omega) h1,e],by omega,h1,by omega⟩
   . rw[if_neg h1] at h;cases h
theorem kS{α:Type}{xs:List α}{i:Int}{v:α}(h:atI xs i=some v):∃ j,seqIndex? i xs.length=some j/\xs[j]? = some v/\j<xs.length /\ -(xs.length:Int)<=i/\i<xs.length:=by
 unfold atI at h;cases e:ixN xs.length i with
 | none=>rw[e] at h;cases h
 | some j=>rw[e] at h;obtain ⟨h1,h2,h3,h4⟩:=qU e;exact ⟨j,h1,h,h2,h3,h4⟩
theorem mW{α:Type}{xs:List α}{j:Nat}{v:α}(h:xs[j]? = some v):atI xs (j:Int)=some v:=by
 have hj:j<xs.length:=(aKA.mp h).1;have e:ixN xs.length (j:Int)=some j:=by unfold ixN;rw[if_pos (by omega),if_pos (by omega)];simp
 unfold atI;rw[e];exact h
def kT(b:Expr):Prop:=∀ o i,subscripted b false o i=operate [o,i] (getItem o i)
def IxR(X:Cx)(r:R2):Prop :=
 ∀ (value slice:Expr) (aA:LAO) (s:Shared) (σ:St) (H:Hp) (x y:V) (v u:Value) (Q:VK),Inv X aA σ H s->aI x v->aI y u->r x y H Q ->
  subscripted slice false v u=operate [v,u] (getItem v u)->wpAny (model X.prog X.w) X.A (subscriptTail value slice v u) (EP X aA σ Q) X.xe s
def MtR(X:Cx)(id:String)(r:V->List V->Hp->VK->Prop):Prop :=
 ∀ (aA:LAO) (s:Shared) (σ:St) (H:Hp) (x:V) (xs:List V) (v:Value) (us:List Value) (Q:VK),Inv X aA σ H s->aI x v->aJ xs us->r x xs H Q ->
  wpAny (model X.prog X.w) X.A (call (.builtin id) (v::us)) (EP X aA σ Q) X.xe s
section
variable {X:Cx}{a b:Expr}{ta tb:TE}{pos:Pos}
theorem IxR.or{r r':R2}(h:IxR X r)(h':IxR X r'):IxR X (λx y H Q=>r x y H Q\/r' x y H Q):=by
 intro value slice aA s σ H x y v u Q I rx ry q hs;rcases q with q | q
 . exact h value slice aA s σ H x y v u Q I rx ry q hs
 . exact h' value slice aA s σ H x y v u Q I rx ry q hs
theorem qV{r:R2}(hr:IxR X r)(ha:PE X a ta)(hb:PE X b tb)(hs:kT b):PE X (.Subscript a b pos) (tOp r ta tb):=by intro aA s σ H Q I h;exact Subscript_ (mR ha hb I h λv u s2 x y H2 I2 rx ry q=>hr a b aA s2 σ H2 x y v u Q I2 rx ry q (hs _ _))
def rIxL(K:Fg):R2:=λx y H Q=>∃ p xs i v,x=.ref p/\y=.int i/\SqL K H p xs/\atI xs i=some v/\Q v H
def rIxT(K:Fg):R2:=λx y H Q=>∃ p xs i v,x=.ref p/\y=.int i/\SqT K H p xs/\atI xs i=some v/\Q v H
def rIxS:R2:=λx y H Q=>∃ z i c,x=.str z/\y=.int i/\z.length<=sizeLine/\atI z.cps.toList i=some c/\Q (.str ⟨#[c]⟩) H
theorem zH:IxR X (rIxL X.K):=by
 intro value slice aA s σ H x y v u Q I rx ry h hs;obtain ⟨p,xs,i,z,rfl,rfl,hq,he,q⟩:=h;cases rx;obtain ⟨t,rfl⟩:=ry;obtain ⟨its,r,pl,hz⟩:=I.list hq;obtain ⟨j,h1,h2,h3,h4,h5⟩:=kS he;obtain ⟨w,ew,rw'⟩:=r.get h2;have hl:=r.length;have hn:=g9;have fin:EP X aA σ Q w s:=⟨z,H,I,rw',q⟩;by_cases h0:0<=i
 . have hj:i.toNat=j:=by rw[seqIndex_of h0 h5] at h1;exact aKD h1
   exact item_listR pl.isList h0 (by omega) (by rw[hj];simpa using ew) fin hs
 . have hj:(i+(its.toArray.size:Int)).toNat=j:=by
     rw[seqIndex_neg (by omega) h4] at h1
     rw[aKR,<- hl];exact aKD h1
   exact subscriptTail_builtinR (x:=w) pl.isList.typeIs slot_list_getitem.lookup
    (wpAny_getItem_list_neg (Q:=λr s'=>r=w/\EP X aA σ Q r s') pl.isList (by omega) (by rw[aKR] <;> omega) (by omega) (by rw[hj];simpa using ew) ⟨rfl,fin⟩) hs
theorem zI:IxR X (rIxT X.K):=by
 intro value slice aA s σ H x y v u Q I rx ry h hs;obtain ⟨p,xs,i,z,rfl,rfl,hq,he,q⟩:=h;cases rx;obtain ⟨t,rfl⟩:=ry;obtain ⟨its,r,pl,hz⟩:=I.tuple hq;obtain ⟨j,h1,h2,h3,h4,h5⟩:=kS he;obtain ⟨w,ew,rw'⟩:=r.get h2;have hl:=r.length;have hn:=g9;have fin:EP X aA σ Q w s:=⟨z,H,I,rw',q⟩;exact subscriptTail_builtinR (x:=w) pl.typeIs slot_tuple_getitem.lookup
  (getItem_tuple (j:=j) (Q:=λr s'=>r=w/\EP X aA σ Q r s') pl (by omega) (by omega) (by rw[aKR,<- hl];exact h1) (by simpa using ew) ⟨rfl,fin⟩) hs
theorem zJ:IxR X rIxS:=by
 intro value slice aA s σ H x y v u Q I rx ry h hs;obtain ⟨z,i,c,rfl,rfl,hz,he,q⟩:=h;obtain ⟨t,rfl⟩:=rx;obtain ⟨t',rfl⟩:=ry;obtain ⟨j,h1,h2,h3,h4,h5⟩:=kS he;have hl:z.cps.toList.length=z.length:=by simp[Str.length]
 rw[hl] at h1 h4 h5;have hn:=g9;exact tail_any (typeIs_str s z t) slot_str_getitem.lookup (getItem_str (c:=c) (by
  have e1:decide (i < -(2 ^ 63:Int))=false:=aJU (by omega)
  have e2:decide (i ≥ 2 ^ 63)=false:=aJU (by omega)
  rw[e1,e2,Bool.or_false]) (by rw[h1];simpa using h2) ⟨.str ⟨#[c]⟩,H,I.tok _,⟨_,rfl⟩,q⟩) hs
def rIx(K:Fg):R2:=λx y H Q=>rIxL K x y H Q\/rIxT K x y H Q\/rIxS x y H Q
theorem zK:IxR X (rIx X.K):=zH.or (zI.or zJ)
theorem zL(its:List Value)(n j:Nat)(u:Value):Obj.mapSeq (·.setIfInBounds j u) { cls:=.type "list", data:=.seq its.toArray n }={ cls:=.type "list", data:=.seq (its.set j u).toArray n }:=by simp[Obj.mapSeq]
theorem Inv.lst{aA:LAO}{σ:St}{H:Hp}{s:Shared}{p:Addr}{xs:List V}(I:Inv X aA σ H s)(h:H p=some (.lst xs)):∃ (its:List Value) (n:Nat),aJ xs its/\s.heap.get? p=some { cls:=.type "list", data:=.seq its.toArray n }/\xs.length<=sizeLine:=by obtain ⟨z,its,n,r,e⟩:=I.hok p _ h;exact ⟨its,n,r,e,z⟩
theorem Inv.lstUpd{aA:LAO}{σ:St}{H:Hp}{s:Shared}{p:Addr}{xs ys:List V}{its its':List Value}{n n':Nat}{f:Obj->Obj}(I:Inv X aA σ H s)(h:H p=some (.lst xs))(ho:s.heap.get? p=some { cls:=.type "list", data:=.seq its.toArray n })(hf:f { cls:=.type "list", data:=.seq its.toArray n }={ cls:=.type "list", data:=.seq its'.toArray n' })(r:aJ ys its')(hz:ys.length<=sizeLine)(t:Nat):Inv X aA σ (upd H p (.lst ys)) { s with heap:=s.heap.update p f,toks:=t }:=by
 have e:(s.heap.update p f).get? p=some { cls:=.type "list", data:=.seq its'.toArray n' }:=by rw[aLT f ho (by rw[hf] <;> rfl),hf]
 refine I.write (x:=p) (e:=p) (by rw[h];trivial) (.inl rfl) (λb u hb q=>(aLU _ _ (Ne.symm hb)).trans q) ⟨_,e⟩ ?_
 exact ⟨hz,its',n',r,e⟩
def qW:V->V->V->Hp->(Hp->Prop)->Prop:=λo i v H Q=>∃ p xs k j,o=.ref p/\i=.int k/\H p=some (.lst xs)/\ixN xs.length k=some j/\Q (upd H p (.lst (xs.set j v)))
theorem zM:PSet X qW:=by
 intro aA s σ H o i v ov iv u Q I ro ri rv h;obtain ⟨p,xs,k,j,rfl,rfl,hp,hj,q⟩:=h;cases ro;obtain ⟨t,rfl⟩:=ri;obtain ⟨its,n,r,ho,hz⟩:=I.lst hp;obtain ⟨h1,h2,h3,h4⟩:=qU hj;have hl:=r.length;have hn:=g9;have I':Inv X aA σ (upd H p (.lst (xs.set j v))) { s with heap:=s.heap.update p (Obj.mapSeq (·.setIfInBounds j u)) } :=
  I.lstUpd hp ho (zL its n j u) (r.set rv j) (by rw[aLV];exact hz) s.toks
 by_cases h0:0<=k
 . have hk:k.toNat=j:=by rw[seqIndex_of h0 h4] at h1;exact aKD h1
   exact PySem.W.ki_setAt ho h0 (by omega) (by rw[aKR,<- hl];exact h4) (by rw[hk];exact ⟨_,I',q⟩)
 . have hk:(k+(its.toArray.size:Int)).toNat=j:=by
     rw[seqIndex_neg (by omega) h3] at h1
     rw[aKR,<- hl];exact aKD h1
   exact PySem.W.ki_setBack ho (by omega) (by rw[aKR,<- hl];exact h3) (by omega) (by rw[hk];exact ⟨_,I',q⟩)
theorem zN(lo hi:Option Int)(n:Nat):(sliceBounds lo hi none n).1=((HT.sIx n 0 lo:Nat):Int)/\(sliceBounds lo hi none n).2.1=((HT.sIx n n hi:Nat):Int)/\(sliceBounds lo hi none n).2.2=1:=by
 refine ⟨?_,?_,rfl⟩
 . cases lo with
   | none=>simp[sliceBounds,HT.sIx]
   | some i =>
    simp only[sliceBounds,HT.sIx,aLW,show (1:Int) > 0 by decide,if_true]
    by_cases h:i<0
    . simp only[h,if_true] <;> omega
    . simp only[h,aLI] <;> omega
 . cases hi with
   | none=>simp[sliceBounds,HT.sIx]
   | some i =>
    simp only[sliceBounds,HT.sIx,aLW,show (1:Int) > 0 by decide,if_true]
    by_cases h:i<0
    . simp only[h,if_true] <;> omega
    . simp only[h,aLI] <;> omega
theorem zO(its:List Value)(lo hi:Option Int):slicePick its.toArray lo hi none=((its.drop (HT.sIx its.length 0 lo)).take (HT.sIx its.length its.length hi-HT.sIx its.length 0 lo)).toArray:=by obtain ⟨h1,h2,h3⟩:=zN lo hi its.toArray.size;unfold slicePick;rw[h1,h2,h3];simp only[sliceRange_one,pick_run,aKR] <;> rfl
def rSlL(K:Fg):V->Option Int->Option Int->Hp->VK->Prop:=λx lo hi H Q=>∃ a xs,x=.ref a/\SqL K H a xs/\∀ p,H p=none->Q (.ref p) (upd H p (.lst (fC xs lo hi)))
theorem zP:SlR X (rSlL X.K):=by
 intro aA s σ H x v vl vu lo hi sl Q I rx hs pl pu h;obtain ⟨a,xs,rfl,hx,q⟩:=h;cases rx;obtain ⟨its,r,ht,hz⟩:=I.list hx;have hlen:=r.length;refine ⟨"list", _,slot_list_getitem.lookup,ht.isList.typeIs,?_⟩;refine wpAny_getItem_list_slice ht.isList hs pl pu .none (by simp) ?_ (by rw[aKR] <;> omega)
 rw[zO,<- hlen];refine ⟨.ref s.heap.objs.size,_,I.laid (t':=s.toks) (o:=.lst (fC xs lo hi)) (λb ob q=>hps q) (aKL _) ?_,rfl,q _ (I.hok.fresh (aKL _))⟩;exact ⟨aJ4 (qT xs lo hi) hz,_,0,(r.drop (HT.sIx xs.length 0 lo)).take (HT.sIx xs.length xs.length hi-HT.sIx xs.length 0 lo),aJX _ rfl⟩
theorem zQ:b0 X (.type "list") (λxs H Q=>∃ p ys,xs=[.ref p]/\(SqL X.K H p ys\/SqT X.K H p ys)/\∀ l,H l=none->Q (.ref l) (upd H l (.lst ys))):=by
 intro aA s σ H xs us Q I r h; obtain ⟨p, ys, rfl, hq, q⟩ := h; obtain ⟨u, rfl, rx⟩ := dP r; cases rx; have fin : ∀ (its : List Value), aJ ys its → ys.length ≤ sizeLine → ∀ (h' : Heap) (c' : Nat), (∀ b o', s.heap.get? b = some o' → h'.get? b = some o') →
     h'.get? s.heap.objs.size=some { cls:=.type "list", dict:=none,data:=.seq its.toArray c',slots:=#[] } -> EP X aA σ Q (.ref s.heap.objs.size) { s with heap:=h' }:=λits r' hz h' c' kp e =>
  ⟨.ref s.heap.objs.size,_,I.laid (t':=s.toks) kp (aKL _) (show bE X.prog X.w _ h' _ (.lst ys) from ⟨hz,its,c',r',e⟩),rfl,q _ (I.hok.fresh (aKL _))⟩
 rcases hq with hq | hq
 . obtain ⟨its,r',pl,hz⟩:=I.list hq;have hlen:=r'.length;obtain ⟨o,ho,hc,n,hd⟩:=pl.isList;exact call_list_seq p (.inl rfl) ho hc hd (λh' c' kp e=>fin its r' hz h' c' kp e) (by simp only[aKR] <;> omega)
 . obtain ⟨its,r',pl,hz⟩:=I.tuple hq;have hlen:=r'.length;obtain ⟨o,ho,hc,n,hd⟩:=pl;exact call_list_seq p (.inr rfl) ho hc hd (λh' c' kp e=>fin its r' hz h' c' kp e) (by simp only[aKR] <;> omega)
theorem zR:b0 X (.type "tuple") (λxs H Q=>∃ p ys,xs=[.ref p]/\((SqL X.K H p ys/\∀ l,H l=none->Q (.ref l) (upd H l (.tup ys)))\/(SqT X.K H p ys/\Q (.ref p) H))):=by
 intro aA s σ H xs us Q I r h;obtain ⟨p,ys,rfl,h⟩:=h;obtain ⟨u,rfl,rx⟩:=dP r;cases rx;rcases h with ⟨hq,q⟩ | ⟨hq,q⟩
 . obtain ⟨its,r',pl,hz⟩:=I.list hq;have hlen:=r'.length;refine call_tuple_list pl.isList (λh' kp=>?_) (by simp only[aKR] <;> omega)
   have I1:Inv X aA σ H { s with heap:=h' }:=I.kept (t':=s.toks) kp
   have I2:Inv X aA σ (upd H h'.objs.size (.tup ys)) { s with heap:=h'.push { cls:=.type "tuple", data:=.seq its.toArray } } :=
    I1.laid (t':=s.toks) (λb o e=>hps e) (aKL _) (show bE X.prog X.w _ _ _ (.tup ys) from ⟨hz,its,r',fA.new _ _⟩)
   exact ⟨.ref h'.objs.size,_,I2,rfl,q _ (I1.hok.fresh (aKL _))⟩
 . obtain ⟨its,r',pl,hz⟩:=I.tuple hq;exact call_tuple_same pl ⟨.ref p,H,I,rfl,q⟩
def tyV(K:Fg)(T:String)(x:V)(H:Hp):Prop:=match x with
 | .str _=>T = "str"
 | .int _=>T = "int"
 | .ref p => (T = "list" ∧ ∃ xs, SqL K H p xs) ∨ (T = "tuple" ∧ ∃ o, K.lookup p = some o ∧ o.cls = .type "tuple" ∧ o.dict = none) ∨
     (T = "dict" /\ ((∃ kvs,H p=some (.dK kvs))\/∃ kvs,H p=some (.dT kvs)))\/(T = "set" /\ ∃ S n,H p=some (.set S n))
 | _=>False
theorem zS{aA:LAO}{σ:St}{H:Hp}{s:Shared}{T:String}{x:V}{v:Value}(I:Inv X aA σ H s)(r:aI x v)(ty:tyV X.K T x H):s.TypeIs v T/\∀ a,v=.ref a->∃ ob,s.heap.get? a=some ob/\ob.dict=none:=by
 cases x with
 | str z =>
  obtain ⟨t,rfl⟩:=r;cases (show T = "str" from ty)
  exact ⟨typeIs_str s z t,λ_ e=>nomatch e⟩
 | int i =>
  obtain ⟨t,rfl⟩:=r;cases (show T = "int" from ty)
  exact ⟨typeIs_int s i t,λ_ e=>nomatch e⟩
 | ref p =>
  cases r;rcases ty with ⟨rfl,xs,hq⟩ | ⟨rfl,o,hk,hc,hd⟩ | ⟨rfl,hk⟩ | ⟨rfl,S,n,hk⟩
  . obtain ⟨its,_,pl,_⟩:=I.list hq;refine ⟨pl.isList.typeIs,λa e=>?_⟩;cases e;obtain ⟨o,n,e,c,hd,_⟩:=pl;exact ⟨o,e,hd⟩
  . refine ⟨⟨o,I.kIn p o hk,hc⟩,λa e=>?_⟩;cases e;exact ⟨o,I.kIn _ o hk,hd⟩
  . have z:∃ o,s.heap.get? p=some o/\o.ExactDict:=by
      rcases hk with ⟨kvs,hk⟩ | ⟨kvs,hk⟩
      . obtain ⟨_,_,_,_,o,_,_,e,ex,_⟩:=I.hok p _ hk;exact ⟨o,e,ex⟩
      . obtain ⟨_,_,_,_,o,_,_,e,ex,_⟩:=I.hok p _ hk;exact ⟨o,e,ex⟩
    obtain ⟨o,e,ex⟩:=z;refine ⟨⟨o,e,ex.1⟩,λa e2=>?_⟩;cases e2;exact ⟨o,e,ex.2.1⟩
  . obtain ⟨o,_,_,_,e,ex,_⟩:=I.hok p _ hk;refine ⟨⟨o,e,ex.1⟩,λa e2=>?_⟩;cases e2;exact ⟨o,e,ex.2.1⟩
 | _=>exact False.elim ty
def tBM(K:Fg)(T:String)(r:V->List V->Hp->VK->Prop)(to:TE)(t:TA):TE:=λσ H Q=>to σ H λx H1=>tyV K T x H1/\t σ H1 λxs H2=>r x xs H2 Q
variable {o e:Expr}{es:List Expr}{to:TE}{t:TA}{name:Str}{apos cpos:Pos}{T id:String}{r:V->List V->Hp->VK->Prop}
theorem pe_bm(pa:PlainAttrs T)(slot:Slot T name id)(hty:typeOf (.builtin id)=pure (.type "method_descriptor"))(hm:MtR X id r)(ho:PE X o to)(ha:PA X (e::es) t)(hbase:attributeBase o name X.env (eval o X.env)=eval o X.env:=by rfl)(hfew:((backTo cpos (starEach (e::es) X.env)).all (λx=>!x.1)&&(backToKw cpos (keywordEach [] X.env)).all (λx=>x.1.isSome)&&decide ((e::es).length+([]:List Keyword).length+(if ([]:List Keyword).isEmpty then 0 else 1)<30))=true:=by rfl)(hline:(apos.endLine==cpos.line)=true:=by rfl)(hs:starEach (e::es) X.env=(false,eval e X.env)::starEach es X.env:=by rfl)(hplain:(backTo cpos (starEach es X.env)).any (·.1)=false:=by rfl):PE X (.Call (.Attribute o name apos) (e::es) [] cpos) (tBM X.K T r to t):=by
 intro aA s σ H Q I h;refine wpAny_Call_method_late hbase hfew hline rfl (thn (ho aA s σ H _ I h) λv s1 ⟨x,H1,I1,r1,ty,q1⟩=>?_);obtain ⟨h1,h2⟩:=zS I1 r1 ty;refine ⟨T,id,pa,slot,hty,h1,h2,?_⟩;have hA:=ha cpos aA s1 σ H1 _ I1 q1;rw[hs] at hA ⊢;refine Calls.callWith_builtin (by show (false||(backTo cpos (starEach es X.env)).any (·.1))=false;rw[hplain] <;> rfl) (Calls.evalArgs_plain ?_)
 exact thn hA λus s2 ⟨vs,H2,I2,r2,q2⟩=>hm aA s2 σ H2 x vs v us Q I2 r1 r2 q2
end
def MtM(X:Cx)(id:String)(r:V->List V->Hp->VK->Prop):Prop :=
 ∀ (aA:LAO) (s:Shared) (σ:St) (H:Hp) (x:V) (xs:List V) (v:Value) (us:List Value) (Q:VK),Inv X aA σ H s->aI x v->aJ xs us->r x xs H Q ->
  wpAny (model X.prog X.w) X.A (call (.builtin id) (v::us)) (EP X aA σ Q) X.xe s
theorem aJ.one:∀ {x:V} {us:List Value},aJ [x] us->∃ u,us=[u]/\aI x u
 | _,_,.cons r .nil=>⟨_,rfl,r⟩
section
variable {X:Cx}{aA:LAO}{σ:St}{H:Hp}{s:Shared}{l b:Addr}{xs ys zs:List V}
theorem Inv.lset{its its':List Value}{n:Nat}{f:Array Value->Array Value}{t':Nat}(I:Inv X aA σ H s)(hH:H l=some (.lst xs))(e:s.heap.get? l=some { cls:=.type "list", data:=.seq its.toArray n })(hf:f its.toArray=its'.toArray)(hv:aJ ys its')(hz:ys.length<=sizeLine):Inv X aA σ (upd H l (.lst ys)) { s with heap:=s.heap.update l (Obj.mapSeq f),toks:=t' }:=by
 have q:=PySem.IsL.update e f;rw[hf] at q;refine I.write (x:=l) (e:=l) (by rw[hH];exact trivial) (.inl rfl) (λb' u hb hu=>(aLU s.heap (Obj.mapSeq f) (Ne.symm hb)).trans hu) ⟨_,q⟩ ?_
 exact ⟨hz,its',_,hv,q⟩
theorem Inv.lstM(I:Inv X aA σ H s)(hH:H l=some (.lst xs)):xs.length<=sizeLine/\∃ (its:List Value) (n:Nat),aJ xs its/\xs.length=its.length/\s.heap.get? l=some { cls:=.type "list", data:=.seq its.toArray n }:=by obtain ⟨z,its,n,r,e⟩:=I.hok l _ hH;exact ⟨z,its,n,r,r.length,e⟩
end
section
variable {X:Cx}
def zT:V->List V->Hp->VK->Prop:=λx vs H Q=>∃ l xs y,x=.ref l/\vs=[y]/\H l=some (.lst xs)/\xs.length<sizeLine/\Q .non (upd H l (.lst (xs++[y])))
theorem qX:MtM X "list.append" zT:=by
 intro aA s σ H x vs v us Q I rx rv h;obtain ⟨l,xs,y,rfl,rfl,hH,hz,q⟩:=h;cases rx;obtain ⟨u,rfl,ru⟩:=rv.one;obtain ⟨z,its,n,r,hl,e⟩:=I.lstM hH;refine call_meets F.slot_list_append ⟨_,e,rfl⟩ F.entry_list_append (F.args_list_append_2 _ _) (PySem.list_append l its.toArray n u (by rw[aKR];omega)) ⟨e,?_⟩
 refine ⟨.non,_,I.lset (its':=its++[u]) hH e (by simp) (r.append (.cons ru .nil)) ?_,rfl,q⟩
 rw[aK9,List.length_singleton];omega
end
section
variable {prog:Program}{w:World}{A:Around}{E:VSP}{s:Shared}
end
section
variable {X:Cx}
end
section
variable {κ:Type}[DecidableEq κ]
def valV(kvs:List (κ×V))(k:κ):Option V:=(kvs.find? λkv=>decide (kv.1=k)).map (·.2)
def putK(kvs:List (κ×V))(k:κ)(v:V):List (κ×V) :=
 if (kvs.any λkv=>decide (kv.1=k))=true then kvs.map (λkv=>if kv.1=k then (kv.1,v) else kv) else kvs++[(k,v)]
theorem cW.isSome_eq{o:Option V}{u:Option Value}(r:cW o u):o.isSome=u.isSome:=by
 cases o with
 | none=>cases u with
  | none=>rfl
  | some _=>exact (show False from r).elim
 | some _=>cases u with
  | none=>exact (show False from r).elim
  | some _=>rfl
theorem cW.getD{o:Option V}{u:Option Value}{d:V}{d':Value}(r:cW o u)(rd:aI d d'):aI (o.getD d) (u.getD d'):=by
 cases o with
 | none=>cases u with
  | none=>exact rd
  | some _=>exact (show False from r).elim
 | some _=>cases u with
  | none=>exact (show False from r).elim
  | some _=>exact r
theorem KV.length{kvs:List (κ×V)}{vs:List (κ×Value)}(r:KV kvs vs):kvs.length=vs.length:=aJW r
end
section
variable {P:Program}{w:World}{H:Hp}{h:Heap}{a:Addr}
theorem rd_of{u:HO}(ok:HOk P w H h)(e:Rd H a u):bE P w H h a u:=e.ok ok
theorem dk_rd{kvs:List (Key×V)}(ok:HOk P w H h)(e:Rd H a (.dK kvs)):kvs.length<=sizeLine/\(a==sysModules)=false/\∃ vs,KV kvs vs/\h.DictOf (gY P w) a vs :=
 show bE P w H h a (.dK kvs) from rd_of ok e
end
def DGet(H:Hp)(a:Addr)(y:V)(r:Option V):Prop :=
 (∃ kvs k,Rd H a (.dK kvs)/\y=kV k/\r=valV kvs k)\/∃ kvs k b,Rd H a (.dT kvs)/\y=.ref b/\H b=some (.tup (k.map kV))/\r=valV kvs k
def DPut(H:Hp)(a:Addr)(y v:V)(H':Hp):Prop :=
 (∃ kvs k,H a=some (.dK kvs)/\y=kV k/\kvs.length<sizeLine/\H'=upd H a (.dK (putK kvs k v))) \/
 ∃ kvs k b,H a=some (.dT kvs)/\y=.ref b/\H b=some (.tup (k.map kV))/\kvs.length<sizeLine/\H'=upd H a (.dT (putK kvs k v))
section
variable {X:Cx}{aA:LAO}{σ:St}{H:Hp}{s:Shared}{a:Addr}{y v:V}{u r:Value}{o:Option V}{A:Around}{E:VSP}
theorem Inv.big(I:Inv X aA σ H s):sysModules<s.heap.objs.size:=by have h:mainGlobals<s.heap.objs.size:=(I.mod.glob.keeps I.bk).lt;exact Nat.lt_trans (by decide) h
theorem zU{h':Heap}{t':Nat}{ob:HO}(I:Inv X aA σ H s)(mu:Mut (H a))(hs:Heap.SameBut a s.heap h')(he:∃ q,h'.get? a=some q)(new:bE X.prog X.w (upd H a ob) h' a ob):Inv X aA σ (upd H a ob) { s with heap:=h',toks:=t' } :=
 I.write (x:=a) (e:=a) mu (.inl rfl) (λb q hb z=>(hs.2 b hb).trans z) he new
theorem zV{P:Program}{w:World}{H':Hp}{h':Heap}{kvs:List (Key×V)}{vs:List (Key×Value)}(z:kvs.length<=sizeLine)(hd:(a==sysModules)=false)(rel:KV kvs vs)(dd:h'.DictOf (gY P w) a vs):bE P w H' h' a (.dK kvs):=⟨z,hd,vs,rel,dd⟩
end
section
variable {X:Cx}{aA:LAO}{σ:St}{H:Hp}{s:Shared}{a:Addr}{kvs:List (Key×V)}{k:Key}{u:Value}{A:Around}{E:VSP}
end
section
variable {X:Cx}{o i e value:Expr}{pos pos' tpos:Pos}{td ty tv:TE}
end
section
variable {X:Cx}{pos:Pos}
end
abbrev VV:List (V×V)->List (Value×Value)->Prop:=Paired λp q=>aI p.1 q.1/\aI p.2 q.2
structure M2(X:Cx)(o:Expr)(m:Str)(apos:Pos)(e f:Expr)(cpos:Pos):Prop where
 base:attributeBase o m X.env (eval o X.env)=eval o X.env
 few:((backTo cpos (starEach [e,f] X.env)).all (λx=>!x.1)&&(backToKw cpos (keywordEach [] X.env)).all (λx=>x.1.isSome)
  && decide (([e,f]:List Expr).length+([]:List Keyword).length+(if ([]:List Keyword).isEmpty then 0 else 1)<30))=true
 line:(apos.endLine==cpos.line)=true
 trees:backTo cpos (starEach [e,f] X.env)=[(false,eval e X.env),(false,eval f X.env)]
section
variable {X:Cx}{aA:LAO}{σ:St}{H:Hp}{s:Shared}{a:Addr}{y d:V}{u r:Value}{o:Option V}{A:Around}{E:VSP}
end
section
variable {X:Cx}{o e f:Expr}{apos cpos:Pos}{td ty tx:TE}
end
section
variable {X:Cx}{aA:LAO}{σ:St}{H:Hp}{s:Shared}{a:Addr}{kvs:List (Key×V)}{A:Around}{E:VSP}
theorem zW{Q:VSP}(I:Inv X aA σ H s)(e:Rd H a (.dK kvs))(h:∀ p s',H p=none->Inv X aA σ (upd H p (.dK kvs)) s'->Q (.ref p) s'):wpAny (model X.prog X.w) A (call (.type "dict") [.ref a]) Q E s:=by
 obtain ⟨z,hd,vs,rel,dd⟩:=dk_rd I.hok e;refine kt_call_dict hd dd (by rw[<- rel.length];exact z) λh' dd' hs=>?_
 refine h _ _ (I.hok.fresh (aKL _)) (I.laid (a:=s.heap.objs.size) (o:=.dK kvs) (t':=s.toks) (λb q hq=>?_) (aKL _) (zV z (aJV.mpr (Ne.symm (aJ1 I.big))) rel dd'));exact (hs.2 b (aJ1 (aJY hq))).trans (hps hq)
end
section
variable {X:Cx}{aA:LAO}{σ:St}{H:Hp}{s:Shared}{a:Addr}{y:V}{u:Value}{A:Around}{E:VSP}
end
end L2
namespace Att
open PySem PySem.W PySem.Calls PyProof.Rows
theorem zX{P:Params}{h:Heap}:∀ (ns:List Int) (vs:List Value),WellAll P h vs (ns.map WData.int)->IntsAre vs ns:=by
 intro ns
 induction ns with
 | nil=>intro vs w;rw[aLX] at w;cases w;exact .nil
 | cons n ns ih =>
  intro vs w;rw[aLY] at w;cases w with
  | cons a b=>cases a;exact .cons _ _ (ih _ b)
theorem zY{l:OpenLaw}{n:Nat}(hn:l.most=some n){P:Params}{h:Heap}{args:List WData}{vals:List Value}(hpre:l.row.toRowW.claim.pre args=true)(hwl:WellAll P h vals args):∃ a vs ns,vals=[Value.ref a]/\args=[WData.list (ns.map WData.int)]/\h.get? a=some { cls:=.type "list", data:=.seq vs.toArray }/\IntsAre vs ns/\ns.length<=n:=by
 have hsh:WShape.hasAll [] args [.list .int]=true:=(pre_splitW hpre).1;have hc:l.pre.holds [] { args:=args }=true:=(pre_splitW hpre).2;obtain ⟨d,r,rfl,h1,h2⟩:=hasAllW_cons hsh;obtain rfl:=hasAllW_nil h2;obtain ⟨xs,rfl,h3⟩:=hasW_list h1;obtain ⟨ns,rfl⟩:=items_int h3;have hlen:ns.length<=n:=by
  unfold OpenLaw.pre at hc;have h4:(WTm.not (.lt (.lit (.int (n:Int))) (.len (.arg 0)))).holds [] { args:=[.list (ns.map .int)] }=true:=by have h4:=(holds_andW hc).1;rw[hn] at h4;exact h4
  have h5:=condW_of h4 (w_not (w_lt w_lit (w_len_list (w_arg rfl))));rw[aLA] at h5;refine Nat.le_of_not_lt λq=>?_;have q':(n:Int)<((ns.length:Nat):Int):=by omega
  first
   | (rw[aLZ q'] at h5;exact absurd h5 (by decide))
   | (simp at h5;omega)
 cases hwl with
 | cons w1 w2 =>
  cases w2;cases w1 with
  | list ho hall=>exact ⟨_,_,ns,rfl,rfl,ho,zX ns _ hall,hlen⟩
theorem zZ(l:OpenLaw)(args:List WData):l.row.toRowW.claim.post args (.bool true) args=true :=
 postW_of (r:=l.row.toRowW) (X:=(true==true))
  (show WShape.has [] (.bool true) .bool=true by first | rfl | decide | simp[WShape.has,WShape.arms,WShape.armsAll])
  (show (WTm.eq .res (.lit (.bool true))).value [] { args:=args,res:=some (.bool true),after:=args }=some (.bool (true==true)) from w_eq_bool (w_res rfl) w_lit) rfl
theorem z5{l:OpenLaw}{n:Nat}{q:Program}{loose:List Str}{XP:(Str->Option Value)->Heap->Prop}{YP:World->Heap->Prop}{d:DefRec}(hn:l.most=some n)(hdf:d.params.defaults=[])(call:∀ (w:World) (s₀ s₁:Shared) (mg mb:SOV) (fa:Addr) (o:Obj) (pm cd doc:Value) (a:Addr) (vs:List Value) (ns:List Int),Ground q loose [] XP w s₀ mg mb s₁.heap->YP w s₁.heap->s₁.heap.get? fa=some o->o.data=.func (docDef d.name d.params d.body d.scope pm cd doc)->s₁.heap.CodeRec cd d.name->mg d.name=some (.ref fa)->s₁.heap.get? a=some { cls:=.type "list", data:=.seq vs.toArray } -> IntsAre vs ns->ns.length<=n->s₁.gens = #[]->codeAny (model l.prog w) callerA (.call (.ref fa) ⟨[.ref a],[]⟩) (λr s'=>r=.ok (.ret (.bool true))/\OldK s₁.heap s'.heap/\s'.os=s₁.os/\AllBare s'.gens) s₁):WalkO q loose XP YP l.row.toRowW d [] (λf vs=>PySem.call f vs):=by intro w s₀ s₁ mg mb G Y fa o pm cd doc dV kV ho hd hcd hD hmg hg args vals as hpre hlay hrd hwl hlo;obtain rfl:dV=.none:=Dflts.none hD hdf;obtain rfl:kV=.none:=Dflts.noKw hD;obtain ⟨a,vs,ns,rfl,rfl,hobj,hints,hlen⟩:=zY hn hpre hwl;refine enter_call (aL0 (call w s₀ s₁ mg mb fa o pm cd doc a vs ns G Y ho (fd_plain hd) hcd hmg hobj hints hlen hg) λr s' hq=>?_);obtain ⟨rfl,h2,h3,h4⟩:=hq;exact ⟨.inl ⟨.bool true,.bool true,[],rfl,λ_=>rfl,.bool true,zZ l _,λ_=>⟨List.Pairwise.nil,λ_ hm=>(nomatch hm)⟩⟩,h2,h3,h4⟩
section
variable {prog:Program}{w:World}{A:Around}{E:VSP}{s:Shared}{K:Frag}
def ledger(h:Heap)(L d:Addr):LAO:=(List.range h.objs.size).filterMap λa=>if a=L\/a=d then none else (h.get? a).map λo=>(a,o)
end
end Att
namespace L2
open PySem PySem.Spec PyProof.Rows
theorem qY:∀ {vs:List Value} {ns:List Int},IntsAre vs ns->aJ (ns.map V.int) vs
 | _,_,.nil=>.nil
 | _,_,.cons n t h=>.cons ⟨t,rfl⟩ (qY h)
def mX(H:Hp):Prop:=∀ b,H b=none\/∃ o xs,H b=some (.frz o (.lst xs))
theorem z6{P:Program}{w:World}{K:Fg}{mg mb:SOV}{CX:CXT}{k:Nat}{fa a:Addr}{fd:FuncData}{x:Str}{sp:Sp}{s₁:Shared}{vs:List Value}{ns:List Int}(KX:K.In s₁.heap)(hns:s₁.heap.Ns mainGlobals mg)(hb:s₁.heap.Ns builtinsNs mb)(hbb:∀ x:Str,x ≠ "__name__" -> mb x=bootBuiltins x)(hlim:s₁.heap.NoLimit)(hg:s₁.gens = #[])(ha:s₁.heap.get? a=some { cls:=.type "list", data:=.seq vs.toArray })(hi:IntsAre vs ns)(hl:ns.length<=sizeLine)(hr:bV k callerA)(F:∀ base:Heap,K.In base->base.Ns mainGlobals mg->cK P w K mg base CX k fa fd [x] sp)(hbind:∀ (s:Shared) (u:Value),BindsTo s fd ⟨[u],[]⟩ [(x,u)])(hsp:∀ H:Hp,mX H->SqL K H a (ns.map V.int)->sp [.ref a] H (λv _=>v=.bl true) λ_ _ _=>False)(hCX:∀ H e s',CX [] H s₁ (λ_ _ _=>False) e s'->False):codeAny (model P w) callerA (.call (.ref fa) ⟨[.ref a],[]⟩) (λr s'=>r=.ok (.ret (.bool true))/\OldK s₁.heap s'.heap/\s'.os=s₁.os/\AllBare s'.gens) s₁:=by
 have rv := qY hi; have lenV := hi.length; have core : ∀ H : Hp, mX H → SqL K H a (ns.map V.int) → HOk P w H s₁.heap → (∀ b, H b ≠ none → b = a) → (H a ≠ none → K.lookup a = none) →
     codeAny (model P w) callerA (.call (.ref fa) ⟨[.ref a],[]⟩) (λr s'=>r=.ok (.ret (.bool true))/\OldK s₁.heap s'.heap/\s'.os=s₁.os/\AllBare s'.gens) s₁:=by
  intro H hO hS hok hA hK;have base_of:∀ {b:Addr} {o:Obj},s₁.heap.get? b=some o->H b=none->(fB s₁.heap H).get? b=some o:=λe n=>wS e n;have noA:∀ {b:Addr} {o:Obj} {es:Array DictEntry} {ep:Nat},s₁.heap.get? b=some o->o.data=.dict es ep->H b=none:=λ{b o es ep} e d=>by
   cases q:H b with
   | none=>rfl
   | some u =>
    have e':b=a:=hA b (by rw[q];simp)
    subst e';rw[ha] at e;cases e;have d':Data.seq vs.toArray _=Data.dict es ep:=d;cases d'
  have nsK:∀ {b:Addr} {m:SOV},s₁.heap.Ns b m->(fB s₁.heap H).Ns b m:=λ{b m} ⟨o,es,ep,e,d,r⟩=>⟨o,es,ep,base_of e (noA e d),d,r⟩;have hKb:K.In (fB s₁.heap H):=λb o e=>base_of (KX b o e) (by
   cases q:H b with
   | none=>rfl
   | some u =>
    have e':b=a:=hA b (by rw[q];simp)
    subst e'
    rw[hK (by rw[q];simp)] at e;cases e)
  have hM:Mod K mg (fB s₁.heap H):=⟨hKb,nsK hns,⟨mb,nsK hb,hbb⟩,let ⟨mc,h1,h2⟩:=hlim;⟨mc,nsK h1,h2⟩⟩
  have e0:kP P w K mg (fB s₁.heap H) callerA [] s₁ H:=⟨rfl,hM,λb o e=>wT e,Nat.le_of_eq (wR _ _),trivial,λb hb=>absurd (show b∈([]:List Addr) from hb) (by simp),hok,.of_eq hg⟩
  refine aL0 ((F _ hKb (nsK hns)).run callerA [] s₁ H ⟨[.ref a],[]⟩ [.ref a] [.ref a] _ _ hr e0 (hbind s₁ (.ref a)) (.cons rfl .nil) (hsp H hO hS)) λr s' h=>?_;cases r with
  | error e=>exact (hCX H e s' h).elim
  | ok fl =>
   cases fl with
   | next=>exact False.elim h
   | brk=>exact False.elim h
   | cont=>exact False.elim h
   | ret u =>
    obtain ⟨v,H',os,bare,un,hok',r',q⟩:=h;have q':v=.bl true:=q;subst q';obtain rfl:u=Value.bool true:=r';refine ⟨rfl,OldK.of_keep λb o e=>?_,os,bare⟩;cases q:H b with
    | none=>exact un.keep b o e q (by intro z;exact absurd (show b∈([]:List Addr) from z) (by simp)) (by simp)
    | some u =>
     rcases hO b with z | ⟨ob,xs,z⟩
     . rw[q] at z;cases z
     . have z2:=un.frzs b ob _ z;obtain ⟨e1,_⟩:=hok b _ z;obtain ⟨e2,_⟩:=hok' b _ z2;rw[e] at e1;cases e1;exact e2
 cases hk:K.lookup a with
 | some o=>have e:=KX a o hk;rw[ha] at e;cases e;refine core (λ_=>none) (λ_=>.inl rfl) (.inr ⟨_,vs.toArray,_,hk,rfl,rfl,rfl,by rw[aKR,lenV];exact hl,by simpa using rv⟩) (λb u z=>by have z':(none:Option HO)=some u:=z;cases z') (λb z=>absurd rfl z) λz=>absurd rfl z
 | none =>
  refine core (λb=>if b=a then some (.frz { cls:=.type "list", data:=.seq vs.toArray } (.lst (ns.map V.int))) else none) (λb=>?_) (.inl (.inr ⟨{ cls:=.type "list", data:=.seq vs.toArray },if_pos rfl⟩)) (λb u z=>?_) (λb z=>?_) λ_=>hk
  . by_cases hb:b=a
    . exact .inr ⟨_,_,if_pos hb⟩
    . exact .inl (if_neg hb)
  . by_cases hb:b=a
    . have z':=(if_pos hb).symm.trans z;cases z';subst hb;exact ⟨ha,by rw[aLA];exact hl,vs,_,rv,ha⟩
    . have z':=(if_neg hb).symm.trans z;cases z'
  . by_cases hb:b=a
    . exact hb
    . exact absurd (if_neg hb) z
abbrev KOf{K:Fg}{h:Heap}(_:K.In h):Fg:=K
theorem z7{l:PySem.W.OpenLaw}{n k:Nat}{q:Program}{loose:List Str}{XP:(Str->Option Value)->Heap->Prop}{YP:World->Heap->Prop}{d:DefRec}{K:Params->Fg}{CX:World->CXT}{sp:World->Sp}{x:Str}(hn:l.most=some n)(hn2:n<=sizeLine)(hdf:d.params.defaults=[])(hr:bV k callerA)(hY:∀ (w:World) (h:Heap),YP w h->(K w.params).In h)(F:∀ (w:World) (mg:SOV) (fa:Addr) (h:Heap),(K w.params).In h->h.Ns mainGlobals mg->mg d.name=some (.ref fa)->∃ fd:FuncData,(∀ (s:Shared) (u:Value),BindsTo s fd ⟨[u],[]⟩ [(x,u)])/\∀ base:Heap,(K w.params).In base->base.Ns mainGlobals mg->cK l.prog w (K w.params) mg base (CX w) k fa fd [x] (sp w))(hsp:∀ (w:World) (H:Hp) (a:Addr) (ns:List Int),ns.length<=n->mX H->SqL (K w.params) H a (ns.map V.int)->sp w [.ref a] H (λv _=>v=.bl true) λ_ _ _=>False)(hCX:∀ (w:World) (H:Hp) (s:Shared) (e:Value) (s':Shared),CX w [] H s (λ_ _ _=>False) e s'->False):PySem.W.WalkO q loose XP YP l.row.toRowW d [] (λf vs=>PySem.call f vs):=by refine Att.z5 hn hdf λw s₀ s₁ mg mb fa o pm cd doc a vs ns G Y ho hd hcd hmg hobj hints hlen hg=>?_;have KX:=hY w _ Y;obtain ⟨fd,hb,hF⟩:=F w mg fa _ KX G.T.g hmg;exact z6 KX G.T.g G.T.b G.T.builtins G.T.nolimit hg hobj hints (aJ4 hlen hn2) hr hF hb (λH hO hS=>hsp w H a ns hlen hO hS) λH e s'=>hCX w H s₁ e s'
def kU(s:Stmt):Arguments:=match s with
 | .FunctionDef _ a _ _ _ _ _ _ _ _=>a
 | _=>{ posonlyargs:=[],args:=[],vararg:=none,kwonlyargs:=[],kw_defaults:=[],kwarg:=none,defaults:=[] }
def hC(s:Stmt):List Stmt:=match s with
 | .FunctionDef _ _ b _ _ _ _ _ _ _=>b
 | _=>[]
def eE(s:Stmt):Scope:=match s with
 | .FunctionDef _ _ _ _ _ _ sc _ _ _=>sc
 | _=>{ kind:=.function,names:=[],isGenerator:=false,isCoroutine:=false }
structure Fun(K:Fg)(x aQ:Str)(st:Stmt)(f:Addr)(fd:FuncData):Prop where
 ex:∃ (oc:Value) (od:Option Addr) (kV doc pm:Value) (an:Option Addr) (cdv ct:Value) (osl:Array (Option Value)),
  fd=PySem.W.fnOf x aQ (kU st) (hC st) (eE st) .none kV doc pm an cdv ct/\K.lookup f=some ⟨oc,od,.func fd,osl⟩/\PySem.W.codeIn K cdv aQ=true
 kp:PySem.W.keepIn K (.ref f)=true
section
variable {P:Program}{w:World}{K:Fg}{mg:SOV}{base:Heap}
theorem z8{x aQ:Str}{st:Stmt}{f:Addr}{oc:Value}{od an:Option Addr}{osl:Array (Option Value)}{kV doc pm cdv ct:Value}(l:K.lookup f=some ⟨oc,od,.func (PySem.W.fnOf x aQ (kU st) (hC st) (eE st) .none kV doc pm an cdv ct),osl⟩)(c:PySem.W.codeIn K cdv aQ=true)(k:PySem.W.keepIn K (.ref f)=true):Fun K x aQ st f (PySem.W.fnOf x aQ (kU st) (hC st) (eE st) .none kV doc pm an cdv ct):=⟨⟨oc,od,kV,doc,pm,an,cdv,ct,osl,rfl,l,c⟩,k⟩
end
section
variable {X:Cx}
end
def aE(H H':Hp):Prop:=∀ b o,H b=some o->H' b=some o
theorem aE.refl(H:Hp):aE H H:=λ_ _ h=>h
theorem aE.trans{H H1 H2:Hp}(a:aE H H1)(b:aE H1 H2):aE H H2:=λc o h=>b c o (a c o h)
theorem aE.free{H H':Hp}(e:aE H H'){l:Addr}(h:H' l=Option.none):H l=Option.none:=by
 cases q:H l with
 | none=>rfl
 | some o=>rw[e l o q] at h;cases h
theorem aE.seq{K:Fg}{H H':Hp}{a:Addr}{xs:List V}(e:aE H H')(h:SqL K H a xs):SqL K H' a xs:=by
 rcases h with (h | ⟨o,h⟩) | h
 . exact .inl (.inl (e _ _ h))
 . exact .inl (.inr ⟨o,e _ _ h⟩)
 . exact .inr h
section
variable {κ:Type}[DecidableEq κ]
end
theorem N.ind{P:N->Prop}(hi:∀ n,P (.i n))(hs:∀ x,P (.s x))(ht:∀ xs,(∀ x∈xs,P x)->P (.t xs))(k:N):P k :=
 N.rec (motive_1:=P) (motive_2:=λxs=>∀ x∈xs,P x) hi hs ht (λ_ h=>nomatch h) (λa l h1 h2 x hx=>by
  rcases aJ7.mp hx with rfl | hx
  . exact h1
  . exact h2 x hx) k
mutual
def N.eq:N->N->Bool
 | .i n,.i m=>n==m
 | .s x,.s y=>x==y
 | .t xs,.t ys=>N.eqL xs ys
 | _,_=>false
def N.eqL:List N->List N->Bool
 | [],[]=>true
 | x::xs,y::ys=>N.eq x y&&N.eqL xs ys
 | _,_=>false
end
theorem N.eqL_iff:∀ {xs ys:List N},(∀ x∈xs,∀ y,N.eq x y=true↔x=y)->(N.eqL xs ys=true↔xs=ys)
 | [],[],_=>by simp[N.eqL]
 | [],_::_,_=>by simp[N.eqL]
 | _::_,[],_=>by simp[N.eqL]
 | x::xs,y::ys,h=>by rw[N.eqL,aLR,h x mcs y,N.eqL_iff λz hz=>h z (mcm hz),aL1]
theorem N.eq_iff(k:N):∀ y,N.eq k y=true↔k=y:=by
 induction k using N.ind with
 | hi n=>intro y;cases y <;> simp[N.eq]
 | hs x=>intro y;cases y <;> simp[N.eq]
 | ht xs ih =>
  intro y;cases y with
  | t ys=>rw[N.eq,N.eqL_iff ih];simp
  | _=>simp[N.eq]
instance:DecidableEq N:=λa b=>decidable_of_iff _ (N.eq_iff a b)
mutual
def N.py:N->PyData
 | .i n=>.int n
 | .s x=>.str x
 | .t xs=>.tuple (N.pyL xs)
def N.pyL:List N->List PyData
 | []=>[]
 | x::xs=>N.py x::N.pyL xs
end
mutual
def N.dp:N->Nat
 | .i _=>0
 | .s _=>0
 | .t xs=>N.dpL xs+1
def N.dpL:List N->Nat
 | []=>0
 | x::xs=>max (N.dp x) (N.dpL xs)
end
theorem N.dp_mem:∀ {xs:List N} {x:N},x∈xs->x.dp<=N.dpL xs
 | y::ys,x,h=>by
  rw[N.dpL];rcases aJ7.mp h with rfl | h
  . omega
  . have:=N.dp_mem h;omega
theorem N.py_depthL:∀ {xs:List N},(∀ x∈xs,x.py.depth=x.dp)->PyData.depthAll (N.pyL xs)=N.dpL xs
 | [],_=>by simp[N.pyL,N.dpL,PyData.depthAll]
 | x::xs,h=>by simp only[N.pyL,N.dpL,PyData.depthAll];rw[h x mcs,N.py_depthL λz hz=>h z (mcm hz)]
theorem N.py_depth(k:N):k.py.depth=k.dp:=by
 induction k using N.ind with
 | hi n=>simp[N.py,N.dp,PyData.depth]
 | hs x=>simp[N.py,N.dp,PyData.depth]
 | ht xs ih=>simp only[N.py,N.dp,PyData.depth];rw[N.py_depthL ih]
theorem N.py_eqvL:∀ {xs ys:List N},(∀ x∈xs,∀ y:N,PyData.eqv x.py y.py=decide (x=y))->PyData.eqvAll (N.pyL xs) (N.pyL ys)=decide (xs=ys)
 | [],[],_=>by simp[N.pyL,PyData.eqvAll]
 | [],_::_,_=>by simp[N.pyL,PyData.eqvAll]
 | _::_,[],_=>by simp[N.pyL,PyData.eqvAll]
 | x::xs,y::ys,h=>by simp only[N.pyL,PyData.eqvAll];rw[h x mcs y,N.py_eqvL λz hz=>h z (mcm hz)];by_cases e1:x=y <;> by_cases e2:xs=ys <;> simp[e1,e2]
theorem N.py_eqv(k:N):∀ y:N,PyData.eqv k.py y.py=decide (k=y):=by
 induction k using N.ind with
 | hi n =>
  intro y;cases y with
  | i m=>simp only[N.py,PyData.eqv];by_cases e:n=m <;> simp[e]
  | s x=>simp[N.py,PyData.eqv]
  | t xs=>simp[N.py,PyData.eqv]
 | hs x =>
  intro y;cases y with
  | i m=>simp[N.py,PyData.eqv]
  | s z=>simp only[N.py,PyData.eqv];by_cases e:x=z <;> simp[e]
  | t xs=>simp[N.py,PyData.eqv]
 | ht xs ih =>
  intro y;cases y with
  | i m=>simp[N.py,PyData.eqv]
  | s z=>simp[N.py,PyData.eqv]
  | t ys=>simp only[N.py,PyData.eqv];rw[N.py_eqvL ih];by_cases e:xs=ys <;> simp[e]
mutual
def IsN(h:Heap):N->Value->Prop
 | .i n,v=>∃ t,v=.int n t
 | .s x,v=>(∃ t,v=.str x t)/\PyData.strOk x=true
 | .t xs,v=>∃ a o items n,v=.ref a/\h.get? a=some o/\o.cls=.type "tuple" /\ o.data=.seq items n/\aN h xs items.toList
def aN(h:Heap):List N->List Value->Prop
 | [],vs=>vs=[]
 | x::xs,vs=>∃ v us,vs=v::us/\IsN h x v/\aN h xs us
end
theorem aN.mem:∀ {h:Heap} {xs:List N} {vs:List Value},aN h xs vs->∀ v∈vs,∃ x∈xs,IsN h x v
 | h,[],vs,q,v,hv=>by rw[aN] at q;subst q;cases hv
 | h,x::xs,vs,q,v,hv=>by
  rw[aN] at q;obtain ⟨u,us,rfl,q1,q2⟩:=q;rcases aJ7.mp hv with rfl | hv
  . exact ⟨x,mcs,q1⟩
  . obtain ⟨y,hy,e⟩:=q2.mem v hv;exact ⟨y,mcm hy,e⟩
theorem aN.map:∀ {h h':Heap} {xs:List N} {vs:List Value},aN h xs vs->(∀ x∈xs,∀ v,IsN h x v->IsN h' x v)->aN h' xs vs
 | h,h',[],vs,q,k=>by rw[aN] at q ⊢;exact q
 | h,h',x::xs,vs,q,k=>by rw[aN] at q ⊢;obtain ⟨u,us,e,q1,q2⟩:=q;exact ⟨u,us,e,k x mcs u q1,q2.map λy hy=>k y (mcm hy)⟩
theorem IsN.keeps{h h':Heap}{d:Addr}{o:Obj}{es ep}(ho:h.get? d=some o)(hd:o.data=.dict es ep)(hs:Heap.SameBut d h h')(k:N):∀ v,IsN h k v->IsN h' k v:=by
 induction k using N.ind with
 | hi n=>intro v q;rw[IsN] at q ⊢;exact q
 | hs x=>intro v q;rw[IsN] at q ⊢;exact q
 | ht xs ih =>
  intro v q;rw[IsN] at q ⊢;obtain ⟨a,o',items,n,e,ha,hc,hd',hi⟩:=q;have hne:a≠d:=by rintro rfl;obtain rfl:o'=o:=aKD (ha.symm.trans ho);rw[hd] at hd';exact nomatch hd'
  exact ⟨a,o',items,n,e,(hs.2 a hne).trans ha,hc,hd',hi.map ih⟩
theorem aN.readsL:∀ {h:Heap} {xs:List N} {vs:List Value},aN h xs vs->(∀ x∈xs,∀ v,IsN h x v->(∃ as,Reads h v x.py as)/\x.py.canLay0=true)->(∃ as,ReadsAll h vs (N.pyL xs) as)/\PyData.canLayAll0 (N.pyL xs)=true
 | h,[],vs,q,k=>by rw[aN] at q;subst q;exact ⟨⟨_,.nil⟩,by simp[N.pyL,PyData.canLayAll0]⟩
 | h,x::xs,vs,q,k=>by rw[aN] at q;obtain ⟨u,us,rfl,q1,q2⟩:=q;obtain ⟨⟨as,ra⟩,ca⟩:=k x mcs u q1;obtain ⟨⟨bs,rb⟩,cb⟩:=q2.readsL λy hy=>k y (mcm hy);exact ⟨⟨_,.cons ra rb⟩,by simp only[N.pyL,PyData.canLayAll0,ca,cb,Bool.and_self]⟩
theorem IsN.reads{h:Heap}(k:N):∀ v,IsN h k v->(∃ as,Reads h v k.py as)/\k.py.canLay0=true:=by
 induction k using N.ind with
 | hi n=>intro v q;rw[IsN] at q;obtain ⟨t,rfl⟩:=q;exact ⟨⟨_,.int n t⟩,rfl⟩
 | hs x=>intro v q;rw[IsN] at q;obtain ⟨⟨t,rfl⟩,hk⟩:=q;exact ⟨⟨_,.str x t⟩,by simpa only [N.py,PyData.canLay0] using hk⟩
 | ht xs ih=>intro v q;rw[IsN] at q;obtain ⟨a,o',items,n,rfl,ha,hc,hd',hi⟩:=q;obtain ⟨⟨as,ra⟩,ca⟩:=hi.readsL ih;exact ⟨⟨_,.tuple ha hc hd' ra⟩,by simpa only [N.py,PyData.canLay0] using ca⟩
theorem aN.inj:∀ {h:Heap} {xs ys:List N} {vs:List Value},(∀ x∈xs,∀ y v,IsN h x v->IsN h y v->x=y)->aN h xs vs->aN h ys vs->xs=ys
 | h,[],[],vs,_,_,_=>rfl
 | h,[],y::ys,vs,_,p,q=>by rw[aN] at p;subst p;rw[aN] at q;obtain ⟨_,_,e,_⟩:=q;cases e
 | h,x::xs,[],vs,_,p,q=>by rw[aN] at q;subst q;rw[aN] at p;obtain ⟨_,_,e,_⟩:=p;cases e
 | h,x::xs,y::ys,vs,k,p,q=>by rw[aN] at p q;obtain ⟨u,us,rfl,p1,p2⟩:=p;obtain ⟨_,_,e,q1,q2⟩:=q;cases e;rw[k x mcs y _ p1 q1,aN.inj (λz hz=>k z (mcm hz)) p2 q2]
theorem IsN.inj{h:Heap}(k:N):∀ y v,IsN h k v->IsN h y v->k=y:=by
 induction k using N.ind with
 | hi n =>
  intro y v p q;rw[IsN] at p;obtain ⟨t,rfl⟩:=p;cases y with
  | i m=>rw[IsN] at q;obtain ⟨u,e⟩:=q;cases e;rfl
  | s x=>rw[IsN] at q;obtain ⟨⟨u,e⟩,_⟩:=q;cases e
  | t xs=>rw[IsN] at q;obtain ⟨_,_,_,_,e,_⟩:=q;cases e
 | hs x =>
  intro y v p q;rw[IsN] at p;obtain ⟨⟨t,rfl⟩,_⟩:=p;cases y with
  | i m=>rw[IsN] at q;obtain ⟨u,e⟩:=q;cases e
  | s x=>rw[IsN] at q;obtain ⟨⟨u,e⟩,_⟩:=q;cases e;rfl
  | t xs=>rw[IsN] at q;obtain ⟨_,_,_,_,e,_⟩:=q;cases e
 | ht xs ih =>
  intro y v p q;rw[IsN] at p;obtain ⟨a,o,items,n,rfl,ha,hc,hd,hi⟩:=p;cases y with
  | i m=>rw[IsN] at q;obtain ⟨u,e⟩:=q;cases e
  | s x=>rw[IsN] at q;obtain ⟨⟨u,e⟩,_⟩:=q;cases e
  | t ys =>
   rw[IsN] at q;obtain ⟨a',o',items',n',e,ha',_,hd',hi'⟩:=q;cases e;obtain rfl:o=o':=aKD (ha.symm.trans ha');rw[hd] at hd';injection hd' with h1 _
   subst h1;rw[aN.inj ih hi hi']
mutual
def N.dr:N->Nat
 | .i _=>1
 | .s _=>1
 | .t xs=>N.drL xs+1
def N.drL:List N->Nat
 | []=>0
 | x::xs=>N.dr x+N.drL xs
end
section
variable {prog:Program}{w:World}{A:Around}{E:VSP}{s:Shared}
theorem qZ:∀ (xs:List N) (y:N),N.drL (xs++[y])=N.drL xs+N.dr y
 | [],y=>by simp[N.drL]
 | x::xs,y=>by rw[aL2,N.drL,qZ xs y,N.drL,aL3]
theorem rA:∀ (xs:List N) (y:N),cX w (xs++[y])=cX w xs++[aW w y]
 | [],y=>by simp[cX]
 | x::xs,y=>by rw[aL2,cX,rA xs y,cX,aL2]
theorem mY(k:N):∀ {A:Around} {E:VSP} {s:Shared} {v:Value} {Q:Int->Shared->Prop},A.units+k.dp<cLine->IsN s.heap k v->Q (aW w k) { s with toks:=s.toks+k.dr } -> wpAny (model prog w) A (pyHash v) Q E s:=by
 induction k using N.ind with
 | hi n=>intro A E s v Q hu hk h;rw[IsN] at hk;obtain ⟨t,rfl⟩:=hk;rw[aW,N.dr] at h;exact wpAny_pyHash_int h
 | hs x=>intro A E s v Q hu hk h;rw[IsN] at hk;obtain ⟨⟨t,rfl⟩,_⟩:=hk;rw[aW,N.dr] at h;exact wpAny_pyHash_str h
 | ht xs ih =>
  intro A E s v Q hu hk h;rw[IsN] at hk;obtain ⟨a,o,items,n,rfl,ho,hc,hd,hi⟩:=hk;rw[N.dp] at hu;have hT:s.TypeIs (.ref a) "tuple" := ⟨o,ho,hc⟩;unfold pyHash
  first | unfold pyHashByItsType | skip
  first | refine aKI (wpAny_cRoomFor_or (.inr (by omega)) ?_) | skip
  refine aKI (aL4 hT F.slot_tuple_hash.lookup ?_);show wpAny _ _ (if (some (Value.builtin "tuple.__hash__")==some Value.none)=true then _ else _) Q E s;rw[if_neg (by rw[beq_builtin_none];exact aKT)]
  refine aKI (aL4 hT F.slot_tuple_hash.lookup ?_);show wpAny _ _ (callSpecialIfBoundUnlessNone? (.ref a) "__hash__" _ >>= _) Q E s;refine aKI (wpAny_callSpecialIfBoundUnlessNone?_slot hT F.slot_tuple_hash (aLP F.slot_tuple_hash hT F.entry_tuple_hash ?_ (F.args_tuple_hash_1 _)));show wpAny _ _ (Builtin.Tuple.tupleItemsOf (.ref a) >>= _) _ _ s;refine aKI (wpAny_tupleItemsOf ho hd ?_);refine aKI ?_;rw[<- aL5];refine aL6 _
   (λaL (b:Array Int) s'=>∃ done left,xs=done++left/\aN s.heap left aL/\b.toList=cX w done/\s'={ s with toks:=s.toks+N.drL done })
   _ ?_ ?_ _ _ ⟨[],xs,rfl,hi,by simp[cX],by simp[N.drL]⟩
  . rintro x aL b s' ⟨done,left,e,hl,hb,rfl⟩;cases left with
    | nil=>rw[aN] at hl;cases hl
    | cons k ks =>
     rw[aN] at hl;obtain ⟨_,_,e',h1,hl'⟩:=hl;cases e';have hm:k∈xs:=by rw[e];simp
     refine aKI (ih k hm (A:=A.in1) (by have:=N.dp_mem hm;show A.units+1+_<_;omega) h1 ?_)
     have fin:∃ done' left',xs=done'++left'/\aN s.heap left' aL/\(b.push (aW w k)).toList=cX w done'/\({ s with toks:=s.toks+N.drL done+k.dr }:Shared)={ s with toks:=s.toks+N.drL done' } :=
      ⟨done++[k],ks,by rw[e];simp,hl',by rw[rA,Array.toList_push,hb],by rw[qZ,aL3]⟩
     first
      | exact aKH fin
      | exact aKI (aKH (aKH fin))
  . rintro b s' ⟨done,left,e,hl,hb,rfl⟩;cases left with
    | cons k ks=>rw[aN] at hl;obtain ⟨_,_,e',_⟩:=hl;cases e'
    | nil =>
    rw[aKZ] at e;subst e;show wpAny _ _ (retInt (Builtin.Tuple.tupleHashOf b.toList)) _ _ _;rw[hb];refine wpAny_ret_mkInt ?_;show wpAny _ _ (if (decide (-(2:Int) ^ 63<=Builtin.Tuple.tupleHashOf (cX w xs))&&decide (Builtin.Tuple.tupleHashOf (cX w xs)<2 ^ 63))=true then _ else _) Q E _;rw[aW,N.dr] at h;unfold reduceHash at h;by_cases hr:(decide (-(2:Int) ^ 63<=Builtin.Tuple.tupleHashOf (cX w xs))&&decide (Builtin.Tuple.tupleHashOf (cX w xs)<2 ^ 63))=true
    . rw[if_pos hr];rw[if_pos hr] at h;exact aKH (by simpa[aL3] using h)
    . rw[if_neg hr];rw[if_neg hr] at h;exact aKI (wpAny_rule (aKH (by simpa[aL3] using h)))
theorem mZ{x y:N}{u v:Value}{Q:Bool->Shared->Prop}(hu:A.units+x.dp<cLine)(hx:IsN s.heap x u)(hy:IsN s.heap y v)(h:Q (decide (x=y)) s):wpAny (model prog w) A (eqBool u v) Q E s:=by
 obtain ⟨⟨as,ra⟩,ca⟩:=IsN.reads x u hx;obtain ⟨⟨bs,rb⟩,cb⟩:=IsN.reads y v hy;refine SeqAt.eqAt_reads x.py y.py A s u v as bs ra rb ca cb (by rw[N.py_depth];have:=aL7 x.dp y.py.depth;omega) prog w E Q ?_
 rw[N.py_eqv];exact h
theorem m5(k:N):∀ {n:Nat} {v:Value} {Q:Bool->Shared->Prop},k.dp<=n->IsN s.heap k v->Q true s->wpAny (model prog w) A (eqIsQuiet n v) Q E s:=by
 induction k using N.ind with
 | hi m=>intro n v Q hn hk h;rw[IsN] at hk;obtain ⟨t,rfl⟩:=hk;rw[eqIsQuiet_byValue n rfl];exact aKH h
 | hs x=>intro n v Q hn hk h;rw[IsN] at hk;obtain ⟨⟨t,rfl⟩,_⟩:=hk;rw[eqIsQuiet_byValue n rfl];exact aKH h
 | ht xs ih =>
  intro n v Q hn hk h;rw[IsN] at hk;obtain ⟨a,o,items,c,rfl,ho,hc,hd,hi⟩:=hk;rw[N.dp] at hn;cases n with
  | zero=>omega
  | succ n =>
   have hT:s.TypeIs (.ref a) "tuple" := ⟨o,ho,hc⟩;unfold eqIsQuiet;refine aKI (aL4 hT F.slot_tuple_eq.lookup ?_);show wpAny _ _ (isInstance (.ref a) (.type "tuple") >>= _) _ _ s;refine aKI (aL8 hT isSubtype_tuple_tuple ?_);simp only[aL9,aMA,aLI];refine aKI (wpAny_seqItems ho hd ?_);refine aKI ?_;show wpAny _ _ (forIn items _ _) _ _ s;rw[<- aL5];refine aL6 _ (λaL r s'=>r.1=none/\s'=s/\∀ v∈aL,∃ x∈xs,IsN s.heap x v) _ ?_ ?_ _ _ ⟨rfl,rfl,hi.mem⟩
   . rintro v aL r s' ⟨hr,rfl,hall⟩;obtain ⟨x,hx,hv⟩:=hall v mcs;refine aKI (ih x hx (n:=n) (by have:=N.dp_mem hx;omega) hv ?_)
     simp only[aL9,aMA,aLI];exact aKH ⟨rfl,rfl,λu hu'=>hall u (mcm hu')⟩
   . rintro ⟨r1,r2⟩ s' ⟨hr,rfl,_⟩;simp only at hr;subst hr;exact aKH h
end
def kW(prog:Program)(w:World):HeapKind prog w N where
 is:=λh k a=>IsN h k (.ref a)/\k.dp<=8
 hash:=aW w
 draws:=N.dr
 room:=λA=>A.units+8<cLine
 inj:=λhx hy=>IsN.inj _ _ _ hx.1 hy.1
 keeps:=λx ho hd hs=>⟨IsN.keeps ho hd hs _ _ x.1,x.2⟩
 pyHash:=λhu hk h=>mY _ (by have:=hk.2;omega) hk.1 h
 eqBool:=λhu hx hy h=>mZ (by have:=hx.2;omega) hx.1 hy.1 h
 quiet:=λhk h=>m5 _ hk.2 hk.1 h
end L2
namespace D3
open PySem PySem.Spec PyProof.Rows L2
inductive D where
 | non | bl (b:Bool) | int (i:Int) | str (x:Str) | tup (xs:List D) | lst (xs:List D) | dct (kvs:List (Key×D)) | ty (n:String) | ob (a:Addr) | ins (c:Str) (fs:List (Str×D)) | fn (x:Str) | exn (c:Str) | set (ks:List Key) | dtn (kvs:List (N×D)) | dtf (kvs:List (N×D))
inductive Md where | fz | fr | bo
 deriving DecidableEq
inductive Res where
 | ok (m:Md) (d:D) | exc (c:Str) | stuck
def xobj(a C:Addr):HO:=.ext λh=>∃ o,h.get? a=some o/\o.cls=.ref C
mutual
def NAt(K:Fg)(F:Hp):N->V->Prop
 | .i n,v=>v=.int n
 | .s x,v=>v=.str x/\x.length<=sizeLine/\PyData.strOk x=true
 | .t xs,v=>∃ a ys,v=.ref a/\SqT K F a ys/\bF K F xs ys
def bF(K:Fg)(F:Hp):List N->List V->Prop
 | [],ys=>ys=[]
 | x::xs,ys=>∃ y zs,ys=y::zs/\NAt K F x y/\bF K F xs zs
end
def rB(S:Key->Bool)(ks:List Key):Prop:=ks.Nodup/\∀ k,S k=true↔k∈ks
mutual
def aB(K:Fg)(F:Hp):D->V->Prop
 | .non,v=>v=.non
 | .bl b,v=>v=.bl b
 | .int i,v=>v=.int i
 | .str x,v=>v=.str x/\x.length<=sizeLine/\PyData.strOk x=true
 | .tup ds,v=>∃ a xs,v=.ref a/\SqT K F a xs/\aC K F ds xs
 | .lst ds,v=>∃ a xs,v=.ref a/\SqL K F a xs/\aC K F ds xs
 | .dct kvs,v=>∃ a xs,v=.ref a/\F a=some (.dK xs)/\cR K F kvs xs
 | .ty n,v=>v=.ty n
 | .ob a,v=>v=.ref a
 | .ins c fs,v=>∃ a C dx gs,v=.ref a/\PySem.W.nsIn K mainGlobals c=some (some (.ref C))/\F a=some (.ins C dx gs)/\cA K F fs gs
 | .fn x,v=>∃ a,v=.ref a/\PySem.W.nsIn K mainGlobals x=some (some (.ref a))
 | .exn c,v=>∃ a C,v=.ref a/\PySem.W.nsIn K mainGlobals c=some (some (.ref C))/\F a=some (xobj a C)
 | .set ks,v=>∃ a S,v=.ref a/\F a=some (.set S ks.length)/\rB S ks
 | .dtn kvs,v=>∃ a xs,v=.ref a/\F a=some (.dN xs)/\aM K F kvs xs
 | .dtf kvs,v=>∃ a o xs,v=.ref a/\F a=some (.frz o (.dN xs))/\aM K F kvs xs
def aM(K:Fg)(F:Hp):List (N×D)->List (N×Addr×V)->Prop
 | [],xs=>xs=[]
 | (k,d)::ds,xs=>∃ b y ys,xs=(k,b,y)::ys/\(NAt K F k (.ref b)/\k.dp<=8)/\aB K F d y/\aM K F ds ys
def aC(K:Fg)(F:Hp):List D->List V->Prop
 | [],xs=>xs=[]
 | d::ds,xs=>∃ y ys,xs=y::ys/\aB K F d y/\aC K F ds ys
def cR(K:Fg)(F:Hp):List (Key×D)->List (Key×V)->Prop
 | [],xs=>xs=[]
 | (k,d)::ds,xs=>∃ y ys,xs=(k,y)::ys/\aB K F d y/\cR K F ds ys
def cA(K:Fg)(F:Hp):List (Str×D)->List (Str×V)->Prop
 | [],xs=>xs=[]
 | (k,d)::ds,xs=>∃ y ys,xs=(k,y)::ys/\aB K F d y/\cA K F ds ys
end
theorem aE.seqT{K:Fg}{H H':Hp}{a:Addr}{xs:List V}(e:aE H H')(h:SqT K H a xs):SqT K H' a xs:=by
 rcases h with (h | ⟨o,h⟩) | h
 . exact .inl (.inl (e _ _ h))
 . exact .inl (.inr ⟨o,e _ _ h⟩)
 . exact .inr h
section
variable {K:Fg}{F F':Hp}
theorem bF.map:∀ {xs:List N} {ys:List V},bF K F xs ys->(∀ x∈xs,∀ v,NAt K F x v->NAt K F' x v)->bF K F' xs ys
 | [],_,h,_=>by simpa only [bF] using h
 | x::xs,ys,h,k=>by simp only[bF] at h ⊢;obtain ⟨y,zs,e,q,r⟩:=h;exact ⟨y,zs,e,k x mcs y q,r.map λz hz=>k z (mcm hz)⟩
theorem NAt.mono(s:aE F F')(k:N):∀ v,NAt K F k v->NAt K F' k v:=by
 induction k using N.ind with
 | hi n=>intro v h;simpa only [NAt] using h
 | hs x=>intro v h;simpa only [NAt] using h
 | ht xs ih=>intro v h;simp only[NAt] at h ⊢;obtain ⟨a,ys,e,q,r⟩:=h;exact ⟨a,ys,e,aE.seqT s q,r.map ih⟩
mutual
theorem aB.mono(s:aE F F'):∀ (d:D) (v:V),aB K F d v->aB K F' d v
 | .non,_,h=>by simpa only [aB] using h
 | .bl _,_,h=>by simpa only [aB] using h
 | .int _,_,h=>by simpa only [aB] using h
 | .str _,_,h=>by simpa only [aB] using h
 | .tup ds,v,h=>by simp only[aB] at h ⊢;obtain ⟨a,xs,e,q,r⟩:=h;exact ⟨a,xs,e,aE.seqT s q,aC.mono s ds xs r⟩
 | .lst ds,v,h=>by simp only[aB] at h ⊢;obtain ⟨a,xs,e,q,r⟩:=h;exact ⟨a,xs,e,s.seq q,aC.mono s ds xs r⟩
 | .dct ds,v,h=>by simp only[aB] at h ⊢;obtain ⟨a,xs,e,q,r⟩:=h;exact ⟨a,xs,e,s _ _ q,cR.mono s ds xs r⟩
 | .ty _,_,h=>by simpa only [aB] using h
 | .ob _,_,h=>by simpa only [aB] using h
 | .fn _,_,h=>by simpa only [aB] using h
 | .exn _,_,h=>by simp only[aB] at h ⊢;obtain ⟨a,C,e,n,q⟩:=h;exact ⟨a,C,e,n,s _ _ q⟩
 | .set _,_,h=>by simp only[aB] at h ⊢;obtain ⟨a,S,e,q,r⟩:=h;exact ⟨a,S,e,s _ _ q,r⟩
 | .dtn ds,v,h=>by simp only[aB] at h ⊢;obtain ⟨a,xs,e,q,r⟩:=h;exact ⟨a,xs,e,s _ _ q,aM.mono s ds xs r⟩
 | .dtf ds,v,h=>by simp only[aB] at h ⊢;obtain ⟨a,o,xs,e,q,r⟩:=h;exact ⟨a,o,xs,e,s _ _ q,aM.mono s ds xs r⟩
 | .ins c fs,v,h=>by simp only[aB] at h ⊢;obtain ⟨a,C,dx,gs,e,n,q,r⟩:=h;exact ⟨a,C,dx,gs,e,n,s _ _ q,cA.mono s fs gs r⟩
theorem aC.mono(s:aE F F'):∀ (ds:List D) (xs:List V),aC K F ds xs->aC K F' ds xs
 | [],_,h=>by simpa only [aC] using h
 | d::ds,xs,h=>by simp only[aC] at h ⊢;obtain ⟨y,ys,e,q,r⟩:=h;exact ⟨y,ys,e,aB.mono s d y q,aC.mono s ds ys r⟩
theorem cR.mono(s:aE F F'):∀ (ds:List (Key×D)) (xs:List (Key×V)),cR K F ds xs->cR K F' ds xs
 | [],_,h=>by simpa only [cR] using h
 | (k,d)::ds,xs,h=>by simp only[cR] at h ⊢;obtain ⟨y,ys,e,q,r⟩:=h;exact ⟨y,ys,e,aB.mono s d y q,cR.mono s ds ys r⟩
theorem aM.mono(s:aE F F'):∀ (ds:List (N×D)) (xs:List (N×Addr×V)),aM K F ds xs->aM K F' ds xs
 | [],_,h=>by simpa only [aM] using h
 | (k,d)::ds,xs,h=>by simp only[aM] at h ⊢;obtain ⟨b,y,ys,e,n,q,r⟩:=h;exact ⟨b,y,ys,e,⟨NAt.mono s k _ n.1,n.2⟩,aB.mono s d y q,aM.mono s ds ys r⟩
theorem cA.mono(s:aE F F'):∀ (ds:List (Str×D)) (xs:List (Str×V)),cA K F ds xs->cA K F' ds xs
 | [],_,h=>by simpa only [cA] using h
 | (k,d)::ds,xs,h=>by simp only[cA] at h ⊢;obtain ⟨y,ys,e,q,r⟩:=h;exact ⟨y,ys,e,aB.mono s d y q,cA.mono s ds ys r⟩
end
theorem cA.lookN:∀ {ds:List (Str×D)} {xs:List (Str×V)} {f:Str},cA K F ds xs->ds.lookup f=none->xs.lookup f=none
 | [],_,_,h,e=>by simp only[cA] at h;subst h;rfl
 | (k,d')::ds,_,f,h,e=>by
  simp only[cA] at h;obtain ⟨y,ys,rfl,q,r⟩:=h;rw[aMB] at e ⊢;split at e
  . cases e
  . exact cA.lookN r e
theorem aC.length:∀ {ds:List D} {xs:List V},aC K F ds xs->xs.length=ds.length
 | [],_,h=>by simp only[aC] at h;subst h;rfl
 | d::ds,_,h=>by simp only[aC] at h;obtain ⟨y,ys,rfl,_,r⟩:=h;rw[aMC,aMC,aC.length r]
theorem aC.get:∀ {ds:List D} {xs:List V} {i:Nat} {x:V},aC K F ds xs->xs[i]? = some x->∃ d,ds[i]? = some d/\aB K F d x
 | [],_,_,_,h,e=>by simp only[aC] at h;subst h;simp at e
 | d::ds,_,0,_,h,e=>by simp only[aC] at h;obtain ⟨y,ys,rfl,r,_⟩:=h;simp at e;subst e;exact ⟨d,rfl,r⟩
 | d::ds,_,i+1,_,h,e=>by
  simp only[aC] at h;obtain ⟨y,ys,rfl,_,r⟩:=h;obtain ⟨d',e',r'⟩:=aC.get (i:=i) r (by simpa using e)
  exact ⟨d',by simpa using e',r'⟩
theorem aC.get':∀ {ds:List D} {xs:List V} {i:Nat} {d:D},aC K F ds xs->ds[i]? = some d->∃ x,xs[i]? = some x/\aB K F d x
 | [],_,_,_,h,e=>by simp at e
 | d::ds,_,0,_,h,e=>by simp only[aC] at h;obtain ⟨y,ys,rfl,r,_⟩:=h;simp at e;subst e;exact ⟨y,rfl,r⟩
 | d::ds,_,i+1,_,h,e=>by
  simp only[aC] at h;obtain ⟨y,ys,rfl,_,r⟩:=h;obtain ⟨d',e',r'⟩:=aC.get' (i:=i) r (by simpa using e)
  exact ⟨d',by simpa using e',r'⟩
theorem aC.append:∀ {ds es:List D} {xs ys:List V},aC K F ds xs->aC K F es ys->aC K F (ds++es) (xs++ys)
 | [],_,_,_,h,r=>by simp only[aC] at h;subst h;exact r
 | d::ds,_,_,_,h,r=>by simp only[aC] at h;obtain ⟨y,ys,rfl,q,t⟩:=h;show aC K F (d::(ds++_)) (y::(ys++_));simp only[aC];exact ⟨y,_,rfl,q,aC.append t r⟩
theorem aC.nil:aC K F [] []:=by simp only[aC]
theorem aC.cons{d:D}{ds:List D}{x:V}{xs:List V}(h:aB K F d x)(r:aC K F ds xs):aC K F (d::ds) (x::xs):=by simp only[aC];exact ⟨x,xs,rfl,h,r⟩
end
def Top(K:Fg)(F H:Hp)(a:Addr):D->Prop
 | .lst ds=>∃ xs,H a=some (.lst xs)/\aC K F ds xs
 | .dct ds=>∃ xs,H a=some (.dK xs)/\cR K F ds xs
 | .ins c fs=>∃ C dx gs,PySem.W.nsIn K mainGlobals c=some (some (.ref C))/\H a=some (.ins C dx gs)/\cA K F fs gs
 | .set ks=>∃ S,H a=some (.set S ks.length)/\rB S ks
 | .dtn ds=>∃ xs,H a=some (.dN xs)/\aM K F ds xs
 | _=>False
def Rp(K:Fg)(F H:Hp)(m:Md)(d:D)(v:V):Prop :=
 match m with
 | .fz=>aB K F d v
 | _=>∃ a,v=.ref a/\F a=none/\Top K F H a d
structure aH(F H F' H':Hp):Prop where
 same:aE H H'
 fsame:aE F F'
 sub:aE F' H'
 new:∀ a,F a=none->H a≠none->F' a=none
theorem aH.refl{F H:Hp}(h:aE F H):aH F H F H:=⟨aE.refl _,aE.refl _,h,λ_ h _=>h⟩
theorem aH.trans{F H F1 H1 F2 H2:Hp}(a:aH F H F1 H1)(b:aH F1 H1 F2 H2):aH F H F2 H2 :=
 ⟨a.same.trans b.same,a.fsame.trans b.fsame,b.sub,λx h1 h2=>b.new x (a.new x h1 h2) (by
  cases e:H x with
  | none=>exact absurd e h2
  | some o=>rw[a.same x o e];exact λz=>nomatch z)⟩
theorem aH.laid{F H:Hp}{p:Addr}(o:HO)(h:aE F H)(hp:H p=none):aH F H (upd F p o) (upd H p o):=by
 have hf:F p=none:=h.free hp;refine ⟨λb u e=>?_,λb u e=>?_,λb u e=>?_,λa h1 h2=>?_⟩
 . rw[aP (bN e hp)];exact e
 . rw[aP (bN e hf)];exact e
 . by_cases hb:b=p
   . subst hb;rw[bA] at e ⊢;exact e
   . rw[aP hb] at e ⊢;exact h b u e
 . have:a≠p:=by rintro rfl;exact h2 hp
   rw[aP this];exact h1
theorem aH.fresh{F H:Hp}{p:Addr}(o:HO)(h:aE F H)(hp:H p=none):aH F H F (upd H p o):=by
 refine ⟨λb u e=>?_,aE.refl _,λb u e=>?_,λa h1 _=>h1⟩
 . rw[aP (bN e hp)];exact e
 . rw[aP (bN (h b u e) hp)];exact h b u e
theorem Top.step{K:Fg}{F H F' H':Hp}{a:Addr}{d:D}(st:aH F H F' H')(h:Top K F H a d):Top K F' H' a d:=by
 cases d with
 | lst ds=>obtain ⟨xs,e,r⟩:=h;exact ⟨xs,st.same _ _ e,r.mono st.fsame _ _⟩
 | dct ds=>obtain ⟨xs,e,r⟩:=h;exact ⟨xs,st.same _ _ e,r.mono st.fsame _ _⟩
 | ins c fs=>obtain ⟨C,dx,gs,n,e,r⟩:=h;exact ⟨C,dx,gs,n,st.same _ _ e,r.mono st.fsame _ _⟩
 | set ks=>obtain ⟨S,e,r⟩:=h;exact ⟨S,st.same _ _ e,r⟩
 | dtn ds=>obtain ⟨xs,e,r⟩:=h;exact ⟨xs,st.same _ _ e,r.mono st.fsame _ _⟩
 | _=>exact h.elim
theorem Top.there{K:Fg}{F H:Hp}{a:Addr}{d:D}(h:Top K F H a d):H a≠none:=by
 cases d with
 | lst ds=>obtain ⟨xs,e,r⟩:=h;rw[e];exact λz=>nomatch z
 | dct ds=>obtain ⟨xs,e,r⟩:=h;rw[e];exact λz=>nomatch z
 | ins c fs=>obtain ⟨C,dx,gs,n,e,r⟩:=h;rw[e];exact λz=>nomatch z
 | set ks=>obtain ⟨S,e,r⟩:=h;rw[e];exact λz=>nomatch z
 | dtn ds=>obtain ⟨xs,e,r⟩:=h;rw[e];exact λz=>nomatch z
 | _=>exact h.elim
theorem Rp.step{K:Fg}{F H F' H':Hp}{m:Md}{d:D}{v:V}(st:aH F H F' H')(h:Rp K F H m d v):Rp K F' H' m d v:=by
 cases m with
 | fz=>exact aB.mono st.fsame d v h
 | fr=>obtain ⟨a,e,n,t⟩:=h;exact ⟨a,e,st.new a n t.there,t.step st⟩
 | bo=>obtain ⟨a,e,n,t⟩:=h;exact ⟨a,e,st.new a n t.there,t.step st⟩
theorem Rp.seqL{K:Fg}{F H:Hp}{m:Md}{ds:List D}{v:V}(s:aE F H)(h:Rp K F H m (.lst ds) v):∃ a xs,v=.ref a/\SqL K H a xs/\aC K F ds xs:=by
 cases m with
 | fz=>have h:aB K F (.lst ds) v:=h;simp only[aB] at h;obtain ⟨a,xs,e,q,r⟩:=h;exact ⟨a,xs,e,s.seq q,r⟩
 | fr=>obtain ⟨a,e,n,xs,q,r⟩:=h;exact ⟨a,xs,e,SqL.of q,r⟩
 | bo=>obtain ⟨a,e,n,xs,q,r⟩:=h;exact ⟨a,xs,e,SqL.of q,r⟩
theorem Rp.seqT{K:Fg}{F H:Hp}{m:Md}{ds:List D}{v:V}(s:aE F H)(h:Rp K F H m (.tup ds) v):∃ a xs,v=.ref a/\SqT K H a xs/\aC K F ds xs:=by
 cases m with
 | fz=>have h:aB K F (.tup ds) v:=h;simp only[aB] at h;obtain ⟨a,xs,e,q,r⟩:=h;exact ⟨a,xs,e,aE.seqT s q,r⟩
 | fr=>obtain ⟨a,e,n,q⟩:=h;exact q.elim
 | bo=>obtain ⟨a,e,n,q⟩:=h;exact q.elim
theorem Rp.dict{K:Fg}{F H:Hp}{m:Md}{ds:List (Key×D)}{v:V}(s:aE F H)(h:Rp K F H m (.dct ds) v):∃ a xs,v=.ref a/\H a=some (.dK xs)/\cR K F ds xs:=by
 cases m with
 | fz=>have h:aB K F (.dct ds) v:=h;simp only[aB] at h;obtain ⟨a,xs,e,q,r⟩:=h;exact ⟨a,xs,e,s _ _ q,r⟩
 | fr=>obtain ⟨a,e,n,xs,q,r⟩:=h;exact ⟨a,xs,e,q,r⟩
 | bo=>obtain ⟨a,e,n,xs,q,r⟩:=h;exact ⟨a,xs,e,q,r⟩
theorem Rp.ins{K:Fg}{F H:Hp}{m:Md}{c:Str}{fs:List (Str×D)}{v:V}(s:aE F H)(h:Rp K F H m (.ins c fs) v):∃ a C dx gs,v=.ref a/\PySem.W.nsIn K mainGlobals c=some (some (.ref C))/\H a=some (.ins C dx gs)/\cA K F fs gs:=by
 cases m with
 | fz=>have h:aB K F (.ins c fs) v:=h;simp only[aB] at h;obtain ⟨a,C,dx,gs,e,n,q,r⟩:=h;exact ⟨a,C,dx,gs,e,n,s _ _ q,r⟩
 | fr=>obtain ⟨a,e,n,C,dx,gs,z,q,r⟩:=h;exact ⟨a,C,dx,gs,e,z,q,r⟩
 | bo=>obtain ⟨a,e,n,C,dx,gs,z,q,r⟩:=h;exact ⟨a,C,dx,gs,e,z,q,r⟩
theorem Rp.int{K:Fg}{F H:Hp}{m:Md}{i:Int}{v:V}(h:Rp K F H m (.int i) v):v=.int i:=by
 cases m with
 | fz=>have h:aB K F (.int i) v:=h;simpa only [aB] using h
 | fr=>obtain ⟨a,e,n,q⟩:=h;exact q.elim
 | bo=>obtain ⟨a,e,n,q⟩:=h;exact q.elim
theorem Rp.bl{K:Fg}{F H:Hp}{m:Md}{i:Bool}{v:V}(h:Rp K F H m (.bl i) v):v=.bl i:=by
 cases m with
 | fz=>have h:aB K F (.bl i) v:=h;simpa only [aB] using h
 | fr=>obtain ⟨a,e,n,q⟩:=h;exact q.elim
 | bo=>obtain ⟨a,e,n,q⟩:=h;exact q.elim
theorem Rp.non{K:Fg}{F H:Hp}{m:Md}{v:V}(h:Rp K F H m .non v):v=.non:=by
 cases m with
 | fz=>have h:aB K F .non v:=h;simpa only [aB] using h
 | fr=>obtain ⟨a,e,n,q⟩:=h;exact q.elim
 | bo=>obtain ⟨a,e,n,q⟩:=h;exact q.elim
theorem Rp.str{K:Fg}{F H:Hp}{m:Md}{x:Str}{v:V}(h:Rp K F H m (.str x) v):v=.str x/\x.length<=sizeLine/\PyData.strOk x=true:=by
 cases m with
 | fz=>have h:aB K F (.str x) v:=h;simpa only [aB] using h
 | fr=>obtain ⟨a,e,n,q⟩:=h;exact q.elim
 | bo=>obtain ⟨a,e,n,q⟩:=h;exact q.elim
theorem Rp.ty{K:Fg}{F H:Hp}{m:Md}{n:String}{v:V}(h:Rp K F H m (.ty n) v):v=.ty n:=by
 cases m with
 | fz=>have h:aB K F (.ty n) v:=h;simpa only [aB] using h
 | fr=>obtain ⟨a,e,n,q⟩:=h;exact q.elim
 | bo=>obtain ⟨a,e,n,q⟩:=h;exact q.elim
theorem Rp.ob{K:Fg}{F H:Hp}{m:Md}{n:Addr}{v:V}(h:Rp K F H m (.ob n) v):v=.ref n:=by
 cases m with
 | fz=>have h:aB K F (.ob n) v:=h;simpa only [aB] using h
 | fr=>obtain ⟨a,e,n,q⟩:=h;exact q.elim
 | bo=>obtain ⟨a,e,n,q⟩:=h;exact q.elim
theorem rp_ty{K:Fg}{F H:Hp}(i:String):Rp K F H .fz (.ty i) (.ty i):=by show aB K F _ _;simp only[aB]
theorem bR{K:Fg}{F H:Hp}(i:Int):Rp K F H .fz (.int i) (.int i):=by show aB K F _ _;simp only[aB]
theorem cY{K:Fg}{F H:Hp}(i:Bool):Rp K F H .fz (.bl i) (.bl i):=by show aB K F _ _;simp only[aB]
theorem rC{K:Fg}{F H:Hp}:Rp K F H .fz .non .non:=by show aB K F _ _;simp only[aB]
theorem hG{K:Fg}{F H:Hp}{x:Str}(h:x.length<=sizeLine/\PyData.strOk x=true):Rp K F H .fz (.str x) (.str x):=by show aB K F _ _;simp only[aB,true_and];exact h
abbrev Rho:=List (Option (Bool×D))
structure aR(K:Fg)(F0 H0 F H:Hp)(σ:L2.St)(ρ:Rho):Prop where
 st:aH F0 H0 F H
 slot:∀ (i:Nat) (m:Bool) (d:D),ρ[i]? = some (some (m,d))->∃ v,σ[i]? = some (some v)/\Rp K F H (if m then .bo else .fz) d v/\(m=true->∀ a,v=.ref a->H0 a=none)
 apart:∀ (i j:Nat) (d d':D) (a:Addr),i≠j->ρ[i]? = some (some (true,d))->ρ[j]? = some (some (true,d'))->σ[i]? = some (some (.ref a))->σ[j]? = some (some (.ref a))->False
 len:σ.length=ρ.length
theorem aR.step{K:Fg}{F0 H0 F H F' H':Hp}{σ:L2.St}{ρ:Rho}(r:aR K F0 H0 F H σ ρ)(st:aH F H F' H'):aR K F0 H0 F' H' σ ρ :=
 ⟨r.st.trans st,λi m d e=>by obtain ⟨v,e1,e2,e3⟩:=r.slot i m d e;exact ⟨v,e1,e2.step st,e3⟩,r.apart,r.len⟩
theorem aR.sub{K:Fg}{F0 H0 F H:Hp}{σ:L2.St}{ρ:Rho}(r:aR K F0 H0 F H σ ρ):aE F H:=r.st.sub
abbrev XE:=Str->L2.St->Hp->Prop
structure Cw where
 K:Fg
 F0:Hp
 H0:Hp
 EE:XE
def tG(C:Cw)(g:Rho->Res):TE:=λσ H Q=>∃ ρ F,aR C.K C.F0 C.H0 F H σ ρ/\match g ρ with
 | .ok m d=>∀ v F' H',aH F H F' H'->Rp C.K F' H' m d v->(m=.fr->∀ a,v=.ref a->H a=none)->Q v H'
 | .exc c=>∀ F' H',aH F H F' H'->C.EE c σ H'
 | .stuck=>False
abbrev Cw.at(C:Cw)(X:Cx):Cw:={ C with K:=X.K }
def PV(C:Cw)(X:Cx)(e:Expr)(g:Rho->Res):Prop:=PE X e (tG (C.at X) g)
theorem PE.imp{X:Cx}{e:Expr}{t t':TE}(h:PE X e t)(i:∀ σ H Q,t' σ H Q->t σ H Q):PE X e t':=λaA s σ H Q I q=>h aA s σ H Q I (i σ H Q q)
def Res.thn(r:Res)(k:Md->D->Res):Res:=match r with
 | .ok m d=>k m d
 | .exc c=>.exc c
 | .stuck=>.stuck
@[simp] theorem Res.thn_ok(m:Md)(d:D)(k:Md->D->Res):(Res.ok m d).thn k=k m d:=rfl
@[simp] theorem Res.thn_exc(c:Str)(k:Md->D->Res):(Res.exc c).thn k=.exc c:=rfl
@[simp] theorem Res.thn_stuck(k:Md->D->Res):Res.stuck.thn k=.stuck:=rfl
def Res.of:Option (Md×D)->Res
 | some (m,d)=>.ok m d
 | none=>.stuck
@[simp] theorem Res.of_some(m:Md)(d:D):Res.of (some (m,d))=.ok m d:=rfl
@[simp] theorem Res.of_none:Res.of none=.stuck:=rfl
def aX(C:Cw)(F H:Hp)(σ:L2.St)(r:Res)(Q:VK):Prop:=match r with
 | .ok m d=>∀ v F' H',aH F H F' H'->Rp C.K F' H' m d v->(m=.fr->∀ a,v=.ref a->H a=none)->Q v H'
 | .exc c=>∀ F' H',aH F H F' H'->C.EE c σ H'
 | .stuck=>False
theorem aV{C:Cw}{g:Rho->Res}{σ:L2.St}{H:Hp}{Q:VK}:tG C g σ H Q=∃ ρ F,aR C.K C.F0 C.H0 F H σ ρ/\aX C F H σ (g ρ) Q:=by unfold tG aX;rfl
theorem aX.step{C:Cw}{F H F1 H1:Hp}{σ:L2.St}{r:Res}{Q:VK}(st:aH F H F1 H1)(h:aX C F H σ r Q):aX C F1 H1 σ r Q:=by
 cases r with
 | ok m d=>exact λv F' H' s2 rp hf=>h v F' H' (st.trans s2) rp λe a ea=>st.same.free (hf e a ea)
 | exc c=>exact λF' H' s2=>h F' H' (st.trans s2)
 | stuck=>exact h
section
variable {C:Cw}{X:Cx}{a b:Expr}{ga gb:Rho->Res}{pos:Pos}
def eV(ρ:Rho)(i:Nat):Res:=match ρ[i]? with
 | some (some (false,d))=>.ok .fz d
 | some (some (true,d))=>.ok .bo d
 | _=>.stuck
theorem z9(i:Nat){x:Str}(h:PE X (.Name x pos) (f8 i)):PV C X (.Name x pos) (λρ=>eV ρ i):=by
 refine PE.imp h λσ H Q q=>?_;rw[aV] at q;obtain ⟨ρ,F,R,w⟩:=q;unfold eV at w;cases e:ρ[i]? with
 | none=>rw[e] at w;exact w.elim
 | some o =>
  cases o with
  | none=>rw[e] at w;exact w.elim
  | some p =>
   obtain ⟨m,d⟩:=p;obtain ⟨v,e1,r,_⟩:=R.slot i m d e;rw[e] at w;cases m with
   | false=>exact ⟨v,e1,w v F H (.refl R.sub) r (by intro z;cases z)⟩
   | true=>exact ⟨v,e1,w v F H (.refl R.sub) r (by intro z;cases z)⟩
theorem f9{e:Expr}{v:V}(d:D)(h:PE X e (tC v))(r:∀ F H,Rp X.K F H .fz d v):PV C X e (λ_=>.ok .fz d):=by refine PE.imp h λσ H Q q=>?_;rw[aV] at q;obtain ⟨ρ,F,R,w⟩:=q;exact w v F H (.refl R.sub) (r F H) (by intro z;cases z)
theorem aAA{i j}:PV C X (.Constant (.int i) j pos) (λ_=>.ok .fz (.int i)):=f9 _ wV λ_ _=>bR i
theorem pv_bl{i j}:PV C X (.Constant (.bool i) j pos) (λ_=>.ok .fz (.bl i)):=f9 _ pe_bl λ_ _=>cY i
theorem aAB{j}:PV C X (.Constant .none j pos) (λ_=>.ok .fz .non):=f9 _ wW λ_ _=>rC
theorem aAC{x:Str}{j}(h:(decide (x.length<=sizeLine)&&PyData.strOk x)=true:=by decide +kernel):PV C X (.Constant (.str x) j pos) (λ_=>.ok .fz (.str x)) :=
 f9 _ wX λ_ _=>hG (by rw[aLR,aMD] at h;exact h)
def op2(φ:Md->D->Md->D->Option (Md×D))(x y:Res):Res:=x.thn λm d=>y.thn λn e=>Res.of (φ m d n e)
def OpD(C:Cw)(X:Cx)(f:Value->Value->Sem Value)(φ:Md->D->Md->D->Option (Md×D)):Prop :=
 ∃ r:R2,OpR X f r/\∀ F H m x n y v u k d Q,aE F H->Rp X.K F H m x v->Rp X.K F H n y u->φ m x n y=some (k,d) ->
  (∀ v' F' H',aH F H F' H'->Rp X.K F' H' k d v'->(k=.fr->∀ a,v'=.ref a->H a=none)->Q v' H')->r v u H Q
theorem jB{φ:Md->D->Md->D->Option (Md×D)}{r:R2}(h:∀ F H m x n y v u k d Q,aE F H->Rp C.K F H m x v->Rp C.K F H n y u->φ m x n y=some (k,d)->(∀ v' F' H',aH F H F' H'->Rp C.K F' H' k d v'->(k=.fr->∀ a,v'=.ref a->H a=none)->Q v' H')->r v u H Q){σ:L2.St}{H:Hp}{Q:VK}(q:tG C (λρ=>op2 φ (ga ρ) (gb ρ)) σ H Q):tOp r (tG C ga) (tG C gb) σ H Q:=by
 unfold tOp;rw[aV] at q ⊢;obtain ⟨ρ,F,R,w⟩:=q;refine ⟨ρ,F,R,?_⟩;cases ea:ga ρ with
 | stuck=>simp only[op2,ea,Res.thn] at w;exact w
 | exc c=>simp only[op2,ea,Res.thn] at w;exact w
 | ok m d =>
  intro v F1 H1 s1 r1 _;rw[aV];refine ⟨ρ,F1,R.step s1,?_⟩;have w1:=w.step s1;simp only[op2,ea,Res.thn] at w1;cases eb:gb ρ with
  | stuck=>rw[eb] at w1;exact w1
  | exc c=>rw[eb] at w1;exact w1
  | ok n e =>
   rw[eb] at w1;intro u F2 H2 s2 r2 _;have w2:aX C F2 H2 σ (Res.of (φ m d n e)) Q:=aX.step s2 w1;cases ef:φ m d n e with
   | none=>rw[ef] at w2;exact w2.elim
   | some kd=>obtain ⟨k,d'⟩:=kd;rw[ef] at w2;exact h F2 H2 m d n e v u k d' Q s2.sub (r1.step s2) r2 ef w2
theorem pv_op{op:Operator}{φ}(o:OpD C X (binaryOp op) φ)(ha:PV C X a ga)(hb:PV C X b gb):PV C X (.BinOp a op b pos) (λρ=>op2 φ (ga ρ) (gb ρ)):=by obtain ⟨r,h1,h2⟩:=o;exact PE.imp (pe_op h1 ha hb) λσ H Q q=>jB h2 q
theorem aAD{op:CmpOp}{φ}(o:OpD C X (compareOp op) φ)(ha:PV C X a ga)(hb:PV C X b gb)(hm:behindInMarks op b=false):PV C X (.Compare a [op] [b] pos) (λρ=>op2 φ (ga ρ) (gb ρ)):=by obtain ⟨r,h1,h2⟩:=o;exact PE.imp (yH h1 ha hb hm) λσ H Q q=>jB h2 q
def orO(φ ψ:Md->D->Md->D->Option (Md×D)):Md->D->Md->D->Option (Md×D):=λm x n y=>(φ m x n y).orElse λ_=>ψ m x n y
theorem OpD.or{f:Value->Value->Sem Value}{φ ψ}(h:OpD C X f φ)(h':OpD C X f ψ):OpD C X f (orO φ ψ):=by
 obtain ⟨r,h1,h2⟩:=h;obtain ⟨r',h1',h2'⟩:=h';refine ⟨_,h1.or h1',λF H m x n y v u k d Q s rx ry e w=>?_⟩;unfold orO at e;cases e1:φ m x n y with
 | none=>rw[e1] at e;exact .inr (h2' F H m x n y v u k d Q s rx ry e w)
 | some p=>rw[e1] at e;cases e;exact .inl (h2 F H m x n y v u k d Q s rx ry e1 w)
def fI(c:Int->Int->Bool)(g:Int->Int->D):Md->D->Md->D->Option (Md×D):=λ_ x _ y=>match x,y with
 | .int i,.int j=>if c i j=true then some (.fz,g i j) else none
 | _,_=>none
theorem hU{f:Value->Value->Sem Value}{Cc:Int->Int->Prop}{c:Int->Int->Bool}{g:Int->Int->V}{g':Int->Int->D}(o:OpR X f (rI Cc g))(hc:∀ i j,c i j=true->Cc i j)(hg:∀ F H i j,Rp X.K F H .fz (g' i j) (g i j)):OpD C X f (fI c g'):=by
 refine ⟨_,o,λF H m x n y v u k d Q s rx ry e w=>?_⟩;unfold fI at e;split at e
 . rename_i i j;cases rx.int;cases ry.int;split at e
   . rename_i hcc;cases e;exact ⟨i,j,rfl,rfl,hc i j hcc,w _ F H (.refl s) (hg F H i j) (by intro z;cases z)⟩
   . cases e
 . cases e
theorem fM{f:Value->Value->Sem Value}{g:Int->Int->V}{g':Int->Int->D}(o:OpR X f (rI0 g))(hg:∀ F H i j,Rp X.K F H .fz (g' i j) (g i j)):OpD C X f (fI (λ_ _=>true) g'):=by
 refine ⟨_,o,λF H m x n y v u k d Q s rx ry e w=>?_⟩;unfold fI at e;split at e
 . rename_i i j;cases rx.int;cases ry.int;rw[if_pos rfl] at e;cases e;exact ⟨i,j,rfl,rfl,w _ F H (.refl s) (hg F H i j) (by intro z;cases z)⟩
 . cases e
def bits(i:Int):Bool:=decide (i.natAbs.log2<9000)
theorem aAE:OpD C X (binaryOp .Add) (fI (λ_ _=>true) λi j=>.int (i+j)):=fM xW λ_ _ i j=>bR _
theorem aAF:OpD C X (binaryOp .Sub) (fI (λ_ _=>true) λi j=>.int (i-j)):=fM xX λ_ _ i j=>bR _
theorem aAG{i j:Int}(h:(bits i&&bits j)=true):IntMulOk i j:=by
 rw[aLR] at h;have b:∀ {i:Int},bits i=true->Builtin.Int.intBits i<=2 ^ 20:=λ{i} h=>by
  unfold bits at h;have:=aME h;unfold Builtin.Int.intBits;split
  . exact aKX _
  . have e:(2:Nat) ^ 20=1048576:=by decide
    omega
 exact IntMulOk.of_bits (b h.1) (b h.2)
def w64(i:Int):Bool:=decide (i.natAbs<2 ^ 63)
theorem rD{i:Int}(h:w64 i=true):Builtin.Int.intBits i<=64:=by
 have h:=aME h;unfold Builtin.Int.intBits;split
 . exact aKX _
 . rename_i hz;have:i.natAbs.log2<63:=(Nat.log2_lt (by simpa using hz)).mpr h
   omega
theorem aAH:OpD C X (binaryOp .Mult) (fI (λi j=>(bits i&&bits j)||(w64 i||w64 j)) λi j=>.int (i * j)) :=
 hU (Cc:=λi j=>IntMulOk i j) (opI λ_ _ _ _ _ _ _ hc q=>mul_int q hc) (λi j h=>by
  rcases (aMF _ _).mp h with h | h
  . exact aAG h
  . rcases (aMF _ _).mp h with h | h
    . exact IntMulOk.of_left (rD h)
    . exact IntMulOk.of_right (rD h)) λ_ _ i j=>bR _
theorem aAI:OpD C X (binaryOp .Mod) (fI (λ_ j=>decide (0<j)) λi j=>.int (i % j)):=hU xY (λi j h=>aME h) λ_ _ i j=>bR _
theorem aAJ:OpR X (binaryOp .FloorDiv) (rI (λ_ j=>0<j/\bits j=true) λi j=>.int (i / j)):=opI λi j _ _ _ _ _ hc q=>by
 obtain ⟨h1,h2⟩:=hc;refine floordiv_int (by omega) ?_ (.inl (PyProof.noPylong_of_log2 (aME h2)))
 rw[Int.fdiv_eq_ediv_of_nonneg i (by omega)]
 exact q
theorem aAK:OpD C X (binaryOp .FloorDiv) (fI (λ_ j=>decide (0<j)&&bits j) λi j=>.int (i / j)):=hU aAJ (λi j h=>by rw[aLR,aMD] at h;exact h) λ_ _ i j=>bR _
theorem aAL:OpD C X (binaryOp .Pow) (fI (λi j=>decide (0<=j)&&decide (j<=1000000)&&decide (i.natAbs<2 ^ 64)) λi j=>.int (i ^ j.toNat)) :=
 hU xZ (λi j h=>by simp only[aLR,aMD] at h;exact ⟨h.1.1,h.1.2,h.2⟩) λ_ _ i j=>bR _
theorem aAM:OpD C X (compareOp .Lt) (fI (λ_ _=>true) λi j=>.bl (decide (i<j))):=fM op_lt λ_ _ i j=>cY _
theorem aAN:OpD C X (compareOp .LtE) (fI (λ_ _=>true) λi j=>.bl (decide (i<=j))):=fM op_le λ_ _ i j=>cY _
theorem aAO:OpD C X (compareOp .Gt) (fI (λ_ _=>true) λi j=>.bl (decide (j<i))):=fM op_gt λ_ _ i j=>cY _
theorem aAP:OpD C X (compareOp .GtE) (fI (λ_ _=>true) λi j=>.bl (decide (j<=i))):=fM op_ge λ_ _ i j=>cY _
def fS(c:Str->Str->Bool)(g:Str->Str->D):Md->D->Md->D->Option (Md×D):=λ_ x _ y=>match x,y with
 | .str i,.str j=>if c i j=true then some (.fz,g i j) else none
 | _,_=>none
theorem aAQ{x y:Str}(hx:PyData.strOk x=true)(hy:PyData.strOk y=true):PyData.strOk (x++y)=true:=by unfold PyData.strOk at *;show (x.cps++y.cps).all _=true;rw[Array.all_append,hx,hy];rfl
theorem aAR:OpD C X (binaryOp .Add) (fS (λi j=>decide (i.length+j.length<=sizeLine)) λi j=>.str (i++j)):=by
 refine ⟨_,yM,λF H m x n y v u k d Q s rx ry e w=>?_⟩;unfold fS at e;split at e
 . rename_i i j;obtain ⟨rfl,h1⟩:=rx.str;obtain ⟨rfl,h2⟩:=ry.str;split at e
   . rename_i hc;cases e;have hc:=aME hc;exact ⟨i,j,rfl,rfl,hc,w _ F H (.refl s) (hG ⟨by rw[strLen_append];exact hc,aAQ h1.2 h2.2⟩) (by intro z;cases z)⟩
   . cases e
 . cases e
def hV(i j:Str):Bool:=!(Builtin.Str.occurrences j i 0 j.length 1).isEmpty
theorem aAS:OpD C X (compareOp .In) (fS (λ_ _=>true) λi j=>.bl (hV i j)):=by
 refine ⟨_,yD,λF H m x n y v u k d Q s rx ry e w=>?_⟩;unfold fS at e;split at e
 . rename_i i j;obtain ⟨rfl,h1⟩:=rx.str;obtain ⟨rfl,h2⟩:=ry.str;rw[if_pos rfl] at e;cases e;exact ⟨i,j,rfl,rfl,w _ F H (.refl s) (cY _) (by intro z;cases z)⟩
 . cases e
theorem aAT:OpD C X (compareOp .NotIn) (fS (λ_ _=>true) λi j=>.bl (!hV i j)):=by
 refine ⟨_,yG,λF H m x n y v u k d Q s rx ry e w=>?_⟩;unfold fS at e;split at e
 . rename_i i j;obtain ⟨rfl,h1⟩:=rx.str;obtain ⟨rfl,h2⟩:=ry.str;rw[if_pos rfl] at e;cases e;exact ⟨i,j,rfl,rfl,w _ F H (.refl s) (cY _) (by intro z;cases z)⟩
 . cases e
end
section
variable {C:Cw}{X:Cx}{a b c e:Expr}{ga gb gc g:Rho->Res}{pos:Pos}
def a5:Res->Res
 | .ok .bo _=>.stuck
 | .ok _ d=>.ok .fz d
 | r=>r
theorem aH.freeze{F H F' H':Hp}{x:Addr}{o:HO}(st:aH F H F' H')(hx:H x=none)(hx':F' x=none)(ho:H' x=some o):aH F H (upd F' x o) H':=by
 refine ⟨st.same,λb u q=>?_,λb u q=>?_,λy h1 h2=>?_⟩
 . rw[aP (bN (st.fsame b u q) hx')];exact st.fsame b u q
 . by_cases hb:b=x
   . subst hb;rw[bA] at q;rw[<- q];exact ho
   . rw[aP hb] at q;exact st.sub b u q
 . have:y≠x:=by rintro rfl;exact h2 hx
   rw[aP this];exact st.new y h1 h2
theorem Top.freeze{K:Fg}{F H:Hp}{x:Addr}{d:D}(hx:F x=none)(h:Top K F H x d):∃ o,H x=some o/\aB K (upd F x o) d (.ref x):=by
 have s:∀ o,aE F (upd F x o):=λo b u q=>by rw[aP (bN q hx)];exact q
 cases d with
 | lst ds=>obtain ⟨xs,q,r⟩:=h;refine ⟨_,q,?_⟩;simp only[aB];exact ⟨x,xs,rfl,SqL.of bA,r.mono (s _) _ _⟩
 | dct ds=>obtain ⟨xs,q,r⟩:=h;refine ⟨_,q,?_⟩;simp only[aB];exact ⟨x,xs,rfl,bA,r.mono (s _) _ _⟩
 | ins c fs=>obtain ⟨C,dx,gs,n,q,r⟩:=h;refine ⟨_,q,?_⟩;simp only[aB];exact ⟨x,C,dx,gs,rfl,n,bA,r.mono (s _) _ _⟩
 | set ks=>obtain ⟨S,q,r⟩:=h;refine ⟨_,q,?_⟩;simp only[aB];exact ⟨x,S,rfl,bA,r⟩
 | dtn ds=>obtain ⟨xs,q,r⟩:=h;refine ⟨_,q,?_⟩;simp only[aB];exact ⟨x,xs,rfl,bA,r.mono (s _) _ _⟩
 | _=>exact h.elim
theorem aX.frz{F H:Hp}{σ:L2.St}{r:Res}{Q:VK}(w:aX C F H σ (a5 r) Q):aX C F H σ r Q:=by
 cases r with
 | exc c=>exact w
 | stuck=>exact w
 | ok m d =>
  cases m with
  | fz=>exact w
  | bo=>exact (show False from w).elim
  | fr=>intro v F' H' st rp fr;obtain ⟨x,rfl,n,t⟩:=rp;obtain ⟨o,ho,r⟩:=t.freeze n;exact w (.ref x) (upd F' x o) H' (st.freeze (fr rfl x rfl) n ho) r (by intro z;cases z)
theorem fN(h:PV C X e g):PV C X e (λρ=>a5 (g ρ)):=PE.imp h λσ H Q q=>by
 rw[aV] at q ⊢;obtain ⟨ρ,F,R,w⟩:=q
 try dsimp only at w
 exact ⟨ρ,F,R,w.frz⟩
def gB(C:Cw)(F H:Hp)(σ:L2.St)(r:Res)(Q:Bool->Hp->Prop):Prop:=match r with
 | .ok _ (.bl b)=>∀ F' H',aH F H F' H'->Q b H'
 | .exc c=>∀ F' H',aH F H F' H'->C.EE c σ H'
 | _=>False
theorem gB.step{F H F1 H1:Hp}{σ:L2.St}{r:Res}{Q:Bool->Hp->Prop}(st:aH F H F1 H1)(h:gB C F H σ r Q):gB C F1 H1 σ r Q:=by
 cases r with
 | ok m d =>
  cases d with
  | bl b=>exact λF' H' s2=>h F' H' (st.trans s2)
  | _=>exact h
 | exc c=>exact λF' H' s2=>h F' H' (st.trans s2)
 | stuck=>exact h
def tT(C:Cw)(g:Rho->Res):TT:=λσ H Q=>∃ ρ F,aR C.K C.F0 C.H0 F H σ ρ/\gB C F H σ (g ρ) Q
def PTv(C:Cw)(X:Cx)(e:Expr)(g:Rho->Res):Prop:=PT X e (tT (C.at X) g)
def PWv(C:Cw)(X:Cx)(e:Expr)(g:Rho->Res):Prop:=PW X e (tT (C.at X) g)
theorem PT.imp{X:Cx}{e:Expr}{t t':TT}(h:PT X e t)(i:∀ σ H Q,t' σ H Q->t σ H Q):PT X e t':=λaA s σ H Q I q=>h aA s σ H Q I (i σ H Q q)
theorem PW.imp{X:Cx}{e:Expr}{t t':TT}(h:PW X e t)(i:∀ σ H Q,t' σ H Q->t σ H Q):PW X e t':=λwhole aA s σ H Q I q=>h whole aA s σ H Q I (i σ H Q q)
def kX:D->Option Bool
 | .non=>some false
 | .bl b=>some b
 | .int i=>some (i != 0)
 | .str x=>some ((x.length:Int) != 0)
 | .tup ds=>some (!ds.isEmpty)
 | .lst ds=>some (!ds.isEmpty)
 | .dct ds=>some (!ds.isEmpty)
 | _=>none
def jC(r:Res):Res:=r.thn λ_ d=>match kX d with | some b=>.ok .fz (.bl b) | none=>.stuck
theorem aC.isEmpty{K:Fg}{F:Hp}{ds:List D}{xs:List V}(h:aC K F ds xs):ds.isEmpty=xs.isEmpty:=by
 cases ds with
 | nil=>simp only[aC] at h;subst h;rfl
 | cons d ds=>simp only[aC] at h;obtain ⟨y,ys,rfl,_⟩:=h;rfl
theorem cR.isEmpty{K:Fg}{F:Hp}{ds:List (Key×D)}{xs:List (Key×V)}(h:cR K F ds xs):ds.isEmpty=xs.isEmpty:=by
 cases ds with
 | nil=>simp only[cR] at h;subst h;rfl
 | cons d ds=>obtain ⟨k,d⟩:=d;simp only[cR] at h;obtain ⟨y,ys,rfl,_⟩:=h;rfl
theorem aAU{K:Fg}{F H:Hp}{m:Md}{d:D}{v:V}{k:Bool}(s:aE F H)(h:Rp K F H m d v)(e:kX d=some k):mS K v H k:=by
 cases d with
 | non=>cases h.non;cases e;rfl
 | bl b=>cases h.bl;cases e;rfl
 | int i=>cases h.int;cases e;rfl
 | str x=>obtain ⟨rfl,hl,_⟩:=h.str;cases e;exact ⟨hl,rfl⟩
 | tup ds=>obtain ⟨a,xs,rfl,q,r⟩:=h.seqT s;cases e;exact .inr (.inl ⟨xs,q,by rw[r.isEmpty]⟩)
 | lst ds=>obtain ⟨a,xs,rfl,q,r⟩:=h.seqL s;cases e;exact .inl ⟨xs,q,by rw[r.isEmpty]⟩
 | dct ds=>obtain ⟨a,xs,rfl,q,r⟩:=h.dict s;cases e;exact .inr (.inr ⟨xs,q,by rw[r.isEmpty]⟩)
 | ty n=>cases e
 | ob n=>cases e
 | ins n=>cases e
 | fn n=>cases e
 | exn n=>cases e
 | set n=>cases e
 | dtn n=>cases e
 | dtf n=>cases e
theorem aAV(h:PV C X e g)(he:∀ whole,isTrue e X.env whole=(do let v <- whole;standAt e.pos;holding [v] (truthy v)):=by intro _;rfl):PTv C X e (λρ=>jC (g ρ)):=by
 refine PT.imp (yL h he) λσ H Q q=>?_;obtain ⟨ρ,F,R,w⟩:=q
 try dsimp only at w
 rw[aV];refine ⟨ρ,F,R,?_⟩;cases er:g ρ with
 | stuck=>rw[er] at w;exact w
 | exc c=>rw[er] at w;exact w
 | ok m d =>
  rw[er] at w;intro v F' H' st rp _;have w:gB (C.at X) F H σ (match kX d with | some b=>.ok .fz (.bl b) | none=>.stuck) Q:=w
  cases ed:kX d with
  | none=>rw[ed] at w;exact w.elim
  | some k=>rw[ed] at w;exact ⟨k,aAU st.sub rp ed,w F' H' st⟩
theorem aAW{op:CmpOp}{φ}(o:OpD C X (compareOp op) φ)(hb':∀ m x n y k d,φ m x n y=some (k,d)->∃ t,k=.fz/\d=.bl t)(ha:PV C X a ga)(hb:PV C X b gb)(hm:behindInMarks op b=false):PTv C X (.Compare a [op] [b] pos) (λρ=>op2 φ (ga ρ) (gb ρ)):=by
 obtain ⟨r,h1,h2⟩:=o;refine PT.imp (yI h1 ha hb hm) λσ H Q q=>?_;obtain ⟨ρ,F,R,w⟩:=q
 try dsimp only at w
 unfold qE;refine jB h2 ?_;rw[aV];refine ⟨ρ,F,R,?_⟩;cases er:op2 φ (ga ρ) (gb ρ) with
 | stuck=>rw[er] at w;exact w
 | exc c=>rw[er] at w;exact w
 | ok m d =>
  rw[er] at w;have:∃ t,m=.fz/\d=.bl t:=by
   unfold op2 at er;cases e1:ga ρ with
   | stuck=>rw[e1] at er;cases er
   | exc c=>rw[e1] at er;cases er
   | ok m1 d1 =>
    cases e2:gb ρ with
    | stuck=>rw[e1,e2] at er;cases er
    | exc c=>rw[e1,e2] at er;cases er
    | ok m2 d2 =>
     rw[e1,e2] at er;have er:Res.of (φ m1 d1 m2 d2)=.ok m d:=er;cases e3:φ m1 d1 m2 d2 with
     | none=>rw[e3] at er;cases er
     | some kd=>rw[e3] at er;obtain ⟨k,d'⟩:=kd;cases er;exact hb' _ _ _ _ _ _ e3
  obtain ⟨t,rfl,rfl⟩:=this;intro v F' H' st rp _;cases rp.bl;exact ⟨t,rfl,w F' H' st⟩
def dQ(x:Res)(y:Res):Res:=x.thn λ_ d=>match d with | .bl true=>y | .bl false=>.ok .fz (.bl false) | _=>.stuck
def orR(x:Res)(y:Res):Res:=x.thn λ_ d=>match d with | .bl true=>.ok .fz (.bl true) | .bl false=>y | _=>.stuck
def jD(x:Res):Res:=x.thn λ_ d=>match d with | .bl b=>.ok .fz (.bl (!b)) | _=>.stuck
theorem aAX(ha:PTv C X a ga):PTv C X (.UnaryOp .Not a pos) (λρ=>jD (ga ρ)):=by
 refine PT.imp (xA ha) λσ H Q q=>?_;obtain ⟨ρ,F,R,w⟩:=q
 try dsimp only at w
 refine ⟨ρ,F,R,?_⟩;cases er:ga ρ with
 | stuck=>rw[er] at w;exact w
 | exc c=>rw[er] at w;exact w
 | ok m d =>
  rw[er] at w;cases d with
  | bl b=>exact w
  | _=>exact w
theorem rE{op:BoolOp}(h:PTv C X a ga):PWv C X (.BoolOp op [a] pos) ga:=by
 cases op with
 | And=>exact wZ h
 | Or=>exact w6 h
theorem rF{σ:L2.St}{H:Hp}{Q:Bool->Hp->Prop}(q:tT C (λρ=>dQ (ga ρ) (gb ρ)) σ H Q):mO (tT C ga) (tT C gb) σ H Q:=by
 obtain ⟨ρ,F,R,w⟩:=q
 try dsimp only at w
 refine ⟨ρ,F,R,?_⟩;cases er:ga ρ with
 | stuck=>rw[er] at w;exact w
 | exc c=>rw[er] at w;exact w
 | ok m d =>
  rw[er] at w;cases d with
  | bl b =>
   intro F' H' st;cases b with
   | true=>rw[if_pos rfl];exact ⟨ρ,F',R.step st,gB.step st w⟩
   | false=>rw[if_neg aKT];exact w F' H' st
  | _=>exact w
theorem tT_or{σ:L2.St}{H:Hp}{Q:Bool->Hp->Prop}(q:tT C (λρ=>orR (ga ρ) (gb ρ)) σ H Q):tOr (tT C ga) (tT C gb) σ H Q:=by
 obtain ⟨ρ,F,R,w⟩:=q
 try dsimp only at w
 refine ⟨ρ,F,R,?_⟩;cases er:ga ρ with
 | stuck=>rw[er] at w;exact w
 | exc c=>rw[er] at w;exact w
 | ok m d =>
  rw[er] at w;cases d with
  | bl b =>
   intro F' H' st;cases b with
   | true=>rw[if_pos rfl];exact w F' H' st
   | false=>rw[if_neg aKT];exact ⟨ρ,F',R.step st,gB.step st w⟩
  | _=>exact w
theorem aAY{aL:List Expr}(ha:PTv C X a ga)(hb:PWv C X (.BoolOp .And (b::aL) pos) gb):PWv C X (.BoolOp .And (a::b::aL) pos) (λρ=>dQ (ga ρ) (gb ρ)):=PW.imp (w8 ha hb) λ_ _ _ q=>rF q
theorem aAZ{aL:List Expr}(ha:PTv C X a ga)(hb:PWv C X (.BoolOp .Or (b::aL) pos) gb):PWv C X (.BoolOp .Or (a::b::aL) pos) (λρ=>orR (ga ρ) (gb ρ)):=PW.imp (pw_or ha hb) λ_ _ _ q=>tT_or q
theorem pt_w(h:PWv C X e g):PTv C X e g:=PW.pt h
theorem rG{op}(h:PV C X a ga):PV C X (.BoolOp op [a] pos) ga:=xB h
theorem aA0{aL:List Expr}(ha:PV C X a ga)(hb:PV C X (.BoolOp .And (b::aL) pos) gb):PV C X (.BoolOp .And (a::b::aL) pos) (λρ=>dQ (ga ρ) (gb ρ)):=by
 refine PE.imp (xC ha hb) λσ H Q q=>?_;unfold pY;rw[aV] at q ⊢;obtain ⟨ρ,F,R,w⟩:=q
 try dsimp only at w
 refine ⟨ρ,F,R,?_⟩;cases er:ga ρ with
 | stuck=>rw[er] at w;exact w
 | exc c=>rw[er] at w;exact w
 | ok m d =>
  rw[er] at w;cases d with
  | bl k =>
   intro v F' H' st rp _;cases rp.bl;refine ⟨k,rfl,?_⟩;cases k with
   | true=>rw[if_pos rfl,aV];exact ⟨ρ,F',R.step st,aX.step st w⟩
   | false=>rw[if_neg aKT];exact w (.bl false) F' H' st (cY _) (by intro z;cases z)
  | _=>exact w.elim
theorem aA1{aL:List Expr}(ha:PV C X a ga)(hb:PV C X (.BoolOp .Or (b::aL) pos) gb):PV C X (.BoolOp .Or (a::b::aL) pos) (λρ=>orR (ga ρ) (gb ρ)):=by
 refine PE.imp (pe_or ha hb) λσ H Q q=>?_;unfold tOrV;rw[aV] at q ⊢;obtain ⟨ρ,F,R,w⟩:=q
 try dsimp only at w
 refine ⟨ρ,F,R,?_⟩;cases er:ga ρ with
 | stuck=>rw[er] at w;exact w
 | exc c=>rw[er] at w;exact w
 | ok m d =>
  rw[er] at w;cases d with
  | bl k =>
   intro v F' H' st rp _;cases rp.bl;refine ⟨k,rfl,?_⟩;cases k with
   | true=>rw[if_pos rfl];exact w (.bl true) F' H' st (cY _) (by intro z;cases z)
   | false=>rw[if_neg aKT,aV];exact ⟨ρ,F',R.step st,aX.step st w⟩
  | _=>exact w.elim
theorem aA2(ha:PV C X a ga):PV C X (.UnaryOp .Not a pos) (λρ=>jD (ga ρ)):=by
 refine PE.imp (xD ha) λσ H Q q=>?_;unfold pZ;rw[aV] at q ⊢;obtain ⟨ρ,F,R,w⟩:=q
 try dsimp only at w
 refine ⟨ρ,F,R,?_⟩;cases er:ga ρ with
 | stuck=>rw[er] at w;exact w
 | exc c=>rw[er] at w;exact w
 | ok m d =>
  rw[er] at w;cases d with
  | bl k=>intro v F' H' st rp _;cases rp.bl;exact ⟨k,rfl,w _ F' H' st (cY _) (by intro z;cases z)⟩
  | _=>exact w.elim
def kY(x:Res):Res:=x.thn λ_ d=>match d with | .int i=>.ok .fz (.int (-i)) | _=>.stuck
theorem aA3(ha:PV C X a ga):PV C X (.UnaryOp .USub a pos) (λρ=>kY (ga ρ)):=by
 refine PE.imp (pe_un yC ha) λσ H Q q=>?_;unfold tUn;rw[aV] at q ⊢;obtain ⟨ρ,F,R,w⟩:=q
 try dsimp only at w
 refine ⟨ρ,F,R,?_⟩;cases er:ga ρ with
 | stuck=>rw[er] at w;exact w
 | exc c=>rw[er] at w;exact w
 | ok m d =>
  rw[er] at w;cases d with
  | int i=>intro v F' H' st rp _;cases rp.int;exact ⟨i,rfl,w _ F' H' st (bR _) (by intro z;cases z)⟩
  | _=>exact w.elim
def ixD:Md->D->Md->D->Option (Md×D):=λ_ x _ y=>match x,y with
 | .lst ds,.int i=>(atI ds i).map λd=>(.fz,d)
 | .tup ds,.int i=>(atI ds i).map λd=>(.fz,d)
 | .str z,.int i=>(atI z.cps.toList i).map λc=>(.fz,.str ⟨#[c]⟩)
 | _,_=>none
theorem aC.atI{K:Fg}{F:Hp}{ds:List D}{xs:List V}{i:Int}{d:D}(h:aC K F ds xs)(e:atI ds i=some d):∃ x,L2.atI xs i=some x/\aB K F d x:=by
 unfold L2.atI at *;rw[h.length];cases q:ixN ds.length i with
 | none=>rw[q] at e;cases e
 | some j=>rw[q] at e;exact h.get' e
theorem aA4{F H:Hp}{m n k:Md}{x y d:D}{v u:V}{Q:VK}(s:aE F H)(rx:Rp X.K F H m x v)(ry:Rp X.K F H n y u)(e:ixD m x n y=some (k,d))(w:∀ v' F' H',aH F H F' H'->Rp X.K F' H' k d v'->(k=.fr->∀ a,v'=.ref a->H a=none)->Q v' H'):rIx X.K v u H Q:=by
 unfold ixD at e;split at e
 . rename_i ds i;cases ry.int;obtain ⟨p,xs,rfl,hq,r⟩:=rx.seqL s;cases ei:atI ds i with
   | none=>rw[ei] at e;cases e
   | some d'=>rw[ei] at e;cases e;obtain ⟨x',ex,rx'⟩:=r.atI ei;exact .inl ⟨p,xs,i,x',rfl,rfl,hq,ex,w x' F H (.refl s) rx' (by intro z;cases z)⟩
 . rename_i ds i;cases ry.int;obtain ⟨p,xs,rfl,hq,r⟩:=rx.seqT s;cases ei:atI ds i with
   | none=>rw[ei] at e;cases e
   | some d'=>rw[ei] at e;cases e;obtain ⟨x',ex,rx'⟩:=r.atI ei;exact .inr (.inl ⟨p,xs,i,x',rfl,rfl,hq,ex,w x' F H (.refl s) rx' (by intro z;cases z)⟩)
 . rename_i z i;cases ry.int;obtain ⟨rfl,hl,hk⟩:=rx.str;cases ei:atI z.cps.toList i with
   | none=>rw[ei] at e;cases e
   | some c =>
    rw[ei] at e;cases e;refine .inr (.inr ⟨z,i,c,rfl,rfl,hl,ei,w _ F H (.refl s) (hG ⟨?_,?_⟩) (by intro z;cases z)⟩)
    . show 1<=sizeLine;decide
    . obtain ⟨j,_,hj,_⟩:=kS ei;unfold PyData.strOk at hk ⊢;rw[aMG] at hk;have hc:=hk c (by rw[<- aKS];exact aK8 hj)
      simpa using hc
 . cases e
theorem pv_ix(ha:PV C X a ga)(hb:PV C X b gb)(hs:kT b:=by intro _ _;rfl):PV C X (.Subscript a b pos) (λρ=>op2 ixD (ga ρ) (gb ρ)):=by exact PE.imp (qV zK ha hb hs) λσ H Q q=>jB (λF H m x n y v u k d Q s rx ry e w=>aA4 s rx ry e w) q
theorem aA5:SlR X (λx lo hi H Q=>∃ z,x=.str z/\z.length<=sizeLine/\Q (.str (Txt.slice z lo hi)) H):=by
 intro aA s σ H x v vl vu lo hi sl Q I rx hs pl pu h;obtain ⟨z,rfl,hz,q⟩:=h;obtain ⟨t,rfl⟩:=rx;refine ⟨"str", _,PySem.F.slot_str_getitem.lookup,typeIs_str _ _ _,?_⟩;have fin:∀ t' k,EP X aA σ Q (.str (Txt.slice z lo hi) t') { s with toks:=k }:=λt' k=>⟨.str (Txt.slice z lo hi),H,I.tok _,⟨_,rfl⟩,q⟩
 cases pl with
 | none =>
  cases pu with
  | none=>exact aMH (l:=none) (u:=none) (st:=none) hs rfl (aMI ⟨aJ4 (aMJ z _ _) hz,λt' k=>fin t' k⟩)
  | int j tj=>exact aMH (l:=none) (u:=some (j,tj)) (st:=none) hs rfl (aMI ⟨aJ4 (aMJ z _ _) hz,λt' k=>fin t' k⟩)
 | int i ti =>
  cases pu with
  | none=>exact aMH (l:=some (i,ti)) (u:=none) (st:=none) hs rfl (aMI ⟨aJ4 (aMJ z _ _) hz,λt' k=>fin t' k⟩)
  | int j tj=>exact aMH (l:=some (i,ti)) (u:=some (j,tj)) (st:=none) hs rfl (aMI ⟨aJ4 (aMJ z _ _) hz,λt' k=>fin t' k⟩)
theorem aA6{z:Str}{lo hi:Option Int}(h:PyData.strOk z=true):PyData.strOk (Txt.slice z lo hi)=true:=by
 unfold Txt.slice;split
 . exact h
 . unfold PyData.strOk at *;rw[aMG] at h ⊢;intro c hc;rw[<- aKS,List.toList_toArray,aKN] at hc;obtain ⟨j,_,hj⟩:=hc;exact h c (aMK hj)
def POv(C:Cw)(X:Cx):Option Expr->Option (Rho->Res)->Prop
 | none,none=>True
 | some e,some g=>PV C X e g
 | _,_=>False
def rH(C:Cw):Option (Rho->Res)->TO
 | none=>qS
 | some g=>kR (tG C g)
theorem rJ{e:Option Expr}{g:Option (Rho->Res)}(h:POv C X e g):PO X e (rH (C.at X) g):=by
 cases e with
 | none=>cases g with
  | none=>exact zD
  | some g=>exact h.elim
 | some e=>cases g with
  | none=>exact h.elim
  | some g=>exact zE h
def bL(g:Option (Rho->Res))(ρ:Rho)(k:Option Int->Res):Res:=match g with
 | none=>k none
 | some g=>(g ρ).thn λ_ d=>match d with | .int i=>k (some i) | _=>.stuck
theorem hW{F H:Hp}{σ:L2.St}{g:Option (Rho->Res)}{ρ:Rho}{k:Option Int->Res}{Q:VK}{R:Option Int->Hp->Prop}(RS:aR C.K C.F0 C.H0 F H σ ρ)(w:aX C F H σ (bL g ρ k) Q)(h:∀ i F' H',aH F H F' H'->aR C.K C.F0 C.H0 F' H' σ ρ->aX C F' H' σ (k i) Q->R i H'):rH C g σ H R:=by
 cases g with
 | none=>exact h none F H (.refl RS.sub) RS w
 | some g =>
  show kR (tG C g) σ H R;unfold kR;rw[aV];refine ⟨ρ,F,RS,?_⟩;have w:aX C F H σ ((g ρ).thn λ_ d=>match d with | .int i=>k (some i) | _=>.stuck) Q:=w
  cases er:g ρ with
  | stuck=>rw[er] at w;exact w
  | exc c=>rw[er] at w;exact w
  | ok m d =>
   rw[er] at w;intro v F' H' st rp _;cases d with
   | int i=>cases rp.int;exact ⟨i,rfl,h (some i) F' H' st (RS.step st) (aX.step st w)⟩
   | _=>exact (show False from w).elim
end
inductive aT where
 | ok (xs:List (Md×D)) | exc (c:Str) | stuck
def RpL(K:Fg)(F H:Hp):List (Md×D)->List V->Prop
 | [],vs=>vs=[]
 | (m,d)::r,vs=>∃ v us,vs=v::us/\Rp K F H m d v/\RpL K F H r us
def aT.thn(r:aT)(k:List (Md×D)->Res):Res:=match r with
 | .ok xs=>k xs
 | .exc c=>.exc c
 | .stuck=>.stuck
@[simp] theorem aT.thn_ok(xs:List (Md×D))(k:List (Md×D)->Res):(aT.ok xs).thn k=k xs:=rfl
@[simp] theorem aT.thn_exc(c:Str)(k:List (Md×D)->Res):(aT.exc c).thn k=.exc c:=rfl
@[simp] theorem aT.thn_stuck(k:List (Md×D)->Res):aT.stuck.thn k=.stuck:=rfl
def jE(C:Cw)(F H:Hp)(σ:L2.St)(r:aT)(Q:List V->Hp->Prop):Prop:=match r with
 | .ok xs=>∀ vs F' H',aH F H F' H'->RpL C.K F' H' xs vs->Q vs H'
 | .exc c=>∀ F' H',aH F H F' H'->C.EE c σ H'
 | .stuck=>False
theorem jE.step{C:Cw}{F H F1 H1:Hp}{σ:L2.St}{r:aT}{Q:List V->Hp->Prop}(st:aH F H F1 H1)(h:jE C F H σ r Q):jE C F1 H1 σ r Q:=by
 cases r with
 | ok m=>exact λv F' H' s2 rp=>h v F' H' (st.trans s2) rp
 | exc c=>exact λF' H' s2=>h F' H' (st.trans s2)
 | stuck=>exact h
def tAv(C:Cw)(g:Rho->aT):TA:=λσ H Q=>∃ ρ F,aR C.K C.F0 C.H0 F H σ ρ/\jE C F H σ (g ρ) Q
def PAv(C:Cw)(X:Cx)(es:List Expr)(g:Rho->aT):Prop:=PA X es (tAv (C.at X) g)
theorem PA.imp{X:Cx}{e:List Expr}{t t':TA}(h:PA X e t)(i:∀ σ H Q,t' σ H Q->t σ H Q):PA X e t':=λp aA s σ H Q I q=>h p aA s σ H Q I (i σ H Q q)
def cZ(x:Res)(y:aT):aT:=match x with
 | .ok m d=>(match y with | .ok r=>.ok ((m,d)::r) | .exc c=>.exc c | .stuck=>.stuck)
 | .exc c=>.exc c
 | .stuck=>.stuck
@[simp] theorem aA7(m:Md)(d:D)(r:List (Md×D)):cZ (.ok m d) (.ok r)=.ok ((m,d)::r):=rfl
section
variable {C:Cw}{X:Cx}{a b c e:Expr}{es:List Expr}{ga gb gc g:Rho->Res}{gs:Rho->aT}{pos p:Pos}{x:Str}
theorem m7:PAv C X [] (λ_=>.ok []):=PA.imp kM λσ H Q q=>by obtain ⟨ρ,F,R,w⟩:=q;exact w [] F H (.refl R.sub) rfl
theorem m8(ha:PV C X e g)(hr:PAv C X es gs)(hs:starEach (e::es) X.env=(false,eval e X.env)::starEach es X.env:=by rfl):PAv C X (e::es) (λρ=>cZ (g ρ) (gs ρ)):=by
 refine PA.imp (kN ha hr hs) λσ H Q q=>?_;unfold jA;obtain ⟨ρ,F,R,w⟩:=q;dsimp only at w;rw[aV];refine ⟨ρ,F,R,?_⟩;cases er:g ρ with
 | stuck=>rw[er] at w;exact w
 | exc c=>rw[er] at w;exact w
 | ok m d =>
  rw[er] at w;intro v F1 H1 s1 r1 _;refine ⟨ρ,F1,R.step s1,?_⟩;have w1:=jE.step s1 w;cases es':gs ρ with
  | stuck=>rw[es'] at w1;exact w1
  | exc c=>rw[es'] at w1;exact w1
  | ok r=>rw[es'] at w1;intro vs F2 H2 s2 r2;exact w1 (v::vs) F2 H2 s2 ⟨v,vs,rfl,r1.step s2,r2⟩
def cB:List (Md×D)->Option (List D)
 | []=>some []
 | (.fz,d)::r=>(cB r).map (d :: ·)
 | _::_=>none
theorem RpL.fz{K:Fg}{F H:Hp}:∀ {xs:List (Md×D)} {vs:List V} {ds:List D},RpL K F H xs vs->cB xs=some ds->aC K F ds vs
 | [],_,_,h,e=>by cases e;rw[show _=[] from h];exact aC.nil
 | (.fz,d)::r,_,_,h,e=>by
  obtain ⟨v,us,rfl,r1,r2⟩:=h;unfold cB at e;cases q:cB r with
  | none=>rw[q] at e;cases e
  | some ds'=>rw[q] at e;cases e;exact aC.cons r1 (RpL.fz r2 q)
 | (.fr,d)::r,_,_,h,e=>by cases e
 | (.bo,d)::r,_,_,h,e=>by cases e
def gC(r:aT):Res:=r.thn λxs=>match cB xs with | some ds=>if ds.length<=sizeLine then .ok .fz (.tup ds) else .stuck | none=>.stuck
def gD(r:aT):Res:=r.thn λxs=>match cB xs with | some ds=>if ds.length<=sizeLine then .ok .fr (.lst ds) else .stuck | none=>.stuck
theorem aB.tup_of{K:Fg}{F:Hp}{p:Addr}{ds:List D}{xs:List V}(hp:F p=none)(r:aC K F ds xs):aB K (upd F p (.tup xs)) (.tup ds) (.ref p):=by simp only[aB];exact ⟨p,xs,rfl,SqT.of bA,r.mono (λb u q=>by rw[aP (bN q hp)];exact q) _ _⟩
theorem aA8{x1}(h:PAv C X es gs):PV C X (.Tuple es x1 pos) (λρ=>gC (gs ρ)):=by
 refine PE.imp (yW h) λσ H Q q=>?_;unfold tTup;rw[aV] at q;obtain ⟨ρ,F,R,w⟩:=q;refine ⟨ρ,F,R,?_⟩;cases er:gs ρ with
 | stuck=>rw[er] at w;exact w
 | exc c=>rw[er] at w;exact w
 | ok xs =>
  rw[er] at w;intro vs F1 H1 s1 r1;have w1:aX (C.at X) F1 H1 σ (match cB xs with | some ds=>if ds.length<=sizeLine then .ok .fz (.tup ds) else .stuck | none=>.stuck) Q:=aX.step s1 w
  cases ef:cB xs with
  | none=>rw[ef] at w1;exact w1.elim
  | some ds =>
   rw[ef] at w1;dsimp only at w1;split at w1
   . rename_i hl;have r2:=r1.fz ef;refine ⟨by rw[r2.length];exact hl,λp hp=>?_⟩
     exact w1 (.ref p) _ _ (aH.laid (.tup vs) s1.sub hp) (aB.tup_of (s1.sub.free hp) r2) (by intro z;cases z)
   . exact w1.elim
theorem aA9(h:PAv C X es gs):PV C X (.List es pos) (λρ=>gD (gs ρ)):=by
 refine PE.imp (yX h) λσ H Q q=>?_;unfold tLst;rw[aV] at q;obtain ⟨ρ,F,R,w⟩:=q;refine ⟨ρ,F,R,?_⟩;cases er:gs ρ with
 | stuck=>rw[er] at w;exact w
 | exc c=>rw[er] at w;exact w
 | ok xs =>
  rw[er] at w;intro vs F1 H1 s1 r1;have w1:aX (C.at X) F1 H1 σ (match cB xs with | some ds=>if ds.length<=sizeLine then .ok .fr (.lst ds) else .stuck | none=>.stuck) Q:=aX.step s1 w
  cases ef:cB xs with
  | none=>rw[ef] at w1;exact w1.elim
  | some ds =>
   rw[ef] at w1;dsimp only at w1;split at w1
   . rename_i hl;have r2:=r1.fz ef;refine ⟨by rw[r2.length];exact hl,λp hp=>?_⟩
     refine w1 (.ref p) F1 _ (aH.fresh (.lst vs) s1.sub hp) ⟨p,rfl,s1.sub.free hp,vs,bA,r2⟩ λ_ a ea=>by cases ea;exact hp
   . exact w1.elim
def c7(X:Cx)(f:Value)(φ:List (Md×D)->Option (Md×D)):Prop :=
 ∃ r:List V->Hp->VK->Prop,b0 X f r/\∀ F H xs vs k d Q,aE F H->RpL X.K F H xs vs->φ xs=some (k,d) ->
  (∀ v' F' H',aH F H F' H'->Rp X.K F' H' k d v'->(k=.fr->∀ a,v'=.ref a->H a=none)->Q v' H')->r vs H Q
def eF(φ:List (Md×D)->Option (Md×D))(r:aT):Res:=r.thn λxs=>Res.of (φ xs)
theorem rK{φ:List (Md×D)->Option (Md×D)}{r:List V->Hp->VK->Prop}(h:∀ F H xs vs k d Q,aE F H->RpL C.K F H xs vs->φ xs=some (k,d)->(∀ v' F' H',aH F H F' H'->Rp C.K F' H' k d v'->(k=.fr->∀ a,v'=.ref a->H a=none)->Q v' H')->r vs H Q){σ:L2.St}{H:Hp}{Q:VK}(q:tG C (λρ=>eF φ (gs ρ)) σ H Q):tCB r (tAv C gs) σ H Q:=by
 unfold tCB;rw[aV] at q;obtain ⟨ρ,F,R,w⟩:=q;refine ⟨ρ,F,R,?_⟩;cases er:gs ρ with
 | stuck=>rw[er] at w;exact w
 | exc c=>rw[er] at w;exact w
 | ok xs =>
  rw[er] at w;intro vs F1 H1 s1 r1;have w1:aX C F1 H1 σ (Res.of (φ xs)) Q:=aX.step s1 w;cases ef:φ xs with
  | none=>rw[ef] at w1;exact w1.elim
  | some kd=>obtain ⟨k,d⟩:=kd;rw[ef] at w1;exact h F1 H1 xs vs k d Q s1.sub r1 ef w1
theorem rL{id:String}{φ}(o:c7 X (.builtin id) φ)(hg:Gl X x)(hm:X.mg x=none)(hv:bootBuiltins x=some (.builtin id))(ha:PAv C X (e::es) gs)(hn:x ≠ "__name__" := by decide)(hdb:(x==("__debug__" : Str))=false:=by decide)(he:starEach (e::es) X.env=(false,eval e X.env)::starEach es X.env:=by rfl)(hpl:(backTo pos (starEach es X.env)).any (·.1)=false:=by rfl):PV C X (.Call (.Name x p) (e::es) [] pos) (λρ=>eF φ (gs ρ)):=by obtain ⟨r,h1,h2⟩:=o;exact PE.imp (qL h1 hg hm hv ha hn hdb he hpl) λσ H Q q=>rK h2 q
def eG:List (Md×D)->Option (Md×D)
 | [(_,.str z)]=>some (.fz,.int z.length)
 | [(_,.lst ds)]=>some (.fz,.int ds.length)
 | [(_,.tup ds)]=>some (.fz,.int ds.length)
 | _=>none
theorem RpL.one{K:Fg}{F H:Hp}{m:Md}{d:D}{vs:List V}(h:RpL K F H [(m,d)] vs):∃ v,vs=[v]/\Rp K F H m d v:=by obtain ⟨v,us,rfl,r,e⟩:=h;exact ⟨v,by rw[show us=[] from e],r⟩
theorem RpL.two{K:Fg}{F H:Hp}{m n:Md}{d e:D}{vs:List V}(h:RpL K F H [(m,d),(n,e)] vs):∃ v u,vs=[v,u]/\Rp K F H m d v/\Rp K F H n e u:=by obtain ⟨v,us,rfl,r,v',us',rfl,r',e⟩:=h;exact ⟨v,v',by rw[show us'=[] from e],r,r'⟩
theorem aBA:c7 X (.builtin "len") eG:=by
 refine ⟨_,yP,λF H xs vs k d Q s rx e w=>?_⟩;unfold eG at e;split at e
 . rename_i m z;cases e;obtain ⟨v,rfl,r⟩:=rx.one;obtain ⟨rfl,hz,_⟩:=r.str;exact ⟨_,z.length,rfl,⟨hz,rfl⟩,w _ F H (.refl s) (bR _) (by intro z;cases z)⟩
 . rename_i m ds;cases e;obtain ⟨v,rfl,r⟩:=rx.one;obtain ⟨a,xs,rfl,q,rl⟩:=r.seqL s;exact ⟨_,xs.length,rfl,.inl ⟨xs,q,rfl⟩,by rw[rl.length];exact w _ F H (.refl s) (bR _) (by intro z;cases z)⟩
 . rename_i m ds;cases e;obtain ⟨v,rfl,r⟩:=rx.one;obtain ⟨a,xs,rfl,q,rl⟩:=r.seqT s;exact ⟨_,xs.length,rfl,.inr ⟨xs,q,rfl⟩,by rw[rl.length];exact w _ F H (.refl s) (bR _) (by intro z;cases z)⟩
 . cases e
def tyN:D->Option String
 | .non=>some "NoneType" | .bl _=>some "bool" | .int _=>some "int" | .str _=>some "str" | .tup _=>some "tuple" | .lst _=>some "list" | .dct _=>some "dict" | _=>none
def jF(t c:String):Option Bool:=if ["int", "bool", "str", "list", "tuple", "dict"].contains c=true then some (t==c||(t == "bool" && c == "int")) else none
def dH:List (Md×D)->Option (Md×D)
 | [(_,d),(_,.ty c)]=>match tyN d with | some t=>(jF t c).map λb=>(.fz,.bl b) | none=>none
 | _=>none
theorem aBB{K:Fg}{d:D}{t c:String}{b:Bool}(ht:tyN d=some t)(e:jF t c=some b):PySem.W.kitOne K (.type t) (.type c)=some b:=by
 unfold jF at e;split at e
 . rename_i hc;simp only[List.contains_cons,List.contains_nil,Bool.or_false,aMF,aKU] at hc;cases e;have ht':t = "NoneType" \/ t = "bool" \/ t = "int" \/ t = "str" \/ t = "tuple" \/ t = "list" \/ t = "dict" := by cases d <;> cases ht <;> simp
   rcases hc with rfl | rfl | rfl | rfl | rfl | rfl <;> rcases ht' with rfl | rfl | rfl | rfl | rfl | rfl | rfl <;> rfl
 . cases e
theorem aBC:c7 X (.builtin "isinstance") dH:=by
 refine ⟨λvs H Q=>∃ (F:Hp) (m:Md) (d:D) (v:V) (t c:String) (b:Bool),aE F H/\Rp X.K F H m d v/\vs=[v,.ty c]/\tyN d=some t/\jF t c=some b/\Q (.bl b) H,?_,?_⟩
 . intro aA s σ H xs us Q I r h;obtain ⟨F,m,d,v,t,c,b,sF,rp,rfl,ht,hb,q⟩:=h;obtain ⟨u,u',rfl,ru,ru'⟩:=vals2 r;cases (show u'=Value.type c from ru')
   have e:=aBB (K:=X.K) ht hb;have fin:∀ tk,EP X aA σ Q (.bool b) { s with toks:=tk }:=λtk=>⟨.bl b,H,I.tok _,rfl,q⟩
   cases d with
   | non=>cases rp.non;cases ht;cases (show u=Value.none from ru);exact aML PySem.W.kitx_none I.kIn True.intro e (λz=>nomatch z) fin
   | bl y=>cases rp.bl;cases ht;cases (show u=Value.bool y from ru);exact aML PySem.W.kitx_bool I.kIn True.intro e (λz=>nomatch z) fin
   | int i=>cases rp.int;cases ht;obtain ⟨t,q⟩:=(show ∃ t,u=Value.int i t from ru);cases q;exact aML PySem.W.kitx_int I.kIn True.intro e (λz=>nomatch z) fin
   | str y=>obtain ⟨rfl,_⟩:=rp.str;cases ht;obtain ⟨t,q⟩:=(show ∃ t,u=Value.str y t from ru);cases q;exact aML PySem.W.kitx_str I.kIn True.intro e (λz=>nomatch z) fin
   | tup ds =>
    obtain ⟨a,xs,rfl,hq,_⟩:=rp.seqT sF;cases ht;cases (show u=Value.ref a from ru)
    obtain ⟨its,_,⟨o,h1,h2,_⟩,_⟩:=I.tuple hq;exact aML PySem.W.kitx_tuple I.kIn ⟨o,h1,h2⟩ e (λz=>nomatch z) fin
   | lst ds =>
    obtain ⟨a,xs,rfl,hq,_⟩:=rp.seqL sF;cases ht;cases (show u=Value.ref a from ru)
    obtain ⟨its,_,⟨o,n,h1,h2,_⟩,_⟩:=I.list hq;exact aML PySem.W.kitx_list I.kIn ⟨o,h1,h2⟩ e (λz=>nomatch z) fin
   | dct ds =>
    obtain ⟨a,xs,rfl,hq,_⟩:=rp.dict sF;cases ht;cases (show u=Value.ref a from ru)
    obtain ⟨_,_,vs,_,p⟩:=(show bE X.prog X.w H s.heap a (.dK xs) from I.hok a _ hq)
    obtain ⟨o,es,ep,h1,h2,_⟩:=p;exact aML PySem.W.kitx_dict I.kIn ⟨o,h1,h2.1⟩ e (λz=>nomatch z) fin
   | _=>cases ht
 . intro F H xs vs k d Q s rx e w;unfold dH at e;split at e
   . rename_i m d' n c;obtain ⟨v,u,rfl,r1,r2⟩:=rx.two;cases r2.ty;cases et:tyN d' with
     | none=>rw[et] at e;cases e
     | some t =>
      rw[et] at e;dsimp only at e;cases eb:jF t c with
      | none=>rw[eb] at e;cases e
      | some b=>rw[eb] at e;cases e;exact ⟨F,m,d',v,t,c,b,s,r1,rfl,et,eb,w _ F H (.refl s) (cY _) (by intro z;cases z)⟩
   . cases e
theorem pv_ty{T:String}(hg:Gl X x)(hm:X.mg x=none)(hv:bootBuiltins x=some (.type T))(hn:x ≠ "__name__" := by decide)(hd:(x==("__debug__" : Str))=false:=by decide):PV C X (.Name x pos) (λ_=>.ok .fz (.ty T)) :=
 f9 _ (wY (v:=.ty T) hg hm hv rfl hn hd) λ_ _=>rp_ty T
theorem aBD{y:Str}{t:Tok}(hg:Gl X x)(hm:X.mg x=some (.str y t))(h:(decide (y.length<=sizeLine)&&PyData.strOk y)=true:=by decide +kernel)(hd:(x==("__debug__" : Str))=false:=by decide):PV C X (.Name x pos) (λ_=>.ok .fz (.str y)) :=
 f9 _ (pX (v:=.str y) hg hm ⟨t,rfl⟩ hd) λ_ _=>hG (by rw[aLR,aMD] at h;exact h)
theorem aBE{y:Int}{t:Tok}(hg:Gl X x)(hm:X.mg x=some (.int y t))(hd:(x==("__debug__" : Str))=false:=by decide):PV C X (.Name x pos) (λ_=>.ok .fz (.int y)) :=
 f9 _ (pX (v:=.int y) hg hm ⟨t,rfl⟩ hd) λ_ _=>bR _
end
inductive aG where
 | nx (ρ:Rho) | rt (m:Md) (d:D) | bk (ρ:Rho) | ct (ρ:Rho) | exc (c:Str) (ρ:Rho) | stuck
def bS(C:Cw)(Fa:Hp)(r:aG)(E:eD):Prop:=match r with
 | .nx ρ=>∀ σ F H,aE Fa F->aR C.K C.F0 C.H0 F H σ ρ->E.nx σ H
 | .bk ρ=>∀ σ F H,aE Fa F->aR C.K C.F0 C.H0 F H σ ρ->E.bk σ H
 | .ct ρ=>∀ σ F H,aE Fa F->aR C.K C.F0 C.H0 F H σ ρ->E.ct σ H
 | .exc c ρ=>∀ σ F H,aE Fa F->aR C.K C.F0 C.H0 F H σ ρ->C.EE c σ H
 | .rt m d=>∀ v F H,aH C.F0 C.H0 F H->Rp C.K F H m d v->(m=.fr->∀ a,v=.ref a->C.H0 a=none)->E.rt v H
 | .stuck=>False
theorem bS.mono{C:Cw}{F F1:Hp}{r:aG}{E:eD}(s:aE F F1)(w:bS C F r E):bS C F1 r E:=by
 cases r with
 | nx ρ=>exact λσ F' H' z R=>w σ F' H' (s.trans z) R
 | bk ρ=>exact λσ F' H' z R=>w σ F' H' (s.trans z) R
 | ct ρ=>exact λσ F' H' z R=>w σ F' H' (s.trans z) R
 | exc c ρ=>exact λσ F' H' z R=>w σ F' H' (s.trans z) R
 | rt m d=>exact w
 | stuck=>exact w
def tH(C:Cw)(g:Rho->aG):TS:=λE σ H=>∃ ρ F,aR C.K C.F0 C.H0 F H σ ρ/\bS C F (g ρ) E
def PSv(C:Cw)(X:Cx)(st:Stmt)(g:Rho->aG):Prop:=PS X st (tH (C.at X) g)
def PBv(C:Cw)(X:Cx)(st:List Stmt)(g:Rho->aG):Prop:=PSs X st (tH (C.at X) g)
theorem PS.imp{X:Cx}{e:Stmt}{t t':TS}(h:PS X e t)(i:∀ E σ H,t' E σ H->t E σ H):PS X e t':=λaA s σ H E I q=>h aA s σ H E I (i E σ H q)
theorem PSs.imp{X:Cx}{e:List Stmt}{t t':TS}(h:PSs X e t)(i:∀ E σ H,t' E σ H->t E σ H):PSs X e t':=λaA s σ H E I q=>h aA s σ H E I (i E σ H q)
def aG.thn(r:aG)(k:Rho->aG):aG:=match r with
 | .nx ρ=>k ρ
 | r=>r
@[simp] theorem aG.thn_nx(ρ:Rho)(k:Rho->aG):(aG.nx ρ).thn k=k ρ:=rfl
@[simp] theorem aG.thn_rt(m:Md)(d:D)(k:Rho->aG):(aG.rt m d).thn k=.rt m d:=rfl
@[simp] theorem aG.thn_bk(ρ:Rho)(k:Rho->aG):(aG.bk ρ).thn k=.bk ρ:=rfl
@[simp] theorem aG.thn_ct(ρ:Rho)(k:Rho->aG):(aG.ct ρ).thn k=.ct ρ:=rfl
@[simp] theorem aG.thn_exc(c:Str)(ρ:Rho)(k:Rho->aG):(aG.exc c ρ).thn k=.exc c ρ:=rfl
@[simp] theorem aG.thn_stuck(k:Rho->aG):aG.stuck.thn k=.stuck:=rfl
section
variable {C:Cw}{X:Cx}{a b c e:Expr}{es:List Expr}{ga gb gc g:Rho->Res}{gs:Rho->aT}{pos p:Pos}{x:Str}{st:Stmt}{sts:List Stmt}{h1 h2:Rho->aG}
theorem aBF:PBv C X [] (λρ=>.nx ρ):=PSs.imp xE λE σ H q=>by obtain ⟨ρ,F,R,w⟩:=q;exact w σ F H (aE.refl _) R
theorem aBG{E:eD}{σ:L2.St}{H:Hp}(q:tH C (λρ=>(h1 ρ).thn h2) E σ H):tSeq (tH C h1) (tH C h2) E σ H:=by
 obtain ⟨ρ,F,R,w⟩:=q;refine ⟨ρ,F,R,?_⟩;dsimp only at w;cases er:h1 ρ with
 | nx ρ'=>rw[er] at w;exact λσ' F' H' z R'=>⟨ρ',F',R',bS.mono z w⟩
 | rt m d=>rw[er] at w;exact w
 | bk ρ'=>rw[er] at w;exact w
 | ct ρ'=>rw[er] at w;exact w
 | exc c ρ'=>rw[er] at w;exact w
 | stuck=>rw[er] at w;exact w
theorem aBH(ha:PSv C X st h1)(hb:PBv C X sts h2):PBv C X (st::sts) (λρ=>(h1 ρ).thn h2):=PSs.imp (xF ha hb) λE σ H q=>aBG q
def Res.thS(r:Res)(ρ:Rho)(k:Md->D->aG):aG:=match r with
 | .ok m d=>k m d
 | .exc c=>.exc c ρ
 | .stuck=>.stuck
@[simp] theorem Res.thS_ok(m:Md)(d:D)(ρ:Rho)(k:Md->D->aG):(Res.ok m d).thS ρ k=k m d:=rfl
@[simp] theorem Res.thS_exc(c:Str)(ρ:Rho)(k:Md->D->aG):(Res.exc c).thS ρ k=.exc c ρ:=rfl
@[simp] theorem Res.thS_stuck(ρ:Rho)(k:Md->D->aG):Res.stuck.thS ρ k=.stuck:=rfl
theorem gE{F:Hp}{σ:L2.St}{H:Hp}{ρ:Rho}{k:Md->D->aG}{E:eD}{Q:VK}(R:aR C.K C.F0 C.H0 F H σ ρ)(w:bS C F ((g ρ).thS ρ k) E)(h:∀ m d v F' H',bS C F' (k m d) E->aH F H F' H'->aR C.K C.F0 C.H0 F' H' σ ρ->Rp C.K F' H' m d v->(m=.fr->∀ a,v=.ref a->H a=none)->Q v H'):tG C g σ H Q:=by
 rw[aV];refine ⟨ρ,F,R,?_⟩;cases er:g ρ with
 | stuck=>rw[er] at w;exact w
 | exc c=>rw[er] at w;exact λF' H' s=>w σ F' H' s.fsame (R.step s)
 | ok m d=>rw[er] at w;exact λv F' H' s rp fr=>h m d v F' H' (bS.mono s.fsame w) s (R.step s) rp fr
def hX(r:Res)(ρ:Rho):aG:=r.thS ρ λm d=>match m with | .bo=>.stuck | m=>.rt m d
theorem aBI(he:PV C X e g):PSv C X (.Return (some e) pos) (λρ=>hX (g ρ) ρ):=PS.imp (qB he) λE σ H q=>by
 obtain ⟨ρ,F,R,w⟩:=q;refine gE R w λm d v F' H' w' s R' rp fr=>?_;cases m with
 | bo=>exact (show False from w').elim
 | fz=>exact w' v F' H' R'.st rp (by intro z;cases z)
 | fr=>exact w' v F' H' R'.st rp λ_ a ea=>R.st.same.free (fr rfl a ea)
def eH(ρ:Rho)(i:Nat):aG:=match ρ[i]? with
 | some (some (false,d))=>.rt .fz d
 | some (some (true,d))=>.rt .fr d
 | _=>.stuck
theorem aBJ(i:Nat)(h:PE X (.Name x p) (f8 i)):PSv C X (.Return (some (.Name x p)) pos) (λρ=>eH ρ i):=PS.imp (qB h) λE σ H q=>by
 obtain ⟨ρ,F,R,w⟩:=q;dsimp only at w;unfold eH at w;cases e:ρ[i]? with
 | none=>rw[e] at w;exact w.elim
 | some o =>
  cases o with
  | none=>rw[e] at w;exact w.elim
  | some q =>
   obtain ⟨m,d⟩:=q;obtain ⟨v,e1,r,hh⟩:=R.slot i m d e;rw[e] at w;cases m with
   | false=>exact ⟨v,e1,w v F H R.st r (by intro z;cases z)⟩
   | true=>exact ⟨v,e1,w v F H R.st r λ_=>hh rfl⟩
def ifS(t:Res)(ρ:Rho)(x y:aG):aG:=t.thS ρ λ_ d=>match d with | .bl true=>x | .bl false=>y | _=>.stuck
theorem aBK{s1 s2:List Stmt}(hc:PTv C X c gc)(ha:PBv C X s1 h1)(hb:PBv C X s2 h2):PSv C X (.If c s1 s2 pos) (λρ=>ifS (gc ρ) ρ (h1 ρ) (h2 ρ)):=by
 refine PS.imp (ps_if hc ha hb) λE σ H q=>?_;obtain ⟨ρ,F,R,w⟩:=q;dsimp only at w;refine ⟨ρ,F,R,?_⟩;cases er:gc ρ with
 | stuck=>rw[er] at w;exact w
 | exc c=>rw[er] at w;exact λF' H' s=>w σ F' H' s.fsame (R.step s)
 | ok m d =>
  rw[er] at w;cases d with
  | bl k =>
   intro F' H' s;cases k with
   | true=>rw[if_pos rfl];exact ⟨ρ,F',R.step s,bS.mono s.fsame w⟩
   | false=>rw[if_neg aKT];exact ⟨ρ,F',R.step s,bS.mono s.fsame w⟩
  | _=>exact w.elim
def dR(ρ:Rho)(i:Nat)(r:Res):aG:=r.thS ρ λm d=>match m with
 | .fz=>.nx (ρ.set i (some (false,d)))
 | .fr=>.nx (ρ.set i (some (true,d)))
 | .bo=>.stuck
theorem aR.set{K:Fg}{F0 H0 F H F' H':Hp}{σ:L2.St}{ρ:Rho}{i:Nat}{m:Bool}{d:D}{v:V}(R0:aR K F0 H0 F H σ ρ)(s:aH F H F' H')(rp:Rp K F' H' (if m then .bo else .fz) d v)(fr:m=true->∀ a,v=.ref a->H a=none):aR K F0 H0 F' H' (σ.set i (some v)) (ρ.set i (some (m,d))):=by
 have R:=R0.step s;refine ⟨R.st,λj m' d' e=>?_,λj k d1 d2 a hjk e1 e2 q1 q2=>?_,by rw[aLV,aLV];exact R.len⟩
 . by_cases hj:j=i
   . subst hj;rw[aMM] at e;by_cases hl:j<ρ.length
     . rw[if_pos rfl,if_pos hl] at e;cases e;refine ⟨v,by rw[aMM,if_pos rfl,if_pos (by rw[R.len];exact hl)],rp,λz a ea=>R0.st.same.free (fr z a ea)⟩
     . rw[if_pos rfl,if_neg hl] at e;cases e
   . rw[aKC (λz=>hj z.symm)] at e ⊢;exact R.slot j m' d' e
 . have old:∀ (l:Nat) (d:D) (b:Addr),l≠i->ρ[l]? = some (some (true,d))->σ[l]? = some (some (.ref b))->H b≠none:=λl d b hl e q=>by obtain ⟨u,q',r,_⟩:=R0.slot l true d e;rw[q] at q';cases q';obtain ⟨b',eb,_,t⟩:=r;cases eb;exact t.there
   by_cases hj:j=i
   . subst hj;rw[aKC hjk] at e2 q2;rw[aMM] at e1 q1;by_cases hl:j<ρ.length
     . rw[if_pos rfl,if_pos hl] at e1;rw[if_pos rfl,if_pos (by rw[R.len];exact hl)] at q1
       cases e1;cases q1;exact old k d2 a (λz=>hjk z.symm) e2 q2 (fr rfl a rfl)
     . rw[if_pos rfl,if_neg hl] at e1;cases e1
   . by_cases hk:k=i
     . subst hk;rw[aKC (λz=>hjk z.symm)] at e1 q1;rw[aMM] at e2 q2;by_cases hl:k<ρ.length
       . rw[if_pos rfl,if_pos hl] at e2;rw[if_pos rfl,if_pos (by rw[R.len];exact hl)] at q2
         cases e2;cases q2;exact old j d1 a hjk e1 q1 (fr rfl a rfl)
       . rw[if_pos rfl,if_neg hl] at e2;cases e2
     . rw[aKC (λz=>hj z.symm)] at e1 q1;rw[aKC (λz=>hk z.symm)] at e2 q2;exact R.apart j k d1 d2 a hjk e1 e2 q1 q2
theorem m9{g:Rho->Res}{i:Nat}{E:eD}{σ:L2.St}{H:Hp}(q:tH (C.at X) (λρ=>dR ρ i (g ρ)) E σ H):kH (tG (C.at X) g) (i6 i) E σ H:=by
 obtain ⟨ρ,F,R,w⟩:=q;dsimp only at w;refine gE R w λm d v F' H' w' s R' rp fr=>?_;cases m with
 | bo=>exact (show False from w').elim
 | fz=>exact w' _ F' H' (aE.refl _) (R.set (m:=false) s rp (by intro z;cases z))
 | fr=>exact w' _ F' H' (aE.refl _) (R.set (m:=true) s rp λ_ a ea=>fr rfl a ea)
theorem aBL{i:Nat}{pos':Pos}(hN:X.N.Nodup)(hi:X.N[i]? = some x)(hx:Loc X.env.scope x)(he:PV C X e g)(hs:swapsWith e (some (.Name x pos')) pos.line X.env=pure false:=by rfl)(hf:X.fn x=true\/X.env.scope.names.lookup x=some .local:=by first | exact .inl rfl | exact .inr rfl | assumption):PSv C X (.Assign [.Name x pos'] e pos) (λρ=>dR ρ i (g ρ)):=PS.imp (xL hN hi hx he hs hf) λE σ H q=>m9 q
end
def Its(x:Str):It:=⟨λi _=>i<x.cps.size,λi H v H'=>H'=H/\∃ c,x.cps[i]? = some c/\v=.str ⟨#[c]⟩,λi _=>x.cps.size<=i⟩
theorem rM{P:Program}{w:World}{K:Fg}{tg:Expr}(it:Addr)(x:Str)(t:Tok)(ty:String)(hty:["enumerate", "zip", "dict_itemiterator", "dict_reverseitemiterator", "odict_iterator", "itertools.zip_longest", "itertools.pairwise"].contains ty=false)(W:∀ A':Around,A'.handled=none->Walks P w A' it [it] [it] x.cps.size (SignAt x) (λi h=>h.IsStrIter it ty x t i))(Sf:∀ (A:Around) (i:Nat) (s:Shared) (Q:VSP) (E:VSP),s.heap.IsStrIter it ty x t i->Q (.ref it) s->wpAny (model P w) A (pyIter (.ref it)) Q E s):gZ P w K tg (Its x) [it] it (λi h=>i<=x.cps.size/\h.IsStrIter it ty x t i) where
 mem:=by simp
 obj:=λi h st b hb=>by
  have e:b=it:=by simpa using hb
  subst e;obtain ⟨_,o,e,c,d⟩:=st;exact ⟨o,e,λv z=>by rw[d] at z;cases z⟩
 keep:=λi h h' st k=>⟨st.1,let ⟨o,e,r⟩:=st.2;⟨o,k it (by simp) o e,r⟩⟩
 item:=by
  intro X hP hw hK hc i aA s σ H E I hf st hg;subst hP hw hK;obtain ⟨f0,f1,f2,f3,f4,f5⟩:=hf it (by simp)
  refine (W X.A (I.ok.hd hc)).item i s _ _ hg st.2 λv h' tk hv st' kk=>?_;obtain ⟨c,u,hc',rfl⟩:=hv;have I1:Inv X aA σ H { s with heap:=h',toks:=tk }:=I.turned (λb o hb e=>kk b o (by simpa using hb) e) f0 f1 f3 f4 f5
  obtain ⟨o,e,oc,d⟩:=id st';exact ⟨_,rfl,i7 (s:={ s with heap:=h',toks:=tk }) e oc d hty ⟨.str ⟨#[c]⟩,H,I1,⟨u,rfl⟩,⟨rfl,c,hc',rfl⟩,⟨hg,st'⟩,λb hb=>(hf b hb).1⟩⟩
 done:=by
  intro X hP hw hK hc i aA s σ H E I hf st hg;subst hP hw hK;obtain ⟨f0,f1,f2,f3,f4,f5⟩:=hf it (by simp)
  have e:i=x.cps.size:=Nat.le_antisymm st.1 hg;subst e;exact (W X.A (I.ok.hd hc)).done s _ _ st.2 λh' tk kk=>⟨rfl,I.turned (λb o hb e=>kk b o (by simpa using hb) e) f0 f1 f3 f4 f5⟩
 self:=λA i s Q E st h=>Sf A i s Q E st.2 h
def iStr(te:TE):TI:=λσ H R=>te σ H λx H1=>∃ z,x=.str z/\R (Its z) H1
theorem aBM{X:Cx}{tg l:Expr}{tl:TE}(hl:PE X l tl):PI X tg l (iStr tl):=by
 intro aA s σ H R I h;refine thn (hl aA s σ H _ I h) λv s1 ⟨x,H1,I1,r1,q1⟩=>?_;obtain ⟨z,e,q⟩:=q1;subst e;obtain ⟨t,rfl⟩:=r1;have fin:∀ (ty:String) (o:Obj),o={ cls:=.type ty,data:=.fields #[.str z t,.int ((0:Nat):Int) 0] } -> (∀ b:Addr,b∈[s1.heap.objs.size]->fL X aA H1 b)/\Inv X aA σ H1 { s1 with heap:=s1.heap.push o }/\(s1.heap.push o).IsStrIter s1.heap.objs.size ty z t 0:=λty o eo=>by
  refine ⟨λb hb=>?_,I1.kept (t':=s1.toks) λb o e=>hps e,⟨o,aJX _ (by rw[eo];rfl),by rw[eo],by rw[eo]⟩⟩
  have e:b=s1.heap.objs.size:=by simpa using hb
  subst e;exact I1.fpOk (aKL _) (I1.hok.fresh (aKL _))
 cases ha:z.cps.all (· < 128)
 . refine wpAny_pyIter_wide ha ?_;obtain ⟨f1,f2,f3⟩:=fin "str_iterator" _ rfl;exact ⟨s1.heap.objs.size,[s1.heap.objs.size],_,Its z,H1,rfl,f2,rM _ z t "str_iterator" (by decide) (λA' hA=>Walks.strWide hA _ z t) (λA i s Q E st h=>wpAny_pyIter_striter_wide st h),⟨aKX _,f3⟩,f1,q⟩
 . refine wpAny_pyIter_ascii ha ?_;obtain ⟨f1,f2,f3⟩:=fin "str_ascii_iterator" _ rfl;exact ⟨s1.heap.objs.size,[s1.heap.objs.size],_,Its z,H1,rfl,f2,rM _ z t "str_ascii_iterator" (by decide) (λA' hA=>Walks.strAscii hA _ z t) (λA i s Q E st h=>wpAny_pyIter_striter_ascii st h),⟨aKX _,f3⟩,f1,q⟩
theorem PI.imp{X:Cx}{tg e:Expr}{t t':TI}(h:PI X tg e t)(i:∀ σ H R,t' σ H R->t σ H R):PI X tg e t':=λaA s σ H R I q=>h aA s σ H R I (i σ H R q)
theorem PI.or{X:Cx}{tg e:Expr}{t t':TI}(h:PI X tg e t)(h':PI X tg e t'):PI X tg e (λσ H R=>t σ H R\/t' σ H R):=λaA s σ H R I q=>by
 rcases q with q | q
 . exact h aA s σ H R I q
 . exact h' aA s σ H R I q
structure jG(K:Fg)(F:Hp)(J:It)(ds:List D):Prop where
 go:∀ i H,aE F H->i<ds.length->J.go i H
 stop:∀ i H,aE F H->ds.length<=i->J.stop i H
 yld:∀ i Fc H x H',aE F Fc->aE Fc H->i<ds.length->J.yld i H x H'->∃ F' d,ds[i]? = some d/\aH Fc H F' H'/\aB K F' d x
def WantI(C:Cw)(F H:Hp)(σ:L2.St)(r:Res)(R:It->Hp->Prop):Prop:=match r with
 | .ok _ (.lst ds)=>∀ J F' H',aH F H F' H'->jG C.K F' J ds->R J H'
 | .exc c=>∀ F' H',aH F H F' H'->C.EE c σ H'
 | _=>False
def tIv(C:Cw)(g:Rho->Res):TI:=λσ H R=>∃ ρ F,aR C.K C.F0 C.H0 F H σ ρ/\WantI C F H σ (g ρ) R
def PIv(C:Cw)(X:Cx)(tg e:Expr)(g:Rho->Res):Prop:=PI X tg e (tIv (C.at X) g)
def hZ(z:Str):List D:=z.cps.toList.map λc=>.str ⟨#[c]⟩
def iA(r:Res):Res:=r.thn λ_ d=>match d with
 | .lst ds=>.ok .fz (.lst ds)
 | .tup ds=>.ok .fz (.lst ds)
 | .str z=>.ok .fz (.lst (hZ z))
 | _=>.stuck
section
variable {C:Cw}{X:Cx}{tg e:Expr}{g:Rho->Res}{gs:Rho->aT}{pos p:Pos}
theorem aBN{K:Fg}{F:Hp}{a:Addr}{ds:List D}{xs:List V}(hq:SqT K F a xs)(r:aC K F ds xs):jG K F (Itt K a) ds where
 go:=λi H s hi=>by
  have hl:i<xs.length:=by rw[r.length];exact hi
  exact ⟨xs,xs[i],aE.seqT s hq,by simp[hl]⟩
 stop:=λi H s hi=>⟨xs,aE.seqT s hq,by rw[r.length];exact hi⟩
 yld:=λi Fc H x H' s1 s2 hi y=>by obtain ⟨rfl,y⟩:=y;have hx:=y xs (aE.seqT s2 (aE.seqT s1 hq));obtain ⟨d,e,rd⟩:=r.get hx;exact ⟨Fc,d,e,.refl s2,rd.mono s1 _ _⟩
theorem aBO{K:Fg}{F:Hp}{z:Str}(hk:PyData.strOk z=true):jG K F (Its z) (hZ z) where
 go:=λi H s hi=>by simpa[hZ,Its] using hi
 stop:=λi H s hi=>by simpa[hZ,Its] using hi
 yld:=λi Fc H x H' s1 s2 hi y=>by
  obtain ⟨rfl,c,hc,rfl⟩:=y;refine ⟨Fc,.str ⟨#[c]⟩,by simp[hZ,hc],.refl s2,?_⟩
  simp only[aB,true_and];refine ⟨by show 1<=sizeLine;decide,?_⟩
  unfold PyData.strOk at hk ⊢;rw[aMG] at hk;simpa using hk c (aMK hc)
theorem aBP(h:PV C X e g):PIv C X tg e (λρ=>iA (a5 (g ρ))):=by
 have h:=fN h;refine PI.imp (PI.or (xP h) (PI.or (xQ h) (aBM h))) λσ H R q=>?_;obtain ⟨ρ,F,RS,w⟩:=q;dsimp only at w;cases er:a5 (g ρ) with
 | stuck=>rw[er] at w;exact w.elim
 | exc c=>refine .inl ?_;unfold mP;rw[aV];refine ⟨ρ,F,RS,?_⟩;rw[er] at w ⊢;exact w
 | ok m d =>
  rw[er] at w;have hm:m=.fz:=by
   cases h:g ρ with
   | ok m' d'=>rw[h] at er;cases m' <;> cases er <;> rfl
   | exc c=>rw[h] at er;cases er
   | stuck=>rw[h] at er;cases er
  subst hm;cases d with
  | lst ds =>
   refine .inl ?_; unfold mP; rw [aV]; refine ⟨ρ, F, RS, ?_⟩; rw [er]; intro v F' H' st rp _; have rp : aB X.K F' (.lst ds) v := rp; simp only [aB] at rp; obtain ⟨a, xs, rfl, hq, r⟩ := rp; exact ⟨a, rfl, ⟨xs, st.sub.seq hq⟩, w _ F' H' st ⟨fun i H s hi => by
       have hl:i<xs.length:=by rw[r.length];exact hi
       exact ⟨xs,xs[i],s.seq hq,by simp[hl]⟩,λi H s hi=>⟨xs,s.seq hq,by rw[r.length];exact hi⟩,λi Fc H x H' s1 s2 hi y=>by
       obtain ⟨rfl,y⟩:=y;have hx:=y xs (s2.seq (s1.seq hq));obtain ⟨d,e,rd⟩:=r.get hx;exact ⟨Fc,d,e,.refl s2,rd.mono s1 _ _⟩⟩⟩
  | tup ds=>refine .inr (.inl ?_);unfold iTup;rw[aV];refine ⟨ρ,F,RS,?_⟩;rw[er];intro v F' H' st rp _;have rp:aB X.K F' (.tup ds) v:=rp;simp only[aB] at rp;obtain ⟨a,xs,rfl,hq,r⟩:=rp;exact ⟨a,rfl,⟨xs,aE.seqT st.sub hq⟩,w _ F' H' st (aBN hq r)⟩
  | str z=>refine .inr (.inr ?_);unfold iStr;rw[aV];refine ⟨ρ,F,RS,?_⟩;rw[er];intro v F' H' st rp _;obtain ⟨rfl,hz,hk⟩:=Rp.str rp;exact ⟨z,rfl,w _ F' H' st (aBO hk)⟩
  | _=>exact w.elim
def bT(lo hi:Int):List D:=(List.range (hi-lo).toNat).map λi=>.int (lo+(i:Nat))
def fD(r:aT):Res:=r.thn λxs=>match xs with
 | [(_,.int n)]=>if (decide (-(2 ^ 62)<=n)&&decide (n<2 ^ 62))=true then .ok .fz (.lst (bT 0 n)) else .stuck
 | _=>.stuck
theorem aBQ{K:Fg}{F:Hp}{lo hi:Int}:jG K F (Itr lo (hi-lo).toNat) (bT lo hi) where
 go:=λi H s h=>by simpa[bT,Itr] using h
 stop:=λi H s h=>by simpa[bT,Itr] using h
 yld:=λi Fc H x H' s1 s2 h y=>by
  obtain ⟨rfl,rfl⟩:=y;have h':i<(hi-lo).toNat:=by simpa[bT] using h
  refine ⟨Fc,.int (lo+i),?_,.refl s2,by simp only[aB]⟩
  simp only[bT,aK7,List.getElem?_range h',aMN]
theorem aBR{a:Expr}(hg:Gl X "range")(hm:X.mg "range" = none)(ha:PAv C X [a] gs)(hs:starEach [a] X.env=[(false,eval a X.env)]:=by rfl):PIv C X tg (.Call (.Name "range" p) [a] [] pos) (λρ=>fD (gs ρ)):=by
 refine PI.imp (xS hg hm ha hs) λσ H R q=>?_;obtain ⟨ρ,F,RS,w⟩:=q;dsimp only at w;unfold qD;refine ⟨ρ,F,RS,?_⟩;cases er:gs ρ with
 | stuck=>rw[er] at w;exact w
 | exc c=>rw[er] at w;exact w
 | ok xs =>
  rw[er] at w;intro vs F' H' st rp;unfold fD at w;rw[aT.thn_ok] at w;split at w
  . rename_i m n;split at w
    . rename_i hc;rw[aLR,aMD,aMD] at hc;obtain ⟨v,rfl,r⟩:=rp.one;cases r.int;have:=aBQ (K:=X.K) (F:=F') (lo:=0) (hi:=n);rw[Int.sub_zero] at this;exact ⟨n,rfl,hc.1,hc.2,w _ F' H' st this⟩
    . exact w.elim
  . exact w.elim
def PGv(C:Cw)(X:Cx)(tg:Expr)(k:D->Rho->Option Rho):Prop:=∃ t:TG,PG X tg t/\∀ F H σ ρ ρ' d v Q,aR X.K C.F0 C.H0 F H σ ρ->aB X.K F d v->k d ρ=some ρ' ->
 (∀ σ' F' H',aE F F'->aR X.K C.F0 C.H0 F' H' σ' ρ'->Q σ' H')->t v σ H Q
def bM(k:D->Rho->Option Rho)(body:Rho->aG):List D->Rho->aG
 | [],ρ=>.nx ρ
 | d::ds,ρ=>match k d ρ with
  | none=>.stuck
  | some ρ1=>match body ρ1 with
   | .nx ρ2=>bM k body ds ρ2
   | .ct ρ2=>bM k body ds ρ2
   | .bk ρ2=>.nx ρ2
   | r=>r
def fO(r:Res)(ρ:Rho)(k:D->Rho->Option Rho)(body:Rho->aG):aG:=r.thS ρ λ_ d=>match d with | .lst ds=>bM k body ds ρ | _=>.stuck
theorem aBS{body:List Stmt}{k:D->Rho->Option Rho}{h1:Rho->aG}(hp:PassesOwn (model X.prog X.w) X.A X.env X.xe)(hc:X.calm=true)(hi:PIv C X tg e g)(hg:PGv C X tg k)(hb:PBv C X body h1)(hs:∀ x,foldedSetIterable e X.env x=pure x:=by intro _;rfl):PSv C X (.For tg e body [] pos) (λρ=>fO (g ρ) ρ k h1):=by
 obtain ⟨t,ht,hk⟩:=hg;refine PS.imp (xU hp hc hi ht hb hs) λE σ H q=>?_;obtain ⟨ρ,F,RS,w⟩:=q;dsimp only at w;unfold tFor;refine ⟨ρ,F,RS,?_⟩;cases er:g ρ with
 | stuck=>rw[er] at w;exact w
 | exc c=>rw[er] at w;exact λF' H' s=>w σ F' H' s.fsame (RS.step s)
 | ok m d =>
  rw[er] at w;cases d with
  | lst ds =>
   intro J F1 H1 s1 hJ;have w:bS (C.at X) F1 (bM k h1 ds ρ) E:=bS.mono s1.fsame w;refine ⟨λi m σ' H'=>m=ds.length-i/\i<=ds.length/\∃ ρ' F',aE F1 F'/\aR X.K C.F0 C.H0 F' H' σ' ρ'/\bS (C.at X) F' (bM k h1 (ds.drop i) ρ') E,⟨ds.length,by simp,aKX _,ρ,F1,aE.refl _,RS.step s1,by simpa using w⟩,?_⟩
   rintro i m σ' H' ⟨rfl,hi,ρ',F',sF,R',w'⟩;by_cases hlt:i<ds.length
   . refine .inr ⟨hJ.go i H' (sF.trans R'.sub) hlt,λσ2 H2=>∃ ρ2 F2,aE F1 F2/\aR X.K C.F0 C.H0 F2 H2 σ2 ρ2/\bS (C.at X) F2 (bM k h1 (ds.drop (i+1)) ρ2) E,λσ2 H2 ⟨ρ2,F2,a,b,c⟩=>⟨ds.length-(i+1),by omega,rfl,hlt,ρ2,F2,a,b,c⟩,λx H2 y=>?_⟩
     obtain ⟨F2,d,ed,s2,rd⟩:=hJ.yld i F' H' x H2 sF R'.sub hlt y;have hd:ds.drop i=d::ds.drop (i+1):=by rw[List.drop_eq_getElem_cons hlt];rw[aMO hlt] at ed;cases ed;rfl
     rw[hd] at w';unfold bM at w';cases ek:k d ρ' with
     | none=>rw[ek] at w';exact w'.elim
     | some ρ1 =>
      rw[ek] at w';dsimp only at w';refine hk F2 H2 σ' ρ' ρ1 d x _ (R'.step s2) rd ek λσ3 F3 H3 z3 R3=>?_;have z13:aE F1 F3:=(sF.trans s2.fsame).trans z3;have w3:=bS.mono (s2.fsame.trans z3) w';refine ⟨ρ1,F3,R3,?_⟩;cases eb:h1 ρ1 with
      | nx ρ2=>rw[eb] at w3;exact λσ4 F4 H4 z4 R4=>⟨ρ2,F4,z13.trans z4,R4,bS.mono z4 w3⟩
      | ct ρ2=>rw[eb] at w3;exact λσ4 F4 H4 z4 R4=>⟨ρ2,F4,z13.trans z4,R4,bS.mono z4 w3⟩
      | bk ρ2=>rw[eb] at w3;exact λσ4 F4 H4 z4 R4=>w3 σ4 F4 H4 z4 R4
      | rt m d=>rw[eb] at w3;exact w3
      | exc c ρ2=>rw[eb] at w3;exact w3
      | stuck=>rw[eb] at w3;exact w3
   . have ei:i=ds.length:=by omega
     subst ei;refine .inl ⟨hJ.stop _ H' (sF.trans R'.sub) (aKL _),?_⟩;rw[aMP] at w';exact w' σ' F' H' (aE.refl _) R'
  | _=>exact w.elim
end
end D3
namespace L2
open PySem PySem.Spec PyProof.Rows
theorem nA {env : Env} : ∀ (names : List (Str × NameKind)) (acc : List (Str × Addr)), (∀ y ∈ names, y.2 = .free → ∃ c, env.cells.lookup y.1 = some c) → (∀ y c, acc.lookup y = some c → env.cells.lookup y = some c) →
    ∃ cl,(forIn names acc λ(x:Str×NameKind) (cs:List (Str×Addr))=>(if x.2 == .free then (do let c <- cellOf env x.1;pure (ForInStep.yield ((x.1,c)::cs))) else pure (ForInStep.yield cs):Sem (ForInStep (List (Str×Addr)))))=pure cl /\
     (∀ y c,cl.lookup y=some c->env.cells.lookup y=some c)/\(∀ y c,acc.lookup y=some c->cl.lookup y=some c)/\∀ y,(y,NameKind.free)∈names->∃ c,cl.lookup y=some c
 | [],acc,_,ha=>⟨acc,by rw[aMQ],ha,λ_ _ h=>h,λ_ h=>by cases h⟩
 | (n,k)::r,acc,h,ha=>by
  rw[aMR];by_cases hk:k=.free
  . subst hk;obtain ⟨c,ec⟩:=h (n,.free) mcs rfl;have hc:cellOf env n=pure c:=by unfold cellOf;rw[ec]
    have e:((if (NameKind.free==NameKind.free)=true then (do let c <- cellOf env n;pure (ForInStep.yield ((n,c)::acc))) else pure (ForInStep.yield acc)):Sem (ForInStep (List (Str×Addr))))=pure (ForInStep.yield ((n,c)::acc)):=by rw[if_pos (by decide),hc,aMS]
    obtain ⟨cl,e1,e2,e3,e4⟩:=nA (env:=env) r ((n,c)::acc) (λy hy=>h y (mcm hy)) (λy c' q=>by
     rw[aMB] at q;cases hyn:y==n with
     | true=>rw[hyn] at q;cases q;rw[aKU.mp hyn];exact ec
     | false=>rw[hyn] at q;exact ha y c' q)
    refine ⟨cl,?_,e2,λy c' q=>?_,λy hy=>?_⟩
    . dsimp only;rw[e,aMS];exact e1
    . cases hyn:y==n with
      | true=>have:=aKU.mp hyn;subst this;have q':=ha y c' q;rw[ec] at q';cases q';exact e3 y c (by rw[aMB,hyn])
      | false=>exact e3 y c' (by rw[aMB,hyn];exact q)
    . rcases aJ7.mp hy with z | z
      . cases z;exact ⟨c,e3 n c (by rw[aMB,aMT])⟩
      . exact e4 y z
  . have e:((if (k==NameKind.free)=true then (do let c <- cellOf env n;pure (ForInStep.yield ((n,c)::acc))) else pure (ForInStep.yield acc)):Sem (ForInStep (List (Str×Addr))))=pure (ForInStep.yield acc):=by rw[if_neg (by simpa using hk)]
    obtain ⟨cl,e1,e2,e3,e4⟩:=nA (env:=env) r acc (λy hy=>h y (mcm hy)) ha;refine ⟨cl,?_,e2,e3,λy hy=>?_⟩
    . dsimp only;rw[e,aMS];exact e1
    . rcases aJ7.mp hy with z | z
      . cases z;exact absurd rfl hk
      . exact e4 y z
theorem aBT{scope:Scope}{env:Env}(h:∀ y∈scope.names,y.2=.free->∃ c,env.cells.lookup y.1=some c):∃ cl,closureFor scope env=pure cl/\(∀ y c,cl.lookup y=some c->env.cells.lookup y=some c)/\∀ y,(y,NameKind.free)∈scope.names->∃ c,cl.lookup y=some c:=by
 obtain ⟨cl,e1,e2,_,e4⟩:=nA (env:=env) scope.names [] h (λy c q=>by simp at q)
 refine ⟨cl,?_,e2,e4⟩;unfold closureFor;rw[bind_pure];exact e1
theorem aBU{scope:Scope}{env:Env}(cJ:∀ y∈scope.names,y.2 ≠ .cell){x:Str}(h:(relabel scope env).names.lookup x=some .cell\/(relabel scope env).names.lookup x=some .free):(x,NameKind.free)∈scope.names:=by
 unfold relabel at h;dsimp only at h;have go:∀ (l:List (Str×NameKind)),(∀ y∈l,y.2 ≠ .cell)->((l.map λ(n,k)=>if (k==NameKind.free&&env.scope.kind == .function&&env.kindOf n==some .cell) then (n,NameKind.cell) else (n,k)).lookup x=some .cell\/(l.map λ(n,k)=>if (k==NameKind.free&&env.scope.kind == .function&&env.kindOf n==some .cell) then (n,NameKind.cell) else (n,k)).lookup x=some .free)->(x,NameKind.free)∈l:=by
  intro l
  induction l with
  | nil=>intro _ h;simp at h
  | cons y l ih =>
   intro hc h;obtain ⟨n,k⟩:=y;rw[aLY] at h;by_cases hx:x=n
   . subst hx;have hk:k=.free:=by
       by_cases hk:k=.free
       . exact hk
       . have e:(k==NameKind.free&&env.scope.kind == .function&&env.kindOf x==some .cell)=false:=by
           have:(k==NameKind.free)=false:=by simpa using hk
           rw[this];rfl
         simp only[e,aMA,aLI,aMB,aMT] at h;rcases h with h | h
         . cases h;exact absurd rfl (hc _ mcs)
         . cases h;exact absurd rfl hk
     subst hk;exact mcs
   . have hb:(x==n)=false:=by simpa using hx
     have hh:∀ (kk:NameKind) (l':List (Str×NameKind)),((n,kk)::l').lookup x=l'.lookup x:=λkk l'=>by rw[aMB,hb]
     by_cases hcond:(k==NameKind.free&&env.scope.kind == .function&&env.kindOf n==some .cell)=true
     . dsimp only at h;rw[if_pos hcond,hh] at h;exact mcm (ih (λy hy=>hc y (mcm hy)) h)
     dsimp only at h;rw[if_neg hcond,hh] at h;exact mcm (ih (λy hy=>hc y (mcm hy)) h)
 exact go scope.names cJ h
def bB(X:Cx)(scope:Scope)(N:List Str)(cl:List (Str×Addr))(C:Addr)(fp:List Addr)(s3:Shared)(H3:Hp):Cx where
 prog:=X.prog
 w:=X.w
 K:=X.K
 mg:=X.mg
 base:=X.base
 A:=X.A
 N:=N
 s₀:=s3
 H₀:=H3
 env:=compEnvC scope cl C X.env
 outer:=X.stack
 stack:=X.stack
 ex:=fp
 fn:=λ_=>false
 calm:=X.calm
 pn:=[]
 xe:=λ_ _=>False
def cS(X:Cx)(cs:List Expr)(t:TT):Prop :=
 ∀ (aA:LAO) (s:Shared) (σ:St) (H:Hp) (Q:Bool->Hp->Prop),Inv X aA σ H s->t σ H Q ->
  wpAny (model X.prog X.w) X.A (forIn cs true λc r=>if r=true then do let ok <- isTrue c X.env (eval c X.env);pure (ForInStep.yield ok) else pure (ForInStep.yield r)) (TP X aA σ Q) X.xe s
theorem aBV{X:Cx}:cS X [] (λ_ H Q=>Q true H):=λaA s σ H Q I h=>by rw[aMQ];exact aKH ⟨H,I,h⟩
theorem rN{X:Cx}:∀ cs:List Expr,(forIn cs false λc r=>if r=true then do let ok <- isTrue c X.env (eval c X.env);pure (ForInStep.yield ok) else pure (ForInStep.yield r):Sem Bool)=pure false
 | []=>by rw[aMQ]
 | c::cs=>by rw[aMR,if_neg aKT,aMS];exact rN cs
theorem aBW{X:Cx}{c:Expr}{cs:List Expr}{t u:TT}(hc:PT X c t)(hr:cS X cs u):cS X (c::cs) (mO t u):=λaA s σ H Q I h=>by
 rw[aMR,if_pos rfl];refine aKI (aKI (thn (hc aA s σ H _ I h) λb s1 ⟨H1,I1,q1⟩=>aKH ?_));cases b with
 | true=>rw[if_pos rfl] at q1;exact hr aA s1 σ H1 Q I1 q1
 | false=>rw[if_neg aKT] at q1;dsimp only;rw[rN];exact aKH ⟨H1,I1,q1⟩
section
variable {prog:Program}{w:World}{A:Around}{R:Result->Shared->Prop}{s:Shared}
theorem aBX {elt target aO : Expr} {ifs : List Expr} {scope : Scope} {pos : Pos} {it acc : Value} {env : Env} (I : Nat → Shared → Prop) (turn : ∀ n s, I n s → wpAny (model prog w) A (pyNext it) (fun r s1 => match r with
      | none=>R (.ok .next) s1
      | some v => wpAny (model prog w) A (letOwnedTupleGo target it v) (fun _ s1' => wpAny (model prog w) A (assign target env v) (fun _ s2 =>
          wpAny (model prog w) A (forIn ifs true λc r=>if r=true then do let ok <- isTrue c env (eval c env);pure (ForInStep.yield ok) else pure (ForInStep.yield r)) (λok s3 =>
           if ok=true then wpAny (model prog w) A (eval elt env) (λx s4 =>
            wpAny (model prog w) A (call (.builtin "list.append") [acc,x]) (λ_ s5=>∃ m,m<n/\I m s5) (λ_ _=>False) s4) (λ_ _=>False) s3
           else ∃ m, m < n ∧ I m s3) (fun _ _ => False) s2) (fun _ _ => False) s1') (fun _ _ => False) s1) (fun _ _ => False) s)
    (n:Nat) (h:I n s) :
    codeAny (model prog w) A (.compLoop (.ListComp elt [⟨target,aO,ifs,0⟩] scope pos) 0 it acc env) R s:=by
 refine codeAny_loop rfl I (λn s hI=>?_) n h;show wpAny _ A ((compTurn (.ListComp elt [⟨target,aO,ifs,0⟩] scope pos) 0 it acc env).onRaise (λx=>do noteFrame x env;theTreesLotGoes x)) _ _ s
 refine wpAny_noted ?_;rw[compTurn_list];refine aKI (wpAny_standAt (aKI (aKE (turn n s hI) (λr s1 h1=>?_) λ_ _ h'=>h'.elim)));cases r with
 | none=>exact aKH h1
 | some v =>
  refine aKI (aKE h1 (λ_ s1' h1'=>?_) λ_ _ h'=>h'.elim);refine aKI (aKE h1' (λ_ s2 h2=>aKI (aKE h2 (λok s3 h3=>?_) λ_ _ h'=>h'.elim)) λ_ _ h'=>h'.elim);cases ok with
  | false=>exact aKH ⟨rfl,h3⟩
  | true=>exact aKI (aKI (aKE h3 (λx s4 h4=>aKI (aKE h4 (λ_ s5 h5=>aKH (aKH ⟨rfl,h5⟩)) λ_ _ h'=>h'.elim)) λ_ _ h'=>h'.elim))
end
def dA(aD:List Nat)(σ:St):St:=aD.map λi=>(σ[i]?).getD none
def Weak(σ σ':St):Prop:=σ.length=σ'.length/\∀ (j:Nat) v,σ[j]? = some (some v)->σ'[j]? = some (some v)
def jH(aD:List Nat)(k:Nat)(wi:TI)(gt:TG)(tt:TT)(te:TE):TE:=λσ H Q=>wi σ H λJ H1=>∀ D,H1 D=none ->
 ∃ W:Nat->Nat->List V->Hp->Prop,(∃ m,W 0 m [] (upd H1 D (.lst [])))/\∀ i m ys H,W i m ys H->H D=some (.lst ys) /\
  ((J.stop i H/\Q (.ref D) H)\/(J.go i H/\ys.length<sizeLine/\∀ x H',J.yld i H x H'->gt x (dA aD σ++List.replicate k none) H' λσ2 H2=>Weak (dA aD σ++List.replicate k none) σ2/\tt σ2 H2 λb H3 =>
   if b=true then te σ2 H3 λy H4=>H4 D=some (.lst ys)/\∃ m',m'<m/\W (i+1) m' (ys++[y]) (upd H4 D (.lst (ys++[y]))) else ∃ m',m'<m/\W (i+1) m' ys H3))
theorem rO{X:Cx}{elt aO tg:Expr}{ifs:List Expr}{scope:Scope}{pos:Pos}{aD:List Nat}{aF tgN:List Str}{wi:TI}{gt:TG}{tt:TT}{te:TE}{use:Option (Value->Sem Unit)}{QQ:VSP}{aA:LAO}{s:Shared}{σ:St}{H:Hp}{Q:VK}(hc:X.calm=true)(hi:PI X tg aO wi)(cJ:∀ y∈scope.names,y.2 ≠ .cell)(cU:scope.kind=.function)(eQ:∀ y∈scope.names,y.2=.local->scope.names.lookup y.1=some .local)(cV:∀ y∈scope.names,y.2=.free->X.env.kindOf y.1=some .cell\/X.env.kindOf y.1=some .free)(dO:aF.map some=aD.map λi=>X.N[i]?)(eT:∀ y∈aF,(y,NameKind.free)∈scope.names)(eR:∀ y∈aF,(relabel scope X.env).names.lookup y=some .cell\/(relabel scope X.env).names.lookup y=some .free)(hg:∀ cl C fp s3 H3,PG (bB X scope (aF++tgN) cl C fp s3 H3) tg gt)(hf:∀ cl C fp s3 H3,cS (bB X scope (aF++tgN) cl C fp s3 H3) ifs tt)(he:∀ cl C fp s3 H3,PE (bB X scope (aF++tgN) cl C fp s3 H3) elt te)(hs:∀ x,foldedSetIterable aO X.env x=pure x)(I:Inv X aA σ H s)(h:jH aD tgN.length wi gt tt te σ H Q)(hend:∀ (D Z:Addr) (s6:Shared) (H5:Hp),(∃ m,s6.heap.Ns Z m)->(∀ h'',Heap.SameBut Z s6.heap h''->Inv X aA σ H5 { s6 with heap:=h'' })->H5 Z=none->X.s₀.heap.objs.size<=Z->Z≠X.env.locals->(∀ x c,X.env.cells.lookup x=some c->c≠Z)->(∀ p∈X.pn++aA,p.1≠Z)->Q (.ref D) H5->compPost (model X.prog X.w) X.A X.xe use QQ (.ref D) Z (.ok .next) s6):wpAny (model X.prog X.w) X.A (comprehension (.ListComp elt [⟨tg,aO,ifs,0⟩] scope pos) scope X.env (firstIterPos [⟨tg,aO,ifs,0⟩] pos) (newList []) (firstAsync [⟨tg,aO,ifs,0⟩]) (firstIter [⟨tg,aO,ifs,0⟩] X.env) use) QQ X.xe s:=by
 obtain ⟨cl,hclos,clsub,clhas⟩:=aBT (scope:=scope) (env:=X.env) λy hy hk=>I.ok.has y.1 (cV y hy hk);refine wpAny_comprehension_free (use:=use) rfl hs hclos cU eQ (thn (hi aA s σ H _ I h) λv s1 h1=>thn h1 λitv s2 h2=>?_);obtain ⟨it,fp,tn,J,H2,e,I2,T,st2,f2,q⟩:=h2;subst e;refine aLS ?_;have hn:H2 s2.heap.objs.size=none:=I2.hok.fresh (aKL _);obtain ⟨W,⟨m0,w0⟩,turn⟩:=q s2.heap.objs.size hn;have I3:Inv X aA σ (upd H2 s2.heap.objs.size (.lst [])) { s2 with heap:=s2.heap.push { cls:=.type "list", dict:=none,data:=.seq ([]:List Value).toArray } } :=
  I2.laid (t':=s2.toks) (λb u e=>hps e) (aKL _) ⟨aKX _,[],0,.nil,aJX _ rfl⟩
 generalize hs3:({ s2 with heap:=s2.heap.push { cls:=.type "list", dict:=none,data:=.seq ([]:List Value).toArray } }:Shared)=s3 at I3 ⊢
 generalize hH3:upd H2 s2.heap.objs.size (.lst [])=H3 at I3 w0;have fpl:∀ b∈fp,b<s2.heap.objs.size:=λb hb=>by obtain ⟨o,eo,_⟩:=T.obj 0 _ st2 b hb;exact aJY eo
 have sz3:s3.heap.objs.size=s2.heap.objs.size+1:=by rw[<- hs3];exact aKV _ _
 have keep23:∀ b o,s2.heap.get? b=some o->s3.heap.get? b=some o:=λb o e=>by rw[<- hs3];exact hps e
 have hDf:s2.heap.objs.size∉fp:=λhb=>aJ0 _ (fpl _ hb);refine wpAny_newFunctionEnv cJ (by intro y hy;simp at hy) (λh4 hns hsb=>?_) cU
 try dsimp only at hns hsb ⊢
 have keep34:∀ b o,s3.heap.get? b=some o->h4.get? b=some o:=λb o e=>hsb.extBut b o (aJ1 (aJY e)) (hps e);have nostk:∀ b∈fp,b∉frs X.stack:=λb hb z=>by
  obtain ⟨_,f1,f2',_⟩:=f2 b hb;rcases aJ7.mp (I2.stkSub b z) with q | q
  . exact f1 q
  . exact f2' q
 have okc:(bB X scope (aF++tgN) cl s3.heap.objs.size fp s3 H3).Ok :=
  { mod:=I3.ok.mod
    kind:=cU
    glob:=I3.ok.glob
    blt:=I3.ok.blt
    above:=aKL _
    inj:=λx y c h1 h2=>I3.ok.inj x y c (clsub x c h1) (clsub y c h2)
    has:=λx hx=>clhas x (aBU cJ hx)
    cab:=λx c z=>by cases z
    hd:=I3.ok.hd
    frames:=I3.ok.frames
    stk:=.inl rfl
    exf:=λb hb=>⟨aJ1 (by show b<s3.heap.objs.size;rw[sz3];exact aMU (fpl b hb)),λx c e=>(f2 b hb).2.2.2.2.1 x c (clsub x c e)⟩
    bs:=I3.bs
    bsz:=aJ4 I3.ok.bsz I3.sz
    noex:=λb o e hb=>by
     obtain ⟨_,_,_,f3,_⟩:=f2 b hb;rcases f3 with z | z
     . exact I2.ok.noex b o e z
     . exact absurd (aJY (I2.ok.bs b o e).1) (aMV.mpr z)
    exfs:=nostk
    funs:=I3.stack
    frf:=I3.stkFree }
 have capLen:aF.length=aD.length:=by have:=congrArg List.length dO;simpa using this
 generalize hσ0:dA aD σ++List.replicate tgN.length none=σ0 at turn;have Ic:Inv (bB X scope (aF++tgN) cl s3.heap.objs.size fp s3 H3) [] σ0 H3 { s3 with heap:=h4,toks:=s3.toks+([]:List (Str×Value)).length }:=by
  refine ⟨okc,rfl,I3.bare,Un.kept keep34,⟨_,hns,λi y v h1 h2 h3=>?_⟩,λx c e=>?_,I3.hok.fresh (aKL _),λx c e=>I3.freeC x c (clsub x c e),λp hp=>absurd (show p∈([]:LAO) from hp) (by simp),I3.hok.kept keep34,?_⟩
  . by_cases hi:i<aD.length
    . have ey:aF[i]? = some y:=by have h1:(aF++tgN)[i]? = some y:=h1;rw[aK6 (by rw[capLen];exact hi)] at h1;exact h1
      have hj:X.N[aD[i]]? = some y:=by
       have e1:(aF.map some)[i]? = (aD.map λi=>X.N[i]?)[i]?:=by rw[dO]
       rw[aK7,aK7,ey,aMO hi] at e1;simpa using e1.symm
      have ev:σ[aD[i]]? = some (some v):=by
       rw[<- hσ0,aK6 (by simpa[dA] using hi)] at h2
       unfold dA at h2;rw[aK7,aMO hi] at h2;simp only[aMN,Option.some.injEq] at h2;cases z:σ[aD[i]]? with
       | none=>rw[z] at h2;cases h2
       | some o=>rw[z] at h2;exact congrArg some h2
      have hyf:=eT y (aK8 ey);have hkX:=cV _ hyf rfl;obtain ⟨m,_,hl⟩:=I3.loc;obtain ⟨u,ru,lk⟩:=hl aD[i] y v hj ev (by rcases hkX with z | z;exact .inr (.inl z);exact .inr (.inr z))
      refine ⟨u,ru,.inr ⟨eR y (aK8 ey),?_⟩⟩;rcases lk with ⟨hk,_⟩ | ⟨_,c,ec,ic⟩
      . rcases hkX with z | z
        . rw[show X.env.kindOf y=some .cell from z] at hk;cases hk
        . rw[show X.env.kindOf y=some .free from z] at hk;cases hk
      . obtain ⟨c',ec'⟩:=clhas y hyf;have:=clsub y c' ec';rw[ec] at this;cases this;exact ⟨c,ec',ic.keeps keep34⟩
    . rw[<- hσ0,aK4 (by simpa[dA] using hi),aK5] at h2
      split at h2 <;> cases h2
  . obtain ⟨v,q⟩:=I3.cell x c (clsub x c e);exact ⟨v,q.keeps keep34⟩
  . rw[<- hσ0];show (dA aD σ++List.replicate tgN.length none).length=(aF++tgN).length;simp[dA,capLen]
 have fpc:∀ {H':Hp},(∀ b∈fp,H' b=none)->∀ b∈fp,fL (bB X scope (aF++tgN) cl s3.heap.objs.size fp s3 H3) [] H' b:=λhn b hb =>
  ⟨hn b hb,(okc.exf b hb).1,nostk b hb,.inl hb,(okc.exf b hb).2,λp hp=>absurd (show p∈([]:LAO) from hp) (by simp)⟩
 have iW:codeAny (model X.prog X.w) X.A (.compLoop (.ListComp elt [⟨tg,aO,ifs,0⟩] scope pos) 0 (.ref it) (.ref s2.heap.objs.size) (compEnvC scope cl s3.heap.objs.size X.env)) (compPost (model X.prog X.w) X.A X.xe use QQ (.ref s2.heap.objs.size) s3.heap.objs.size) { s3 with heap:=h4,toks:=s3.toks+([]:List (Str×Value)).length }:=by
  refine aBX (λn s'=>∃ i ys H',Inv (bB X scope (aF++tgN) cl s3.heap.objs.size fp s3 H3) [] σ0 H' s'/\tn i s'.heap/\(∀ b∈fp,H' b=none)/\W i n ys H') ?_ m0
   ⟨0,[],H3,Ic,T.keep _ _ _ st2 (λb hb o e=>keep34 b o (keep23 b o e)),λb hb=>by rw[<- hH3,aP (by intro z;rw[z] at hb;exact hDf hb)];exact (f2 b hb).1,w0⟩
  rintro n s5 ⟨i,ys,H5,I5,st5,fr5,w5⟩;obtain ⟨hD,hw⟩:=turn i n ys H5 w5;rcases hw with ⟨stop,qq⟩ | ⟨go,hlen,step⟩
  . refine thn (T.done (bB X scope (aF++tgN) cl s3.heap.objs.size fp s3 H3) rfl rfl rfl hc i [] s5 σ0 H5 _ I5 (fpc fr5) st5 stop) λr s6 ⟨hr,I6⟩=>?_;subst hr;obtain ⟨m,hm,_⟩:=id I6.loc;refine hend s2.heap.objs.size s3.heap.objs.size s6 H5 ⟨m,hm⟩ (λh'' hsb2=>?_) I6.free I3.sz (λz=>?_) (λx c ec z=>?_) (λp hp z=>?_) qq;rotate_left
    . obtain ⟨m,⟨o,es,ep,ho,_⟩,_⟩:=id I3.loc;rw[<- z] at ho;exact aJ0 _ (aJY ho)
    . obtain ⟨v,o,ho,_⟩:=I3.cell x c ec;rw[z] at ho;exact aJ0 _ (aJY ho)
    . have:=(I3.pin p hp).1;rw[z] at this;exact aJ0 _ (aJY this)
    have u:=I6.base;have neC:∀ b o,s3.heap.get? b=some o->b≠s3.heap.objs.size:=λb o e=>aJ1 (aJY e);have un:Un (frs X.stack) fp H3 H5 s3.heap h'':=by
     refine ⟨λb o e n hb hx=>hsb2.extBut b o (neC b o e) (u.keep b o e n hb hx),λb o e n hb hx=>?_,u.free,λb o e hx=>?_,u.tups,u.frzs,u.tbls⟩
     . obtain ⟨sl,q⟩:=u.slot b o e n hb hx;exact ⟨sl,hsb2.extBut b _ (neC b o e) q⟩
     . obtain ⟨o',q⟩:=u.there b o e hx;exact ⟨o',hsb2.extBut b _ (neC b o e) q⟩
    have hok : HOk X.prog X.w H5 h'' := fun a o e => (I6.hok a o e).stay (fun b v hb q => hsb2.extBut b v (by
        intro z;have fr:=I6.free;rcases hb with hb | hb
        . rw[hb] at z;rw[z] at e;rw[show H5 s3.heap.objs.size=none from fr] at e;cases e
        . rw[z,show H5 s3.heap.objs.size=none from fr] at hb;cases hb) q) (λ_ q=>q) λ_ _ q=>q
    have os6:=I6.os;obtain ⟨hh,g6,d6,t6,o6⟩:=s6;obtain rfl:o6=s3.os:=os6;have I8:=I3.call (h':=h'') (g':=g6) (d':=d6) (t':=t6) (ch:=fp) un hok I6.bare λb hb=>by obtain ⟨_,f1,_,f3,f4,f5⟩:=f2 b hb;exact ⟨f3,f1,f4,f5⟩
    exact I8
  . refine thn (T.item (bB X scope (aF++tgN) cl s3.heap.objs.size fp s3 H3) rfl rfl rfl hc i [] s5 σ0 H5 _ I5 (fpc fr5) st5 go) λr s6 ⟨u,hr,h6⟩=>?_;subst hr;refine thn h6 λ_ s7 ⟨x,H7,I7,r7,y7,st7,fr7⟩=>?_;have I7':=I7.pinned (fpc fr7) (T.obj _ _ st7);refine thn (hg cl s3.heap.objs.size fp s3 H3 _ s7 σ0 H7 x u _ I7' r7 (step x H7 y7)) λ_ s8 ⟨σ8,H8,I8,wk,q8⟩=>?_;have f7:∀ {H':Hp} {s':Shared} {m':Nat} {ys':List V},Inv (bB X scope (aF++tgN) cl s3.heap.objs.size fp s3 H3) ([]++i8 fp s7.heap) σ8 H' s'->m'<n->W (i+1) m' ys' H' ->
        ∃ m,m<n/\∃ i ys H',Inv (bB X scope (aF++tgN) cl s3.heap.objs.size fp s3 H3) [] σ0 H' s'/\tn i s'.heap/\(∀ b∈fp,H' b=none)/\W i m ys H':=λ{H' s' m' ys'} I' hm w'=>by
      have pinned:∀ b∈fp,∀ o,s7.heap.get? b=some o->s'.heap.get? b=some o/\H' b=none:=λb hb o e=>by have:=I'.pin (b,o) (aKO _ (aKO _ (mQ hb e)));exact ⟨this.1,this.2.1⟩
      refine ⟨m',hm,i+1,ys',H',I'.unpinned.weak wk.1 wk.2,T.keep _ _ _ st7 λb hb o e=>(pinned b hb o e).1,λb hb=>?_,w'⟩;obtain ⟨o,e,_⟩:=T.obj _ _ st7 b hb;exact (pinned b hb o e).2
    refine thn (hf cl s3.heap.objs.size fp s3 H3 _ s8 σ8 H8 _ I8 q8) λb s9 ⟨H9,I9,q9⟩=>?_;cases b with
    | false=>rw[if_neg aKT] at q9 ⊢;obtain ⟨m',hm,w9⟩:=q9;exact f7 I9 hm w9
    | true =>
     rw[if_pos rfl] at q9 ⊢;refine thn (he cl s3.heap.objs.size fp s3 H3 _ s9 σ8 H9 _ I9 q9) λy s10 ⟨yv,H10,I10,r10,hD10,m',hm,w10⟩=>?_;refine thn (qX (X:=bB X scope (aF++tgN) cl s3.heap.objs.size fp s3 H3) _ s10 σ8 H10 (.ref s2.heap.objs.size) [yv] (.ref s2.heap.objs.size) [y] (λv H'=>v=.non/\H'=upd H10 s2.heap.objs.size (.lst (ys++[yv]))) I10 rfl (.cons r10 .nil)
      ⟨s2.heap.objs.size,ys,yv,rfl,rfl,hD10,hlen,rfl,rfl⟩) λ_ s11 ⟨v,H11,I11,_,_,e11⟩=>?_
     subst e11;exact f7 I11 hm w10
 exact codeAny_compStart_list iW (T.self _ 0 _ _ _ (T.keep _ _ _ st2 (λb hb o e=>keep34 b o (keep23 b o e))) iW)
theorem aBY{X:Cx}{elt aO tg:Expr}{ifs:List Expr}{scope:Scope}{pos:Pos}{aD:List Nat}{aF tgN:List Str}{wi:TI}{gt:TG}{tt:TT}{te:TE}(hc:X.calm=true)(hi:PI X tg aO wi)(cJ:∀ y∈scope.names,y.2 ≠ .cell)(cU:scope.kind=.function)(eQ:∀ y∈scope.names,y.2=.local->scope.names.lookup y.1=some .local)(cV:∀ y∈scope.names,y.2=.free->X.env.kindOf y.1=some .cell\/X.env.kindOf y.1=some .free)(dO:aF.map some=aD.map λi=>X.N[i]?)(eT:∀ y∈aF,(y,NameKind.free)∈scope.names)(eR:∀ y∈aF,(relabel scope X.env).names.lookup y=some .cell\/(relabel scope X.env).names.lookup y=some .free)(hg:∀ cl C fp s3 H3,PG (bB X scope (aF++tgN) cl C fp s3 H3) tg gt)(hf:∀ cl C fp s3 H3,cS (bB X scope (aF++tgN) cl C fp s3 H3) ifs tt)(he:∀ cl C fp s3 H3,PE (bB X scope (aF++tgN) cl C fp s3 H3) elt te)(hs:∀ x,foldedSetIterable aO X.env x=pure x:=by intro _;rfl):PE X (.ListComp elt [⟨tg,aO,ifs,0⟩] scope pos) (jH aD tgN.length wi gt tt te):=by intro aA s σ H Q I h;rw[eval_ListComp];exact rO (use:=none) hc hi cJ cU eQ cV dO eT eR hg hf he hs I h λD Z s6 H5 hm hI _ _ _ _ _ q=>by obtain ⟨m,hm⟩:=hm;exact ⟨m,hm,λh'' hs=>⟨.ref D,H5,hI h'' hs,rfl,q⟩⟩
theorem Inv.dropped{X:Cx}{aA:LAO}{σ:St}{H:Hp}{s:Shared}{h'':Heap}{Z:Addr}(I:Inv X aA σ H s)(hs:Heap.SameBut Z s.heap h'')(hz:H Z=none)(h0:X.s₀.heap.objs.size<=Z)(h1:Z≠X.env.locals)(h2:∀ x c,X.env.cells.lookup x=some c->c≠Z)(h3:∀ p∈X.pn++aA,p.1≠Z):Inv X aA σ H { s with heap:=h'' }:=by
 have un:Un (frs X.stack) [Z] H H s.heap h'':=by
  have k:∀ b o,s.heap.get? b=some o->b∉[Z]->h''.get? b=some o:=λb o e hb=>hs.extBut b o (λz=>hb (by rw[z];exact mcs)) e
  exact ⟨λb o e _ _ hx=>k b o e hx,λb o e _ _ hx=>⟨o.slots,k b o e hx⟩,λ_ _ _ n _=>n,λb o e hx=>⟨o,k b o e hx⟩,λ_ _ q=>q,λ_ _ _ q=>q,λ_ ps q=>⟨#[],by simpa using q⟩⟩
 have hok:HOk X.prog X.w H h'':=λa o e=>(I.hok a o e).stay (λb v hb q=>hs.extBut b v (by
  rintro rfl;rcases hb with hb | hb
  . rw[hb,e] at hz;cases hz
  . rw[hz] at hb;cases hb) q) (λ_ q=>q) λ_ _ q=>q
 obtain ⟨hh,g,d,t,o⟩:=s;exact I.call (g':=g) (d':=d) (t':=t) (ch:=[Z]) un hok I.bare λb hb=>by
  obtain rfl:b=Z:=by simpa using hb
  exact ⟨.inr h0,h1,h2,h3⟩
theorem aBZ{i:Nat}{x:Str}{pos' spos:Pos}{X:Cx}{elt aO tg:Expr}{ifs:List Expr}{scope:Scope}{pos:Pos}{aD:List Nat}{aF tgN:List Str}{wi:TI}{gt:TG}{tt:TT}{te:TE}(hc:X.calm=true)(hi:PI X tg aO wi)(cJ:∀ y∈scope.names,y.2 ≠ .cell)(cU:scope.kind=.function)(eQ:∀ y∈scope.names,y.2=.local->scope.names.lookup y.1=some .local)(cV:∀ y∈scope.names,y.2=.free->X.env.kindOf y.1=some .cell\/X.env.kindOf y.1=some .free)(dO:aF.map some=aD.map λi=>X.N[i]?)(eT:∀ y∈aF,(y,NameKind.free)∈scope.names)(eR:∀ y∈aF,(relabel scope X.env).names.lookup y=some .cell\/(relabel scope X.env).names.lookup y=some .free)(hg:∀ cl C fp s3 H3,PG (bB X scope (aF++tgN) cl C fp s3 H3) tg gt)(hf:∀ cl C fp s3 H3,cS (bB X scope (aF++tgN) cl C fp s3 H3) ifs tt)(he:∀ cl C fp s3 H3,PE (bB X scope (aF++tgN) cl C fp s3 H3) elt te)(hN:X.N.Nodup)(hx:X.N[i]? = some x)(hk:X.env.scope.names.lookup x=some .local)(hsw:swapsWith (.ListComp elt [⟨tg,aO,ifs,0⟩] scope pos) (some (.Name x pos')) spos.line X.env=pure true)(hs:∀ x,foldedSetIterable aO X.env x=pure x:=by intro _;rfl):PS X (.Assign [.Name x pos'] (.ListComp elt [⟨tg,aO,ifs,0⟩] scope pos) spos) (kH (jH aD tgN.length wi gt tt te) (i6 i)):=by
 intro aA s σ H En I h;rw[exec_Assign_Name_used _ _ _ _ hsw];refine aKI (wpAny_standAt (aKI ?_));show wpAny _ X.A (comprehension (.ListComp elt [⟨tg,aO,ifs,0⟩] scope pos) scope X.env (firstIterPos [⟨tg,aO,ifs,0⟩] pos) (newList []) (firstAsync [⟨tg,aO,ifs,0⟩]) (firstIter [⟨tg,aO,ifs,0⟩] X.env) (some (assign (.Name x pos') X.env)) >>= _) _ _ s;refine aKI (rO (use:=some (assign (.Name x pos') X.env)) hc hi cJ cU eQ cV dO eT eR hg hf he hs I h λD Z s6 H5 hm hI hz h0 h1 h2 h3 q=>?_);obtain ⟨m,hm⟩:=hm;have I6:=hI s6.heap (Heap.SameBut.refl _ _);refine wpAny_assign_Name (pV I6 hN hx (.inl hk) (show aI (.ref D) (.ref D) from rfl) (λs' I' hch=>?_) (.inr hk))
 obtain ⟨a,sb,ha⟩:=hch;have na:Z≠a:=by
  rcases ha with rfl | ha
  . exact h1
  . exact λz=>h2 x a ha z.symm
 exact ⟨m,hm.sameBut sb na,λh'' hs2=>aKH (aKH ⟨_,H5,I'.dropped hs2 hz h0 h1 h2 h3,q⟩)⟩
end L2
namespace D3
open PySem PySem.Spec PyProof.Rows L2
def cL(aD:List Nat)(ρ:Rho):Rho:=aD.map λi=>match ρ[i]? with | some (some (false,d))=>some (false,d) | _=>none
def eI(k:D->Rho->Option Rho)(t e:Rho->Res)(ρ0:Rho):List D->Option (List D)
 | []=>some []
 | d::ds=>match k d ρ0 with
  | none=>none
  | some ρ1=>match t ρ1 with
   | .ok _ (.bl true)=>(match a5 (e ρ1) with | .ok _ y=>(eI k t e ρ0 ds).map (y :: ·) | _=>none)
   | .ok _ (.bl false)=>eI k t e ρ0 ds
   | _=>none
def dB(src:Res)(ρ:Rho)(aD:List Nat)(n:Nat)(k:D->Rho->Option Rho)(t e:Rho->Res):Res:=src.thn λ_ d=>match d with
 | .lst ds=>if ds.length<sizeLine then (match eI k t e (cL aD ρ++List.replicate n none) ds with | some ys=>.ok .fr (.lst ys) | none=>.stuck) else .stuck
 | _=>.stuck
abbrev Cw.nox(C:Cw):Cw:={ C with EE:=λ_ _ _=>False }
theorem aH.upd{F H F' H':Hp}{x:Addr}{o:HO}(st:aH F H F' H')(hx:H x=none)(hx':F' x=none):aH F H F' (L2.upd H' x o) :=
 ⟨λb u q=>by rw[aP (bN q hx)];exact st.same b u q,st.fsame,λb u q=>by rw[aP (bN q hx')];exact st.sub b u q,st.new⟩
section
variable {C:Cw}{X:Cx}{e:Expr}{g:Rho->Res}{pos p:Pos}
theorem aB0:cS X [] (tT (C.at X) λ_=>.ok .fz (.bl true)):=λaA s σ H Q I h=>by obtain ⟨ρ,F,R,w⟩:=h;exact aBV aA s σ H Q I (w F H (.refl R.sub))
theorem aB1{c:Expr}{cs:List Expr}{ga gb:Rho->Res}(hc:PTv C X c ga)(hr:cS X cs (tT (C.at X) gb)):cS X (c::cs) (tT (C.at X) λρ=>dQ (ga ρ) (gb ρ)):=λaA s σ H Q I h =>
 aBW hc hr aA s σ H Q I (rF h)
theorem aB2{K:Fg}{F0 H0 F H:Hp}{σ:L2.St}{ρ:Rho}(aD:List Nat)(n:Nat)(R:aR K F0 H0 F H σ ρ):aR K F0 H0 F H (dA aD σ++List.replicate n none) (cL aD ρ++List.replicate n none):=by
 have low:∀ (i:Nat) (m:Bool) (d:D),(cL aD ρ++List.replicate n none)[i]? = some (some (m,d))->m=false/\∃ v,(dA aD σ++List.replicate n none)[i]? = some (some v)/\aB K F d v:=λi m d e=>by
  by_cases hi:i<aD.length
  . rw[aK6 (by simpa[cL] using hi)] at e
    rw[aK6 (by simpa[dA] using hi)]
    unfold cL at e;unfold dA;rw[aK7,aMO hi] at e ⊢;simp only[aMN,Option.some.injEq] at e;cases z:ρ[aD[i]]? with
    | none=>rw[z] at e;cases e
    | some o =>
     rw[z] at e;cases o with
     | none=>cases e
     | some q =>
      obtain ⟨b,d'⟩:=q;cases b with
      | true=>cases e
      | false=>cases e;obtain ⟨v,e1,r,_⟩:=R.slot _ _ _ z;exact ⟨rfl,v,by simp[e1],r⟩
  . rw[aK4 (by simpa[cL] using hi),aK5] at e
    split at e <;> cases e
 refine ⟨R.st,λi m d e=>?_,λi j d d' a _ e1 _ _ _=>?_,by simp[dA,cL]⟩
 . obtain ⟨rfl,v,e1,r⟩:=low i m d e;exact ⟨v,e1,r,by intro z;cases z⟩
 . have:=(low i true d e1).1;cases this
end
mutual
def aY:D->Option PyData
 | .non=>some .none
 | .bl b=>some (.bool b)
 | .int i=>some (.int i)
 | .str x=>some (.str x)
 | .tup ds=>(dI ds).map .tuple
 | .lst ds=>(dI ds).map .list
 | _=>none
def dI:List D->Option (List PyData)
 | []=>some []
 | d::ds=>match aY d,dI ds with
  | some p,some ps=>some (p::ps)
  | _,_=>none
end
section
variable {X:Cx}{aA:LAO}{σ:L2.St}{F H:Hp}{s:Shared}
mutual
theorem rP(I:Inv X aA σ H s)(sF:aE F H):∀ (d:D) (p:PyData) (v:V) (u:Value),aB X.K F d v->aI v u->aY d=some p->(∃ as,Reads s.heap u p as)/\p.canLay0=true
 | .non,p,v,u,h,r,e=>by simp only[aB] at h;subst h;cases r;simp only[aY] at e;cases e;exact ⟨⟨_,.none⟩,rfl⟩
 | .bl b,p,v,u,h,r,e=>by simp only[aB] at h;subst h;cases r;simp only[aY] at e;cases e;exact ⟨⟨_,.bool b⟩,rfl⟩
 | .int i,p,v,u,h,r,e=>by simp only[aB] at h;subst h;obtain ⟨t,rfl⟩:=r;simp only[aY] at e;cases e;exact ⟨⟨_,.int i t⟩,rfl⟩
 | .str x,p,v,u,h,r,e=>by simp only[aB] at h;obtain ⟨rfl,_,hk⟩:=h;obtain ⟨t,rfl⟩:=r;simp only[aY] at e;cases e;exact ⟨⟨_,.str x t⟩,by simpa only [PyData.canLay0] using hk⟩
 | .tup ds,p,v,u,h,r,e=>by
  simp only[aB] at h;obtain ⟨a,xs,rfl,q,rl⟩:=h;cases r;simp only[aY] at e;cases ep:dI ds with
  | none=>rw[ep] at e;cases e
  | some ps=>rw[ep] at e;cases e;obtain ⟨its,rv,⟨o,h1,h2,n,h3⟩,_⟩:=I.tuple (aE.seqT sF q);obtain ⟨⟨as,ra⟩,hc⟩:=kZ I sF ds ps xs its rl rv ep;exact ⟨⟨_,.tuple h1 h2 h3 (by simpa using ra)⟩,by simpa only [PyData.canLay0] using hc⟩
 | .lst ds,p,v,u,h,r,e=>by
  simp only[aB] at h;obtain ⟨a,xs,rfl,q,rl⟩:=h;cases r;simp only[aY] at e;cases ep:dI ds with
  | none=>rw[ep] at e;cases e
  | some ps=>rw[ep] at e;cases e;obtain ⟨its,rv,⟨o,n,h1,h2,_,h3⟩,_⟩:=I.list (sF.seq q);obtain ⟨⟨as,ra⟩,hc⟩:=kZ I sF ds ps xs its rl rv ep;exact ⟨⟨_,.list h1 h2 h3 (by simpa using ra)⟩,by simpa only [PyData.canLay0] using hc⟩
 | .dct _,p,v,u,h,r,e=>by simp only[aY] at e;cases e
 | .ty _,p,v,u,h,r,e=>by simp only[aY] at e;cases e
 | .ob _,p,v,u,h,r,e=>by simp only[aY] at e;cases e
 | .ins _ _,p,v,u,h,r,e=>by simp only[aY] at e;cases e
 | .fn _,p,v,u,h,r,e=>by simp only[aY] at e;cases e
 | .exn _,p,v,u,h,r,e=>by simp only[aY] at e;cases e
 | .set _,p,v,u,h,r,e=>by simp only[aY] at e;cases e
 | .dtn _,p,v,u,h,r,e=>by simp only[aY] at e;cases e
 | .dtf _,p,v,u,h,r,e=>by simp only[aY] at e;cases e
theorem kZ(I:Inv X aA σ H s)(sF:aE F H):∀ (ds:List D) (ps:List PyData) (xs:List V) (us:List Value),aC X.K F ds xs->aJ xs us->dI ds=some ps->(∃ as,ReadsAll s.heap us ps as)/\PyData.canLayAll0 ps=true
 | [],ps,xs,us,h,r,e=>by simp only[aC] at h;subst h;cases r;simp only[dI] at e;cases e;exact ⟨⟨_,.nil⟩,rfl⟩
 | d::ds,ps,xs,us,h,r,e=>by
  simp only[aC] at h;obtain ⟨y,ys,rfl,hd,hl⟩:=h;cases r with
  | cons r1 r2 =>
   simp only[dI] at e;cases e1:aY d with
   | none=>rw[e1] at e;cases e
   | some p =>
    cases e2:dI ds with
    | none=>rw[e1,e2] at e;cases e
    | some ps'=>rw[e1,e2] at e;cases e;obtain ⟨⟨as,ra⟩,hc⟩:=rP I sF d p y _ hd r1 e1;obtain ⟨⟨bs,rb⟩,hc'⟩:=kZ I sF ds ps' ys _ hl r2 e2;exact ⟨⟨_,.cons ra rb⟩,by simp only[PyData.canLayAll0,hc,hc',Bool.and_self]⟩
end
theorem rQ(I:Inv X aA σ H s)(sF:aE F H){m:Md}{d:D}{p:PyData}{v:V}{u:Value}(h:Rp X.K F H m d v)(r:aI v u)(e:aY d=some p):(∃ as,Reads s.heap u p as)/\p.canLay0=true:=by
 cases m with
 | fz=>exact rP I sF d p v u h r e
 | _ =>
  obtain ⟨a,rfl,n,t⟩:=h;cases d with
  | lst ds =>
   obtain ⟨xs,q,rl⟩:=t;cases r;simp only[aY] at e;cases ep:dI ds with
   | none=>rw[ep] at e;cases e
   | some ps=>rw[ep] at e;cases e;obtain ⟨its,rv,⟨o,n,h1,h2,_,h3⟩,_⟩:=I.list (SqL.of q);obtain ⟨⟨as,ra⟩,hc⟩:=kZ I sF ds ps xs its rl rv ep;exact ⟨⟨_,.list h1 h2 h3 (by simpa using ra)⟩,by simpa only [PyData.canLay0] using hc⟩
  | dct ds=>simp only[aY] at e;cases e
  | ins _ _=>simp only[aY] at e;cases e
  | set _=>simp only[aY] at e;cases e
  | dtn _=>simp only[aY] at e;cases e
  | dtf _=>simp only[aY] at e;cases e
  | _=>exact t.elim
end
def jI(p:PyData):Bool:=decide (p.depth<=50)
def eqF(neg:Bool):Md->D->Md->D->Option (Md×D):=λ_ x _ y=>match aY x,aY y with
 | some p,some q=>if (jI p&&jI q)=true then some (.fz,.bl (if neg then !PyData.eqv p q else PyData.eqv p q)) else none
 | _,_=>none
section
variable {C:Cw}{X:Cx}
theorem rR{f:Value->Value->Sem Value}{neg:Bool}(hu:X.A.units+64<cLine)(rule:∀ (s:Shared) (a b:Value) (da db:PyData) (as bs:List Addr) (Q:VSP),Reads s.heap a da as->Reads s.heap b db bs->da.canLay0=true->db.canLay0=true->X.A.units+min da.depth db.depth<cLine->Q (.bool (if neg then !PyData.eqv da db else PyData.eqv da db)) s->wpAny (model X.prog X.w) X.A (f a b) Q X.xe s):OpD C X f (eqF neg):=by
 refine ⟨λx y H Q=>∃ F m n d e p q,aE F H/\Rp X.K F H m d x/\Rp X.K F H n e y/\aY d=some p/\aY e=some q/\(jI p&&jI q)=true/\Q (.bl (if neg then !PyData.eqv p q else PyData.eqv p q)) H,?_,?_⟩
 . intro aA s σ H x y v u Q I rx ry h;obtain ⟨F,m,n,d,e,p,q,sF,hd,he,ep,eq,hs,hQ⟩:=h;obtain ⟨⟨as,ra⟩,ca⟩:=rQ I sF hd rx ep;obtain ⟨⟨bs,rb⟩,cb⟩:=rQ I sF he ry eq;rw[aLR] at hs;have h1:=aME hs.1;refine rule s v u p q as bs _ ra rb ca cb (by have:=aL7 p.depth q.depth;omega) ⟨.bl _,H,I,rfl,hQ⟩
 . intro F H m x n y v u k d Q s rx ry e w;unfold eqF at e;split at e
   . rename_i p q ep eq;split at e
     . rename_i hc;cases e;exact ⟨F,m,n,x,y,p,q,s,rx,ry,ep,eq,hc,w _ F H (.refl s) (cY _) (by intro z;cases z)⟩
     . cases e
   . cases e
theorem aB3(hu:X.A.units+64<cLine):OpD C X (compareOp .Eq) (eqF false):=rR hu λs a b da db as bs Q ra rb ca cb hd q=>SeqAt.compareEq_reads ra rb ca cb hd q
theorem aB4(hu:X.A.units+64<cLine):OpD C X (compareOp .NotEq) (eqF true):=rR hu λs a b da db as bs Q ra rb ca cb hd q=>SeqAt.compareNe_reads ra rb ca cb hd q
end
section
variable {C:Cw}{X:Cx}{o e:Expr}{es:List Expr}{go:Rho->Res}{gs:Rho->aT}{apos cpos:Pos}{T id:String}{name:Str}
def rS:List D->Option (List Str)
 | []=>some []
 | .str x::r=>(rS r).map (x :: ·)
 | _=>none
def joinD:Md->D->List (Md×D)->Option (Md×D):=λ_ x xs=>match x,xs with
 | .str z,[(_,.lst ds)]=>(match rS ds with
  | some ys=>if (ys.map (·.length)).sum+ys.length * z.length<=sizeLine then some (.fz,.str (Txt.join z ys)) else none
  | none=>none)
 | _,_=>none
theorem rT:∀ {ys:List Str} {us:List Value},aJ (ys.map V.str) us->StrsAre us ys
 | [],_,h=>by cases h;exact .nil
 | y::ys,_,h=>by
  cases h with
  | cons r t=>obtain ⟨tk,rfl⟩:=r;exact .cons y tk (rT t)
end
def spV(K:Fg)(mg:SOV)(n:Nat)(Φ:List D->Res):Sp:=λvs H Q E=>vs.length=n/\∃ F ds,aE F H/\aC K F ds vs/\match Φ ds with
 | .ok m d=>m ≠ .bo/\∀ v F' H',aH F H F' H'->Rp K F' H' m d v->(m=.fr->∀ a,v=.ref a->H a=none)->Q v H'
 | .exc c=>∀ F' H' u,aH F H F' H'->mg c=some u->E u none H'
 | .stuck=>False
structure FnV(P:Program)(w:World)(K:Fg)(mg:SOV)(base:Heap)(CX:CXT)(k:Nat)(x:Str)(n:Nat)(Φ:List D->Res):Prop where
 ex:∃ f fd ps,cK P w K mg base CX k f fd ps (spV K mg n Φ)/\mg x=some (.ref f)/\PySem.W.keepIn K (.ref f)=true/\eU K fd ps []
def bO(n:Nat)(Φ:List D->Res)(r:aT):Res:=r.thn λxs=>match cB xs with
 | some ds=>if ds.length=n then (match Φ ds with | .ok .bo _=>.stuck | r=>r) else .stuck
 | none=>.stuck
def XOk(CX:CXT)(C:Cw)(X:Cx):Prop:=∀ (aA:LAO) (σ:L2.St) (H:Hp) (s:Shared) (e:Value) (s':Shared),Inv X aA σ H s->CX X.stack H s (λu _ H'=>∃ c,X.mg c=some u/\C.EE c σ H') e s'->X.xe e s'
section
variable {C:Cw}{X:Cx}{e:Expr}{es:List Expr}{gs:Rho->aT}{p pos:Pos}{x:Str}{k n:Nat}{Φ:List D->Res}{CX:CXT}
theorem rV{f:Addr}{fd:FuncData}{ps:List Str}{aA:LAO}{σ:L2.St}{H:Hp}{s:Shared}{Q:VK}{us:List Value}{vs:List V}{E:XK}(F:cK X.prog X.w X.K X.mg X.base CX k f fd ps (spV X.K X.mg n Φ))(hr:bV k X.A)(hb:eU X.K fd ps [])(hx:∀ e s',CX X.stack H s E e s'->X.xe e s')(I:Inv X aA σ H s)(r:aJ vs us)(h:spV X.K X.mg n Φ vs H Q E):wpAny (model X.prog X.w) X.A (call (.ref f) us) (EP X aA σ Q) X.xe s:=by
 have hl:(us++[]).length=ps.length:=by rw[aKZ,<- r.length];exact F.len _ _ _ _ h
 have hb':=hb s us I.kIn hl;rw[aKZ] at hb';refine wpAny_call (aL0 (F.run X.A X.stack s H ⟨us,[]⟩ us vs Q E hr I.env0 hb' r h) λr s' hq=>?_);cases r with
 | error e=>exact hx e s' hq
 | ok fl =>
  cases fl with
  | ret u=>exact I.after hq
  | next=>exact False.elim hq
  | brk=>exact False.elim hq
  | cont=>exact False.elim hq
theorem aB5(F:FnV X.prog X.w X.K X.mg X.base CX k x n Φ)(hr:bV k X.A)(hx:XOk CX (C.at X) X)(hg:Gl X x)(ha:PAv C X (e::es) gs)(hdb:(x==("__debug__" : Str))=false:=by decide)(he:starEach (e::es) X.env=(false,eval e X.env)::starEach es X.env:=by rfl)(hpl:(backTo pos (starEach es X.env)).any (·.1)=false:=by rfl):PV C X (.Call (.Name x p) (e::es) [] pos) (λρ=>bO n Φ (gs ρ)):=by
 obtain ⟨f,fd,ps,FF,hm,hk,hb⟩:=F.ex;intro aA s σ H Q I h;rw[aV] at h;obtain ⟨ρ,F,R,w⟩:=h;refine aLB (mN I hg hm ?_ hdb);refine PySem.W.callWith_K (h₀:=X.base) I.ok.mod.kin hk (thn (ha pos aA s σ H (λvs H1=>spV X.K X.mg n Φ vs H1 Q λu _ H'=>∃ c,X.mg c=some u/\C.EE c σ H') I ?_) λus s1 ⟨vs,H1,I1,r,q⟩=>⟨I1.kIn,rV FF hr hb (λe s' hc=>hx aA σ H1 s1 e s' I1 hc) I1 r q⟩) he hpl;refine ⟨ρ,F,R,?_⟩;cases er:gs ρ with
 | stuck=>rw[er] at w;exact w
 | exc c=>rw[er] at w;exact w
 | ok xs =>
  rw[er] at w;intro vs F1 H1 s1 r1;have w1:aX (C.at X) F1 H1 σ (bO n Φ (.ok xs)) Q:=aX.step s1 w;unfold bO at w1;rw[aT.thn_ok] at w1;cases ef:cB xs with
  | none=>rw[ef] at w1;exact w1.elim
  | some ds =>
   rw[ef] at w1;dsimp only at w1;split at w1
   . rename_i hn;have rl:=r1.fz ef;refine ⟨by rw[rl.length];exact hn,F1,ds,s1.sub,rl,?_⟩
     cases ep:Φ ds with
     | stuck=>rw[ep] at w1;exact w1
     | exc c=>rw[ep] at w1;exact λF' H' u st hu=>⟨c,hu,w1 F' H' st⟩
     | ok m d =>
      rw[ep] at w1;cases m with
      | bo=>exact w1.elim
      | fz=>exact ⟨by decide,w1⟩
      | fr=>exact ⟨by decide,w1⟩
   . exact w1.elim
end
def endR:aG->Res
 | .nx _=>.ok .fz .non
 | .rt m d=>.ok m d
 | .exc c _=>.exc c
 | _=>.stuck
def fP(n:Nat)(ds:List D):Rho:=ds.map (λd=>some (false,d))++List.replicate (n-ds.length) none
theorem aB6{K:Fg}{F H:Hp}{N:List Str}{ds:List D}{vs:List V}(s:aE F H)(r:aC K F ds vs):aR K F H F H (bW N vs) (fP N.length ds):=by
 have low:∀ (i:Nat) (m:Bool) (d:D),(fP N.length ds)[i]? = some (some (m,d))->m=false/\∃ v,(bW N vs)[i]? = some (some v)/\aB K F d v:=λi m d e=>by
  unfold fP at e;unfold L2.bW;by_cases hi:i<ds.length
  . rw[aK6 (by simpa using hi),aK7,aMO hi] at e
    cases e;obtain ⟨v,ev,rv⟩:=r.get' (aMO hi);exact ⟨rfl,v,by rw[aK6 (by simpa[r.length] using hi),aK7,ev];rfl,rv⟩
  . rw[aK4 (by simpa using hi),aK5] at e
    split at e <;> cases e
 refine ⟨.refl s,λi m d e=>?_,λi j d d' a _ e1 _ _ _=>?_,by simp[L2.bW,fP,r.length]⟩
 . obtain ⟨rfl,v,e1,rv⟩:=low i m d e;exact ⟨v,e1,rv,by intro z;cases z⟩
 . have:=(low i true d e1).1;cases this
def k4(ns:List Int):List D:=[.lst (ns.map .int)]
theorem rW{K:Fg}{F:Hp}:∀ ns:List Int,aC K F (ns.map D.int) (ns.map V.int)
 | []=>aC.nil
 | n::ns=>aC.cons (by simp only[aB]) (rW ns)
def noK:Md->D->Md->D->Option (Md×D):=λ_ _ _ _=>none
abbrev fAdd:Md->D->Md->D->Option (Md×D):=orO (fI (λ_ _=>true) λi j=>.int (i+j)) (fS (λi j=>decide (i.length+j.length<=sizeLine)) λi j=>.str (i++j))
abbrev fSub:Md->D->Md->D->Option (Md×D):=fI (λ_ _=>true) λi j=>.int (i-j)
abbrev fMul:Md->D->Md->D->Option (Md×D):=orO (fI (λi j=>(bits i&&bits j)||(w64 i||w64 j)) λi j=>.int (i * j)) noK
abbrev fMod:Md->D->Md->D->Option (Md×D):=fI (λ_ j=>decide (0<j)) λi j=>.int (i % j)
abbrev fDiv:Md->D->Md->D->Option (Md×D):=fI (λ_ j=>decide (0<j)&&bits j) λi j=>.int (i / j)
abbrev fPow:Md->D->Md->D->Option (Md×D):=fI (λi j=>decide (0<=j)&&decide (j<=1000000)&&decide (i.natAbs<2 ^ 64)) λi j=>.int (i ^ j.toNat)
abbrev fLt:Md->D->Md->D->Option (Md×D):=fI (λ_ _=>true) λi j=>.bl (decide (i<j))
abbrev fLe:Md->D->Md->D->Option (Md×D):=fI (λ_ _=>true) λi j=>.bl (decide (i<=j))
abbrev fGt:Md->D->Md->D->Option (Md×D):=fI (λ_ _=>true) λi j=>.bl (decide (j<i))
abbrev fGe:Md->D->Md->D->Option (Md×D):=fI (λ_ _=>true) λi j=>.bl (decide (j<=i))
abbrev fEq:Md->D->Md->D->Option (Md×D):=orO (eqF false) noK
abbrev fNe:Md->D->Md->D->Option (Md×D):=orO (eqF true) noK
abbrev fIn:Md->D->Md->D->Option (Md×D):=fS (λ_ _=>true) λi j=>.bl (hV i j)
abbrev aB7:Md->D->Md->D->Option (Md×D):=fS (λ_ _=>true) λi j=>.bl (!hV i j)
def IsB(φ:Md->D->Md->D->Option (Md×D)):Prop:=∀ m x n y k d,φ m x n y=some (k,d)->∃ t,k=.fz/\d=.bl t
theorem k5{c:Int->Int->Bool}{g:Int->Int->Bool}:IsB (fI c λi j=>.bl (g i j)):=λm x n y k d e=>by
 unfold fI at e;split at e
 . split at e
   . cases e;exact ⟨_,rfl,rfl⟩
   . cases e
 . cases e
theorem rX{c:Str->Str->Bool}{g:Str->Str->Bool}:IsB (fS c λi j=>.bl (g i j)):=λm x n y k d e=>by
 unfold fS at e;split at e
 . split at e
   . cases e;exact ⟨_,rfl,rfl⟩
   . cases e
 . cases e
theorem jJ{φ ψ}(h:IsB φ)(h':IsB ψ):IsB (orO φ ψ):=λm x n y k d e=>by
 unfold orO at e;cases e1:φ m x n y with
 | none=>rw[e1] at e;exact h' _ _ _ _ _ _ e
 | some p=>rw[e1] at e;cases e;exact h _ _ _ _ _ _ e1
theorem rY{neg:Bool}:IsB (eqF neg):=λm x n y k d e=>by
 unfold eqF at e;split at e
 . split at e
   . cases e;exact ⟨_,rfl,rfl⟩
   . cases e
 . cases e
section
variable {C:Cw}{X:Cx}
theorem gG{f:Value->Value->Sem Value}:OpD C X f noK:=⟨λ_ _ _ _=>False,λ_ _ _ _ _ _ _ _ _ _ _ _ h=>h.elim,λ_ _ _ _ _ _ _ _ _ _ _ _ _ _ e _=>by cases e⟩
theorem o_add:OpD C X (binaryOp .Add) fAdd:=aAE.or aAR
theorem o_mul:OpD C X (binaryOp .Mult) fMul:=aAH.or gG
theorem o_eq(hu:X.A.units+64<cLine):OpD C X (compareOp .Eq) fEq:=(aB3 hu).or gG
theorem o_ne(hu:X.A.units+64<cLine):OpD C X (compareOp .NotEq) fNe:=(aB4 hu).or gG
def phi(n N:Nat)(g:Rho->aG):List D->Res:=λds=>if ds.length=n then endR (g (fP N ds)) else .stuck
end
def jK(scope sc:Scope):List (Str×NameKind):=scope.names.map λ(n,k)=>if (k == .free&&sc.kind == .function&&sc.names.lookup n==some .cell) then (n,.cell) else (n,k)
theorem aB8:bootBuiltins "len" = some (.builtin "len"):=by decide +kernel
theorem aB9:bootBuiltins "isinstance" = some (.builtin "isinstance"):=by decide +kernel
theorem aCA:bootBuiltins "int" = some (.type "int"):=by decide +kernel
theorem aCB:bootBuiltins "bool" = some (.type "bool"):=by decide +kernel
theorem aCC:bootBuiltins "str" = some (.type "str"):=by decide +kernel
theorem aCD:bootBuiltins "tuple" = some (.type "tuple"):=by decide +kernel
theorem aCE:bootBuiltins "list" = some (.type "list"):=by decide +kernel
theorem aCF:bootBuiltins "dict" = some (.type "dict"):=by decide +kernel
structure CI where
 name:Str
 ups:List Str
 flds:List Str
 meths:List (Str×Str×Nat)
def bX:Expr->Bool | .Starred ..=>false | _=>true
def jL:Expr->Bool | .Call (.Name x _) [] [] _=>x != "super" | _=>true
theorem cC{x:Expr}{es:List Expr}{env:Env}(h:bX x=true):starEach (x::es) env=(false,eval x env)::starEach es env:=by cases x <;> first | rfl | cases h
theorem jM(pos:Pos)(env:Env):∀ {es:List Expr},(∀ x∈es,bX x=true)->(backTo pos (starEach es env)).any (·.1)=false
 | [],_=>rfl
 | x::es,h=>by rw[cC (h x mcs)];show ((false||(backTo pos (starEach es env)).any (·.1))=false);rw[jM pos env λy hy=>h y (mcm hy)];rfl
theorem k6(pos:Pos)(env:Env):∀ {es:List Expr},(∀ x∈es,bX x=true)->(backTo pos (starEach es env)).all (λx=>!x.1)=true
 | [],_=>rfl
 | x::es,h=>by rw[cC (h x mcs)];show ((true&&(backTo pos (starEach es env)).all (λx=>!x.1))=true);rw[k6 pos env λy hy=>h y (mcm hy)];rfl
theorem nB{o:Expr}{n:Str}{env:Env}{w:Sem Value}(h:jL o=true):attributeBase o n env w=w:=by
 cases o with
 | Call f as ks pos =>
  cases f with
  | Name x p =>
   cases as with
   | nil =>
    cases ks with
    | nil=>show (if x != "super" || n == "__class__" || env.kindOf "super" != some .globalImplicit||env.kindOf "__class__" != some .free then w else _)=w;have:(x != ("super" : Str))=true:=h;rw[if_pos (by rw[this];rfl)]
    | cons _ _=>rfl
   | cons _ _=>rfl
  | _=>rfl
 | _=>rfl
theorem aCG {o : Expr} {m : Str} {apos pos : Pos} {args : List Expr} {env : Env} (hb : jL o = true) (hst : ∀ x ∈ args, bX x = true) (hn : args.length < 30) (hl : apos.endLine = pos.line) :
    eval (.Call (.Attribute o m apos) args [] pos) env=(do
     let ov <- eval o env
     standAt apos.atName
     let (f,first) <- holding [ov] (getMethod ov m (do return (<- importBound o env).getD true))
     callWith pos f first (backTo pos (starEach args env)) (backToKw pos (keywordEach [] env))):=by
 have few:methodCallForm (args.length+([]:List Keyword).length) (backTo pos (starEach args env)) (backToKw pos (keywordEach [] env))=true:=by unfold methodCallForm;rw[k6 pos env hst];show (true&&true&&decide (args.length+0+0<30))=true;rw[aLZ (by omega)];rfl
 show (do
  let ov <- attributeBase o m env (eval o env)
  standAt apos.atName
  methodCall o m apos pos env ov (args.length+([]:List Keyword).length) (backTo pos (starEach args env)) (backToKw pos (keywordEach [] env)))=_
 rw[nB hb];unfold methodCall;rw[few];have hp:methodCallPos true o env apos pos=pure pos:=by unfold methodCallPos;rw[if_pos (by rw[hl];simp)]
 rw[hp];show (do
  let ov <- eval o env
  standAt apos.atName
  let (f,first) <- holding [ov] (getMethod ov m (do return (<- importBound o env).getD true))
  let callPos <- pure pos
  callWith callPos f first (backTo pos (starEach args env)) (backToKw pos (keywordEach [] env)))=_
 simp only[aMS]
structure MtV(P:Program)(w:World)(K:Fg)(mg:SOV)(base:Heap)(CX:CXT)(k:Nat)(c m:Str)(n:Nat)(Φ:List D->Res):Prop where
 ex:∃ C f fd ps,PySem.W.nsIn K mainGlobals c=some (some (.ref C))/\Cls K C/\i9 K C m f/\cK P w K mg base CX k f fd ps (spV K mg n Φ)/\eU K fd ps []
structure FlV(K:Fg)(c f:Str):Prop where
 ex:∃ C,PySem.W.nsIn K mainGlobals c=some (some (.ref C))/\Cls K C/\mU K C f
def CI.meth(cl:List CI)(c m:Str):Option (Str×Nat):=match cl.find? (λi=>i.name==c) with
 | some i=>i.meths.lookup m
 | none=>none
def fQ(cl:List CI)(Φ:Str->List D->Res)(m:Str)(o:Res)(as:aT):Res:=o.thn λmd d=>match md,d with
 | .fz,.ins c fs=>(match CI.meth cl c m with
  | some (key,n)=>if fs.lookup m=none then bO n (Φ key) (cZ (.ok .fz (.ins c fs)) as) else .stuck
  | none=>.stuck)
 | _,_=>.stuck
section
variable {C:Cw}{X:Cx}{o e:Expr}{es:List Expr}{go:Rho->Res}{gs:Rho->aT}{apos pos:Pos}{m f:Str}{k:Nat}{Φ:Str->List D->Res}{CX:CXT}{cl:List CI}
theorem aCH(hM:∀ c m key n,CI.meth cl c m=some (key,n)->MtV X.prog X.w X.K X.mg X.base CX k c m n (Φ key))(hr:bV k X.A)(hx:XOk CX (C.at X) X)(ho:PV C X o go)(ha:PAv C X es gs)(hb:jL o=true)(hst:∀ x∈es,bX x=true)(hn:es.length<30)(hl:apos.endLine=pos.line)(hes:es=[]->gs=λ_=>.ok []):PV C X (.Call (.Attribute o m apos) es [] pos) (λρ=>fQ cl Φ m (go ρ) (gs ρ)):=by
 intro aA s σ H Q I q;rw[aV] at q;obtain ⟨ρ,F,R,w⟩:=q;refine yV (pl:=(do return (<- importBound o X.env).getD true)) ho I ?_ (aCG hb hst hn hl)
 show tG (C.at X) go σ H _;rw[aV];refine ⟨ρ,F,R,?_⟩;cases er:go ρ with
 | stuck=>rw[er] at w;exact w
 | exc c=>rw[er] at w;exact w
 | ok md d =>
  rw[er] at w;intro v F1 H1 s1 r1 _;have w1:aX (C.at X) F1 H1 σ (fQ cl Φ m (.ok md d) (gs ρ)) Q:=aX.step s1 w;unfold fQ at w1;rw[Res.thn_ok] at w1;cases md with
  | fr=>exact w1.elim
  | bo=>exact w1.elim
  | fz =>
  cases d with
  | ins c fs =>
   dsimp only at w1;cases em:CI.meth cl c m with
   | none=>rw[em] at w1;exact w1.elim
   | some kn =>
    obtain ⟨key,n⟩:=kn;rw[em] at w1;dsimp only at w1;split at w1
    . rename_i hnl;obtain ⟨C',f',fd,ps,n1,cl',me,FO,hbd⟩:=(hM c m key n em).ex;have r1':=r1;obtain ⟨a,C2,dx,gs',ev,n2,ea,rf⟩:=r1.ins s1.sub;rw[n1] at n2;cases n2;subst ev;refine ⟨a,C',dx,gs',f',rfl,ea,cl',me,rf.lookN hnl,λs1' I1=>?_⟩;have fin:∀ (vs:List V) (us:List Value) (s2:Shared) (F2 H2:Hp) (xs:List (Md×D)),aH F1 H1 F2 H2->RpL X.K F2 H2 xs vs->Inv X aA σ H2 s2->aJ vs us->gs ρ=.ok xs->wpAny (model X.prog X.w) X.A (call (.ref f') (.ref a::us)) (EP X aA σ Q) X.xe s2:=by
        intro vs us s2 F2 H2 xs s2' rl I2 rv eg;rw[eg] at w1;have w2:aX (C.at X) F2 H2 σ (bO n (Φ key) (cZ (.ok .fz (.ins c fs)) (.ok xs))) Q:=aX.step s2' w1;rw[aA7] at w2;unfold bO at w2;rw[aT.thn_ok] at w2;have rl2:RpL X.K F2 H2 ((.fz,.ins c fs)::xs) (.ref a::vs):=⟨_,_,rfl,r1'.step s2',rl⟩;cases ef:cB ((.fz,.ins c fs)::xs) with
        | none=>rw[ef] at w2;exact w2.elim
        | some ds =>
         rw[ef] at w2;dsimp only at w2;split at w2
         . rename_i hnn;have rl3:=rl2.fz ef;refine rV (E:=λu _ H'=>∃ c,X.mg c=some u/\C.EE c σ H') (vs:=.ref a::vs) (us:=.ref a::us) FO hr hbd (λe s' hc=>hx aA σ H2 s2 e s' I2 hc) I2 (.cons rfl rv) ⟨by rw[rl3.length];exact hnn,F2,ds,s2'.sub,rl3,?_⟩
           cases ep:Φ key ds with
           | stuck=>rw[ep] at w2;exact w2
           | exc c=>rw[ep] at w2;exact λF' H' u st hu=>⟨c,hu,w2 F' H' st⟩
           | ok m d =>
            rw[ep] at w2;cases m with
            | bo=>exact w2.elim
            | fz=>exact ⟨by decide,w2⟩
            | fr=>exact ⟨by decide,w2⟩
         . exact w2.elim
      cases es with
      | nil =>
       refine PySem.W.callWith_K0 (first:=[.ref a]) I1.kIn me.kp ?_
       have eg:gs ρ=.ok []:=by rw[hes rfl]
       exact fin [] [] s1' F1 H1 [] (.refl s1.sub) rfl I1 .nil eg
      | cons e es =>
       refine PySem.W.callWith_K (first:=[.ref a]) (h₀:=X.base) I.ok.mod.kin me.kp (thn (ha pos aA s1' σ H1 (λvs H2=>∃ F2 xs,aH F1 H1 F2 H2/\RpL X.K F2 H2 xs vs/\gs ρ=.ok xs) I1 ?_) λus s2 ⟨vs,H2,I2,r,F2,xs,st2,rl,eg⟩=>⟨I2.kIn,?_⟩) (cC (hst e mcs)) (jM _ _ λy hy=>hst y (mcm hy))
       . refine ⟨ρ,F1,R.step s1,?_⟩;cases eg:gs ρ with
         | stuck=>rw[eg] at w1;exact w1
         | exc c=>rw[eg] at w1;exact w1
         | ok xs=>exact λvs F2 H2 s2 rl=>⟨F2,xs,s2,rl,rfl⟩
       . exact fin vs us s2 F2 H2 xs st2 rl I2 r eg
    . exact w1.elim
  | _=>exact w1.elim
end
theorem aR.mut{K:Fg}{F0 H0 F H:Hp}{σ:L2.St}{ρ:Rho}{i:Nat}{d d':D}{a:Addr}{o:HO}(R:aR K F0 H0 F H σ ρ)(e:ρ[i]? = some (some (true,d)))(ev:σ[i]? = some (some (.ref a)))(t:Top K F (upd H a o) a d'):aR K F0 H0 F (upd H a o) σ (ρ.set i (some (true,d'))):=by
 obtain ⟨v,ev',rp,hn⟩:=R.slot i true d e;rw[ev] at ev';cases ev';have h0:H0 a=none:=hn rfl a rfl;obtain ⟨a',ea,hf,tt⟩:=rp;cases ea;have hl:i<ρ.length:=(aKA.mp e).1;have st:aH F0 H0 F (upd H a o):=⟨λb u q=>by rw[aP (bN q h0)];exact R.st.same b u q,R.st.fsame,λb u q=>by rw[aP (bN q hf)];exact R.st.sub b u q,R.st.new⟩
 refine ⟨st,λj m d2 e2=>?_,λj l d1 d2 b hjl e1 e2 q1 q2=>?_,by rw[aLV];exact R.len⟩
 . by_cases hj:j=i
   . subst hj;rw[aKB hl] at e2;cases e2;exact ⟨.ref a,ev,⟨a,rfl,hf,t⟩,λ_ b eb=>by cases eb;exact h0⟩
   . rw[aKC (λz=>hj z.symm)] at e2;obtain ⟨u,eu,ru,hu⟩:=R.slot j m d2 e2;refine ⟨u,eu,?_,hu⟩;cases m with
     | false=>exact ru
     | true =>
      obtain ⟨b,eb,hb,tb⟩:=ru;subst eb;have hba:b≠a:=λz=>by subst z;exact R.apart j i d2 d b hj e2 e eu ev
      refine ⟨b,rfl,hb,?_⟩;cases d2 with
      | lst ds=>obtain ⟨xs,q,r⟩:=tb;exact ⟨xs,by rw[aP hba];exact q,r⟩
      | dct ds=>obtain ⟨xs,q,r⟩:=tb;exact ⟨xs,by rw[aP hba];exact q,r⟩
      | ins c fs=>obtain ⟨C,dx,gs,n,q,r⟩:=tb;exact ⟨C,dx,gs,n,by rw[aP hba];exact q,r⟩
      | set ks=>obtain ⟨S,q,r⟩:=tb;exact ⟨S,by rw[aP hba];exact q,r⟩
      | dtn ds=>obtain ⟨xs,q,r⟩:=tb;exact ⟨xs,by rw[aP hba];exact q,r⟩
      | _=>exact tb.elim
 . have f7:∀ (l:Nat) (d2:D),(ρ.set i (some (true,d')))[l]? = some (some (true,d2))->∃ d3,ρ[l]? = some (some (true,d3)):=λl d2 q=>by
     by_cases hl':l=i
     . subst hl';exact ⟨d,e⟩
     . rw[aKC (λz=>hl' z.symm)] at q;exact ⟨d2,q⟩
   obtain ⟨d3,q3⟩:=f7 j d1 e1;obtain ⟨d4,q4⟩:=f7 l d2 e2;exact R.apart j l d3 d4 b hjl q3 q4 q1 q2
section
variable {C:Cw}{X:Cx}{e:Expr}{g:Rho->Res}{pos p pos':Pos}{f x:Str}{cl:List CI}
end
structure nC(K:Fg)(mg:SOV)(c:Str):Prop where
 ex:∃ C,PySem.W.nsIn K mainGlobals c=some (some (.ref C))/\mg c=some (.ref C)/\PySem.W.makesIn K C=true/\PySem.W.findIn K (.ref C) "__init__" = some (some (.builtin "object.__init__"))/\PySem.W.keepIn K (.ref C)=true
theorem aCI{X:Cx}{C:Addr}{x:Str}{p pos:Pos}(hm:X.mg x=some (.ref C))(h1:PySem.W.makesIn X.K C=true)(h2:PySem.W.findIn X.K (.ref C) "__init__" = some (some (.builtin "object.__init__")))(h3:PySem.W.keepIn X.K (.ref C)=true)(hg:Gl X x)(hdb:(x==("__debug__" : Str))=false):PE X (.Call (.Name x p) [] [] pos) (λσ H Q=>∀ a dx,H a=none->H dx=none->dx≠a->Q (.ref a) (upd (upd H dx (.own a)) a (.ins C dx []))):=by
 intro aA s σ H Q I h;refine aLB (mN I hg hm ?_ hdb);refine PySem.W.callWith_K0 I.kIn h3 (wpAny_call (yS I.kIn h1 h2 (λself=>PySem.W.Looks.of_pure (PySem.W.oi_bind self)) ?_));have I2:=Inv.made (C:=C) I;have Y:=PySem.W.makes_of (M:=model X.prog X.w) I.kIn h1;have hh:((s.heap.push PySem.W.emptyDict).push (PySem.W.instObj C s.heap.objs.size)).get? (s.heap.objs.size+1)=some (PySem.W.instObj C s.heap.objs.size):=by
  have:=aJX (s.heap.push PySem.W.emptyDict) (o:=PySem.W.instObj C s.heap.objs.size) rfl
  rwa [aKV] at this
 have t1:PySem.W.Looks (model X.prog X.w) ((s.heap.push PySem.W.emptyDict).push (PySem.W.instObj C s.heap.objs.size)) (typeOf (.ref (s.heap.objs.size+1))) (.ref C):=(PySem.W.Looks.ld hh).andThen .now;have t2:PySem.W.Looks (model X.prog X.w) ((s.heap.push PySem.W.emptyDict).push (PySem.W.instObj C s.heap.objs.size)) (isInstance (.ref (s.heap.objs.size+1)) (.type "object")) true:=t1.andThen (Y.top.keeps λb o e=>hps (hps e));refine codeAny_call_builtin PySem.W.oi_plain PySem.W.entry_oi (@PySem.W.check_slot (model X.prog X.w) _ _ _ "object.__init__" "object" "__init__" (.ref (s.heap.objs.size+1)) [] [] _ PySem.W.oi_kind PySem.W.oi_split t2 (PySem.W.oi_args (.ref (s.heap.objs.size+1))) ?_);rw[PySem.W.oi_run];refine aKH (And.intro rfl ⟨.ref (s.heap.objs.size+1),_,I2,rfl,?_⟩);exact h (s.heap.objs.size+1) s.heap.objs.size (I.hok.fresh (aMW _)) (I.hok.fresh (aKL _)) (aJ1 (aKW _))
theorem aCJ{F H:Hp}{a dx C:Addr}(s:aE F H)(ha:H a=none)(hd:H dx=none)(hne:dx≠a):aH F H F (upd (upd H dx (.own a)) a (.ins C dx [])):=by have s1:=aH.fresh (.own a) s hd;refine s1.trans (aH.fresh _ s1.sub ?_);rw[aP (λz=>hne z.symm)];exact ha
theorem aCK{C:Cw}{X:Cx}{c:Str}{p pos:Pos}(M:nC X.K X.mg c)(hg:Gl X c)(hdb:(c==("__debug__" : Str))=false):PV C X (.Call (.Name c p) [] [] pos) (λ_=>.ok .fr (.ins c [])):=by
 obtain ⟨C',n,hm,h1,h2,h3⟩:=M.ex;refine PE.imp (aCI hm h1 h2 h3 hg hdb) λσ H Q q=>?_;rw[aV] at q;obtain ⟨ρ,F,R,w⟩:=q;intro a dx ha hd hne;refine w (.ref a) F _ (aCJ R.sub ha hd hne) ⟨a,rfl,R.sub.free ha,C',dx,[],n,bA,?_⟩ λ_ b eb=>by cases eb;exact ha
 simp only[cA]
def spI(K:Fg)(mg:SOV)(c:Str)(n:Nat)(Φ:List D->Res):Sp:=λvs H Q E=>∃ x us dx C H1 F ds,vs=.ref x::us/\us.length=n/\PySem.W.nsIn K mainGlobals c=some (some (.ref C)) /\
 H=upd (upd H1 dx (.own x)) x (.ins C dx [])/\H1 x=none/\H1 dx=none/\dx≠x/\aE F H1/\aC K F ds us/\match Φ ds with
 | .ok _ d=>∀ F' H',aH F H1 F' H'->Rp K F' H' .fr d (.ref x)->Q .non H'
 | .exc c=>∀ F' H' u,aH F H1 F' H'->mg c=some u->E u none H'
 | .stuck=>False
structure InV(P:Program)(w:World)(K:Fg)(mg:SOV)(base:Heap)(CX:CXT)(k:Nat)(c:Str)(n:Nat)(Φ:List D->Res):Prop where
 ex:∃ C f fd ps,PySem.W.nsIn K mainGlobals c=some (some (.ref C))/\mg c=some (.ref C)/\Mk K C f/\cK P w K mg base CX k f fd ps (spI K mg c n Φ)/\eU K fd ps []
section
variable {C:Cw}{X:Cx}{e:Expr}{es:List Expr}{gs:Rho->aT}{p pos:Pos}{x c:Str}{k n:Nat}{Φ:List D->Res}{CX:CXT}
end
structure IsV(K:Fg)(mg:SOV)(cl:List CI)(c:Str):Prop where
 ex:∃ C,mg c=some (.ref C)/\(∀ t∈["NoneType", "bool", "int", "str", "tuple", "list", "dict"],PySem.W.kitOne K (.type t) (.ref C)=some false) /\
  ∀ i∈cl,∃ C',PySem.W.nsIn K mainGlobals i.name=some (some (.ref C'))/\Cls K C'/\PySem.W.findIn K (.ref C') "__class__" = some (some (.builtin "object.__class__")) /\
   PySem.W.specialIn K (.builtin "object.__class__") "__get__" = some (some (.builtin "getset_descriptor.__get__"))/\PySem.W.takesIn K (.builtin "object.__class__")=some true/\PySem.W.mroIn K C' (.type "object")=some true /\
   PySem.W.kitOne K (.ref C') (.ref C)=some (i.ups.contains c)
section
variable {C:Cw}{X:Cx}{e:Expr}{g:Rho->Res}{p q pos:Pos}{c:Str}{cl:List CI}
end
section
variable {C:Cw}{X:Cx}{a b c e:Expr}{ga gb gc g:Rho->Res}{gs:Rho->aT}{pos:Pos}
def dC:D->Bool | .non=>true | _=>false
theorem rZ{K:Fg}{F H:Hp}{m:Md}{d:D}{v:V}(s:aE F H)(r:Rp K F H m d v):decide (v=.non)=dC d:=by
 cases d with
 | non=>cases r.non;rfl
 | bl _=>cases r.bl;rfl
 | int _=>cases r.int;rfl
 | str _=>cases r.str.1;rfl
 | tup _=>obtain ⟨_,_,rfl,_⟩:=r.seqT s;rfl
 | lst _=>obtain ⟨_,_,rfl,_⟩:=r.seqL s;rfl
 | dct _=>obtain ⟨_,_,rfl,_⟩:=r.dict s;rfl
 | ty _=>cases r.ty;rfl
 | ob _=>cases r.ob;rfl
 | ins _ _=>obtain ⟨_,_,_,_,rfl,_⟩:=r.ins s;rfl
 | fn _ =>
  cases m with
  | fz=>have r:aB K F _ v:=r;simp only[aB] at r;obtain ⟨_,rfl,_⟩:=r;rfl
  | fr=>obtain ⟨_,_,_,q⟩:=r;exact q.elim
  | bo=>obtain ⟨_,_,_,q⟩:=r;exact q.elim
 | exn _ =>
  cases m with
  | fz=>have r:aB K F _ v:=r;simp only[aB] at r;obtain ⟨_,_,rfl,_⟩:=r;rfl
  | fr=>obtain ⟨_,_,_,q⟩:=r;exact q.elim
  | bo=>obtain ⟨_,_,_,q⟩:=r;exact q.elim
 | set _ =>
  cases m with
  | fz=>have r:aB K F _ v:=r;simp only[aB] at r;obtain ⟨_,_,rfl,_⟩:=r;rfl
  | fr=>obtain ⟨_,rfl,_,_⟩:=r;rfl
  | bo=>obtain ⟨_,rfl,_,_⟩:=r;rfl
 | dtn _ =>
  cases m with
  | fz=>have r:aB K F _ v:=r;simp only[aB] at r;obtain ⟨_,_,rfl,_⟩:=r;rfl
  | fr=>obtain ⟨_,rfl,_,_⟩:=r;rfl
  | bo=>obtain ⟨_,rfl,_,_⟩:=r;rfl
 | dtf _ =>
  cases m with
  | fz=>have r:aB K F _ v:=r;simp only[aB] at r;obtain ⟨_,_,_,rfl,_⟩:=r;rfl
  | fr=>obtain ⟨_,rfl,_,_⟩:=r;rfl
  | bo=>obtain ⟨_,rfl,_,_⟩:=r;rfl
def fIs(neg:Bool):Md->D->Md->D->Option (Md×D):=λ_ x _ y=>match y with
 | .non=>some (.fz,.bl (if neg then !dC x else dC x))
 | _=>none
theorem aCL:OpD C X (compareOp .Is) (fIs false):=by
 refine ⟨_,yE,λF H m x n y v u k d Q s rx ry e w=>?_⟩;unfold fIs at e;split at e
 . cases e;cases ry.non;exact ⟨rfl,by rw[rZ s rx];exact w _ F H (.refl s) (cY _) (by intro z;cases z)⟩
 . cases e
theorem aCM:OpD C X (compareOp .IsNot) (fIs true):=by
 refine ⟨_,yF,λF H m x n y v u k d Q s rx ry e w=>?_⟩;unfold fIs at e;split at e
 . cases e;cases ry.non;exact ⟨rfl,by rw[rZ s rx];exact w _ F H (.refl s) (cY _) (by intro z;cases z)⟩
 . cases e
theorem r6{neg:Bool}:IsB (fIs neg):=λm x n y k d e=>by
 unfold fIs at e;split at e
 . cases e;exact ⟨_,rfl,rfl⟩
 . cases e
theorem aCN:OpR X (binaryOp .Add) (λx y H Q=>∃ l b xs ys,x=.ref l/\y=.ref b/\SqL X.K H l xs/\SqL X.K H b ys/\xs.length+ys.length<=sizeLine/\∀ p,H p=none->Q (.ref p) (upd H p (.lst (xs++ys)))):=by
 intro aA s σ H x y v u Q I rx ry h;obtain ⟨l,b,xs,ys,rfl,rfl,hl,hb,hz,q⟩:=h;cases rx;cases ry;obtain ⟨its,r1,p1,_⟩:=I.list hl;obtain ⟨its2,r2,p2,_⟩:=I.list hb;obtain ⟨⟨cls,dd,data,sl⟩,n,ho,hc,hd1,hd⟩:=p1;obtain ⟨⟨cls2,dd2,data2,sl2⟩,n2,ho2,hc2,hd2',hd2⟩:=p2;simp only at hc hd hc2 hd2;subst hc hd hc2 hd2;have e:its.toArray++its2.toArray=(its++its2).toArray:=by simp
 have l1:=r1.length;have l2:=r2.length;refine aLC ⟨_,ho,rfl⟩ ⟨_,ho2,rfl⟩ noFill_list_add seq_list_add PySem.F.slot_list_add PySem.F.entry_list_add (PySem.F.args_list_add_2 _ _) (list_addW l b its.toArray its2.toArray n n2 dd dd2 sl sl2 (by simp;omega)) ⟨ho,ho2,?_⟩
 rw[e];refine ⟨.ref s.heap.objs.size,_,I.laid (t':=s.toks) (o:=.lst (xs++ys)) (λb ob q=>hps q) (aKL _) ?_,rfl,q _ (I.hok.fresh (aKL _))⟩;exact ⟨by rw[aK9];exact hz,_,0,r1.append r2,aJX _ rfl⟩
theorem aCO:OpR X (binaryOp .Add) (λx y H Q=>∃ l b xs ys,x=.ref l/\y=.ref b/\SqT X.K H l xs/\SqT X.K H b ys/\xs.length+ys.length<=sizeLine/\(xs=[]->Q (.ref b) H)/\(xs≠[]->ys=[]->Q (.ref l) H)/\(xs≠[]->ys≠[]->∀ p,H p=none->Q (.ref p) (upd H p (.tup (xs++ys))))):=by
 intro aA s σ H x y v u Q I rx ry h;obtain ⟨l,b,xs,ys,rfl,rfl,hl,hb,hz,q0,q1,q2⟩:=h;cases rx;cases ry;obtain ⟨its,r1,p1,_⟩:=I.tuple hl;obtain ⟨its2,r2,p2,_⟩:=I.tuple hb;have n1:=r1.nil_iff;have n2:=r2.nil_iff;have l1:=r1.length;have l2:=r2.length;by_cases hv:its=[]
 . obtain ⟨⟨cls,dd,data,sl⟩,ho,hc,n,hd⟩:=id p1;obtain ⟨⟨cls2,dd2,data2,sl2⟩,ho2,hc2,n2',hd2⟩:=id p2;simp only at hc hd hc2 hd2;subst hc hd hc2 hd2;exact aLC ⟨_,ho,rfl⟩ ⟨_,ho2,rfl⟩ aLD seq_tuple_add aLE aLF (aLG _ _)
     (tuple_addW0 l b its.toArray its2.toArray n n2' dd dd2 sl sl2 (by simp[hv])) ⟨ho,ho2,⟨.ref b,H,I,rfl,q0 (n1.mp hv)⟩⟩
 . refine HT.yZ p1 p2 hv (λz=>⟨.ref l,H,I,rfl,q1 (λw=>hv (n1.mpr w)) (n2.mp z)⟩) (λz=>?_) (by omega)
   refine ⟨.ref s.heap.objs.size,_,I.laid (t':=s.toks) (o:=.tup (xs++ys)) (λb ob q=>hps q) (aKL _) ?_,rfl,q2 (λw=>hv (n1.mpr w)) (λw=>z (n2.mpr w)) _ (I.hok.fresh (aKL _))⟩;exact ⟨by rw[aK9];exact hz,_,r1.append r2,fA.new _ _⟩
def k7:Md->D->Md->D->Option (Md×D):=λm x n y=>match x,y with
 | .lst xs,.lst ys=>if xs.length+ys.length<=sizeLine then some (.fr,.lst (xs++ys)) else none
 | .tup xs,.tup ys=>if xs.length+ys.length<=sizeLine then some (.fz,.tup (xs++ys)) else none
 | _,_=>none
theorem aC.nilIff{K:Fg}{F:Hp}{ds:List D}{xs:List V}(h:aC K F ds xs):xs=[]↔ds=[]:=by
 have:=h.length;constructor
 . intro e;subst e;cases ds with | nil=>rfl | cons _ _=>simp at this
 . intro e;subst e;cases xs with | nil=>rfl | cons _ _=>simp at this
theorem aCP:OpD C X (binaryOp .Add) k7:=by
 refine ⟨_,aCN.or aCO,λF H m x n y v u k d Q s rx ry e w=>?_⟩;unfold k7 at e;split at e
 . rename_i xs ys;split at e
   . rename_i hz;cases e;obtain ⟨a,us,rfl,q1,r1⟩:=rx.seqL s;obtain ⟨b,vs,rfl,q2,r2⟩:=ry.seqL s;refine .inl ⟨a,b,us,vs,rfl,rfl,q1,q2,by rw[r1.length,r2.length];exact hz,λp hp=>?_⟩
     exact w (.ref p) F _ (aH.fresh _ s hp) ⟨p,rfl,s.free hp,_,bA,r1.append r2⟩ λ_ a ea=>by cases ea;exact hp
   . cases e
 . rename_i xs ys;split at e
   . rename_i hz;cases e;have ex:=rx;have ey:=ry;obtain ⟨a,us,rfl,q1,r1⟩:=rx.seqT s;obtain ⟨b,vs,rfl,q2,r2⟩:=ry.seqT s;have fz:∀ {m:Md} {zs:List D} {c:Addr},Rp X.K F H m (.tup zs) (.ref c)->aB X.K F (.tup zs) (.ref c):=λ{m zs c} h=>by
       cases m with
       | fz=>exact h
       | fr=>obtain ⟨_,_,_,q⟩:=h;exact q.elim
       | bo=>obtain ⟨_,_,_,q⟩:=h;exact q.elim
     refine .inr ⟨a,b,us,vs,rfl,rfl,q1,q2,by rw[r1.length,r2.length];exact hz,λz=>?_,λ_ z=>?_,λ_ _ p hp=>?_⟩
     . have:xs=[]:=r1.nilIff.mp z;subst this;exact w (.ref b) F H (.refl s) (fz ey) (by intro z;cases z)
     . have:ys=[]:=r2.nilIff.mp z;subst this;rw[aKZ] at w;exact w (.ref a) F H (.refl s) (fz ex) (by intro z;cases z)
     . exact w (.ref p) _ _ (aH.laid (.tup (us++vs)) s hp) (aB.tup_of (s.free hp) (r1.append r2)) (by intro z;cases z)
   . cases e
 . cases e
def eJ:List (Md×D)->Option (Md×D)
 | [(_,.lst ds)]=>some (.fz,.tup ds)
 | [(.fz,.tup ds)]=>some (.fz,.tup ds)
 | _=>none
def gH:List (Md×D)->Option (Md×D)
 | [(_,.lst ds)]=>some (.fr,.lst ds)
 | [(_,.tup ds)]=>some (.fr,.lst ds)
 | _=>none
def nE:List (Md×D)->Option (Md×D)
 | [(_,.int i)]=>some (.fz,.int i)
 | [(_,.bl b)]=>some (.fz,.int (if b then 1 else 0))
 | _=>none
def nF(i:Int):Bool:=decide (i.natAbs.log2<1920)
def nG(i:Int):Str:=Str.ofString (toString i)
def jN:List (Md×D)->Option (Md×D)
 | [(_,.int i)]=>if nF i=true then some (.fz,.str (nG i)) else none
 | _=>none
theorem aCQ:c7 X (.type "tuple") eJ:=by
 refine ⟨_,zR,λF H xs vs k d Q s rx e w=>?_⟩;unfold eJ at e;split at e
 . rename_i m ds;cases e;obtain ⟨v,rfl,r⟩:=rx.one;obtain ⟨a,xs,rfl,q,rl⟩:=r.seqL s;exact ⟨a,xs,rfl,.inl ⟨q,λl hl=>w (.ref l) _ _ (aH.laid (.tup xs) s hl) (aB.tup_of (s.free hl) rl) (by intro z;cases z)⟩⟩
 . rename_i ds;cases e;obtain ⟨v,rfl,r⟩:=rx.one;have r0:=r;obtain ⟨a,xs,rfl,q,rl⟩:=r.seqT s;exact ⟨a,xs,rfl,.inr ⟨q,w (.ref a) F H (.refl s) r0 (by intro z;cases z)⟩⟩
 . cases e
theorem aCR:c7 X (.type "list") gH:=by
 refine ⟨_,zQ,λF H xs vs k d Q s rx e w=>?_⟩;unfold gH at e;split at e
 . rename_i m ds;cases e;obtain ⟨v,rfl,r⟩:=rx.one;obtain ⟨a,xs,rfl,q,rl⟩:=r.seqL s;exact ⟨a,xs,rfl,.inl q,λl hl=>w (.ref l) F _ (aH.fresh _ s hl) ⟨l,rfl,s.free hl,xs,bA,rl⟩ λ_ a ea=>by cases ea;exact hl⟩
 . rename_i m ds;cases e;obtain ⟨v,rfl,r⟩:=rx.one;obtain ⟨a,xs,rfl,q,rl⟩:=r.seqT s;exact ⟨a,xs,rfl,.inr q,λl hl=>w (.ref l) F _ (aH.fresh _ s hl) ⟨l,rfl,s.free hl,xs,bA,rl⟩ λ_ a ea=>by cases ea;exact hl⟩
 . cases e
theorem aCS:c7 X (.type "int") nE:=by
 refine ⟨_,yN,λF H xs vs k d Q s rx e w=>?_⟩;unfold nE at e;split at e
 . cases e;obtain ⟨v,rfl,r⟩:=rx.one;cases r.int;exact .inl ⟨_,rfl,w _ F H (.refl s) (bR _) (by intro z;cases z)⟩
 . cases e;obtain ⟨v,rfl,r⟩:=rx.one;cases r.bl;exact .inr ⟨_,rfl,w _ F H (.refl s) (bR _) (by intro z;cases z)⟩
 . cases e
end
theorem aCT(i:Int):PyData.strOk (Str.ofString (toString i))=true:=by
 unfold PyData.strOk;rw[aMG];intro c hc;have hc':c∈(Str.ofString (toString i)).cps.toList:=by rw[aKS];exact hc
 have:¬ (c≠45/\(c<48\/57<c)):=λh=>int_text_free' c h i hc';have hb:c<58:=by omega
 simp;omega
section
variable {X:Cx}
theorem aCU:c7 X (.type "str") jN:=by
 refine ⟨_,yO,λF H xs vs k d Q s rx e w=>?_⟩;unfold jN at e;split at e
 . rename_i m i;split at e
   . rename_i hs;cases e;obtain ⟨v,rfl,r⟩:=rx.one;cases r.int;have hl:i.natAbs.log2<1920:=aME hs;have h1:(nG i).length<=1921:=int_text_len_1921 hl;have hz:sizeLine=16777216:=aKQ;exact ⟨i,rfl,hl,w _ F H (.refl s) (hG ⟨by omega,aCT i⟩) (by intro z;cases z)⟩
   . cases e
 . cases e
end
theorem aCV{C:Cw}{X:Cx}{T:String}{φ}{x:Str}{e:Expr}{es:List Expr}{gs:Rho->aT}{p pos:Pos}(o:c7 X (.type T) φ)(hg:Gl X x)(hm:X.mg x=none)(hv:bootBuiltins x=some (.type T))(ha:PAv C X (e::es) gs)(hn:x ≠ "__name__")(hdb:(x==("__debug__" : Str))=false)(hst:∀ x∈e::es,bX x=true):PV C X (.Call (.Name x p) (e::es) [] pos) (λρ=>eF φ (gs ρ)):=by obtain ⟨r,h1,h2⟩:=o;exact PE.imp (qM h1 hg hm hv ha hn hdb (cC (hst e mcs)) (jM _ _ λy hy=>hst y (mcm hy))) λσ H Q q=>rK h2 q
section
variable {prog:Program}{w:World}{A:Around}{E:VSP}{s:Shared}
theorem aCW{l:Addr}{items:Array Value}{Q:List Value->Shared->Prop}(hA:A.handled=none)(ht:s.heap.IsList l items)(h:∀ h',Heap.ExtBut s.heap.objs.size s.heap h'->∀ tk,Q items.toList { s with heap:=h',toks:=tk }):wpAny (model prog w) A (unpackItems (.ref l) items.size none) Q E s:=by
 unfold unpackItems notIterableAtAll;refine aKI (aKI (aL4 ht.typeIs PySem.F.slot_list_iter.lookup ?_));refine aKH ?_;dsimp only;rw[if_neg aKT];refine aKI (aLM (aKK ht ?_));have hlt:l<s.heap.objs.size:=by obtain ⟨o,e,_⟩:=ht;exact aJY e
 have hne:l≠s.heap.objs.size:=aJ1 hlt;have keep:∀ b o,s.heap.get? b=some o->(s.heap.push { cls:=Value.type "list_iterator", data:=Data.fields #[Value.ref l,Value.int 0 0] }).get? b=some o:=λb o q=>hps q;have ht':(s.heap.push { cls:=Value.type "list_iterator", data:=Data.fields #[Value.ref l,Value.int 0 0] }).IsList l items:=by obtain ⟨o,e,c⟩:=ht;exact ⟨o,keep l o e,c⟩
 have hi':(s.heap.push { cls:=Value.type "list_iterator", data:=Data.fields #[Value.ref l,Value.int 0 0] }).IsListIter s.heap.objs.size l 0:=⟨_,aJX _ rfl,rfl,rfl⟩;refine aKI (aLM (PySem.W.kun_draw hne items.size 0 _ _ hi' ht' (by omega) λh' hi hsb=>?_))
 have ei:List.take items.size (List.drop 0 items.toList)=items.toList:=by rw[aMX];exact aMY (by simp)
 rw[ei];rw[if_neg (by simp)]
 have hl2:h'.IsList l items:=by obtain ⟨o,e,c⟩:=ht';exact ⟨o,by rw[hsb.2 l hne];exact e,c⟩
 rw[Nat.zero_add] at hi;refine aKI (aLM ((Walks.list hA s.heap.objs.size l hne items).done _ _ _ ⟨hi,hl2⟩ λh2 tk k2=>?_));rw[if_neg (by simp)]
 refine aKH (h h2 (λb o hb e=>k2 b o (by simpa using hb) ?_) tk)
 show h'.get? b=some o;rw[hsb.2 b hb];exact keep b o e
theorem aCX{env:Env}{elts:List Expr}{k:Nat}{pos:Pos}{l:Addr}{items:Array Value}{Q:Unit->Shared->Prop}(hA:A.handled=none)(ht:s.heap.IsList l items)(hn:(assignEach elts env).length=items.size)(hst:(assignEach elts env).findIdx? (·.1)=none)(h:∀ h',Heap.ExtBut s.heap.objs.size s.heap h'->∀ tk,wpAny (model prog w) A (assignInOrder ((assignEach elts env).map (·.2)) items.toList) Q E { s with heap:=h',toks:=tk }):wpAny (model prog w) A (assign (.Tuple elts k pos) env (.ref l)) Q E s:=by rw[assign_Tuple];refine aKI (wpAny_standAt ?_);unfold unpack;rw[hst,hn];exact aKI (aLM (aCW hA ht h))
theorem aCY{t sl:Addr}{items:Array Value}{vl vu:Value}{lo hi:Option Int}{Q:VSP}(ht:IsTup s.heap t items)(hs:s.heap.IsSliceOf sl vl vu .none)(pl:IsPart vl lo)(pu:IsPart vu hi)(h0:HT.sIx items.size 0 lo=0)(h1:HT.sIx items.size items.size hi=items.size)(h:Q (.ref t) s):wpAny (model prog w) A (getItem (.ref t) (.ref sl)) Q E s:=by
 obtain ⟨os,hos,hcs,hds⟩:=id hs;have tS:s.TypeIs (.ref sl) "slice" := ⟨os,hos,hcs⟩;unfold getItem
 try with_reducible refine aLM ?_
 first | refine aKI (aKH ?_) | skip
 refine aKI (wpAny_sequenceKey ht.typeIs (by decide) (aKI (aLN (name:=Str.ofString "__getitem__") ht.typeIs aLO (aLP aLO ht.typeIs entry_tuple_getitem ?_ (args_tuple_getitem _ _)))))
 show wpAny _ _ (Builtin.Tuple.tupleItemsOf (.ref t) >>= _) _ _ s;refine aKI (tupleItemsOf_ ht (aKI (aLQ tS ?_)));rw[if_pos (by decide)]
 refine aKI (HT.qR hs pl pu ?_);have yes:(((HT.sIx items.size 0 lo:Nat):Int)==0&&(1:Int)==1&&(HT.sIx items.size items.size hi-HT.sIx items.size 0 lo)==items.size)=true:=by rw[h0,h1];simp
 show wpAny _ _ (if (((HT.sIx items.size 0 lo:Nat):Int)==0&&(1:Int)==1&&(HT.sIx items.size items.size hi-HT.sIx items.size 0 lo)==items.size)=true then _ else _) _ _ s;rw[if_pos yes];unfold Builtin.Tuple.tupleIsExact;refine aKI (aKI (aLQ ht.typeIs (aKH ?_)));rw[if_pos (by decide)]
 refine aKI (wpAny_rule ?_)
 first
  | exact aKH ⟨_,rfl,aKH h⟩
  | exact ⟨_,rfl,aKH h⟩
end
section
variable {X:Cx}{pos:Pos}
def rSlW(K:Fg):V->Option Int->Option Int->Hp->VK->Prop:=λx lo hi H Q=>∃ a xs,x=.ref a/\SqT K H a xs/\(HT.sIx xs.length 0 lo=0/\HT.sIx xs.length xs.length hi=xs.length)/\Q x H
theorem aCZ:SlR X (rSlW X.K):=by
 intro aA s σ H x v vl vu lo hi sl Q I rx hs pl pu h;obtain ⟨a,xs,rfl,hx,hw,q⟩:=h;cases rx;obtain ⟨its,r,ht,hz⟩:=I.tuple hx;have hlen:its.toArray.size=xs.length:=by rw[aKR];exact r.length.symm
 exact ⟨"tuple", _,PyProof.Rows.slot_tuple_getitem.lookup,ht.typeIs,aCY ht hs pl pu (by rw[hlen];exact hw.1) (by rw[hlen];exact hw.2) ⟨.ref a,H,I,rfl,q⟩⟩
def gSeq(K:Fg)(n:Nat)(t:TGs):TG:=λv σ H Q=>∃ a xs,v=.ref a/\(SqT K H a xs\/SqL K H a xs)/\xs.length=n/\t xs σ H Q
theorem aC0{es:List Expr}{k:Nat}{t:TGs}{n:Nat}(hc:X.calm=true)(h:PGs X es t)(hn:(assignEach es X.env).length=n)(hst:(assignEach es X.env).findIdx? (·.1)=none):PG X (.Tuple es k pos) (gSeq X.K n t):=by
 intro aA s σ H v u Q I r hw;obtain ⟨a,xs,e1,hq,hl,hw⟩:=hw;rcases hq with hq | hq
 . exact xK hc h hn hst aA s σ H v u Q I r ⟨a,xs,e1,hq,hl,hw⟩
 . subst e1;cases r;obtain ⟨its,rv,ht,hz⟩:=I.list hq;refine aCX (I.ok.hd hc) ht.isList (by simp[hn,<- hl,rv.length]) hst λh' hx tk=>?_
   have I1:Inv X aA σ H { s with heap:=h',toks:=tk }:=I.kept (t':=tk) λb o e=>hx b o (aJ1 (aJY e)) e
   exact h aA _ σ H xs _ Q I1 (by simpa using rv) hw
end
inductive Tg where
 | nm (i:Nat) | tp (ts:List Tg)
mutual
def aU:Tg->D->Rho->Option Rho
 | .nm i,d,ρ=>some (ρ.set i (some (false,d)))
 | .tp ts,d,ρ=>match d with
  | .tup ds=>cM ts ds ρ
  | .lst ds=>cM ts ds ρ
  | _=>none
def cM:List Tg->List D->Rho->Option Rho
 | [],ds,ρ=>if ds.isEmpty then some ρ else none
 | t::ts,ds,ρ=>match ds with
  | d::ds=>(match aU t d ρ with | some ρ1=>cM ts ds ρ1 | none=>none)
  | []=>none
end
mutual
def eK:Tg->List Nat
 | .nm i=>[i]
 | .tp ts=>k8 ts
def k8:List Tg->List Nat
 | []=>[]
 | t::ts=>eK t++k8 ts
end
mutual
def gOf(K:Fg):Tg->TG
 | .nm i=>i6 i
 | .tp ts=>gSeq K ts.length (fR K ts)
def fR(K:Fg):List Tg->TGs
 | []=>gNil
 | t::ts=>qC (gOf K t) (fR K ts)
end
def PGw(X:Cx)(tg:Expr)(t:Tg):Prop:=PG X tg (gOf X.K t)
def gI(X:Cx)(tgs:List Expr)(ts:List Tg):Prop:=PGs X tgs (fR X.K ts)
def iB:Expr->Bool | .Starred ..=>false | _=>true
theorem r8{e:Expr}{es:List Expr}{env:Env}(h:iB e=true):assignEach (e::es) env=(false,assign e env)::assignEach es env:=by cases e <;> first | rfl | cases h
theorem nH:∀ {ts:List Tg} {ds:List D} {ρ ρ':Rho},cM ts ds ρ=some ρ'->ds.length=ts.length
 | [],ds,ρ,ρ',e=>by
  simp only[cM] at e;split at e
  . rename_i h;have:ds=[]:=by simpa using h
    subst this;rfl
  . cases e
 | t::ts,ds,ρ,ρ',e=>by
  simp only[cM] at e;split at e
  . split at e
    . rw[aMC,aMC,nH e]
    . cases e
  . cases e
mutual
theorem nI{K:Fg}{F0 H0:Hp}:∀ (t:Tg) {F H:Hp} {σ:L2.St} {ρ ρ':Rho} {d:D} {v:V} {Q:L2.St->Hp->Prop},aR K F0 H0 F H σ ρ->aB K F d v->aU t d ρ=some ρ'->(∀ σ',aR K F0 H0 F H σ' ρ'->σ'.length=σ.length->(∀ j,j∉eK t->σ'[j]? = σ[j]?)->Q σ' H)->gOf K t v σ H Q
 | .nm i,F,H,σ,ρ,ρ',d,v,Q,R,r,e,w=>by
  simp only[aU] at e;cases e;simp only[gOf];refine w _ (R.set (m:=false) (.refl R.sub) r (by intro z;cases z)) (by rw[aLV]) λj hj=>?_
  simp only[eK,aMZ] at hj;rw[aKC (λz=>hj z.symm)]
 | .tp ts,F,H,σ,ρ,ρ',d,v,Q,R,r,e,w=>by
  simp only[aU] at e;split at e
  . rename_i ds;simp only[aB] at r;obtain ⟨a,xs,rfl,hq,rl⟩:=r;simp only[gOf];refine ⟨a,xs,rfl,.inl (aE.seqT R.sub hq),by rw[rl.length];exact nH e,nJ ts R rl e ?_⟩
    simp only[eK] at w;exact w
  . rename_i ds;simp only[aB] at r;obtain ⟨a,xs,rfl,hq,rl⟩:=r;simp only[gOf];refine ⟨a,xs,rfl,.inr (R.sub.seq hq),by rw[rl.length];exact nH e,nJ ts R rl e ?_⟩
    simp only[eK] at w;exact w
  . cases e
theorem nJ{K:Fg}{F0 H0:Hp}:∀ (ts:List Tg) {F H:Hp} {σ:L2.St} {ρ ρ':Rho} {ds:List D} {vs:List V} {Q:L2.St->Hp->Prop},aR K F0 H0 F H σ ρ->aC K F ds vs->cM ts ds ρ=some ρ'->(∀ σ',aR K F0 H0 F H σ' ρ'->σ'.length=σ.length->(∀ j,j∉k8 ts->σ'[j]? = σ[j]?)->Q σ' H)->fR K ts vs σ H Q
 | [],F,H,σ,ρ,ρ',ds,vs,Q,R,r,e,w=>by
  simp only[cM] at e;split at e
  . cases e;rename_i hd;have:ds=[]:=by simpa using hd
    subst this;simp only[aC] at r;simp only[fR];exact ⟨r,w σ R rfl λ_ _=>rfl⟩
  . cases e
 | t::ts,F,H,σ,ρ,ρ',ds,vs,Q,R,r,e,w=>by
  simp only[cM] at e;split at e
  . rename_i d ds';split at e
    . rename_i ρ1 e1;simp only[aC] at r;obtain ⟨y,ys,rfl,r1,r2⟩:=r;simp only[fR];refine ⟨y,ys,rfl,nI t R r1 e1 λσ1 R1 l1 k1=>nJ ts R1 r2 e λσ2 R2 l2 k2=>w σ2 R2 (l2.trans l1) λj hj=>?_⟩;simp only[k8,aJ8,not_or] at hj;rw[k2 j hj.2,k1 j hj.1]
    . cases e
  . cases e
end
section
variable {C:Cw}{X:Cx}{pos:Pos}
theorem aC1{x:Str}{i:Nat}(hN:X.N.Nodup)(hi:X.N[i]? = some x)(hx:L2.Loc X.env.scope x)(hf:X.fn x=true\/X.env.scope.names.lookup x=some .local):PGw X (.Name x pos) (.nm i):=by unfold PGw;simp only[gOf];exact xH hN hi hx hf
theorem aC2:gI X [] []:=by unfold gI;simp only[fR];exact xI
theorem aC3{e:Expr}{es:List Expr}{t:Tg}{ts:List Tg}(h1:PGw X e t)(h2:gI X es ts)(hs:iB e=true):gI X (e::es) (t::ts):=by unfold gI;simp only[fR];exact xJ h1 h2 (by rw[r8 hs];rfl)
theorem aC4{es:List Expr}{env:Env}(hs:∀ e∈es,iB e=true):(assignEach es env).length=es.length/\(assignEach es env).findIdx? (·.1)=none:=by
 induction es with
 | nil=>exact ⟨rfl,rfl⟩
 | cons e es ih =>
  obtain ⟨h1,h2⟩:=ih λx hx=>hs x (mcm hx);rw[r8 (hs e mcs)];refine ⟨by rw[aMC,aMC,h1],?_⟩
  rw[List.findIdx?_cons];simp[h2]
theorem aC5{es:List Expr}{ts:List Tg}{k:Nat}(hc:X.calm=true)(h:gI X es ts)(hs:∀ e∈es,iB e=true)(hl:es.length=ts.length):PGw X (.Tuple es k pos) (.tp ts):=by have st:=aC4 (env:=X.env) hs;unfold PGw;simp only[gOf];exact aC0 (n:=ts.length) hc h (by rw[st.1,hl]) st.2
theorem aC6{tg:Expr}{t:Tg}(h:PGw X tg t):PGv C X tg (aU t) :=
 ⟨_,h,λF H σ ρ ρ' d v Q R r e w=>nI t R r e λσ' R' _ _=>w σ' F H (aE.refl _) R'⟩
end
section
variable {C:Cw}{X:Cx}{e:Expr}{g:Rho->Res}{pos p:Pos}
theorem r9{t:Tg}{tgN:List Str}{aD:List Nat}{gi gt ge:Rho->Res}(hsl:∀ j∈eK t,aD.length<=j){σ:L2.St}{H:Hp}{Q:VK}(q:tG (C.at X) (λρ=>dB (gi ρ) ρ aD tgN.length (aU t) gt ge) σ H Q):jH aD tgN.length (tIv (C.at X) gi) (gOf X.K t) (tT (C.nox.at X) gt) (tG (C.nox.at X) λρ=>a5 (ge ρ)) σ H Q:=by
 rw[aV] at q;obtain ⟨ρ,F,RS,w⟩:=q;unfold jH;refine ⟨ρ,F,RS,?_⟩;cases er:gi ρ with
 | stuck=>rw[er] at w;exact w
 | exc c=>rw[er] at w;exact w
 | ok m d =>
  rw[er] at w;cases d with
  | lst ds =>
   unfold dB at w;rw[Res.thn_ok] at w;dsimp only at w;split at w
   . rename_i hsz;intro J F1 H1 s1 hJ Da hDa;cases et:eI (aU t) gt ge (cL aD ρ++List.replicate tgN.length none) ds with
     | none=>rw[et] at w;exact w.elim
     | some total =>
      rw[et] at w;have hD0:H Da=none:=s1.same.free hDa;have hF1:F1 Da=none:=s1.sub.free hDa;have R0:=aB2 aD tgN.length RS;refine ⟨λi m ys H'=>m=ds.length-i/\i<=ds.length/\H' Da=some (.lst ys)/\∃ F' zs,aH F H F' H'/\aE F1 F'/\F' Da=none/\aC X.K F' zs ys/\zs.length<=i /\
       ∃ aL,eI (aU t) gt ge (cL aD ρ++List.replicate tgN.length none) (ds.drop i)=some aL/\total=zs++aL,
       ⟨ds.length,by simp,aKX _,bA,F1,[],s1.upd hD0 hF1,aE.refl _,hF1,aC.nil,aKL _,total,by simpa using et,rfl⟩,?_⟩
      rintro i m ys H' ⟨rfl,hile,hD,F',zs,st,sF,hFD,rz,hzl,aL,ec,etot⟩;refine ⟨hD,?_⟩;by_cases hlt:i<ds.length
      . refine .inr ⟨hJ.go i H' (sF.trans st.sub) hlt,by rw[rz.length];omega,λv H2 y=>?_⟩
        obtain ⟨F2,d,ed,s2,rd⟩:=hJ.yld i F' H' v H2 sF st.sub hlt y;have hd:ds.drop i=d::ds.drop (i+1):=by rw[List.drop_eq_getElem_cons hlt];rw[aMO hlt] at ed;cases ed;rfl
        rw[hd] at ec;unfold eI at ec;have hD2:H2 Da=some (.lst ys):=s2.same _ _ hD;have hF2:F2 Da=none:=s2.new _ hFD (by rw[hD];exact λz=>nomatch z)
        cases eg:aU t d (cL aD ρ++List.replicate tgN.length none) with
        | none=>rw[eg] at ec;cases ec
        | some ρ1 =>
        rw[eg] at ec;dsimp only at ec;have R2:=(R0.step st).step s2;refine nI t R2 rd eg λσ1 R1 len1 keep1=>?_;refine ⟨⟨len1.symm,λj u ej=>?_⟩,ρ1,F2,R1,?_⟩
        . by_cases hj:j∈eK t
          . have:=hsl j hj;rw[aK4 (by simpa[dA] using this),aK5] at ej
            split at ej <;> cases ej
          . rw[keep1 j hj];exact ej
        cases ett:gt ρ1 with
        | stuck=>rw[ett] at ec;cases ec
        | exc c=>rw[ett] at ec;cases ec
        | ok mt dt =>
         cases dt with
         | bl b =>
          rw[ett] at ec;intro F3 H3 s3;have hD3:H3 Da=some (.lst ys):=s3.same _ _ hD2;have hF3:F3 Da=none:=s3.new _ hF2 (by rw[hD2];exact λz=>nomatch z)
          cases b with
          | false=>rw[if_neg aKT];exact ⟨ds.length-(i+1),by omega,rfl,hlt,hD3,F3,zs,(st.trans s2).trans s3,(sF.trans s2.fsame).trans s3.fsame,hF3,rz.mono (s2.fsame.trans s3.fsame) _ _,Nat.le_succ_of_le hzl,aL,ec,etot⟩
          | true =>
           rw[if_pos rfl,aV];refine ⟨_,F3,R1.step s3,?_⟩;dsimp only at ec;cases ee:a5 (ge ρ1) with
           | stuck=>rw[ee] at ec;cases ec
           | exc c=>rw[ee] at ec;cases ec
           | ok me ye =>
            rw[ee] at ec;dsimp only at ec;have hme:me=.fz:=by
             cases h:ge ρ1 with
             | ok m' d'=>rw[h] at ee;cases m' <;> cases ee <;> rfl
             | exc c=>rw[h] at ee;cases ee
             | stuck=>rw[h] at ee;cases ee
            subst hme;cases er2:eI (aU t) gt ge (cL aD ρ++List.replicate tgN.length none) (ds.drop (i+1)) with
            | none=>rw[er2] at ec;cases ec
            | some rest' =>
             rw[er2] at ec;cases ec;intro u F4 H4 s4 ru _;have hD4:H4 Da=some (.lst ys):=s4.same _ _ hD3;have hF4:F4 Da=none:=s4.new _ hF3 (by rw[hD3];exact λz=>nomatch z)
             refine ⟨hD4,ds.length-(i+1),by omega,rfl,hlt,bA,F4,zs++[ye],(((st.trans s2).trans s3).trans s4).upd hD0 hF4,((sF.trans s2.fsame).trans s3.fsame).trans s4.fsame,hF4,?_,by simp;omega,rest',er2,by rw[etot];simp⟩
             exact aC.append (rz.mono ((s2.fsame.trans s3.fsame).trans s4.fsame) _ _) (aC.cons ru aC.nil)
         | _=>rw[ett] at ec;cases ec
      . have ei:i=ds.length:=by omega
        subst ei;rw[aMP] at ec;cases ec;rw[aKZ] at etot;subst etot;exact .inl ⟨hJ.stop _ H' (sF.trans st.sub) (aKL _),w (.ref Da) F' H' st ⟨Da,rfl,hFD,ys,hD,rz⟩ λ_ a ea=>by cases ea;exact hD0⟩
   . exact w.elim
  | _=>exact w.elim
theorem aC7{aO elt tg:Expr}{t:Tg}{tgN:List Str}{ifs:List Expr}{scope:Scope}{aD:List Nat}{aF:List Str}{gi gt ge:Rho->Res}(hc:X.calm=true)(hi:PIv C X tg aO gi)(cJ:∀ y∈scope.names,y.2 ≠ .cell)(cU:scope.kind=.function)(eQ:∀ y∈scope.names,y.2=.local->scope.names.lookup y.1=some .local)(cV:∀ y∈scope.names,y.2=.free->X.env.kindOf y.1=some .cell\/X.env.kindOf y.1=some .free)(dO:aF.map some=aD.map λi=>X.N[i]?)(eT:∀ y∈aF,(y,NameKind.free)∈scope.names)(eR:∀ y∈aF,(relabel scope X.env).names.lookup y=some .cell\/(relabel scope X.env).names.lookup y=some .free)(hsl:∀ j∈eK t,aD.length<=j)(hg:∀ cl A fp s3 H3,PGw (bB X scope (aF++tgN) cl A fp s3 H3) tg t)(hf:∀ cl A fp s3 H3,cS (bB X scope (aF++tgN) cl A fp s3 H3) ifs (tT (C.nox.at X) gt))(he:∀ cl A fp s3 H3,PV C.nox (bB X scope (aF++tgN) cl A fp s3 H3) elt ge)(hs:∀ x,foldedSetIterable aO X.env x=pure x:=by intro _;rfl):PV C X (.ListComp elt [⟨tg,aO,ifs,0⟩] scope pos) (λρ=>dB (gi ρ) ρ aD tgN.length (aU t) gt ge):=by
 have capLen:aF.length=aD.length:=by simpa using congrArg List.length dO
 refine PE.imp (aBY (aF:=aF) (tgN:=tgN) (gt:=gOf X.K t) (tt:=tT (C.nox.at X) gt) (te:=tG (C.nox.at X) λρ=>a5 (ge ρ)) hc hi cJ cU eQ cV dO eT eR
  hg hf (λcl A fp s3 H3=>fN (he cl A fp s3 H3)) hs) λσ H Q q=>r9 hsl q
theorem aC8(fz:Bool){i:Nat}{x:Str}{pos' spos:Pos}{aO elt tg:Expr}{t:Tg}{tgN:List Str}{ifs:List Expr}{scope:Scope}{aD:List Nat}{aF:List Str}{gi gt ge:Rho->Res}(hc:X.calm=true)(hi:PIv C X tg aO gi)(cJ:∀ y∈scope.names,y.2 ≠ .cell)(cU:scope.kind=.function)(eQ:∀ y∈scope.names,y.2=.local->scope.names.lookup y.1=some .local)(cV:∀ y∈scope.names,y.2=.free->X.env.kindOf y.1=some .cell\/X.env.kindOf y.1=some .free)(dO:aF.map some=aD.map λi=>X.N[i]?)(eT:∀ y∈aF,(y,NameKind.free)∈scope.names)(eR:∀ y∈aF,(relabel scope X.env).names.lookup y=some .cell\/(relabel scope X.env).names.lookup y=some .free)(hsl:∀ j∈eK t,aD.length<=j)(hg:∀ cl A fp s3 H3,PGw (bB X scope (aF++tgN) cl A fp s3 H3) tg t)(hf:∀ cl A fp s3 H3,cS (bB X scope (aF++tgN) cl A fp s3 H3) ifs (tT (C.nox.at X) gt))(he:∀ cl A fp s3 H3,PV C.nox (bB X scope (aF++tgN) cl A fp s3 H3) elt ge)(hN:X.N.Nodup)(hx:X.N[i]? = some x)(hk:X.env.scope.names.lookup x=some .local)(hsw:swapsWith (.ListComp elt [⟨tg,aO,ifs,0⟩] scope pos) (some (.Name x pos')) spos.line X.env=pure true)(hs:∀ x,foldedSetIterable aO X.env x=pure x:=by intro _;rfl):PSv C X (.Assign [.Name x pos'] (.ListComp elt [⟨tg,aO,ifs,0⟩] scope pos) spos) (λρ=>dR ρ i (if fz=true then a5 (dB (gi ρ) ρ aD tgN.length (aU t) gt ge) else dB (gi ρ) ρ aD tgN.length (aU t) gt ge)):=by
 refine PS.imp (aBZ (aF:=aF) (tgN:=tgN) (gt:=gOf X.K t) (tt:=tT (C.nox.at X) gt) (te:=tG (C.nox.at X) λρ=>a5 (ge ρ)) hc hi cJ cU eQ cV dO eT eR
  hg hf (λcl A fp s3 H3=>fN (he cl A fp s3 H3)) hN hx hk hsw hs) λE σ H q=>r9 hsl ?_
 cases fz with
 | false=>exact m9 q
 | true=>have q:=m9 q;unfold kH at q;rw[aV] at q ⊢;obtain ⟨ρ,F,R,w⟩:=q;exact ⟨ρ,F,R,aX.frz w⟩
end
section
variable {C:Cw}{X:Cx}{e:Expr}{g:Rho->Res}{pos p:Pos}
end
inductive PVL(C:Cw)(X:Cx):List Expr->List (Rho->Res)->Prop where
 | nil:PVL C X [] []
 | cons {e:Expr} {g:Rho->Res} {es:List Expr} {gs:List (Rho->Res)} (h:PV C X e g) (r:PVL C X es gs):PVL C X (e::es) (g::gs)
inductive LtI(A:Around)(s:Shared):List Value->List Value->Bool->Prop where
 | nn:LtI A s [] [] false
 | nc {w:Value} {ws:List Value}:LtI A s [] (w::ws) true
 | cn {v:Value} {vs:List Value}:LtI A s (v::vs) [] false
 | eq {v w:Value} {vs ws:List Value} {b:Bool} (h:SeqAt.EqAt A s v w true) (r:LtI A s vs ws b):LtI A s (v::vs) (w::ws) b
 | ne {v w:Value} {vs ws:List Value} {b:Bool} (h:SeqAt.EqAt A s v w false) (l:∀ (prog:Program) (w':World) (E:VSP) (Q:VSP),Q (.bool b) s->wpAny (model prog w') A (richCompare .Lt v w) Q E s):LtI A s (v::vs) (w::ws) b
section
open PySem.SeqAt
open PySem.AutoSeq1 (wpAny_loadPart')
open PySem.MeetsSeq PySem.MeetsSeq2 PySem.MeetsSeq3
theorem aC9(l b:Addr)(items items2:Array Value)(n n2:Nat)(dd dd2:Option Addr)(sl sl2:Array (Option Value))(r:Bool):Meets (Builtin.«tuple.__lt__» ⟨[.ref l,.ref b],[]⟩) (λA R s=>s.heap.get? l=some { cls:=.type "tuple", dict:=dd,data:=.seq items n,slots:=sl }/\s.heap.get? b=some { cls:=.type "tuple", dict:=dd2,data:=.seq items2 n2,slots:=sl2 }/\LtI A.in1 s items.toList items2.toList r/\R (.ok (.ret (.bool r))) s) :=
 .of_wp λprog w A R s h=>by
  obtain ⟨hp,g,d,tk,os⟩:=s;obtain ⟨hl,hb,hi,h⟩:=h;have f2:=AutoSeq1.sub_tuple_tuple
  wp_walk using wpAny_loadPart' hl,wpAny_loadPart' hb,aL6 _ (λaL b s'=>b.1=none/\s'=⟨hp,g,d,tk,os⟩/\∃ (vs ws:List Value),aL=vs.zip ws /\
   LtI A.in1 ⟨hp,g,d,tk,os⟩ vs ws r/\vs.length+items2.size=ws.length+items.size) _
  case turn =>
   rintro ⟨y,x⟩ aL b s' ⟨hb',rfl,vs,ws,hz,hvi,hlen⟩;cases hvi with
   | nn=>rw[List.zip_nil_left] at hz;cases hz
   | nc=>rw[List.zip_nil_left] at hz;cases hz
   | cn=>rw[List.zip_nil_right] at hz;cases hz
   | eq he hr =>
    rw[aM0] at hz;injection hz with hyx hrest
    injection hyx with hy hx
    subst hy hx;simp only[aMC] at hlen;refine aKI (he prog w _ _ ?_)
    wp_walk
    exact ⟨rfl,rfl,_,_,hrest,hr,by omega⟩
   | ne he hr =>
    rw[aM0] at hz;injection hz with hyx hrest
    injection hyx with hy hx
    subst hy hx;refine aKI (he prog w _ _ ?_);have hri:=hr prog w
    wp_walk using hri
    exact ⟨_,rfl,by simpa using h⟩
  case fin =>
   rintro ⟨b1,b2⟩ s' ⟨hb',rfl,vs,ws,hz,hvi,hlen⟩;simp only at hb';subst hb';have hv:r=decide (items.size<items2.size):=by
    cases hvi with
    | nn=>simp only[aM1] at hlen;exact (aJU (by omega)).symm
    | nc=>simp only[aM1,aMC] at hlen;exact (aLZ (by omega)).symm
    | cn=>simp only[aM1,aMC] at hlen;exact (aJU (by omega)).symm
    | eq he hr=>rw[aM0] at hz;cases hz
    | ne he hr=>rw[aM0] at hz;cases hz
   rw[hv] at h
   wp_walk
   exact ⟨_,rfl,by simpa[Builtin.Tuple.tupleCompareSizes] using h⟩
  case h=>exact ⟨rfl,rfl,items.toList,items2.toList,rfl,hi,by simp[Nat.add_comm]⟩
end
section
variable {prog:Program}{w:World}{A:Around}{E:VSP}{s:Shared}
theorem aDA{l b:Addr}{items items2:Array Value}{r:Bool}{Q:VSP}(hl:IsTup s.heap l items)(hb:IsTup s.heap b items2)(hi:LtI (A.in1) s items.toList items2.toList r)(hu:A.units<cLine)(h:Q (.bool r) s):wpAny (model prog w) A (compareOp .Lt (.ref l) (.ref b)) Q E s:=by
 obtain ⟨⟨cls,dd,data,sl⟩,ho,hc,n,hd⟩:=id hl;obtain ⟨⟨cls2,dd2,data2,sl2⟩,ho2,hc2,n2,hd2⟩:=id hb;simp only at hc hd hc2 hd2;subst hc hd hc2 hd2;exact richCompare_meets_room (op:=.Lt) ⟨_,ho,rfl⟩ ⟨_,ho2,rfl⟩ PySem.F.slot_tuple_lt PySem.F.entry_tuple_lt (PySem.F.args_tuple_lt_2 _ _) (aC9 l b items items2 n n2 dd dd2 sl sl2 r)
  ⟨ho,ho2,hi,show Value.bool r≠Value.notImplemented/\Q (.bool r) s from ⟨(λx=>nomatch x),h⟩⟩ hu
end
section
variable {C:Cw}{X:Cx}
def iC:List (Md×D)->Option (Md×D):=λxs=>match xs with
 | [(_,.str z)]=>if z.length<=640 then (PySem.intText? z).map λn=>(.fz,.int n) else none
 | _=>nE xs
theorem aDB:c7 X (.type "int") iC:=by
 obtain ⟨r,h1,h2⟩:=aCS (X:=X);refine ⟨λxs H Q=>r xs H Q\/∃ z n,xs=[.str z]/\z.length<=640/\PySem.intText? z=some n/\Q (.int n) H,?_,λF H xs vs k d Q s rx e w=>?_⟩
 . intro aA s σ H xs us Q I rr h;rcases h with h | ⟨z,n,rfl,hl,hn,q⟩
   . exact h1 aA s σ H xs us Q I rr h
   . obtain ⟨u,rfl,t,rfl⟩:=dP rr;exact PySem.W.KIN.call_text hn hl ⟨.int n,H,I.tok _,⟨_,rfl⟩,q⟩
 . unfold iC at e;split at e
   . rename_i m z;split at e
     . rename_i hl;cases en:PySem.intText? z with
       | none=>rw[en] at e;cases e
       | some n=>rw[en] at e;cases e;obtain ⟨v,rfl,r0⟩:=rx.one;obtain ⟨rfl,_⟩:=r0.str;exact .inr ⟨z,n,rfl,hl,en,w _ F H (.refl s) (bR _) (by intro z;cases z)⟩
     . cases e
   . exact .inl (h2 F H xs vs k d Q s rx e w)
end
section
open PySem.SeqAt
open PySem.AutoSeq1 (wpAny_loadPart')
open PySem.MeetsSeq PySem.MeetsSeq2 PySem.MeetsSeq3
variable {prog:Program}{w:World}{A:Around}{E:VSP}{s:Shared}
end
section
variable {X:Cx}{aA:LAO}{σ:L2.St}{H:Hp}{s:Shared}{h':Heap}
end
section
variable {C:Cw}{X:Cx}{tg e:Expr}{g:Rho->Res}{gs:Rho->aT}{pos p:Pos}
end
open PySem.AutoSeq1 (wpAny_loadPart')
section
variable {prog:Program}{w:World}{A:Around}{E:VSP}{s:Shared}
end
section
variable {P:Program}{w:World}{K:Fg}{elts:List Expr}{cx:Nat}{pos:Pos}
end
section
variable {C:Cw}{X:Cx}{tg e:Expr}{g:Rho->Res}{gs:Rho->aT}{pos p:Pos}
end
end D3
namespace D3
open PySem PySem.Spec PySem.Calls PyProof.Rows L2 PySem.W
section
variable {prog:Program}{w:World}{A:Around}{E:VSP}{s:Shared}{K:Fg}{x D:Addr}{ox:Obj}{od:Option Obj}
def XAt(h:Heap)(x:Addr)(ox:Obj)(D:Addr):Prop:=h.get? x=some ox/\ox.cls=.ref D
structure XCls(K:Fg)(D:Addr):Prop where
 ga:PySem.W.findIn K (.ref D) "__getattribute__" = some (some (.builtin "BaseException.__getattribute__"))
 gn:PySem.W.findIn K (.ref D) "__getattr__" = some none
 ca:PySem.W.findIn K (.ref D) "__class__" = some (some (.builtin "object.__class__"))
 bx:PySem.W.mroIn K D (.type "BaseException")=some true
 ob:PySem.W.mroIn K D (.type "object")=some true
 hn:PySem.W.specialIn K (.builtin "object.__class__") "__get__" = some (some (.builtin "getset_descriptor.__get__"))
 tk:PySem.W.takesIn K (.builtin "object.__class__")=some true
end
end D3
namespace D3
open PySem PySem.Spec PySem.Calls PyProof.Rows L2
structure Fly(P:Program)(w:World)(outer:List Env)(H:Hp)(s:Shared)(H1:Hp)(B hp:Heap):Prop where
 un:Un (frs outer) [] H H1 s.heap hp
 ok:HOk P w H1 hp
 kb:∀ b o,hp.get? b=some o->s.heap.get? b≠none->b∉frs outer->B.get? b=some o
 kh:∀ b u,H1 b=some u->∃ o,hp.get? b=some o/\B.get? b=some o
 fr:∀ b∈frs outer,H b=none/\∃ o,s.heap.get? b=some o/\∀ vs,o.data ≠ .fields vs
section
variable {P:Program}{w:World}{outer:List Env}{H H1:Hp}{s:Shared}{B hp h':Heap}
theorem fE{b:Addr}:b∉([]:List Addr):=by simp
theorem Fly.slots(f:Fly P w outer H s H1 B hp)(up:hp.UpToSlots h'){b:Addr}(hb:b∈frs outer):∃ o sl sl',s.heap.get? b=some o/\hp.get? b=some { o with slots:=sl }/\h'.get? b=some { o with slots:=sl' }:=by obtain ⟨hn,o,e,nf⟩:=f.fr b hb;obtain ⟨sl,e1⟩:=f.un.slot b o e hn hb fE;obtain ⟨sl',e2⟩:=up b _ e1 nf;exact ⟨o,sl,sl',e,e1,e2⟩
theorem Fly.on(f:Fly P w outer H s H1 B hp)(st:B.StaysIn h')(up:hp.UpToSlots h'):Fly P w outer H s H1 B h' where
 un:={
  keep:=λb o e n hb _=>st b o (f.kb b o (f.un.keep b o e n hb fE) (by rw[e];exact λz=>nomatch z) hb)
  slot:=λb o e n hb _=>by obtain ⟨o',sl,sl',e0,_,e2⟩:=f.slots up hb;rw[e] at e0;cases e0;exact ⟨sl',e2⟩
  free:=f.un.free
  there:=λb o e _=>by
   by_cases hb:b∈frs outer
   . obtain ⟨o',sl,sl',e0,_,e2⟩:=f.slots up hb;exact ⟨_,e2⟩
   . obtain ⟨o',e1⟩:=f.un.there b o e fE;exact ⟨o',st b o' (f.kb b o' e1 (by rw[e];exact λz=>nomatch z) hb)⟩
  tups:=f.un.tups
  frzs:=f.un.frzs
  tbls:=f.un.tbls }
 ok := fun a o e => (f.ok a o e).stay (fun b u hb q => by
     have:∃ u',H1 b=some u':=by
      rcases hb with rfl | hb
      . exact ⟨o,e⟩
      . exact ⟨_,hb⟩
     obtain ⟨u',eu⟩:=this;obtain ⟨o',e1,e2⟩:=f.kh b u' eu;rw[q] at e1;cases e1;exact st b u e2) (λ_ q=>q) λ_ _ q=>q
 kb:=λb o e ns hb=>by
  cases e0:s.heap.get? b with
  | none=>exact absurd e0 ns
  | some o0=>obtain ⟨o',e1⟩:=f.un.there b o0 e0 fE;have e2:=f.kb b o' e1 ns hb;have e3:=st b o' e2;rw[e] at e3;cases e3;exact e2
 kh:=λb u e=>by obtain ⟨o,_,e2⟩:=f.kh b u e;exact ⟨o,st b o e2,e2⟩
 fr:=f.fr
end
def CX1(P:Program)(w:World):CXT:=λouter H s E ev s'=>∃ (e C:Addr) (a0:Value) (H1:Hp) (B:Heap),
 ev=.ref e/\s'.os=s.os/\AllBare s'.gens/\Heap.FlyingW B outer e (.ref C) a0 s'.heap/\Fly P w outer H s H1 B s'.heap/\E (.ref C) none H1
section
variable {X:Cx}{aA:LAO}{σ:L2.St}{H H1:Hp}{s s':Shared}{B hp:Heap}{E:XK}
theorem aDC(I:Inv X aA σ H s):∀ b∈frs X.stack,H b=none/\∃ o,s.heap.get? b=some o/\∀ vs,o.data ≠ .fields vs:=λb hb =>
 ⟨I.stkFree b hb,(I.stack.mem hb).2⟩
theorem Fly.inv(I:Inv X aA σ H s)(f:Fly X.prog X.w X.stack H s H1 B s'.heap)(ho:s'.os=s.os)(hg:AllBare s'.gens):Inv X aA σ H1 s' :=
 Inv.call' (ch:=[]) I ho f.un f.ok hg (λb z=>absurd z fE)
theorem Fly.out(I:Inv X aA σ H s)(f:Fly X.prog X.w X.stack H s H1 B s'.heap)(ho:s'.os=s.os)(hg:AllBare s'.gens)(hx:X.ex=[])(hs:X.stack=X.env::X.outer)(hf:X.env.frame=some X.env.locals){h':Heap}(st:B.StaysIn h')(up:s'.heap.UpToSlots h'):Fly X.prog X.w X.outer X.H₀ X.s₀ H1 B h':=by
 have I1:=f.inv I ho hg;have f1:=f.on st up;have ub:=I1.base;rw[hx] at ub;have old:∀ b o,X.s₀.heap.get? b=some o->∃ o',s.heap.get? b=some o':=λb o e=>I.base.there b o e (by rw[hx];exact fE)
 have nl:∀ b o,X.s₀.heap.get? b=some o->b≠X.env.locals:=λb o e z=>absurd (aJY e) (by rw[z];exact aMV.mpr I.ok.above)
 have sub:∀ b,b∉frs X.outer->b≠X.env.locals->b∉frs X.stack:=λb h1 h2 z=>by
  rcases aJ7.mp (I.stkSub b z) with q | q
  . exact h2 q
  . exact h1 q
 have sup:∀ b,b∈frs X.outer->b∈frs X.stack:=λb hb=>by rw[hs];unfold frs;rw[aJ6,hf];exact mcm hb
 refine ⟨⟨λb o e n hb _=>?_,λb o e n hb _=>?_,ub.free,λb o e _=>?_,ub.tups,ub.frzs,ub.tbls⟩,f1.ok,λb o e ns hb=>?_,f1.kh,λb hb=>?_⟩
 . have e1:=ub.keep b o e n hb fE;obtain ⟨o',e0⟩:=old b o e;exact st b o (f.kb b o e1 (by rw[e0];exact λz=>nomatch z) (sub b hb (nl b o e)))
 . obtain ⟨sl,e1⟩:=ub.slot b o e n hb fE;obtain ⟨o',sl1,sl2,e0,e1',e2⟩:=f.slots up (sup b hb);have q:=aKD (e1.symm.trans e1');refine ⟨sl2,?_⟩;rw[e2];obtain ⟨c1,d1,t1,l1⟩:=o;obtain ⟨c2,d2,t2,l2⟩:=o';simp only[Obj.mk.injEq] at q;obtain ⟨rfl,rfl,rfl,_⟩:=q;rfl
 . obtain ⟨o',e0⟩:=old b o e;exact f1.un.there b o' e0 fE
 . cases e0:X.s₀.heap.get? b with
   | none=>exact absurd e0 ns
   | some o0=>obtain ⟨o',e1⟩:=old b o0 e0;exact f1.kb b o e (by rw[e1];exact λz=>nomatch z) (sub b hb (nl b o0 e0))
 . exact ⟨I.ok.frf b hb,(I.ok.funs.mem hb).2⟩
def jO(h:Heap)(l:List Env):Heap:=PySem.W.hideAll h (frs l)
theorem Fly.raise(I:Inv X aA σ H s)(hx:X.ex=[])(hs:X.stack=X.env::X.outer)(hf:X.env.frame=some X.env.locals){h':Heap}(st:(jO s.heap X.stack).StaysIn h')(up:s.heap.UpToSlots h'):Fly X.prog X.w X.outer X.H₀ X.s₀ H (jO s.heap X.stack) h':=by
 have f:Fly X.prog X.w X.stack H s H (jO s.heap X.stack) s.heap :=
  ⟨Un.refl,I.hok,λb o e _ hb=>aJ2 _ e hb,λb u e=>by
   have hn:b∉frs X.stack:=λz=>by rw[I.stkFree b z] at e;cases e
   have:∃ o,s.heap.get? b=some o:=by
    have:=I.hok b u e;cases u with
    | lst xs=>obtain ⟨_,_,_,_,e⟩:=this;exact ⟨_,e⟩
    | tup xs=>obtain ⟨_,_,_,o,e,_⟩:=this;exact ⟨_,e⟩
    | dK kvs=>obtain ⟨_,_,_,_,o,_,_,e,_⟩:=this;exact ⟨_,e⟩
    | dT kvs=>obtain ⟨_,_,_,_,o,_,_,e,_⟩:=this;exact ⟨_,e⟩
    | dN kvs=>obtain ⟨_,_,_,_,o,_,_,e,_⟩:=this;exact ⟨_,e⟩
    | set S n=>obtain ⟨o,_,_,_,e,_⟩:=this;exact ⟨_,e⟩
    | ins C dx fs=>obtain ⟨_,_,_,e,_⟩:=this;exact ⟨_,e⟩
    | own y=>obtain ⟨_,e⟩:=this;exact ⟨_,e⟩
    | xd fs=>obtain ⟨_,⟨_,_,_,e,_⟩,_⟩:=this;exact ⟨_,e⟩
    | rng lo hi=>obtain ⟨_,_,_,e⟩:=this;exact ⟨_,e⟩
    | frz ob u=>obtain ⟨e,_⟩:=this;exact ⟨_,e⟩
    | tbl ps=>exact ⟨_,this⟩
    | met f y=>exact ⟨_,this⟩
    | ext φ=>obtain ⟨_,⟨_,e⟩,_⟩:=this;exact ⟨_,e⟩
   obtain ⟨o,eo⟩:=this;exact ⟨o,eo,aJ2 _ eo hn⟩,aDC I⟩
 exact f.out I rfl I.bare hx hs hf st up
end
def vErr:List Value:=[.type "ValueError", .type "Exception", .type "BaseException", .type "object"]
def sC(K:Fg)(C:Addr):Prop:=PySem.W.excIn K C vErr "ValueError.__new__" = true
def RzOk(C:Cw)(X:Cx):Prop:=∀ (aA:LAO) (σ:L2.St) (H:Hp) (s:Shared) (c:Str) (Cc:Addr) (vs:List Value) (h':Heap) (e:Addr),Inv X aA σ H s->X.mg c=some (.ref Cc)->C.EE c σ H ->
 Heap.MadeExcOf s.heap h' e (.ref Cc) vs->X.xe (.ref e) { s with heap:=h' }
section
variable {C:Cw}{X:Cx}{e:Expr}{es:List Expr}{gs:Rho->aT}{x:Str}{np cpos pos:Pos}
structure FnCx(X:Cx):Prop where
 hx:X.ex=[]
 hs:X.stack=X.env::X.outer
 hf:X.env.frame=some X.env.locals
end
section
variable {P:Program}{w:World}{K:Fg}{mg:SOV}{base:Heap}{N:List Str}{aQ:Str}{scope:Scope}{f:Addr}{cdv:Value}{A:Around}{outer:List Env}{s:Shared}{H:Hp}{E:XK}
theorem fnCx:FnCx (cQ (CX1 P w) P w K mg base N aQ scope f cdv A outer s H E):=⟨rfl,rfl,rfl⟩
def jP(mg:SOV)(E:XK):XE:=λc _ H'=>∀ u,mg c=some u->E u none H'
theorem aDD{C:Cw}(hE:C.EE=jP mg E):XOk (CX1 P w) C (cQ (CX1 P w) P w K mg base N aQ scope f cdv A outer s H E):=by intro aA σ H1 s1 ev s' I h;obtain ⟨e,Cc,a0,H2,B,rfl,ho,hg,fl,fy,c,hm,he⟩:=h;rw[hE] at he;have I0:=I.ok.frames;refine wpAny_leaves_onW I0 rfl fl λh' fl' up=>?_;exact ⟨e,Cc,a0,H2,B,rfl,ho.trans I.os,hg,fl',fy.out I ho hg rfl rfl rfl fl'.1 up,he _ hm⟩
theorem aDE{C:Cw}(hE:C.EE=jP mg E):RzOk C (cQ (CX1 P w) P w K mg base N aQ scope f cdv A outer s H E):=by
 intro aA σ H1 s1 c Cc vs h1 e I hm he made;rw[hE] at he;have I0:=I.ok.frames;have hin:∀ env∈(cQ (CX1 P w) P w K mg base N aQ scope f cdv A outer s H E).stack,∀ a,env.frame=some a->a∈frs (cQ (CX1 P w) P w K mg base N aQ scope f cdv A outer s H E).stack:=λenv he a ha=>aKN.mpr ⟨env,he,ha⟩;have FF:s1.heap.FunFrames (jO s1.heap (cQ (CX1 P w) P w K mg base N aQ scope f cdv A outer s H E).stack) _:=PySem.W.funFrames_hide I.stack hin;have st0:(jO s1.heap (cQ (CX1 P w) P w K mg base N aQ scope f cdv A outer s H E).stack).StaysIn s1.heap:=λb o q=>PySem.W.of_hideAll _ q;refine wpAny_leaves_madeW (s:={ s1 with heap:=h1 }) I0 rfl st0 FF made λh' t fl _ _ up=>?_
 have up0:s1.heap.UpToSlots h':=(Heap.UpToSlots.of_keeps made.keeps).trans up;exact ⟨e,Cc,.ref t,H1,_,rfl,I.os,I.bare,fl,Fly.raise I rfl rfl rfl fl.1 up0,he _ hm⟩
end
structure HX where
 cls:Str
 slot:Option Nat
 g:Rho->aG
def nK(K:Fg)(mg:SOV)(xt:Str->Str->Option Bool):Prop:=∀ c x b,xt c x=some b->∃ C C2,PySem.W.nsIn K mainGlobals c=some (some (.ref C))/\mg c=some (.ref C)/\mg x=some (.ref C2) /\
 PySem.W.mroIn K C2 (.type "BaseException")=some true/\PySem.W.typeIn K (.ref C2)=some (.type "type")/\PySem.W.mroIn K C (.ref C2)=some b
section
variable {X:Cx}{aA:LAO}{σ:L2.St}{H:Hp}{s:Shared}{e:Addr}
end
section
variable {C:Cw}{X:Cx}{aA:LAO}{σ:L2.St}{H H1:Hp}{s s0:Shared}{e Cc:Addr}{a0:Value}{B:Heap}
end
section
variable {C:Cw}{X:Cx}{aA:LAO}{σ:L2.St}{H:Hp}{s:Shared}{D:eD}{hs:List ExceptHandler}{hx:List HX}{xt:Str->Str->Option Bool}
end
def k9(mg:SOV)(n:Str)(cv:V):Prop:=(∃ C,mg n=some (.ref C)/\cv=.ref C)\/(mg n=none/\n ≠ "__name__" /\ ∃ T,bootBuiltins n=some (.type T)/\cv=.ty T)
def sD:V->Value | .ref a=>.ref a | .ty T=>.type T | _=>.none
def nL(K:Fg)(mg:SOV)(xis:Str->Str->Option Bool):Prop:=∀ c n b,xis c n=some b->∃ C cv,PySem.W.nsIn K mainGlobals c=some (some (.ref C))/\XCls K C/\k9 mg n cv/\PySem.W.kitOne K (.ref C) (sD cv)=some b
section
variable {C:Cw}{X:Cx}{e:Expr}{g:Rho->Res}{p q pos tp:Pos}{n:Str}{xis:Str->Str->Option Bool}
end
theorem aDF{P:Program}{w:World}{K:Fg}{mg:SOV}{base:Heap}{x aQ:Str}{st:Stmt}{f:Addr}{fd:FuncData}{N ps:List Str}{k:Nat}{g:Rho->aG}(F:Fun K x aQ st f fd)(S:kQ N ps (eE st))(hbody:∀ (C:Cw) (cdv:Value) (A:Around) (outer:List Env) (s:Shared) (H:Hp) (E:XK),C.EE=jP mg E->bV k (A.deeper (envOfC aQ (eE st) s.heap.objs.size f cdv))->PBv C (cQ (CX1 P w) P w K mg base N aQ (eE st) f cdv A outer s H E) (hC st) g):cK P w K mg base (CX1 P w) (k+1) f fd ps (spV K mg ps.length (phi ps.length N.length g)):=by
 obtain ⟨oc,od,kV,doc,pm,an,cdv,ct,osl,rfl,lk,hcd⟩:=F.ex;refine fn_of lk hcd S (λvs H Q E h=>h.1) λA outer s H vs Q E hr h=>?_;obtain ⟨hl,F0,ds,sF,rl,h⟩:=h;have hl':ds.length=ps.length:=by rw[<- rl.length];exact hl
 let C:Cw:=⟨K,F0,H,jP mg E⟩
 refine ⟨_,hbody C cdv A outer s H E rfl hr,fP N.length ds,F0,aB6 sF rl,?_⟩;unfold phi at h;rw[if_pos hl'] at h;cases er:g (fP N.length ds) with
 | nx ρ=>rw[er] at h;exact λσ' F' H' _ R=>h.2 .non F' H' R.st rC (by intro z;cases z)
 | rt m d=>rw[er] at h;exact λv F' H' s rp fr=>h.2 v F' H' s rp fr
 | bk ρ=>rw[er] at h;exact h.elim
 | ct ρ=>rw[er] at h;exact h.elim
 | exc c ρ=>rw[er] at h;exact λσ' F' H' _ R u hu=>h F' H' u R.st hu
 | stuck=>rw[er] at h;exact h.elim
def eL(ρ:Rho)(i:Nat)(r:Res):aG:=match ρ[i]? with
 | some (some (true,.lst ds))=>(a5 r).thS ρ λm d=>match m with | .fz=>if ds.length<sizeLine then .nx (ρ.set i (some (true,.lst (ds++[d])))) else .stuck | _=>.stuck
 | _=>.stuck
theorem aDG{r:Res}{m:Md}{d:D}(h:a5 r=.ok m d):m=.fz:=by
 cases r with
 | ok m' d'=>cases m' <;> cases h <;> rfl
 | exc c=>cases h
 | stuck=>cases h
section
variable {C:Cw}{X:Cx}{e:Expr}{g:Rho->Res}{x:Str}{p ap cp pos:Pos}
theorem aDH(i:Nat)(hv:PE X (.Name x p) (f8 i))(he:PV C X e g)(hs:bX e=true)(hline:ap.endLine=cp.line):PSv C X (.Expr (.Call (.Attribute (.Name x p) "append" ap) [e] [] cp) pos) (λρ=>eL ρ i (g ρ)):=by
 have h1 := pe_bm (X := X) (o := .Name x p) (e := e) (es := []) (apos := ap) (cpos := cp) PySem.F.plainAttrs_list PySem.F.slot_list_append PySem.F.type_list_append qX hv (kN (fN he) kM (cC hs)) (nB rfl) (by
     rw[k6 _ _ (λy hy=>by simp only[aJ7,List.mem_nil_iff,aM2] at hy;subst hy;exact hs)];rfl) (aKU.mpr hline) (cC hs) rfl
 refine PS.imp (xG h1) λE σ H q=>?_;obtain ⟨ρ,F,R,w⟩:=q;dsimp only at w;unfold qA tBM;cases e0:ρ[i]? with
 | none=>unfold eL at w;rw[e0] at w;exact w.elim
 | some o =>
  cases o with
  | none=>unfold eL at w;rw[e0] at w;exact w.elim
  | some bd =>
   obtain ⟨b,d0⟩:=bd;cases b with
   | false=>unfold eL at w;rw[e0] at w;exact w.elim
   | true =>
    cases d0 with
    | lst ds =>
     unfold eL at w;rw[e0] at w;dsimp only at w;obtain ⟨v0,ev0,rp0,hn0⟩:=R.slot i true _ e0;obtain ⟨a,ea,hfa,xs,hh,rl⟩:=rp0;subst ea;refine ⟨.ref a,ev0,.inl ⟨rfl,xs,SqL.of hh⟩,?_⟩;unfold jA;refine gE R w λm d v F' H' w' s R' rp fr=>?_;cases m with
     | fr=>exact (show False from w').elim
     | bo=>exact (show False from w').elim
     | fz =>
     dsimp only at w';split at w'
     . rename_i hl;have hh':H' a=some (.lst xs):=s.same _ _ hh;refine ⟨a,xs,v,rfl,rfl,hh',by rw[rl.length];exact hl,?_⟩
       exact w' σ F' _ (aE.refl _) (R'.mut e0 ev0 ⟨_,bA,aC.append (rl.mono s.fsame _ _) (aC.cons rp aC.nil)⟩)
     . exact w'.elim
    | _=>unfold eL at w;rw[e0] at w;exact w.elim
end
def Hld(B:Heap)(l:List Env)(e:Addr)(cls a0:Value)(h:Heap):Prop:=B.StaysIn h/\B.get? e=none/\h.FunFrames B l/\∃ fl,h.TracedAtW B e cls a0 fl
section
variable {M:Model}{A:Around}{E:VSP}{s:Shared}{B:Heap}{env:Env}{outer:List Env}{L e:Addr}{cls a0:Value}{Q:Unit->Shared->Prop}
theorem aDI(hfr:A.frames=some (env::outer))(hf:env.frame=some L)(hh:Hld B (env::outer) e cls a0 s.heap)(hQ:∀ h',Heap.HeldW B (env::outer) e cls a0 L h'->s.heap.UpToSlots h'->Q () { s with heap:=h' }):wpAny M A (noteFrame (.ref e) env) Q E s:=by
 obtain ⟨k1,k2,k3,fl,ht⟩:=hh;by_cases hl:fl=rawInt L
 . subst hl;exact wpAny_noteFrame_againW hf ht (hQ s.heap ⟨k1,k2,k3,ht⟩ (Heap.UpToSlots.refl _))
 obtain ⟨oe,xs,T,oT,ys,q1,⟨q2,q3⟩,q4,q5,q6,q7,q8,q9,q10⟩:=ht;subst q2;unfold noteFrame;simp only[hf];refine aKI (aLK q1 q4 q5 ?_);have n1:(Value.ref T != Value.none)=true:=by simp
 have n2:¬ ((fl==rawInt L)=true):=by rw[aKU];exact hl
 rw[if_pos n1];refine aKI (aLK q8 q9 q10 ?_);rw[if_neg n2];obtain ⟨lt3,_⟩:=aM3.mp q10;obtain ⟨lt1,_⟩:=aM3.mp q5;refine aKI (aM4 q8 q9 lt3 ?_);generalize hg:s.heap.update T (Obj.mapFields λz=>z.setIfInBounds 3 Value.none)=g;have oth:∀ b,b≠T->g.get? b=s.heap.get? b:=λb hb=>by rw[<- hg];exact aLU _ _ (Ne.symm hb)
 have plain:∀ b o,s.heap.get? b=some o->(∀ z,o.data ≠ .fields z)->g.get? b=some o:=λb o w1 w2=>by rw[oth b (by rintro rfl;rw[q8] at w1;cases w1;exact w2 ys q9)];exact w1
 have inB:∀ b o,B.get? b=some o->g.get? b=some o:=λb o w=>by rw[oth b (by rintro rfl;rw[q6] at w;cases w)];exact k1 b o w
 refine wpAny_entryW (s:={ s with heap:=g }) hfr (k3.of_keeps λb o w1 w2=>⟨o,plain b o w1 w2,rfl⟩) hf (by show g.get? e=_;rw[oth e (Ne.symm q7)];exact q1) inB k2 q4 lt1 q3 λh' hn=>?_
 obtain ⟨m1,m2,m3,m4⟩:=hn;exact hQ h' ⟨m1,k2,m2,m3⟩ λb o w1 w2=>m4 b o (plain b o w1 w2) w2
theorem aDJ(hfr:A.frames=some (env::outer))(hf:env.frame=some L)(hh:Hld B (env::outer) e cls a0 s.heap)(hQ:∀ h',Heap.FlyingW B outer e cls a0 h'->s.heap.UpToSlots h'->Q () { s with heap:=h' }):wpAny M A (leaving env (.ref e)) Q E s:=by
 unfold leaving;refine aKI (aDI hfr hf hh λh4 held up4=>?_);refine wpAny_landsW (s:={ s with heap:=h4 }) held λh5 fl up5=>?_
 obtain ⟨w1,w2,w3,w4⟩:=fl;exact hQ h5 ⟨w1,w2,w3.2.2,w4⟩ (up4.trans up5)
end
def HX1(P:Program)(w:World):CXT:=λouter H s E ev s'=>∃ (e C:Addr) (a0:Value) (H1:Hp) (B:Heap),
 ev=.ref e/\s'.os=s.os/\AllBare s'.gens/\Hld B outer e (.ref C) a0 s'.heap/\Fly P w outer H s H1 B s'.heap/\E (.ref C) none H1
section
variable {P:Program}{w:World}{K:Fg}{mg:SOV}{base:Heap}{N:List Str}{aQ:Str}{scope:Scope}{f:Addr}{cdv:Value}{A:Around}{outer:List Env}{s:Shared}{H:Hp}{E:XK}
theorem aDK{C:Cw}(hE:C.EE=jP mg E):XOk (HX1 P w) C (cQ (CX1 P w) P w K mg base N aQ scope f cdv A outer s H E):=by intro aA σ H1 s1 ev s' I h;obtain ⟨e,Cc,a0,H2,B,rfl,ho,hg,fl,fy,c,hm,he⟩:=h;rw[hE] at he;refine aDJ I.ok.frames rfl fl λh' fl' up=>?_;exact ⟨e,Cc,a0,H2,B,rfl,ho.trans I.os,hg,fl',fy.out I ho hg rfl rfl rfl fl'.1 up,he _ hm⟩
end
section
variable {C:Cw}{X:Cx}{aA:LAO}{D:eD}{hs:List ExceptHandler}{hx:List HX}{xt:Str->Str->Option Bool}
end
section
variable {P:Program}{w:World}{outer:List Env}{H H1:Hp}{s:Shared}{B hp h':Heap}{Z:Addr}
end
section
variable {X:Cx}{XE:VSP}{aA:LAO}{σ:L2.St}{H:Hp}{s:Shared}
end
end D3
namespace L2
open PySem PySem.Spec PyProof.Rows D3
section
variable {prog:Program}{w:World}{A:Around}{R:Result->Shared->Prop}{s:Shared}
end
end L2
namespace D3
open PySem PySem.Spec PyProof.Rows L2
section
variable {C:Cw}{X:Cx}{pos:Pos}
end
end D3
namespace PySem
open Sem (wp)
open Builtin
end PySem
namespace L2
open PySem PySem.Spec PyProof.Rows
section
variable {X:Cx}
end
end L2
namespace D3
open PySem PySem.Spec PySem.Calls PyProof.Rows L2
section
variable {C:Cw}{X:Cx}
variable {e ke:Expr}{g gk:Rho->Res}{x:Str}{p ap cp pos:Pos}
end
end D3
namespace D3
open PySem PySem.Spec PyProof.Rows L2
section
variable {prog:Program}{w:World}{A:Around}{R:Result->Shared->Prop}{J:Addr}{fp wr:List Addr}{n:Nat}{P:Nat->Value->Prop}{St:Nat->Heap->Prop}{ns:List Int}{S:Addr}
end
section
variable {prog:Program}{w:World}{A:Around}{E:VSP}{s:Shared}
end
section
variable {C:Cw}{X:Cx}{e:Expr}{g:Rho->Res}{p q kp pos:Pos}{j}
end
theorem aC.drop{K:Fg}{F:Hp}:∀ (n:Nat) {ds:List D} {xs:List V},aC K F ds xs->aC K F (ds.drop n) (xs.drop n)
 | 0,_,_,h=>h
 | n+1,[],xs,h=>by simp only[aC] at h;subst h;simp[aC]
 | n+1,d::ds,xs,h=>by simp only[aC] at h;obtain ⟨v,vs,rfl,_,t⟩:=h;exact aC.drop n t
theorem aC.take{K:Fg}{F:Hp}:∀ (n:Nat) {ds:List D} {xs:List V},aC K F ds xs->aC K F (ds.take n) (xs.take n)
 | 0,_,_,_=>by simp[aC]
 | n+1,[],xs,h=>by simp only[aC] at h;subst h;simp[aC]
 | n+1,d::ds,xs,h=>by simp only[aC] at h;obtain ⟨v,vs,rfl,r,t⟩:=h;simp only[List.take_succ_cons,aC];exact ⟨v,_,rfl,r,aC.take n t⟩
def cD(xs:List D)(lo hi:Option Int):List D:=(xs.drop (HT.sIx xs.length 0 lo)).take (HT.sIx xs.length xs.length hi-HT.sIx xs.length 0 lo)
theorem aC.cut{K:Fg}{F:Hp}{ds:List D}{xs:List V}(h:aC K F ds xs)(lo hi:Option Int):aC K F (cD ds lo hi) (fC xs lo hi):=by unfold cD fC;rw[h.length];exact (h.drop _).take _
def jQ(n:Nat)(lo hi:Option Int):Bool:=HT.sIx n 0 lo==0&&HT.sIx n n hi==n
def slP(x:Res)(lo hi:Option (Rho->Res))(ρ:Rho):Res:=x.thn λm d=>match d with
 | .str z=>bL lo ρ λl=>bL hi ρ λh=>.ok .fz (.str (Txt.slice z l h))
 | .lst ds=>bL lo ρ λl=>bL hi ρ λh=>.ok .fr (.lst (cD ds l h))
 | .tup ds=>bL lo ρ λl=>bL hi ρ λh=>if (jQ ds.length l h&&m != .fz)=true then .stuck else .ok .fz (.tup (cD ds l h))
 | _=>.stuck
section
variable {C:Cw}{X:Cx}{a:Expr}{ga:Rho->Res}{pos:Pos}
theorem aDL{lo hi:Option Expr}{gl gh:Option (Rho->Res)}{p2:Pos}(ha:PV C X a ga)(hl:POv C X lo gl)(hh:POv C X hi gh):PV C X (.Subscript a (.Slice lo hi none p2) pos) (λρ=>slP (ga ρ) gl gh ρ):=by
 refine PE.imp (zF (aA5.or (zP.or (zG.or aCZ))) ha (rJ hl) (rJ hh)) λσ H Q q=>?_;unfold tSl;rw[aV] at q ⊢;obtain ⟨ρ,F,R,w⟩:=q
 try dsimp only at w
 refine ⟨ρ,F,R,?_⟩;cases er:ga ρ with
 | stuck=>rw[er] at w;exact w
 | exc c=>rw[er] at w;exact w
 | ok m d =>
  rw[er] at w;intro v F1 H1 s1 rp _;cases d with
  | str z=>obtain ⟨rfl,hz,hk⟩:=rp.str;have w1:aX (C.at X) F1 H1 σ (bL gl ρ λl=>bL gh ρ λh=>.ok .fz (.str (Txt.slice z l h))) Q:=aX.step s1 w;refine hW (R.step s1) w1 λl F2 H2 s2 R2 w2=>hW R2 w2 λh F3 H3 s3 R3 w3=>.inl ?_;exact ⟨z,rfl,hz,w3 _ F3 H3 (.refl R3.sub) (hG ⟨aJ4 (aMJ z _ _) hz,aA6 hk⟩) (by intro z;cases z)⟩
  | lst ds=>have w1:aX (C.at X) F1 H1 σ (bL gl ρ λl=>bL gh ρ λh=>.ok .fr (.lst (cD ds l h))) Q:=aX.step s1 w;refine hW (R.step s1) w1 λl F2 H2 s2 R2 w2=>hW R2 w2 λh F3 H3 s3 R3 w3=>.inr (.inl ?_);obtain ⟨p,xs,rfl,hq,rl⟩:=((rp.step s2).step s3).seqL R3.sub;exact ⟨p,xs,rfl,hq,λp' hp'=>w3 (.ref p') F3 _ (aH.fresh _ R3.sub hp') ⟨p',rfl,R3.sub.free hp',_,bA,rl.cut l h⟩ λ_ a ea=>by cases ea;exact hp'⟩
  | tup ds =>
   have w1:aX (C.at X) F1 H1 σ (bL gl ρ λl=>bL gh ρ λh=>if (jQ ds.length l h&&m != .fz)=true then .stuck else .ok .fz (.tup (cD ds l h))) Q:=aX.step s1 w;refine hW (R.step s1) w1 λl F2 H2 s2 R2 w2=>hW R2 w2 λh F3 H3 s3 R3 w3=>.inr (.inr ?_);obtain ⟨p,xs,rfl,hq,rl⟩:=((rp.step s2).step s3).seqT R3.sub;have lw:jQ ds.length l h=true↔HT.sIx xs.length 0 l=0/\HT.sIx xs.length xs.length h=xs.length:=by rw[rl.length];unfold jQ;simp
   cases hw:jQ ds.length l h with
   | true =>
    cases m with
    | fz =>
     rw[hw,if_neg (by decide)] at w3
     have e:=lw.mp hw;have ec:cD ds l h=ds:=by unfold cD;rw[<- rl.length,e.1,e.2,rl.length,aMX,Nat.sub_zero];exact aM5
     rw[ec] at w3;exact .inr ⟨p,xs,rfl,hq,e,w3 (.ref p) F3 H3 (.refl R3.sub) ((rp.step s2).step s3) (by intro z;cases z)⟩
    | fr=>rw[hw,if_pos (by decide)] at w3;exact w3.elim
    | bo=>rw[hw,if_pos (by decide)] at w3;exact w3.elim
   | false =>
    rw[hw,if_neg (by simp)] at w3
    refine .inl ⟨p,xs,rfl,hq,λz=>?_,λp' hp'=>w3 (.ref p') _ _ (aH.laid (.tup (fC xs l h)) R3.sub hp') (aB.tup_of (R3.sub.free hp') (rl.cut l h)) (by intro z;cases z)⟩
    rw[lw.mpr z] at hw;cases hw
  | _=>exact (show False from w).elim
end
section
variable {C:Cw}{X:Cx}{pos:Pos}
end
section
variable {X:Cx}
end
section
variable {C:Cw}{X:Cx}{a b:Expr}{ga gb:Rho->Res}{pos:Pos}
def lC:List (Md×D)->Option (Md×D)
 | [(_,.dct kvs)]=>some (.fr,.dct kvs)
 | _=>none
theorem aDM:c7 X (.type "dict") lC:=by
 refine ⟨λvs H Q=>∃ a xs,vs=[.ref a]/\H a=some (.dK xs)/\∀ p,H p=none->Q (.ref p) (upd H p (.dK xs)),?_,?_⟩
 . intro aA s σ H vs us Q I r h;obtain ⟨a,xs,rfl,hh,q⟩:=h;obtain ⟨u,rfl,ru⟩:=dP r;cases (show u=Value.ref a from ru)
   exact zW I (.inl hh) λp s' hp I'=>⟨.ref p,_,I',rfl,q p hp⟩
 . intro F H xs vs k d Q s rx e w;unfold lC at e;split at e
   . rename_i m kvs;cases e;obtain ⟨v,rfl,r⟩:=rx.one;obtain ⟨a,ys,rfl,hh,rk⟩:=r.dict s;exact ⟨a,ys,rfl,hh,λp hp=>w (.ref p) F _ (aH.fresh _ s hp) ⟨p,rfl,s.free hp,ys,bA,rk⟩ λ_ b eb=>by cases eb;exact hp⟩
   . cases e
end
section
variable {C:Cw}{X:Cx}{e ke:Expr}{g gk:Rho->Res}{x:Str}{p sp pos:Pos}
end
section
variable {C:Cw}{X:Cx}{a b:Expr}{ga gb:Rho->Res}{pos:Pos}
end
end D3
namespace D3
open PySem PySem.Spec PyProof.Rows L2 PySem.SeqAt PySem.MeetsSeq
theorem SqT.plain{X:Cx}{aA:LAO}{σ:L2.St}{H:Hp}{s:Shared}{a:Addr}{xs:List V}(I:L2.Inv X aA σ H s)(h:SqT X.K H a xs):∃ its:List Value,aJ xs its/\fA s.heap a its.toArray/\xs.length<=sizeLine:=by
 rcases h with h | ⟨o,its,n,hk,hc,hd,hs,hz,r⟩
 . obtain ⟨z,its,r,p⟩:=h.ok I.hok;exact ⟨its,r,p,z⟩
 . exact ⟨its.toList,r,⟨o,I.kIn a o hk,hc,hd,n,by simpa using hs⟩,by rw[r.length,aKG];exact hz⟩
section
variable {X:Cx}{o e:Expr}{apos cpos:Pos}{td ty:TE}
end
section
variable {C:Cw}{X:Cx}{o e:Expr}{apos cpos:Pos}{go g:Rho->Res}
end
end D3
namespace D3
open PySem PySem.Spec PyProof.Rows L2
section
variable {C:Cw}{X:Cx}
end
def TabE(w:World)(K:Fg):List (Str×Str)->List DictEntry->Prop
 | [],es=>es=[]
 | (z,f)::r,es=>∃ t a es',es=⟨PyData.keyHash w.params z,.str z t,.ref a⟩::es'/\PySem.W.nsIn K mainGlobals f=some (some (.ref a))/\TabE w K r es'
structure iD(w:World)(K:Fg)(mg:SOV)(x:Str)(tb:List (Str×Str)):Prop where
 ex:∃ a ob es ep,mg x=some (.ref a)/\K.lookup a=some ob/\ob.ExactDict/\ob.data=.dict es ep/\TabE w K tb es.toList
 nd:(tb.map (·.1)).Nodup
section
variable {C:Cw}{X:Cx}{e b:Expr}{es:List Expr}{gs:Rho->aT}{gb:Rho->Res}{p pos:Pos}{x:Str}{k n:Nat}{tb:List (Str×Str)}
end
section
variable {X:Cx}
end
theorem aR.frz{K:Fg}{F0 H0 F H:Hp}{σ:L2.St}{ρ:Rho}(R:aR K F0 H0 F H σ ρ){i:Nat}{d:D}(e:ρ[i]? = some (some (true,d))):∃ F',aE F F'/\aR K F0 H0 F' H σ (ρ.set i (some (false,d))):=by
 obtain ⟨v,ev,rp,hn⟩:=R.slot i true d e;obtain ⟨x,rfl,nx,t⟩:=rp;obtain ⟨o,ho,r⟩:=t.freeze nx;have sm:aE F (upd F x o):=λb u q=>by rw[aP (bN q nx)];exact q
 have hi:i<ρ.length:=(aKA.mp e).1;refine ⟨upd F x o,sm,R.st.freeze (hn rfl x rfl) nx ho,λj m d' ej=>?_,λj k d1 d2 a hjk e1 e2 q1 q2=>?_,by rw[aLV];exact R.len⟩
 . by_cases hj:j=i
   . subst hj;rw[aKB hi] at ej;cases ej;exact ⟨.ref x,ev,r,by intro z;cases z⟩
   . rw[aKC (λz=>hj z.symm)] at ej;obtain ⟨v',ev',rp',hn'⟩:=R.slot j m d' ej;refine ⟨v',ev',?_,hn'⟩;cases m with
     | false=>exact aB.mono sm _ _ rp'
     | true =>
      obtain ⟨a,rfl,na,t'⟩:=rp';have ax:a≠x:=λz=>by subst z;exact R.apart j i d' d a hj ej e ev' ev
      refine ⟨a,rfl,by rw[aP ax];exact na,?_⟩
      cases d' with
      | lst ds=>obtain ⟨xs,q,rr⟩:=t';exact ⟨xs,q,rr.mono sm _ _⟩
      | dct ds=>obtain ⟨xs,q,rr⟩:=t';exact ⟨xs,q,rr.mono sm _ _⟩
      | ins c fs=>obtain ⟨C,dx,gs,n,q,rr⟩:=t';exact ⟨C,dx,gs,n,q,rr.mono sm _ _⟩
      | set ks=>obtain ⟨S,q,rr⟩:=t';exact ⟨S,q,rr⟩
      | dtn ds=>obtain ⟨xs,q,rr⟩:=t';exact ⟨xs,q,rr.mono sm _ _⟩
      | _=>exact t'.elim
 . have own:∀ {j:Nat} {d1:D},(ρ.set i (some (false,d)))[j]? = some (some (true,d1))->ρ[j]? = some (some (true,d1)):=λ{j d1} z=>by
     by_cases hj:j=i
     . subst hj;rw[aKB hi] at z;cases z
     . rw[aKC (λy=>hj y.symm)] at z;exact z
   exact R.apart j k d1 d2 a hjk (own e1) (own e2) q1 q2
def iE(ρ:Rho)(i:Nat):aG:=match ρ[i]? with
 | some (some (true,d))=>.nx (ρ.set i (some (false,d)))
 | _=>.stuck
theorem aDN{C:Cw}{X:Cx}{sts:List Stmt}{i:Nat}{g:Rho->aG}(h:PBv C X sts g):PBv C X sts (λρ=>(iE ρ i).thn g):=by
 refine PSs.imp h λE σ H q=>?_;obtain ⟨ρ,F,R,w⟩:=q;dsimp only at w;unfold iE at w;split at w
 . rename_i d e;obtain ⟨F',sm,R'⟩:=R.frz e;exact ⟨_,F',R',bS.mono sm w⟩
 . exact w.elim
def Ent(w:World):List Str->List (Int×Value)->Prop
 | [],l=>l=[]
 | x::xs,l=>∃ t r,l=(hashStr w x,.str x t)::r/\Ent w xs r
def cT(w:World):Bool:=w.params.followText "set-order"
def SetX(w:World)(h:Heap)(a:Addr)(xs:List Str):Prop:=∃ o es ep t,h.get? a=some o/\o.ExactSet/\o.data=.set es ep t/\Ent w xs es.toList/\xs.Nodup/\xs.length<scanBound/\t.fits es.size=true/\t.led = !cT w/\(xs=[]\/t.plain=false)
section
variable {prog:Program}{w:World}{A:Around}{E:VSP}{s:Shared}
end
theorem jR:plainId "set.update.loop" = true:=by decide +kernel
theorem nM:entryFor table "set.update.loop" = some Builtin.«set.update.loop»:=entryFor_of_tree (by kernel_rfl)
theorem aDO(a:Value):checkTypeCall "set" ⟨[a],[]⟩=pure ():=by kernel_rfl
theorem aDP(a:Value):checkBuiltinCall "set.__new__" ⟨[.type "set", a],[]⟩=pure ():=by kernel_rfl
section
variable {prog:Program}{w:World}{A:Around}{E:VSP}{s:Shared}
end
def sob(w:World):Obj:={ cls:=.type "set", dict:=none,data:=.set #[] 0 (.fresh 0 0 (!cT w)) }
section
variable {prog:Program}{w:World}{A:Around}{E:VSP}{s:Shared}
theorem aDQ(v:Value){Q1:VSP}(h:Q1 (.ref s.heap.objs.size) { s with heap:=s.heap.push (sob w) }):codeAny (model prog w) A (.call (.builtin "set.__new__") ⟨[.type "set", v],[]⟩) (wants Q1 E) s:=by
 refine codeAny_call_builtin_code (aM6 PySem.F.plain_set_new _) (wpAny_of_eq (aDP v) (aM7 PySem.F.entry_set_new ?_));rw[aM8 PySem.F.plain_set_new _];have sub:=sub_set_self;obtain ⟨hp,g,d,tk,os⟩:=s;unfold Builtin.«set.__new__» Builtin.Frozenset.newClass;dsimp only
 wp_walk
 refine aM9 (aKH ?_);dsimp only;simp only[newObj];exact aKI (wpAny_alloc (aKH (aKH h)))
theorem aDR{M:Model}{self v:Value}{Q:Unit->Shared->Prop}(ty:s.TypeIs self "set")(q:Q () s):wpAny M A (checkBuiltinCall "set.__init__" ⟨[self,v],[]⟩) Q E s:=by
 unfold checkBuiltinCall;simp only[kind_set_init,split_set_init,sig_set_init];refine aKI (aL8 ty sub_set_self ?_);simp only[aL9,aMA,↓reduceIte];unfold Bind.checkArgs;dsimp only;refine aKI (m:=Bind.printed "set" true _ _) (printed_name (by decide) (aKI (m:=Bind.printed "*" false _ _) (printed_star (self:=self) rfl ty λsh=>?_)))
 have e1:(if (Manifest.Receiver.self==Manifest.Receiver.none)=true then [self,v].length else [self,v].length-1)=1:=rfl;rw[e1,aLX,show Bind.check ⟨.positional, "set", "*", .self,[⟨"iterable", .posOnly,false⟩]⟩ "set" sh 1 []=pure () from by kernel_rfl]
 exact aKH q
end
def Small(m:Nat):Prop:=m=7\/m=15\/m=31
section
variable {m:Nat}{ow:Array (Option Nat)}
end
def SetM(w:World)(h:Heap)(a:Addr)(xs:List Str):Prop:=∃ o es ep t,h.get? a=some o/\o.ExactSet/\o.data=.set es ep t/\Ent w xs es.toList/\xs.Nodup/\xs.length<scanBound/\t.fits es.size=true/\t.led = !cT w/\(xs=[]\/t.plain=false)/\Small t.mask/\t.dummies = #[]
theorem nN{α:Type}:∀ {l:List α} {i:Nat} (h:i<l.length),(l[i]::l.eraseIdx i).Perm l
 | [],i,h=>by simp at h
 | a::l,0,h=>.refl _
 | a::l,i+1,h=>by
  have hi:i<l.length:=by simpa using h
  exact (List.Perm.swap a l[i] _).trans ((nN hi).cons a)
theorem sH{α:Type}{next:Nat->Nat}:∀ {f k:Nat} {left:List α} {out:Array α},left.length=f->(pickOrder.go next f k left out).toList.Perm (out.toList++left)
 | 0,k,left,out,h=>by have:left=[]:=List.length_eq_zero_iff.mp h;subst this;unfold pickOrder.go;simp
 | f+1,k,left,out,h=>by
  have hl:next k % left.length<left.length:=Nat.mod_lt _ (by omega)
  unfold pickOrder.go;rw[aMO hl];dsimp only;refine (sH (by rw[List.length_eraseIdx,if_pos hl];omega)).trans ?_
  rw[Array.toList_push,aNA];exact List.Perm.append_left _ (nN hl)
theorem lD{α:Type}{next:Nat->Nat}{xs:Array α}:(pickOrder next xs).toList.Perm xs.toList:=by unfold pickOrder;simpa using sH (next:=next) (f:=xs.size) (k:=0) (left:=xs.toList) (out:=#[]) rfl
section
variable {prog:Program}{w:World}{A:Around}{E:VSP}{s:Shared}
theorem gJ{Q:Bool->Shared->Prop}(q:Q (cT w) s):wpAny (model prog w) A setsByText Q E s:=by unfold setsByText;exact aKI (aM9 (aKH q))
def Wide(h:Heap)(a:Addr)(n:Nat):Prop:=∀ o es ep t,h.get? a=some o->o.data=.set es ep t->n<=t.mask
end
section
variable {prog:Program}{w:World}{A:Around}{E:VSP}{s:Shared}
end
theorem eM:Slot "set_iterator" "__next__" "set_iterator.__next__" := .of (owner := "set_iterator") (n := "__next__") (by rw[typeLookup_type,builtinLookup_eq_fast];kernel_rfl) (by decide +kernel) (by decide +kernel) (by decide +kernel) (by first | exact .inl (by decide +kernel) | exact .inr (by decide +kernel)) (by rw[aNB];kernel_rfl)
theorem lE:entryFor table "set_iterator.__next__" = some Builtin.«set_iterator.__next__»:=entryFor_of_tree (by kernel_rfl)
theorem sJ:Manifest.owners.lookup (String.ofList "rotareti_tes".toList.reverse)=some Manifest.sig_set_iterator:=by kernel_rfl
theorem lF(a:Value):argsOk "set_iterator.__next__" ⟨[a],[]⟩:=by unfold argsOk;rw[signature?_of (id := "set_iterator.__next__") (n := "__txen__".toList) (o := "rotareti_tes".toList) (by kernel_rfl) sJ];kernel_rfl
theorem sK:Slot "set_iterator" "__iter__" "set_iterator.__iter__" := .of (owner := "set_iterator") (n := "__iter__") (by rw[typeLookup_type,builtinLookup_eq_fast];kernel_rfl) (by decide +kernel) (by decide +kernel) (by decide +kernel) (by first | exact .inl (by decide +kernel) | exact .inr (by decide +kernel)) (by rw[aNB];kernel_rfl)
theorem aDS(a:Value):argsOk "set_iterator.__iter__" ⟨[a],[]⟩:=by unfold argsOk;rw[signature?_of (id := "set_iterator.__iter__") (n := "__reti__".toList) (o := "rotareti_tes".toList) (by kernel_rfl) sJ];kernel_rfl
theorem aDT:entryFor table "set.__iter__" = some Builtin.«frozenset.__iter__»:=entryFor_alias (id' := "frozenset.__iter__") (by kernel_rfl) rfl (by decide +kernel) (by kernel_rfl)
theorem aDU:entryFor table "set_iterator.__iter__" = some Builtin.«dict_keyiterator.__iter__»:=entryFor_alias (id' := "dict_keyiterator.__iter__") (by kernel_rfl) rfl (by decide +kernel) (by kernel_rfl)
def SIt(h:Heap)(I a:Addr)(f:Value)(i n ep:Nat):Prop:=∃ o,h.get? I=some o/\o.cls=.type "set_iterator" /\ o.data=.fields #[f,.int i 0,.ref a,.int n 0,.int ep 0]
theorem SIt.ty{s:Shared}{I a:Addr}{f:Value}{i n ep:Nat}(x:SIt s.heap I a f i n ep):s.TypeIs (.ref I) "set_iterator" := let ⟨o,h1,h2,_⟩:=x;⟨o,h1,h2⟩
theorem SIt.at{h h':Heap}{I a:Addr}{f:Value}{i n ep:Nat}(x:SIt h I a f i n ep)(k:∀ o,h.get? I=some o->h'.get? I=some o):SIt h' I a f i n ep:=let ⟨o,h1,r⟩:=x;⟨o,k o h1,r⟩
section
variable {prog:Program}{w:World}{A:Around}{E:VSP}{s:Shared}{I a:Addr}{i n ep:Nat}{o:Obj}{es:Array (Int×Value)}{t:SetTable}
theorem nO{f:Value}{Q:VSP}(x:SIt s.heap I a f i n ep)(q:Q (.ref I) s):wpAny (model prog w) A (pyIter (.ref I)) Q E s:=by refine aNC x.ty sK (aLP sK x.ty aDU ?_ (aDS _));show wpAny _ _ (ret (.ref I)) _ _ s;exact aKH ⟨_,rfl, "set_iterator", _,x.ty,eM.lookup,q⟩
theorem aDV {β : Type} {m : Sem β} {f f' : Value} {o : Obj} (h0 : s.heap.get? I = some o) (hc : o.cls = .type "set_iterator") (hd : o.data = .fields #[f, .int i 0, .ref a, .int n 0, .int ep 0]) {Q : β → Shared → Prop}
    (q:∀ h',Heap.SameBut I s.heap h'->SIt h' I a f' (i+1) n ep->wpAny (model prog w) A m Q E { s with heap:=h' }):wpAny (model prog w) A (do setField (.ref I) 0 f';setField (.ref I) 1 (rawInt (i+1));m) Q E s:=by
 refine aKI (aM4 h0 hd (by simp) ?_)
 have g1:=aLT (Obj.mapFields (·.setIfInBounds 0 f')) h0 (aND (aNE hd _));have d1:=aNE hd (·.setIfInBounds 0 f');refine aKI (aM4 (s:={ s with heap:=s.heap.update I (Obj.mapFields (·.setIfInBounds 0 f')) }) g1 d1 (by simp) (q _ ((aNF _ I _).trans (aNF _ I _)) ?_))
 refine ⟨_,aLT _ g1 (aND (aNE d1 _)),(aNG ..).trans ((aNG ..).trans hc),?_⟩;rw[aNE d1];simp[rawInt]
theorem aDW{f:Value}{o:Obj}(h0:s.heap.get? I=some o)(hc:o.cls=.type "set_iterator")(hd:o.data=.fields #[f,.int i 0,.ref a,.int n 0,.int ep 0]){Q:Unit->Shared->Prop}(q:∀ h',Heap.SameBut I s.heap h'->SIt h' I a f (i+1) n ep->Q () { s with heap:=h' }):wpAny (model prog w) A (setField (.ref I) 1 (rawInt (i+1))) Q E s:=by
 refine aM4 h0 hd (by simp) (q _ (aNF _ I _) ⟨_,aLT _ h0 (aND (aNE hd _)),(aNG ..).trans hc,?_⟩)
 rw[aNE hd];simp[rawInt]
theorem sL {P : PySem.Fin → Shared → Prop} {Q : Option Value → Shared → Prop} (hh : A.handled = none) (q : ∀ h', (∀ b o, s.heap.get? b = some o → h'.get? b = some o) → Q none { s with heap := h' }) :
    wpAny (model prog w) A.in1 (do let e <- newExc (.type "StopIteration") [];raiseNew e) P (λe s'=>wpAny (model prog w) A (do let c <- isInstance e (.type "StopIteration");if c=true then pure none else throw e) Q E s') s:=by
 refine aKI ?_;simp only[newExc,newTuple];refine aKI (aLS (aKI (m:=firstArgMember _ _) (wpAny_of_eq (a:=Value.none) (by first | rfl | (simp only[firstArgMember];rfl)) (aLS ?_ (by size_fits)))) (by size_fits))
 simp only[raiseNew];refine aKI (wpAny_handled ?_);rw[show A.in1.handled=none from hh]
 refine aKI (aKH (wpAny_throw (aKI ?_)));exact aL8 (T := "StopIteration") (b:=true) ⟨_,aJX _ rfl,rfl⟩ isSubtype_stop (aKH (q _ λb o e=>hps (hps e)))
theorem sM{k k':Nat}{x:Value}{Q:Option Value->Shared->Prop}(X:SIt s.heap I a (.int k 0) i es.size ep)(ho:s.heap.get? a=some o)(hd:o.data=.set es ep t)(hf:t.fits es.size=true)(hn:∀ {A':Around} {E':VSP} {Q':Option (Value×Nat)->Shared->Prop},Q' (some (x,k')) s->wpAny (model prog w) A' (setNext a k i ep) Q' E' s)(q:∀ h',Heap.SameBut I s.heap h'->SIt h' I a (.int k' 0) (i+1) es.size ep->Q (some x) { s with heap:=h' }):wpAny (model prog w) A (pyNext (.ref I)) Q E s:=by obtain ⟨oI,h0,hc,hdI⟩:=id X;unfold pyNext;refine aKI (aNH (aLN (name:=Str.ofString "__next__") X.ty eM (aLP eM X.ty lE ?_ (lF _))));unfold Builtin.«set_iterator.__next__»;refine aKI (m:=slotArgs _ _ _) (aKH (aKI (aNI h0 hdI ?_)));dsimp only;refine aKI (aNJ ho hd hf ?_);simp only[aNK,aMA,↓reduceIte,aLH];refine aKI (hn ?_);dsimp only;exact aDV h0 hc hdI λh' sb X'=>aKH ⟨_,rfl,aKH (q h' sb X')⟩
theorem sN{k:Nat}{Q:Option Value->Shared->Prop}(hh:A.handled=none)(X:SIt s.heap I a (.int k 0) i es.size ep)(ho:s.heap.get? a=some o)(hd:o.data=.set es ep t)(hf:t.fits es.size=true)(hn:∀ {A':Around} {E':VSP} {Q':Option (Value×Nat)->Shared->Prop},Q' none s->wpAny (model prog w) A' (setNext a k i ep) Q' E' s)(q:∀ h',(∀ b o,b≠I->s.heap.get? b=some o->h'.get? b=some o)->Q none { s with heap:=h' }):wpAny (model prog w) A (pyNext (.ref I)) Q E s:=by
 obtain ⟨oI,h0,hc,hdI⟩:=id X;unfold pyNext;refine aKI (aNH (aLN (name:=Str.ofString "__next__") X.ty eM (aLP eM X.ty lE ?_ (lF _))));unfold Builtin.«set_iterator.__next__»;refine aKI (m:=slotArgs _ _ _) (aKH (aKI (aNI h0 hdI ?_)));dsimp only;refine aKI (aNJ ho hd hf ?_);simp only[aNK,aMA,↓reduceIte,aLH];refine aKI (hn ?_);dsimp only;refine aKI (aM4 h0 hdI (by simp) (sL hh λh' k'=>q h' λb o' nb e=>k' b o' ?_))
 exact (aNF s.heap I _).extBut b o' nb e
theorem aDX{tp:Addr}{ps:Array Value}{p:Nat}{u:Tok}{hx:Int}{x:Value}{Q:Option Value->Shared->Prop}(X:SIt s.heap I a (.ref tp) i es.size ep)(ht:s.heap.IsTuple tp ps)(hp:ps[i]? = some (.int p u))(ho:s.heap.get? a=some o)(hd:o.data=.set es ep t)(hf:t.fits es.size=true)(hx:es[p]? = some (hx,x))(q:∀ h',Heap.SameBut I s.heap h'->SIt h' I a (.ref tp) (i+1) es.size ep->Q (some x) { s with heap:=h' }):wpAny (model prog w) A (pyNext (.ref I)) Q E s:=by obtain ⟨oI,h0,hc,hdI⟩:=id X;obtain ⟨ot,hot,hct,nt,hdt⟩:=ht;unfold pyNext;refine aKI (aNH (aLN (name:=Str.ofString "__next__") X.ty eM (aLP eM X.ty lE ?_ (lF _))));unfold Builtin.«set_iterator.__next__»;refine aKI (m:=slotArgs _ _ _) (aKH (aKI (aNI h0 hdI ?_)));dsimp only;refine aKI (aNJ ho hd hf ?_);simp only[aNK,aMA,↓reduceIte,aLH];refine aKI (wpAny_seqItems hot hdt ?_);dsimp only;rw[hp];dsimp only;unfold setNextDrawn;refine aKI (aKI (aNL ho hd hf ?_));simp only[aNK,aMA,↓reduceIte,aLH,hx];refine aKH (aKI (aDW h0 hc hdI λh' sb X'=>aKH ⟨_,rfl,aKH (q h' sb X')⟩))
theorem aDY{tp:Addr}{ps:Array Value}{Q:Option Value->Shared->Prop}(hh:A.handled=none)(X:SIt s.heap I a (.ref tp) i es.size ep)(ht:s.heap.IsTuple tp ps)(hp:ps[i]? = none)(ho:s.heap.get? a=some o)(hd:o.data=.set es ep t)(hf:t.fits es.size=true)(q:∀ h',(∀ b o,b≠I->s.heap.get? b=some o->h'.get? b=some o)->Q none { s with heap:=h' }):wpAny (model prog w) A (pyNext (.ref I)) Q E s:=by
 obtain ⟨oI,h0,hc,hdI⟩:=id X;obtain ⟨ot,hot,hct,nt,hdt⟩:=ht;unfold pyNext;refine aKI (aNH (aLN (name:=Str.ofString "__next__") X.ty eM (aLP eM X.ty lE ?_ (lF _))));unfold Builtin.«set_iterator.__next__»;refine aKI (m:=slotArgs _ _ _) (aKH (aKI (aNI h0 hdI ?_)));dsimp only;refine aKI (aNJ ho hd hf ?_);simp only[aNK,aMA,↓reduceIte,aLH];refine aKI (wpAny_seqItems hot hdt ?_);dsimp only;rw[hp];dsimp only;refine aKI (aM4 h0 hdI (by simp) ?_)
 have g1:=aLT (Obj.mapFields (·.setIfInBounds 0 (rawInt 0))) h0 (aND (aNE hdI _));have d1:=aNE hdI (·.setIfInBounds 0 (rawInt 0));refine aKI (aM4 (s:={ s with heap:=s.heap.update I (Obj.mapFields (·.setIfInBounds 0 (rawInt 0))) }) g1 d1 (by simp) (sL hh λh' k'=>q h' λb o' nb e=>k' b o' ?_))
 exact (aNF _ I _).extBut b o' nb ((aNF s.heap I _).extBut b o' nb e)
end
section
variable {prog:Program}{w:World}{A:Around}{E:VSP}{s:Shared}
theorem aDZ{M:Model}{src:Source}{n:Nat}{Q:Nat->Shared->Prop}(hn:n≠0)(h:∀ i,i<n->Q i { s with drawn:=s.drawn.bump src }):wpAny M A (choose src n) Q E s :=
 λ_ _ _=>⟨hn,h _ (Nat.mod_lt _ (Nat.pos_of_ne_zero hn))⟩
theorem sO{M:Model}{α:Type}:∀ {n:Nat} {l:List α} {s:Shared} {Q:List α->Shared->Prop},l.length=n->(∀ d l',l'.Perm l->Q l' { s with drawn:=d })->wpAny M A (drawOrder n l) Q E s
 | 0,l,s,Q,hl,h=>by have:l=[]:=List.length_eq_zero_iff.mp hl;subst this;unfold drawOrder;exact aKH (h s.drawn [] (.refl _))
 | n+1,[],s,Q,hl,h=>by cases hl
 | n+1,x::l,s,Q,hl,h=>by
  unfold drawOrder;refine aKI (aDZ (by simp) λi hi=>?_)
  rw[aMO hi];dsimp only;refine aKI (sO (by rw[List.length_eraseIdx,if_pos hi];omega) λd l' p=>aKH (h d _ ?_))
  exact (p.cons _).trans (nN hi)
variable {I a:Addr}{ep:Nat}{o:Obj}{es:Array (Int×Value)}{t:SetTable}
theorem aD0(hh:A.handled=none)(hne:a≠I)(hd:o.data=.set es ep t)(hf:t.fits es.size=true)(bt:cT w=true):Walks prog w A I [I,a] [I] es.size (λi v=>((pickOrder (w.params.setOrder a ep) es).map (·.2))[i]? = some v) (λi h=>SIt h I a (.int (0:Nat) 0) i es.size ep/\h.get? a=some o) where
 sub:=λb hb=>by simp at hb;simp[hb]
 frame:=λ_ _ _ st hk=>⟨st.1.at λo e=>hk I (by simp) o e,hk a (by simp) o st.2⟩
 item:=λi s Q E hi st hQ=>by
  have hz:(pickOrder (w.params.setOrder a ep) es).size=es.size:=by rw[<- aKG,lD.length_eq,aKG]
  have hx:(pickOrder (w.params.setOrder a ep) es)[i]? = some (pickOrder (w.params.setOrder a ep) es)[i]:=aNM (by rw[hz];exact hi)
  refine sM (k:=0) (k':=0) st.1 st.2 hd hf (x:=((pickOrder (w.params.setOrder a ep) es)[i]).2) (λ{A' E' Q'} q=>?_) λh' sb X'=>?_
  . unfold setNext setWalk;refine aKI (aNL st.2 hd hf (aKI (gJ ?_)));simp only[bt,↓reduceIte,aNK,aMA];refine aKI (aKI (aNL st.2 hd hf (aKI (gJ ?_))));simp only[bt,↓reduceIte];refine aKI (aM9 (aKH (aKH ?_)));show Q' (Option.map _ (pickOrder (w.params.setOrder a ep) es)[i]?) _;rw[hx];exact q
  . exact hQ _ h' s.toks (by rw[Array.getElem?_map,hx];rfl) ⟨X',sb.extBut a o hne st.2⟩ λb o' hb e=>sb.extBut b o' (λh=>hb (by simp[h])) e
 done:=λs Q E st hQ=>by
  have hz:(pickOrder (w.params.setOrder a ep) es).size=es.size:=by rw[<- aKG,lD.length_eq,aKG]
  have hx:(pickOrder (w.params.setOrder a ep) es)[es.size]? = none:=aNN (by rw[hz];exact aKL _)
  refine sN (k:=0) hh st.1 st.2 hd hf (λ{A' E' Q'} q=>?_) λh' kp=>hQ h' s.toks λb o' hb e=>kp b o' (λh=>hb (by simp[h])) e
  unfold setNext setWalk;refine aKI (aNL st.2 hd hf (aKI (gJ ?_)));simp only[bt,↓reduceIte,aNK,aMA];refine aKI (aKI (aNL st.2 hd hf (aKI (gJ ?_))));simp only[bt,↓reduceIte];refine aKI (aM9 (aKH (aKH ?_)));show Q' (Option.map _ (pickOrder (w.params.setOrder a ep) es)[es.size]?) _;rw[hx];exact q
 self:=λ_ _ _ _ st hQ=>nO st.1 hQ
theorem aD1{tp:Addr}{ps:Array Value}(hh:A.handled=none)(hne:a≠I)(hnt:tp≠I)(hd:o.data=.set es ep t)(hf:t.fits es.size=true){qs:List Nat}(hq:ps=(qs.map λ(i:Nat)=>rawInt i).toArray)(hp:qs.Perm (List.range es.size)):Walks prog w A I [I,a,tp] [I] es.size (λi v=>∃ p hx,qs[i]? = some p/\es[p]? = some (hx,v)) (λi h=>SIt h I a (.ref tp) i es.size ep/\h.get? a=some o/\h.IsTuple tp ps) where
 sub:=λb hb=>by simp at hb;simp[hb]
 frame:=λ_ _ _ st hk=>⟨st.1.at λo e=>hk I (by simp) o e,hk a (by simp) o st.2.1,st.2.2.at λo e=>hk tp (by simp) o e⟩
 item:=λi s Q E hi st hQ=>by
  have hz:qs.length=es.size:=by rw[hp.length_eq,aNO]
  have hi':i<qs.length:=by rw[hz];exact hi
  have hx:qs[i]? = some qs[i]:=aMO hi';have hm:qs[i]<es.size:=aJ3.mp (hp.mem_iff.mp (aNP hi'));have he:es[qs[i]]? = some (es[qs[i]].1,es[qs[i]].2):=aNM hm;refine aDX st.1 st.2.2 (p:=qs[i]) (u:=0) (by rw[hq,aNQ,aK7,hx];rfl) st.2.1 hd hf he λh' sb X'=>?_
  exact hQ _ h' s.toks ⟨_,_,hx,he⟩ ⟨X',sb.extBut a o hne st.2.1,st.2.2.extBut sb.extBut hnt⟩ λb o' hb e=>sb.extBut b o' (λh=>hb (by simp[h])) e
 done:=λs Q E st hQ=>by
  have hz:qs.length=es.size:=by rw[hp.length_eq,aNO]
  refine aDY hh st.1 st.2.2 (by rw[hq,aNQ,aK7,aNR (by rw[hz];exact aKL _)];rfl) st.2.1 hd hf λh' kp=>hQ h' s.toks λb o' hb e=>kp b o' (λh=>hb (by simp[h])) e
 self:=λ_ _ _ _ st hQ=>nO st.1 hQ
theorem nP{I:Addr}{fp wr:List Addr}{n n':Nat}{P P':Nat->Value->Prop}{St:Nat->Heap->Prop}(W:Walks prog w A I fp wr n P St)(e:n=n')(h:∀ i v,P i v->P' i v):Walks prog w A I fp wr n' P' St:=by subst e;exact ⟨W.sub,W.frame,λi s Q E hi st hQ=>W.item i s Q E hi st λv h' tk p=>hQ v h' tk (h i v p),W.done,W.self⟩
end
section
variable {prog:Program}{w:World}{A:Around}{E:VSP}{s:Shared}{a:Addr}{xs:List Str}
theorem aD2{Q:Bool->Shared->Prop}(ty:s.TypeIs (.ref a) "set")(q:Q false s):wpAny (model prog w) A (Builtin.List.listLengthHint (.ref a)) Q E s:=by
 unfold Builtin.List.listLengthHint;refine aKI (aL4 ty PySem.F.slot_set_len.lookup ?_);generalize hi:("set.__len__" : String)=j
 wp_delta
 rw[show splitId j=some ("set", "__len__") from by subst hi;decide +kernel]
 subst hi;refine aKI (aL8 ty sub_set_self ?_);refine aNS (λx=>absurd x (by decide)) (λ_=>aNS (λ_=>?_) (λx=>absurd (by decide +kernel) x))
 exact aKI (aLQ ty (aKH q))
theorem aD3{items:List Value}{acc:Array Value}(h:ItemsOf (λi v=>items[i]? = some v) acc items.length):acc.toList=items:=by
 apply List.ext_getElem?;intro j;by_cases hj:j<items.length
 . have e1:acc[j]? = some (acc[j]'(by rw[h.1];exact hj)):=aNM _
   rw[aNT,e1];exact (h.2 j _ e1).symm
 . have z1:acc.toList.length=items.length:=by rw[aKG];exact h.1
   rw[aNR (l:=acc.toList) (by omega),aNR (l:=items) (by omega)]
end
def lts(x y:Str):Bool:=ltCps x.cps.toList y.cps.toList
theorem iF{x y:Str}:lts x y=true↔x.cps.toList<y.cps.toList:=by unfold lts;rw[ltCps_eq,aMD]
theorem lG(x:Str):lts x x=false:=by
 cases h:lts x x with
 | false=>rfl
 | true=>exact absurd (iF.mp h) (List.lt_irrefl _)
theorem nQ{x y z:Str}(a:lts x y=true)(b:lts y z=true):lts x z=true:=iF.mpr (List.lt_trans (iF.mp a) (iF.mp b))
theorem nR{x y:Str}(a:lts x y=false)(b:lts y x=false):x=y:=by
 have h1:¬ x.cps.toList<y.cps.toList:=λh=>by rw[iF.mpr h] at a;cases a
 have h2:¬ y.cps.toList<x.cps.toList:=λh=>by rw[iF.mpr h] at b;cases b
 have e:=List.le_antisymm (List.not_lt.mp h2) (List.not_lt.mp h1);cases x;cases y;exact congrArg Str.mk (Array.ext' e)
theorem sP:∀ {l:List Str} {p:Str},risingS p l=true->∀ x∈l,lts x p=false
 | y::l,p,h,x,hx=>by
  have h:(!lts y p&&risingS y l)=true:=h;rw[aLR,aNU] at h;rcases aJ7.mp hx with rfl | hx
  . exact h.1
  . have h2:=sP h.2 x hx;cases q:lts x p with
    | false=>rfl
    | true =>
     cases q2:lts p y with
     | true=>rw[nQ q q2] at h2;cases h2
     | false=>have:=nR q2 h.1;subst this;rw[q] at h2;cases h2
def sx(w:World)(l:Addr)(ys:List Str):HO:=.ext λh=>SetX w h l ys
theorem sQ:∀ {ys:List Str} {us:List Value},StrsAre us ys->aJ (ys.map V.str) us
 | [],_,.nil=>.nil
 | _::ys,_,.cons y t h=>.cons ⟨t,rfl⟩ (sQ h)
section
variable {X:Cx}
theorem Inv.drew{aA:LAO}{σ:L2.St}{H:Hp}{s:Shared}(I:L2.Inv X aA σ H s)(d:Drawn):L2.Inv X aA σ H { s with drawn:=d } :=
 ⟨I.ok,I.os,I.bare,I.base,I.loc,I.cell,I.free,I.freeC,I.pin,I.hok,I.len⟩
end
theorem aD4:bootBuiltins "set" = some (.type "set"):=by decide +kernel
theorem sR:bootBuiltins "sorted" = some (.builtin "sorted"):=by decide +kernel
def txD:List D->Option (List Str)
 | []=>some []
 | .str x::ds=>(txD ds).map (x :: ·)
 | _::_=>none
def txT:D->Option (List Str)
 | .tup ds=>txD ds
 | _=>none
theorem sS{K:Fg}{F:Hp}:∀ {ds:List D} {xs:List V} {ns:List Str},txD ds=some ns->aC K F ds xs->xs=ns.map V.str/\∀ x∈ns,x.length<=sizeLine/\PyData.strOk x=true
 | [],xs,ns,e,r=>by cases e;simp only[aC] at r;subst r;exact ⟨rfl,λx hx=>by cases hx⟩
 | d::ds,xs,ns,e,r=>by
  cases d with
  | str x =>
   simp only[txD] at e;cases q:txD ds with
   | none=>rw[q] at e;cases e
   | some ms=>rw[q] at e;cases e;simp only[aC] at r;obtain ⟨v,vs,rfl,rv,rr⟩:=r;obtain ⟨rfl,h2⟩:=sS q rr;simp only[aB] at rv;obtain ⟨rfl,h1⟩:=rv;exact ⟨rfl,λy hy=>(aJ7.mp hy).elim (λe=>by subst e;exact h1) (h2 y)⟩
  | _=>cases e
theorem sU{K:Fg}{F:Hp}:∀ {ns:List Str},(∀ x∈ns,x.length<=sizeLine/\PyData.strOk x=true)->aC K F (ns.map .str) (ns.map V.str)
 | [],_=>by simp[aC]
 | x::ns,h=>by simp only[aLY,aC,aB];exact ⟨_,_,rfl,⟨rfl,h x mcs⟩,sU λy hy=>h y (mcm hy)⟩
section
variable {C:Cw}{X:Cx}{ga gb:Rho->Res}{ea eb:Expr}
end
section
variable {C:Cw}{X:Cx}{ga gb:Rho->Res}{ea eb:Expr}{p p1 p2 q q1 q2 pos:Pos}
end
section
variable {prog:Program}{w:World}{A:Around}{E:VSP}{s:Shared}{I l:Addr}{items:Array Value}
end
section
variable {C:Cw}{X:Cx}{ga:Rho->Res}{ea:Expr}{p p1 q1 pos:Pos}
end
section
variable {prog:Program}{w:World}{A:Around}{R:Result->Shared->Prop}{s:Shared}{b:Bool}{elt tg aO tg2 pR:Expr}{ifs:List Expr}{scope:Scope}{pos:Pos}{it acc:Value}{env:Env}
end
def AllF(ρ:Rho):Prop:=∀ (i:Nat) (m:Bool) (d:D),ρ[i]? = some (some (m,d))->m=false
def AR(K:Fg)(w:World)(b:Bool)(Da:Addr)(F:Hp)(zs:List D)(o:HO):Prop:=match b with
 | true=>∃ ys,o=.lst ys/\aC K F zs ys
 | false=>∃ (ns ys:List Str),zs=ns.map .str/\o=sx w Da ys/\ys.Nodup/\ys.length<=ns.length/\(∀ x,x∈ys↔x∈ns)/\∀ x∈ns,x.length<=sizeLine/\PyData.strOk x=true
section
variable {C:Cw}{X:Cx}
end
section
variable {C:Cw}{X:Cx}{elt aO tg pR tg2:Expr}{ifs:List Expr}{scope:Scope}{pos:Pos}{aD:List Nat}{aF tgN:List Str}{gi gt gi2 ge:Rho->Res}
variable (hc : X.calm = true) (hi : PIv C X tg aO gi) (cJ : ∀ y ∈ scope.names, y.2 ≠ .cell) (cU : scope.kind = .function) (eQ : ∀ y ∈ scope.names, y.2 = .local → scope.names.lookup y.1 = some .local)
    (cV:∀ y∈scope.names,y.2=.free->X.env.kindOf y.1=some .cell\/X.env.kindOf y.1=some .free)
    (dO:aF.map some=aD.map λi=>X.N[i]?) (eT:∀ y∈aF,(y,NameKind.free)∈scope.names)
    (eR:∀ y∈aF,(relabel scope X.env).names.lookup y=some .cell\/(relabel scope X.env).names.lookup y=some .free)
    (hn:tgN.length=2)
    (hg:∀ cl A fp s3 H3,PGw (bB X scope (aF++tgN) cl A fp s3 H3) tg (.nm aD.length)) (hf:∀ cl A fp s3 H3,cS (bB X scope (aF++tgN) cl A fp s3 H3) ifs (tT (C.nox.at X) gt))
    (hi2:∀ cl A fp s3 H3,PIv C.nox (bB X scope (aF++tgN) cl A fp s3 H3) tg2 pR gi2) (hg2:∀ cl A fp s3 H3,PGw (bB X scope (aF++tgN) cl A fp s3 H3) tg2 (.nm (aD.length+1)))
    (he:∀ cl A fp s3 H3,PV C.nox (bB X scope (aF++tgN) cl A fp s3 H3) elt ge)
    (hs:∀ x,foldedSetIterable aO X.env x=pure x) (hs2:∀ env x,foldedSetIterable pR env x=pure x)
include hc hi cJ cU eQ cV dO eT eR hn hg hf hi2 hg2 he hs hs2
end
end D3
namespace D3
open PySem PySem.Spec PyProof.Rows L2 PySem.W
section
variable {n:Nat}{lt:Nat->Nat->Bool}{cmp:Nat->Nat->(Bool->Shared->Prop)->Shared->Prop}{J:Shared->Prop}
def Upto(lt:Nat->Nat->Bool)(p:Array Nat)(b:Nat):Prop:=∀ i j,i<j->j<b->lt (p.getD i 0) (p.getD j 0)=true
def fF(n:Nat)(lt:Nat->Nat->Bool)(cmp:Nat->Nat->(Bool->Shared->Prop)->Shared->Prop)(J:Shared->Prop):Prop:=∀ i j s C,i<n->j<n->J s->(∀ s',J s'->C (lt i j) s')->cmp i j C s
end
section
variable {prog:Program}{w:World}{A:Around}{E:VSP}{s:Shared}
end
theorem lH{α:Type}(d:α):∀ (l:List α),(List.range l.length).map (λi=>l.getD i d)=l:=λl=>by
 apply List.ext_getElem
 . simp
 . intro i h1 h2;simp at h1;simp[h1]
section
variable {prog:Program}{w:World}{A:Around}{E:VSP}{s:Shared}
end
theorem nS{α:Type}{K:Fg}{F:Hp}{f:α->D}{g:α->V}:∀ {q:List α},(∀ i∈q,aB K F (f i) (g i))->aC K F (q.map f) (q.map g)
 | [],_=>aC.nil
 | i::q,h=>aC.cons (h i mcs) (nS λj hj=>h j (mcm hj))
theorem sV{α:Type}{g:α->V}{u:α->Value}:∀ {q:List α},(∀ i∈q,aI (g i) (u i))->aJ (q.map g) (q.map u)
 | [],_=>.nil
 | i::q,h=>.cons (h i mcs) (sV λj hj=>h j (mcm hj))
theorem sW:∀ {xs:List V} {us:List Value} {i:Nat},aJ xs us->i<xs.length->aI (xs.getD i .non) (us.getD i .none)
 | [],_,i,h,e=>by simp at e
 | x::xs,_,0,h,e=>by cases h with | cons r t=>exact r
 | x::xs,_,i+1,h,e=>by
  cases h with
  | cons r t =>
   have:=sW (i:=i) t (by simpa using e)
   simpa using this
section
variable {X:Cx}
end
end D3
namespace D3
open PySem PySem.Spec PyProof.Rows L2 PySem.SeqAt PySem.MeetsSeq
abbrev sX:Md->D->Md->D->Option (Md×D):=fI (λ_ _=>true) λi j=>.int (Builtin.bitAnd i j)
abbrev fBor:Md->D->Md->D->Option (Md×D):=fI (λ_ _=>true) λi j=>.int (Builtin.bitOr i j)
abbrev fShl:Md->D->Md->D->Option (Md×D):=fI (λi j=>decide (0<=j)&&decide (j<=1000000)&&decide (i.natAbs<2 ^ 64)) λi j=>.int (i * 2 ^ j.toNat)
abbrev fShr:Md->D->Md->D->Option (Md×D):=fI (λ_ j=>decide (0<=j)) λi j=>.int (i / 2 ^ j.toNat)
section
variable {C:Cw}{X:Cx}
theorem aD5:OpD C X (binaryOp .BitAnd) sX:=fM yB λ_ _ i j=>bR _
theorem aD6:OpD C X (binaryOp .BitOr) fBor:=fM op_or λ_ _ i j=>bR _
theorem aD7:OpD C X (binaryOp .LShift) fShl:=hU x0 (λi j h=>by
 simp only[aLR,aMD] at h;exact ⟨h.1.1,h.1.2,h.2⟩) λ_ _ i j=>bR _
theorem aD8:OpD C X (binaryOp .RShift) fShr:=hU yA (λi j h=>aME h) λ_ _ i j=>bR _
end
section
variable {X:Cx}{o e:Expr}{apos cpos:Pos}{td ty:TE}
end
section
variable {C:Cw}{X:Cx}{o e:Expr}{apos cpos:Pos}{go g:Rho->Res}
end
end D3
namespace D3
open PySem PySem.Spec PyProof.Rows L2
def epO(o:Obj):Nat:=match o.data with | .dict _ ep=>ep | _=>0
section
variable {C:Cw}{X:Cx}{pos:Pos}{scope:Scope}{aD:List Nat}{aF:List Str}{x d m:Str}{p0 p1 p2 p3 p4 p5 p6 p7 p8 p9:Pos}{i j jd jm k0:Nat}
end
end D3
namespace L2
open PySem PySem.Spec PyProof.Rows D3
end L2
namespace D3
open PySem PySem.Spec PyProof.Rows L2
section
variable {C:Cw}{X:Cx}{pos:Pos}
end
abbrev dD(xs:Array Nat):Prop:=xs.toList.Pairwise (· < ·)
theorem lI{xs:Array Nat}(h:dD xs){i j v u:Nat}(hi:xs[i]? = some v)(hj:xs[j]? = some u)(hl:i<j):v<u:=by rw[<- aNT] at hi hj;obtain ⟨h1,e1⟩:=aKA.mp hi;obtain ⟨h2,e2⟩:=aKA.mp hj;rw[<- e1,<- e2];exact List.pairwise_iff_getElem.mp h i j h1 h2 hl
theorem nT{xs:Array Nat}(h:dD xs)(j:Nat):∀ (f lo hi:Nat),hi<=lo+f->lo<=hi->hi<=xs.size->(∀ k v,k<lo->xs[k]? = some v->v<j)->(∀ k v,hi<=k->xs[k]? = some v->j<=v)->SetTable.below.go xs j f lo hi<=xs.size/\(∀ k v,k<SetTable.below.go xs j f lo hi->xs[k]? = some v->v<j)/\∀ k v,SetTable.below.go xs j f lo hi<=k->xs[k]? = some v->j<=v
 | 0,lo,hi,hf,hl,hs,h1,h2=>by
  have:lo=hi:=by omega
  subst this;exact ⟨hs,h1,h2⟩
 | f+1,lo,hi,hf,hl,hs,h1,h2=>by
  unfold SetTable.below.go;split
  . rename_i hlt;dsimp only;have hm:(lo+hi) / 2<xs.size:=by omega
    have em:xs[(lo+hi) / 2]? = some xs[(lo+hi) / 2]:=aNM hm;have eg:xs.getD ((lo+hi) / 2) j=xs[(lo+hi) / 2]:=by rw[aNV,em];rfl
    rw[eg];split
    . rename_i hv;refine nT h j f _ _ (by omega) (by omega) hs (λk v hk e=>?_) h2
      by_cases hk2:k=(lo+hi) / 2
      . subst hk2;rw[em] at e;cases e;exact hv
      . exact Nat.lt_trans (lI h e em (by omega)) hv
    . rename_i hv;refine nT h j f _ _ (by omega) (by omega) (by omega) h1 λk v hk e=>?_
      by_cases hk2:k=(lo+hi) / 2
      . subst hk2;rw[em] at e;cases e;omega
      . have:=lI h em e (by omega);omega
  . have:lo=hi:=by omega
    subst this;exact ⟨hs,h1,h2⟩
theorem lJ{xs:Array Nat}(h:dD xs)(j:Nat):SetTable.below xs j<=xs.size/\(∀ k v,k<SetTable.below xs j->xs[k]? = some v->v<j)/\∀ k v,SetTable.below xs j<=k->xs[k]? = some v->j<=v :=
 nT h j _ _ _ (by omega) (aKX _) (aKL _) (λk v hk=>absurd hk (Nat.not_lt_zero _)) λk v hk e=>by rw[aNN hk] at e;cases e
theorem aD9{xs:Array Nat}(h:dD xs):SetTable.below xs 0=0:=by
 obtain ⟨a,b,c⟩:=lJ h 0;by_cases h0:SetTable.below xs 0=0
 . exact h0
 . have:=b 0 (xs[0]'(by omega)) (by omega) (aNM _)
   omega
theorem aEA{xs:Array Nat}(h:dD xs){i p:Nat}(e:xs[i]? = some p):SetTable.below xs (p+1)=i+1:=by
 obtain ⟨a,b,c⟩:=lJ h (p+1);have hi:i<xs.size:=by
  rcases aNW i xs.size with q | q
  . exact q
  . rw[aNN q] at e;cases e
 have h1:i<SetTable.below xs (p+1):=by
  rcases aNW i (SetTable.below xs (p+1)) with q | q
  . exact q
  . have:=c i p q e;omega
 by_cases h2:SetTable.below xs (p+1)=i+1
 . exact h2
 . have hl:i+1<xs.size:=by omega
   have e2:xs[i+1]? = some xs[i+1]:=aNM hl;have u1:=b (i+1) _ (by omega) e2
   have u2:=lI h e e2 (aKW _);omega
def PlOk(t:SetTable):Prop:=t.plain=false\/(t.dummies = #[]/\dD t.place)
theorem aEB{xs:Array Nat}(h:dD xs){j:Nat}(hn:xs[SetTable.below xs j]?≠some j):j∉xs.toList:=λhm=>by
 obtain ⟨k,hk,e⟩:=aNX hm;have ek:xs[k]? = some j:=by rw[<- aNT,aMO hk,e]
 obtain ⟨a,b,c⟩:=lJ h j;have hk':k<xs.size:=by simpa using hk
 rcases aNW k (SetTable.below xs j) with q | q
 . have:=b k j q ek;omega
 . have hb:SetTable.below xs j<xs.size:=by omega
   have eb:xs[SetTable.below xs j]? = some xs[SetTable.below xs j]:=aNM hb;have v1:=c _ _ (aKL _) eb;rcases aNW (SetTable.below xs j) k with q2 | q2
   . have:=lI h eb ek q2;omega
   . have:SetTable.below xs j=k:=by omega
     rw[this] at hn;exact hn ek
theorem aEC(j:Nat):SetTable.has #[] j=false:=rfl
theorem aED{t:SetTable}{j:Nat}(hd:t.dummies = #[])(h:dD t.place)(hn:t.place[SetTable.below t.place j]?≠some j):(t.put j).1.dummies = #[]/\dD (t.put j).1.place:=by
 unfold SetTable.put;dsimp only;rw[hd,aEC];refine ⟨rfl,?_⟩;show (SetTable.insertAt t.place (SetTable.below t.place j) j).toList.Pairwise _;have hj:=aEB h hn;obtain ⟨a,b,c⟩:=lJ h j;generalize SetTable.below t.place j=p at *;rw[SetTable.toList_insertAt];have ht:t.place.toList.length=t.place.size:=by simp
 have hlt:∀ x∈t.place.toList.take p,x<j:=λx hx=>by obtain ⟨k,hk,e⟩:=aNX hx;rw[List.getElem_take] at e;rw[aK2] at hk;exact b k x (by omega) (by rw[<- aNT,aMO (by omega),e])
 have hgt:∀ x∈t.place.toList.drop p,j<x:=λx hx=>by
  have hne:x≠j:=λe=>hj (e ▸ List.mem_of_mem_drop hx);obtain ⟨k,hk,e⟩:=aNX hx;rw[List.getElem_drop] at e;rw[aLL] at hk;have:=c (p+k) x (by omega) (by rw[<- aNT,aMO (by omega),e])
  omega
 have hs:t.place.toList.Pairwise (· < ·):=h;rw[<- List.take_append_drop p t.place.toList,aNY] at hs;rw[aNY,aNZ];exact ⟨hs.1,⟨hgt,hs.2.1⟩,λx hx y hy=>by
  rcases aJ7.mp hy with rfl | hy
  . exact hlt x hx
  . exact hs.2.2 x hx y hy⟩
section
variable {prog:Program}{w:World}{A:Around}{E:VSP}{s:Shared}
end
section
variable {prog:Program}{w:World}{A:Around}{E:VSP}{s:Shared}
end
theorem aEE:isSubtype (.type "list") (.type "set")=pure false:=by rw[aNB];kernel_rfl
theorem aEF:isSubtype (.type "list") (.type "frozenset")=pure false:=by rw[aNB];kernel_rfl
section
variable {prog:Program}{w:World}{A:Around}{E:VSP}{s:Shared}
theorem aEG{M:Model}{p:Addr}{Q:Bool->Shared->Prop}(tp:s.TypeIs (.ref p) "list")(q:Q false s):wpAny M A (isInstance (.ref p) (.type "set") <||> isInstance (.ref p) (.type "frozenset")) Q E s:=by unfold orM;exact aKI (aL8 tp aEE (aL8 tp aEF q))
end
section
variable {prog:Program}{w:World}{A:Around}{E:VSP}{s:Shared}
variable {I a:Addr}{ep:Nat}{o:Obj}{es:Array (Int×Value)}{t:SetTable}
def plc(t:SetTable):Nat->Nat
 | 0=>0
 | i+1=>t.place.getD i 0+1
theorem sY(h:dD t.place){i:Nat}(hi:i<=t.place.size):SetTable.below t.place (plc t i)=i:=by
 cases i with
 | zero=>exact aD9 h
 | succ i =>
  have e:t.place[i]? = some (t.place[i]'(by omega)):=aNM _
  show SetTable.below t.place (t.place.getD i 0+1)=_;rw[aNV,e];exact aEA h e
theorem aEH(hh:A.handled=none)(hne:a≠I)(hd:o.data=.set es ep t)(hf:t.fits es.size=true)(bt:cT w=false)(hl:t.led=true)(hr:dD t.place)(h1:(!t.plain&&decide (es.size > 1))=false):Walks prog w A I [I,a] [I] es.size (λi v=>(es.map (·.2))[i]? = some v) (λi h=>SIt h I a (.int ((plc t i:Nat):Int) 0) i es.size ep/\h.get? a=some o):=by
 have hz:t.place.size=es.size:=by unfold SetTable.fits at hf;rw[aLR,aKU] at hf;exact hf.1
 refine ⟨λb hb=>by simp at hb;simp[hb],λ_ _ _ st hk=>⟨st.1.at λo e=>hk I (by simp) o e,hk a (by simp) o st.2⟩,λi s Q E hi st hQ=>?_,λs Q E st hQ=>?_,λ_ _ _ _ st hQ=>nO st.1 hQ⟩
 . have e1:es[i]? = some (es[i].1,es[i].2):=aNM hi;have e2:t.place[i]? = some (t.place[i]'(by omega)):=aNM _
   have e3:plc t (i+1)=t.place[i]'(by omega)+1:=by show t.place.getD i 0+1=_;rw[aNV,e2];rfl
   refine sM (k:=plc t i) (k':=plc t (i+1)) st.1 st.2 hd hf (x:=es[i].2) (λ{A' E' Q'} q=>?_) λh' sb X'=>?_
   . unfold setNext;refine aKI (aNL st.2 hd hf (aKI (gJ ?_)));simp only[bt,↓reduceIte,aMA];split
     . rename_i hc;have hc:(!t.plain&&decide (es.size > 1))=true:=hc;rw[h1] at hc;cases hc
     . show wpAny _ _ ((if (!t.led&&!(es.isEmpty))=true then _ else _) >>= _) _ _ _;rw[hl];refine aKI (aKH ?_);rw[sY hr (by omega),e1,e2]
       rw[e3] at q;exact aKH q
   . exact hQ _ h' s.toks (by rw[Array.getElem?_map,e1];rfl) ⟨X',sb.extBut a o hne st.2⟩ λb o' hb e=>sb.extBut b o' (λh=>hb (by simp[h])) e
 . refine sN hh st.1 st.2 hd hf (λ{A' E' Q'} q=>?_) λh' kp=>hQ h' s.toks λb o' hb e=>kp b o' (λh=>hb (by simp[h])) e
   unfold setNext;refine aKI (aNL st.2 hd hf (aKI (gJ ?_)));simp only[bt,↓reduceIte,aMA];split
   . rename_i hc;have hc:(!t.plain&&decide (es.size > 1))=true:=hc;rw[h1] at hc;cases hc
   . show wpAny _ _ ((if (!t.led&&!(es.isEmpty))=true then _ else _) >>= _) _ _ _;rw[hl];refine aKI (aKH ?_);rw[sY hr (by omega),aNN (aKL _)]
     exact aKH q
end
section
variable {prog:Program}{w:World}{A:Around}{E:VSP}{s:Shared}{a:Addr}{xs:List Int}
end
section
variable {X:Cx}
end
section
variable {C:Cw}{X:Cx}{ga:Rho->Res}{ea:Expr}{p p1 q1 pos:Pos}
end
section
variable {C:Cw}{X:Cx}{e:Expr}{es:List Expr}{gs:Rho->aT}{p pos:Pos}{x:Str}{k n:Nat}{Φ:List D->Res}{CX:CXT}
end
def fG(ρ:Rho)(i:Nat)(rk rv:Res):aG:=match ρ[i]? with
 | some (some (true,.lst ds))=>(a5 rv).thS ρ λm d=>match m with
  | .fz=>rk.thS ρ λ_ kd=>(match kd with
   | .int k=>(match ixN ds.length k with | some j=>.nx (ρ.set i (some (true,.lst (ds.set j d)))) | none=>.stuck)
   | _=>.stuck)
  | _=>.stuck
 | _=>.stuck
theorem aC.set{K:Fg}{F:Hp}:∀ {ds:List D} {xs:List V} {j:Nat} {d:D} {v:V},aC K F ds xs->aB K F d v->aC K F (ds.set j d) (xs.set j v)
 | [],_,_,_,_,h,_=>by simp only[aC] at h;subst h;exact aC.nil
 | d'::ds,_,0,_,_,h,r=>by simp only[aC] at h;obtain ⟨y,ys,rfl,q,t⟩:=h;exact aC.cons r t
 | d'::ds,_,j+1,_,_,h,r=>by simp only[aC] at h;obtain ⟨y,ys,rfl,q,t⟩:=h;exact aC.cons q (aC.set t r)
section
variable {C:Cw}{X:Cx}{e ke:Expr}{g gk:Rho->Res}{x:Str}{p ap cp sp pos:Pos}
theorem aEI(i:Nat)(hv:PE X (.Name x p) (f8 i))(hk:PV C X ke gk)(he:PV C X e g)(hsw:swapsWith e (some (.Subscript (.Name x p) ke sp)) pos.line X.env=pure false):PSv C X (.Assign [.Subscript (.Name x p) ke sp] e pos) (λρ=>fG ρ i (gk ρ) (g ρ)):=by
 have h1:PS X (.Assign [.Subscript (.Name x p) ke sp] e pos) (λE σ H=>tG (C.at X) (λρ=>a5 (g ρ)) σ H λv H1=>f8 i σ H1 λo H2=>tG (C.at X) gk σ H2 λk H3=>qW o k v H3 (λH4=>E.nx σ H4)):=by intro aA s σ H D I h;refine wpAny_Assign_Subscript (thn (fN he aA s σ H _ I h) λr s1 ⟨v,H1,I1,rv,q1⟩=>thn (hv aA s1 σ H1 _ I1 q1) λu s2 ⟨x,H2,I2,rx,q2⟩=>thn (hk aA s2 σ H2 _ I2 q2) λiv s3 ⟨y,H3,I3,ry,q3⟩=>?_) hsw;refine thn (zM aA s3 σ H3 _ _ _ _ _ _ _ I3 rx ry rv q3) λ_ s4 ⟨H4,I4,q4⟩=>?_;exact ⟨σ,H4,I4,q4⟩
 refine PS.imp h1 λE σ H q=>?_;obtain ⟨ρ,F,R,w⟩:=q;dsimp only at w;cases e0:ρ[i]? with
 | none=>unfold fG at w;rw[e0] at w;exact w.elim
 | some o =>
  cases o with
  | none=>unfold fG at w;rw[e0] at w;exact w.elim
  | some bd =>
   obtain ⟨b,d0⟩:=bd;cases b with
   | false=>unfold fG at w;rw[e0] at w;exact w.elim
   | true =>
    cases d0 with
    | lst ds =>
     unfold fG at w;rw[e0] at w;dsimp only at w;obtain ⟨v0,ev0,rp0,hn0⟩:=R.slot i true _ e0;obtain ⟨a,ea,hfa,xs,hh,rl⟩:=rp0;subst ea;refine gE R w λm d v F' H' w' s R' rp fr=>?_;cases m with
     | fr=>exact (show False from w').elim
     | bo=>exact (show False from w').elim
     | fz =>
     dsimp only at w';refine ⟨.ref a,ev0,?_⟩;refine gE R' w' λm2 kd u F2 H2 w2 s2 R2 rp2 _=>?_;cases kd with
     | int k =>
      dsimp only at w2;cases ej:ixN ds.length k with
      | none=>rw[ej] at w2;exact w2.elim
      | some j =>
       rw[ej] at w2;dsimp only at w2;have hh2:H2 a=some (.lst xs):=s2.same _ _ (s.same _ _ hh);cases rp2.int;refine ⟨a,xs,k,j,rfl,rfl,hh2,by rw[rl.length];exact ej,?_⟩
       exact w2 σ F2 _ (aE.refl _) (R2.mut e0 ev0 ⟨_,bA,aC.set (rl.mono (s.fsame.trans s2.fsame) _ _) (aB.mono s2.fsame _ _ rp)⟩)
     | _=>exact (show False from w2).elim
    | _=>unfold fG at w;rw[e0] at w;exact w.elim
end
section
open PySem.SeqAt
open PySem.AutoSeq1 (wpAny_loadPart')
open PySem.MeetsSeq PySem.MeetsSeq2 PySem.MeetsSeq3
variable {prog:Program}{w:World}{A:Around}{E:VSP}{s:Shared}
end
section
variable {prog:Program}{w:World}{A:Around}{E:VSP}{s:Shared}
end
section
variable {prog:Program}{w:World}{K:Type}[DecidableEq K]{knd:KeyKind prog w K}{A:Around}{E:VSP}{s:Shared}
end
section
variable {C:Cw}{X:Cx}{ga gb:Rho->Res}{ea eb:Expr}{p p1 q1 pos:Pos}
end
end D3
namespace D3
open PySem PySem.Spec PySem.Calls PyProof.Rows L2
section
variable {C:Cw}{X:Cx}{o e f:Expr}{go ge gf:Rho->Res}{apos cpos:Pos}
end
end D3
namespace PySem
open Sem (wp)
section
variable {prog:Program}{w:World}{A:Around}{E:VSP}{s:Shared}
end
end PySem
namespace L2
open PySem PySem.Spec PyProof.Rows
section
variable {X:Cx}{tg:Expr}
end
end L2
namespace D3
open PySem PySem.Spec PySem.Calls PyProof.Rows L2
section
variable {C:Cw}{X:Cx}{tg:Expr}{gs:Rho->aT}{p pos:Pos}
end
section
variable {C:Cw}{X:Cx}{pos:Pos}
end
end D3
namespace D3
open PySem PySem.Spec PyProof.Rows L2
section
variable {X:Cx}{aA:LAO}{σ:L2.St}{H:Hp}{s:Shared}
theorem bF.is:∀ {xs:List N} {ys:List V} {us:List Value},(∀ x∈xs,∀ v u,NAt X.K H x v->aI v u->IsN s.heap x u)->bF X.K H xs ys->aJ ys us->aN s.heap xs us
 | [],ys,us,_,h,r=>by rw[bF] at h;subst h;cases r;rw[aN]
 | x::xs,ys,us,k,h,r=>by
  rw[bF] at h;obtain ⟨y,zs,rfl,h1,h2⟩:=h;cases r with
  | cons r1 r2=>rw[aN];exact ⟨_,_,rfl,k x mcs _ _ h1 r1,bF.is (λz hz=>k z (mcm hz)) h2 r2⟩
theorem NAt.is(I:L2.Inv X aA σ H s)(k:N):∀ v u,NAt X.K H k v->aI v u->IsN s.heap k u:=by
 induction k using N.ind with
 | hi n=>intro v u h r;rw[NAt] at h;subst h;obtain ⟨t,rfl⟩:=r;rw[IsN];exact ⟨t,rfl⟩
 | hs x=>intro v u h r;rw[NAt] at h;obtain ⟨rfl,_,hk⟩:=h;obtain ⟨t,rfl⟩:=r;rw[IsN];exact ⟨⟨t,rfl⟩,hk⟩
 | ht xs ih=>intro v u h r;rw[NAt] at h;obtain ⟨a,ys,rfl,hq,hl⟩:=h;cases r;obtain ⟨its,rv,⟨o,e,c,_,n,d⟩,_⟩:=SqT.plain I hq;rw[IsN];exact ⟨a,o,its.toArray,n,rfl,e,c,d,by simpa using bF.is ih hl rv⟩
abbrev KN:=Paired (λ(p:N×Addr×V) (q:N×Addr×Value)=>p.1=q.1/\p.2.1=q.2.1/\aI p.2.2 q.2.2)
def gK(K:Fg)(H:Hp)(kvs:List (N×Addr×V)):Prop:=∀ p∈kvs,NAt K H p.1 (.ref p.2.1)/\p.1.dp<=8
def dJ(kvs:List (N×Addr×V))(k:N):Option V:=(kvs.find? λp=>decide (p.1=k)).map (·.2.2)
def fT(kvs:List (N×Addr×V))(k:N)(b:Addr)(v:V):List (N×Addr×V):=if (dJ kvs k).isSome=true then kvs.map (λp=>if p.1=k then (p.1,p.2.1,v) else p) else kvs++[(k,b,v)]
theorem sZ{p:N×Addr×V}{r:List (N×Addr×V)}{k:N}(e:p.1=k):dJ (p::r) k=some p.2.2:=by simp[dJ,aN0,e]
theorem tB{p:N×Addr×V}{r:List (N×Addr×V)}{k:N}(e:¬ p.1=k):dJ (p::r) k=dJ r k:=by simp[dJ,aN0,e]
theorem KN.val{kvs:List (N×Addr×V)}{xs:List (N×Addr×Value)}(r:KN kvs xs)(k:N):cW (dJ kvs k) ((atKey xs k).map (·.2)):=by
 induction r with
 | nil=>exact True.intro
 | @cons p q ps qs h t ih =>
  by_cases e:p.1=k
  . have b:atKey (q::qs) k=some q.2:=by simp[atKey,aN0,h.1.symm.trans e]
    rw[sZ e,b];exact h.2.2
  . have e':¬ q.1=k:=λz=>e (h.1.trans z);have b:atKey (q::qs) k=atKey qs k:=by simp[atKey,aN0,e']
    rw[tB e,b];exact ih
theorem KN.repl{kvs:List (N×Addr×V)}{xs:List (N×Addr×Value)}(r:KN kvs xs)(k:N){y:V}{u:Value}(ry:aI y u):KN (kvs.map λp=>if p.1=k then (p.1,p.2.1,y) else p) (xs.map (putAt k u)):=by
 induction r with
 | nil=>exact .nil
 | @cons p q ps qs h t ih =>
  rw[aLY,aLY];refine .cons ?_ ih;unfold putAt;by_cases e:p.1=k
  . rw[if_pos e,if_pos (h.1.symm.trans e)];exact ⟨h.1,h.2.1,ry⟩
  . rw[if_neg e,if_neg (λz=>e (h.1.trans z))];exact h
theorem KN.put{kvs:List (N×Addr×V)}{xs:List (N×Addr×Value)}(r:KN kvs xs)(k:N)(b:Addr){y:V}{u:Value}(ry:aI y u):KN (fT kvs k b y) (storedH xs k b u):=by
 have e:(dJ kvs k).isSome=(atKey xs k).isSome:=by rw[(r.val k).isSome_eq,Option.isSome_map]
 unfold fT storedH;rw[e];by_cases q:(atKey xs k).isSome=true
 . rw[if_pos q,if_pos q];exact r.repl k ry
 . rw[if_neg q,if_neg q];exact Paired.snoc r ⟨rfl,rfl,ry⟩
theorem aEJ(kvs:List (N×Addr×V))(k:N)(b:Addr)(v:V):(fT kvs k b v).length<=kvs.length+1:=by
 unfold fT;split
 . rw[aLA];omega
 . rw[aK9];exact aKL _
theorem KN.is{kvs:List (N×Addr×V)}{xs:List (N×Addr×Value)}{P:N->Addr->Prop}(r:KN kvs xs)(h:∀ p∈kvs,P p.1 p.2.1):∀ x∈xs,P x.1 x.2.1:=by
 induction r with
 | nil=>intro x hx;cases hx
 | @cons p q ps qs hq t ih =>
  intro x hx;rcases aJ7.mp hx with e | hx
  . subst e;have:=h p mcs;rw[hq.1,hq.2.1] at this;exact this
  . exact ih (λp hp=>h p (mcm hp)) x hx
theorem lK{a:Addr}{kvs:List (N×Addr×V)}(I:L2.Inv X aA σ H s)(e:Rd H a (.dN kvs))(hk:gK X.K H kvs):kvs.length<=sizeLine/\(a==sysModules)=false/\∃ xs,KN kvs xs/\s.heap.DictOfH (kW X.prog X.w) a xs:=by
 obtain ⟨z,y,xs,r,o,es,ep,h1,h2,h3,h4,h5⟩:=(show bE X.prog X.w H s.heap a (.dN kvs) from e.ok I.hok)
 exact ⟨z,y,xs,r,o,es,ep,h1,h2,h3,h4,KN.is (P:=λk b=>(kW X.prog X.w).is s.heap k b) r λp hp=>⟨NAt.is I _ _ _ (hk p hp).1 rfl,(hk p hp).2⟩,h5⟩
def iG(K:Fg)(H:Hp)(a:Addr)(y:V)(r:Option V):Prop:=∃ kvs k b,Rd H a (.dN kvs)/\gK K H kvs/\y=.ref b/\(NAt K H k (.ref b)/\k.dp<=8)/\r=dJ kvs k
def NPut(K:Fg)(H:Hp)(a:Addr)(y v:V)(H':Hp):Prop:=∃ kvs k b,H a=some (.dN kvs)/\gK K H kvs/\y=.ref b/\(NAt K H k (.ref b)/\k.dp<=8)/\kvs.length<sizeLine/\H'=upd H a (.dN (fT kvs k b v))
end
section
variable {X:Cx}{aA:LAO}{σ:L2.St}{H:Hp}{s:Shared}{a:Addr}{y v d:V}{u r:Value}{o:Option V}{A:Around}{E:VSP}
theorem nU(hu:A.units+64<cLine):(kW X.prog X.w).room A.in1:=by show A.units+1+8<cLine;omega
theorem aEK{Q:VSP}(hu:A.units+64<cLine)(I:L2.Inv X aA σ H s)(g:iG X.K H a y (some v))(ry:aI y u)(h:∀ w' s',L2.Inv X aA σ H s'->aI v w'->Q w' s'):wpAny (model X.prog X.w) A (getItem (.ref a) u) Q E s:=by
 obtain ⟨kvs,k,b,e,hk,rfl,kb,l⟩:=g;cases ry;obtain ⟨z,hd,xs,rel,dd⟩:=lK I e hk;obtain ⟨w',hw,rw'⟩:=cW.some_of (v:=v) (o:=(atKey xs k).map (·.2)) (by rw[l];exact rel.val k)
 obtain ⟨p,hp,hp2⟩:=Option.map_eq_some_iff.mp hw;refine wpAny_getItem_heap (nU hu) (k:=k) ⟨NAt.is I _ _ _ kb.1 rfl,kb.2⟩ dd hp ?_;rw[hp2];exact h w' _ (I.tok _) rw'
theorem aEL{Q:VSP}(hu:A.units+64<cLine)(I:L2.Inv X aA σ H s)(g:iG X.K H a y o)(ry:aI y u)(rd:aI d r)(h:∀ w' s',L2.Inv X aA σ H s'->aI (o.getD d) w'->Q w' s'):wpAny (model X.prog X.w) A (call (.builtin "dict.get") [.ref a,u,r]) Q E s:=by obtain ⟨kvs,k,b,e,hk,rfl,kb,l⟩:=g;cases ry;obtain ⟨z,hd,xs,rel,dd⟩:=lK I e hk;refine call_meetsIn PySem.F.slot_dict_get dd.typeIs PySem.F.entry_dict_get (PySem.F.args_dict_get_3 _ _ _) (meetsH_dict_get_default (kW X.prog X.w) a b hd r) ⟨nU hu,k,xs,⟨NAt.is I _ _ _ kb.1 rfl,kb.2⟩,dd,h _ _ (I.tok _) ?_⟩;rw[l];exact (rel.val k).getD rd
theorem aEM{H':Hp}{Q:Unit->Shared->Prop}(hu:A.units+64<cLine)(I:L2.Inv X aA σ H s)(g:NPut X.K H a y v H')(ry:aI y u)(rv:aI v r)(h:∀ s',L2.Inv X aA σ H' s'->Q () s'):wpAny (model X.prog X.w) A (setItem (.ref a) u r) Q E s:=by
 obtain ⟨kvs,k,b,e,hk,rfl,kb,l,rfl⟩:=g;cases ry;obtain ⟨z,hd,xs,rel,dd⟩:=lK I (.inl e) hk;have hz:xs.length<=sizeLine:=by rw[<- aJW rel];exact z
 have hl:(fT kvs k b v).length<=sizeLine:=by have:=aEJ kvs k b v;omega
 refine wpAny_setItem_heap (hsz:=hz) (nU hu) (k:=k) ⟨NAt.is I _ _ _ kb.1 rfl,kb.2⟩ dd λh' dd' hs=>h _ ?_;obtain ⟨q,es,ep,hq,h2,h3,h4,_,h5⟩:=dd';exact zU I (by rw[e];exact True.intro) hs ⟨q,hq⟩ ⟨hl,hd,_,rel.put k b rv,q,es,ep,hq,h2,h3,h4,h5⟩
theorem aEN(I:L2.Inv X aA σ H s)(g:iG X.K H a y o):s.TypeIs (.ref a) "dict" := by obtain ⟨kvs,k,b,e,hk,_⟩:=g;obtain ⟨_,_,xs,_,dd⟩:=lK I e hk;exact dd.typeIs
end
end D3
namespace D3
open PySem PySem.Spec PySem.Calls PyProof.Rows L2
mutual
def nD:N->D
 | .i n=>.int n
 | .s x=>.str x
 | .t xs=>.tup (nDL xs)
def nDL:List N->List D
 | []=>[]
 | x::xs=>nD x::nDL xs
end
mutual
def bG:D->Option N
 | .int i=>some (.i i)
 | .str x=>some (.s x)
 | .tup ds=>(dL ds).map .t
 | _=>none
def dL:List D->Option (List N)
 | []=>some []
 | d::ds=>match bG d,dL ds with
  | some k,some ks=>some (k::ks)
  | _,_=>none
end
def cE(d:D):Option N:=match d with
 | .tup ds=>match dL ds with
  | some ks=>if (N.t ks).dp<=8 then some (.t ks) else none
  | none=>none
 | _=>none
section
variable {K:Fg}{F H:Hp}
mutual
theorem tE:∀ {d:D} {k:N} {v:V},bG d=some k->aB K F d v->NAt K F k v
 | .int i,k,v,e,r=>by simp only[bG] at e;cases e;simpa only [aB,NAt] using r
 | .str x,k,v,e,r=>by simp only[bG] at e;cases e;simpa only [aB,NAt] using r
 | .tup ds,k,v,e,r=>by simp only[bG] at e;obtain ⟨ks,ek,rfl⟩:=Option.map_eq_some_iff.mp e;simp only[aB] at r;obtain ⟨a,xs,rfl,hq,rl⟩:=r;rw[NAt];exact ⟨a,xs,rfl,hq,nV ek rl⟩
 | .non,_,_,e,_=>by simp only[bG] at e;cases e
 | .bl _,_,_,e,_=>by simp only[bG] at e;cases e
 | .lst _,_,_,e,_=>by simp only[bG] at e;cases e
 | .dct _,_,_,e,_=>by simp only[bG] at e;cases e
 | .ty _,_,_,e,_=>by simp only[bG] at e;cases e
 | .ob _,_,_,e,_=>by simp only[bG] at e;cases e
 | .ins _ _,_,_,e,_=>by simp only[bG] at e;cases e
 | .fn _,_,_,e,_=>by simp only[bG] at e;cases e
 | .exn _,_,_,e,_=>by simp only[bG] at e;cases e
 | .set _,_,_,e,_=>by simp only[bG] at e;cases e
 | .dtn _,_,_,e,_=>by simp only[bG] at e;cases e
 | .dtf _,_,_,e,_=>by simp only[bG] at e;cases e
theorem nV:∀ {ds:List D} {ks:List N} {xs:List V},dL ds=some ks->aC K F ds xs->bF K F ks xs
 | [],ks,xs,e,r=>by simp only[dL] at e;cases e;simpa only [aC,bF] using r
 | d::ds,ks,xs,e,r=>by
  simp only[dL] at e;simp only[aC] at r;obtain ⟨y,ys,rfl,r1,r2⟩:=r;cases e1:bG d with
  | none=>rw[e1] at e;cases e
  | some k =>
   cases e2:dL ds with
   | none=>rw[e1,e2] at e;cases e
   | some ks'=>rw[e1,e2] at e;cases e;rw[bF];exact ⟨y,ys,rfl,tE e1 r1,nV e2 r2⟩
end
theorem lL{d:D}{k:N}{m:Md}{v:V}(e:cE d=some k)(r:Rp K F H m d v):∃ b,v=.ref b/\NAt K F k (.ref b)/\k.dp<=8:=by
 unfold cE at e;split at e
 . rename_i ds;split at e
   . rename_i ks ek;split at e
     . rename_i hd;cases e;cases m with
       | fz =>
        have r:aB K F (.tup ds) v:=r;have h:=tE (k:=.t ks) (by simp only[bG];rw[ek];rfl) r
        simp only[aB] at r;obtain ⟨a,xs,rfl,_⟩:=r;exact ⟨a,rfl,h,hd⟩
       | fr=>obtain ⟨a,_,_,q⟩:=r;exact q.elim
       | bo=>obtain ⟨a,_,_,q⟩:=r;exact q.elim
     . cases e
   . cases e
 . cases e
theorem tF:∀ {xs:List N} {ys:List V},(∀ x∈xs,∀ v,NAt K F x v->aB K F (nD x) v)->bF K F xs ys->aC K F (nDL xs) ys
 | [],ys,_,h=>by rw[bF] at h;subst h;rw[nDL];exact aC.nil
 | x::xs,ys,k,h=>by rw[bF] at h;obtain ⟨y,zs,rfl,h1,h2⟩:=h;rw[nDL];exact aC.cons (k x mcs y h1) (tF (λz hz=>k z (mcm hz)) h2)
theorem nW(k:N):∀ v,NAt K F k v->aB K F (nD k) v:=by
 induction k using N.ind with
 | hi n=>intro v h;rw[NAt] at h;rw[nD];simpa only [aB] using h
 | hs x=>intro v h;rw[NAt] at h;rw[nD];simpa only [aB] using h
 | ht xs ih=>intro v h;rw[NAt] at h;obtain ⟨a,ys,rfl,hq,hl⟩:=h;rw[nD];simp only[aB];exact ⟨a,ys,rfl,hq,tF ih hl⟩
def cF(kvs:List (N×D))(k:N):Option D:=(kvs.find? λkv=>decide (kv.1=k)).map (·.2)
def iH(kvs:List (N×D))(k:N)(d:D):List (N×D):=if (cF kvs k).isSome=true then kvs.map (λkv=>if kv.1=k then (kv.1,d) else kv) else kvs++[(k,d)]
theorem tI{p:N×D}{r:List (N×D)}{k:N}(e:p.1=k):cF (p::r) k=some p.2:=by simp[cF,aN0,e]
theorem tJ{p:N×D}{r:List (N×D)}{k:N}(e:¬ p.1=k):cF (p::r) k=cF r k:=by simp[cF,aN0,e]
theorem aM.val:∀ {kvs:List (N×D)} {xs:List (N×Addr×V)} (k:N),aM K F kvs xs->match cF kvs k with | some d=>∃ v,dJ xs k=some v/\aB K F d v | none=>dJ xs k=none
 | [],xs,k,h=>by simp only[aM] at h;subst h;rfl
 | (k',d)::kvs,xs,k,h=>by
  simp only[aM] at h;obtain ⟨b,y,ys,rfl,_,r,t⟩:=h;by_cases e:k'=k
  . rw[tI (p:=(k',d)) e];exact ⟨y,sZ (p:=(k',b,y)) e,r⟩
  . rw[tJ (p:=(k',d)) e,tB (p:=(k',b,y)) e];exact aM.val k t
theorem aM.hasK{kvs:List (N×D)}{xs:List (N×Addr×V)}(k:N)(h:aM K F kvs xs):(dJ xs k).isSome=(cF kvs k).isSome:=by
 have:=aM.val k h;cases e:cF kvs k with
 | none=>rw[e] at this;dsimp only at this;rw[this];rfl
 | some d=>rw[e] at this;obtain ⟨v,ev,_⟩:=this;rw[ev];rfl
theorem aM.keys:∀ {kvs:List (N×D)} {xs:List (N×Addr×V)},aM K F kvs xs->gK K F xs
 | [],xs,h=>by simp only[aM] at h;subst h;intro p hp;cases hp
 | (k',d)::kvs,xs,h=>by
  simp only[aM] at h;obtain ⟨b,y,ys,rfl,q,r,t⟩:=h;intro p hp;rcases aJ7.mp hp with rfl | hp
  . exact q
  . exact t.keys p hp
theorem gK.mono{F':Hp}{xs:List (N×Addr×V)}(s:aE F F')(h:gK K F xs):gK K F' xs:=λp hp=>⟨NAt.mono s _ _ (h p hp).1,(h p hp).2⟩
theorem aM.len:∀ {kvs:List (N×D)} {xs:List (N×Addr×V)},aM K F kvs xs->xs.length=kvs.length
 | [],xs,h=>by simp only[aM] at h;subst h;rfl
 | (k',d)::kvs,xs,h=>by simp only[aM] at h;obtain ⟨b,y,ys,rfl,q,r,t⟩:=h;rw[aMC,aMC,t.len]
theorem aM.repl{k:N}{d:D}{v:V}(rv:aB K F d v):∀ {kvs:List (N×D)} {xs:List (N×Addr×V)},aM K F kvs xs->aM K F (kvs.map λkv=>if kv.1=k then (kv.1,d) else kv) (xs.map λp=>if p.1=k then (p.1,p.2.1,v) else p)
 | [],xs,h=>by simp only[aM] at h;subst h;simp only[aM,aLX]
 | (k',d')::kvs,xs,h=>by
  simp only[aM] at h;obtain ⟨b,y,ys,rfl,q,r,t⟩:=h;rw[aLY,aLY];by_cases e:k'=k
  . rw[if_pos e,if_pos e];simp only[aM];exact ⟨b,v,_,rfl,q,rv,t.repl rv⟩
  . rw[if_neg e,if_neg e];simp only[aM];exact ⟨b,y,_,rfl,q,r,t.repl rv⟩
theorem aM.snoc{k:N}{b:Addr}{d:D}{v:V}(hk:NAt K F k (.ref b)/\k.dp<=8)(rv:aB K F d v):∀ {kvs:List (N×D)} {xs:List (N×Addr×V)},aM K F kvs xs->aM K F (kvs++[(k,d)]) (xs++[(k,b,v)])
 | [],xs,h=>by simp only[aM] at h;subst h;simp only[aM,aN1];exact ⟨b,v,[],rfl,hk,rv,rfl⟩
 | (k',d')::kvs,xs,h=>by simp only[aM] at h;obtain ⟨b',y,ys,rfl,q,r,t⟩:=h;rw[aL2,aL2];simp only[aM];exact ⟨b',y,_,rfl,q,r,t.snoc hk rv⟩
theorem aM.put{k:N}{b:Addr}{d:D}{v:V}{kvs:List (N×D)}{xs:List (N×Addr×V)}(hk:NAt K F k (.ref b)/\k.dp<=8)(rv:aB K F d v)(h:aM K F kvs xs):aM K F (iH kvs k d) (fT xs k b v):=by
 unfold iH fT;rw[h.hasK k];split
 . exact h.repl rv
 . exact h.snoc hk rv
def asN:D->Option (List (N×D))
 | .dtn kvs=>some kvs
 | .dtf kvs=>some kvs
 | _=>none
theorem Rp.asN{m:Md}{d:D}{kvs:List (N×D)}{v:V}(s:aE F H)(r:Rp K F H m d v)(e:asN d=some kvs):∃ a xs,v=.ref a/\Rd H a (.dN xs)/\aM K F kvs xs:=by
 cases d with
 | dtn ks =>
  cases e;cases m with
  | fz=>have r:aB K F (.dtn kvs) v:=r;simp only[aB] at r;obtain ⟨a,xs,rfl,q,t⟩:=r;exact ⟨a,xs,rfl,.inl (s _ _ q),t⟩
  | fr=>obtain ⟨a,rfl,_,xs,q,t⟩:=r;exact ⟨a,xs,rfl,.inl q,t⟩
  | bo=>obtain ⟨a,rfl,_,xs,q,t⟩:=r;exact ⟨a,xs,rfl,.inl q,t⟩
 | dtf ks =>
  cases e;cases m with
  | fz=>have r:aB K F (.dtf kvs) v:=r;simp only[aB] at r;obtain ⟨a,o,xs,rfl,q,t⟩:=r;exact ⟨a,xs,rfl,.inr ⟨o,s _ _ q⟩,t⟩
  | fr=>obtain ⟨a,_,_,q⟩:=r;exact q.elim
  | bo=>obtain ⟨a,_,_,q⟩:=r;exact q.elim
 | _=>cases e
theorem tK{m n:Md}{x y:D}{kvs:List (N×D)}{k:N}{v u:V}(s:aE F H)(rx:Rp K F H m x v)(ex:D3.asN x=some kvs)(ry:Rp K F H n y u)(ey:cE y=some k):∃ a xs,v=.ref a/\Rd H a (.dN xs)/\aM K F kvs xs/\iG K H a u (dJ xs k):=by obtain ⟨a,xs,rfl,hr,t⟩:=Rp.asN s rx ex;obtain ⟨b,rfl,hn,hd⟩:=lL ey ry;exact ⟨a,xs,rfl,hr,t,xs,k,b,hr,t.keys.mono s,rfl,⟨NAt.mono s _ _ hn,hd⟩,rfl⟩
end
section
variable {X:Cx}
def rIxN(K:Fg):R2:=λx y H Q=>∃ a v,x=.ref a/\iG K H a y (some v)/\Q v H
theorem ix_dn(hu:X.A.units+64<cLine):IxR X (rIxN X.K):=by
 intro value slice aA s σ H x y v u Q I rx ry h hsub;obtain ⟨a,w',rfl,g,q⟩:=h;cases (show v=Value.ref a from rx)
 have hT:=aEN I g;unfold subscriptTail;refine aKI ?_;rw[getitemInPython_of_ne hT.not_modules];refine aKI (aL4 hT PySem.F.slot_dict_getitem.lookup ?_);have fin:wpAny (model X.prog X.w) X.A (subscripted slice false (.ref a) u) (λr s3=>wpAny (model X.prog X.w) X.A (letTemporaryGo value (.ref a) r >>= λ_=>pure r) (EP X aA σ Q) X.xe s3) X.xe s:=by rw[hsub];exact wpAny_operating (aEK hu I g ry λz s3 I3 rz=>aKI (wpAny_letTemporaryGo (aKH ⟨w',H,I3,rz,q⟩)))
 first
  | exact aKH (aKI fin)
  | exact aKI (aKH (aKI fin))
  | exact aKI fin
end
def jS:Md->D->Md->D->Option (Md×D):=λ_ x _ y=>match asN x,cE y with
 | some kvs,some k=>(cF kvs k).map λd=>(.fz,d)
 | _,_=>none
def jT(ra rk rd:Res):Res:=ra.thn λ_ da=>match asN da with
 | some kvs=>rk.thn λ_ dk=>(a5 rd).thn λm d=>(match m,cE dk with
  | .fz,some k=>.ok .fz ((cF kvs k).getD d)
  | _,_=>.stuck)
 | none=>.stuck
def jU(ρ:Rho)(i:Nat)(rk rv:Res):aG:=match ρ[i]? with
 | some (some (true,.dtn kvs))=>(a5 rv).thS ρ λm d=>match m with
  | .fz=>rk.thS ρ λ_ kd=>(match cE kd with
   | some k=>if kvs.length<sizeLine then .nx (ρ.set i (some (true,.dtn (iH kvs k d)))) else .stuck
   | none=>.stuck)
  | _=>.stuck
 | _=>.stuck
def tNNew:TE:=λ_ H Q=>∀ p,H p=none->Q (.ref p) (upd H p (.dN []))
theorem aEO{X:Cx}{pos:Pos}:PE X (.Dict [] [] pos) tNNew:=λaA s σ H Q I h =>
 wpAny_Dict_empty ⟨.ref s.heap.objs.size,_,I.laid (a:=s.heap.objs.size) (o:=.dN []) (t':=s.toks) (λ_ _ q=>hps q) (aKL _)
  ⟨aKX _,aJV.mpr (Ne.symm (aJ1 I.big)),[],.nil,_,#[],0,aJX _ rfl,⟨rfl,rfl,rfl⟩,rfl,rfl,List.nodup_nil⟩,rfl,h _ (I.hok.fresh (aKL _))⟩
section
variable {C:Cw}{X:Cx}{a b o e f:Expr}{ga gb go ge gf:Rho->Res}{pos apos cpos:Pos}
theorem aEP:PV C X (.Dict [] [] pos) (λ_=>.ok .fr (.dtn [])):=by refine PE.imp aEO λσ H Q q=>?_;rw[aV] at q;obtain ⟨ρ,F,R,w⟩:=q;intro p hp;exact w (.ref p) F _ (aH.fresh _ R.sub hp) ⟨p,rfl,R.sub.free hp,[],bA,by simp[aM]⟩ λ_ a ea=>by cases ea;exact hp
theorem aEQ(hu:X.A.units+64<cLine)(ha:PV C X a ga)(hb:PV C X b gb)(hs:kT b):PV C X (.Subscript a b pos) (λρ=>op2 jS (ga ρ) (gb ρ)):=by
 refine PE.imp (qV (ix_dn hu) ha hb hs) λσ H Q q=>jB (λF H m x n y v u k d Q s rx ry e w=>?_) q;unfold jS at e;split at e
 . rename_i kvs ky ek1 ek2;obtain ⟨p,xs,rfl,hh,rk,g⟩:=tK s rx ek1 ry ek2;have hv:=aM.val ky rk;cases eg:cF kvs ky with
   | none=>rw[eg] at e;cases e
   | some d'=>rw[eg] at e hv;cases e;obtain ⟨v',ev,rv⟩:=hv;rw[ev] at g;exact ⟨p,v',rfl,g,w v' F H (.refl s) rv (by intro z;cases z)⟩
 . cases e
def IsDN(H:Hp)(a:Addr):Prop:=∃ kvs,Rd H a (.dN kvs)
theorem tL{aA:LAO}{σ:L2.St}{H:Hp}{s:Shared}{a:Addr}(I:L2.Inv X aA σ H s)(d:IsDN H a):s.TypeIs (.ref a) "dict" /\ ∀ b,Value.ref a=.ref b->∃ ob,s.heap.get? b=some ob/\ob.dict=none:=by
 obtain ⟨kvs,e⟩:=d;obtain ⟨_,_,xs,_,ob,es,ep,h1,h2,_⟩:=(show bE X.prog X.w H s.heap a (.dN kvs) from e.ok I.hok)
 exact ⟨⟨ob,h1,h2.1⟩,λb q=>by cases q;exact ⟨ob,h1,h2.2.1⟩⟩
def tM(K:Fg)(td ty tx:TE):TE:=λσ H Q=>td σ H λx H1=>∃ a,x=.ref a/\IsDN H1 a/\ty σ H1 λy H2=>tx σ H2 λz H3=>∃ o,iG K H3 a y o/\Q (o.getD z) H3
theorem aER{td ty tx:TE}(hu:X.A.units+64<cLine)(ho:PE X o td)(he:PE X e ty)(hf:PE X f tx)(m:M2 X o "get" apos e f cpos):PE X (.Call (.Attribute o "get" apos) [e,f] [] cpos) (tM X.K td ty tx):=by
 intro aA s σ H Q I h;refine wpAny_Call_method m.base m.few m.line PySem.F.plainAttrs_dict PySem.F.slot_dict_get PySem.F.type_dict_get (thn (ho aA s σ H _ I h) λu s1 ⟨x,H1,I1,rx,a,ex,d,q1⟩=>?_);subst ex;obtain rfl:u=Value.ref a:=rx;refine ⟨(tL I1 d).1,(tL I1 d).2,?_⟩;rw[m.trees];refine Calls.callWith_builtin rfl (Calls.evalArgs_plain (aKY (thn (he aA s1 σ H1 _ I1 q1) λiv s2 ⟨y,H2,I2,ry,q2⟩ =>
  aKY (thn (hf aA s2 σ H2 _ I2 q2) λfv s3 ⟨z,H3,I3,rz,ov,g,q3⟩=>Calls.spliced_nil ?_))))
 exact aEL hu I3 g ry rz λw' s4 I4 rw'=>⟨_,H3,I4,rw',q3⟩
theorem aES(hu:X.A.units+64<cLine)(ho:PV C X o go)(he:PV C X e ge)(hf:PV C X f gf)(m:M2 X o "get" apos e f cpos):PV C X (.Call (.Attribute o "get" apos) [e,f] [] cpos) (λρ=>jT (go ρ) (ge ρ) (gf ρ)):=by
 refine PE.imp (aER hu ho he (fN hf) m) λσ H Q q=>?_;unfold tM;rw[aV] at q ⊢;obtain ⟨ρ,F,R,w⟩:=q;refine ⟨ρ,F,R,?_⟩;unfold jT at w;cases ea:go ρ with
 | stuck=>rw[ea] at w;exact w
 | exc c=>rw[ea] at w;exact w
 | ok ma da =>
  rw[ea,Res.thn_ok] at w;intro v F1 H1 s1 r1 _;have w1:=aX.step s1 w;cases en:asN da with
  | none=>rw[en] at w1;exact w1.elim
  | some kvs =>
   rw[en] at w1;dsimp only at w1;obtain ⟨a,xs,rfl,hh,rk⟩:=Rp.asN s1.sub r1 en;refine ⟨a,rfl,⟨xs,hh⟩,?_⟩;rw[aV];refine ⟨ρ,F1,R.step s1,?_⟩;cases ek:ge ρ with
   | stuck=>rw[ek] at w1;exact w1
   | exc c=>rw[ek] at w1;exact w1
   | ok mk dk =>
    rw[ek,Res.thn_ok] at w1;intro y F2 H2 s2 r2 _;have w2:=aX.step s2 w1;rw[aV];refine ⟨ρ,F2,(R.step s1).step s2,?_⟩;cases ed:a5 (gf ρ) with
    | stuck=>rw[ed] at w2;exact w2
    | exc c=>rw[ed] at w2;exact w2
    | ok md d =>
     rw[ed,Res.thn_ok] at w2;intro z F3 H3 s3 r3 _;have w3:=aX.step s3 w2;have hm:md=.fz:=aDG ed;subst hm;cases ek2:cE dk with
     | none=>rw[ek2] at w3;exact w3.elim
     | some k =>
      rw[ek2] at w3;dsimp only at w3;obtain ⟨a',xs',ea',hh',rk',g⟩:=tK s3.sub ((r1.step s2).step s3) en (r2.step s3) ek2;cases ea';refine ⟨_,g,?_⟩;have hv:=aM.val k rk';cases eg:cF kvs k with
      | none=>rw[eg] at hv w3;dsimp only at hv;rw[hv];exact w3 z F3 H3 (.refl s3.sub) r3 (by intro z;cases z)
      | some d'=>rw[eg] at hv w3;obtain ⟨v',ev,rv⟩:=hv;rw[ev];exact w3 v' F3 H3 (.refl s3.sub) rv (by intro z;cases z)
def tN(K:Fg)(td ty tv:TE):TS:=λD σ H=>tv σ H λv H1=>td σ H1 λx H2=>ty σ H2 λy H3=>∃ a H4,x=.ref a/\NPut K H3 a y v H4/\D.nx σ H4
theorem aET{i value:Expr}{pos':Pos}{td ty tv:TE}(hu:X.A.units+64<cLine)(ho:PE X o td)(hi:PE X i ty)(hv:PE X value tv)(hs:swapsWith value (some (.Subscript o i pos')) pos.line X.env=pure false):PS X (.Assign [.Subscript o i pos'] value pos) (tN X.K td ty tv):=by intro aA s σ H D I h;refine wpAny_Assign_Subscript (thn (hv aA s σ H _ I h) λr s1 ⟨v,H1,I1,rv,q1⟩=>thn (ho aA s1 σ H1 _ I1 q1) λu s2 ⟨x,H2,I2,rx,q2⟩=>thn (hi aA s2 σ H2 _ I2 q2) λiv s3 ⟨y,H3,I3,ry,a,H4,ex,g,q3⟩=>?_) hs;subst ex;obtain rfl:u=Value.ref a:=rx;exact aEM hu I3 g ry rv λs4 I4=>⟨σ,H4,I4,q3⟩
end
section
variable {C:Cw}{X:Cx}{e ke:Expr}{g gk:Rho->Res}{x:Str}{p sp pos:Pos}
theorem aEU(i:Nat)(hu:X.A.units+64<cLine)(hv:PE X (.Name x p) (f8 i))(hk:PV C X ke gk)(he:PV C X e g)(hsw:swapsWith e (some (.Subscript (.Name x p) ke sp)) pos.line X.env=pure false):PSv C X (.Assign [.Subscript (.Name x p) ke sp] e pos) (λρ=>jU ρ i (gk ρ) (g ρ)):=by
 refine PS.imp (aET hu hv hk (fN he) hsw) λE σ H q=>?_;obtain ⟨ρ,F,R,w⟩:=q;dsimp only at w;unfold tN;unfold jU at w;split at w
 . rename_i kvs e0;obtain ⟨v0,ev0,rp0,hn0⟩:=R.slot i true _ e0;obtain ⟨a,ea,hfa,xs,hh,rk⟩:=rp0;subst ea;refine gE R w λm d v F' H' w' s R' rp fr=>?_;cases m with
   | fr=>exact (show False from w').elim
   | bo=>exact (show False from w').elim
   | fz =>
   dsimp only at w';refine ⟨.ref a,ev0,?_⟩;refine gE R' w' λm2 kd u F2 H2 w2 s2 R2 rp2 _=>?_;cases ek:cE kd with
   | none=>rw[ek] at w2;exact w2.elim
   | some k =>
    rw[ek] at w2;dsimp only at w2;split at w2
    . rename_i hl;have hh2:H2 a=some (.dN xs):=s2.same _ _ (s.same _ _ hh);obtain ⟨b,rfl,hn,hd⟩:=lL ek rp2;have rk2:=rk.mono (s.fsame.trans s2.fsame) _ _;refine ⟨a,_,rfl,⟨xs,k,b,hh2,rk2.keys.mono s2.sub,rfl,⟨NAt.mono s2.sub _ _ hn,hd⟩,by rw[rk.len];exact hl,rfl⟩,?_⟩
      exact w2 σ F2 _ (aE.refl _) (R2.mut e0 ev0 ⟨_,bA,aM.put ⟨hn,hd⟩ (aB.mono s2.fsame _ _ rp) rk2⟩)
    . exact w2.elim
 . exact w.elim
end
end D3
namespace D3
open PySem PySem.Spec PyProof.Rows L2 PySem.W
structure WkO(lt:Nat->Nat->Bool):Prop where
 ntr:∀ {i j k},lt i j=false->lt j k=false->lt i k=false
 asy:∀ {i j},lt i j=true->lt j i=false
theorem WkO.irr{lt:Nat->Nat->Bool}(O:WkO lt)(i:Nat):lt i i=false:=by
 cases e:lt i i with
 | false=>rfl
 | true=>have:=O.asy e;rw[e] at this;cases this
structure PW(n:Nat)(p:Array Nat):Prop where
 size:p.size=n
 below:∀ k,p.getD k 0<n
theorem PW.perm{n:Nat}{p q:Array Nat}(h:PW n p)(e:q.Perm p):PW n q:=by
 refine ⟨by rw[e.size_eq,h.size],λk=>?_⟩
 simp only[aNV];cases z:q[k]? with
 | none=>have:=h.below p.size;simp only[aNV,Array.getElem?_size] at this;exact this
 | some v =>
  have hm:v∈p.toList:=(Array.perm_iff_toList_perm.mp e).mem_iff.mp (by rw[aKS];exact aMK z)
  obtain ⟨i,hi⟩:=List.getElem?_of_mem hm;have:=h.below i;rw[aNT] at hi;simp only[aNV,hi] at this;exact this
section
variable {n:Nat}{lt:Nat->Nat->Bool}{cmp:Nat->Nat->(Bool->Shared->Prop)->Shared->Prop}{J:Shared->Prop}
def Wup(lt:Nat->Nat->Bool)(p:Array Nat)(b:Nat):Prop:=∀ i j,i<j->j<b->lt (p.getD j 0) (p.getD i 0)=false
def Wdn(lt:Nat->Nat->Bool)(p:Array Nat)(b:Nat):Prop:=∀ i j,i<j->j<b->lt (p.getD i 0) (p.getD j 0)=false
def Weq(lt:Nat->Nat->Bool)(p:Array Nat)(a b:Nat):Prop:=∀ i j,a<=i->i<b->a<=j->j<b->lt (p.getD i 0) (p.getD j 0)=false
theorem Wup.more(O:WkO lt){p:Array Nat}{m:Nat}(h:Wup lt p m)(hm:1<=m)(e:lt (p.getD m 0) (p.getD (m-1) 0)=false):Wup lt p (m+1):=λi j hij hj=>by
 by_cases hjm:j<m
 . exact h i j hij hjm
 . have:j=m:=by omega
   subst this;by_cases hi:i=j-1
   . rw[hi];exact e
   . exact O.ntr e (h i (j-1) (by omega) (by omega))
theorem Wdn.more(O:WkO lt){p:Array Nat}{m:Nat}(h:Wdn lt p m)(hm:1<=m)(e:lt (p.getD (m-1) 0) (p.getD m 0)=false):Wdn lt p (m+1):=λi j hij hj=>by
 by_cases hjm:j<m
 . exact h i j hij hjm
 . have:j=m:=by omega
   subst this;by_cases hi:i=j-1
   . rw[hi];exact e
   . exact O.ntr (h i (j-1) (by omega) (by omega)) e
theorem fU{p:Array Nat}(a b:Nat)(hb:b<=p.size)(k:Nat):(kas_rev p a b).getD k 0=if a<=k/\k<b then p.getD (a+b-1-k) 0 else p.getD k 0:=by simp only[aNV];unfold kas_rev;rw[getElem?_mirror_all hb];split <;> rfl
theorem lM{p:Array Nat}(pp:PW n p)(a b:Nat):PW n (kas_rev p a b)/\(kas_rev p a b).Perm p:=by have pe:(kas_rev p a b).Perm p:=mirror_perm _ _ _ _;exact ⟨pp.perm pe,pe⟩
theorem nX(O:WkO lt)(hc:fF n lt cmp J){p:Array Nat}(pp:PW n p):∀ (f m:Nat) (s:Shared) (Q:Nat->Shared->Prop),m+f=n->1<=m->Wup lt p m->J s->(∀ m' s',m<=m'->m'<=n->Wup lt p m'->(m'<n->lt (p.getD m' 0) (p.getD (m'-1) 0)=true)->J s'->Q m' s')->(kas_asc p f m).kasWp cmp Q s
 | 0,m,s,Q,e,h1,u,hJ,q=>q m s (aKL _) (by omega) u (λz=>by omega) hJ
 | f+1,m,s,Q,e,h1,u,hJ,q=>by
  refine hc _ _ s _ (pp.below m) (pp.below (m-1)) hJ λs' hJ'=>?_;cases ec:lt (p.getD m 0) (p.getD (m-1) 0) with
  | true=>exact q m s' (aKL _) (by omega) u (λ_=>ec) hJ'
  | false=>exact nX O hc pp f (m+1) s' Q (by omega) (by omega) (u.more O h1 ec) hJ' λm' s2 a b c d e=>q m' s2 (by omega) b c d e
theorem Wdn.turn{p:Array Nat}{a m:Nat}(hp:m<=p.size)(d:Wdn lt p m)(e:Weq lt p a m):Wdn lt (kas_rev p a m) m:=λi j hij hj=>by
 rw[fU a m hp,fU a m hp];by_cases hi:a<=i
 . rw[if_pos ⟨hi,by omega⟩,if_pos ⟨by omega,hj⟩]
   exact e _ _ (by omega) (by omega) (by omega) (by omega)
 . rw[if_neg (by omega)]
   by_cases hj2:a<=j
   . rw[if_pos ⟨hj2,hj⟩];exact d _ _ (by omega) (by omega)
   . rw[if_neg (by omega)];exact d i j hij hj
theorem lN(O:WkO lt)(hc:fF n lt cmp J)(p0:Array Nat):∀ (f m q:Nat) (p:Array Nat) (s:Shared) (Q:Array Nat×Nat×Nat->Shared->Prop),PW n p->p.Perm p0->m+f=n->q+1<=m->Wdn lt p m->Weq lt p (m-(q+1)) m->J s->(∀ p' m' q' s',PW n p'->p'.Perm p0->q'+1<=m'->1<=m'->m'<=n->Wdn lt p' m'->Weq lt p' (m'-(q'+1)) m'->J s'->Q (p',m',q') s')->(kas_desc f p m q).kasWp cmp Q s
 | 0,m,q,p,s,Q,pp,pe,e,h1,u,we,hJ,k=>k p m q s pp pe h1 (by omega) (by omega) u we hJ
 | f+1,m,q,p,s,Q,pp,pe,e,h1,u,we,hJ,k=>by
  unfold kas_desc;refine hc _ _ s _ (pp.below m) (pp.below (m-1)) hJ λs' hJ'=>?_;have sz:=pp.size;cases ec:lt (p.getD m 0) (p.getD (m-1) 0) with
  | true =>
   have e1:=O.asy ec;have one:∀ (r:Array Nat),Weq lt r (m+1-(0+1)) (m+1):=λr i j a b c d=>by
    have:i=j:=by omega
    subst this;exact O.irr _
   dsimp only;rw[if_pos rfl];by_cases hq:q > 0
   . rw[if_pos hq];obtain ⟨pp2,pe2⟩:=lM pp (m-(q+1)) m;refine lN O hc p0 f (m+1) 0 _ s' Q pp2 (pe2.trans pe) (by omega) (by omega) ?_ (one _) hJ' k
     refine (u.turn (by omega) we).more O (by omega) ?_
     rw[fU _ _ (by omega),fU _ _ (by omega),if_pos ⟨by omega,by omega⟩,if_neg (by omega)]
     exact O.ntr (we _ (m-1) (by omega) (by omega) (by omega) (by omega)) e1
   . rw[if_neg hq];exact lN O hc p0 f (m+1) 0 p s' Q pp pe (by omega) (by omega) (u.more O (by omega) e1) (one _) hJ' k
  | false =>
   dsimp only;rw[if_neg aKT];refine hc _ _ s' _ (pp.below (m-1)) (pp.below m) hJ' λs2 hJ2=>?_;cases ed:lt (p.getD (m-1) 0) (p.getD m 0) with
   | true=>dsimp only;rw[if_pos rfl];exact k p m q s2 pp pe h1 (by omega) (by omega) u we hJ2
   | false =>
    dsimp only;rw[if_neg aKT];refine lN O hc p0 f (m+1) (q+1) p s2 Q pp pe (by omega) (by omega) (u.more O (by omega) ed) (λi j a b c d=>?_) hJ2 k
    by_cases hi:i<m
    . by_cases hj:j<m
      . exact we i j (by omega) hi (by omega) hj
      . have:j=m:=by omega
        subst this;exact O.ntr (we i (j-1) (by omega) hi (by omega) (by omega)) ed
    . have:i=m:=by omega
      subst this;by_cases hj:j<i
      . exact O.ntr ec (we (i-1) j (by omega) (by omega) (by omega) hj)
      . have:j=i:=by omega
        subst this;exact O.irr _
theorem tO(O:WkO lt)(hc:fF n lt cmp J){p:Array Nat}(pp:PW n p){m:Nat}(h1:1<=m)(hm:m<=n)(d:Wdn lt p m){s:Shared}{Q:Nat×Array Nat->Shared->Prop}(hJ:J s)(q:∀ m' p' s',1<=m'->m'<=n->PW n p'->p'.Perm p->Wup lt p' m'->J s'->Q (m',p') s'):(kas_tail3 m n p).kasWp cmp Q s:=by
 unfold kas_tail3;rw[KasT.kasWp_bind];obtain ⟨pp2,pe2⟩:=lM pp 0 m;have sz:=pp.size;refine nX O hc pp2 (n-m) m s _ (by omega) h1 (λi j hij hj=>?_) hJ λm2 s3 a2 b2 u2 _ hJ3=>q m2 _ s3 (by omega) b2 pp2 pe2 u2 hJ3
 rw[fU _ _ (by omega),fU _ _ (by omega),if_pos ⟨by omega,by omega⟩,if_pos ⟨by omega,by omega⟩]
 exact d _ _ (by omega) (by omega)
theorem tP(O:WkO lt)(hc:fF n lt cmp J){p:Array Nat}(pp:PW n p){m:Nat}(hm:m<n)(d:Wdn lt p (m+1)){s:Shared}{Q:Nat×Array Nat->Shared->Prop}(hJ:J s)(q:∀ m' p' s',1<=m'->m'<=n->PW n p'->p'.Perm p->Wup lt p' m'->J s'->Q (m',p') s'):(kas_descPart m n p).kasWp cmp Q s:=by
 unfold kas_descPart;rw[KasT.kasWp_bind];refine lN O hc p (n-(m+1)) (m+1) 0 p s _ pp (aN2 _) (by omega) (by omega) d (λi j a b c d=>?_) hJ λp' m' q' s' pp' pe' h1 h2 h3 d' e' hJ'=>?_
 . have:i=j:=by omega
   subst this;exact O.irr _
 . dsimp only;have sz:=pp'.size;by_cases hq:q' > 0
   . rw[if_pos hq];obtain ⟨pp2,pe2⟩:=lM pp' (m'-(q'+1)) m';exact tO O hc pp2 h2 h3 (d'.turn (by omega) e') hJ' λm2 p2 s2 x1 x2 x3 x4 x5 x6=>q m2 p2 s2 x1 x2 x3 ((x4.trans pe2).trans pe') x5 x6
   . rw[if_neg hq];exact tO O hc pp' h2 h3 d' hJ' λm2 p2 s2 x1 x2 x3 x4 x5 x6=>q m2 p2 s2 x1 x2 x3 (x4.trans pe') x5 x6
theorem aEV(O:WkO lt)(hc:fF n lt cmp J)(hn:2<=n){p:Array Nat}(pp:PW n p){s:Shared}{Q:Nat×Array Nat->Shared->Prop}(hJ:J s)(q:∀ m' p' s',1<=m'->m'<=n->PW n p'->p'.Perm p->Wup lt p' m'->J s'->Q (m',p') s'):(kas_count n p).kasWp cmp Q s:=by
 unfold kas_count;rw[KasT.kasWp_bind];have sz:=pp.size;refine nX O hc pp (n-1) 1 s _ (by omega) (aKL _) (λi j h1 h2=>by omega) hJ λm s1 a b u d hJ1=>?_
 by_cases em:m=n
 . rw[if_pos (by simpa using em)]
   exact q m p s1 a b pp (aN2 _) u hJ1
 . rw[if_neg (by simpa using em)]
   have dm:=O.asy (d (by omega))
   by_cases h1:m > 1
   . rw[if_pos h1];refine hc _ _ s1 _ (pp.below 0) (pp.below (m-1)) hJ1 λs2 hJ2=>?_;cases ec:lt (p.getD 0 0) (p.getD (m-1) 0) with
     | true=>dsimp only;rw[if_pos rfl];exact q m p s2 a b pp (aN2 _) u hJ2
     | false =>
      dsimp only;rw[if_neg aKT];obtain ⟨pp2,pe2⟩:=lM pp 0 m;have ge:∀ i,i<m->lt (p.getD i 0) (p.getD 0 0)=false:=λi hi=>by
       by_cases h0:i=0
       . rw[h0];exact O.irr _
       . exact u 0 i (by omega) hi
      have le:∀ i,i<m->lt (p.getD (m-1) 0) (p.getD i 0)=false:=λi hi=>by
       by_cases h0:i=m-1
       . rw[h0];exact O.irr _
       . exact u i (m-1) (by omega) (by omega)
      have all:Weq lt p 0 m:=λi j _ hi _ hj=>O.ntr (O.ntr (ge i hi) ec) (le j hj);refine tP O hc pp2 (by omega) (Wdn.more O (Wdn.turn (by omega) (λi j hij hj=>all i j (by omega) (by omega) (by omega) hj) all) (by omega) ?_) hJ2 λm2 p2 s3 x1 x2 x3 x4 x5 x6=>q m2 p2 s3 x1 x2 x3 (x4.trans pe2) x5 x6
      rw[fU _ _ (by omega),fU _ _ (by omega),if_pos ⟨by omega,by omega⟩,if_neg (by omega)]
      exact O.ntr (all _ (m-1) (by omega) (by omega) (by omega) (by omega)) dm
   . rw[if_neg h1];have e1:m=1:=by omega
     subst e1
     exact tP O hc pp (by omega) (λi j hij hj=>by
      have:i=0/\j=1:=by omega
      rw[this.1,this.2];exact dm) hJ1 q
theorem nY(O:WkO lt)(hc:fF n lt cmp J){p:Array Nat}(pp:PW n p){k:Nat}(hk:k<n)(u:Wup lt p k):∀ (f l r:Nat) (s:Shared) (Q:Nat->Shared->Prop),l<=r->r<=k->r-l<=f->J s->(∀ i,i<l->lt (p.getD k 0) (p.getD i 0)=false)->(∀ i,r<=i->i<k->lt (p.getD i 0) (p.getD k 0)=false)->(∀ l' s',l'<=k->(∀ i,i<l'->lt (p.getD k 0) (p.getD i 0)=false)->(∀ i,l'<=i->i<k->lt (p.getD i 0) (p.getD k 0)=false)->J s'->Q l' s')->(kas_place p k f l r).kasWp cmp Q s
 | 0,l,r,s,Q,h1,h2,h3,hJ,a,b,q=>q l s (by omega) a (λi hi=>b i (by omega)) hJ
 | f+1,l,r,s,Q,h1,h2,h3,hJ,a,b,q=>by
  unfold kas_place;by_cases hlr:l ≥ r
  . rw[if_pos hlr];exact q l s (by omega) a (λi hi=>b i (by omega)) hJ
  . rw[if_neg hlr];refine hc _ _ s _ (pp.below k) (pp.below ((l+r) / 2)) hJ λs' hJ'=>?_;cases ec:lt (p.getD k 0) (p.getD ((l+r) / 2) 0) with
    | true =>
     refine nY O hc pp hk u f l ((l+r) / 2) s' Q (by omega) (by omega) (by omega) hJ' a (λi h4 h5=>?_) q
     by_cases e:i=(l+r) / 2
     . rw[e];exact O.asy ec
     . exact O.ntr (u _ i (by omega) h5) (O.asy ec)
    | false =>
     refine nY O hc pp hk u f ((l+r) / 2+1) r s' Q (by omega) h2 (by omega) hJ' (λi h4=>?_) b q
     by_cases e:i=(l+r) / 2
     . rw[e];exact ec
     . exact O.ntr ec (u i _ (by omega) (by omega))
theorem tQ(O:WkO lt)(hc:fF n lt cmp J):∀ (f k:Nat) (p:Array Nat) (s:Shared) (Q:Array Nat->Shared->Prop),k+f=n->PW n p->Wup lt p k->J s->(∀ p' s',PW n p'->p'.Perm p->Wup lt p' n->J s'->Q p' s')->(kas_bin f p k).kasWp cmp Q s
 | 0,k,p,s,Q,e,pp,u,hJ,q=>by
  have:k=n:=by omega
  subst this;exact q p s pp (aN2 _) u hJ
 | f+1,k,p,s,Q,e,pp,u,hJ,q=>by
  unfold kas_bin;rw[KasT.kasWp_bind];refine nY O hc pp (by omega) u k 0 k s _ (aKX _) (aKL _) (by omega) hJ (λi h=>by omega) (λi h1 h2=>by omega) λl s1 hl a b hJ1=>?_
  have pe:(bubble p k (k-l)).Perm p:=bubble_perm _ _ _;have g:=getElem?_bubble (xs:=p) (src:=k) (by rw[pp.size];omega) (k-l) (by omega)
  refine tQ O hc f (k+1) _ s1 Q (by omega) (pp.perm pe) (λi j hij hj=>?_) hJ1 λp' s2 x y z w=>q p' s2 x (y.trans pe) z w
  have el:k-(k-l)=l:=by omega
  rw[el] at g;have gd:∀ i,(bubble p k (k-l)).getD i 0=if i=l then p.getD k 0 else if l<i/\i<=k then p.getD (i-1) 0 else p.getD i 0:=λi=>by
   simp only[aNV];rw[g i];split
   . rfl
   . split <;> rfl
  rw[gd i,gd j];by_cases h1:i<l
  . rw[if_neg (show ¬ i=l by omega),if_neg (show ¬ (l<i/\i<=k) by omega)]
    by_cases h2:j=l
    . rw[if_pos h2];exact a i h1
    . rw[if_neg h2];split
      . exact u i (j-1) (by omega) (by omega)
      . exact u i j hij (by omega)
  . by_cases h2:i=l
    . rw[if_pos h2,if_neg (show ¬ j=l by omega),if_pos (show l<j/\j<=k by omega)]
      exact b (j-1) (by omega) (by omega)
    . rw[if_neg h2,if_pos (show l<i/\i<=k by omega),if_neg (show ¬ j=l by omega),if_pos (show l<j/\j<=k by omega)]
      exact u (i-1) (j-1) (by omega) (by omega)
theorem aEW(O:WkO lt)(hc:fF n lt cmp J)(hn:2<=n){s:Shared}{Q:Array Nat->Shared->Prop}(hJ:J s)(q:∀ p s',PW n p->p.Perm (List.toArray (List.range n))->Wup lt p n->J s'->Q p s'):(kas_sort n).kasWp cmp Q s:=by
 unfold kas_sort;rw[KasT.kasWp_bind];have pp:PW n (List.toArray (List.range n)):=by
  refine ⟨by simp,λk=>?_⟩
  simp only[aNV,aNQ,List.getElem?_range];by_cases hk:k<n
  . simp[hk]
  . simp[hk];omega
 refine aEV O hc hn pp hJ λm p s1 a b pp' pe u hJ1=>?_;by_cases h:m<n
 . rw[if_pos h];have em:max m 1=m:=by omega
   rw[em];exact tQ O hc (n-m) m p s1 Q (by omega) pp' u hJ1 λp' s2 x y z w=>q p' s2 x (y.trans pe) z w
 . rw[if_neg h];have em:m=n:=by omega
   subst em;exact q p s1 pp' pe u hJ1
end
mutual
def ltN:N->N->Bool
 | .i n,.i m=>decide (n<m)
 | .i _,.s _=>true
 | .i _,.t _=>true
 | .s _,.i _=>false
 | .s x,.s y=>lts x y
 | .s _,.t _=>true
 | .t _,.i _=>false
 | .t _,.s _=>false
 | .t xs,.t ys=>bC xs ys
def bC:List N->List N->Bool
 | [],[]=>false
 | [],_::_=>true
 | _::_,[]=>false
 | x::xs,y::ys=>if x=y then bC xs ys else ltN x y
end
mutual
def okN:N->N->Bool
 | .i _,.i _=>true
 | .s _,.s _=>true
 | .t xs,.t ys=>dS xs ys
 | .i _,.s _=>false
 | .i _,.t _=>false
 | .s _,.i _=>false
 | .s _,.t _=>false
 | .t _,.i _=>false
 | .t _,.s _=>false
def dS:List N->List N->Bool
 | [],_=>true
 | _::_,[]=>true
 | x::xs,y::ys=>if x=y then dS xs ys else okN x y
end
theorem tR:∀ (xs:List N),bC xs xs=false
 | []=>by rw[bC]
 | x::xs=>by rw[bC,if_pos rfl,tR xs]
theorem jV(k:N):ltN k k=false:=by
 cases k with
 | i n=>rw[ltN];simp
 | s x=>rw[ltN];exact lG x
 | t xs=>rw[ltN];exact tR xs
theorem tU:∀ {xs ys:List N},(∀ x∈xs,∀ y,ltN x y=false->ltN y x=false->x=y)->bC xs ys=false->bC ys xs=false->xs=ys
 | [],[],_,_,_=>rfl
 | [],_::_,_,h,_=>by rw[bC] at h;cases h
 | _::_,[],_,_,h=>by rw[bC] at h;cases h
 | x::xs,y::ys,k,h1,h2=>by
  rw[bC] at h1 h2;by_cases e:x=y
  . subst e;rw[if_pos rfl] at h1 h2;rw[tU (λz hz=>k z (mcm hz)) h1 h2]
  . rw[if_neg e] at h1;rw[if_neg (λz=>e z.symm)] at h2;exact absurd (k x mcs y h1 h2) e
theorem nZ(k:N):∀ y,ltN k y=false->ltN y k=false->k=y:=by
 induction k using N.ind with
 | hi n =>
  intro y h1 h2;cases y with
  | i m =>
   rw[ltN] at h1 h2;have:n=m:=by have a1:=aN3 h1;have a2:=aN3 h2;omega
   rw[this]
  | s x=>rw[ltN] at h1;cases h1
  | t xs=>rw[ltN] at h1;cases h1
 | hs x =>
  intro y h1 h2;cases y with
  | i m=>rw[ltN] at h2;cases h2
  | s z=>rw[ltN] at h1 h2;rw[nR h1 h2]
  | t xs=>rw[ltN] at h1;cases h1
 | ht xs ih =>
  intro y h1 h2;cases y with
  | i m=>rw[ltN] at h2;cases h2
  | s z=>rw[ltN] at h2;cases h2
  | t ys=>rw[ltN] at h1 h2;rw[tU ih h1 h2]
theorem tV:∀ {xs ys zs:List N},(∀ x∈xs,∀ y z,ltN x y=true->ltN y z=true->ltN x z=true)->bC xs ys=true->bC ys zs=true->bC xs zs=true
 | [],[],_,_,h,_=>by rw[bC] at h;cases h
 | [],_::_,[],_,_,h=>by rw[bC] at h;cases h
 | [],_::_,_::_,_,_,_=>by rw[bC]
 | _::_,[],_,_,h,_=>by rw[bC] at h;cases h
 | _::_,_::_,[],_,_,h=>by rw[bC] at h;cases h
 | x::xs,y::ys,z::zs,k,h1,h2=>by
  rw[bC] at h1 h2 ⊢;by_cases e1:x=y
  . subst e1;rw[if_pos rfl] at h1;by_cases e2:x=z
    . rw[if_pos e2] at h2 ⊢;exact tV (λz hz=>k z (mcm hz)) h1 h2
    . rw[if_neg e2] at h2 ⊢;exact h2
  . rw[if_neg e1] at h1;by_cases e2:y=z
    . subst e2;rw[if_neg e1];exact h1
    . rw[if_neg e2] at h2;have h3:=k x mcs y z h1 h2;by_cases e3:x=z
      . rw[<- e3] at h2;have:=k x mcs y x h1 h2;rw[jV] at this;cases this
      . rw[if_neg e3];exact h3
theorem n4(k:N):∀ y z,ltN k y=true->ltN y z=true->ltN k z=true:=by
 induction k using N.ind with
 | hi n =>
  intro y z h1 h2;cases z with
  | i l =>
   cases y with
   | i m=>rw[ltN] at h1 h2 ⊢;have a1:=aME h1;have a2:=aME h2;exact aLZ (by omega)
   | s x=>rw[ltN] at h2;cases h2
   | t xs=>rw[ltN] at h2;cases h2
  | s x=>rw[ltN]
  | t xs=>rw[ltN]
 | hs x =>
  intro y z h1 h2;cases y with
  | i m=>rw[ltN] at h1;cases h1
  | s x2 =>
   cases z with
   | i l=>rw[ltN] at h2;cases h2
   | s x3=>rw[ltN] at h1 h2 ⊢;exact nQ h1 h2
   | t xs=>rw[ltN]
  | t xs =>
   cases z with
   | i l=>rw[ltN] at h2;cases h2
   | s x3=>rw[ltN] at h2;cases h2
   | t xs=>rw[ltN]
 | ht xs ih =>
  intro y z h1 h2;cases y with
  | i m=>rw[ltN] at h1;cases h1
  | s x2=>rw[ltN] at h1;cases h1
  | t ys =>
   cases z with
   | i l=>rw[ltN] at h2;cases h2
   | s x3=>rw[ltN] at h2;cases h2
   | t zs=>rw[ltN] at h1 h2 ⊢;exact tV ih h1 h2
theorem n6{a b:N}(h:ltN a b=true):ltN b a=false:=by
 cases e:ltN b a with
 | false=>rfl
 | true=>have:=n4 a b a h e;rw[jV] at this;cases this
theorem n8{a b c:N}(h1:ltN a b=false)(h2:ltN b c=false):ltN a c=false:=by
 cases e:ltN a c with
 | false=>rfl
 | true =>
  cases e1:ltN b a with
  | true=>have:=n4 b a c e1 e;rw[h2] at this;cases this
  | false=>have:=nZ a b h1 e1;subst this;rw[e] at h2;cases h2
def dU(l:List N):Prop:=l.Pairwise λx y=>ltN y x=false
def iI(x:N):List N->List N
 | []=>[x]
 | y::l=>if ltN y x=true then y::iI x l else x::y::l
def bH(l:List N):List N:=l.foldr iI []
theorem n9(x:N):∀ (l:List N),(iI x l).Perm (x::l)
 | []=>aN4 _
 | y::l=>by
  unfold iI;split
  . exact ((n9 x l).cons y).trans (List.Perm.swap x y l)
  . exact aN4 _
theorem eW:∀ (l:List N),(bH l).Perm l
 | []=>aN4 _
 | x::l=>(n9 x (bH l)).trans ((eW l).cons x)
theorem tW{x:N}:∀ {l:List N},dU l->dU (iI x l)
 | [],_=>aN5 _ _
 | y::l,h=>by
  unfold iI;split
  . rename_i e;refine aNZ.mpr ⟨λz hz=>?_,tW (aNZ.mp h).2⟩;rcases aJ7.mp ((n9 x l).mem_iff.mp hz) with rfl | hz
    . exact n6 e
    . exact (aNZ.mp h).1 z hz
  . rename_i e;have e:ltN y x=false:=by simpa using e
    refine aNZ.mpr ⟨λz hz=>?_,h⟩;rcases aJ7.mp hz with rfl | hz
    . exact e
    . exact n8 ((aNZ.mp h).1 z hz) e
theorem jW:∀ (l:List N),dU (bH l)
 | []=>List.Pairwise.nil
 | x::l=>tW (jW l)
theorem oA:∀ {l l':List N},dU l->dU l'->l.Perm l'->l=l'
 | [],l',_,_,p=>p.symm.eq_nil.symm
 | x::l,[],_,_,p=>p.eq_nil
 | x::l,y::l',h,h',p=>by
  have h1:=aNZ.mp h;have h2:=aNZ.mp h';have exy:x=y:=by
   have a:ltN y x=false:=by
    rcases aJ7.mp (p.mem_iff.mpr mcs) with e | e
    . rw[e];exact jV _
    . exact h1.1 y e
   have b:ltN x y=false:=by
    rcases aJ7.mp (p.mem_iff.mp mcs) with e | e
    . rw[e];exact jV _
    . exact h2.1 x e
   exact nZ x y b a
  subst exy;rw[oA h1.2 h2.2 p.cons_inv]
theorem oB{l l':List N}(h:dU l')(p:l'.Perm l):l'=bH l:=oA h (jW l) (p.trans (eW l).symm)
section
variable {prog:Program}{w:World}{s:Shared}
theorem aEX{A:Around}{x y:N}{u v:Value}(hu:A.units+x.dp<cLine)(hx:IsN s.heap x u)(hy:IsN s.heap y v):SeqAt.EqAt A s u v (decide (x=y)):=by
 obtain ⟨⟨as,ra⟩,ca⟩:=IsN.reads x u hx;obtain ⟨⟨bs,rb⟩,cb⟩:=IsN.reads y v hy;have:=SeqAt.eqAt_reads x.py y.py A s u v as bs ra rb ca cb (by rw[N.py_depth];have:=aL7 x.dp y.py.depth;omega)
 rw[N.py_eqv] at this;exact this
theorem tX{A:Around}:∀ {xs ys:List N} {us vs:List Value},(∀ x∈xs,∀ (y:N) (u v:Value),IsN s.heap x u->IsN s.heap y v->okN x y=true->∀ (prog:Program) (w':World) (E:VSP) (Q:VSP),Q (.bool (ltN x y)) s->wpAny (model prog w') A (compareOp .Lt u v) Q E s)->A.units+N.dpL xs<cLine->aN s.heap xs us->aN s.heap ys vs->dS xs ys=true->LtI A s us vs (bC xs ys)
 | [],[],us,vs,_,_,h1,h2,_=>by rw[aN] at h1 h2;subst h1;subst h2;rw[bC];exact .nn
 | [],y::ys,us,vs,_,_,h1,h2,_=>by rw[aN] at h1;rw[aN] at h2;subst h1;obtain ⟨v,ws,rfl,_⟩:=h2;rw[bC];exact .nc
 | x::xs,[],us,vs,_,_,h1,h2,_=>by rw[aN] at h1;rw[aN] at h2;subst h2;obtain ⟨v,ws,rfl,_⟩:=h1;rw[bC];exact .cn
 | x::xs,y::ys,us,vs,k,hu,h1,h2,ok=>by
  rw[aN] at h1 h2;obtain ⟨u,us,rfl,p1,p2⟩:=h1;obtain ⟨v,vs,rfl,q1,q2⟩:=h2;rw[N.dpL] at hu;rw[dS] at ok;have e:=aEX (A:=A) (by omega) p1 q1
  rw[bC];by_cases exy:x=y
  . rw[aLZ exy] at e;rw[if_pos exy] at ok ⊢;exact .eq e (tX (λz hz=>k z (mcm hz)) (by omega) p2 q2 ok)
  . rw[aJU exy] at e;rw[if_neg exy] at ok ⊢;exact .ne e λprog w' E Q q=>k x mcs y u v p1 q1 ok prog w' E Q q
theorem n_lt(k:N):∀ {A:Around} {E:VSP} {y:N} {u v:Value} {Q:VSP} {prog:Program} {w:World},A.units+k.dp+1<cLine->IsN s.heap k u->IsN s.heap y v->okN k y=true->Q (.bool (ltN k y)) s->wpAny (model prog w) A (compareOp .Lt u v) Q E s:=by
 induction k using N.ind with
 | hi n =>
  intro A E y u v Q prog w hu h1 h2 ok q;cases y with
  | i m=>rw[IsN] at h1 h2;obtain ⟨t,rfl⟩:=h1;obtain ⟨t',rfl⟩:=h2;rw[ltN] at q;exact lt_int q
  | s x=>rw[okN] at ok;cases ok
  | t xs=>rw[okN] at ok;cases ok
 | hs x =>
  intro A E y u v Q prog w hu h1 h2 ok q;cases y with
  | s z=>rw[IsN] at h1 h2;obtain ⟨⟨t,rfl⟩,_⟩:=h1;obtain ⟨⟨t',rfl⟩,_⟩:=h2;rw[ltN] at q;unfold lts at q;rw[ltCps_eq] at q;exact lt_str q
  | i m=>rw[okN] at ok;cases ok
  | t xs=>rw[okN] at ok;cases ok
 | ht xs ih =>
  intro A E y u v Q prog w hu h1 h2 ok q;cases y with
  | i m=>rw[okN] at ok;cases ok
  | s x=>rw[okN] at ok;cases ok
  | t ys=>rw[IsN] at h1 h2;obtain ⟨a,o,its,n,rfl,g1,c1,d1,l1⟩:=h1;obtain ⟨b,o',its',n',rfl,g2,c2,d2,l2⟩:=h2;rw[ltN] at q;rw[okN] at ok;rw[N.dp] at hu;exact aDA ⟨o,g1,c1,n,d1⟩ ⟨o',g2,c2,n',d2⟩ (tX (A:=A.in1) (λx hx y u v p1 p2 ok prog w' E Q q=>ih x hx (by have:=N.dp_mem hx;show A.units+1+_+1<_;omega) p1 p2 ok q) (by show A.units+1+_<_;omega) l1 l2 ok) (by omega) q
end
def dE(h:Heap)(vs:List Value)(ks:List N):Prop:=vs.length=ks.length/\∀ i,i<ks.length->IsN h (ks.getD i (.i 0)) (vs.getD i .none)
def bY:N->Bool
 | .t (.t _::_)=>true
 | _=>false
structure gL(ks:List N)(p:List Nat):Prop where
 perm:p.Perm (List.range ks.length)
 up:dU (p.map λi=>ks.getD i (.i 0))
theorem gL.eq{ks:List N}{p:List Nat}(h:gL ks p):(p.map λi=>ks.getD i (.i 0))=bH ks:=by refine oB h.up ?_;have:=h.perm.map λi=>ks.getD i (.i 0);rw[lH] at this;exact this
theorem IsN.kept{h h':Heap}(k:N):∀ {v:Value},IsN h k v->(∀ a o,h.get? a=some o->o.cls=.type "tuple" -> h'.get? a=some o)->IsN h' k v:=by
 induction k using N.ind with
 | hi n=>intro v q _;rw[IsN] at q ⊢;exact q
 | hs x=>intro v q _;rw[IsN] at q ⊢;exact q
 | ht xs ih=>intro v q kp;rw[IsN] at q ⊢;obtain ⟨a,o,its,n,e,ha,hc,hd,hi⟩:=q;exact ⟨a,o,its,n,e,kp a o ha hc,hc,hd,hi.map λx hx v q=>ih x hx q kp⟩
def oC(ks:List N):Prop:=∀ x∈ks,∀ y∈ks,okN x y=true
section
variable {prog:Program}{w:World}{A:Around}{E:VSP}{s:Shared}
theorem tY{fin:Bool}{Q:Bool->Shared->Prop}:∀ {xs ys:List N} {us vs:List Value} {i:Nat},A.units+N.dpL xs+1<cLine->aN s.heap xs us->aN s.heap ys vs->dS xs ys=true->fin=decide (us.length<vs.length)->Q (bC xs ys) s->KatLex prog w A false fin Q (us.zip vs) i s
 | [],[],us,vs,i,_,h1,h2,_,e,q=>by rw[aN] at h1 h2;subst h1;subst h2;subst e;rw[bC] at q;exact q
 | [],y::ys,us,vs,i,_,h1,h2,_,e,q=>by rw[aN] at h1;rw[aN] at h2;subst h1;obtain ⟨v,zs,rfl,_⟩:=h2;subst e;rw[bC] at q;exact q
 | x::xs,[],us,vs,i,_,h1,h2,_,e,q=>by rw[aN] at h1;rw[aN] at h2;subst h2;obtain ⟨v,zs,rfl,_⟩:=h1;subst e;rw[bC] at q;exact q
 | x::xs,y::ys,us,vs,i,hu,h1,h2,ok,e,q=>by
  rw[aN] at h1 h2;obtain ⟨u,us,rfl,p1,p2⟩:=h1;obtain ⟨v,vs,rfl,q1,q2⟩:=h2;rw[N.dpL] at hu;rw[dS] at ok;rw[bC] at q;rw[aM0];refine kat_cons (mZ (by omega) p1 q1 (kat_go (λh=>?_) λh=>?_))
  . have exy:=aME h;rw[if_pos exy] at ok q;exact kat_yes (tY (by omega) p2 q2 ok (by subst e;simp) q)
  . have exy:=aN3 h;rw[if_neg exy] at ok q;exact kat_no (kat_one _ _ (n_lt x (by omega) p1 q1 ok q))
theorem aEY{x y:N}{u v:Value}{Q:Bool->Shared->Prop}(hu:A.units+x.dp<cLine)(fx:bY x=true)(fy:bY y=true)(hx:IsN s.heap x u)(hy:IsN s.heap y v)(ok:okN x y=true)(q:Q (ltN x y) s):wpAny (model prog w) A (keyLt' (tuples' false) u v) Q E s:=by
 cases x with
 | i n=>cases fx
 | s z=>cases fx
 | t xs =>
  cases y with
  | i n=>cases fy
  | s z=>cases fy
  | t ys=>rw[IsN] at hx hy;obtain ⟨a,o,its,n,rfl,g1,c1,d1,l1⟩:=hx;obtain ⟨b,o',its',n',rfl,g2,c2,d2,l2⟩:=hy;rw[okN] at ok;rw[ltN] at q;rw[N.dp] at hu;exact kat_lt g1 d1 g2 d2 (tY (by omega) l1 l2 ok (by simp) q)
theorem tZ:∀ {vs:List Value} {ks:List N},dE s.heap vs ks->(∀ k∈ks,bY k=true)->∃ fs:List Value,KatTups s.heap vs fs/\fs.length=ks.length/\∀ f∈fs,Looks (model prog w) s.heap (typeOf f) (.type "tuple")
 | [],[],_,_=>⟨[],trivial,rfl,λf hf=>nomatch hf⟩
 | [],_::_,h,_=>by have:=h.1;simp at this
 | _::_,[],h,_=>by have:=h.1;simp at this
 | v::vs,k::ks,h,ft=>by
  have h0:=h.2 0 (by simp)
  have h0:IsN s.heap k v:=by simpa using h0
  have tail:dE s.heap vs ks:=⟨by simpa using h.1,λi hi=>by
   have:=h.2 (i+1) (by simpa using hi)
   simpa using this⟩
  obtain ⟨fs,k1,k2,k3⟩:=tZ tail λt ht=>ft t (mcm ht);have fk:=ft k mcs;unfold bY at fk;split at fk
  . rename_i ys zs;rw[IsN] at h0;obtain ⟨a,o,its,n,rfl,g1,c1,d1,l1⟩:=h0;rw[aN] at l1;obtain ⟨f,us,e1,p1,_⟩:=l1;rw[IsN] at p1;obtain ⟨b,o2,its2,n2,rfl,g2,c2,d2,_⟩:=p1;have f0:its[0]? = some (.ref b):=by
      have:its.toList[0]? = some (.ref b):=by rw[e1];rfl
      simpa using this
    refine ⟨.ref b::fs,⟨⟨a,o,its,n,rfl,g1,c1,d1,f0⟩,k1⟩,by simp[k2],λf hf=>?_⟩
    rcases aJ7.mp hf with rfl | hf
    . have L:Looks (model prog w) s.heap (typeOf (.ref b)) o2.cls:=(Looks.ld g2).andThen .now;rw[c2] at L;exact L
    . exact k3 f hf
  . cases fk
theorem kindN{vs:List Value}{ks:List N}{Q:SortKind->Shared->Prop}(h:dE s.heap vs ks)(ft:∀ k∈ks,bY k=true)(h2:0<ks.length)(q:Q (tuples' false) s):wpAny (model prog w) A (keyKind' vs.toArray) Q E s:=by obtain ⟨fs,k1,k2,k3⟩:=tZ (prog:=prog) (w:=w) h ft;exact kat_kind (T:=.type "tuple") k1 (by omega) k3 rfl q
theorem wkO_N(ks:List N):WkO λi j=>ltN (ks.getD i (.i 0)) (ks.getD j (.i 0)):=⟨λa b=>n8 a b,λa=>n6 a⟩
theorem aEZ{ks:List N}{p:Array Nat}(pp:PW ks.length p)(pe:p.Perm (List.toArray (List.range ks.length)))(u:Wup (λi j=>ltN (ks.getD i (.i 0)) (ks.getD j (.i 0))) p ks.length):gL ks p.toList:=by
 refine ⟨by simpa using Array.perm_iff_toList_perm.mp pe,?_⟩
 unfold dU;rw[aN6];refine List.pairwise_iff_getElem.mpr λi j hi hj hij=>?_;rw[aKG] at hi hj;have:=u i j hij (by rw[<- pp.size];exact hj)
 simpa[Array.getD,hi,hj] using this
theorem dE.kept{h h':Heap}{vs:List Value}{ks:List N}(q:dE h vs ks)(kp:∀ a o,h.get? a=some o->o.cls=.type "tuple" -> h'.get? a=some o):dE h' vs ks:=⟨q.1,λi hi=>IsN.kept _ (q.2 i hi) kp⟩
theorem t0{a:Addr}{vs:List Value}{ks:List N}{n:Nat}{P:PySem.Fin->Shared->Prop}(hu:A.units+9<cLine)(ho:s.heap.get? a=some (seqObj "list" vs.toArray n))(hv:dE s.heap vs ks)(d8:∀ k∈ks,k.dp<=8)(ok:oC ks)(ft:ks.length<=1\/∀ k∈ks,bY k=true)(h64:ks.length<64)(h:∀ p,gL ks p->P (.done (.ret .none)) { s with heap:=sortedHeap s.heap a vs (p.map λi=>vs.getD i .none).toArray }):wpAny (model prog w) A (Builtin.«list.sort» ⟨[.ref a],[]⟩) P E s:=by
 have lv:=hv.1;have la:a<s.heap.objs.size:=aJY ho;rw[list_sort_plain];refine aKI (listItems_at ho rfl (aKI (listUpdate_at ho rfl ?_ (by rw[aKR,aKQ];omega) (aKX _))))
 obtain ⟨e1,ho1⟩:∃ c,(s.heap.update a (Obj.mapSeq λ_=>(#[]:Array Value))).get? a=some (seqObj "list" #[] c):=⟨_,get?_update_seq ho λ_=>#[]⟩;refine aKI (seqEpoch_at ho1 rfl (aKI (wpAny_newTuple (aKI (aN7 (aLM ?_) (aKX _))) (by show vs.length<=_;rw[aKQ];omega))))
 have ho2:(((s.heap.update a (Obj.mapSeq λ_=>(#[]:Array Value))).push (seqObj "tuple" vs.toArray 0)).push (seqObj "list" #[] 0)).get? a=some (seqObj "list" #[] e1):=hps (hps ho1);have hv2:dE (((s.heap.update a (Obj.mapSeq λ_=>(#[]:Array Value))).push (seqObj "tuple" vs.toArray 0)).push (seqObj "list" #[] 0)) vs ks:=hv.kept λb o e c=>by
  have hb:b≠a:=λz=>by
   rw[z,ho] at e;cases e;have c:Value.type "list" = .type "tuple" := c;injection c with c
   exact absurd c (by decide)
  exact hps (hps ((Heap.get?_update_ne _ _ _ _ hb).trans e))
 have fin:=h;show wpAny (model prog w) A _ P E { s with heap:=((s.heap.update a (Obj.mapSeq λ_=>(#[]:Array Value))).push (seqObj "tuple" vs.toArray 0)).push (seqObj "list" #[] 0) }
 dsimp only;by_cases hs:vs.toArray.size<2
 . rw[if_pos hs,if_pos hs];rw[aKR] at hs;refine aKI (aKH ?_);rw[StateT.run_pure];refine aKI (aKH ?_);have w0:gL ks (List.range ks.length):=⟨aN4 _,by
     rw[lH]
     match ks,lv with
     | [],_=>exact List.Pairwise.nil
     | [t],_=>exact aN5 _ _
     | _::_::_,lv=>simp at lv;omega⟩
   have ev:((List.range ks.length).map λi=>vs.getD i Value.none).toArray=(arrOf (SortSt.mk' general' (vs.toArray.zip vs.toArray) #[] 7 none)).map (·.2):=by
    rw[<- lv,lH];show vs.toArray=(vs.toArray.zip vs.toArray).map (·.2);apply Array.ext
    . simp
    . intro i h1 h2;simp
   have w1:=fin _ w0;rw[ev] at w1;refine aKI (seqEpoch_at ho2 rfl (aKI (listUpdate_at ho2 rfl ?_ (aKX _) (by rw[<- ev,aKR,aLA,aNO,aKQ];omega))))
   simp only[aNK,aMA,aLI];exact aKH w1
 . rw[if_neg hs,if_neg hs];rw[aKR] at hs;have ft:∀ k∈ks,bY k=true:=ft.resolve_left (by omega)
   refine aKI (kindN (s:={ s with heap:=((s.heap.update a (Obj.mapSeq λ_=>(#[]:Array Value))).push (seqObj "tuple" vs.toArray 0)).push (seqObj "list" #[] 0) }) hv2 ft (by omega) ?_)
   have ask:fF ks.length (λi j=>ltN (ks.getD i (.i 0)) (ks.getD j (.i 0))) (kas_ask prog w A (tuples' false) vs) (λs'=>s'={ s with heap:=((s.heap.update a (Obj.mapSeq λ_=>(#[]:Array Value))).push (seqObj "tuple" vs.toArray 0)).push (seqObj "list" #[] 0) }):=λi j s' C hi hj hJ q=>by
    subst hJ;unfold kas_ask;have mi:ks.getD i (.i 0)∈ks:=by simp[hi]
    have mj:ks.getD j (.i 0)∈ks:=by simp[hj]
    exact aEY (by have:=d8 _ mi;omega) (ft _ mi) (ft _ mj) (hv2.2 i hi) (hv2.2 j hj) (ok _ mi _ mj) (q _ rfl)
   refine aKI (aKE (kat_run (ks:=vs) (vs:=vs) (κ:=tuples' false) (Q:=λst' s'=>s'=_/\∃ p:Array Nat,PW ks.length p/\p.Perm (List.toArray (List.range ks.length))/\Wup (λi j=>ltN (ks.getD i (.i 0)) (ks.getD j (.i 0))) p ks.length/\arrOf st'=p.map (kas_item (vs.toArray.zip vs.toArray))/\failedOf st'=none)
    (G:=λp s'=>s'=_/\PW ks.length p/\p.Perm (List.toArray (List.range ks.length))/\Wup (λi j=>ltN (ks.getD i (.i 0)) (ks.getD j (.i 0))) p ks.length) rfl (by omega) (by omega)
    (λp st' s' a1 a2 a3 a4=>⟨a4.1,p,a4.2.1,a4.2.2.1,a4.2.2.2,a2,a3⟩) (by rw[lv];exact aEW (wkO_N ks) ask (by omega) rfl λp s' b1 b2 b3 b4=>⟨b4,b1,b2,b3⟩)) ?_ λ_ _ e=>e)
   rintro ⟨⟨⟩,st'⟩ s' ⟨rfl,p,pp,pe,u,ea,ef⟩;have w1:=fin _ (aEZ pp pe u);have ev:=kat_snds (vs:=vs) rfl ea;rw[<- ev] at w1;refine aKI (seqEpoch_at ho2 rfl (aKI (listUpdate_at ho2 rfl ?_ (aKX _) (by rw[ev,aKR,aLA,aKG,pp.size,aKQ];omega))))
   rw[ef];simp only[aNK,aMA,aLI];exact aKH w1
theorem t4{l:Addr}{vs:List Value}{Q:List Value->Shared->Prop}(hl:IsTup s.heap l vs.toArray)(hz:vs.length<=sizeLine)(h:Q vs { s with heap:=(s.heap.push (seqObj "list" #[] 0)).update s.heap.objs.size (Obj.mapSeq (·++vs.toArray)) }):wpAny (model prog w) A (collect (.ref l)) Q E s:=by
 obtain ⟨o,ho,hc,n,hd⟩:=id hl;have g0:=Heap.get?_push_of_some (seqObj "list" #[] 0) ho;have g1:(s.heap.push (seqObj "list" #[] 0)).get? s.heap.objs.size=some (seqObj "list" #[] 0):=aJX _ rfl;unfold collect;refine aKI (wpAny_runValue (aM7 entry_proto_collect' ?_));show wpAny _ _ (do let l' <- newList [];again (.builtin "list.__iadd__" ⟨[l',.ref l],[]⟩)) _ _ s
 refine aKI (aN7 (aKH ⟨Code.quiet_builtin _ (by decide +kernel),aM7 entry_list_iadd' ?_⟩))
 show wpAny (model prog w) _ (Builtin.List.listExtendWith (.ref s.heap.objs.size) (.ref l) (.ref s.heap.objs.size)) _ _ _;unfold Builtin.List.listExtendWith;refine aKI (aLQ (T := "tuple") (s:={ s with heap:=s.heap.push (seqObj "list" #[] 0) }) ⟨o,g0,hc⟩ ?_)
 rw[if_pos (by rw[show (Value.type "tuple" == Value.type "tuple")=true from rfl,Bool.or_true])]
 refine aKI (listItems_at (s:={ s with heap:=s.heap.push (seqObj "list" #[] 0) }) g0 hd (aKI (listItems_at (xs:=#[]) (n:=0) g1 rfl ?_)))
 rw[if_neg (by simp)]
 refine aKI (listUpdate_at (xs:=#[]) (n:=0) g1 rfl (aKH ?_) (aKX _) (by show (#[]++vs.toArray).size<=sizeLine+1;simp only[Array.size_append,aKR,aM1];omega))
 show wpAny (model prog w) A (do match (<- load s.heap.objs.size).data with | .seq xs _=>pure xs.toList | _=>unsupported "internal:collect") Q E _
 refine aKI (aKJ (get?_update_seq g1 _) ?_);show wpAny _ A (pure ((#[]:Array Value)++vs.toArray).toList) Q E _;rw[show ((#[]:Array Value)++vs.toArray).toList=vs by simp]
 exact aKH h
theorem aE0{l:Addr}{vs:List Value}{ks:List N}{Q:VSP}(hu:A.units+64<cLine)(hl:s.heap.IsList l vs.toArray\/IsTup s.heap l vs.toArray)(hv:dE s.heap vs ks)(d8:∀ k∈ks,k.dp<=8)(ok:oC ks)(ft:ks.length<=1\/∀ k∈ks,bY k=true)(h64:ks.length<64)(h:∀ p,gL ks p->Q (.ref (s.heap.objs.size+1)) { s with heap:=sortedAll s.heap vs (p.map λi=>vs.getD i .none).toArray }):wpAny (model prog w) A (call (.builtin "sorted") [.ref l]) Q E s:=by
 have lv:=hv.1;refine aN8 kind_sorted plain_sorted entry_sorted (args_sorted1 (.ref l)) ?_;unfold Builtin.«sorted»;have col:∀ {R:List Value->Shared->Prop} {E':VSP},R vs { s with heap:=(s.heap.push (seqObj "list" #[] 0)).update s.heap.objs.size (Obj.mapSeq (·++vs.toArray)) } -> wpAny (model prog w) A.in1 (collect (.ref l)) R E' s:=λ{R E'} r=>by
  rcases hl with hl | hl
  . exact collect_list hl r (by rw[aKQ];omega)
  . exact t4 hl (by rw[aKQ];omega) r
 refine aKI (m:=checkCount "sorted" 1 1 [Value.ref l].length) (aKH (aKI (col (aKI (aN7 ?_ (by rw[aKQ];omega))))))
 have z1:((s.heap.push (seqObj "list" #[] 0)).update s.heap.objs.size (Obj.mapSeq (·++vs.toArray))).objs.size=s.heap.objs.size+1:=(Heap.size_update ..).trans (size_push' ..);have g1:(((s.heap.push (seqObj "list" #[] 0)).update s.heap.objs.size (Obj.mapSeq (·++vs.toArray))).push (seqObj "list" vs.toArray 0)).get? (s.heap.objs.size+1)=some (seqObj "list" vs.toArray 0):=z1 ▸ aJX _ rfl;have hv1:dE (((s.heap.push (seqObj "list" #[] 0)).update s.heap.objs.size (Obj.mapSeq (·++vs.toArray))).push (seqObj "list" vs.toArray 0)) vs ks:=hv.kept λb o e _ =>
  hps ((Heap.get?_update_ne _ _ _ _ (aJ1 (aJY e))).trans (hps e))
 show wpAny _ _ _ _ _ { s with heap:=((s.heap.push (seqObj "list" #[] 0)).update s.heap.objs.size (Obj.mapSeq (·++vs.toArray))).push (seqObj "list" vs.toArray 0) }
 rw[z1];exact aKI (aLM (aLP slot_list_sort ⟨_,g1,rfl⟩ entry_list_sort (t0 (A:=A.in1.in1) (by show A.units+1+1+9<_;omega) (s:={ s with heap:=((s.heap.push (seqObj "list" #[] 0)).update s.heap.objs.size (Obj.mapSeq (·++vs.toArray))).push (seqObj "list" vs.toArray 0) }) g1 hv1 d8 ok ft h64 λp wp=>⟨_,rfl,aKH ⟨_,rfl,h p wp⟩⟩) (args_list_sort _)))
end
theorem t5:∀ {h:Heap} {ks:List N} {us:List Value},aN h ks us->dE h us ks
 | h,[],us,q=>by rw[aN] at q;subst q;exact ⟨rfl,λi hi=>by simp at hi⟩
 | h,k::ks,us,q=>by
  rw[aN] at q;obtain ⟨u,us,rfl,q1,q2⟩:=q;obtain ⟨l,r⟩:=t5 q2;refine ⟨by simp[l],λi hi=>?_⟩
  cases i with
  | zero=>simpa using q1
  | succ i=>have:=r i (by simpa using hi);simpa using this
theorem bF.nth{K:Fg}{F:Hp}:∀ {ks:List N} {vs:List V},bF K F ks vs->vs.length=ks.length/\∀ i,i<ks.length->NAt K F (ks.getD i (.i 0)) (vs.getD i .non)
 | [],vs,q=>by rw[bF] at q;subst q;exact ⟨rfl,λi hi=>by simp at hi⟩
 | k::ks,vs,q=>by
  rw[bF] at q;obtain ⟨u,us,rfl,q1,q2⟩:=q;obtain ⟨l,r⟩:=bF.nth q2;refine ⟨by simp[l],λi hi=>?_⟩
  cases i with
  | zero=>simpa using q1
  | succ i=>have:=r i (by simpa using hi);simpa using this
theorem fV:∀ (ks:List N),nDL ks=ks.map nD
 | []=>by rw[nDL];rfl
 | k::ks=>by rw[nDL,fV ks];rfl
def okS(ks:List N):Bool:=ks.all (λk=>decide (k.dp<=8))&&(decide (ks.length<=1)||ks.all bY)&&ks.all (λx=>ks.all λy=>okN x y)&&decide (ks.length<64)
def gM(l:List Str):Prop:=l.Pairwise λx y=>lts y x=false
def iJ(x:Str):List Str->List Str
 | []=>[x]
 | y::l=>if lts y x=true then y::iJ x l else x::y::l
def bD(l:List Str):List Str:=l.foldr iJ []
theorem aE1{x y:Str}(h:lts x y=true):lts y x=false:=by
 cases e:lts y x with
 | false=>rfl
 | true=>have:=nQ h e;rw[lG] at this;cases this
theorem aE2{a b c:Str}(h1:lts a b=false)(h2:lts b c=false):lts a c=false:=by
 have:=n8 (a:=.s a) (b:=.s b) (c:=.s c) (by rw[ltN];exact h1) (by rw[ltN];exact h2)
 rw[ltN] at this;exact this
theorem oD(x:Str):∀ (l:List Str),(iJ x l).Perm (x::l)
 | []=>aN4 _
 | y::l=>by
  unfold iJ;split
  . exact ((oD x l).cons y).trans (List.Perm.swap x y l)
  . exact aN4 _
theorem gN:∀ (l:List Str),(bD l).Perm l
 | []=>aN4 _
 | x::l=>(oD x (bD l)).trans ((gN l).cons x)
theorem t7{x:Str}:∀ {l:List Str},gM l->gM (iJ x l)
 | [],_=>aN5 _ _
 | y::l,h=>by
  unfold iJ;split
  . rename_i e;refine aNZ.mpr ⟨λz hz=>?_,t7 (aNZ.mp h).2⟩;rcases aJ7.mp ((oD x l).mem_iff.mp hz) with rfl | hz
    . exact aE1 e
    . exact (aNZ.mp h).1 z hz
  . rename_i e;have e:lts y x=false:=by simpa using e
    refine aNZ.mpr ⟨λz hz=>?_,h⟩;rcases aJ7.mp hz with rfl | hz
    . exact e
    . exact aE2 ((aNZ.mp h).1 z hz) e
theorem oE:∀ (l:List Str),gM (bD l)
 | []=>List.Pairwise.nil
 | x::l=>t7 (oE l)
theorem t8:∀ {l l':List Str},gM l->gM l'->l.Perm l'->l=l'
 | [],l',_,_,p=>p.symm.eq_nil.symm
 | x::l,[],_,_,p=>p.eq_nil
 | x::l,y::l',h,h',p=>by
  have h1:=aNZ.mp h;have h2:=aNZ.mp h';have exy:x=y:=by
   have a:lts y x=false:=by
    rcases aJ7.mp (p.mem_iff.mpr mcs) with e | e
    . rw[e];exact lG _
    . exact h1.1 y e
   have b:lts x y=false:=by
    rcases aJ7.mp (p.mem_iff.mp mcs) with e | e
    . rw[e];exact lG _
    . exact h2.1 x e
   exact nR b a
  subst exy;rw[t8 h1.2 h2.2 p.cons_inv]
theorem t9{l l':List Str}(h:gM l')(p:l'.Perm l):l'=bD l:=t8 h (oE l) (p.trans (gN l).symm)
theorem uA:∀ {l:List Str},sortedS l=true->gM l
 | [],_=>.nil
 | x::l,h=>by
  refine aNZ.mpr ⟨λy hy=>sP (show risingS x l=true from h) y hy,uA ?_⟩
  cases l with
  | nil=>rfl
  | cons y l=>have h:(!lts y x&&risingS y l)=true:=h;rw[aLR] at h;exact h.2
section
variable {prog:Program}{w:World}{A:Around}{E:VSP}{s:Shared}
theorem aE3{l:Addr}{vs:List Value}{ns:List Str}{Q:VSP}(hl:s.heap.IsList l vs.toArray\/IsTup s.heap l vs.toArray)(sa:StrsAre vs ns)(h64:vs.length<64)(h:∀ (out:Array Value) ys,StrsAre out.toList ys->ys.Perm ns->sortedS ys=true->Q (.ref (s.heap.objs.size+1)) { s with heap:=sortedAll s.heap vs out }):wpAny (model prog w) A (call (.builtin "sorted") [.ref l]) Q E s:=by
 refine aN8 kind_sorted plain_sorted entry_sorted (args_sorted1 (.ref l)) ?_;unfold Builtin.«sorted»;have col:∀ {R:List Value->Shared->Prop} {E':VSP},R vs { s with heap:=(s.heap.push (seqObj "list" #[] 0)).update s.heap.objs.size (Obj.mapSeq (·++vs.toArray)) } -> wpAny (model prog w) A.in1 (collect (.ref l)) R E' s:=λ{R E'} r=>by
  rcases hl with hl | hl
  . exact collect_list hl r (by rw[aKQ];omega)
  . exact t4 hl (by rw[aKQ];omega) r
 refine aKI (m:=checkCount "sorted" 1 1 [Value.ref l].length) (aKH (aKI (col (aKI (aN7 ?_ (by rw[aKQ];omega))))))
 have z1:((s.heap.push (seqObj "list" #[] 0)).update s.heap.objs.size (Obj.mapSeq (·++vs.toArray))).objs.size=s.heap.objs.size+1:=(Heap.size_update ..).trans (size_push' ..);have g1:(((s.heap.push (seqObj "list" #[] 0)).update s.heap.objs.size (Obj.mapSeq (·++vs.toArray))).push (seqObj "list" vs.toArray 0)).get? (s.heap.objs.size+1)=some (seqObj "list" vs.toArray 0):=z1 ▸ aJX _ rfl;show wpAny _ _ _ _ _ { s with heap:=((s.heap.push (seqObj "list" #[] 0)).update s.heap.objs.size (Obj.mapSeq (·++vs.toArray))).push (seqObj "list" vs.toArray 0) }
 rw[z1];refine aKI (aLM (aLP slot_list_sort ⟨_,g1,rfl⟩ entry_list_sort (list_sort_treeK strKind_oneLt (s:={ s with heap:=((s.heap.push (seqObj "list" #[] 0)).update s.heap.objs.size (Obj.mapSeq (·++vs.toArray))).push (seqObj "list" vs.toArray 0) }) g1 sa.keysOf (λv1 v2 r e=>keyKind_strs (by rw[<- e];exact sa)) h64 λst' p1 p2=>⟨_,rfl,?_⟩) (args_list_sort _)))
 obtain ⟨zs,y1,y2,y3⟩:=sorted_out_str sa p1 p2;exact aKH ⟨_,rfl,h _ zs y1 y2 y3⟩
end
section
variable {X:Cx}
def rSrtN(K:Fg):List V->Hp->VK->Prop:=λxs H Q=>∃ (p:Addr) (vs:List V) (ks:List N),xs=[.ref p]/\(SqL K H p vs\/SqT K H p vs)/\bF K H ks vs/\okS ks=true/\∀ l q,H l=none->gL ks q->Q (.ref l) (upd H l (.lst (q.map λi=>vs.getD i .non)))
theorem uB{aA:LAO}{σ:L2.St}{H:Hp}{s:Shared}{p:Addr}{vs:List V}(I:L2.Inv X aA σ H s)(h:SqL X.K H p vs\/SqT X.K H p vs):∃ its:List Value,aJ vs its/\(s.heap.IsList p its.toArray\/IsTup s.heap p its.toArray):=by
 rcases h with h | h
 . obtain ⟨its,rv,pl,_⟩:=I.list h;exact ⟨its,rv,.inl pl.isList⟩
 . obtain ⟨its,rv,pl,_⟩:=SqT.plain I h;exact ⟨its,rv,.inr pl.isTup⟩
theorem aE4(hu:X.A.units+64<cLine):b0 X (.builtin "sorted") (rSrtN X.K):=by
 intro aA s σ H xs us Q I r h;obtain ⟨p,vs,ks,rfl,hp,hn,ok,q⟩:=h;obtain ⟨u,rfl,rx⟩:=dP r;cases rx;obtain ⟨its,rv,pl⟩:=uB I hp;unfold okS at ok;simp only[aLR,aMF,aMD,aN9] at ok;obtain ⟨⟨⟨d8,ft⟩,ao⟩,h64⟩:=ok;have lz:its.length=vs.length:=rv.length.symm;have lv:=hn.nth.1;have ta:dE s.heap its ks:=t5 (bF.is (λx _ v u a b=>NAt.is I x v u a b) hn rv);refine aE0 hu pl ta d8 ao ft h64 λw wp=>?_;obtain ⟨e,he⟩:=sortedAll_at s.heap its (w.map λi=>its.getD i .none).toArray;have wl:w.length=ks.length:=by rw[wp.perm.length_eq,aNO]
 have le:(w.map λi=>vs.getD i V.non).length<=sizeLine:=by rw[aLA,wl,aKQ];omega
 have rv2:aJ (w.map λi=>vs.getD i V.non) (w.map λi=>its.getD i Value.none):=sV λi hi=>sW rv (by
  have:=wp.perm.mem_iff.mp hi;rw[aJ3] at this;omega)
 exact ⟨.ref (s.heap.objs.size+1),_,I.laid (t':=s.toks) (λb o e=>sortedAll_old e) (aMW _) (show bE X.prog X.w _ _ _ (.lst (w.map λi=>vs.getD i V.non)) from ⟨le,_,e,rv2,he⟩),rfl,q _ w (I.hok.fresh (aMW _)) wp⟩
def rSrtS(K:Fg):List V->Hp->VK->Prop:=λxs H Q=>∃ (p:Addr) (ns:List Str),xs=[.ref p]/\(SqL K H p (ns.map V.str)\/SqT K H p (ns.map V.str))/\ns.length<64/\∀ l,H l=none->Q (.ref l) (upd H l (.lst ((bD ns).map V.str)))
theorem aE5:b0 X (.builtin "sorted") (rSrtS X.K):=by
 intro aA s σ H xs us Q I r h;obtain ⟨p,ns,rfl,hp,hz,q⟩:=h;obtain ⟨u,rfl,rx⟩:=dP r;cases rx;obtain ⟨its,rv,pl⟩:=uB I hp;have sa:=rT rv;have lz:its.length=ns.length:=sa.length;refine aE3 pl sa (by rw[lz];exact hz) λout ys oa py so=>?_
 obtain ⟨e,he⟩:=sortedAll_at s.heap its out;have e1:ys=bD ns:=t9 (uA so) py;have le:((bD ns).map V.str).length<=sizeLine:=by rw[aLA,<- e1,py.length_eq,aKQ];omega
 exact ⟨.ref (s.heap.objs.size+1),_,I.laid (t':=s.toks) (λb o e=>sortedAll_old e) (aMW _) (show bE X.prog X.w _ _ _ (.lst ((bD ns).map V.str)) from ⟨le,out.toList,e,by rw[<- e1];exact sQ oa,by simpa using he⟩),rfl,q _ (I.hok.fresh (aMW _))⟩
theorem b0.or{f:Value}{r1 r2:List V->Hp->VK->Prop}(h1:b0 X f r1)(h2:b0 X f r2):b0 X f (λxs H Q=>r1 xs H Q\/r2 xs H Q):=λaA s σ H xs us Q I r h=>by
 rcases h with h | h
 . exact h1 aA s σ H xs us Q I r h
 . exact h2 aA s σ H xs us Q I r h
def seqD:D->Option (List D)
 | .lst ds=>some ds
 | .tup ds=>some ds
 | _=>none
def eX:List (Md×D)->Option (Md×D)
 | [(_,d)]=>match seqD d with
  | some ds=>match txD ds with
   | some ns=>if ns.length<64 then some (.fr,.lst ((bD ns).map .str)) else none
   | none=>match dL ds with
    | some ks=>if okS ks=true then some (.fr,.lst (nDL (bH ks))) else none
    | none=>none
  | none=>none
 | _=>none
theorem Rp.seqD{K:Fg}{F H:Hp}{m:Md}{d:D}{ds:List D}{v:V}(s:aE F H)(e:D3.seqD d=some ds)(r:Rp K F H m d v):∃ a xs,v=.ref a/\(SqL K H a xs\/SqT K H a xs)/\aC K F ds xs:=by
 cases d with
 | lst es=>cases e;obtain ⟨a,xs,rfl,q,rl⟩:=r.seqL s;exact ⟨a,xs,rfl,.inl q,rl⟩
 | tup es=>cases e;obtain ⟨a,xs,rfl,q,rl⟩:=r.seqT s;exact ⟨a,xs,rfl,.inr q,rl⟩
 | _=>cases e
theorem aE6(hu:X.A.units+64<cLine):c7 X (.builtin "sorted") eX:=by
 refine ⟨_,b0.or aE5 (aE4 hu),λF H xs vs k d Q s rx e w=>?_⟩;unfold eX at e;split at e
 . rename_i m d0;obtain ⟨v,rfl,r⟩:=rx.one;split at e
   . rename_i ds ed;obtain ⟨a,xs,rfl,q,rl⟩:=Rp.seqD s ed r;split at e
     . rename_i ns en;split at e
       . rename_i hc;cases e;obtain ⟨rfl,k1⟩:=sS en rl;exact .inl ⟨a,ns,rfl,q,hc,λl hl=>w (.ref l) F _ (aH.fresh _ s hl) ⟨l,rfl,s.free hl,_,bA,sU λx hx=>k1 x ((gN ns).mem_iff.mp hx)⟩ λ_ a ea=>by cases ea;exact hl⟩
       . cases e
     . split at e
       . rename_i ks en;split at e
         . rename_i hc;cases e;have hn:=nV en rl;refine .inr ⟨a,xs,ks,rfl,q,hn.map (λx _ v z=>NAt.mono s x v z),hc,λl p hl wp=>w (.ref l) F _ (aH.fresh _ s hl) ⟨l,rfl,s.free hl,_,bA,?_⟩ λ_ a ea=>by cases ea;exact hl⟩
           rw[<- wp.eq,fV,aOA];refine nS λi hi=>?_;have:=wp.perm.mem_iff.mp hi;rw[aJ3] at this;exact nW _ _ (hn.nth.2 i this)
         . cases e
       . cases e
   . cases e
 . cases e
end
end D3
namespace D3
open PySem PySem.Spec PyProof.Rows L2
section
variable {prog:Program}{w:World}{A:Around}{E:VSP}{s:Shared}{d it:Addr}{o:Obj}{es:Array DictEntry}{ep i:Nat}
theorem aE7{Q:VSP}(hm:(d==sysModules)=false)(ho:s.heap.get? d=some o)(hc:o.ExactDict)(hd:o.data=.dict es ep)(q:Q (.ref s.heap.objs.size) { s with heap:=s.heap.push { cls:=.type "dict_keyiterator", data:=.fields #[.ref d,.int 0 0,.int es.size 0,.int ep 0] } }):wpAny (model prog w) A (pyIter (.ref d)) Q E s:=by
 have hT:s.TypeIs (.ref d) "dict" := ⟨o,ho,hc.1⟩;refine aNC hT F.slot_dict_iter (aLP F.slot_dict_iter hT F.entry_dict_iter ?_ (F.args_dict_iter_1 (.ref d)));unfold Builtin.«dict.__iter__» Builtin.Dict.dictSlotNone;refine aKI (aKI (wpAny_notOrdered_dict hT (aKH ?_)));show wpAny (model prog w) _ (Builtin.Dict.showsAll d >>= _) _ _ s;unfold Builtin.Dict.showsAll;rw[if_neg (λz=>by rw[hm] at z;cases z)]
 refine aKI (aKH (aKI (aOB ho hd (aKI (aOC ho hd ?_)))));refine aKI (aLS (aKH ⟨.ref s.heap.objs.size,rfl, "dict_keyiterator", _,⟨_,aJX _ rfl,rfl⟩,F.slot_dict_keyiterator_next.lookup,?_⟩));simpa[rawInt] using q
theorem aE8{e:DictEntry}{Q:Option Value->Shared->Prop}(hit:s.heap.IsKeyIter it d i es.size ep)(ho:s.heap.get? d=some o)(hd:o.data=.dict es ep)(he:es[i]? = some e)(q:∀ h',h'.IsKeyIter it d (i+1) es.size ep->Heap.SameBut it s.heap h'->Q (some e.key) { s with heap:=h' }):wpAny (model prog w) A (pyNext (.ref it)) Q E s:=by
 obtain ⟨io,hio,hic,hid⟩:=id hit;obtain ⟨hlt,rfl⟩:=aM3.mp he;unfold pyNext;refine aKI (aNH (aLN (name:=Str.ofString "__next__") hit.typeIs aOD (aLP aOD hit.typeIs aOE ?_ (aOF (.ref it)))));refine aKI (aKH (aKI (aKI ?_)))
 first | refine aKI (aOG hit.typeIs (aKH (aKI (aNI hio hid ?_)))) | refine aKI (aOH hit.typeIs (aKH (aKI (aNI hio hid ?_))))
 simp only[show Builtin.Dict_items.ownsTuple "dict_keyiterator" = false by decide,aMA,aLI]
 show wpAny _ _ (if (Value.ref d==Value.none)=true then _ else _) _ _ s;rw[if_neg (λ(z:(Value.ref d==Value.none)=true)=>aKT z)];refine aKI (aKH (aKI (aOB ho hd ?_)));rw[if_neg (by simp)]
 refine aKI (aKH (aKI (aOC ho hd ?_)));rw[if_neg (by simp)]
 refine aKH ?_;simp only[show ¬ ((i:Int)<0) from by omega,aLI,aLH,aNM hlt]
 refine aKI ?_
 first | refine aKI (aOG hit.typeIs (aKH (aKI (aOI hit.typeIs ?_)))) | refine aKI (aOH hit.typeIs (aKH (aKI (aOI hit.typeIs ?_))))
 show wpAny _ _ (setField (.ref it) 1 (rawInt ((i:Int)+1)) >>= _) _ _ s;refine aKI (aM4 hio hid (by simp) ?_)
 have hit2:(s.heap.update it (Obj.mapFields (·.setIfInBounds 1 (rawInt ((i:Int)+1))))).IsKeyIter it d (i+1) es.size ep :=
  ⟨_,aLT _ hio (aND (aNE hid _)),(aNG ..).trans hic,by rw[aNE hid];simp[rawInt]⟩
 refine aKI (aLM (aKI (aOI (s:={ s with heap:=s.heap.update it (Obj.mapFields (·.setIfInBounds 1 (rawInt ((i:Int)+1)))) }) hit2.typeIs ?_)))
 show wpAny _ _ (pure es[i].key) _ _ _;exact aKH (aKH ⟨_,rfl,aKH (q _ hit2 (aNF ..))⟩)
end
theorem aE9{prog:Program}{w:World}{A:Around}{E:VSP}{s:Shared}{d it:Addr}{o:Obj}{es:Array DictEntry}{ep i:Nat}{Q:Option Value->Shared->Prop}(hh:A.handled=none)(hit:s.heap.IsKeyIter it d i es.size ep)(ho:s.heap.get? d=some o)(hd:o.data=.dict es ep)(hi:es.size<=i)(q:∀ h',Heap.ExtBut it s.heap h'->Q none { s with heap:=h' }):wpAny (model prog w) A (pyNext (.ref it)) Q E s:=by
 obtain ⟨io,hio,hic,hid⟩:=id hit;unfold pyNext;refine aKI (aNH (aLN (name:=Str.ofString "__next__") hit.typeIs aOD (aLP aOD hit.typeIs aOE ?_ (aOF (.ref it)))));refine aKI (aKH (aKI (aKI ?_)))
 first | refine aKI (aOG hit.typeIs (aKH (aKI (aNI hio hid ?_)))) | refine aKI (aOH hit.typeIs (aKH (aKI (aNI hio hid ?_))))
 simp only[show Builtin.Dict_items.ownsTuple "dict_keyiterator" = false by decide,aMA,aLI]
 show wpAny _ _ (if (Value.ref d==Value.none)=true then _ else _) _ _ s;rw[if_neg (λ(z:(Value.ref d==Value.none)=true)=>aKT z)];refine aKI (aKH (aKI (aOB ho hd ?_)));rw[if_neg (by simp)]
 refine aKI (aKH (aKI (aOC ho hd ?_)));rw[if_neg (by simp)]
 refine aKH ?_;simp only[show ¬ ((i:Int)<0) from by omega,aLI,aLH,aNN hi]
 refine aKI ?_
 first | refine aKI (aOG hit.typeIs (aKH ?_)) | refine aKI (aOH hit.typeIs (aKH ?_))
 show wpAny (model prog w) _ (setField (.ref it) 0 .none >>= _) _ _ s;refine aKI (aM4 hio hid (by simp) ?_)
 show wpAny (model prog w) _ (newExc (.type "StopIteration") [] >>= _) _ _ _;refine aKI ?_;simp only[newExc,newTuple];refine aKI (aLS (aKI (m:=firstArgMember _ _) (wpAny_of_eq (a:=Value.none) (by first | rfl | (simp only[firstArgMember];rfl)) (aLS ?_ (by size_fits)))) (by size_fits))
 simp only[raiseNew];refine aKI (wpAny_handled ?_);rw[show A.in1.handled=none from hh]
 refine aKI (aKH (wpAny_throw ?_));refine aKI (aL8 (b:=true) (T := "StopIteration") ⟨_,aJX _ rfl,rfl⟩ isSubtype_stop ?_);exact aKH (q _ (((aNF ..).extBut.push _).push _))
def Itn(d:Addr)(o:Obj)(xs:List (N×Addr×V)):It :=
 ⟨λi H=>H d=some (.frz o (.dN xs))/\i<xs.length,λi H x H'=>H'=H/\∃ p,xs[i]? = some p/\x=.ref p.2.1,λi H=>H d=some (.frz o (.dN xs))/\xs.length<=i⟩
theorem KN.nth{kvs:List (N×Addr×V)}{xs:List (N×Addr×Value)}(r:KN kvs xs):xs.length=kvs.length/\∀ (i:Nat) (p:N×Addr×V),kvs[i]? = some p->∃ u,xs[i]? = some (p.1,p.2.1,u):=by
 induction r with
 | nil=>exact ⟨rfl,λi p h=>by simp at h⟩
 | @cons a b as bs h t ih =>
  refine ⟨by simp[ih.1],λi p hp=>?_⟩
  cases i with
  | zero =>
   have hp:a=p:=by simpa using hp
   subst hp;refine ⟨b.2.2,?_⟩;rw[h.1,h.2.1];rfl
  | succ i=>have:=ih.2 i p (by simpa using hp);simpa using this
theorem oF{P:Program}{w:World}{H:Hp}{h:Heap}{d:Addr}{o:Obj}{xs:List (N×Addr×V)}(ok:HOk P w H h)(hd:H d=some (.frz o (.dN xs))):(d==sysModules)=false/\∃ es,h.get? d=some o/\o.ExactDict/\o.data=.dict es (epO o)/\es.size=xs.length/\∀ (i:Nat) (p:N×Addr×V),xs[i]? = some p->∃ e,es[i]? = some e/\e.key=.ref p.2.1:=by
 obtain ⟨g,z,y,vs,r,o',es,ep,h1,h2,h3,h4,h5⟩:=ok d _ hd;rw[g] at h1;cases h1;obtain ⟨l,n⟩:=KN.nth r;refine ⟨y,es,g,h2,by unfold epO;rw[h3],by rw[<- aKG,h4,aLA,l],λi p hp=>?_⟩
 obtain ⟨u,hu⟩:=n i p hp;refine ⟨pT w (p.1,p.2.1,u),?_,rfl⟩;rw[<- aNT,h4,aK7,hu];rfl
theorem aFA{P:Program}{w:World}{K:Fg}{tg:Expr}(d it:Addr)(o:Obj)(xs:List (N×Addr×V)):gZ P w K tg (Itn d o xs) [it] it (λi h=>h.IsKeyIter it d i xs.length (epO o)) where
 mem:=by simp
 obj:=λi h st b hb=>by
  have e:b=it:=by simpa using hb
  subst e;obtain ⟨o,e,c,d⟩:=st;exact ⟨o,e,λv z=>by rw[d] at z;cases z⟩
 keep:=λi h h' st k=>st.at λo e=>k it (by simp) o e
 item:=by
  intro X hP hw hK hc i aA s σ H E I hf st hg;subst hP hw hK;obtain ⟨hd,hi⟩:=hg;obtain ⟨ns,es,g,hx,dt,sz,n⟩:=oF I.hok hd;obtain ⟨f0,f1,f2,f3,f4,f5⟩:=hf it (by simp)
  obtain ⟨e,he,ke⟩:=n i xs[i] (by simp[hi])
  rw[<- sz] at st;refine aE8 st g dt he λh' hit' hs'=>?_;have I1:L2.Inv X aA σ H { s with heap:=h' }:=I.turned (t':=s.toks) (λb o hb e=>hs'.extBut b o hb e) f0 f1 f3 f4 f5
  rw[sz] at hit';obtain ⟨o1,e1,c1,d1⟩:=id hit';refine ⟨e.key,rfl,i7 (s:={ s with heap:=h' }) e1 c1 d1 (by decide) ⟨.ref xs[i].2.1,H,I1,ke,⟨rfl,xs[i],by simp[hi],rfl⟩,hit',λb hb=>(hf b hb).1⟩⟩
 done:=by
  intro X hP hw hK hc i aA s σ H E I hf st hg;subst hP hw hK;obtain ⟨hd,hi⟩:=hg;obtain ⟨ns,es,g,hx,dt,sz,n⟩:=oF I.hok hd;obtain ⟨f0,f1,f2,f3,f4,f5⟩:=hf it (by simp)
  exact aE9 (I.ok.hd hc) (by rw[sz];exact st) g dt (by omega) λh' eb=>⟨rfl,I.turned (t':=s.toks) (λb o hb e=>eb b o hb e) f0 f1 f3 f4 f5⟩
 self:=λ_ _ _ _ _ st h=>wpAny_pyIter_keyiter st h
def iDn(tl:TE):TI:=λσ H R=>tl σ H λx H1=>∃ d o xs,x=.ref d/\H1 d=some (.frz o (.dN xs))/\R (Itn d o xs) H1
theorem pi_dn{X:Cx}{tg l:Expr}{tl:TE}(hl:PE X l tl):PI X tg l (iDn tl):=by
 intro aA s σ H R I h;refine thn (hl aA s σ H _ I h) λv s1 ⟨x,H1,I1,r1,q1⟩=>?_;obtain ⟨d,o,xs,e,hd,q⟩:=q1;subst e;cases r1;obtain ⟨ns,es,g,hx,dt,sz,n⟩:=oF I1.hok hd;refine aE7 ns g hx dt ?_;rw[sz];have I2:L2.Inv X aA σ H1 { s1 with heap:=s1.heap.push { cls:=.type "dict_keyiterator", data:=.fields #[.ref d,.int 0 0,.int xs.length 0,.int (epO o) 0] } }:=I1.kept (t':=s1.toks) λb o e=>hps e
 refine ⟨s1.heap.objs.size,[s1.heap.objs.size],_,_,_,rfl,I2,aFA d _ o xs,⟨_,aJX _ rfl,rfl,rfl⟩,λb hb=>?_,q⟩;have e:b=s1.heap.objs.size:=by simpa using hb
 subst e;exact I1.fpOk (aKL _) (I1.hok.fresh (aKL _))
theorem aM.nth{K:Fg}{F:Hp}:∀ {kvs:List (N×D)} {xs:List (N×Addr×V)},aM K F kvs xs->∀ (i:Nat) (p:N×Addr×V),xs[i]? = some p->∃ d,kvs[i]? = some (p.1,d)/\NAt K F p.1 (.ref p.2.1)
 | [],xs,h,i,p,e=>by simp only[aM] at h;subst h;simp at e
 | (k,d)::kvs,xs,h,i,p,e=>by
  simp only[aM] at h;obtain ⟨b,y,ys,rfl,q,r,t⟩:=h;cases i with
  | zero =>
   have e:(k,b,y)=p:=by simpa using e
   subst e;exact ⟨d,rfl,q.1⟩
  | succ i=>have:=t.nth i p (by simpa using e);simpa using this
theorem aFB{K:Fg}{F:Hp}{a:Addr}{o:Obj}{kvs:List (N×D)}{xs:List (N×Addr×V)}(hf:F a=some (.frz o (.dN xs)))(r:aM K F kvs xs):jG K F (Itn a o xs) (kvs.map λkv=>nD kv.1) where
 go:=λi H s hi=>⟨s _ _ hf,by rw[r.len];simpa using hi⟩
 stop:=λi H s hi=>⟨s _ _ hf,by rw[r.len];simpa using hi⟩
 yld:=λi Fc H x H' s1 s2 hi y=>by obtain ⟨rfl,p,hp,rfl⟩:=y;obtain ⟨d,hd,hn⟩:=r.nth i p hp;exact ⟨Fc,nD p.1,by rw[aK7,hd];rfl,.refl s2,nW _ _ (NAt.mono s1 _ _ hn)⟩
def jX(r:Res):Res:=r.thn λ_ d=>match d with
 | .dtf kvs=>.ok .fz (.lst (kvs.map λkv=>nD kv.1))
 | _=>.stuck
theorem aFC{C:Cw}{X:Cx}{tg e:Expr}{g:Rho->Res}(h:PV C X e g):PIv C X tg e (λρ=>jX (g ρ)):=by
 refine PI.imp (pi_dn h) λσ H R q=>?_;obtain ⟨ρ,F,RS,w⟩:=q;dsimp only at w;unfold iDn;rw[aV];refine ⟨ρ,F,RS,?_⟩;unfold jX at w;cases er:g ρ with
 | stuck=>rw[er] at w;exact w.elim
 | exc c=>rw[er] at w;exact w
 | ok m d =>
  rw[er,Res.thn_ok] at w;intro v F' H' st rp _;cases d with
  | dtf kvs =>
   cases m with
   | fz=>have rp:aB X.K F' (.dtf kvs) v:=rp;simp only[aB] at rp;obtain ⟨a,o,xs,rfl,hf,r⟩:=rp;exact ⟨a,o,xs,rfl,st.sub _ _ hf,w _ F' H' st (aFB hf r)⟩
   | fr=>obtain ⟨a,_,_,q⟩:=rp;exact q.elim
   | bo=>obtain ⟨a,_,_,q⟩:=rp;exact q.elim
  | _=>exact w.elim
def iK(ρ:Rho)(i:Nat):aG:=match ρ[i]? with
 | some (some (true,.dtn kvs))=>.nx (ρ.set i (some (false,.dtf kvs)))
 | _=>.stuck
theorem aR.nfrz{K:Fg}{F0 H0 F H:Hp}{σ:L2.St}{ρ:Rho}{i:Nat}{kvs:List (N×D)}{a:Addr}{xs:List (N×Addr×V)}(o:Obj)(R:aR K F0 H0 F H σ ρ)(e:ρ[i]? = some (some (true,.dtn kvs)))(ev:σ[i]? = some (some (.ref a)))(hF:F a=none)(hH:H a=some (.dN xs))(h0:H0 a=none)(r:aM K F kvs xs):aE F (upd F a (.frz o (.dN xs)))/\aR K F0 H0 (upd F a (.frz o (.dN xs))) (upd H a (.frz o (.dN xs))) σ (ρ.set i (some (false,.dtf kvs))):=by
 have sm:aE F (upd F a (.frz o (.dN xs))):=λb u q=>by rw[aP (bN q hF)];exact q
 have hi:i<ρ.length:=(aKA.mp e).1;have own:∀ {j:Nat} {d1:D},(ρ.set i (some (false,.dtf kvs)))[j]? = some (some (true,d1))->j≠i/\ρ[j]? = some (some (true,d1)):=λ{j d1} z=>by
  by_cases hj:j=i
  . subst hj;rw[aKB hi] at z;cases z
  . rw[aKC (λy=>hj y.symm)] at z;exact ⟨hj,z⟩
 refine ⟨sm,⟨λb u q=>?_,λb u q=>?_,λb u q=>?_,λb q1 q2=>?_⟩,λj m d' ej=>?_,λj k d1 d2 b hjk e1 e2 q1 q2=>R.apart j k d1 d2 b hjk (own e1).2 (own e2).2 q1 q2,by rw[aLV];exact R.len⟩
 . rw[aP (bN q h0)];exact R.st.same b u q
 . rw[aP (bN (R.st.fsame b u q) hF)];exact R.st.fsame b u q
 . by_cases hb:b=a
   . subst hb;rw[bA] at q ⊢;exact q
   . rw[aP hb] at q ⊢;exact R.sub b u q
 . have:b≠a:=λz=>q2 (by rw[z];exact h0)
   rw[aP this];exact R.st.new b q1 q2
 . by_cases hj:j=i
   . subst hj;rw[aKB hi] at ej;cases ej;refine ⟨.ref a,ev,?_,by intro z;cases z⟩
     show aB K _ (.dtf kvs) _;simp only[aB];exact ⟨a,o,xs,rfl,bA,r.mono sm _ _⟩
   . rw[aKC (λz=>hj z.symm)] at ej;obtain ⟨v',ev',rp',hn'⟩:=R.slot j m d' ej;refine ⟨v',ev',?_,hn'⟩;cases m with
     | false=>exact aB.mono sm _ _ rp'
     | true =>
      obtain ⟨b,rfl,nb,t'⟩:=rp';have ab:b≠a:=λz=>by subst z;exact R.apart j i d' _ b hj ej e ev' ev
      refine ⟨b,rfl,by rw[aP ab];exact nb,?_⟩
      cases d' with
      | lst ds=>obtain ⟨ys,q,rr⟩:=t';exact ⟨ys,by rw[aP ab];exact q,rr.mono sm _ _⟩
      | dct ds=>obtain ⟨ys,q,rr⟩:=t';exact ⟨ys,by rw[aP ab];exact q,rr.mono sm _ _⟩
      | ins c fs=>obtain ⟨C,dx,gs,n,q,rr⟩:=t';exact ⟨C,dx,gs,n,by rw[aP ab];exact q,rr.mono sm _ _⟩
      | set ks=>obtain ⟨S,q,rr⟩:=t';exact ⟨S,by rw[aP ab];exact q,rr⟩
      | dtn ds=>obtain ⟨ys,q,rr⟩:=t';exact ⟨ys,by rw[aP ab];exact q,rr.mono sm _ _⟩
      | _=>exact t'.elim
theorem aFD{C:Cw}{X:Cx}{sts:List Stmt}{i:Nat}{g:Rho->aG}(h:PBv C X sts g):PBv C X sts (λρ=>(iK ρ i).thn g):=by
 intro aA s σ H E I q;obtain ⟨ρ,F,R,w⟩:=q;dsimp only at w;unfold iK at w;split at w
 . rename_i kvs e;obtain ⟨v,ev,rp,hn⟩:=R.slot i true _ e;obtain ⟨a,rfl,hF,xs,hH,r⟩:=rp;have ok:=I.hok a _ hH;obtain ⟨_,_,_,_,o,_,_,g1,_⟩:=id ok;have I2:=I.write (x:=a) (e:=a) (o:=.frz o (.dN xs)) (t':=s.toks) (h':=s.heap) (by rw[hH];exact trivial) (.inl rfl) (λ_ _ _ q=>q) ⟨_,g1⟩ ⟨g1,ok.stay (λ_ _ _ q=>q) (λc q=>by rw[aP (λz=>by rw[z,hH] at q;cases q)];exact q) λc ys q=>by rw[aP (λz=>by rw[z,hH] at q;cases q)];exact q⟩
   obtain ⟨sm,R2⟩:=aR.nfrz o R e ev hF hH (hn rfl a rfl) r;exact h aA s σ _ E I2 ⟨_,_,R2,bS.mono sm w⟩
 . exact w.elim
theorem slot0{t:SetTable}(hp:t.place = #[])(hd:t.dummies = #[])(j:Nat):t.slot j=.empty:=by unfold SetTable.slot SetTable.has;rw[hp,hd];rfl
theorem oG(j1 j:Nat):SetTable.below #[j1] j=if j1<j then 1 else 0:=by
 show SetTable.below.go #[j1] j 1 0 1=_;unfold SetTable.below.go;rw[if_pos (by decide)]
 show (if (#[j1]:Array Nat).getD 0 j<j then SetTable.below.go #[j1] j 0 1 1 else SetTable.below.go #[j1] j 0 0 0)=_;have e:(#[j1]:Array Nat).getD 0 j=j1:=rfl;rw[e];by_cases h:j1<j
 . rw[if_pos h,if_pos h];rfl
 . rw[if_neg h,if_neg h];rfl
theorem oH{t:SetTable}{j1:Nat}(hp:t.place = #[j1])(hd:t.dummies = #[])(j:Nat):t.slot j=if j=j1 then .live 0 else .empty:=by
 unfold SetTable.slot;rw[hp,hd,oG];by_cases h:j=j1
 . subst h;rw[if_pos rfl,if_neg (aJ0 _)];simp
 . rw[if_neg h];by_cases h2:j1<j
   . rw[if_pos h2];rfl
   . rw[if_neg h2];have:((#[j1]:Array Nat)[0]?==some j)=false:=by simp;exact λe=>h e.symm
     simp only[this,aMA,aLI];rfl
def gO(t:SetTable)(j1:Nat):Nat->SetTable.Probe->Prop
 | 0,p=>p.j≠j1
 | g+1,p=>p.j≠j1\/gO t j1 g (t.advance p)
theorem adv7{t:SetTable}(hm:t.mask=7){p:SetTable.Probe}(h0:p.more=0):t.advance p={ p with j:=(p.i * 5+1+p.perturb / 32) % 8,more:=0,i:=(p.i * 5+1+p.perturb / 32) % 8,perturb:=p.perturb / 32 }:=by
 unfold SetTable.advance SetTable.leap SetTable.runEnd;rw[h0,hm];simp only[aJ0,gt_iff_lt,aLI];have:¬ (p.i * 5+1+p.perturb / 32) % (7+1)+9<=7:=by omega
 rw[if_neg this,Nat.sub_self]
theorem uC{t:SetTable}(hm:t.mask=7)(j1:Nat):∀ (g:Nat) (p:SetTable.Probe),p.more=0->p.j=p.i->p.perturb<32 ^ g->p.i<8->gO t j1 (g+1) p
 | 0,p,h0,hj,hp,h8=>by
  by_cases e:p.j=j1
  . right;show (t.advance p).j≠j1;rw[adv7 hm h0];show (p.i * 5+1+p.perturb / 32) % 8≠j1;have:p.perturb=0:=by simpa using hp
    rw[this];omega
  . left;exact e
 | g+1,p,h0,hj,hp,h8=>by
  right;rw[adv7 hm h0];refine uC hm j1 g _ rfl rfl ?_ ?_
  . show p.perturb / 32<32 ^ g;rw[Nat.pow_succ] at hp;exact Nat.div_lt_of_lt_mul (by rw[Nat.mul_comm];exact hp)
  . show (p.i * 5+1+p.perturb / 32) % 8<8;omega
theorem aFE{t:SetTable}(hm:t.mask=7)(j1:Nat)(h:Int):gO t j1 14 (t.probeStart h):=by
 refine uC hm j1 13 _ ?_ rfl ?_ ?_
 . show SetTable.runEnd t.mask (SetTable.bits h % (t.mask+1))-SetTable.bits h % (t.mask+1)=0;unfold SetTable.runEnd;rw[hm,if_neg (by omega),Nat.sub_self]
 . show SetTable.bits h<32 ^ 13;have:SetTable.bits h<2 ^ 64:=by unfold SetTable.bits;omega
   exact aJZ this (by decide)
 . show SetTable.bits h % (t.mask+1)<8;rw[hm];omega
theorem go1{t:SetTable}{j1:Nat}(hm:t.mask=7)(hp:t.place = #[j1])(hd:t.dummies = #[])(f:Nat->Int)(h:Int):∀ (n g:Nat) (p:SetTable.Probe),p.dummy=none->gO t j1 g p->g<n->(∃ j,SetTable.probe.go t f h n p=some (.empty j none)/\j≠j1)\/(f 0==h)=true/\∃ next g',g'<g/\next.dummy=none/\gO t j1 g' next/\SetTable.probe.go t f h n p=some (.candidate j1 0 next)
 | 0,g,p,_,_,h2=>by omega
 | n+1,g,p,h0,h1,h2=>by
  unfold SetTable.probe.go;rw[oH hp hd];by_cases e:p.j=j1
  . rw[if_pos e];cases g with
    | zero=>exact absurd e h1
    | succ g =>
     have h1:gO t j1 g (t.advance p):=h1.resolve_left λz=>z e;have da:(t.advance p).dummy=none:=by
      unfold SetTable.advance;split
      . exact h0
      . exact h0
     dsimp only;by_cases hf:(f 0==h)=true
     . rw[if_pos hf];exact .inr ⟨hf,_,g,aKW g,da,h1,by rw[e]⟩
     . rw[if_neg hf];rcases go1 hm hp hd f h n g _ da h1 (by omega) with q | ⟨q,_⟩
       . exact .inl q
       . exact absurd q hf
  . rw[if_neg e];exact .inl ⟨p.j,by dsimp only;rw[h0],e⟩
section
variable {prog:Program}{w:World}{A:Around}{E:VSP}{s:Shared}
theorem uD(k:N):∀ {n:Nat} {v:Value} {Q:Bool->Shared->Prop},IsN s.heap k v->(∀ b,Q b s)->wpAny (model prog w) A (hashByValue n v) Q E s:=by
 induction k using N.ind with
 | hi m=>intro n v Q hk h;rw[IsN] at hk;obtain ⟨t,rfl⟩:=hk;cases n <;> exact aKH (h _)
 | hs x=>intro n v Q hk h;rw[IsN] at hk;obtain ⟨⟨t,rfl⟩,_⟩:=hk;cases n <;> exact aKH (h _)
 | ht xs ih =>
  intro n v Q hk h;rw[IsN] at hk;obtain ⟨a,o,items,c,rfl,ho,hc,hd,hi⟩:=hk;cases n with
  | zero=>exact aKH (h _)
  | succ n =>
   have hT:s.TypeIs (.ref a) "tuple" := ⟨o,ho,hc⟩;unfold hashByValue;refine aKI (aL4 hT F.slot_tuple_hash.lookup ?_);dsimp only;unfold seqItems?;refine aKI (aKI (aKJ ho ?_));rw[hd];refine aKH ?_;refine aKI ?_;show wpAny _ _ (forIn items _ _) _ _ s;rw[<- aL5];refine aL6 _ (λaL r s'=>s'=s/\∀ v∈aL,∃ x∈xs,IsN s.heap x v) _ ?_ ?_ _ _ ⟨rfl,hi.mem⟩
   . rintro v aL r s' ⟨rfl,hall⟩;obtain ⟨x,hx,hv⟩:=hall v mcs;refine aKI (ih x hx (n:=n) hv λb=>?_);cases b with
     | true=>exact aKH ⟨rfl,λu hu=>hall u (mcm hu)⟩
     | false=>exact aKH (by first | exact ⟨rfl,λu hu=>hall u (mcm hu)⟩ | exact aKH (h _))
   . rintro ⟨r1,r2⟩ s' ⟨rfl,_⟩;cases r1 with
     | none=>exact aKH (h _)
     | some b=>exact aKH (h _)
theorem uE(k:N):∀ {n:Nat} {v:Value} {Q:Bool->Shared->Prop},k.dp<=n->IsN s.heap k v->Q false s->wpAny (model prog w) A (ofAClassStatement n v) Q E s:=by
 induction k using N.ind with
 | hi m=>intro n v Q hn hk h;rw[IsN] at hk;obtain ⟨t,rfl⟩:=hk;cases n <;> exact aKH h
 | hs x=>intro n v Q hn hk h;rw[IsN] at hk;obtain ⟨⟨t,rfl⟩,_⟩:=hk;cases n <;> exact aKH h
 | ht xs ih =>
  intro n v Q hn hk h;rw[IsN] at hk;obtain ⟨a,o,items,c,rfl,ho,hc,hd,hi⟩:=hk;rw[N.dp] at hn;cases n with
  | zero=>omega
  | succ n =>
   have hT:s.TypeIs (.ref a) "tuple" := ⟨o,ho,hc⟩;unfold ofAClassStatement;refine aKI (aLQ hT ?_);dsimp only;rw[if_pos (by decide)]
   refine aKI (aKH ?_);simp only[aL9,aMA,aLI];unfold seqItems?;refine aKI (aKI (aKJ ho ?_));rw[hd];refine aKH ?_;dsimp only;refine aKI ?_;rw[<- aL5];refine aL6 _ (λaL r s'=>r.1=none/\s'=s/\∀ v∈aL,∃ x∈xs,IsN s.heap x v) _ ?_ ?_ _ _ ⟨rfl,rfl,hi.mem⟩
   . rintro v aL r s' ⟨hr,rfl,hall⟩;obtain ⟨x,hx,hv⟩:=hall v mcs;refine aKI (ih x hx (n:=n) (by have:=N.dp_mem hx;omega) hv ?_)
     simp only[aMA,aLI];exact aKH ⟨rfl,rfl,λu hu'=>hall u (mcm hu')⟩
   . rintro ⟨r1,r2⟩ s' ⟨hr,rfl,_⟩;simp only at hr;subst hr;exact aKH h
theorem aFF{x y:N}{b c:Addr}{Q:Bool->Shared->Prop}(dx:x.dp<=8)(dy:y.dp<=8)(hx:IsN s.heap x (.ref b))(hy:IsN s.heap y (.ref c))(q:Q false s):wpAny (model prog w) A (searchCouldBeSeen (.ref b) [.ref c]) Q E s:=by
 unfold searchCouldBeSeen;refine aKI ?_;refine aL6 _ (λaL r s'=>r.1=none/\s'=s/\(aL=[]\/aL=[.ref c])) _ ?_ ?_ _ _ ⟨rfl,rfl,.inr rfl⟩
 . rintro v aL r s' ⟨hr,rfl,hl⟩;rcases hl with hl | hl
   . cases hl
   . cases hl;dsimp only;by_cases e:(b==c||carriedByValue (.ref b)&&carriedByValue (.ref c))=true
     . rw[if_pos e];exact aKH ⟨rfl,rfl,by first | exact .inl rfl | simp⟩
     . rw[if_neg e];refine aKI (m5 x dx hx ?_);simp only[aL9,aMA,aLI];refine aKI (m5 y dy hy ?_);simp only[aL9,aMA,aLI];refine aKI (uE x dx hx ?_);simp only[aMA,aLI];refine aKI (uE y dy hy ?_);simp only[aMA,aLI];exact aKH ⟨rfl,rfl,by first | exact .inl rfl | simp⟩
 . rintro ⟨r1,r2⟩ s' ⟨hr,rfl,_⟩;simp only at hr;subst hr;exact aKH q
end
def bP(w:World)(p:N×Addr):Int×Value:=(aW w p.1,.ref p.2)
def cG(h:Heap)(p:N×Addr):Prop:=IsN h p.1 (.ref p.2)/\p.1.dp<=8
def bJ(w:World)(h:Heap)(a:Addr)(ps:List (N×Addr)):Prop:=∃ o es ep t,h.get? a=some o/\o.ExactSet/\o.data=.set es ep t/\es.toList=ps.map (bP w)/\ps.length<=2/\t.fits es.size=true/\t.led = !cT w/\PlOk t
def gP(w:World)(h:Heap)(a:Addr)(p:N×Addr):Prop:=∃ o ep t,h.get? a=some o/\o.ExactSet/\o.data=.set #[bP w p] ep t/\t.mask=7/\t.dummies = #[]/\t.place = #[SetTable.bits (aW w p.1) % 8]/\t.led = !cT w
section
variable {prog:Program}{w:World}{A:Around}{E:VSP}{s:Shared}{a b c:Addr}{x y:N}
theorem uF{t:SetTable}{p:N×Addr}(hm:t.mask=7)(hd:t.dummies = #[])(hp:t.place = #[SetTable.bits (aW w p.1) % 8]):t.fits (#[bP w p]:Array (Int×Value)).size=true:=by unfold SetTable.fits SetTable.fill;rw[hm,hd,hp];rfl
theorem srch0{Q:SetFound->Shared->Prop}{o:Obj}{ep:Nat}{t:SetTable}{h:Int}(ho:s.heap.get? a=some o)(hd:o.data=.set #[] ep t)(hm:t.mask=7)(hp:t.place = #[])(hdu:t.dummies = #[])(q:Q (.free (SetTable.bits h % 8) false) s):wpAny (model prog w) A (setSearch a (.ref b) h (adding:=true)) Q E s:=by
 have hf:t.fits (#[]:Array (Int×Value)).size=true:=by unfold SetTable.fits SetTable.fill;rw[hm,hp,hdu];rfl
 unfold setSearch setSearchFrom;refine aKI (aNL ho hd hf ?_);dsimp only;have gw:t.gaveWay=false:=by unfold SetTable.gaveWay;rw[hm];rfl
 rw[gw];simp only[aMA,aLI];have e:∀ f:Nat->Int,t.probe f h (t.probeStart h)=some (.empty (SetTable.bits h % 8) none):=λf=>by unfold SetTable.probe;rw[hm];show SetTable.probe.go t f h (219+1) _=_;unfold SetTable.probe.go;rw[slot0 hp hdu];show some (SetTable.Met.empty (SetTable.bits h % (t.mask+1)) none)=_;rw[hm]
 rw[aLW,e];exact aKH q
theorem srch1{Q:SetFound->Shared->Prop}{o:Obj}{ep:Nat}{t:SetTable}{j1:Nat}(hu:A.units+8<cLine)(ho:s.heap.get? a=some o)(hd:o.data=.set #[bP w (y,c)] ep t)(hm:t.mask=7)(hp:t.place = #[j1])(hdu:t.dummies = #[])(kx:cG s.heap (x,b))(ky:cG s.heap (y,c))(q1:x=y->Q (.there none) s)(q2:∀ j,j≠j1->x≠y->Q (.free j false) s)(first:SetTable.bits (aW w y) % 8=j1):∀ (g fuel:Nat) (stand:Option SetTable.Probe),(stand.getD (t.probeStart (aW w x))).dummy=none->gO t j1 g (stand.getD (t.probeStart (aW w x)))->g<200->g<fuel->(stand=none\/x≠y)->wpAny (model prog w) A (setSearchFrom a (.ref b) (aW w x) true fuel stand) Q E s:=by
 intro g
 induction g using Nat.strongRecOn with
 | ind g ih =>
 intro fuel stand d0 lv g2 gf once;cases fuel with
 | zero=>omega
 | succ fuel =>
 have hf:t.fits (#[bP w (y,c)]:Array (Int×Value)).size=true:=by unfold SetTable.fits SetTable.fill;rw[hm,hp,hdu];rfl
 unfold setSearchFrom;refine aKI (aNL ho hd hf ?_);dsimp only;have gw:t.gaveWay=false:=by unfold SetTable.gaveWay;rw[hm];rfl
 rw[gw];simp only[aMA,aLI];have f0:∀ f:Nat->Int,t.probe f (aW w x) (stand.getD (t.probeStart (aW w x)))=SetTable.probe.go t f (aW w x) 220 (stand.getD (t.probeStart (aW w x))):=λf=>by unfold SetTable.probe;rw[hm];rfl
 rw[f0];rcases go1 hm hp hdu _ (aW w x) 220 g _ d0 lv (by omega) with ⟨j,e,nj⟩ | ⟨hq,next,g',l1,l2,l3,e⟩
 . rw[e];refine aKH (q2 j nj λexy=>?_);rcases once with once | once
   . subst once;subst exy;rw[aLW] at e;have:SetTable.probe.go t _ (aW w x) (219+1) (t.probeStart (aW w x))=some (.empty j none):=e;unfold SetTable.probe.go at this;have ej:(t.probeStart (aW w x)).j=j1:=by show SetTable.bits (aW w x) % (t.mask+1)=j1;rw[hm];exact first
     rw[oH hp hdu,ej,if_pos rfl] at this;dsimp only at this;rw[if_pos (by first | rfl | exact aMT _)] at this
     cases this
   . exact once exy
 . rw[e];dsimp only;have seen:∀ {R:Bool->Shared->Prop} {E':VSP},R false s->wpAny (model prog w) A (searchCouldBeSeen (.ref b) (((#[bP w (y,c)]:Array (Int×Value)).filter (·.1==aW w x)).toList.map (·.2))) R E' s:=λ{R E'} r=>by
     have ef:((#[bP w (y,c)]:Array (Int×Value)).filter (·.1==aW w x)).toList.map (·.2)=[.ref c]:=by have hq:(aW w y==aW w x)=true:=hq;simp[bP,hq]
     rw[ef];exact aFF kx.2 ky.2 kx.1 ky.1 r
   refine aNS (λ_=>aKI (seen ?_)) (λ_=>?_)
   all_goals
    first | rw[if_neg aKT] | skip
    show wpAny _ _ (holding [Value.ref c] (eqBool (.ref c) (.ref b)) >>= _) _ _ _;refine aKI (aLM (mZ (x:=y) (y:=x) (by have:=ky.2;dsimp only at this;omega) ky.1 kx.1 (aKI (aNL ho hd hf ?_))))
    dsimp only;by_cases exy:y=x
    . rw[if_pos (by rw[aLZ exy];rfl)]
      exact aKH (q1 exy.symm)
    . rw[if_neg (by rw[aJU exy];decide)]
      have em:t.sameMemory t.moves t.mask=some true:=by unfold SetTable.sameMemory;rw[if_pos (aMT _)]
      rw[em];dsimp only;rw[if_pos rfl,oH hp hdu,if_pos rfl];show wpAny _ _ (isSame (.ref c) (.ref c) >>= _) _ _ _;refine aKI (wpAny_isSame_ref_self (aKI (aKH ?_)));rw[if_pos rfl];dsimp only;rw[if_neg (by rw[aJU exy];decide)]
      exact ih g' l1 fuel (some next) l2 l3 (by omega) (by omega) (.inr λz=>exy z.symm)
theorem uG{o:Obj}{es es':Array (Int×Value)}{ep:Nat}{t t':SetTable}{h:Heap}(ho:h.get? a=some o)(hd:o.data=.set es ep t):(h.update a (Obj.putSet es' t')).get? a=some { o with data:=.set es' (ep+1) t' }:=by obtain ⟨oc,od,odata,os⟩:=o;dsimp only at hd;subst hd;exact aLT (Obj.putSet es' t') ho rfl
theorem aFG{Q:Bool->Shared->Prop}(hu:A.units+8<cLine)(g0:s.heap.get? a=some (sob w))(kx:cG s.heap (x,b))(q:∀ h',Heap.SameBut a s.heap h'->gP w h' a (x,b)->Q true { s with heap:=h',toks:=s.toks+x.dr }):wpAny (model prog w) A (setAdd a (.ref b)) Q E s:=by
 unfold setAdd;refine aLM (aKI (mY x (by have:=kx.2;dsimp only at this;omega) kx.1 ?_))
 unfold setAddHashed setAddHashedIn;refine aLM (aKI (aNL (s:={ s with toks:=s.toks+x.dr }) g0 rfl rfl ?_))
 dsimp only;rw[if_neg (λz=>by cases z)]
 refine aKI (srch0 (s:={ s with toks:=s.toks+x.dr }) g0 rfl rfl rfl rfl ?_)
 dsimp only;refine aKI (aNL (s:={ s with toks:=s.toks+x.dr }) g0 rfl rfl ?_)
 dsimp only;have hb:∀ {R:Bool->Shared->Prop} {E':VSP},(∀ v,R v { s with toks:=s.toks+x.dr })->wpAny (model prog w) A (if ((SetTable.fresh 0 0 (!cT w)).put (SetTable.bits (aW w x) % 8)).1.plain=true then hashByValue 8 (.ref b) else pure true) R E' { s with toks:=s.toks+x.dr }:=λ{R E'} r=>by
  split
  . exact uD x kx.1 r
  . exact aKH (r _)
 refine aKI (hb λv=>?_);refine aKI (wpAny_storeSet_of (s:={ s with toks:=s.toks+x.dr }) g0 rfl ?_ (by show 1<=_;decide))
 have fin:∀ t':SetTable,t'.mask=7->t'.dummies = #[]->t'.place = #[SetTable.bits (aW w x) % 8]->t'.led = !cT w->Q true { s with heap:=s.heap.update a (Obj.putSet (SetTable.insertAt #[] 0 (aW w x,Value.ref b)) t'),toks:=s.toks+x.dr }:=λt' h1 h2 h3 h4 =>
  q _ (aNF ..) ⟨_,_,t',uG g0 rfl,⟨rfl,rfl,rfl⟩,rfl,h1,h2,h3,h4⟩
 cases v with
 | true=>exact aKH (fin _ rfl rfl rfl rfl)
 | false=>exact aKH (fin _ rfl rfl rfl rfl)
theorem ins1{α:Type}(e f:α)(p:Nat)(hp:p<=1):(SetTable.insertAt #[e] p f).toList.Perm [e,f]:=by
 have:p=0\/p=1:=by omega
 rcases this with rfl | rfl
 . exact List.Perm.swap _ _ _
 . exact aN4 _
theorem gP.sn{h:Heap}{p:N×Addr}(X:gP w h a p):bJ w h a [p]:=by obtain ⟨o,ep,t,ho,hex,hd,hm,hdu,hp,hl⟩:=X;exact ⟨o,_,ep,t,ho,hex,hd,rfl,aMW 1,uF hm hdu hp,hl,.inr ⟨hdu,by rw[hp];exact aN5 _ _⟩⟩
theorem gP.kept{h h':Heap}{p:N×Addr}(X:gP w h a p)(k:∀ o,h.get? a=some o->h'.get? a=some o):gP w h' a p:=by obtain ⟨o,ep,t,ho,r⟩:=X;exact ⟨o,ep,t,k o ho,r⟩
theorem bJ.kept{h h':Heap}{ps:List (N×Addr)}(X:bJ w h a ps)(k:∀ o,h.get? a=some o->h'.get? a=some o):bJ w h' a ps:=by obtain ⟨o,es,ep,t,ho,r⟩:=X;exact ⟨o,es,ep,t,k o ho,r⟩
theorem aFH{Q:Bool->Shared->Prop}(hu:A.units+8<cLine)(X:gP w s.heap a (y,c))(kx:cG s.heap (x,b))(ky:cG s.heap (y,c))(q:∀ v h' ps,Heap.SameBut a s.heap h'->bJ w h' a ps->(if x=y then ps=[(y,c)] else ps.Perm [(y,c),(x,b)])->Q v { s with heap:=h',toks:=s.toks+x.dr }):wpAny (model prog w) A (setAdd a (.ref b)) Q E s:=by
 obtain ⟨o,ep,t,ho,hex,hd,hm,hdu,hp,hl⟩:=id X;have hf:=uF (w:=w) (p:=(y,c)) hm hdu hp;unfold setAdd;refine aLM (aKI (mY x (by have:=kx.2;dsimp only at this;omega) kx.1 ?_))
 unfold setAddHashed setAddHashedIn;refine aLM (aKI (aNL (s:={ s with toks:=s.toks+x.dr }) ho hd hf ?_))
 dsimp only;rw[if_neg (λz=>by cases z)]
 unfold setSearch;refine aKI (srch1 (s:={ s with toks:=s.toks+x.dr }) hu ho hd hm hp hdu kx ky (λexy=>?_) (λj nj nxy=>?_) rfl 14 100000 none rfl (aFE hm _ _) (by decide) (by decide) (.inl rfl))
 . dsimp only;exact aKH (q false s.heap [(y,c)] (Heap.SameBut.refl a s.heap) X.sn (by rw[if_pos exy]))
 . dsimp only;refine aKI (aNL (s:={ s with toks:=s.toks+x.dr }) ho hd hf ?_)
   dsimp only
   suffices key : ∀ v : Bool, wpAny (model prog w) A (do
       storeSet a (SetTable.insertAt #[bP w (y,c)] (t.put j).2 (aW w x,Value.ref b)) (if v=true then (t.put j).1 else { (t.put j).1 with plain:=false })
       if (!false && (if v = true then (t.put j).1 else { (t.put j).1 with plain := false }).tooFull) = true then do
           setRelay a (SetTable.grown ((#[bP w (y,c)]:Array (Int×Value)).size+1))
           pure true
        else pure true) Q E { s with toks:=s.toks+x.dr } from
    aNS (λ_=>aKI (uD x kx.1 key)) (λ_=>aKI (aKH (key true)))
   intro v;have rs:dD t.place:=by rw[hp];exact aN5 _ _
   have hn:t.place[SetTable.below t.place j]?≠some j:=by
    rw[hp,oG];split
    . simp
    . intro z;have z:SetTable.bits (aW w y) % 8=j:=by simpa using z
      exact nj z.symm
   obtain ⟨k1,k2⟩:=aED hdu rs hn;have pb:(t.put j).2<=1:=by show SetTable.below t.place j<=1;rw[hp,oG];split <;> decide
   have pe:(SetTable.insertAt #[bP w (y,c)] (t.put j).2 (aW w x,Value.ref b)).toList.Perm [bP w (y,c),bP w (x,b)]:=ins1 _ _ _ pb;have sz:(SetTable.insertAt #[bP w (y,c)] (t.put j).2 (aW w x,Value.ref b)).size=2:=by rw[<- aKG,pe.length_eq];rfl
   have pz:(t.put j).1.place.size=2:=by show (SetTable.insertAt t.place (SetTable.below t.place j) j).size=2;have:=ins1 (SetTable.bits (aW w y) % 8) j (SetTable.below t.place j) pb;rw[hp] at this ⊢;rw[<- aKG,this.length_eq];rfl
   have hl2:(t.put j).1.led = !cT w:=hl;have hm2:(t.put j).1.mask=7:=hm;generalize (t.put j).1=t1 at *;generalize SetTable.insertAt #[bP w (y,c)] (t.put j).2 (aW w x,Value.ref b)=es1 at *;refine aKI (wpAny_storeSet_of (s:={ s with toks:=s.toks+x.dr }) ho hd ?_ (by rw[sz];decide))
   obtain ⟨ps,pp,ee⟩:∃ ps:List (N×Addr),ps.Perm [(y,c),(x,b)]/\es1.toList=ps.map (bP w):=by
    have l2:es1.toList.length=2:=by rw[aKG];exact sz
    match es1.toList,l2,pe with
    | [u,v],_,pe =>
     rcases aJ7.mp (pe.mem_iff.mp (show u∈[u,v] from mcs)) with e | e
     . subst e;have:=pe.cons_inv;have e2:v=bP w (x,b):=by simpa using this.mem_iff.mp (aMZ.mpr rfl)
       subst e2;exact ⟨_,.refl _,rfl⟩
     . have e:u=bP w (x,b):=by simpa using e
       subst e;have:=(pe.trans (List.Perm.swap _ _ _)).cons_inv;have e2:v=bP w (y,c):=by simpa using this.mem_iff.mp (aMZ.mpr rfl)
       subst e2;exact ⟨[(x,b),(y,c)],List.Perm.swap _ _ _,rfl⟩
   have fin:∀ t2:SetTable,t2.mask=7->t2.dummies = #[]->dD t2.place->t2.place.size=2->t2.led = !cT w->Q true { s with heap:=s.heap.update a (Obj.putSet es1 t2),toks:=s.toks+x.dr }:=λt2 h1 h2 h3 h4 h5 =>
    q true _ ps (aNF ..) ⟨_,es1,_,t2,uG ho hd,hex,rfl,ee,by rw[pp.length_eq];exact aKL 2,by unfold SetTable.fits SetTable.fill;rw[h1,h2,h4,sz];rfl,h5,.inr ⟨h2,h3⟩⟩ (by rw[if_neg nxy];exact pp)
   have tf:∀ t2:SetTable,t2.mask=7->t2.dummies = #[]->t2.place.size=2->(!false&&t2.tooFull)=false:=λt2 h1 h2 h4=>by unfold SetTable.tooFull SetTable.fill;rw[h1,h2,h4];rfl
   cases v with
   | true =>
    have e:(if true=true then t1 else { t1 with plain:=false })=t1:=rfl
    rw[e,tf t1 hm2 k1 pz];exact aKH (fin t1 hm2 k1 k2 pz hl2)
   | false =>
    have e:(if false=true then t1 else { t1 with plain:=false })={ t1 with plain:=false }:=rfl
    rw[e,tf { t1 with plain:=false } hm2 k1 pz]
    exact aKH (fin { t1 with plain:=false } hm2 k1 k2 pz hl2)
end
theorem jY{α β:Type}{f:α->β}:∀ {l:List β} {ps:List α},l.Perm (ps.map f)->∃ qs:List α,qs.Perm ps/\l=qs.map f
 | [],ps,h=>by
  have:=h.symm.eq_nil;have e:ps=[]:=by simpa using this
  subst e;exact ⟨[],.refl _,rfl⟩
 | x::l,ps,h=>by obtain ⟨p,hp,rfl⟩:=aOJ.mp (h.mem_iff.mp mcs);obtain ⟨s,t,rfl⟩:=List.append_of_mem hp;have pm:(s++p::t).Perm (p::(s++t)):=List.perm_middle;obtain ⟨qs,q1,q2⟩:=jY ((h.trans (pm.map f)).cons_inv);exact ⟨p::qs,(q1.cons p).trans pm.symm,by rw[q2];rfl⟩
theorem cG.kept{h h':Heap}{p:N×Addr}(k:cG h p)(kp:∀ a o,h.get? a=some o->o.cls=.type "tuple" -> h'.get? a=some o):cG h' p:=⟨IsN.kept _ k.1 kp,k.2⟩
theorem bJ.there{w:World}{h:Heap}{a:Addr}{ps:List (N×Addr)}(x:bJ w h a ps):a<h.objs.size:=by obtain ⟨o,es,ep,t,ho,r⟩:=x;exact aJY ho
theorem bJ.ty{w:World}{s:Shared}{a:Addr}{ps:List (N×Addr)}(x:bJ w s.heap a ps):s.TypeIs (.ref a) "set" := by obtain ⟨o,es,ep,t,ho,hex,r⟩:=x;exact ⟨o,ho,hex.1⟩
def Two(k1 k2:N)(b1 b2:Addr)(ps:List (N×Addr)):Prop:=if k2=k1 then ps=[(k1,b1)] else ps.Perm [(k1,b1),(k2,b2)]
section
variable {prog:Program}{w:World}{A:Around}{E:VSP}{s:Shared}{k1 k2:N}{b1 b2:Addr}
theorem aFI{R:Result->Shared->Prop}{I:Addr}{fp:List Addr}{P:Nat->Value->Prop}{St:Nat->Heap->Prop}(hu:A.units+16<cLine)(W:Walks prog w A.in1 I fp [I] 2 P St)(p1:∀ v,P 0 v->v=.ref b1)(p2:∀ v,P 1 v->v=.ref b2)(S:Addr)(hSf:S∉fp)(hst:St 0 s.heap)(g0:s.heap.get? S=some (sob w))(hI:∀ o,s.heap.get? I=some o->o.cls ≠ .type "tuple")(q1:cG s.heap (k1,b1))(q2:cG s.heap (k2,b2))(hR:∀ h' tk ps,(∀ b o,b≠S->b≠I->s.heap.get? b=some o->h'.get? b=some o)->bJ w h' S ps->Two k1 k2 b1 b2 ps->R (.ok (.ret .none)) { s with heap:=h',toks:=tk }):codeAny (model prog w) A (.builtin "set.update.loop" ⟨[.ref S,.ref I],[]⟩) R s:=by
 have hSw:S∉[I]:=λh=>hSf (W.sub _ h);have hSI:S≠I:=λe=>hSw (by simp[e])
 have tupI:∀ a o,s.heap.get? a=some o->o.cls=.type "tuple" -> a≠I:=λa o e c z=>hI o (by rw[<- z];exact e) c
 have tupS:∀ a o,s.heap.get? a=some o->o.cls=.type "tuple" -> a≠S:=λa o e c z=>by
  rw[z,g0] at e;cases e;have c:Value.type "set" = .type "tuple" := c;injection c with c
  exact absurd c (by decide)
 have hu1:A.in1.units+8<cLine:=by show A.units+1+8<_;omega
 refine aM7 nM ?_;rw[aM8 jR _];show wpAny _ A.in1 (pyNext (.ref I) >>= _) _ _ s;refine aKI (W.item 0 s _ _ (by decide) hst λv h1 tk hP1 hst1 hk1=>?_)
 cases p1 v hP1;have c1:∀ a o,s.heap.get? a=some o->o.cls=.type "tuple" -> h1.get? a=some o:=λa o e c=>hk1 a o (by simpa using tupI a o e c) e
 show wpAny _ A.in1 (holding [.ref b1] (setAdd S (.ref b1)) >>= _) _ _ _;refine aKI (aLM (aFG (s:={ s with heap:=h1,toks:=tk }) hu1 (hk1 S _ hSw g0) (q1.kept c1) λh2 sb X2=>?_))
 have c2:∀ a o,s.heap.get? a=some o->o.cls=.type "tuple" -> h2.get? a=some o:=λa o e c=>sb.extBut a o (tupS a o e c) (c1 a o e c);refine aKH ⟨aM6 jR _,aM7 nM ?_⟩;rw[aM8 jR _];show wpAny _ A.in1 (pyNext (.ref I) >>= _) _ _ _;refine aKI (W.item 1 _ _ _ (by decide) (W.frame _ _ _ hst1 λb hb o e=>sb.extBut b o (λe'=>hSf (e' ▸ hb)) e) λv h3 tk3 hP3 hst3 hk3=>?_)
 cases p2 v hP3;have c3:∀ a o,s.heap.get? a=some o->o.cls=.type "tuple" -> h3.get? a=some o:=λa o e c=>hk3 a o (by simpa using tupI a o e c) (c2 a o e c)
 show wpAny _ A.in1 (holding [.ref b2] (setAdd S (.ref b2)) >>= _) _ _ _;refine aKI (aLM (aFH hu1 (X2.kept λo e=>hk3 S o hSw e) (q2.kept c3) (q1.kept c3) λv h4 ps sb4 X4 two=>?_));refine aKH ⟨aM6 jR _,aM7 nM ?_⟩;rw[aM8 jR _];show wpAny _ A.in1 (pyNext (.ref I) >>= _) _ _ _;refine aKI (W.done _ _ _ (W.frame _ _ _ hst3 λb hb o e=>sb4.extBut b o (λe'=>hSf (e' ▸ hb)) e) λh5 tk5 hk5=>?_);exact aKH (hR h5 tk5 ps (λb o n1 n2 e=>hk5 b o (by simpa using n2) (sb4.extBut b o n1 (hk3 b o (by simpa using n2) (sb.extBut b o n1 (hk1 b o (by simpa using n2) e))))) (X4.kept λo e=>hk5 S o hSw e) two)
theorem aFJ{a p:Addr}{K:Fin->Shared->Prop}(hu:A.units+16<cLine)(hh:A.handled=none)(g0:s.heap.get? a=some (sob w))(hp:s.heap.IsList p #[.ref b1,.ref b2])(ne:a≠p)(q1:cG s.heap (k1,b1))(q2:cG s.heap (k2,b2))(h:∀ h' tk ps,(∀ b o,b≠a->s.heap.get? b=some o->h'.get? b=some o)->bJ w h' a ps->Two k1 k2 b1 b2 ps->K (.done (.ret .none)) { s with heap:=h',toks:=tk }):wpAny (model prog w) A (Builtin.«set.__init__» ⟨[.ref a,.ref p],[]⟩) K E s:=by
 have ty:s.TypeIs (.ref a) "set" := ⟨_,g0,rfl⟩;have tp:s.TypeIs (.ref p) "list" := hp.typeIs;unfold Builtin.«set.__init__»;refine aKI (m:=noKeywords _ _) (aKH ?_);dsimp only;unfold typeNameOfCut shownTypeOf;refine aKI (aKI (aKI (aLQ ty ?_)));have e1:(Value.type "set" == Value.type "builtin_function_or_method")=false:=by decide
 simp only[e1,aMA,↓reduceIte];refine aKH ?_;refine aKH (aKI (m:=checkCount _ 0 1 _) (aKH (aKI (m:=Builtin.Frozenset.addrOf _) (aKH (aKI ?_)))));unfold setUsed;refine aKI (aNL g0 rfl rfl (aKH ?_));have e2:((SetTable.fresh 0 0 (!cT w)).fill != 0)=false:=rfl;dsimp only;rw[e2];simp only[aMA,↓reduceIte];refine aKI ?_;unfold Builtin.Frozenset.updateFrom Builtin.Frozenset.isAnySet;refine aKI (aEG tp ?_);simp only[aMA,↓reduceIte];refine aKI (aLQ tp ?_);have e3:(Value.type "list" == Value.type "dict")=false:=by decide
 simp only[e3,aMA,↓reduceIte];refine aKI (aKK hp (aKI (wpAny_runValue ?_)));obtain ⟨op,ho,hrest⟩:=id hp;have lp:p<s.heap.objs.size:=aJY ho;have la:a<s.heap.objs.size:=aJY g0;refine aFI (A:=A) (s:={ s with heap:=s.heap.push _ }) hu (Walks.list (A:=A.in1) hh s.heap.objs.size p (aJ1 lp) #[.ref b1,.ref b2]) (λv q=>(aKD q).symm) (λv q=>(aKD q).symm) a
  (by simp only[aJ7,aOK,aM2,not_or];exact ⟨aJ1 la,ne⟩) ⟨⟨_,aJX _ rfl,rfl,rfl⟩,hp.push _⟩ (hps g0) (λo e=>?_) (q1.kept λb o e _=>hps e) (q2.kept λb o e _=>hps e) λh' tk ps kp X m=>?_
 . have e2:some _=some o:=(aJX _ rfl).symm.trans e;cases e2;intro z;injection z with z
   exact absurd z (by decide)
 . exact aKH (aKH (h h' tk ps (λb o hb e=>kp b o hb (aJ1 (aJY e)) (hps e)) X m))
theorem aFK{p:Addr}{Q:VSP}(hu:A.units+64<cLine)(hh:A.handled=none)(hp:s.heap.IsList p #[.ref b1,.ref b2])(q1:cG s.heap (k1,b1))(q2:cG s.heap (k2,b2))(h:∀ h' tk ps,(∀ b o,s.heap.get? b=some o->h'.get? b=some o)->bJ w h' s.heap.objs.size ps->Two k1 k2 b1 b2 ps->Q (.ref s.heap.objs.size) { s with heap:=h',toks:=tk }):wpAny (model prog w) A (call (.type "set") [.ref p]) Q E s:=by
 obtain ⟨c,tl,hmro⟩:=PySem.F.called_set.mro;have hmade:=PySem.F.called_set.made;have hsub:=PySem.F.called_set.sub;have h1:=PySem.F.called_set.notType;have h2:=PySem.F.called_set.canCreate;have hct:=aDO (.ref p);refine wpAny_call (codeAny_of_tree (show wpAny _ _ (callAny (.type "set") _) _ _ _ from aKH ⟨Code.quiet_builtin _ (by decide +kernel),aM7 PySem.F.entry_type_call ?_⟩))
 rw[Around.under_plain (weight_type_call_type "set" [.ref p] []) rfl]
 repeat (any_goals (first | assumption | wp_step))
 refine aL0 (aDQ (E:=E) (.ref p) (Q1:=λr s1=>r=.ref s.heap.objs.size/\s1={ s with heap:=s.heap.push (sob w) }) ⟨rfl,rfl⟩) λr s1 hr=>?_
 cases r with
 | error e=>exact hr
 | ok fl =>
  cases fl with
  | ret obj =>
   obtain ⟨rfl,rfl⟩:=hr;have g0:(s.heap.push (sob w)).get? s.heap.objs.size=some (sob w):=aJX _ rfl;have ty:Shared.TypeIs { s with heap:=s.heap.push (sob w) } (.ref s.heap.objs.size) "set" := ⟨_,g0,rfl⟩
   have hli:=PySem.F.called_set.init.lookup;have hbi:=PySem.F.called_set.init.bind (.ref s.heap.objs.size)
   repeat (any_goals (first | assumption | wp_step))
   refine aL0 (codeAny_call_builtin (R:=wants (λr s2=>r=.none/\Q (.ref s.heap.objs.size) s2) E) PySem.F.called_set.init.plain PySem.F.entry_set_init (aDR ty ?_)) λr2 s2 hr2=>?_
   . refine aFJ (A:=A.in1.in1) (s:={ s with heap:=s.heap.push (sob w) }) (by show A.units+1+1+16<_;omega) hh g0 (hp.push _) (Nat.ne_of_gt (aJY hp.choose_spec.1)) (q1.kept λb o e _=>hps e) (q2.kept λb o e _=>hps e) λh' tk ys kp X m=>⟨rfl,h h' tk ys (λb o e=>kp b o (aJ1 (aJY e)) (hps e)) X m⟩
   . cases r2 with
     | error e=>exact hr2
     | ok f2 =>
      cases f2 with
      | ret r =>
       obtain ⟨rfl,hq⟩:=hr2
       repeat (any_goals (first | assumption | wp_step))
      | _=>exact hr2.elim
  | _=>exact hr.elim
end
theorem oJ{w:World}{l:List (Int×Value)}{ps:List (N×Addr)}(e:l=ps.map (bP w)):l.map (·.2)=ps.map λp=>Value.ref p.2:=by rw[e,aOA];rfl
section
variable {prog:Program}{w:World}{A:Around}{E:VSP}{s:Shared}
variable {I a:Addr}{ep:Nat}{o:Obj}{es:Array (Int×Value)}{t:SetTable}
theorem aFL{xs:List (N×Addr)}{Q:VSP}(hh:A.handled=none)(X:bJ w s.heap a xs)(q:∀ (I:Addr) (h':Heap) d (fp:List Addr) (items:List Value) (ys:List (N×Addr)) (St:Nat->Heap->Prop),Walks prog w A I fp [I] items.length (λi v=>items[i]? = some v) St->St 0 h'->items=List.map (λp:N×Addr=>Value.ref p.2) ys->ys.Perm xs->(∀ b o,s.heap.get? b=some o->h'.get? b=some o)->s.heap.objs.size<=I->(∀ b∈fp,b=a\/s.heap.objs.size<=b)->Q (.ref I) { s with heap:=h',drawn:=d }):wpAny (model prog w) A (pyIter (.ref a)) Q E s:=by
 obtain ⟨o,es,ep,t,ho,hex,hd,he,hb,hf,hl,hp⟩:=id X;have la:=X.there;have hz:es.size=xs.length:=by rw[<- aKG,he,aLA]
 refine aNC X.ty PySem.F.slot_set_iter (aLP PySem.F.slot_set_iter X.ty aDT ?_ (PySem.F.args_set_iter_1 _));unfold Builtin.«frozenset.__iter__»;refine aKI (m:=Builtin.Frozenset.slot0 _ _) (aKH (aKI ?_));unfold Builtin.Frozenset.sizeOf;refine aKI (aNJ ho hd hf (aKH (aKI ?_)));unfold setDrawn;refine aKI (aNL ho hd hf (aKI (gJ (aKH ?_))));dsimp only;have sz:es.size<=sizeLine:=by rw[hz,aKQ];omega
 split
 . rename_i hc;refine aKI (sO (by simp) λd l' pl=>aKI (wpAny_newTuple ?_ (by rw[aLA,pl.length_eq,aNO];exact sz)))
   have ho1:=Heap.get?_push_of_some (seqObj "tuple" (l'.map λ(i:Nat)=>rawInt i).toArray 0) ho;refine aKI (wpAny_setEpoch_of (s:={ s with heap:=s.heap.push (seqObj "tuple" (l'.map λ(i:Nat)=>rawInt i).toArray 0),drawn:=d }) ho1 hd hf (aKI (aLS (aKH ⟨_,rfl, "set_iterator", _,⟨_,aJX _ rfl,rfl⟩,eM.lookup,?_⟩))))
   have ls:(s.heap.push (seqObj "tuple" (l'.map λ(i:Nat)=>rawInt i).toArray 0)).objs.size=s.heap.objs.size+1:=size_push' _ _;have pe:(l'.map λp=>es.getD p (0,.none)).Perm es.toList:=by
    refine (pl.map _).trans (.of_eq ?_);apply List.ext_getElem
    . simp
    . intro k k1 k2;simp at k1 ⊢;rw[aNM k1];rfl
   obtain ⟨ys,py,ey⟩:=jY (he ▸ pe);have W:=aD1 (prog:=prog) (w:=w) (A:=A) (I:=(s.heap.push (seqObj "tuple" (l'.map λ(i:Nat)=>rawInt i).toArray 0)).objs.size) (tp:=s.heap.objs.size) hh (by rw[ls];exact aJ1 (aMU la)) (by rw[ls];exact aJ1 (aKW _)) hd hf rfl pl
   refine q _ _ d _ ((l'.map λp=>es.getD p (0,.none)).map (·.2)) ys _ (nP W (by simp[pl.length_eq]) λi v hv=>?_) ⟨⟨_,aJX _ rfl,rfl,rfl⟩,hps ho1,⟨_,hps (aJX _ rfl),rfl,_,rfl⟩⟩ (oJ ey) py
    (λb o' e=>hps (hps e)) (by rw[ls];exact aMW _) λb hb=>?_
   . obtain ⟨p,hx,e1,e2⟩:=hv;rw[aK7,aK7,e1];simp[aNV,e2]
   . simp only[aJ7,aOK,aM2] at hb;rcases hb with rfl | rfl | rfl
     . right;rw[ls];exact aMW _
     . left;rfl
     . right;exact aKL _
 . rename_i hc;refine aKI (aKH (aKI (wpAny_setEpoch_of ho hd hf (aKI (aLS (aKH ⟨_,rfl, "set_iterator", _,⟨_,aJX _ rfl,rfl⟩,eM.lookup,?_⟩))))));have fpx:∀ b∈[s.heap.objs.size,a],b=a\/s.heap.objs.size<=b:=λb hb=>by
     simp only[aJ7,aOK,aM2] at hb;rcases hb with rfl | rfl
     . right;exact aKL _
     . left;rfl
   cases bt:cT w with
   | true =>
    obtain ⟨ys,py,ey⟩:=jY (he ▸ lD (next:=w.params.setOrder a ep) (xs:=es));have W:=aD0 (prog:=prog) (w:=w) (A:=A) (I:=s.heap.objs.size) hh (aJ1 la) hd hf bt;refine q _ _ s.drawn _ ((pickOrder (w.params.setOrder a ep) es).toList.map (·.2)) ys _ (nP W (by rw[aLA,lD.length_eq,aKG]) λi v hv=>?_) ⟨⟨_,aJX _ rfl,rfl,rfl⟩,hps ho⟩ (oJ ey) py (λb o' e=>hps e) (aKL _) fpx
    rw[<- hv];simp
   | false =>
    have hc':(!t.plain&&decide (es.size > 1))=false:=by have hc:¬ (!cT w&&(!t.plain&&decide (es.size > 1)))=true:=hc;rw[bt] at hc;simpa using hc
    have hzp:t.place.size=es.size:=by unfold SetTable.fits at hf;rw[aLR,aKU] at hf;exact hf.1
    have hr:dD t.place:=by
     rcases hp with hp | hp
     . rw[hp] at hc';have h1:t.place.toList.length<=1:=by rw[aKG,hzp];simpa using hc'
       show t.place.toList.Pairwise _;generalize t.place.toList=l at h1
       match l,h1 with
       | [],_=>exact .nil
       | [x],_=>exact aN5 _ _
     . exact hp.2
    have W:=aEH (prog:=prog) (w:=w) (A:=A) (I:=s.heap.objs.size) hh (aJ1 la) hd hf bt (by rw[hl,bt];rfl) hr hc'
    refine q _ _ s.drawn _ (es.toList.map (·.2)) xs _ (nP W (by simp) λi v hv=>?_) ⟨⟨_,aJX _ rfl,rfl,rfl⟩,hps ho⟩ (oJ he) (.refl _) (λb o' e=>hps e) (aKL _) fpx
    rw[<- hv];simp
end
section
variable {prog:Program}{w:World}{A:Around}{E:VSP}{s:Shared}{a:Addr}{xs:List (N×Addr)}
theorem ext_n{R:Result->Shared->Prop}(hh:A.handled=none)(X:bJ w s.heap a xs)(S:Addr)(hSa:S≠a)(res:Value)(hS:s.heap.get? S=some { cls:=.type "list", data:=.seq #[] })(hR:∀ h' d tk vs ys c,(∀ b o,b≠S->s.heap.get? b=some o->h'.get? b=some o)->h'.get? S=some { cls:=.type "list", dict:=none,data:=.seq vs c,slots:=#[] } -> vs.toList=List.map (λp:N×Addr=>Value.ref p.2) ys->ys.Perm xs->R (.ok (.ret res)) { s with heap:=h',drawn:=d,toks:=tk }):wpAny (model prog w) A.in1 (Builtin.List.listExtendWith (.ref S) (.ref a) res) (λfin s'=>match fin with | .done f=>R (.ok f) s' | .again c'=>c'.quiet=true/\codeAny (model prog w) A c' R s') (λe s'=>R (.error e) s') s:=by
 have hb:xs.length<=sizeLine:=by obtain ⟨o,es,ep,t,ho,hex,hd,he,hb,r⟩:=X;rw[aKQ];omega
 unfold Builtin.List.listExtendWith;refine aKI (aLQ X.ty ?_);have n1:Builtin.List.listSameRef (.ref S) (.ref a)=false:=by simp[Builtin.List.listSameRef,hSa]
 have n2:(Value.type "set" == Value.type "list")=false:=by decide
 have n3:(Value.type "set" == Value.type "tuple")=false:=by decide
 simp only[n1,n2,n3,Bool.or_false,aMA,↓reduceIte];refine aKI (aFL (A:=A.in1) hh X λI h1 d fp items ys St W st sa py kp hI hfp=>?_);have lS:S<s.heap.objs.size:=aJY hS;have hSf:S∉fp:=λhm=>(hfp S hm).elim hSa λh=>absurd lS (aMV.mpr h);have hSI:S≠I:=λe=>absurd lS (aMV.mpr (e ▸ hI));have hil:items.length<=sizeLine:=by rw[sa,aLA,py.length_eq];exact hb
 have hS1 := kp S _ hS; have key : ∀ (h : Heap) (c : Nat), St 0 h → (∀ b o, b ≠ S → s.heap.get? b = some o → h.get? b = some o) → h.get? S = some { cls := .type "list", data := .seq #[] c } →
     codeAny (model prog w) A (.builtin "list.extend.loop" ⟨[.ref S,.ref I,res],[]⟩) R { s with heap:=h,drawn:=d }:=by
  intro h c st' k' hS';refine codeAny_extend_loopS W.toS hil S hSf res items.length 0 _ #[] c rfl (aKX _) st' hS' (ItemsOf.nil _) λs' acc c' hm hS2 hacc=>?_;rw[Moved.eq_with hm];refine hR s'.heap d s'.toks acc ys c' (λb o nb e=>hm.heap b o (λhx=>?_) (k' b o nb e)) hS2 (by rw[aD3 hacc];exact sa) py
  rcases aJ7.mp hx with e' | hx
  . exact nb e'
  . exact absurd (aJY e) (by rw[aMZ.mp hx];exact aMV.mpr hI)
 refine aKI (aLM (aD2 (s:={ s with heap:=h1,drawn:=d }) (bJ.ty (s:={ s with heap:=h1,drawn:=d }) (X.kept λo e=>kp a o e)) ?_))
 refine aNS (λ_=>?_) (λ_=>aKH ⟨aM6 PySem.F.plain_extend_loop _,key h1 0 st (λb o _ e=>kp b o e) hS1⟩);refine aKI (wpAny_rule (aKI ?_));show wpAny _ _ (updateSeq S (·.push Value.none) >>= λ_=>updateSeq S (·.pop)) _ _ { s with heap:=h1,drawn:=d }
 refine aKI (wpAny_updateSeq (s:={ s with heap:=h1,drawn:=d }) hS1 rfl ?_)
 have hS2:=aLT (Obj.mapSeq (·.push Value.none)) hS1 rfl;refine wpAny_updateSeq (hz:=by seq_fits) hS2 rfl ?_
 have hS3:=aLT (Obj.mapSeq (·.pop)) hS2 rfl;have oth:∀ b,b≠S->∀ o,h1.get? b=some o->((h1.update S (Obj.mapSeq (·.push Value.none))).update S (Obj.mapSeq (·.pop))).get? b=some o:=λb nb o e =>
  (aLU _ _ (Ne.symm nb)).trans ((aLU _ _ (Ne.symm nb)).trans e)
 exact aKH ⟨aM6 PySem.F.plain_extend_loop _,key _ _ (W.frame 0 _ _ st λb hb o e=>oth b (λh=>hSf (h ▸ hb)) o e) (λb o nb e=>oth b nb o (kp b o e)) hS3⟩
theorem aFM{R:List Value->Shared->Prop}(hh:A.handled=none)(X:bJ w s.heap a xs)(h:∀ h' d tk vs ys,(∀ b o,s.heap.get? b=some o->h'.get? b=some o)->s.heap.objs.size<h'.objs.size->vs=List.map (λp:N×Addr=>Value.ref p.2) ys->ys.Perm xs->R vs { s with heap:=h',drawn:=d,toks:=tk }):wpAny (model prog w) A (collect (.ref a)) R E s:=by
 have la:=X.there;unfold collect;refine aKI (wpAny_runValue (aM7 PySem.F.entry_proto_collect ?_));rw[aM8 PySem.F.plain_proto_collect _];show wpAny (model prog w) A.in1 (newList [] >>= λl=>again (.builtin "list.__iadd__" ⟨[l,.ref a],[]⟩)) _ _ s;refine aKI (aLS (aKH ⟨aM6 PySem.F.plain_list_iadd _,aM7 PySem.F.entry_list_iadd ?_⟩));rw[aM8 PySem.F.plain_list_iadd _];have g0:(s.heap.push { cls:=.type "list", data:=.seq ([]:List Value).toArray }).get? s.heap.objs.size=some { cls:=.type "list", data:=.seq #[] }:=aJX _ rfl;show wpAny (model prog w) A.in1 (Builtin.List.listExtendWith (.ref s.heap.objs.size) (.ref a) (.ref s.heap.objs.size)) _ _ _;have key:=ext_n (A:=A) (prog:=prog) (s:={ s with heap:=s.heap.push { cls:=.type "list", data:=.seq ([]:List Value).toArray } })
  (R:=λq s'=>∃ h' d tk vs ys c,q=.ok (.ret (.ref s.heap.objs.size))/\s'={ s with heap:=h',drawn:=d,toks:=tk }/\(∀ b o,s.heap.get? b=some o->h'.get? b=some o)/\h'.get? s.heap.objs.size=some { cls:=.type "list", dict:=none,data:=.seq vs c,slots:=#[] }/\vs.toList=List.map (λp:N×Addr=>Value.ref p.2) ys/\ys.Perm xs)
  hh (X.kept λo e=>hps e) s.heap.objs.size (Nat.ne_of_gt la) (.ref s.heap.objs.size) g0
  λh' d tk vs ys c kp gS sa py=>⟨h',d,tk,vs,ys,c,rfl,rfl,λb o e=>kp b o (aJ1 (aJY e)) (hps e),gS,sa,py⟩
 refine aKE key (λf s' x=>?_) λe s' x=>?_
 . cases f with
   | done f=>obtain ⟨h',d,tk,vs,ys,c,e,rfl,kp,gS,sa,py⟩:=x;cases e;show wpAny _ A (load s.heap.objs.size >>= _) _ _ _;exact aKI (aKJ gS (aKH (h h' d tk vs.toList ys kp (aJY gS) sa py)))
   | again c1=>refine ⟨x.1,aL0 x.2 λq s2 y=>?_⟩;obtain ⟨h',d,tk,vs,ys,c,rfl,rfl,kp,gS,sa,py⟩:=y;show wpAny _ A (load s.heap.objs.size >>= _) _ _ _;exact aKI (aKJ gS (aKH (h h' d tk vs.toList ys kp (aJY gS) sa py)))
 . obtain ⟨_,_,_,_,_,_,e',_⟩:=x;cases e'
end
end D3
namespace D3
open PySem PySem.Spec PyProof.Rows L2 PySem.W
theorem uH{h:Heap}:∀ {ys:List (N×Addr)},(∀ p∈ys,cG h p)->dE h (ys.map λp=>Value.ref p.2) (ys.map (·.1))
 | [],_=>⟨rfl,λi hi=>by simp at hi⟩
 | p::ys,k=>by
  obtain ⟨l,r⟩:=uH (ys:=ys) λq hq=>k q (mcm hq);refine ⟨by simp,λi hi=>?_⟩
  cases i with
  | zero=>exact (k p mcs).1
  | succ i=>have:=r i (by simpa using hi);simpa using this
def OkP(ps:List (N×Addr)):Prop:=oC (ps.map (·.1))/\(ps.length<=1\/∀ p∈ps,bY p.1=true)/\ps.length<64
theorem OkP.perm{ps qs:List (N×Addr)}(h:OkP ps)(p:qs.Perm ps):OkP qs:=by have pm:=p.map (·.1);exact ⟨λx hx y hy=>h.1 x (pm.mem_iff.mp hx) y (pm.mem_iff.mp hy),h.2.1.imp (λz=>by rw[p.length_eq];exact z) λz q hq=>z q (p.mem_iff.mp hq),by rw[p.length_eq];exact h.2.2⟩
section
variable {prog:Program}{w:World}{A:Around}{E:VSP}{s:Shared}{a:Addr}{xs:List (N×Addr)}
theorem aFN{Q:VSP}(hu:A.units+64<cLine)(hh:A.handled=none)(X:bJ w s.heap a xs)(kx:∀ p∈xs,cG s.heap p)(ok:OkP xs)(h:∀ h' d tk D e (zs:List (N×Addr)),(∀ b o,s.heap.get? b=some o->h'.get? b=some o)->s.heap.objs.size<=D->h'.get? D=some (seqObj "list" (zs.map λp=>Value.ref p.2).toArray e)->zs.Perm xs->dU (zs.map (·.1))->Q (.ref D) { s with heap:=h',drawn:=d,toks:=tk }):wpAny (model prog w) A (call (.builtin "sorted") [.ref a]) Q E s:=by
 refine aN8 kind_sorted plain_sorted entry_sorted (args_sorted1 (.ref a)) ?_;unfold Builtin.«sorted»;refine aKI (m:=checkCount "sorted" 1 1 [Value.ref a].length) (aKH (aKI (aFM (A:=A.in1) hh X λh1 d tk vs ys kp lh sa py=>?_)));subst sa;have oky:=ok.perm py;have ly:ys.length<64:=oky.2.2;refine aKI (aN7 ?_ (by rw[aLA,aKQ];omega))
 have g1:(h1.push (seqObj "list" (ys.map λp=>Value.ref p.2).toArray 0)).get? h1.objs.size=some (seqObj "list" (ys.map λp=>Value.ref p.2).toArray 0):=aJX _ rfl;have hv:dE (h1.push (seqObj "list" (ys.map λp=>Value.ref p.2).toArray 0)) (ys.map λp=>Value.ref p.2) (ys.map (·.1)):=uH λp hp=>(kx p (py.mem_iff.mp hp)).kept λb o e _=>hps (kp b o e);refine aKI (aLM (aLP slot_list_sort ⟨_,g1,rfl⟩ entry_list_sort (t0 (A:=A.in1.in1) (s:={ s with heap:=h1.push (seqObj "list" (ys.map λp=>Value.ref p.2).toArray 0),drawn:=d,toks:=tk }) (by show A.units+1+1+9<_;omega) g1 hv (λk hk=>?_) oky.1 (oky.2.1.imp (λz=>by rw[aLA];exact z) λz k hk=>?_) (by rw[aLA];exact ly) λp wp=>⟨_,rfl,?_⟩) (args_list_sort _)))
 . obtain ⟨p,hp,rfl⟩:=aOJ.mp hk;exact (kx p (py.mem_iff.mp hp)).2
 . obtain ⟨p,hp,rfl⟩:=aOJ.mp hk;exact z p hp
 . have pl:∀ i∈p,i<ys.length:=λi hi=>by have:=wp.perm.mem_iff.mp hi;rw[aJ3,aLA] at this;exact this
   have e1:(p.map λi=>(ys.map λp=>Value.ref p.2).getD i .none)=(p.map λi=>ys.getD i (.i 0,0)).map λp=>Value.ref p.2:=by rw[aOA];refine aOL λi hi=>?_;simp[pl i hi]
   have e2:(p.map λi=>(ys.map (·.1)).getD i (.i 0))=(p.map λi=>ys.getD i (.i 0,0)).map (·.1):=by rw[aOA];refine aOL λi hi=>?_;simp[pl i hi]
   have zp:(p.map λi=>ys.getD i (.i 0,0)).Perm ys:=by have:=wp.perm.map λi=>ys.getD i (.i 0,0);rw[aLA,lH] at this;exact this
   have up:=wp.up;rw[e2] at up;rw[e1];obtain ⟨e,he⟩:=sortedHeap_at (out:=((p.map λi=>ys.getD i (.i 0,0)).map λp=>Value.ref p.2).toArray) g1;refine aKH ⟨_,rfl,h _ d tk _ e _ (λb o hb=>?_) (aJ5 lh) he (zp.trans py) up⟩;have lb:=aJY (kp b o hb);rw[sortedHeap_old (aJ1 lb) (by rw[size_push'];exact aMU lb)]
   exact hps (kp b o hb)
end
def sn(w:World)(l:Addr)(ps:List (N×Addr)):HO:=.ext λh=>bJ w h l ps
theorem sn_ok{P:Program}{w:World}{H:Hp}{h:Heap}{l:Addr}{ps:List (N×Addr)}(x:bJ w h l ps):bE P w H h l (sn w l ps):=by
 refine ⟨x,?_,λh1 h2 x1 k=>bJ.kept (show bJ w h1 l ps from x1) k⟩
 obtain ⟨o,es,ep,t,ho,r⟩:=x;exact ⟨o,ho⟩
section
variable {X:Cx}
def gQ(K:Fg)(H:Hp)(p:N×Addr):Prop:=NAt K H p.1 (.ref p.2)/\p.1.dp<=8
theorem gQ.at{aA:LAO}{σ:L2.St}{H:Hp}{s:Shared}(I:L2.Inv X aA σ H s){p:N×Addr}(k:gQ X.K H p):cG s.heap p:=⟨NAt.is I _ _ _ k.1 rfl,k.2⟩
def oK(X:Cx):List V->Hp->VK->Prop:=λxs H Q=>∃ (p:Addr) (q1 q2:N×Addr),xs=[.ref p]/\SqL X.K H p [.ref q1.2,.ref q2.2]/\gQ X.K H q1/\gQ X.K H q2/\∀ (l:Addr) (ps:List (N×Addr)),H l=none->Two q1.1 q2.1 q1.2 q2.2 ps->Q (.ref l) (upd H l (sn X.w l ps))
theorem aFO(hu:X.A.units+64<cLine)(hc:X.calm=true):b0 X (.type "set") (oK X):=by
 intro aA s σ H xs us Q I r h;obtain ⟨p,q1,q2,rfl,hp,h1,h2,q⟩:=h;obtain ⟨u,rfl,rx⟩:=dP r;cases rx;obtain ⟨its,rv,pl,_⟩:=I.list hp;have e:its=[.ref q1.2,.ref q2.2]:=by
  cases rv with
  | cons r1 t1 =>
   cases t1 with
   | cons r2 t2=>cases t2;cases r1;cases r2;rfl
 subst e;refine aFK (k1:=q1.1) (k2:=q2.1) (b1:=q1.2) (b2:=q2.2) hu (I.ok.hd hc) pl.isList (h1.at I) (h2.at I) λh' tk ys kp SX m=>?_;exact ⟨.ref s.heap.objs.size,_,I.laid (t':=tk) kp (aKL _) (sn_ok SX),rfl,q _ ys (I.hok.fresh (aKL _)) m⟩
def oM(X:Cx):List V->Hp->VK->Prop:=λxs H Q=>∃ (a:Addr) (ps:List (N×Addr)),xs=[.ref a]/\H a=some (sn X.w a ps)/\(∀ p∈ps,gQ X.K H p)/\OkP ps/\∀ (l:Addr) (zs:List (N×Addr)),H l=none->zs.Perm ps->dU (zs.map (·.1))->Q (.ref l) (upd H l (.lst (zs.map λp=>V.ref p.2)))
theorem uI:∀ (zs:List (N×Addr)),aJ (zs.map λp=>V.ref p.2) (zs.map λp=>Value.ref p.2)
 | []=>.nil
 | p::zs=>.cons rfl (uI zs)
theorem aFP(hu:X.A.units+64<cLine)(hc:X.calm=true):b0 X (.builtin "sorted") (oM X):=by
 intro aA s σ H xs us Q I r h;obtain ⟨a,ps,rfl,ha,kh,ok,q⟩:=h;obtain ⟨u,rfl,rx⟩:=dP r;cases rx;have xa:bJ X.w s.heap a ps:=(I.hok a _ ha).1;refine aFN hu (I.ok.hd hc) xa (λp hp=>(kh p hp).at I) ok λh' d tk D e zs kp hD g py so=>?_;have le:(zs.map λp=>V.ref p.2).length<=sizeLine:=by rw[aLA,py.length_eq,aKQ];have:=ok.2.2;omega
 exact ⟨.ref D,_,Inv.drew (I.laid (t':=tk) kp hD (show bE X.prog X.w _ h' D (.lst (zs.map λp=>V.ref p.2)) from ⟨le,_,e,uI zs,g⟩)) d,rfl,q D zs (I.hok.fresh hD) py so⟩
end
def two(k1 k2:N):List N:=if k2=k1 then [k1] else bH [k1,k2]
def fH(ra:Res):Res:=ra.thn λ_ d=>match d with
 | .lst [d1,d2]=>(match cE d1,cE d2 with
  | some k1,some k2=>if okS [k1,k2]=true then .ok .fr (.lst (nDL (two k1 k2))) else .stuck
  | _,_=>.stuck)
 | _=>.stuck
section
variable {C:Cw}{X:Cx}{ga:Rho->Res}{ea:Expr}{p p1 q1 pos:Pos}
theorem aFQ{σ:L2.St}{H:Hp}{Q:VK}(hK:C.K=X.K)(q:tG C (λρ=>fH (ga ρ)) σ H Q):tCB (oM X) (jA (tCB (oK X) (jA (tG C ga) mV)) mV) σ H Q:=by
 show tG C ga σ H λv H1=>oK X [v] H1 λsv H2=>oM X [sv] H2 Q;rw[aV] at q ⊢;obtain ⟨ρ,F,R,w⟩:=q;refine ⟨ρ,F,R,?_⟩;cases e1:ga ρ with
 | stuck=>simp only[fH,e1,Res.thn_stuck] at w;exact w
 | exc c=>simp only[fH,e1,Res.thn_exc] at w;exact w
 | ok m d =>
  simp only[fH,e1,Res.thn_ok] at w;intro v F1 H1 s1 r1 _;split at w
  . rename_i d1 d2;split at w
    . rename_i k1 k2 ek1 ek2;split at w
      . rename_i hc;obtain ⟨a,xs,rfl,sq,rl⟩:=r1.seqL s1.sub;simp only[aC] at rl;obtain ⟨x1,ys,rfl,rd1,x2,ys2,rfl,rd2,rfl⟩:=rl;obtain ⟨b1,rfl,n1,h1⟩:=lL (H:=H1) (m:=.fz) ek1 rd1;obtain ⟨b2,rfl,n2,h2⟩:=lL (H:=H1) (m:=.fz) ek2 rd2;rw[hK] at sq n1 n2;have kh1:gQ X.K H1 (k1,b1):=⟨NAt.mono s1.sub _ _ n1,h1⟩;have kh2:gQ X.K H1 (k2,b2):=⟨NAt.mono s1.sub _ _ n2,h2⟩;refine ⟨a,(k1,b1),(k2,b2),rfl,sq,kh1,kh2,λA1 ps hA1 tw=>?_⟩;have s2:aH F H F1 (upd H1 A1 (sn X.w A1 ps)):=s1.trans (aH.fresh _ s1.sub hA1);have mem:∀ p∈ps,p=(k1,b1)\/p=(k2,b2):=λp hp=>by
          unfold Two at tw;split at tw
          . subst tw;exact .inl (aMZ.mp hp)
          . simpa using tw.mem_iff.mp hp
        have nat:∀ p∈ps,NAt X.K F1 p.1 (.ref p.2)/\p.1.dp<=8:=λp hp=>by
         rcases mem p hp with rfl | rfl
         . exact ⟨n1,h1⟩
         . exact ⟨n2,h2⟩
        unfold okS at hc;simp only[aLR,aMF,aMD,aN9] at hc;obtain ⟨⟨⟨_,ft⟩,ao⟩,_⟩:=hc;have ft:∀ k∈[k1,k2],bY k=true:=ft.resolve_left (λz=>by simp at z)
        have mk:∀ p∈ps,p.1∈[k1,k2]:=λp hp=>by rcases mem p hp with rfl | rfl <;> simp
        have lp:ps.length<=2:=by
         unfold Two at tw;split at tw
         . subst tw;exact aMW 1
         . rw[tw.length_eq];exact aKL 2
        refine ⟨A1,ps,rfl,bA,λp hp=>⟨NAt.mono s2.sub _ _ (nat p hp).1,(nat p hp).2⟩,⟨λx hx y hy=>?_,.inr λp hp=>ft _ (mk p hp),by omega⟩,λL zs hL pz so=>?_⟩
        . obtain ⟨p,hp,rfl⟩:=aOJ.mp hx;obtain ⟨p',hp',rfl⟩:=aOJ.mp hy;exact ao _ (mk p hp) _ (mk p' hp')
        . have s3:=s2.trans (aH.fresh (.lst (zs.map λp=>V.ref p.2)) s2.sub hL);have ez:zs.map (·.1)=two k1 k2:=by
            unfold Two at tw;unfold two;split at tw
            . rename_i e;rw[if_pos e];subst tw;have:zs=[(k1,b1)]:=pz.eq_singleton;rw[this];rfl
            . rename_i e;rw[if_neg e];exact oB so ((pz.trans tw).map (·.1))
          refine w (.ref L) F1 _ s3 ⟨L,rfl,s2.sub.free hL,_,bA,?_⟩ λ_ a' ea'=>?_
          . rw[hK,<- ez,fV,aOA];exact nS λp hp=>nW _ _ (nat p (pz.mem_iff.mp hp)).1
          . cases ea';cases q:H L with
            | none=>rfl
            | some o=>rw[s2.same _ _ q] at hL;cases hL
      . exact w.elim
    . exact w.elim
  . exact w.elim
theorem aFR(hu:X.A.units+64<cLine)(hc:X.calm=true)(gs:Gl X "sorted")(ns:X.mg "sorted" = none)(gt:Gl X "set")(nt:X.mg "set" = none)(ha:PV C X ea ga)(sa:bX ea=true):PV C X (.Call (.Name "sorted" p) [.Call (.Name "set" p1) [ea] [] q1] [] pos) (λρ=>fH (ga ρ)):=by
 refine PE.imp (qL (aFP hu hc) gs ns sR (kN (qM (aFO hu hc) gt nt aD4 (kN ha kM (cC sa)) (by decide) (by decide) (cC sa) rfl) kM)) λσ H Q w=>?_
 exact aFQ (X:=X) rfl w
end
end D3
set_option genSizeOfSpec false
set_option genInjectivity false
namespace D3
open PySem PySem.Spec PyProof.Rows L2
inductive KC where | s (y:Str) | i (n:Int) | t (tb:List (Str×Str))
 deriving DecidableEq
def KC.d:KC->D | .s y=>.str y | .i n=>.int n | .t _=>.non
inductive GV where | con (c:KC) | fn (n:Nat) | no | cls
 deriving DecidableEq
inductive Bn where | len | isinstance
 deriving DecidableEq
def Bn.name:Bn->Str
 | .len => "len" | .isinstance => "isinstance"
def Bn.f:Bn->List (Md×D)->Option (Md×D)
 | .len=>eG | .isinstance=>dH
def Bn.id:Bn->String
 | .len => "len" | .isinstance => "isinstance"
inductive Ty where | int | bool | str | tuple | list | dict
 deriving DecidableEq
def Ty.f:Ty->List (Md×D)->Option (Md×D)
 | .tuple=>eJ | .list=>gH | .int=>iC | .str=>jN | .dict=>lC | _=>λ_=>none
def Ty.id:Ty->String
 | .int => "int" | .bool => "bool" | .str => "str" | .tuple => "tuple" | .list => "list" | .dict => "dict"
structure WD where
 Φ:Str->List D->Res
 I:Str->Option (List D->Res)
 cl:List CI
 xt:List ((Str×Str)×Bool)
 xi:List ((Str×Str)×Bool)
def WD.xf(W:WD):Str->Str->Option Bool:=λc x=>W.xt.lookup (c,x)
def WD.xg(W:WD):Str->Str->Option Bool:=λc x=>W.xi.lookup (c,x)
inductive E where
 | var (i:Nat) | non | bl (b:Bool) | int (i:Int) | str (x:Str)
 | glob (x:Str) (c:KC) | ty (t:Ty)
 | bin (op:Operator) (a b:E) | cmp (op:CmpOp) (a b:E)
 | andL (es:List E) | orL (es:List E) | not (a:E) | neg (a:E) | tru (a:E) | frz (a:E)
 | ix (a b:E) | slice (a:E) (lo hi:Option E)
 | tup (es:List E) | lst (es:List E)
 | call (f:Str) (n:Nat) (es:List E) | bcall (b:Bn) (es:List E)
 | items (a:E) | rng1 (a:E)
 | comp (elt it:E) (ts:List E) (aD:List Nat) (t:Tg) (n:Nat)
 | tcall (t:Ty) (es:List E)
 | meth (o:E) (m:Str) (es:List E) | mk0 (c:Str)
 | never
 | nnew | nix (a b:E) | nget (a k d:E) | nkeys (a:E) | srtw (a:E) | us2 (a:E)
def noF:Md->D->Md->D->Option (Md×D):=λ_ _ _ _=>none
def a6:Operator->Md->D->Md->D->Option (Md×D)
 | .Add=>orO fAdd k7 | .Sub=>fSub | .Mult=>orO fMul noK | .Mod=>fMod | .FloorDiv=>fDiv | .Pow=>fPow | .BitAnd=>sX | .BitOr=>fBor | .LShift=>fShl | .RShift=>fShr | _=>noF
def bK:CmpOp->Md->D->Md->D->Option (Md×D)
 | .Lt=>orO fLt noK | .LtE=>fLe | .Gt=>fGt | .GtE=>fGe | .Eq=>fEq | .NotEq=>fNe | .In=>orO fIn noK | .NotIn=>orO aB7 noK | .Is=>fIs false | .IsNot=>fIs true
mutual
def evE(W:WD):E->Rho->Res
 | .var i,ρ=>eV ρ i
 | .non,_=>.ok .fz .non
 | .bl b,_=>.ok .fz (.bl b)
 | .int i,_=>.ok .fz (.int i)
 | .str x,_=>.ok .fz (.str x)
 | .glob _ c,_=>.ok .fz c.d
 | .ty t,_=>.ok .fz (.ty t.id)
 | .bin op a b,ρ=>op2 (a6 op) (evE W a ρ) (evE W b ρ)
 | .cmp op a b,ρ=>op2 (bK op) (evE W a ρ) (evE W b ρ)
 | .andL es,ρ=>evA W es ρ
 | .orL es,ρ=>cN W es ρ
 | .not a,ρ=>jD (evE W a ρ)
 | .neg a,ρ=>kY (evE W a ρ)
 | .tru a,ρ=>jC (evE W a ρ)
 | .frz a,ρ=>a5 (evE W a ρ)
 | .ix a b,ρ=>op2 ixD (evE W a ρ) (evE W b ρ)
 | .slice a lo hi,ρ=>slP (evE W a ρ) (evO W lo) (evO W hi) ρ
 | .tup es,ρ=>gC (bI W es ρ)
 | .lst es,ρ=>gD (bI W es ρ)
 | .call f n es,ρ=>bO n (W.Φ f) (bI W es ρ)
 | .bcall b es,ρ=>eF b.f (bI W es ρ)
 | .items a,ρ=>iA (a5 (evE W a ρ))
 | .rng1 a,ρ=>fD (cZ (evE W a ρ) (.ok []))
 | .comp elt it ts aD t n,ρ=>dB (evE W it ρ) ρ aD n (aU t) (λρ=>evF W ts ρ) (λρ=>evE W elt ρ)
 | .tcall t es,ρ=>eF t.f (bI W es ρ)
 | .meth o m es,ρ=>fQ W.cl W.Φ m (evE W o ρ) (bI W es ρ)
 | .mk0 c,_=>.ok .fr (.ins c [])
 | .never,_=>.stuck
 | .nnew,_=>.ok .fr (.dtn [])
 | .nix a b,ρ=>op2 jS (evE W a ρ) (evE W b ρ)
 | .nget a k d,ρ=>jT (evE W a ρ) (evE W k ρ) (evE W d ρ)
 | .nkeys a,ρ=>jX (evE W a ρ)
 | .srtw a,ρ=>eF eX (cZ (evE W a ρ) (.ok []))
 | .us2 a,ρ=>fH (evE W a ρ)
def bI(W:WD):List E->Rho->aT
 | [],_=>.ok []
 | e::es,ρ=>cZ (evE W e ρ) (bI W es ρ)
def evA(W:WD):List E->Rho->Res
 | [],_=>.stuck
 | [e],ρ=>evE W e ρ
 | e::es,ρ=>dQ (evE W e ρ) (evA W es ρ)
def cN(W:WD):List E->Rho->Res
 | [],_=>.stuck
 | [e],ρ=>evE W e ρ
 | e::es,ρ=>orR (evE W e ρ) (cN W es ρ)
def evF(W:WD):List E->Rho->Res
 | [],_=>.ok .fz (.bl true)
 | e::es,ρ=>dQ (evE W e ρ) (evF W es ρ)
def evL(W:WD):List E->List (Rho->Res)
 | []=>[]
 | e::es=>evE W e::evL W es
def evO(W:WD):Option E->Option (Rho->Res)
 | none=>none
 | some e=>some (evE W e)
end
structure MG where
 G:List (Str×GV)
 mk0:List Str
 mki:List (Str×Str×Nat)
 iso:List Str
 xcs:List Str
 xns:List Str
structure MC where
 N:List Str
 sc:Scope
 g:MG
 fn:Bool
 calm:Bool
 rz:Bool
def MC.kind(m:MC)(x:Str):Option NameKind:=m.sc.names.lookup x
def MC.vis(m:MC)(x:Str):Bool:=(m.kind x==some .local||m.kind x==some .cell||m.kind x==some .free)&&x != "__debug__" && x != "__classdict__"
def MC.glob(m:MC)(x:Str)(v:GV):Bool:=m.kind x==some .globalImplicit&&m.g.G.lookup x==some v&&x != "__debug__" && x != "__name__"
def MC.gk(m:MC)(x:Str):Bool:=m.kind x==some .globalImplicit&&x != "__debug__"
def strK(x:Str):Bool:=decide (x.length<=sizeLine)&&PyData.strOk x
def oN:Expr->Bool | .Slice ..=>false | _=>true
def gR:Expr->Bool | .Set ..=>false | _=>true
def uJ:Expr->Bool | .UnaryOp .Not _ _=>false | .BoolOp ..=>false | .IfExp ..=>false | .Compare ..=>false | _=>true
def MC.sub(m:MC)(scope:Scope)(aF tgN:List Str):MC:={ m with N:=aF++tgN,sc:={ scope with names:=jK scope m.sc },fn:=false,rz:=false }
def MC.loc(m:MC)(i:Nat)(x:Str):Bool:=m.N[i]?==some x&&(m.kind x==some .local||(m.fn&&m.kind x==some .cell))
mutual
def mG(m:MC):Tg->Expr->Bool
 | .nm i,e=>match e with | .Name x _=>m.loc i x | _=>false
 | .tp ts,e=>match e with | .Tuple es _ _=>m.calm&&es.all iB&&mGs m ts es | _=>false
def mGs(m:MC):List Tg->List Expr->Bool
 | [],es=>es.isEmpty
 | t::ts,l=>match l with | e::es=>mG m t e&&mGs m ts es | _=>false
end
def eN:Nat->Expr->List Str
 | _,.Name x _=>[x]
 | n+1,.Tuple es _ _=>es.flatMap (eN n)
 | _,_=>[]
def lO(scope sc:Scope)(N:List Str)(aD:List Nat)(aF tgN:List Str):Bool :=
 scope.names.all (λy=>y.2 != .cell)&&scope.kind == .function&&scope.names.all (λy=>y.2 != .local||scope.names.lookup y.1==some .local) &&
 scope.names.all (λy=>y.2 != .free||sc.names.lookup y.1==some .cell||sc.names.lookup y.1==some .free)&&(aF.map some==aD.map λi=>N[i]?)&&aF.all (λy=>scope.names.contains (y,.free)) &&
 aF.all (λy=>(jK scope sc).lookup y==some .cell||(jK scope sc).lookup y==some .free)&&decide (aF++tgN).Nodup
def strK':KC->Bool | .s y=>strK y | .i _=>true | .t _=>false
structure SX(k:Nat)(W:WD)(m:MC)(C:Cw)(X:Cx):Prop where
 hN:X.N=m.N
 hs:X.env.scope=m.sc
 cm:m.calm=true->X.calm=true
 rm:m.calm=true->bV k X.A
 un:X.A.units+64<cLine
 xo:m.calm=true->XOk (CX1 X.prog X.w) (C.at X) X
 xt:nK X.K X.mg W.xf
 xi:nL X.K X.mg W.xg
 xc:∀ c,c∈m.g.xcs->∃ Cc,X.mg c=some (.ref Cc)/\sC X.K Cc
 xn:∀ n,n∈m.g.xns->∃ cv,k9 X.mg n cv
 con:∀ x c,m.g.G.lookup x=some (.con c)->match c with | .s y=>∃ t,X.mg x=some (.str y t) | .i n=>∃ t,X.mg x=some (.int n t) | .t tb=>iD X.w X.K X.mg x tb
 no:∀ x,m.g.G.lookup x=some .no->X.mg x=none
 mk0:∀ c,c∈m.g.mk0->nC X.K X.mg c
 mki:∀ c key n,(c,key,n)∈m.g.mki->∀ Φ,W.I key=some Φ->∃ j,j+1<=k/\InV X.prog X.w X.K X.mg X.base (CX1 X.prog X.w) j c n Φ
 iso:∀ c,c∈m.g.iso->IsV X.K X.mg W.cl c
 fl:∀ i f,i∈W.cl->f∈i.flds->FlV X.K i.name f
 mt:∀ c m key n,CI.meth W.cl c m=some (key,n)->MtV X.prog X.w X.K X.mg X.base (CX1 X.prog X.w) k c m n (W.Φ key)
 fn:∀ x n,m.g.G.lookup x=some (.fn n)->FnV X.prog X.w X.K X.mg X.base (CX1 X.prog X.w) k x n (W.Φ x)
 fnn:m.fn=true->∀ x,X.fn x=true
section
variable {k:Nat}{W:WD}{m:MC}{C:Cw}{X:Cx}{x y:Expr}
theorem SX.gl(S:SX k W m C X){z:Str}{v:GV}(h:m.glob z v=true):Gl X z/\m.g.G.lookup z=some v/\(z==("__debug__" : Str))=false/\z ≠ "__name__" := by
 unfold MC.glob MC.kind at h;simp only[aLR,aKU,aOM] at h;obtain ⟨⟨⟨h1,h2⟩,h3⟩,h4⟩:=h;refine ⟨?_,h2,by simpa using h3,h4⟩
 show X.env.scope.names.lookup z=_;rw[S.hs];exact h1
theorem SX.vis(S:SX k W m C X){z:Str}(h:m.vis z=true):Vis X.env.scope z/\(z==("__debug__" : Str))=false/\(z==("__classdict__" : Str))=false:=by
 unfold MC.vis MC.kind at h;simp only[aLR,aMF,aKU,aOM] at h;obtain ⟨⟨h1,h2⟩,h3⟩:=h;refine ⟨?_,by simpa using h2,by simpa using h3⟩
 unfold Vis;rw[S.hs];rcases h1 with (h1 | h1) | h1
 . exact .inl h1
 . exact .inr (.inl h1)
 . exact .inr (.inr h1)
theorem aFS(b:Bn):bootBuiltins b.name=some (.builtin b.id):=by
 cases b
 . exact aB8
 . exact aB9
theorem aFT(b:Bn){c:Bool}(hc:c=true->X.calm=true)(h:(c||b == .len||b == .isinstance)=true):c7 X (.builtin b.id) b.f:=by
 have hc:(b == .len||b == .isinstance)=false->X.calm=true:=λz=>hc (by cases c with | true=>rfl | false=>rw[Bool.false_or] at h;rw[h] at z;cases z)
 cases b
 . exact aBA
 . exact aBC
theorem aFU{f:Value}:c7 X f (λ_=>none):=⟨λ_ _ _=>False,λ_ _ _ _ _ _ _ _ _ h=>h.elim,λ_ _ _ _ _ _ _ _ _ e _=>by cases e⟩
theorem aFV(t:Ty):c7 X (.type t.id) t.f:=by
 cases t
 . exact aDB
 . exact aFU
 . exact aCU
 . exact aCQ
 . exact aCR
 . exact aDM
theorem uK(t:Ty):bootBuiltins (t.id:Str)=some (.type t.id):=by
 cases t
 . exact aCA
 . exact aCB
 . exact aCC
 . exact aCD
 . exact aCE
 . exact aCF
theorem aFW(op:Operator):(∃ φ,a6 op=φ/\OpD C X (binaryOp op) φ)\/a6 op=noF:=by
 cases op
 case Add=>exact .inl ⟨_,rfl,o_add.or aCP⟩
 case Sub=>exact .inl ⟨_,rfl,aAF⟩
 case Mult=>exact .inl ⟨_,rfl,o_mul.or gG⟩
 case Mod=>exact .inl ⟨_,rfl,aAI⟩
 case FloorDiv=>exact .inl ⟨_,rfl,aAK⟩
 case Pow=>exact .inl ⟨_,rfl,aAL⟩
 case BitAnd=>exact .inl ⟨_,rfl,aD5⟩
 case BitOr=>exact .inl ⟨_,rfl,aD6⟩
 case LShift=>exact .inl ⟨_,rfl,aD7⟩
 case RShift=>exact .inl ⟨_,rfl,aD8⟩
 all_goals exact .inr rfl
theorem jZ:IsB noK:=λ_ _ _ _ _ _ z=>by cases z
theorem aFX(op:CmpOp)(hu:X.A.units+64<cLine):(OpD C X (compareOp op) (bK op)/\IsB (bK op))\/bK op=noF:=by
 cases op
 case Lt=>exact .inl ⟨aAM.or gG,jJ k5 jZ⟩
 case LtE=>exact .inl ⟨aAN,k5⟩
 case Gt=>exact .inl ⟨aAO,k5⟩
 case GtE=>exact .inl ⟨aAP,k5⟩
 case Eq=>exact .inl ⟨o_eq hu,jJ rY jZ⟩
 case NotEq=>exact .inl ⟨o_ne hu,jJ rY jZ⟩
 case In=>exact .inl ⟨aAS.or gG,jJ rX jZ⟩
 case NotIn=>exact .inl ⟨aAT.or gG,jJ rX jZ⟩
 case Is=>exact .inl ⟨aCL,r6⟩
 case IsNot=>exact .inl ⟨aCM,r6⟩
theorem uL{f:Value->Value->Sem Value}:OpD C X f noF:=⟨λ_ _ _ _=>False,λ_ _ _ _ _ _ _ _ _ _ _ _ h=>h.elim,λ_ _ _ _ _ _ _ _ _ _ _ _ _ _ e _=>by cases e⟩
theorem aFY(op:Operator):OpD C X (binaryOp op) (a6 op):=by
 rcases aFW (C:=C) (X:=X) op with ⟨φ,e,h⟩ | e
 . rw[e];exact h
 . rw[e];exact uL
theorem oO(op:CmpOp)(hu:X.A.units+64<cLine):OpD C X (compareOp op) (bK op)/\IsB (bK op):=by
 rcases aFX (C:=C) op hu with h | e
 . exact h
 . rw[e];exact ⟨uL,λ_ _ _ _ _ _ z=>by cases z⟩
theorem uM(op:CmpOp){e:Expr}(h:gR e=true):behindInMarks op e=false:=by cases e <;> first | rfl | cases h
theorem oP{e:Expr}{env:Env}(h:gR e=true):∀ v,foldedSetIterable e env v=pure v:=by intro v;cases e <;> first | rfl | cases h
theorem uN{e:Expr}(h:oN e=true):kT e:=by intro o i;cases e <;> first | rfl | cases h
theorem aFZ{e:Expr}{env:Env}(h:uJ e=true):∀ whole,isTrue e env whole=(do let v <- whole;standAt e.pos;holding [v] (truthy v)):=by
 intro whole;cases e
 case UnaryOp op _ _=>cases op <;> first | rfl | cases h
 all_goals first | rfl | cases h
theorem SX.sub(S:SX k W m C X){scope:Scope}{aF tgN:List Str}(cl:List (Str×Addr))(A:Addr)(fp:List Addr)(s3:Shared)(H3:Hp):SX k W (m.sub scope aF tgN) C.nox (bB X scope (aF++tgN) cl A fp s3 H3):=by
 refine ⟨rfl,?_,S.cm,S.rm,S.un,λ_ aA σ H s e s' I h=>?_,S.xt,S.xi,S.xc,S.xn,S.con,S.no,S.mk0,S.mki,S.iso,S.fl,S.mt,S.fn,λz=>by cases z⟩
 rotate_left
 . obtain ⟨_,_,_,_,_,_,_,_,_,_,_,_,z⟩:=h;exact z.elim
 show (compEnvC scope cl A X.env).scope=_;unfold MC.sub;rw[<- S.hs];rfl
theorem SX.loc(S:SX k W m C X){i:Nat}{z:Str}(h:m.loc i z=true):X.N[i]? = some z/\L2.Loc X.env.scope z/\(X.fn z=true\/X.env.scope.names.lookup z=some .local):=by
 unfold MC.loc MC.kind at h;simp only[aLR,aMF,aKU] at h;refine ⟨by rw[S.hN];exact h.1,?_,?_⟩
 . unfold L2.Loc;rw[S.hs];rcases h.2 with q | q
   . exact .inl q
   . exact .inr q.2
 . rw[S.hs];rcases h.2 with q | q
   . exact .inr q
   . exact .inl (S.fnn q.1 z)
mutual
theorem sG(S:SX k W m C X)(hN:m.N.Nodup):∀ (t:Tg) {e:Expr},mG m t e=true->PGw X e t
 | .nm i,e,h=>by
  simp only[mG] at h;split at h
  . obtain ⟨a,b,c⟩:=S.loc h;exact aC1 (by rw[S.hN];exact hN) a b c
  . cases h
 | .tp ts,e,h=>by
  simp only[mG] at h;split at h
  . rw[aLR,aLR,aN9] at h;obtain ⟨p,l⟩:=sGs S hN ts h.2 h.1.2;exact aC5 (S.cm h.1.1) p h.1.2 l
  . cases h
theorem sGs(S:SX k W m C X)(hN:m.N.Nodup):∀ (ts:List Tg) {es:List Expr},mGs m ts es=true->(∀ e∈es,iB e=true)->gI X es ts/\es.length=ts.length
 | [],[],h,_=>⟨aC2,rfl⟩
 | [],_::_,h,_=>by simp[mGs] at h
 | t::ts,[],h,_=>by simp[mGs] at h
 | t::ts,e::es,h,hs=>by simp only[mGs,aLR] at h;obtain ⟨p,l⟩:=sGs S hN ts h.2 λx hx=>hs x (mcm hx);exact ⟨aC3 (sG S hN t h.1) p (hs e mcs),by rw[aMC,aMC,l]⟩
end
end
theorem aF0{C:Cw}{X:Cx}{e:Expr}:PV C X e (λ_=>.stuck):=λaA s σ H Q I q=>by rw[aV] at q;obtain ⟨ρ,F,R,w⟩:=q;exact w.elim
abbrev PE(m:MC)(f:E)(e:Expr):Prop:=∀ {k:Nat} {W:WD} {C:Cw} {X:Cx},SX k W m C X->PV C X e (evE W f)
abbrev PTE(m:MC)(f:E)(e:Expr):Prop:=∀ {k:Nat} {W:WD} {C:Cw} {X:Cx},SX k W m C X->PTv C X e (evE W f)
abbrev PIE(m:MC)(tg:Expr)(f:E)(e:Expr):Prop:=∀ {k:Nat} {W:WD} {C:Cw} {X:Cx},SX k W m C X->PIv C X tg e (evE W f)
inductive dF(m:MC):List E->List Expr->Prop
 | nil:dF m [] []
 | cons {f fs x xs}:bX x=true->PE m f x->dF m fs xs->dF m (f::fs) (x::xs)
inductive dW(m:MC):List E->List Expr->Prop
 | nil:dW m [] []
 | cons {f fs x xs}:PTE m f x->dW m fs xs->dW m (f::fs) (x::xs)
abbrev CkE(m:MC)(f:E)(e:Expr):Type:=Option (PLift (PE m f e))
abbrev CkT(m:MC)(f:E)(e:Expr):Type:=Option (PLift (PTE m f e))
abbrev CkI(m:MC)(tg:Expr)(f:E)(e:Expr):Type:=Option (PLift (PIE m tg f e))
abbrev dX(m:MC)(f:List E)(e:List Expr):Type:=Option (PLift (dF m f e))
abbrev CkF(m:MC)(f:List E)(e:List Expr):Type:=Option (PLift (dW m f e))
abbrev CkO(m:MC)(f:Option E)(e:Option Expr):Type:=Option (PLift (∀ {k:Nat} {W:WD} {C:Cw} {X:Cx},SX k W m C X->POv C X e (evO W f)))
theorem got{P:Prop}:∀ {o:Option (PLift P)},o.isSome=true->P
 | some p,_=>p.down
 | none,h=>nomatch h
section
variable {k:Nat}{W:WD}{m:MC}{C:Cw}{X:Cx}
theorem dF.star:∀ {fs:List E} {es:List Expr},dF m fs es->∀ x∈es,bX x=true
 | _,_,.nil=>λx hx=>by cases hx
 | _,_,.cons s _ q=>λx hx=>by
  rcases aJ7.mp hx with rfl | hx
  . exact s
  . exact q.star x hx
theorem dF.es(S:SX k W m C X):∀ {fs:List E} {es:List Expr},dF m fs es->PAv C X es (bI W fs)
 | _,_,.nil=>by simp only[bI];exact m7
 | _,_,.cons s p q=>by simp only[bI];exact m8 (p S) (q.es S) (cC s)
theorem dF.a{pos:Pos}(S:SX k W m C X):∀ {fs:List E} {es:List Expr},dF m fs es->PV C X (.BoolOp .And es pos) (evA W fs)
 | _,_,.nil=>λaA s σ H Q I q=>by rw[aV] at q;obtain ⟨ρ,F,R,w⟩:=q;exact w.elim
 | _,_,.cons s p .nil=>by simp only[evA];exact rG (p S)
 | _,_,.cons s p (.cons s' p' q)=>by simp only[evA];exact aA0 (p S) (dF.a S (.cons s' p' q))
theorem dF.o{pos:Pos}(S:SX k W m C X):∀ {fs:List E} {es:List Expr},dF m fs es->PV C X (.BoolOp .Or es pos) (cN W fs)
 | _,_,.nil=>λaA s σ H Q I q=>by rw[aV] at q;obtain ⟨ρ,F,R,w⟩:=q;exact w.elim
 | _,_,.cons s p .nil=>by simp only[cN];exact rG (p S)
 | _,_,.cons s p (.cons s' p' q)=>by simp only[cN];exact aA1 (p S) (dF.o S (.cons s' p' q))
theorem dW.a{pos:Pos}(S:SX k W m C X):∀ {fs:List E} {es:List Expr},dW m fs es->PWv C X (.BoolOp .And es pos) (evA W fs)
 | _,_,.nil=>λwhole aA s σ H Q I q=>by obtain ⟨ρ,F,R,w⟩:=q;exact w.elim
 | _,_,.cons p .nil=>by simp only[evA];exact rE (p S)
 | _,_,.cons p (.cons p' q)=>by simp only[evA];exact aAY (p S) (dW.a S (.cons p' q))
theorem dW.o{pos:Pos}(S:SX k W m C X):∀ {fs:List E} {es:List Expr},dW m fs es->PWv C X (.BoolOp .Or es pos) (cN W fs)
 | _,_,.nil=>λwhole aA s σ H Q I q=>by obtain ⟨ρ,F,R,w⟩:=q;exact w.elim
 | _,_,.cons p .nil=>by simp only[cN];exact rE (p S)
 | _,_,.cons p (.cons p' q)=>by simp only[cN];exact aAZ (p S) (dW.o S (.cons p' q))
theorem dW.f(S:SX k W m C X):∀ {fs:List E} {es:List Expr},dW m fs es->cS X es (tT (C.at X) (evF W fs))
 | _,_,.nil=>by
  have:evF W []=λ_=>.ok .fz (.bl true):=by funext ρ;simp only[evF]
  rw[this];exact aB0
 | f::fs,_,.cons p q=>by
  have:evF W (f::fs)=λρ=>dQ (evE W f ρ) (evF W fs ρ):=by funext ρ;simp only[evF]
  rw[this];exact aB1 (p S) (q.f S)
section
variable {fs:List E}{es:List Expr}{r:dX m fs es}{t:CkF m fs es}{pos:Pos}
theorem gSt(h:r.isSome=true):∀ x∈es,bX x=true:=(got h).star
theorem gEs(h:r.isSome=true)(S:SX k W m C X):PAv C X es (bI W fs):=(got h).es S
theorem gA(h:r.isSome=true)(S:SX k W m C X):PV C X (.BoolOp .And es pos) (evA W fs):=(got h).a S
theorem gOr(h:r.isSome=true)(S:SX k W m C X):PV C X (.BoolOp .Or es pos) (cN W fs):=(got h).o S
theorem gWA(h:t.isSome=true)(S:SX k W m C X):PWv C X (.BoolOp .And es pos) (evA W fs):=(got h).a S
theorem gWO(h:t.isSome=true)(S:SX k W m C X):PWv C X (.BoolOp .Or es pos) (cN W fs):=(got h).o S
theorem gF(h:t.isSome=true)(S:SX k W m C X):cS X es (tT (C.at X) (evF W fs)):=(got h).f S
end
end
theorem aF1{C:Cw}{X:Cx}{e:Expr}:PTv C X e (λ_=>.stuck):=by intro aA s σ H Q I q;obtain ⟨ρ,F,R,w⟩:=q;exact w.elim
theorem aF2{C:Cw}{X:Cx}{tg e:Expr}:PIv C X tg e (λ_=>.stuck):=by intro aA s σ H R I q;obtain ⟨ρ,F,RS,w⟩:=q;exact w.elim
noncomputable def aF3{m:MC}{a e}(r1:CkE m a e):CkE m (.frz a) e:=if h:r1.isSome=true then some ⟨λS=>fN (got h S)⟩ else none
noncomputable def aF4 {m : MC} {a e} (r1 : CkE m a e) : CkT m (.tru a) e := if h : (uJ e && r1.isSome) = true then some ⟨fun {k} {W} {C} {X} S => by
    simp only[aLR] at h;exact aAV (got h.2 S) (aFZ h.1)⟩ else none
noncomputable def aF5{m:MC}{tg a e}(r1:CkE m a e):CkI m tg (.items a) e:=if h:r1.isSome=true then some ⟨λS=>aBP (got h S)⟩ else none
noncomputable def aF6{m:MC}{tg a e}(r1:CkE m a e):CkI m tg (.nkeys a) e:=if h:r1.isSome=true then some ⟨λS=>aFC (got h S)⟩ else none
noncomputable def aF7 {m : MC} {i} {x} {p1} : CkE m (.var i) (.Name x p1) := if h : (m.N[i]? == some x && m.vis x) = true then some ⟨fun {k} {W} {C} {X} S => by
    simp only[aLR,aKU] at h;obtain ⟨h1,h2,h3⟩:=S.vis h.2
    exact z9 i (iZ (by rw[S.hN];exact h.1) h1 h2 h3)⟩ else none
noncomputable def aF8 {m : MC} {y} {c} {x} {p1} : CkE m (.glob y c) (.Name x p1) := if h : (x == y && m.glob x (.con c) && strK' c) = true then some ⟨fun {k} {W} {C} {X} S => by
    simp only[aLR,aKU] at h;obtain ⟨⟨rfl,h1⟩,h2⟩:=h;obtain ⟨g,l,hd,hn⟩:=S.gl h1;have:=S.con _ _ l;cases c with
    | s y=>obtain ⟨t,ht⟩:=this;exact aBD g ht h2 hd
    | i n=>obtain ⟨t,ht⟩:=this;exact aBE g ht hd
    | t tb=>cases h2⟩ else none
noncomputable def kE_ty {m : MC} {t} {x} {p1} : CkE m (.ty t) (.Name x p1) := if h : (x == (t.id : Str) && m.glob x .no) = true then some ⟨fun {k} {W} {C} {X} S => by
    simp only[aLR,aKU] at h;obtain ⟨rfl,h1⟩:=h;obtain ⟨g,l,hd,hn⟩:=S.gl h1;exact pv_ty g (S.no _ l) (uK t) hn hd⟩ else none
noncomputable def aF9 {m : MC} {p0} {p1} : CkE m (.non) (.Constant .none p0 p1) := if h : (true) = true then some ⟨fun {k} {W} {C} {X} S => by
    exact aAB⟩ else none
noncomputable def kE_bl {m : MC} {c} {b} {p1} {p2} : CkE m (.bl c) (.Constant (.bool b) p1 p2) := if h : (b == c) = true then some ⟨fun {k} {W} {C} {X} S => by
    simp only[aKU] at h;subst h;exact pv_bl⟩ else none
noncomputable def aGA {m : MC} {c} {b} {p1} {p2} : CkE m (.int c) (.Constant (.int b) p1 p2) := if h : (b == c) = true then some ⟨fun {k} {W} {C} {X} S => by
    simp only[aKU] at h;subst h;exact aAA⟩ else none
noncomputable def aGB {m : MC} {c} {b} {p1} {p2} : CkE m (.str c) (.Constant (.str b) p1 p2) := if h : (b == c && strK b) = true then some ⟨fun {k} {W} {C} {X} S => by
    simp only[aLR,aKU] at h;obtain ⟨rfl,h⟩:=h;exact aAC h⟩ else none
noncomputable def aGC {m : MC} {op} {a} {b} {x} {o} {y} {p3} (r1 : CkE m a x) (r2 : CkE m b y) : CkE m (.bin op a b) (.BinOp x o y p3) := if h : (o == op && (r1.isSome && r2.isSome)) = true then some ⟨fun {k} {W} {C} {X} S => by
    simp only[aLR,aKU] at h;obtain ⟨rfl,h1,h2⟩:=h;exact pv_op (aFY _) (got h1 S) (got h2 S)⟩ else none
noncomputable def aGD {m : MC} {op} {a} {b} {x} {o} {y} {p3} (r1 : CkE m a x) (r2 : CkE m b y) : CkE m (.cmp op a b) (.Compare x [o] [y] p3) := if h : (o == op && gR y && (r1.isSome && r2.isSome)) = true then some ⟨fun {k} {W} {C} {X} S => by
    simp only[aLR,aKU] at h;obtain ⟨⟨rfl,hs⟩,h1,h2⟩:=h;exact aAD (oO _ S.un).1 (got h1 S) (got h2 S) (uM _ hs)⟩ else none
noncomputable def aGE {m : MC} {es} {xs} {p1} (r1 : dX m es xs) : CkE m (.andL es) (.BoolOp .And xs p1) := if h : (r1.isSome) = true then some ⟨fun {k} {W} {C} {X} S => by
    exact gA h S⟩ else none
noncomputable def aGF {m : MC} {es} {xs} {p1} (r1 : dX m es xs) : CkE m (.orL es) (.BoolOp .Or xs p1) := if h : (r1.isSome) = true then some ⟨fun {k} {W} {C} {X} S => by
    exact gOr h S⟩ else none
noncomputable def aGG {m : MC} {a} {x} {p1} (r1 : CkE m a x) : CkE m (.not a) (.UnaryOp .Not x p1) := if h : (r1.isSome) = true then some ⟨fun {k} {W} {C} {X} S => by
    exact aA2 (got h S)⟩ else none
noncomputable def aGH {m : MC} {a} {x} {p1} (r1 : CkE m a x) : CkE m (.neg a) (.UnaryOp .USub x p1) := if h : (r1.isSome) = true then some ⟨fun {k} {W} {C} {X} S => by
    exact aA3 (got h S)⟩ else none
noncomputable def aGI {m : MC} {a} {l} {u} {x} {lo} {hi} {p3} {p4} (r1 : CkE m a x) (r2 : CkO m l lo) (r3 : CkO m u hi) : CkE m (.slice a l u) (.Subscript x (.Slice lo hi none p3) p4) := if h : (r1.isSome && (r2.isSome && r3.isSome)) = true then some ⟨fun {k} {W} {C} {X} S => by
    simp only[aLR] at h;obtain ⟨h0,h1,h2⟩:=h;exact aDL (got h0 S) (got h1 S) (got h2 S)⟩ else none
noncomputable def kE_ix {m : MC} {a} {b} {x} {y} {p2} (r1 : CkE m a x) (r2 : CkE m b y) : CkE m (.ix a b) (.Subscript x y p2) := if h : (oN y && (r1.isSome && r2.isSome)) = true then some ⟨fun {k} {W} {C} {X} S => by
    simp only[aLR] at h;obtain ⟨h0,h1,h2⟩:=h;exact pv_ix (got h1 S) (got h2 S) (uN h0)⟩ else none
noncomputable def aGJ {m : MC} {es} {es0} {p1} {p2} (r1 : dX m es es0) : CkE m (.tup es) (.Tuple es0 p1 p2) := if h : (r1.isSome) = true then some ⟨fun {k} {W} {C} {X} S => by
    exact aA8 (gEs h S)⟩ else none
noncomputable def aGK {m : MC} {es} {es0} {p1} (r1 : dX m es es0) : CkE m (.lst es) (.List es0 p1) := if h : (r1.isSome) = true then some ⟨fun {k} {W} {C} {X} S => by
    exact aA9 (gEs h S)⟩ else none
noncomputable def aGL {m : MC} {g} {n} {es} {f} {p} {x} {xs} {cp} (r1 : dX m es (x :: xs)) : CkE m (.call g n es) (.Call (.Name f p) (x :: xs) [] cp) := if h : (m.calm && f == g && m.glob f (.fn n) && r1.isSome) = true then some ⟨fun {k} {W} {C} {X} S => by
    simp only[aLR,aKU] at h;obtain ⟨⟨⟨hq,rfl⟩,h1⟩,h2⟩:=h;obtain ⟨gl,l,hd,hn⟩:=S.gl h1;have st:=gSt h2;exact aB5 (S.fn _ _ l) (S.rm hq) (S.xo hq) gl (gEs h2 S) hd (cC (st x mcs)) (jM _ _ λy hy=>st y (mcm hy))⟩ else none
noncomputable def aGM {m : MC} {b} {es} {f} {p} {x} {xs} {cp} (r1 : dX m es (x :: xs)) : CkE m (.bcall b es) (.Call (.Name f p) (x :: xs) [] cp) := if h : ((m.calm || b == .len || b == .isinstance) && f == b.name && m.glob f .no && r1.isSome) = true then some ⟨fun {k} {W} {C} {X} S => by
    rw[aLR,aLR,aLR] at h;obtain ⟨⟨⟨hq,hz⟩,h1⟩,h2⟩:=h;cases (aKU.mp hz);obtain ⟨gl,l,hd,hn⟩:=S.gl h1;have st:=gSt h2;exact rL (aFT b S.cm hq) gl (S.no _ l) (aFS b) (gEs h2 S) hn hd (cC (st x mcs)) (jM _ _ λy hy=>st y (mcm hy))⟩ else none
noncomputable def aGN {m : MC} {t} {es} {f} {p1} {x} {xs} {p4} (r1 : dX m es (x :: xs)) : CkE m (.tcall t es) (.Call (.Name f p1) (x :: xs) [] p4) := if h : (f == (t.id : Str) && m.glob f .no && r1.isSome) = true then some ⟨fun {k} {W} {C} {X} S => by
    simp only[aLR,aKU] at h;obtain ⟨⟨rfl,h1⟩,h2⟩:=h;obtain ⟨gl,l,hd,hn⟩:=S.gl h1;exact aCV (aFV t) gl (S.no _ l) (uK t) (gEs h2 S) hn hd (gSt h2)⟩ else none
noncomputable def aGO {m : MC} {a} {f} {es} {o} {g} {ap} {xs} {cp} (r1 : CkE m a o) (r2 : dX m es xs) : CkE m (.meth a f es) (.Call (.Attribute o g ap) xs [] cp) := if h : (m.calm && g == f && ap.endLine == cp.line && decide (xs.length < 30) && jL o && (r1.isSome && r2.isSome)) = true then some ⟨fun {k} {W} {C} {X} S => by
    simp only[aLR,aKU,aMD] at h;obtain ⟨⟨⟨⟨⟨hq,rfl⟩,h1⟩,h2⟩,h3⟩,h4,h5⟩:=h;exact aCH S.mt (S.rm hq) (S.xo hq) (got h4 S) (gEs h5 S) h3 (gSt h5) h2 h1 λe0=>by
     subst e0;cases es with
     | nil=>funext ρ;simp only[bI]
     | cons _ _=>cases got h5⟩ else none
noncomputable def aGP {m : MC} {c} {f} {p1} {p2} : CkE m (.mk0 c) (.Call (.Name f p1) [] [] p2) := if h : (f == c && m.glob f .cls && m.g.mk0.contains f) = true then some ⟨fun {k} {W} {C} {X} S => by
    simp only[aLR,aKU,aON] at h;obtain ⟨⟨rfl,h1⟩,h2⟩:=h;obtain ⟨gl,l,hd,hn⟩:=S.gl h1;exact aCK (S.mk0 _ h2) gl hd⟩ else none
noncomputable def aGQ {m : MC} {el} {it} {ts} {aD} {t} {n} {elt} {tg} {aO} {ifs} {scope} {cp} (r1 : CkI m tg it aO) (r2 : CkE (m.sub scope (aD.filterMap fun i => m.N[i]?) (eN 4 tg)) el elt) (r3 : CkF (m.sub scope (aD.filterMap fun i => m.N[i]?) (eN 4 tg)) ts ifs) : CkE m (.comp el it ts aD t n) (.ListComp elt [⟨tg, aO, ifs, 0⟩] scope cp) := if h : (m.calm && lO scope m.sc m.N aD (aD.filterMap fun i => m.N[i]?) (eN 4 tg) && gR aO && decide ((eN 4 tg).length = n) && (eK t).all (fun j => decide (aD.length ≤ j)) && mG (m.sub scope (aD.filterMap fun i => m.N[i]?) (eN 4 tg)) t tg && (r1.isSome && (r2.isSome && r3.isSome))) = true then some ⟨fun {k} {W} {C} {X} S => by
    simp only[aLR,aMD,aN9] at h;obtain ⟨⟨⟨⟨⟨⟨hq,ho⟩,hn⟩,hl⟩,hs⟩,hg⟩,h1,h2,h3⟩:=h;unfold lO at ho;simp only[aLR,aN9,aMF,aOM,aKU,aMD,aON] at ho;obtain ⟨⟨⟨⟨⟨⟨⟨g1,g2⟩,g3⟩,g4⟩,g5⟩,g6⟩,g7⟩,g8⟩:=ho;have er:(relabel scope X.env).names=jK scope m.sc:=by rw[<- S.hs];rfl
    have := aC7 (pos := cp) (tgN := eN 4 tg) (t := t) (S.cm hq) (got h1 S) g1 g2 (fun y hy e => (g3 y hy).resolve_left fun z => z e) (fun y hy e => by
        have:=g4 y hy;show X.env.scope.names.lookup y.1=_\/X.env.scope.names.lookup y.1=_;rw[S.hs];rcases this with (z | z) | z
        . exact absurd e z
        . exact .inl z
        . exact .inr z) (by rw[S.hN];exact g5) g6 (λy hy=>by rw[er];exact g7 y hy) (λj hj=>hs j hj) (λcl A fp s3 H3=>sG (S.sub cl A fp s3 H3) g8 t hg)
        (λcl A fp s3 H3=>gF h3 (S.sub cl A fp s3 H3)) (λcl A fp s3 H3=>got h2 (S.sub cl A fp s3 H3)) (oP hn)
    rw[hl] at this;exact this⟩ else none
noncomputable def aGR {m : MC} {p0} : CkE m (.nnew) (.Dict [] [] p0) := if h : (true) = true then some ⟨fun {k} {W} {C} {X} S => by
    exact aEP⟩ else none
noncomputable def aGS {m : MC} {a} {b} {x} {y} {p2} (r1 : CkE m a x) (r2 : CkE m b y) : CkE m (.nix a b) (.Subscript x y p2) := if h : (oN y && (r1.isSome && r2.isSome)) = true then some ⟨fun {k} {W} {C} {X} S => by
    simp only[aLR] at h;obtain ⟨h0,h1,h2⟩:=h;exact aEQ S.un (got h1 S) (got h2 S) (uN h0)⟩ else none
noncomputable def aGT {m : MC} {a} {b} {d} {o} {f} {ap} {x} {y} {cp} (r1 : CkE m a o) (r2 : CkE m b x) (r3 : CkE m d y) : CkE m (.nget a b d) (.Call (.Attribute o f ap) [x, y] [] cp) := if h : (f == "get" && ap.endLine == cp.line && jL o && bX x && bX y && (r1.isSome && (r2.isSome && r3.isSome))) = true then some ⟨fun {k} {W} {C} {X} S => by
    simp only[aLR,aKU] at h;obtain ⟨⟨⟨⟨⟨rfl,hl⟩,hc⟩,hs⟩,hs2⟩,h1,h2,h3⟩:=h;exact aES S.un (got h1 S) (got h2 S) (got h3 S) ⟨nB hc,by
     rw[k6 _ _ (λz hz=>by
      simp only[aJ7,List.mem_nil_iff,aM2] at hz;rcases hz with rfl | rfl
      . exact hs
      . exact hs2)];rfl,aKU.mpr hl,by rw[cC hs,cC hs2];rfl⟩⟩ else none
noncomputable def aGU {m : MC} {a} {f} {p1} {x} {p3} (r1 : CkE m a x) : CkE m (.srtw a) (.Call (.Name f p1) [x] [] p3) := if h : (f == "sorted" && m.glob f .no && bX x && r1.isSome) = true then some ⟨fun {k} {W} {C} {X} S => by
    simp only[aLR,aKU] at h;obtain ⟨⟨⟨rfl,h1⟩,hs⟩,h2⟩:=h;obtain ⟨gl,l,hd,hn⟩:=S.gl h1;exact rL (aE6 S.un) gl (S.no _ l) sR (m8 (got h2 S) m7 (cC hs)) hn hd (cC hs) rfl⟩ else none
noncomputable def aGV {m : MC} {a} {f} {p1} {g} {p3} {x} {p5} {p6} (r1 : CkE m a x) : CkE m (.us2 a) (.Call (.Name f p1) [.Call (.Name g p3) [x] [] p5] [] p6) := if h : (m.calm && f == "sorted" && g == "set" && m.glob f .no && m.glob g .no && bX x && r1.isSome) = true then some ⟨fun {k} {W} {C} {X} S => by
    simp only[aLR,aKU] at h;obtain ⟨⟨⟨⟨⟨⟨hq,rfl⟩,rfl⟩,h1⟩,h2⟩,s1⟩,h3⟩:=h;obtain ⟨gl,l,hd,hn⟩:=S.gl h1;obtain ⟨gl',l',hd',hn'⟩:=S.gl h2;exact aFR S.un (S.cm hq) gl (S.no _ l) gl' (S.no _ l') (got h3 S) s1⟩ else none
noncomputable def aGW {m : MC} {op} {a} {b} {x} {o} {y} {p3} (r1 : CkE m a x) (r2 : CkE m b y) : CkT m (.cmp op a b) (.Compare x [o] [y] p3) := if h : (o == op && gR y && (r1.isSome && r2.isSome)) = true then some ⟨fun {k} {W} {C} {X} S => by
    simp only[aLR,aKU] at h;obtain ⟨⟨rfl,hs⟩,h1,h2⟩:=h;exact aAW (oO _ S.un).1 (oO (C:=C) _ S.un).2 (got h1 S) (got h2 S) (uM _ hs)⟩ else none
noncomputable def aGX {m : MC} {es} {xs} {p1} (r1 : CkF m es xs) : CkT m (.andL es) (.BoolOp .And xs p1) := if h : (r1.isSome) = true then some ⟨fun {k} {W} {C} {X} S => by
    exact pt_w (gWA h S)⟩ else none
noncomputable def aGY {m : MC} {es} {xs} {p1} (r1 : CkF m es xs) : CkT m (.orL es) (.BoolOp .Or xs p1) := if h : (r1.isSome) = true then some ⟨fun {k} {W} {C} {X} S => by
    exact pt_w (gWO h S)⟩ else none
noncomputable def aGZ {m : MC} {a} {x} {p1} (r1 : CkT m a x) : CkT m (.not a) (.UnaryOp .Not x p1) := if h : (r1.isSome) = true then some ⟨fun {k} {W} {C} {X} S => by
    exact aAX (got h S)⟩ else none
noncomputable def aG0 {m : MC} {tg0} {a} {f} {p1} {x} {p3} (r1 : CkE m a x) : CkI m tg0 (.rng1 a) (.Call (.Name f p1) [x] [] p3) := if h : (f == "range" && m.glob f .no && bX x && r1.isSome) = true then some ⟨fun {k} {W} {C} {X} S => by
    simp only[aLR,aKU] at h;obtain ⟨⟨⟨rfl,h1⟩,h2⟩,h3⟩:=h;obtain ⟨gl,l,hd,hn⟩:=S.gl h1;exact aBR gl (S.no _ l) (m8 (got h3 S) m7 (cC h2)) (cC h2)⟩ else none
noncomputable def kEs {m : MC} {f fs x xs} (r1 : CkE m f x) (r2 : dX m fs xs) : dX m (f :: fs) (x :: xs) := if h : (bX x && r1.isSome && r2.isSome) = true then some ⟨by
    simp only[aLR] at h;exact .cons h.1.1 (@got _ r1 h.1.2) (got h.2)⟩ else none
noncomputable def kO{m:MC}{f x}(r1:CkE m f x):CkO m (some f) (some x):=if h:r1.isSome=true then some ⟨λS=>by simp only[evO];exact got h S⟩ else none
noncomputable def kF {m : MC} {f fs x xs} (r1 : CkT m f x) (r2 : CkF m fs xs) : CkF m (f :: fs) (x :: xs) := if h : (r1.isSome && r2.isSome) = true then some ⟨by
    simp only[aLR] at h;exact .cons (@got _ r1 h.1) (got h.2)⟩ else none
set_option maxHeartbeats 4000000 in
mutual
noncomputable def ckE:(m:MC)->(f:E)->(e:Expr)->CkE m f e
 | m,.frz a,e=>aF3 (ckE m a e)
 | m,.never,e=>some ⟨λ_=>aF0⟩
 | m,.var i,e=>match e with | .Name x p1=>aF7 | _=>none
 | m,.glob y c,e=>match e with | .Name x p1=>aF8 | _=>none
 | m,.ty t,e=>match e with | .Name x p1=>kE_ty | _=>none
 | m,.non,e=>match e with | .Constant .none p0 p1=>aF9 | _=>none
 | m,.bl c,e=>match e with | .Constant (.bool b) p1 p2=>kE_bl | _=>none
 | m,.int c,e=>match e with | .Constant (.int b) p1 p2=>aGA | _=>none
 | m,.str c,e=>match e with | .Constant (.str b) p1 p2=>aGB | _=>none
 | m,.bin op a b,e=>match e with | .BinOp x o y p3=>aGC (ckE m a x) (ckE m b y) | _=>none
 | m,.cmp op a b,e=>match e with | .Compare x [o] [y] p3=>aGD (ckE m a x) (ckE m b y) | _=>none
 | m,.andL es,e=>match e with | .BoolOp .And xs p1=>aGE (fJ m es xs) | _=>none
 | m,.orL es,e=>match e with | .BoolOp .Or xs p1=>aGF (fJ m es xs) | _=>none
 | m,.not a,e=>match e with | .UnaryOp .Not x p1=>aGG (ckE m a x) | _=>none
 | m,.neg a,e=>match e with | .UnaryOp .USub x p1=>aGH (ckE m a x) | _=>none
 | m,.slice a l u,e=>match e with | .Subscript x (.Slice lo hi none p3) p4=>aGI (ckE m a x) (ckO m l lo) (ckO m u hi) | _=>none
 | m,.ix a b,e=>match e with | .Subscript x y p2=>kE_ix (ckE m a x) (ckE m b y) | _=>none
 | m,.tup es,e=>match e with | .Tuple es0 p1 p2=>aGJ (fJ m es es0) | _=>none
 | m,.lst es,e=>match e with | .List es0 p1=>aGK (fJ m es es0) | _=>none
 | m,.call g n es,e=>match e with | .Call (.Name f p) (x::xs) [] cp=>aGL (fJ m es (x::xs)) | _=>none
 | m,.bcall b es,e=>match e with | .Call (.Name f p) (x::xs) [] cp=>aGM (fJ m es (x::xs)) | _=>none
 | m,.tcall t es,e=>match e with | .Call (.Name f p1) (x::xs) [] p4=>aGN (fJ m es (x::xs)) | _=>none
 | m,.meth a f es,e=>match e with | .Call (.Attribute o g ap) xs [] cp=>aGO (ckE m a o) (fJ m es xs) | _=>none
 | m,.mk0 c,e=>match e with | .Call (.Name f p1) [] [] p2=>aGP | _=>none
 | m,.nnew,e=>match e with | .Dict [] [] p0=>aGR | _=>none
 | m,.us2 a,e=>match e with | .Call (.Name f p1) [.Call (.Name g p3) [x] [] p5] [] p6=>aGV (ckE m a x) | _=>none
 | m,.srtw a,e=>match e with | .Call (.Name f p1) [x] [] p3=>aGU (ckE m a x) | _=>none
 | m,.nix a b,e=>match e with | .Subscript x y p2=>aGS (ckE m a x) (ckE m b y) | _=>none
 | m,.comp el it ts aD t n,e=>match e with | .ListComp elt [⟨tg,aO,ifs,0⟩] scope cp=>aGQ (ckI m tg it aO) (ckE (m.sub scope (aD.filterMap λi=>m.N[i]?) (eN 4 tg)) el elt) (ckF (m.sub scope (aD.filterMap λi=>m.N[i]?) (eN 4 tg)) ts ifs) | _=>none
 | m,.nget a b d,e=>match e with | .Call (.Attribute o f ap) [x,y] [] cp=>aGT (ckE m a o) (ckE m b x) (ckE m d y) | _=>none
 | _,.tru _,_=>none
 | _,.items _,_=>none
 | _,.nkeys _,_=>none
 | _,.rng1 _,_=>none
noncomputable def ckT:(m:MC)->(f:E)->(e:Expr)->CkT m f e
 | m,.tru a,e=>aF4 (ckE m a e)
 | m,.never,e=>some ⟨λ_=>aF1⟩
 | m,.cmp op a b,e=>match e with | .Compare x [o] [y] p3=>aGW (ckE m a x) (ckE m b y) | _=>none
 | m,.andL es,e=>match e with | .BoolOp .And xs p1=>aGX (ckF m es xs) | _=>none
 | m,.orL es,e=>match e with | .BoolOp .Or xs p1=>aGY (ckF m es xs) | _=>none
 | m,.not a,e=>match e with | .UnaryOp .Not x p1=>aGZ (ckT m a x) | _=>none
 | _,_,_=>none
noncomputable def ckI:(m:MC)->(tg:Expr)->(f:E)->(e:Expr)->CkI m tg f e
 | m,tg,.items a,e=>aF5 (ckE m a e)
 | m,tg,.nkeys a,e=>aF6 (ckE m a e)
 | m,tg,.never,e=>some ⟨λ_=>aF2⟩
 | m,tg0,.rng1 a,e=>match e with | .Call (.Name f p1) [x] [] p3=>aG0 (ckE m a x) | _=>none
 | _,_,_,_=>none
noncomputable def fJ:(m:MC)->(fs:List E)->(es:List Expr)->dX m fs es
 | m,[],es=>match es with | []=>some ⟨.nil⟩ | _=>none
 | m,f::fs,l=>match l with | x::xs=>kEs (ckE m f x) (fJ m fs xs) | _=>none
noncomputable def ckO:(m:MC)->(f:Option E)->(e:Option Expr)->CkO m f e
 | m,none,e=>match e with | none=>some ⟨λ_=>True.intro⟩ | _=>none
 | m,some f,l=>match l with | some x=>kO (ckE m f x) | _=>none
noncomputable def ckF:(m:MC)->(fs:List E)->(es:List Expr)->CkF m fs es
 | m,[],es=>match es with | []=>some ⟨.nil⟩ | _=>none
 | m,f::fs,l=>match l with | x::xs=>kF (ckT m f x) (ckF m fs xs) | _=>none
end
noncomputable def mE(m:MC)(f:E)(e:Expr):Bool:=(ckE m f e).isSome
noncomputable def mT(m:MC)(f:E)(e:Expr):Bool:=(ckT m f e).isSome
noncomputable def mI(m:MC)(tg:Expr)(f:E)(e:Expr):Bool:=(ckI m tg f e).isSome
noncomputable def mF(m:MC)(f:List E)(e:List Expr):Bool:=(ckF m f e).isSome
section
variable {k:Nat}{W:WD}
theorem sE(f:E){m:MC}{C:Cw}{X:Cx}{e:Expr}(S:SX k W m C X)(h:mE m f e=true):PV C X e (evE W f):=got h S
theorem sT(f:E){m:MC}{C:Cw}{X:Cx}{e:Expr}(S:SX k W m C X)(h:mT m f e=true):PTv C X e (evE W f):=got h S
theorem sI(f:E){m:MC}{C:Cw}{X:Cx}{tg e:Expr}(S:SX k W m C X)(h:mI m tg f e=true):PIv C X tg e (evE W f):=got h S
theorem sF(fs:List E){m:MC}{C:Cw}{X:Cx}{es:List Expr}(S:SX k W m C X)(h:mF m fs es=true):cS X es (tT (C.at X) (evF W fs)):=gF h S
end
end D3
set_option genSizeOfSpec false
set_option genInjectivity false
namespace D3
open PySem PySem.Spec PyProof.Rows L2
inductive S where
 | ret (e:E) | retV (i:Nat) | set (i:Nat) (e:E) | ite (c:E) (a b:List S) | for (it:E) (t:Tg) (body:List S)
 | never
 | app (i:Nat) (e:E) | lput (i:Nat) (k e:E) | setC (i:Nat) (fz:Bool) (e:E) | nput (i:Nat) (k e:E) | frzV (i:Nat) | nfrz (i:Nat)
mutual
noncomputable def evS(W:WD):S->Rho->aG
 | .ret e,ρ=>hX (evE W e ρ) ρ
 | .retV i,ρ=>eH ρ i
 | .set i e,ρ=>dR ρ i (evE W e ρ)
 | .ite c a b,ρ=>ifS (evE W c ρ) ρ (evB W a ρ) (evB W b ρ)
 | .for it t body,ρ=>fO (evE W it ρ) ρ (aU t) (evB W body)
 | .app i e,ρ=>eL ρ i (evE W e ρ)
 | .lput i k e,ρ=>fG ρ i (evE W k ρ) (evE W e ρ)
 | .frzV i,ρ=>iE ρ i
 | .nfrz i,ρ=>iK ρ i
 | .nput i k e,ρ=>jU ρ i (evE W k ρ) (evE W e ρ)
 | .setC i fz e,ρ=>dR ρ i (if fz=true then a5 (evE W e ρ) else evE W e ρ)
 | .never,_=>.stuck
noncomputable def evB(W:WD):List S->Rho->aG
 | [],ρ=>.nx ρ
 | s::r,ρ=>(evS W s ρ).thn (evB W r)
end
noncomputable def j0:Expr->Bool | .ListComp ..=>false | .SetComp ..=>false | .DictComp ..=>false | _=>true
noncomputable def mC(m:MC)(elt:Expr)(scope:Scope):E->List Comprehension->Bool
 | .comp el it ts aD t n,gens=>match gens with
  | [⟨tg,aO,ifs,0⟩] =>
   let aF:=aD.filterMap λi=>m.N[i]?
   let tgN:=eN 4 tg
   m.calm&&lO scope m.sc m.N aD aF tgN&&gR aO&&decide (tgN.length=n)&&(eK t).all (λj=>decide (aD.length<=j))&&mG (m.sub scope aF tgN) t tg&&(mI m tg it aO&&(mE (m.sub scope aF tgN) el elt&&mF (m.sub scope aF tgN) ts ifs))
  | _=>false
 | _,_=>false
theorem oQ{e:Expr}{t:Option Expr}{n:Nat}{env:Env}(h:j0 e=true):swapsWith e t n env=pure false:=by cases e <;> first | rfl | cases h
theorem aG1{m:MC}{e:Expr}{x:Str}{p:Pos}{n:Nat}{env:Env}(hs:env.scope=m.sc)(h:(j0 e||m.kind x==some .cell)=true):swapsWith e (some (.Name x p)) n env=pure false:=by
 rw[aMF,aKU] at h;rcases h with h | h
 . exact oQ h
 . have hk:env.kindOf x=some .cell:=by show env.scope.names.lookup x=_;rw[hs];exact h
   unfold swapsWith;have kc:(NameKind.cell==NameKind.local)=false:=by decide
   cases e <;> first | rfl | (simp[hk,kc])
theorem aG2{C:Cw}{X:Cx}{st:Stmt}:PSv C X st (λ_=>.stuck):=λaA s σ H En I q=>by obtain ⟨ρ,F,R,w⟩:=q;exact w.elim
section
variable {k:Nat}{W:WD}{m:MC}{C:Cw}{X:Cx}
structure SB(k:Nat)(W:WD)(m:MC)(C:Cw)(X:Cx):Prop extends SX k W m C X where
 nd:m.N.Nodup
 hp:PassesOwn (model X.prog X.w) X.A X.env X.xe
 ro:m.rz=true->RzOk (C.at X) X/\FnCx X/\XOk (HX1 X.prog X.w) (C.at X) X
end
theorem aG3{k:Nat}{W:WD}{m:MC}{C:Cw}{X:Cx}(S:SB k W m C X)(fz:Bool){i:Nat}{el it:E}{ts:List E}{aD:List Nat}{t:Tg}{n:Nat}{x:Str}{px cp sp:Pos}{elt:Expr}{gens:List Comprehension}{scope:Scope}(h1:m.N[i]? = some x)(h2:m.kind x=some .local)(h3:m.sc.kind=.function)(h4:px.line=cp.line)(h5:(scope.names.any λy=>y.1==x&&(y.2 == .local||y.2 == .cell))=false)(h:mC m elt scope (.comp el it ts aD t n) gens=true):PSv C X (.Assign [.Name x px] (.ListComp elt gens scope cp) sp) (λρ=>dR ρ i (if fz=true then a5 (evE W (.comp el it ts aD t n) ρ) else evE W (.comp el it ts aD t n) ρ)):=by
 have hk:X.env.scope.names.lookup x=some .local:=by rw[S.hs];exact h2
 conv at h=>lhs;whnf
 split at h
 . rename_i tg aO ifs;simp only[aLR,aMD,aN9] at h;obtain ⟨⟨⟨⟨⟨⟨hq,ho⟩,hn⟩,hl⟩,hs⟩,hg⟩,k1,k2,k3⟩:=h;unfold lO at ho;simp only[aLR,aN9,aMF,aOM,aKU,aMD,aON] at ho;obtain ⟨⟨⟨⟨⟨⟨⟨g1,g2⟩,g3⟩,g4⟩,g5⟩,g6⟩,g7⟩,g8⟩:=ho;have er:(relabel scope X.env).names=jK scope m.sc:=by rw[<- S.hs];rfl
   have bk:X.env.blockKind=.function:=by unfold Env.blockKind;rw[S.hs,h3];rfl
   have hsw:swapsWith (.ListComp elt [⟨tg,aO,ifs,0⟩] scope cp) (some (.Name x px)) sp.line X.env=pure true:=by
    have kx:X.env.kindOf x=some .local:=hk;unfold swapsWith;have k1:(ScopeKind.function==ScopeKind.function)=true:=by decide
    have k2:(some NameKind.local==some NameKind.local)=true:=by decide
    simp only[bk,kx,Expr.pos,h4,h5,k1,k2,aMT];rfl
   have := aC8 fz (pos := cp) (pos' := px) (spos := sp) (i := i) (x := x) (tgN := eN 4 tg) (t := t) (S.cm hq) (sI it S.toSX k1) g1 g2 (fun y hy e => (g3 y hy).resolve_left fun z => z e) (fun y hy e => by
       have:=g4 y hy;show X.env.scope.names.lookup y.1=_\/X.env.scope.names.lookup y.1=_;rw[S.hs];rcases this with (z | z) | z
       . exact absurd e z
       . exact .inl z
       . exact .inr z) (by rw[S.hN];exact g5) g6 (λy hy=>by rw[er];exact g7 y hy) (λj hj=>hs j hj) (λcl A fp s3 H3=>sG (S.toSX.sub cl A fp s3 H3) g8 t hg)
       (λcl A fp s3 H3=>sF ts (S.toSX.sub cl A fp s3 H3) k3) (λcl A fp s3 H3=>sE el (S.toSX.sub cl A fp s3 H3) k2) (by rw[S.hN];exact S.nd) (by rw[S.hN];exact h1) hk hsw (oP hn)
   rw[hl] at this;exact this
 . cases h
abbrev CkS(m:MC)(f:D3.S)(st:Stmt):Type:=Option (PLift (∀ {k:Nat} {W:WD} {C:Cw} {X:Cx},SB k W m C X->PSv C X st (evS W f)))
abbrev CkB(m:MC)(f:List D3.S)(sts:List Stmt):Type:=Option (PLift (∀ {k:Nat} {W:WD} {C:Cw} {X:Cx},SB k W m C X->PBv C X sts (evB W f)))
noncomputable def aG4 {m : MC} {f} {e} {p1} : CkS m (.ret f) (.Return (some e) p1) := if h : (mE m f e) = true then some ⟨fun {k} {W} {C} {X} S => by
    exact aBI (sE f S.toSX h)⟩ else none
noncomputable def aG5 {m : MC} {i} {x} {p1} {p2} : CkS m (.retV i) (.Return (some (.Name x p1)) p2) := if h : (m.N[i]? == some x && m.vis x) = true then some ⟨fun {k} {W} {C} {X} S => by
    simp only[aLR,aKU] at h;obtain ⟨h1,h2,h3⟩:=S.toSX.vis h.2
    exact aBJ i (iZ (by rw[S.hN];exact h.1) h1 h2 h3)⟩ else none
noncomputable def aG6 {m : MC} {i} {f} {x} {p1} {e} {p3} : CkS m (.set i f) (.Assign [.Name x p1] e p3) := if h : (m.loc i x && (j0 e || m.kind x == some .cell) && mE m f e) = true then some ⟨fun {k} {W} {C} {X} S => by
    simp only[aLR] at h;obtain ⟨⟨h1,h2⟩,h3⟩:=h;obtain ⟨b,c,d⟩:=S.toSX.loc h1
    exact aBL (by rw[S.hN];exact S.nd) b c (sE f S.toSX h3) (aG1 S.hs h2) d⟩ else none
noncomputable def aG7 {m : MC} {i} {f} {g} {x} {p1} {k} {p3} {e} {p5} : CkS m (.nput i f g) (.Assign [.Subscript (.Name x p1) k p3] e p5) := if h : (m.N[i]? == some x && m.vis x && j0 e && mE m f k && mE m g e) = true then some ⟨fun {k} {W} {C} {X} S => by
    simp only[aLR,aKU] at h;obtain ⟨⟨⟨⟨h1,h2⟩,h3⟩,h4⟩,h5⟩:=h;obtain ⟨v1,v2,v3⟩:=S.toSX.vis h2
    exact aEU i S.un (iZ (by rw[S.hN];exact h1) v1 v2 v3) (sE f S.toSX h4) (sE g S.toSX h5) (oQ h3)⟩ else none
noncomputable def aG8 {m : MC} {i} {fz} {f} {x} {px} {elt} {gens} {scope} {cp} {p6} : CkS m (.setC i fz f) (.Assign [.Name x px] (.ListComp elt gens scope cp) p6) := if h : (m.N[i]? == some x && m.kind x == some .local && m.sc.kind == .function && px.line == cp.line && !(scope.names.any fun y => y.1 == x && (y.2 == .local || y.2 == .cell)) && mC m elt scope f gens) = true then some ⟨fun {k} {W} {C} {X} S => by
    simp only[aLR,aKU,aNU] at h;obtain ⟨⟨⟨⟨⟨h1,h2⟩,h3⟩,h4⟩,h5⟩,h7⟩:=h;cases f with
    | comp el it ts aD t n=>exact aG3 S fz h1 h2 h3 h4 h5 h7
    | _=>cases h7⟩ else none
noncomputable def aG9 {m : MC} {f} {a} {b} {c} {x} {y} {p3} (r1 : CkB m a x) (r2 : CkB m b y) : CkS m (.ite f a b) (.If c x y p3) := if h : (mT m f c && (r1.isSome && r2.isSome)) = true then some ⟨fun {k} {W} {C} {X} S => by
    simp only[aLR] at h;obtain ⟨h1,h2,h3⟩:=h;exact aBK (sT f S.toSX h1) (got h2 S) (got h3 S)⟩ else none
noncomputable def aHA {m : MC} {f} {t} {b} {tg} {e} {body} {p3} (r1 : CkB m b body) : CkS m (.for f t b) (.For tg e body [] p3) := if h : (m.calm && mG m t tg && gR e && (mI m tg f e && r1.isSome)) = true then some ⟨fun {k} {W} {C} {X} S => by
    simp only[aLR] at h;obtain ⟨⟨⟨hq,h1⟩,h2⟩,h3,h4⟩:=h;exact aBS S.hp (S.cm hq) (sI f S.toSX h3) (aC6 (sG S.toSX S.nd t h1)) (got h4 S) (oP h2)⟩ else none
noncomputable def aHB {m : MC} {i} {f} {x} {p1} {a} {ap} {e} {cp} {p6} : CkS m (.app i f) (.Expr (.Call (.Attribute (.Name x p1) a ap) [e] [] cp) p6) := if h : (m.N[i]? == some x && m.vis x && a == "append" && ap.endLine == cp.line && bX e && mE m f e) = true then some ⟨fun {k} {W} {C} {X} S => by
    simp only[aLR,aKU] at h;obtain ⟨⟨⟨⟨⟨h1,h2⟩,rfl⟩,h3⟩,h4⟩,h5⟩:=h;obtain ⟨v1,v2,v3⟩:=S.toSX.vis h2
    exact aDH i (iZ (by rw[S.hN];exact h1) v1 v2 v3) (sE f S.toSX h5) h4 h3⟩ else none
noncomputable def aHC {m : MC} {i} {f} {g} {x} {p1} {k} {p3} {e} {p5} : CkS m (.lput i f g) (.Assign [.Subscript (.Name x p1) k p3] e p5) := if h : (m.N[i]? == some x && m.vis x && j0 e && mE m f k && mE m g e) = true then some ⟨fun {k} {W} {C} {X} S => by
    simp only[aLR,aKU] at h;obtain ⟨⟨⟨⟨h1,h2⟩,h3⟩,h4⟩,h5⟩:=h;obtain ⟨v1,v2,v3⟩:=S.toSX.vis h2
    exact aEI i (iZ (by rw[S.hN];exact h1) v1 v2 v3) (sE f S.toSX h4) (sE g S.toSX h5) (oQ h3)⟩ else none
theorem aHD{k:Nat}{W:WD}{m:MC}{C:Cw}{X:Cx}(S:SB k W m C X):PBv C X [] (evB W []):=by
 have:evB W []=λρ=>.nx ρ:=by funext ρ;simp only[evB]
 rw[this];exact aBF
noncomputable def aHE {m : MC} {i fs sts} (r : CkB m fs sts) : CkB m (.frzV i :: fs) sts := if h : r.isSome = true then some ⟨fun {k} {W} {C} {X} S => by
    have:evB W (.frzV i::fs)=λρ=>(iE ρ i).thn (evB W fs):=by funext ρ;rfl
    rw[this];exact aDN (got h S)⟩ else none
noncomputable def aHF {m : MC} {i fs sts} (r : CkB m fs sts) : CkB m (.nfrz i :: fs) sts := if h : r.isSome = true then some ⟨fun {k} {W} {C} {X} S => by
    have:evB W (.nfrz i::fs)=λρ=>(iK ρ i).thn (evB W fs):=by funext ρ;rfl
    rw[this];exact aFD (got h S)⟩ else none
noncomputable def aHG {m : MC} {f fs st sts} (r : CkS m f st) (r2 : CkB m fs sts) : CkB m (f :: fs) (st :: sts) := if h : (r.isSome && r2.isSome) = true then some ⟨fun {k} {W} {C} {X} S => by
    rw[aLR] at h;have:evB W (f::fs)=λρ=>(evS W f ρ).thn (evB W fs):=by funext ρ;simp only[evB]
    rw[this];exact aBH (got h.1 S) (got h.2 S)⟩ else none
set_option maxHeartbeats 4000000 in
mutual
noncomputable def ckS:(m:MC)->(f:D3.S)->(st:Stmt)->CkS m f st
 | m,.never,st=>some ⟨λ_=>aG2⟩
 | _,.frzV _,_=>none
 | _,.nfrz _,_=>none
 | m,.ret f,st=>match st with | .Return (some e) p1=>aG4 | _=>none
 | m,.retV i,st=>match st with | .Return (some (.Name x p1)) p2=>aG5 | _=>none
 | m,.set i f,st=>match st with | .Assign [.Name x p1] e p3=>aG6 | _=>none
 | m,.nput i f g,st=>match st with | .Assign [.Subscript (.Name x p1) k p3] e p5=>aG7 | _=>none
 | m,.setC i fz f,st=>match st with | .Assign [.Name x px] (.ListComp elt gens scope cp) p6=>aG8 | _=>none
 | m,.ite f a b,st=>match st with | .If c x y p3=>aG9 (ckB m a x) (ckB m b y) | _=>none
 | m,.for f t b,st=>match st with | .For tg e body [] p3=>aHA (ckB m b body) | _=>none
 | m,.lput i f g,st=>match st with | .Assign [.Subscript (.Name x p1) k p3] e p5=>aHC | _=>none
 | m,.app i f,st=>match st with | .Expr (.Call (.Attribute (.Name x p1) a ap) [e] [] cp) p6=>aHB | _=>none
noncomputable def ckB:(m:MC)->(f:List D3.S)->(sts:List Stmt)->CkB m f sts
 | m,[],sts=>match sts with | []=>some ⟨λS=>aHD S⟩ | _=>none
 | m,.frzV i::fs,sts=>aHE (ckB m fs sts)
 | m,.nfrz i::fs,sts=>aHF (ckB m fs sts)
 | m,f::fs,sts=>match sts with | st::sts=>aHG (ckS m f st) (ckB m fs sts) | _=>none
end
noncomputable def mB(m:MC)(f:List D3.S)(sts:List Stmt):Bool:=(ckB m f sts).isSome
theorem sB{k:Nat}{W:WD}{m:MC}{C:Cw}{X:Cx}(S:SB k W m C X)(f:List D3.S){sts:List Stmt}(h:mB m f sts=true):PBv C X sts (evB W f):=got h S
abbrev IB:=Unit
structure FD where
 ps:List Str
 N:List Str
 b:List D3.S
structure ID where
 c:Str
 ps:List Str
 N:List Str
 ib:IB
structure TB where
 T:List (Str×FD)
 I:List (Str×ID)
 cl:List CI
 xt:List ((Str×Str)×Bool)
 xi:List ((Str×Str)×Bool)
noncomputable def oR(W:WD)(i:ID):List D->Res:=λ_=>.stuck
noncomputable def j2(t:TB)(W:WD)(f:Str):List D->Res:=match t.T.lookup f with
 | some d=>phi d.ps.length d.N.length (evB W d.b)
 | none=>λ_=>.stuck
noncomputable def WT(t:TB):Nat->WD
 | 0=>⟨λ_ _=>.stuck,λ_=>none,t.cl,t.xt,t.xi⟩
 | 1=>⟨λf=>j2 t ⟨λ_ _=>.stuck,λ_=>none,t.cl,t.xt,t.xi⟩ f,λ_=>none,t.cl,t.xt,t.xi⟩
 | k+2=>⟨λf=>j2 t (WT t (k+1)) f,λkey=>match t.I.lookup key with | some i=>some (oR (WT t k) i) | none=>none,t.cl,t.xt,t.xi⟩
theorem lP(t:TB):∀ k,(WT t k).cl=t.cl
 | 0=>rfl
 | 1=>rfl
 | k+2=>rfl
theorem uO(t:TB):∀ k,(WT t k).xt=t.xt
 | 0=>rfl
 | 1=>rfl
 | k+2=>rfl
theorem uP(t:TB):∀ k,(WT t k).xi=t.xi
 | 0=>rfl
 | 1=>rfl
 | k+2=>rfl
theorem WT_Φ(t:TB):∀ k f,(WT t (k+1)).Φ f=j2 t (WT t k) f
 | 0,f=>rfl
 | k+1,f=>rfl
noncomputable def oS(N ps:List Str)(sc:Scope):Bool:=sc.kind == .function&&!sc.isCoroutine&&!sc.isGenerator&&decide N.Nodup&&(N.take ps.length==ps)&&ps.all (λx=>sc.names.lookup x==some .local||sc.names.lookup x==some .cell)&&sc.names.all (λy=>y.2 != .free)
theorem aHH{N ps:List Str}{sc:Scope}(h:oS N ps sc=true):kQ N ps sc:=by unfold oS at h;simp only[aLR,aN9,aMF,aOM,aKU,aMD,aNU] at h;obtain ⟨⟨⟨⟨⟨⟨h1,h2⟩,h3⟩,h4⟩,h5⟩,h6⟩,h7⟩:=h;exact ⟨h1,h2,h3,h4,h5,h6,h7⟩
noncomputable def gT(g:MG)(st:Stmt)(d:FD):Bool:=oS d.N d.ps (eE st)&&mB ⟨d.N,eE st,g,true,true,true⟩ d.b (hC st)
noncomputable def idOk(g:MG)(st:Stmt)(d:ID):Bool:=false
noncomputable def uQ(K:Fg)(g:MG)(fa:Str->Addr)(key:Str)(d:FD):Prop :=
 ∃ name st fd,Fun K name key st (fa key) fd/\eU K fd d.ps []/\gT g st d=true
noncomputable def j3(K:Fg)(g:MG)(fa:Str->Addr):List (Str×FD)->Prop
 | []=>True
 | (x,d)::r=>uQ K g fa x d/\j3 K g fa r
theorem j3.at{K:Fg}{g:MG}{fa:Str->Addr}:∀ {T:List (Str×FD)} {x:Str} {d:FD},j3 K g fa T->T.lookup x=some d->uQ K g fa x d
 | [],_,_,_,e=>by cases e
 | (y,d')::r,x,d,h,e=>by
  rw[aMB] at e;split at e
  . rename_i hb;cases e;rw[aKU] at hb;subst hb;exact h.1
  . exact h.2.at e
noncomputable def uR(K:Fg)(mg:SOV)(g:MG)(key:Str)(d:ID):Prop :=
 ∃ name st C f fd,PySem.W.nsIn K mainGlobals d.c=some (some (.ref C))/\mg d.c=some (.ref C)/\Mk K C f/\Fun K name key st f fd/\eU K fd d.ps []/\idOk g st d=true
noncomputable def j4(K:Fg)(mg:SOV)(g:MG):List (Str×ID)->Prop
 | []=>True
 | (x,d)::r=>uR K mg g x d/\j4 K mg g r
theorem j4.at{K:Fg}{mg:SOV}{g:MG}:∀ {T:List (Str×ID)} {x:Str} {d:ID},j4 K mg g T->T.lookup x=some d->uR K mg g x d
 | [],_,_,_,e=>by cases e
 | (y,d')::r,x,d,h,e=>by
  rw[aMB] at e;split at e
  . rename_i hb;cases e;rw[aKU] at hb;subst hb;exact h.1
  . exact h.2.at e
noncomputable def GVOk(w:World)(K:Fg)(mg:SOV)(fa:Str->Addr)(x:Str):GV->Prop
 | .con (.s y)=>∃ t,mg x=some (.str y t)
 | .con (.i n)=>∃ t,mg x=some (.int n t)
 | .con (.t tb)=>iD w K mg x tb
 | .no=>mg x=none
 | .fn _=>mg x=some (.ref (fa x))
 | .cls=>True
noncomputable def j5(w:World)(K:Fg)(mg:SOV)(fa:Str->Addr):List (Str×GV)->Prop
 | []=>True
 | (x,v)::r=>GVOk w K mg fa x v/\j5 w K mg fa r
theorem j5.at{w:World}{K:Fg}{mg:SOV}{fa:Str->Addr}:∀ {G:List (Str×GV)} {x:Str} {v:GV},j5 w K mg fa G->G.lookup x=some v->GVOk w K mg fa x v
 | [],_,_,_,e=>by cases e
 | (y,v')::r,x,v,h,e=>by
  rw[aMB] at e;split at e
  . rename_i hb;cases e;rw[aKU] at hb;subst hb;exact h.1
  . exact h.2.at e
noncomputable def gOk(G:List (Str×GV))(T:List (Str×FD)):Bool:=G.all λ(x,v)=>match v with | .fn n=>(match T.lookup x with | some d=>d.ps.length==n | none=>false) | _=>true
theorem uS{T:List (Str×FD)}:∀ {G:List (Str×GV)} {x:Str} {n:Nat},gOk G T=true->G.lookup x=some (.fn n)->∃ d,T.lookup x=some d/\d.ps.length=n
 | [],_,_,_,e=>by cases e
 | (y,v')::r,x,n,h,e=>by
  unfold gOk at h;rw[aOO,aLR] at h;rw[aMB] at e;split at e
  . rename_i hb;cases e;rw[aKU] at hb;subst hb;have h1:=h.1;dsimp only at h1;cases q:T.lookup x with
    | none=>rw[q] at h1;cases h1
    | some d=>rw[q] at h1;exact ⟨d,rfl,by simpa using h1⟩
  . exact uS (G:=r) h.2 e
noncomputable def mtOk(cl:List CI)(T:List (Str×FD)):Bool:=cl.all λi=>i.meths.all λ(_,key,n)=>match T.lookup key with | some d=>d.ps.length==n | none=>false
noncomputable def uT(mki:List (Str×Str×Nat))(I:List (Str×ID)):Bool:=mki.all λ(c,key,n)=>match I.lookup key with | some d=>d.c==c&&d.ps.length==n+1 | none=>false
noncomputable def iL(K:Fg)(fa:Str->Addr)(C:Addr):List (Str×Str×Nat)->Prop
 | []=>True
 | (m,key,_)::r=>i9 K C m (fa key)/\iL K fa C r
noncomputable def iM(K:Fg)(C:Addr):List Str->Prop
 | []=>True
 | f::r=>mU K C f/\iM K C r
noncomputable def j6(K:Fg)(fa:Str->Addr):List CI->Prop
 | []=>True
 | i::r=>(∃ C,PySem.W.nsIn K mainGlobals i.name=some (some (.ref C))/\Cls K C/\iL K fa C i.meths/\iM K C i.flds)/\j6 K fa r
theorem j6.at{K:Fg}{fa:Str->Addr}:∀ {cl:List CI} {i:CI},j6 K fa cl->i∈cl->∃ C,PySem.W.nsIn K mainGlobals i.name=some (some (.ref C))/\Cls K C/\iL K fa C i.meths/\iM K C i.flds
 | [],_,_,h=>by cases h
 | j::r,i,h,hi=>by
  rcases aJ7.mp hi with rfl | hi
  . exact h.1
  . exact h.2.at hi
theorem iM.at{K:Fg}{C:Addr}:∀ {l:List Str} {f:Str},iM K C l->f∈l->mU K C f
 | [],_,_,h=>by cases h
 | j::r,i,h,hi=>by
  rcases aJ7.mp hi with rfl | hi
  . exact h.1
  . exact h.2.at hi
theorem iL.at{K:Fg}{fa:Str->Addr}{C:Addr}:∀ {l:List (Str×Str×Nat)} {m key:Str} {n:Nat},iL K fa C l->l.lookup m=some (key,n)->i9 K C m (fa key)
 | [],_,_,_,_,e=>by cases e
 | (m',key',n')::r,m,key,n,h,e=>by
  rw[aMB] at e;split at e
  . rename_i hb;cases e;rw[aKU] at hb;subst hb;exact h.1
  . exact h.2.at e
structure GF(w:World)(K:Fg)(mg:SOV)(g:MG)(t:TB)(fa:Str->Addr):Prop where
 con:j5 w K mg fa g.G
 gok:gOk g.G t.T=true
 all:j3 K g fa t.T
 alli:j4 K mg g t.I
 mk0:∀ c,c∈g.mk0->nC K mg c
 mkok:uT g.mki t.I=true
 iso:∀ c,c∈g.iso->IsV K mg t.cl c
 cls:j6 K fa t.cl
 mtok:mtOk t.cl t.T=true
 xtok:nK K mg (λc x=>t.xt.lookup (c,x))
 xiok:nL K mg (λc x=>t.xi.lookup (c,x))
 xcok:∀ c,c∈g.xcs->∃ Cc,mg c=some (.ref Cc)/\sC K Cc
 xnok:∀ n,n∈g.xns->∃ cv,k9 mg n cv
theorem uU{K:Fg}{mg:SOV}{n:Nat}{Φ:List D->Res}{vs:List V}{H:Hp}{Q:VK}{E:XK}(hz:∀ ds,Φ ds=.stuck)(h:spV K mg n Φ vs H Q E):False:=by obtain ⟨_,F,ds,_,_,h⟩:=h;rw[hz] at h;exact h
section
variable {P:Program}{w:World}{K:Fg}{mg:SOV}{base:Heap}{g:MG}{t:TB}{fa:Str->Addr}
structure iN(P:Program)(w:World)(K:Fg)(mg:SOV)(base:Heap)(t:TB)(fa:Str->Addr)(k:Nat):Prop where
 fn:∀ key d,t.T.lookup key=some d->∃ fd,cK P w K mg base (CX1 P w) k (fa key) fd d.ps (spV K mg d.ps.length ((WT t k).Φ key))/\eU K fd d.ps []/\PySem.W.keepIn K (.ref (fa key))=true
 ini:∀ key d Φ,t.I.lookup key=some d->(WT t k).I key=some Φ->∃ j,j+1<=k/\InV P w K mg base (CX1 P w) j d.c (d.ps.length-1) Φ
theorem sx_of(f:GF w K mg g t fa){k:Nat}(A:iN P w K mg base t fa k){N:List Str}{sc:Scope}{C:Cw}{X:Cx}(hP:X.prog=P)(hw:X.w=w)(hK:X.K=K)(hmg:X.mg=mg)(hb:X.base=base)(hN:X.N=N)(hs:X.env.scope=sc)(cm:X.calm=true)(rm:bV k X.A)(hfn:∀ x,X.fn x=true)(xo:XOk (CX1 X.prog X.w) (C.at X) X):SX k (WT t k) ⟨N,sc,g,true,true,true⟩ C X:=by
 subst hP hw hK hmg hb;refine ⟨hN,hs,λ_=>cm,λ_=>rm,rm.units,λ_=>xo,?_,?_,f.xcok,f.xnok,λy c l=>?_,λy l=>f.con.at l,λc hc=>f.mk0 c hc,λc key n hm Φ e=>?_,λc hc=>by rw[lP];exact f.iso c hc,λi f' hi hf=>?_,λc m key n e=>?_,λy n l=>?_,λ_=>hfn⟩
 . unfold WD.xf;rw[uO];exact f.xtok
 . unfold WD.xg;rw[uP];exact f.xiok
 . have:=f.con.at l;cases c <;> exact this
 . have h1:=aN9.mp f.mkok (c,key,n) hm;dsimp only at h1;cases q:t.I.lookup key with
   | none=>rw[q] at h1;cases h1
   | some d=>rw[q] at h1;simp only[aLR,aKU] at h1;obtain ⟨j,hj,M⟩:=A.ini key d Φ q e;rw[h1.1,h1.2] at M;exact ⟨j,hj,M⟩
 . rw[lP] at hi;obtain ⟨C',h1,h2,_,h4⟩:=f.cls.at hi;exact ⟨C',h1,h2,h4.at hf⟩
 . rw[lP] at e;unfold CI.meth at e;split at e
   . rename_i i ei;have hi:=List.mem_of_find?_eq_some ei;have hn:i.name=c:=by simpa using List.find?_some ei
     obtain ⟨C',h1,h2,h3,_⟩:=f.cls.at hi;have hmo:=aN9.mp (aN9.mp f.mtok i hi) (m,key,n) (aK3 e);dsimp only at hmo;cases q:t.T.lookup key with
     | none=>rw[q] at hmo;cases hmo
     | some d=>rw[q] at hmo;rw[aKU] at hmo;obtain ⟨fd,FO,hb,_⟩:=A.fn key d q;rw[hmo] at FO;exact ⟨C',fa key,fd,d.ps,by rw[<- hn];exact h1,h2,h3.at e,FO,hb⟩
   . cases e
 . obtain ⟨d,e,rfl⟩:=uS f.gok l;obtain ⟨fd,FO,hb,hk⟩:=A.fn y d e;exact ⟨fa y,fd,d.ps,FO,f.con.at l,hk,hb⟩
theorem oU(f:GF w K mg g t fa){k:Nat}(A:iN P w K mg base t fa k){key:Str}{d:FD}{name:Str}{st:Stmt}{fd:FuncData}{a:Addr}(F:Fun K name key st a fd)(e:t.T.lookup key=some d)(ok:gT g st d=true):cK P w K mg base (CX1 P w) (k+1) a fd d.ps (spV K mg d.ps.length ((WT t (k+1)).Φ key)):=by
 unfold gT at ok;rw[aLR] at ok;have sc:=aHH ok.1;have:(WT t (k+1)).Φ key=phi d.ps.length d.N.length (evB (WT t k) d.b):=by rw[WT_Φ];unfold j2;rw[e]
 rw[this];exact aDF (k:=k) F sc λC cdv A' outer s H En hE hr=>sB (m:=⟨d.N,eE st,g,true,true,true⟩) (X:=cQ (CX1 P w) P w K mg base d.N key (eE st) a cdv A' outer s H En) ⟨sx_of f A rfl rfl rfl rfl rfl rfl rfl rfl hr (λ_=>rfl) (aDD (K:=K) (H:=H) (outer:=outer) hE),sc.nd,PassesOwn.leaving,λ_=>⟨aDE (K:=K) (H:=H) (outer:=outer) hE,fnCx,aDK (K:=K) (H:=H) (outer:=outer) hE⟩⟩ d.b ok.2
theorem aHI(f:GF w K mg g t fa){k:Nat}(A:iN P w K mg base t fa k){key:Str}{d:ID}(e:t.I.lookup key=some d):InV P w K mg base (CX1 P w) (k+1) d.c (d.ps.length-1) (oR (WT t k) d):=by obtain ⟨name,st,C2,a,fd,ns,hm,M,F,hb,ok⟩:=f.alli.at e;cases ok
theorem uV(f:GF w K mg g t fa):∀ k,iN P w K mg base t fa k/\iN P w K mg base t fa (k+1)
 | 0=>by
  have A0:iN P w K mg base t fa 0:=⟨λkey d e=>by
   obtain ⟨name,st,fd,F,hb,_⟩:=f.all.at e;exact ⟨fd,⟨λvs H Q En h=>(uU (λ_=>rfl) h).elim,λA outer s H args us vs Q En _ _ _ _ h=>(uU (λ_=>rfl) h).elim⟩,hb,F.kp⟩,λkey d Φ _ e=>by cases e⟩
  refine ⟨A0,λkey d e=>?_,λkey d Φ _ e=>by cases e⟩
  obtain ⟨name,st,fd,F,hb,ok⟩:=f.all.at e;exact ⟨fd,oU f A0 F e ok,hb,F.kp⟩
 | k+1=>by
  obtain ⟨A0,A1⟩:=uV f k;refine ⟨A1,λkey d e=>?_,λkey d Φ e ei=>?_⟩
  . obtain ⟨name,st,fd,F,hb,ok⟩:=f.all.at e;exact ⟨fd,oU f A1 F e ok,hb,F.kp⟩
  . have ei:(match t.I.lookup key with | some i=>some (oR (WT t k) i) | none=>none)=some Φ:=ei
    rw[e] at ei;cases ei;exact ⟨k+1,aKL _,aHI f A0 e⟩
end
noncomputable def oV(K:Fg)(Φ:List D->Res):Sp:=λvs H Q E=>∃ a ns,vs=[.ref a]/\SqL K H a (ns.map V.int)/\Φ (k4 ns)=.ok .fz (.bl true)/\∀ H',Q (.bl true) H'
theorem aHJ{P:Program}{w:World}{K:Fg}{mg:SOV}{base:Heap}{CX:CXT}{k:Nat}{f:Addr}{fd:FuncData}{ps:List Str}{Φ:List D->Res}(h:cK P w K mg base CX k f fd ps (spV K mg 1 Φ)):cK P w K mg base CX k f fd ps (oV K Φ) :=
 h.imp λvs H Q E ⟨a,ns,e,hq,hp,q⟩=>by
  subst e;refine ⟨rfl,H,k4 ns,aE.refl _,aC.cons ?_ aC.nil,?_⟩
  . simp only[aB];exact ⟨a,_,rfl,hq,rW ns⟩
  . rw[hp];exact ⟨by decide,λv F' H' s rp _=>by rw[rp.bl];exact q H'⟩
theorem aHK{P:Program}{w:World}{K:Fg}{mg:SOV}{base:Heap}{g:MG}{t:TB}{fa:Str->Addr}(f:GF w K mg g t fa)(k:Nat){a:Addr}{fd:FuncData}{d:FD}{st:Stmt}(F:Fun K "law" "law" st a fd)(e:t.T.lookup ("law" : Str)=some d)(ok:gT g st d=true)(hl:d.ps.length=1):cK P w K mg base (CX1 P w) (k+1) a fd d.ps (oV K ((WT t (k+1)).Φ ("law" : Str))):=by have:=oU (P:=P) (w:=w) (base:=base) f (uV f k).1 F e ok;rw[hl] at this;exact aHJ this
end D3
namespace D3
open PySem L2
section
variable {W:WD}{ρ:Rho}{a b c:E}{es:List E}
@[simp] theorem e_var{i}:evE W (.var i) ρ=eV ρ i:=Eq.trans rfl rfl
@[simp] theorem e_non:evE W .non ρ=.ok .fz .non:=Eq.trans rfl rfl
@[simp] theorem e_bl{b}:evE W (.bl b) ρ=.ok .fz (.bl b):=Eq.trans rfl rfl
@[simp] theorem e_int{i}:evE W (.int i) ρ=.ok .fz (.int i):=Eq.trans rfl rfl
@[simp] theorem e_str{x}:evE W (.str x) ρ=.ok .fz (.str x):=Eq.trans rfl rfl
@[simp] theorem e_globS{x y}:evE W (.glob x (.s y)) ρ=.ok .fz (.str y):=Eq.trans rfl rfl
@[simp] theorem e_globI{x y}:evE W (.glob x (.i y)) ρ=.ok .fz (.int y):=Eq.trans rfl rfl
@[simp] theorem e_ty{t:Ty}:evE W (.ty t) ρ=.ok .fz (.ty t.id):=Eq.trans rfl rfl
@[simp] theorem e_bin{op}:evE W (.bin op a b) ρ=op2 (a6 op) (evE W a ρ) (evE W b ρ):=Eq.trans rfl rfl
@[simp] theorem e_cmp{op}:evE W (.cmp op a b) ρ=op2 (bK op) (evE W a ρ) (evE W b ρ):=Eq.trans rfl rfl
@[simp] theorem e_andL:evE W (.andL es) ρ=evA W es ρ:=Eq.trans rfl rfl
@[simp] theorem e_orL:evE W (.orL es) ρ=cN W es ρ:=Eq.trans rfl rfl
@[simp] theorem e_not:evE W (.not a) ρ=jD (evE W a ρ):=Eq.trans rfl rfl
@[simp] theorem e_neg:evE W (.neg a) ρ=kY (evE W a ρ):=Eq.trans rfl rfl
@[simp] theorem e_tru:evE W (.tru a) ρ=jC (evE W a ρ):=Eq.trans rfl rfl
@[simp] theorem e_frz:evE W (.frz a) ρ=a5 (evE W a ρ):=Eq.trans rfl rfl
@[simp] theorem e_ix:evE W (.ix a b) ρ=op2 ixD (evE W a ρ) (evE W b ρ):=Eq.trans rfl rfl
@[simp] theorem e_slice{l h}:evE W (.slice a l h) ρ=slP (evE W a ρ) (evO W l) (evO W h) ρ:=Eq.trans rfl rfl
@[simp] theorem e_tup:evE W (.tup es) ρ=gC (bI W es ρ):=Eq.trans rfl rfl
@[simp] theorem e_lst:evE W (.lst es) ρ=gD (bI W es ρ):=Eq.trans rfl rfl
@[simp] theorem e_call{f n}:evE W (.call f n es) ρ=bO n (W.Φ f) (bI W es ρ):=Eq.trans rfl rfl
@[simp] theorem e_bcall{f:Bn}:evE W (.bcall f es) ρ=eF f.f (bI W es ρ):=Eq.trans rfl rfl
@[simp] theorem e_items:evE W (.items a) ρ=iA (a5 (evE W a ρ)):=Eq.trans rfl rfl
@[simp] theorem e_rng1:evE W (.rng1 a) ρ=fD (cZ (evE W a ρ) (.ok [])):=Eq.trans rfl rfl
@[simp] theorem e_nnew:evE W .nnew ρ=.ok .fr (.dtn []):=Eq.trans rfl rfl
@[simp] theorem e_nix:evE W (.nix a b) ρ=op2 jS (evE W a ρ) (evE W b ρ):=Eq.trans rfl rfl
@[simp] theorem e_nget{k d:E}:evE W (.nget a k d) ρ=jT (evE W a ρ) (evE W k ρ) (evE W d ρ):=Eq.trans rfl rfl
@[simp] theorem e_nkeys:evE W (.nkeys a) ρ=jX (evE W a ρ):=Eq.trans rfl rfl
@[simp] theorem e_srtw:evE W (.srtw a) ρ=eF eX (cZ (evE W a ρ) (.ok [])):=Eq.trans rfl rfl
@[simp] theorem e_us2:evE W (.us2 a) ρ=fH (evE W a ρ):=Eq.trans rfl rfl
@[simp] theorem e_comp{ts:List E}{aD t n}:evE W (.comp a b ts aD t n) ρ=dB (evE W b ρ) ρ aD n (aU t) (λρ=>evF W ts ρ) (λρ=>evE W a ρ):=Eq.trans rfl rfl
@[simp] theorem el_nil:evL W []=[]:=by simp only[evL]
@[simp] theorem el_cons:evL W (a::es)=evE W a::evL W es:=by simp only[evL]
@[simp] theorem sg_nm{i:Nat}{d:D}:aU (.nm i) d ρ=some (ρ.set i (some (false,d))):=by simp only[aU]
@[simp] theorem sg_tp{ts:List Tg}{ds:List D}:aU (.tp ts) (.tup ds) ρ=cM ts ds ρ:=by simp only[aU]
@[simp] theorem sg_tpl{ts:List Tg}{ds:List D}:aU (.tp ts) (.lst ds) ρ=cM ts ds ρ:=by simp only[aU]
@[simp] theorem sgs_nil:cM [] [] ρ=some ρ:=by simp[cM]
@[simp] theorem sgs_cons{t:Tg}{ts:List Tg}{d:D}{ds:List D}:cM (t::ts) (d::ds) ρ=(aU t d ρ).bind (cM ts ds):=by simp only[cM];cases aU t d ρ <;> rfl
@[simp] theorem e_tcall{t:Ty}:evE W (.tcall t es) ρ=eF t.f (bI W es ρ):=Eq.trans rfl rfl
@[simp] theorem e_meth{x}:evE W (.meth a x es) ρ=fQ W.cl W.Φ x (evE W a ρ) (bI W es ρ):=Eq.trans rfl rfl
@[simp] theorem e_mk0{x}:evE W (.mk0 x) ρ=.ok .fr (.ins x []):=Eq.trans rfl rfl
@[simp] theorem es_nil:bI W [] ρ=.ok []:=by simp only[bI]
@[simp] theorem es_cons:bI W (a::es) ρ=cZ (evE W a ρ) (bI W es ρ):=by simp only[bI]
@[simp] theorem ea_one:evA W [a] ρ=evE W a ρ:=by simp only[evA]
@[simp] theorem ea_cons:evA W (a::b::es) ρ=dQ (evE W a ρ) (evA W (b::es) ρ):=by simp only[evA]
@[simp] theorem eo_one:cN W [a] ρ=evE W a ρ:=by simp only[cN]
@[simp] theorem eo_cons:cN W (a::b::es) ρ=orR (evE W a ρ) (cN W (b::es) ρ):=by simp only[cN]
@[simp] theorem aHL:evF W [] ρ=.ok .fz (.bl true):=by simp only[evF]
@[simp] theorem ef_cons:evF W (a::es) ρ=dQ (evE W a ρ) (evF W es ρ):=by simp only[evF]
@[simp] theorem eo_none:evO W none=none:=by simp only[evO]
@[simp] theorem eo_some:evO W (some a)=some (evE W a):=by simp only[evO]
@[simp] theorem s_ret:evS W (.ret a) ρ=hX (evE W a ρ) ρ:=Eq.trans rfl rfl
@[simp] theorem s_retV{i}:evS W (.retV i) ρ=eH ρ i:=Eq.trans rfl rfl
@[simp] theorem s_set{i}:evS W (.set i a) ρ=dR ρ i (evE W a ρ):=Eq.trans rfl rfl
@[simp] theorem s_ite{x y:List S}:evS W (.ite a x y) ρ=ifS (evE W a ρ) ρ (evB W x ρ) (evB W y ρ):=Eq.trans rfl rfl
@[simp] theorem s_for{t:Tg}{y:List S}:evS W (.for a t y) ρ=fO (evE W a ρ) ρ (aU t) (evB W y):=Eq.trans rfl rfl
@[simp] theorem s_lput{i k}:evS W (.lput i k a) ρ=fG ρ i (evE W k ρ) (evE W a ρ):=Eq.trans rfl rfl
@[simp] theorem s_app{i}:evS W (.app i a) ρ=eL ρ i (evE W a ρ):=Eq.trans rfl rfl
@[simp] theorem s_frzV{i}:evS W (.frzV i) ρ=iE ρ i:=Eq.trans rfl rfl
@[simp] theorem s_nfrz{i}:evS W (.nfrz i) ρ=iK ρ i:=Eq.trans rfl rfl
@[simp] theorem s_nput{i}:evS W (.nput i a b) ρ=jU ρ i (evE W a ρ) (evE W b ρ):=Eq.trans rfl rfl
@[simp] theorem s_setC{i}:evS W (.setC i false a) ρ=dR ρ i (evE W a ρ):=Eq.trans rfl rfl
@[simp] theorem s_setCf{i}:evS W (.setC i true a) ρ=dR ρ i (a5 (evE W a ρ)):=Eq.trans rfl rfl
@[simp] theorem b_nil:evB W [] ρ=.nx ρ:=by simp only[evB]
@[simp] theorem uW{s:S}{r:List S}:evB W (s::r) ρ=(evS W s ρ).thn (evB W r):=by simp only[evB]
end
section
variable {m n:Md}{i j:Int}{ρ:Rho}{d:D}
@[simp] theorem x_add:op2 (a6 .Add) (.ok m (.int i)) (.ok n (.int j))=.ok .fz (.int (i+j)):=rfl
@[simp] theorem x_band:op2 (a6 .BitAnd) (.ok m (.int i)) (.ok n (.int j))=.ok .fz (.int (Builtin.bitAnd i j)):=rfl
@[simp] theorem x_bor:op2 (a6 .BitOr) (.ok m (.int i)) (.ok n (.int j))=.ok .fz (.int (Builtin.bitOr i j)):=rfl
@[simp] theorem x_shl(h:0<=j)(h1:j<=1000000)(h2:i.natAbs<2 ^ 64):op2 (a6 .LShift) (.ok m (.int i)) (.ok n (.int j))=.ok .fz (.int (i * 2 ^ j.toNat)):=by
 show (match (if (decide (0<=j)&&decide (j<=1000000)&&decide (i.natAbs<2 ^ 64))=true then some (Md.fz,D.int (i * 2 ^ j.toNat)) else none) with | some (m,d)=>Res.ok m d | none=>.stuck)=_
 rw[aLZ h,aLZ h1,aLZ h2];rfl
@[simp] theorem x_shr(h:0<=j):op2 (a6 .RShift) (.ok m (.int i)) (.ok n (.int j))=.ok .fz (.int (i / 2 ^ j.toNat)):=by
 show (match (if decide (0<=j)=true then some (Md.fz,D.int (i / 2 ^ j.toNat)) else none) with | some (m,d)=>Res.ok m d | none=>.stuck)=_
 rw[aLZ h];rfl
@[simp] theorem x_sub:op2 (a6 .Sub) (.ok m (.int i)) (.ok n (.int j))=.ok .fz (.int (i-j)):=rfl
@[simp] theorem x_lt:op2 (bK .Lt) (.ok m (.int i)) (.ok n (.int j))=.ok .fz (.bl (decide (i<j))):=rfl
@[simp] theorem x_le:op2 (bK .LtE) (.ok m (.int i)) (.ok n (.int j))=.ok .fz (.bl (decide (i<=j))):=rfl
@[simp] theorem x_gt:op2 (bK .Gt) (.ok m (.int i)) (.ok n (.int j))=.ok .fz (.bl (decide (j<i))):=rfl
@[simp] theorem x_ge:op2 (bK .GtE) (.ok m (.int i)) (.ok n (.int j))=.ok .fz (.bl (decide (j<=i))):=rfl
@[simp] theorem uX(h:0<j):op2 (a6 .Mod) (.ok m (.int i)) (.ok n (.int j))=.ok .fz (.int (i % j)):=by show Res.of (if decide (0<j)=true then _ else _)=_;rw[if_pos (aLZ h)];rfl
theorem x_div(h:0<j)(hb:bits j=true):op2 (a6 .FloorDiv) (.ok m (.int i)) (.ok n (.int j))=.ok .fz (.int (i / j)):=by show Res.of (if (decide (0<j)&&bits j)=true then _ else _)=_;rw[if_pos (by rw[hb,aLZ h];rfl)];rfl
theorem aHM(h:i.natAbs<10 ^ 2000):bits i=true:=by
 unfold bits;refine aLZ ?_;by_cases h0:i.natAbs=0
 . rw[h0];decide
 . refine (Nat.log2_lt h0).mpr (Nat.lt_trans h ?_);decide +kernel
theorem aHN{N:Nat}(h:i.natAbs<=N)(hN:N<10 ^ 2000:=by decide +kernel):bits i=true:=aHM (Nat.lt_of_le_of_lt h hN)
@[simp] theorem uY(h:0<j)(hb:j.natAbs<=1000000000):op2 (a6 .FloorDiv) (.ok m (.int i)) (.ok n (.int j))=.ok .fz (.int (i / j)):=x_div h (aHN hb)
theorem aHO(h:((bits i&&bits j)||(w64 i||w64 j))=true):op2 (a6 .Mult) (.ok m (.int i)) (.ok n (.int j))=.ok .fz (.int (i * j)):=by show Res.of (((if ((bits i&&bits j)||(w64 i||w64 j))=true then _ else _:Option (Md×D)).orElse _).orElse _)=_;rw[if_pos h];rfl
theorem uZ(h:i.natAbs<9000000000000000000):op2 (a6 .Mult) (.ok m (.int i)) (.ok n (.int j))=.ok .fz (.int (i * j)):=aHO (by
 have:w64 i=true:=aLZ (by omega)
 rw[this];simp)
theorem bZ{φ:Md->D->Md->D->Option (Md×D)}{x y d:D}{k:Md}(h:φ m x n y=some (k,d)):op2 φ (.ok m x) (.ok n y)=.ok k d:=by show Res.of (φ m x n y)=_;rw[h];rfl
@[simp] theorem x_eqI:op2 (bK .Eq) (.ok m (.int i)) (.ok n (.int j))=.ok .fz (.bl (i==j)):=bZ rfl
@[simp] theorem x_neI:op2 (bK .NotEq) (.ok m (.int i)) (.ok n (.int j))=.ok .fz (.bl (i != j)):=bZ rfl
@[simp] theorem x_eqB{a b:Bool}:op2 (bK .Eq) (.ok m (.bl a)) (.ok n (.bl b))=.ok .fz (.bl (a==b)):=bZ rfl
@[simp] theorem x_neB{a b:Bool}:op2 (bK .NotEq) (.ok m (.bl a)) (.ok n (.bl b))=.ok .fz (.bl (a != b)):=bZ rfl
@[simp] theorem x_eqS{a b:Str}:op2 (bK .Eq) (.ok m (.str a)) (.ok n (.str b))=.ok .fz (.bl (a==b)):=bZ (by rfl)
@[simp] theorem x_neS{a b:Str}:op2 (bK .NotEq) (.ok m (.str a)) (.ok n (.str b))=.ok .fz (.bl (a != b)):=bZ (by rfl)
@[simp] theorem x_inS{a b:Str}:op2 (bK .In) (.ok m (.str a)) (.ok n (.str b))=.ok .fz (.bl (hV a b)):=bZ rfl
@[simp] theorem x_notinS{a b:Str}:op2 (bK .NotIn) (.ok m (.str a)) (.ok n (.str b))=.ok .fz (.bl (!hV a b)):=bZ rfl
@[simp] theorem lQ{a b:Str}(h:a.length+b.length<=sizeLine):op2 (a6 .Add) (.ok m (.str a)) (.ok n (.str b))=.ok .fz (.str (a++b)) :=
 bZ (by
  have:fS (λi j=>decide (i.length+j.length<=sizeLine)) (λi j=>D.str (i++j)) m (.str a) n (.str b)=some (Md.fz,D.str (a++b)):=by show (if decide (a.length+b.length<=sizeLine)=true then some (Md.fz,D.str (a++b)) else none)=_;rw[if_pos (aLZ h)]
  show orO (orO (fI (λ_ _=>true) λi j=>.int (i+j)) (fS (λi j=>decide (i.length+j.length<=sizeLine)) λi j=>.str (i++j))) k7 m (.str a) n (.str b)=_;simp only[orO,this];rfl)
@[simp] theorem x_isN{d:D}:op2 (bK .Is) (.ok m d) (.ok n .non)=.ok .fz (.bl (dC d)):=bZ rfl
@[simp] theorem x_isnotN{d:D}:op2 (bK .IsNot) (.ok m d) (.ok n .non)=.ok .fz (.bl (!dC d)):=bZ rfl
@[simp] theorem aHP{x y:List D}(h:x.length+y.length<=sizeLine):op2 (a6 .Add) (.ok m (.lst x)) (.ok n (.lst y))=.ok .fr (.lst (x++y)):=bZ (by
 show (if x.length+y.length<=sizeLine then some (Md.fr,D.lst (x++y)) else none)=_;rw[if_pos h])
@[simp] theorem aHQ{x y:List D}(h:x.length+y.length<=sizeLine):op2 (a6 .Add) (.ok m (.tup x)) (.ok n (.tup y))=.ok .fz (.tup (x++y)):=bZ (by
 show (if x.length+y.length<=sizeLine then some (Md.fz,D.tup (x++y)) else none)=_;rw[if_pos h])
@[simp] theorem isn_n:dC .non=true:=rfl
@[simp] theorem isn_i{i:Int}:dC (.int i)=false:=rfl
@[simp] theorem isn_b{i:Bool}:dC (.bl i)=false:=rfl
@[simp] theorem isn_s{i:Str}:dC (.str i)=false:=rfl
@[simp] theorem isn_t{i:List D}:dC (.tup i)=false:=rfl
@[simp] theorem isn_l{i:List D}:dC (.lst i)=false:=rfl
@[simp] theorem x_andT{y:Res}:dQ (.ok m (.bl true)) y=y:=rfl
@[simp] theorem x_andF{y:Res}:dQ (.ok m (.bl false)) y=.ok .fz (.bl false):=rfl
@[simp] theorem x_orT{y:Res}:orR (.ok m (.bl true)) y=.ok .fz (.bl true):=rfl
@[simp] theorem x_orF{y:Res}:orR (.ok m (.bl false)) y=y:=rfl
@[simp] theorem x_and{a b:Bool}:dQ (.ok m (.bl a)) (.ok .fz (.bl b))=.ok .fz (.bl (a&&b)):=by cases a <;> rfl
@[simp] theorem x_or{a b:Bool}:orR (.ok m (.bl a)) (.ok .fz (.bl b))=.ok .fz (.bl (a||b)):=by cases a <;> rfl
@[simp] theorem x_not{a:Bool}:jD (.ok m (.bl a))=.ok .fz (.bl (!a)):=rfl
@[simp] theorem x_tru{a:Bool}:jC (.ok m (.bl a))=.ok .fz (.bl a):=rfl
@[simp] theorem x_truI:jC (.ok m (.int i))=.ok .fz (.bl (i != 0)):=rfl
@[simp] theorem x_neg:kY (.ok m (.int i))=.ok .fz (.int (-i)):=rfl
@[simp] theorem x_ifT{x y:aG}:ifS (.ok m (.bl true)) ρ x y=x:=rfl
@[simp] theorem x_ifF{x y:aG}:ifS (.ok m (.bl false)) ρ x y=y:=rfl
@[simp] theorem x_frz:a5 (.ok .fz d)=.ok .fz d:=rfl
@[simp] theorem x_frr:a5 (.ok .fr d)=.ok .fz d:=rfl
@[simp] theorem x_set{k:Nat}:dR ρ k (.ok .fz d)=.nx (ρ.set k (some (false,d))):=rfl
@[simp] theorem x_setr{k:Nat}:dR ρ k (.ok .fr d)=.nx (ρ.set k (some (true,d))):=rfl
@[simp] theorem x_ret:hX (.ok .fz d) ρ=.rt .fz d:=rfl
@[simp] theorem x_retr:hX (.ok .fr d) ρ=.rt .fr d:=rfl
@[simp] theorem g_0{r:Rho}:eV (some (false,d)::r) 0=.ok .fz d:=rfl
@[simp] theorem g_0b{r:Rho}:eV (some (true,d)::r) 0=.ok .bo d:=rfl
@[simp] theorem g_s{x:Option (Bool×D)}{r:Rho}{i:Nat}:eV (x::r) (i+1)=eV r i:=rfl
@[simp] theorem g_1{x:Option (Bool×D)}{r:Rho}:eV (x::r) 1=eV r 0:=rfl
@[simp] theorem rs_0{r:Rho}:eH (some (false,d)::r) 0=.rt .fz d:=rfl
@[simp] theorem rs_0b{r:Rho}:eH (some (true,d)::r) 0=.rt .fr d:=rfl
@[simp] theorem rs_1{x:Option (Bool×D)}{r:Rho}:eH (x::r) 1=eH r 0:=rfl
@[simp] theorem rs_s{x:Option (Bool×D)}{r:Rho}{i:Nat}:eH (x::r) (i+1)=eH r i:=rfl
@[simp] theorem r_set0{x y:Option (Bool×D)}{r:Rho}:(x::r).set 0 y=y::r:=rfl
@[simp] theorem x_callR{f:List (Md×D)->Option (Md×D)}{xs:List (Md×D)}:eF f (.ok xs)=Res.of (f xs):=rfl
@[simp] theorem bn_len:Bn.f .len=eG:=rfl
@[simp] theorem bn_isi:Bn.f .isinstance=dH:=rfl
@[simp] theorem ty_int:Ty.f .int=iC:=rfl
@[simp] theorem ty_str:Ty.f .str=jN:=rfl
@[simp] theorem ty_tuple:Ty.f .tuple=eJ:=rfl
@[simp] theorem ty_dict:Ty.f .dict=lC:=rfl
@[simp] theorem ty_list:Ty.f .list=gH:=rfl
@[simp] theorem tci_i{i:Int}:iC [(m,.int i)]=some (.fz,.int i):=rfl
@[simp] theorem tci_b{i:Bool}:iC [(m,.bl i)]=some (.fz,.int (if i then 1 else 0)):=rfl
@[simp] theorem tct_l{i:List D}:eJ [(m,.lst i)]=some (.fz,.tup i):=rfl
@[simp] theorem tct_t{i:List D}:eJ [(.fz,.tup i)]=some (.fz,.tup i):=rfl
@[simp] theorem tcl_l{i:List D}:gH [(m,.lst i)]=some (.fr,.lst i):=rfl
@[simp] theorem tcl_t{i:List D}:gH [(m,.tup i)]=some (.fr,.lst i):=rfl
@[simp] theorem tcs_i{i:Int}(h:nF i=true):jN [(m,.int i)]=some (.fz,.str (nG i)):=by show (if nF i=true then _ else _)=_;rw[if_pos h]
@[simp] theorem len_s{z:Str}:eG [(m,.str z)]=some (.fz,.int z.length):=rfl
@[simp] theorem len_l{z:List D}:eG [(m,.lst z)]=some (.fz,.int z.length):=rfl
@[simp] theorem len_t{z:List D}:eG [(m,.tup z)]=some (.fz,.int z.length):=rfl
@[simp] theorem itm_l{z:List D}:iA (.ok m (.lst z))=.ok .fz (.lst z):=rfl
@[simp] theorem itm_t{z:List D}:iA (.ok m (.tup z))=.ok .fz (.lst z):=rfl
@[simp] theorem itm_s{z:Str}:iA (.ok m (.str z))=.ok .fz (.lst (hZ z)):=rfl
end
@[simp] theorem WT_xf{t:TB}{k:Nat}:(WT t k).xf=λc x=>t.xt.lookup (c,x):=by unfold WD.xf;rw[uO]
@[simp] theorem WT_xg{t:TB}{k:Nat}:(WT t k).xg=λc x=>t.xi.lookup (c,x):=by unfold WD.xg;rw[uP]
section
variable {c x:Str}{ρ ρ':Rho}{m:Md}{d:D}{xt:Str->Str->Option Bool}{hs:List HX}{g:Rho->aG}
@[simp] theorem x_frx:a5 (.exc c)=.exc c:=rfl
@[simp] theorem x_setx{k:Nat}:dR ρ k (.exc c)=.exc c ρ:=rfl
@[simp] theorem x_retx:hX (.exc c) ρ=.exc c ρ:=rfl
end
theorem dY{n N:Nat}{g:Rho->aG}{ds:List D}{m:Md}{d:D}(hl:ds.length=n)(h:g (fP N ds)=.rt m d):phi n N g ds=.ok m d:=by unfold phi;rw[if_pos hl,h];rfl
theorem lR{n:Nat}{Φ:List D->Res}{xs:List (Md×D)}{ds:List D}{d:D}(hl:ds.length=n)(ha:cB xs=some ds)(h:Φ ds=.ok .fz d):bO n Φ (.ok xs)=.ok .fz d:=by
 show (match cB xs with | some ds=>if ds.length=n then (match Φ ds with | .ok .bo _=>Res.stuck | r=>r) else .stuck | none=>.stuck)=_
 rw[ha];show (if ds.length=n then _ else _)=_;rw[if_pos hl,h]
@[simp] theorem lT{Φ:List D->Res}{a d:D}(h:Φ [a]=.ok .fz d):bO 1 Φ (.ok [(.fz,a)])=.ok .fz d:=lR (ds:=[a]) rfl rfl h
@[simp] theorem fW{Φ:List D->Res}{a b d:D}(h:Φ [a,b]=.ok .fz d):bO 2 Φ (.ok [(.fz,a),(.fz,b)])=.ok .fz d:=lR (ds:=[a,b]) rfl rfl h
@[simp] theorem call3{Φ:List D->Res}{a b c d:D}(h:Φ [a,b,c]=.ok .fz d):bO 3 Φ (.ok [(.fz,a),(.fz,b),(.fz,c)])=.ok .fz d:=lR (ds:=[a,b,c]) rfl rfl h
@[simp] theorem aHR{cl:List CI}{Φ:Str->List D->Res}{c m key:Str}{n:Nat}{fs:List (Str×D)}{as:aT}(h:CI.meth cl c m=some (key,n))(hl:fs.lookup m=none):fQ cl Φ m (.ok .fz (.ins c fs)) as=bO n (Φ key) (cZ (.ok .fz (.ins c fs)) as):=by
 show (match CI.meth cl c m with | some (key,n)=>if fs.lookup m=none then bO n (Φ key) (cZ (.ok .fz (.ins c fs)) as) else .stuck | none=>.stuck)=_
 rw[h];show (if fs.lookup m=none then _ else _)=_;rw[if_pos hl]
@[simp] theorem wt_cl{t:TB}{k:Nat}:(WT t k).cl=t.cl:=lP t k
theorem eY{t:TB}{k:Nat}{f:Str}{d:FD}(h:t.T.lookup f=some d):(WT t (k+1)).Φ f=phi d.ps.length d.N.length (evB (WT t k) d.b):=by rw[WT_Φ];unfold j2;rw[h]
@[simp] theorem call4{Φ:List D->Res}{a b c e d:D}(h:Φ [a,b,c,e]=.ok .fz d):bO 4 Φ (.ok [(.fz,a),(.fz,b),(.fz,c),(.fz,e)])=.ok .fz d:=lR (ds:=[a,b,c,e]) rfl rfl h
theorem fX{W:WD}:∀ {x y:List D3.S} {ρ:Rho},evB W (x++y) ρ=(evB W x ρ).thn (evB W y)
 | [],y,ρ=>by simp
 | s::x,y,ρ=>by
  show evB W (s::(x++y)) ρ=_;rw[uW,uW];cases evS W s ρ with
  | nx ρ'=>exact fX
  | _=>rfl
end D3
namespace Tp
open PySem PySem.W PySem.Calls
structure S where
 t:BT
 n:Nat
 k:Nat
 nm:Value
 g:List DictEntry
 tb:List Value
def tupO(vs:List Value):Obj:=⟨.type "tuple", none,.seq vs.toArray 0,#[]⟩
def fldO(c:Value)(vs:List Value):Obj:=⟨c,none,.fields vs.toArray,#[]⟩
def dicO(es:List DictEntry)(e:Nat):Obj:=⟨.type "dict", none,.dict es.toArray e,#[]⟩
def en(P:Params)(x:Str)(k:Nat)(v:Value):DictEntry:=⟨PyData.keyHash P x,.str x k,v⟩
def texts:List Str->Nat->List Value
 | [],_=>[]
 | x::xs,k=>.str x k::texts xs (k+1)
def fileS:Str := "/claim/cut.py"
def codeO(name aQ:Str)(k line argc fl:Nat)(isF:Bool)(a:Nat)(ls cs tm:Value)(j:Nat):Obj :=
 fldO (.type "code") [.str name k,.str aQ (k+1),.str fileS (k+2),.int line 0,.int argc 0,.int 0 0,.int 0 0,.int fl 0,.ref a,.bool isF,.int 181 0,.ref (a+1),.none,ls,cs,tm,.int j 0,.int line 0,.str fileS (j+1)]
def frmO(code ns:Nat)(nm:Value):Obj:=⟨.type "frame", none,.plain,#[some (.ref code),some (.ref 3),some (.ref ns),none,some nm,none,some (.ref 0)]⟩
def fnD(name aQ:Str)(args:Arguments)(body:List Stmt)(sc:Scope)(gl:Nat)(nm cd:Value):FuncData:=⟨name,aQ,args,.stmts body,sc,gl,[],.none,.none,.none,nm,none,cd,.none,0⟩
def insL:List Obj->BT->Nat->BT
 | [],t,_=>t
 | o::os,t,n=>insL os (t.ins n o) (n+1)
def layF(name aQ:Str)(args:Arguments)(body:List Stmt)(sc:Scope)(line n k:Nat)(nm:Value):List Obj×Nat×Nat :=
 match localNames args sc (.stmts body) with
 | some (ls,cs) =>
  let a:=ls.length
  let b:=cs.length
  ([tupO [],fldO .none [],tupO (texts ls (k+3)),tupO (texts cs (k+3+a)),⟨.none,none,.func (fnD name aQ args body sc 0 .none .none),#[]⟩,
   codeO name aQ k line args.args.length 3 true n (.ref (n+2)) (.ref (n+3)) (.ref (n+4)) (k+3+a+b),⟨.type "function", none,.func (fnD name aQ args body sc 3 nm (.ref (n+5))),#[]⟩],n+5,k+5+a+b)
 | none =>
  ([tupO [],fldO .none [],⟨.none,none,.func (fnD name aQ args body sc 0 .none .none),#[]⟩,
   codeO name aQ k line args.args.length 3 true n .none .none (.ref (n+2)) (k+3),⟨.type "function", none,.func (fnD name aQ args body sc 3 nm (.ref (n+3))),#[]⟩],n+3,k+5)
def look(x:Str):List DictEntry->Option Value
 | []=>none
 | ⟨_,.str y _,v⟩::es=>match decide (x=y) with | true=>some v | false=>look x es
 | _::es=>look x es
structure B where
 t:BT
 n:Nat
 k:Nat
 es:List DictEntry
 tb:List Value
def layB(P:Params)(cn:Str)(nm:Value):List Stmt->B->B
 | .FunctionDef name args body _ _ _ sc _ _ pos::r,⟨t,n,k,es,tb⟩ =>
  match layF name (cn ++ "." ++ name) args body sc pos.line n k nm with
  | (os,c,j)=>layB P cn nm r ⟨insL os t n,n+os.length,j+1,en P name j (.ref (c+1))::es,.ref c :: .int pos.col 0 :: .int pos.line 0::tb⟩
 | _::r,b=>layB P cn nm r b
 | [],b=>b
def mroOf(t:BT)(a:Nat):List Value×Value:=match t.get a with
 | some ⟨_,_,.cls c,sl⟩=>(c.mro,(sl.getD 4 none).getD .none)
 | _=>([],.none)
def subTo(a:Nat):Obj->Obj
 | ⟨c,d,.cls k,sl⟩=>⟨c,d,.cls { k with subclasses:=k.subclasses++[.ref a] },sl⟩
 | o=>o
def layC(P:Params)(name:Str)(bases:List PySem.Expr)(body:List Stmt)(st:List Str)(line:Nat):S->S
 | ⟨t,n,k,nm,g,tb⟩ =>
  let bs:List Value:=match bases with
   | .Name b _::_=>(match look b g with | some v=>[v] | none=>[.type "ValueError"])
   | _=>[]
  let n2:=n+2
  let t1:=insL [tupO bs,fldO (.type "builtin_function_or_method") [.builtin "type.__prepare__", .type "type"],dicO [] 0,tupO [],fldO .none [],codeO name name (k+2) line 0 0 false (n+3) .none .none .none (k+5),frmO (n+5) n2 nm] t n
  match layB P name nm body ⟨t1,n+7,k+12,[en P "__firstlineno__" (k+11) (.int line (k+10)),en P "__qualname__" (k+9) (.str name (k+8)),en P "__module__" (k+7) nm],[]⟩ with
  | ⟨t2,m,j,es,ct⟩ =>
   let es1:=en P "__static_attributes__" (j+st.length) (.ref m)::es
   let j1:=j+st.length+1
   let t3:=(t2.set n2 λ_=>dicO es1.reverse es1.length).set (n+4) λ_=>fldO .none ct.reverse
   let cl:=m+2
   let cp:=(es1.reverse.take 1)++(es1.reverse.drop 2)
   let fin (mro:List Value) (nw:Value) (bv:List Value) (sl0:Option Value) (xs:List DictEntry) (gs:List Obj) (t:BT) (j:Nat):S :=
    let os:=[tupO (texts st (m-m+(j1-1-st.length))),dicO (cp++xs++[en P "__doc__" j .none]) (2+xs.length),⟨.type "type", none,.cls ⟨name,bv,.ref cl::mro,m+1,name,true,[],[],false,none,false⟩,#[sl0,none,some (.str name k),some (.str name (k+8)),some nw,some (.bool true)]⟩]
     ++ gs++[fldO (.type "super") [.ref cl,.ref cl,.ref cl],fldO (.type "builtin_function_or_method") [.builtin "object.__init_subclass__", .ref cl]]
    ⟨insL os t m,m+os.length,j+3,nm,en P name (j+2) (.ref cl)::g,.ref (n+5) :: .int 0 0 :: .int line 0::tb⟩
   let gw (j a:Nat):=fldO (.type "getset_descriptor") [.str "__weakref__" j,.ref cl,.builtin "ExceptionGroup.__weakref__", .none]
   match bs with
   | [] => fin [.type "object"] (.builtin "object.__new__") [.type "object"] none [en P "__dict__" (j1 + 1) (.ref (m + 3)), en P "__weakref__" (j1 + 3) (.ref (m + 4))]
       [fldO (.type "getset_descriptor") [.str "__dict__" j1,.ref cl,.builtin "function.__dict__", .builtin "function.__dict__#set"],gw (j1+2) 0] t3 (j1+4)
   | .ref a::_=>match mroOf t3 a with
    | (mro,nw)=>fin mro nw bs (some (.ref n)) [] [] (t3.set a (subTo cl)) j1
   | _=>fin [.type "ValueError", .type "Exception", .type "BaseException", .type "object"] (.builtin "ValueError.__new__") bs (some (.ref n)) [en P "__weakref__" (j1+1) (.ref (m+3))] [gw j1 0] t3 (j1+2)
def keysD(P:Params)(g:List DictEntry):List (Option PySem.Expr)->List PySem.Expr->Nat->List DictEntry
 | some (.Constant (.str x) _ _)::ks,.Name y _::vs,k=>en P x k ((look y g).getD .none)::keysD P g ks vs (k+1)
 | _,_,_=>[]
def put(P:Params)(x:Str)(v:Value)(t:BT)(n k:Nat)(nm:Value)(g:List DictEntry)(tb:List Value):S:=match decide (x = "__name__") with
 | true=>⟨t,n,k+1,v,g,tb⟩
 | false=>⟨t,n,k+1,nm,en P x k v::g,tb⟩
def lay1(P:Params):Stmt->S->S
 | .FunctionDef name args body _ _ _ sc _ _ pos,⟨t,n,k,nm,g,tb⟩=>match layF name name args body sc pos.line n k nm with
  | (os,c,j)=>⟨insL os t n,n+os.length,j+1,nm,en P name j (.ref (c+1))::g,.ref c :: .int pos.col 0 :: .int pos.line 0::tb⟩
 | .ClassDef name bases _ body _ _ _ _ _ st pos,s=>layC P name bases body st pos.line s
 | .Assign [.Name x _] (.Constant (.str v) _ _) _,⟨t,n,k,nm,g,tb⟩=>put P x (.str v k) t n (k+1) nm g tb
 | .Assign [.Name x _] (.Constant (.int v) _ _) _,⟨t,n,k,nm,g,tb⟩=>put P x (.int v k) t n (k+1) nm g tb
 | .Assign [.Name x _] (.Dict ks vs _) _,⟨t,n,k,nm,g,tb⟩=>put P x (.ref n) (t.ins n (dicO (keysD P g ks vs k) vs.length)) (n+1) (k+2 * vs.length) nm g tb
 | _,s=>s
def lay(P:Params):List Stmt->S->S
 | [],s=>s
 | st::r,s=>lay P r (lay1 P st s)
def s0(os:List Obj):S :=
 ⟨insL [tupO [],fldO .none [],codeO "<module>" "<module>" 182 1 0 0 false 11 .none .none .none 185,frmO 13 3 (.str "__main__" 164)] (insL os .nil 0) 11,15,187,.str "__main__" 164,[],[]⟩
def nameTo(nm:Value):List DictEntry->List DictEntry
 | e::es=>{ e with val:=nm }::es
 | []=>[]
def mainTo(nm:Value)(g:List DictEntry):Obj->Obj
 | ⟨c,d,.dict es e,sl⟩=>⟨c,d,.dict (nameTo nm es.toList++g.reverse).toArray (e+g.length),sl⟩
 | o=>o
def S.bt(s:S):BT:=(s.t.set 3 (mainTo s.nm s.g)).set 12 λ_=>fldO .none s.tb.reverse
open PyProof.Rows
def z0:Pos:=⟨0,0,0,0⟩
def an:Option Value:=some (.ref 6)
def ev(p:Program):Env:={ scope:=p.main.scope,locals:=mainNs,globals:=mainNs,cells:=[],code:=.ref 13,frame:=some 14 }
def cd(p:Program):Code:=.body (behindTheImports p) (ev p)
def go(tb:String->Option Builtin)(p:Program)(w:World)(F:Nat):List Stmt->SharedT->Code->Pos->Option (SharedT×Code×Pos)
 | [],s,c,q=>some (s,c,q)
 | st::l,s,c,q=>match segRunT tb p w 11 an 1 F s (pieceOf st (ev p) c q [topFrame z0]) with
  | some (.next,s',c',q')=>go tb p w F l s' c' q'
  | _=>none
def ns(F N:Nat):List Stmt->Nat
 | []=>N
 | _::l=>F+ns F N l
section
variable {tb:String->Option Builtin}{p:Program}{w:World}
theorem one{n N:Nat}{s s' r:Shared}{st:Stmt}{aL:List Stmt}{c c':Code}{e:Env}{q q':Pos}(h:segRun tb p w 11 an 1 n s (pieceOf st e c q [topFrame z0])=some (.next,s',c',q'))(k:topRun tb p w 11 an N s' (restOf aL e c' q' [topFrame z0])=some r):topRun tb p w 11 an (n+N) s (restOf (st::aL) e c q [topFrame z0])=some r:=by
 obtain ⟨a,ha,hN⟩:=seg_top (B:=[topFrame z0]) (res:=id)
  (K':=λf=>match f with
   | .next=>(execs aL e).wrap doneF (leaveH e) id id
   | f=>doneF f)
  (H':=leaveH e) rfl n s (pieceOf st e c q [topFrame z0])
  ⟨(exec st e).wrap (λf=>match f with
   | .next=>(execs aL e).wrap doneF (leaveH e) id id
   | f=>doneF f) (leaveH e) id id,c,q,[topFrame z0]⟩ _ _ _ _ ⟨rfl,rfl,.inl ⟨rfl,rfl,_,rfl,rfl⟩⟩ h
 cases ha;unfold restOf;rw[execs_cons_wrap];exact hN N r k
theorem go_top'{F:Nat}:∀ (l:List Stmt) {s s':SharedT} {c c':Code} {q q':Pos},go tb p w F l s c q=some (s',c',q')->∀ {N:Nat} {r:Shared} {aL:List Stmt},topRun tb p w 11 an N s'.abs (restOf aL (ev p) c' q' [topFrame z0])=some r->topRun tb p w 11 an (ns F N l) s.abs (restOf (l++aL) (ev p) c q [topFrame z0])=some r
 | [],_,_,_,_,_,_,h,_,_,_,k=>by cases h;exact k
 | st::l,s,s',c,c',q,q',h,N,r,aL,k=>by
  unfold go at h;split at h
  . rename_i x e;exact one (segRun_of e) (go_top' l h k)
  . cases h
theorem fin2(s:Shared)(c:Code)(q:Pos):topRun tb p w 11 an 2 s (restOf [] (ev p) c q [topFrame z0])=some s:=by obtain ⟨h,g,d,k,o⟩:=s;rfl
noncomputable def sh(P:Params)(S:S)(n k:Nat)(os:OsState):SharedT:=⟨S.bt,n,(boot_heap P).life,#[],boot_drawn,k,os⟩
noncomputable def sA(P:Params):S:=s0 (boot_heap P).objs.toList
theorem run_of{l:List Stmt}{n k:Nat}{c':Code}{q':Pos}(hl:behindTheImports p=l)(pre:∀ (w:World) (os:OsState),topGo treeTable p w 11 an 12 ⟨boot_heap w.params,#[],boot_drawn,boot_toks,os⟩ (topStub p)=some ((sh w.params (sA w.params) 15 187 os).abs,⟨denote treeTable (cd p),cd p,z0,[topFrame z0]⟩))(blk:∀ (w:World) (s:Shared),segRun treeTable p w 11 an 1 1 s (blockOf l (ev p) (cd p) z0 [topFrame z0])=some (.next,s,cd p,z0))(run:∀ (w:World) (os:OsState),go treeTable p w 1000 l (sh w.params (sA w.params) 15 187 os) (cd p) z0=some (sh w.params (lay w.params l (sA w.params)) n k os,c',q')):∀ (w:World) (os:OsState),topRun treeTable p w 11 an (12+(1+ns 1000 2 l)) ⟨boot_heap w.params,#[],boot_drawn,boot_toks,os⟩ (topStub p)=some (sh w.params (lay w.params l (sA w.params)) n k os).abs:=by
 intro w os;refine go_top (pre w os) ?_;unfold cd;rw[hl];refine piece_block (n:=1) (by have:=blk w (sh w.params (sA w.params) 15 187 os).abs;unfold cd at this;rw[hl] at this;exact this) ?_
 have:=go_top' l (run w os) (aL:=[]) (fin2 _ _ _);rw[aKZ] at this;unfold cd at this;rw[hl] at this;exact this
end
noncomputable def KK(l:List Stmt)(as:List Addr)(P:Params):Frag:=as.map λa=>(a,((lay P l (sA P)).bt.get a).getD default)
theorem KK_e(l:List Stmt)(as:List Addr)(P:Params):as=(KK l as P).map (·.1):=by unfold KK;rw[aOA];exact (List.map_id as).symm
noncomputable def hk(l:List Stmt)(as:List Addr):Hook:=kHook (KK l as) as (KK_e l as)
noncomputable def H1(l:List Stmt)(n:Nat)(P:Params):Heap:=absHeap (lay P l (sA P)).bt n (boot_heap P).life
noncomputable def S1(l:List Stmt)(n k:Nat)(P:Params)(os:OsState):Shared:=⟨H1 l n P,#[],boot_drawn,k,os⟩
def bnd(n:Str):Stmt->List Str
 | .FunctionDef x ..=>if x==n then [] else [x]
 | .ClassDef x ..=>[x]
 | .Assign [.Name x _] _ _=>if x == "__name__" then [] else [x]
 | _=>[]
def los(l:List Stmt):List Str:=l.flatMap (bnd "law")
def vw(p:Program):Program:={ p with main:={ p.main with body:=p.main.body.filter λst=>match st with | .FunctionDef x ..=>x == "law" | _=>false } }
def xt(r:OpenRow)(s:Shared):Bool:=xlAt (vw r.prog) [] s&&recOk r.toRowW.records s
theorem size1(w:World):((boot_heap w.params).isNs mainGlobals&&(#[]:Array GenState).size==0,(boot_heap w.params).objs.size,(boot_heap w.params).nsMap mainGlobals "__annotations__")=(true,11,an):=by kernel_rfl
end Tp
theorem Tp.twA:Prod.fst (true,(@Tp.go,@Tp.lay,@Tp.sh,@Tp.sA,@Tp.cd,@Tp.ev,@Tp.S.bt,@Tp.KK,@Tp.hk,@Tp.H1,@Tp.S1,@Tp.los,@Tp.vw,@Tp.xt))=true:=by k_qdec
namespace D3
open PySem PySem.Spec PySem.Calls PyProof.Rows L2
theorem u0:∀ {ps:List Str} {us:List Value},ps.Nodup->us.length=ps.length->ps.filterMap (λn=>((ps.zip us).lookup n).map (n,·))=ps.zip us/\∀ n∈ps,((ps.zip us).lookup n).isNone=false
 | [],us,_,_=>⟨rfl,λ_ h=>by cases h⟩
 | p::ps,[],_,h=>by cases h
 | p::ps,u::us,nd,h=>by
  obtain ⟨h1,h2⟩:=aK0.mp nd;obtain ⟨i1,i2⟩:=u0 (us:=us) h2 (Nat.succ.inj h);have e:∀ n∈ps,((p,u)::ps.zip us).lookup n=(ps.zip us).lookup n:=λn hn=>by rw[aMB];have:(n==p)=false:=aJV.mpr λz=>h1 (z ▸ hn);rw[this]
  refine ⟨?_,λn hn=>?_⟩
  . rw[aM0,aJ6,aMB,aMT];dsimp only[Option.map];refine congrArg _ (Eq.trans ?_ i1);have c:∀ l:List Str,(∀ n∈l,n∈ps)->l.filterMap (λn=>(((p,u)::ps.zip us).lookup n).map (n,·))=l.filterMap (λn=>((ps.zip us).lookup n).map (n,·)):=by
      intro l hl
      induction l with
      | nil=>rfl
      | cons a l ih=>rw[aJ6,aJ6,e a (hl a mcs),ih λn hn=>hl n (mcm hn)]
    exact c ps λ_ h=>h
  . rw[aM0];rcases aJ7.mp hn with rfl | hn
    . rw[aMB,aMT];rfl
    . rw[e n hn];exact i2 n hn
theorem aHS{fd:FuncData}{ps:List Str}(h1:fd.params.posonlyargs=[])(h2:fd.params.args.map (·.arg)=ps)(h3:fd.params.vararg=none)(h4:fd.params.kwonlyargs=[])(h5:fd.params.kwarg=none)(hd:fd.defaults=.none)(h6:ps.Nodup)(us:List Value)(hl:us.length=ps.length):bindArgs fd ⟨us,[]⟩=pure (ps.zip us):=by
 obtain ⟨z1,z2⟩:=u0 h6 hl;have z3:(ps.take (ps.length-0)).filter (λn=>((ps.zip us).lookup n).isNone)=[]:=by rw[Nat.sub_zero,aM5,List.filter_eq_nil_iff];intro n hn;rw[z2 n hn];decide
 unfold bindArgs;simp only[h1,h2,h3,h4,h5,hd,aLX,aN1,aKZ,aMQ,aMS,hl,aJ0,seqItems?];have q:(do notAStandIn Value.none;pure none:Sem (Option (Array Value)))=pure none:=rfl
 rw[q];simp only[aMS,aLW,aM1,Nat.zero_sub,aMX,z3,decide_false,Bool.false_and,aMA,aLI,List.isEmpty_nil,aL9,List.zip_nil_right,aMQ,z1,Array.toList_empty,List.drop_nil]
noncomputable def adB(K:Fg)(x:Str):Option Addr:=match PySem.W.nsIn K mainGlobals x with | some (some (.ref a))=>some a | _=>none
theorem dZ{K:Fg}{x:Str}{a:Addr}(h:adB K x=some a):PySem.W.nsIn K mainGlobals x=some (some (.ref a)):=by
 unfold adB at h;split at h
 . rename_i b e;cases h;exact e
 . cases h
noncomputable def isKey(key:Str):Addr×Obj->Bool
 | (_,⟨.type t,_,.func fd,_⟩)=>t == "function" && fd.qualname==key
 | _=>false
noncomputable def faK(K:Fg)(key:Str):Addr:=match K.find? (isKey key) with | some p=>p.1 | none=>0
noncomputable def stOf(fd:FuncData)(b:List Stmt):Stmt:=.FunctionDef fd.name fd.params b [] none [] fd.scope none fd.name ⟨0,0,0,0⟩
noncomputable def parB(p:Arguments)(ps:List Str):Bool:=p.posonlyargs.isEmpty&&(p.args.map (·.arg)==ps)&&p.vararg.isNone&&p.kwonlyargs.isEmpty&&p.kwarg.isNone&&decide ps.Nodup
noncomputable def fdB(K:Fg)(nm:Option Str)(key:Str)(a:Addr)(ps:List Str)(f:Stmt->Bool)(fd:FuncData)(b:List Stmt):Bool :=
 (nm.getD fd.name==fd.name)&&((fd.qualname==key)&&(fd.globals==mainGlobals&&(fd.closure.isEmpty&&((fd.defaults == .none)&&(fd.builtins==builtinsNs&&(PySem.W.codeIn K fd.code key&&(PySem.W.keepIn K (.ref a)&&(parB fd.params ps&&f (stOf fd b)))))))))
noncomputable def iO(K:Fg)(nm:Option Str)(key:Str)(a:Addr)(ps:List Str)(f:Stmt->Bool):Bool:=match K.lookup a with
 | some ⟨_,_,.func fd,_⟩=>(match fd.body with
  | .stmts b=>fdB K nm key a ps f fd b
  | _=>false)
 | _=>false
theorem oW{K:Fg}{nm:Option Str}{key:Str}{a:Addr}{ps:List Str}{f:Stmt->Bool}(h:iO K nm key a ps f=true):∃ name st fd,Fun K name key st a fd/\eU K fd ps []/\f st=true/\nm.getD name=name/\∀ us:List Value,us.length=ps.length->bindArgs fd ⟨us,[]⟩=pure (ps.zip us):=by
 unfold iO at h;split at h
 . rename_i oc od fd sl el;split at h
   . rename_i b eb;unfold fdB at h;simp only[aLR] at h;obtain ⟨h1,h2,h3,h4,h5,h6,h7,h8,h9,h10⟩:=h;obtain ⟨name,qualname,params,body,scope,globals,closure,defaults,kwdefaults,doc,pm,an,code,ct,bl⟩:=fd;dsimp only at *;obtain rfl:=eb;obtain rfl:=aKU.mp h2;obtain rfl:=aKU.mp h3;obtain rfl:=List.isEmpty_iff.mp h4;obtain rfl:=aKU.mp h5;obtain rfl:=aKU.mp h6;unfold parB at h9;simp only[aLR,List.isEmpty_iff,aKU,Option.isNone_iff_eq_none,aMD] at h9;obtain ⟨⟨⟨⟨⟨p1,p2⟩,p3⟩,p4⟩,p5⟩,p6⟩:=h9;have bp:=aHS (fd:=PySem.W.fnOf name qualname params b scope .none kwdefaults doc pm an code ct) p1 p2 p3 p4 p5 rfl p6;exact ⟨name,_,_,z8 (st:=stOf ⟨name,qualname,params,.stmts b,scope,mainGlobals,[],.none,kwdefaults,doc,pm,an,code,ct,builtinsNs⟩ b) el h7 h8,.all bp,h10,aKU.mp h1,bp⟩
   . cases h
 . cases h
noncomputable def gvB(K:Fg)(x:Str):GV->Bool
 | .con (.s y)=>(match PySem.W.nsIn K mainGlobals x with | some (some (.str z _))=>z==y | _=>false)
 | .con (.i n)=>(match PySem.W.nsIn K mainGlobals x with | some (some (.int z _))=>z==n | _=>false)
 | .con (.t _)=>true
 | .no=>PySem.W.nsIn K mainGlobals x==some none
 | .fn _=>PySem.W.nsIn K mainGlobals x==some (some (.ref (faK K x)))
 | .cls=>true
noncomputable def lU(K:Fg)(C:Addr):Bool:=PySem.W.plainGet K C Str.empty&&(PySem.W.hasDictIn K C&&(PySem.W.plainOver K C&&PySem.W.findIn K (.ref C) "__setattr__" == some (some (.builtin "object.__setattr__"))))
theorem u3{K:Fg}{C:Addr}(h:lU K C=true):Cls K C:=by unfold lU at h;simp only[aLR,aKU] at h;exact ⟨h.1,h.2.1,h.2.2.1,h.2.2.2⟩
noncomputable def oX(K:Fg)(C:Addr)(x:Str×Str×Nat):Bool:=PySem.W.findIn K (.ref C) x.1==some (some (.ref (faK K x.2.1)))&&(PySem.W.isFn K (.ref (faK K x.2.1))&&PySem.W.keepIn K (.ref (faK K x.2.1)))
noncomputable def ciB(K:Fg)(i:CI):Bool:=match adB K i.name with
 | some C=>lU K C&&(i.meths.all (oX K C)&&i.flds.all λf=>PySem.W.findIn K (.ref C) f==some none)
 | none=>false
noncomputable def mk0B(K:Fg)(c:Str):Bool:=match adB K c with
 | some C=>PySem.W.makesIn K C&&(PySem.W.findIn K (.ref C) "__init__" == some (some (.builtin "object.__init__"))&&PySem.W.keepIn K (.ref C))
 | none=>false
noncomputable def clB(K:Fg)(C:Addr):Bool:=PySem.W.findIn K (.ref C) "__class__" == some (some (.builtin "object.__class__"))&&(PySem.W.specialIn K (.builtin "object.__class__") "__get__" == some (some (.builtin "getset_descriptor.__get__"))&&(PySem.W.takesIn K (.builtin "object.__class__")==some true&&PySem.W.mroIn K C (.type "object")==some true))
noncomputable def isoB(K:Fg)(cl:List CI)(c:Str):Bool:=match adB K c with
 | some C=>["NoneType", "bool", "int", "str", "tuple", "list", "dict"].all (λt=>PySem.W.kitOne K (.type t) (.ref C)==some false)&&cl.all λi=>match adB K i.name with
  | some C'=>lU K C'&&(clB K C'&&PySem.W.kitOne K (.ref C') (.ref C)==some (i.ups.contains c))
  | none=>false
 | none=>false
noncomputable def inB(K:Fg)(g:MG)(x:Str×ID):Bool:=match adB K x.2.c with
 | some C=>PySem.W.makesIn K C&&(PySem.W.findIn K (.ref C) "__init__" == some (some (.ref (faK K x.1)))&&(PySem.W.isFn K (.ref (faK K x.1))&&(PySem.W.keepIn K (.ref C)&&iO K none x.1 (faK K x.1) x.2.ps (λst=>idOk g st x.2))))
 | none=>false
noncomputable def xtB(K:Fg)(x:(Str×Str)×Bool):Bool:=match adB K x.1.1,adB K x.1.2 with
 | some C,some C2=>PySem.W.mroIn K C2 (.type "BaseException")==some true&&(PySem.W.typeIn K (.ref C2)==some (.type "type")&&PySem.W.mroIn K C (.ref C2)==some x.2)
 | _,_=>false
noncomputable def xcB(K:Fg)(C:Addr):Bool:=PySem.W.findIn K (.ref C) "__getattribute__" == some (some (.builtin "BaseException.__getattribute__"))&&(PySem.W.findIn K (.ref C) "__getattr__" == some none&&(PySem.W.mroIn K C (.type "BaseException")==some true&&clB K C))
noncomputable def cvB(K:Fg)(n:Str):Option V:=match PySem.W.nsIn K mainGlobals n with
 | some (some (.ref C))=>some (.ref C)
 | some none=>if n == "__name__" then none else (match bootBuiltins n with | some (.type T)=>some (.ty T) | _=>none)
 | _=>none
noncomputable def xiB(K:Fg)(x:(Str×Str)×Bool):Bool:=match adB K x.1.1,cvB K x.1.2 with
 | some C,some cv=>xcB K C&&PySem.W.kitOne K (.ref C) (sD cv)==some x.2
 | _,_=>false
noncomputable def rzB(K:Fg)(c:Str):Bool:=match adB K c with
 | some C=>PySem.W.excIn K C vErr "ValueError.__new__"
 | none=>false
noncomputable def gfB(K:Fg)(g:MG)(t:TB):Bool :=
 g.G.all (λx=>gvB K x.1 x.2)&&(gOk g.G t.T&&(t.T.all (λx=>iO K (if x.1 == "law" then some "law" else none) x.1 (faK K x.1) x.2.ps (λst=>gT g st x.2))&&(t.I.all (inB K g)&&(g.mk0.all (mk0B K)&&(uT g.mki t.I&&(g.iso.all (isoB K t.cl)&&(t.cl.all (ciB K)&&(mtOk t.cl t.T&&(t.xt.all (xtB K)&&(t.xi.all (xiB K)&&(g.xcs.all (rzB K)&&g.xns.all (λn=>(cvB K n).isSome))))))))))))
section
variable {w:World}{K:Fg}{mg:SOV}{h:Heap}(X:K.In h)(G:h.Ns mainGlobals mg)
include X G
theorem u4:∀ {l:List (Str×GV)},(∀ x tb,(x,GV.con (.t tb))∈l->iD w K mg x tb)->l.all (λx=>gvB K x.1 x.2)=true->j5 w K mg (faK K) l
 | [],_,_=>trivial
 | (x,v)::l,ht,b=>by
  rw[aOO,aLR] at b;refine ⟨?_,u4 (λx tb hx=>ht x tb (mcm hx)) b.2⟩;have b:=b.1;dsimp only at b;cases v with
  | con c =>
   cases c with
   | s y =>
    have b:(match PySem.W.nsIn K mainGlobals x with | some (some (.str z _))=>z==y | _=>false)=true:=b
    split at b
    . rename_i z t e;cases aKU.mp b;exact ⟨t,aOP X G e⟩
    . cases b
   | i y =>
    have b:(match PySem.W.nsIn K mainGlobals x with | some (some (.int z _))=>z==y | _=>false)=true:=b
    split at b
    . rename_i z t e;cases aKU.mp b;exact ⟨t,aOP X G e⟩
    . cases b
   | t tb=>exact ht x tb mcs
  | fn n=>exact aOP X G (aKU.mp b)
  | no=>exact PySem.W.mg_none_of X G (aKU.mp b)
  | cls=>trivial
theorem u5{n:Str}{cv:V}(e:cvB K n=some cv):k9 mg n cv:=by
 unfold cvB at e;split at e
 . rename_i C q;cases e;exact .inl ⟨C,aOP X G q,rfl⟩
 . rename_i q;split at e
   . cases e
   . rename_i hn;split at e
     . rename_i T hb;cases e;exact .inr ⟨PySem.W.mg_none_of X G q,by simpa using hn,T,hb,rfl⟩
     . cases e
 . cases e
end
theorem u6{K:Fg}{g:MG}:∀ {l:List (Str×FD)},l.all (λx=>iO K (if x.1 == "law" then some "law" else none) x.1 (faK K x.1) x.2.ps (λst=>gT g st x.2))=true->j3 K g (faK K) l
 | [],_=>trivial
 | (x,d)::l,b=>by rw[aOO,aLR] at b;obtain ⟨name,st,fd,F,hb,ok,_,_⟩:=oW b.1;exact ⟨⟨name,st,fd,F,hb,ok⟩,u6 b.2⟩
theorem u7{K:Fg}{C:Addr}:∀ {l:List (Str×Str×Nat)},l.all (oX K C)=true->iL K (faK K) C l
 | [],_=>trivial
 | (m,key,n)::l,b=>by rw[aOO,aLR] at b;have b1:=b.1;unfold oX at b1;simp only[aLR,aKU] at b1;exact ⟨⟨b1.1,b1.2.1,b1.2.2⟩,u7 b.2⟩
theorem u8{K:Fg}{C:Addr}:∀ {l:List Str},l.all (λf=>PySem.W.findIn K (.ref C) f==some none)=true->iM K C l
 | [],_=>trivial
 | f::l,b=>by rw[aOO,aLR] at b;exact ⟨aKU.mp b.1,u8 b.2⟩
theorem u9{K:Fg}:∀ {l:List CI},l.all (ciB K)=true->j6 K (faK K) l
 | [],_=>trivial
 | i::l,b=>by
  rw[aOO,aLR] at b;refine ⟨?_,u9 b.2⟩;have b:=b.1;unfold ciB at b;split at b
  . rename_i C e;simp only[aLR] at b;exact ⟨C,dZ e,u3 b.1,u7 b.2.1,u8 b.2.2⟩
  . cases b
section
variable {w:World}{K:Fg}{mg:SOV}{h:Heap}(X:K.In h)(G:h.Ns mainGlobals mg)
include X G
theorem vA{g:MG}:∀ {l:List (Str×ID)},l.all (inB K g)=true->j4 K mg g l
 | [],_=>trivial
 | (x,d)::l,b=>by
  rw[aOO,aLR] at b;refine ⟨?_,vA b.2⟩;have b:=b.1;unfold inB at b;split at b
  . rename_i C e;simp only[aLR,aKU] at b;obtain ⟨b1,b2,b3,b4,b5⟩:=b;obtain ⟨name,st,fd,F,hb,ok,_,_⟩:=oW b5;exact ⟨name,st,C,_,fd,dZ e,aOP X G (dZ e),⟨b1,b2,b3,b4⟩,F,hb,ok⟩
  . cases b
omit X G in
theorem oY{c x:Str}{v:Bool}:∀ {l:List ((Str×Str)×Bool)},l.lookup (c,x)=some v->((c,x),v)∈l
 | [],e=>by cases e
 | (y,b)::l,e=>by
  rw[aMB] at e;split at e
  . rename_i hb;cases e;rw[<- aKU.mp hb];exact mcs
  . exact mcm (oY e)
theorem xt_of{l:List ((Str×Str)×Bool)}(b:l.all (xtB K)=true):nK K mg (λc x=>l.lookup (c,x)):=λc x v e=>by
 have b:=aN9.mp b ((c,x),v) (oY e);unfold xtB at b;split at b
 . rename_i C C2 e1 e2;simp only[aLR,aKU] at b;exact ⟨C,C2,dZ e1,aOP X G (dZ e1),aOP X G (dZ e2),b.1,b.2.1,b.2.2⟩
 . cases b
theorem xi_of{l:List ((Str×Str)×Bool)}(b:l.all (xiB K)=true):nL K mg (λc x=>l.lookup (c,x)):=λc x v e=>by
 have b:=aN9.mp b ((c,x),v) (oY e);unfold xiB at b;split at b
 . rename_i C cv e1 e2;unfold xcB clB at b;simp only[aLR,aKU] at b;obtain ⟨⟨b1,b2,b3,b4,b5,b6,b7⟩,b8⟩:=b;exact ⟨C,cv,dZ e1,⟨b1,b2,b4,b3,b7,b5,b6⟩,u5 X G e2,b8⟩
 . cases b
theorem gf_of{g:MG}{t:TB}(b:gfB K g t=true)(ht:∀ x tb,(x,GV.con (.t tb))∈g.G->iD w K mg x tb):GF w K mg g t (faK K):=by
 unfold gfB at b;simp only[aLR] at b;obtain ⟨b1,b2,b3,b4,b5,b6,b7,b8,b9,b10,b11,b12,b13⟩:=b;refine ⟨u4 X G ht b1,b2,u6 b3,vA X G b4,λc hc=>?_,b6,λc hc=>?_,u9 b8,b9,xt_of X G b10,xi_of X G b11,λc hc=>?_,λn hn=>?_⟩
 . have b:=aN9.mp b5 c hc;unfold mk0B at b;split at b
   . rename_i C e;simp only[aLR,aKU] at b;exact ⟨C,dZ e,aOP X G (dZ e),b.1,b.2.1,b.2.2⟩
   . cases b
 . have b:=aN9.mp b7 c hc;unfold isoB at b;split at b
   . rename_i C e;rw[aLR] at b;refine ⟨C,aOP X G (dZ e),λt ht=>aKU.mp (aN9.mp b.1 t ht),λi hi=>?_⟩;have b:=aN9.mp b.2 i hi;split at b
     . rename_i C' e';unfold clB at b;simp only[aLR,aKU] at b;obtain ⟨c1,⟨c2,c3,c4,c5⟩,c6⟩:=b;exact ⟨C',dZ e',u3 c1,c2,c3,c4,c5,c6⟩
     . cases b
   . cases b
 . have b:=aN9.mp b12 c hc;unfold rzB at b;split at b
   . rename_i C e;exact ⟨C,aOP X G (dZ e),b⟩
   . cases b
 . have b:=aN9.mp b13 n hn;cases e:cvB K n with
   | none=>rw[e] at b;cases b
   | some cv=>exact ⟨cv,u5 X G e⟩
end
noncomputable def oZ(K:Fg)(g:MG)(t:TB):Bool:=gfB K g t&&PySem.W.nsIn K mainGlobals "law" == some (some (.ref (faK K "law")))
theorem vB{x:Str}{d:FD}:∀ {l:List (Str×FD)},l.lookup x=some d->(x,d)∈l
 | [],e=>by cases e
 | (y,b)::l,e=>by
  rw[aMB] at e;split at e
  . rename_i hb;cases e;rw[<- aKU.mp hb];exact mcs
  . exact mcm (vB e)
noncomputable def noT(g:MG):Bool:=g.G.all λx=>match x.2 with | .con (.t _)=>false | _=>true
theorem aHT{g:MG}{K:Params->Fg}(b:noT g=true)(w:World)(mg:SOV)(h:Heap)(_:(K w.params).In h)(_:h.Ns mainGlobals mg)(x:Str)(tb:List (Str×Str))(hm:(x,GV.con (.t tb))∈g.G):iD w (K w.params) mg x tb:=by have:=aN9.mp b _ hm;cases this
theorem walkG{l:PySem.W.OpenLaw}{q:Program}{loose:List Str}{XP:(Str->Option Value)->Heap->Prop}{YP:World->Heap->Prop}{d:DefRec}{K:Params->Fg}{g:MG}{t:TB}{kk:Nat}{x:Str}{e:FD}(hn:l.most=some 63)(hdf:d.params.defaults=[])(hdn:d.name = "law")(hY:∀ (w:World) (h:Heap),YP w h->(K w.params).In h)(b:∀ P,oZ (K P) g t=true)(ht:∀ (w:World) (mg:SOV) (h:Heap),(K w.params).In h->h.Ns mainGlobals mg->∀ x tb,(x,GV.con (.t tb))∈g.G->iD w (K w.params) mg x tb)(hT:t.T.lookup ("law" : Str)=some e)(hps:e.ps=[x])(hr:bV (kk+1) callerA)(main:∀ ns:List Int,ns.length<=63->(WT t (kk+1)).Φ "law" (k4 ns)=.ok .fz (.bl true)):PySem.W.WalkO q loose XP YP l.row.toRowW d [] (λf vs=>PySem.call f vs):=by
 refine L2.z7 (n:=63) (k:=kk+1) (x:=x) (CX:=λw=>CX1 l.prog w) (sp:=λw=>oV (K w.params) ((WT t (kk+1)).Φ ("law" : Str))) hn (by decide) hdf hr hY (λw mg fa h KX G hmg=>?_)
  (λ_ _ a ns hl _ hS=>⟨a,ns,rfl,hS,main ns hl,λ_=>rfl⟩) λ_ _ _ _ _ z=>by obtain ⟨_,_,_,_,_,_,_,_,_,_,z⟩:=z;exact z
 have b:=b w.params;unfold oZ at b;rw[aLR,aKU] at b;have f:=gf_of (w:=w) KX G b.1 (ht w mg h KX G);have e1:=aOP KX G b.2;rw[hdn,e1] at hmg;cases hmg;have b3:t.T.all (λx=>iO (K w.params) (if x.1 == "law" then some "law" else none) x.1 (faK (K w.params) x.1) x.2.ps (λst=>gT g st x.2))=true:=by have:=b.1;unfold gfB at this;simp only[aLR] at this;exact this.2.2.1
 obtain ⟨name,st,fd,F,hb,ok,hnm,bp⟩:=oW (aN9.mp b3 (("law" : Str),e) (vB hT));have hnm:name = "law" := hnm.symm;subst hnm;refine ⟨fd,λs u=>.of_eq ?_,λbase _ _=>?_⟩
 . have:=bp [u] (by rw[hps];rfl)
   rw[hps] at this;exact this
 . have:=aHK (P:=l.prog) (base:=base) f kk F hT ok (by rw[hps];rfl)
   rw[hps] at this;exact this
end D3
namespace Tp
open PySem PySem.W PySem.Calls PyProof.Rows
theorem left{p:Program}{r:OpenRow}{l:List Stmt}{n k:Nat}{as:List Addr}{c':Code}{q':Pos}(hl:behindTheImports p=l)(pre:∀ (w:World) (os:OsState),topGo treeTable p w 11 an 12 ⟨boot_heap w.params,#[],boot_drawn,boot_toks,os⟩ (topStub p)=some ((sh w.params (sA w.params) 15 187 os).abs,⟨denote treeTable (cd p),cd p,z0,[topFrame z0]⟩))(blk:∀ (w:World) (s:Shared),segRun treeTable p w 11 an 1 1 s (blockOf l (ev p) (cd p) z0 [topFrame z0])=some (.next,s,cd p,z0))(run:∀ (w:World) (os:OsState),go treeTable p w 1000 l (sh w.params (sA w.params) 15 187 os) (cd p) z0=some (sh w.params (lay w.params l (sA w.params)) n k os,c',q'))(le:Nat.ble (12+(1+ns 1000 2 l)) 1000000=true)(e1:opening p=plainProg p.main.scope.names)(e2:∀ s,fenceModules? p s=some s)(pQ:∀ w:World,(λos=>((staticsOk (importedModules p.main.body) (boot_heap w.params) (H1 l n w.params)&&namesBound p (H1 l n w.params)&&gensDone (S1 l n k w.params os)&&laidKept (boot_heap w.params) (H1 l n w.params)),openSeen (vw p) (los l) (importedModules p.main.body) (xt r) true (S1 l n k w.params os),(hk l as).obs (S1 l n k w.params os)))=λ_=>(true,openGood (vw p) (los l),(hk l as).val w)):LeftO p (vw p) (los l) (xt r) (hk l as).obs (hk l as).val 1000000 :=
 LeftO.of_pieces (H₀:=boot_heap) (H₁:=H1 l n) (m₀:=11) (ann:=an) (boot_open e1 rfl e2) size1 (run_of hl pre blk run) le pQ
theorem head{p:OpenLaw}{l:List Stmt}{as:List Addr}{d:DefRec}(left:LeftO p.prog (vw p.prog) (los l) (xt p.row) (hk l as).obs (hk l as).val 1000000)(said:p.row.wellSaid=true)(h1:defOf (vw p.prog) p.name=some (d,[]))(h2:p.prog.theDef p.name=some (d.params,d.body,d.scope))(h3:kwWritten? d.params.kwonlyargs d.params.kw_defaults=some [])(h4:(!p.row.writes||p.row.records.isEmpty)=true)(ok:(chainsOk (vw p.prog)&&opensWell p.prog&&(frees p.row.toRowW&&p.row.within.isEmpty))=true)(hb:p.prog.bare)(hw:p.row.toRowW.promised)(call:WalkO (vw p.prog) (los l) (XL (vw p.prog) []) (hk l as).says p.row.toRowW d [] λf vs=>PySem.call f vs):p.row.Holds :=
 holds_open (r:=p.row) (XP:=XL (vw p.prog) []) (YP:=(hk l as).says) left (hk l as).of (hk l as).keeps (λs e=>xl_of s (Bool.and_eq_true_iff.mp e).1) XL.keeps h1 h2 h3
  (λs e=>recFacts_of (Bool.and_eq_true_iff.mp e).2) h4 said ok hb hw call
end Tp
namespace D3
open PySem PySem.Spec PySem.Calls PyProof.Rows L2
end D3
namespace K21
open PySem L2 D3
def eC:List D3.S:=[.ite (.andL [(.cmp .Gt (.bcall .len [(.var 1)]) (.int 0)),(.cmp .Eq (.ix (.ix (.var 1) (.neg (.int 1))) (.int 0)) (.var 2)),(.cmp .Eq (.ix (.ix (.var 1) (.neg (.int 1))) (.int 1)) (.var 3))]) [.lput 1 (.neg (.int 1)) (.tup [(.var 2),(.var 3),(.frz (.bin .Add (.ix (.ix (.var 1) (.neg (.int 1))) (.int 2)) (.var 4)))])] [.app 1 (.tup [(.var 2),(.var 3),(.var 4)])]]
def dG:List D3.S:=[.set 10 (.frz (.bin .Add (.bin .FloorDiv (.var 0) (.bin .Add (.int 7) (.bin .Mult (.int 6) (.var 9)))) (.bin .Mult (.int 11) (.var 9)))),.ite (.cmp .Eq (.var 9) (.var 5)) [.set 10 (.frz (.bin .Add (.bin .FloorDiv (.var 0) (.int 25)) (.var 7)))] [],.ite (.cmp .Eq (.var 9) (.int 0)) [.set 8 (.frz (.bin .Add (.var 8) (.ix (.var 2) (.bin .Mod (.var 10) (.int 26)))))] [.set 8 (.frz (.bin .Add (.var 8) (.ix (.var 3) (.bin .Mod (.var 10) (.int 36)))))]]
def fY:List D3.S:=[.set 8 (.str ""),.for (.rng1 (.var 4)) (.nm 9) dG,.app 6 (.bin .Add (.var 8) (.slice (.str "a9z") none (some (.bin .Mod (.bin .FloorDiv (.var 0) (.bin .Add (.int 5) (.var 7))) (.int 4)))))]
def iP:List D3.S:=[.set 5 (.tup [(.frz (.tcall .tuple [(.srtw (.var 2))])),(.var 3)]),.nput 1 (.var 5) (.bin .Add (.nget (.var 1) (.var 5) (.int 0)) (.var 4))]
def j7:List D3.S:=[.ite (.not (.tru (.call "_law_alike" 2 [(.ix (.var 0) (.var 2)),(.ix (.var 1) (.var 2))]))) [.ret (.bl false)] []]
def aHU:List D3.S:=[.never]
def aHV:List D3.S:=[.never,.never,.never]
def aHW:List D3.S:=[.never]
def aHX:List D3.S:=[.never]
def lV:List D3.S:=[.set 1 (.lst []),.for (.items (.srtw (.var 0))) (.tp [(.nm 2),(.nm 3),(.nm 4)]) eC,.frzV 1,.ret (.tcall .tuple [(.var 1)])]
def aHY:List D3.S:=[.never]
def aHZ:List D3.S:=[.never,.never,.never]
def aH0:List D3.S:=[.never,.never,.never]
def aH1:List D3.S:=[.never,.never,.never,.never]
def aH2:List D3.S:=[.never,.never]
def aH3:List D3.S:=[.never,.never,.never]
def aH4:List D3.S:=[.never,.never,.never,.never]
def j8:List D3.S:=[.ite (.cmp .Lt (.var 1) (.bcall .len [(.var 0)])) [.ret (.ix (.var 0) (.var 1))] [],.ret (.int 0)]
def lW:List D3.S:=[.set 2 (.str "abcdefghijklmnopqrstuvwxyz"),.set 3 (.frz (.bin .Add (.var 2) (.str "0123456789"))),.set 4 (.frz (.bin .Add (.int 1) (.bin .Mod (.var 0) (.int 5)))),.set 5 (.frz (.bin .Mod (.bin .FloorDiv (.var 0) (.int 5)) (.var 4))),.set 6 (.lst []),.for (.rng1 (.var 1)) (.nm 7) fY,.retV 6]
def lX:List D3.S:=[.set 1 .nnew,.for (.items (.var 0)) (.tp [(.nm 2),(.nm 3),(.nm 4)]) iP,.nfrz 1,.ret (.tcall .tuple [(.srtw (.comp (.tup [(.ix (.var 1) (.int 0)),(.ix (.var 1) (.int 1)),(.nix (.var 0) (.var 1))]) (.nkeys (.var 1)) [] [1] (.nm 1) 1))])]
def gU:List D3.S:=[.set 2 (.tup [(.tup [(.ix (.var 1) (.bin .Mod (.var 0) (.int 4)))]),(.tup []),(.frz (.bin .Add (.int 1) (.bin .Mod (.bin .FloorDiv (.var 0) (.int 4)) (.int 3))))]),.ite (.cmp .Eq (.bin .Mod (.bin .FloorDiv (.var 0) (.int 12)) (.int 4)) (.int 0)) [.ret (.tup [(.var 2)])] [],.ite (.cmp .Eq (.bin .Mod (.bin .FloorDiv (.var 0) (.int 12)) (.int 4)) (.int 1)) [.ret (.call "_law_normal" 1 [(.frz (.lst [(.var 2),(.tup [(.tup [(.ix (.var 1) (.bin .Mod (.bin .FloorDiv (.var 0) (.int 48)) (.int 4))),(.ix (.var 1) (.bin .Mod (.bin .FloorDiv (.var 0) (.int 192)) (.int 4)))]),(.tup []),(.int 1)])]))])] [],.ite (.cmp .Eq (.bin .Mod (.bin .FloorDiv (.var 0) (.int 12)) (.int 4)) (.int 2)) [.ret (.tup [(.tup [(.tup []),(.tup []),(.frz (.bin .Add (.int 1) (.bin .Mod (.bin .FloorDiv (.var 0) (.int 48)) (.int 3))))])])] [],.ret (.tup [(.tup [(.ix (.var 2) (.int 0)),(.tup [(.tup [(.tup [(.tup [(.ix (.var 1) (.bin .Mod (.bin .FloorDiv (.var 0) (.int 48)) (.int 4)))]),(.tup []),(.int 1)])])]),(.ix (.var 2) (.int 2))])])]
def cO:List D3.S:=[.setC 2 true (.comp (.ix (.var 0) (.bin .Mod (.bin .FloorDiv (.var 1) (.ix (.lst [(.int 1),(.int 4),(.int 16)]) (.var 2))) (.int 4))) (.rng1 (.bin .Mod (.bin .FloorDiv (.var 0) (.int 64)) (.int 4))) [] [1,0] (.nm 2) 1),.set 3 (.tup []),.ite (.cmp .Eq (.bin .Mod (.bin .FloorDiv (.var 0) (.int 256)) (.int 3)) (.int 1)) [.set 3 (.tup [(.frz (.call "_law_bar" 2 [(.frz (.bin .FloorDiv (.var 0) (.int 768))),(.var 1)]))])] [],.ite (.cmp .Eq (.bin .Mod (.bin .FloorDiv (.var 0) (.int 256)) (.int 3)) (.int 2)) [.set 3 (.frz (.tcall .tuple [(.us2 (.lst [(.frz (.call "_law_bar" 2 [(.frz (.bin .FloorDiv (.var 0) (.int 768))),(.var 1)])),(.frz (.call "_law_bar" 2 [(.frz (.bin .FloorDiv (.var 0) (.int 9216))),(.var 1)]))]))]))] [],.set 4 (.frz (.bin .Add (.int 1) (.bin .Mod (.bin .FloorDiv (.var 0) (.int 768)) (.int 3)))),.ite (.cmp .Eq (.bin .Mod (.var 0) (.int 5)) (.int 2)) [.set 4 (.frz (.bin .Add (.int 1) (.bin .Mod (.bin .FloorDiv (.var 0) (.int 7)) (.bin .Pow (.int 10) (.int 40)))))] [],.ret (.tup [(.frz (.tcall .tuple [(.srtw (.var 2))])),(.var 3),(.var 4)])]
def lY:List D3.S:=[.ret (.call "_law_normal" 1 [(.frz (.comp (.call "_law_term" 2 [(.var 1),(.var 0)]) (.items (.var 0)) [] [1] (.nm 1) 1))])]
def cP:List D3.S:=[.ite (.cmp .Is (.var 1) .non) [.ret (.cmp .Is (.var 0) .non)] [],.ite (.tru (.bcall .isinstance [(.var 1),(.ty .bool)])) [.ret (.andL [(.bcall .isinstance [(.var 0),(.ty .bool)]),(.cmp .Eq (.var 0) (.var 1))])] [],.ite (.tru (.bcall .isinstance [(.var 1),(.ty .int)])) [.ret (.andL [(.bcall .isinstance [(.var 0),(.ty .int)]),(.not (.bcall .isinstance [(.var 0),(.ty .bool)])),(.cmp .Eq (.var 0) (.var 1))])] [],.ite (.tru (.bcall .isinstance [(.var 1),(.ty .str)])) [.ret (.andL [(.bcall .isinstance [(.var 0),(.ty .str)]),(.cmp .Eq (.var 0) (.var 1))])] [],.ite (.tru (.bcall .isinstance [(.var 1),(.ty .tuple)])) [.ite (.orL [(.not (.tru (.bcall .isinstance [(.var 0),(.ty .tuple)]))),(.cmp .NotEq (.bcall .len [(.var 0)]) (.bcall .len [(.var 1)]))]) [.ret (.bl false)] []] [.ite (.orL [(.not (.tru (.bcall .isinstance [(.var 0),(.ty .list)]))),(.cmp .NotEq (.bcall .len [(.var 0)]) (.bcall .len [(.var 1)]))]) [.ret (.bl false)] []],.for (.rng1 (.bcall .len [(.var 1)])) (.nm 2) j7,.ret (.bl true)]
def dM:List D3.S:=[.set 1 (.frz (.call "_law_names" 2 [(.frz (.call "_law_cell_at" 2 [(.var 0),(.int 0)])),(.int 4)])),.set 2 (.frz (.slice (.var 0) (some (.int 2)) (some (.int 62)))),.set 3 (.frz (.bin .Mod (.call "_law_cell_at" 2 [(.var 0),(.int 1)]) (.bin .Add (.bcall .len [(.var 2)]) (.int 1)))),.set 4 (.frz (.call "_law_reason" 2 [(.frz (.slice (.var 2) none (some (.var 3)))),(.var 1)])),.set 5 (.frz (.call "_law_reason" 2 [(.frz (.slice (.var 2) (some (.var 3)) none)),(.var 1)])),.set 6 (.frz (.call "_law_normal" 1 [(.frz (.bin .Add (.tcall .list [(.var 4)]) (.tcall .list [(.var 5)])))])),.set 7 (.frz (.mk0 "Reasons")),.ret (.andL [(.call "_law_alike" 2 [(.frz (.meth (.var 7) "plus" [(.var 4),(.var 5)])),(.var 6)]),(.call "_law_alike" 2 [(.frz (.meth (.var 7) "plus" [(.var 5),(.var 4)])),(.var 6)])])]
def lZ:List D3.S:=[.ret (.call "reason_of" 1 [(.frz (.bin .Add (.var 1) (.var 2)))])]
def aH5:FD:=⟨["thing"],["thing"],aHU⟩
def aH6:FD:=⟨["thing"],["thing"],aHV⟩
def aH7:FD:=⟨["sign"],["sign"],aHW⟩
def aH8:FD:=⟨["things"],["things"],aHX⟩
def vC:FD:=⟨["terms"],["terms", "found", "facts", "bars", "times"],lV⟩
def aH9:FD:=⟨["one", "other"],["one", "other"],aHY⟩
def aIA:FD:=⟨["one", "other"],["one", "other", "found", "bar"],aHZ⟩
def aIB:FD:=⟨["thing"],["thing", "term"],aH0⟩
def aIC:FD:=⟨["thing"],["thing", "facts", "bars", "times"],aH1⟩
def aID:FD:=⟨["thing"],["thing"],aH2⟩
def aIE:FD:=⟨["thing"],["thing", "bar"],aH3⟩
def aIF:FD:=⟨["reason"],["reason", "texts", "facts", "bars", "times", "factors", "bar"],aH4⟩
def vD:FD:=⟨["_law_script", "_law_k"],["_law_script", "_law_k"],j8⟩
def vE:FD:=⟨["_law_cell", "_law_many"],["_law_cell", "_law_many", "_law_letters", "_law_signs", "_law_size", "_law_at", "_law_names_here", "_law_k", "_law_name", "_law_j", "_law_drift"],lW⟩
def vF:FD:=⟨["_law_terms"],["_law_terms", "_law_known", "_law_facts", "_law_bars", "_law_times", "_law_key"],lX⟩
def vG:FD:=⟨["_law_cell", "_law_names_here"],["_law_cell", "_law_names_here", "_law_one"],gU⟩
def vH:FD:=⟨["_law_cell", "_law_names_here"],["_law_cell", "_law_names_here", "_law_facts", "_law_bars", "_law_times"],cO⟩
def vI:FD:=⟨["_law_cells", "_law_names_here"],["_law_cells", "_law_names_here"],lY⟩
def vJ:FD:=⟨["_law_found", "_law_due"],["_law_found", "_law_due", "_law_k"],cP⟩
def o3:FD:=⟨["_law_script"],["_law_script", "_law_names_here", "_law_cells", "_law_cut", "_law_one", "_law_other", "_law_due", "_law_kind"],dM⟩
def vK:FD:=⟨["self", "a", "b"],["self", "a", "b"],lZ⟩
def aIG:CI:=⟨"Kind", ["Kind"],[],[]⟩
def aIH:CI:=⟨"Reasons", ["Reasons", "Kind"],[],[("plus", "Reasons.plus", 3)]⟩
def T:List (Str×FD):=[(("is_whole" : Str),aH5),(("is_name" : Str),aH6),(("is_name_sign" : Str),aH7),(("is_rising" : Str),aH8),(("reason_of" : Str),vC),(("term_of_both" : Str),aH9),(("bars_of_both" : Str),aIA),(("is_reason" : Str),aIB),(("is_term" : Str),aIC),(("is_facts" : Str),aID),(("is_bars" : Str),aIE),(("shown_reason" : Str),aIF),(("_law_cell_at" : Str),vD),(("_law_names" : Str),vE),(("_law_normal" : Str),vF),(("_law_bar" : Str),vG),(("_law_term" : Str),vH),(("_law_reason" : Str),vI),(("_law_alike" : Str),vJ),(("law" : Str),o3),(("Reasons.plus" : Str),vK)]
def TT:TB:=⟨T,[],[aIG,aIH],[],[]⟩
def GG:MG:=⟨[(("Reasons" : Str),(GV.cls)),(("_law_alike" : Str),(GV.fn 2)),(("_law_bar" : Str),(GV.fn 2)),(("_law_cell_at" : Str),(GV.fn 2)),(("_law_names" : Str),(GV.fn 2)),(("_law_normal" : Str),(GV.fn 1)),(("_law_reason" : Str),(GV.fn 2)),(("_law_term" : Str),(GV.fn 2)),(("bool" : Str),(GV.no)),(("int" : Str),(GV.no)),(("isinstance" : Str),(GV.no)),(("len" : Str),(GV.no)),(("list" : Str),(GV.no)),(("range" : Str),(GV.no)),(("reason_of" : Str),(GV.fn 1)),(("set" : Str),(GV.no)),(("sorted" : Str),(GV.no)),(("str" : Str),(GV.no)),(("tuple" : Str),(GV.no))],["Reasons"],[],[],[],[]⟩
def top(i:Nat):Stmt:=PySem.Challenge.pw_whencewise_k21_sums_of_reasons.main.body.getD i (.Pass ⟨0,0,0,0⟩)
abbrev o4:Stmt:=top 28
theorem aII(k:Nat):(WT TT (k+1)).Φ "reason_of" = phi 1 5 (evB (WT TT k) lV):=eY (d:=vC) rfl
theorem aIJ(k:Nat):(WT TT (k+1)).Φ "_law_cell_at" = phi 2 2 (evB (WT TT k) j8):=eY (d:=vD) rfl
theorem aIK(k:Nat):(WT TT (k+1)).Φ "_law_names" = phi 2 11 (evB (WT TT k) lW):=eY (d:=vE) rfl
theorem aIL(k:Nat):(WT TT (k+1)).Φ "_law_normal" = phi 1 6 (evB (WT TT k) lX):=eY (d:=vF) rfl
theorem aIM(k:Nat):(WT TT (k+1)).Φ "_law_bar" = phi 2 3 (evB (WT TT k) gU):=eY (d:=vG) rfl
theorem aIN(k:Nat):(WT TT (k+1)).Φ "_law_term" = phi 2 5 (evB (WT TT k) cO):=eY (d:=vH) rfl
theorem aIO(k:Nat):(WT TT (k+1)).Φ "_law_reason" = phi 2 2 (evB (WT TT k) lY):=eY (d:=vI) rfl
theorem o5(k:Nat):(WT TT (k+1)).Φ "_law_alike" = phi 2 3 (evB (WT TT k) cP):=eY (d:=vJ) rfl
theorem u_law(k:Nat):(WT TT (k+1)).Φ "law" = phi 1 8 (evB (WT TT k) dM):=eY (d:=o3) rfl
theorem aIP(k:Nat):(WT TT (k+1)).Φ "Reasons.plus" = phi 3 3 (evB (WT TT k) lZ):=eY (d:=vK) rfl
theorem aIQ:CI.meth TT.cl "Reasons" "plus" = some (("Reasons.plus" : Str),3):=rfl
theorem aIR{Φ:Str->List D->Res}{as:aT}:fQ TT.cl Φ "plus" (.ok .fz (.ins "Reasons" [])) as=bO 3 (Φ "Reasons.plus") (cZ (.ok .fz (.ins "Reasons" [])) as):=aHR aIQ rfl
end K21
namespace K21
open PySem PySem.Spec PyProof.Rows L2 D3
abbrev Ky:=N×N
abbrev Tr:=Ky×Int
def kyN(k:Ky):N:=.t [k.1,k.2]
def tmN(t:Tr):N:=.t [t.1.1,t.1.2,.i t.2]
def kl(a b:Ky):Bool:=ltN (kyN a) (kyN b)
theorem o7{a b:Ky}(h:kyN a=kyN b):a=b:=by unfold kyN at h;simp only[N.t.injEq,aL1,and_true] at h;exact aLJ h.1 h.2
theorem vL{a b:Tr}(h:tmN a=tmN b):a=b:=by unfold tmN at h;simp only[N.t.injEq,aL1,and_true,N.i.injEq] at h;exact aLJ (aLJ h.1 h.2.1) h.2.2
theorem o8(a:Ky):kl a a=false:=jV _
theorem aIS{a b:Ky}(h1:kl a b=false)(h2:kl b a=false):a=b:=o7 (nZ _ _ h1 h2)
theorem vM{a b:Tr}(h:a.1≠b.1):ltN (tmN a) (tmN b)=kl a.1 b.1:=by
 unfold kl kyN tmN;simp only[ltN,bC];by_cases e1:a.1.1=b.1.1
 . rw[if_pos e1,if_pos e1];by_cases e2:a.1.2=b.1.2
   . exact absurd (aLJ e1 e2) h
   . rw[if_neg e2,if_neg e2]
 . rw[if_neg e1,if_neg e1]
def cH(p:List Tr)(k:Ky):Int:=match p with
 | []=>0
 | t::r=>(if t.1=k then t.2 else 0)+cH r k
def Has(p:List Tr)(k:Ky):Prop:=∃ t∈p,t.1=k
theorem iQ:∀ (p:List Tr) (t:Tr) (k:Ky),cH (p++[t]) k=cH p k+if t.1=k then t.2 else 0
 | [],t,k=>by simp[cH]
 | a::p,t,k=>by show (if a.1=k then a.2 else 0)+cH (p++[t]) k=(if a.1=k then a.2 else 0)+cH p k+_;rw[iQ p t k,Int.add_assoc]
theorem vN{p q:List Tr}(h:p.Perm q)(k:Ky):cH p k=cH q k:=by
 induction h with
 | nil=>rfl
 | cons x _ ih=>show _+cH _ k=_+cH _ k;rw[ih]
 | swap x y l=>show _+(_+cH l k)=_+(_+cH l k);omega
 | trans _ _ ih1 ih2=>rw[ih1,ih2]
theorem vO{p q:List Tr}(h:p.Perm q)(k:Ky):Has p k↔Has q k:=⟨λ⟨t,m,e⟩=>⟨t,h.mem_iff.mp m,e⟩,λ⟨t,m,e⟩=>⟨t,h.mem_iff.mpr m,e⟩⟩
theorem l4:∀ {p:List Tr} {k:Ky},¬ Has p k->cH p k=0
 | [],k,_=>rfl
 | t::p,k,h=>by have h1:¬ t.1=k:=λe=>h ⟨t,mcs,e⟩;have h2:¬ Has p k:=λ⟨u,m,e⟩=>h ⟨u,mcm m,e⟩;show (if t.1=k then t.2 else 0)+cH p k=0;rw[if_neg h1,l4 h2];rfl
theorem j9{p:List Tr}{t:Tr}{k:Ky}:Has (p++[t]) k↔Has p k\/t.1=k:=by
 constructor
 . rintro ⟨u,m,e⟩;rcases aJ8.mp m with m | m
   . exact .inl ⟨u,m,e⟩
   . cases aMZ.mp m;exact .inr e
 . rintro (⟨u,m,e⟩ | e)
   . exact ⟨u,aJ9 _ m,e⟩
   . exact ⟨t,aKO _ (aMZ.mpr rfl),e⟩
def eO(p L:List Tr):Prop:=∀ k n,(k,n)∈L↔Has p k/\n=cH p k
def bQ(acc:List Tr)(t:Tr):List Tr:=if (acc.any λa=>decide (a.1=t.1))=true then acc.map (λa=>if a.1=t.1 then (a.1,a.2+t.2) else a) else acc++[t]
theorem iR{acc:List Tr}{k:Ky}:(acc.any λa=>decide (a.1=k))=true↔Has acc k:=by
 rw[List.any_eq_true];constructor
 . rintro ⟨a,m,e⟩;exact ⟨a,m,aME e⟩
 . rintro ⟨a,m,e⟩;exact ⟨a,m,aLZ e⟩
theorem o9{p L:List Tr}(h:eO p L)(k:Ky):Has L k↔Has p k:=by
 constructor
 . rintro ⟨⟨k',n⟩,m,rfl⟩;exact ((h k' n).mp m).1
 . intro q;exact ⟨(k,cH p k),(h k _).mpr ⟨q,rfl⟩,rfl⟩
theorem vP(acc:List Tr)(t:Tr):(bQ acc t).map (·.1)=if (acc.any λa=>decide (a.1=t.1))=true then acc.map (·.1) else acc.map (·.1)++[t.1]:=by
 unfold bQ;split
 . rw[aOA];refine aOL λa _=>?_;show (if a.1=t.1 then (a.1,a.2+t.2) else a).1=a.1;split <;> rfl
 . rw[aOQ];rfl
theorem aIT{p acc:List Tr}(t:Tr)(h:eO p acc)(nd:(acc.map (·.1)).Nodup):eO (p++[t]) (bQ acc t)/\((bQ acc t).map (·.1)).Nodup:=by
 refine ⟨λk n=>?_,?_⟩
 . unfold bQ;by_cases q:(acc.any λa=>decide (a.1=t.1))=true
   . rw[if_pos q];have hp:Has p t.1:=(o9 h _).mp (iR.mp q);rw[j9,iQ];constructor
     . intro m;obtain ⟨⟨k',n'⟩,m',e⟩:=aOJ.mp m;have hh:=(h k' n').mp m';dsimp only at e;split at e
       . rename_i ek;cases e;rw[if_pos ek.symm];exact ⟨.inl hh.1,by rw[hh.2]⟩
       . rename_i ek;cases e;rw[if_neg (λz=>ek z.symm)];exact ⟨.inl hh.1,by rw[hh.2];omega⟩
     . rintro ⟨m,rfl⟩;have hk:Has p k:=by
         rcases m with m | m
         . exact m
         . rw[<- m];exact hp
       have m':=(h k _).mpr ⟨hk,rfl⟩;refine aOJ.mpr ⟨(k,cH p k),m',?_⟩;dsimp only;by_cases ek:k=t.1
       . rw[if_pos ek,if_pos ek.symm]
       . rw[if_neg ek,if_neg (λz=>ek z.symm),aOR]
   . rw[if_neg q];have hp:¬ Has p t.1:=λz=>q (iR.mpr ((o9 h _).mpr z));rw[j9,iQ,aJ8,aMZ,h k n];by_cases ek:t.1=k
     . subst ek;rw[if_pos rfl,l4 hp,aOS];constructor
       . rintro (z | z)
         . exact absurd z.1 hp
         . exact ⟨.inr rfl,by rw[<- z]⟩
       . rintro ⟨_,rfl⟩;exact .inr rfl
     . rw[if_neg ek,aOR];constructor
       . rintro (z | z)
         . exact ⟨.inl z.1,z.2⟩
         . exact absurd (by rw[<- z]) ek
       . rintro ⟨z | z,e⟩
         . exact .inl ⟨z,e⟩
         . exact absurd z ek
 . rw[vP];split
   . exact nd
   . rename_i q;refine List.nodup_append.mpr ⟨nd,aN5 _ _,λa ha b hb e=>?_⟩;cases aMZ.mp hb;obtain ⟨u,mu,rfl⟩:=aOJ.mp ha;exact q (iR.mpr ⟨u,mu,e⟩)
theorem vQ:∀ (r p acc:List Tr),eO p acc->(acc.map (·.1)).Nodup->eO (p++r) (r.foldl bQ acc)/\((r.foldl bQ acc).map (·.1)).Nodup
 | [],p,acc,h,nd=>by rw[aKZ];exact ⟨h,nd⟩
 | t::r,p,acc,h,nd=>by obtain ⟨h1,n1⟩:=aIT t h nd;have:=vQ r (p++[t]) _ h1 n1;rw[aNA] at this;exact this
def aS(ts:List Tr):List Tr:=ts.foldl bQ []
theorem vR:eO [] []:=λk n=>Iff.intro (λh=>by cases h) (λh=>by obtain ⟨⟨t,m,_⟩,_⟩:=h;cases m)
theorem fZ(ts:List Tr):eO ts (aS ts)/\((aS ts).map (·.1)).Nodup:=by have:=vQ ts [] [] vR List.nodup_nil;rw[aN1] at this;exact this
def bU(rf:List Tr)(t:Tr):List Tr:=match rf with
 | []=>[t]
 | l::r=>if l.1=t.1 then (t.1,l.2+t.2)::r else t::l::r
def l5(rf:List Tr):Prop:=rf.Pairwise λa b=>kl b.1 a.1=true
theorem aIU{p rf:List Tr}(t:Tr)(h:eO p rf)(d:l5 rf)(le:∀ x∈p,ltN (tmN t) (tmN x)=false):eO (p++[t]) (bU rf t)/\l5 (bU rf t):=by
 cases rf with
 | nil =>
  have hp:∀ k,¬ Has p k:=λk z=>nomatch (h k _).mpr ⟨z,rfl⟩;refine ⟨λk n=>?_,aN5 _ _⟩;rw[j9,iQ,l4 (hp k),aOS];show (k,n)∈[t]↔_;rw[aMZ];constructor
  . intro e;rw[<- e];exact ⟨.inr rfl,by rw[if_pos rfl]⟩
  . rintro ⟨z | z,e⟩
    . exact absurd z (hp k)
    . rw[if_pos z] at e;rw[e,<- z]
 | cons l r =>
  have hl:(l.1,l.2)∈l::r:=mcs;have hl:=(h l.1 l.2).mp hl;have dl:=(aNZ.mp d).1;have nr:∀ n,(l.1,n)∉r:=λn m=>by have:=dl _ m;rw[o8] at this;cases this
  unfold bU;dsimp only;by_cases e:l.1=t.1
  . rw[if_pos e];refine ⟨λk n=>?_,aNZ.mpr ⟨λa ha=>by rw[<- e];exact dl a ha,(aNZ.mp d).2⟩⟩
    rw[j9,iQ,aJ7];by_cases ek:t.1=k
    . subst ek;rw[if_pos rfl];constructor
      . rintro (z | z)
        . rw[Prod.mk.injEq] at z;exact ⟨.inr rfl,by rw[z.2,hl.2,e]⟩
        . exact absurd z (by rw[<- e];exact nr n)
      . rintro ⟨_,z⟩;left;rw[z,hl.2,e]
    . rw[if_neg ek,aOR];constructor
      . rintro (z | z)
        . exact absurd (Prod.mk.injEq .. ▸ z).1.symm ek
        . have:=(h k n).mp (mcm z);exact ⟨.inl this.1,this.2⟩
      . rintro ⟨z | z,e'⟩
        . have:=(h k n).mpr ⟨z,e'⟩;rcases aJ7.mp this with m | m
          . exact absurd (by rw[<- m] at e;exact e.symm) ek
          . exact .inr m
        . exact absurd z ek
  . rw[if_neg e];obtain ⟨x,mx,ex⟩:=hl.1;have k1:kl t.1 l.1=false:=by
      have:=le x mx;rw[vM (by rw[ex];exact λz=>e z.symm),ex] at this
      exact this
    have k2:kl l.1 t.1=true:=by
     cases q:kl l.1 t.1 with
     | true=>rfl
     | false=>exact absurd (aIS q k1) e
    have hp:¬ Has p t.1:=λz=>by
     have:=(h t.1 _).mpr ⟨z,rfl⟩;rcases aJ7.mp this with m | m
     . exact e (by rw[<- m])
     . have:=dl _ m;rw[k1] at this;cases this
    refine ⟨λk n=>?_,aNZ.mpr ⟨λa ha=>?_,d⟩⟩
    . rw[j9,iQ,aJ7,h k n];by_cases ek:t.1=k
      . subst ek;rw[if_pos rfl,l4 hp,aOS];constructor
        . rintro (z | z)
          . exact ⟨.inr rfl,by rw[<- z]⟩
          . exact absurd z.1 hp
        . rintro ⟨_,rfl⟩;exact .inl rfl
      . rw[if_neg ek,aOR];constructor
        . rintro (z | z)
          . exact absurd (by rw[<- z]) ek
          . exact ⟨.inl z.1,z.2⟩
        . rintro ⟨z | z,e'⟩
          . exact .inr ⟨z,e'⟩
          . exact absurd z ek
    . rcases aJ7.mp ha with rfl | ha
      . exact k2
      . exact n4 _ _ _ (dl a ha) k2
theorem vS:∀ (r p rf:List Tr),eO p rf->l5 rf->dU ((p++r).map tmN)->eO (p++r) (r.foldl bU rf)/\l5 (r.foldl bU rf)
 | [],p,rf,h,d,_=>by rw[aKZ];exact ⟨h,d⟩
 | t::r,p,rf,h,d,so=>by
  have le:∀ x∈p,ltN (tmN t) (tmN x)=false:=λx hx=>by rw[aOQ] at so;exact (aNY.mp so).2.2 _ (aOT hx) _ (aOT mcs)
  obtain ⟨h1,d1⟩:=aIU t h d le;have:=vS r (p++[t]) _ h1 d1 (by rw[aNA];exact so)
  rw[aNA] at this;exact this
theorem vT:∀ {a b:List Tr},a.map tmN=b.map tmN->a=b
 | [],[],_=>rfl
 | [],_::_,h=>by cases h
 | _::_,[],h=>by cases h
 | x::a,y::b,h=>by rw[aLY,aLY,aL1] at h;rw[vL h.1,vT h.2]
theorem both{ts S:List Tr}(hs:S.map tmN=bH (ts.map tmN)):(S.foldl bU []).reverse.map tmN=bH ((aS ts).map tmN):=by
 have pm:S.Perm ts:=by
  have h0:(S.map tmN).Perm (ts.map tmN):=by rw[hs];exact eW _
  obtain ⟨qs,q1,q2⟩:=jY h0;have:S=qs:=by exact vT q2
  rw[this];exact q1
 obtain ⟨h1,d1⟩:=vS S [] [] vR .nil (by rw[aN1,hs];exact jW _)
 rw[aN1] at h1;obtain ⟨h2,n2⟩:=fZ ts;have nd1:(S.foldl bU []).Nodup:=d1.imp λ{a b} h e=>by subst e;rw[o8] at h;cases h
 have nd2:(aS ts).Nodup:=by have:=aN6.mp n2;exact this.imp λ{a b} h e=>h (by rw[e])
 have pe:(S.foldl bU []).Perm (aS ts):=(List.perm_ext_iff_of_nodup nd1 nd2).mpr λ⟨k,n⟩=>by rw[h1 k n,h2 k n,vO pm k,vN pm k]
 refine oB ?_ (((List.reverse_perm _).trans pe).map tmN);unfold dU;rw[aN6,List.pairwise_reverse];refine d1.imp λ{a b} h=>?_;have ne:a.1≠b.1:=λe=>by rw[e,o8] at h;cases h
 rw[vM ne];exact n6 h
theorem vU:∀ {ks:List N},(∀ k∈ks,aY (nD k)=some k.py)->dI (nDL ks)=some (N.pyL ks)
 | [],_=>by simp[nDL,dI,N.pyL]
 | k::ks,h=>by simp only[nDL,dI,N.pyL];rw[h k mcs,vU λx hx=>h x (mcm hx)]
theorem vV(k:N):aY (nD k)=some k.py:=by
 induction k using N.ind with
 | hi n=>simp[nD,aY,N.py]
 | hs x=>simp[nD,aY,N.py]
 | ht xs ih=>simp only[nD,aY,N.py];rw[vU ih];rfl
theorem eqF_N{neg:Bool}{x y:N}{m m':Md}(hx:x.dp<=50)(hy:y.dp<=50):eqF neg m (nD x) m' (nD y)=some (.fz,.bl (if neg then !decide (x=y) else decide (x=y))):=by unfold eqF;rw[vV,vV];dsimp only;rw[if_pos (by unfold jI;rw[aLR,aMD,aMD,N.py_depth,N.py_depth];omega),N.py_eqv]
theorem vW{x y:N}{m m':Md}(hx:x.dp<=50)(hy:y.dp<=50):op2 (bK .Eq) (.ok m (nD x)) (.ok m' (nD y))=.ok .fz (.bl (decide (x=y))):=bZ (by
 show orO (eqF false) _ m (nD x) m' (nD y)=_;unfold orO;rw[eqF_N hx hy];rfl)
theorem pA:∀ {ks:List N},(∀ k∈ks,bG (nD k)=some k)->dL (nDL ks)=some ks
 | [],_=>by simp[nDL,dL]
 | k::ks,h=>by simp only[nDL,dL];rw[h k mcs,pA λx hx=>h x (mcm hx)]
theorem aIV(k:N):bG (nD k)=some k:=by
 induction k using N.ind with
 | hi n=>simp[nD,bG]
 | hs x=>simp[nD,bG]
 | ht xs ih=>simp only[nD,bG];rw[pA ih];rfl
theorem vX(ks:List N):dL (nDL ks)=some ks:=pA λk _=>aIV k
theorem pB{ks:List N}(h:(N.t ks).dp<=8):cE (nD (.t ks))=some (.t ks):=by
 rw[nD];show (match dL (nDL ks) with | some ks=>if (N.t ks).dp<=8 then some (N.t ks) else none | none=>none)=_
 rw[vX];dsimp only;rw[if_pos h]
theorem aIW{ks:List N}(h:∀ k∈ks,bY k=true)(h0:ks≠[]):txD (nDL ks)=none:=by
 cases ks with
 | nil=>exact absurd rfl h0
 | cons k ks =>
  have:=h k mcs;unfold bY at this;split at this
  . simp only[nDL,nD];rfl
  . cases this
theorem pC(ks:List N):(bH ks).length=ks.length:=(eW ks).length_eq
theorem vY{ks:List N}{m:Md}{d:D}(hd:seqD d=some (nDL ks))(h:∀ k∈ks,bY k=true)(ok:okS ks=true):eX [(m,d)]=some (.fr,.lst (nDL (bH ks))):=by
 show (match seqD d with | some ds=>_ | none=>none)=_
 rw[hd];dsimp only;by_cases h0:ks=[]
 . subst h0;rfl
 . rw[aIW h h0,vX];dsimp only;rw[if_pos ok]
def isF(f:N):Prop:=∃ xs:List Str,f=.t (xs.map .s)/\xs.length<64
def cI:Nat->N->Prop
 | 0,b=>b=.t []
 | j+1,b=>∃ rs:List N,b=.t rs/\rs.length<64/\∀ r∈rs,∃ ts:List Tr,r=.t (ts.map tmN)/\ts.length<64/\∀ t∈ts,isF t.1.1/\cI j t.1.2
def isK(j:Nat)(k:Ky):Prop:=isF k.1/\cI j k.2
theorem kA:∀ {xs ys:List N},(∀ x∈xs,∀ y∈ys,okN x y=true)->dS xs ys=true
 | [],_,_=>by simp[dS]
 | _::_,[],_=>by simp[dS]
 | x::xs,y::ys,h=>by
  rw[dS];split
  . exact kA λa ha b hb=>h a (mcm ha) b (mcm hb)
  . exact h x mcs y mcs
theorem pD{f g:N}(hf:isF f)(hg:isF g):okN f g=true:=by obtain ⟨xs,rfl,_⟩:=hf;obtain ⟨ys,rfl,_⟩:=hg;rw[okN];refine kA λx hx y hy=>?_;obtain ⟨a,_,rfl⟩:=aOJ.mp hx;obtain ⟨b,_,rfl⟩:=aOJ.mp hy;rw[okN]
theorem pE{s t:Tr}(h1:okN s.1.1 t.1.1=true)(h2:okN s.1.2 t.1.2=true):okN (tmN s) (tmN t)=true:=by
 unfold tmN;simp only[okN,dS];split
 . split
   . split <;> rfl
   . exact h2
 . exact h1
theorem pF:∀ {j:Nat} {b c:N},cI j b->cI j c->okN b c=true
 | 0,b,c,h1,h2=>by cases h1;cases h2;simp[okN,dS]
 | j+1,b,c,h1,h2=>by obtain ⟨rs,rfl,_,h1⟩:=h1;obtain ⟨qs,rfl,_,h2⟩:=h2;rw[okN];refine kA λx hx y hy=>?_;obtain ⟨ts,rfl,_,h1⟩:=h1 x hx;obtain ⟨us,rfl,_,h2⟩:=h2 y hy;rw[okN];refine kA λa ha b hb=>?_;obtain ⟨s,hs,rfl⟩:=aOJ.mp ha;obtain ⟨t,ht,rfl⟩:=aOJ.mp hb;exact pE (pD (h1 s hs).1 (h2 t ht).1) (pF (h1 s hs).2 (h2 t ht).2)
theorem ok_K{j:Nat}{s t:Tr}(h1:isK j s.1)(h2:isK j t.1):okN (tmN s) (tmN t)=true:=pE (pD h1.1 h2.1) (pF h1.2 h2.2)
theorem iS:∀ {xs:List N} {n:Nat},(∀ x∈xs,x.dp<=n)->N.dpL xs<=n
 | [],n,_=>by simp[N.dpL]
 | x::xs,n,h=>by rw[N.dpL];have:=h x mcs;have:=iS λy hy=>h y (mcm hy);omega
theorem pG{f:N}(h:isF f):f.dp<=1:=by
 obtain ⟨xs,rfl,_⟩:=h;rw[N.dp];have:N.dpL (xs.map N.s)<=0:=iS λx hx=>by obtain ⟨a,_,rfl⟩:=aOJ.mp hx;rw[N.dp];exact aKL 0
 omega
theorem pH:∀ {j:Nat} {b:N},cI j b->b.dp<=3 * j+1
 | 0,b,h=>by cases h;simp[N.dp,N.dpL]
 | j+1,b,h=>by
  obtain ⟨rs,rfl,_,h⟩:=h;rw[N.dp];have:N.dpL rs<=3 * j+3:=iS λr hr=>by
   obtain ⟨ts,rfl,_,h⟩:=h r hr;rw[N.dp];have:N.dpL (ts.map tmN)<=3 * j+2:=iS λx hx=>by obtain ⟨t,ht,rfl⟩:=aOJ.mp hx;have a1:=pG (h t ht).1;have a2:=pH (h t ht).2;simp only[tmN,N.dp,N.dpL];omega
   omega
  omega
theorem f6{k:Ky}{j:Nat}(h:isK j k)(hj:j<=2):k.1.dp<=1/\k.2.dp<=7/\(kyN k).dp<=8/\∀ n,(tmN (k,n)).dp<=8:=by
 have a1:=pG h.1;have a2:=pH h.2;refine ⟨a1,by omega,?_,λn=>?_⟩
 . simp only[kyN,N.dp,N.dpL];omega
 . simp only[tmN,N.dp,N.dpL];omega
theorem l6:∀ {j:Nat} {b:N},cI j b->cI (j+1) b
 | 0,b,h=>by cases h;exact ⟨[],rfl,by decide,λr hr=>nomatch hr⟩
 | j+1,b,h=>by obtain ⟨rs,rfl,l,h⟩:=h;refine ⟨rs,rfl,l,λr hr=>?_⟩;obtain ⟨ts,rfl,l2,h⟩:=h r hr;exact ⟨ts,rfl,l2,λt ht=>⟨(h t ht).1,l6 (h t ht).2⟩⟩
theorem aIX{t:Tr}(h:isF t.1.1):bY (tmN t)=true:=by obtain ⟨xs,e,_⟩:=h;unfold tmN;rw[e];rfl
theorem vZ{ts:List Tr}(h:∀ t∈ts,isK 2 t.1)(hl:ts.length<64):okS (ts.map tmN)=true/\∀ k∈ts.map tmN,bY k=true:=by
 have hF:∀ k∈ts.map tmN,bY k=true:=λk hk=>by obtain ⟨t,ht,rfl⟩:=aOJ.mp hk;exact aIX (h t ht).1
 refine ⟨?_,hF⟩;unfold okS;simp only[aLR,aMF,aMD,aN9];refine ⟨⟨⟨λk hk=>?_,.inr hF⟩,λx hx y hy=>?_⟩,by rw[aLA];exact hl⟩
 . obtain ⟨t,ht,rfl⟩:=aOJ.mp hk;exact (f6 (h t ht) (aKL 2)).2.2.2 t.2
 . obtain ⟨s,hs,rfl⟩:=aOJ.mp hx;obtain ⟨t,ht,rfl⟩:=aOJ.mp hy;exact ok_K (h s hs) (h t ht)
theorem iT{ds:List D}{m m':Md}{i:Int}{d:D}(h:atI ds i=some d):op2 ixD (.ok m (.lst ds)) (.ok m' (.int i))=.ok .fz d:=bZ (by show (atI ds i).map _=_;rw[h];rfl)
theorem iU{ds:List D}{m m':Md}{i:Int}{d:D}(h:atI ds i=some d):op2 ixD (.ok m (.tup ds)) (.ok m' (.int i))=.ok .fz d:=bZ (by show (atI ds i).map _=_;rw[h];rfl)
theorem ix2_0{m m':Md}{x y:D}:op2 ixD (.ok m (.tup [x,y])) (.ok m' (.int 0))=.ok .fz x:=iU rfl
theorem ix2_1{m m':Md}{x y:D}:op2 ixD (.ok m (.tup [x,y])) (.ok m' (.int 1))=.ok .fz y:=iU rfl
theorem l7{m m':Md}{x y z:D}:op2 ixD (.ok m (.tup [x,y,z])) (.ok m' (.int 0))=.ok .fz x:=iU rfl
theorem pI{m m':Md}{x y z:D}:op2 ixD (.ok m (.tup [x,y,z])) (.ok m' (.int 1))=.ok .fz y:=iU rfl
theorem l8{m m':Md}{x y z:D}:op2 ixD (.ok m (.tup [x,y,z])) (.ok m' (.int 2))=.ok .fz z:=iU rfl
theorem gW:gC (.ok [])=.ok .fz (.tup []):=rfl
theorem kB{x:D}:gC (.ok [(.fz,x)])=.ok .fz (.tup [x]):=rfl
theorem tup2{x y:D}:gC (.ok [(.fz,x),(.fz,y)])=.ok .fz (.tup [x,y]):=rfl
theorem eP{x y z:D}:gC (.ok [(.fz,x),(.fz,y),(.fz,z)])=.ok .fz (.tup [x,y,z]):=rfl
theorem iV(t:Tr):nD (tmN t)=.tup [nD t.1.1,nD t.1.2,.int t.2]:=by simp[tmN,nD,nDL]
theorem K_eq(k:Ky):nD (kyN k)=.tup [nD k.1,nD k.2]:=by simp[kyN,nD,nDL]
abbrev tD(t:Tr):D:=nD (tmN t)
theorem kC(ts:List Tr):nDL (ts.map tmN)=ts.map tD:=by rw[fV,aOA];rfl
theorem aIY(r:List D)(d:D):atI (r++[d]) (-1)=some d:=by
 unfold atI ixN;rw[if_neg (by decide),if_pos (by simp;omega)]
 simp;have:(-1+((r.length:Int)+1)).toNat=r.length:=by omega
 rw[this];simp
theorem aIZ(r:List D)(d:D):ixN (r++[d]).length (-1)=some r.length:=by
 unfold ixN;rw[if_neg (by decide),if_pos (by simp;omega)]
 simp;omega
theorem aI0(r:List D)(d e:D):(r++[d]).set r.length e=r++[e]:=by simp
theorem lst0:gD (.ok [])=.ok .fr (.lst []):=rfl
theorem pJ(t:Tr):tD t=.tup [nD t.1.1,nD t.1.2,.int t.2]:=iV t
theorem body0{W:WD}{A x2 x3 x4:Option (Bool×D)}{t:Tr}:evB W eC [A,some (true,.lst []),some (false,nD t.1.1),some (false,nD t.1.2),some (false,.int t.2)]=.nx [A,some (true,.lst [tD t]),some (false,nD t.1.1),some (false,nD t.1.2),some (false,.int t.2)]:=by
 have l0:eG [(.bo,.lst [])]=some (.fz,.int 0):=rfl;have a0:eL [A,some (true,.lst []),some (false,nD t.1.1),some (false,nD t.1.2),some (false,.int t.2)] 1 (.ok .fz (.tup [nD t.1.1,nD t.1.2,.int t.2]))=.nx [A,some (true,.lst [tD t]),some (false,nD t.1.1),some (false,nD t.1.2),some (false,.int t.2)]:=by rw[tD,iV];rfl
 simp[eC,l0,eP,a0]
theorem body1{W:WD}{A:Option (Bool×D)}{l t:Tr}{r:List D}(hl:isK 2 l.1)(ht:isK 2 t.1)(hr:r.length+1<sizeLine):evB W eC [A,some (true,.lst (r++[tD l])),some (false,nD t.1.1),some (false,nD t.1.2),some (false,.int t.2)]=.nx [A,some (true,.lst (if l.1=t.1 then r++[tD (t.1,l.2+t.2)] else r++[tD l]++[tD t])),some (false,nD t.1.1),some (false,nD t.1.2),some (false,.int t.2)]:=by
 have l0:eG [(.bo,.lst (r++[tD l]))]=some (.fz,.int (r.length+1:Nat)):=by show some (Md.fz,D.int ((r++[tD l]).length:Nat))=_;rw[aK9];rfl
 have i0:op2 ixD (.ok .bo (.lst (r++[tD l]))) (.ok .fz (.int (-1)))=.ok .fz (.tup [nD l.1.1,nD l.1.2,.int l.2]):=by rw[<- iV];exact iT (aIY r _)
 have e1:=vW (m:=.fz) (m':=.fz) (x:=l.1.1) (y:=t.1.1) (by have:=(f6 hl (aKL 2)).1;omega) (by have:=(f6 ht (aKL 2)).1;omega)
 have e2:=vW (m:=.fz) (m':=.fz) (x:=l.1.2) (y:=t.1.2) (by have:=(f6 hl (aKL 2)).2.1;omega) (by have:=(f6 ht (aKL 2)).2.1;omega)
 have p0:(0:Int)<((r.length+1:Nat):Int):=by omega
 have a0:eL [A,some (true,.lst (r++[tD l])),some (false,nD t.1.1),some (false,nD t.1.2),some (false,.int t.2)] 1 (.ok .fz (.tup [nD t.1.1,nD t.1.2,.int t.2]))=.nx [A,some (true,.lst (r++[tD l]++[tD t])),some (false,nD t.1.1),some (false,nD t.1.2),some (false,.int t.2)]:=by
  rw[tD,tD,iV t];show (if (r++[nD (tmN l)]).length<sizeLine then _ else _)=_;rw[if_pos (by rw[aK9];exact hr)]
  rfl
 have q0:fG [A,some (true,.lst (r++[tD l])),some (false,nD t.1.1),some (false,nD t.1.2),some (false,.int t.2)] 1 (.ok .fz (.int (-1))) (.ok .fz (.tup [nD t.1.1,nD t.1.2,.int (l.2+t.2)]))=.nx [A,some (true,.lst (r++[tD (t.1,l.2+t.2)])),some (false,nD t.1.1),some (false,nD t.1.2),some (false,.int t.2)]:=by
  show (match ixN (r++[tD l]).length (-1) with | some j=>aG.nx (List.set [A,some (true,D.lst (r++[tD l])),some (false,nD t.1.1),some (false,nD t.1.2),some (false,D.int t.2)] 1 (some (true,D.lst ((r++[tD l]).set j _)))) | none=>.stuck)=_
  rw[aIZ];dsimp only;rw[aI0];have:tD (t.1,l.2+t.2)=.tup [nD t.1.1,nD t.1.2,.int (l.2+t.2)]:=iV _;rw[this];rfl
 by_cases c1:l.1.1=t.1.1
 . by_cases c2:l.1.2=t.1.2
   . have c:l.1=t.1:=aLJ c1 c2;rw[if_pos c];rw[aLZ c1] at e1;rw[aLZ c2] at e2;generalize D.lst (r++[tD l])=L at *;simp[eC,l0,i0,l7,pI,l8,e1,e2,p0,eP,q0]
   . have c:¬ l.1=t.1:=λe=>c2 (by rw[e])
     rw[if_neg c];rw[aLZ c1] at e1;rw[aJU c2] at e2;generalize D.lst (r++[tD l])=L at *;simp[eC,l0,i0,l7,pI,l8,e1,e2,p0,eP,a0]
 . have c:¬ l.1=t.1:=λe=>c1 (by rw[e])
   rw[if_neg c];rw[aJU c1] at e1;generalize D.lst (r++[tD l])=L at *;simp[eC,l0,i0,l7,pI,l8,e1,e2,p0,eP,a0]
theorem aI1(rf:List Tr)(t:Tr):(bU rf t).length<=rf.length+1:=by
 unfold bU;split
 . simp
 . split <;> simp
theorem aI2{rf:List Tr}{t:Tr}(h:∀ x∈rf,isK 2 x.1)(ht:isK 2 t.1):∀ x∈bU rf t,isK 2 x.1:=by
 unfold bU;split
 . intro x hx;cases aMZ.mp hx;exact ht
 . split
   . intro x hx;rcases aJ7.mp hx with rfl | hx
     . exact ht
     . exact h x (mcm hx)
   . intro x hx;rcases aJ7.mp hx with rfl | hx
     . exact ht
     . exact h x hx
theorem iW{W:WD}{A:Option (Bool×D)}:∀ (S rf:List Tr) (x2 x3 x4:Option (Bool×D)),(∀ t∈S,isK 2 t.1)->(∀ t∈rf,isK 2 t.1)->rf.length+S.length<1000->∃ y2 y3 y4,bM (aU (.tp [.nm 2,.nm 3,.nm 4])) (evB W eC) (S.map tD) [A,some (true,.lst (rf.reverse.map tD)),x2,x3,x4]=.nx [A,some (true,.lst ((S.foldl bU rf).reverse.map tD)),y2,y3,y4]
 | [],rf,x2,x3,x4,_,_,_=>⟨x2,x3,x4,rfl⟩
 | t::S,rf,x2,x3,x4,hS,hr,hl=>by
  have ht:=hS t mcs;rw[aMC] at hl;obtain ⟨y2,y3,y4,e⟩:=iW (W:=W) (A:=A) S (bU rf t) (some (false,nD t.1.1)) (some (false,nD t.1.2)) (some (false,.int t.2)) (λx hx=>hS x (mcm hx)) (aI2 hr ht) (by have:=aI1 rf t;omega)
  refine ⟨y2,y3,y4,?_⟩;have eb:evB W eC [A,some (true,.lst (rf.reverse.map tD)),some (false,nD t.1.1),some (false,nD t.1.2),some (false,.int t.2)]=.nx [A,some (true,.lst ((bU rf t).reverse.map tD)),some (false,nD t.1.1),some (false,nD t.1.2),some (false,.int t.2)]:=by
   cases rf with
   | nil=>exact body0 (x2:=x2) (x3:=x3) (x4:=x4)
   | cons l r =>
    rw[aOU,aOQ];show evB W eC [A,some (true,.lst (r.reverse.map tD++[tD l])),_,_,_]=_;rw[body1 (hr l mcs) ht (by rw[aLA,List.length_reverse,aKQ];rw[aMC] at hl;omega)]
    unfold bU;dsimp only;split
    . rw[aOU,aOQ];rfl
    . rw[aOU,aOU,aOQ,aOQ];rfl
  rw[aLY,pJ t];unfold bM;rw[show aU (.tp [.nm 2,.nm 3,.nm 4]) (.tup [nD t.1.1,nD t.1.2,.int t.2]) [A,some (true,.lst (rf.reverse.map tD)),x2,x3,x4]=some [A,some (true,.lst (rf.reverse.map tD)),some (false,nD t.1.1),some (false,nD t.1.2),some (false,.int t.2)] from by simp]
  dsimp only;rw[eb];exact e
theorem aI3{k:Nat}{ts S:List Tr}(hs:S.map tmN=bH (ts.map tmN))(h:∀ t∈ts,isK 2 t.1)(hl:ts.length<64):(WT TT (k+1)).Φ "reason_of" [.tup (ts.map tD)]=.ok .fz (.tup (nDL (bH ((aS ts).map tmN)))):=by
 obtain ⟨ok,ft⟩:=vZ h hl;have hS:∀ t∈S,isK 2 t.1:=λt ht=>by
  have:tmN t∈bH (ts.map tmN):=by rw[<- hs];exact aOT ht
  obtain ⟨u,hu,e⟩:=aOJ.mp ((eW _).mem_iff.mp this);rw[<- vL e];exact h u hu
 have lS:S.length<64:=by have:=congrArg List.length hs;rw[aLA,pC,aLA] at this;omega
 have e1:eX [(.fz,.tup (ts.map tD))]=some (.fr,.lst (S.map tD)):=by rw[<- kC S,hs];exact vY (by rw[kC];rfl) ft ok
 obtain ⟨y2,y3,y4,e2⟩:=iW (W:=WT TT k) (A:=some (false,.tup (ts.map tD))) S [] none none none hS (λt ht=>nomatch ht) (by simp;omega)
 have e3:eJ [(.fz,.lst ((S.foldl bU []).reverse.map tD))]=some (.fz,.tup (nDL (bH ((aS ts).map tmN)))):=by show some (Md.fz,D.tup ((S.foldl bU []).reverse.map tD))=_;rw[<- kC,both hs]
 rw[aII];refine dY rfl ?_;show evB _ lV [some (false,.tup (ts.map tD)),none,none,none,none]=_;have e2:bM (aU (.tp [.nm 2,.nm 3,.nm 4])) (evB (WT TT k) eC) (S.map tD) [some (false,.tup (ts.map tD)),some (true,.lst []),none,none,none]=_:=e2;have e4:∀ {L:D},iE [some (false,.tup (ts.map tD)),some (true,L),y2,y3,y4] 1=.nx [some (false,.tup (ts.map tD)),some (false,L),y2,y3,y4]:=rfl;unfold lV;generalize eC=B at *;generalize (S.foldl bU []).reverse.map tD=L at *;generalize nDL (bH ((aS ts).map tmN))=M at *;generalize S.map tD=L0 at *;generalize D.tup (ts.map tD)=A at *;simp[lst0,e1,fO,e2,e4,Ty.f,e3]
theorem v4{α:Type}{enc:α->D}{p:α->Bool}{g:α->D}{k:D->Rho->Option Rho}{t e:Rho->Res}{ρ0:Rho}:∀ {xs:List α},(∀ x∈xs,∃ ρ1 m,k (enc x) ρ0=some ρ1/\t ρ1=.ok m (.bl (p x))/\(p x=true->∃ m',a5 (e ρ1)=.ok m' (g x)))->eI k t e ρ0 (xs.map enc)=some ((xs.filter p).map g)
 | [],_=>rfl
 | x::xs,h=>by
  obtain ⟨ρ1,m,e1,e2,e3⟩:=h x mcs;have ih:=v4 λy hy=>h y (mcm hy);rw[aLY];unfold eI;rw[e1];dsimp only;rw[e2];cases q:p x with
  | true=>obtain ⟨m',e3⟩:=e3 q;simp[e3,ih,List.filter_cons,q]
  | false=>simp[ih,List.filter_cons,q]
theorem aI4{α:Type}{enc:α->D}(p:α->Bool)(g:α->D){ρ:Rho}{aD:List Nat}{n:Nat}{k:D->Rho->Option Rho}{t e:Rho->Res}{m:Md}{xs:List α}(hl:xs.length<sizeLine)(h:∀ x∈xs,∃ ρ1 m,k (enc x) (cL aD ρ++List.replicate n none)=some ρ1/\t ρ1=.ok m (.bl (p x))/\(p x=true->∃ m',a5 (e ρ1)=.ok m' (g x))):dB (.ok m (.lst (xs.map enc))) ρ aD n k t e=.ok .fr (.lst ((xs.filter p).map g)):=by unfold dB;rw[Res.thn_ok];dsimp only;rw[if_pos (by simpa using hl),v4 h]
theorem aI5{α:Type}{enc:α->D}(g:α->D){ρ:Rho}{aD:List Nat}{n:Nat}{k:D->Rho->Option Rho}{t e:Rho->Res}{m:Md}{xs:List α}(hl:xs.length<sizeLine)(h:∀ x∈xs,∃ ρ1 m,k (enc x) (cL aD ρ++List.replicate n none)=some ρ1/\t ρ1=.ok m (.bl true)/\∃ m',a5 (e ρ1)=.ok m' (g x)):dB (.ok m (.lst (xs.map enc))) ρ aD n k t e=.ok .fr (.lst (xs.map g)):=by
 have:=aI4 (enc:=enc) (λ_=>true) g (ρ:=ρ) (aD:=aD) (n:=n) (k:=k) (t:=t) (e:=e) (m:=m) hl λx hx=>by obtain ⟨ρ1,m,e1,e2,e3⟩:=h x hx;exact ⟨ρ1,m,e1,e2,λ_=>e3⟩
 rw[this,List.filter_eq_self.mpr λ_ _=>rfl]
def F(ys:List Str):N:=.t (ys.map .s)
theorem l9(ys:List Str):nD (F ys)=.tup (ys.map .str):=by unfold F;rw[nD,fV,aOA];congr 1
abbrev Rw:=List Str×N×Int
def enc(r:Rw):D:=.tup [.tup (r.1.map .str),nD r.2.1,.int r.2.2]
def tr(r:Rw):Tr:=((F (bD r.1),r.2.1),r.2.2)
def kv(a:Tr):N×D:=(kyN a.1,.int a.2)
theorem v5:∀ (xs:List Str),txD (xs.map .str)=some xs
 | []=>rfl
 | x::xs=>by rw[aLY];unfold txD;rw[v5 xs];rfl
theorem v6{xs:List Str}{m:Md}{d:D}(hd:seqD d=some (xs.map .str))(h:xs.length<64):eX [(m,d)]=some (.fr,.lst ((bD xs).map .str)):=by
 show (match seqD d with | some ds=>_ | none=>none)=_
 rw[hd];dsimp only;rw[v5];dsimp only;rw[if_pos h]
theorem mD:∀ (acc:List Tr) (k:Ky),cF (acc.map kv) (kyN k)=(acc.find? λa=>decide (a.1=k)).map λa=>.int a.2
 | [],k=>rfl
 | a::acc,k=>by
  rw[aLY];by_cases e:a.1=k
  . rw[tI (p:=kv a) (by show kyN a.1=_;rw[e]),List.find?_cons_of_pos (by simpa using e)]
    rfl
  . rw[tJ (p:=kv a) (λz=>e (o7 z)),mD acc k,List.find?_cons_of_neg (by simpa using e)]
theorem pK{acc:List Tr}{k:Ky}{n:Int}(nd:(acc.map (·.1)).Nodup)(h:(k,n)∈acc):acc.find? (λa=>decide (a.1=k))=some (k,n):=by
 induction acc with
 | nil=>cases h
 | cons a acc ih =>
  rw[aLY,aK0] at nd;rcases aJ7.mp h with e | h
  . subst e;rw[List.find?_cons_of_pos (by simp)]
  . have:¬ a.1=k:=λe=>nd.1 (by rw[e];exact aOJ.mpr ⟨_,h,rfl⟩)
    rw[List.find?_cons_of_neg (by simpa using this)]
    exact ih nd.2 h
theorem aI6{acc:List Tr}{t:Tr}(nd:(acc.map (·.1)).Nodup):((bQ acc t).map (·.1)).Nodup:=by
 rw[vP];split
 . exact nd
 . rename_i q;refine List.nodup_append.mpr ⟨nd,aN5 _ _,λa ha b hb e=>?_⟩;cases aMZ.mp hb;obtain ⟨u,mu,rfl⟩:=aOJ.mp ha;exact q (iR.mpr ⟨u,mu,e⟩)
theorem v7(acc:List Tr)(t:Tr):(bQ acc t).length<=acc.length+1:=by
 unfold bQ;split
 . rw[aLA];omega
 . rw[aK9];exact aKL _
def eZ(acc:List Tr)(k:Ky):Int:=((acc.find? λa=>decide (a.1=k)).map (·.2)).getD 0
theorem aI7(acc:List Tr)(k:Ky):(cF (acc.map kv) (kyN k)).getD (.int 0)=.int (eZ acc k):=by rw[mD];unfold eZ;cases acc.find? λa=>decide (a.1=k) <;> rfl
theorem aI8{acc:List Tr}{t:Tr}(nd:(acc.map (·.1)).Nodup):iH (acc.map kv) (kyN t.1) (.int (eZ acc t.1+t.2))=(bQ acc t).map kv:=by
 unfold iH bQ;rw[mD];by_cases q:(acc.any λa=>decide (a.1=t.1))=true
 . rw[if_pos q];obtain ⟨⟨k,n⟩,m,e⟩:=iR.mp q;dsimp only at e;subst e;have hf:=pK nd m;have hv:eZ acc t.1=n:=by unfold eZ;rw[hf];rfl
   rw[if_pos (by rw[hf];rfl),hv,aOA,aOA]
   refine aOL λa ha=>?_;show (if kyN a.1=kyN t.1 then (kyN a.1,D.int (n+t.2)) else kv a)=kv (if a.1=t.1 then (a.1,a.2+t.2) else a);by_cases e:a.1=t.1
   . rw[if_pos e,if_pos (by rw[e])]
     have:a=(t.1,n):=by
      have:=pK nd (k:=t.1) (n:=a.2) (by rw[<- e];exact ha)
      rw[hf] at this;injection this with this
      rw[this,<- e]
     rw[this];rfl
   . rw[if_neg e,if_neg (λz=>e (o7 z))]
 . rw[if_neg q];have:(acc.find? λa=>decide (a.1=t.1))=none:=by rw[List.find?_eq_none];intro a ha z;exact q (iR.mpr ⟨a,ha,aME z⟩)
   have hv:eZ acc t.1=0:=by unfold eZ;rw[this];rfl
   rw[if_neg (by rw[this];decide),hv,aOS,aOQ]
   rfl
theorem pL{k:Ky}(h:(kyN k).dp<=8):cE (.tup [nD k.1,nD k.2])=some (kyN k):=by rw[<- K_eq];exact pB h
theorem nbody{W:WD}{A x5:Option (Bool×D)}{acc:List Tr}{r:Rw}(nd:(acc.map (·.1)).Nodup)(hx:r.1.length<64)(h8:(kyN (tr r).1).dp<=8)(hl:acc.length<1000):evB W iP [A,some (true,.dtn (acc.map kv)),some (false,.tup (r.1.map .str)),some (false,nD r.2.1),some (false,.int r.2.2),x5]=.nx [A,some (true,.dtn ((bQ acc (tr r)).map kv)),some (false,.tup (r.1.map .str)),some (false,nD r.2.1),some (false,.int r.2.2),some (false,.tup [nD (tr r).1.1,nD (tr r).1.2])]:=by
 have e1:eX [(.fz,.tup (r.1.map .str))]=some (.fr,.lst ((bD r.1).map .str)):=v6 rfl hx;have e2:eJ [(.fr,.lst ((bD r.1).map D.str))]=some (.fz,nD (tr r).1.1):=by show some (Md.fz,D.tup ((bD r.1).map D.str))=_;rw[show (tr r).1.1=F (bD r.1) from rfl,l9]
 have e0:nD r.2.1=nD (tr r).1.2:=rfl;have e3:jT (.ok .bo (.dtn (acc.map kv))) (.ok .fz (.tup [nD (tr r).1.1,nD (tr r).1.2])) (.ok .fz (.int 0))=.ok .fz (.int (eZ acc (tr r).1)):=by
  show (match Md.fz,cE (.tup [nD (tr r).1.1,nD (tr r).1.2]) with | .fz,some k=>Res.ok .fz ((cF (acc.map kv) k).getD (.int 0)) | _,_=>.stuck)=_
  rw[pL h8];dsimp only;rw[aI7]
 have e4 : jU [A, some (true, .dtn (acc.map kv)), some (false, .tup (r.1.map .str)), some (false, nD (tr r).1.2), some (false, .int r.2.2), some (false, .tup [nD (tr r).1.1, nD (tr r).1.2])] 1 (.ok .fz (.tup [nD (tr r).1.1, nD (tr r).1.2])) (.ok .fz (.int (eZ acc (tr r).1 + r.2.2))) =
     .nx [A,some (true,.dtn ((bQ acc (tr r)).map kv)),some (false,.tup (r.1.map .str)),some (false,nD (tr r).1.2),some (false,.int r.2.2),some (false,.tup [nD (tr r).1.1,nD (tr r).1.2])]:=by
  show (match cE (.tup [nD (tr r).1.1,nD (tr r).1.2]) with | some k=>if (acc.map kv).length<sizeLine then aG.nx (List.set [A,some (true,D.dtn (acc.map kv)),some (false,D.tup (r.1.map .str)),some (false,nD (tr r).1.2),some (false,.int r.2.2),some (false,.tup [nD (tr r).1.1,nD (tr r).1.2])] 1 (some (true,D.dtn (iH (acc.map kv) k (.int (eZ acc (tr r).1+r.2.2)))))) else .stuck | none=>.stuck)=_
  rw[pL h8];dsimp only;rw[if_pos (by rw[aLA,aKQ];omega)]
  have:=aI8 (t:=tr r) nd;rw[show (tr r).2=r.2.2 from rfl] at this
  rw[this];rfl
 rw[e0];generalize nD (tr r).1.1=Fd at *;generalize nD (tr r).1.2=Bd at *;generalize D.dtn (acc.map kv)=L at *;generalize D.tup (r.1.map .str)=X at *;generalize D.dtn ((bQ acc (tr r)).map kv)=L' at *;generalize (bD r.1).map D.str=Y at *;simp[iP,Ty.f,e1,e2,tup2,e3,e4]
theorem v8{W:WD}{A:Option (Bool×D)}:∀ (rs:List Rw) (acc:List Tr) (x2 x3 x4 x5:Option (Bool×D)),(acc.map (·.1)).Nodup->(∀ r∈rs,r.1.length<64/\(kyN (tr r).1).dp<=8)->acc.length+rs.length<1000->∃ y2 y3 y4 y5,bM (aU (.tp [.nm 2,.nm 3,.nm 4])) (evB W iP) (rs.map enc) [A,some (true,.dtn (acc.map kv)),x2,x3,x4,x5]=.nx [A,some (true,.dtn (((rs.map tr).foldl bQ acc).map kv)),y2,y3,y4,y5]
 | [],acc,x2,x3,x4,x5,_,_,_=>⟨x2,x3,x4,x5,rfl⟩
 | r::rs,acc,x2,x3,x4,x5,nd,h,hl=>by
  obtain ⟨h1,h2⟩:=h r mcs;rw[aMC] at hl;obtain ⟨y2,y3,y4,y5,e⟩:=v8 (W:=W) (A:=A) rs (bQ acc (tr r)) (some (false,.tup (r.1.map .str))) (some (false,nD r.2.1)) (some (false,.int r.2.2)) (some (false,.tup [nD (tr r).1.1,nD (tr r).1.2])) (aI6 nd) (λx hx=>h x (mcm hx)) (by have:=v7 acc (tr r);omega)
  refine ⟨y2,y3,y4,y5,?_⟩;rw[aLY];unfold bM;rw[show aU (.tp [.nm 2,.nm 3,.nm 4]) (enc r) [A,some (true,.dtn (acc.map kv)),x2,x3,x4,x5]=some [A,some (true,.dtn (acc.map kv)),some (false,.tup (r.1.map .str)),some (false,nD r.2.1),some (false,.int r.2.2),x5] from by simp[enc]]
  dsimp only;rw[nbody nd h1 h2 (by omega)]
  exact e
theorem v9{ts:List Tr}(h:∀ t∈ts,isK 2 t.1):∀ t∈aS ts,isK 2 t.1:=λt ht=>by obtain ⟨u,hu,e⟩:=(((fZ ts).1 t.1 t.2).mp ht).1;rw[<- e];exact h u hu
theorem wA:∀ (r acc:List Tr),(r.foldl bQ acc).length<=acc.length+r.length
 | [],acc=>aKL _
 | t::r,acc=>by have h1:=wA r (bQ acc t);have h2:=v7 acc t;rw[List.foldl_cons,aMC];omega
theorem mH(ts:List Tr):(aS ts).length<=ts.length:=by unfold aS;have:=wA ts [];simpa using this
def nf(ts:List Tr):D:=.tup (nDL (bH ((aS ts).map tmN)))
theorem pM{k:Nat}{rs:List Rw}(h:∀ r∈rs,r.1.length<64/\isK 2 (tr r).1)(hl:rs.length<64):(WT TT (k+1)).Φ "_law_normal" [.lst (rs.map enc)]=.ok .fz (nf (rs.map tr)):=by
 have hK:∀ t∈rs.map tr,isK 2 t.1:=λt ht=>by obtain ⟨r,hr,rfl⟩:=aOJ.mp ht;exact (h r hr).2
 obtain ⟨tl,nd⟩:=fZ (rs.map tr);have aK:=v9 hK;have al:(aS (rs.map tr)).length<64:=by have:=mH (rs.map tr);rw[aLA] at this;omega
 obtain ⟨y2,y3,y4,y5,e2⟩:=v8 (W:=WT TT k) (A:=some (false,.lst (rs.map enc))) rs [] none none none none List.nodup_nil (λr hr=>⟨(h r hr).1,(f6 (h r hr).2 (aKL 2)).2.2.1⟩) (by simp;omega)
 have e2:bM (aU (.tp [.nm 2,.nm 3,.nm 4])) (evB (WT TT k) iP) (rs.map enc) [some (false,.lst (rs.map enc)),some (true,.dtn []),none,none,none,none]=.nx [some (false,.lst (rs.map enc)),some (true,.dtn ((aS (rs.map tr)).map kv)),y2,y3,y4,y5]:=e2;have e4:iK [some (false,.lst (rs.map enc)),some (true,.dtn ((aS (rs.map tr)).map kv)),y2,y3,y4,y5] 1=.nx [some (false,.lst (rs.map enc)),some (false,.dtf ((aS (rs.map tr)).map kv)),y2,y3,y4,y5]:=rfl;have e5:jX (.ok .fz (.dtf ((aS (rs.map tr)).map kv)))=.ok .fz (.lst ((aS (rs.map tr)).map λa=>nD (kyN a.1))):=by show Res.ok .fz (.lst (((aS (rs.map tr)).map kv).map λkv=>nD kv.1))=_;rw[aOA];rfl
 have e6:dB (.ok .fz (.lst ((aS (rs.map tr)).map λa=>nD (kyN a.1)))) [some (false,.lst (rs.map enc)),some (false,.dtf ((aS (rs.map tr)).map kv)),y2,y3,y4,y5] [1] 1 (aU (.nm 1)) (λρ=>evF (WT TT k) [] ρ) (λρ=>evE (WT TT k) (.tup [(.ix (.var 1) (.int 0)),(.ix (.var 1) (.int 1)),(.nix (.var 0) (.var 1))]) ρ)=.ok .fr (.lst ((aS (rs.map tr)).map tD)):=by
  refine aI5 (enc:=λa:Tr=>nD (kyN a.1)) tD (by rw[aKQ];omega) λa ha=>?_
  refine ⟨[some (false,.dtf ((aS (rs.map tr)).map kv)),some (false,nD (kyN a.1))],.fz,rfl,by simp,.fz,?_⟩
  have g:op2 jS (.ok .fz (.dtf ((aS (rs.map tr)).map kv))) (.ok .fz (.tup [nD a.1.1,nD a.1.2]))=.ok .fz (.int a.2):=bZ (by
   show (match some ((aS (rs.map tr)).map kv),cE (.tup [nD a.1.1,nD a.1.2]) with | some kvs,some k=>(cF kvs k).map λd=>(Md.fz,d) | _,_=>none)=_
   rw[pL (f6 (aK a ha) (aKL 2)).2.2.1];dsimp only;rw[mD,pK nd (k:=a.1) (n:=a.2) ha];rfl)
  rw[pJ a,K_eq];generalize D.dtf ((aS (rs.map tr)).map kv)=L at *;simp[ix2_0,ix2_1,g,eP]
 have e7:eX [(.fr,.lst ((aS (rs.map tr)).map tD))]=some (.fr,.lst (nDL (bH ((aS (rs.map tr)).map tmN)))):=by obtain ⟨ok,ft⟩:=vZ aK al;exact vY (by rw[kC];rfl) ft ok
 have e8:eJ [(.fr,.lst (nDL (bH ((aS (rs.map tr)).map tmN))))]=some (.fz,nf (rs.map tr)):=rfl;rw[aIL];refine dY rfl ?_;show evB _ lX [some (false,.lst (rs.map enc)),none,none,none,none,none]=_;unfold lX;generalize iP=B at *;generalize D.dtf ((aS (rs.map tr)).map kv)=L1 at *;generalize D.dtn ((aS (rs.map tr)).map kv)=L2 at *;generalize ((aS (rs.map tr)).map λa=>nD (kyN a.1))=L3 at *;generalize (aS (rs.map tr)).map tD=L4 at *;generalize nDL (bH ((aS (rs.map tr)).map tmN))=L5 at *;generalize nf (rs.map tr)=L6 at *;generalize E.tup [(E.ix (.var 1) (.int 0)),(.ix (.var 1) (.int 1)),(.nix (.var 0) (.var 1))]=EE at *;generalize rs.map enc=A at *;simp only[aHL] at e6;simp[fO,e2,e4,e5,e6,e7,Ty.f,e8]
theorem wB{α:Type}(xs:List α)(v:Int)(n:Int)(hn:n=xs.length)(h:0<n):∃ c,c∈xs/\atI xs (v % n)=some c:=by
 have h0:=Int.emod_nonneg v (show n≠0 by omega)
 have h1:=Int.emod_lt_of_pos v h;obtain ⟨j,hj⟩:=aOV h0;have hl:j<xs.length:=by omega
 exact ⟨xs[j],aNP hl,by rw[hj];exact mW (aMO hl)⟩
abbrev NM(nms:List Str):D:=.lst (nms.map .str)
theorem iX{nms:List Str}(hn:nms.length=4)(v:Int):∃ s:Str,∀ m m':Md,op2 ixD (.ok m (NM nms)) (.ok m' (.int (v % 4)))=.ok .fz (.str s):=by
 obtain ⟨d,hd,e⟩:=wB (nms.map D.str) v 4 (by simp[hn]) (by decide)
 obtain ⟨s,_,rfl⟩:=aOJ.mp hd;exact ⟨s,λm m'=>iT e⟩
def gX(ts:List Tr):Prop:=(ts≠[]/\ts.length<64)/\∀ t∈ts,isF t.1.1/\cI 1 t.1.2
theorem iY{ys:List Str}(h:ys.length<64):isF (F ys):=⟨ys,rfl,h⟩
theorem bs0:cI 1 (.t []):=⟨[],rfl,by decide,λr hr=>nomatch hr⟩
theorem kD:nD (.t [])=.tup []:=by simp[nD,nDL]
theorem mJ(t:Tr):nD (.t ([t].map tmN))=.tup [.tup [nD t.1.1,nD t.1.2,.int t.2]]:=by rw[nD,fV];show D.tup [nD (tmN t)]=_;rw[iV]
theorem F_nil:nD (F [])=.tup []:=l9 []
theorem pN(s:Str):nD (F [s])=.tup [.str s]:=l9 [s]
theorem mK{r:Rw}(hx:r.1.length<64)(hb:cI 2 r.2.1):isK 2 (tr r).1:=⟨iY (by rw[(gN r.1).length_eq];exact hx),hb⟩
theorem pO{ts:List Tr}:∃ S:List Tr,S.Perm ts/\S.map tmN=bH (ts.map tmN):=by obtain ⟨S,p,e⟩:=jY (eW (ts.map tmN));exact ⟨S,p,e.symm⟩
theorem bar{k:Nat}{nms:List Str}(hn:nms.length=4)(c:Int):∃ ts:List Tr,gX ts/\(WT TT (k+2)).Φ "_law_bar" [.int c,NM nms]=.ok .fz (nD (.t (ts.map tmN))):=by
 obtain ⟨s,hs⟩:=iX hn c;obtain ⟨s1,h1⟩:=iX hn (c / 48);obtain ⟨s2,h2⟩:=iX hn (c / 192);have one:∀ (b:N),cI 1 b->∀ n,gX [((F [s],b),n)]:=λb hb n=>⟨⟨by simp,by simp⟩,λt ht=>by cases aMZ.mp ht;exact ⟨iY (by simp),hb⟩⟩
 have bW:∀ {d:D},evB (WT TT (k+1)) gU [some (false,.int c),some (false,NM nms),none]=.rt .fz d->(WT TT (k+2)).Φ "_law_bar" [.int c,NM nms]=.ok .fz d:=λ{d} h=>by rw[aIM];exact dY rfl h
 have way:c / 12 % 4=0\/c / 12 % 4=1\/c / 12 % 4=2\/c / 12 % 4=3:=by omega
 rcases way with w | w | w | w
 . refine ⟨_,one (.t []) bs0 (1+c / 4 % 3),bW ?_⟩;rw[mJ];dsimp only;rw[pN,kD];generalize NM nms=M at *;simp[gU,hs,gW,kB,eP,w]
 . have rs:∀ r∈([([s],.t [],1+c / 4 % 3),([s1,s2],.t [],1)]:List Rw),r.1.length<64/\isK 2 (tr r).1:=λr hr=>by
     simp only[aJ7,aOK,aM2] at hr;rcases hr with rfl | rfl
     . exact ⟨by simp,mK (by simp) (l6 bs0)⟩
     . exact ⟨by simp,mK (by simp) (l6 bs0)⟩
   have nr:=lT (pM (k:=k) rs (by simp))
   obtain ⟨S,p,e⟩:=pO (ts:=aS (([([s],.t [],1+c / 4 % 3),([s1,s2],.t [],1)]:List Rw).map tr));refine ⟨S,⟨⟨λz=>?_,by have:=mH (([([s],.t [],1+c / 4 % 3),([s1,s2],.t [],1)]:List Rw).map tr);rw[p.length_eq];rw[aLA] at this;exact Nat.lt_of_le_of_lt this (by simp)⟩,λt ht=>?_⟩,bW ?_⟩
   . subst z;have hh:=(o9 (fZ (([([s],.t [],1+c / 4 % 3),([s1,s2],.t [],1)]:List Rw).map tr)).1 (tr ([s],.t [],1+c / 4 % 3)).1).mpr ⟨_,mcs,rfl⟩;obtain ⟨u,hu,_⟩:=hh;exact nomatch p.mem_iff.mpr hu
   . obtain ⟨u,hu,eu⟩:=(((fZ (([([s],.t [],1+c / 4 % 3),([s1,s2],.t [],1)]:List Rw).map tr)).1 t.1 t.2).mp (p.mem_iff.mp ht)).1;rw[<- eu];obtain ⟨r,hr,rfl⟩:=aOJ.mp hu;simp only[aJ7,aOK,aM2] at hr;rcases hr with rfl | rfl
     . exact ⟨iY (by rw[(gN _).length_eq];simp),bs0⟩
     . exact ⟨iY (by rw[(gN _).length_eq];simp),bs0⟩
   . have eS:nf (([([s],.t [],1+c / 4 % 3),([s1,s2],.t [],1)]:List Rw).map tr)=nD (.t (S.map tmN)):=by unfold nf;rw[<- e,nD]
     rw[eS] at nr;have l2:gD (.ok [(.fz,.tup [.tup [.str s],.tup [],.int (1+c / 4 % 3)]),(.fz,.tup [.tup [.str s1,.str s2],.tup [],.int 1])])=.ok .fr (.lst (([([s],.t [],1+c / 4 % 3),([s1,s2],.t [],1)]:List Rw).map enc)):=by show Res.ok .fr (.lst [_,_])=.ok .fr (.lst [enc _,enc _]);simp only[enc,kD];rfl
     generalize (([([s],.t [],1+c / 4 % 3),([s1,s2],.t [],1)]:List Rw).map enc)=LL at *;generalize NM nms=M at *;generalize nD (.t (S.map tmN))=RR at *;simp[gU,hs,h1,h2,gW,kB,tup2,eP,w,l2,nr]
 . refine ⟨[((F [],.t []),1+c / 48 % 3)],⟨⟨by simp,by simp⟩,λt ht=>by cases aMZ.mp ht;exact ⟨iY (by simp),bs0⟩⟩,bW ?_⟩
   rw[mJ];dsimp only;rw[F_nil,kD];generalize NM nms=M at *;simp[gU,hs,gW,kB,eP,w]
 . refine ⟨_,one (.t [.t ([((F [s1],.t []),1)].map tmN)]) ⟨_,rfl,by simp,λr hr=>?_⟩ (1+c / 4 % 3),bW ?_⟩
   . cases aMZ.mp hr;exact ⟨_,rfl,by simp,λt ht=>by cases aMZ.mp ht;exact ⟨iY (by simp),rfl⟩⟩
   . rw[mJ];dsimp only;have e2:nD (.t [.t ([((F [s1],.t []),(1:Int))].map tmN)])=.tup [.tup [.tup [.tup [.str s1],.tup [],.int 1]]]:=by rw[nD,nDL,mJ,nDL];dsimp only;rw[pN,kD]
     rw[pN,e2];generalize NM nms=M at *;simp[gU,hs,h1,gW,kB,eP,w,l7,l8]
theorem wC{α:Type}(P:α->Prop)(g:α->D){k:D->Rho->Option Rho}{t e:Rho->Res}{ρ0:Rho}:∀ {ds:List D},(∀ d∈ds,∃ ρ1 m x m',k d ρ0=some ρ1/\t ρ1=.ok m (.bl true)/\a5 (e ρ1)=.ok m' (g x)/\P x)->∃ xs:List α,eI k t e ρ0 ds=some (xs.map g)/\xs.length=ds.length/\∀ x∈xs,P x
 | [],_=>⟨[],rfl,rfl,λx hx=>nomatch hx⟩
 | d::ds,h=>by
  obtain ⟨ρ1,m,x,m',e1,e2,e3,px⟩:=h d mcs;obtain ⟨xs,f1,f2,f3⟩:=wC P g λy hy=>h y (mcm hy);refine ⟨x::xs,?_,by simp[f2],λy hy=>?_⟩
  . unfold eI;rw[e1];dsimp only;rw[e2];simp[e3,f1]
  . rcases aJ7.mp hy with rfl | hy
    . exact px
    . exact f3 y hy
theorem wD{α:Type}(P:α->Prop)(g:α->D){ρ:Rho}{aD:List Nat}{n:Nat}{k:D->Rho->Option Rho}{t e:Rho->Res}{m:Md}{ds:List D}(hl:ds.length<sizeLine)(h:∀ d∈ds,∃ ρ1 m x m',k d (cL aD ρ++List.replicate n none)=some ρ1/\t ρ1=.ok m (.bl true)/\a5 (e ρ1)=.ok m' (g x)/\P x):∃ xs:List α,dB (.ok m (.lst ds)) ρ aD n k t e=.ok .fr (.lst (xs.map g))/\xs.length=ds.length/\∀ x∈xs,P x:=by obtain ⟨xs,f1,f2,f3⟩:=wC P g h;refine ⟨xs,?_,f2,f3⟩;unfold dB;rw[Res.thn_ok];dsimp only;rw[if_pos hl,f1]
def pP:Int:=10000000000000000000000000000000000000000
theorem pow40:op2 (a6 .Pow) (.ok .fz (.int 10)) (.ok .fz (.int 40))=.ok .fz (.int pP):=by rfl
theorem z40:(0:Int)<pP:=by decide
theorem mL{ts:List Tr}(h:∀ t∈ts,isF t.1.1/\cI 1 t.1.2):(N.t (ts.map tmN)).dp<=8:=by
 rw[N.dp];have:N.dpL (ts.map tmN)<=5:=iS λx hx=>by obtain ⟨t,ht,rfl⟩:=aOJ.mp hx;have a1:=pG (h t ht).1;have a2:=pH (h t ht).2;simp only[tmN,N.dp,N.dpL];omega
 omega
theorem wE{ts:List Tr}(h:gX ts):bY (.t (ts.map tmN))=true:=by
 obtain ⟨h0,_⟩:=h;cases ts with
 | nil=>exact absurd rfl h0.1
 | cons t ts=>rfl
theorem mM{ts us:List Tr}(h1:gX ts)(h2:gX us):okN (.t (ts.map tmN)) (.t (us.map tmN))=true:=by rw[okN];refine kA λa ha b hb=>?_;obtain ⟨s,hs,rfl⟩:=aOJ.mp ha;obtain ⟨t,ht,rfl⟩:=aOJ.mp hb;exact pE (pD (h1.2 s hs).1 (h2.2 t ht).1) (pF (h1.2 s hs).2 (h2.2 t ht).2)
theorem aI9{ts us:List Tr}{m:Md}(h1:gX ts)(h2:gX us):∃ b:N,cI 2 b/\eF eJ (cZ (fH (.ok m (.lst [nD (.t (ts.map tmN)),nD (.t (us.map tmN))]))) (.ok []))=.ok .fz (nD b):=by
 have ok:okS [.t (ts.map tmN),.t (us.map tmN)]=true:=by
  unfold okS;simp only[aLR,aMF,aMD,aN9];refine ⟨⟨⟨λk hk=>?_,.inr λk hk=>?_⟩,λx hx y hy=>?_⟩,by simp⟩
  . simp only[aJ7,aOK,aM2] at hk;rcases hk with rfl | rfl
    . exact mL h1.2
    . exact mL h2.2
  . simp only[aJ7,aOK,aM2] at hk;rcases hk with rfl | rfl
    . exact wE h1
    . exact wE h2
  . simp only[aJ7,aOK,aM2] at hx hy;rcases hx with rfl | rfl <;> rcases hy with rfl | rfl
    . exact mM h1 h1
    . exact mM h1 h2
    . exact mM h2 h1
    . exact mM h2 h2
 refine ⟨.t (two (.t (ts.map tmN)) (.t (us.map tmN))),⟨_,rfl,by unfold two;split <;> simp[pC],λr hr=>?_⟩,?_⟩
 . have:r=.t (ts.map tmN)\/r=.t (us.map tmN):=by
     unfold two at hr;split at hr
     . exact .inl (aMZ.mp hr)
     . simpa using (eW _).mem_iff.mp hr
   rcases this with rfl | rfl
   . exact ⟨ts,rfl,h1.1.2,h1.2⟩
   . exact ⟨us,rfl,h2.1.2,h2.2⟩
 . have e:fH (.ok m (.lst [nD (.t (ts.map tmN)),nD (.t (us.map tmN))]))=.ok .fr (.lst (nDL (two (.t (ts.map tmN)) (.t (us.map tmN))))):=by
     show (match cE (nD (.t (ts.map tmN))),cE (nD (.t (us.map tmN))) with | some k1,some k2=>if okS [k1,k2]=true then Res.ok .fr (.lst (nDL (two k1 k2))) else .stuck | _,_=>.stuck)=_
     rw[pB (mL h1.2),pB (mL h2.2)];dsimp only;rw[if_pos ok]
   rw[e,nD];rfl
theorem facts{k:Nat}{nms:List Str}(hn:nms.length=4)(c:Int)(ρ:Rho)(h0:ρ[0]? = some (some (false,.int c)))(h1:ρ[1]? = some (some (false,NM nms))):∃ xs:List Str,xs.length<64/\dB (fD (.ok [(.fz,.int (c / 64 % 4))])) ρ [1,0] 1 (aU (.nm 2)) (λρ=>evF (WT TT k) [] ρ) (λρ=>evE (WT TT k) (.ix (.var 0) (.bin .Mod (.bin .FloorDiv (.var 1) (.ix (.lst [(.int 1),(.int 4),(.int 16)]) (.var 2))) (.int 4))) ρ)=.ok .fr (.lst (xs.map .str)):=by
 have hr:fD (.ok [(.fz,.int (c / 64 % 4))])=.ok .fz (.lst (bT 0 (c / 64 % 4))):=by show (if (decide (-(2 ^ 62)<=c / 64 % 4)&&decide (c / 64 % 4<2 ^ 62))=true then Res.ok .fz (.lst (bT 0 (c / 64 % 4))) else .stuck)=_;rw[if_pos (by rw[aLR,aMD,aMD];omega)]
 have hsub:cL [1,0] ρ=[some (false,NM nms),some (false,.int c)]:=by simp[cL,h0,h1]
 rw[hr];have len:(bT 0 (c / 64 % 4)).length<64:=by simp[bT];omega
 obtain ⟨xs,e,l,_⟩:=wD (ρ:=ρ) (aD:=[1,0]) (n:=1) (k:=aU (.nm 2)) (t:=λρ=>evF (WT TT k) [] ρ) (e:=λρ=>evE (WT TT k) (.ix (.var 0) (.bin .Mod (.bin .FloorDiv (.var 1) (.ix (.lst [(.int 1),(.int 4),(.int 16)]) (.var 2))) (.int 4))) ρ) (m:=.fz) (ds:=bT 0 (c / 64 % 4)) (λ_:Str=>True) D.str (by rw[aKQ];omega) (λd hd=>by
  unfold bT at hd;obtain ⟨j,hj,rfl⟩:=aOJ.mp hd;rw[aJ3] at hj;have hj3:j=0\/j=1\/j=2:=by omega
  have l3:∀ {m:Md},gD (.ok [(.fz,.int 1),(.fz,.int 4),(.fz,.int 16)])=.ok .fr (.lst [.int 1,.int 4,.int 16]):=λ{m}=>rfl;rw[hsub];have i0:op2 ixD (.ok .fr (.lst [.int 1,.int 4,.int 16])) (.ok .fz (.int 0))=.ok .fz (.int 1):=iT rfl;have i1:op2 ixD (.ok .fr (.lst [.int 1,.int 4,.int 16])) (.ok .fz (.int 1))=.ok .fz (.int 4):=iT rfl;have i2:op2 ixD (.ok .fr (.lst [.int 1,.int 4,.int 16])) (.ok .fz (.int 2))=.ok .fz (.int 16):=iT rfl;rcases hj3 with rfl | rfl | rfl
  . obtain ⟨s,hs⟩:=iX hn (c / 1);have hs:=hs .fz .fz;refine ⟨[some (false,NM nms),some (false,.int c),some (false,.int 0)],.fz,s,.fz,by simp,by simp,?_,trivial⟩
    generalize NM nms=M at *;simp at hs;simp[l3 (m:=.fz),i0,hs]
  . obtain ⟨s,hs⟩:=iX hn (c / 4);have hs:=hs .fz .fz;refine ⟨[some (false,NM nms),some (false,.int c),some (false,.int 1)],.fz,s,.fz,by simp,by simp,?_,trivial⟩
    generalize NM nms=M at *;simp[l3 (m:=.fz),i1,hs]
  . obtain ⟨s,hs⟩:=iX hn (c / 16);have hs:=hs .fz .fz;refine ⟨[some (false,NM nms),some (false,.int c),some (false,.int 2)],.fz,s,.fz,by simp,by simp,?_,trivial⟩
    generalize NM nms=M at *;simp[l3 (m:=.fz),i2,hs])
 exact ⟨xs,by omega,e⟩
def fK(r:Rw):Prop:=r.1.length<64/\cI 2 r.2.1/\bD r.1=r.1
theorem aJA(xs:List Str):bD (bD xs)=bD xs:=(t9 (oE xs) (aN4 _)).symm
theorem aJB(xs:List Str):(bD xs).length=xs.length:=(gN xs).length_eq
theorem term{k:Nat}{nms:List Str}(hn:nms.length=4)(c:Int):∃ r:Rw,fK r/\(WT TT (k+3)).Φ "_law_term" [.int c,NM nms]=.ok .fz (enc r):=by
 obtain ⟨xs,lx,hx⟩:=facts (k:=k+2) hn c [some (false,.int c),some (false,NM nms),none,none,none] rfl rfl;obtain ⟨ts,h1,b1⟩:=bar (k:=k) hn (c / 768);obtain ⟨us,h2,b2⟩:=bar (k:=k) hn (c / 9216);obtain ⟨b,hb,eb⟩:=aI9 (m:=.fr) h1 h2;have b1:=fW b1;have b2:=fW b2;have s1:eX [(.fz,.lst (xs.map D.str))]=some (.fr,.lst ((bD xs).map .str)):=v6 rfl lx;have s2:eJ [(.fr,.lst ((bD xs).map D.str))]=some (.fz,.tup ((bD xs).map .str)):=rfl;have bW:∀ {d:D},evB (WT TT (k+2)) cO [some (false,.int c),some (false,NM nms),none,none,none]=.rt .fz d->(WT TT (k+3)).Φ "_law_term" [.int c,NM nms]=.ok .fz d:=λ{d} h=>by rw[aIN];exact dY rfl h
 have l2:∀ {x y:D},gD (.ok [(.fz,x),(.fz,y)])=.ok .fr (.lst [x,y]):=rfl;have bars:∃ b:N,cI 2 b/\evB (WT TT (k+2)) (cO.drop 1 |>.take 3) [some (false,.int c),some (false,NM nms),some (false,.lst (xs.map .str)),none,none]=.nx [some (false,.int c),some (false,NM nms),some (false,.lst (xs.map .str)),some (false,nD b),none]:=by
  have way:c / 256 % 3=0\/c / 256 % 3=1\/c / 256 % 3=2:=by omega
  have bn:cI 2 (.t []):=l6 bs0;generalize xs.map D.str=X at *;generalize NM nms=M at *;rcases way with w | w | w
  . refine ⟨.t [],bn,?_⟩;rw[kD];simp[cO,gW,w]
  . refine ⟨.t [.t (ts.map tmN)],⟨_,rfl,by simp,λr hr=>by cases aMZ.mp hr;exact ⟨ts,rfl,h1.1.2,h1.2⟩⟩,?_⟩
    have e:nD (.t [.t (ts.map tmN)])=.tup [nD (.t (ts.map tmN))]:=by rw[nD,nDL,nDL]
    rw[e];generalize nD (.t (ts.map tmN))=R1 at *;simp[cO,gW,kB,w,b1]
  . refine ⟨b,hb,?_⟩;generalize nD (.t (ts.map tmN))=R1 at *;generalize nD (.t (us.map tmN))=R2 at *;generalize nD b=BB at *;simp[cO,gW,w,b1,b2,l2,Ty.f,eb]
 obtain ⟨b',hb',eb'⟩:=bars;have times:∃ n:Int,evB (WT TT (k+2)) (cO.drop 4) [some (false,.int c),some (false,NM nms),some (false,.lst (xs.map .str)),some (false,nD b'),none]=.rt .fz (.tup [.tup ((bD xs).map .str),nD b',.int n]):=by
  generalize xs.map D.str=X at *;generalize (bD xs).map D.str=Y at *;generalize NM nms=M at *;generalize nD b'=BB at *;by_cases w:c % 5=2
  . refine ⟨1+c / 7 % pP,?_⟩;simp[cO,w,pow40,z40,s1,s2,Ty.f,eP]
  . refine ⟨1+c / 768 % 3,?_⟩;have w:(c % 5==2)=false:=by simpa using w
    simp[cO,w,s1,s2,Ty.f,eP]
 obtain ⟨n,en⟩:=times;refine ⟨(bD xs,b',n),⟨by rw[aJB];exact lx,hb',aJA xs⟩,bW ?_⟩
 have split:cO=cO.take 1++((cO.drop 1).take 3++cO.drop 4):=rfl;rw[split,fX];have first:evB (WT TT (k+2)) (cO.take 1) [some (false,.int c),some (false,NM nms),none,none,none]=.nx [some (false,.int c),some (false,NM nms),some (false,.lst (xs.map .str)),none,none]:=by generalize xs.map D.str=X at *;generalize NM nms=M at *;simp at hx;simp[cO,hx]
 rw[first,aG.thn_nx,fX,eb',aG.thn_nx,en]
 rfl
theorem wF{k:Nat}{nms:List Str}(hn:nms.length=4)(cs:List Int)(hl:cs.length<64):∃ rs:List Rw,rs.length=cs.length/\(∀ r∈rs,fK r)/\(WT TT (k+4)).Φ "_law_reason" [.lst (cs.map .int),NM nms]=.ok .fz (nf (rs.map tr)):=by
 obtain ⟨rs,e,l,g⟩:=wD (ρ:=[some (false,.lst (cs.map .int)),some (false,NM nms)]) (aD:=[1]) (n:=1) (k:=aU (.nm 1)) (t:=λρ=>evF (WT TT (k+3)) [] ρ) (e:=λρ=>evE (WT TT (k+3)) (.call "_law_term" 2 [(.var 1),(.var 0)]) ρ) (m:=.fz) (ds:=cs.map .int) fK enc (by rw[aLA,aKQ];omega) (λd hd=>by
  obtain ⟨c,_,rfl⟩:=aOJ.mp hd;obtain ⟨r,gr,er⟩:=term (k:=k) hn c;have er:=fW er;refine ⟨[some (false,NM nms),some (false,.int c)],.fz,r,.fz,rfl,by simp,?_,gr⟩
  generalize NM nms=M at *;simp[er])
 rw[aLA] at l;refine ⟨rs,l,g,?_⟩;have nr:=lT (pM (k:=k+2) (rs:=rs) (λr hr=>⟨(g r hr).1,mK (g r hr).1 (g r hr).2.1⟩) (by omega))
 rw[aIO];refine dY rfl ?_;show evB _ lY [some (false,.lst (cs.map .int)),some (false,NM nms)]=_;simp at e;generalize NM nms=M at *;generalize cs.map D.int=C at *;generalize rs.map enc=RE at *;simp[lY,e,nr]
theorem ix_s{z:Str}{m m':Md}{i:Int}{c:Nat}(h:atI z.cps.toList i=some c):op2 ixD (.ok m (.str z)) (.ok m' (.int i))=.ok .fz (.str ⟨#[c]⟩):=bZ (by show (atI z.cps.toList i).map _=_;rw[h];rfl)
theorem wG(z:Str)(n:Int)(hn:n=z.cps.toList.length)(h:0<n)(v:Int):∃ y:Str,y.length=1/\∀ m m':Md,op2 ixD (.ok m (.str z)) (.ok m' (.int (v % n)))=.ok .fz (.str y):=by obtain ⟨c,_,e⟩:=wB z.cps.toList v n hn h;exact ⟨⟨#[c]⟩,rfl,λm m'=>ix_s e⟩
def aZ:Str := "abcdefghijklmnopqrstuvwxyz"
def a7:Str:=aZ++("0123456789" : Str)
theorem aJC:(26:Int)=aZ.cps.toList.length:=by decide +kernel
theorem aJD:(36:Int)=a7.cps.toList.length:=by decide +kernel
theorem wH(a b:Str):(a++b).length=a.length+b.length:=by show (a.cps++b.cps).size=_;rw[Array.size_append];rfl
theorem aJE{W:WD}{c k at' j:Int}{x1 x4 x6 x10:Option (Bool×D)}{z:Str}(hj:0<=j)(hj5:j<=4)(hz:z.length<=50):∃ (z':Str) (v:Int),z'.length=z.length+1/\evB W dG [some (false,.int c),x1,some (false,.str aZ),some (false,.str a7),x4,some (false,.int at'),x6,some (false,.int k),some (false,.str z),some (false,.int j),x10]=.nx [some (false,.int c),x1,some (false,.str aZ),some (false,.str a7),x4,some (false,.int at'),x6,some (false,.int k),some (false,.str z'),some (false,.int j),some (false,.int v)]:=by
 have m6:op2 (a6 .Mult) (.ok .fz (.int 6)) (.ok .fz (.int j))=.ok .fz (.int (6 * j)):=uZ (by decide)
 have m11:op2 (a6 .Mult) (.ok .fz (.int 11)) (.ok .fz (.int j))=.ok .fz (.int (11 * j)):=uZ (by decide)
 have d7:op2 (a6 .FloorDiv) (.ok .fz (.int c)) (.ok .fz (.int (7+6 * j)))=.ok .fz (.int (c / (7+6 * j))):=uY (by omega) (by omega)
 have st : ∀ v : Int, ∃ z' : Str, z'.length = z.length + 1 ∧ ∀ (y : Option (Bool × D)), evB W [dG.getD 2 .never] [some (false, .int c), x1, some (false, .str aZ), some (false, .str a7), x4, some (false, .int at'), x6, some (false, .int k), some (false, .str z), some (false, .int j), some (false, .int v)] =
     .nx [some (false,.int c),x1,some (false,.str aZ),some (false,.str a7),x4,some (false,.int at'),x6,some (false,.int k),some (false,.str z'),some (false,.int j),some (false,.int v)]:=λv=>by
  obtain ⟨y1,l1,e1⟩:=wG aZ 26 aJC (by decide) v
  obtain ⟨y2,l2,e2⟩:=wG a7 36 aJD (by decide) v
  have e1:=e1 .fz .fz;have e2:=e2 .fz .fz;have a1:op2 (a6 .Add) (.ok .fz (.str z)) (.ok .fz (.str y1))=.ok .fz (.str (z++y1)):=lQ (by rw[aKQ];omega)
  have a2:op2 (a6 .Add) (.ok .fz (.str z)) (.ok .fz (.str y2))=.ok .fz (.str (z++y2)):=lQ (by rw[aKQ];omega)
  generalize aZ=LL at *;generalize a7=SS at *;by_cases w:j=0
  . refine ⟨z++y1,by rw[wH,l1],λ_=>?_⟩
    simp[dG,w,e1,a1]
  . refine ⟨z++y2,by rw[wH,l2],λ_=>?_⟩
    have w:(j==0)=false:=by simpa using w
    simp[dG,w,e2,a2]
 have fst : ∃ v : Int, evB W (dG.take 2) [some (false, .int c), x1, some (false, .str aZ), some (false, .str a7), x4, some (false, .int at'), x6, some (false, .int k), some (false, .str z), some (false, .int j), x10] =
     .nx [some (false,.int c),x1,some (false,.str aZ),some (false,.str a7),x4,some (false,.int at'),x6,some (false,.int k),some (false,.str z),some (false,.int j),some (false,.int v)]:=by
  generalize aZ=LL at *;generalize a7=SS at *;by_cases w:j=at'
  . subst w;exact ⟨c / 25+k,by simp[dG,m6,m11,d7]⟩
  . have w:(j==at')=false:=by simpa using w
    exact ⟨c / (7+6 * j)+11 * j,by simp[dG,m6,m11,d7,w]⟩
 obtain ⟨v,ev⟩:=fst;obtain ⟨z',lz,ez⟩:=st v;refine ⟨z',v,lz,?_⟩;have split:dG=dG.take 2++[dG.getD 2 .never]:=rfl;rw[split,fX,ev,aG.thn_nx];exact ez none
theorem wI{W:WD}{c k at':Int}{x1 x4 x6:Option (Bool×D)}:∀ (js:List Int) (z:Str) (x9 x10:Option (Bool×D)),(∀ j∈js,0<=j/\j<=4)->z.length+js.length<=50->∃ (z':Str) (y9 y10:Option (Bool×D)),z'.length=z.length+js.length/\bM (aU (.nm 9)) (evB W dG) (js.map .int) [some (false,.int c),x1,some (false,.str aZ),some (false,.str a7),x4,some (false,.int at'),x6,some (false,.int k),some (false,.str z),x9,x10]=.nx [some (false,.int c),x1,some (false,.str aZ),some (false,.str a7),x4,some (false,.int at'),x6,some (false,.int k),some (false,.str z'),y9,y10]
 | [],z,x9,x10,_,_=>⟨z,x9,x10,rfl,rfl⟩
 | j::js,z,x9,x10,h,hz=>by
  rw[aMC] at hz;obtain ⟨z1,v,l1,e1⟩:=aJE (W:=W) (c:=c) (k:=k) (at':=at') (x1:=x1) (x4:=x4) (x6:=x6) (x10:=x10) (z:=z) (h j mcs).1 (h j mcs).2 (by omega)
  obtain ⟨z2,y9,y10,l2,e2⟩:=wI (W:=W) (c:=c) (k:=k) (at':=at') (x1:=x1) (x4:=x4) (x6:=x6) js z1 (some (false,.int j)) (some (false,.int v)) (λi hi=>h i (mcm hi)) (by omega)
  refine ⟨z2,y9,y10,by rw[aMC];omega,?_⟩
  rw[aLY];unfold bM;rw[show aU (.nm 9) (.int j) [some (false,.int c),x1,some (false,.str aZ),some (false,.str a7),x4,some (false,.int at'),x6,some (false,.int k),some (false,.str z),x9,x10]=some [some (false,.int c),x1,some (false,.str aZ),some (false,.str a7),x4,some (false,.int at'),x6,some (false,.int k),some (false,.str z),some (false,.int j),x10] from by simp]
  dsimp only;rw[e1];exact e2
theorem kE{k:D->Rho->Option Rho}{body:Rho->aG}{d:D}{ds:List D}{ρ ρ1 ρ2:Rho}(h1:k d ρ=some ρ1)(h2:body ρ1=.nx ρ2):bM k body (d::ds) ρ=bM k body ds ρ2:=by
 conv=>lhs;unfold bM
 rw[h1];dsimp only;rw[h2]
theorem aJF{z:Str}{m m':Md}{g:Rho->Res}{ρ:Rho}{i:Int}(h:g ρ=.ok m' (.int i)):slP (.ok m (.str z)) none (some g) ρ=.ok .fz (.str (Txt.slice z none (some i))):=by unfold slP;rw[Res.thn_ok];show bL none ρ _=_;unfold bL;show (g ρ).thn _=_;rw[h];rfl
theorem rng5(n:Int)(h0:0<=n)(h5:n<=5):∃ js:List Int,js.length<=5/\(∀ j∈js,0<=j/\j<=4)/\fD (.ok [(.fz,.int n)])=.ok .fz (.lst (js.map .int)):=by
 refine ⟨(List.range n.toNat).map λi:Nat=>(i:Int),by simp;omega,λj hj=>?_,?_⟩
 . obtain ⟨i,hi,rfl⟩:=aOJ.mp hj;rw[aJ3] at hi;omega
 . show (if (decide (-(2 ^ 62)<=n)&&decide (n<2 ^ 62))=true then Res.ok .fz (.lst (bT 0 n)) else .stuck)=_;rw[if_pos (by rw[aLR,aMD,aMD];omega)]
   unfold bT;rw[aOA,Int.sub_zero];congr 3;funext i;show D.int (0+(i:Int))=D.int i;rw[aOS]
theorem aJG{W:WD}{c k at' n:Int}{x1 x8 x9 x10:Option (Bool×D)}{ns:List Str}(h0:0<=n)(h5:n<=5)(hk:0<=k)(hk3:k<=3)(hl:ns.length<=10):∃ (s:Str) (y8 y9 y10:Option (Bool×D)),evB W fY [some (false,.int c),x1,some (false,.str aZ),some (false,.str a7),some (false,.int n),some (false,.int at'),some (true,.lst (ns.map .str)),some (false,.int k),x8,x9,x10]=.nx [some (false,.int c),x1,some (false,.str aZ),some (false,.str a7),some (false,.int n),some (false,.int at'),some (true,.lst ((ns++[s]).map .str)),some (false,.int k),y8,y9,y10]:=by
 obtain ⟨js,lj,hj,er⟩:=rng5 n h0 h5;obtain ⟨z,y9,y10,lz,ez⟩:=wI (W:=W) (c:=c) (k:=k) (at':=at') (x1:=x1) (x4:=some (false,.int n)) (x6:=some (true,.lst (ns.map .str))) js Str.empty x9 x10 hj (by show 0+_<=_;omega)
 have lz:z.length<=5:=by rw[lz];show 0+js.length<=5;omega
 have d5:op2 (a6 .FloorDiv) (.ok .fz (.int c)) (.ok .fz (.int (5+k)))=.ok .fz (.int (c / (5+k))):=uY (by omega) (by omega)
 refine ⟨z++Txt.slice "a9z" none (some (c / (5+k) % 4)),some (false,.str z),y9,y10,?_⟩;have sl:slP (.ok .fz (.str "a9z")) none (some (evE W (.bin .Mod (.bin .FloorDiv (.var 0) (.bin .Add (.int 5) (.var 7))) (.int 4)))) [some (false,.int c),x1,some (false,.str aZ),some (false,.str a7),some (false,.int n),some (false,.int at'),some (true,.lst (ns.map .str)),some (false,.int k),some (false,.str z),y9,y10]=.ok .fz (.str (Txt.slice "a9z" none (some (c / (5+k) % 4)))):=aJF (m':=.fz) (by
  generalize aZ=LL at *;generalize a7=SS at *;simp[d5])
 have l3:(Txt.slice "a9z" none (some (c / (5+k) % 4))).length<=3:=aMJ _ _ _;have a1:op2 (a6 .Add) (.ok .fz (.str z)) (.ok .fz (.str (Txt.slice "a9z" none (some (c / (5+k) % 4)))))=.ok .fz (.str (z++Txt.slice "a9z" none (some (c / (5+k) % 4)))):=lQ (by rw[aKQ];omega)
 have ap:∀ s:Str,eL [some (false,.int c),x1,some (false,.str aZ),some (false,.str a7),some (false,.int n),some (false,.int at'),some (true,.lst (ns.map .str)),some (false,.int k),some (false,.str z),y9,y10] 6 (.ok .fz (.str s))=.nx [some (false,.int c),x1,some (false,.str aZ),some (false,.str a7),some (false,.int n),some (false,.int at'),some (true,.lst ((ns++[s]).map .str)),some (false,.int k),some (false,.str z),y9,y10]:=λs=>by
  show (if (ns.map D.str).length<sizeLine then _ else _)=_;rw[if_pos (by rw[aLA,aKQ];omega),aOQ]
  rfl
 have ap:=ap (z++Txt.slice "a9z" none (some (c / (5+k) % 4)));have ez:bM (aU (.nm 9)) (evB W dG) (js.map .int) [some (false,.int c),x1,some (false,.str aZ),some (false,.str a7),some (false,.int n),some (false,.int at'),some (true,.lst (ns.map .str)),some (false,.int k),some (false,.str (Str.ofString "")),x9,x10]=_:=ez;unfold fY;generalize dG=B at *;generalize aZ=LL at *;generalize a7=SS at *;generalize (z++Txt.slice "a9z" none (some (c / (5+k) % 4)))=ZZ at *;generalize (Txt.slice "a9z" none (some (c / (5+k) % 4)))=Z3 at *;generalize E.bin .Mod (.bin .FloorDiv (.var 0) (.bin .Add (.int 5) (.var 7))) (.int 4)=EE at *;generalize ns.map D.str=X at *;generalize (ns++[ZZ]).map D.str=Y at *;simp[er,fO,ez,sl,a1,ap]
theorem names{k:Nat}(c:Int):∃ ns:List Str,ns.length=4/\(WT TT (k+1)).Φ "_law_names" [.int c,.int 4]=.ok .fr (NM ns):=by
 have n0:0<=1+c % 5:=by omega
 have n5:1+c % 5<=5:=by omega
 have st:∀ (ns:List Str) (i:Int) (x8 x9 x10:Option (Bool×D)),0<=i->i<=3->ns.length<=10->∃ (s:Str) (y8 y9 y10:Option (Bool×D)),evB (WT TT k) fY [some (false,.int c),some (false,.int 4),some (false,.str aZ),some (false,.str a7),some (false,.int (1+c % 5)),some (false,.int (c / 5 % (1+c % 5))),some (true,.lst (ns.map .str)),some (false,.int i),x8,x9,x10]=.nx [some (false,.int c),some (false,.int 4),some (false,.str aZ),some (false,.str a7),some (false,.int (1+c % 5)),some (false,.int (c / 5 % (1+c % 5))),some (true,.lst ((ns++[s]).map .str)),some (false,.int i),y8,y9,y10]:=λns i x8 x9 x10 hi hi3 hl=>aJG n0 n5 hi hi3 hl;obtain ⟨s0,a8,a9,a10,e0⟩:=st [] 0 none none none (by decide) (by decide) (by simp)
 obtain ⟨s1,b8,b9,b10,e1⟩:=st ([]++[s0]) 1 a8 a9 a10 (by decide) (by decide) (by simp)
 obtain ⟨s2,c8,c9,c10,e2⟩:=st ([]++[s0]++[s1]) 2 b8 b9 b10 (by decide) (by decide) (by simp)
 obtain ⟨s3,d8,d9,d10,e3⟩:=st ([]++[s0]++[s1]++[s2]) 3 c8 c9 c10 (by decide) (by decide) (by simp)
 refine ⟨[s0,s1,s2,s3],rfl,?_⟩;have rg:fD (.ok [(.fz,.int 4)])=.ok .fz (.lst [.int 0,.int 1,.int 2,.int 3]):=rfl;have sg:∀ (d:D) (L:List D) (x7 x8 x9 x10:Option (Bool×D)),aU (.nm 7) d [some (false,.int c),some (false,.int 4),some (false,.str aZ),some (false,.str a7),some (false,.int (1+c % 5)),some (false,.int (c / 5 % (1+c % 5))),some (true,.lst L),x7,x8,x9,x10]=some [some (false,.int c),some (false,.int 4),some (false,.str aZ),some (false,.str a7),some (false,.int (1+c % 5)),some (false,.int (c / 5 % (1+c % 5))),some (true,.lst L),some (false,d),x8,x9,x10]:=λd L x7 x8 x9 x10=>rfl;have lp:bM (aU (.nm 7)) (evB (WT TT k) fY) [.int 0,.int 1,.int 2,.int 3] [some (false,.int c),some (false,.int 4),some (false,.str aZ),some (false,.str a7),some (false,.int (1+c % 5)),some (false,.int (c / 5 % (1+c % 5))),some (true,.lst []),none,none,none,none]=.nx [some (false,.int c),some (false,.int 4),some (false,.str aZ),some (false,.str a7),some (false,.int (1+c % 5)),some (false,.int (c / 5 % (1+c % 5))),some (true,NM [s0,s1,s2,s3]),some (false,.int 3),d8,d9,d10]:=by have e0:evB (WT TT k) fY [some (false,.int c),some (false,.int 4),some (false,.str aZ),some (false,.str a7),some (false,.int (1+c % 5)),some (false,.int (c / 5 % (1+c % 5))),some (true,.lst []),some (false,.int 0),none,none,none]=_:=e0;rw[kE (sg _ _ _ _ _ _) e0,kE (sg _ _ _ _ _ _) e1,kE (sg _ _ _ _ _ _) e2,kE (sg _ _ _ _ _ _) e3];rfl
 have a0:op2 (a6 .Add) (.ok .fz (.str aZ)) (.ok .fz (.str "0123456789"))=.ok .fz (.str a7):=lQ (by decide +kernel)
 have md:op2 (a6 .Mod) (.ok .fz (.int (c / 5))) (.ok .fz (.int (1+c % 5)))=.ok .fz (.int (c / 5 % (1+c % 5))):=uX (by omega)
 have rt:∀ {L:D} {x7 x8 x9 x10:Option (Bool×D)},eH [some (false,.int c),some (false,.int 4),some (false,.str aZ),some (false,.str a7),some (false,.int (1+c % 5)),some (false,.int (c / 5 % (1+c % 5))),some (true,L),x7,x8,x9,x10] 6=.rt .fr L:=rfl;rw[aIK];refine dY rfl ?_;show evB _ lW [some (false,.int c),some (false,.int 4),none,none,none,none,none,none,none,none,none]=_;have bd:lW=[.set 2 (.str aZ),.set 3 (.frz (.bin .Add (.var 2) (.str "0123456789"))),.set 4 (.frz (.bin .Add (.int 1) (.bin .Mod (.var 0) (.int 5)))),.set 5 (.frz (.bin .Mod (.bin .FloorDiv (.var 0) (.int 5)) (.var 4))),.set 6 (.lst []),.for (.rng1 (.var 1)) (.nm 7) fY,.retV 6]:=rfl;rw[bd];generalize fY=B at *;generalize aZ=LL at *;generalize a7=SS at *;generalize NM [s0,s1,s2,s3]=OUT at *;simp[a0,md,lst0,rg,fO,lp,rt]
inductive Sz:N->Prop where
 | i (n:Int):Sz (.i n)
 | s (x:Str):Sz (.s x)
 | t {xs:List N} (h:∀ x∈xs,Sz x) (hl:xs.length<1000):Sz (.t xs)
theorem sz_F{f:N}(h:isF f):Sz f:=by
 obtain ⟨xs,rfl,l⟩:=h;refine .t (λx hx=>?_) (by rw[aLA];omega)
 obtain ⟨a,_,rfl⟩:=aOJ.mp hx;exact .s a
theorem sz_T{t:Tr}(h1:Sz t.1.1)(h2:Sz t.1.2):Sz (tmN t):=.t (λx hx=>by
 simp only[aJ7,aOK,aM2] at hx;rcases hx with rfl | rfl | rfl
 . exact h1
 . exact h2
 . exact .i _) (by simp)
theorem sz_B:∀ {j:Nat} {b:N},cI j b->Sz b
 | 0,b,h=>by cases h;exact .t (λx hx=>nomatch hx) (by simp)
 | j+1,b,h=>by
  obtain ⟨rs,rfl,l,h⟩:=h;refine .t (λr hr=>?_) (by omega)
  obtain ⟨ts,rfl,l2,h⟩:=h r hr;refine .t (λx hx=>?_) (by rw[aLA];omega)
  obtain ⟨t,ht,rfl⟩:=aOJ.mp hx;exact sz_T (sz_F (h t ht).1) (sz_B (h t ht).2)
theorem wJ{k:D->Rho->Option Rho}{body:Rho->aG}(P:Rho->Prop):∀ (ds:List D) (ρ:Rho),P ρ->(∀ d∈ds,∀ ρ,P ρ->∃ ρ1,k d ρ=some ρ1/\P ρ1/\body ρ1=.nx ρ1)->∃ ρ',bM k body ds ρ=.nx ρ'/\P ρ'
 | [],ρ,h,_=>⟨ρ,rfl,h⟩
 | d::ds,ρ,h,hs=>by obtain ⟨ρ1,e1,h1,e2⟩:=hs d mcs ρ h;obtain ⟨ρ',e3,h3⟩:=wJ P ds ρ1 h1 λx hx=>hs x (mcm hx);exact ⟨ρ',by rw[kE e1 e2];exact e3,h3⟩
theorem aJH{ks:List N}{i:Nat}(h:i<ks.length):atI (nDL ks) (i:Int)=some (nD ks[i]):=by rw[fV];exact mW (by rw[aK7,aMO h];rfl)
theorem aJI(ks:List N):(nDL ks).length=ks.length:=by rw[fV,aLA]
theorem rng_n{n:Int}(h0:0<=n)(h1:n<1000):fD (.ok [(.fz,.int n)])=.ok .fz (.lst (bT 0 n)):=by show (if (decide (-(2 ^ 62)<=n)&&decide (n<2 ^ 62))=true then Res.ok .fz (.lst (bT 0 n)) else .stuck)=_;rw[if_pos (by rw[aLR,aMD,aMD];omega)]
theorem aJJ{xs:List N}{m:Nat}(hl:xs.length<1000)(ih:∀ x∈xs,(WT TT m).Φ "_law_alike" [nD x,nD x]=.ok .fz (.bl true)):(WT TT (m+1)).Φ "_law_alike" [.tup (nDL xs),.tup (nDL xs)]=.ok .fz (.bl true):=by
 have ln:eG [(.fz,.tup (nDL xs))]=some (.fz,.int xs.length):=by show some (Md.fz,D.int ((nDL xs).length:Nat))=_;rw[aJI]
 have rg:=rng_n (n:=(xs.length:Int)) (by omega) (by omega)
 obtain ⟨ρ',e1,x,rfl⟩:=wJ (k:=aU (.nm 2)) (body:=evB (WT TT m) j7) (λρ=>∃ x,ρ=[some (false,.tup (nDL xs)),some (false,.tup (nDL xs)),x]) (bT 0 xs.length) [some (false,.tup (nDL xs)),some (false,.tup (nDL xs)),none] ⟨none,rfl⟩ (λd hd ρ hρ=>by
  obtain ⟨x,rfl⟩:=hρ;unfold bT at hd;obtain ⟨j,hj,rfl⟩:=aOJ.mp hd;rw[aJ3] at hj;have hj:j<xs.length:=by omega
  rw[aOS];refine ⟨[some (false,.tup (nDL xs)),some (false,.tup (nDL xs)),some (false,.int j)],rfl,⟨_,rfl⟩,?_⟩;have ix:op2 ixD (.ok .fz (.tup (nDL xs))) (.ok .fz (.int (j:Int)))=.ok .fz (nD xs[j]):=iU (aJH hj);have al:=fW (ih xs[j] (aNP hj));generalize D.tup (nDL xs)=A at *;generalize nD xs[j]=B at *;simp[j7,ix,al])
 have i2:dH [(.fz,.tup (nDL xs)),(.fz,.ty "bool")]=some (.fz,.bl false):=rfl;have i3:dH [(.fz,.tup (nDL xs)),(.fz,.ty "int")]=some (.fz,.bl false):=rfl;have i4:dH [(.fz,.tup (nDL xs)),(.fz,.ty "str")]=some (.fz,.bl false):=rfl;have i5:dH [(.fz,.tup (nDL xs)),(.fz,.ty "tuple")]=some (.fz,.bl true):=rfl;have nn:dC (.tup (nDL xs))=false:=rfl;generalize bT 0 xs.length=RG at *;generalize (xs.length:Int)=LN at *;rw[o5];refine dY rfl ?_;show evB _ cP [some (false,.tup (nDL xs)),some (false,.tup (nDL xs)),none]=_;have split:cP=cP.take 4++((cP.drop 4).take 1++cP.drop 5):=rfl;rw[split,fX];have p1:evB (WT TT m) (cP.take 4) [some (false,.tup (nDL xs)),some (false,.tup (nDL xs)),none]=.nx [some (false,.tup (nDL xs)),some (false,.tup (nDL xs)),none]:=by
  clear e1 rg ln i5
  generalize D.tup (nDL xs)=A at *;simp[cP,i2,i3,i4,Ty.id,nn]
 have p2:evB (WT TT m) ((cP.drop 4).take 1) [some (false,.tup (nDL xs)),some (false,.tup (nDL xs)),none]=.nx [some (false,.tup (nDL xs)),some (false,.tup (nDL xs)),none]:=by
  clear e1 rg i2 i3 i4 nn
  generalize D.tup (nDL xs)=A at *;simp[cP,i5,Ty.id,ln]
 have p3:evB (WT TT m) (cP.drop 5) [some (false,.tup (nDL xs)),some (false,.tup (nDL xs)),none]=.rt .fz (.bl true):=by
  clear i2 i3 i4 i5 nn p1 p2
  show evB (WT TT m) [.for (.rng1 (.bcall .len [(.var 1)])) (.nm 2) j7,.ret (.bl true)] _=_;generalize j7=LB at *;generalize D.tup (nDL xs)=A at *;simp[ln,rg,fO,e1]
 rw[p1,aG.thn_nx,fX,p2,aG.thn_nx,p3]
theorem aJK{n:Int}{m:Nat}:(WT TT (m+1)).Φ "_law_alike" [.int n,.int n]=.ok .fz (.bl true):=by rw[o5];refine dY rfl ?_;show evB _ cP [some (false,.int n),some (false,.int n),none]=_;have i2:dH [(.fz,.int n),(.fz,.ty "bool")]=some (.fz,.bl false):=rfl;have i3:dH [(.fz,.int n),(.fz,.ty "int")]=some (.fz,.bl true):=rfl;have nn:dC (.int n)=false:=rfl;simp[cP,i2,i3,Ty.id,nn]
theorem aJL{x:Str}{m:Nat}:(WT TT (m+1)).Φ "_law_alike" [.str x,.str x]=.ok .fz (.bl true):=by rw[o5];refine dY rfl ?_;show evB _ cP [some (false,.str x),some (false,.str x),none]=_;have i2:dH [(.fz,.str x),(.fz,.ty "bool")]=some (.fz,.bl false):=rfl;have i3:dH [(.fz,.str x),(.fz,.ty "int")]=some (.fz,.bl false):=rfl;have i4:dH [(.fz,.str x),(.fz,.ty "str")]=some (.fz,.bl true):=rfl;have nn:dC (.str x)=false:=rfl;simp[cP,i2,i3,i4,Ty.id,nn]
theorem alike{k:N}(h:Sz k):∀ {m:Nat},k.dp<m->(WT TT m).Φ "_law_alike" [nD k,nD k]=.ok .fz (.bl true):=by
 induction h with
 | i n =>
  intro m hm;cases m with | zero=>omega | succ m=>?_
  rw[nD];exact aJK
 | s x =>
  intro m hm;cases m with | zero=>omega | succ m=>?_
  rw[nD];exact aJL
 | @t xs h hl ih =>
  intro m hm;cases m with | zero=>omega | succ m=>?_
  rw[N.dp] at hm;rw[nD];exact aJJ hl λx hx=>ih x hx (by have:=N.dp_mem hx;omega)
def ce(ns:List Int)(i:Int):Int:=if 0<=i then (ns[i.toNat]?).getD 0 else 0
theorem cell(k:Nat)(ns:List Int){i:Int}(h0:0<=i):(WT TT (k+1)).Φ "_law_cell_at" [.lst (ns.map .int),.int i]=.ok .fz (.int (ce ns i)):=by
 rw[aIJ];refine dY rfl ?_;show evB _ j8 [some (false,.lst (ns.map .int)),some (false,.int i)]=_;obtain ⟨j,rfl⟩:=aOV h0;unfold ce;rw[if_pos h0];by_cases h:j<ns.length
 . have hx:op2 ixD (.ok .fz (.lst (ns.map .int))) (.ok .fz (.int j))=.ok .fz (.int ns[j]):=iT (mW (by rw[aK7,aMO h];rfl))
   have h':((j:Int)<(ns.length:Int)):=by omega
   simp[j8,h',hx,h]
 . have h':¬ ((j:Int)<(ns.length:Int)):=by omega
   simp[j8,h',aNR (Nat.le_of_not_lt h)]
theorem wK(k:Nat)(ns:List Int){i:Int}(h0:0<=i):bO 2 ((WT TT (k+1)).Φ "_law_cell_at") (.ok [(.fz,.lst (ns.map .int)),(.fz,.int i)])=.ok .fz (.int (ce ns i)):=fW (cell k ns h0)
theorem aJM{ds:List D}{i:Nat}:D3.cD ds none (some (i:Int))=ds.take i:=by
 unfold D3.cD;rw[HT.qN,HT.qO,aMX,Nat.sub_zero];by_cases h:i<=ds.length
 . rw[Nat.min_eq_left h]
 . rw[Nat.min_eq_right (by omega),aM5,aMY (by omega)]
theorem aJN{ds:List D}{i:Nat}:D3.cD ds (some (i:Int)) none=ds.drop i:=by
 unfold D3.cD;rw[HT.qN,HT.qO];by_cases h:i<=ds.length
 . rw[Nat.min_eq_left h,aMY (by rw[aLL];exact aKL _)]
 . rw[Nat.min_eq_right (by omega),aMP,List.drop_eq_nil_of_le (by omega)]
   simp
theorem aJO{ns:List Int}{lo hi:Option Int}:∃ cs:List Int,cs.length<=ns.length/\D3.cD (ns.map .int) lo hi=cs.map .int:=by unfold D3.cD;rw[<- List.map_drop,<- List.map_take];exact ⟨_,by rw[aK2,aLL];omega,rfl⟩
theorem aJP{ds:List D}{m m1 m2:Md}{g1 g2:Rho->Res}{ρ:Rho}{i j:Int}(h1:g1 ρ=.ok m1 (.int i))(h2:g2 ρ=.ok m2 (.int j)):slP (.ok m (.lst ds)) (some g1) (some g2) ρ=.ok .fr (.lst (D3.cD ds (some i) (some j))):=by unfold slP;rw[Res.thn_ok];show bL (some g1) ρ _=_;unfold bL;show (g1 ρ).thn _=_;rw[h1];show (g2 ρ).thn _=_;rw[h2];rfl
theorem sl_hi{ds:List D}{m m2:Md}{g2:Rho->Res}{ρ:Rho}{j:Int}(h2:g2 ρ=.ok m2 (.int j)):slP (.ok m (.lst ds)) none (some g2) ρ=.ok .fr (.lst (D3.cD ds none (some j))):=by unfold slP;rw[Res.thn_ok];show bL none ρ _=_;unfold bL;show (g2 ρ).thn _=_;rw[h2];rfl
theorem sl_lo{ds:List D}{m m1:Md}{g1:Rho->Res}{ρ:Rho}{i:Int}(h1:g1 ρ=.ok m1 (.int i)):slP (.ok m (.lst ds)) (some g1) none ρ=.ok .fr (.lst (D3.cD ds (some i) none)):=by unfold slP;rw[Res.thn_ok];show bL (some g1) ρ _=_;unfold bL;show (g1 ρ).thn _=_;rw[h1];rfl
theorem aJQ{n:Nat}{Φ:List D->Res}{xs:List (Md×D)}{ds:List D}{d:D}(hl:ds.length=n)(ha:cB xs=some ds)(h:Φ ds=.ok .fr d):bO n Φ (.ok xs)=.ok .fr d:=by
 show (match cB xs with | some ds=>if ds.length=n then (match Φ ds with | .ok .bo _=>Res.stuck | r=>r) else .stuck | none=>.stuck)=_
 rw[ha];show (if ds.length=n then _ else _)=_;rw[if_pos hl,h]
theorem aJR{Φ:List D->Res}{a b d:D}(h:Φ [a,b]=.ok .fr d):bO 2 Φ (.ok [(.fz,a),(.fz,b)])=.ok .fr d:=aJQ (ds:=[a,b]) rfl rfl h
theorem aJS{ts us:List Tr}(p:ts.Perm us):nf ts=nf us:=by
 obtain ⟨h1,n1⟩:=fZ ts;obtain ⟨h2,n2⟩:=fZ us;have d1:(aS ts).Nodup:=(aN6.mp n1).imp λ{a b} h e=>h (by rw[e])
 have d2:(aS us).Nodup:=(aN6.mp n2).imp λ{a b} h e=>h (by rw[e])
 have pe:(aS ts).Perm (aS us):=(List.perm_ext_iff_of_nodup d1 d2).mpr λ⟨k,n⟩=>by rw[h1 k n,h2 k n,vO p k,vN p k]
 unfold nf;rw[oA (jW _) (jW _) (((eW _).trans (pe.map tmN)).trans (eW _).symm)]
theorem wL{rs:List Rw}(h:∀ r∈rs,fK r):∃ S:List Tr,nf (rs.map tr)=.tup (S.map tD)/\S.length<=rs.length/\∀ t∈S,∃ r:Rw,fK r/\tr r=t/\enc r=tD t:=by
 obtain ⟨S,p,e⟩:=pO (ts:=aS (rs.map tr));refine ⟨S,?_,?_,λt ht=>?_⟩
 . unfold nf;rw[<- e,kC]
 . rw[p.length_eq];have:=mH (rs.map tr);rw[aLA] at this;exact this
 . obtain ⟨u,hu,eu⟩:=(((fZ (rs.map tr)).1 t.1 t.2).mp (p.mem_iff.mp ht)).1;obtain ⟨r,hr,rfl⟩:=aOJ.mp hu;have g:=h r hr;have e1:tr (r.1,r.2.1,t.2)=t:=aLJ (by rw[<- eu];rfl) rfl
   refine ⟨(r.1,r.2.1,t.2),g,e1,?_⟩;rw[pJ,<- e1];show D.tup [D.tup (r.1.map .str),nD r.2.1,.int t.2]=.tup [nD (F (bD r.1)),nD r.2.1,.int t.2];rw[l9,g.2.2]
theorem f7:∀ {S:List Tr},(∀ t∈S,∃ r:Rw,fK r/\tr r=t/\enc r=tD t)->∃ rs:List Rw,rs.map tr=S/\rs.map enc=S.map tD/\∀ r∈rs,fK r
 | [],_=>⟨[],rfl,rfl,λr hr=>nomatch hr⟩
 | t::S,h=>by
  obtain ⟨r,g,e1,e2⟩:=h t mcs;obtain ⟨rs,f1,f2,f3⟩:=f7 λx hx=>h x (mcm hx);refine ⟨r::rs,by rw[aLY,e1,f1],by rw[aLY,aLY,e2,f2],λx hx=>?_⟩
  rcases aJ7.mp hx with rfl | hx
  . exact g
  . exact f3 x hx
theorem aJT{ts:List Tr}(h:∀ t∈ts,isK 2 t.1)(hl:ts.length<64){m:Nat}(hm:9<m):(WT TT m).Φ "_law_alike" [nf ts,nf ts]=.ok .fz (.bl true):=by
 have aK:=v9 h;have mem:∀ x∈bH ((aS ts).map tmN),∃ t:Tr,isK 2 t.1/\x=tmN t:=λx hx=>by obtain ⟨t,ht,rfl⟩:=aOJ.mp ((eW _).mem_iff.mp hx);exact ⟨t,aK t ht,rfl⟩
 have e:nf ts=nD (.t (bH ((aS ts).map tmN))):=by unfold nf;rw[nD]
 rw[e];refine alike (.t (λx hx=>?_) ?_) ?_
 . obtain ⟨t,ht,rfl⟩:=mem x hx;exact sz_T (sz_F ht.1) (sz_B ht.2)
 . rw[pC,aLA];have:=mH ts;omega
 . rw[N.dp];have:N.dpL (bH ((aS ts).map tmN))<=8:=iS λx hx=>by obtain ⟨t,ht,rfl⟩:=mem x hx;exact (f6 ht (aKL 2)).2.2.2 t.2
   omega
theorem plus{k:Nat}{A B:List Tr}(h:∀ t∈A++B,isK 2 t.1)(hl:(A++B).length<64):fQ TT.cl (WT TT (k+2)).Φ "plus" (.ok .fz (.ins "Reasons" [])) (.ok [(.fz,.tup (A.map tD)),(.fz,.tup (B.map tD))])=.ok .fz (nf (A++B)):=by
 obtain ⟨S,p,e⟩:=pO (ts:=A++B);have rs:=lT (aI3 (k:=k) e h hl);rw[aIR];refine call3 ?_;rw[aIP];refine dY rfl ?_;show evB _ lZ [some (false,.ins "Reasons" []),some (false,.tup (A.map tD)),some (false,.tup (B.map tD))]=_;rw[aK9] at hl;have ct:op2 (a6 .Add) (.ok .fz (.tup (A.map tD))) (.ok .fz (.tup (B.map tD)))=.ok .fz (.tup ((A++B).map tD)):=by rw[aOQ];exact aHQ (by rw[aLA,aLA,aKQ];omega)
 have rs:bO 1 ((WT TT (k+1)).Φ "reason_of") (.ok [(.fz,.tup ((A++B).map tD))])=.ok .fz (nf (A++B)):=rs;generalize nf (A++B)=NF at *;generalize (A++B).map tD=AB at *;generalize A.map tD=A0 at *;generalize B.map tD=B0 at *;simp[lZ,ct,rs]
theorem wM{r:Rw}(g:fK r):isK 2 (tr r).1:=mK g.1 g.2.1
def kk:Nat:=12
theorem main(ns:List Int)(h:ns.length<=63):(WT TT (kk+1)).Φ ("law" : Str) (k4 ns)=.ok .fz (.bl true):=by
 have c0:=wK 11 ns (i:=0) (by decide)
 have c1:=wK 11 ns (i:=1) (by decide)
 obtain ⟨nms,hn,en⟩:=names (k:=11) (ce ns 0);have en:=aJR en;obtain ⟨cs,lc,ec⟩:=aJO (ns:=ns) (lo:=some 2) (hi:=some 62);have v0:0<=ce ns 1 % ((cs.length:Int)+1):=Int.emod_nonneg _ (by omega)
 have v1:ce ns 1 % ((cs.length:Int)+1)<(cs.length:Int)+1:=Int.emod_lt_of_pos _ (by omega)
 obtain ⟨v,hv⟩:=aOV v0;have hv':ce ns 1 % ((cs.length:Int)+1)=((v:Nat):Int):=hv;have md:op2 (a6 .Mod) (.ok .fz (.int (ce ns 1))) (.ok .fz (.int ((cs.length:Int)+1)))=.ok .fz (.int ((v:Nat):Int)):=by rw[uX (by omega),hv']
 obtain ⟨rs1,l1,g1,e1⟩:=wF (k:=8) hn (cs.take v) (by rw[aK2];omega)
 obtain ⟨rs2,l2,g2,e2⟩:=wF (k:=8) hn (cs.drop v) (by rw[aLL];omega)
 have e1:=fW e1;have e2:=fW e2;obtain ⟨A,eA,lA,hA⟩:=wL g1;obtain ⟨B,eB,lB,hB⟩:=wL g2;have lAB:A.length+B.length<64:=by rw[aK2] at l1;rw[aLL] at l2;omega
 have hAB:∀ t∈A++B,∃ r:Rw,fK r/\tr r=t/\enc r=tD t:=λt ht=>(aJ8.mp ht).elim (hA t) (hB t);obtain ⟨rs,f1,f2,f3⟩:=f7 hAB;have lrs:rs.length<64:=by have:=congrArg List.length f1;rw[aLA,aK9] at this;omega
 have e3:=lT (pM (k:=11) (rs:=rs) (λr hr=>⟨(f3 r hr).1,wM (f3 r hr)⟩) lrs);rw[f1,f2] at e3;have kAB:∀ t∈A++B,isK 2 t.1:=λt ht=>by obtain ⟨r,g,rfl,_⟩:=hAB t ht;exact wM g
 have pAB:=plus (k:=10) kAB (by rw[aK9];exact lAB)
 have pBA:=plus (k:=10) (A:=B) (B:=A) (λt ht=>kAB t (aJ8.mpr (aJ8.mp ht).symm)) (by rw[aK9];omega)
 rw[aJS (List.perm_append_comm (l₁:=B) (l₂:=A))] at pBA;have al:=fW (aJT (m:=12) kAB (by rw[aK9];exact lAB) (by decide))
 rw[eA] at e1;rw[eB] at e2;have ca:op2 (a6 .Add) (.ok .fr (.lst (A.map tD))) (.ok .fr (.lst (B.map tD)))=.ok .fr (.lst ((A++B).map tD)):=by rw[aOQ];exact aHP (by rw[aLA,aLA,aKQ];omega)
 have tl:∀ {L:List D},gH [(.fz,.tup L)]=some (.fr,.lst L):=λ{L}=>rfl;rw[u_law];refine dY rfl ?_;show evB (WT TT 12) dM [some (false,.lst (ns.map .int)),none,none,none,none,none,none,none]=_;have s2:slP (.ok .fz (.lst (ns.map .int))) (some (evE (WT TT 12) (.int 2))) (some (evE (WT TT 12) (.int 62))) [some (false,.lst (ns.map .int)),some (false,NM nms),none,none,none,none,none,none]=.ok .fr (.lst (cs.map .int)):=by rw[aJP (m1:=.fz) (m2:=.fz) (i:=2) (j:=62) (by simp) (by simp),ec]
 have s4:slP (.ok .fz (.lst (cs.map .int))) none (some (evE (WT TT 12) (.var 3))) [some (false,.lst (ns.map .int)),some (false,NM nms),some (false,.lst (cs.map .int)),some (false,.int ((v:Nat):Int)),none,none,none,none]=.ok .fr (.lst ((cs.take v).map .int)):=by rw[sl_hi (m2:=.fz) (j:=((v:Nat):Int)) (by simp),aJM,List.map_take]
 have s5:slP (.ok .fz (.lst (cs.map .int))) (some (evE (WT TT 12) (.var 3))) none [some (false,.lst (ns.map .int)),some (false,NM nms),some (false,.lst (cs.map .int)),some (false,.int ((v:Nat):Int)),some (false,.tup (A.map tD)),none,none,none]=.ok .fr (.lst ((cs.drop v).map .int)):=by rw[sl_lo (m1:=.fz) (i:=((v:Nat):Int)) (by simp),aJN,List.map_drop]
 have ln:eG [(.fz,.lst (cs.map .int))]=some (.fz,.int cs.length):=by show some (Md.fz,D.int ((cs.map D.int).length:Nat))=_;rw[aLA]
 have split:dM=dM.take 3++((dM.drop 3).take 2++dM.drop 5):=rfl;rw[split,fX];have p1:evB (WT TT 12) (dM.take 3) [some (false,.lst (ns.map .int)),none,none,none,none,none,none,none]=.nx [some (false,.lst (ns.map .int)),some (false,NM nms),some (false,.lst (cs.map .int)),some (false,.int ((v:Nat):Int)),none,none,none,none]:=by
  clear e1 e2 e3 pAB pBA al ca s4 s5 split
  generalize NM nms=M at *;generalize ns.map D.int=NS at *;generalize cs.map D.int=CS at *;generalize ((cs.length:Nat):Int)=LN at *;generalize ((v:Nat):Int)=VV at *;simp[dM,c0,c1,en,s2,ln,md]
 have p2:evB (WT TT 12) ((dM.drop 3).take 2) [some (false,.lst (ns.map .int)),some (false,NM nms),some (false,.lst (cs.map .int)),some (false,.int ((v:Nat):Int)),none,none,none,none]=.nx [some (false,.lst (ns.map .int)),some (false,NM nms),some (false,.lst (cs.map .int)),some (false,.int ((v:Nat):Int)),some (false,.tup (A.map tD)),some (false,.tup (B.map tD)),none,none]:=by
  clear e3 pAB pBA al ca s2 split c0 c1 en md ln p1
  generalize NM nms=M at *;generalize ns.map D.int=NS at *;generalize cs.map D.int=CS at *;generalize (cs.take v).map D.int=C1 at *;generalize (cs.drop v).map D.int=C2 at *;generalize ((v:Nat):Int)=VV at *;generalize A.map tD=A0 at *;generalize B.map tD=B0 at *;simp[dM,s4,s5,e1,e2]
 have p3:evB (WT TT 12) (dM.drop 5) [some (false,.lst (ns.map .int)),some (false,NM nms),some (false,.lst (cs.map .int)),some (false,.int ((v:Nat):Int)),some (false,.tup (A.map tD)),some (false,.tup (B.map tD)),none,none]=.rt .fz (.bl true):=by
  clear e1 e2 s2 s4 s5 split c0 c1 en md ln p1 p2
  generalize NM nms=M at *;generalize ns.map D.int=NS at *;generalize cs.map D.int=CS at *;generalize ((v:Nat):Int)=VV at *;generalize (A++B).map tD=AB at *;generalize nf (A++B)=NF at *;generalize A.map tD=A0 at *;generalize B.map tD=B0 at *;simp[dM,Ty.f,tl,ca,e3,pAB,pBA,al]
 rw[p1,aG.thn_nx,fX,p2,aG.thn_nx,p3]
end K21
namespace K21
open PySem PySem.W Tp
theorem tw:Prod.fst (true,PySem.Challenge.pw_whencewise_k21_sums_of_reasons)=true:=by k_qdec
def as:List Addr:=[2,3,15,17,18,20,21,22,25,26,27,29,30,32,33,41,43,44,46,47,48,49,50,51,52,55,58,59,60,67,69,70,72,73,74,76,77,79,80,81,83,84,86,87,88,91,92,93,95,96,98,99,100,103,104,105,107,108,110,111,112,114,115,117,118,119,120,121,124,126,127,129,130,131,133,134,136,137,138,140,141,143,144,145,148,149,150,152,153,155,156,157,160,161,162,164,165,167,168,169,171,172,174,175,176,178,179,181,182,183,185,186,188,189,190,193,194,195,197,198,200,201,202,205,206,207,210,211,212,214,215,217,218,219,221,222,224,225]
theorem pre(w:World)(os:OsState):topGo treeTable PySem.Challenge.pw_whencewise_k21_sums_of_reasons w 11 an 12 ⟨boot_heap w.params,#[],boot_drawn,boot_toks,os⟩ (topStub PySem.Challenge.pw_whencewise_k21_sums_of_reasons)=some ((sh w.params (sA w.params) 15 187 os).abs,⟨denote treeTable (cd PySem.Challenge.pw_whencewise_k21_sums_of_reasons),cd PySem.Challenge.pw_whencewise_k21_sums_of_reasons,z0,[topFrame z0]⟩):=by
 rw[Fast.te15479712933879958256,Fast.te203182992438928480,Fast.te13144403056285818395,Fast.te15667345088766844465,Fast.te14364793385576792824,Fast.te11892475500146522536]
 kernel_rfl
theorem blk(w:World)(s:Shared):segRun treeTable PySem.Challenge.pw_whencewise_k21_sums_of_reasons w 11 an 1 1 s (blockOf PySem.Challenge.pw_whencewise_k21_sums_of_reasons.main.body (ev PySem.Challenge.pw_whencewise_k21_sums_of_reasons) (cd PySem.Challenge.pw_whencewise_k21_sums_of_reasons) z0 [topFrame z0])=some (.next,s,cd PySem.Challenge.pw_whencewise_k21_sums_of_reasons,z0):=by kernel_rfl
theorem run(w:World)(os:OsState):go treeTable PySem.Challenge.pw_whencewise_k21_sums_of_reasons w 1000 PySem.Challenge.pw_whencewise_k21_sums_of_reasons.main.body (sh w.params (sA w.params) 15 187 os) (cd PySem.Challenge.pw_whencewise_k21_sums_of_reasons) z0=some (sh w.params (lay w.params PySem.Challenge.pw_whencewise_k21_sums_of_reasons.main.body (sA w.params)) 226 477 os,cd PySem.Challenge.pw_whencewise_k21_sums_of_reasons,⟨176,0,184,132⟩):=by
 rw[Fast.te15479712933879958256,Fast.te203182992438928480,Fast.te13144403056285818395,Fast.te5678740263434597267,Fast.te14364793385576792824,Fast.te10212481707522018265]
 kernel_rfl
theorem pQ(w:World):(λos=>((staticsOk (importedModules PySem.Challenge.pw_whencewise_k21_sums_of_reasons.main.body) (boot_heap w.params) (H1 PySem.Challenge.pw_whencewise_k21_sums_of_reasons.main.body 226 w.params)&&namesBound PySem.Challenge.pw_whencewise_k21_sums_of_reasons (H1 PySem.Challenge.pw_whencewise_k21_sums_of_reasons.main.body 226 w.params)&&gensDone (S1 PySem.Challenge.pw_whencewise_k21_sums_of_reasons.main.body 226 477 w.params os)&&laidKept (boot_heap w.params) (H1 PySem.Challenge.pw_whencewise_k21_sums_of_reasons.main.body 226 w.params)),openSeen (vw PySem.Challenge.pw_whencewise_k21_sums_of_reasons) (los PySem.Challenge.pw_whencewise_k21_sums_of_reasons.main.body) (importedModules PySem.Challenge.pw_whencewise_k21_sums_of_reasons.main.body) (xt PySem.Challenge.rw_whencewise_k21_sums_of_reasons.row) true (S1 PySem.Challenge.pw_whencewise_k21_sums_of_reasons.main.body 226 477 w.params os),(hk PySem.Challenge.pw_whencewise_k21_sums_of_reasons.main.body as).obs (S1 PySem.Challenge.pw_whencewise_k21_sums_of_reasons.main.body 226 477 w.params os)))=λ_=>(true,openGood (vw PySem.Challenge.pw_whencewise_k21_sums_of_reasons) (los PySem.Challenge.pw_whencewise_k21_sums_of_reasons.main.body),(hk PySem.Challenge.pw_whencewise_k21_sums_of_reasons.main.body as).val w):=by
 rw[Fast.te14387180822208032119,Fast.te15479712933879958256,Fast.te5923862056798008813,Fast.te9407923862454927560,Fast.te15884229538025494872,Fast.te4187177175401517315,Fast.te18076920544200396443,Fast.te9318435048543301240,Fast.te17808466708180730929,Fast.te2368527892694137696]
 kernel_rfl
theorem gf(P:Params):D3.oZ (KK PySem.Challenge.pw_whencewise_k21_sums_of_reasons.main.body as P) GG TT=true:=by
 kernel_rfl
abbrev dl:DefRec:=⟨"law", L2.kU o4,L2.hC o4,L2.eE o4,⟨176,0,184,132⟩⟩
end K21
open PySem PySem.W PyProof.Rows
set_option maxRecDepth 100000 in
set_option maxHeartbeats 0 in
theorem PySem.Challenge.cw_whencewise_k21_sums_of_reasons_holds : PySem.Challenge.rw_whencewise_k21_sums_of_reasons.Holds := by
 w_on;o_law
 exact Tp.head (p:=PySem.Challenge.rw_whencewise_k21_sums_of_reasons) (d:=K21.dl) (Tp.left (by kernel_rfl) K21.pre K21.blk K21.run (by kernel_rfl) (by kernel_rfl) (λ_=>by kernel_rfl) K21.pQ) (by assumption) (by kernel_rfl) (by kernel_rfl) rfl rfl (by decide +kernel) ⟨rfl,rfl,rfl,rfl,rfl,by decide +kernel⟩ (by w_witness2)
  (D3.walkG (K:=Tp.KK PySem.Challenge.pw_whencewise_k21_sums_of_reasons.main.body K21.as) (kk:=K21.kk) (e:=K21.o3) rfl rfl rfl (λw h Y=>PySem.W.kIn_of Y) K21.gf (D3.aHT (g:=K21.GG) (by decide +kernel)) rfl rfl ⟨rfl,by decide,by decide⟩ K21.main)
