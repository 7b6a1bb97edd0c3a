import PyProof.Rows.All
import Wide.All
import OpenK.AllK
import Wide.FinOn
import Lean
import PyProof.EqAt
import PyProof.EqKinds
import PyProof.TupleCall
import PySem.Challenge.RW_whencewise_k23_lacks_and_holds
set_option linter.all false
section
open PySem PySem.Spec PyProof.Rows
def aPL:=@decide_eq_false
def aPM:=@beq_eq_false_iff_ne
def aPN:=@PySem.Paired.length
def aPO:=@PySem.Heap.get?_push_size
def aPP:=@PySem.Heap.lt_size
def aPQ:=@Nat.lt_of_lt_of_le
def aPR:=@Nat.lt_irrefl
def aPS:=@Nat.ne_of_lt
def aPT:=@PySem.W.hideAll_get
def aPU:=@List.mem_range
def aPV:=@Nat.le_trans
def aPW:=@Nat.le_of_lt
def aPX:=@List.filterMap_cons
def aPY:=@List.mem_cons
def aPZ:=@List.mem_append
def aP0:=@List.mem_append_left
def aP1:=@List.getElem?_eq_some_iff
def aP2:=@List.getElem?_set_self
def aP3:=@List.getElem?_set_ne
def aP4:=@Option.some.inj
def aP5:=@PySem.wpAny_mono
def aP6:=@PySem.wpAny_truthy_bool
def aP7:=@Array.length_toList
def aP8:=@PySem.wpAny_pure
def aP9:=@PySem.wpAny_bind
def aQA:=@PySem.wpAny_load
def aQB:=@PySem.wpAny_pyIter_list
def aQC:=@Nat.le_refl
def aQD:=@PyProof.Rows.callWith_type1
def aQE:=@List.mem_filterMap
def aQF:=@List.mem_append_right
def aQG:=@PySem.wpAny_passesOwn
def aQH:=@PySem.sizeLine_eq
def aQI:=@List.size_toArray
def aQJ:=@Array.mem_toList_iff
def aQK:=@Bool.false_ne_true
def aQL:=@beq_iff_eq
def aQM:=@PySem.Heap.size_push
def aQN:=@Nat.lt_succ_self
def aQO:=@Nat.zero_le
def aQP:=@PySem.Calls.spliced_cons
def aQQ:=@List.append_nil
def aQR:=@List.nodup_cons
def aQS:=@List.of_mem_zip
def aQT:=@List.length_take
def aQU:=@PySem.mem_of_lookup
def aQV:=@List.getElem?_append_right
def aQW:=@List.getElem?_replicate
def aQX:=@List.getElem?_append_left
def aQY:=@List.getElem?_map
def aQZ:=@List.mem_of_getElem?
def aQ0:=@List.length_append
def aQ1:=@List.length_map
def aQ2:=@PySem.wpAny_Call_Name_kw
def aQ3:=@PySem.concat_meets
def aQ4:=@PySem.noFill_tuple_add
def aQ5:=@PySem.F.slot_tuple_add
def aQ6:=@PySem.F.entry_tuple_add
def aQ7:=@PySem.F.args_tuple_add_2
def aQ8:=@Int.toNat_natCast
def aQ9:=@if_false
def aRA:=@Prod.ext
def aRB:=@PySem.wpAny_field
def aRC:=@List.length_drop
def aRD:=@PySem.wpAny_holding
def aRE:=@PySem.wpAny_callSpecial?_slot
def aRF:=@PyProof.Rows.slot_tuple_getitem
def aRG:=@PySem.wpAny_call_entry
def aRH:=@PySem.wpAny_typeOf
def aRI:=@Bool.and_eq_true
def aRJ:=@PySem.wpAny_newObj_type
def aRK:=@Option.getD_none
def aRL:=@PySem.Heap.get?_update_other
def aRM:=@List.map_nil
def aRN:=@List.map_cons
def aRO:=@decide_eq_true
def aRP:=@PySem.codeAny_mono
def aRQ:=@List.cons.injEq
def aRR:=@List.cons_append
def aRS:=@Nat.add_assoc
def aRT:=@PySem.wpAny_specialOf
def aRU:=@Array.forIn_toList
def aRV:=@PySem.wpAny_forIn_list
def aRW:=@Nat.min_le_left
def aRX:=@PySem.wpAny_isInstance
def aRY:=@Bool.not_true
def aRZ:=@Bool.false_eq_true
def aR0:=@List.lookup_cons
def aR1:=@List.length_cons
def aR2:=@decide_eq_true_eq
def aR3:=@of_decide_eq_true
def aR4:=@Bool.or_eq_true
def aR5:=@Array.all_eq_true_iff_forall_mem
def aR6:=@PySem.wpAny_getItem_str_slice
def aR7:=@PySem.post_val_or_str
def aR8:=@PySem.Txt.slice_le
def aR9:=@Array.mem_of_getElem?
def aSA:=@PySem.W.kia_one
def aSB:=@List.all_eq_true
def aSC:=@List.getElem_of_mem
def aSD:=@List.getD_eq_getElem?_getD
def aSE:=@List.getElem?_eq_getElem
def aSF:=@List.getElem_mem
def aSG:=@List.length_set
def aSH:=@List.getElem?_set
def aSI:=@Option.map_some
def aSJ:=@List.drop_eq_getElem_cons
def aSK:=@List.drop_length
def aSL:=@List.forIn_nil
def aSM:=@List.forIn_cons
def aSN:=@LawfulMonad.pure_bind
def aSO:=@beq_self_eq_true
def aSP:=@Nat.lt_succ_of_lt
def aSQ:=@Nat.not_lt
def aSR:=@Nat.le_succ
def aSS:=@List.all_cons
def aST:=@List.drop_zero
def aSU:=@List.take_of_length_le
def aSV:=@List.mem_singleton
def aSW:=@List.zip_cons_cons
def aSX:=@List.length_nil
def aSY:=@or_false
def aSZ:=@Array.getElem?_eq_some_iff
def aS0:=@PySem.wpAny_setField
def aS1:=@List.take_length
def aS2:=@PySem.plainId_quiet
def aS3:=@PySem.codeAny_builtin
def aS4:=@PySem.Around.under_plainId
def aS5:=@PySem.wpAny_askSetting
def aS6:=@List.append_assoc
def aS7:=@PySem.isSubtype_type
def aS8:=@PySem.wpAny_pyIter_slot
def aS9:=@PySem.Heap.get?_update_self
def aTA:=@PySem.Obj.isFreed_of_fields
def aTB:=@PySem.Obj.data_mapFields
def aTC:=@PySem.Heap.SameBut.update
def aTD:=@PySem.Obj.cls_mapFields
def aTE:=@PySem.wpAny_attempt
def aTF:=@PySem.wpAny_fieldsOf
def aTG:=@PySem.wpAny_setEntries_of
def aTH:=@bne_self_eq_false
def aTI:=@PySem.wpAny_setState_of
def aTJ:=@Array.getElem?_eq_getElem
def aTK:=@Array.getElem?_eq_none
def aTL:=@List.length_range
def aTM:=@List.getElem?_toArray
def aTN:=@List.getElem?_eq_none
def aTO:=@PySem.wpAny_ite_split
def aTP:=@Array.getElem?_toList
def aTQ:=@Bool.not_eq_true'
def aTR:=@List.pairwise_iff_getElem
def aTS:=@Array.getD_eq_getD_getElem?
def aTT:=@Nat.lt_or_ge
def aTU:=@List.take_append_drop
def aTV:=@List.pairwise_append
def aTW:=@List.pairwise_cons
def aTX:=@List.find?_cons
def aTY:=@List.nil_append
def aTZ:=@Array.Perm.refl
def aT0:=@of_decide_eq_false
def aT1:=@List.Perm.refl
def aT2:=@List.pairwise_singleton
def aT3:=@List.pairwise_map
def aT4:=@PySem.wpAny_newList
def aT5:=@PySem.Calls.call_function_entry
def aT6:=@List.map_map
def aT7:=@PySem.wpAny_dictEntries
def aT8:=@PySem.wpAny_dictEpoch
def aT9:=@PySem.F.slot_dict_keyiterator_next
def aUA:=@PySem.F.entry_dict_keyiterator_next
def aUB:=@PySem.F.args_dict_keyiterator_next_1
def aUC:=@PySem.wpAny_typeNameOfWhole_keyiter
def aUD:=@PySem.wpAny_typeNameOf_keyiter
def aUE:=@PySem.wpAny_isOneOf_keyiter
def aUF:=@List.mem_map
def aUG:=@List.not_mem_nil
def aUH:=@List.map_congr_left
def aUI:=@Nat.lt_of_le_of_lt
def aUJ:=@bne_iff_ne
def aUK:=@List.contains_iff_mem
def aUL:=@PySem.W.mg_of
def aUM:=@List.map_append
def aUN:=@Int.add_zero
def aUO:=@Int.zero_add
def aUP:=@Int.emod_nonneg
def aUQ:=@Int.emod_lt_of_pos
def aUR:=@Int.eq_ofNat_of_zero_le
def aUS:=@Int.le_refl
end
abbrev VSP := PySem.Value -> PySem.Shared -> Prop
abbrev Fg := PySem.W.Frag
abbrev LAO := List (PySem.Addr × PySem.Obj)
abbrev SOV := PySem.Str -> Option PySem.Value
theorem mcm {α : Type} {a b : α} {l : List α} (h : a ∈ l) : a ∈ b :: l := List.mem_cons_of_mem _ h
theorem mcs {α : Type} {a : α} {l : List α} : a ∈ a :: l := List.mem_cons_self
theorem hps {h : PySem.Heap} {o p : PySem.Obj} {b : PySem.Addr} (e : h.get? b = some o) : (h.push p).get? b = some o := PySem.Heap.get?_push_of_some _ e
set_option Elab.async false
set_option linter.all false
set_option maxRecDepth 100000
namespace L2
open PySem PySem.Spec PyProof.Rows
abbrev Key:=Sum Int Str
def uN:Key->Value->Bool
 | .inl k,v=>Value.isInt k v
 | .inr x,v=>Value.isStrOf x v
def keyH(w:World):Key->Int
 | .inl k=>hashInt k
 | .inr x=>hashStr w x
theorem gU:∀ {k:Key} {v:Value},uN k v=true->(∃ i t,k=Sum.inl i/\v=Value.int i t)\/(∃ x t,k=Sum.inr x/\v=Value.str x t)
 | .inl i,v,h=>by obtain ⟨t,e⟩:=Value.isInt_shape (k:=i) (v:=v) h;exact .inl ⟨i,t,rfl,e⟩
 | .inr x,v,h=>by obtain ⟨t,e⟩:=Value.isStrOf_shape (x:=x) (v:=v) h;exact .inr ⟨x,t,rfl,e⟩
theorem aBW(a b:Int):decide ((Sum.inl a:Key)=Sum.inl b)=(a==b):=by
 by_cases e:a=b
 . subst e;simp
 . have h:¬ (Sum.inl a:Key)=Sum.inl b:=λq=>e (Sum.inl.inj q);rw[aPL h];exact (aPM.mpr e).symm
theorem aBX(a b:Str):decide ((Sum.inr a:Key)=Sum.inr b)=decide (a=b):=by
 by_cases e:a=b
 . subst e;simp
 . have h:¬ (Sum.inr a:Key)=Sum.inr b:=λq=>e (Sum.inr.inj q);rw[aPL h,aPL e]
theorem aBY(a:Int)(b:Str):decide ((Sum.inl a:Key)=Sum.inr b)=false:=aPL (λq=>nomatch q)
theorem aBZ(a:Str)(b:Int):decide ((Sum.inr a:Key)=Sum.inl b)=false:=aPL (λq=>nomatch q)
def jS(prog:Program)(w:World):PySem.KeyKind prog w Key where
 is:=uN
 hash:=keyH w
 inj:=λv a b ha hb=>by
  rcases gU ha with ⟨i,t,rfl,rfl⟩ | ⟨x,t,rfl,rfl⟩
  . rcases gU hb with ⟨j,u,rfl,e⟩ | ⟨y,u,rfl,e⟩
    . injection e with e1 _;rw[e1]
    . exact nomatch e
  . rcases gU hb with ⟨j,u,rfl,e⟩ | ⟨y,u,rfl,e⟩
    . exact nomatch e
    . injection e with e1 _;rw[e1]
 byValue:=λk v h=>by rcases gU h with ⟨i,t,rfl,rfl⟩ | ⟨x,t,rfl,rfl⟩ <;> rfl
 pyHash:=λhv h=>by
  rcases gU hv with ⟨i,t,rfl,rfl⟩ | ⟨x,t,rfl,rfl⟩
  . exact wpAny_pyHash_int h
  . exact wpAny_pyHash_str h
 eqBool:=λhu hv h=>by
  rcases gU hu with ⟨i,t,rfl,rfl⟩ | ⟨x,t,rfl,rfl⟩
  . rcases gU hv with ⟨j,u,rfl,rfl⟩ | ⟨y,u,rfl,rfl⟩
    . rw[aBW] at h;exact wpAny_eqBool_int h
    . rw[aBY] at h;exact SeqAt.EqAt.int_str i t y u _ _ _ _ h
  . rcases gU hv with ⟨j,u,rfl,rfl⟩ | ⟨y,u,rfl,rfl⟩
    . rw[aBZ] at h;exact SeqAt.EqAt.str_int x t j u _ _ _ _ h
    . rw[aBX] at h;exact wpAny_eqBool_str h
 «strs»:=λk x t v h=>by
  rcases gU h with ⟨i,u,rfl,e⟩ | ⟨y,u,rfl,e⟩
  . exact nomatch e
  . injection e with e1 _
    subst e1;cases v <;> rfl
inductive V where
 | non | bl (b:Bool) | int (i:Int) | str (x:Str) | byt (b:Array UInt8) | flt (b:UInt64) | ref (a:Addr) | ty (n:String)
 deriving DecidableEq
def aM:V->Value->Prop
 | .non,u=>u=Value.none
 | .bl b,u=>u=Value.bool b
 | .int i,u=>∃ t,u=Value.int i t
 | .str x,u=>∃ t,u=Value.str x t
 | .byt b,u=>∃ t,u=Value.bytes b t
 | .flt b,u=>∃ t,u=Value.float b t
 | .ref a,u=>u=Value.ref a
 | .ty n,u=>u=Value.type n
abbrev aJ:List V->List Value->Prop:=Paired aM
theorem aJ.length{xs:List V}{us:List Value}(r:aJ xs us):xs.length=us.length:=aPN r
theorem aJ.get:∀ {xs:List V} {us:List Value} {i:Nat} {x:V},aJ xs us->xs[i]? = some x->∃ u,us[i]? = some u/\aM x u
 | _,_,_,_,.nil,e=>by simp at e
 | _,_,0,_,.cons r _,e=>by simp at e;subst e;exact ⟨_,rfl,r⟩
 | _,_,i+1,x,.cons _ t,e=>by
  obtain ⟨u,h1,h2⟩:=aJ.get (i:=i) (x:=x) t (by simpa using e)
  exact ⟨u,by simpa using h1,h2⟩
theorem aJ.append:∀ {xs ys:List V} {us ws:List Value},aJ xs us->aJ ys ws->aJ (xs++ys) (us++ws)
 | _,_,_,_,.nil,s=>s
 | _,_,_,_,.cons r t,s=>.cons r (aJ.append t s)
theorem aJ.take:∀ {xs:List V} {us:List Value} (n:Nat),aJ xs us->aJ (xs.take n) (us.take n)
 | _,_,0,_=>.nil
 | _,_,_+1,.nil=>.nil
 | _,_,n+1,.cons r t=>.cons r (aJ.take n t)
theorem aJ.drop:∀ {xs:List V} {us:List Value} (n:Nat),aJ xs us->aJ (xs.drop n) (us.drop n)
 | _,_,0,r=>r
 | _,_,_+1,.nil=>.nil
 | _,_,n+1,.cons _ t=>aJ.drop n t
def eM:Option V->Option Value->Prop
 | some v,some u=>aM v u
 | none,none=>True
 | _,_=>False
def KV{κ:Type}:List (κ×V)->List (κ×Value)->Prop:=Paired λ(p:κ×V) (q:κ×Value)=>p.1=q.1/\aM p.2 q.2
def kV:Key->V
 | .inl i=>.int i
 | .inr x=>.str x
inductive N where | i (n:Int) | s (x:Str) | t (xs:List N)
mutual
def bB(w:World):N->Int
 | .i n=>hashInt n
 | .s x=>hashStr w x
 | .t xs=>reduceHash (Builtin.Tuple.tupleHashOf (eN w xs))
def eN(w:World):List N->List Int
 | []=>[]
 | x::xs=>bB w x::eN w xs
end
def uO(w:World)(x:N×Addr×Value):DictEntry:=⟨bB w x.1,.ref x.2.1,x.2.2⟩
inductive HO where
 /-- a list -/
 | lst (xs:List V)
 /-- a tuple (never changes) -/
 | tup (xs:List V)
 /-- a dict whose keys are ints and texts;one whose keys are tuples of ints and texts (the empty one is both) -/
 | dK (kvs:List (Key×V)) | dT (kvs:List (List Key×V))
 | dN (kvs:List (N×Addr×V))
 /-- a set of ints: its members,its size -/
 | set (S:Key->Bool) (n:Nat)
 /-- an instance of the class at C,its dict at dx,its attributes -/
 | ins (C dx:Addr) (fs:List (Str×V))
 /-- the dict of the instance at x -/
 | own (x:Addr)
 /-- the dict of an exception -/
 | xd (fs:List (Str×V))
 /-- a bound method,f of x -/
 | met (f x:Addr)
 /-- a range object lo,lo+1,.. below hi -/
 | rng (lo hi:Int)
 /-- a thing that is known to the object (the script;a dict while a loop walks it): read,never written while it is so -/
 | frz (o:Obj) (u:HO)
 /-- a code object's table -/
 | tbl (ps:Array Value)
 /-- any other thing,by what is true of its one object (a def of one's own: SetO a S n:=HO.ext λh=>..) -/
 | ext (φ:Heap->Prop)
abbrev Hp:=Addr->Option HO
def upd(H:Hp)(a:Addr)(o:HO):Hp:=λb=>if b=a then some o else H b
theorem bQ{H:Hp}{a:Addr}{o:HO}:upd H a o a=some o:=by unfold upd;rw[if_pos rfl]
theorem aU{H:Hp}{a b:Addr}{o:HO}(h:b≠a):upd H a o b=H b:=by unfold upd;rw[if_neg h]
theorem cK{H:Hp}{a b:Addr}{o:HO}(h:H a=some o)(h':H b=none):a≠b:=by intro e;subst e;rw[h] at h';cases h'
def gW(h:Heap)(a:Addr)(items:Array Value):Prop:=∃ o,h.get? a=some o/\o.cls=.type "tuple" /\ o.dict=none/\∃ n,o.data=.seq items n
theorem gW.isTup{h:Heap}{a:Addr}{items:Array Value}(x:gW h a items):IsTup h a items:=by obtain ⟨o,e,c,_,n,d⟩:=x;exact ⟨o,e,c,n,d⟩
theorem gW.new(h:Heap)(items:Array Value):gW (h.push { cls:=.type "tuple", data:=.seq items }) h.objs.size items:=⟨_,aPO _ rfl,rfl,rfl,_,rfl⟩
section
variable (P:Program)(w:World)
def bU(H:Hp)(h:Heap)(a:Addr):HO->Prop
 | .lst xs=>xs.length<=sizeLine/\∃ (its:List Value) (n:Nat),aJ xs its/\h.get? a=some { cls:=.type "list", data:=.seq its.toArray n }
 | .tup xs=>xs.length<=sizeLine/\∃ its:List Value,aJ xs its/\gW h a its.toArray
 | .dK kvs=>kvs.length<=sizeLine/\(a==sysModules)=false/\∃ vs,KV kvs vs/\h.DictOf (jS P w) a vs
 | .dT kvs => kvs.length ≤ sizeLine ∧ (a == sysModules) = false ∧ ∃ xs : List (List Key × Addr × Value),
     Paired (λ(p:List Key×V) (q:List Key×Addr×Value)=>p.1=q.1/\H q.2.1=some (.tup (p.1.map kV))/\aM p.2 q.2.2) kvs xs /\
     ∃ o es ep,h.get? a=some o/\o.ExactDict/\o.data=.dict es ep/\es.toList=xs.map (entryOfKey (tupleKind (jS P w)))/\(xs.map (·.1)).Nodup
 | .dN kvs => kvs.length ≤ sizeLine ∧ (a == sysModules) = false ∧ ∃ xs : List (N × Addr × Value), Paired (fun (p : N × Addr × V) (q : N × Addr × Value) => p.1 = q.1 ∧ p.2.1 = q.2.1 ∧ aM p.2.2 q.2.2) kvs xs ∧
     ∃ o es ep,h.get? a=some o/\o.ExactDict/\o.data=.dict es ep/\es.toList=xs.map (uO w)/\(xs.map (·.1)).Nodup
 | .set S n=>h.SetOf (jS P w) a S n
 | .ins C dx fs => H dx = some (.own a) ∧ fs.length ≤ 1000 ∧ dx ≠ a ∧ h.get? a = some (PySem.W.instObj C dx) ∧
     ∃ mA,h.Ns1 dx mA/\(∀ f,eM (fs.lookup f) (mA f))/\PySem.Within mA (fs.map (·.1))
 | .own _=>∃ o,h.get? a=some o
 | .xd fs=>∃ mA,h.Ns1 a mA/\∀ f,eM (fs.lookup f) (mA f)
 | .rng lo hi=>∃ t u v,h.get? a=some { cls:=.type "range", data:=.fields #[.int lo t,.int hi u,.int 1 v] }
 | .frz o u=>h.get? a=some o/\bU H h a u
 | .tbl ps=>h.get? a=some { cls:=.none,data:=.fields ps }
 | .met f x=>h.get? a=some (PySem.W.methodObj (.ref f) (.ref x))
 | .ext φ=>φ h/\(∃ o,h.get? a=some o)/\∀ h1 h2:Heap,φ h1->(∀ o,h1.get? a=some o->h2.get? a=some o)->φ h2
def HOk(H:Hp)(h:Heap):Prop:=∀ a o,H a=some o->bU P w H h a o
end
section
variable {P:Program}{w:World}{H H':Hp}{h h':Heap}{a:Addr}{o:HO}
theorem bU.lt(x:bU P w H h a o):a<h.objs.size:=by
 cases o with
 | lst xs=>obtain ⟨_,_,_,_,e⟩:=x;exact aPP e
 | tup xs=>obtain ⟨_,_,_,p⟩:=x;exact p.isTup.lt
 | dK kvs=>obtain ⟨_,_,_,_,o,_,_,e,_⟩:=x;exact aPP e
 | dT kvs=>obtain ⟨_,_,_,_,o,_,_,e,_⟩:=x;exact aPP e
 | dN kvs=>obtain ⟨_,_,_,_,o,_,_,e,_⟩:=x;exact aPP e
 | set S n=>obtain ⟨o,_,_,_,e,_⟩:=x;exact aPP e
 | ins C dx fs=>obtain ⟨_,_,_,e,_⟩:=x;exact aPP e
 | own y=>obtain ⟨_,e⟩:=x;exact aPP e
 | xd fs=>obtain ⟨_,⟨_,_,_,e,_⟩,_⟩:=x;exact aPP e
 | rng lo hi=>obtain ⟨_,_,_,e⟩:=x;exact aPP e
 | frz ob u=>obtain ⟨e,_⟩:=x;exact aPP e
 | tbl ps=>exact aPP (show h.get? a=some _ from x)
 | met f y=>exact aPP (show h.get? a=some _ from x)
 | ext φ=>obtain ⟨_,⟨_,e⟩,_⟩:=x;exact aPP e
theorem Paired.mapP{α β:Type}{F G:α->β->Prop}:∀ {l₁:List α} {l₂:List β},Paired F l₁ l₂->(∀ a b,F a b->G a b)->Paired G l₁ l₂
 | _,_,.nil,_=>.nil
 | _,_,.cons r t,f=>.cons (f _ _ r) (Paired.mapP t f)
theorem bU.stay(x:bU P w H h a o)(k:∀ b u,(b=a\/H b=some (.own a))->h.get? b=some u->h'.get? b=some u)(ho:∀ b,H b=some (.own a)->H' b=some (.own a))(ht:∀ b xs,H b=some (.tup xs)->H' b=some (.tup xs)):bU P w H' h' a o:=by
 induction o with
 | lst xs=>obtain ⟨z,its,n,r,e⟩:=x;exact ⟨z,its,n,r,k _ _ (.inl rfl) e⟩
 | tup xs=>obtain ⟨z,its,r,ob,e,c⟩:=x;exact ⟨z,its,r,ob,k _ _ (.inl rfl) e,c⟩
 | dK kvs=>obtain ⟨z,y,vs,r,ob,es,ep,e,c⟩:=x;exact ⟨z,y,vs,r,ob,es,ep,k _ _ (.inl rfl) e,c⟩
 | dT kvs=>obtain ⟨z,y,xs,r,ob,es,ep,e,c⟩:=x;exact ⟨z,y,xs,Paired.mapP r λp q z=>⟨z.1,ht _ _ z.2.1,z.2.2⟩,ob,es,ep,k _ _ (.inl rfl) e,c⟩
 | dN kvs=>obtain ⟨z,y,xs,r,ob,es,ep,e,c⟩:=x;exact ⟨z,y,xs,r,ob,es,ep,k _ _ (.inl rfl) e,c⟩
 | set S n=>obtain ⟨ob,es,ep,t,e,c⟩:=x;exact ⟨ob,es,ep,t,k _ _ (.inl rfl) e,c⟩
 | ins C dx fs=>obtain ⟨d,z,ne,e,mA,⟨od,es,ep,e2,c⟩,r⟩:=x;exact ⟨ho _ d,z,ne,k _ _ (.inl rfl) e,mA,⟨od,es,ep,k _ _ (.inr d) e2,c⟩,r⟩
 | own y=>obtain ⟨ob,e⟩:=x;exact ⟨ob,k _ _ (.inl rfl) e⟩
 | xd fs=>obtain ⟨mA,⟨od,es,ep,e,c⟩,r⟩:=x;exact ⟨mA,⟨od,es,ep,k _ _ (.inl rfl) e,c⟩,r⟩
 | rng lo hi=>obtain ⟨t,u,v,e⟩:=x;exact ⟨t,u,v,k _ _ (.inl rfl) e⟩
 | frz ob u ih=>obtain ⟨e,q⟩:=x;exact ⟨k _ _ (.inl rfl) e,ih q⟩
 | tbl ps=>have e:h.get? a=some { cls:=.none,data:=.fields ps }:=x;show h'.get? a=some { cls:=.none,data:=.fields ps };exact k a _ (.inl rfl) e
 | met f y=>have e:h.get? a=some (PySem.W.methodObj (.ref f) (.ref y)):=x;show h'.get? a=some (PySem.W.methodObj (.ref f) (.ref y));exact k a _ (.inl rfl) e
 | ext φ=>obtain ⟨p,⟨o,e⟩,st⟩:=x;exact ⟨st _ _ p λo q=>k _ _ (.inl rfl) q,⟨o,k _ _ (.inl rfl) e⟩,st⟩
theorem HOk.lt(x:HOk P w H h)(e:H a=some o):a<h.objs.size:=(x a o e).lt
theorem HOk.fresh(x:HOk P w H h)(e:h.objs.size<=a):H a=none:=by
 cases q:H a with
 | none=>rfl
 | some u=>exact absurd (aPQ (x.lt q) e) (aPR _)
theorem HOk.kept(x:HOk P w H h)(k:∀ b u,h.get? b=some u->h'.get? b=some u):HOk P w H h':=λa o e =>
 (x a o e).stay (λb u _ q=>k b u q) (λ_ q=>q) λ_ _ q=>q
theorem HOk.laid(x:HOk P w H h)(k:∀ b u,h.get? b=some u->h'.get? b=some u)(hp:h.objs.size<=a)(new:bU P w (upd H a o) h' a o):HOk P w (upd H a o) h':=λb u e=>by
 have hn:=x.fresh hp;by_cases hb:b=a
 . subst hb;rw[bQ] at e;cases e;exact new
 . rw[aU hb] at e;exact (x b u e).stay (λc v _ q=>k c v q) (λc q=>by rw[aU (cK q hn)];exact q) λc xs q=>by rw[aU (cK q hn)];exact q
end
def Rd(H:Hp)(a:Addr)(u:HO):Prop:=H a=some u\/∃ o,H a=some (.frz o u)
theorem Rd.ok{P:Program}{w:World}{H:Hp}{h:Heap}{a:Addr}{u:HO}(r:Rd H a u)(x:HOk P w H h):bU P w H h a u:=by
 rcases r with r | ⟨o,r⟩
 . exact x a u r
 . obtain ⟨_,q⟩:=x a _ r;exact q
def Mut:Option HO->Prop
 | some (.lst _)=>True
 | some (.dK _)=>True
 | some (.dT _)=>True
 | some (.dN _)=>True
 | some (.set _ _)=>True
 | some (.ins _ _ _)=>True
 | some (.ext _)=>True
 | _=>False
section
variable {P:Program}{w:World}{H:Hp}{h h':Heap}{x e:Addr}{o':HO}
theorem HOk.write(ok:HOk P w H h)(mu:Mut (H x))(he:e=x\/H e=some (.own x))(k:∀ b u,b≠e->h.get? b=some u->h'.get? b=some u)(heo:∃ u,h'.get? e=some u)(new:bU P w (upd H x o') h' x o'):HOk P w (upd H x o') h':=λb u q=>by
 have nown:∀ c y,H c=some (.own y)->c≠x:=λc y r z=>by subst z;rw[r] at mu;exact mu
 have ntup:∀ c xs,H c=some (.tup xs)->c≠x:=λc xs r z=>by subst z;rw[r] at mu;exact mu
 by_cases hb:b=x
 . subst hb;rw[bQ] at q;cases q;exact new
 . rw[aU hb] at q;by_cases hbe:b=e
   . have q':H b=some (.own x):=by
       rcases he with z | z
       . exact absurd (hbe.trans z) hb
       . rw[hbe];exact z
     rw[q] at q';cases q';obtain ⟨v,hv⟩:=heo;exact ⟨v,by rw[hbe];exact hv⟩
   . refine (ok b u q).stay (λc v hc r=>k c v ?_ r) (λc r=>by rw[aU (nown c b r)];exact r) λc xs r=>by rw[aU (ntup c xs r)];exact r
     rcases hc with rfl | hc
     . exact hbe
     . rintro rfl;rcases he with z | z
       . exact nown c b hc z
       . rw[hc] at z;cases z;exact hb rfl
end
structure Un(fs ex:List Addr)(H H':Hp)(h h':Heap):Prop where
 keep:∀ b o,h.get? b=some o->H b=none->b∉fs->b∉ex->h'.get? b=some o
 slot:∀ b o,h.get? b=some o->H b=none->b∈fs->b∉ex->∃ sl,h'.get? b=some { o with slots:=sl }
 free:∀ b o,h.get? b=some o->H b=none->b∉ex->H' b=none
 there:∀ b o,h.get? b=some o->b∉ex->∃ o',h'.get? b=some o'
 tups:∀ b xs,H b=some (.tup xs)->H' b=some (.tup xs)
 frzs:∀ b o u,H b=some (.frz o u)->H' b=some (.frz o u)
 tbls:∀ b ps,H b=some (.tbl ps)->∃ more,H' b=some (.tbl (ps++more))
section
variable {fs fs' ex ex':List Addr}{H H1 H2:Hp}{h h1 h2 h':Heap}{a x e:Addr}{o:HO}
theorem Un.any(u:Un fs ex H H1 h h1){b:Addr}{ob:Obj}(q:h.get? b=some ob)(n:H b=none)(hx:b∉ex):∃ sl,h1.get? b=some { ob with slots:=sl }:=by
 by_cases hb:b∈fs
 . exact u.slot b ob q n hb hx
 . exact ⟨ob.slots,u.keep b ob q n hb hx⟩
theorem Un.kept(k:∀ b u,h.get? b=some u->h'.get? b=some u):Un fs ex H H h h' :=
 ⟨λb ob q _ _ _=>k b ob q,λb ob q _ _ _=>⟨ob.slots,k b ob q⟩,λ_ _ _ n _=>n,λb ob q _=>⟨ob,k b ob q⟩,λ_ _ q=>q,λ_ _ _ q=>q,λ_ ps q=>⟨#[],by rw[q];simp⟩⟩
theorem Un.refl:Un fs ex H H h h:=Un.kept λ_ _ q=>q
theorem Un.laid(k:∀ b u,h.get? b=some u->h'.get? b=some u)(hp:h.objs.size<=a)(hn:H a=none):Un fs ex H (upd H a o) h h' where
 keep:=λb u q _ _ _=>k b u q
 slot:=λb u q _ _ _=>⟨u.slots,k b u q⟩
 free:=λb u q n _=>by rw[aU (aPS (aPQ (aPP q) hp))];exact n
 there:=λb u q _=>⟨u,k b u q⟩
 tups:=λb xs q=>by rw[aU (cK q hn)];exact q
 frzs:=λb u xs q=>by rw[aU (cK q hn)];exact q
 tbls:=λb ps q=>⟨#[],by rw[aU (cK q hn),q];simp⟩
theorem Un.write(mu:Mut (H x))(he:e=x\/H e=some (.own x))(k:∀ b u,b≠e->h.get? b=some u->h'.get? b=some u)(heo:∃ u,h'.get? e=some u):Un fs ex H (upd H x o) h h':=by
 have hx:∀ b,H b=none->b≠x:=λb n z=>by subst z;rw[n] at mu;exact mu
 have hb:∀ b,H b=none->b≠e:=λb n z=>by
  subst z;rcases he with r | r
  . exact hx b n r
  . rw[n] at r;cases r
 have hm:∀ b u,H b=some u -> ¬ Mut (some u)->b≠x:=λb u q nm z=>by subst z;rw[q] at mu;exact nm mu
 refine ⟨λb u q n _ _=>k b u (hb b n) q,λb u q n _ _=>⟨u.slots,k b u (hb b n) q⟩,λb u q n _=>by rw[aU (hx b n)];exact n,λb u q _=>?_,
  λb xs q=>by rw[aU (hm b _ q λz=>z)];exact q,λb u xs q=>by rw[aU (hm b _ q λz=>z)];exact q,λb ps q=>⟨#[],by rw[aU (hm b _ q λz=>z),q];simp⟩⟩
 by_cases hbe:b=e
 . subst hbe;exact heo
 . exact ⟨u,k b u hbe q⟩
end
def trk(h:Heap)(H:Hp):List Addr:=(List.range h.objs.size).filter λa=>(H a).isSome
def gX(h:Heap)(H:Hp):Heap:=PySem.W.hideAll h (trk h H)
theorem aB0(h:Heap)(H:Hp):(gX h H).objs.size=h.objs.size:=PySem.W.hideAll_size _ _
theorem aB1{h:Heap}{H:Hp}{b:Addr}{o:Obj}(e:h.get? b=some o)(n:H b=none):(gX h H).get? b=some o :=
 aPT _ e λhm=>by have q:(H b).isSome=true:=(List.mem_filter.mp hm).2;rw[n] at q;simp at q
theorem aB2{h:Heap}{H:Hp}{b:Addr}{o:Obj}(e:(gX h H).get? b=some o):h.get? b=some o/\H b=none:=by
 have e':h.get? b=some o:=PySem.W.of_hideAll (trk h H) e;refine ⟨e',?_⟩;cases q:H b with
 | none=>rfl
 | some x =>
  have hm:b∈trk h H:=List.mem_filter.mpr ⟨aPU.mpr (aPP e'),by simp[q]⟩
  have z:(gX h H).get? b=none:=PySem.W.hideAll_none (trk h H) hm;rw[z] at e;cases e
def aB3(g h:Heap)(L:Addr):LAO:=(List.range h.objs.size).filterMap λa=>if a=L\/(g.get? a).isSome=true then none else (h.get? a).map λo=>(a,o)
def aN(g h:Heap)(L d:Addr):LAO:=(aB3 g h L).filter λp=>decide (p.1≠d)
structure Mod(K:Fg)(mg:SOV)(base:Heap):Prop where
 kin:K.In base
 glob:base.Ns mainGlobals mg
 blt:∃ mb,base.Ns builtinsNs mb/\∀ x:Str,x ≠ "__name__" -> mb x=bootBuiltins x
 nolimit:base.NoLimit
structure Cx where
 prog:Program
 w:World
 K:Fg
 mg:SOV
 base:Heap
 A:Around
 N:List Str
 s₀:Shared
 H₀:Hp
 env:Env
 outer:List Env
 stack:List Env
 ex:List Addr
 fn:Str->Bool
 calm:Bool
 pn:LAO
 xe:VSP
def frs(l:List Env):List Addr:=l.filterMap (·.frame)
abbrev Cx.fs(X:Cx):List Addr:=frs X.outer
def Vis(sc:Scope)(x:Str):Prop:=sc.names.lookup x=some .local\/sc.names.lookup x=some .cell\/sc.names.lookup x=some .free
def Loc(sc:Scope)(x:Str):Prop:=sc.names.lookup x=some .local\/sc.names.lookup x=some .cell
def Look(env:Env)(h:Heap)(m:SOV)(x:Str)(u:Value):Prop :=
 (env.kindOf x=some .local/\m x=some u)\/((env.kindOf x=some .cell\/env.kindOf x=some .free)/\∃ c,env.cells.lookup x=some c/\h.IsCell c (some u))
structure Cx.Ok(X:Cx):Prop where
 mod:Mod X.K X.mg X.base
 kind:X.env.scope.kind=.function
 glob:X.env.globals=mainGlobals
 blt:X.env.builtins=builtinsNs
 above:X.s₀.heap.objs.size<=X.env.locals
 inj:∀ x y c,X.env.cells.lookup x=some c->X.env.cells.lookup y=some c->x=y
 has:∀ x,(X.env.kindOf x=some .cell\/X.env.kindOf x=some .free)->∃ c,X.env.cells.lookup x=some c
 cab:∀ x c,X.fn x=true->X.env.cells.lookup x=some c->X.s₀.heap.objs.size<=c
 hd:X.calm=true->X.A.handled=none
 frames:X.A.frames=some X.stack
 stk:X.stack=X.outer\/(X.stack=X.env::X.outer/\X.env.frame=some X.env.locals)
 exf:∀ b∈X.ex,b≠X.env.locals/\∀ x c,X.env.cells.lookup x=some c->c≠b
 bs:∀ b o,X.base.get? b=some o->X.s₀.heap.get? b=some o/\X.H₀ b=none
 bsz:X.base.objs.size<=X.s₀.heap.objs.size
 noex:∀ b o,X.base.get? b=some o->b∉X.ex
 exfs:∀ b∈X.ex,b∉X.fs
 funs:X.s₀.heap.FunFrames X.base X.outer
 frf:∀ b∈X.fs,X.H₀ b=none
structure Inv(X:Cx)(aA:LAO)(σ:List (Option V))(H:Hp)(s:Shared):Prop where
 ok:X.Ok
 os:s.os=X.s₀.os
 bare:AllBare s.gens
 base:Un X.fs X.ex X.H₀ H X.s₀.heap s.heap
 loc:∃ m,s.heap.Ns X.env.locals m/\∀ (i:Nat) (x:Str) (v:V),X.N[i]? = some x->σ[i]? = some (some v)->Vis X.env.scope x->∃ u,aM v u/\Look X.env s.heap m x u
 cell:∀ x c,X.env.cells.lookup x=some c->∃ v,s.heap.IsCell c v
 free:H X.env.locals=none
 freeC:∀ x c,X.env.cells.lookup x=some c->H c=none
 pin:∀ p∈X.pn++aA,s.heap.get? p.1=some p.2/\H p.1=none/\p.1≠X.env.locals/\p.1∉X.fs/\∀ v,p.2.data ≠ .cell v
 hok:HOk X.prog X.w H s.heap
 len:σ.length=X.N.length
section
variable {X:Cx}{aA:LAO}{σ:List (Option V)}{H H':Hp}{s:Shared}{h':Heap}
theorem Cx.Ok.nofr(ok:X.Ok){b:Addr}{o:Obj}(e:X.base.get? b=some o):b∉X.fs:=λhb=>by have:=(ok.funs.mem hb).1;rw[e] at this;cases this
theorem Inv.bs(I:Inv X aA σ H s):∀ b o,X.base.get? b=some o->s.heap.get? b=some o/\H b=none:=λb o e =>
 ⟨I.base.keep b o (I.ok.bs b o e).1 (I.ok.bs b o e).2 (I.ok.nofr e) (I.ok.noex b o e),I.base.free b o (I.ok.bs b o e).1 (I.ok.bs b o e).2 (I.ok.noex b o e)⟩
theorem Inv.bk(I:Inv X aA σ H s):∀ b o,X.base.get? b=some o->s.heap.get? b=some o:=λb o e=>(I.bs b o e).1
theorem Inv.mod(I:Inv X aA σ H s):Mod X.K X.mg X.base:=I.ok.mod
theorem Inv.kIn(I:Inv X aA σ H s):X.K.In s.heap:=I.ok.mod.kin.keeps I.bk
theorem Inv.lt(I:Inv X aA σ H s):X.env.locals<s.heap.objs.size:=let ⟨_,hn,_⟩:=I.loc;hn.lt
theorem Inv.sz(I:Inv X aA σ H s):X.s₀.heap.objs.size<=s.heap.objs.size:=aPV I.ok.above (aPW I.lt)
theorem Inv.nofs(I:Inv X aA σ H s){a:Addr}(h:s.heap.objs.size<=a):a∉X.fs:=λhb=>by obtain ⟨_,o,ho,_⟩:=I.ok.funs.mem hb;exact absurd (aPQ (aPP ho) (aPV I.sz h)) (aPR _)
theorem Inv.cne(I:Inv X aA σ H s):∀ x c,X.env.cells.lookup x=some c->c≠X.env.locals:=λx c e z=>by obtain ⟨v,o,ho,hd⟩:=I.cell x c e;obtain ⟨m,⟨o',es,ep,ho',hd',_⟩,_⟩:=I.loc;rw[z,ho'] at ho;cases ho;rw[hd'] at hd;cases hd
theorem Inv.funs(I:Inv X aA σ H s):s.heap.FunFrames X.base X.outer:=by
 have all:∀ (l:List Env),(∀ b∈frs l,b∈X.fs)->X.s₀.heap.FunFrames X.base l->s.heap.FunFrames X.base l:=by
  intro l
  induction l with
  | nil=>intro _ _;trivial
  | cons env r ih =>
   intro hs hl;obtain ⟨hk,⟨L,o,hf,hn,ho,hd⟩,hr⟩:=hl;have hL:L∈X.fs:=hs L (by unfold frs;rw[aPX,hf];exact mcs)
   obtain ⟨sl,e⟩:=I.base.slot L o ho (I.ok.frf L hL) hL λz=>I.ok.exfs L z hL;exact ⟨hk,⟨L,_,hf,hn,e,hd⟩,ih (λb hb=>hs b (by unfold frs;rw[aPX,hf];exact mcm hb)) hr⟩
 exact all X.outer (λ_ hb=>hb) I.ok.funs
theorem Inv.stack(I:Inv X aA σ H s):s.heap.FunFrames X.base X.stack:=by
 rcases I.ok.stk with e | ⟨e,hf⟩
 . rw[e];exact I.funs
 . rw[e];obtain ⟨m,hn,_⟩:=I.loc;refine .cons (by rw[I.ok.kind];decide) hf hn ?_ I.funs
   exact Heap.get?_none_of_le (aPV I.ok.bsz I.ok.above)
theorem Inv.stkSub(I:Inv X aA σ H s):∀ b∈frs X.stack,b∈X.env.locals::X.fs:=λb hb=>by
 rcases I.ok.stk with e | ⟨e,hf⟩
 . rw[e] at hb;exact mcm hb
 . rw[e] at hb;unfold frs at hb;rw[aPX,hf] at hb;exact hb
theorem Inv.stkFree(I:Inv X aA σ H s):∀ b∈frs X.stack,H b=none:=λb hb=>by
 rcases aPY.mp (I.stkSub b hb) with e | hb
 . rw[e];exact I.free
 . obtain ⟨_,o,ho,_⟩:=I.ok.funs.mem hb;exact I.base.free b o ho (I.ok.frf b hb) λz=>I.ok.exfs b z hb
theorem Inv.step{g':Array GenState}{t':Nat}{d':Drawn}{ch:List Addr}(I:Inv X aA σ H s)(hch:∀ b∈ch,(b∈X.ex\/X.s₀.heap.objs.size<=b)/\b≠X.env.locals/\(∀ x c,X.env.cells.lookup x=some c->c≠b)/\∀ p∈X.pn++aA,p.1≠b)(keep:∀ b o,b≠X.env.locals->b∉X.fs->b∉ch->s.heap.get? b=some o->H b=none->h'.get? b=some o)(slot:∀ b o,b≠X.env.locals->b∈X.fs->b∉ch->s.heap.get? b=some o->H b=none->∃ sl,h'.get? b=some { o with slots:=sl })(free:∀ b o,b∉ch->s.heap.get? b=some o->H b=none->H' b=none)(there:∀ b o,b∉ch->s.heap.get? b=some o->∃ o',h'.get? b=some o')(tups:∀ b xs,H b=some (.tup xs)->H' b=some (.tup xs))(frzs:∀ b o u,H b=some (.frz o u)->H' b=some (.frz o u))(tbls:∀ b ps,H b=some (.tbl ps)->∃ more,H' b=some (.tbl (ps++more)))(ns:∀ m,s.heap.Ns X.env.locals m->h'.Ns X.env.locals m)(hok:HOk X.prog X.w H' h')(hg:AllBare g'):Inv X aA σ H' { s with heap:=h',gens:=g',drawn:=d',toks:=t' }:=by
 have neL:∀ b o,X.s₀.heap.get? b=some o->b≠X.env.locals:=λb o e=>aPS (aPQ (aPP e) I.ok.above);have neC:∀ b o,X.s₀.heap.get? b=some o->b∉X.ex->b∉ch:=λb o e hx hb=>by
  rcases (hch b hb).1 with z | z
  . exact hx z
  . exact absurd (aPQ (aPP e) z) (aPR _)
 have cellK:∀ x c,X.env.cells.lookup x=some c->∀ v,s.heap.IsCell c v->h'.IsCell c v:=λx c e v ⟨o,ho,hd⟩=>by
  have nch:c∉ch:=λz=>(hch c z).2.2.1 x c e rfl;by_cases hc:c∈X.fs
  . obtain ⟨sl,q⟩:=slot c o (I.cne x c e) hc nch ho (I.freeC x c e);exact ⟨_,q,hd⟩
  . exact ⟨o,keep c o (I.cne x c e) hc nch ho (I.freeC x c e),hd⟩
 refine ⟨I.ok,I.os,hg,⟨λb o e n hb hx=>?_,λb o e n hb hx=>?_,λb o e n hx=>?_,λb o e hx=>?_,λb xs e=>tups b xs (I.base.tups b xs e),λb o xs e=>frzs b o xs (I.base.frzs b o xs e),λb ps e=>?_⟩,?_,λx c e=>?_,?_,λx c e=>?_,λp hp=>?_,hok,I.len⟩
 . exact keep b o (neL b o e) hb (neC b o e hx) (I.base.keep b o e n hb hx) (I.base.free b o e n hx)
 . obtain ⟨sl,e1⟩:=I.base.slot b o e n hb hx;obtain ⟨sl',e2⟩:=slot b _ (neL b o e) hb (neC b o e hx) e1 (I.base.free b o e n hx);exact ⟨sl',e2⟩
 . obtain ⟨o',e1⟩:=I.base.there b o e hx;exact free b o' (neC b o e hx) e1 (I.base.free b o e n hx)
 . obtain ⟨o',e1⟩:=I.base.there b o e hx;exact there b o' (neC b o e hx) e1
 . obtain ⟨m1,e1⟩:=I.base.tbls b ps e;obtain ⟨m2,e2⟩:=tbls b _ e1;exact ⟨m1++m2,by rw[e2,Array.append_assoc]⟩
 . obtain ⟨m,hn,hl⟩:=I.loc;refine ⟨m,ns m hn,λi x v e1 e2 e3=>?_⟩;obtain ⟨u,r,l⟩:=hl i x v e1 e2 e3;refine ⟨u,r,?_⟩;rcases l with l | ⟨k,c,e,z⟩
   . exact .inl l
   . exact .inr ⟨k,c,e,cellK x c e _ z⟩
 . obtain ⟨v,z⟩:=I.cell x c e;exact ⟨v,cellK x c e v z⟩
 . obtain ⟨m,⟨o,_,_,ho,_⟩,_⟩:=I.loc;exact free _ o (λz=>(hch _ z).2.1 rfl) ho I.free
 . obtain ⟨v,o,ho,hd⟩:=I.cell x c e;exact free c o (λz=>(hch c z).2.2.1 x c e rfl) ho (I.freeC x c e)
 . obtain ⟨e,n,ne,nf,d⟩:=I.pin p hp;have nch:p.1∉ch:=λz=>(hch p.1 z).2.2.2 p hp rfl;exact ⟨keep p.1 p.2 ne nf nch e n,free p.1 p.2 nch e n,ne,nf,d⟩
theorem Inv.un{t':Nat}(I:Inv X aA σ H s)(u:Un X.fs [] H H' s.heap h')(hok:HOk X.prog X.w H' h'):Inv X aA σ H' { s with heap:=h',toks:=t' }:=by
 obtain ⟨m,⟨o,es,ep,ho,r⟩,_⟩:=id I.loc;obtain ⟨sl,hL⟩:=u.any ho I.free (by simp)
 exact I.step (g':=s.gens) (d':=s.drawn) (ch:=[]) (λ_ z=>nomatch z) (λb o _ hb _ e n=>u.keep b o e n hb (by simp)) (λb o _ hb _ e n=>u.slot b o e n hb (by simp)) (λb o _ e n=>u.free b o e n (by simp)) (λb o _ e=>u.there b o e (by simp)) u.tups u.frzs u.tbls (λm' hm=>by
  obtain ⟨o',es',ep',ho',r'⟩:=hm;rw[ho] at ho';cases ho';exact ⟨_,es',ep',hL,r'⟩) hok I.bare
theorem Inv.call{g':Array GenState}{t':Nat}{d':Drawn}{ch:List Addr}(I:Inv X aA σ H s)(u:Un (frs X.stack) ch H H' s.heap h')(hok:HOk X.prog X.w H' h')(hg:AllBare g')(hch:∀ b∈ch,(b∈X.ex\/X.s₀.heap.objs.size<=b)/\b≠X.env.locals/\(∀ x c,X.env.cells.lookup x=some c->c≠b)/\∀ p∈X.pn++aA,p.1≠b):Inv X aA σ H' { s with heap:=h',gens:=g',drawn:=d',toks:=t' }:=by
 obtain ⟨m,⟨o,es,ep,ho,r⟩,_⟩:=id I.loc;obtain ⟨sl,hL⟩:=u.any ho I.free λz=>(hch _ z).2.1 rfl;exact I.step (ch:=ch) hch (λb o hL hb hc e n=>u.keep b o e n (λz=>(aPY.mp (I.stkSub b z)).elim hL hb) hc) (λb o _ _ hc e n=>u.any e n hc) (λb o hc e n=>u.free b o e n hc) (λb o hc e=>u.there b o e hc) u.tups u.frzs u.tbls (λm' hm=>by
  obtain ⟨o',es',ep',ho',r'⟩:=hm;rw[ho] at ho';cases ho';exact ⟨_,es',ep',hL,r'⟩) hok hg
theorem Inv.turned{t':Nat}{it:Addr}(I:Inv X aA σ H s)(k:∀ b o,b≠it->s.heap.get? b=some o->h'.get? b=some o)(hn:H it=none)(hL:it≠X.env.locals)(h1:it∈X.ex\/X.s₀.heap.objs.size<=it)(h2:∀ x c,X.env.cells.lookup x=some c->c≠it)(h3:∀ p∈X.pn++aA,p.1≠it):Inv X aA σ H { s with heap:=h',toks:=t' }:=by
 have nit:∀ b u,H b=some u->b≠it:=λb u e z=>by rw[z,hn] at e;cases e
 refine I.step (g':=s.gens) (d':=s.drawn) (ch:=[it]) (λb hb=>?_) (λb o _ _ hc e _=>k b o (λz=>hc (by simp[z])) e) (λb o _ _ hc e _=>⟨o.slots,k b o (λz=>hc (by simp[z])) e⟩) (λ_ _ _ _ n=>n)
  (λb o hc e=>⟨o,k b o (λz=>hc (by simp[z])) e⟩) (λ_ _ e=>e) (λ_ _ _ e=>e) (λb ps e=>⟨#[],by rw[e];simp⟩) (λm hm=>?_) (λb u e=>?_) I.bare
 . have e:b=it:=by simpa using hb
   subst e;exact ⟨h1,hL,h2,h3⟩
 . obtain ⟨o,es,ep,ho,r⟩:=hm;exact ⟨o,es,ep,k _ o (Ne.symm hL) ho,r⟩
 . refine (I.hok b u e).stay (λc v hc q=>k c v ?_ q) (λ_ q=>q) λ_ _ q=>q;rcases hc with z | z
   . rw[z];exact nit b u e
   . exact nit c _ z
theorem Inv.tok(I:Inv X aA σ H s)(t:Nat):Inv X aA σ H { s with toks:=t }:=I.un (h':=s.heap) (t':=t) Un.refl I.hok
theorem Inv.kept{t':Nat}(I:Inv X aA σ H s)(k:∀ b u,s.heap.get? b=some u->h'.get? b=some u):Inv X aA σ H { s with heap:=h',toks:=t' }:=I.un (Un.kept k) (I.hok.kept k)
theorem Inv.laid{a:Addr}{o:HO}{t':Nat}(I:Inv X aA σ H s)(k:∀ b u,s.heap.get? b=some u->h'.get? b=some u)(hp:s.heap.objs.size<=a)(new:bU X.prog X.w (upd H a o) h' a o):Inv X aA σ (upd H a o) { s with heap:=h',toks:=t' }:=I.un (Un.laid k hp (I.hok.fresh hp)) (I.hok.laid k hp new)
theorem Inv.write{x e:Addr}{o:HO}{t':Nat}(I:Inv X aA σ H s)(mu:Mut (H x))(he:e=x\/H e=some (.own x))(k:∀ b u,b≠e->s.heap.get? b=some u->h'.get? b=some u)(heo:∃ u,h'.get? e=some u)(new:bU X.prog X.w (upd H x o) h' x o):Inv X aA σ (upd H x o) { s with heap:=h',toks:=t' }:=I.un (Un.write mu he k heo) (I.hok.write mu he k heo new)
theorem Inv.weak{σ':List (Option V)}(I:Inv X aA σ H s)(hl:σ'.length=σ.length)(w:∀ (i:Nat) v,σ'[i]? = some (some v)->σ[i]? = some (some v)):Inv X aA σ' H s :=
 ⟨I.ok,I.os,I.bare,I.base,let ⟨m,hn,hl'⟩:=I.loc;⟨m,hn,λi x v e1 e2 e3=>hl' i x v e1 (w i v e2) e3⟩,I.cell,I.free,I.freeC,I.pin,I.hok,hl.trans I.len⟩
theorem Inv.pins_of{pins':LAO}(I:Inv X aA σ H s)(h:∀ p∈pins',s.heap.get? p.1=some p.2/\H p.1=none/\p.1≠X.env.locals/\p.1∉X.fs/\∀ v,p.2.data ≠ .cell v):Inv X pins' σ H s :=
 ⟨I.ok,I.os,I.bare,I.base,I.loc,I.cell,I.free,I.freeC,λp hp=>(aPZ.mp hp).elim (λz=>I.pin p (aP0 _ z)) (h p),I.hok,I.len⟩
theorem uP{N:List Str}(hN:N.Nodup){i j:Nat}{x:Str}(a:N[i]? = some x)(b:N[j]? = some x):i=j:=by obtain ⟨h1,e1⟩:=aP1.mp a;obtain ⟨h2,e2⟩:=aP1.mp b;exact (List.getElem_inj hN).mp (e1.trans e2.symm)
theorem uQ{M:Model}{A:Around}{E:VSP}{i:Nat}{x:Str}{v:V}{u:Value}{Q:Unit->Shared->Prop}(I:Inv X aA σ H s)(hN:X.N.Nodup)(hi:X.N[i]? = some x)(hx:Loc X.env.scope x)(r:aM v u)(h:∀ s',Inv X aA (σ.set i (some v)) H s'->(∃ a,Heap.SameBut a s.heap s'.heap/\(a=X.env.locals\/X.env.cells.lookup x=some a))->Q () s')(hf:X.fn x=true\/X.env.scope.names.lookup x=some .local:=by first | exact .inl rfl | exact .inr rfl | assumption):wpAny M A (storeName X.env x u) Q E s:=by
 obtain ⟨m,hn,hl⟩:=id I.loc;have hcls:(X.env.scope.kind == .class||(X.env.scope.kind == .module&&X.env.locals != X.env.globals))=false:=by rw[I.ok.kind];rfl
 have hiσ:i<σ.length:=by rw[I.len];exact (aP1.mp hi).1
 have cne:=I.cne;have tracked:∀ {a:Addr} {h':Heap},(∃ o,s.heap.get? a=some o/\H a=none)->Heap.SameBut a s.heap h'->HOk X.prog X.w H h':=λ{a h'} ha hs b ob e=>by
  obtain ⟨_,_,eL⟩:=ha;refine (I.hok b ob e).stay (λc w' hc q=>(hs.2 c ?_).trans q) (λ_ q=>q) λ_ _ q=>q;rintro rfl;rcases hc with rfl | hc
  . rw[eL] at e;cases e
  . rw[eL] at hc;cases hc
 rcases hx with hk | hk
 . refine wpAny_storeName_local hk hn (λh' hn' hs=>?_) hcls;obtain ⟨oL,_,_,hoL,_⟩:=id hn;refine h _ ⟨I.ok,I.os,I.bare,⟨λb o e n hb hx=>?_,λb o e n hb hx=>?_,I.base.free,λb o e hx=>?_,I.base.tups,I.base.frzs,I.base.tbls⟩,⟨_,hn',λj y v' e1 e2 e3=>?_⟩,λy c e=>?_,I.free,I.freeC,λp hp=>?_,tracked ⟨oL,hoL,I.free⟩ hs,by simpa using I.len⟩ ⟨_,hs,.inl rfl⟩
   . exact (hs.2 b (aPS (aPQ (aPP e) I.ok.above))).trans (I.base.keep b o e n hb hx)
   . obtain ⟨sl,e1⟩:=I.base.slot b o e n hb hx;exact ⟨sl,(hs.2 b (aPS (aPQ (aPP e) I.ok.above))).trans e1⟩
   . obtain ⟨o',e1⟩:=I.base.there b o e hx;exact ⟨o',(hs.2 b (aPS (aPQ (aPP e) I.ok.above))).trans e1⟩
   . by_cases hj:j=i
     . subst hj;rw[hi] at e1;cases e1;rw[aP2 hiσ] at e2;cases e2;exact ⟨u,r,.inl ⟨hk,by simp⟩⟩
     . rw[aP3 (Ne.symm hj)] at e2;obtain ⟨u',r',q⟩:=hl j y v' e1 e2 e3;refine ⟨u',r',?_⟩;rcases q with ⟨k,e⟩ | ⟨k,c,e,z⟩
       . refine .inl ⟨k,?_⟩;have:y≠x:=λe=>hj (uP hN e1 (e ▸ hi));simp[this,e]
       . exact .inr ⟨k,c,e,z.sameBut hs (cne y c e)⟩
   . obtain ⟨w',z⟩:=I.cell y c e;exact ⟨w',z.sameBut hs (cne y c e)⟩
   . obtain ⟨e,n,ne,nf,d⟩:=I.pin p hp;exact ⟨(hs.2 p.1 ne).trans e,n,ne,nf,d⟩
 . have hfn:X.fn x=true:=by
     rcases hf with z | z
     . exact z
     . rw[z] at hk;cases hk
   obtain ⟨c,hc⟩:=I.ok.has x (.inl hk);obtain ⟨w',z⟩:=I.cell x c hc;refine wpAny_storeName_cell I.ok.kind hk hc z (λh' hc' hs=>?_);obtain ⟨oc,hoc,hocd⟩:=id z;refine h { s with heap:=h' } ⟨I.ok,I.os,I.bare,⟨λb o e n hb hx=>?_,λb o e n hb hx=>?_,I.base.free,λb o e hx=>?_,I.base.tups,I.base.frzs,I.base.tbls⟩,⟨m,hn.sameBut hs (Ne.symm (cne x c hc)),λj y v' e1 e2 e3=>?_⟩,λy c' e=>?_,I.free,I.freeC,λp hp=>?_,tracked ⟨oc,hoc,I.freeC x c hc⟩ hs,by simpa using I.len⟩ ⟨c,hs,.inr hc⟩
   . exact (hs.2 b (aPS (aPQ (aPP e) (I.ok.cab x c hfn hc)))).trans (I.base.keep b o e n hb hx)
   . obtain ⟨sl,e1⟩:=I.base.slot b o e n hb hx;exact ⟨sl,(hs.2 b (aPS (aPQ (aPP e) (I.ok.cab x c hfn hc)))).trans e1⟩
   . obtain ⟨o',e1⟩:=I.base.there b o e hx;exact ⟨o',(hs.2 b (aPS (aPQ (aPP e) (I.ok.cab x c hfn hc)))).trans e1⟩
   . by_cases hj:j=i
     . subst hj;rw[hi] at e1;cases e1;rw[aP2 hiσ] at e2;cases e2;exact ⟨u,r,.inr ⟨.inl hk,c,hc,hc'⟩⟩
     . rw[aP3 (Ne.symm hj)] at e2;obtain ⟨u',r',q⟩:=hl j y v' e1 e2 e3;refine ⟨u',r',?_⟩;rcases q with q | ⟨k,c',e,z'⟩
       . exact .inl q
       . refine .inr ⟨k,c',e,z'.sameBut hs ?_⟩;rintro rfl;exact hj (uP hN e1 (I.ok.inj _ _ _ e hc ▸ hi))
   . by_cases hcc:c'=c
     . subst hcc;exact ⟨_,hc'⟩
     . obtain ⟨w2,z2⟩:=I.cell y c' e;exact ⟨w2,z2.sameBut hs hcc⟩
   . obtain ⟨e,n,ne,nf,d⟩:=I.pin p hp;refine ⟨(hs.2 p.1 ?_).trans e,n,ne,nf,d⟩;intro q;rw[q,hoc] at e;have q':oc=p.2:=aP4 e;exact d w' (by rw[<- q'];exact hocd)
theorem uR{M:Model}{A:Around}{E:VSP}{i:Nat}{x:Str}{v:V}{u:Value}{Q:Unit->Shared->Prop}(I:Inv X aA σ H s)(hN:X.N.Nodup)(hi:X.N[i]? = some x)(hx:Loc X.env.scope x)(r:aM v u)(h:∀ s',Inv X aA (σ.set i (some v)) H s'->Q () s')(hf:X.fn x=true\/X.env.scope.names.lookup x=some .local:=by first | exact .inl rfl | exact .inr rfl | assumption):wpAny M A (storeName X.env x u) Q E s :=
 uQ I hN hi hx r (λs' I' _=>h s' I') hf
theorem Inv.call'{s':Shared}{ch:List Addr}(I:Inv X aA σ H s)(ho:s'.os=s.os)(u:Un (frs X.stack) ch H H' s.heap s'.heap)(hok:HOk X.prog X.w H' s'.heap)(hg:AllBare s'.gens)(hch:∀ b∈ch,(b∈X.ex\/X.s₀.heap.objs.size<=b)/\b≠X.env.locals/\(∀ x c,X.env.cells.lookup x=some c->c≠b)/\∀ p∈X.pn++aA,p.1≠b):Inv X aA σ H' s':=by obtain ⟨h',g',d',t',o'⟩:=s';have e:o'=s.os:=ho;subst e;exact I.call (g':=g') (t':=t') (d':=d') u hok hg hch
end
abbrev XK:=Value->Option Addr->Hp->Prop
abbrev St:=List (Option V)
abbrev VK:=V->Hp->Prop
abbrev TE:=St->Hp->VK->Prop
abbrev TT:=St->Hp->(Bool->Hp->Prop)->Prop
abbrev TA:=St->Hp->(List V->Hp->Prop)->Prop
structure fV where
 nx:St->Hp->Prop
 rt:VK
 bk:St->Hp->Prop:=λ_ _=>False
 ct:St->Hp->Prop:=λ_ _=>False
abbrev TS:=fV->St->Hp->Prop
def EP(X:Cx)(aA:LAO)(σ:St)(Q:VK)(u:Value)(s':Shared):Prop:=∃ v H',Inv X aA σ H' s'/\aM v u/\Q v H'
def TP(X:Cx)(aA:LAO)(σ:St)(Q:Bool->Hp->Prop)(b:Bool)(s':Shared):Prop:=∃ H',Inv X aA σ H' s'/\Q b H'
def AP(X:Cx)(aA:LAO)(σ:St)(Q:List V->Hp->Prop)(us:List Value)(s':Shared):Prop:=∃ vs H',Inv X aA σ H' s'/\aJ vs us/\Q vs H'
def SP(X:Cx)(aA:LAO)(D:fV)(f:Flow)(s':Shared):Prop :=
 match f with
 | .next=>∃ σ' H',Inv X aA σ' H' s'/\D.nx σ' H'
 | .brk=>∃ σ' H',Inv X aA σ' H' s'/\D.bk σ' H'
 | .cont=>∃ σ' H',Inv X aA σ' H' s'/\D.ct σ' H'
 | .ret u=>∃ v σ' H',Inv X aA σ' H' s'/\aM v u/\D.rt v H'
def PE(X:Cx)(e:Expr)(t:TE):Prop :=
 ∀ (aA:LAO) (s:Shared) (σ:St) (H:Hp) (Q:VK),Inv X aA σ H s->t σ H Q->wpAny (model X.prog X.w) X.A (eval e X.env) (EP X aA σ Q) X.xe s
def PT(X:Cx)(e:Expr)(t:TT):Prop :=
 ∀ (aA:LAO) (s:Shared) (σ:St) (H:Hp) (Q:Bool->Hp->Prop),Inv X aA σ H s->t σ H Q->wpAny (model X.prog X.w) X.A (isTrue e X.env (eval e X.env)) (TP X aA σ Q) X.xe s
def PW(X:Cx)(e:Expr)(t:TT):Prop :=
 ∀ (cW:Sem Value) (aA:LAO) (s:Shared) (σ:St) (H:Hp) (Q:Bool->Hp->Prop),Inv X aA σ H s->t σ H Q->wpAny (model X.prog X.w) X.A (isTrue e X.env cW) (TP X aA σ Q) X.xe s
theorem PW.pt{X:Cx}{e:Expr}{t:TT}(h:PW X e t):PT X e t:=h _
def PA(X:Cx)(es:List Expr)(t:TA):Prop :=
 ∀ (pos:Pos) (aA:LAO) (s:Shared) (σ:St) (H:Hp) (Q:List V->Hp->Prop),Inv X aA σ H s->t σ H Q->wpAny (model X.prog X.w) X.A (spliced (backTo pos (starEach es X.env))) (AP X aA σ Q) X.xe s
def PS(X:Cx)(st:Stmt)(t:TS):Prop :=
 ∀ (aA:LAO) (s:Shared) (σ:St) (H:Hp) (D:fV),Inv X aA σ H s->t D σ H->wpAny (model X.prog X.w) X.A (exec st X.env) (SP X aA D) X.xe s
def PSs(X:Cx)(st:List Stmt)(t:TS):Prop :=
 ∀ (aA:LAO) (s:Shared) (σ:St) (H:Hp) (D:fV),Inv X aA σ H s->t D σ H->wpAny (model X.prog X.w) X.A (execs st X.env) (SP X aA D) X.xe s
theorem thn{α:Type}{t:Sem α}{Q Q':α->Shared->Prop}{M:Model}{A:Around}{E:VSP}{s:Shared}(h:wpAny M A t Q E s)(hQ:∀ a s,Q a s->Q' a s):wpAny M A t Q' E s:=aP5 h hQ λ_ _ x=>x
section
variable {X:Cx}
def k4(i:Nat):TE:=λσ H Q=>∃ v,σ[i]? = some (some v)/\Q v H
def tC(v:V):TE:=λ_ H Q=>Q v H
theorem m9{i:Nat}{x:Str}{pos:Pos}(hN:X.N[i]? = some x)(hv:Vis X.env.scope x)(hd:(x==("__debug__" : Str))=false:=by decide)(hcd:(x==("__classdict__" : Str))=false:=by decide):PE X (.Name x pos) (k4 i):=by
 intro aA s σ H Q I h;obtain ⟨v,e,h⟩:=h;obtain ⟨m,hn,hl⟩:=I.loc;obtain ⟨u,r,l⟩:=hl i x v hN e hv;have fin:EP X aA σ Q u s:=⟨v,H,I,r,h⟩;rcases l with ⟨hk,hm⟩ | ⟨hk,c,hc,dL⟩
 . exact wpAny_Name (wpAny_loadName_local I.ok.kind hk hn hm fin) hd
 . rcases hk with hk | hk
   . exact wpAny_Name (wpAny_loadName_cell I.ok.kind hk hc dL fin) hd
   . exact wpAny_Name (wpAny_loadName_free I.ok.kind hk hc dL fin hcd) hd
theorem aB4{i j pos}:PE X (.Constant (.int i) j pos) (tC (.int i)):=λ_ _ _ H _ I h=>wpAny_Constant_int ⟨.int i,H,I.tok _,⟨_,rfl⟩,h⟩
theorem pe_bl{b j pos}:PE X (.Constant (.bool b) j pos) (tC (.bl b)):=λ_ _ _ H _ I h=>Constant_bool ⟨.bl b,H,I,rfl,h⟩
theorem aB5{j pos}:PE X (.Constant .none j pos) (tC .non):=λ_ _ _ H _ I h=>Constant_none ⟨.non,H,I,rfl,h⟩
theorem aB6{x j pos}:PE X (.Constant (.str x) j pos) (tC (.str x)):=λ_ _ _ H _ I h=>Calls.Constant_str ⟨.str x,H,I.tok _,⟨_,rfl⟩,h⟩
def Gl(X:Cx)(x:Str):Prop:=X.env.kindOf x=some .globalImplicit
theorem pZ{E:VSP}{aA:LAO}{s:Shared}{σ:St}{H:Hp}{x:Str}{u:Value}{pos:Pos}{Q:VSP}(I:Inv X aA σ H s)(hg:Gl X x)(hm:X.mg x=some u)(h:Q u s)(hd:(x==("__debug__" : Str))=false:=by decide):wpAny (model X.prog X.w) X.A (eval (.Name x pos) X.env) Q E s :=
 Calls.Name_function_global I.ok.kind hg (Calls.loadGlobal_global (by rw[I.ok.glob];exact I.mod.glob.keeps I.bk) hm h) hd
theorem nA{E:VSP}{aA:LAO}{s:Shared}{σ:St}{H:Hp}{x:Str}{u:Value}{pos:Pos}{Q:VSP}(I:Inv X aA σ H s)(hg:Gl X x)(hm:X.mg x=none)(hv:bootBuiltins x=some u)(h:Q u s)(hn:x ≠ "__name__" := by decide)(hd:(x==("__debug__" : Str))=false:=by decide):wpAny (model X.prog X.w) X.A (eval (.Name x pos) X.env) Q E s:=by obtain ⟨mb,h1,h2⟩:=I.mod.blt;exact Calls.Name_function_global I.ok.kind hg (Calls.loadGlobal_builtin (by rw[I.ok.glob];exact I.mod.glob.keeps I.bk) hm (by rw[I.ok.blt];exact h1.keeps I.bk) ((h2 x hn).trans hv) h) hd
theorem uS{x:Str}{v:V}{u:Value}{pos:Pos}(hg:Gl X x)(hm:X.mg x=some u)(r:aM v u)(hd:(x==("__debug__" : Str))=false:=by decide):PE X (.Name x pos) (tC v) :=
 λ_ _ _ H _ I h=>pZ I hg hm ⟨v,H,I,r,h⟩ hd
theorem aB7{x:Str}{v:V}{u:Value}{pos:Pos}(hg:Gl X x)(hm:X.mg x=none)(hv:bootBuiltins x=some u)(r:aM v u)(hn:x ≠ "__name__" := by decide)(hd:(x==("__debug__" : Str))=false:=by decide):PE X (.Name x pos) (tC v) :=
 λ_ _ _ H _ I h=>nA I hg hm hv ⟨v,H,I,r,h⟩ hn hd
variable {a b:Expr}{ta tb:TE}{pos:Pos}
variable {tA tB':TT}{aN:List Expr}
def qA(t u:TT):TT:=λσ H Q=>t σ H λc H1=>if c=true then u σ H1 Q else Q false H1
def tOr(t u:TT):TT:=λσ H Q=>t σ H λc H1=>if c=true then Q true H1 else u σ H1 Q
def tNot(t:TT):TT:=λσ H Q=>t σ H λc H1=>Q (!c) H1
theorem aB8(ha:PT X a tA):PW X (.BoolOp .And [a] pos) tA:=by
 intro wh aA s σ H Q I h;refine isTrue_and (thn (ha aA s σ H Q I h) λc s1 e=>?_);cases c with
 | true=>exact isTrue_and_nil e
 | false=>exact e
theorem aB9(ha:PT X a tA):PW X (.BoolOp .Or [a] pos) tA:=by
 intro wh aA s σ H Q I h;refine isTrue_or (thn (ha aA s σ H Q I h) λc s1 e=>?_);cases c with
 | false=>exact isTrue_or_nil e
 | true=>exact e
theorem aCA(ha:PT X a tA)(hb:PW X (.BoolOp .And (b::aN) pos) tB'):PW X (.BoolOp .And (a::b::aN) pos) (qA tA tB'):=by
 intro wh aA s σ H Q I h;refine isTrue_and (thn (ha aA s σ H _ I h) λc s1 ⟨H1,I1,q1⟩=>?_);cases c with
 | true=>exact hb wh aA s1 σ H1 Q I1 q1
 | false=>exact ⟨H1,I1,q1⟩
theorem pw_or(ha:PT X a tA)(hb:PW X (.BoolOp .Or (b::aN) pos) tB'):PW X (.BoolOp .Or (a::b::aN) pos) (tOr tA tB'):=by
 intro wh aA s σ H Q I h;refine isTrue_or (thn (ha aA s σ H _ I h) λc s1 ⟨H1,I1,q1⟩=>?_);cases c with
 | true=>exact ⟨H1,I1,q1⟩
 | false=>exact hb wh aA s1 σ H1 Q I1 q1
theorem aCB(ha:PT X a tA):PT X (.UnaryOp .Not a pos) (tNot tA):=by intro aA s σ H Q I h;exact isTrue_not (ha aA s σ H (λc H1=>Q (!c) H1) I h)
def uT(ta tb:TE):TE:=λσ H Q=>ta σ H λx H1=>∃ c,x=.bl c/\if c=true then tb σ H1 Q else Q (.bl false) H1
def tOrV(ta tb:TE):TE:=λσ H Q=>ta σ H λx H1=>∃ c,x=.bl c/\if c=true then Q (.bl true) H1 else tb σ H1 Q
def uU(ta:TE):TE:=λσ H Q=>ta σ H λx H1=>∃ c,x=.bl c/\Q (.bl (!c)) H1
theorem aCC{op}{t:TE}(h:PE X a t):PE X (.BoolOp op [a] pos) t:=λaA s σ H Q I hw=>BoolOp_one (h aA s σ H Q I hw)
theorem aCD(ha:PE X a ta)(hb:PE X (.BoolOp .And (b::aN) pos) tb):PE X (.BoolOp .And (a::b::aN) pos) (uT ta tb):=by
 intro aA s σ H Q I h;refine BoolOp_and (thn (ha aA s σ H _ I h) λv s1 ⟨x,H1,I1,r1,q1⟩=>?_);obtain ⟨c,rfl,q1⟩:=q1;cases r1;refine aP6 ?_;cases c with
 | true=>exact hb aA s1 σ H1 Q I1 q1
 | false=>exact ⟨.bl false,H1,I1,rfl,q1⟩
theorem pe_or(ha:PE X a ta)(hb:PE X (.BoolOp .Or (b::aN) pos) tb):PE X (.BoolOp .Or (a::b::aN) pos) (tOrV ta tb):=by
 intro aA s σ H Q I h;refine BoolOp_or (thn (ha aA s σ H _ I h) λv s1 ⟨x,H1,I1,r1,q1⟩=>?_);obtain ⟨c,rfl,q1⟩:=q1;cases r1;refine aP6 ?_;cases c with
 | false=>exact hb aA s1 σ H1 Q I1 q1
 | true=>exact ⟨.bl true,H1,I1,rfl,q1⟩
theorem aCE(ha:PE X a ta):PE X (.UnaryOp .Not a pos) (uU ta):=by intro aA s σ H Q I h;refine UnaryOp_ (thn (ha aA s σ H _ I h) λv s1 ⟨x,H1,I1,r1,q1⟩=>?_);obtain ⟨c,rfl,q1⟩:=q1;cases r1;exact not_of (aP6 ⟨.bl (!c),H1,I1,rfl,q1⟩)
end
def SqL(K:Fg)(H:Hp)(a:Addr)(xs:List V):Prop :=
 Rd H a (.lst xs) \/
  ∃ (o:Obj) (its:Array Value) (n:Nat),K.lookup a=some o/\o.cls=.type "list" /\ o.dict=none/\o.data=.seq its n/\its.size<=sizeLine/\aJ xs its.toList
def SqT(K:Fg)(H:Hp)(a:Addr)(xs:List V):Prop :=
 Rd H a (.tup xs) \/
  ∃ (o:Obj) (its:Array Value) (n:Nat),K.lookup a=some o/\o.cls=.type "tuple" /\ o.dict=none/\o.data=.seq its n/\its.size<=sizeLine/\aJ xs its.toList
def absV:Value->Option V
 | .none=>some .non
 | .bool b=>some (.bl b)
 | .int i _=>some (.int i)
 | .str x _=>some (.str x)
 | .bytes b _=>some (.byt b)
 | .float b _=>some (.flt b)
 | .ref a=>some (.ref a)
 | .type n=>some (.ty n)
 | _=>none
theorem aM.abs{x:V}{u:Value}(r:aM x u):absV u=some x:=by
 cases x with
 | non=>cases r;rfl
 | bl _=>cases r;rfl
 | int _=>obtain ⟨t,rfl⟩:=r;rfl
 | str _=>obtain ⟨t,rfl⟩:=r;rfl
 | byt _=>obtain ⟨t,rfl⟩:=r;rfl
 | flt _=>obtain ⟨t,rfl⟩:=r;rfl
 | ref _=>cases r;rfl
 | ty _=>cases r;rfl
theorem aM.inj{x y:V}{u:Value}(r:aM x u)(q:aM y u):x=y:=aP4 (r.abs.symm.trans q.abs)
theorem aJ.inj:∀ {xs ys:List V} {us:List Value},aJ xs us->aJ ys us->xs=ys
 | _,_,_,.nil,.nil=>rfl
 | _,_,_,.cons r t,.cons r' t'=>by rw[r.inj r',aJ.inj t t']
section
variable {X:Cx}{aA:LAO}{σ:St}{H:Hp}{s:Shared}{a:Addr}{xs ys:List V}
theorem SqL.of{K:Fg}(h:H a=some (.lst xs)):SqL K H a xs:=.inl (.inl h)
theorem SqT.of{K:Fg}(h:H a=some (.tup xs)):SqT K H a xs:=.inl (.inl h)
theorem Inv.list(I:Inv X aA σ H s)(h:SqL X.K H a xs):∃ its:List Value,aJ xs its/\PlainL s.heap a its.toArray/\xs.length<=sizeLine:=by
 rcases h with h | ⟨o,its,n,hk,hc,hd,hs,hz,r⟩
 . obtain ⟨z,its,n,r,e⟩:=h.ok I.hok;exact ⟨its,r,⟨_,n,e,rfl,rfl,rfl⟩,z⟩
 . refine ⟨its.toList,r,⟨o,n,I.kIn a o hk,hc,hd,by simpa using hs⟩,?_⟩
   have e:=r.length;simp only[aP7] at e;omega
theorem Inv.tuple(I:Inv X aA σ H s)(h:SqT X.K H a xs):∃ its:List Value,aJ xs its/\IsTup s.heap a its.toArray/\xs.length<=sizeLine:=by
 rcases h with h | ⟨o,its,n,hk,hc,hdt,hs,hz,r⟩
 . obtain ⟨z,its,r,p⟩:=h.ok I.hok;exact ⟨its,r,p.isTup,z⟩
 . refine ⟨its.toList,r,⟨o,I.kIn a o hk,hc,n,by simpa using hs⟩,?_⟩
   have e:=r.length;simp only[aP7] at e;omega
theorem Inv.list_inj(I:Inv X aA σ H s)(h:SqL X.K H a xs)(h':SqL X.K H a ys):xs=ys:=by
 obtain ⟨its,r,⟨o,n,e,_,_,d⟩,_⟩:=I.list h;obtain ⟨its',r',⟨o',n',e',_,_,d'⟩,_⟩:=I.list h';rw[e] at e';cases e';rw[d] at d';injection d' with d1 _
 have:its=its':=by simpa using congrArg Array.toList d1
 subst this;exact r.inj r'
theorem Inv.tuple_inj(I:Inv X aA σ H s)(h:SqT X.K H a xs)(h':SqT X.K H a ys):xs=ys:=by
 obtain ⟨its,r,⟨o,e,_,n,d⟩,_⟩:=I.tuple h;obtain ⟨its',r',⟨o',e',_,n',d'⟩,_⟩:=I.tuple h';rw[e] at e';cases e';rw[d] at d';injection d' with d1 _
 have:its=its':=by simpa using congrArg Array.toList d1
 subst this;exact r.inj r'
end
abbrev Cx.wish(X:Cx)(E:VSP):Cx:={ X with xe:=E }
section
variable {X:Cx}{aA:LAO}{σ:St}{H:Hp}{s:Shared}{E:VSP}
end
section
variable {X:Cx}{st:Stmt}{aN:List Stmt}{t u:TS}{e:Expr}{te:TE}{pos:Pos}
def tNext:TS:=λD σ H=>D.nx σ H
def tSeq(t u:TS):TS:=λD σ H=>t { D with nx:=u D } σ H
theorem aCF:PSs X [] tNext:=λ_ _ σ H _ I h=>wpAny_execs_nil ⟨σ,H,I,h⟩
theorem aCG(h1:PS X st t)(h2:PSs X aN u):PSs X (st::aN) (tSeq t u):=by
 intro aA s σ H D I h;refine wpAny_execs_cons (thn (h1 aA s σ H { D with nx:=u D } I h) λf s1 q=>?_)
 cases f with
 | next=>obtain ⟨σ',H',I',q⟩:=q;exact h2 aA s1 σ' H' D I' q
 | ret v=>exact q
 | brk=>exact q
 | cont=>exact q
theorem Inv.quiet{aA:LAO}{σ:St}{H:Hp}{s:Shared}(I:Inv X aA σ H s):interactive X.env=false:=by simp[interactive,I.ok.kind]
def uV(te:TE):TS:=λD σ H=>te σ H λ_ H1=>D.nx σ H1
theorem aCH(he:PE X e te)(hs:swapsWith e none pos.line X.env=pure false:=by rfl):PS X (.Expr e pos) (uV te):=by intro aA s σ H D I h;exact wpAny_Expr_any (thn (he aA s σ H _ I h) λv s1 ⟨x,H1,I1,r1,q1⟩=>⟨σ,H1,I1,q1⟩) I.quiet hs
def tRet(te:TE):TS:=λD σ H=>te σ H D.rt
theorem uW(he:PE X e te):PS X (.Return (some e) pos) (tRet te):=by intro aA s σ H D I h;exact wpAny_Return_some (thn (he aA s σ H _ I h) λv s1 ⟨x,H1,I1,r1,q1⟩=>⟨x,σ,H1,I1,r1,q1⟩)
def tIfS(c:TT)(t u:TS):TS:=λD σ H=>c σ H λb H1=>if b=true then t D σ H1 else u D σ H1
theorem ps_if{c:Expr}{a b:List Stmt}{tc:TT}(hc:PT X c tc)(ha:PSs X a t)(hb:PSs X b u):PS X (.If c a b pos) (tIfS tc t u):=by
 intro aA s σ H D I h;refine wpAny_If (thn (hc aA s σ H _ I h) λd s1 ⟨H1,I1,q1⟩=>?_);cases d with
 | true=>exact ha aA s1 σ H1 D I1 q1
 | false=>exact hb aA s1 σ H1 D I1 q1
end
abbrev TG:=V->St->Hp->(St->Hp->Prop)->Prop
abbrev TGs:=List V->St->Hp->(St->Hp->Prop)->Prop
def PG(X:Cx)(target:Expr)(t:TG):Prop :=
 ∀ (aA:LAO) (s:Shared) (σ:St) (H:Hp) (v:V) (u:Value) (Q:St->Hp->Prop),Inv X aA σ H s->aM v u->t v σ H Q ->
  wpAny (model X.prog X.w) X.A (assign target X.env u) (λ_ s'=>∃ σ' H',Inv X aA σ' H' s'/\Q σ' H') X.xe s
def PGs(X:Cx)(ts:List Expr)(t:TGs):Prop :=
 ∀ (aA:LAO) (s:Shared) (σ:St) (H:Hp) (vs:List V) (us:List Value) (Q:St->Hp->Prop),Inv X aA σ H s->aJ vs us->t vs σ H Q ->
  wpAny (model X.prog X.w) X.A (assignInOrder ((assignEach ts X.env).map (·.2)) us) (λ_ s'=>∃ σ' H',Inv X aA σ' H' s'/\Q σ' H') X.xe s
section
variable {X:Cx}{pos:Pos}
def k5(i:Nat):TG:=λv σ H Q=>Q (σ.set i (some v)) H
theorem aCI{i:Nat}{x:Str}(hN:X.N.Nodup)(hi:X.N[i]? = some x)(hx:Loc X.env.scope x)(hf:X.fn x=true\/X.env.scope.names.lookup x=some .local:=by first | exact .inl rfl | exact .inr rfl | assumption):PG X (.Name x pos) (k5 i):=by intro aA s σ H v u Q I r h;exact wpAny_assign_Name (uR I hN hi hx r (λs' I'=>⟨_,H,I',h⟩) hf)
def gNil:TGs:=λvs σ H Q=>vs=[]/\Q σ H
def uX(t:TG)(u:TGs):TGs:=λvs σ H Q=>∃ v r,vs=v::r/\t v σ H λσ' H'=>u r σ' H' Q
theorem aCJ:PGs X [] gNil:=by intro aA s σ H vs us Q I r h;obtain ⟨e,h⟩:=h;subst e;cases r;exact assignInOrder_nil ⟨σ,H,I,h⟩
theorem aCK{e:Expr}{es:List Expr}{t:TG}{u:TGs}(h1:PG X e t)(h2:PGs X es u)(hs:(assignEach (e::es) X.env).map (·.2)=assign e X.env::(assignEach es X.env).map (·.2):=by rfl):PGs X (e::es) (uX t u):=by
 intro aA s σ H vs us Q I r h;obtain ⟨v,vr,e1,h⟩:=h;subst e1;cases r with
 | cons r rr=>rw[hs];refine assignInOrder_cons (thn (h1 aA s σ H _ _ _ I r h) λ_ s1 ⟨σ1,H1,I1,q1⟩=>?_);exact h2 aA s1 σ1 H1 _ _ Q I1 rr q1
def gTup(K:Fg)(n:Nat)(t:TGs):TG:=λv σ H Q=>∃ a xs,v=.ref a/\SqT K H a xs/\xs.length=n/\t xs σ H Q
theorem aCL{es:List Expr}{k:Nat}{t:TGs}{n:Nat}(hc:X.calm=true)(h:PGs X es t)(hn:(assignEach es X.env).length=n:=by rfl)(hst:(assignEach es X.env).findIdx? (·.1)=none:=by rfl):PG X (.Tuple es k pos) (gTup X.K n t):=by
 intro aA s σ H v u Q I r hw;obtain ⟨a,xs,e1,hq,hl,hw⟩:=hw;subst e1;cases r;obtain ⟨its,rv,ht,hz⟩:=I.tuple hq;refine assign_Tuple_tuple (I.ok.hd hc) ht (by simp[hn,<- hl,rv.length]) hst λh' hx=>?_
 have I1:Inv X aA σ H { s with heap:=h' }:=I.kept (t':=s.toks) λb o e=>hx b o (aPS (aPP e)) e
 exact h aA _ σ H xs _ Q I1 (by simpa using rv) hw
def k6(te:TE)(g:TG):TS:=λD σ H=>te σ H λx H1=>g x σ H1 D.nx
theorem aCM{tg e:Expr}{te:TE}{g:TG}(he:PE X e te)(hg:PG X tg g)(hs:swapsWithSole [tg] e pos.line X.env=pure false:=by rfl)(hw:swappedStores [tg] e X.env=pure none:=by rfl)(h1:(assignEach [tg] X.env).map (·.2)=[assign tg X.env]:=by rfl):PS X (.Assign [tg] e pos) (k6 te g):=by intro aA s σ H D I h;refine wpAny_Assign_stores (thn (he aA s σ H _ I h) λv s1 ⟨x,H1,I1,r1,q1⟩=>?_) hs hw;rw[h1];exact thn (hg aA s1 σ H1 x v _ I1 r1 q1) λ_ s2 q=>q
theorem aCN{i:Nat}{x:Str}{e:Expr}{te:TE}{pos':Pos}(hN:X.N.Nodup)(hi:X.N[i]? = some x)(hx:Loc X.env.scope x)(he:PE X e te)(hs:swapsWith e (some (.Name x pos')) pos.line X.env=pure false:=by rfl)(hf:X.fn x=true\/X.env.scope.names.lookup x=some .local:=by first | exact .inl rfl | exact .inr rfl | assumption):PS X (.Assign [.Name x pos'] e pos) (k6 te (k5 i)):=by intro aA s σ H D I h;refine wpAny_Assign_Name (thn (he aA s σ H _ I h) λv s1 ⟨y,H1,I1,r1,q1⟩=>?_) hs;exact uR I1 hN hi hx r1 (λs2 I2=>⟨_,H1,I2,q1⟩) hf
end
section
variable {X:Cx}{pos:Pos}
end
structure It where
 go:Nat->Hp->Prop
 yld:Nat->Hp->V->Hp->Prop
 stop:Nat->Hp->Prop
def iD(X:Cx)(aA:LAO)(H:Hp)(b:Addr):Prop :=
 H b=none/\b≠X.env.locals/\b∉X.fs/\(b∈X.ex\/X.s₀.heap.objs.size<=b)/\(∀ x c,X.env.cells.lookup x=some c->c≠b)/\∀ p∈X.pn++aA,p.1≠b
theorem Inv.fpOk{X:Cx}{aA:LAO}{σ:St}{H H':Hp}{s:Shared}{b:Addr}(I:Inv X aA σ H s)(hb:s.heap.objs.size<=b)(hn:H' b=none):iD X aA H' b:=by
 refine ⟨hn,Nat.ne_of_gt (aPQ I.lt hb),I.nofs hb,.inr (aPV I.sz hb),λx c e z=>?_,λp hp z=>?_⟩
 . obtain ⟨v,q⟩:=I.cell x c e;exact absurd (aPQ q.lt (by rw[z];exact hb)) (aPR _)
 . exact absurd (aPQ (aPP (I.pin p hp).1) (by rw[z];exact hb)) (aPR _)
structure jT(P:Program)(w:World)(K:Fg)(tg:Expr)(J:It)(fp:List Addr)(it:Addr)(tn:Nat->Heap->Prop):Prop where
 mem:it∈fp
 obj:∀ i h,tn i h->∀ b∈fp,∃ o,h.get? b=some o/\∀ v,o.data ≠ .cell v
 keep:∀ i h h',tn i h->(∀ b∈fp,∀ o,h.get? b=some o->h'.get? b=some o)->tn i h'
 item:∀ (X:Cx),X.prog=P->X.w=w->X.K=K->X.calm=true->∀ (i:Nat) (aA:LAO) (s:Shared) (σ:St) (H:Hp) (E:VSP),Inv X aA σ H s->(∀ b∈fp,iD X aA H b)->tn i s.heap->J.go i H ->
  wpAny (model P w) X.A (pyNext (.ref it)) (λr s1=>∃ u,r=some u /\
   wpAny (model P w) X.A (letOwnedTupleGo tg (.ref it) u) (λ_ s2=>∃ x H',Inv X aA σ H' s2/\aM x u/\J.yld i H x H'/\tn (i+1) s2.heap/\∀ b∈fp,H' b=none) E s1) E s
 done:∀ (X:Cx),X.prog=P->X.w=w->X.K=K->X.calm=true->∀ (i:Nat) (aA:LAO) (s:Shared) (σ:St) (H:Hp) (E:VSP),Inv X aA σ H s->(∀ b∈fp,iD X aA H b)->tn i s.heap->J.stop i H ->
  wpAny (model P w) X.A (pyNext (.ref it)) (λr s1=>r=none/\Inv X aA σ H s1) E s
 self:∀ (A:Around) (i:Nat) (s:Shared) (Q:VSP) (E:VSP),tn i s.heap->Q (.ref it) s->wpAny (model P w) A (pyIter (.ref it)) Q E s
abbrev TI:=St->Hp->(It->Hp->Prop)->Prop
def PIE(X:Cx)(aA:LAO)(σ:St)(tg:Expr)(R:It->Hp->Prop)(itv:Value)(s2:Shared):Prop :=
 ∃ (it:Addr) (fp:List Addr) (tn:Nat->Heap->Prop) (J:It) (H':Hp),itv=.ref it/\Inv X aA σ H' s2/\jT X.prog X.w X.K tg J fp it tn/\tn 0 s2.heap/\(∀ b∈fp,iD X aA H' b)/\R J H'
def PI(X:Cx)(tg aS:Expr)(wi:TI):Prop :=
 ∀ (aA:LAO) (s:Shared) (σ:St) (H:Hp) (R:It->Hp->Prop),Inv X aA σ H s->wi σ H R ->
  wpAny (model X.prog X.w) X.A (eval aS X.env) (λv s1=>wpAny (model X.prog X.w) X.A (pyIter v) (PIE X aA σ tg R) X.xe s1) X.xe s
theorem k7{M:Model}{A:Around}{E:VSP}{s:Shared}{tg:Expr}{it:Addr}{u:Value}{o:Obj}{n:String}{vs:Array Value}{Q:Unit->Shared->Prop}(ho:s.heap.get? it=some o)(hc:o.cls=.type n)(hd:o.data=.fields vs)(hn:["enumerate", "zip", "dict_itemiterator", "dict_reverseitemiterator", "odict_iterator", "itertools.zip_longest", "itertools.pairwise"].contains n=false)(hQ:Q () s):wpAny M A (letOwnedTupleGo tg (.ref it) u) Q E s:=by
 unfold letOwnedTupleGo;cases tg <;> first
  | exact aP8 hQ
  | (cases u <;> first
      | exact aP8 hQ
      | (refine aP9 (aQA ho ?_)
         rw[hc,hd];show wpAny M A (if (["enumerate", "zip", "dict_itemiterator", "dict_reverseitemiterator", "odict_iterator", "itertools.zip_longest", "itertools.pairwise"].contains n&&vs[0]?==some (rawInt _))=true then _ else _) Q E s;rw[if_neg (by intro h;rw[hn,Bool.false_and] at h;cases h)]
         exact aP8 hQ))
def Itl(K:Fg)(a:Addr):It :=
 ⟨λi H=>∃ xs x,SqL K H a xs/\xs[i]? = some x,λi H x H'=>H'=H/\∀ xs,SqL K H a xs->xs[i]? = some x,λi H=>∃ xs,SqL K H a xs/\xs.length<=i⟩
def Itt(K:Fg)(a:Addr):It :=
 ⟨λi H=>∃ xs x,SqT K H a xs/\xs[i]? = some x,λi H x H'=>H'=H/\∀ xs,SqT K H a xs->xs[i]? = some x,λi H=>∃ xs,SqT K H a xs/\xs.length<=i⟩
def Itr(lo:Int)(n:Nat):It:=⟨λi _=>i<n,λi H x H'=>H'=H/\x=.int (lo+i),λi _=>n<=i⟩
theorem aCO{P:Program}{w:World}{K:Fg}{tg:Expr}(a it:Addr):jT P w K tg (Itl K a) [it] it (λi h=>h.IsListIter it a i) where
 mem:=by simp
 obj:=λi h st b hb=>by
  have e:b=it:=by simpa using hb
  subst e;obtain ⟨o,e,c,d⟩:=st;exact ⟨o,e,λv z=>by rw[d] at z;cases z⟩
 keep:=λi h h' st k=>st.at λo e=>k it (by simp) o e
 item:=by
  intro X hP hw hK hc i aA s σ H E I hf st hg;subst hP hw hK;obtain ⟨xs,x,hq,hx⟩:=hg;obtain ⟨its,rv,p,hz⟩:=I.list hq;obtain ⟨u,hu,ru⟩:=rv.get hx;obtain ⟨f0,f1,f2,f3,f4,f5⟩:=hf it (by simp)
  refine wpAny_pyNext_list_item st p.isList (x:=u) (by simpa using hu) λh' st' sb=>?_
  have I1:Inv X aA σ H { s with heap:=h' }:=I.turned (t':=s.toks) (λb o hb e=>(sb.2 b hb).trans e) f0 f1 f3 f4 f5
  obtain ⟨o,e,c,d⟩:=id st';exact ⟨u,rfl,k7 (s:={ s with heap:=h' }) e c d (by decide) ⟨x,H,I1,ru,⟨rfl,λys hy=>by rw[I.list_inj hy hq];exact hx⟩,st',λb hb=>(hf b hb).1⟩⟩
 done:=by
  intro X hP hw hK hc i aA s σ H E I hf st hg;subst hP hw hK;obtain ⟨xs,hq,hx⟩:=hg;obtain ⟨its,rv,p,hz⟩:=I.list hq;obtain ⟨f0,f1,f2,f3,f4,f5⟩:=hf it (by simp)
  have hl:=rv.length;exact wpAny_pyNext_list_end (I.ok.hd hc) st p.isList (by simp;omega) λh' eb=>⟨rfl,I.turned (t':=s.toks) (λb o hb e=>eb b o hb e) f0 f1 f3 f4 f5⟩
 self:=λ_ _ _ _ _ st h=>wpAny_pyIter_listiter st h
theorem aCP{P:Program}{w:World}{K:Fg}{tg:Expr}(a it:Addr):jT P w K tg (Itt K a) [it] it (λi h=>h.IsTupleIter it a i) where
 mem:=by simp
 obj:=λi h st b hb=>by
  have e:b=it:=by simpa using hb
  subst e;obtain ⟨o,e,c,d⟩:=st;exact ⟨o,e,λv z=>by rw[d] at z;cases z⟩
 keep:=λi h h' st k=>st.at λo e=>k it (by simp) o e
 item:=by
  intro X hP hw hK hc i aA s σ H E I hf st hg;subst hP hw hK;obtain ⟨xs,x,hq,hx⟩:=hg;obtain ⟨its,rv,p,hz⟩:=I.tuple hq;obtain ⟨u,hu,ru⟩:=rv.get hx;obtain ⟨f0,f1,f2,f3,f4,f5⟩:=hf it (by simp)
  refine wpAny_pyNext_tuple_item st (show s.heap.IsTuple a its.toArray from p) (x:=u) (by simpa using hu) λh' st' sb=>?_
  have I1:Inv X aA σ H { s with heap:=h' }:=I.turned (t':=s.toks) (λb o hb e=>(sb.2 b hb).trans e) f0 f1 f3 f4 f5
  obtain ⟨o,e,c,d⟩:=id st';exact ⟨u,rfl,k7 (s:={ s with heap:=h' }) e c d (by decide) ⟨x,H,I1,ru,⟨rfl,λys hy=>by rw[I.tuple_inj hy hq];exact hx⟩,st',λb hb=>(hf b hb).1⟩⟩
 done:=by
  intro X hP hw hK hc i aA s σ H E I hf st hg;subst hP hw hK;obtain ⟨xs,hq,hx⟩:=hg;obtain ⟨its,rv,p,hz⟩:=I.tuple hq;obtain ⟨f0,f1,f2,f3,f4,f5⟩:=hf it (by simp)
  have hl:=rv.length;exact wpAny_pyNext_tuple_end (I.ok.hd hc) st (show s.heap.IsTuple a its.toArray from p) (by simp;omega) λh' eb=>⟨rfl,I.turned (t':=s.toks) (λb o hb e=>eb b o hb e) f0 f1 f3 f4 f5⟩
 self:=λ_ _ _ _ _ st h=>wpAny_pyIter_tupleiter st h
theorem aCQ{P:Program}{w:World}{K:Fg}{tg:Expr}(it:Addr)(lo:Int)(n:Nat):jT P w K tg (Itr lo n) [it] it (λi h=>IsRangeIter h it (lo+(i:Nat) * 1) ((n:Int)-(i:Nat)) 1) where
 mem:=by simp
 obj:=λi h st b hb=>by
  have e:b=it:=by simpa using hb
  subst e;exact ⟨_,st,λv z=>by
   have z':Data.fields _=Data.cell v:=z;cases z'⟩
 keep:=λi h h' st k=>k it (by simp) _ st
 item:=by
  intro X hP hw hK hc i aA s σ H E I hf st hg;subst hP hw hK;obtain ⟨f0,f1,f2,f3,f4,f5⟩:=hf it (by simp)
  have W:=Walks.range (prog:=X.prog) (w:=X.w) (I.ok.hd hc) it lo 1 n;refine W.item i s _ _ hg st λv h' tk hv st' kk=>?_;obtain ⟨t,rfl⟩:=hv;have I1:Inv X aA σ H { s with heap:=h',toks:=tk }:=I.turned (λb o hb e=>kk b o (by simpa using hb) e) f0 f1 f3 f4 f5
  refine ⟨_,rfl,k7 (s:={ s with heap:=h',toks:=tk }) (n := "range_iterator") st' rfl rfl (by decide) ⟨.int (lo+i),H,I1,⟨t,?_⟩,⟨rfl,rfl⟩,st',λb hb=>(hf b hb).1⟩⟩
  rw[Int.mul_one]
 done:=by
  intro X hP hw hK hc i aA s σ H E I hf st hg;subst hP hw hK;obtain ⟨f0,f1,f2,f3,f4,f5⟩:=hf it (by simp)
  exact wpAny_pyNext_range_end (I.ok.hd hc) st (by have:n<=i:=hg;omega) λh' eb=>⟨rfl,I.turned (t':=s.toks) (λb o hb e=>eb b o hb e) f0 f1 f3 f4 f5⟩
 self:=λ_ _ _ _ _ st h=>wpAny_pyIter_rangeiter st h
section
variable {X:Cx}{tg:Expr}
def qB(K:Fg)(tl:TE):TI:=λσ H R=>tl σ H λx H1=>∃ a,x=.ref a/\(∃ xs,SqL K H1 a xs)/\R (Itl K a) H1
def iTup(K:Fg)(tl:TE):TI:=λσ H R=>tl σ H λx H1=>∃ a,x=.ref a/\(∃ xs,SqT K H1 a xs)/\R (Itt K a) H1
theorem aCR{l:Expr}{tl:TE}(hl:PE X l tl):PI X tg l (qB X.K tl):=by
 intro aA s σ H R I h;refine thn (hl aA s σ H _ I h) λv s1 ⟨x,H1,I1,r1,q1⟩=>?_;obtain ⟨a,e,⟨xs,hq⟩,q⟩:=q1;subst e;cases r1;obtain ⟨its,rv,p,hz⟩:=I1.list hq;refine aQB p.isList ?_;refine ⟨s1.heap.objs.size,[s1.heap.objs.size],_,_,H1,rfl,I1.kept (t':=s1.toks) λb o e=>hps e,aCO a _,⟨_,aPO _ rfl,rfl,rfl⟩,λb hb=>?_,q⟩;have e:b=s1.heap.objs.size:=by simpa using hb
 subst e;exact I1.fpOk (aQC _) (I1.hok.fresh (aQC _))
theorem aCS{l:Expr}{tl:TE}(hl:PE X l tl):PI X tg l (iTup X.K tl):=by
 intro aA s σ H R I h;refine thn (hl aA s σ H _ I h) λv s1 ⟨x,H1,I1,r1,q1⟩=>?_;obtain ⟨a,e,⟨xs,hq⟩,q⟩:=q1;subst e;cases r1;obtain ⟨its,rv,p,hz⟩:=I1.tuple hq;refine wpAny_pyIter_tuple (show s1.heap.IsTuple a its.toArray from p) ?_
 refine ⟨s1.heap.objs.size,[s1.heap.objs.size],_,_,H1,rfl,I1.kept (t':=s1.toks) λb o e=>hps e,aCP a _,⟨_,aPO _ rfl,rfl,rfl⟩,λb hb=>?_,q⟩;have e:b=s1.heap.objs.size:=by simpa using hb
 subst e;exact I1.fpOk (aQC _) (I1.hok.fresh (aQC _))
theorem aCT{aA:LAO}{σ:St}{H:Hp}{s:Shared}{R:It->Hp->Prop}{E:VSP}{lo hi:Int}{t u v:Tok}{tk:Nat}(I:Inv X aA σ H s)(h1:-(2 ^ 62)<=lo)(h2:lo<2 ^ 62)(h3:-(2 ^ 62)<=hi)(h4:hi<2 ^ 62)(q:R (Itr lo (hi-lo).toNat) H):wpAny (model X.prog X.w) X.A (pyIter (.ref s.heap.objs.size)) (PIE X aA σ tg R) E { s with heap:=s.heap.push { cls:=.type "range", data:=.fields #[.int lo t,.int hi u,.int 1 v] },toks:=tk }:=by
 refine wpAny_pyIter_range (IsRange.new ..) (small_one h1 h2 h3 h4) ?_;have I1:Inv X aA σ H { s with heap:=s.heap.push { cls:=.type "range", data:=.fields #[.int lo t,.int hi u,.int 1 v] },toks:=tk }:=I.kept λb o e=>hps e
 refine ⟨(s.heap.push { cls:=.type "range", data:=.fields #[.int lo t,.int hi u,.int 1 v] }).objs.size,[(s.heap.push { cls:=.type "range", data:=.fields #[.int lo t,.int hi u,.int 1 v] }).objs.size],_,_,H,rfl,
  I1.kept (t':=tk) λb o e=>hps e,aCQ _ lo (hi-lo).toNat,?_,λb hb=>?_,q⟩
 . have e1:lo+((0:Nat):Int) * 1=lo:=by simp
   have e2:(((hi-lo).toNat:Nat):Int)-((0:Nat):Int)=Builtin.Range.rangeSize lo hi 1:=by rw[rangeSize_one];split <;> omega
   show IsRangeIter _ _ (lo+((0:Nat):Int) * 1) ((((hi-lo).toNat:Nat):Int)-((0:Nat):Int)) 1;rw[e1,e2];exact aPO _ rfl
 . have e:b=(s.heap.push { cls:=.type "range", data:=.fields #[.int lo t,.int hi u,.int 1 v] }).objs.size:=by simpa using hb
   subst e;exact I1.fpOk (aQC _) (I1.hok.fresh (aQC _))
def uY(ta:TA):TI:=λσ H R=>ta σ H λvs H1=>∃ j:Int,vs=[.int j] /\ -(2 ^ 62)<=j/\j<2 ^ 62/\R (Itr 0 j.toNat) H1
theorem aCU{a:Expr}{ta:TA}{p pos:Pos}(hg:Gl X "range")(hm:X.mg "range" = none)(ha:PA X [a] ta)(hs:starEach [a] X.env=[(false,eval a X.env)]:=by rfl):PI X tg (.Call (.Name "range" p) [a] [] pos) (uY ta):=by
 intro aA s σ H R I h;refine Call_ (nA I hg hm boot_range (aQD (thn (ha pos aA s σ H _ I h) λus s1 ⟨vs,H1,I1,r1,q1⟩=>?_) hs rfl));obtain ⟨j,e,q1,q2,q⟩:=q1;subst e;cases r1 with
 | cons r rr=>cases rr;obtain ⟨t,rfl⟩:=r;exact call_range_1 (aCT I1 (by omega) (by omega) q1 q2 (by simpa using q))
def tFor(wi:TI)(g:TG)(tb:TS):TS:=λD σ H=>wi σ H λJ H1=>∃ W:Nat->Nat->St->Hp->Prop,(∃ m,W 0 m σ H1)/\∀ i m σ H,W i m σ H ->
 (J.stop i H/\D.nx σ H)\/(J.go i H/\∃ N:St->Hp->Prop,(∀ σ' H',N σ' H'->∃ m',m'<m/\W (i+1) m' σ' H')/\∀ x H',J.yld i H x H'->g x σ H' λσ2 H2=>tb { D with nx:=N,ct:=N,bk:=D.nx } σ2 H2)
def k8(fp:List Addr)(h:Heap):LAO:=fp.filterMap λb=>(h.get? b).map λo=>(b,o)
theorem qC{fp:List Addr}{h:Heap}{b:Addr}{o:Obj}(hb:b∈fp)(e:h.get? b=some o):(b,o)∈k8 fp h:=aQE.mpr ⟨b,hb,by rw[e];rfl⟩
theorem aCV{fp:List Addr}{h:Heap}{p:Addr×Obj}(hp:p∈k8 fp h):p.1∈fp/\h.get? p.1=some p.2:=by
 obtain ⟨b,hb,e⟩:=aQE.mp hp;cases q:h.get? b with
 | none=>rw[q] at e;cases e
 | some o=>rw[q] at e;have e':(b,o)=p:=aP4 e;subst e';exact ⟨hb,q⟩
theorem Inv.pinned{aA:LAO}{σ:St}{H:Hp}{s:Shared}{fp:List Addr}(I:Inv X aA σ H s)(hf:∀ b∈fp,iD X aA H b)(ho:∀ b∈fp,∃ o,s.heap.get? b=some o/\∀ v,o.data ≠ .cell v):Inv X (aA++k8 fp s.heap) σ H s :=
 I.pins_of λp hp=>(aPZ.mp hp).elim (λz=>I.pin p (aQF _ z)) λz=>by obtain ⟨hb,e⟩:=aCV z;obtain ⟨f0,f1,f2,_⟩:=hf p.1 hb;obtain ⟨o,e',d⟩:=ho p.1 hb;rw[e] at e';cases e';exact ⟨e,f0,f1,f2,d⟩
theorem Inv.unpinned{aA pl:LAO}{σ:St}{H:Hp}{s:Shared}(I:Inv X (aA++pl) σ H s):Inv X aA σ H s:=I.pins_of λp hp=>I.pin p (aQF _ (aP0 _ hp))
theorem aCW{aS:Expr}{body:List Stmt}{wi:TI}{g:TG}{tb:TS}{pos:Pos}(hp:PassesOwn (model X.prog X.w) X.A X.env X.xe)(hc:X.calm=true)(hi:PI X tg aS wi)(hg:PG X tg g)(hb:PSs X body tb)(hs:∀ x,foldedSetIterable aS X.env x=pure x:=by intro _;rfl):PS X (.For tg aS body [] pos) (tFor wi g tb):=by
 intro aA s σ H D I h;refine wpAny_For (thn (hi aA s σ H _ I h) λv s1 h1=>thn h1 λitv s2 h2=>?_) hs;obtain ⟨it,fp,tn,J,H2,e,I2,T,st2,f2,W,⟨m0,w0⟩,turn⟩:=h2;subst e;have stat:∀ {H':Hp},(∀ b∈fp,H' b=none)->∀ b∈fp,iD X aA H' b:=λhn b hb=>⟨hn b hb,(f2 b hb).2⟩;refine codeAny_forLoop_any (λn s'=>∃ i σ' H',Inv X aA σ' H' s'/\tn i s'.heap/\(∀ b∈fp,H' b=none)/\W i n σ' H') ?_ m0 ⟨0,σ,H2,I2,st2,λb hb=>(f2 b hb).1,w0⟩;rintro n s3 ⟨i,σ3,H3,I3,st3,fr3,w3⟩;rcases turn i n σ3 H3 w3 with ⟨stop,qn⟩ | ⟨go,N,hN,step⟩
 . refine aQG hp (thn (T.done X rfl rfl rfl hc i aA s3 σ3 H3 X.xe I3 (stat fr3) st3 stop) λr s4 ⟨hr,I4⟩=>?_);subst hr;exact wpAny_execs_nil ⟨σ3,H3,I4,qn⟩
 . refine aQG hp (thn (T.item X rfl rfl rfl hc i aA s3 σ3 H3 X.xe I3 (stat fr3) st3 go) λr s4 ⟨u,hr,h4⟩=>?_);subst hr;refine aQG hp (thn h4 λ_ s5 ⟨x,H5,I5,r5,y5,st5,fr5⟩=>?_);have I5':=I5.pinned (stat fr5) (T.obj _ _ st5);refine aQG hp (thn (hg _ s5 σ3 H5 x u _ I5' r5 (step x H5 y5)) λ_ s6 ⟨σ6,H6,I6,q6⟩=>?_);refine aQG hp (thn (hb _ s6 σ6 H6 _ I6 q6) λf s7 q7=>?_);have again:∀ {σ7:St} {H7:Hp},Inv X (aA++k8 fp s5.heap) σ7 H7 s7->N σ7 H7->∃ m,m<n/\∃ i σ' H',Inv X aA σ' H' s7/\tn i s7.heap/\(∀ b∈fp,H' b=none)/\W i m σ' H':=λ{σ7 H7} I7 n7=>by obtain ⟨m',hm,w7⟩:=hN σ7 H7 n7;refine ⟨m',hm,i+1,σ7,H7,I7.unpinned,T.keep _ _ _ st5 λb hb o e=>(I7.pin (b,o) (aQF _ (aQF _ (qC hb e)))).1,λb hb=>?_,w7⟩;obtain ⟨o,e,d⟩:=T.obj _ _ st5 b hb;exact (I7.pin (b,o) (aQF _ (aQF _ (qC hb e)))).2.1
   cases f with
   | next=>obtain ⟨σ7,H7,I7,n7⟩:=q7;exact again I7 n7
   | cont=>obtain ⟨σ7,H7,I7,n7⟩:=q7;exact again I7 n7
   | brk=>obtain ⟨σ7,H7,I7,q7⟩:=q7;exact ⟨σ7,H7,I7.unpinned,q7⟩
   | ret v=>obtain ⟨x7,σ7,H7,I7,r7,q7⟩:=q7;exact ⟨x7,σ7,H7,I7.unpinned,r7,q7⟩
end
abbrev R2:=V->V->Hp->VK->Prop
def OpR(X:Cx)(f:Value->Value->Sem Value)(r:R2):Prop :=
 ∀ (aA:LAO) (s:Shared) (σ:St) (H:Hp) (x y:V) (v u:Value) (Q:VK),Inv X aA σ H s->aM x v->aM y u->r x y H Q ->
  wpAny (model X.prog X.w) X.A (f v u) (EP X aA σ Q) X.xe s
def cL(X:Cx)(f:Value)(r:List V->Hp->VK->Prop):Prop :=
 ∀ (aA:LAO) (s:Shared) (σ:St) (H:Hp) (xs:List V) (us:List Value) (Q:VK),Inv X aA σ H s->aJ xs us->r xs H Q ->
  wpAny (model X.prog X.w) X.A (call f us) (EP X aA σ Q) X.xe s
def TruR(X:Cx)(r:V->Hp->(Bool->Hp->Prop)->Prop):Prop :=
 ∀ (aA:LAO) (s:Shared) (σ:St) (H:Hp) (x:V) (v:Value) (Q:Bool->Hp->Prop),Inv X aA σ H s->aM x v->r x H Q ->
  wpAny (model X.prog X.w) X.A (truthy v) (TP X aA σ Q) X.xe s
def tOp(r:R2)(ta tb:TE):TE:=λσ H Q=>ta σ H λx H1=>tb σ H1 λy H2=>r x y H2 Q
def rI(C:Int->Int->Prop)(g:Int->Int->V):R2:=λx y H Q=>∃ i j,x=.int i/\y=.int j/\C i j/\Q (g i j) H
def rI0(g:Int->Int->V):R2:=λx y H Q=>∃ i j,x=.int i/\y=.int j/\Q (g i j) H
section
variable {X:Cx}{a b c:Expr}{ta tb tc:TE}{pos:Pos}
theorem qD(ha:PE X a ta)(hb:PE X b tb){aA:LAO}{s:Shared}{σ:St}{H:Hp}{R:V->V->Hp->Prop}(I:Inv X aA σ H s)(h:ta σ H λx H1=>tb σ H1 λy H2=>R x y H2){Q:VSP}{f:Value->Value->Sem Value}(hf:∀ v u s2 x y H2,Inv X aA σ H2 s2->aM x v->aM y u->R x y H2->wpAny (model X.prog X.w) X.A (f v u) Q X.xe s2):wpAny (model X.prog X.w) X.A (eval a X.env) (λv s₁=>wpAny (model X.prog X.w) X.A (eval b X.env) (λu s₂=>wpAny (model X.prog X.w) X.A (f v u) Q X.xe s₂) X.xe s₁) X.xe s:=by refine thn (ha aA s σ H _ I h) λv s1 ⟨x,H1,I1,r1,q1⟩=>?_;refine thn (hb aA s1 σ H1 _ I1 q1) λu s2 ⟨y,H2,I2,r2,q2⟩=>?_;exact hf v u s2 x y H2 I2 r1 r2 q2
theorem pe_op{op:Operator}{r:R2}(ho:OpR X (binaryOp op) r)(ha:PE X a ta)(hb:PE X b tb):PE X (.BinOp a op b pos) (tOp r ta tb):=by intro aA s σ H Q I h;exact wpAny_BinOp (qD ha hb I h λv u s2 x y H2 I2 rx ry q=>ho aA s2 σ H2 x y v u Q I2 rx ry q)
theorem opI{f:Value->Value->Sem Value}{C:Int->Int->Prop}{g:Int->Int->Int}(rule:∀ (i j:Int) (t u:Tok) (s:Shared) (Q:VSP) (E:VSP),C i j->Q (.int (g i j) s.toks) { s with toks:=s.toks+1 } -> wpAny (model X.prog X.w) X.A (f (.int i t) (.int j u)) Q E s):OpR X f (rI C λi j=>.int (g i j)):=by intro aA s σ H x y v u Q I rx ry h;obtain ⟨i,j,rfl,rfl,hc,q⟩:=h;obtain ⟨t,rfl⟩:=rx;obtain ⟨t',rfl⟩:=ry;exact rule i j t t' s _ _ hc ⟨.int (g i j),H,I.tok _,⟨_,rfl⟩,q⟩
theorem nB{f:Value->Value->Sem Value}{g:Int->Int->Int}(rule:∀ (i j:Int) (t u:Tok) (s:Shared) (Q:VSP) (E:VSP),Q (.int (g i j) s.toks) { s with toks:=s.toks+1 } -> wpAny (model X.prog X.w) X.A (f (.int i t) (.int j u)) Q E s):OpR X f (rI0 λi j=>.int (g i j)):=by intro aA s σ H x y v u Q I rx ry h;obtain ⟨i,j,rfl,rfl,q⟩:=h;obtain ⟨t,rfl⟩:=rx;obtain ⟨t',rfl⟩:=ry;exact rule i j t t' s _ _ ⟨.int (g i j),H,I.tok _,⟨_,rfl⟩,q⟩
theorem nC{f:Value->Value->Sem Value}{g:Int->Int->Bool}(rule:∀ (i j:Int) (t u:Tok) (s:Shared) (Q:VSP) (E:VSP),Q (.bool (g i j)) s->wpAny (model X.prog X.w) X.A (f (.int i t) (.int j u)) Q E s):OpR X f (rI0 λi j=>.bl (g i j)):=by intro aA s σ H x y v u Q I rx ry h;obtain ⟨i,j,rfl,rfl,q⟩:=h;obtain ⟨t,rfl⟩:=rx;obtain ⟨t',rfl⟩:=ry;exact rule i j t t' s _ _ ⟨.bl (g i j),H,I,rfl,q⟩
def CPow(i j:Int):Prop:=0<=j/\j<=1000000/\i.natAbs<2 ^ 64
theorem aCX(k:Nat):(0:Int)<=2 ^ k:=by rw[two_pow_cast];exact Int.natCast_nonneg _
theorem aCY:OpR X (binaryOp .Add) (rI0 λi j=>.int (i+j)):=nB λ_ _ _ _ _ _ _ q=>add_int q
theorem aCZ:OpR X (binaryOp .Sub) (rI0 λi j=>.int (i-j)):=nB λ_ _ _ _ _ _ _ q=>sub_int q
theorem aC0:OpR X (binaryOp .Mod) (rI (λ_ j=>0<j) λi j=>.int (i % j)):=opI λi j _ _ _ _ _ hc q=>by have h1:(0:Int)<j:=hc;exact mod_int' (by omega) (by rw[Int.fmod_eq_emod_of_nonneg i (by omega)];exact q)
theorem aC1:OpR X (binaryOp .Pow) (rI CPow λi j=>.int (i ^ j.toNat)):=opI λ_ _ _ _ _ _ _ hc q=>pow_int_small hc.1 hc.2.1 hc.2.2 q
theorem aC2:OpR X (binaryOp .LShift) (rI CPow λi j=>.int (i * 2 ^ j.toNat)):=opI λ_ _ _ _ _ _ _ hc q=>lshift_int_small hc.1 hc.2.1 hc.2.2 q
theorem aC3:OpR X (binaryOp .RShift) (rI (λ_ j=>0<=j) λi j=>.int (i / 2 ^ j.toNat)):=opI λi j _ _ _ _ _ hc q =>
 rshift_int hc (by rw[Int.fdiv_eq_ediv_of_nonneg i (aCX _)];exact q)
theorem aC4:OpR X (binaryOp .BitAnd) (rI0 λi j=>.int (Builtin.bitAnd i j)):=nB λ_ _ _ _ _ _ _ q=>and_int q
theorem op_or:OpR X (binaryOp .BitOr) (rI0 λi j=>.int (Builtin.bitOr i j)):=nB λ_ _ _ _ _ _ _ q=>or_int q
end
section
variable {X:Cx}{a b c:Expr}{ta tb tc:TE}{pos:Pos}
theorem k9{aA:LAO}{σ:St}{H:Hp}{s:Shared}{Q:VK}{k k':Bool}(I:Inv X aA σ H s)(q:Q (.bl k) H)(e:k=k'):EP X aA σ Q (.bool k') s:=by subst e;exact ⟨.bl k,H,I,rfl,q⟩
theorem op_lt:OpR X (compareOp .Lt) (rI0 λi j=>.bl (decide (i<j))):=nC λ_ _ _ _ _ _ _ q=>lt_int q
theorem op_le:OpR X (compareOp .LtE) (rI0 λi j=>.bl (decide (i<=j))):=nC λ_ _ _ _ _ _ _ q=>le_int q
theorem op_gt:OpR X (compareOp .Gt) (rI0 λi j=>.bl (decide (j<i))):=nC λ_ _ _ _ _ _ _ q=>gt_int q
theorem op_ge:OpR X (compareOp .GtE) (rI0 λi j=>.bl (decide (j<=i))):=nC λ_ _ _ _ _ _ _ q=>ge_int q
theorem aC5:OpR X (compareOp .Lt) (λx y H Q=>∃ i j,x=.str i/\y=.str j/\Q (.bl (decide (i.cps.toList<j.cps.toList))) H):=by intro aA s σ H x y v u Q I rx ry h;obtain ⟨i,j,rfl,rfl,q⟩:=h;obtain ⟨t,rfl⟩:=rx;obtain ⟨t',rfl⟩:=ry;exact lt_str (k9 I q rfl)
theorem aC6:OpR X (compareOp .In) (λx y H Q=>∃ i j,x=.str i/\y=.str j/\Q (.bl (!(Builtin.Str.occurrences j i 0 j.length 1).isEmpty)) H):=by intro aA s σ H x y v u Q I rx ry h;obtain ⟨i,j,rfl,rfl,q⟩:=h;obtain ⟨t,rfl⟩:=rx;obtain ⟨t',rfl⟩:=ry;exact in_str (k9 I q rfl)
theorem aC7:OpR X (compareOp .Is) (λx y H Q=>y=.non/\Q (.bl (decide (x=.non))) H):=by
 intro aA s σ H x y v u Q I rx ry h;obtain ⟨rfl,q⟩:=h;cases ry;refine is_none_gen (k9 I q ?_);cases x <;> first
  | (cases rx;rfl)
  | (obtain ⟨t,rfl⟩:=rx;rfl)
theorem aC8:OpR X (compareOp .IsNot) (λx y H Q=>y=.non/\Q (.bl (!decide (x=.non))) H):=by
 intro aA s σ H x y v u Q I rx ry h;obtain ⟨rfl,q⟩:=h;cases ry;refine isnot_none_gen (k9 I q ?_);cases x <;> first
  | (cases rx;rfl)
  | (obtain ⟨t,rfl⟩:=rx;rfl)
theorem aC9:OpR X (compareOp .NotIn) (λx y H Q=>∃ i j,x=.str i/\y=.str j/\Q (.bl (!(!(Builtin.Str.occurrences j i 0 j.length 1).isEmpty))) H):=by intro aA s σ H x y v u Q I rx ry h;obtain ⟨i,j,rfl,rfl,q⟩:=h;obtain ⟨t,rfl⟩:=rx;obtain ⟨t',rfl⟩:=ry;exact notIn_str (k9 I q rfl)
theorem OpR.or{f:Value->Value->Sem Value}{r r':R2}(h:OpR X f r)(h':OpR X f r'):OpR X f (λx y H Q=>r x y H Q\/r' x y H Q):=by
 intro aA s σ H x y v u Q I rx ry q;rcases q with q | q
 . exact h aA s σ H x y v u Q I rx ry q
 . exact h' aA s σ H x y v u Q I rx ry q
theorem aDA{op:CmpOp}{r:R2}(ho:OpR X (compareOp op) r)(ha:PE X a ta)(hb:PE X b tb)(hm:behindInMarks op b=false):PE X (.Compare a [op] [b] pos) (tOp r ta tb):=by intro aA s σ H Q I h;exact wpAny_Compare1 (qD ha hb I h λv u s2 x y H2 I2 rx ry q=>ho aA s2 σ H2 x y v u Q I2 rx ry q) hm
def uZ(t:TE):TT:=λσ H Q=>t σ H λx H'=>∃ k,x=.bl k/\Q k H'
theorem aDB{op:CmpOp}{r:R2}(ho:OpR X (compareOp op) r)(ha:PE X a ta)(hb:PE X b tb)(hm:behindInMarks op b=false):PT X (.Compare a [op] [b] pos) (uZ (tOp r ta tb)):=by
 intro aA s σ H Q I h;refine wpAny_isTrue_Compare1 (thn (ha aA s σ H _ I h) λv s1 ⟨x,H1,I1,r1,q1⟩=>thn (hb aA s1 σ H1 _ I1 q1) λu s2 ⟨y,H2,I2,r2,q2⟩ =>
  thn (ho aA s2 σ H2 x y v u _ I2 r1 r2 q2) λc s3 ⟨z,H3,I3,r3,k,e,q3⟩=>?_) hm
 subst e;cases r3;exact aP6 ⟨H3,I3,q3⟩
def qE(K:Fg)(x:V)(H:Hp)(k:Bool):Prop :=
 match x with
 | .non=>k=false
 | .bl b=>k=b
 | .int i=>k=(i != 0)
 | .str y=>y.length<=sizeLine/\k=((y.length:Int) != 0)
 | .byt y=>y.size<=sizeLine/\k=((y.size:Int) != 0)
 | .ref p=>(∃ xs,SqL K H p xs/\k = !xs.isEmpty)\/(∃ xs,SqT K H p xs/\k = !xs.isEmpty)\/∃ kvs,H p=some (.dK kvs)/\k = !kvs.isEmpty
 | _=>False
theorem aDC{κ:Type}{kvs:List (κ×V)}{vs:List (κ×Value)}(r:KV kvs vs):(!vs.isEmpty) = !kvs.isEmpty:=by cases r <;> rfl
theorem u0{xs:List V}{its:List Value}(r:aJ xs its):(!its.toArray.isEmpty) = !xs.isEmpty:=by cases r <;> simp
theorem lB:(sizeLine:Nat)<2 ^ 63:=by rw[aQH];decide
theorem aDD:TruR X (λx H Q=>∃ k,qE X.K x H k/\Q k H):=by
 intro aA s σ H x v Q I rx h;obtain ⟨k,e,q⟩:=h;have hl:=lB;have hs:sizeLine=16777216:=aQH;cases x with
 | non=>cases rx;have e':k=false:=e;subst e';exact truthy_none ⟨H,I,q⟩
 | bl b=>cases rx;have e':k=b:=e;subst e';exact aP6 ⟨H,I,q⟩
 | int i=>obtain ⟨t,rfl⟩:=rx;have e':k=(i != 0):=e;subst e';exact PySem.P.truthy_int ⟨H,I,q⟩
 | str y=>obtain ⟨t,rfl⟩:=rx;obtain ⟨hy,e'⟩:y.length<=sizeLine/\k=((y.length:Int) != 0):=e;subst e';exact PySem.P.truthy_str (by omega) ⟨H,I.tok _,q⟩
 | byt y=>obtain ⟨t,rfl⟩:=rx;obtain ⟨hy,e'⟩:y.size<=sizeLine/\k=((y.size:Int) != 0):=e;subst e';exact PySem.W.truthy_bytes (by omega) ⟨H,I.tok _,q⟩
 | ref p =>
  cases rx;have e':(∃ xs,SqL X.K H p xs/\k = !xs.isEmpty)\/(∃ xs,SqT X.K H p xs/\k = !xs.isEmpty)\/∃ kvs,H p=some (.dK kvs)/\k = !kvs.isEmpty:=e;rcases e' with ⟨xs,hx,e'⟩ | ⟨xs,hx,e'⟩ | ⟨kvs,hx,e'⟩
  . subst e';obtain ⟨its,r,pl,hz⟩:=I.list hx;have hlen:=r.length;exact wpAny_truthy_list pl.isList (by simp only[aQI];omega) ⟨H,I.tok _,by rw[u0 r];exact q⟩
  . subst e';obtain ⟨its,r,pl,hz⟩:=I.tuple hx;have hlen:=r.length;exact truthy_tuple pl (by simp only[aQI];omega) ⟨H,I.tok _,by rw[u0 r];exact q⟩
  . subst e';obtain ⟨hz,hS,vs,r,m⟩:kvs.length<=sizeLine/\(p==sysModules)=false/\∃ vs,KV kvs vs/\s.heap.DictOf (jS X.prog X.w) p vs:=I.hok p _ hx;have hlen:kvs.length=vs.length:=aPN r;exact wpAny_truthy_dict hS m (by omega) ⟨H,I.tok _,by rw[aDC r];exact q⟩
 | _=>exact (show False from e).elim
theorem aDE (ha : PE X a ta) (he : ∀ cW, isTrue a X.env cW = (do let v ← cW; standAt a.pos; holding [v] (truthy v))) :
    PT X a (λσ H Q=>ta σ H λx H'=>∃ k,qE X.K x H' k/\Q k H'):=by
 intro aA s σ H Q I h;exact isTrue_plain (thn (ha aA s σ H _ I h) λv s1 ⟨x,H1,I1,r1,q1⟩=>aDD aA s1 σ H1 x v Q I1 r1 q1) (he _)
theorem aDF:OpR X (binaryOp .Add) (λx y H Q=>∃ i j,x=.str i/\y=.str j/\i.length+j.length<=sizeLine/\Q (.str (i++j)) H):=by intro aA s σ H x y v u Q I rx ry h;obtain ⟨i,j,rfl,rfl,hz,q⟩:=h;obtain ⟨t,rfl⟩:=rx;obtain ⟨t',rfl⟩:=ry;exact add_str (λt' tk=>⟨.str (i++j),H,I.tok _,⟨_,rfl⟩,q⟩) hz
theorem eB{x:V}{us:List Value}(r:aJ [x] us):∃ u,us=[u]/\aM x u:=by
 cases r with
 | cons r1 r2=>cases r2;exact ⟨_,rfl,r1⟩
theorem vals2{x y:V}{us:List Value}(r:aJ [x,y] us):∃ u w',us=[u,w']/\aM x u/\aM y w':=by
 cases r with
 | cons r1 r2 =>
  cases r2 with
  | cons r3 r4=>cases r4;exact ⟨_,_,rfl,r1,r3⟩
theorem aDG:cL X (.type "int") (λxs H Q=>(∃ i,xs=[.int i]/\Q (.int i) H)\/∃ k,xs=[.bl k]/\Q (.int (if k then 1 else 0)) H):=by
 intro aA s σ H xs us Q I r h;rcases h with ⟨i,rfl,q⟩ | ⟨k,rfl,q⟩
 . obtain ⟨u,rfl,t,rfl⟩:=eB r;exact call_int_int ⟨.int i,H,I,⟨_,rfl⟩,q⟩
 . obtain ⟨u,rfl,r1⟩:=eB r;cases r1;exact call_int_bool ⟨.int (if k then 1 else 0),H,I.tok _,⟨_,rfl⟩,q⟩
theorem aDH:cL X (.type "str") (λxs H Q=>∃ i,xs=[.int i]/\i.natAbs.log2<1920/\Q (.str (toString i)) H):=by intro aA s σ H xs us Q I r h;obtain ⟨i,rfl,hz,q⟩:=h;obtain ⟨u,rfl,t,rfl⟩:=eB r;exact PySem.P.str_of_int hz ⟨.str _,H,I.tok _,⟨_,rfl⟩,q⟩
def LenV(K:Fg)(x:V)(H:Hp)(n:Nat):Prop :=
 match x with
 | .str y=>y.length<=sizeLine/\n=y.length
 | .byt y=>y.size<=sizeLine/\n=y.size
 | .ref p=>(∃ xs,SqL K H p xs/\n=xs.length)\/∃ xs,SqT K H p xs/\n=xs.length
 | _=>False
theorem aDI:cL X (.builtin "len") (λxs H Q=>∃ x n,xs=[x]/\LenV X.K x H n/\Q (.int n) H):=by
 intro aA s σ H xs us Q I r h;obtain ⟨x,n,rfl,e,q⟩:=h;obtain ⟨u,rfl,rx⟩:=eB r;have hl:=lB;have hs:sizeLine=16777216:=aQH;cases x with
 | str y=>obtain ⟨t,rfl⟩:=rx;obtain ⟨hy,e'⟩:y.length<=sizeLine/\n=y.length:=e;subst e';exact len_str (by omega) ⟨.int _,H,I.tok _,⟨_,rfl⟩,q⟩
 | byt y=>obtain ⟨t,rfl⟩:=rx;obtain ⟨hy,e'⟩:y.size<=sizeLine/\n=y.size:=e;subst e';exact PySem.W.len_bytes (by omega) ⟨.int _,H,I.tok _,⟨_,rfl⟩,q⟩
 | ref p =>
  cases rx;have e':(∃ xs,SqL X.K H p xs/\n=xs.length)\/∃ xs,SqT X.K H p xs/\n=xs.length:=e;rcases e' with ⟨xs,hx,e'⟩ | ⟨xs,hx,e'⟩
  . subst e';obtain ⟨its,r',pl,hz⟩:=I.list hx;have hlen:=r'.length;exact Calls.call_len_list pl.isList (by simp only[aQI];omega) ⟨.int xs.length,H,I.tok _,⟨_,by simp only[aQI];rw[hlen]⟩,q⟩
  . subst e';obtain ⟨its,r',pl,hz⟩:=I.tuple hx;have hlen:=r'.length;exact len_tuple pl (by simp only[aQI];omega) ⟨.int xs.length,H,I.tok _,⟨_,by simp only[aQI];rw[hlen]⟩,q⟩
 | _=>exact (show False from e).elim
end
structure nE(h:Heap)(x dx C:Addr)(mA:SOV):Prop where
 obj:h.get? x=some (PySem.W.instObj C dx)
 ns:h.Ns1 dx mA
 ne:dx≠x
theorem aDJ{h:Heap}{dx:Addr}{mA:SOV}(n:h.Ns1 dx mA):∃ od,h.get? dx=some od/\∀ name,PySem.W.lookIn name od=some (mA name):=by
 obtain ⟨o,es,ep,ho,hd,hk,_,hm⟩:=n;refine ⟨o,ho,λname=>?_⟩;have e:=hm name;unfold nsFind findBy at e;rw[<- Array.find?_toList] at e;unfold PySem.W.lookIn;rw[hd];dsimp only;split
 . rename_i y q;rw[q] at e;exact congrArg some e
 . rename_i q;rw[q] at e;have a:es.toList.any (·.refKey)=false:=by rw[List.any_eq_false];intro y hy;obtain ⟨z,t,hkey⟩:=hk y (aQJ.mp hy);simp[DictEntry.refKey,hkey]
   have a':¬ es.toList.any (·.refKey)=true:=by rw[a];exact aQK
   rw[if_neg a'];exact congrArg some e
theorem nE.look{h:Heap}{x dx C:Addr}{mA:SOV}(I:nE h x dx C mA):∃ od,PySem.W.InstAt h x (PySem.W.instObj C dx) C (some od)/\∀ name,PySem.W.lookIn name od=some (mA name) :=
 let ⟨od,ho,hl⟩:=aDJ I.ns
 ⟨od,⟨I.obj,rfl,rfl,ho⟩,hl⟩
section
variable {prog:Program}{w:World}{A:Around}{E:VSP}{s:Shared}{K:Fg}{x dx C f:Addr}{mA:SOV}{name:Str}{v:Value}
theorem aDK{pl:Sem Bool}{Q:Value×List Value->Shared->Prop}(X:K.In s.heap)(I:nE s.heap x dx C mA)(hg:PySem.W.plainGet K C name=true)(hf:PySem.W.findIn K (.ref C) name=some (some (.ref f)))(ht:PySem.W.isFn K (.ref f)=true)(hv:mA name=none)(h:Q (.ref f,[.ref x]) s):wpAny (model prog w) A (getMethod (.ref x) name pl) Q E s:=by obtain ⟨od,J,hl⟩:=I.look;exact PySem.W.method_fn X J (PySem.W.plainGet_of hg).1 (PySem.W.plainGet_of hg).2 hf (aQL.mp ht) (by show (PySem.W.lookIn name od).map (·.isSome)=some false;rw[hl,hv];rfl) h
theorem aDL{R:Result->Shared->Prop}(X:K.In s.heap)(hm:PySem.W.makesIn K C=true)(hi:PySem.W.findIn K (.ref C) "__init__" = some (some (.builtin "object.__init__")))(hb:∀ self,PySem.W.Looks (model prog w) s.heap (bindSpecial (.builtin "object.__init__") self) (.builtin "object.__init__", [self]))(h:codeAny (model prog w) (A.under (.builtin "type.__call__" ⟨[.ref C],[]⟩)) (.call (.builtin "object.__init__") ⟨[.ref (s.heap.objs.size+1)],[]⟩) (PySem.W.InitBack (s.heap.objs.size+1) R) { s with heap:=(s.heap.push PySem.W.emptyDict).push (PySem.W.instObj C s.heap.objs.size) }):codeAny (model prog w) A (.call (.ref C) ⟨[],[]⟩) R s:=by obtain ⟨hh,g,d,t,os⟩:=s;exact PySem.W.make_core (PySem.W.makes_of X hm) (PySem.W.looks_findIn X hi) hb (.inr ⟨rfl,rfl⟩) h
end
theorem eM.some_of{v:V}{o:Option Value}(r:eM (some v) o):∃ u,o=some u/\aM v u:=by
 cases o with
 | none=>exact (show False from r).elim
 | some u=>exact ⟨u,rfl,r⟩
theorem eM.none_of{o:Option Value}(r:eM none o):o=none:=by
 cases o with
 | none=>rfl
 | some u=>exact (show False from r).elim
section
variable {P:Program}{w:World}{H H':Hp}{h h':Heap}{a C dx:Addr}{fs fs':List (Str×V)}
theorem aDM(hok:HOk P w H h)(e:H a=some (.ins C dx fs)):∃ mA,nE h a dx C mA/\(∀ f,eM (fs.lookup f) (mA f))/\PySem.Within mA (fs.map (·.1))/\fs.length<=1000/\H dx=some (.own a):=by
 obtain ⟨d,z,ne,ob,mA,n,r,q⟩:=(show bU P w H h a (.ins C dx fs) from hok a _ e)
 exact ⟨mA,⟨ob,n,ne⟩,r,q,z,d⟩
end
structure Cls(K:Fg)(C:Addr):Prop where
 pg:PySem.W.plainGet K C Str.empty=true
 hd:PySem.W.hasDictIn K C=true
 po:PySem.W.plainOver K C=true
 sa:PySem.W.findIn K (.ref C) "__setattr__" = some (some (.builtin "object.__setattr__"))
theorem Cls.get{K:Fg}{C:Addr}(c:Cls K C)(f:Str):PySem.W.plainGet K C f=true:=c.pg
def qF(K:Fg)(C:Addr)(f:Str):Prop:=PySem.W.findIn K (.ref C) f=some none
structure lC(K:Fg)(C:Addr)(m:Str)(f:Addr):Prop where
 at_:PySem.W.findIn K (.ref C) m=some (some (.ref f))
 fn:PySem.W.isFn K (.ref f)=true
 kp:PySem.W.keepIn K (.ref f)=true
section
variable {X:Cx}{aA:LAO}{σ:St}{H:Hp}{s:Shared}{a C dx:Addr}{fs:List (Str×V)}{f:Str}{v:V}{A:Around}{E:VSP}
theorem aDN{m:Str}{g:Addr}{pl:Sem Bool}{Q:Value×List Value->Shared->Prop}(I:Inv X aA σ H s)(e:H a=some (.ins C dx fs))(c:Cls X.K C)(k:lC X.K C m g)(l:fs.lookup m=none)(h:Q (.ref g,[.ref a]) s):wpAny (model X.prog X.w) A (getMethod (.ref a) m pl) Q E s:=by
 obtain ⟨mA,O,r,_,_,_⟩:=aDM I.hok e;have hn:mA m=none:=eM.none_of (by rw[<- l];exact r m)
 exact aDK I.kIn O (c.get m) k.at_ k.fn hn h
theorem Inv.made(I:Inv X aA σ H s):Inv X aA σ (upd (upd H s.heap.objs.size (.own (s.heap.objs.size+1))) (s.heap.objs.size+1) (.ins C s.heap.objs.size [])) { s with heap:=(s.heap.push PySem.W.emptyDict).push (PySem.W.instObj C s.heap.objs.size) }:=by
 have e1:(s.heap.push PySem.W.emptyDict).get? s.heap.objs.size=some PySem.W.emptyDict:=aPO s.heap rfl;have e2:((s.heap.push PySem.W.emptyDict).push (PySem.W.instObj C s.heap.objs.size)).get? (s.heap.objs.size+1)=some (PySem.W.instObj C s.heap.objs.size):=by
  have:=aPO (s.heap.push PySem.W.emptyDict) (o:=PySem.W.instObj C s.heap.objs.size) rfl
  rwa [aQM] at this
 have e3:(s.heap.push PySem.W.emptyDict).Ns s.heap.objs.size (λ_=>none):=⟨PySem.W.emptyDict,#[],_,e1,rfl,(λe he=>absurd he (by simp)),λ_=>rfl⟩
 have I1:=I.laid (a:=s.heap.objs.size) (o:=.own (s.heap.objs.size+1)) (h':=s.heap.push PySem.W.emptyDict) (t':=s.toks) (λb u q=>hps q) (aQC _) ⟨_,e1⟩;refine I1.laid (a:=s.heap.objs.size+1) (o:=.ins C s.heap.objs.size []) (t':=s.toks) (λb u q=>hps q) (Nat.le_of_eq (aQM _ _)) ?_;have ne:s.heap.objs.size≠s.heap.objs.size+1:=aPS (aQN _);refine ⟨by rw[aU ne,bQ],aQO _,ne,e2,λ_=>none,(Heap.Ns1.of_empty e3).at λo q=>hps q,λ_=>True.intro,λy hy=>absurd rfl hy⟩
end
section
variable {X:Cx}{o e value:Expr}{f:Str}{pos pos' tpos:Pos}{ta tv:TE}
theorem aDO {pl : Sem Bool} {m : Str} {apos : Pos} {args : List Expr} {aA : List (Addr × Obj)} {s : Shared} {σ : St} {H : Hp} {Q : Value → Shared → Prop} {te : TE} (he : PE X e te) (I : Inv X aA σ H s) (h : te σ H fun x H1 => ∃ a C dx fs g, x = .ref a ∧ H1 a = some (.ins C dx fs) ∧ Cls X.K C ∧ lC X.K C m g ∧ fs.lookup m = none ∧ ∀ s1, Inv X aA σ H1 s1 → wpAny (model X.prog X.w) X.A (callWith pos (.ref g) [.ref a] (backTo pos (starEach args X.env)) (backToKw pos (keywordEach [] X.env))) Q X.xe s1)
    (ht:eval (.Call (.Attribute e m apos) args [] pos) X.env=(do
     let ov <- eval e X.env
     standAt apos.atName
     let (f,first) <- holding [ov] (getMethod ov m pl)
     callWith pos f first (backTo pos (starEach args X.env)) (backToKw pos (keywordEach [] X.env)))) :
    wpAny (model X.prog X.w) X.A (eval (.Call (.Attribute e m apos) args [] pos) X.env) Q X.xe s:=by
 refine PySem.W.methodCall_KW (pl:=pl) (thn (he aA s σ H _ I h) λu s1 ⟨x,H1,I1,rx,a,C,dx,fs,g,ex,ea,c,k,l,q⟩=>?_) ht;subst ex;obtain rfl:u=Value.ref a:=rx;exact aDN I1 ea c k l (q s1 I1)
end
section
variable {X:Cx}{aA:LAO}{σ:St}{H:Hp}{s:Shared}{A:Around}{E:VSP}{Q:VSP}{c:Value}{b:Bool}
end
structure cX(k:Nat)(A:Around):Prop where
 hd:A.handled=none
 dp:A.depth+3 * k+5<recursionLimit
 un:A.units+16 * k+200<cLine
theorem cX.deeper{k:Nat}{A:Around}(r:cX (k+1) A)(env:Env):cX k (A.deeper env) :=
 ⟨r.hd,by have:=r.dp;show A.depth+1+3 * k+5<_;omega,by have:=r.un;show A.units+3+16 * k+200<_;omega⟩
theorem cX.depth{k:Nat}{A:Around}(r:cX k A):A.depth<recursionLimit:=by have:=r.dp;omega
theorem cX.units{k:Nat}{A:Around}(r:cX k A):A.units+64<cLine:=by have:=r.un;omega
def qG:TA:=λ_ H Q=>Q [] H
def lD(ta:TE)(tr:TA):TA:=λσ H Q=>ta σ H λx H1=>tr σ H1 λxs H2=>Q (x::xs) H2
section
variable {X:Cx}{e:Expr}{es:List Expr}{te:TE}{t:TA}{pos:Pos}
theorem nF:PA X [] qG:=λ_ _ _ _ H Q I h=>Calls.spliced_nil ⟨[],H,I,.nil,h⟩
theorem nG(ha:PE X e te)(hr:PA X es t)(hs:starEach (e::es) X.env=(false,eval e X.env)::starEach es X.env:=by rfl):PA X (e::es) (lD te t):=by intro pos aA s σ H Q I h;rw[hs];show wpAny _ _ (spliced ((false,eval e X.env)::backTo pos (starEach es X.env))) _ _ s;refine aQP (thn (ha aA s σ H _ I h) λu s1 ⟨x,H1,I1,r1,q1⟩=>?_);exact thn (hr pos aA s1 σ H1 _ I1 q1) λus s2 ⟨xs,H2,I2,r2,q2⟩=>⟨x::xs,H2,I2,.cons r1 r2,q2⟩
def tTup(t:TA):TE:=λσ H Q=>t σ H λxs H1=>xs.length<=sizeLine/\∀ p,H1 p=none->Q (.ref p) (upd H1 p (.tup xs))
def tLst(t:TA):TE:=λσ H Q=>t σ H λxs H1=>xs.length<=sizeLine/\∀ p,H1 p=none->Q (.ref p) (upd H1 p (.lst xs))
theorem aDP{x1}(h:PA X es t):PE X (.Tuple es x1 pos) (tTup t):=by
 intro aA s σ H Q I hq;refine wpAny_Tuple_spliced (thn (h pos aA s σ H _ I hq) λus s1 ⟨xs,H1,I1,r,z,q⟩=>⟨by rw[<- r.length];exact z,?_⟩)
 have hf:H1 s1.heap.objs.size=none:=I1.hok.fresh (aQC _);refine ⟨.ref s1.heap.objs.size,upd H1 s1.heap.objs.size (.tup xs),I1.laid (t':=s1.toks) (λb u e=>hps e) (aQC _) ?_,rfl,q _ hf⟩;exact ⟨z,us,r,⟨_,aPO _ rfl,rfl,rfl,_,rfl⟩⟩
theorem aDQ(h:PA X es t):PE X (.List es pos) (tLst t):=by
 intro aA s σ H Q I hq;refine wpAny_List_spliced (thn (h pos aA s σ H _ I hq) λus s1 ⟨xs,H1,I1,r,z,q⟩=>⟨by rw[<- r.length];exact z,?_⟩)
 have hf:H1 s1.heap.objs.size=none:=I1.hok.fresh (aQC _);refine ⟨.ref s1.heap.objs.size,upd H1 s1.heap.objs.size (.lst xs),I1.laid (t':=s1.toks) (λb u e=>hps e) (aQC _) ?_,rfl,q _ hf⟩;exact ⟨z,us,0,r,aPO _ rfl⟩
end
abbrev Sp:=List V->Hp->VK->XK->Prop
abbrev CXT:=List Env->Hp->Shared->XK->Value->Shared->Prop
structure nH(P:Program)(w:World)(K:Fg)(mg:SOV)(base:Heap)(A:Around)(outer:List Env)(s:Shared)(H:Hp):Prop where
 frames:A.frames=some outer
 mod:Mod K mg base
 bs:∀ b o,base.get? b=some o->s.heap.get? b=some o/\H b=none
 bsz:base.objs.size<=s.heap.objs.size
 funs:s.heap.FunFrames base outer
 frf:∀ b∈frs outer,H b=none
 hok:HOk P w H s.heap
 bare:AllBare s.gens
def CE(outer:List Env)(P:Program)(w:World)(H:Hp)(s:Shared)(Q:VK)(u:Value)(s':Shared):Prop :=
 ∃ v H',s'.os=s.os/\AllBare s'.gens/\Un (frs outer) [] H H' s.heap s'.heap/\HOk P w H' s'.heap/\aM v u/\Q v H'
def CR(CX:CXT)(outer:List Env)(P:Program)(w:World)(H:Hp)(s:Shared)(Q:VK)(E:XK)(r:Result)(s':Shared):Prop :=
 match r with
 | .ok (.ret u)=>CE outer P w H s Q u s'
 | .ok _=>False
 | .error e=>CX outer H s E e s'
structure dM(P:Program)(w:World)(K:Fg)(mg:SOV)(base:Heap)(CX:CXT)(k:Nat)(f:Addr)(fd:FuncData)(ps:List Str)(sp:Sp):Prop where
 len:∀ vs H Q E,sp vs H Q E->vs.length=ps.length
 run:∀ (A:Around) (outer:List Env) (s:Shared) (H:Hp) (args:Args) (us:List Value) (vs:List V) (Q:VK) (E:XK),cX k A->nH P w K mg base A outer s H->BindsTo s fd args (ps.zip us)->aJ vs us->sp vs H Q E ->
  codeAny (model P w) A (.call (.ref f) args) (CR CX outer P w H s Q E) s
theorem dM.imp{P:Program}{w:World}{K:Fg}{mg:SOV}{base:Heap}{CX:CXT}{k:Nat}{f:Addr}{fd:FuncData}{ps:List Str}{sp sp':Sp}(F:dM P w K mg base CX k f fd ps sp)(h:∀ vs H Q E,sp' vs H Q E->sp vs H Q E):dM P w K mg base CX k f fd ps sp' :=
 ⟨λvs H Q E q=>F.len vs H Q E (h _ _ _ _ q),λA outer s H args us vs Q E hr he hb hv hs=>F.run A outer s H args us vs Q E hr he hb hv (h _ _ _ _ hs)⟩
section
variable {X:Cx}{aA:LAO}{σ:St}{H:Hp}{s s':Shared}
theorem Inv.env0(I:Inv X aA σ H s):nH X.prog X.w X.K X.mg X.base X.A X.stack s H :=
 ⟨I.ok.frames,I.ok.mod,I.bs,aPV I.ok.bsz I.sz,I.stack,I.stkFree,I.hok,I.bare⟩
theorem Inv.after{Q:VK}{u:Value}(I:Inv X aA σ H s)(h:CE X.stack X.prog X.w H s Q u s'):EP X aA σ Q u s':=by obtain ⟨v,H',os,bare,un,hok,r,q⟩:=h;obtain ⟨hh,g,d,t,os'⟩:=s';obtain rfl:os'=s.os:=os;exact ⟨v,H',I.call (h':=hh) (g':=g) (d':=d) (t':=t) (ch:=[]) un hok bare (λb z=>absurd z (by simp)),r,q⟩
end
def gH(K:Fg)(fd:FuncData)(ps:List Str)(ds:List Value):Prop :=
 ∀ (s:Shared) (us:List Value),K.In s.heap->(us++ds).length=ps.length->BindsTo s fd ⟨us,[]⟩ (ps.zip (us++ds))
theorem gH.all{K:Fg}{fd:FuncData}{ps:List Str}(h:∀ us:List Value,us.length=ps.length->bindArgs fd ⟨us,[]⟩=pure (ps.zip us)):gH K fd ps []:=λs us _ hl=>by rw[aQQ] at hl ⊢;exact .of_eq (h us hl)
section
variable {X:Cx}{CX:CXT}{k:Nat}{f C:Addr}{fd:FuncData}{ps:List Str}{sp:Sp}{dvs:List V}{ds:List Value}{E:XK}{x m:Str}{p pos apos:Pos}{e o:Expr}{es:List Expr}{ta:TE}{t:TA}
structure Mk(K:Fg)(C f:Addr):Prop where
 makes:PySem.W.makesIn K C=true
 init:PySem.W.findIn K (.ref C) "__init__" = some (some (.ref f))
 fn:PySem.W.isFn K (.ref f)=true
 kp:PySem.W.keepIn K (.ref C)=true
end
section
variable {X:Cx}{CX:CXT}{k:Nat}{f C:Addr}{fd:FuncData}{ps ks:List Str}{sp:Sp}{E:XK}{x m:Str}{p pos apos kpos:Pos}{e o:Expr}{es:List Expr}{kws:List Keyword}{te ta:TE}{t tk:TA}{nm:Option Str}
variable {g:List Value->List Value->List Value}{gV:List V->List V->List V}
end
structure nI(N P:List Str)(sc:Scope):Prop where
 kind:sc.kind=.function
 co:sc.isCoroutine=false
 gen:sc.isGenerator=false
 nd:N.Nodup
 pre:N.take P.length=P
 par:∀ x∈P,sc.names.lookup x=some .local\/sc.names.lookup x=some .cell
 nofree:∀ y∈sc.names,y.2 ≠ .free
theorem u3{kindOf:Str->Option NameKind}{x:Str}:∀ {binds:List (Str×Value)} {m:SOV},(∀ v,(x,v)∉binds)->bindL kindOf binds m x=m x
 | [],_,_=>rfl
 | (n,v)::r,m,h=>by
  unfold bindL;rw[u3 λw hw=>h w (mcm hw)];split
  . have:x≠n:=by rintro rfl;exact h v mcs
    simp[this]
  . rfl
theorem u4{kindOf:Str->Option NameKind}{x:Str}:∀ {binds:List (Str×Value)} {m:SOV},(∀ v,(x,v)∉binds)->bindC kindOf binds m x=m x
 | [],_,_=>rfl
 | (n,v)::r,m,h=>by
  unfold bindC;rw[u4 λw hw=>h w (mcm hw)];split
  . rfl
  . have:x≠n:=by rintro rfl;exact h v mcs
    simp[this]
theorem u5{kindOf:Str->Option NameKind}{x:Str}{v:Value}:∀ {P:List Str} {vs:List Value} {i:Nat} {m:SOV},P.Nodup->P[i]? = some x->vs[i]? = some v->kindOf x=some .local->bindL kindOf (P.zip vs) m x=some v
 | [],_,_,_,_,h,_,_=>by simp at h
 | _::_,[],_,_,_,_,h,_=>by simp at h
 | p::P,w::vs,0,m,nd,h1,h2,hk=>by simp at h1 h2;subst h1;subst h2;show bindL kindOf ((p,w)::P.zip vs) m p=_;unfold bindL;rw[u3 λv hv=>(aQR.mp nd).1 (aQS hv).1,if_pos hk];simp
 | p::P,w::vs,i+1,m,nd,h1,h2,hk=>by show bindL kindOf ((p,w)::P.zip vs) m x=_;unfold bindL;exact u5 (i:=i) (aQR.mp nd).2 (by simpa using h1) (by simpa using h2) hk
theorem u6{kindOf:Str->Option NameKind}{x:Str}{v:Value}:∀ {P:List Str} {vs:List Value} {i:Nat} {m:SOV},P.Nodup->P[i]? = some x->vs[i]? = some v->kindOf x≠some .local->bindC kindOf (P.zip vs) m x=some v
 | [],_,_,_,_,h,_,_=>by simp at h
 | _::_,[],_,_,_,_,h,_=>by simp at h
 | p::P,w::vs,0,m,nd,h1,h2,hk=>by simp at h1 h2;subst h1;subst h2;show bindC kindOf ((p,w)::P.zip vs) m p=_;unfold bindC;rw[u4 λv hv=>(aQR.mp nd).1 (aQS hv).1,if_neg hk];simp
 | p::P,w::vs,i+1,m,nd,h1,h2,hk=>by show bindC kindOf ((p,w)::P.zip vs) m x=_;unfold bindC;exact u6 (i:=i) (aQR.mp nd).2 (by simpa using h1) (by simpa using h2) hk
def bN(N:List Str)(vs:List V):St:=vs.map some++List.replicate (N.length-vs.length) none
def eC(CX:CXT)(P:Program)(w:World)(K:Fg)(mg:SOV)(base:Heap)(N:List Str)(aW:Str)(scope:Scope)(f:Addr)(cd:Value)(A:Around)(outer:List Env)(s:Shared)(H:Hp)(E:XK):Cx where
 prog:=P
 w:=w
 K:=K
 mg:=mg
 base:=base
 A:=A.deeper (envOfC aW scope s.heap.objs.size f cd)
 N:=N
 s₀:=s
 H₀:=H
 env:=envOfC aW scope s.heap.objs.size f cd
 outer:=outer
 stack:=envOfC aW scope s.heap.objs.size f cd::outer
 ex:=[]
 calm:=true
 fn:=λ_=>true
 pn:=[]
 xe:=λe s'=>wpAny (model P w) (A.deeper (envOfC aW scope s.heap.objs.size f cd)) (leaving (envOfC aW scope s.heap.objs.size f cd) e) (λ_ s''=>CX outer H s E e s'') (λe' s''=>CX outer H s E e' s'') s'
theorem u7{sc:Scope}{n:Nat}{x:Str}(h:sc.names.lookup x=some .cell):∃ c,(cellsFrom n sc.names []).lookup x=some c:=by have q:=PySem.W.cellsFrom_some sc.names n [] (.inl h);exact Option.isSome_iff_exists.mp q
theorem aDR{CX:CXT}{P:Program}{w:World}{K:Fg}{mg:SOV}{base:Heap}{N ps:List Str}{aW:Str}{scope:Scope}{f:Addr}{cd:Value}{A:Around}{outer:List Env}{s s1:Shared}{H:Hp}{E:XK}{us:List Value}{vs:List V}(S:nI N ps scope)(hd:A.handled=none)(e0:nH P w K mg base A outer s H)(hl:vs.length=ps.length)(r:aJ vs us)(x:InCallC s s.heap.objs.size (bindL (envOfC aW scope s.heap.objs.size f cd).kindOf (ps.zip us) λ_=>none) (cellsFrom (s.heap.objs.size+1) scope.names []) (bindC (envOfC aW scope s.heap.objs.size f cd).kindOf (ps.zip us) λ_=>none) s1):Inv (eC CX P w K mg base N aW scope f cd A outer s H E) [] (bN N vs) H s1:=by
 have hpl:ps.length<=N.length:=by have:=congrArg List.length S.pre;rw[aQT] at this;omega
 obtain ⟨h1,tk,rfl,hk⟩:=x.done;have noA:∀ b:Addr,b∉(eC CX P w K mg base N aW scope f cd A outer s H E).ex:=λb z=>absurd (show b∈([]:List Addr) from z) (by simp)
 refine ⟨⟨e0.mod,S.kind,rfl,rfl,aQC _,λy z c h1 h2=>?_,λy hy=>?_,λy c _ h=>?_,λ_=>hd,Around.frames_deeper e0.frames,.inr ⟨rfl,rfl⟩,λb z=>absurd z (noA b),e0.bs,e0.bsz,λb _ _=>noA b,λb z=>absurd z (noA b),e0.funs,e0.frf⟩,
  rfl,e0.bare,Un.kept hk,⟨_,x.toInCall.ns,λi y v h1 h2 h3=>?_⟩,λy c h=>⟨_,x.cell y c h⟩,e0.hok.fresh (aQC _),λy c h=>?_,λp hp=>absurd (show p∈([]:LAO) from hp) (by simp),e0.hok.kept hk,?_⟩
 . exact name_of_addr x.apart (aQU h1) (aQU h2)
 . have hy:scope.names.lookup y=some .cell\/scope.names.lookup y=some .free:=hy;rcases hy with hy | hy
   . exact u7 hy
   . exact absurd rfl (S.nofree _ (aQU hy))
 . exact aPW (x.above y c (aQU h))
 . have hi:i<vs.length:=by
     unfold bN at h2;by_cases hi:i<vs.length
     . exact hi
     . rw[aQV (by simpa using hi)] at h2
       rw[aQW] at h2;split at h2 <;> cases h2
   have ha:vs[i]? = some v:=by
    unfold bN at h2;rw[aQX (by simpa using hi),aQY] at h2
    cases e:vs[i]? with
    | none=>rw[e] at h2;cases h2
    | some a=>rw[e] at h2;cases h2;rfl
   obtain ⟨u,hu,rv⟩:=r.get ha;have hp:ps[i]? = some y:=by rw[<- S.pre,List.getElem?_take_of_lt (by omega)];exact h1
   have ndP:ps.Nodup:=by rw[<- S.pre];exact S.nd.sublist (List.take_sublist _ _)
   refine ⟨u,rv,?_⟩;rcases S.par y (aQZ hp) with k | k
   . exact .inl ⟨k,u5 ndP hp hu k⟩
   . obtain ⟨c,e⟩:=u7 (n:=s.heap.objs.size+1) k;refine .inr ⟨.inl k,c,e,?_⟩;have q:=x.cell y c e;rw[u6 ndP hp hu (by show scope.names.lookup y≠_;rw[k];decide)] at q
     exact q
 . exact e0.hok.fresh (aPW (x.above y c (aQU h)))
 . unfold bN;show _=N.length;rw[aQ0,aQ1,List.length_replicate];omega
theorem fn_of{CX:CXT}{P:Program}{w:World}{K:Fg}{mg:SOV}{base:Heap}{k:Nat}{f:Addr}{name aW:Str}{params:Arguments}{body:List Stmt}{scope:Scope}{dV kV doc pm cdv ct oc:Value}{an od:Option Addr}{osl:Array (Option Value)}{N ps:List Str}{sp:Sp}(lk:K.lookup f=some ⟨oc,od,.func (PySem.W.fnOf name aW params body scope dV kV doc pm an cdv ct),osl⟩)(hcd:PySem.W.codeIn K cdv aW=true)(S:nI N ps scope)(len:∀ vs H Q E,sp vs H Q E->vs.length=ps.length)(hbody:∀ (A:Around) (outer:List Env) (s:Shared) (H:Hp) (vs:List V) (Q:VK) (E:XK),cX k (A.deeper (envOfC aW scope s.heap.objs.size f cdv))->sp vs H Q E->∃ t,PSs (eC CX P w K mg base N aW scope f cdv A outer s H E) body t/\t { nx:=λ_ H'=>Q .non H',rt:=Q } (bN N vs) H):dM P w K mg base CX (k+1) f (PySem.W.fnOf name aW params body scope dV kV doc pm an cdv ct) ps sp:=by
 refine ⟨len,λA outer s H args us vs Q E hr e0 hb r hsp=>?_⟩;have hl:=len _ _ _ _ hsp;have KX:K.In s.heap:=e0.mod.kin.keeps λb o e=>(e0.bs b o e).1;have lim:s.heap.NoLimit:=e0.mod.nolimit.keeps λb o e=>(e0.bs b o e).1;have eK:∀ y∈ps.zip us,scope.names.lookup y.1=some .local\/(scope.names.lookup y.1=some .cell/\((cellsFrom (s.heap.objs.size+1) scope.names []).lookup y.1).isSome=true):=λ⟨n,v⟩ hy=>by
  rcases S.par n (aQS hy).1 with q | q
  . exact .inl q
  . exact .inr ⟨q,PySem.W.cellsFrom_some _ _ _ (.inl q)⟩
 refine codeAny_call_function hr.depth (KX _ _ lk) rfl S.co S.gen rfl (PySem.W.codeRec_of KX hcd) (hb _ _ _ _ ?_);refine wpAny_newFunctionEnv_cells S.kind eK λenv he s1 x=>?_;subst he;refine ⟨lim.keeps x.toInCall.keep,codeAny_func ?_⟩;obtain ⟨t,ht,hq⟩:=hbody A outer s H vs Q E (hr.deeper _) hsp;have I:Inv (eC CX P w K mg base N aW scope f cdv A outer s H E) [] (bN N vs) H s1:=aDR S hr.hd e0 hl r x;refine aP5 (ht [] s1 (bN N vs) H _ I hq) (λfl s' hs=>?_) λe s' hs=>hs;have fin:∀ {σ':St} {H':Hp} {v:V} {u:Value},Inv (eC CX P w K mg base N aW scope f cdv A outer s H E) [] σ' H' s'->aM v u->Q v H'->CE outer P w H s Q u s' :=
  λ{σ' H' v u} J rv q=>⟨v,H',J.os,J.bare,J.base,J.hok,rv,q⟩
 cases fl with
 | ret u=>obtain ⟨v,σ',H',J,rv,q⟩:=hs;exact fin J rv q
 | next=>obtain ⟨σ',H',J,q⟩:=hs;exact fin (v:=V.non) (u:=Value.none) J rfl q
 | brk=>obtain ⟨_,_,_,q⟩:=hs;exact False.elim q
 | cont=>obtain ⟨_,_,_,q⟩:=hs;exact False.elim q
section
variable {X:Cx}{x:Str}{p pos:Pos}{e:Expr}{es:List Expr}{t:TA}{id T:String}{r:List V->Hp->VK->Prop}
def tCB(r:List V->Hp->VK->Prop)(t:TA):TE:=λσ H Q=>t σ H λvs H1=>r vs H1 Q
theorem u8(hc:cL X (.builtin id) r)(hg:Gl X x)(hm:X.mg x=none)(hv:bootBuiltins x=some (.builtin id))(ha:PA X (e::es) t)(hn:x ≠ "__name__" := by decide)(hdb:(x==("__debug__" : Str))=false:=by decide)(he:starEach (e::es) X.env=(false,eval e X.env)::starEach es X.env:=by rfl)(hpl:(backTo pos (starEach es X.env)).any (·.1)=false:=by rfl):PE X (.Call (.Name x p) (e::es) [] pos) (tCB r t):=by intro aA s σ H Q I h;refine aQ2 (nA I hg hm hv ?_ hn hdb);exact PyProof.Rows.callWith_builtin1 (thn (ha pos aA s σ H _ I h) λus s1 ⟨vs,H1,I1,r1,q1⟩=>hc aA s1 σ H1 vs us Q I1 r1 q1) he hpl
theorem u9(hc:cL X (.type T) r)(hg:Gl X x)(hm:X.mg x=none)(hv:bootBuiltins x=some (.type T))(ha:PA X (e::es) t)(hn:x ≠ "__name__" := by decide)(hdb:(x==("__debug__" : Str))=false:=by decide)(he:starEach (e::es) X.env=(false,eval e X.env)::starEach es X.env:=by rfl)(hpl:(backTo pos (starEach es X.env)).any (·.1)=false:=by rfl):PE X (.Call (.Name x p) (e::es) [] pos) (tCB r t):=by intro aA s σ H Q I h;refine aQ2 (nA I hg hm hv ?_ hn hdb);exact aQD (thn (ha pos aA s σ H _ I h) λus s1 ⟨vs,H1,I1,r1,q1⟩=>hc aA s1 σ H1 vs us Q I1 r1 q1) he hpl
end
end L2
namespace HT
open PySem PyProof.Rows
section
open PySem.SeqAt
open PySem.AutoSeq1 (wpAny_loadPart')
open PySem.MeetsSeq PySem.MeetsSeq2 PySem.MeetsSeq3
end
section
variable {prog:Program}{w:World}{A:Around}{E:VSP}{s:Shared}
theorem aDS{t b:Addr}{vs ws:List Value}{Q:VSP}(ht:IsTup s.heap t vs.toArray)(hb:IsTup s.heap b ws.toArray)(hv:vs≠[])(h1:ws=[]->Q (.ref t) s)(h2:ws≠[]->Q (.ref s.heap.objs.size) { s with heap:=s.heap.push { cls:=.type "tuple", data:=.seq (vs++ws).toArray } })(hsz:vs.length+ws.length<=sizeLine):wpAny (model prog w) A (binaryOp .Add (.ref t) (.ref b)) Q E s:=by
 obtain ⟨⟨cls,dd,data,sl⟩,ho,hc,n,hd⟩:=id ht;obtain ⟨⟨cls2,dd2,data2,sl2⟩,ho2,hc2,n2,hd2⟩:=id hb;simp only at hc hd hc2 hd2;subst hc hd hc2 hd2;have e:vs.toArray++ws.toArray=(vs++ws).toArray:=by simp
 by_cases hw:ws=[]
 . exact aQ3 ⟨_,ho,rfl⟩ ⟨_,ho2,rfl⟩ aQ4 seq_tuple_add aQ5 aQ6 (aQ7 _ _)
     (tuple_addW1 t b vs.toArray ws.toArray n n2 dd dd2 sl sl2 (by simpa using hv) (by simp[hw])) ⟨ho,ho2,h1 hw⟩
 . refine aQ3 ⟨_,ho,rfl⟩ ⟨_,ho2,rfl⟩ aQ4 seq_tuple_add aQ5 aQ6 (aQ7 _ _)
     (tuple_addW2 t b vs.toArray ws.toArray n n2 dd dd2 sl sl2 (by simpa using hv) (by simpa using hw) (by rw[aQI,aQI];exact hsz)) ⟨ho,ho2,?_⟩
   rw[e];exact h2 hw
def sIx(n d:Nat):Option Int->Nat
 | none=>d
 | some v=>if v<0 then (v+(n:Int)).toNat else min v.toNat n
theorem vA(n d:Nat):sIx n d none=d:=rfl
theorem nJ(n d k:Nat):sIx n d (some (k:Int))=min k n:=by show (if (k:Int)<0 then ((k:Int)+(n:Int)).toNat else min (k:Int).toNat n)=min k n;rw[if_neg (by omega),aQ8]
theorem aDT(n d:Nat)(hd:d<=n)(o:Option Int):sIx n d o<=n:=by
 cases o with
 | none=>exact hd
 | some v =>
  show (if v<0 then (v+(n:Int)).toNat else min v.toNat n)<=n;by_cases hv:v<0
  . rw[if_pos hv];omega
  . rw[if_neg hv];exact Nat.min_le_right _ _
theorem vB(v:Int)(n d:Nat):(if v<0 then max (v+(n:Int)) 0 else min v (n:Int))=((sIx n d (some v):Nat):Int):=by
 show (if v<0 then max (v+(n:Int)) 0 else min v (n:Int))=(((if v<0 then (v+(n:Int)).toNat else min v.toNat n):Nat):Int);by_cases hv:v<0
 . simp only[if_pos hv];omega
 . simp only[if_neg hv];omega
theorem aDU(lo hi:Option Int)(n:Nat):Builtin.Slice.sliceAdjust lo hi 1 (n:Int)=(((sIx n 0 lo:Nat):Int),((sIx n n hi:Nat):Int)):=by
 have h1:¬ ((1:Int)<0):=by omega
 unfold Builtin.Slice.sliceAdjust;simp only[h1,aQ9];refine aRA ?_ ?_
 . cases lo with
   | none=>rfl
   | some v=>exact vB v n 0
 . cases hi with
   | none=>rfl
   | some v=>exact vB v n n
theorem aDV(i j:Nat):Builtin.Slice.slicePlaces (i:Int) (j:Int) 1=j-i:=by
 unfold Builtin.Slice.slicePlaces;have h1:(1:Int) > 0:=by omega
 simp only[h1,if_true,Int.ediv_one];split <;> omega
theorem vC{v:Value}{o:Option Int}{Q:Option Int->Shared->Prop}(p:IsPart v o)(h:Q o s):wpAny (model prog w) A (Builtin.Slice.slicePartIndex v) Q E s:=by
 cases p with
 | none=>exact slicePart_none h
 | int i t=>exact slicePart_int h
theorem vD{sl:Addr}{vl vu:Value}{lo hi:Option Int}{n:Nat}{Q:Int×Int×Nat->Shared->Prop}(hs:s.heap.IsSliceOf sl vl vu .none)(pl:IsPart vl lo)(pu:IsPart vu hi)(h:Q (((sIx n 0 lo:Nat):Int),1,sIx n n hi-sIx n 0 lo) s):wpAny (model prog w) A (Builtin.Slice.sliceApplied (.ref sl) (pure (n:Int))) Q E s:=by
 obtain ⟨os,hos,hcs,hds⟩:=id hs;unfold Builtin.Slice.sliceApplied Builtin.Slice.sliceFields;refine aP9 (aP9 (aRB hos hds (x:=vl) rfl (aP9 (aRB hos hds (x:=vu) rfl (aP9 (aRB hos hds (x:=.none) rfl (aP8 ?_)))))));refine aP9 (slicePart_none ?_);show wpAny _ _ (if ((1:Int)==0)=true then _ else _) _ _ s;rw[if_neg (by decide)]
 refine aP9 (vC pl (aP9 (vC pu (aP9 (aP8 ?_)))));show wpAny _ _ (match Builtin.Slice.sliceAdjust lo hi 1 (n:Int) with | (lo,hi)=>pure (lo,(1:Int),Builtin.Slice.slicePlaces lo hi 1)) _ _ s
 rw[aDU lo hi n];show wpAny _ _ (pure (((sIx n 0 lo:Nat):Int),(1:Int),Builtin.Slice.slicePlaces ((sIx n 0 lo:Nat):Int) ((sIx n n hi:Nat):Int) 1)) _ _ s;rw[aDV];exact aP8 h
theorem aDW(xs:Array Value)(i k:Nat):((List.range k).filterMap λ(m:Nat)=>xs[((i:Int)+(m:Int) * 1).toNat]?).toArray=((xs.toList.drop i).take k).toArray:=by
 have e:(λ(m:Nat)=>xs[((i:Int)+(m:Int) * 1).toNat]?)=λm=>xs[i+m]?:=by
  funext m;have:((i:Int)+(m:Int) * 1).toNat=i+m:=by omega
  rw[this]
 rw[e];have:=pick_run xs i k;rw[List.filterMap_map] at this;have e2:((λx=>xs[x]?) ∘ λx=>i+x)=λm=>xs[i+m]?:=rfl;rw[e2] at this;rw[this]
theorem aDX{t sl:Addr}{items:Array Value}{vl vu:Value}{lo hi:Option Int}{Q:VSP}(ht:IsTup s.heap t items)(hs:s.heap.IsSliceOf sl vl vu .none)(pl:IsPart vl lo)(pu:IsPart vu hi)(hw:¬ (sIx items.size 0 lo=0/\sIx items.size items.size hi=items.size))(h:Q (.ref s.heap.objs.size) { s with heap:=s.heap.push { cls:=.type "tuple", data:=.seq ((items.toList.drop (sIx items.size 0 lo)).take (sIx items.size items.size hi-sIx items.size 0 lo)).toArray } })(hsz:items.size<=sizeLine):wpAny (model prog w) A (getItem (.ref t) (.ref sl)) Q E s:=by
 have htake:sizeOk (.seq ((items.toList.drop (sIx items.size 0 lo)).take (sIx items.size items.size hi-sIx items.size 0 lo)).toArray):=by show ((items.toList.drop (sIx items.size 0 lo)).take (sIx items.size items.size hi-sIx items.size 0 lo)).toArray.size<=sizeLine;rw[aQI,aQT,aRC,aP7];omega
 have hj:sIx items.size items.size hi<=items.size:=aDT _ _ (aQC _) hi;obtain ⟨os,hos,hcs,hds⟩:=id hs;have hTs:s.TypeIs (.ref sl) "slice" := ⟨os,hos,hcs⟩;unfold getItem
 try with_reducible refine aRD ?_
 first | refine aP9 (aP8 ?_) | skip
 refine aP9 (wpAny_sequenceKey ht.typeIs (by decide) ?_)
 refine aP9 (aRE (name:=Str.ofString "__getitem__") ht.typeIs aRF
  (aRG aRF ht.typeIs entry_tuple_getitem ?_ (args_tuple_getitem _ _)))
 show wpAny _ _ (Builtin.Tuple.tupleItemsOf (.ref t) >>= _) _ _ s;refine aP9 (tupleItemsOf_ ht ?_);refine aP9 (aRH hTs ?_);rw[if_pos (by decide)]
 refine aP9 (vD hs pl pu ?_);have hno:¬ ((((sIx items.size 0 lo:Nat):Int)==0&&(1:Int)==1&&(sIx items.size items.size hi-sIx items.size 0 lo)==items.size)=true):=by intro q;rw[aRI,aRI] at q;have q1:((sIx items.size 0 lo:Nat):Int)=0:=eq_of_beq q.1.1;have q2:sIx items.size items.size hi-sIx items.size 0 lo=items.size:=eq_of_beq q.2;exact hw ⟨by omega,by omega⟩
 show wpAny _ _ (if (((sIx items.size 0 lo:Nat):Int)==0&&(1:Int)==1&&(sIx items.size items.size hi-sIx items.size 0 lo)==items.size)=true then _ else _) _ _ s;rw[if_neg hno,aDW]
 first
  | exact aP9 (m:=Builtin.Tuple.tupleExact _) (aRJ (aP8 ⟨_,rfl,aP8 h⟩) htake)
  | exact aP9 (m:=Builtin.Tuple.tupleExact _) (aRJ (aP9 (aP8 (aP8 ⟨_,rfl,aP8 h⟩))) htake)
  | exact aP9 (aP9 (m:=Builtin.Tuple.tupleExact _) (aRJ (aP8 (aP8 ⟨_,rfl,aP8 h⟩)) htake))
  | exact aP9 (aP9 (m:=Builtin.Tuple.tupleExact _) (aRJ (aP8 ⟨_,rfl,aP8 h⟩) htake))
end
end HT
namespace L2
open PySem PySem.Spec PyProof.Rows
abbrev TO:=St->Hp->(Option Int->Hp->Prop)->Prop
def PO(X:Cx)(e:Option Expr)(t:TO):Prop :=
 ∀ (aA:LAO) (s:Shared) (σ:St) (H:Hp) (Q:Option Int->Hp->Prop),Inv X aA σ H s->t σ H Q ->
  wpAny (model X.prog X.w) X.A (evalPart e X.env) (λu s'=>∃ o H',Inv X aA σ H' s'/\IsPart u o/\Q o H') X.xe s
def vE:TO:=λ_ H Q=>Q none H
def nK(t:TE):TO:=λσ H Q=>t σ H λx H1=>∃ i,x=.int i/\Q (some i) H1
section
variable {X:Cx}{e:Expr}{te:TE}{lo hi:Option Expr}{tl th:TO}{pos p2:Pos}
theorem aDY:PO X none vE:=by intro aA s σ H Q I h;rw[evalPart_none];exact aP8 ⟨none,H,I,.none,h⟩
theorem aDZ(h:PE X e te):PO X (some e) (nK te):=by intro aA s σ H Q I hw;rw[evalPart_some];refine thn (h aA s σ H _ I hw) λu s1 ⟨x,H1,I1,r1,q1⟩=>?_;obtain ⟨i,rfl,q⟩:=q1;obtain ⟨t,rfl⟩:=r1;exact ⟨some i,H1,I1,.int i t,q⟩
def SlR(X:Cx)(r:V->Option Int->Option Int->Hp->VK->Prop):Prop :=
 ∀ (aA:LAO) (s:Shared) (σ:St) (H:Hp) (x:V) (v vl vu:Value) (lo hi:Option Int) (sl:Addr) (Q:VK),Inv X aA σ H s->aM x v->s.heap.IsSliceOf sl vl vu .none->IsPart vl lo->IsPart vu hi->r x lo hi H Q ->
  ∃ T id,typeLookup (.type T) "__getitem__" = pure (some (.builtin id))/\s.TypeIs v T/\wpAny (model X.prog X.w) X.A (getItem v (.ref sl)) (EP X aA σ Q) X.xe s
theorem SlR.or{r r':V->Option Int->Option Int->Hp->VK->Prop}(h:SlR X r)(h':SlR X r'):SlR X (λx lo hi H Q=>r x lo hi H Q\/r' x lo hi H Q):=by
 intro aA s σ H x v vl vu lo hi sl Q I rx hs pl pu q;rcases q with q | q
 . exact h aA s σ H x v vl vu lo hi sl Q I rx hs pl pu q
 . exact h' aA s σ H x v vl vu lo hi sl Q I rx hs pl pu q
def tSl(r:V->Option Int->Option Int->Hp->VK->Prop)(te:TE)(tl th:TO):TE:=λσ H Q=>te σ H λx H1=>tl σ H1 λl H2=>th σ H2 λu H3=>r x l u H3 Q
theorem aD0{r:V->Option Int->Option Int->Hp->VK->Prop}(hr:SlR X r)(he:PE X e te)(hl:PO X lo tl)(hu:PO X hi th):PE X (.Subscript e (.Slice lo hi none p2) pos) (tSl r te tl th):=by
 intro aA s σ H Q I h;refine Subscript_ (thn (he aA s σ H _ I h) λv s1 ⟨x,H1,I1,r1,q1⟩=>?_);refine wpAny_Slice (thn (hl aA s1 σ H1 _ I1 q1) λvl s2 ⟨l,H2,I2,pl,q2⟩=>thn (hu aA s2 σ H2 _ I2 q2) λvu s3 ⟨u,H3,I3,pu,q3⟩=>?_);rw[evalPart_none];refine aP8 ?_;have I4:Inv X aA σ H3 { s3 with heap:=s3.heap.push { cls:=.type "slice", data:=.fields #[vl,vu,.none] } }:=I3.kept (t':=s3.toks) λb ob q=>hps q
 obtain ⟨T,id,hT,ht,hg⟩:=hr aA { s3 with heap:=s3.heap.push { cls:=.type "slice", data:=.fields #[vl,vu,.none] } } σ H3 x v vl vu l u s3.heap.objs.size Q I4 r1 (Heap.IsSliceOf.new ..) pl pu q3
 show wpAny (model X.prog X.w) X.A (subscriptTail e (.Slice lo hi none p2) v (.ref s3.heap.objs.size)) (EP X aA σ Q) X.xe { s3 with heap:=s3.heap.push { cls:=.type "slice", data:=.fields #[vl,vu,.none] } }
 exact tail_any (ops:=[.ref s3.heap.objs.size,v]) ht hT hg (by with_unfolding_all rfl)
def gY(xs:List V)(lo hi:Option Int):List V:=(xs.drop (HT.sIx xs.length 0 lo)).take (HT.sIx xs.length xs.length hi-HT.sIx xs.length 0 lo)
theorem vF(xs:List V)(lo hi:Option Int):(gY xs lo hi).length<=xs.length:=by unfold gY;rw[aQT,aRC];omega
def rSlT(K:Fg):V->Option Int->Option Int->Hp->VK->Prop:=λx lo hi H Q=>∃ a xs,x=.ref a/\SqT K H a xs /\
 ¬ (HT.sIx xs.length 0 lo=0/\HT.sIx xs.length xs.length hi=xs.length)/\∀ p,H p=none->Q (.ref p) (upd H p (.tup (gY xs lo hi)))
theorem aD1:SlR X (rSlT X.K):=by
 intro aA s σ H x v vl vu lo hi sl Q I rx hs pl pu h;obtain ⟨a,xs,rfl,hx,hw,q⟩:=h;cases rx;obtain ⟨its,r,ht,hz⟩:=I.tuple hx;have hlen:its.toArray.size=xs.length:=by rw[aQI];exact r.length.symm
 refine ⟨"tuple", _,PyProof.Rows.slot_tuple_getitem.lookup,ht.typeIs,?_⟩;refine HT.aDX ht hs pl pu (by rw[hlen];exact hw) ?_ (by rw[hlen];exact hz)
 rw[hlen];refine ⟨.ref s.heap.objs.size,_,I.laid (t':=s.toks) (o:=.tup (gY xs lo hi)) (λb ob q=>hps q) (aQC _) ?_,rfl,q _ (I.hok.fresh (aQC _))⟩;exact ⟨aPV (vF xs lo hi) hz,_,(r.drop (HT.sIx xs.length 0 lo)).take (HT.sIx xs.length xs.length hi-HT.sIx xs.length 0 lo),gW.new _ _⟩
theorem aJ.nil_iff{xs:List V}{us:List Value}(r:aJ xs us):us=[]↔xs=[]:=by
 cases r with
 | nil=>simp
 | cons _ _=>simp
end
def ixN(n:Nat)(i:Int):Option Nat:=if 0<=i then (if i<n then some i.toNat else none) else if -(n:Int)<=i then some (i+n).toNat else none
def atI{α:Type}(xs:List α)(i:Int):Option α:=(ixN xs.length i).bind λj=>xs[j]?
theorem aD2{n:Nat}{i:Int}{j:Nat}(h:ixN n i=some j):seqIndex? i n=some j/\j<n /\ -(n:Int)<=i/\i<n:=by
 unfold ixN at h;by_cases h0:0<=i
 . rw[if_pos h0] at h;by_cases h1:i<n
   . rw[if_pos h1] at h;have e:i.toNat=j:=aP4 h;exact ⟨by rw[seqIndex_of h0 h1,e],by omega,by omega,h1⟩
   . rw[if_neg h1] at h;cases h
 . rw[if_neg h0] at h;by_cases h1:-(n:Int)<=i
   . rw[if_pos h1] at h;have e:(i+n).toNat=j:=aP4 h;exact ⟨by rw[seqIndex_neg (by omega) h1,e],by omega,h1,by omega⟩
   . rw[if_neg h1] at h;cases h
theorem nL{α:Type}{xs:List α}{i:Int}{v:α}(h:atI xs i=some v):∃ j,seqIndex? i xs.length=some j/\xs[j]? = some v/\j<xs.length /\ -(xs.length:Int)<=i/\i<xs.length:=by
 unfold atI at h;cases e:ixN xs.length i with
 | none=>rw[e] at h;cases h
 | some j=>rw[e] at h;obtain ⟨h1,h2,h3,h4⟩:=aD2 e;exact ⟨j,h1,h,h2,h3,h4⟩
theorem gZ{α:Type}{xs:List α}{j:Nat}{v:α}(h:xs[j]? = some v):atI xs (j:Int)=some v:=by
 have hj:j<xs.length:=(aP1.mp h).1;have e:ixN xs.length (j:Int)=some j:=by unfold ixN;rw[if_pos (by omega),if_pos (by omega)];simp
 unfold atI;rw[e];exact h
def nM(b:Expr):Prop:=∀ o i,subscripted b false o i=operate [o,i] (getItem o i)
def IxR(X:Cx)(r:R2):Prop :=
 ∀ (value slice:Expr) (aA:LAO) (s:Shared) (σ:St) (H:Hp) (x y:V) (v u:Value) (Q:VK),Inv X aA σ H s->aM x v->aM y u->r x y H Q ->
  subscripted slice false v u=operate [v,u] (getItem v u)->wpAny (model X.prog X.w) X.A (subscriptTail value slice v u) (EP X aA σ Q) X.xe s
def MtR(X:Cx)(id:String)(r:V->List V->Hp->VK->Prop):Prop :=
 ∀ (aA:LAO) (s:Shared) (σ:St) (H:Hp) (x:V) (xs:List V) (v:Value) (us:List Value) (Q:VK),Inv X aA σ H s->aM x v->aJ xs us->r x xs H Q ->
  wpAny (model X.prog X.w) X.A (call (.builtin id) (v::us)) (EP X aA σ Q) X.xe s
section
variable {X:Cx}{a b:Expr}{ta tb:TE}{pos:Pos}
theorem IxR.or{r r':R2}(h:IxR X r)(h':IxR X r'):IxR X (λx y H Q=>r x y H Q\/r' x y H Q):=by
 intro value slice aA s σ H x y v u Q I rx ry q hs;rcases q with q | q
 . exact h value slice aA s σ H x y v u Q I rx ry q hs
 . exact h' value slice aA s σ H x y v u Q I rx ry q hs
theorem vG{r:R2}(hr:IxR X r)(ha:PE X a ta)(hb:PE X b tb)(hs:nM b):PE X (.Subscript a b pos) (tOp r ta tb):=by intro aA s σ H Q I h;exact Subscript_ (qD ha hb I h λv u s2 x y H2 I2 rx ry q=>hr a b aA s2 σ H2 x y v u Q I2 rx ry q (hs _ _))
def rIxL(K:Fg):R2:=λx y H Q=>∃ p xs i v,x=.ref p/\y=.int i/\SqL K H p xs/\atI xs i=some v/\Q v H
def rIxT(K:Fg):R2:=λx y H Q=>∃ p xs i v,x=.ref p/\y=.int i/\SqT K H p xs/\atI xs i=some v/\Q v H
def rIxS:R2:=λx y H Q=>∃ z i c,x=.str z/\y=.int i/\z.length<=sizeLine/\atI z.cps.toList i=some c/\Q (.str ⟨#[c]⟩) H
theorem aD3:IxR X (rIxL X.K):=by
 intro value slice aA s σ H x y v u Q I rx ry h hs;obtain ⟨p,xs,i,z,rfl,rfl,hq,he,q⟩:=h;cases rx;obtain ⟨t,rfl⟩:=ry;obtain ⟨its,r,pl,hz⟩:=I.list hq;obtain ⟨j,h1,h2,h3,h4,h5⟩:=nL he;obtain ⟨w,ew,rw'⟩:=r.get h2;have hl:=r.length;have hn:=lB;have fin:EP X aA σ Q w s:=⟨z,H,I,rw',q⟩;by_cases h0:0<=i
 . have hj:i.toNat=j:=by rw[seqIndex_of h0 h5] at h1;exact aP4 h1
   exact item_listR pl.isList h0 (by omega) (by rw[hj];simpa using ew) fin hs
 . have hj:(i+(its.toArray.size:Int)).toNat=j:=by
     rw[seqIndex_neg (by omega) h4] at h1
     rw[aQI,<- hl];exact aP4 h1
   exact subscriptTail_builtinR (x:=w) pl.isList.typeIs slot_list_getitem.lookup
    (wpAny_getItem_list_neg (Q:=λr s'=>r=w/\EP X aA σ Q r s') pl.isList (by omega) (by rw[aQI] <;> omega) (by omega) (by rw[hj];simpa using ew) ⟨rfl,fin⟩) hs
theorem aD4:IxR X (rIxT X.K):=by
 intro value slice aA s σ H x y v u Q I rx ry h hs;obtain ⟨p,xs,i,z,rfl,rfl,hq,he,q⟩:=h;cases rx;obtain ⟨t,rfl⟩:=ry;obtain ⟨its,r,pl,hz⟩:=I.tuple hq;obtain ⟨j,h1,h2,h3,h4,h5⟩:=nL he;obtain ⟨w,ew,rw'⟩:=r.get h2;have hl:=r.length;have hn:=lB;have fin:EP X aA σ Q w s:=⟨z,H,I,rw',q⟩;exact subscriptTail_builtinR (x:=w) pl.typeIs slot_tuple_getitem.lookup
  (getItem_tuple (j:=j) (Q:=λr s'=>r=w/\EP X aA σ Q r s') pl (by omega) (by omega) (by rw[aQI,<- hl];exact h1) (by simpa using ew) ⟨rfl,fin⟩) hs
theorem aD5:IxR X rIxS:=by
 intro value slice aA s σ H x y v u Q I rx ry h hs;obtain ⟨z,i,c,rfl,rfl,hz,he,q⟩:=h;obtain ⟨t,rfl⟩:=rx;obtain ⟨t',rfl⟩:=ry;obtain ⟨j,h1,h2,h3,h4,h5⟩:=nL he;have hl:z.cps.toList.length=z.length:=by simp[Str.length]
 rw[hl] at h1 h4 h5;have hn:=lB;exact tail_any (typeIs_str s z t) slot_str_getitem.lookup (getItem_str (c:=c) (by
  have e1:decide (i < -(2 ^ 63:Int))=false:=aPL (by omega)
  have e2:decide (i ≥ 2 ^ 63)=false:=aPL (by omega)
  rw[e1,e2,Bool.or_false]) (by rw[h1];simpa using h2) ⟨.str ⟨#[c]⟩,H,I.tok _,⟨_,rfl⟩,q⟩) hs
def rIx(K:Fg):R2:=λx y H Q=>rIxL K x y H Q\/rIxT K x y H Q\/rIxS x y H Q
theorem aD6:IxR X (rIx X.K):=aD3.or (aD4.or aD5)
theorem aD7(lo hi:Option Int)(n:Nat):(sliceBounds lo hi none n).1=((HT.sIx n 0 lo:Nat):Int)/\(sliceBounds lo hi none n).2.1=((HT.sIx n n hi:Nat):Int)/\(sliceBounds lo hi none n).2.2=1:=by
 refine ⟨?_,?_,rfl⟩
 . cases lo with
   | none=>simp[sliceBounds,HT.sIx]
   | some i =>
    simp only[sliceBounds,HT.sIx,aRK,show (1:Int) > 0 by decide,if_true]
    by_cases h:i<0
    . simp only[h,if_true] <;> omega
    . simp only[h,aQ9] <;> omega
 . cases hi with
   | none=>simp[sliceBounds,HT.sIx]
   | some i =>
    simp only[sliceBounds,HT.sIx,aRK,show (1:Int) > 0 by decide,if_true]
    by_cases h:i<0
    . simp only[h,if_true] <;> omega
    . simp only[h,aQ9] <;> omega
theorem aD8(its:List Value)(lo hi:Option Int):slicePick its.toArray lo hi none=((its.drop (HT.sIx its.length 0 lo)).take (HT.sIx its.length its.length hi-HT.sIx its.length 0 lo)).toArray:=by obtain ⟨h1,h2,h3⟩:=aD7 lo hi its.toArray.size;unfold slicePick;rw[h1,h2,h3];simp only[sliceRange_one,pick_run,aQI] <;> rfl
def rSlL(K:Fg):V->Option Int->Option Int->Hp->VK->Prop:=λx lo hi H Q=>∃ a xs,x=.ref a/\SqL K H a xs/\∀ p,H p=none->Q (.ref p) (upd H p (.lst (gY xs lo hi)))
theorem aD9:SlR X (rSlL X.K):=by
 intro aA s σ H x v vl vu lo hi sl Q I rx hs pl pu h;obtain ⟨a,xs,rfl,hx,q⟩:=h;cases rx;obtain ⟨its,r,ht,hz⟩:=I.list hx;have hlen:=r.length;refine ⟨"list", _,slot_list_getitem.lookup,ht.isList.typeIs,?_⟩;refine wpAny_getItem_list_slice ht.isList hs pl pu .none (by simp) ?_ (by rw[aQI] <;> omega)
 rw[aD8,<- hlen];refine ⟨.ref s.heap.objs.size,_,I.laid (t':=s.toks) (o:=.lst (gY xs lo hi)) (λb ob q=>hps q) (aQC _) ?_,rfl,q _ (I.hok.fresh (aQC _))⟩;exact ⟨aPV (vF xs lo hi) hz,_,0,(r.drop (HT.sIx xs.length 0 lo)).take (HT.sIx xs.length xs.length hi-HT.sIx xs.length 0 lo),aPO _ rfl⟩
def iE:V->Bool
 | .non=>true
 | .bl _=>true
 | .int _=>true
 | .str _=>true
 | _=>false
def eqV:V->V->Bool
 | .non,.non=>true
 | .bl a,.bl b=>a==b
 | .bl a,.int b=>(if a then 1 else 0)==b
 | .int a,.bl b=>a==(if b then 1 else 0)
 | .int a,.int b=>a==b
 | .str a,.str b=>a==b
 | _,_=>false
theorem vH{A:Around}{s:Shared}{y x:V}{u v:Value}(ry:aM y u)(rx:aM x v)(fy:iE y=true)(fx:iE x=true):SeqAt.EqAt A s u v (eqV y x):=by
 cases y with
 | non =>
  cases ry;cases x with
  | non=>cases rx;exact SeqAt.EqAt.same _
  | bl b=>cases rx;exact SeqAt.EqAt.none_bool b
  | int b=>obtain ⟨t,rfl⟩:=rx;exact SeqAt.EqAt.none_int b t
  | str b=>obtain ⟨t,rfl⟩:=rx;exact SeqAt.EqAt.none_str b t
  | _=>exact absurd (show false=true from fx) aQK
 | bl a =>
  cases ry;cases x with
  | non=>cases rx;exact SeqAt.EqAt.bool_none a
  | bl b=>cases rx;exact SeqAt.EqAt.bool_bool a b
  | int b=>obtain ⟨t,rfl⟩:=rx;exact SeqAt.EqAt.bool_int a b t
  | str b=>obtain ⟨t,rfl⟩:=rx;exact SeqAt.EqAt.bool_str a b t
  | _=>exact absurd (show false=true from fx) aQK
 | int a =>
  obtain ⟨t',rfl⟩:=ry;cases x with
  | non=>cases rx;exact SeqAt.EqAt.int_none a t'
  | bl b=>cases rx;exact SeqAt.EqAt.int_bool a t' b
  | int b=>obtain ⟨t,rfl⟩:=rx;exact SeqAt.EqAt.int_int a t' b t
  | str b=>obtain ⟨t,rfl⟩:=rx;exact SeqAt.EqAt.int_str a t' b t
  | _=>exact absurd (show false=true from fx) aQK
 | str a =>
  obtain ⟨t',rfl⟩:=ry;cases x with
  | non=>cases rx;exact SeqAt.EqAt.str_none a t'
  | bl b=>cases rx;exact SeqAt.EqAt.str_bool a t' b
  | int b=>obtain ⟨t,rfl⟩:=rx;exact SeqAt.EqAt.str_int a t' b t
  | str b=>obtain ⟨t,rfl⟩:=rx;exact SeqAt.EqAt.str_str a t' b t
  | _=>exact absurd (show false=true from fx) aQK
 | _=>exact absurd (show false=true from fy) aQK
theorem aEA:cL X (.type "list") (λxs H Q=>∃ p ys,xs=[.ref p]/\(SqL X.K H p ys\/SqT X.K H p ys)/\∀ l,H l=none->Q (.ref l) (upd H l (.lst ys))):=by
 intro aA s σ H xs us Q I r h; obtain ⟨p, ys, rfl, hq, q⟩ := h; obtain ⟨u, rfl, rx⟩ := eB r; cases rx; have fin : ∀ (its : List Value), aJ ys its → ys.length ≤ sizeLine → ∀ (h' : Heap) (c' : Nat), (∀ b o', s.heap.get? b = some o' → h'.get? b = some o') →
     h'.get? s.heap.objs.size=some { cls:=.type "list", dict:=none,data:=.seq its.toArray c',slots:=#[] } -> EP X aA σ Q (.ref s.heap.objs.size) { s with heap:=h' }:=λits r' hz h' c' kp e =>
  ⟨.ref s.heap.objs.size,_,I.laid (t':=s.toks) kp (aQC _) (show bU X.prog X.w _ h' _ (.lst ys) from ⟨hz,its,c',r',e⟩),rfl,q _ (I.hok.fresh (aQC _))⟩
 rcases hq with hq | hq
 . obtain ⟨its,r',pl,hz⟩:=I.list hq;have hlen:=r'.length;obtain ⟨o,ho,hc,n,hd⟩:=pl.isList;exact call_list_seq p (.inl rfl) ho hc hd (λh' c' kp e=>fin its r' hz h' c' kp e) (by simp only[aQI] <;> omega)
 . obtain ⟨its,r',pl,hz⟩:=I.tuple hq;have hlen:=r'.length;obtain ⟨o,ho,hc,n,hd⟩:=pl;exact call_list_seq p (.inr rfl) ho hc hd (λh' c' kp e=>fin its r' hz h' c' kp e) (by simp only[aQI] <;> omega)
theorem aEB:cL X (.type "tuple") (λxs H Q=>∃ p ys,xs=[.ref p]/\((SqL X.K H p ys/\∀ l,H l=none->Q (.ref l) (upd H l (.tup ys)))\/(SqT X.K H p ys/\Q (.ref p) H))):=by
 intro aA s σ H xs us Q I r h;obtain ⟨p,ys,rfl,h⟩:=h;obtain ⟨u,rfl,rx⟩:=eB r;cases rx;rcases h with ⟨hq,q⟩ | ⟨hq,q⟩
 . obtain ⟨its,r',pl,hz⟩:=I.list hq;have hlen:=r'.length;refine call_tuple_list pl.isList (λh' kp=>?_) (by simp only[aQI] <;> omega)
   have I1:Inv X aA σ H { s with heap:=h' }:=I.kept (t':=s.toks) kp
   have I2:Inv X aA σ (upd H h'.objs.size (.tup ys)) { s with heap:=h'.push { cls:=.type "tuple", data:=.seq its.toArray } } :=
    I1.laid (t':=s.toks) (λb o e=>hps e) (aQC _) (show bU X.prog X.w _ _ _ (.tup ys) from ⟨hz,its,r',gW.new _ _⟩)
   exact ⟨.ref h'.objs.size,_,I2,rfl,q _ (I1.hok.fresh (aQC _))⟩
 . obtain ⟨its,r',pl,hz⟩:=I.tuple hq;exact call_tuple_same pl ⟨.ref p,H,I,rfl,q⟩
def tyV(K:Fg)(T:String)(x:V)(H:Hp):Prop:=match x with
 | .str _=>T = "str"
 | .int _=>T = "int"
 | .ref p => (T = "list" ∧ ∃ xs, SqL K H p xs) ∨ (T = "tuple" ∧ ∃ o, K.lookup p = some o ∧ o.cls = .type "tuple" ∧ o.dict = none) ∨
     (T = "dict" /\ ((∃ kvs,H p=some (.dK kvs))\/∃ kvs,H p=some (.dT kvs)))\/(T = "set" /\ ∃ S n,H p=some (.set S n))
 | _=>False
theorem aEC{aA:LAO}{σ:St}{H:Hp}{s:Shared}{T:String}{x:V}{v:Value}(I:Inv X aA σ H s)(r:aM x v)(ty:tyV X.K T x H):s.TypeIs v T/\∀ a,v=.ref a->∃ ob,s.heap.get? a=some ob/\ob.dict=none:=by
 cases x with
 | str z =>
  obtain ⟨t,rfl⟩:=r;cases (show T = "str" from ty)
  exact ⟨typeIs_str s z t,λ_ e=>nomatch e⟩
 | int i =>
  obtain ⟨t,rfl⟩:=r;cases (show T = "int" from ty)
  exact ⟨typeIs_int s i t,λ_ e=>nomatch e⟩
 | ref p =>
  cases r;rcases ty with ⟨rfl,xs,hq⟩ | ⟨rfl,o,hk,hc,hd⟩ | ⟨rfl,hk⟩ | ⟨rfl,S,n,hk⟩
  . obtain ⟨its,_,pl,_⟩:=I.list hq;refine ⟨pl.isList.typeIs,λa e=>?_⟩;cases e;obtain ⟨o,n,e,c,hd,_⟩:=pl;exact ⟨o,e,hd⟩
  . refine ⟨⟨o,I.kIn p o hk,hc⟩,λa e=>?_⟩;cases e;exact ⟨o,I.kIn _ o hk,hd⟩
  . have z:∃ o,s.heap.get? p=some o/\o.ExactDict:=by
      rcases hk with ⟨kvs,hk⟩ | ⟨kvs,hk⟩
      . obtain ⟨_,_,_,_,o,_,_,e,ex,_⟩:=I.hok p _ hk;exact ⟨o,e,ex⟩
      . obtain ⟨_,_,_,_,o,_,_,e,ex,_⟩:=I.hok p _ hk;exact ⟨o,e,ex⟩
    obtain ⟨o,e,ex⟩:=z;refine ⟨⟨o,e,ex.1⟩,λa e2=>?_⟩;cases e2;exact ⟨o,e,ex.2.1⟩
  . obtain ⟨o,_,_,_,e,ex,_⟩:=I.hok p _ hk;refine ⟨⟨o,e,ex.1⟩,λa e2=>?_⟩;cases e2;exact ⟨o,e,ex.2.1⟩
 | _=>exact False.elim ty
def tBM(K:Fg)(T:String)(r:V->List V->Hp->VK->Prop)(to:TE)(t:TA):TE:=λσ H Q=>to σ H λx H1=>tyV K T x H1/\t σ H1 λxs H2=>r x xs H2 Q
variable {o e:Expr}{es:List Expr}{to:TE}{t:TA}{name:Str}{apos cpos:Pos}{T id:String}{r:V->List V->Hp->VK->Prop}
theorem pe_bm(pa:PlainAttrs T)(slot:Slot T name id)(hty:typeOf (.builtin id)=pure (.type "method_descriptor"))(hm:MtR X id r)(ho:PE X o to)(ha:PA X (e::es) t)(hbase:attributeBase o name X.env (eval o X.env)=eval o X.env:=by rfl)(hfew:((backTo cpos (starEach (e::es) X.env)).all (λx=>!x.1)&&(backToKw cpos (keywordEach [] X.env)).all (λx=>x.1.isSome)&&decide ((e::es).length+([]:List Keyword).length+(if ([]:List Keyword).isEmpty then 0 else 1)<30))=true:=by rfl)(hline:(apos.endLine==cpos.line)=true:=by rfl)(hs:starEach (e::es) X.env=(false,eval e X.env)::starEach es X.env:=by rfl)(hplain:(backTo cpos (starEach es X.env)).any (·.1)=false:=by rfl):PE X (.Call (.Attribute o name apos) (e::es) [] cpos) (tBM X.K T r to t):=by
 intro aA s σ H Q I h;refine wpAny_Call_method_late hbase hfew hline rfl (thn (ho aA s σ H _ I h) λv s1 ⟨x,H1,I1,r1,ty,q1⟩=>?_);obtain ⟨h1,h2⟩:=aEC I1 r1 ty;refine ⟨T,id,pa,slot,hty,h1,h2,?_⟩;have hA:=ha cpos aA s1 σ H1 _ I1 q1;rw[hs] at hA ⊢;refine Calls.callWith_builtin (by show (false||(backTo cpos (starEach es X.env)).any (·.1))=false;rw[hplain] <;> rfl) (Calls.evalArgs_plain ?_)
 exact thn hA λus s2 ⟨vs,H2,I2,r2,q2⟩=>hm aA s2 σ H2 x vs v us Q I2 r1 r2 q2
end
def MtM(X:Cx)(id:String)(r:V->List V->Hp->VK->Prop):Prop :=
 ∀ (aA:LAO) (s:Shared) (σ:St) (H:Hp) (x:V) (xs:List V) (v:Value) (us:List Value) (Q:VK),Inv X aA σ H s->aM x v->aJ xs us->r x xs H Q ->
  wpAny (model X.prog X.w) X.A (call (.builtin id) (v::us)) (EP X aA σ Q) X.xe s
theorem aJ.one:∀ {x:V} {us:List Value},aJ [x] us->∃ u,us=[u]/\aM x u
 | _,_,.cons r .nil=>⟨_,rfl,r⟩
section
variable {X:Cx}{aA:LAO}{σ:St}{H:Hp}{s:Shared}{l b:Addr}{xs ys zs:List V}
theorem Inv.lset{its its':List Value}{n:Nat}{f:Array Value->Array Value}{t':Nat}(I:Inv X aA σ H s)(hH:H l=some (.lst xs))(e:s.heap.get? l=some { cls:=.type "list", data:=.seq its.toArray n })(hf:f its.toArray=its'.toArray)(hv:aJ ys its')(hz:ys.length<=sizeLine):Inv X aA σ (upd H l (.lst ys)) { s with heap:=s.heap.update l (Obj.mapSeq f),toks:=t' }:=by
 have q:=PySem.IsL.update e f;rw[hf] at q;refine I.write (x:=l) (e:=l) (by rw[hH];exact trivial) (.inl rfl) (λb' u hb hu=>(aRL s.heap (Obj.mapSeq f) (Ne.symm hb)).trans hu) ⟨_,q⟩ ?_
 exact ⟨hz,its',_,hv,q⟩
theorem Inv.lstM(I:Inv X aA σ H s)(hH:H l=some (.lst xs)):xs.length<=sizeLine/\∃ (its:List Value) (n:Nat),aJ xs its/\xs.length=its.length/\s.heap.get? l=some { cls:=.type "list", data:=.seq its.toArray n }:=by obtain ⟨z,its,n,r,e⟩:=I.hok l _ hH;exact ⟨z,its,n,r,r.length,e⟩
end
section
variable {X:Cx}
def aED:V->List V->Hp->VK->Prop:=λx vs H Q=>∃ l xs y,x=.ref l/\vs=[y]/\H l=some (.lst xs)/\xs.length<sizeLine/\Q .non (upd H l (.lst (xs++[y])))
theorem vI:MtM X "list.append" aED:=by
 intro aA s σ H x vs v us Q I rx rv h;obtain ⟨l,xs,y,rfl,rfl,hH,hz,q⟩:=h;cases rx;obtain ⟨u,rfl,ru⟩:=rv.one;obtain ⟨z,its,n,r,hl,e⟩:=I.lstM hH;refine call_meets F.slot_list_append ⟨_,e,rfl⟩ F.entry_list_append (F.args_list_append_2 _ _) (PySem.list_append l its.toArray n u (by rw[aQI];omega)) ⟨e,?_⟩
 refine ⟨.non,_,I.lset (its':=its++[u]) hH e (by simp) (r.append (.cons ru .nil)) ?_,rfl,q⟩
 rw[aQ0,List.length_singleton];omega
end
section
variable {prog:Program}{w:World}{A:Around}{E:VSP}{s:Shared}
end
section
variable {X:Cx}
end
section
variable {κ:Type}[DecidableEq κ]
def valV(kvs:List (κ×V))(k:κ):Option V:=(kvs.find? λkv=>decide (kv.1=k)).map (·.2)
def putK(kvs:List (κ×V))(k:κ)(v:V):List (κ×V) :=
 if (kvs.any λkv=>decide (kv.1=k))=true then kvs.map (λkv=>if kv.1=k then (kv.1,v) else kv) else kvs++[(k,v)]
theorem eM.isSome_eq{o:Option V}{u:Option Value}(r:eM o u):o.isSome=u.isSome:=by
 cases o with
 | none=>cases u with
  | none=>rfl
  | some _=>exact (show False from r).elim
 | some _=>cases u with
  | none=>exact (show False from r).elim
  | some _=>rfl
theorem eM.getD{o:Option V}{u:Option Value}{d:V}{d':Value}(r:eM o u)(rd:aM d d'):aM (o.getD d) (u.getD d'):=by
 cases o with
 | none=>cases u with
  | none=>exact rd
  | some _=>exact (show False from r).elim
 | some _=>cases u with
  | none=>exact (show False from r).elim
  | some _=>exact r
theorem KV.length{kvs:List (κ×V)}{vs:List (κ×Value)}(r:KV kvs vs):kvs.length=vs.length:=aPN r
end
section
variable {P:Program}{w:World}{H:Hp}{h:Heap}{a:Addr}
theorem rd_of{u:HO}(ok:HOk P w H h)(e:Rd H a u):bU P w H h a u:=e.ok ok
theorem dk_rd{kvs:List (Key×V)}(ok:HOk P w H h)(e:Rd H a (.dK kvs)):kvs.length<=sizeLine/\(a==sysModules)=false/\∃ vs,KV kvs vs/\h.DictOf (jS P w) a vs :=
 show bU P w H h a (.dK kvs) from rd_of ok e
end
def DGet(H:Hp)(a:Addr)(y:V)(r:Option V):Prop :=
 (∃ kvs k,Rd H a (.dK kvs)/\y=kV k/\r=valV kvs k)\/∃ kvs k b,Rd H a (.dT kvs)/\y=.ref b/\H b=some (.tup (k.map kV))/\r=valV kvs k
def DPut(H:Hp)(a:Addr)(y v:V)(H':Hp):Prop :=
 (∃ kvs k,H a=some (.dK kvs)/\y=kV k/\kvs.length<sizeLine/\H'=upd H a (.dK (putK kvs k v))) \/
 ∃ kvs k b,H a=some (.dT kvs)/\y=.ref b/\H b=some (.tup (k.map kV))/\kvs.length<sizeLine/\H'=upd H a (.dT (putK kvs k v))
section
variable {X:Cx}{aA:LAO}{σ:St}{H:Hp}{s:Shared}{a:Addr}{y v:V}{u r:Value}{o:Option V}{A:Around}{E:VSP}
theorem Inv.big(I:Inv X aA σ H s):sysModules<s.heap.objs.size:=by have h:mainGlobals<s.heap.objs.size:=(I.mod.glob.keeps I.bk).lt;exact Nat.lt_trans (by decide) h
theorem aEE{h':Heap}{t':Nat}{ob:HO}(I:Inv X aA σ H s)(mu:Mut (H a))(hs:Heap.SameBut a s.heap h')(he:∃ q,h'.get? a=some q)(new:bU X.prog X.w (upd H a ob) h' a ob):Inv X aA σ (upd H a ob) { s with heap:=h',toks:=t' } :=
 I.write (x:=a) (e:=a) mu (.inl rfl) (λb q hb z=>(hs.2 b hb).trans z) he new
theorem aEF{P:Program}{w:World}{H':Hp}{h':Heap}{kvs:List (Key×V)}{vs:List (Key×Value)}(z:kvs.length<=sizeLine)(hd:(a==sysModules)=false)(rel:KV kvs vs)(dd:h'.DictOf (jS P w) a vs):bU P w H' h' a (.dK kvs):=⟨z,hd,vs,rel,dd⟩
end
section
variable {X:Cx}{aA:LAO}{σ:St}{H:Hp}{s:Shared}{a:Addr}{kvs:List (Key×V)}{k:Key}{u:Value}{A:Around}{E:VSP}
end
section
variable {X:Cx}{o i e value:Expr}{pos pos' tpos:Pos}{td ty tv:TE}
end
theorem aEG{P:Program}{w:World}{H:Hp}(h:Heap)(hb:sysModules<h.objs.size):bU P w H (h.push { cls:=.type "dict", data:=.dict #[] }) h.objs.size (.dK []) :=
 ⟨aQO _,aPM.mpr (Ne.symm (aPS hb)),[],.nil,Heap.DictOf.new h⟩
def aEH:TE:=λ_ H Q=>∀ p,H p=none->Q (.ref p) (upd H p (.dK []))
section
variable {X:Cx}{pos:Pos}
theorem aEI:PE X (.Dict [] [] pos) aEH:=λaA s σ H Q I h =>
 wpAny_Dict_empty ⟨.ref s.heap.objs.size,_,I.laid (a:=s.heap.objs.size) (o:=.dK []) (t':=s.toks) (λ_ _ q=>hps q) (aQC _) (aEG s.heap I.big),rfl,h _ (I.hok.fresh (aQC _))⟩
end
structure M2(X:Cx)(o:Expr)(m:Str)(apos:Pos)(e f:Expr)(cpos:Pos):Prop where
 base:attributeBase o m X.env (eval o X.env)=eval o X.env
 few:((backTo cpos (starEach [e,f] X.env)).all (λx=>!x.1)&&(backToKw cpos (keywordEach [] X.env)).all (λx=>x.1.isSome)
  && decide (([e,f]:List Expr).length+([]:List Keyword).length+(if ([]:List Keyword).isEmpty then 0 else 1)<30))=true
 line:(apos.endLine==cpos.line)=true
 trees:backTo cpos (starEach [e,f] X.env)=[(false,eval e X.env),(false,eval f X.env)]
section
variable {X:Cx}{aA:LAO}{σ:St}{H:Hp}{s:Shared}{a:Addr}{y d:V}{u r:Value}{o:Option V}{A:Around}{E:VSP}
end
section
variable {X:Cx}{o e f:Expr}{apos cpos:Pos}{td ty tx:TE}
end
section
variable {X:Cx}{aA:LAO}{σ:St}{H:Hp}{s:Shared}{a:Addr}{kvs:List (Key×V)}{A:Around}{E:VSP}
theorem aEJ{Q:VSP}(I:Inv X aA σ H s)(e:Rd H a (.dK kvs))(h:∀ p s',H p=none->Inv X aA σ (upd H p (.dK kvs)) s'->Q (.ref p) s'):wpAny (model X.prog X.w) A (call (.type "dict") [.ref a]) Q E s:=by
 obtain ⟨z,hd,vs,rel,dd⟩:=dk_rd I.hok e;refine kt_call_dict hd dd (by rw[<- rel.length];exact z) λh' dd' hs=>?_
 refine h _ _ (I.hok.fresh (aQC _)) (I.laid (a:=s.heap.objs.size) (o:=.dK kvs) (t':=s.toks) (λb q hq=>?_) (aQC _) (aEF z (aPM.mpr (Ne.symm (aPS I.big))) rel dd'));exact (hs.2 b (aPS (aPP hq))).trans (hps hq)
end
section
variable {X:Cx}{aA:LAO}{σ:St}{H:Hp}{s:Shared}{a:Addr}{y:V}{u:Value}{A:Around}{E:VSP}
end
end L2
namespace Att
open PySem PySem.W PySem.Calls PyProof.Rows
theorem aEK{P:Params}{h:Heap}:∀ (ns:List Int) (vs:List Value),WellAll P h vs (ns.map WData.int)->IntsAre vs ns:=by
 intro ns
 induction ns with
 | nil=>intro vs w;rw[aRM] at w;cases w;exact .nil
 | cons n ns ih =>
  intro vs w;rw[aRN] at w;cases w with
  | cons a b=>cases a;exact .cons _ _ (ih _ b)
theorem aEL{l:OpenLaw}{n:Nat}(hn:l.most=some n){P:Params}{h:Heap}{args:List WData}{vals:List Value}(hpre:l.row.toRowW.claim.pre args=true)(hwl:WellAll P h vals args):∃ a vs ns,vals=[Value.ref a]/\args=[WData.list (ns.map WData.int)]/\h.get? a=some { cls:=.type "list", data:=.seq vs.toArray }/\IntsAre vs ns/\ns.length<=n:=by
 have hsh:WShape.hasAll [] args [.list .int]=true:=(pre_splitW hpre).1;have hc:l.pre.holds [] { args:=args }=true:=(pre_splitW hpre).2;obtain ⟨d,r,rfl,h1,h2⟩:=hasAllW_cons hsh;obtain rfl:=hasAllW_nil h2;obtain ⟨xs,rfl,h3⟩:=hasW_list h1;obtain ⟨ns,rfl⟩:=items_int h3;have hlen:ns.length<=n:=by
  unfold OpenLaw.pre at hc;have h4:(WTm.not (.lt (.lit (.int (n:Int))) (.len (.arg 0)))).holds [] { args:=[.list (ns.map .int)] }=true:=by have h4:=(holds_andW hc).1;rw[hn] at h4;exact h4
  have h5:=condW_of h4 (w_not (w_lt w_lit (w_len_list (w_arg rfl))));rw[aQ1] at h5;refine Nat.le_of_not_lt λq=>?_;have q':(n:Int)<((ns.length:Nat):Int):=by omega
  first
   | (rw[aRO q'] at h5;exact absurd h5 (by decide))
   | (simp at h5;omega)
 cases hwl with
 | cons w1 w2 =>
  cases w2;cases w1 with
  | list ho hall=>exact ⟨_,_,ns,rfl,rfl,ho,aEK ns _ hall,hlen⟩
theorem aEM(l:OpenLaw)(args:List WData):l.row.toRowW.claim.post args (.bool true) args=true :=
 postW_of (r:=l.row.toRowW) (X:=(true==true))
  (show WShape.has [] (.bool true) .bool=true by first | rfl | decide | simp[WShape.has,WShape.arms,WShape.armsAll])
  (show (WTm.eq .res (.lit (.bool true))).value [] { args:=args,res:=some (.bool true),after:=args }=some (.bool (true==true)) from w_eq_bool (w_res rfl) w_lit) rfl
theorem aEN{l:OpenLaw}{n:Nat}{q:Program}{loose:List Str}{XP:(Str->Option Value)->Heap->Prop}{YP:World->Heap->Prop}{d:DefRec}(hn:l.most=some n)(hdf:d.params.defaults=[])(call:∀ (w:World) (s₀ s₁:Shared) (mg mb:SOV) (fa:Addr) (o:Obj) (pm cd doc:Value) (a:Addr) (vs:List Value) (ns:List Int),Ground q loose [] XP w s₀ mg mb s₁.heap->YP w s₁.heap->s₁.heap.get? fa=some o->o.data=.func (docDef d.name d.params d.body d.scope pm cd doc)->s₁.heap.CodeRec cd d.name->mg d.name=some (.ref fa)->s₁.heap.get? a=some { cls:=.type "list", data:=.seq vs.toArray } -> IntsAre vs ns->ns.length<=n->s₁.gens = #[]->codeAny (model l.prog w) callerA (.call (.ref fa) ⟨[.ref a],[]⟩) (λr s'=>r=.ok (.ret (.bool true))/\OldK s₁.heap s'.heap/\s'.os=s₁.os/\AllBare s'.gens) s₁):WalkO q loose XP YP l.row.toRowW d [] (λf vs=>PySem.call f vs):=by intro w s₀ s₁ mg mb G Y fa o pm cd doc dV kV ho hd hcd hD hmg hg args vals as hpre hlay hrd hwl hlo;obtain rfl:dV=.none:=Dflts.none hD hdf;obtain rfl:kV=.none:=Dflts.noKw hD;obtain ⟨a,vs,ns,rfl,rfl,hobj,hints,hlen⟩:=aEL hn hpre hwl;refine enter_call (aRP (call w s₀ s₁ mg mb fa o pm cd doc a vs ns G Y ho (fd_plain hd) hcd hmg hobj hints hlen hg) λr s' hq=>?_);obtain ⟨rfl,h2,h3,h4⟩:=hq;exact ⟨.inl ⟨.bool true,.bool true,[],rfl,λ_=>rfl,.bool true,aEM l _,λ_=>⟨List.Pairwise.nil,λ_ hm=>(nomatch hm)⟩⟩,h2,h3,h4⟩
section
variable {prog:Program}{w:World}{A:Around}{E:VSP}{s:Shared}{K:Frag}
def ledger(h:Heap)(L d:Addr):LAO:=(List.range h.objs.size).filterMap λa=>if a=L\/a=d then none else (h.get? a).map λo=>(a,o)
end
end Att
namespace L2
open PySem PySem.Spec PyProof.Rows
theorem vJ:∀ {vs:List Value} {ns:List Int},IntsAre vs ns->aJ (ns.map V.int) vs
 | _,_,.nil=>.nil
 | _,_,.cons n t h=>.cons ⟨t,rfl⟩ (vJ h)
def qH(H:Hp):Prop:=∀ b,H b=none\/∃ o xs,H b=some (.frz o (.lst xs))
theorem aEO{P:Program}{w:World}{K:Fg}{mg mb:SOV}{CX:CXT}{k:Nat}{fa a:Addr}{fd:FuncData}{x:Str}{sp:Sp}{s₁:Shared}{vs:List Value}{ns:List Int}(KX:K.In s₁.heap)(hns:s₁.heap.Ns mainGlobals mg)(hb:s₁.heap.Ns builtinsNs mb)(hbb:∀ x:Str,x ≠ "__name__" -> mb x=bootBuiltins x)(hlim:s₁.heap.NoLimit)(hg:s₁.gens = #[])(ha:s₁.heap.get? a=some { cls:=.type "list", data:=.seq vs.toArray })(hi:IntsAre vs ns)(hl:ns.length<=sizeLine)(hr:cX k callerA)(F:∀ base:Heap,K.In base->base.Ns mainGlobals mg->dM P w K mg base CX k fa fd [x] sp)(hbind:∀ (s:Shared) (u:Value),BindsTo s fd ⟨[u],[]⟩ [(x,u)])(hsp:∀ H:Hp,qH H->SqL K H a (ns.map V.int)->sp [.ref a] H (λv _=>v=.bl true) λ_ _ _=>False)(hCX:∀ H e s',CX [] H s₁ (λ_ _ _=>False) e s'->False):codeAny (model P w) callerA (.call (.ref fa) ⟨[.ref a],[]⟩) (λr s'=>r=.ok (.ret (.bool true))/\OldK s₁.heap s'.heap/\s'.os=s₁.os/\AllBare s'.gens) s₁:=by
 have rv := vJ hi; have lenV := hi.length; have core : ∀ H : Hp, qH H → SqL K H a (ns.map V.int) → HOk P w H s₁.heap → (∀ b, H b ≠ none → b = a) → (H a ≠ none → K.lookup a = none) →
     codeAny (model P w) callerA (.call (.ref fa) ⟨[.ref a],[]⟩) (λr s'=>r=.ok (.ret (.bool true))/\OldK s₁.heap s'.heap/\s'.os=s₁.os/\AllBare s'.gens) s₁:=by
  intro H hO hS hok hA hK;have base_of:∀ {b:Addr} {o:Obj},s₁.heap.get? b=some o->H b=none->(gX s₁.heap H).get? b=some o:=λe n=>aB1 e n;have noA:∀ {b:Addr} {o:Obj} {es:Array DictEntry} {ep:Nat},s₁.heap.get? b=some o->o.data=.dict es ep->H b=none:=λ{b o es ep} e d=>by
   cases q:H b with
   | none=>rfl
   | some u =>
    have e':b=a:=hA b (by rw[q];simp)
    subst e';rw[ha] at e;cases e;have d':Data.seq vs.toArray _=Data.dict es ep:=d;cases d'
  have nsK:∀ {b:Addr} {m:SOV},s₁.heap.Ns b m->(gX s₁.heap H).Ns b m:=λ{b m} ⟨o,es,ep,e,d,r⟩=>⟨o,es,ep,base_of e (noA e d),d,r⟩;have hKb:K.In (gX s₁.heap H):=λb o e=>base_of (KX b o e) (by
   cases q:H b with
   | none=>rfl
   | some u =>
    have e':b=a:=hA b (by rw[q];simp)
    subst e'
    rw[hK (by rw[q];simp)] at e;cases e)
  have hM:Mod K mg (gX s₁.heap H):=⟨hKb,nsK hns,⟨mb,nsK hb,hbb⟩,let ⟨mc,h1,h2⟩:=hlim;⟨mc,nsK h1,h2⟩⟩
  have e0:nH P w K mg (gX s₁.heap H) callerA [] s₁ H:=⟨rfl,hM,λb o e=>aB2 e,Nat.le_of_eq (aB0 _ _),trivial,λb hb=>absurd (show b∈([]:List Addr) from hb) (by simp),hok,.of_eq hg⟩
  refine aRP ((F _ hKb (nsK hns)).run callerA [] s₁ H ⟨[.ref a],[]⟩ [.ref a] [.ref a] _ _ hr e0 (hbind s₁ (.ref a)) (.cons rfl .nil) (hsp H hO hS)) λr s' h=>?_;cases r with
  | error e=>exact (hCX H e s' h).elim
  | ok fl =>
   cases fl with
   | next=>exact False.elim h
   | brk=>exact False.elim h
   | cont=>exact False.elim h
   | ret u =>
    obtain ⟨v,H',os,bare,un,hok',r',q⟩:=h;have q':v=.bl true:=q;subst q';obtain rfl:u=Value.bool true:=r';refine ⟨rfl,OldK.of_keep λb o e=>?_,os,bare⟩;cases q:H b with
    | none=>exact un.keep b o e q (by intro z;exact absurd (show b∈([]:List Addr) from z) (by simp)) (by simp)
    | some u =>
     rcases hO b with z | ⟨ob,xs,z⟩
     . rw[q] at z;cases z
     . have z2:=un.frzs b ob _ z;obtain ⟨e1,_⟩:=hok b _ z;obtain ⟨e2,_⟩:=hok' b _ z2;rw[e] at e1;cases e1;exact e2
 cases hk:K.lookup a with
 | some o=>have e:=KX a o hk;rw[ha] at e;cases e;refine core (λ_=>none) (λ_=>.inl rfl) (.inr ⟨_,vs.toArray,_,hk,rfl,rfl,rfl,by rw[aQI,lenV];exact hl,by simpa using rv⟩) (λb u z=>by have z':(none:Option HO)=some u:=z;cases z') (λb z=>absurd rfl z) λz=>absurd rfl z
 | none =>
  refine core (λb=>if b=a then some (.frz { cls:=.type "list", data:=.seq vs.toArray } (.lst (ns.map V.int))) else none) (λb=>?_) (.inl (.inr ⟨{ cls:=.type "list", data:=.seq vs.toArray },if_pos rfl⟩)) (λb u z=>?_) (λb z=>?_) λ_=>hk
  . by_cases hb:b=a
    . exact .inr ⟨_,_,if_pos hb⟩
    . exact .inl (if_neg hb)
  . by_cases hb:b=a
    . have z':=(if_pos hb).symm.trans z;cases z';subst hb;exact ⟨ha,by rw[aQ1];exact hl,vs,_,rv,ha⟩
    . have z':=(if_neg hb).symm.trans z;cases z'
  . by_cases hb:b=a
    . exact hb
    . exact absurd (if_neg hb) z
abbrev KOf{K:Fg}{h:Heap}(_:K.In h):Fg:=K
theorem nN{l:PySem.W.OpenLaw}{n k:Nat}{q:Program}{loose:List Str}{XP:(Str->Option Value)->Heap->Prop}{YP:World->Heap->Prop}{d:DefRec}{K:Params->Fg}{CX:World->CXT}{sp:World->Sp}{x:Str}(hn:l.most=some n)(hn2:n<=sizeLine)(hdf:d.params.defaults=[])(hr:cX k callerA)(hY:∀ (w:World) (h:Heap),YP w h->(K w.params).In h)(F:∀ (w:World) (mg:SOV) (fa:Addr) (h:Heap),(K w.params).In h->h.Ns mainGlobals mg->mg d.name=some (.ref fa)->∃ fd:FuncData,(∀ (s:Shared) (u:Value),BindsTo s fd ⟨[u],[]⟩ [(x,u)])/\∀ base:Heap,(K w.params).In base->base.Ns mainGlobals mg->dM l.prog w (K w.params) mg base (CX w) k fa fd [x] (sp w))(hsp:∀ (w:World) (H:Hp) (a:Addr) (ns:List Int),ns.length<=n->qH H->SqL (K w.params) H a (ns.map V.int)->sp w [.ref a] H (λv _=>v=.bl true) λ_ _ _=>False)(hCX:∀ (w:World) (H:Hp) (s:Shared) (e:Value) (s':Shared),CX w [] H s (λ_ _ _=>False) e s'->False):PySem.W.WalkO q loose XP YP l.row.toRowW d [] (λf vs=>PySem.call f vs):=by refine Att.aEN hn hdf λw s₀ s₁ mg mb fa o pm cd doc a vs ns G Y ho hd hcd hmg hobj hints hlen hg=>?_;have KX:=hY w _ Y;obtain ⟨fd,hb,hF⟩:=F w mg fa _ KX G.T.g hmg;exact aEO KX G.T.g G.T.b G.T.builtins G.T.nolimit hg hobj hints (aPV hlen hn2) hr hF hb (λH hO hS=>hsp w H a ns hlen hO hS) λH e s'=>hCX w H s₁ e s'
def nO(s:Stmt):Arguments:=match s with
 | .FunctionDef _ a _ _ _ _ _ _ _ _=>a
 | _=>{ posonlyargs:=[],args:=[],vararg:=none,kwonlyargs:=[],kw_defaults:=[],kwarg:=none,defaults:=[] }
def jU(s:Stmt):List Stmt:=match s with
 | .FunctionDef _ _ b _ _ _ _ _ _ _=>b
 | _=>[]
def fW(s:Stmt):Scope:=match s with
 | .FunctionDef _ _ _ _ _ _ sc _ _ _=>sc
 | _=>{ kind:=.function,names:=[],isGenerator:=false,isCoroutine:=false }
structure Fun(K:Fg)(x aW:Str)(st:Stmt)(f:Addr)(fd:FuncData):Prop where
 ex:∃ (oc:Value) (od:Option Addr) (kV doc pm:Value) (an:Option Addr) (cdv ct:Value) (osl:Array (Option Value)),
  fd=PySem.W.fnOf x aW (nO st) (jU st) (fW st) .none kV doc pm an cdv ct/\K.lookup f=some ⟨oc,od,.func fd,osl⟩/\PySem.W.codeIn K cdv aW=true
 kp:PySem.W.keepIn K (.ref f)=true
section
variable {P:Program}{w:World}{K:Fg}{mg:SOV}{base:Heap}
theorem aEP{x aW:Str}{st:Stmt}{f:Addr}{oc:Value}{od an:Option Addr}{osl:Array (Option Value)}{kV doc pm cdv ct:Value}(l:K.lookup f=some ⟨oc,od,.func (PySem.W.fnOf x aW (nO st) (jU st) (fW st) .none kV doc pm an cdv ct),osl⟩)(c:PySem.W.codeIn K cdv aW=true)(k:PySem.W.keepIn K (.ref f)=true):Fun K x aW st f (PySem.W.fnOf x aW (nO st) (jU st) (fW st) .none kV doc pm an cdv ct):=⟨⟨oc,od,kV,doc,pm,an,cdv,ct,osl,rfl,l,c⟩,k⟩
end
section
variable {X:Cx}
end
def aE(H H':Hp):Prop:=∀ b o,H b=some o->H' b=some o
theorem aE.refl(H:Hp):aE H H:=λ_ _ h=>h
theorem aE.trans{H H1 H2:Hp}(a:aE H H1)(b:aE H1 H2):aE H H2:=λc o h=>b c o (a c o h)
theorem aE.free{H H':Hp}(e:aE H H'){l:Addr}(h:H' l=Option.none):H l=Option.none:=by
 cases q:H l with
 | none=>rfl
 | some o=>rw[e l o q] at h;cases h
theorem aE.seq{K:Fg}{H H':Hp}{a:Addr}{xs:List V}(e:aE H H')(h:SqL K H a xs):SqL K H' a xs:=by
 rcases h with (h | ⟨o,h⟩) | h
 . exact .inl (.inl (e _ _ h))
 . exact .inl (.inr ⟨o,e _ _ h⟩)
 . exact .inr h
section
variable {κ:Type}[DecidableEq κ]
end
theorem N.ind{P:N->Prop}(hi:∀ n,P (.i n))(hs:∀ x,P (.s x))(ht:∀ xs,(∀ x∈xs,P x)->P (.t xs))(k:N):P k :=
 N.rec (motive_1:=P) (motive_2:=λxs=>∀ x∈xs,P x) hi hs ht (λ_ h=>nomatch h) (λa l h1 h2 x hx=>by
  rcases aPY.mp hx with rfl | hx
  . exact h1
  . exact h2 x hx) k
mutual
def N.eq:N->N->Bool
 | .i n,.i m=>n==m
 | .s x,.s y=>x==y
 | .t xs,.t ys=>N.eqL xs ys
 | _,_=>false
def N.eqL:List N->List N->Bool
 | [],[]=>true
 | x::xs,y::ys=>N.eq x y&&N.eqL xs ys
 | _,_=>false
end
theorem N.eqL_iff:∀ {xs ys:List N},(∀ x∈xs,∀ y,N.eq x y=true↔x=y)->(N.eqL xs ys=true↔xs=ys)
 | [],[],_=>by simp[N.eqL]
 | [],_::_,_=>by simp[N.eqL]
 | _::_,[],_=>by simp[N.eqL]
 | x::xs,y::ys,h=>by rw[N.eqL,aRI,h x mcs y,N.eqL_iff λz hz=>h z (mcm hz),aRQ]
theorem N.eq_iff(k:N):∀ y,N.eq k y=true↔k=y:=by
 induction k using N.ind with
 | hi n=>intro y;cases y <;> simp[N.eq]
 | hs x=>intro y;cases y <;> simp[N.eq]
 | ht xs ih =>
  intro y;cases y with
  | t ys=>rw[N.eq,N.eqL_iff ih];simp
  | _=>simp[N.eq]
instance:DecidableEq N:=λa b=>decidable_of_iff _ (N.eq_iff a b)
mutual
def N.py:N->PyData
 | .i n=>.int n
 | .s x=>.str x
 | .t xs=>.tuple (N.pyL xs)
def N.pyL:List N->List PyData
 | []=>[]
 | x::xs=>N.py x::N.pyL xs
end
mutual
def N.dp:N->Nat
 | .i _=>0
 | .s _=>0
 | .t xs=>N.dpL xs+1
def N.dpL:List N->Nat
 | []=>0
 | x::xs=>max (N.dp x) (N.dpL xs)
end
theorem N.dp_mem:∀ {xs:List N} {x:N},x∈xs->x.dp<=N.dpL xs
 | y::ys,x,h=>by
  rw[N.dpL];rcases aPY.mp h with rfl | h
  . omega
  . have:=N.dp_mem h;omega
theorem N.py_depthL:∀ {xs:List N},(∀ x∈xs,x.py.depth=x.dp)->PyData.depthAll (N.pyL xs)=N.dpL xs
 | [],_=>by simp[N.pyL,N.dpL,PyData.depthAll]
 | x::xs,h=>by simp only[N.pyL,N.dpL,PyData.depthAll];rw[h x mcs,N.py_depthL λz hz=>h z (mcm hz)]
theorem N.py_depth(k:N):k.py.depth=k.dp:=by
 induction k using N.ind with
 | hi n=>simp[N.py,N.dp,PyData.depth]
 | hs x=>simp[N.py,N.dp,PyData.depth]
 | ht xs ih=>simp only[N.py,N.dp,PyData.depth];rw[N.py_depthL ih]
theorem N.py_eqvL:∀ {xs ys:List N},(∀ x∈xs,∀ y:N,PyData.eqv x.py y.py=decide (x=y))->PyData.eqvAll (N.pyL xs) (N.pyL ys)=decide (xs=ys)
 | [],[],_=>by simp[N.pyL,PyData.eqvAll]
 | [],_::_,_=>by simp[N.pyL,PyData.eqvAll]
 | _::_,[],_=>by simp[N.pyL,PyData.eqvAll]
 | x::xs,y::ys,h=>by simp only[N.pyL,PyData.eqvAll];rw[h x mcs y,N.py_eqvL λz hz=>h z (mcm hz)];by_cases e1:x=y <;> by_cases e2:xs=ys <;> simp[e1,e2]
theorem N.py_eqv(k:N):∀ y:N,PyData.eqv k.py y.py=decide (k=y):=by
 induction k using N.ind with
 | hi n =>
  intro y;cases y with
  | i m=>simp only[N.py,PyData.eqv];by_cases e:n=m <;> simp[e]
  | s x=>simp[N.py,PyData.eqv]
  | t xs=>simp[N.py,PyData.eqv]
 | hs x =>
  intro y;cases y with
  | i m=>simp[N.py,PyData.eqv]
  | s z=>simp only[N.py,PyData.eqv];by_cases e:x=z <;> simp[e]
  | t xs=>simp[N.py,PyData.eqv]
 | ht xs ih =>
  intro y;cases y with
  | i m=>simp[N.py,PyData.eqv]
  | s z=>simp[N.py,PyData.eqv]
  | t ys=>simp only[N.py,PyData.eqv];rw[N.py_eqvL ih];by_cases e:xs=ys <;> simp[e]
mutual
def IsN(h:Heap):N->Value->Prop
 | .i n,v=>∃ t,v=.int n t
 | .s x,v=>(∃ t,v=.str x t)/\PyData.strOk x=true
 | .t xs,v=>∃ a o items n,v=.ref a/\h.get? a=some o/\o.cls=.type "tuple" /\ o.data=.seq items n/\aR h xs items.toList
def aR(h:Heap):List N->List Value->Prop
 | [],vs=>vs=[]
 | x::xs,vs=>∃ v us,vs=v::us/\IsN h x v/\aR h xs us
end
theorem aR.mem:∀ {h:Heap} {xs:List N} {vs:List Value},aR h xs vs->∀ v∈vs,∃ x∈xs,IsN h x v
 | h,[],vs,q,v,hv=>by rw[aR] at q;subst q;cases hv
 | h,x::xs,vs,q,v,hv=>by
  rw[aR] at q;obtain ⟨u,us,rfl,q1,q2⟩:=q;rcases aPY.mp hv with rfl | hv
  . exact ⟨x,mcs,q1⟩
  . obtain ⟨y,hy,e⟩:=q2.mem v hv;exact ⟨y,mcm hy,e⟩
theorem aR.map:∀ {h h':Heap} {xs:List N} {vs:List Value},aR h xs vs->(∀ x∈xs,∀ v,IsN h x v->IsN h' x v)->aR h' xs vs
 | h,h',[],vs,q,k=>by rw[aR] at q ⊢;exact q
 | h,h',x::xs,vs,q,k=>by rw[aR] at q ⊢;obtain ⟨u,us,e,q1,q2⟩:=q;exact ⟨u,us,e,k x mcs u q1,q2.map λy hy=>k y (mcm hy)⟩
theorem IsN.keeps{h h':Heap}{d:Addr}{o:Obj}{es ep}(ho:h.get? d=some o)(hd:o.data=.dict es ep)(hs:Heap.SameBut d h h')(k:N):∀ v,IsN h k v->IsN h' k v:=by
 induction k using N.ind with
 | hi n=>intro v q;rw[IsN] at q ⊢;exact q
 | hs x=>intro v q;rw[IsN] at q ⊢;exact q
 | ht xs ih =>
  intro v q;rw[IsN] at q ⊢;obtain ⟨a,o',items,n,e,ha,hc,hd',hi⟩:=q;have hne:a≠d:=by rintro rfl;obtain rfl:o'=o:=aP4 (ha.symm.trans ho);rw[hd] at hd';exact nomatch hd'
  exact ⟨a,o',items,n,e,(hs.2 a hne).trans ha,hc,hd',hi.map ih⟩
theorem aR.readsL:∀ {h:Heap} {xs:List N} {vs:List Value},aR h xs vs->(∀ x∈xs,∀ v,IsN h x v->(∃ as,Reads h v x.py as)/\x.py.canLay0=true)->(∃ as,ReadsAll h vs (N.pyL xs) as)/\PyData.canLayAll0 (N.pyL xs)=true
 | h,[],vs,q,k=>by rw[aR] at q;subst q;exact ⟨⟨_,.nil⟩,by simp[N.pyL,PyData.canLayAll0]⟩
 | h,x::xs,vs,q,k=>by rw[aR] at q;obtain ⟨u,us,rfl,q1,q2⟩:=q;obtain ⟨⟨as,ra⟩,ca⟩:=k x mcs u q1;obtain ⟨⟨bs,rb⟩,cb⟩:=q2.readsL λy hy=>k y (mcm hy);exact ⟨⟨_,.cons ra rb⟩,by simp only[N.pyL,PyData.canLayAll0,ca,cb,Bool.and_self]⟩
theorem IsN.reads{h:Heap}(k:N):∀ v,IsN h k v->(∃ as,Reads h v k.py as)/\k.py.canLay0=true:=by
 induction k using N.ind with
 | hi n=>intro v q;rw[IsN] at q;obtain ⟨t,rfl⟩:=q;exact ⟨⟨_,.int n t⟩,rfl⟩
 | hs x=>intro v q;rw[IsN] at q;obtain ⟨⟨t,rfl⟩,hk⟩:=q;exact ⟨⟨_,.str x t⟩,by simpa only [N.py,PyData.canLay0] using hk⟩
 | ht xs ih=>intro v q;rw[IsN] at q;obtain ⟨a,o',items,n,rfl,ha,hc,hd',hi⟩:=q;obtain ⟨⟨as,ra⟩,ca⟩:=hi.readsL ih;exact ⟨⟨_,.tuple ha hc hd' ra⟩,by simpa only [N.py,PyData.canLay0] using ca⟩
theorem aR.inj:∀ {h:Heap} {xs ys:List N} {vs:List Value},(∀ x∈xs,∀ y v,IsN h x v->IsN h y v->x=y)->aR h xs vs->aR h ys vs->xs=ys
 | h,[],[],vs,_,_,_=>rfl
 | h,[],y::ys,vs,_,p,q=>by rw[aR] at p;subst p;rw[aR] at q;obtain ⟨_,_,e,_⟩:=q;cases e
 | h,x::xs,[],vs,_,p,q=>by rw[aR] at q;subst q;rw[aR] at p;obtain ⟨_,_,e,_⟩:=p;cases e
 | h,x::xs,y::ys,vs,k,p,q=>by rw[aR] at p q;obtain ⟨u,us,rfl,p1,p2⟩:=p;obtain ⟨_,_,e,q1,q2⟩:=q;cases e;rw[k x mcs y _ p1 q1,aR.inj (λz hz=>k z (mcm hz)) p2 q2]
theorem IsN.inj{h:Heap}(k:N):∀ y v,IsN h k v->IsN h y v->k=y:=by
 induction k using N.ind with
 | hi n =>
  intro y v p q;rw[IsN] at p;obtain ⟨t,rfl⟩:=p;cases y with
  | i m=>rw[IsN] at q;obtain ⟨u,e⟩:=q;cases e;rfl
  | s x=>rw[IsN] at q;obtain ⟨⟨u,e⟩,_⟩:=q;cases e
  | t xs=>rw[IsN] at q;obtain ⟨_,_,_,_,e,_⟩:=q;cases e
 | hs x =>
  intro y v p q;rw[IsN] at p;obtain ⟨⟨t,rfl⟩,_⟩:=p;cases y with
  | i m=>rw[IsN] at q;obtain ⟨u,e⟩:=q;cases e
  | s x=>rw[IsN] at q;obtain ⟨⟨u,e⟩,_⟩:=q;cases e;rfl
  | t xs=>rw[IsN] at q;obtain ⟨_,_,_,_,e,_⟩:=q;cases e
 | ht xs ih =>
  intro y v p q;rw[IsN] at p;obtain ⟨a,o,items,n,rfl,ha,hc,hd,hi⟩:=p;cases y with
  | i m=>rw[IsN] at q;obtain ⟨u,e⟩:=q;cases e
  | s x=>rw[IsN] at q;obtain ⟨⟨u,e⟩,_⟩:=q;cases e
  | t ys =>
   rw[IsN] at q;obtain ⟨a',o',items',n',e,ha',_,hd',hi'⟩:=q;cases e;obtain rfl:o=o':=aP4 (ha.symm.trans ha');rw[hd] at hd';injection hd' with h1 _
   subst h1;rw[aR.inj ih hi hi']
mutual
def N.dr:N->Nat
 | .i _=>1
 | .s _=>1
 | .t xs=>N.drL xs+1
def N.drL:List N->Nat
 | []=>0
 | x::xs=>N.dr x+N.drL xs
end
section
variable {prog:Program}{w:World}{A:Around}{E:VSP}{s:Shared}
theorem vK:∀ (xs:List N) (y:N),N.drL (xs++[y])=N.drL xs+N.dr y
 | [],y=>by simp[N.drL]
 | x::xs,y=>by rw[aRR,N.drL,vK xs y,N.drL,aRS]
theorem vL:∀ (xs:List N) (y:N),eN w (xs++[y])=eN w xs++[bB w y]
 | [],y=>by simp[eN]
 | x::xs,y=>by rw[aRR,eN,vL xs y,eN,aRR]
theorem qI(k:N):∀ {A:Around} {E:VSP} {s:Shared} {v:Value} {Q:Int->Shared->Prop},A.units+k.dp<cLine->IsN s.heap k v->Q (bB w k) { s with toks:=s.toks+k.dr } -> wpAny (model prog w) A (pyHash v) Q E s:=by
 induction k using N.ind with
 | hi n=>intro A E s v Q hu hk h;rw[IsN] at hk;obtain ⟨t,rfl⟩:=hk;rw[bB,N.dr] at h;exact wpAny_pyHash_int h
 | hs x=>intro A E s v Q hu hk h;rw[IsN] at hk;obtain ⟨⟨t,rfl⟩,_⟩:=hk;rw[bB,N.dr] at h;exact wpAny_pyHash_str h
 | ht xs ih =>
  intro A E s v Q hu hk h;rw[IsN] at hk;obtain ⟨a,o,items,n,rfl,ho,hc,hd,hi⟩:=hk;rw[N.dp] at hu;have hT:s.TypeIs (.ref a) "tuple" := ⟨o,ho,hc⟩;unfold pyHash
  first | unfold pyHashByItsType | skip
  first | refine aP9 (wpAny_cRoomFor_or (.inr (by omega)) ?_) | skip
  refine aP9 (aRT hT F.slot_tuple_hash.lookup ?_);show wpAny _ _ (if (some (Value.builtin "tuple.__hash__")==some Value.none)=true then _ else _) Q E s;rw[if_neg (by rw[beq_builtin_none];exact aQK)]
  refine aP9 (aRT hT F.slot_tuple_hash.lookup ?_);show wpAny _ _ (callSpecialIfBoundUnlessNone? (.ref a) "__hash__" _ >>= _) Q E s;refine aP9 (wpAny_callSpecialIfBoundUnlessNone?_slot hT F.slot_tuple_hash (aRG F.slot_tuple_hash hT F.entry_tuple_hash ?_ (F.args_tuple_hash_1 _)));show wpAny _ _ (Builtin.Tuple.tupleItemsOf (.ref a) >>= _) _ _ s;refine aP9 (wpAny_tupleItemsOf ho hd ?_);refine aP9 ?_;rw[<- aRU];refine aRV _
   (λaN (b:Array Int) s'=>∃ done left,xs=done++left/\aR s.heap left aN/\b.toList=eN w done/\s'={ s with toks:=s.toks+N.drL done })
   _ ?_ ?_ _ _ ⟨[],xs,rfl,hi,by simp[eN],by simp[N.drL]⟩
  . rintro x aN b s' ⟨done,left,e,hl,hb,rfl⟩;cases left with
    | nil=>rw[aR] at hl;cases hl
    | cons k ks =>
     rw[aR] at hl;obtain ⟨_,_,e',h1,hl'⟩:=hl;cases e';have hm:k∈xs:=by rw[e];simp
     refine aP9 (ih k hm (A:=A.in1) (by have:=N.dp_mem hm;show A.units+1+_<_;omega) h1 ?_)
     have fin:∃ done' left',xs=done'++left'/\aR s.heap left' aN/\(b.push (bB w k)).toList=eN w done'/\({ s with toks:=s.toks+N.drL done+k.dr }:Shared)={ s with toks:=s.toks+N.drL done' } :=
      ⟨done++[k],ks,by rw[e];simp,hl',by rw[vL,Array.toList_push,hb],by rw[vK,aRS]⟩
     first
      | exact aP8 fin
      | exact aP9 (aP8 (aP8 fin))
  . rintro b s' ⟨done,left,e,hl,hb,rfl⟩;cases left with
    | cons k ks=>rw[aR] at hl;obtain ⟨_,_,e',_⟩:=hl;cases e'
    | nil =>
    rw[aQQ] at e;subst e;show wpAny _ _ (retInt (Builtin.Tuple.tupleHashOf b.toList)) _ _ _;rw[hb];refine wpAny_ret_mkInt ?_;show wpAny _ _ (if (decide (-(2:Int) ^ 63<=Builtin.Tuple.tupleHashOf (eN w xs))&&decide (Builtin.Tuple.tupleHashOf (eN w xs)<2 ^ 63))=true then _ else _) Q E _;rw[bB,N.dr] at h;unfold reduceHash at h;by_cases hr:(decide (-(2:Int) ^ 63<=Builtin.Tuple.tupleHashOf (eN w xs))&&decide (Builtin.Tuple.tupleHashOf (eN w xs)<2 ^ 63))=true
    . rw[if_pos hr];rw[if_pos hr] at h;exact aP8 (by simpa[aRS] using h)
    . rw[if_neg hr];rw[if_neg hr] at h;exact aP9 (wpAny_rule (aP8 (by simpa[aRS] using h)))
theorem qJ{x y:N}{u v:Value}{Q:Bool->Shared->Prop}(hu:A.units+x.dp<cLine)(hx:IsN s.heap x u)(hy:IsN s.heap y v)(h:Q (decide (x=y)) s):wpAny (model prog w) A (eqBool u v) Q E s:=by
 obtain ⟨⟨as,ra⟩,ca⟩:=IsN.reads x u hx;obtain ⟨⟨bs,rb⟩,cb⟩:=IsN.reads y v hy;refine SeqAt.eqAt_reads x.py y.py A s u v as bs ra rb ca cb (by rw[N.py_depth];have:=aRW x.dp y.py.depth;omega) prog w E Q ?_
 rw[N.py_eqv];exact h
theorem qK(k:N):∀ {n:Nat} {v:Value} {Q:Bool->Shared->Prop},k.dp<=n->IsN s.heap k v->Q true s->wpAny (model prog w) A (eqIsQuiet n v) Q E s:=by
 induction k using N.ind with
 | hi m=>intro n v Q hn hk h;rw[IsN] at hk;obtain ⟨t,rfl⟩:=hk;rw[eqIsQuiet_byValue n rfl];exact aP8 h
 | hs x=>intro n v Q hn hk h;rw[IsN] at hk;obtain ⟨⟨t,rfl⟩,_⟩:=hk;rw[eqIsQuiet_byValue n rfl];exact aP8 h
 | ht xs ih =>
  intro n v Q hn hk h;rw[IsN] at hk;obtain ⟨a,o,items,c,rfl,ho,hc,hd,hi⟩:=hk;rw[N.dp] at hn;cases n with
  | zero=>omega
  | succ n =>
   have hT:s.TypeIs (.ref a) "tuple" := ⟨o,ho,hc⟩;unfold eqIsQuiet;refine aP9 (aRT hT F.slot_tuple_eq.lookup ?_);show wpAny _ _ (isInstance (.ref a) (.type "tuple") >>= _) _ _ s;refine aP9 (aRX hT isSubtype_tuple_tuple ?_);simp only[aRY,aRZ,aQ9];refine aP9 (wpAny_seqItems ho hd ?_);refine aP9 ?_;show wpAny _ _ (forIn items _ _) _ _ s;rw[<- aRU];refine aRV _ (λaN r s'=>r.1=none/\s'=s/\∀ v∈aN,∃ x∈xs,IsN s.heap x v) _ ?_ ?_ _ _ ⟨rfl,rfl,hi.mem⟩
   . rintro v aN r s' ⟨hr,rfl,hall⟩;obtain ⟨x,hx,hv⟩:=hall v mcs;refine aP9 (ih x hx (n:=n) (by have:=N.dp_mem hx;omega) hv ?_)
     simp only[aRY,aRZ,aQ9];exact aP8 ⟨rfl,rfl,λu hu'=>hall u (mcm hu')⟩
   . rintro ⟨r1,r2⟩ s' ⟨hr,rfl,_⟩;simp only at hr;subst hr;exact aP8 h
end
def nP(prog:Program)(w:World):HeapKind prog w N where
 is:=λh k a=>IsN h k (.ref a)/\k.dp<=8
 hash:=bB w
 draws:=N.dr
 room:=λA=>A.units+8<cLine
 inj:=λhx hy=>IsN.inj _ _ _ hx.1 hy.1
 keeps:=λx ho hd hs=>⟨IsN.keeps ho hd hs _ _ x.1,x.2⟩
 pyHash:=λhu hk h=>qI _ (by have:=hk.2;omega) hk.1 h
 eqBool:=λhu hx hy h=>qJ (by have:=hx.2;omega) hx.1 hy.1 h
 quiet:=λhk h=>qK _ hk.2 hk.1 h
end L2
namespace D3
open PySem PySem.Spec PyProof.Rows L2
inductive D where
 | non | bl (b:Bool) | int (i:Int) | str (x:Str) | tup (xs:List D) | lst (xs:List D) | dct (kvs:List (Key×D)) | ty (n:String) | ob (a:Addr) | ins (c:Str) (fs:List (Str×D)) | fn (x:Str) | exn (c:Str) | set (ks:List Key) | dtn (kvs:List (N×D)) | dtf (kvs:List (N×D))
inductive Md where | fz | fr | bo
 deriving DecidableEq
inductive Res where
 | ok (m:Md) (d:D) | exc (c:Str) | stuck
def xobj(a C:Addr):HO:=.ext λh=>∃ o,h.get? a=some o/\o.cls=.ref C
mutual
def NAt(K:Fg)(F:Hp):N->V->Prop
 | .i n,v=>v=.int n
 | .s x,v=>v=.str x/\x.length<=sizeLine/\PyData.strOk x=true
 | .t xs,v=>∃ a ys,v=.ref a/\SqT K F a ys/\bW K F xs ys
def bW(K:Fg)(F:Hp):List N->List V->Prop
 | [],ys=>ys=[]
 | x::xs,ys=>∃ y zs,ys=y::zs/\NAt K F x y/\bW K F xs zs
end
def vM(S:Key->Bool)(ks:List Key):Prop:=ks.Nodup/\∀ k,S k=true↔k∈ks
mutual
def aB(K:Fg)(F:Hp):D->V->Prop
 | .non,v=>v=.non
 | .bl b,v=>v=.bl b
 | .int i,v=>v=.int i
 | .str x,v=>v=.str x/\x.length<=sizeLine/\PyData.strOk x=true
 | .tup ds,v=>∃ a xs,v=.ref a/\SqT K F a xs/\aC K F ds xs
 | .lst ds,v=>∃ a xs,v=.ref a/\SqL K F a xs/\aC K F ds xs
 | .dct kvs,v=>∃ a xs,v=.ref a/\F a=some (.dK xs)/\dO K F kvs xs
 | .ty n,v=>v=.ty n
 | .ob a,v=>v=.ref a
 | .ins c fs,v=>∃ a C dx gs,v=.ref a/\PySem.W.nsIn K mainGlobals c=some (some (.ref C))/\F a=some (.ins C dx gs)/\dD K F fs gs
 | .fn x,v=>∃ a,v=.ref a/\PySem.W.nsIn K mainGlobals x=some (some (.ref a))
 | .exn c,v=>∃ a C,v=.ref a/\PySem.W.nsIn K mainGlobals c=some (some (.ref C))/\F a=some (xobj a C)
 | .set ks,v=>∃ a S,v=.ref a/\F a=some (.set S ks.length)/\vM S ks
 | .dtn kvs,v=>∃ a xs,v=.ref a/\F a=some (.dN xs)/\aP K F kvs xs
 | .dtf kvs,v=>∃ a o xs,v=.ref a/\F a=some (.frz o (.dN xs))/\aP K F kvs xs
def aP(K:Fg)(F:Hp):List (N×D)->List (N×Addr×V)->Prop
 | [],xs=>xs=[]
 | (k,d)::ds,xs=>∃ b y ys,xs=(k,b,y)::ys/\(NAt K F k (.ref b)/\k.dp<=8)/\aB K F d y/\aP K F ds ys
def aC(K:Fg)(F:Hp):List D->List V->Prop
 | [],xs=>xs=[]
 | d::ds,xs=>∃ y ys,xs=y::ys/\aB K F d y/\aC K F ds ys
def dO(K:Fg)(F:Hp):List (Key×D)->List (Key×V)->Prop
 | [],xs=>xs=[]
 | (k,d)::ds,xs=>∃ y ys,xs=(k,y)::ys/\aB K F d y/\dO K F ds ys
def dD(K:Fg)(F:Hp):List (Str×D)->List (Str×V)->Prop
 | [],xs=>xs=[]
 | (k,d)::ds,xs=>∃ y ys,xs=(k,y)::ys/\aB K F d y/\dD K F ds ys
end
theorem aE.seqT{K:Fg}{H H':Hp}{a:Addr}{xs:List V}(e:aE H H')(h:SqT K H a xs):SqT K H' a xs:=by
 rcases h with (h | ⟨o,h⟩) | h
 . exact .inl (.inl (e _ _ h))
 . exact .inl (.inr ⟨o,e _ _ h⟩)
 . exact .inr h
section
variable {K:Fg}{F F':Hp}
theorem bW.map:∀ {xs:List N} {ys:List V},bW K F xs ys->(∀ x∈xs,∀ v,NAt K F x v->NAt K F' x v)->bW K F' xs ys
 | [],_,h,_=>by simpa only [bW] using h
 | x::xs,ys,h,k=>by simp only[bW] at h ⊢;obtain ⟨y,zs,e,q,r⟩:=h;exact ⟨y,zs,e,k x mcs y q,r.map λz hz=>k z (mcm hz)⟩
theorem NAt.mono(s:aE F F')(k:N):∀ v,NAt K F k v->NAt K F' k v:=by
 induction k using N.ind with
 | hi n=>intro v h;simpa only [NAt] using h
 | hs x=>intro v h;simpa only [NAt] using h
 | ht xs ih=>intro v h;simp only[NAt] at h ⊢;obtain ⟨a,ys,e,q,r⟩:=h;exact ⟨a,ys,e,aE.seqT s q,r.map ih⟩
mutual
theorem aB.mono(s:aE F F'):∀ (d:D) (v:V),aB K F d v->aB K F' d v
 | .non,_,h=>by simpa only [aB] using h
 | .bl _,_,h=>by simpa only [aB] using h
 | .int _,_,h=>by simpa only [aB] using h
 | .str _,_,h=>by simpa only [aB] using h
 | .tup ds,v,h=>by simp only[aB] at h ⊢;obtain ⟨a,xs,e,q,r⟩:=h;exact ⟨a,xs,e,aE.seqT s q,aC.mono s ds xs r⟩
 | .lst ds,v,h=>by simp only[aB] at h ⊢;obtain ⟨a,xs,e,q,r⟩:=h;exact ⟨a,xs,e,s.seq q,aC.mono s ds xs r⟩
 | .dct ds,v,h=>by simp only[aB] at h ⊢;obtain ⟨a,xs,e,q,r⟩:=h;exact ⟨a,xs,e,s _ _ q,dO.mono s ds xs r⟩
 | .ty _,_,h=>by simpa only [aB] using h
 | .ob _,_,h=>by simpa only [aB] using h
 | .fn _,_,h=>by simpa only [aB] using h
 | .exn _,_,h=>by simp only[aB] at h ⊢;obtain ⟨a,C,e,n,q⟩:=h;exact ⟨a,C,e,n,s _ _ q⟩
 | .set _,_,h=>by simp only[aB] at h ⊢;obtain ⟨a,S,e,q,r⟩:=h;exact ⟨a,S,e,s _ _ q,r⟩
 | .dtn ds,v,h=>by simp only[aB] at h ⊢;obtain ⟨a,xs,e,q,r⟩:=h;exact ⟨a,xs,e,s _ _ q,aP.mono s ds xs r⟩
 | .dtf ds,v,h=>by simp only[aB] at h ⊢;obtain ⟨a,o,xs,e,q,r⟩:=h;exact ⟨a,o,xs,e,s _ _ q,aP.mono s ds xs r⟩
 | .ins c fs,v,h=>by simp only[aB] at h ⊢;obtain ⟨a,C,dx,gs,e,n,q,r⟩:=h;exact ⟨a,C,dx,gs,e,n,s _ _ q,dD.mono s fs gs r⟩
theorem aC.mono(s:aE F F'):∀ (ds:List D) (xs:List V),aC K F ds xs->aC K F' ds xs
 | [],_,h=>by simpa only [aC] using h
 | d::ds,xs,h=>by simp only[aC] at h ⊢;obtain ⟨y,ys,e,q,r⟩:=h;exact ⟨y,ys,e,aB.mono s d y q,aC.mono s ds ys r⟩
theorem dO.mono(s:aE F F'):∀ (ds:List (Key×D)) (xs:List (Key×V)),dO K F ds xs->dO K F' ds xs
 | [],_,h=>by simpa only [dO] using h
 | (k,d)::ds,xs,h=>by simp only[dO] at h ⊢;obtain ⟨y,ys,e,q,r⟩:=h;exact ⟨y,ys,e,aB.mono s d y q,dO.mono s ds ys r⟩
theorem aP.mono(s:aE F F'):∀ (ds:List (N×D)) (xs:List (N×Addr×V)),aP K F ds xs->aP K F' ds xs
 | [],_,h=>by simpa only [aP] using h
 | (k,d)::ds,xs,h=>by simp only[aP] at h ⊢;obtain ⟨b,y,ys,e,n,q,r⟩:=h;exact ⟨b,y,ys,e,⟨NAt.mono s k _ n.1,n.2⟩,aB.mono s d y q,aP.mono s ds ys r⟩
theorem dD.mono(s:aE F F'):∀ (ds:List (Str×D)) (xs:List (Str×V)),dD K F ds xs->dD K F' ds xs
 | [],_,h=>by simpa only [dD] using h
 | (k,d)::ds,xs,h=>by simp only[dD] at h ⊢;obtain ⟨y,ys,e,q,r⟩:=h;exact ⟨y,ys,e,aB.mono s d y q,dD.mono s ds ys r⟩
end
theorem dD.lookN:∀ {ds:List (Str×D)} {xs:List (Str×V)} {f:Str},dD K F ds xs->ds.lookup f=none->xs.lookup f=none
 | [],_,_,h,e=>by simp only[dD] at h;subst h;rfl
 | (k,d')::ds,_,f,h,e=>by
  simp only[dD] at h;obtain ⟨y,ys,rfl,q,r⟩:=h;rw[aR0] at e ⊢;split at e
  . cases e
  . exact dD.lookN r e
theorem aC.length:∀ {ds:List D} {xs:List V},aC K F ds xs->xs.length=ds.length
 | [],_,h=>by simp only[aC] at h;subst h;rfl
 | d::ds,_,h=>by simp only[aC] at h;obtain ⟨y,ys,rfl,_,r⟩:=h;rw[aR1,aR1,aC.length r]
theorem aC.get:∀ {ds:List D} {xs:List V} {i:Nat} {x:V},aC K F ds xs->xs[i]? = some x->∃ d,ds[i]? = some d/\aB K F d x
 | [],_,_,_,h,e=>by simp only[aC] at h;subst h;simp at e
 | d::ds,_,0,_,h,e=>by simp only[aC] at h;obtain ⟨y,ys,rfl,r,_⟩:=h;simp at e;subst e;exact ⟨d,rfl,r⟩
 | d::ds,_,i+1,_,h,e=>by
  simp only[aC] at h;obtain ⟨y,ys,rfl,_,r⟩:=h;obtain ⟨d',e',r'⟩:=aC.get (i:=i) r (by simpa using e)
  exact ⟨d',by simpa using e',r'⟩
theorem aC.get':∀ {ds:List D} {xs:List V} {i:Nat} {d:D},aC K F ds xs->ds[i]? = some d->∃ x,xs[i]? = some x/\aB K F d x
 | [],_,_,_,h,e=>by simp at e
 | d::ds,_,0,_,h,e=>by simp only[aC] at h;obtain ⟨y,ys,rfl,r,_⟩:=h;simp at e;subst e;exact ⟨y,rfl,r⟩
 | d::ds,_,i+1,_,h,e=>by
  simp only[aC] at h;obtain ⟨y,ys,rfl,_,r⟩:=h;obtain ⟨d',e',r'⟩:=aC.get' (i:=i) r (by simpa using e)
  exact ⟨d',by simpa using e',r'⟩
theorem aC.append:∀ {ds es:List D} {xs ys:List V},aC K F ds xs->aC K F es ys->aC K F (ds++es) (xs++ys)
 | [],_,_,_,h,r=>by simp only[aC] at h;subst h;exact r
 | d::ds,_,_,_,h,r=>by simp only[aC] at h;obtain ⟨y,ys,rfl,q,t⟩:=h;show aC K F (d::(ds++_)) (y::(ys++_));simp only[aC];exact ⟨y,_,rfl,q,aC.append t r⟩
theorem aC.nil:aC K F [] []:=by simp only[aC]
theorem aC.cons{d:D}{ds:List D}{x:V}{xs:List V}(h:aB K F d x)(r:aC K F ds xs):aC K F (d::ds) (x::xs):=by simp only[aC];exact ⟨x,xs,rfl,h,r⟩
end
def Top(K:Fg)(F H:Hp)(a:Addr):D->Prop
 | .lst ds=>∃ xs,H a=some (.lst xs)/\aC K F ds xs
 | .dct ds=>∃ xs,H a=some (.dK xs)/\dO K F ds xs
 | .ins c fs=>∃ C dx gs,PySem.W.nsIn K mainGlobals c=some (some (.ref C))/\H a=some (.ins C dx gs)/\dD K F fs gs
 | .set ks=>∃ S,H a=some (.set S ks.length)/\vM S ks
 | .dtn ds=>∃ xs,H a=some (.dN xs)/\aP K F ds xs
 | _=>False
def Rp(K:Fg)(F H:Hp)(m:Md)(d:D)(v:V):Prop :=
 match m with
 | .fz=>aB K F d v
 | _=>∃ a,v=.ref a/\F a=none/\Top K F H a d
structure aI(F H F' H':Hp):Prop where
 same:aE H H'
 fsame:aE F F'
 sub:aE F' H'
 new:∀ a,F a=none->H a≠none->F' a=none
theorem aI.refl{F H:Hp}(h:aE F H):aI F H F H:=⟨aE.refl _,aE.refl _,h,λ_ h _=>h⟩
theorem aI.trans{F H F1 H1 F2 H2:Hp}(a:aI F H F1 H1)(b:aI F1 H1 F2 H2):aI F H F2 H2 :=
 ⟨a.same.trans b.same,a.fsame.trans b.fsame,b.sub,λx h1 h2=>b.new x (a.new x h1 h2) (by
  cases e:H x with
  | none=>exact absurd e h2
  | some o=>rw[a.same x o e];exact λz=>nomatch z)⟩
theorem aI.laid{F H:Hp}{p:Addr}(o:HO)(h:aE F H)(hp:H p=none):aI F H (upd F p o) (upd H p o):=by
 have hf:F p=none:=h.free hp;refine ⟨λb u e=>?_,λb u e=>?_,λb u e=>?_,λa h1 h2=>?_⟩
 . rw[aU (cK e hp)];exact e
 . rw[aU (cK e hf)];exact e
 . by_cases hb:b=p
   . subst hb;rw[bQ] at e ⊢;exact e
   . rw[aU hb] at e ⊢;exact h b u e
 . have:a≠p:=by rintro rfl;exact h2 hp
   rw[aU this];exact h1
theorem aI.fresh{F H:Hp}{p:Addr}(o:HO)(h:aE F H)(hp:H p=none):aI F H F (upd H p o):=by
 refine ⟨λb u e=>?_,aE.refl _,λb u e=>?_,λa h1 _=>h1⟩
 . rw[aU (cK e hp)];exact e
 . rw[aU (cK (h b u e) hp)];exact h b u e
theorem Top.step{K:Fg}{F H F' H':Hp}{a:Addr}{d:D}(st:aI F H F' H')(h:Top K F H a d):Top K F' H' a d:=by
 cases d with
 | lst ds=>obtain ⟨xs,e,r⟩:=h;exact ⟨xs,st.same _ _ e,r.mono st.fsame _ _⟩
 | dct ds=>obtain ⟨xs,e,r⟩:=h;exact ⟨xs,st.same _ _ e,r.mono st.fsame _ _⟩
 | ins c fs=>obtain ⟨C,dx,gs,n,e,r⟩:=h;exact ⟨C,dx,gs,n,st.same _ _ e,r.mono st.fsame _ _⟩
 | set ks=>obtain ⟨S,e,r⟩:=h;exact ⟨S,st.same _ _ e,r⟩
 | dtn ds=>obtain ⟨xs,e,r⟩:=h;exact ⟨xs,st.same _ _ e,r.mono st.fsame _ _⟩
 | _=>exact h.elim
theorem Top.there{K:Fg}{F H:Hp}{a:Addr}{d:D}(h:Top K F H a d):H a≠none:=by
 cases d with
 | lst ds=>obtain ⟨xs,e,r⟩:=h;rw[e];exact λz=>nomatch z
 | dct ds=>obtain ⟨xs,e,r⟩:=h;rw[e];exact λz=>nomatch z
 | ins c fs=>obtain ⟨C,dx,gs,n,e,r⟩:=h;rw[e];exact λz=>nomatch z
 | set ks=>obtain ⟨S,e,r⟩:=h;rw[e];exact λz=>nomatch z
 | dtn ds=>obtain ⟨xs,e,r⟩:=h;rw[e];exact λz=>nomatch z
 | _=>exact h.elim
theorem Rp.step{K:Fg}{F H F' H':Hp}{m:Md}{d:D}{v:V}(st:aI F H F' H')(h:Rp K F H m d v):Rp K F' H' m d v:=by
 cases m with
 | fz=>exact aB.mono st.fsame d v h
 | fr=>obtain ⟨a,e,n,t⟩:=h;exact ⟨a,e,st.new a n t.there,t.step st⟩
 | bo=>obtain ⟨a,e,n,t⟩:=h;exact ⟨a,e,st.new a n t.there,t.step st⟩
theorem Rp.seqL{K:Fg}{F H:Hp}{m:Md}{ds:List D}{v:V}(s:aE F H)(h:Rp K F H m (.lst ds) v):∃ a xs,v=.ref a/\SqL K H a xs/\aC K F ds xs:=by
 cases m with
 | fz=>have h:aB K F (.lst ds) v:=h;simp only[aB] at h;obtain ⟨a,xs,e,q,r⟩:=h;exact ⟨a,xs,e,s.seq q,r⟩
 | fr=>obtain ⟨a,e,n,xs,q,r⟩:=h;exact ⟨a,xs,e,SqL.of q,r⟩
 | bo=>obtain ⟨a,e,n,xs,q,r⟩:=h;exact ⟨a,xs,e,SqL.of q,r⟩
theorem Rp.seqT{K:Fg}{F H:Hp}{m:Md}{ds:List D}{v:V}(s:aE F H)(h:Rp K F H m (.tup ds) v):∃ a xs,v=.ref a/\SqT K H a xs/\aC K F ds xs:=by
 cases m with
 | fz=>have h:aB K F (.tup ds) v:=h;simp only[aB] at h;obtain ⟨a,xs,e,q,r⟩:=h;exact ⟨a,xs,e,aE.seqT s q,r⟩
 | fr=>obtain ⟨a,e,n,q⟩:=h;exact q.elim
 | bo=>obtain ⟨a,e,n,q⟩:=h;exact q.elim
theorem Rp.dict{K:Fg}{F H:Hp}{m:Md}{ds:List (Key×D)}{v:V}(s:aE F H)(h:Rp K F H m (.dct ds) v):∃ a xs,v=.ref a/\H a=some (.dK xs)/\dO K F ds xs:=by
 cases m with
 | fz=>have h:aB K F (.dct ds) v:=h;simp only[aB] at h;obtain ⟨a,xs,e,q,r⟩:=h;exact ⟨a,xs,e,s _ _ q,r⟩
 | fr=>obtain ⟨a,e,n,xs,q,r⟩:=h;exact ⟨a,xs,e,q,r⟩
 | bo=>obtain ⟨a,e,n,xs,q,r⟩:=h;exact ⟨a,xs,e,q,r⟩
theorem Rp.ins{K:Fg}{F H:Hp}{m:Md}{c:Str}{fs:List (Str×D)}{v:V}(s:aE F H)(h:Rp K F H m (.ins c fs) v):∃ a C dx gs,v=.ref a/\PySem.W.nsIn K mainGlobals c=some (some (.ref C))/\H a=some (.ins C dx gs)/\dD K F fs gs:=by
 cases m with
 | fz=>have h:aB K F (.ins c fs) v:=h;simp only[aB] at h;obtain ⟨a,C,dx,gs,e,n,q,r⟩:=h;exact ⟨a,C,dx,gs,e,n,s _ _ q,r⟩
 | fr=>obtain ⟨a,e,n,C,dx,gs,z,q,r⟩:=h;exact ⟨a,C,dx,gs,e,z,q,r⟩
 | bo=>obtain ⟨a,e,n,C,dx,gs,z,q,r⟩:=h;exact ⟨a,C,dx,gs,e,z,q,r⟩
theorem Rp.int{K:Fg}{F H:Hp}{m:Md}{i:Int}{v:V}(h:Rp K F H m (.int i) v):v=.int i:=by
 cases m with
 | fz=>have h:aB K F (.int i) v:=h;simpa only [aB] using h
 | fr=>obtain ⟨a,e,n,q⟩:=h;exact q.elim
 | bo=>obtain ⟨a,e,n,q⟩:=h;exact q.elim
theorem Rp.bl{K:Fg}{F H:Hp}{m:Md}{i:Bool}{v:V}(h:Rp K F H m (.bl i) v):v=.bl i:=by
 cases m with
 | fz=>have h:aB K F (.bl i) v:=h;simpa only [aB] using h
 | fr=>obtain ⟨a,e,n,q⟩:=h;exact q.elim
 | bo=>obtain ⟨a,e,n,q⟩:=h;exact q.elim
theorem Rp.non{K:Fg}{F H:Hp}{m:Md}{v:V}(h:Rp K F H m .non v):v=.non:=by
 cases m with
 | fz=>have h:aB K F .non v:=h;simpa only [aB] using h
 | fr=>obtain ⟨a,e,n,q⟩:=h;exact q.elim
 | bo=>obtain ⟨a,e,n,q⟩:=h;exact q.elim
theorem Rp.str{K:Fg}{F H:Hp}{m:Md}{x:Str}{v:V}(h:Rp K F H m (.str x) v):v=.str x/\x.length<=sizeLine/\PyData.strOk x=true:=by
 cases m with
 | fz=>have h:aB K F (.str x) v:=h;simpa only [aB] using h
 | fr=>obtain ⟨a,e,n,q⟩:=h;exact q.elim
 | bo=>obtain ⟨a,e,n,q⟩:=h;exact q.elim
theorem Rp.ty{K:Fg}{F H:Hp}{m:Md}{n:String}{v:V}(h:Rp K F H m (.ty n) v):v=.ty n:=by
 cases m with
 | fz=>have h:aB K F (.ty n) v:=h;simpa only [aB] using h
 | fr=>obtain ⟨a,e,n,q⟩:=h;exact q.elim
 | bo=>obtain ⟨a,e,n,q⟩:=h;exact q.elim
theorem Rp.ob{K:Fg}{F H:Hp}{m:Md}{n:Addr}{v:V}(h:Rp K F H m (.ob n) v):v=.ref n:=by
 cases m with
 | fz=>have h:aB K F (.ob n) v:=h;simpa only [aB] using h
 | fr=>obtain ⟨a,e,n,q⟩:=h;exact q.elim
 | bo=>obtain ⟨a,e,n,q⟩:=h;exact q.elim
theorem rp_ty{K:Fg}{F H:Hp}(i:String):Rp K F H .fz (.ty i) (.ty i):=by show aB K F _ _;simp only[aB]
theorem cY{K:Fg}{F H:Hp}(i:Int):Rp K F H .fz (.int i) (.int i):=by show aB K F _ _;simp only[aB]
theorem cZ{K:Fg}{F H:Hp}(i:Bool):Rp K F H .fz (.bl i) (.bl i):=by show aB K F _ _;simp only[aB]
theorem vN{K:Fg}{F H:Hp}:Rp K F H .fz .non .non:=by show aB K F _ _;simp only[aB]
theorem iY{K:Fg}{F H:Hp}{x:Str}(h:x.length<=sizeLine/\PyData.strOk x=true):Rp K F H .fz (.str x) (.str x):=by show aB K F _ _;simp only[aB,true_and];exact h
abbrev Rho:=List (Option (Bool×D))
structure a5(K:Fg)(F0 H0 F H:Hp)(σ:L2.St)(ρ:Rho):Prop where
 st:aI F0 H0 F H
 slot:∀ (i:Nat) (m:Bool) (d:D),ρ[i]? = some (some (m,d))->∃ v,σ[i]? = some (some v)/\Rp K F H (if m then .bo else .fz) d v/\(m=true->∀ a,v=.ref a->H0 a=none)
 apart:∀ (i j:Nat) (d d':D) (a:Addr),i≠j->ρ[i]? = some (some (true,d))->ρ[j]? = some (some (true,d'))->σ[i]? = some (some (.ref a))->σ[j]? = some (some (.ref a))->False
 len:σ.length=ρ.length
theorem a5.step{K:Fg}{F0 H0 F H F' H':Hp}{σ:L2.St}{ρ:Rho}(r:a5 K F0 H0 F H σ ρ)(st:aI F H F' H'):a5 K F0 H0 F' H' σ ρ :=
 ⟨r.st.trans st,λi m d e=>by obtain ⟨v,e1,e2,e3⟩:=r.slot i m d e;exact ⟨v,e1,e2.step st,e3⟩,r.apart,r.len⟩
theorem a5.sub{K:Fg}{F0 H0 F H:Hp}{σ:L2.St}{ρ:Rho}(r:a5 K F0 H0 F H σ ρ):aE F H:=r.st.sub
abbrev XE:=Str->L2.St->Hp->Prop
structure Cw where
 K:Fg
 F0:Hp
 H0:Hp
 EE:XE
def tG(C:Cw)(g:Rho->Res):TE:=λσ H Q=>∃ ρ F,a5 C.K C.F0 C.H0 F H σ ρ/\match g ρ with
 | .ok m d=>∀ v F' H',aI F H F' H'->Rp C.K F' H' m d v->(m=.fr->∀ a,v=.ref a->H a=none)->Q v H'
 | .exc c=>∀ F' H',aI F H F' H'->C.EE c σ H'
 | .stuck=>False
abbrev Cw.at(C:Cw)(X:Cx):Cw:={ C with K:=X.K }
def PV(C:Cw)(X:Cx)(e:Expr)(g:Rho->Res):Prop:=PE X e (tG (C.at X) g)
theorem PE.imp{X:Cx}{e:Expr}{t t':TE}(h:PE X e t)(i:∀ σ H Q,t' σ H Q->t σ H Q):PE X e t':=λaA s σ H Q I q=>h aA s σ H Q I (i σ H Q q)
def Res.thn(r:Res)(k:Md->D->Res):Res:=match r with
 | .ok m d=>k m d
 | .exc c=>.exc c
 | .stuck=>.stuck
@[simp] theorem Res.thn_ok(m:Md)(d:D)(k:Md->D->Res):(Res.ok m d).thn k=k m d:=rfl
@[simp] theorem Res.thn_exc(c:Str)(k:Md->D->Res):(Res.exc c).thn k=.exc c:=rfl
@[simp] theorem Res.thn_stuck(k:Md->D->Res):Res.stuck.thn k=.stuck:=rfl
def Res.of:Option (Md×D)->Res
 | some (m,d)=>.ok m d
 | none=>.stuck
@[simp] theorem Res.of_some(m:Md)(d:D):Res.of (some (m,d))=.ok m d:=rfl
@[simp] theorem Res.of_none:Res.of none=.stuck:=rfl
def bC(C:Cw)(F H:Hp)(σ:L2.St)(r:Res)(Q:VK):Prop:=match r with
 | .ok m d=>∀ v F' H',aI F H F' H'->Rp C.K F' H' m d v->(m=.fr->∀ a,v=.ref a->H a=none)->Q v H'
 | .exc c=>∀ F' H',aI F H F' H'->C.EE c σ H'
 | .stuck=>False
theorem a7{C:Cw}{g:Rho->Res}{σ:L2.St}{H:Hp}{Q:VK}:tG C g σ H Q=∃ ρ F,a5 C.K C.F0 C.H0 F H σ ρ/\bC C F H σ (g ρ) Q:=by unfold tG bC;rfl
theorem bC.step{C:Cw}{F H F1 H1:Hp}{σ:L2.St}{r:Res}{Q:VK}(st:aI F H F1 H1)(h:bC C F H σ r Q):bC C F1 H1 σ r Q:=by
 cases r with
 | ok m d=>exact λv F' H' s2 rp hf=>h v F' H' (st.trans s2) rp λe a ea=>st.same.free (hf e a ea)
 | exc c=>exact λF' H' s2=>h F' H' (st.trans s2)
 | stuck=>exact h
section
variable {C:Cw}{X:Cx}{a b:Expr}{ga gb:Rho->Res}{pos:Pos}
def eO(ρ:Rho)(i:Nat):Res:=match ρ[i]? with
 | some (some (false,d))=>.ok .fz d
 | some (some (true,d))=>.ok .bo d
 | _=>.stuck
theorem aEQ(i:Nat){x:Str}(h:PE X (.Name x pos) (k4 i)):PV C X (.Name x pos) (λρ=>eO ρ i):=by
 refine PE.imp h λσ H Q q=>?_;rw[a7] at q;obtain ⟨ρ,F,R,w⟩:=q;unfold eO at w;cases e:ρ[i]? with
 | none=>rw[e] at w;exact w.elim
 | some o =>
  cases o with
  | none=>rw[e] at w;exact w.elim
  | some p =>
   obtain ⟨m,d⟩:=p;obtain ⟨v,e1,r,_⟩:=R.slot i m d e;rw[e] at w;cases m with
   | false=>exact ⟨v,e1,w v F H (.refl R.sub) r (by intro z;cases z)⟩
   | true=>exact ⟨v,e1,w v F H (.refl R.sub) r (by intro z;cases z)⟩
theorem iZ{e:Expr}{v:V}(d:D)(h:PE X e (tC v))(r:∀ F H,Rp X.K F H .fz d v):PV C X e (λ_=>.ok .fz d):=by refine PE.imp h λσ H Q q=>?_;rw[a7] at q;obtain ⟨ρ,F,R,w⟩:=q;exact w v F H (.refl R.sub) (r F H) (by intro z;cases z)
theorem aER{i j}:PV C X (.Constant (.int i) j pos) (λ_=>.ok .fz (.int i)):=iZ _ aB4 λ_ _=>cY i
theorem pv_bl{i j}:PV C X (.Constant (.bool i) j pos) (λ_=>.ok .fz (.bl i)):=iZ _ pe_bl λ_ _=>cZ i
theorem aES{j}:PV C X (.Constant .none j pos) (λ_=>.ok .fz .non):=iZ _ aB5 λ_ _=>vN
theorem aET{x:Str}{j}(h:(decide (x.length<=sizeLine)&&PyData.strOk x)=true:=by decide +kernel):PV C X (.Constant (.str x) j pos) (λ_=>.ok .fz (.str x)) :=
 iZ _ aB6 λ_ _=>iY (by rw[aRI,aR2] at h;exact h)
def op2(φ:Md->D->Md->D->Option (Md×D))(x y:Res):Res:=x.thn λm d=>y.thn λn e=>Res.of (φ m d n e)
def OpD(C:Cw)(X:Cx)(f:Value->Value->Sem Value)(φ:Md->D->Md->D->Option (Md×D)):Prop :=
 ∃ r:R2,OpR X f r/\∀ F H m x n y v u k d Q,aE F H->Rp X.K F H m x v->Rp X.K F H n y u->φ m x n y=some (k,d) ->
  (∀ v' F' H',aI F H F' H'->Rp X.K F' H' k d v'->(k=.fr->∀ a,v'=.ref a->H a=none)->Q v' H')->r v u H Q
theorem lE{φ:Md->D->Md->D->Option (Md×D)}{r:R2}(h:∀ F H m x n y v u k d Q,aE F H->Rp C.K F H m x v->Rp C.K F H n y u->φ m x n y=some (k,d)->(∀ v' F' H',aI F H F' H'->Rp C.K F' H' k d v'->(k=.fr->∀ a,v'=.ref a->H a=none)->Q v' H')->r v u H Q){σ:L2.St}{H:Hp}{Q:VK}(q:tG C (λρ=>op2 φ (ga ρ) (gb ρ)) σ H Q):tOp r (tG C ga) (tG C gb) σ H Q:=by
 unfold tOp;rw[a7] at q ⊢;obtain ⟨ρ,F,R,w⟩:=q;refine ⟨ρ,F,R,?_⟩;cases ea:ga ρ with
 | stuck=>simp only[op2,ea,Res.thn] at w;exact w
 | exc c=>simp only[op2,ea,Res.thn] at w;exact w
 | ok m d =>
  intro v F1 H1 s1 r1 _;rw[a7];refine ⟨ρ,F1,R.step s1,?_⟩;have w1:=w.step s1;simp only[op2,ea,Res.thn] at w1;cases eb:gb ρ with
  | stuck=>rw[eb] at w1;exact w1
  | exc c=>rw[eb] at w1;exact w1
  | ok n e =>
   rw[eb] at w1;intro u F2 H2 s2 r2 _;have w2:bC C F2 H2 σ (Res.of (φ m d n e)) Q:=bC.step s2 w1;cases ef:φ m d n e with
   | none=>rw[ef] at w2;exact w2.elim
   | some kd=>obtain ⟨k,d'⟩:=kd;rw[ef] at w2;exact h F2 H2 m d n e v u k d' Q s2.sub (r1.step s2) r2 ef w2
theorem pv_op{op:Operator}{φ}(o:OpD C X (binaryOp op) φ)(ha:PV C X a ga)(hb:PV C X b gb):PV C X (.BinOp a op b pos) (λρ=>op2 φ (ga ρ) (gb ρ)):=by obtain ⟨r,h1,h2⟩:=o;exact PE.imp (pe_op h1 ha hb) λσ H Q q=>lE h2 q
theorem vO{op:CmpOp}{φ}(o:OpD C X (compareOp op) φ)(ha:PV C X a ga)(hb:PV C X b gb)(hm:behindInMarks op b=false):PV C X (.Compare a [op] [b] pos) (λρ=>op2 φ (ga ρ) (gb ρ)):=by obtain ⟨r,h1,h2⟩:=o;exact PE.imp (aDA h1 ha hb hm) λσ H Q q=>lE h2 q
def orO(φ ψ:Md->D->Md->D->Option (Md×D)):Md->D->Md->D->Option (Md×D):=λm x n y=>(φ m x n y).orElse λ_=>ψ m x n y
theorem OpD.or{f:Value->Value->Sem Value}{φ ψ}(h:OpD C X f φ)(h':OpD C X f ψ):OpD C X f (orO φ ψ):=by
 obtain ⟨r,h1,h2⟩:=h;obtain ⟨r',h1',h2'⟩:=h';refine ⟨_,h1.or h1',λF H m x n y v u k d Q s rx ry e w=>?_⟩;unfold orO at e;cases e1:φ m x n y with
 | none=>rw[e1] at e;exact .inr (h2' F H m x n y v u k d Q s rx ry e w)
 | some p=>rw[e1] at e;cases e;exact .inl (h2 F H m x n y v u k d Q s rx ry e1 w)
def fI(c:Int->Int->Bool)(g:Int->Int->D):Md->D->Md->D->Option (Md×D):=λ_ x _ y=>match x,y with
 | .int i,.int j=>if c i j=true then some (.fz,g i j) else none
 | _,_=>none
theorem jV{f:Value->Value->Sem Value}{Cc:Int->Int->Prop}{c:Int->Int->Bool}{g:Int->Int->V}{g':Int->Int->D}(o:OpR X f (rI Cc g))(hc:∀ i j,c i j=true->Cc i j)(hg:∀ F H i j,Rp X.K F H .fz (g' i j) (g i j)):OpD C X f (fI c g'):=by
 refine ⟨_,o,λF H m x n y v u k d Q s rx ry e w=>?_⟩;unfold fI at e;split at e
 . rename_i i j;cases rx.int;cases ry.int;split at e
   . rename_i hcc;cases e;exact ⟨i,j,rfl,rfl,hc i j hcc,w _ F H (.refl s) (hg F H i j) (by intro z;cases z)⟩
   . cases e
 . cases e
theorem iF{f:Value->Value->Sem Value}{g:Int->Int->V}{g':Int->Int->D}(o:OpR X f (rI0 g))(hg:∀ F H i j,Rp X.K F H .fz (g' i j) (g i j)):OpD C X f (fI (λ_ _=>true) g'):=by
 refine ⟨_,o,λF H m x n y v u k d Q s rx ry e w=>?_⟩;unfold fI at e;split at e
 . rename_i i j;cases rx.int;cases ry.int;rw[if_pos rfl] at e;cases e;exact ⟨i,j,rfl,rfl,w _ F H (.refl s) (hg F H i j) (by intro z;cases z)⟩
 . cases e
def bits(i:Int):Bool:=decide (i.natAbs.log2<9000)
theorem aEU:OpD C X (binaryOp .Add) (fI (λ_ _=>true) λi j=>.int (i+j)):=iF aCY λ_ _ i j=>cY _
theorem aEV:OpD C X (binaryOp .Sub) (fI (λ_ _=>true) λi j=>.int (i-j)):=iF aCZ λ_ _ i j=>cY _
theorem aEW{i j:Int}(h:(bits i&&bits j)=true):IntMulOk i j:=by
 rw[aRI] at h;have b:∀ {i:Int},bits i=true->Builtin.Int.intBits i<=2 ^ 20:=λ{i} h=>by
  unfold bits at h;have:=aR3 h;unfold Builtin.Int.intBits;split
  . exact aQO _
  . have e:(2:Nat) ^ 20=1048576:=by decide
    omega
 exact IntMulOk.of_bits (b h.1) (b h.2)
def w64(i:Int):Bool:=decide (i.natAbs<2 ^ 63)
theorem vP{i:Int}(h:w64 i=true):Builtin.Int.intBits i<=64:=by
 have h:=aR3 h;unfold Builtin.Int.intBits;split
 . exact aQO _
 . rename_i hz;have:i.natAbs.log2<63:=(Nat.log2_lt (by simpa using hz)).mpr h
   omega
theorem aEX:OpD C X (binaryOp .Mult) (fI (λi j=>(bits i&&bits j)||(w64 i||w64 j)) λi j=>.int (i * j)) :=
 jV (Cc:=λi j=>IntMulOk i j) (opI λ_ _ _ _ _ _ _ hc q=>mul_int q hc) (λi j h=>by
  rcases (aR4 _ _).mp h with h | h
  . exact aEW h
  . rcases (aR4 _ _).mp h with h | h
    . exact IntMulOk.of_left (vP h)
    . exact IntMulOk.of_right (vP h)) λ_ _ i j=>cY _
theorem aEY:OpD C X (binaryOp .Mod) (fI (λ_ j=>decide (0<j)) λi j=>.int (i % j)):=jV aC0 (λi j h=>aR3 h) λ_ _ i j=>cY _
theorem aEZ:OpR X (binaryOp .FloorDiv) (rI (λ_ j=>0<j/\bits j=true) λi j=>.int (i / j)):=opI λi j _ _ _ _ _ hc q=>by
 obtain ⟨h1,h2⟩:=hc;refine floordiv_int (by omega) ?_ (.inl (PyProof.noPylong_of_log2 (aR3 h2)))
 rw[Int.fdiv_eq_ediv_of_nonneg i (by omega)]
 exact q
theorem aE0:OpD C X (binaryOp .FloorDiv) (fI (λ_ j=>decide (0<j)&&bits j) λi j=>.int (i / j)):=jV aEZ (λi j h=>by rw[aRI,aR2] at h;exact h) λ_ _ i j=>cY _
theorem aE1:OpD C X (binaryOp .Pow) (fI (λi j=>decide (0<=j)&&decide (j<=1000000)&&decide (i.natAbs<2 ^ 64)) λi j=>.int (i ^ j.toNat)) :=
 jV aC1 (λi j h=>by simp only[aRI,aR2] at h;exact ⟨h.1.1,h.1.2,h.2⟩) λ_ _ i j=>cY _
theorem aE2:OpD C X (compareOp .Lt) (fI (λ_ _=>true) λi j=>.bl (decide (i<j))):=iF op_lt λ_ _ i j=>cZ _
theorem aE3:OpD C X (compareOp .LtE) (fI (λ_ _=>true) λi j=>.bl (decide (i<=j))):=iF op_le λ_ _ i j=>cZ _
theorem aE4:OpD C X (compareOp .Gt) (fI (λ_ _=>true) λi j=>.bl (decide (j<i))):=iF op_gt λ_ _ i j=>cZ _
theorem aE5:OpD C X (compareOp .GtE) (fI (λ_ _=>true) λi j=>.bl (decide (j<=i))):=iF op_ge λ_ _ i j=>cZ _
def fS(c:Str->Str->Bool)(g:Str->Str->D):Md->D->Md->D->Option (Md×D):=λ_ x _ y=>match x,y with
 | .str i,.str j=>if c i j=true then some (.fz,g i j) else none
 | _,_=>none
theorem aE6{x y:Str}(hx:PyData.strOk x=true)(hy:PyData.strOk y=true):PyData.strOk (x++y)=true:=by unfold PyData.strOk at *;show (x.cps++y.cps).all _=true;rw[Array.all_append,hx,hy];rfl
theorem aE7:OpD C X (binaryOp .Add) (fS (λi j=>decide (i.length+j.length<=sizeLine)) λi j=>.str (i++j)):=by
 refine ⟨_,aDF,λF H m x n y v u k d Q s rx ry e w=>?_⟩;unfold fS at e;split at e
 . rename_i i j;obtain ⟨rfl,h1⟩:=rx.str;obtain ⟨rfl,h2⟩:=ry.str;split at e
   . rename_i hc;cases e;have hc:=aR3 hc;exact ⟨i,j,rfl,rfl,hc,w _ F H (.refl s) (iY ⟨by rw[strLen_append];exact hc,aE6 h1.2 h2.2⟩) (by intro z;cases z)⟩
   . cases e
 . cases e
def fX(i j:Str):Bool:=!(Builtin.Str.occurrences j i 0 j.length 1).isEmpty
theorem aE8:OpD C X (compareOp .In) (fS (λ_ _=>true) λi j=>.bl (fX i j)):=by
 refine ⟨_,aC6,λF H m x n y v u k d Q s rx ry e w=>?_⟩;unfold fS at e;split at e
 . rename_i i j;obtain ⟨rfl,h1⟩:=rx.str;obtain ⟨rfl,h2⟩:=ry.str;rw[if_pos rfl] at e;cases e;exact ⟨i,j,rfl,rfl,w _ F H (.refl s) (cZ _) (by intro z;cases z)⟩
 . cases e
theorem aE9:OpD C X (compareOp .NotIn) (fS (λ_ _=>true) λi j=>.bl (!fX i j)):=by
 refine ⟨_,aC9,λF H m x n y v u k d Q s rx ry e w=>?_⟩;unfold fS at e;split at e
 . rename_i i j;obtain ⟨rfl,h1⟩:=rx.str;obtain ⟨rfl,h2⟩:=ry.str;rw[if_pos rfl] at e;cases e;exact ⟨i,j,rfl,rfl,w _ F H (.refl s) (cZ _) (by intro z;cases z)⟩
 . cases e
end
section
variable {C:Cw}{X:Cx}{a b c e:Expr}{ga gb gc g:Rho->Res}{pos:Pos}
def aY:Res->Res
 | .ok .bo _=>.stuck
 | .ok _ d=>.ok .fz d
 | r=>r
theorem aI.freeze{F H F' H':Hp}{x:Addr}{o:HO}(st:aI F H F' H')(hx:H x=none)(hx':F' x=none)(ho:H' x=some o):aI F H (upd F' x o) H':=by
 refine ⟨st.same,λb u q=>?_,λb u q=>?_,λy h1 h2=>?_⟩
 . rw[aU (cK (st.fsame b u q) hx')];exact st.fsame b u q
 . by_cases hb:b=x
   . subst hb;rw[bQ] at q;rw[<- q];exact ho
   . rw[aU hb] at q;exact st.sub b u q
 . have:y≠x:=by rintro rfl;exact h2 hx
   rw[aU this];exact st.new y h1 h2
theorem Top.freeze{K:Fg}{F H:Hp}{x:Addr}{d:D}(hx:F x=none)(h:Top K F H x d):∃ o,H x=some o/\aB K (upd F x o) d (.ref x):=by
 have s:∀ o,aE F (upd F x o):=λo b u q=>by rw[aU (cK q hx)];exact q
 cases d with
 | lst ds=>obtain ⟨xs,q,r⟩:=h;refine ⟨_,q,?_⟩;simp only[aB];exact ⟨x,xs,rfl,SqL.of bQ,r.mono (s _) _ _⟩
 | dct ds=>obtain ⟨xs,q,r⟩:=h;refine ⟨_,q,?_⟩;simp only[aB];exact ⟨x,xs,rfl,bQ,r.mono (s _) _ _⟩
 | ins c fs=>obtain ⟨C,dx,gs,n,q,r⟩:=h;refine ⟨_,q,?_⟩;simp only[aB];exact ⟨x,C,dx,gs,rfl,n,bQ,r.mono (s _) _ _⟩
 | set ks=>obtain ⟨S,q,r⟩:=h;refine ⟨_,q,?_⟩;simp only[aB];exact ⟨x,S,rfl,bQ,r⟩
 | dtn ds=>obtain ⟨xs,q,r⟩:=h;refine ⟨_,q,?_⟩;simp only[aB];exact ⟨x,xs,rfl,bQ,r.mono (s _) _ _⟩
 | _=>exact h.elim
theorem bC.frz{F H:Hp}{σ:L2.St}{r:Res}{Q:VK}(w:bC C F H σ (aY r) Q):bC C F H σ r Q:=by
 cases r with
 | exc c=>exact w
 | stuck=>exact w
 | ok m d =>
  cases m with
  | fz=>exact w
  | bo=>exact (show False from w).elim
  | fr=>intro v F' H' st rp fr;obtain ⟨x,rfl,n,t⟩:=rp;obtain ⟨o,ho,r⟩:=t.freeze n;exact w (.ref x) (upd F' x o) H' (st.freeze (fr rfl x rfl) n ho) r (by intro z;cases z)
theorem iG(h:PV C X e g):PV C X e (λρ=>aY (g ρ)):=PE.imp h λσ H Q q=>by
 rw[a7] at q ⊢;obtain ⟨ρ,F,R,w⟩:=q
 try dsimp only at w
 exact ⟨ρ,F,R,w.frz⟩
def i6(C:Cw)(F H:Hp)(σ:L2.St)(r:Res)(Q:Bool->Hp->Prop):Prop:=match r with
 | .ok _ (.bl b)=>∀ F' H',aI F H F' H'->Q b H'
 | .exc c=>∀ F' H',aI F H F' H'->C.EE c σ H'
 | _=>False
theorem i6.step{F H F1 H1:Hp}{σ:L2.St}{r:Res}{Q:Bool->Hp->Prop}(st:aI F H F1 H1)(h:i6 C F H σ r Q):i6 C F1 H1 σ r Q:=by
 cases r with
 | ok m d =>
  cases d with
  | bl b=>exact λF' H' s2=>h F' H' (st.trans s2)
  | _=>exact h
 | exc c=>exact λF' H' s2=>h F' H' (st.trans s2)
 | stuck=>exact h
def tT(C:Cw)(g:Rho->Res):TT:=λσ H Q=>∃ ρ F,a5 C.K C.F0 C.H0 F H σ ρ/\i6 C F H σ (g ρ) Q
def PTv(C:Cw)(X:Cx)(e:Expr)(g:Rho->Res):Prop:=PT X e (tT (C.at X) g)
def PWv(C:Cw)(X:Cx)(e:Expr)(g:Rho->Res):Prop:=PW X e (tT (C.at X) g)
theorem PT.imp{X:Cx}{e:Expr}{t t':TT}(h:PT X e t)(i:∀ σ H Q,t' σ H Q->t σ H Q):PT X e t':=λaA s σ H Q I q=>h aA s σ H Q I (i σ H Q q)
theorem PW.imp{X:Cx}{e:Expr}{t t':TT}(h:PW X e t)(i:∀ σ H Q,t' σ H Q->t σ H Q):PW X e t':=λcW aA s σ H Q I q=>h cW aA s σ H Q I (i σ H Q q)
def nQ:D->Option Bool
 | .non=>some false
 | .bl b=>some b
 | .int i=>some (i != 0)
 | .str x=>some ((x.length:Int) != 0)
 | .tup ds=>some (!ds.isEmpty)
 | .lst ds=>some (!ds.isEmpty)
 | .dct ds=>some (!ds.isEmpty)
 | _=>none
def lF(r:Res):Res:=r.thn λ_ d=>match nQ d with | some b=>.ok .fz (.bl b) | none=>.stuck
theorem aC.isEmpty{K:Fg}{F:Hp}{ds:List D}{xs:List V}(h:aC K F ds xs):ds.isEmpty=xs.isEmpty:=by
 cases ds with
 | nil=>simp only[aC] at h;subst h;rfl
 | cons d ds=>simp only[aC] at h;obtain ⟨y,ys,rfl,_⟩:=h;rfl
theorem dO.isEmpty{K:Fg}{F:Hp}{ds:List (Key×D)}{xs:List (Key×V)}(h:dO K F ds xs):ds.isEmpty=xs.isEmpty:=by
 cases ds with
 | nil=>simp only[dO] at h;subst h;rfl
 | cons d ds=>obtain ⟨k,d⟩:=d;simp only[dO] at h;obtain ⟨y,ys,rfl,_⟩:=h;rfl
theorem aFA{K:Fg}{F H:Hp}{m:Md}{d:D}{v:V}{k:Bool}(s:aE F H)(h:Rp K F H m d v)(e:nQ d=some k):qE K v H k:=by
 cases d with
 | non=>cases h.non;cases e;rfl
 | bl b=>cases h.bl;cases e;rfl
 | int i=>cases h.int;cases e;rfl
 | str x=>obtain ⟨rfl,hl,_⟩:=h.str;cases e;exact ⟨hl,rfl⟩
 | tup ds=>obtain ⟨a,xs,rfl,q,r⟩:=h.seqT s;cases e;exact .inr (.inl ⟨xs,q,by rw[r.isEmpty]⟩)
 | lst ds=>obtain ⟨a,xs,rfl,q,r⟩:=h.seqL s;cases e;exact .inl ⟨xs,q,by rw[r.isEmpty]⟩
 | dct ds=>obtain ⟨a,xs,rfl,q,r⟩:=h.dict s;cases e;exact .inr (.inr ⟨xs,q,by rw[r.isEmpty]⟩)
 | ty n=>cases e
 | ob n=>cases e
 | ins n=>cases e
 | fn n=>cases e
 | exn n=>cases e
 | set n=>cases e
 | dtn n=>cases e
 | dtf n=>cases e
theorem aFB(h:PV C X e g)(he:∀ cW,isTrue e X.env cW=(do let v <- cW;standAt e.pos;holding [v] (truthy v)):=by intro _;rfl):PTv C X e (λρ=>lF (g ρ)):=by
 refine PT.imp (aDE h he) λσ H Q q=>?_;obtain ⟨ρ,F,R,w⟩:=q
 try dsimp only at w
 rw[a7];refine ⟨ρ,F,R,?_⟩;cases er:g ρ with
 | stuck=>rw[er] at w;exact w
 | exc c=>rw[er] at w;exact w
 | ok m d =>
  rw[er] at w;intro v F' H' st rp _;have w:i6 (C.at X) F H σ (match nQ d with | some b=>.ok .fz (.bl b) | none=>.stuck) Q:=w
  cases ed:nQ d with
  | none=>rw[ed] at w;exact w.elim
  | some k=>rw[ed] at w;exact ⟨k,aFA st.sub rp ed,w F' H' st⟩
theorem aFC{op:CmpOp}{φ}(o:OpD C X (compareOp op) φ)(hb':∀ m x n y k d,φ m x n y=some (k,d)->∃ t,k=.fz/\d=.bl t)(ha:PV C X a ga)(hb:PV C X b gb)(hm:behindInMarks op b=false):PTv C X (.Compare a [op] [b] pos) (λρ=>op2 φ (ga ρ) (gb ρ)):=by
 obtain ⟨r,h1,h2⟩:=o;refine PT.imp (aDB h1 ha hb hm) λσ H Q q=>?_;obtain ⟨ρ,F,R,w⟩:=q
 try dsimp only at w
 unfold uZ;refine lE h2 ?_;rw[a7];refine ⟨ρ,F,R,?_⟩;cases er:op2 φ (ga ρ) (gb ρ) with
 | stuck=>rw[er] at w;exact w
 | exc c=>rw[er] at w;exact w
 | ok m d =>
  rw[er] at w;have:∃ t,m=.fz/\d=.bl t:=by
   unfold op2 at er;cases e1:ga ρ with
   | stuck=>rw[e1] at er;cases er
   | exc c=>rw[e1] at er;cases er
   | ok m1 d1 =>
    cases e2:gb ρ with
    | stuck=>rw[e1,e2] at er;cases er
    | exc c=>rw[e1,e2] at er;cases er
    | ok m2 d2 =>
     rw[e1,e2] at er;have er:Res.of (φ m1 d1 m2 d2)=.ok m d:=er;cases e3:φ m1 d1 m2 d2 with
     | none=>rw[e3] at er;cases er
     | some kd=>rw[e3] at er;obtain ⟨k,d'⟩:=kd;cases er;exact hb' _ _ _ _ _ _ e3
  obtain ⟨t,rfl,rfl⟩:=this;intro v F' H' st rp _;cases rp.bl;exact ⟨t,rfl,w F' H' st⟩
def fH(x:Res)(y:Res):Res:=x.thn λ_ d=>match d with | .bl true=>y | .bl false=>.ok .fz (.bl false) | _=>.stuck
def orR(x:Res)(y:Res):Res:=x.thn λ_ d=>match d with | .bl true=>.ok .fz (.bl true) | .bl false=>y | _=>.stuck
def lG(x:Res):Res:=x.thn λ_ d=>match d with | .bl b=>.ok .fz (.bl (!b)) | _=>.stuck
theorem aFD(ha:PTv C X a ga):PTv C X (.UnaryOp .Not a pos) (λρ=>lG (ga ρ)):=by
 refine PT.imp (aCB ha) λσ H Q q=>?_;obtain ⟨ρ,F,R,w⟩:=q
 try dsimp only at w
 refine ⟨ρ,F,R,?_⟩;cases er:ga ρ with
 | stuck=>rw[er] at w;exact w
 | exc c=>rw[er] at w;exact w
 | ok m d =>
  rw[er] at w;cases d with
  | bl b=>exact w
  | _=>exact w
theorem vQ{op:BoolOp}(h:PTv C X a ga):PWv C X (.BoolOp op [a] pos) ga:=by
 cases op with
 | And=>exact aB8 h
 | Or=>exact aB9 h
theorem vT{σ:L2.St}{H:Hp}{Q:Bool->Hp->Prop}(q:tT C (λρ=>fH (ga ρ) (gb ρ)) σ H Q):qA (tT C ga) (tT C gb) σ H Q:=by
 obtain ⟨ρ,F,R,w⟩:=q
 try dsimp only at w
 refine ⟨ρ,F,R,?_⟩;cases er:ga ρ with
 | stuck=>rw[er] at w;exact w
 | exc c=>rw[er] at w;exact w
 | ok m d =>
  rw[er] at w;cases d with
  | bl b =>
   intro F' H' st;cases b with
   | true=>rw[if_pos rfl];exact ⟨ρ,F',R.step st,i6.step st w⟩
   | false=>rw[if_neg aQK];exact w F' H' st
  | _=>exact w
theorem tT_or{σ:L2.St}{H:Hp}{Q:Bool->Hp->Prop}(q:tT C (λρ=>orR (ga ρ) (gb ρ)) σ H Q):tOr (tT C ga) (tT C gb) σ H Q:=by
 obtain ⟨ρ,F,R,w⟩:=q
 try dsimp only at w
 refine ⟨ρ,F,R,?_⟩;cases er:ga ρ with
 | stuck=>rw[er] at w;exact w
 | exc c=>rw[er] at w;exact w
 | ok m d =>
  rw[er] at w;cases d with
  | bl b =>
   intro F' H' st;cases b with
   | true=>rw[if_pos rfl];exact w F' H' st
   | false=>rw[if_neg aQK];exact ⟨ρ,F',R.step st,i6.step st w⟩
  | _=>exact w
theorem aFE{aN:List Expr}(ha:PTv C X a ga)(hb:PWv C X (.BoolOp .And (b::aN) pos) gb):PWv C X (.BoolOp .And (a::b::aN) pos) (λρ=>fH (ga ρ) (gb ρ)):=PW.imp (aCA ha hb) λ_ _ _ q=>vT q
theorem aFF{aN:List Expr}(ha:PTv C X a ga)(hb:PWv C X (.BoolOp .Or (b::aN) pos) gb):PWv C X (.BoolOp .Or (a::b::aN) pos) (λρ=>orR (ga ρ) (gb ρ)):=PW.imp (pw_or ha hb) λ_ _ _ q=>tT_or q
theorem pt_w(h:PWv C X e g):PTv C X e g:=PW.pt h
theorem vU{op}(h:PV C X a ga):PV C X (.BoolOp op [a] pos) ga:=aCC h
theorem aFG{aN:List Expr}(ha:PV C X a ga)(hb:PV C X (.BoolOp .And (b::aN) pos) gb):PV C X (.BoolOp .And (a::b::aN) pos) (λρ=>fH (ga ρ) (gb ρ)):=by
 refine PE.imp (aCD ha hb) λσ H Q q=>?_;unfold uT;rw[a7] at q ⊢;obtain ⟨ρ,F,R,w⟩:=q
 try dsimp only at w
 refine ⟨ρ,F,R,?_⟩;cases er:ga ρ with
 | stuck=>rw[er] at w;exact w
 | exc c=>rw[er] at w;exact w
 | ok m d =>
  rw[er] at w;cases d with
  | bl k =>
   intro v F' H' st rp _;cases rp.bl;refine ⟨k,rfl,?_⟩;cases k with
   | true=>rw[if_pos rfl,a7];exact ⟨ρ,F',R.step st,bC.step st w⟩
   | false=>rw[if_neg aQK];exact w (.bl false) F' H' st (cZ _) (by intro z;cases z)
  | _=>exact w.elim
theorem aFH{aN:List Expr}(ha:PV C X a ga)(hb:PV C X (.BoolOp .Or (b::aN) pos) gb):PV C X (.BoolOp .Or (a::b::aN) pos) (λρ=>orR (ga ρ) (gb ρ)):=by
 refine PE.imp (pe_or ha hb) λσ H Q q=>?_;unfold tOrV;rw[a7] at q ⊢;obtain ⟨ρ,F,R,w⟩:=q
 try dsimp only at w
 refine ⟨ρ,F,R,?_⟩;cases er:ga ρ with
 | stuck=>rw[er] at w;exact w
 | exc c=>rw[er] at w;exact w
 | ok m d =>
  rw[er] at w;cases d with
  | bl k =>
   intro v F' H' st rp _;cases rp.bl;refine ⟨k,rfl,?_⟩;cases k with
   | true=>rw[if_pos rfl];exact w (.bl true) F' H' st (cZ _) (by intro z;cases z)
   | false=>rw[if_neg aQK,a7];exact ⟨ρ,F',R.step st,bC.step st w⟩
  | _=>exact w.elim
theorem aFI(ha:PV C X a ga):PV C X (.UnaryOp .Not a pos) (λρ=>lG (ga ρ)):=by
 refine PE.imp (aCE ha) λσ H Q q=>?_;unfold uU;rw[a7] at q ⊢;obtain ⟨ρ,F,R,w⟩:=q
 try dsimp only at w
 refine ⟨ρ,F,R,?_⟩;cases er:ga ρ with
 | stuck=>rw[er] at w;exact w
 | exc c=>rw[er] at w;exact w
 | ok m d =>
  rw[er] at w;cases d with
  | bl k=>intro v F' H' st rp _;cases rp.bl;exact ⟨k,rfl,w _ F' H' st (cZ _) (by intro z;cases z)⟩
  | _=>exact w.elim
def ixD:Md->D->Md->D->Option (Md×D):=λ_ x _ y=>match x,y with
 | .lst ds,.int i=>(atI ds i).map λd=>(.fz,d)
 | .tup ds,.int i=>(atI ds i).map λd=>(.fz,d)
 | .str z,.int i=>(atI z.cps.toList i).map λc=>(.fz,.str ⟨#[c]⟩)
 | _,_=>none
theorem aC.atI{K:Fg}{F:Hp}{ds:List D}{xs:List V}{i:Int}{d:D}(h:aC K F ds xs)(e:atI ds i=some d):∃ x,L2.atI xs i=some x/\aB K F d x:=by
 unfold L2.atI at *;rw[h.length];cases q:ixN ds.length i with
 | none=>rw[q] at e;cases e
 | some j=>rw[q] at e;exact h.get' e
theorem aFJ{F H:Hp}{m n k:Md}{x y d:D}{v u:V}{Q:VK}(s:aE F H)(rx:Rp X.K F H m x v)(ry:Rp X.K F H n y u)(e:ixD m x n y=some (k,d))(w:∀ v' F' H',aI F H F' H'->Rp X.K F' H' k d v'->(k=.fr->∀ a,v'=.ref a->H a=none)->Q v' H'):rIx X.K v u H Q:=by
 unfold ixD at e;split at e
 . rename_i ds i;cases ry.int;obtain ⟨p,xs,rfl,hq,r⟩:=rx.seqL s;cases ei:atI ds i with
   | none=>rw[ei] at e;cases e
   | some d'=>rw[ei] at e;cases e;obtain ⟨x',ex,rx'⟩:=r.atI ei;exact .inl ⟨p,xs,i,x',rfl,rfl,hq,ex,w x' F H (.refl s) rx' (by intro z;cases z)⟩
 . rename_i ds i;cases ry.int;obtain ⟨p,xs,rfl,hq,r⟩:=rx.seqT s;cases ei:atI ds i with
   | none=>rw[ei] at e;cases e
   | some d'=>rw[ei] at e;cases e;obtain ⟨x',ex,rx'⟩:=r.atI ei;exact .inr (.inl ⟨p,xs,i,x',rfl,rfl,hq,ex,w x' F H (.refl s) rx' (by intro z;cases z)⟩)
 . rename_i z i;cases ry.int;obtain ⟨rfl,hl,hk⟩:=rx.str;cases ei:atI z.cps.toList i with
   | none=>rw[ei] at e;cases e
   | some c =>
    rw[ei] at e;cases e;refine .inr (.inr ⟨z,i,c,rfl,rfl,hl,ei,w _ F H (.refl s) (iY ⟨?_,?_⟩) (by intro z;cases z)⟩)
    . show 1<=sizeLine;decide
    . obtain ⟨j,_,hj,_⟩:=nL ei;unfold PyData.strOk at hk ⊢;rw[aR5] at hk;have hc:=hk c (by rw[<- aQJ];exact aQZ hj)
      simpa using hc
 . cases e
theorem pv_ix(ha:PV C X a ga)(hb:PV C X b gb)(hs:nM b:=by intro _ _;rfl):PV C X (.Subscript a b pos) (λρ=>op2 ixD (ga ρ) (gb ρ)):=by exact PE.imp (vG aD6 ha hb hs) λσ H Q q=>lE (λF H m x n y v u k d Q s rx ry e w=>aFJ s rx ry e w) q
theorem aFK:SlR X (λx lo hi H Q=>∃ z,x=.str z/\z.length<=sizeLine/\Q (.str (Txt.slice z lo hi)) H):=by
 intro aA s σ H x v vl vu lo hi sl Q I rx hs pl pu h;obtain ⟨z,rfl,hz,q⟩:=h;obtain ⟨t,rfl⟩:=rx;refine ⟨"str", _,PySem.F.slot_str_getitem.lookup,typeIs_str _ _ _,?_⟩;have fin:∀ t' k,EP X aA σ Q (.str (Txt.slice z lo hi) t') { s with toks:=k }:=λt' k=>⟨.str (Txt.slice z lo hi),H,I.tok _,⟨_,rfl⟩,q⟩
 cases pl with
 | none =>
  cases pu with
  | none=>exact aR6 (l:=none) (u:=none) (st:=none) hs rfl (aR7 ⟨aPV (aR8 z _ _) hz,λt' k=>fin t' k⟩)
  | int j tj=>exact aR6 (l:=none) (u:=some (j,tj)) (st:=none) hs rfl (aR7 ⟨aPV (aR8 z _ _) hz,λt' k=>fin t' k⟩)
 | int i ti =>
  cases pu with
  | none=>exact aR6 (l:=some (i,ti)) (u:=none) (st:=none) hs rfl (aR7 ⟨aPV (aR8 z _ _) hz,λt' k=>fin t' k⟩)
  | int j tj=>exact aR6 (l:=some (i,ti)) (u:=some (j,tj)) (st:=none) hs rfl (aR7 ⟨aPV (aR8 z _ _) hz,λt' k=>fin t' k⟩)
theorem aFL{z:Str}{lo hi:Option Int}(h:PyData.strOk z=true):PyData.strOk (Txt.slice z lo hi)=true:=by
 unfold Txt.slice;split
 . exact h
 . unfold PyData.strOk at *;rw[aR5] at h ⊢;intro c hc;rw[<- aQJ,List.toList_toArray,aQE] at hc;obtain ⟨j,_,hj⟩:=hc;exact h c (aR9 hj)
def POv(C:Cw)(X:Cx):Option Expr->Option (Rho->Res)->Prop
 | none,none=>True
 | some e,some g=>PV C X e g
 | _,_=>False
def vV(C:Cw):Option (Rho->Res)->TO
 | none=>vE
 | some g=>nK (tG C g)
theorem vW{e:Option Expr}{g:Option (Rho->Res)}(h:POv C X e g):PO X e (vV (C.at X) g):=by
 cases e with
 | none=>cases g with
  | none=>exact aDY
  | some g=>exact h.elim
 | some e=>cases g with
  | none=>exact h.elim
  | some g=>exact aDZ h
def cF(g:Option (Rho->Res))(ρ:Rho)(k:Option Int->Res):Res:=match g with
 | none=>k none
 | some g=>(g ρ).thn λ_ d=>match d with | .int i=>k (some i) | _=>.stuck
theorem jW{F H:Hp}{σ:L2.St}{g:Option (Rho->Res)}{ρ:Rho}{k:Option Int->Res}{Q:VK}{R:Option Int->Hp->Prop}(RS:a5 C.K C.F0 C.H0 F H σ ρ)(w:bC C F H σ (cF g ρ k) Q)(h:∀ i F' H',aI F H F' H'->a5 C.K C.F0 C.H0 F' H' σ ρ->bC C F' H' σ (k i) Q->R i H'):vV C g σ H R:=by
 cases g with
 | none=>exact h none F H (.refl RS.sub) RS w
 | some g =>
  show nK (tG C g) σ H R;unfold nK;rw[a7];refine ⟨ρ,F,RS,?_⟩;have w:bC C F H σ ((g ρ).thn λ_ d=>match d with | .int i=>k (some i) | _=>.stuck) Q:=w
  cases er:g ρ with
  | stuck=>rw[er] at w;exact w
  | exc c=>rw[er] at w;exact w
  | ok m d =>
   rw[er] at w;intro v F' H' st rp _;cases d with
   | int i=>cases rp.int;exact ⟨i,rfl,h (some i) F' H' st (RS.step st) (bC.step st w)⟩
   | _=>exact (show False from w).elim
end
inductive a6 where
 | ok (xs:List (Md×D)) | exc (c:Str) | stuck
def RpL(K:Fg)(F H:Hp):List (Md×D)->List V->Prop
 | [],vs=>vs=[]
 | (m,d)::r,vs=>∃ v us,vs=v::us/\Rp K F H m d v/\RpL K F H r us
def a6.thn(r:a6)(k:List (Md×D)->Res):Res:=match r with
 | .ok xs=>k xs
 | .exc c=>.exc c
 | .stuck=>.stuck
@[simp] theorem a6.thn_ok(xs:List (Md×D))(k:List (Md×D)->Res):(a6.ok xs).thn k=k xs:=rfl
@[simp] theorem a6.thn_exc(c:Str)(k:List (Md×D)->Res):(a6.exc c).thn k=.exc c:=rfl
@[simp] theorem a6.thn_stuck(k:List (Md×D)->Res):a6.stuck.thn k=.stuck:=rfl
def lH(C:Cw)(F H:Hp)(σ:L2.St)(r:a6)(Q:List V->Hp->Prop):Prop:=match r with
 | .ok xs=>∀ vs F' H',aI F H F' H'->RpL C.K F' H' xs vs->Q vs H'
 | .exc c=>∀ F' H',aI F H F' H'->C.EE c σ H'
 | .stuck=>False
theorem lH.step{C:Cw}{F H F1 H1:Hp}{σ:L2.St}{r:a6}{Q:List V->Hp->Prop}(st:aI F H F1 H1)(h:lH C F H σ r Q):lH C F1 H1 σ r Q:=by
 cases r with
 | ok m=>exact λv F' H' s2 rp=>h v F' H' (st.trans s2) rp
 | exc c=>exact λF' H' s2=>h F' H' (st.trans s2)
 | stuck=>exact h
def tAv(C:Cw)(g:Rho->a6):TA:=λσ H Q=>∃ ρ F,a5 C.K C.F0 C.H0 F H σ ρ/\lH C F H σ (g ρ) Q
def PAv(C:Cw)(X:Cx)(es:List Expr)(g:Rho->a6):Prop:=PA X es (tAv (C.at X) g)
theorem PA.imp{X:Cx}{e:List Expr}{t t':TA}(h:PA X e t)(i:∀ σ H Q,t' σ H Q->t σ H Q):PA X e t':=λp aA s σ H Q I q=>h p aA s σ H Q I (i σ H Q q)
def cG(x:Res)(y:a6):a6:=match x with
 | .ok m d=>(match y with | .ok r=>.ok ((m,d)::r) | .exc c=>.exc c | .stuck=>.stuck)
 | .exc c=>.exc c
 | .stuck=>.stuck
@[simp] theorem aFM(m:Md)(d:D)(r:List (Md×D)):cG (.ok m d) (.ok r)=.ok ((m,d)::r):=rfl
section
variable {C:Cw}{X:Cx}{a b c e:Expr}{es:List Expr}{ga gb gc g:Rho->Res}{gs:Rho->a6}{pos p:Pos}{x:Str}
theorem lI:PAv C X [] (λ_=>.ok []):=PA.imp nF λσ H Q q=>by obtain ⟨ρ,F,R,w⟩:=q;exact w [] F H (.refl R.sub) rfl
theorem lJ(ha:PV C X e g)(hr:PAv C X es gs)(hs:starEach (e::es) X.env=(false,eval e X.env)::starEach es X.env:=by rfl):PAv C X (e::es) (λρ=>cG (g ρ) (gs ρ)):=by
 refine PA.imp (nG ha hr hs) λσ H Q q=>?_;unfold lD;obtain ⟨ρ,F,R,w⟩:=q;dsimp only at w;rw[a7];refine ⟨ρ,F,R,?_⟩;cases er:g ρ with
 | stuck=>rw[er] at w;exact w
 | exc c=>rw[er] at w;exact w
 | ok m d =>
  rw[er] at w;intro v F1 H1 s1 r1 _;refine ⟨ρ,F1,R.step s1,?_⟩;have w1:=lH.step s1 w;cases es':gs ρ with
  | stuck=>rw[es'] at w1;exact w1
  | exc c=>rw[es'] at w1;exact w1
  | ok r=>rw[es'] at w1;intro vs F2 H2 s2 r2;exact w1 (v::vs) F2 H2 s2 ⟨v,vs,rfl,r1.step s2,r2⟩
def dE:List (Md×D)->Option (List D)
 | []=>some []
 | (.fz,d)::r=>(dE r).map (d :: ·)
 | _::_=>none
theorem RpL.fz{K:Fg}{F H:Hp}:∀ {xs:List (Md×D)} {vs:List V} {ds:List D},RpL K F H xs vs->dE xs=some ds->aC K F ds vs
 | [],_,_,h,e=>by cases e;rw[show _=[] from h];exact aC.nil
 | (.fz,d)::r,_,_,h,e=>by
  obtain ⟨v,us,rfl,r1,r2⟩:=h;unfold dE at e;cases q:dE r with
  | none=>rw[q] at e;cases e
  | some ds'=>rw[q] at e;cases e;exact aC.cons r1 (RpL.fz r2 q)
 | (.fr,d)::r,_,_,h,e=>by cases e
 | (.bo,d)::r,_,_,h,e=>by cases e
def i7(r:a6):Res:=r.thn λxs=>match dE xs with | some ds=>if ds.length<=sizeLine then .ok .fz (.tup ds) else .stuck | none=>.stuck
def dP(r:a6):Res:=r.thn λxs=>match dE xs with | some ds=>if ds.length<=sizeLine then .ok .fr (.lst ds) else .stuck | none=>.stuck
theorem aB.tup_of{K:Fg}{F:Hp}{p:Addr}{ds:List D}{xs:List V}(hp:F p=none)(r:aC K F ds xs):aB K (upd F p (.tup xs)) (.tup ds) (.ref p):=by simp only[aB];exact ⟨p,xs,rfl,SqT.of bQ,r.mono (λb u q=>by rw[aU (cK q hp)];exact q) _ _⟩
theorem aFN{x1}(h:PAv C X es gs):PV C X (.Tuple es x1 pos) (λρ=>i7 (gs ρ)):=by
 refine PE.imp (aDP h) λσ H Q q=>?_;unfold tTup;rw[a7] at q;obtain ⟨ρ,F,R,w⟩:=q;refine ⟨ρ,F,R,?_⟩;cases er:gs ρ with
 | stuck=>rw[er] at w;exact w
 | exc c=>rw[er] at w;exact w
 | ok xs =>
  rw[er] at w;intro vs F1 H1 s1 r1;have w1:bC (C.at X) F1 H1 σ (match dE xs with | some ds=>if ds.length<=sizeLine then .ok .fz (.tup ds) else .stuck | none=>.stuck) Q:=bC.step s1 w
  cases ef:dE xs with
  | none=>rw[ef] at w1;exact w1.elim
  | some ds =>
   rw[ef] at w1;dsimp only at w1;split at w1
   . rename_i hl;have r2:=r1.fz ef;refine ⟨by rw[r2.length];exact hl,λp hp=>?_⟩
     exact w1 (.ref p) _ _ (aI.laid (.tup vs) s1.sub hp) (aB.tup_of (s1.sub.free hp) r2) (by intro z;cases z)
   . exact w1.elim
theorem aFO(h:PAv C X es gs):PV C X (.List es pos) (λρ=>dP (gs ρ)):=by
 refine PE.imp (aDQ h) λσ H Q q=>?_;unfold tLst;rw[a7] at q;obtain ⟨ρ,F,R,w⟩:=q;refine ⟨ρ,F,R,?_⟩;cases er:gs ρ with
 | stuck=>rw[er] at w;exact w
 | exc c=>rw[er] at w;exact w
 | ok xs =>
  rw[er] at w;intro vs F1 H1 s1 r1;have w1:bC (C.at X) F1 H1 σ (match dE xs with | some ds=>if ds.length<=sizeLine then .ok .fr (.lst ds) else .stuck | none=>.stuck) Q:=bC.step s1 w
  cases ef:dE xs with
  | none=>rw[ef] at w1;exact w1.elim
  | some ds =>
   rw[ef] at w1;dsimp only at w1;split at w1
   . rename_i hl;have r2:=r1.fz ef;refine ⟨by rw[r2.length];exact hl,λp hp=>?_⟩
     refine w1 (.ref p) F1 _ (aI.fresh (.lst vs) s1.sub hp) ⟨p,rfl,s1.sub.free hp,vs,bQ,r2⟩ λ_ a ea=>by cases ea;exact hp
   . exact w1.elim
def dQ(X:Cx)(f:Value)(φ:List (Md×D)->Option (Md×D)):Prop :=
 ∃ r:List V->Hp->VK->Prop,cL X f r/\∀ F H xs vs k d Q,aE F H->RpL X.K F H xs vs->φ xs=some (k,d) ->
  (∀ v' F' H',aI F H F' H'->Rp X.K F' H' k d v'->(k=.fr->∀ a,v'=.ref a->H a=none)->Q v' H')->r vs H Q
def eD(φ:List (Md×D)->Option (Md×D))(r:a6):Res:=r.thn λxs=>Res.of (φ xs)
theorem vX{φ:List (Md×D)->Option (Md×D)}{r:List V->Hp->VK->Prop}(h:∀ F H xs vs k d Q,aE F H->RpL C.K F H xs vs->φ xs=some (k,d)->(∀ v' F' H',aI F H F' H'->Rp C.K F' H' k d v'->(k=.fr->∀ a,v'=.ref a->H a=none)->Q v' H')->r vs H Q){σ:L2.St}{H:Hp}{Q:VK}(q:tG C (λρ=>eD φ (gs ρ)) σ H Q):tCB r (tAv C gs) σ H Q:=by
 unfold tCB;rw[a7] at q;obtain ⟨ρ,F,R,w⟩:=q;refine ⟨ρ,F,R,?_⟩;cases er:gs ρ with
 | stuck=>rw[er] at w;exact w
 | exc c=>rw[er] at w;exact w
 | ok xs =>
  rw[er] at w;intro vs F1 H1 s1 r1;have w1:bC C F1 H1 σ (Res.of (φ xs)) Q:=bC.step s1 w;cases ef:φ xs with
  | none=>rw[ef] at w1;exact w1.elim
  | some kd=>obtain ⟨k,d⟩:=kd;rw[ef] at w1;exact h F1 H1 xs vs k d Q s1.sub r1 ef w1
theorem nR{id:String}{φ}(o:dQ X (.builtin id) φ)(hg:Gl X x)(hm:X.mg x=none)(hv:bootBuiltins x=some (.builtin id))(ha:PAv C X (e::es) gs)(hn:x ≠ "__name__" := by decide)(hdb:(x==("__debug__" : Str))=false:=by decide)(he:starEach (e::es) X.env=(false,eval e X.env)::starEach es X.env:=by rfl)(hpl:(backTo pos (starEach es X.env)).any (·.1)=false:=by rfl):PV C X (.Call (.Name x p) (e::es) [] pos) (λρ=>eD φ (gs ρ)):=by obtain ⟨r,h1,h2⟩:=o;exact PE.imp (u8 h1 hg hm hv ha hn hdb he hpl) λσ H Q q=>vX h2 q
def eE:List (Md×D)->Option (Md×D)
 | [(_,.str z)]=>some (.fz,.int z.length)
 | [(_,.lst ds)]=>some (.fz,.int ds.length)
 | [(_,.tup ds)]=>some (.fz,.int ds.length)
 | _=>none
theorem RpL.one{K:Fg}{F H:Hp}{m:Md}{d:D}{vs:List V}(h:RpL K F H [(m,d)] vs):∃ v,vs=[v]/\Rp K F H m d v:=by obtain ⟨v,us,rfl,r,e⟩:=h;exact ⟨v,by rw[show us=[] from e],r⟩
theorem RpL.two{K:Fg}{F H:Hp}{m n:Md}{d e:D}{vs:List V}(h:RpL K F H [(m,d),(n,e)] vs):∃ v u,vs=[v,u]/\Rp K F H m d v/\Rp K F H n e u:=by obtain ⟨v,us,rfl,r,v',us',rfl,r',e⟩:=h;exact ⟨v,v',by rw[show us'=[] from e],r,r'⟩
theorem aFP:dQ X (.builtin "len") eE:=by
 refine ⟨_,aDI,λF H xs vs k d Q s rx e w=>?_⟩;unfold eE at e;split at e
 . rename_i m z;cases e;obtain ⟨v,rfl,r⟩:=rx.one;obtain ⟨rfl,hz,_⟩:=r.str;exact ⟨_,z.length,rfl,⟨hz,rfl⟩,w _ F H (.refl s) (cY _) (by intro z;cases z)⟩
 . rename_i m ds;cases e;obtain ⟨v,rfl,r⟩:=rx.one;obtain ⟨a,xs,rfl,q,rl⟩:=r.seqL s;exact ⟨_,xs.length,rfl,.inl ⟨xs,q,rfl⟩,by rw[rl.length];exact w _ F H (.refl s) (cY _) (by intro z;cases z)⟩
 . rename_i m ds;cases e;obtain ⟨v,rfl,r⟩:=rx.one;obtain ⟨a,xs,rfl,q,rl⟩:=r.seqT s;exact ⟨_,xs.length,rfl,.inr ⟨xs,q,rfl⟩,by rw[rl.length];exact w _ F H (.refl s) (cY _) (by intro z;cases z)⟩
 . cases e
def tyN:D->Option String
 | .non=>some "NoneType" | .bl _=>some "bool" | .int _=>some "int" | .str _=>some "str" | .tup _=>some "tuple" | .lst _=>some "list" | .dct _=>some "dict" | _=>none
def lK(t c:String):Option Bool:=if ["int", "bool", "str", "list", "tuple", "dict"].contains c=true then some (t==c||(t == "bool" && c == "int")) else none
def bI:List (Md×D)->Option (Md×D)
 | [(_,d),(_,.ty c)]=>match tyN d with | some t=>(lK t c).map λb=>(.fz,.bl b) | none=>none
 | _=>none
theorem aFQ{K:Fg}{d:D}{t c:String}{b:Bool}(ht:tyN d=some t)(e:lK t c=some b):PySem.W.kitOne K (.type t) (.type c)=some b:=by
 unfold lK at e;split at e
 . rename_i hc;simp only[List.contains_cons,List.contains_nil,Bool.or_false,aR4,aQL] at hc;cases e;have ht':t = "NoneType" \/ t = "bool" \/ t = "int" \/ t = "str" \/ t = "tuple" \/ t = "list" \/ t = "dict" := by cases d <;> cases ht <;> simp
   rcases hc with rfl | rfl | rfl | rfl | rfl | rfl <;> rcases ht' with rfl | rfl | rfl | rfl | rfl | rfl | rfl <;> rfl
 . cases e
theorem aFR:dQ X (.builtin "isinstance") bI:=by
 refine ⟨λvs H Q=>∃ (F:Hp) (m:Md) (d:D) (v:V) (t c:String) (b:Bool),aE F H/\Rp X.K F H m d v/\vs=[v,.ty c]/\tyN d=some t/\lK t c=some b/\Q (.bl b) H,?_,?_⟩
 . intro aA s σ H xs us Q I r h;obtain ⟨F,m,d,v,t,c,b,sF,rp,rfl,ht,hb,q⟩:=h;obtain ⟨u,u',rfl,ru,ru'⟩:=vals2 r;cases (show u'=Value.type c from ru')
   have e:=aFQ (K:=X.K) ht hb;have fin:∀ tk,EP X aA σ Q (.bool b) { s with toks:=tk }:=λtk=>⟨.bl b,H,I.tok _,rfl,q⟩
   cases d with
   | non=>cases rp.non;cases ht;cases (show u=Value.none from ru);exact aSA PySem.W.kitx_none I.kIn True.intro e (λz=>nomatch z) fin
   | bl y=>cases rp.bl;cases ht;cases (show u=Value.bool y from ru);exact aSA PySem.W.kitx_bool I.kIn True.intro e (λz=>nomatch z) fin
   | int i=>cases rp.int;cases ht;obtain ⟨t,q⟩:=(show ∃ t,u=Value.int i t from ru);cases q;exact aSA PySem.W.kitx_int I.kIn True.intro e (λz=>nomatch z) fin
   | str y=>obtain ⟨rfl,_⟩:=rp.str;cases ht;obtain ⟨t,q⟩:=(show ∃ t,u=Value.str y t from ru);cases q;exact aSA PySem.W.kitx_str I.kIn True.intro e (λz=>nomatch z) fin
   | tup ds =>
    obtain ⟨a,xs,rfl,hq,_⟩:=rp.seqT sF;cases ht;cases (show u=Value.ref a from ru)
    obtain ⟨its,_,⟨o,h1,h2,_⟩,_⟩:=I.tuple hq;exact aSA PySem.W.kitx_tuple I.kIn ⟨o,h1,h2⟩ e (λz=>nomatch z) fin
   | lst ds =>
    obtain ⟨a,xs,rfl,hq,_⟩:=rp.seqL sF;cases ht;cases (show u=Value.ref a from ru)
    obtain ⟨its,_,⟨o,n,h1,h2,_⟩,_⟩:=I.list hq;exact aSA PySem.W.kitx_list I.kIn ⟨o,h1,h2⟩ e (λz=>nomatch z) fin
   | dct ds =>
    obtain ⟨a,xs,rfl,hq,_⟩:=rp.dict sF;cases ht;cases (show u=Value.ref a from ru)
    obtain ⟨_,_,vs,_,p⟩:=(show bU X.prog X.w H s.heap a (.dK xs) from I.hok a _ hq)
    obtain ⟨o,es,ep,h1,h2,_⟩:=p;exact aSA PySem.W.kitx_dict I.kIn ⟨o,h1,h2.1⟩ e (λz=>nomatch z) fin
   | _=>cases ht
 . intro F H xs vs k d Q s rx e w;unfold bI at e;split at e
   . rename_i m d' n c;obtain ⟨v,u,rfl,r1,r2⟩:=rx.two;cases r2.ty;cases et:tyN d' with
     | none=>rw[et] at e;cases e
     | some t =>
      rw[et] at e;dsimp only at e;cases eb:lK t c with
      | none=>rw[eb] at e;cases e
      | some b=>rw[eb] at e;cases e;exact ⟨F,m,d',v,t,c,b,s,r1,rfl,et,eb,w _ F H (.refl s) (cZ _) (by intro z;cases z)⟩
   . cases e
theorem pv_ty{T:String}(hg:Gl X x)(hm:X.mg x=none)(hv:bootBuiltins x=some (.type T))(hn:x ≠ "__name__" := by decide)(hd:(x==("__debug__" : Str))=false:=by decide):PV C X (.Name x pos) (λ_=>.ok .fz (.ty T)) :=
 iZ _ (aB7 (v:=.ty T) hg hm hv rfl hn hd) λ_ _=>rp_ty T
theorem aFS{y:Str}{t:Tok}(hg:Gl X x)(hm:X.mg x=some (.str y t))(h:(decide (y.length<=sizeLine)&&PyData.strOk y)=true:=by decide +kernel)(hd:(x==("__debug__" : Str))=false:=by decide):PV C X (.Name x pos) (λ_=>.ok .fz (.str y)) :=
 iZ _ (uS (v:=.str y) hg hm ⟨t,rfl⟩ hd) λ_ _=>iY (by rw[aRI,aR2] at h;exact h)
theorem aFT{y:Int}{t:Tok}(hg:Gl X x)(hm:X.mg x=some (.int y t))(hd:(x==("__debug__" : Str))=false:=by decide):PV C X (.Name x pos) (λ_=>.ok .fz (.int y)) :=
 iZ _ (uS (v:=.int y) hg hm ⟨t,rfl⟩ hd) λ_ _=>cY _
def g9:List D->Option (List Bool)
 | []=>some []
 | .bl b::r=>(g9 r).map (b :: ·)
 | _=>none
def iH:List (Md×D)->Option (Md×D)
 | [(_,.lst ds)]=>(g9 ds).map λbs=>(.fz,.bl (bs.all id))
 | _=>none
theorem vY{K:Fg}{F:Hp}:∀ {ds:List D} {xs:List V} {bs:List Bool},aC K F ds xs->g9 ds=some bs->xs=bs.map V.bl
 | [],_,_,h,e=>by cases e;simp only[aC] at h;exact h
 | d::ds,_,_,h,e=>by
  simp only[aC] at h;obtain ⟨y,ys,rfl,r,t⟩:=h;cases d with
  | bl b =>
   unfold g9 at e;cases q:g9 ds with
   | none=>rw[q] at e;cases e
   | some bs=>rw[q] at e;cases e;simp only[aB] at r;subst r;rw[vY t q];rfl
  | _=>cases e
theorem aFU(bs:List Bool):(List.range bs.length).all (λi=>bs.getD i true)=bs.all id:=by
 rw[Bool.eq_iff_iff,aSB,aSB];constructor
 . intro h b hb;obtain ⟨i,hi,e⟩:=aSC hb;have:=h i (aPU.mpr hi);rw[aSD,aSE hi] at this;rw[<- e];exact this
 . intro h i hi;have hi:=aPU.mp hi;rw[aSD,aSE hi];exact h _ (aSF hi)
theorem aFV{prog:Program}{w:World}{aA:LAO}{σ:L2.St}{H:Hp}{s:Shared}{a:Addr}{bs:List Bool}(hc:X.calm=true)(I:Inv X aA σ H s)(hq:SqL X.K H a (bs.map V.bl)){E:VSP}{Q:VSP}(h:∀ (it:Value) (s2:Shared),(∃ I' fp wr n P St tr,it=.ref I'/\Walks prog w X.A.in1 I' fp wr n P St/\St 0 s2.heap/\TruthOf prog w X.A.in1 P tr/\n=bs.length/\(∀ i,tr i=bs.getD i true)/\∀ h' tk,(∀ b o,b∉wr->s2.heap.get? b=some o->h'.get? b=some o)->∃ s3:Shared,s3={ s2 with heap:=h',toks:=tk }/\Inv X aA σ H s3)->Q it s2):wpAny (model prog w) X.A.in1 (pyIter (.ref a)) Q E s:=by
 obtain ⟨its,rv,p,hz⟩:=I.list hq;have hlen:=rv.length;rw[aQ1] at hlen;refine aQB p.isList (h _ _ ⟨s.heap.objs.size,_,_,_,_,_,λi=>bs.getD i true,rfl,Walks.list (by show X.A.handled=none;exact I.ok.hd hc) s.heap.objs.size a ?_ its.toArray,⟨⟨_,aPO _ rfl,rfl,rfl⟩,?_⟩,?_,?_,λ_=>rfl,?_⟩)
 . obtain ⟨o,n,e,_⟩:=p;exact aPS (aPP e)
 . obtain ⟨o,n,e,c,d,dd⟩:=p;exact ⟨o,hps e,c,n,dd⟩
 . intro i v s' Q' E' hP hQ;have hv:its[i]? = some v:=by simpa using hP
   have hi:i<bs.length:=by rw[hlen];exact (aP1.mp hv).1
   have hx:(bs.map V.bl)[i]? = some (V.bl bs[i]):=by rw[aQY,aSE hi];rfl
   obtain ⟨u,hu,ru⟩:=rv.get hx;rw[hv] at hu;cases hu;cases (show v=Value.bool _ from ru)
   have hQ:Q' (bs.getD i true) s':=hQ;rw[aSD,aSE hi] at hQ;exact aP6 hQ
 . rw[aQI,hlen]
 . intro h' tk hk;refine ⟨_,rfl,?_⟩;refine (I.kept (t':=tk) (h':=h') λb o e=>?_)
   refine hk b o (by intro hb; have : b = s.heap.objs.size := by simpa using hb
                     subst this;exact absurd (aPP e) (aPR _)) (hps e)
theorem aFW(hc:X.calm=true):dQ X (.builtin "all") iH:=by
 refine ⟨λvs H Q=>∃ (a:Addr) (bs:List Bool),vs=[.ref a]/\SqL X.K H a (bs.map V.bl)/\Q (.bl (bs.all id)) H,?_,?_⟩
 . intro aA s σ H xs us Q I r h;obtain ⟨a,bs,rfl,hq,q⟩:=h;obtain ⟨u,rfl,ru⟩:=eB r;cases (show u=Value.ref a from ru)
   refine call_all_walk (aFV hc I hq λit s2 hh=>?_);obtain ⟨I',fp,wr,n,P,St,tr,rfl,W,st,T,rfl,htr,fin⟩:=hh;refine ⟨I',fp,wr,_,P,St,tr,rfl,W,st,T,λh' tk hk=>?_⟩;obtain ⟨s3,rfl,I3⟩:=fin h' tk hk;have e:(List.range bs.length).all tr=bs.all id:=by rw[<- aFU];congr 1;funext i;exact htr i
   rw[e];exact ⟨.bl (bs.all id),H,I3,rfl,q⟩
 . intro F H xs vs k d Q s rx e w;unfold iH at e;split at e
   . rename_i m ds;obtain ⟨v,rfl,r⟩:=rx.one;obtain ⟨a,xs,rfl,hq,rl⟩:=r.seqL s;cases eb:g9 ds with
     | none=>rw[eb] at e;cases e
     | some bs=>rw[eb] at e;cases e;have:=vY rl eb;subst this;exact ⟨a,bs,rfl,hq,w _ F H (.refl s) (cZ _) (by intro z;cases z)⟩
   . cases e
end
inductive aG where
 | nx (ρ:Rho) | rt (m:Md) (d:D) | bk (ρ:Rho) | ct (ρ:Rho) | exc (c:Str) (ρ:Rho) | stuck
def cR(C:Cw)(Fa:Hp)(r:aG)(E:fV):Prop:=match r with
 | .nx ρ=>∀ σ F H,aE Fa F->a5 C.K C.F0 C.H0 F H σ ρ->E.nx σ H
 | .bk ρ=>∀ σ F H,aE Fa F->a5 C.K C.F0 C.H0 F H σ ρ->E.bk σ H
 | .ct ρ=>∀ σ F H,aE Fa F->a5 C.K C.F0 C.H0 F H σ ρ->E.ct σ H
 | .exc c ρ=>∀ σ F H,aE Fa F->a5 C.K C.F0 C.H0 F H σ ρ->C.EE c σ H
 | .rt m d=>∀ v F H,aI C.F0 C.H0 F H->Rp C.K F H m d v->(m=.fr->∀ a,v=.ref a->C.H0 a=none)->E.rt v H
 | .stuck=>False
theorem cR.mono{C:Cw}{F F1:Hp}{r:aG}{E:fV}(s:aE F F1)(w:cR C F r E):cR C F1 r E:=by
 cases r with
 | nx ρ=>exact λσ F' H' z R=>w σ F' H' (s.trans z) R
 | bk ρ=>exact λσ F' H' z R=>w σ F' H' (s.trans z) R
 | ct ρ=>exact λσ F' H' z R=>w σ F' H' (s.trans z) R
 | exc c ρ=>exact λσ F' H' z R=>w σ F' H' (s.trans z) R
 | rt m d=>exact w
 | stuck=>exact w
def tH(C:Cw)(g:Rho->aG):TS:=λE σ H=>∃ ρ F,a5 C.K C.F0 C.H0 F H σ ρ/\cR C F (g ρ) E
def PSv(C:Cw)(X:Cx)(st:Stmt)(g:Rho->aG):Prop:=PS X st (tH (C.at X) g)
def PBv(C:Cw)(X:Cx)(st:List Stmt)(g:Rho->aG):Prop:=PSs X st (tH (C.at X) g)
theorem PS.imp{X:Cx}{e:Stmt}{t t':TS}(h:PS X e t)(i:∀ E σ H,t' E σ H->t E σ H):PS X e t':=λaA s σ H E I q=>h aA s σ H E I (i E σ H q)
theorem PSs.imp{X:Cx}{e:List Stmt}{t t':TS}(h:PSs X e t)(i:∀ E σ H,t' E σ H->t E σ H):PSs X e t':=λaA s σ H E I q=>h aA s σ H E I (i E σ H q)
def aG.thn(r:aG)(k:Rho->aG):aG:=match r with
 | .nx ρ=>k ρ
 | r=>r
@[simp] theorem aG.thn_nx(ρ:Rho)(k:Rho->aG):(aG.nx ρ).thn k=k ρ:=rfl
@[simp] theorem aG.thn_rt(m:Md)(d:D)(k:Rho->aG):(aG.rt m d).thn k=.rt m d:=rfl
@[simp] theorem aG.thn_bk(ρ:Rho)(k:Rho->aG):(aG.bk ρ).thn k=.bk ρ:=rfl
@[simp] theorem aG.thn_ct(ρ:Rho)(k:Rho->aG):(aG.ct ρ).thn k=.ct ρ:=rfl
@[simp] theorem aG.thn_exc(c:Str)(ρ:Rho)(k:Rho->aG):(aG.exc c ρ).thn k=.exc c ρ:=rfl
@[simp] theorem aG.thn_stuck(k:Rho->aG):aG.stuck.thn k=.stuck:=rfl
section
variable {C:Cw}{X:Cx}{a b c e:Expr}{es:List Expr}{ga gb gc g:Rho->Res}{gs:Rho->a6}{pos p:Pos}{x:Str}{st:Stmt}{sts:List Stmt}{h1 h2:Rho->aG}
theorem aFX:PBv C X [] (λρ=>.nx ρ):=PSs.imp aCF λE σ H q=>by obtain ⟨ρ,F,R,w⟩:=q;exact w σ F H (aE.refl _) R
theorem aFY{E:fV}{σ:L2.St}{H:Hp}(q:tH C (λρ=>(h1 ρ).thn h2) E σ H):tSeq (tH C h1) (tH C h2) E σ H:=by
 obtain ⟨ρ,F,R,w⟩:=q;refine ⟨ρ,F,R,?_⟩;dsimp only at w;cases er:h1 ρ with
 | nx ρ'=>rw[er] at w;exact λσ' F' H' z R'=>⟨ρ',F',R',cR.mono z w⟩
 | rt m d=>rw[er] at w;exact w
 | bk ρ'=>rw[er] at w;exact w
 | ct ρ'=>rw[er] at w;exact w
 | exc c ρ'=>rw[er] at w;exact w
 | stuck=>rw[er] at w;exact w
theorem aFZ(ha:PSv C X st h1)(hb:PBv C X sts h2):PBv C X (st::sts) (λρ=>(h1 ρ).thn h2):=PSs.imp (aCG ha hb) λE σ H q=>aFY q
def Res.thS(r:Res)(ρ:Rho)(k:Md->D->aG):aG:=match r with
 | .ok m d=>k m d
 | .exc c=>.exc c ρ
 | .stuck=>.stuck
@[simp] theorem Res.thS_ok(m:Md)(d:D)(ρ:Rho)(k:Md->D->aG):(Res.ok m d).thS ρ k=k m d:=rfl
@[simp] theorem Res.thS_exc(c:Str)(ρ:Rho)(k:Md->D->aG):(Res.exc c).thS ρ k=.exc c ρ:=rfl
@[simp] theorem Res.thS_stuck(ρ:Rho)(k:Md->D->aG):Res.stuck.thS ρ k=.stuck:=rfl
theorem jX{F:Hp}{σ:L2.St}{H:Hp}{ρ:Rho}{k:Md->D->aG}{E:fV}{Q:VK}(R:a5 C.K C.F0 C.H0 F H σ ρ)(w:cR C F ((g ρ).thS ρ k) E)(h:∀ m d v F' H',cR C F' (k m d) E->aI F H F' H'->a5 C.K C.F0 C.H0 F' H' σ ρ->Rp C.K F' H' m d v->(m=.fr->∀ a,v=.ref a->H a=none)->Q v H'):tG C g σ H Q:=by
 rw[a7];refine ⟨ρ,F,R,?_⟩;cases er:g ρ with
 | stuck=>rw[er] at w;exact w
 | exc c=>rw[er] at w;exact λF' H' s=>w σ F' H' s.fsame (R.step s)
 | ok m d=>rw[er] at w;exact λv F' H' s rp fr=>h m d v F' H' (cR.mono s.fsame w) s (R.step s) rp fr
def jY(r:Res)(ρ:Rho):aG:=r.thS ρ λm d=>match m with | .bo=>.stuck | m=>.rt m d
theorem aF0(he:PV C X e g):PSv C X (.Return (some e) pos) (λρ=>jY (g ρ) ρ):=PS.imp (uW he) λE σ H q=>by
 obtain ⟨ρ,F,R,w⟩:=q;refine jX R w λm d v F' H' w' s R' rp fr=>?_;cases m with
 | bo=>exact (show False from w').elim
 | fz=>exact w' v F' H' R'.st rp (by intro z;cases z)
 | fr=>exact w' v F' H' R'.st rp λ_ a ea=>R.st.same.free (fr rfl a ea)
def fJ(ρ:Rho)(i:Nat):aG:=match ρ[i]? with
 | some (some (false,d))=>.rt .fz d
 | some (some (true,d))=>.rt .fr d
 | _=>.stuck
theorem aF1(i:Nat)(h:PE X (.Name x p) (k4 i)):PSv C X (.Return (some (.Name x p)) pos) (λρ=>fJ ρ i):=PS.imp (uW h) λE σ H q=>by
 obtain ⟨ρ,F,R,w⟩:=q;dsimp only at w;unfold fJ at w;cases e:ρ[i]? with
 | none=>rw[e] at w;exact w.elim
 | some o =>
  cases o with
  | none=>rw[e] at w;exact w.elim
  | some q =>
   obtain ⟨m,d⟩:=q;obtain ⟨v,e1,r,hh⟩:=R.slot i m d e;rw[e] at w;cases m with
   | false=>exact ⟨v,e1,w v F H R.st r (by intro z;cases z)⟩
   | true=>exact ⟨v,e1,w v F H R.st r λ_=>hh rfl⟩
def ifS(t:Res)(ρ:Rho)(x y:aG):aG:=t.thS ρ λ_ d=>match d with | .bl true=>x | .bl false=>y | _=>.stuck
theorem aF2{s1 s2:List Stmt}(hc:PTv C X c gc)(ha:PBv C X s1 h1)(hb:PBv C X s2 h2):PSv C X (.If c s1 s2 pos) (λρ=>ifS (gc ρ) ρ (h1 ρ) (h2 ρ)):=by
 refine PS.imp (ps_if hc ha hb) λE σ H q=>?_;obtain ⟨ρ,F,R,w⟩:=q;dsimp only at w;refine ⟨ρ,F,R,?_⟩;cases er:gc ρ with
 | stuck=>rw[er] at w;exact w
 | exc c=>rw[er] at w;exact λF' H' s=>w σ F' H' s.fsame (R.step s)
 | ok m d =>
  rw[er] at w;cases d with
  | bl k =>
   intro F' H' s;cases k with
   | true=>rw[if_pos rfl];exact ⟨ρ,F',R.step s,cR.mono s.fsame w⟩
   | false=>rw[if_neg aQK];exact ⟨ρ,F',R.step s,cR.mono s.fsame w⟩
  | _=>exact w.elim
def fK(ρ:Rho)(i:Nat)(r:Res):aG:=r.thS ρ λm d=>match m with
 | .fz=>.nx (ρ.set i (some (false,d)))
 | .fr=>.nx (ρ.set i (some (true,d)))
 | .bo=>.stuck
theorem a5.set{K:Fg}{F0 H0 F H F' H':Hp}{σ:L2.St}{ρ:Rho}{i:Nat}{m:Bool}{d:D}{v:V}(R0:a5 K F0 H0 F H σ ρ)(s:aI F H F' H')(rp:Rp K F' H' (if m then .bo else .fz) d v)(fr:m=true->∀ a,v=.ref a->H a=none):a5 K F0 H0 F' H' (σ.set i (some v)) (ρ.set i (some (m,d))):=by
 have R:=R0.step s;refine ⟨R.st,λj m' d' e=>?_,λj k d1 d2 a hjk e1 e2 q1 q2=>?_,by rw[aSG,aSG];exact R.len⟩
 . by_cases hj:j=i
   . subst hj;rw[aSH] at e;by_cases hl:j<ρ.length
     . rw[if_pos rfl,if_pos hl] at e;cases e;refine ⟨v,by rw[aSH,if_pos rfl,if_pos (by rw[R.len];exact hl)],rp,λz a ea=>R0.st.same.free (fr z a ea)⟩
     . rw[if_pos rfl,if_neg hl] at e;cases e
   . rw[aP3 (λz=>hj z.symm)] at e ⊢;exact R.slot j m' d' e
 . have old:∀ (l:Nat) (d:D) (b:Addr),l≠i->ρ[l]? = some (some (true,d))->σ[l]? = some (some (.ref b))->H b≠none:=λl d b hl e q=>by obtain ⟨u,q',r,_⟩:=R0.slot l true d e;rw[q] at q';cases q';obtain ⟨b',eb,_,t⟩:=r;cases eb;exact t.there
   by_cases hj:j=i
   . subst hj;rw[aP3 hjk] at e2 q2;rw[aSH] at e1 q1;by_cases hl:j<ρ.length
     . rw[if_pos rfl,if_pos hl] at e1;rw[if_pos rfl,if_pos (by rw[R.len];exact hl)] at q1
       cases e1;cases q1;exact old k d2 a (λz=>hjk z.symm) e2 q2 (fr rfl a rfl)
     . rw[if_pos rfl,if_neg hl] at e1;cases e1
   . by_cases hk:k=i
     . subst hk;rw[aP3 (λz=>hjk z.symm)] at e1 q1;rw[aSH] at e2 q2;by_cases hl:k<ρ.length
       . rw[if_pos rfl,if_pos hl] at e2;rw[if_pos rfl,if_pos (by rw[R.len];exact hl)] at q2
         cases e2;cases q2;exact old j d1 a hjk e1 q1 (fr rfl a rfl)
       . rw[if_pos rfl,if_neg hl] at e2;cases e2
     . rw[aP3 (λz=>hj z.symm)] at e1 q1;rw[aP3 (λz=>hk z.symm)] at e2 q2;exact R.apart j k d1 d2 a hjk e1 e2 q1 q2
theorem qL{g:Rho->Res}{i:Nat}{E:fV}{σ:L2.St}{H:Hp}(q:tH (C.at X) (λρ=>fK ρ i (g ρ)) E σ H):k6 (tG (C.at X) g) (k5 i) E σ H:=by
 obtain ⟨ρ,F,R,w⟩:=q;dsimp only at w;refine jX R w λm d v F' H' w' s R' rp fr=>?_;cases m with
 | bo=>exact (show False from w').elim
 | fz=>exact w' _ F' H' (aE.refl _) (R.set (m:=false) s rp (by intro z;cases z))
 | fr=>exact w' _ F' H' (aE.refl _) (R.set (m:=true) s rp λ_ a ea=>fr rfl a ea)
theorem aF3{i:Nat}{pos':Pos}(hN:X.N.Nodup)(hi:X.N[i]? = some x)(hx:Loc X.env.scope x)(he:PV C X e g)(hs:swapsWith e (some (.Name x pos')) pos.line X.env=pure false:=by rfl)(hf:X.fn x=true\/X.env.scope.names.lookup x=some .local:=by first | exact .inl rfl | exact .inr rfl | assumption):PSv C X (.Assign [.Name x pos'] e pos) (λρ=>fK ρ i (g ρ)):=PS.imp (aCN hN hi hx he hs hf) λE σ H q=>qL q
end
def Its(x:Str):It:=⟨λi _=>i<x.cps.size,λi H v H'=>H'=H/\∃ c,x.cps[i]? = some c/\v=.str ⟨#[c]⟩,λi _=>x.cps.size<=i⟩
theorem vZ{P:Program}{w:World}{K:Fg}{tg:Expr}(it:Addr)(x:Str)(t:Tok)(ty:String)(hty:["enumerate", "zip", "dict_itemiterator", "dict_reverseitemiterator", "odict_iterator", "itertools.zip_longest", "itertools.pairwise"].contains ty=false)(W:∀ A':Around,A'.handled=none->Walks P w A' it [it] [it] x.cps.size (SignAt x) (λi h=>h.IsStrIter it ty x t i))(Sf:∀ (A:Around) (i:Nat) (s:Shared) (Q:VSP) (E:VSP),s.heap.IsStrIter it ty x t i->Q (.ref it) s->wpAny (model P w) A (pyIter (.ref it)) Q E s):jT P w K tg (Its x) [it] it (λi h=>i<=x.cps.size/\h.IsStrIter it ty x t i) where
 mem:=by simp
 obj:=λi h st b hb=>by
  have e:b=it:=by simpa using hb
  subst e;obtain ⟨_,o,e,c,d⟩:=st;exact ⟨o,e,λv z=>by rw[d] at z;cases z⟩
 keep:=λi h h' st k=>⟨st.1,let ⟨o,e,r⟩:=st.2;⟨o,k it (by simp) o e,r⟩⟩
 item:=by
  intro X hP hw hK hc i aA s σ H E I hf st hg;subst hP hw hK;obtain ⟨f0,f1,f2,f3,f4,f5⟩:=hf it (by simp)
  refine (W X.A (I.ok.hd hc)).item i s _ _ hg st.2 λv h' tk hv st' kk=>?_;obtain ⟨c,u,hc',rfl⟩:=hv;have I1:Inv X aA σ H { s with heap:=h',toks:=tk }:=I.turned (λb o hb e=>kk b o (by simpa using hb) e) f0 f1 f3 f4 f5
  obtain ⟨o,e,oc,d⟩:=id st';exact ⟨_,rfl,k7 (s:={ s with heap:=h',toks:=tk }) e oc d hty ⟨.str ⟨#[c]⟩,H,I1,⟨u,rfl⟩,⟨rfl,c,hc',rfl⟩,⟨hg,st'⟩,λb hb=>(hf b hb).1⟩⟩
 done:=by
  intro X hP hw hK hc i aA s σ H E I hf st hg;subst hP hw hK;obtain ⟨f0,f1,f2,f3,f4,f5⟩:=hf it (by simp)
  have e:i=x.cps.size:=Nat.le_antisymm st.1 hg;subst e;exact (W X.A (I.ok.hd hc)).done s _ _ st.2 λh' tk kk=>⟨rfl,I.turned (λb o hb e=>kk b o (by simpa using hb) e) f0 f1 f3 f4 f5⟩
 self:=λA i s Q E st h=>Sf A i s Q E st.2 h
def iStr(te:TE):TI:=λσ H R=>te σ H λx H1=>∃ z,x=.str z/\R (Its z) H1
theorem aF4{X:Cx}{tg l:Expr}{tl:TE}(hl:PE X l tl):PI X tg l (iStr tl):=by
 intro aA s σ H R I h;refine thn (hl aA s σ H _ I h) λv s1 ⟨x,H1,I1,r1,q1⟩=>?_;obtain ⟨z,e,q⟩:=q1;subst e;obtain ⟨t,rfl⟩:=r1;have fin:∀ (ty:String) (o:Obj),o={ cls:=.type ty,data:=.fields #[.str z t,.int ((0:Nat):Int) 0] } -> (∀ b:Addr,b∈[s1.heap.objs.size]->iD X aA H1 b)/\Inv X aA σ H1 { s1 with heap:=s1.heap.push o }/\(s1.heap.push o).IsStrIter s1.heap.objs.size ty z t 0:=λty o eo=>by
  refine ⟨λb hb=>?_,I1.kept (t':=s1.toks) λb o e=>hps e,⟨o,aPO _ (by rw[eo];rfl),by rw[eo],by rw[eo]⟩⟩
  have e:b=s1.heap.objs.size:=by simpa using hb
  subst e;exact I1.fpOk (aQC _) (I1.hok.fresh (aQC _))
 cases ha:z.cps.all (· < 128)
 . refine wpAny_pyIter_wide ha ?_;obtain ⟨f1,f2,f3⟩:=fin "str_iterator" _ rfl;exact ⟨s1.heap.objs.size,[s1.heap.objs.size],_,Its z,H1,rfl,f2,vZ _ z t "str_iterator" (by decide) (λA' hA=>Walks.strWide hA _ z t) (λA i s Q E st h=>wpAny_pyIter_striter_wide st h),⟨aQO _,f3⟩,f1,q⟩
 . refine wpAny_pyIter_ascii ha ?_;obtain ⟨f1,f2,f3⟩:=fin "str_ascii_iterator" _ rfl;exact ⟨s1.heap.objs.size,[s1.heap.objs.size],_,Its z,H1,rfl,f2,vZ _ z t "str_ascii_iterator" (by decide) (λA' hA=>Walks.strAscii hA _ z t) (λA i s Q E st h=>wpAny_pyIter_striter_ascii st h),⟨aQO _,f3⟩,f1,q⟩
theorem PI.imp{X:Cx}{tg e:Expr}{t t':TI}(h:PI X tg e t)(i:∀ σ H R,t' σ H R->t σ H R):PI X tg e t':=λaA s σ H R I q=>h aA s σ H R I (i σ H R q)
theorem PI.or{X:Cx}{tg e:Expr}{t t':TI}(h:PI X tg e t)(h':PI X tg e t'):PI X tg e (λσ H R=>t σ H R\/t' σ H R):=λaA s σ H R I q=>by
 rcases q with q | q
 . exact h aA s σ H R I q
 . exact h' aA s σ H R I q
structure lL(K:Fg)(F:Hp)(J:It)(ds:List D):Prop where
 go:∀ i H,aE F H->i<ds.length->J.go i H
 stop:∀ i H,aE F H->ds.length<=i->J.stop i H
 yld:∀ i Fc H x H',aE F Fc->aE Fc H->i<ds.length->J.yld i H x H'->∃ F' d,ds[i]? = some d/\aI Fc H F' H'/\aB K F' d x
def WantI(C:Cw)(F H:Hp)(σ:L2.St)(r:Res)(R:It->Hp->Prop):Prop:=match r with
 | .ok _ (.lst ds)=>∀ J F' H',aI F H F' H'->lL C.K F' J ds->R J H'
 | .exc c=>∀ F' H',aI F H F' H'->C.EE c σ H'
 | _=>False
def tIv(C:Cw)(g:Rho->Res):TI:=λσ H R=>∃ ρ F,a5 C.K C.F0 C.H0 F H σ ρ/\WantI C F H σ (g ρ) R
def PIv(C:Cw)(X:Cx)(tg e:Expr)(g:Rho->Res):Prop:=PI X tg e (tIv (C.at X) g)
def dR(z:Str):List D:=z.cps.toList.map λc=>.str ⟨#[c]⟩
def eZ(r:Res):Res:=r.thn λ_ d=>match d with
 | .lst ds=>.ok .fz (.lst ds)
 | .tup ds=>.ok .fz (.lst ds)
 | .str z=>.ok .fz (.lst (dR z))
 | _=>.stuck
section
variable {C:Cw}{X:Cx}{tg e:Expr}{g:Rho->Res}{gs:Rho->a6}{pos p:Pos}
theorem aF5{K:Fg}{F:Hp}{a:Addr}{ds:List D}{xs:List V}(hq:SqT K F a xs)(r:aC K F ds xs):lL K F (Itt K a) ds where
 go:=λi H s hi=>by
  have hl:i<xs.length:=by rw[r.length];exact hi
  exact ⟨xs,xs[i],aE.seqT s hq,by simp[hl]⟩
 stop:=λi H s hi=>⟨xs,aE.seqT s hq,by rw[r.length];exact hi⟩
 yld:=λi Fc H x H' s1 s2 hi y=>by obtain ⟨rfl,y⟩:=y;have hx:=y xs (aE.seqT s2 (aE.seqT s1 hq));obtain ⟨d,e,rd⟩:=r.get hx;exact ⟨Fc,d,e,.refl s2,rd.mono s1 _ _⟩
theorem aF6{K:Fg}{F:Hp}{z:Str}(hk:PyData.strOk z=true):lL K F (Its z) (dR z) where
 go:=λi H s hi=>by simpa[dR,Its] using hi
 stop:=λi H s hi=>by simpa[dR,Its] using hi
 yld:=λi Fc H x H' s1 s2 hi y=>by
  obtain ⟨rfl,c,hc,rfl⟩:=y;refine ⟨Fc,.str ⟨#[c]⟩,by simp[dR,hc],.refl s2,?_⟩
  simp only[aB,true_and];refine ⟨by show 1<=sizeLine;decide,?_⟩
  unfold PyData.strOk at hk ⊢;rw[aR5] at hk;simpa using hk c (aR9 hc)
theorem aF7(h:PV C X e g):PIv C X tg e (λρ=>eZ (aY (g ρ))):=by
 have h:=iG h;refine PI.imp (PI.or (aCR h) (PI.or (aCS h) (aF4 h))) λσ H R q=>?_;obtain ⟨ρ,F,RS,w⟩:=q;dsimp only at w;cases er:aY (g ρ) with
 | stuck=>rw[er] at w;exact w.elim
 | exc c=>refine .inl ?_;unfold qB;rw[a7];refine ⟨ρ,F,RS,?_⟩;rw[er] at w ⊢;exact w
 | ok m d =>
  rw[er] at w;have hm:m=.fz:=by
   cases h:g ρ with
   | ok m' d'=>rw[h] at er;cases m' <;> cases er <;> rfl
   | exc c=>rw[h] at er;cases er
   | stuck=>rw[h] at er;cases er
  subst hm;cases d with
  | lst ds =>
   refine .inl ?_; unfold qB; rw [a7]; refine ⟨ρ, F, RS, ?_⟩; rw [er]; intro v F' H' st rp _; have rp : aB X.K F' (.lst ds) v := rp; simp only [aB] at rp; obtain ⟨a, xs, rfl, hq, r⟩ := rp; exact ⟨a, rfl, ⟨xs, st.sub.seq hq⟩, w _ F' H' st ⟨fun i H s hi => by
       have hl:i<xs.length:=by rw[r.length];exact hi
       exact ⟨xs,xs[i],s.seq hq,by simp[hl]⟩,λi H s hi=>⟨xs,s.seq hq,by rw[r.length];exact hi⟩,λi Fc H x H' s1 s2 hi y=>by
       obtain ⟨rfl,y⟩:=y;have hx:=y xs (s2.seq (s1.seq hq));obtain ⟨d,e,rd⟩:=r.get hx;exact ⟨Fc,d,e,.refl s2,rd.mono s1 _ _⟩⟩⟩
  | tup ds=>refine .inr (.inl ?_);unfold iTup;rw[a7];refine ⟨ρ,F,RS,?_⟩;rw[er];intro v F' H' st rp _;have rp:aB X.K F' (.tup ds) v:=rp;simp only[aB] at rp;obtain ⟨a,xs,rfl,hq,r⟩:=rp;exact ⟨a,rfl,⟨xs,aE.seqT st.sub hq⟩,w _ F' H' st (aF5 hq r)⟩
  | str z=>refine .inr (.inr ?_);unfold iStr;rw[a7];refine ⟨ρ,F,RS,?_⟩;rw[er];intro v F' H' st rp _;obtain ⟨rfl,hz,hk⟩:=Rp.str rp;exact ⟨z,rfl,w _ F' H' st (aF6 hk)⟩
  | _=>exact w.elim
def bG(lo hi:Int):List D:=(List.range (hi-lo).toNat).map λi=>.int (lo+(i:Nat))
def fL(r:a6):Res:=r.thn λxs=>match xs with
 | [(_,.int n)]=>if (decide (-(2 ^ 62)<=n)&&decide (n<2 ^ 62))=true then .ok .fz (.lst (bG 0 n)) else .stuck
 | _=>.stuck
theorem aF8{K:Fg}{F:Hp}{lo hi:Int}:lL K F (Itr lo (hi-lo).toNat) (bG lo hi) where
 go:=λi H s h=>by simpa[bG,Itr] using h
 stop:=λi H s h=>by simpa[bG,Itr] using h
 yld:=λi Fc H x H' s1 s2 h y=>by
  obtain ⟨rfl,rfl⟩:=y;have h':i<(hi-lo).toNat:=by simpa[bG] using h
  refine ⟨Fc,.int (lo+i),?_,.refl s2,by simp only[aB]⟩
  simp only[bG,aQY,List.getElem?_range h',aSI]
theorem aF9{a:Expr}(hg:Gl X "range")(hm:X.mg "range" = none)(ha:PAv C X [a] gs)(hs:starEach [a] X.env=[(false,eval a X.env)]:=by rfl):PIv C X tg (.Call (.Name "range" p) [a] [] pos) (λρ=>fL (gs ρ)):=by
 refine PI.imp (aCU hg hm ha hs) λσ H R q=>?_;obtain ⟨ρ,F,RS,w⟩:=q;dsimp only at w;unfold uY;refine ⟨ρ,F,RS,?_⟩;cases er:gs ρ with
 | stuck=>rw[er] at w;exact w
 | exc c=>rw[er] at w;exact w
 | ok xs =>
  rw[er] at w;intro vs F' H' st rp;unfold fL at w;rw[a6.thn_ok] at w;split at w
  . rename_i m n;split at w
    . rename_i hc;rw[aRI,aR2,aR2] at hc;obtain ⟨v,rfl,r⟩:=rp.one;cases r.int;have:=aF8 (K:=X.K) (F:=F') (lo:=0) (hi:=n);rw[Int.sub_zero] at this;exact ⟨n,rfl,hc.1,hc.2,w _ F' H' st this⟩
    . exact w.elim
  . exact w.elim
def PGv(C:Cw)(X:Cx)(tg:Expr)(k:D->Rho->Option Rho):Prop:=∃ t:TG,PG X tg t/\∀ F H σ ρ ρ' d v Q,a5 X.K C.F0 C.H0 F H σ ρ->aB X.K F d v->k d ρ=some ρ' ->
 (∀ σ' F' H',aE F F'->a5 X.K C.F0 C.H0 F' H' σ' ρ'->Q σ' H')->t v σ H Q
def cM(k:D->Rho->Option Rho)(body:Rho->aG):List D->Rho->aG
 | [],ρ=>.nx ρ
 | d::ds,ρ=>match k d ρ with
  | none=>.stuck
  | some ρ1=>match body ρ1 with
   | .nx ρ2=>cM k body ds ρ2
   | .ct ρ2=>cM k body ds ρ2
   | .bk ρ2=>.nx ρ2
   | r=>r
def fM(r:Res)(ρ:Rho)(k:D->Rho->Option Rho)(body:Rho->aG):aG:=r.thS ρ λ_ d=>match d with | .lst ds=>cM k body ds ρ | _=>.stuck
theorem aGA{body:List Stmt}{k:D->Rho->Option Rho}{h1:Rho->aG}(hp:PassesOwn (model X.prog X.w) X.A X.env X.xe)(hc:X.calm=true)(hi:PIv C X tg e g)(hg:PGv C X tg k)(hb:PBv C X body h1)(hs:∀ x,foldedSetIterable e X.env x=pure x:=by intro _;rfl):PSv C X (.For tg e body [] pos) (λρ=>fM (g ρ) ρ k h1):=by
 obtain ⟨t,ht,hk⟩:=hg;refine PS.imp (aCW hp hc hi ht hb hs) λE σ H q=>?_;obtain ⟨ρ,F,RS,w⟩:=q;dsimp only at w;unfold tFor;refine ⟨ρ,F,RS,?_⟩;cases er:g ρ with
 | stuck=>rw[er] at w;exact w
 | exc c=>rw[er] at w;exact λF' H' s=>w σ F' H' s.fsame (RS.step s)
 | ok m d =>
  rw[er] at w;cases d with
  | lst ds =>
   intro J F1 H1 s1 hJ;have w:cR (C.at X) F1 (cM k h1 ds ρ) E:=cR.mono s1.fsame w;refine ⟨λi m σ' H'=>m=ds.length-i/\i<=ds.length/\∃ ρ' F',aE F1 F'/\a5 X.K C.F0 C.H0 F' H' σ' ρ'/\cR (C.at X) F' (cM k h1 (ds.drop i) ρ') E,⟨ds.length,by simp,aQO _,ρ,F1,aE.refl _,RS.step s1,by simpa using w⟩,?_⟩
   rintro i m σ' H' ⟨rfl,hi,ρ',F',sF,R',w'⟩;by_cases hlt:i<ds.length
   . refine .inr ⟨hJ.go i H' (sF.trans R'.sub) hlt,λσ2 H2=>∃ ρ2 F2,aE F1 F2/\a5 X.K C.F0 C.H0 F2 H2 σ2 ρ2/\cR (C.at X) F2 (cM k h1 (ds.drop (i+1)) ρ2) E,λσ2 H2 ⟨ρ2,F2,a,b,c⟩=>⟨ds.length-(i+1),by omega,rfl,hlt,ρ2,F2,a,b,c⟩,λx H2 y=>?_⟩
     obtain ⟨F2,d,ed,s2,rd⟩:=hJ.yld i F' H' x H2 sF R'.sub hlt y;have hd:ds.drop i=d::ds.drop (i+1):=by rw[aSJ hlt];rw[aSE hlt] at ed;cases ed;rfl
     rw[hd] at w';unfold cM at w';cases ek:k d ρ' with
     | none=>rw[ek] at w';exact w'.elim
     | some ρ1 =>
      rw[ek] at w';dsimp only at w';refine hk F2 H2 σ' ρ' ρ1 d x _ (R'.step s2) rd ek λσ3 F3 H3 z3 R3=>?_;have z13:aE F1 F3:=(sF.trans s2.fsame).trans z3;have w3:=cR.mono (s2.fsame.trans z3) w';refine ⟨ρ1,F3,R3,?_⟩;cases eb:h1 ρ1 with
      | nx ρ2=>rw[eb] at w3;exact λσ4 F4 H4 z4 R4=>⟨ρ2,F4,z13.trans z4,R4,cR.mono z4 w3⟩
      | ct ρ2=>rw[eb] at w3;exact λσ4 F4 H4 z4 R4=>⟨ρ2,F4,z13.trans z4,R4,cR.mono z4 w3⟩
      | bk ρ2=>rw[eb] at w3;exact λσ4 F4 H4 z4 R4=>w3 σ4 F4 H4 z4 R4
      | rt m d=>rw[eb] at w3;exact w3
      | exc c ρ2=>rw[eb] at w3;exact w3
      | stuck=>rw[eb] at w3;exact w3
   . have ei:i=ds.length:=by omega
     subst ei;refine .inl ⟨hJ.stop _ H' (sF.trans R'.sub) (aQC _),?_⟩;rw[aSK] at w';exact w' σ' F' H' (aE.refl _) R'
  | _=>exact w.elim
end
end D3
namespace L2
open PySem PySem.Spec PyProof.Rows
theorem qM {env : Env} : ∀ (names : List (Str × NameKind)) (acc : List (Str × Addr)), (∀ y ∈ names, y.2 = .free → ∃ c, env.cells.lookup y.1 = some c) → (∀ y c, acc.lookup y = some c → env.cells.lookup y = some c) →
    ∃ cl,(forIn names acc λ(x:Str×NameKind) (cs:List (Str×Addr))=>(if x.2 == .free then (do let c <- cellOf env x.1;pure (ForInStep.yield ((x.1,c)::cs))) else pure (ForInStep.yield cs):Sem (ForInStep (List (Str×Addr)))))=pure cl /\
     (∀ y c,cl.lookup y=some c->env.cells.lookup y=some c)/\(∀ y c,acc.lookup y=some c->cl.lookup y=some c)/\∀ y,(y,NameKind.free)∈names->∃ c,cl.lookup y=some c
 | [],acc,_,ha=>⟨acc,by rw[aSL],ha,λ_ _ h=>h,λ_ h=>by cases h⟩
 | (n,k)::r,acc,h,ha=>by
  rw[aSM];by_cases hk:k=.free
  . subst hk;obtain ⟨c,ec⟩:=h (n,.free) mcs rfl;have hc:cellOf env n=pure c:=by unfold cellOf;rw[ec]
    have e:((if (NameKind.free==NameKind.free)=true then (do let c <- cellOf env n;pure (ForInStep.yield ((n,c)::acc))) else pure (ForInStep.yield acc)):Sem (ForInStep (List (Str×Addr))))=pure (ForInStep.yield ((n,c)::acc)):=by rw[if_pos (by decide),hc,aSN]
    obtain ⟨cl,e1,e2,e3,e4⟩:=qM (env:=env) r ((n,c)::acc) (λy hy=>h y (mcm hy)) (λy c' q=>by
     rw[aR0] at q;cases hyn:y==n with
     | true=>rw[hyn] at q;cases q;rw[aQL.mp hyn];exact ec
     | false=>rw[hyn] at q;exact ha y c' q)
    refine ⟨cl,?_,e2,λy c' q=>?_,λy hy=>?_⟩
    . dsimp only;rw[e,aSN];exact e1
    . cases hyn:y==n with
      | true=>have:=aQL.mp hyn;subst this;have q':=ha y c' q;rw[ec] at q';cases q';exact e3 y c (by rw[aR0,hyn])
      | false=>exact e3 y c' (by rw[aR0,hyn];exact q)
    . rcases aPY.mp hy with z | z
      . cases z;exact ⟨c,e3 n c (by rw[aR0,aSO])⟩
      . exact e4 y z
  . have e:((if (k==NameKind.free)=true then (do let c <- cellOf env n;pure (ForInStep.yield ((n,c)::acc))) else pure (ForInStep.yield acc)):Sem (ForInStep (List (Str×Addr))))=pure (ForInStep.yield acc):=by rw[if_neg (by simpa using hk)]
    obtain ⟨cl,e1,e2,e3,e4⟩:=qM (env:=env) r acc (λy hy=>h y (mcm hy)) ha;refine ⟨cl,?_,e2,e3,λy hy=>?_⟩
    . dsimp only;rw[e,aSN];exact e1
    . rcases aPY.mp hy with z | z
      . cases z;exact absurd rfl hk
      . exact e4 y z
theorem aGB{scope:Scope}{env:Env}(h:∀ y∈scope.names,y.2=.free->∃ c,env.cells.lookup y.1=some c):∃ cl,closureFor scope env=pure cl/\(∀ y c,cl.lookup y=some c->env.cells.lookup y=some c)/\∀ y,(y,NameKind.free)∈scope.names->∃ c,cl.lookup y=some c:=by
 obtain ⟨cl,e1,e2,_,e4⟩:=qM (env:=env) scope.names [] h (λy c q=>by simp at q)
 refine ⟨cl,?_,e2,e4⟩;unfold closureFor;rw[bind_pure];exact e1
theorem aGC{scope:Scope}{env:Env}(dL:∀ y∈scope.names,y.2 ≠ .cell){x:Str}(h:(relabel scope env).names.lookup x=some .cell\/(relabel scope env).names.lookup x=some .free):(x,NameKind.free)∈scope.names:=by
 unfold relabel at h;dsimp only at h;have go:∀ (l:List (Str×NameKind)),(∀ y∈l,y.2 ≠ .cell)->((l.map λ(n,k)=>if (k==NameKind.free&&env.scope.kind == .function&&env.kindOf n==some .cell) then (n,NameKind.cell) else (n,k)).lookup x=some .cell\/(l.map λ(n,k)=>if (k==NameKind.free&&env.scope.kind == .function&&env.kindOf n==some .cell) then (n,NameKind.cell) else (n,k)).lookup x=some .free)->(x,NameKind.free)∈l:=by
  intro l
  induction l with
  | nil=>intro _ h;simp at h
  | cons y l ih =>
   intro hc h;obtain ⟨n,k⟩:=y;rw[aRN] at h;by_cases hx:x=n
   . subst hx;have hk:k=.free:=by
       by_cases hk:k=.free
       . exact hk
       . have e:(k==NameKind.free&&env.scope.kind == .function&&env.kindOf x==some .cell)=false:=by
           have:(k==NameKind.free)=false:=by simpa using hk
           rw[this];rfl
         simp only[e,aRZ,aQ9,aR0,aSO] at h;rcases h with h | h
         . cases h;exact absurd rfl (hc _ mcs)
         . cases h;exact absurd rfl hk
     subst hk;exact mcs
   . have hb:(x==n)=false:=by simpa using hx
     have hh:∀ (kk:NameKind) (l':List (Str×NameKind)),((n,kk)::l').lookup x=l'.lookup x:=λkk l'=>by rw[aR0,hb]
     by_cases hcond:(k==NameKind.free&&env.scope.kind == .function&&env.kindOf n==some .cell)=true
     . dsimp only at h;rw[if_pos hcond,hh] at h;exact mcm (ih (λy hy=>hc y (mcm hy)) h)
     dsimp only at h;rw[if_neg hcond,hh] at h;exact mcm (ih (λy hy=>hc y (mcm hy)) h)
 exact go scope.names dL h
def bR(X:Cx)(scope:Scope)(N:List Str)(cl:List (Str×Addr))(C:Addr)(fp:List Addr)(s3:Shared)(H3:Hp):Cx where
 prog:=X.prog
 w:=X.w
 K:=X.K
 mg:=X.mg
 base:=X.base
 A:=X.A
 N:=N
 s₀:=s3
 H₀:=H3
 env:=compEnvC scope cl C X.env
 outer:=X.stack
 stack:=X.stack
 ex:=fp
 fn:=λ_=>false
 calm:=X.calm
 pn:=[]
 xe:=λ_ _=>False
def eG(X:Cx)(cs:List Expr)(t:TT):Prop :=
 ∀ (aA:LAO) (s:Shared) (σ:St) (H:Hp) (Q:Bool->Hp->Prop),Inv X aA σ H s->t σ H Q ->
  wpAny (model X.prog X.w) X.A (forIn cs true λc r=>if r=true then do let ok <- isTrue c X.env (eval c X.env);pure (ForInStep.yield ok) else pure (ForInStep.yield r)) (TP X aA σ Q) X.xe s
theorem aGD{X:Cx}:eG X [] (λ_ H Q=>Q true H):=λaA s σ H Q I h=>by rw[aSL];exact aP8 ⟨H,I,h⟩
theorem v4{X:Cx}:∀ cs:List Expr,(forIn cs false λc r=>if r=true then do let ok <- isTrue c X.env (eval c X.env);pure (ForInStep.yield ok) else pure (ForInStep.yield r):Sem Bool)=pure false
 | []=>by rw[aSL]
 | c::cs=>by rw[aSM,if_neg aQK,aSN];exact v4 cs
theorem aGE{X:Cx}{c:Expr}{cs:List Expr}{t u:TT}(hc:PT X c t)(hr:eG X cs u):eG X (c::cs) (qA t u):=λaA s σ H Q I h=>by
 rw[aSM,if_pos rfl];refine aP9 (aP9 (thn (hc aA s σ H _ I h) λb s1 ⟨H1,I1,q1⟩=>aP8 ?_));cases b with
 | true=>rw[if_pos rfl] at q1;exact hr aA s1 σ H1 Q I1 q1
 | false=>rw[if_neg aQK] at q1;dsimp only;rw[v4];exact aP8 ⟨H1,I1,q1⟩
section
variable {prog:Program}{w:World}{A:Around}{R:Result->Shared->Prop}{s:Shared}
theorem aGF {elt target aS : Expr} {ifs : List Expr} {scope : Scope} {pos : Pos} {it acc : Value} {env : Env} (I : Nat → Shared → Prop) (turn : ∀ n s, I n s → wpAny (model prog w) A (pyNext it) (fun r s1 => match r with
      | none=>R (.ok .next) s1
      | some v => wpAny (model prog w) A (letOwnedTupleGo target it v) (fun _ s1' => wpAny (model prog w) A (assign target env v) (fun _ s2 =>
          wpAny (model prog w) A (forIn ifs true λc r=>if r=true then do let ok <- isTrue c env (eval c env);pure (ForInStep.yield ok) else pure (ForInStep.yield r)) (λok s3 =>
           if ok=true then wpAny (model prog w) A (eval elt env) (λx s4 =>
            wpAny (model prog w) A (call (.builtin "list.append") [acc,x]) (λ_ s5=>∃ m,m<n/\I m s5) (λ_ _=>False) s4) (λ_ _=>False) s3
           else ∃ m, m < n ∧ I m s3) (fun _ _ => False) s2) (fun _ _ => False) s1') (fun _ _ => False) s1) (fun _ _ => False) s)
    (n:Nat) (h:I n s) :
    codeAny (model prog w) A (.compLoop (.ListComp elt [⟨target,aS,ifs,0⟩] scope pos) 0 it acc env) R s:=by
 refine codeAny_loop rfl I (λn s hI=>?_) n h;show wpAny _ A ((compTurn (.ListComp elt [⟨target,aS,ifs,0⟩] scope pos) 0 it acc env).onRaise (λx=>do noteFrame x env;theTreesLotGoes x)) _ _ s
 refine wpAny_noted ?_;rw[compTurn_list];refine aP9 (wpAny_standAt (aP9 (aP5 (turn n s hI) (λr s1 h1=>?_) λ_ _ h'=>h'.elim)));cases r with
 | none=>exact aP8 h1
 | some v =>
  refine aP9 (aP5 h1 (λ_ s1' h1'=>?_) λ_ _ h'=>h'.elim);refine aP9 (aP5 h1' (λ_ s2 h2=>aP9 (aP5 h2 (λok s3 h3=>?_) λ_ _ h'=>h'.elim)) λ_ _ h'=>h'.elim);cases ok with
  | false=>exact aP8 ⟨rfl,h3⟩
  | true=>exact aP9 (aP9 (aP5 h3 (λx s4 h4=>aP9 (aP5 h4 (λ_ s5 h5=>aP8 (aP8 ⟨rfl,h5⟩)) λ_ _ h'=>h'.elim)) λ_ _ h'=>h'.elim))
end
def eP(aD:List Nat)(σ:St):St:=aD.map λi=>(σ[i]?).getD none
def Weak(σ σ':St):Prop:=σ.length=σ'.length/\∀ (j:Nat) v,σ[j]? = some (some v)->σ'[j]? = some (some v)
def lM(aD:List Nat)(k:Nat)(wi:TI)(gt:TG)(tt:TT)(te:TE):TE:=λσ H Q=>wi σ H λJ H1=>∀ D,H1 D=none ->
 ∃ W:Nat->Nat->List V->Hp->Prop,(∃ m,W 0 m [] (upd H1 D (.lst [])))/\∀ i m ys H,W i m ys H->H D=some (.lst ys) /\
  ((J.stop i H/\Q (.ref D) H)\/(J.go i H/\ys.length<sizeLine/\∀ x H',J.yld i H x H'->gt x (eP aD σ++List.replicate k none) H' λσ2 H2=>Weak (eP aD σ++List.replicate k none) σ2/\tt σ2 H2 λb H3 =>
   if b=true then te σ2 H3 λy H4=>H4 D=some (.lst ys)/\∃ m',m'<m/\W (i+1) m' (ys++[y]) (upd H4 D (.lst (ys++[y]))) else ∃ m',m'<m/\W (i+1) m' ys H3))
theorem v5{X:Cx}{elt aS tg:Expr}{ifs:List Expr}{scope:Scope}{pos:Pos}{aD:List Nat}{aH tgN:List Str}{wi:TI}{gt:TG}{tt:TT}{te:TE}{use:Option (Value->Sem Unit)}{QQ:VSP}{aA:LAO}{s:Shared}{σ:St}{H:Hp}{Q:VK}(hc:X.calm=true)(hi:PI X tg aS wi)(dL:∀ y∈scope.names,y.2 ≠ .cell)(eK:scope.kind=.function)(gD:∀ y∈scope.names,y.2=.local->scope.names.lookup y.1=some .local)(eL:∀ y∈scope.names,y.2=.free->X.env.kindOf y.1=some .cell\/X.env.kindOf y.1=some .free)(fG:aH.map some=aD.map λi=>X.N[i]?)(gG:∀ y∈aH,(y,NameKind.free)∈scope.names)(gE:∀ y∈aH,(relabel scope X.env).names.lookup y=some .cell\/(relabel scope X.env).names.lookup y=some .free)(hg:∀ cl C fp s3 H3,PG (bR X scope (aH++tgN) cl C fp s3 H3) tg gt)(hf:∀ cl C fp s3 H3,eG (bR X scope (aH++tgN) cl C fp s3 H3) ifs tt)(he:∀ cl C fp s3 H3,PE (bR X scope (aH++tgN) cl C fp s3 H3) elt te)(hs:∀ x,foldedSetIterable aS X.env x=pure x)(I:Inv X aA σ H s)(h:lM aD tgN.length wi gt tt te σ H Q)(hend:∀ (D Z:Addr) (s6:Shared) (H5:Hp),(∃ m,s6.heap.Ns Z m)->(∀ h'',Heap.SameBut Z s6.heap h''->Inv X aA σ H5 { s6 with heap:=h'' })->H5 Z=none->X.s₀.heap.objs.size<=Z->Z≠X.env.locals->(∀ x c,X.env.cells.lookup x=some c->c≠Z)->(∀ p∈X.pn++aA,p.1≠Z)->Q (.ref D) H5->compPost (model X.prog X.w) X.A X.xe use QQ (.ref D) Z (.ok .next) s6):wpAny (model X.prog X.w) X.A (comprehension (.ListComp elt [⟨tg,aS,ifs,0⟩] scope pos) scope X.env (firstIterPos [⟨tg,aS,ifs,0⟩] pos) (newList []) (firstAsync [⟨tg,aS,ifs,0⟩]) (firstIter [⟨tg,aS,ifs,0⟩] X.env) use) QQ X.xe s:=by
 obtain ⟨cl,hclos,clsub,clhas⟩:=aGB (scope:=scope) (env:=X.env) λy hy hk=>I.ok.has y.1 (eL y hy hk);refine wpAny_comprehension_free (use:=use) rfl hs hclos eK gD (thn (hi aA s σ H _ I h) λv s1 h1=>thn h1 λitv s2 h2=>?_);obtain ⟨it,fp,tn,J,H2,e,I2,T,st2,f2,q⟩:=h2;subst e;refine aRJ ?_;have hn:H2 s2.heap.objs.size=none:=I2.hok.fresh (aQC _);obtain ⟨W,⟨m0,w0⟩,turn⟩:=q s2.heap.objs.size hn;have I3:Inv X aA σ (upd H2 s2.heap.objs.size (.lst [])) { s2 with heap:=s2.heap.push { cls:=.type "list", dict:=none,data:=.seq ([]:List Value).toArray } } :=
  I2.laid (t':=s2.toks) (λb u e=>hps e) (aQC _) ⟨aQO _,[],0,.nil,aPO _ rfl⟩
 generalize hs3:({ s2 with heap:=s2.heap.push { cls:=.type "list", dict:=none,data:=.seq ([]:List Value).toArray } }:Shared)=s3 at I3 ⊢
 generalize hH3:upd H2 s2.heap.objs.size (.lst [])=H3 at I3 w0;have fpl:∀ b∈fp,b<s2.heap.objs.size:=λb hb=>by obtain ⟨o,eo,_⟩:=T.obj 0 _ st2 b hb;exact aPP eo
 have sz3:s3.heap.objs.size=s2.heap.objs.size+1:=by rw[<- hs3];exact aQM _ _
 have keep23:∀ b o,s2.heap.get? b=some o->s3.heap.get? b=some o:=λb o e=>by rw[<- hs3];exact hps e
 have hDf:s2.heap.objs.size∉fp:=λhb=>aPR _ (fpl _ hb);refine wpAny_newFunctionEnv dL (by intro y hy;simp at hy) (λh4 hns hsb=>?_) eK
 try dsimp only at hns hsb ⊢
 have keep34:∀ b o,s3.heap.get? b=some o->h4.get? b=some o:=λb o e=>hsb.extBut b o (aPS (aPP e)) (hps e);have nostk:∀ b∈fp,b∉frs X.stack:=λb hb z=>by
  obtain ⟨_,f1,f2',_⟩:=f2 b hb;rcases aPY.mp (I2.stkSub b z) with q | q
  . exact f1 q
  . exact f2' q
 have okc:(bR X scope (aH++tgN) cl s3.heap.objs.size fp s3 H3).Ok :=
  { mod:=I3.ok.mod
    kind:=eK
    glob:=I3.ok.glob
    blt:=I3.ok.blt
    above:=aQC _
    inj:=λx y c h1 h2=>I3.ok.inj x y c (clsub x c h1) (clsub y c h2)
    has:=λx hx=>clhas x (aGC dL hx)
    cab:=λx c z=>by cases z
    hd:=I3.ok.hd
    frames:=I3.ok.frames
    stk:=.inl rfl
    exf:=λb hb=>⟨aPS (by show b<s3.heap.objs.size;rw[sz3];exact aSP (fpl b hb)),λx c e=>(f2 b hb).2.2.2.2.1 x c (clsub x c e)⟩
    bs:=I3.bs
    bsz:=aPV I3.ok.bsz I3.sz
    noex:=λb o e hb=>by
     obtain ⟨_,_,_,f3,_⟩:=f2 b hb;rcases f3 with z | z
     . exact I2.ok.noex b o e z
     . exact absurd (aPP (I2.ok.bs b o e).1) (aSQ.mpr z)
    exfs:=nostk
    funs:=I3.stack
    frf:=I3.stkFree }
 have capLen:aH.length=aD.length:=by have:=congrArg List.length fG;simpa using this
 generalize hσ0:eP aD σ++List.replicate tgN.length none=σ0 at turn;have Ic:Inv (bR X scope (aH++tgN) cl s3.heap.objs.size fp s3 H3) [] σ0 H3 { s3 with heap:=h4,toks:=s3.toks+([]:List (Str×Value)).length }:=by
  refine ⟨okc,rfl,I3.bare,Un.kept keep34,⟨_,hns,λi y v h1 h2 h3=>?_⟩,λx c e=>?_,I3.hok.fresh (aQC _),λx c e=>I3.freeC x c (clsub x c e),λp hp=>absurd (show p∈([]:LAO) from hp) (by simp),I3.hok.kept keep34,?_⟩
  . by_cases hi:i<aD.length
    . have ey:aH[i]? = some y:=by have h1:(aH++tgN)[i]? = some y:=h1;rw[aQX (by rw[capLen];exact hi)] at h1;exact h1
      have hj:X.N[aD[i]]? = some y:=by
       have e1:(aH.map some)[i]? = (aD.map λi=>X.N[i]?)[i]?:=by rw[fG]
       rw[aQY,aQY,ey,aSE hi] at e1;simpa using e1.symm
      have ev:σ[aD[i]]? = some (some v):=by
       rw[<- hσ0,aQX (by simpa[eP] using hi)] at h2
       unfold eP at h2;rw[aQY,aSE hi] at h2;simp only[aSI,Option.some.injEq] at h2;cases z:σ[aD[i]]? with
       | none=>rw[z] at h2;cases h2
       | some o=>rw[z] at h2;exact congrArg some h2
      have hyf:=gG y (aQZ ey);have hkX:=eL _ hyf rfl;obtain ⟨m,_,hl⟩:=I3.loc;obtain ⟨u,ru,lk⟩:=hl aD[i] y v hj ev (by rcases hkX with z | z;exact .inr (.inl z);exact .inr (.inr z))
      refine ⟨u,ru,.inr ⟨gE y (aQZ ey),?_⟩⟩;rcases lk with ⟨hk,_⟩ | ⟨_,c,ec,ic⟩
      . rcases hkX with z | z
        . rw[show X.env.kindOf y=some .cell from z] at hk;cases hk
        . rw[show X.env.kindOf y=some .free from z] at hk;cases hk
      . obtain ⟨c',ec'⟩:=clhas y hyf;have:=clsub y c' ec';rw[ec] at this;cases this;exact ⟨c,ec',ic.keeps keep34⟩
    . rw[<- hσ0,aQV (by simpa[eP] using hi),aQW] at h2
      split at h2 <;> cases h2
  . obtain ⟨v,q⟩:=I3.cell x c (clsub x c e);exact ⟨v,q.keeps keep34⟩
  . rw[<- hσ0];show (eP aD σ++List.replicate tgN.length none).length=(aH++tgN).length;simp[eP,capLen]
 have fpc:∀ {H':Hp},(∀ b∈fp,H' b=none)->∀ b∈fp,iD (bR X scope (aH++tgN) cl s3.heap.objs.size fp s3 H3) [] H' b:=λhn b hb =>
  ⟨hn b hb,(okc.exf b hb).1,nostk b hb,.inl hb,(okc.exf b hb).2,λp hp=>absurd (show p∈([]:LAO) from hp) (by simp)⟩
 have loop:codeAny (model X.prog X.w) X.A (.compLoop (.ListComp elt [⟨tg,aS,ifs,0⟩] scope pos) 0 (.ref it) (.ref s2.heap.objs.size) (compEnvC scope cl s3.heap.objs.size X.env)) (compPost (model X.prog X.w) X.A X.xe use QQ (.ref s2.heap.objs.size) s3.heap.objs.size) { s3 with heap:=h4,toks:=s3.toks+([]:List (Str×Value)).length }:=by
  refine aGF (λn s'=>∃ i ys H',Inv (bR X scope (aH++tgN) cl s3.heap.objs.size fp s3 H3) [] σ0 H' s'/\tn i s'.heap/\(∀ b∈fp,H' b=none)/\W i n ys H') ?_ m0
   ⟨0,[],H3,Ic,T.keep _ _ _ st2 (λb hb o e=>keep34 b o (keep23 b o e)),λb hb=>by rw[<- hH3,aU (by intro z;rw[z] at hb;exact hDf hb)];exact (f2 b hb).1,w0⟩
  rintro n s5 ⟨i,ys,H5,I5,st5,fr5,w5⟩;obtain ⟨hD,hw⟩:=turn i n ys H5 w5;rcases hw with ⟨stop,qq⟩ | ⟨go,hlen,step⟩
  . refine thn (T.done (bR X scope (aH++tgN) cl s3.heap.objs.size fp s3 H3) rfl rfl rfl hc i [] s5 σ0 H5 _ I5 (fpc fr5) st5 stop) λr s6 ⟨hr,I6⟩=>?_;subst hr;obtain ⟨m,hm,_⟩:=id I6.loc;refine hend s2.heap.objs.size s3.heap.objs.size s6 H5 ⟨m,hm⟩ (λh'' hsb2=>?_) I6.free I3.sz (λz=>?_) (λx c ec z=>?_) (λp hp z=>?_) qq;rotate_left
    . obtain ⟨m,⟨o,es,ep,ho,_⟩,_⟩:=id I3.loc;rw[<- z] at ho;exact aPR _ (aPP ho)
    . obtain ⟨v,o,ho,_⟩:=I3.cell x c ec;rw[z] at ho;exact aPR _ (aPP ho)
    . have:=(I3.pin p hp).1;rw[z] at this;exact aPR _ (aPP this)
    have u:=I6.base;have neC:∀ b o,s3.heap.get? b=some o->b≠s3.heap.objs.size:=λb o e=>aPS (aPP e);have un:Un (frs X.stack) fp H3 H5 s3.heap h'':=by
     refine ⟨λb o e n hb hx=>hsb2.extBut b o (neC b o e) (u.keep b o e n hb hx),λb o e n hb hx=>?_,u.free,λb o e hx=>?_,u.tups,u.frzs,u.tbls⟩
     . obtain ⟨sl,q⟩:=u.slot b o e n hb hx;exact ⟨sl,hsb2.extBut b _ (neC b o e) q⟩
     . obtain ⟨o',q⟩:=u.there b o e hx;exact ⟨o',hsb2.extBut b _ (neC b o e) q⟩
    have hok : HOk X.prog X.w H5 h'' := fun a o e => (I6.hok a o e).stay (fun b v hb q => hsb2.extBut b v (by
        intro z;have fr:=I6.free;rcases hb with hb | hb
        . rw[hb] at z;rw[z] at e;rw[show H5 s3.heap.objs.size=none from fr] at e;cases e
        . rw[z,show H5 s3.heap.objs.size=none from fr] at hb;cases hb) q) (λ_ q=>q) λ_ _ q=>q
    have os6:=I6.os;obtain ⟨hh,g6,d6,t6,o6⟩:=s6;obtain rfl:o6=s3.os:=os6;have I8:=I3.call (h':=h'') (g':=g6) (d':=d6) (t':=t6) (ch:=fp) un hok I6.bare λb hb=>by obtain ⟨_,f1,_,f3,f4,f5⟩:=f2 b hb;exact ⟨f3,f1,f4,f5⟩
    exact I8
  . refine thn (T.item (bR X scope (aH++tgN) cl s3.heap.objs.size fp s3 H3) rfl rfl rfl hc i [] s5 σ0 H5 _ I5 (fpc fr5) st5 go) λr s6 ⟨u,hr,h6⟩=>?_;subst hr;refine thn h6 λ_ s7 ⟨x,H7,I7,r7,y7,st7,fr7⟩=>?_;have I7':=I7.pinned (fpc fr7) (T.obj _ _ st7);refine thn (hg cl s3.heap.objs.size fp s3 H3 _ s7 σ0 H7 x u _ I7' r7 (step x H7 y7)) λ_ s8 ⟨σ8,H8,I8,wk,q8⟩=>?_;have jM:∀ {H':Hp} {s':Shared} {m':Nat} {ys':List V},Inv (bR X scope (aH++tgN) cl s3.heap.objs.size fp s3 H3) ([]++k8 fp s7.heap) σ8 H' s'->m'<n->W (i+1) m' ys' H' ->
        ∃ m,m<n/\∃ i ys H',Inv (bR X scope (aH++tgN) cl s3.heap.objs.size fp s3 H3) [] σ0 H' s'/\tn i s'.heap/\(∀ b∈fp,H' b=none)/\W i m ys H':=λ{H' s' m' ys'} I' hm w'=>by
      have pinned:∀ b∈fp,∀ o,s7.heap.get? b=some o->s'.heap.get? b=some o/\H' b=none:=λb hb o e=>by have:=I'.pin (b,o) (aQF _ (aQF _ (qC hb e)));exact ⟨this.1,this.2.1⟩
      refine ⟨m',hm,i+1,ys',H',I'.unpinned.weak wk.1 wk.2,T.keep _ _ _ st7 λb hb o e=>(pinned b hb o e).1,λb hb=>?_,w'⟩;obtain ⟨o,e,_⟩:=T.obj _ _ st7 b hb;exact (pinned b hb o e).2
    refine thn (hf cl s3.heap.objs.size fp s3 H3 _ s8 σ8 H8 _ I8 q8) λb s9 ⟨H9,I9,q9⟩=>?_;cases b with
    | false=>rw[if_neg aQK] at q9 ⊢;obtain ⟨m',hm,w9⟩:=q9;exact jM I9 hm w9
    | true =>
     rw[if_pos rfl] at q9 ⊢;refine thn (he cl s3.heap.objs.size fp s3 H3 _ s9 σ8 H9 _ I9 q9) λy s10 ⟨yv,H10,I10,r10,hD10,m',hm,w10⟩=>?_;refine thn (vI (X:=bR X scope (aH++tgN) cl s3.heap.objs.size fp s3 H3) _ s10 σ8 H10 (.ref s2.heap.objs.size) [yv] (.ref s2.heap.objs.size) [y] (λv H'=>v=.non/\H'=upd H10 s2.heap.objs.size (.lst (ys++[yv]))) I10 rfl (.cons r10 .nil)
      ⟨s2.heap.objs.size,ys,yv,rfl,rfl,hD10,hlen,rfl,rfl⟩) λ_ s11 ⟨v,H11,I11,_,_,e11⟩=>?_
     subst e11;exact jM I11 hm w10
 exact codeAny_compStart_list loop (T.self _ 0 _ _ _ (T.keep _ _ _ st2 (λb hb o e=>keep34 b o (keep23 b o e))) loop)
theorem aGG{X:Cx}{elt aS tg:Expr}{ifs:List Expr}{scope:Scope}{pos:Pos}{aD:List Nat}{aH tgN:List Str}{wi:TI}{gt:TG}{tt:TT}{te:TE}(hc:X.calm=true)(hi:PI X tg aS wi)(dL:∀ y∈scope.names,y.2 ≠ .cell)(eK:scope.kind=.function)(gD:∀ y∈scope.names,y.2=.local->scope.names.lookup y.1=some .local)(eL:∀ y∈scope.names,y.2=.free->X.env.kindOf y.1=some .cell\/X.env.kindOf y.1=some .free)(fG:aH.map some=aD.map λi=>X.N[i]?)(gG:∀ y∈aH,(y,NameKind.free)∈scope.names)(gE:∀ y∈aH,(relabel scope X.env).names.lookup y=some .cell\/(relabel scope X.env).names.lookup y=some .free)(hg:∀ cl C fp s3 H3,PG (bR X scope (aH++tgN) cl C fp s3 H3) tg gt)(hf:∀ cl C fp s3 H3,eG (bR X scope (aH++tgN) cl C fp s3 H3) ifs tt)(he:∀ cl C fp s3 H3,PE (bR X scope (aH++tgN) cl C fp s3 H3) elt te)(hs:∀ x,foldedSetIterable aS X.env x=pure x:=by intro _;rfl):PE X (.ListComp elt [⟨tg,aS,ifs,0⟩] scope pos) (lM aD tgN.length wi gt tt te):=by intro aA s σ H Q I h;rw[eval_ListComp];exact v5 (use:=none) hc hi dL eK gD eL fG gG gE hg hf he hs I h λD Z s6 H5 hm hI _ _ _ _ _ q=>by obtain ⟨m,hm⟩:=hm;exact ⟨m,hm,λh'' hs=>⟨.ref D,H5,hI h'' hs,rfl,q⟩⟩
theorem Inv.dropped{X:Cx}{aA:LAO}{σ:St}{H:Hp}{s:Shared}{h'':Heap}{Z:Addr}(I:Inv X aA σ H s)(hs:Heap.SameBut Z s.heap h'')(hz:H Z=none)(h0:X.s₀.heap.objs.size<=Z)(h1:Z≠X.env.locals)(h2:∀ x c,X.env.cells.lookup x=some c->c≠Z)(h3:∀ p∈X.pn++aA,p.1≠Z):Inv X aA σ H { s with heap:=h'' }:=by
 have un:Un (frs X.stack) [Z] H H s.heap h'':=by
  have k:∀ b o,s.heap.get? b=some o->b∉[Z]->h''.get? b=some o:=λb o e hb=>hs.extBut b o (λz=>hb (by rw[z];exact mcs)) e
  exact ⟨λb o e _ _ hx=>k b o e hx,λb o e _ _ hx=>⟨o.slots,k b o e hx⟩,λ_ _ _ n _=>n,λb o e hx=>⟨o,k b o e hx⟩,λ_ _ q=>q,λ_ _ _ q=>q,λ_ ps q=>⟨#[],by simpa using q⟩⟩
 have hok:HOk X.prog X.w H h'':=λa o e=>(I.hok a o e).stay (λb v hb q=>hs.extBut b v (by
  rintro rfl;rcases hb with hb | hb
  . rw[hb,e] at hz;cases hz
  . rw[hz] at hb;cases hb) q) (λ_ q=>q) λ_ _ q=>q
 obtain ⟨hh,g,d,t,o⟩:=s;exact I.call (g':=g) (d':=d) (t':=t) (ch:=[Z]) un hok I.bare λb hb=>by
  obtain rfl:b=Z:=by simpa using hb
  exact ⟨.inr h0,h1,h2,h3⟩
theorem aGH{i:Nat}{x:Str}{pos' spos:Pos}{X:Cx}{elt aS tg:Expr}{ifs:List Expr}{scope:Scope}{pos:Pos}{aD:List Nat}{aH tgN:List Str}{wi:TI}{gt:TG}{tt:TT}{te:TE}(hc:X.calm=true)(hi:PI X tg aS wi)(dL:∀ y∈scope.names,y.2 ≠ .cell)(eK:scope.kind=.function)(gD:∀ y∈scope.names,y.2=.local->scope.names.lookup y.1=some .local)(eL:∀ y∈scope.names,y.2=.free->X.env.kindOf y.1=some .cell\/X.env.kindOf y.1=some .free)(fG:aH.map some=aD.map λi=>X.N[i]?)(gG:∀ y∈aH,(y,NameKind.free)∈scope.names)(gE:∀ y∈aH,(relabel scope X.env).names.lookup y=some .cell\/(relabel scope X.env).names.lookup y=some .free)(hg:∀ cl C fp s3 H3,PG (bR X scope (aH++tgN) cl C fp s3 H3) tg gt)(hf:∀ cl C fp s3 H3,eG (bR X scope (aH++tgN) cl C fp s3 H3) ifs tt)(he:∀ cl C fp s3 H3,PE (bR X scope (aH++tgN) cl C fp s3 H3) elt te)(hN:X.N.Nodup)(hx:X.N[i]? = some x)(hk:X.env.scope.names.lookup x=some .local)(hsw:swapsWith (.ListComp elt [⟨tg,aS,ifs,0⟩] scope pos) (some (.Name x pos')) spos.line X.env=pure true)(hs:∀ x,foldedSetIterable aS X.env x=pure x:=by intro _;rfl):PS X (.Assign [.Name x pos'] (.ListComp elt [⟨tg,aS,ifs,0⟩] scope pos) spos) (k6 (lM aD tgN.length wi gt tt te) (k5 i)):=by
 intro aA s σ H En I h;rw[exec_Assign_Name_used _ _ _ _ hsw];refine aP9 (wpAny_standAt (aP9 ?_));show wpAny _ X.A (comprehension (.ListComp elt [⟨tg,aS,ifs,0⟩] scope pos) scope X.env (firstIterPos [⟨tg,aS,ifs,0⟩] pos) (newList []) (firstAsync [⟨tg,aS,ifs,0⟩]) (firstIter [⟨tg,aS,ifs,0⟩] X.env) (some (assign (.Name x pos') X.env)) >>= _) _ _ s;refine aP9 (v5 (use:=some (assign (.Name x pos') X.env)) hc hi dL eK gD eL fG gG gE hg hf he hs I h λD Z s6 H5 hm hI hz h0 h1 h2 h3 q=>?_);obtain ⟨m,hm⟩:=hm;have I6:=hI s6.heap (Heap.SameBut.refl _ _);refine wpAny_assign_Name (uQ I6 hN hx (.inl hk) (show aM (.ref D) (.ref D) from rfl) (λs' I' hch=>?_) (.inr hk))
 obtain ⟨a,sb,ha⟩:=hch;have na:Z≠a:=by
  rcases ha with rfl | ha
  . exact h1
  . exact λz=>h2 x a ha z.symm
 exact ⟨m,hm.sameBut sb na,λh'' hs2=>aP8 (aP8 ⟨_,H5,I'.dropped hs2 hz h0 h1 h2 h3,q⟩)⟩
end L2
namespace D3
open PySem PySem.Spec PyProof.Rows L2
def cN(aD:List Nat)(ρ:Rho):Rho:=aD.map λi=>match ρ[i]? with | some (some (false,d))=>some (false,d) | _=>none
def e9(k:D->Rho->Option Rho)(t e:Rho->Res)(ρ0:Rho):List D->Option (List D)
 | []=>some []
 | d::ds=>match k d ρ0 with
  | none=>none
  | some ρ1=>match t ρ1 with
   | .ok _ (.bl true)=>(match aY (e ρ1) with | .ok _ y=>(e9 k t e ρ0 ds).map (y :: ·) | _=>none)
   | .ok _ (.bl false)=>e9 k t e ρ0 ds
   | _=>none
def b0(src:Res)(ρ:Rho)(aD:List Nat)(n:Nat)(k:D->Rho->Option Rho)(t e:Rho->Res):Res:=src.thn λ_ d=>match d with
 | .lst ds=>if ds.length<sizeLine then (match e9 k t e (cN aD ρ++List.replicate n none) ds with | some ys=>.ok .fr (.lst ys) | none=>.stuck) else .stuck
 | _=>.stuck
abbrev Cw.nox(C:Cw):Cw:={ C with EE:=λ_ _ _=>False }
theorem aI.upd{F H F' H':Hp}{x:Addr}{o:HO}(st:aI F H F' H')(hx:H x=none)(hx':F' x=none):aI F H F' (L2.upd H' x o) :=
 ⟨λb u q=>by rw[aU (cK q hx)];exact st.same b u q,st.fsame,λb u q=>by rw[aU (cK q hx')];exact st.sub b u q,st.new⟩
section
variable {C:Cw}{X:Cx}{e:Expr}{g:Rho->Res}{pos p:Pos}
theorem aGI:eG X [] (tT (C.at X) λ_=>.ok .fz (.bl true)):=λaA s σ H Q I h=>by obtain ⟨ρ,F,R,w⟩:=h;exact aGD aA s σ H Q I (w F H (.refl R.sub))
theorem aGJ{c:Expr}{cs:List Expr}{ga gb:Rho->Res}(hc:PTv C X c ga)(hr:eG X cs (tT (C.at X) gb)):eG X (c::cs) (tT (C.at X) λρ=>fH (ga ρ) (gb ρ)):=λaA s σ H Q I h =>
 aGE hc hr aA s σ H Q I (vT h)
theorem aGK{K:Fg}{F0 H0 F H:Hp}{σ:L2.St}{ρ:Rho}(aD:List Nat)(n:Nat)(R:a5 K F0 H0 F H σ ρ):a5 K F0 H0 F H (eP aD σ++List.replicate n none) (cN aD ρ++List.replicate n none):=by
 have low:∀ (i:Nat) (m:Bool) (d:D),(cN aD ρ++List.replicate n none)[i]? = some (some (m,d))->m=false/\∃ v,(eP aD σ++List.replicate n none)[i]? = some (some v)/\aB K F d v:=λi m d e=>by
  by_cases hi:i<aD.length
  . rw[aQX (by simpa[cN] using hi)] at e
    rw[aQX (by simpa[eP] using hi)]
    unfold cN at e;unfold eP;rw[aQY,aSE hi] at e ⊢;simp only[aSI,Option.some.injEq] at e;cases z:ρ[aD[i]]? with
    | none=>rw[z] at e;cases e
    | some o =>
     rw[z] at e;cases o with
     | none=>cases e
     | some q =>
      obtain ⟨b,d'⟩:=q;cases b with
      | true=>cases e
      | false=>cases e;obtain ⟨v,e1,r,_⟩:=R.slot _ _ _ z;exact ⟨rfl,v,by simp[e1],r⟩
  . rw[aQV (by simpa[cN] using hi),aQW] at e
    split at e <;> cases e
 refine ⟨R.st,λi m d e=>?_,λi j d d' a _ e1 _ _ _=>?_,by simp[eP,cN]⟩
 . obtain ⟨rfl,v,e1,r⟩:=low i m d e;exact ⟨v,e1,r,by intro z;cases z⟩
 . have:=(low i true d e1).1;cases this
end
mutual
def bH:D->Option PyData
 | .non=>some .none
 | .bl b=>some (.bool b)
 | .int i=>some (.int i)
 | .str x=>some (.str x)
 | .tup ds=>(dS ds).map .tuple
 | .lst ds=>(dS ds).map .list
 | _=>none
def dS:List D->Option (List PyData)
 | []=>some []
 | d::ds=>match bH d,dS ds with
  | some p,some ps=>some (p::ps)
  | _,_=>none
end
section
variable {X:Cx}{aA:LAO}{σ:L2.St}{F H:Hp}{s:Shared}
mutual
theorem v6(I:Inv X aA σ H s)(sF:aE F H):∀ (d:D) (p:PyData) (v:V) (u:Value),aB X.K F d v->aM v u->bH d=some p->(∃ as,Reads s.heap u p as)/\p.canLay0=true
 | .non,p,v,u,h,r,e=>by simp only[aB] at h;subst h;cases r;simp only[bH] at e;cases e;exact ⟨⟨_,.none⟩,rfl⟩
 | .bl b,p,v,u,h,r,e=>by simp only[aB] at h;subst h;cases r;simp only[bH] at e;cases e;exact ⟨⟨_,.bool b⟩,rfl⟩
 | .int i,p,v,u,h,r,e=>by simp only[aB] at h;subst h;obtain ⟨t,rfl⟩:=r;simp only[bH] at e;cases e;exact ⟨⟨_,.int i t⟩,rfl⟩
 | .str x,p,v,u,h,r,e=>by simp only[aB] at h;obtain ⟨rfl,_,hk⟩:=h;obtain ⟨t,rfl⟩:=r;simp only[bH] at e;cases e;exact ⟨⟨_,.str x t⟩,by simpa only [PyData.canLay0] using hk⟩
 | .tup ds,p,v,u,h,r,e=>by
  simp only[aB] at h;obtain ⟨a,xs,rfl,q,rl⟩:=h;cases r;simp only[bH] at e;cases ep:dS ds with
  | none=>rw[ep] at e;cases e
  | some ps=>rw[ep] at e;cases e;obtain ⟨its,rv,⟨o,h1,h2,n,h3⟩,_⟩:=I.tuple (aE.seqT sF q);obtain ⟨⟨as,ra⟩,hc⟩:=nS I sF ds ps xs its rl rv ep;exact ⟨⟨_,.tuple h1 h2 h3 (by simpa using ra)⟩,by simpa only [PyData.canLay0] using hc⟩
 | .lst ds,p,v,u,h,r,e=>by
  simp only[aB] at h;obtain ⟨a,xs,rfl,q,rl⟩:=h;cases r;simp only[bH] at e;cases ep:dS ds with
  | none=>rw[ep] at e;cases e
  | some ps=>rw[ep] at e;cases e;obtain ⟨its,rv,⟨o,n,h1,h2,_,h3⟩,_⟩:=I.list (sF.seq q);obtain ⟨⟨as,ra⟩,hc⟩:=nS I sF ds ps xs its rl rv ep;exact ⟨⟨_,.list h1 h2 h3 (by simpa using ra)⟩,by simpa only [PyData.canLay0] using hc⟩
 | .dct _,p,v,u,h,r,e=>by simp only[bH] at e;cases e
 | .ty _,p,v,u,h,r,e=>by simp only[bH] at e;cases e
 | .ob _,p,v,u,h,r,e=>by simp only[bH] at e;cases e
 | .ins _ _,p,v,u,h,r,e=>by simp only[bH] at e;cases e
 | .fn _,p,v,u,h,r,e=>by simp only[bH] at e;cases e
 | .exn _,p,v,u,h,r,e=>by simp only[bH] at e;cases e
 | .set _,p,v,u,h,r,e=>by simp only[bH] at e;cases e
 | .dtn _,p,v,u,h,r,e=>by simp only[bH] at e;cases e
 | .dtf _,p,v,u,h,r,e=>by simp only[bH] at e;cases e
theorem nS(I:Inv X aA σ H s)(sF:aE F H):∀ (ds:List D) (ps:List PyData) (xs:List V) (us:List Value),aC X.K F ds xs->aJ xs us->dS ds=some ps->(∃ as,ReadsAll s.heap us ps as)/\PyData.canLayAll0 ps=true
 | [],ps,xs,us,h,r,e=>by simp only[aC] at h;subst h;cases r;simp only[dS] at e;cases e;exact ⟨⟨_,.nil⟩,rfl⟩
 | d::ds,ps,xs,us,h,r,e=>by
  simp only[aC] at h;obtain ⟨y,ys,rfl,hd,hl⟩:=h;cases r with
  | cons r1 r2 =>
   simp only[dS] at e;cases e1:bH d with
   | none=>rw[e1] at e;cases e
   | some p =>
    cases e2:dS ds with
    | none=>rw[e1,e2] at e;cases e
    | some ps'=>rw[e1,e2] at e;cases e;obtain ⟨⟨as,ra⟩,hc⟩:=v6 I sF d p y _ hd r1 e1;obtain ⟨⟨bs,rb⟩,hc'⟩:=nS I sF ds ps' ys _ hl r2 e2;exact ⟨⟨_,.cons ra rb⟩,by simp only[PyData.canLayAll0,hc,hc',Bool.and_self]⟩
end
theorem v7(I:Inv X aA σ H s)(sF:aE F H){m:Md}{d:D}{p:PyData}{v:V}{u:Value}(h:Rp X.K F H m d v)(r:aM v u)(e:bH d=some p):(∃ as,Reads s.heap u p as)/\p.canLay0=true:=by
 cases m with
 | fz=>exact v6 I sF d p v u h r e
 | _ =>
  obtain ⟨a,rfl,n,t⟩:=h;cases d with
  | lst ds =>
   obtain ⟨xs,q,rl⟩:=t;cases r;simp only[bH] at e;cases ep:dS ds with
   | none=>rw[ep] at e;cases e
   | some ps=>rw[ep] at e;cases e;obtain ⟨its,rv,⟨o,n,h1,h2,_,h3⟩,_⟩:=I.list (SqL.of q);obtain ⟨⟨as,ra⟩,hc⟩:=nS I sF ds ps xs its rl rv ep;exact ⟨⟨_,.list h1 h2 h3 (by simpa using ra)⟩,by simpa only [PyData.canLay0] using hc⟩
  | dct ds=>simp only[bH] at e;cases e
  | ins _ _=>simp only[bH] at e;cases e
  | set _=>simp only[bH] at e;cases e
  | dtn _=>simp only[bH] at e;cases e
  | dtf _=>simp only[bH] at e;cases e
  | _=>exact t.elim
end
def jZ(p:PyData):Bool:=decide (p.depth<=50)
def eqF(neg:Bool):Md->D->Md->D->Option (Md×D):=λ_ x _ y=>match bH x,bH y with
 | some p,some q=>if (jZ p&&jZ q)=true then some (.fz,.bl (if neg then !PyData.eqv p q else PyData.eqv p q)) else none
 | _,_=>none
section
variable {C:Cw}{X:Cx}
theorem v8{f:Value->Value->Sem Value}{neg:Bool}(hu:X.A.units+64<cLine)(rule:∀ (s:Shared) (a b:Value) (da db:PyData) (as bs:List Addr) (Q:VSP),Reads s.heap a da as->Reads s.heap b db bs->da.canLay0=true->db.canLay0=true->X.A.units+min da.depth db.depth<cLine->Q (.bool (if neg then !PyData.eqv da db else PyData.eqv da db)) s->wpAny (model X.prog X.w) X.A (f a b) Q X.xe s):OpD C X f (eqF neg):=by
 refine ⟨λx y H Q=>∃ F m n d e p q,aE F H/\Rp X.K F H m d x/\Rp X.K F H n e y/\bH d=some p/\bH e=some q/\(jZ p&&jZ q)=true/\Q (.bl (if neg then !PyData.eqv p q else PyData.eqv p q)) H,?_,?_⟩
 . intro aA s σ H x y v u Q I rx ry h;obtain ⟨F,m,n,d,e,p,q,sF,hd,he,ep,eq,hs,hQ⟩:=h;obtain ⟨⟨as,ra⟩,ca⟩:=v7 I sF hd rx ep;obtain ⟨⟨bs,rb⟩,cb⟩:=v7 I sF he ry eq;rw[aRI] at hs;have h1:=aR3 hs.1;refine rule s v u p q as bs _ ra rb ca cb (by have:=aRW p.depth q.depth;omega) ⟨.bl _,H,I,rfl,hQ⟩
 . intro F H m x n y v u k d Q s rx ry e w;unfold eqF at e;split at e
   . rename_i p q ep eq;split at e
     . rename_i hc;cases e;exact ⟨F,m,n,x,y,p,q,s,rx,ry,ep,eq,hc,w _ F H (.refl s) (cZ _) (by intro z;cases z)⟩
     . cases e
   . cases e
theorem aGL(hu:X.A.units+64<cLine):OpD C X (compareOp .Eq) (eqF false):=v8 hu λs a b da db as bs Q ra rb ca cb hd q=>SeqAt.compareEq_reads ra rb ca cb hd q
theorem aGM(hu:X.A.units+64<cLine):OpD C X (compareOp .NotEq) (eqF true):=v8 hu λs a b da db as bs Q ra rb ca cb hd q=>SeqAt.compareNe_reads ra rb ca cb hd q
end
section
variable {C:Cw}{X:Cx}{o e:Expr}{es:List Expr}{go:Rho->Res}{gs:Rho->a6}{apos cpos:Pos}{T id:String}{name:Str}
def v9:List D->Option (List Str)
 | []=>some []
 | .str x::r=>(v9 r).map (x :: ·)
 | _=>none
def joinD:Md->D->List (Md×D)->Option (Md×D):=λ_ x xs=>match x,xs with
 | .str z,[(_,.lst ds)]=>(match v9 ds with
  | some ys=>if (ys.map (·.length)).sum+ys.length * z.length<=sizeLine then some (.fz,.str (Txt.join z ys)) else none
  | none=>none)
 | _,_=>none
theorem nT:∀ {ys:List Str} {us:List Value},aJ (ys.map V.str) us->StrsAre us ys
 | [],_,h=>by cases h;exact .nil
 | y::ys,_,h=>by
  cases h with
  | cons r t=>obtain ⟨tk,rfl⟩:=r;exact .cons y tk (nT t)
end
def spV(K:Fg)(mg:SOV)(n:Nat)(Φ:List D->Res):Sp:=λvs H Q E=>vs.length=n/\∃ F ds,aE F H/\aC K F ds vs/\match Φ ds with
 | .ok m d=>m ≠ .bo/\∀ v F' H',aI F H F' H'->Rp K F' H' m d v->(m=.fr->∀ a,v=.ref a->H a=none)->Q v H'
 | .exc c=>∀ F' H' u,aI F H F' H'->mg c=some u->E u none H'
 | .stuck=>False
structure FnV(P:Program)(w:World)(K:Fg)(mg:SOV)(base:Heap)(CX:CXT)(k:Nat)(x:Str)(n:Nat)(Φ:List D->Res):Prop where
 ex:∃ f fd ps,dM P w K mg base CX k f fd ps (spV K mg n Φ)/\mg x=some (.ref f)/\PySem.W.keepIn K (.ref f)=true/\gH K fd ps []
def bE(n:Nat)(Φ:List D->Res)(r:a6):Res:=r.thn λxs=>match dE xs with
 | some ds=>if ds.length=n then (match Φ ds with | .ok .bo _=>.stuck | r=>r) else .stuck
 | none=>.stuck
def XOk(CX:CXT)(C:Cw)(X:Cx):Prop:=∀ (aA:LAO) (σ:L2.St) (H:Hp) (s:Shared) (e:Value) (s':Shared),Inv X aA σ H s->CX X.stack H s (λu _ H'=>∃ c,X.mg c=some u/\C.EE c σ H') e s'->X.xe e s'
section
variable {C:Cw}{X:Cx}{e:Expr}{es:List Expr}{gs:Rho->a6}{p pos:Pos}{x:Str}{k n:Nat}{Φ:List D->Res}{CX:CXT}
theorem wA{f:Addr}{fd:FuncData}{ps:List Str}{aA:LAO}{σ:L2.St}{H:Hp}{s:Shared}{Q:VK}{us:List Value}{vs:List V}{E:XK}(F:dM X.prog X.w X.K X.mg X.base CX k f fd ps (spV X.K X.mg n Φ))(hr:cX k X.A)(hb:gH X.K fd ps [])(hx:∀ e s',CX X.stack H s E e s'->X.xe e s')(I:Inv X aA σ H s)(r:aJ vs us)(h:spV X.K X.mg n Φ vs H Q E):wpAny (model X.prog X.w) X.A (call (.ref f) us) (EP X aA σ Q) X.xe s:=by
 have hl:(us++[]).length=ps.length:=by rw[aQQ,<- r.length];exact F.len _ _ _ _ h
 have hb':=hb s us I.kIn hl;rw[aQQ] at hb';refine wpAny_call (aRP (F.run X.A X.stack s H ⟨us,[]⟩ us vs Q E hr I.env0 hb' r h) λr s' hq=>?_);cases r with
 | error e=>exact hx e s' hq
 | ok fl =>
  cases fl with
  | ret u=>exact I.after hq
  | next=>exact False.elim hq
  | brk=>exact False.elim hq
  | cont=>exact False.elim hq
theorem aGN(F:FnV X.prog X.w X.K X.mg X.base CX k x n Φ)(hr:cX k X.A)(hx:XOk CX (C.at X) X)(hg:Gl X x)(ha:PAv C X (e::es) gs)(hdb:(x==("__debug__" : Str))=false:=by decide)(he:starEach (e::es) X.env=(false,eval e X.env)::starEach es X.env:=by rfl)(hpl:(backTo pos (starEach es X.env)).any (·.1)=false:=by rfl):PV C X (.Call (.Name x p) (e::es) [] pos) (λρ=>bE n Φ (gs ρ)):=by
 obtain ⟨f,fd,ps,FF,hm,hk,hb⟩:=F.ex;intro aA s σ H Q I h;rw[a7] at h;obtain ⟨ρ,F,R,w⟩:=h;refine aQ2 (pZ I hg hm ?_ hdb);refine PySem.W.callWith_K (h₀:=X.base) I.ok.mod.kin hk (thn (ha pos aA s σ H (λvs H1=>spV X.K X.mg n Φ vs H1 Q λu _ H'=>∃ c,X.mg c=some u/\C.EE c σ H') I ?_) λus s1 ⟨vs,H1,I1,r,q⟩=>⟨I1.kIn,wA FF hr hb (λe s' hc=>hx aA σ H1 s1 e s' I1 hc) I1 r q⟩) he hpl;refine ⟨ρ,F,R,?_⟩;cases er:gs ρ with
 | stuck=>rw[er] at w;exact w
 | exc c=>rw[er] at w;exact w
 | ok xs =>
  rw[er] at w;intro vs F1 H1 s1 r1;have w1:bC (C.at X) F1 H1 σ (bE n Φ (.ok xs)) Q:=bC.step s1 w;unfold bE at w1;rw[a6.thn_ok] at w1;cases ef:dE xs with
  | none=>rw[ef] at w1;exact w1.elim
  | some ds =>
   rw[ef] at w1;dsimp only at w1;split at w1
   . rename_i hn;have rl:=r1.fz ef;refine ⟨by rw[rl.length];exact hn,F1,ds,s1.sub,rl,?_⟩
     cases ep:Φ ds with
     | stuck=>rw[ep] at w1;exact w1
     | exc c=>rw[ep] at w1;exact λF' H' u st hu=>⟨c,hu,w1 F' H' st⟩
     | ok m d =>
      rw[ep] at w1;cases m with
      | bo=>exact w1.elim
      | fz=>exact ⟨by decide,w1⟩
      | fr=>exact ⟨by decide,w1⟩
   . exact w1.elim
end
def endR:aG->Res
 | .nx _=>.ok .fz .non
 | .rt m d=>.ok m d
 | .exc c _=>.exc c
 | _=>.stuck
def iI(n:Nat)(ds:List D):Rho:=ds.map (λd=>some (false,d))++List.replicate (n-ds.length) none
theorem aGO{K:Fg}{F H:Hp}{N:List Str}{ds:List D}{vs:List V}(s:aE F H)(r:aC K F ds vs):a5 K F H F H (bN N vs) (iI N.length ds):=by
 have low:∀ (i:Nat) (m:Bool) (d:D),(iI N.length ds)[i]? = some (some (m,d))->m=false/\∃ v,(bN N vs)[i]? = some (some v)/\aB K F d v:=λi m d e=>by
  unfold iI at e;unfold L2.bN;by_cases hi:i<ds.length
  . rw[aQX (by simpa using hi),aQY,aSE hi] at e
    cases e;obtain ⟨v,ev,rv⟩:=r.get' (aSE hi);exact ⟨rfl,v,by rw[aQX (by simpa[r.length] using hi),aQY,ev];rfl,rv⟩
  . rw[aQV (by simpa using hi),aQW] at e
    split at e <;> cases e
 refine ⟨.refl s,λi m d e=>?_,λi j d d' a _ e1 _ _ _=>?_,by simp[L2.bN,iI,r.length]⟩
 . obtain ⟨rfl,v,e1,rv⟩:=low i m d e;exact ⟨v,e1,rv,by intro z;cases z⟩
 . have:=(low i true d e1).1;cases this
def nU(ns:List Int):List D:=[.lst (ns.map .int)]
theorem wB{K:Fg}{F:Hp}:∀ ns:List Int,aC K F (ns.map D.int) (ns.map V.int)
 | []=>aC.nil
 | n::ns=>aC.cons (by simp only[aB]) (wB ns)
def noK:Md->D->Md->D->Option (Md×D):=λ_ _ _ _=>none
abbrev fAdd:Md->D->Md->D->Option (Md×D):=orO (fI (λ_ _=>true) λi j=>.int (i+j)) (fS (λi j=>decide (i.length+j.length<=sizeLine)) λi j=>.str (i++j))
abbrev fSub:Md->D->Md->D->Option (Md×D):=fI (λ_ _=>true) λi j=>.int (i-j)
abbrev fMul:Md->D->Md->D->Option (Md×D):=orO (fI (λi j=>(bits i&&bits j)||(w64 i||w64 j)) λi j=>.int (i * j)) noK
abbrev fMod:Md->D->Md->D->Option (Md×D):=fI (λ_ j=>decide (0<j)) λi j=>.int (i % j)
abbrev fDiv:Md->D->Md->D->Option (Md×D):=fI (λ_ j=>decide (0<j)&&bits j) λi j=>.int (i / j)
abbrev fPow:Md->D->Md->D->Option (Md×D):=fI (λi j=>decide (0<=j)&&decide (j<=1000000)&&decide (i.natAbs<2 ^ 64)) λi j=>.int (i ^ j.toNat)
abbrev fLt:Md->D->Md->D->Option (Md×D):=fI (λ_ _=>true) λi j=>.bl (decide (i<j))
abbrev fLe:Md->D->Md->D->Option (Md×D):=fI (λ_ _=>true) λi j=>.bl (decide (i<=j))
abbrev fGt:Md->D->Md->D->Option (Md×D):=fI (λ_ _=>true) λi j=>.bl (decide (j<i))
abbrev fGe:Md->D->Md->D->Option (Md×D):=fI (λ_ _=>true) λi j=>.bl (decide (j<=i))
abbrev fEq:Md->D->Md->D->Option (Md×D):=orO (eqF false) noK
abbrev fNe:Md->D->Md->D->Option (Md×D):=orO (eqF true) noK
abbrev fIn:Md->D->Md->D->Option (Md×D):=fS (λ_ _=>true) λi j=>.bl (fX i j)
abbrev aGP:Md->D->Md->D->Option (Md×D):=fS (λ_ _=>true) λi j=>.bl (!fX i j)
def IsB(φ:Md->D->Md->D->Option (Md×D)):Prop:=∀ m x n y k d,φ m x n y=some (k,d)->∃ t,k=.fz/\d=.bl t
theorem nV{c:Int->Int->Bool}{g:Int->Int->Bool}:IsB (fI c λi j=>.bl (g i j)):=λm x n y k d e=>by
 unfold fI at e;split at e
 . split at e
   . cases e;exact ⟨_,rfl,rfl⟩
   . cases e
 . cases e
theorem wC{c:Str->Str->Bool}{g:Str->Str->Bool}:IsB (fS c λi j=>.bl (g i j)):=λm x n y k d e=>by
 unfold fS at e;split at e
 . split at e
   . cases e;exact ⟨_,rfl,rfl⟩
   . cases e
 . cases e
theorem lN{φ ψ}(h:IsB φ)(h':IsB ψ):IsB (orO φ ψ):=λm x n y k d e=>by
 unfold orO at e;cases e1:φ m x n y with
 | none=>rw[e1] at e;exact h' _ _ _ _ _ _ e
 | some p=>rw[e1] at e;cases e;exact h _ _ _ _ _ _ e1
theorem wD{neg:Bool}:IsB (eqF neg):=λm x n y k d e=>by
 unfold eqF at e;split at e
 . split at e
   . cases e;exact ⟨_,rfl,rfl⟩
   . cases e
 . cases e
section
variable {C:Cw}{X:Cx}
theorem j0{f:Value->Value->Sem Value}:OpD C X f noK:=⟨λ_ _ _ _=>False,λ_ _ _ _ _ _ _ _ _ _ _ _ h=>h.elim,λ_ _ _ _ _ _ _ _ _ _ _ _ _ _ e _=>by cases e⟩
theorem o_add:OpD C X (binaryOp .Add) fAdd:=aEU.or aE7
theorem o_mul:OpD C X (binaryOp .Mult) fMul:=aEX.or j0
theorem o_eq(hu:X.A.units+64<cLine):OpD C X (compareOp .Eq) fEq:=(aGL hu).or j0
theorem o_ne(hu:X.A.units+64<cLine):OpD C X (compareOp .NotEq) fNe:=(aGM hu).or j0
def phi(n N:Nat)(g:Rho->aG):List D->Res:=λds=>if ds.length=n then endR (g (iI N ds)) else .stuck
end
def lO(scope sc:Scope):List (Str×NameKind):=scope.names.map λ(n,k)=>if (k == .free&&sc.kind == .function&&sc.names.lookup n==some .cell) then (n,.cell) else (n,k)
theorem aGQ:bootBuiltins "len" = some (.builtin "len"):=by decide +kernel
theorem aGR:bootBuiltins "isinstance" = some (.builtin "isinstance"):=by decide +kernel
theorem aGS:bootBuiltins "all" = some (.builtin "all"):=by decide +kernel
theorem aGT:bootBuiltins "int" = some (.type "int"):=by decide +kernel
theorem aGU:bootBuiltins "bool" = some (.type "bool"):=by decide +kernel
theorem aGV:bootBuiltins "str" = some (.type "str"):=by decide +kernel
theorem aGW:bootBuiltins "tuple" = some (.type "tuple"):=by decide +kernel
theorem aGX:bootBuiltins "list" = some (.type "list"):=by decide +kernel
theorem aGY:bootBuiltins "dict" = some (.type "dict"):=by decide +kernel
structure CI where
 name:Str
 ups:List Str
 flds:List Str
 meths:List (Str×Str×Nat)
def cS:Expr->Bool | .Starred ..=>false | _=>true
def lP:Expr->Bool | .Call (.Name x _) [] [] _=>x != "super" | _=>true
theorem cH{x:Expr}{es:List Expr}{env:Env}(h:cS x=true):starEach (x::es) env=(false,eval x env)::starEach es env:=by cases x <;> first | rfl | cases h
theorem lQ(pos:Pos)(env:Env):∀ {es:List Expr},(∀ x∈es,cS x=true)->(backTo pos (starEach es env)).any (·.1)=false
 | [],_=>rfl
 | x::es,h=>by rw[cH (h x mcs)];show ((false||(backTo pos (starEach es env)).any (·.1))=false);rw[lQ pos env λy hy=>h y (mcm hy)];rfl
theorem nW(pos:Pos)(env:Env):∀ {es:List Expr},(∀ x∈es,cS x=true)->(backTo pos (starEach es env)).all (λx=>!x.1)=true
 | [],_=>rfl
 | x::es,h=>by rw[cH (h x mcs)];show ((true&&(backTo pos (starEach es env)).all (λx=>!x.1))=true);rw[nW pos env λy hy=>h y (mcm hy)];rfl
theorem qN{o:Expr}{n:Str}{env:Env}{w:Sem Value}(h:lP o=true):attributeBase o n env w=w:=by
 cases o with
 | Call f as ks pos =>
  cases f with
  | Name x p =>
   cases as with
   | nil =>
    cases ks with
    | nil=>show (if x != "super" || n == "__class__" || env.kindOf "super" != some .globalImplicit||env.kindOf "__class__" != some .free then w else _)=w;have:(x != ("super" : Str))=true:=h;rw[if_pos (by rw[this];rfl)]
    | cons _ _=>rfl
   | cons _ _=>rfl
  | _=>rfl
 | _=>rfl
theorem aGZ {o : Expr} {m : Str} {apos pos : Pos} {args : List Expr} {env : Env} (hb : lP o = true) (hst : ∀ x ∈ args, cS x = true) (hn : args.length < 30) (hl : apos.endLine = pos.line) :
    eval (.Call (.Attribute o m apos) args [] pos) env=(do
     let ov <- eval o env
     standAt apos.atName
     let (f,first) <- holding [ov] (getMethod ov m (do return (<- importBound o env).getD true))
     callWith pos f first (backTo pos (starEach args env)) (backToKw pos (keywordEach [] env))):=by
 have few:methodCallForm (args.length+([]:List Keyword).length) (backTo pos (starEach args env)) (backToKw pos (keywordEach [] env))=true:=by unfold methodCallForm;rw[nW pos env hst];show (true&&true&&decide (args.length+0+0<30))=true;rw[aRO (by omega)];rfl
 show (do
  let ov <- attributeBase o m env (eval o env)
  standAt apos.atName
  methodCall o m apos pos env ov (args.length+([]:List Keyword).length) (backTo pos (starEach args env)) (backToKw pos (keywordEach [] env)))=_
 rw[qN hb];unfold methodCall;rw[few];have hp:methodCallPos true o env apos pos=pure pos:=by unfold methodCallPos;rw[if_pos (by rw[hl];simp)]
 rw[hp];show (do
  let ov <- eval o env
  standAt apos.atName
  let (f,first) <- holding [ov] (getMethod ov m (do return (<- importBound o env).getD true))
  let callPos <- pure pos
  callWith callPos f first (backTo pos (starEach args env)) (backToKw pos (keywordEach [] env)))=_
 simp only[aSN]
structure MtV(P:Program)(w:World)(K:Fg)(mg:SOV)(base:Heap)(CX:CXT)(k:Nat)(c m:Str)(n:Nat)(Φ:List D->Res):Prop where
 ex:∃ C f fd ps,PySem.W.nsIn K mainGlobals c=some (some (.ref C))/\Cls K C/\lC K C m f/\dM P w K mg base CX k f fd ps (spV K mg n Φ)/\gH K fd ps []
structure FlV(K:Fg)(c f:Str):Prop where
 ex:∃ C,PySem.W.nsIn K mainGlobals c=some (some (.ref C))/\Cls K C/\qF K C f
def CI.meth(cl:List CI)(c m:Str):Option (Str×Nat):=match cl.find? (λi=>i.name==c) with
 | some i=>i.meths.lookup m
 | none=>none
def fA(cl:List CI)(Φ:Str->List D->Res)(m:Str)(o:Res)(as:a6):Res:=o.thn λmd d=>match md,d with
 | .fz,.ins c fs=>(match CI.meth cl c m with
  | some (key,n)=>if fs.lookup m=none then bE n (Φ key) (cG (.ok .fz (.ins c fs)) as) else .stuck
  | none=>.stuck)
 | _,_=>.stuck
section
variable {C:Cw}{X:Cx}{o e:Expr}{es:List Expr}{go:Rho->Res}{gs:Rho->a6}{apos pos:Pos}{m f:Str}{k:Nat}{Φ:Str->List D->Res}{CX:CXT}{cl:List CI}
theorem aG0(hM:∀ c m key n,CI.meth cl c m=some (key,n)->MtV X.prog X.w X.K X.mg X.base CX k c m n (Φ key))(hr:cX k X.A)(hx:XOk CX (C.at X) X)(ho:PV C X o go)(ha:PAv C X es gs)(hb:lP o=true)(hst:∀ x∈es,cS x=true)(hn:es.length<30)(hl:apos.endLine=pos.line)(hes:es=[]->gs=λ_=>.ok []):PV C X (.Call (.Attribute o m apos) es [] pos) (λρ=>fA cl Φ m (go ρ) (gs ρ)):=by
 intro aA s σ H Q I q;rw[a7] at q;obtain ⟨ρ,F,R,w⟩:=q;refine aDO (pl:=(do return (<- importBound o X.env).getD true)) ho I ?_ (aGZ hb hst hn hl)
 show tG (C.at X) go σ H _;rw[a7];refine ⟨ρ,F,R,?_⟩;cases er:go ρ with
 | stuck=>rw[er] at w;exact w
 | exc c=>rw[er] at w;exact w
 | ok md d =>
  rw[er] at w;intro v F1 H1 s1 r1 _;have w1:bC (C.at X) F1 H1 σ (fA cl Φ m (.ok md d) (gs ρ)) Q:=bC.step s1 w;unfold fA at w1;rw[Res.thn_ok] at w1;cases md with
  | fr=>exact w1.elim
  | bo=>exact w1.elim
  | fz =>
  cases d with
  | ins c fs =>
   dsimp only at w1;cases em:CI.meth cl c m with
   | none=>rw[em] at w1;exact w1.elim
   | some kn =>
    obtain ⟨key,n⟩:=kn;rw[em] at w1;dsimp only at w1;split at w1
    . rename_i hnl;obtain ⟨C',f',fd,ps,n1,cl',me,FO,hbd⟩:=(hM c m key n em).ex;have r1':=r1;obtain ⟨a,C2,dx,gs',ev,n2,ea,rf⟩:=r1.ins s1.sub;rw[n1] at n2;cases n2;subst ev;refine ⟨a,C',dx,gs',f',rfl,ea,cl',me,rf.lookN hnl,λs1' I1=>?_⟩;have fin:∀ (vs:List V) (us:List Value) (s2:Shared) (F2 H2:Hp) (xs:List (Md×D)),aI F1 H1 F2 H2->RpL X.K F2 H2 xs vs->Inv X aA σ H2 s2->aJ vs us->gs ρ=.ok xs->wpAny (model X.prog X.w) X.A (call (.ref f') (.ref a::us)) (EP X aA σ Q) X.xe s2:=by
        intro vs us s2 F2 H2 xs s2' rl I2 rv eg;rw[eg] at w1;have w2:bC (C.at X) F2 H2 σ (bE n (Φ key) (cG (.ok .fz (.ins c fs)) (.ok xs))) Q:=bC.step s2' w1;rw[aFM] at w2;unfold bE at w2;rw[a6.thn_ok] at w2;have rl2:RpL X.K F2 H2 ((.fz,.ins c fs)::xs) (.ref a::vs):=⟨_,_,rfl,r1'.step s2',rl⟩;cases ef:dE ((.fz,.ins c fs)::xs) with
        | none=>rw[ef] at w2;exact w2.elim
        | some ds =>
         rw[ef] at w2;dsimp only at w2;split at w2
         . rename_i hnn;have rl3:=rl2.fz ef;refine wA (E:=λu _ H'=>∃ c,X.mg c=some u/\C.EE c σ H') (vs:=.ref a::vs) (us:=.ref a::us) FO hr hbd (λe s' hc=>hx aA σ H2 s2 e s' I2 hc) I2 (.cons rfl rv) ⟨by rw[rl3.length];exact hnn,F2,ds,s2'.sub,rl3,?_⟩
           cases ep:Φ key ds with
           | stuck=>rw[ep] at w2;exact w2
           | exc c=>rw[ep] at w2;exact λF' H' u st hu=>⟨c,hu,w2 F' H' st⟩
           | ok m d =>
            rw[ep] at w2;cases m with
            | bo=>exact w2.elim
            | fz=>exact ⟨by decide,w2⟩
            | fr=>exact ⟨by decide,w2⟩
         . exact w2.elim
      cases es with
      | nil =>
       refine PySem.W.callWith_K0 (first:=[.ref a]) I1.kIn me.kp ?_
       have eg:gs ρ=.ok []:=by rw[hes rfl]
       exact fin [] [] s1' F1 H1 [] (.refl s1.sub) rfl I1 .nil eg
      | cons e es =>
       refine PySem.W.callWith_K (first:=[.ref a]) (h₀:=X.base) I.ok.mod.kin me.kp (thn (ha pos aA s1' σ H1 (λvs H2=>∃ F2 xs,aI F1 H1 F2 H2/\RpL X.K F2 H2 xs vs/\gs ρ=.ok xs) I1 ?_) λus s2 ⟨vs,H2,I2,r,F2,xs,st2,rl,eg⟩=>⟨I2.kIn,?_⟩) (cH (hst e mcs)) (lQ _ _ λy hy=>hst y (mcm hy))
       . refine ⟨ρ,F1,R.step s1,?_⟩;cases eg:gs ρ with
         | stuck=>rw[eg] at w1;exact w1
         | exc c=>rw[eg] at w1;exact w1
         | ok xs=>exact λvs F2 H2 s2 rl=>⟨F2,xs,s2,rl,rfl⟩
       . exact fin vs us s2 F2 H2 xs st2 rl I2 r eg
    . exact w1.elim
  | _=>exact w1.elim
end
theorem a5.mut{K:Fg}{F0 H0 F H:Hp}{σ:L2.St}{ρ:Rho}{i:Nat}{d d':D}{a:Addr}{o:HO}(R:a5 K F0 H0 F H σ ρ)(e:ρ[i]? = some (some (true,d)))(ev:σ[i]? = some (some (.ref a)))(t:Top K F (upd H a o) a d'):a5 K F0 H0 F (upd H a o) σ (ρ.set i (some (true,d'))):=by
 obtain ⟨v,ev',rp,hn⟩:=R.slot i true d e;rw[ev] at ev';cases ev';have h0:H0 a=none:=hn rfl a rfl;obtain ⟨a',ea,hf,tt⟩:=rp;cases ea;have hl:i<ρ.length:=(aP1.mp e).1;have st:aI F0 H0 F (upd H a o):=⟨λb u q=>by rw[aU (cK q h0)];exact R.st.same b u q,R.st.fsame,λb u q=>by rw[aU (cK q hf)];exact R.st.sub b u q,R.st.new⟩
 refine ⟨st,λj m d2 e2=>?_,λj l d1 d2 b hjl e1 e2 q1 q2=>?_,by rw[aSG];exact R.len⟩
 . by_cases hj:j=i
   . subst hj;rw[aP2 hl] at e2;cases e2;exact ⟨.ref a,ev,⟨a,rfl,hf,t⟩,λ_ b eb=>by cases eb;exact h0⟩
   . rw[aP3 (λz=>hj z.symm)] at e2;obtain ⟨u,eu,ru,hu⟩:=R.slot j m d2 e2;refine ⟨u,eu,?_,hu⟩;cases m with
     | false=>exact ru
     | true =>
      obtain ⟨b,eb,hb,tb⟩:=ru;subst eb;have hba:b≠a:=λz=>by subst z;exact R.apart j i d2 d b hj e2 e eu ev
      refine ⟨b,rfl,hb,?_⟩;cases d2 with
      | lst ds=>obtain ⟨xs,q,r⟩:=tb;exact ⟨xs,by rw[aU hba];exact q,r⟩
      | dct ds=>obtain ⟨xs,q,r⟩:=tb;exact ⟨xs,by rw[aU hba];exact q,r⟩
      | ins c fs=>obtain ⟨C,dx,gs,n,q,r⟩:=tb;exact ⟨C,dx,gs,n,by rw[aU hba];exact q,r⟩
      | set ks=>obtain ⟨S,q,r⟩:=tb;exact ⟨S,by rw[aU hba];exact q,r⟩
      | dtn ds=>obtain ⟨xs,q,r⟩:=tb;exact ⟨xs,by rw[aU hba];exact q,r⟩
      | _=>exact tb.elim
 . have jM:∀ (l:Nat) (d2:D),(ρ.set i (some (true,d')))[l]? = some (some (true,d2))->∃ d3,ρ[l]? = some (some (true,d3)):=λl d2 q=>by
     by_cases hl':l=i
     . subst hl';exact ⟨d,e⟩
     . rw[aP3 (λz=>hl' z.symm)] at q;exact ⟨d2,q⟩
   obtain ⟨d3,q3⟩:=jM j d1 e1;obtain ⟨d4,q4⟩:=jM l d2 e2;exact R.apart j l d3 d4 b hjl q3 q4 q1 q2
section
variable {C:Cw}{X:Cx}{e:Expr}{g:Rho->Res}{pos p pos':Pos}{f x:Str}{cl:List CI}
end
structure qO(K:Fg)(mg:SOV)(c:Str):Prop where
 ex:∃ C,PySem.W.nsIn K mainGlobals c=some (some (.ref C))/\mg c=some (.ref C)/\PySem.W.makesIn K C=true/\PySem.W.findIn K (.ref C) "__init__" = some (some (.builtin "object.__init__"))/\PySem.W.keepIn K (.ref C)=true
theorem aG1{X:Cx}{C:Addr}{x:Str}{p pos:Pos}(hm:X.mg x=some (.ref C))(h1:PySem.W.makesIn X.K C=true)(h2:PySem.W.findIn X.K (.ref C) "__init__" = some (some (.builtin "object.__init__")))(h3:PySem.W.keepIn X.K (.ref C)=true)(hg:Gl X x)(hdb:(x==("__debug__" : Str))=false):PE X (.Call (.Name x p) [] [] pos) (λσ H Q=>∀ a dx,H a=none->H dx=none->dx≠a->Q (.ref a) (upd (upd H dx (.own a)) a (.ins C dx []))):=by
 intro aA s σ H Q I h;refine aQ2 (pZ I hg hm ?_ hdb);refine PySem.W.callWith_K0 I.kIn h3 (wpAny_call (aDL I.kIn h1 h2 (λself=>PySem.W.Looks.of_pure (PySem.W.oi_bind self)) ?_));have I2:=Inv.made (C:=C) I;have Y:=PySem.W.makes_of (M:=model X.prog X.w) I.kIn h1;have hh:((s.heap.push PySem.W.emptyDict).push (PySem.W.instObj C s.heap.objs.size)).get? (s.heap.objs.size+1)=some (PySem.W.instObj C s.heap.objs.size):=by
  have:=aPO (s.heap.push PySem.W.emptyDict) (o:=PySem.W.instObj C s.heap.objs.size) rfl
  rwa [aQM] at this
 have t1:PySem.W.Looks (model X.prog X.w) ((s.heap.push PySem.W.emptyDict).push (PySem.W.instObj C s.heap.objs.size)) (typeOf (.ref (s.heap.objs.size+1))) (.ref C):=(PySem.W.Looks.ld hh).andThen .now;have t2:PySem.W.Looks (model X.prog X.w) ((s.heap.push PySem.W.emptyDict).push (PySem.W.instObj C s.heap.objs.size)) (isInstance (.ref (s.heap.objs.size+1)) (.type "object")) true:=t1.andThen (Y.top.keeps λb o e=>hps (hps e));refine codeAny_call_builtin PySem.W.oi_plain PySem.W.entry_oi (@PySem.W.check_slot (model X.prog X.w) _ _ _ "object.__init__" "object" "__init__" (.ref (s.heap.objs.size+1)) [] [] _ PySem.W.oi_kind PySem.W.oi_split t2 (PySem.W.oi_args (.ref (s.heap.objs.size+1))) ?_);rw[PySem.W.oi_run];refine aP8 (And.intro rfl ⟨.ref (s.heap.objs.size+1),_,I2,rfl,?_⟩);exact h (s.heap.objs.size+1) s.heap.objs.size (I.hok.fresh (aSR _)) (I.hok.fresh (aQC _)) (aPS (aQN _))
theorem aG2{F H:Hp}{a dx C:Addr}(s:aE F H)(ha:H a=none)(hd:H dx=none)(hne:dx≠a):aI F H F (upd (upd H dx (.own a)) a (.ins C dx [])):=by have s1:=aI.fresh (.own a) s hd;refine s1.trans (aI.fresh _ s1.sub ?_);rw[aU (λz=>hne z.symm)];exact ha
theorem aG3{C:Cw}{X:Cx}{c:Str}{p pos:Pos}(M:qO X.K X.mg c)(hg:Gl X c)(hdb:(c==("__debug__" : Str))=false):PV C X (.Call (.Name c p) [] [] pos) (λ_=>.ok .fr (.ins c [])):=by
 obtain ⟨C',n,hm,h1,h2,h3⟩:=M.ex;refine PE.imp (aG1 hm h1 h2 h3 hg hdb) λσ H Q q=>?_;rw[a7] at q;obtain ⟨ρ,F,R,w⟩:=q;intro a dx ha hd hne;refine w (.ref a) F _ (aG2 R.sub ha hd hne) ⟨a,rfl,R.sub.free ha,C',dx,[],n,bQ,?_⟩ λ_ b eb=>by cases eb;exact ha
 simp only[dD]
def spI(K:Fg)(mg:SOV)(c:Str)(n:Nat)(Φ:List D->Res):Sp:=λvs H Q E=>∃ x us dx C H1 F ds,vs=.ref x::us/\us.length=n/\PySem.W.nsIn K mainGlobals c=some (some (.ref C)) /\
 H=upd (upd H1 dx (.own x)) x (.ins C dx [])/\H1 x=none/\H1 dx=none/\dx≠x/\aE F H1/\aC K F ds us/\match Φ ds with
 | .ok _ d=>∀ F' H',aI F H1 F' H'->Rp K F' H' .fr d (.ref x)->Q .non H'
 | .exc c=>∀ F' H' u,aI F H1 F' H'->mg c=some u->E u none H'
 | .stuck=>False
structure InV(P:Program)(w:World)(K:Fg)(mg:SOV)(base:Heap)(CX:CXT)(k:Nat)(c:Str)(n:Nat)(Φ:List D->Res):Prop where
 ex:∃ C f fd ps,PySem.W.nsIn K mainGlobals c=some (some (.ref C))/\mg c=some (.ref C)/\Mk K C f/\dM P w K mg base CX k f fd ps (spI K mg c n Φ)/\gH K fd ps []
section
variable {C:Cw}{X:Cx}{e:Expr}{es:List Expr}{gs:Rho->a6}{p pos:Pos}{x c:Str}{k n:Nat}{Φ:List D->Res}{CX:CXT}
end
structure IsV(K:Fg)(mg:SOV)(cl:List CI)(c:Str):Prop where
 ex:∃ C,mg c=some (.ref C)/\(∀ t∈["NoneType", "bool", "int", "str", "tuple", "list", "dict"],PySem.W.kitOne K (.type t) (.ref C)=some false) /\
  ∀ i∈cl,∃ C',PySem.W.nsIn K mainGlobals i.name=some (some (.ref C'))/\Cls K C'/\PySem.W.findIn K (.ref C') "__class__" = some (some (.builtin "object.__class__")) /\
   PySem.W.specialIn K (.builtin "object.__class__") "__get__" = some (some (.builtin "getset_descriptor.__get__"))/\PySem.W.takesIn K (.builtin "object.__class__")=some true/\PySem.W.mroIn K C' (.type "object")=some true /\
   PySem.W.kitOne K (.ref C') (.ref C)=some (i.ups.contains c)
section
variable {C:Cw}{X:Cx}{e:Expr}{g:Rho->Res}{p q pos:Pos}{c:Str}{cl:List CI}
end
section
variable {C:Cw}{X:Cx}{a b c e:Expr}{ga gb gc g:Rho->Res}{gs:Rho->a6}{pos:Pos}
def eH:D->Bool | .non=>true | _=>false
theorem wE{K:Fg}{F H:Hp}{m:Md}{d:D}{v:V}(s:aE F H)(r:Rp K F H m d v):decide (v=.non)=eH d:=by
 cases d with
 | non=>cases r.non;rfl
 | bl _=>cases r.bl;rfl
 | int _=>cases r.int;rfl
 | str _=>cases r.str.1;rfl
 | tup _=>obtain ⟨_,_,rfl,_⟩:=r.seqT s;rfl
 | lst _=>obtain ⟨_,_,rfl,_⟩:=r.seqL s;rfl
 | dct _=>obtain ⟨_,_,rfl,_⟩:=r.dict s;rfl
 | ty _=>cases r.ty;rfl
 | ob _=>cases r.ob;rfl
 | ins _ _=>obtain ⟨_,_,_,_,rfl,_⟩:=r.ins s;rfl
 | fn _ =>
  cases m with
  | fz=>have r:aB K F _ v:=r;simp only[aB] at r;obtain ⟨_,rfl,_⟩:=r;rfl
  | fr=>obtain ⟨_,_,_,q⟩:=r;exact q.elim
  | bo=>obtain ⟨_,_,_,q⟩:=r;exact q.elim
 | exn _ =>
  cases m with
  | fz=>have r:aB K F _ v:=r;simp only[aB] at r;obtain ⟨_,_,rfl,_⟩:=r;rfl
  | fr=>obtain ⟨_,_,_,q⟩:=r;exact q.elim
  | bo=>obtain ⟨_,_,_,q⟩:=r;exact q.elim
 | set _ =>
  cases m with
  | fz=>have r:aB K F _ v:=r;simp only[aB] at r;obtain ⟨_,_,rfl,_⟩:=r;rfl
  | fr=>obtain ⟨_,rfl,_,_⟩:=r;rfl
  | bo=>obtain ⟨_,rfl,_,_⟩:=r;rfl
 | dtn _ =>
  cases m with
  | fz=>have r:aB K F _ v:=r;simp only[aB] at r;obtain ⟨_,_,rfl,_⟩:=r;rfl
  | fr=>obtain ⟨_,rfl,_,_⟩:=r;rfl
  | bo=>obtain ⟨_,rfl,_,_⟩:=r;rfl
 | dtf _ =>
  cases m with
  | fz=>have r:aB K F _ v:=r;simp only[aB] at r;obtain ⟨_,_,_,rfl,_⟩:=r;rfl
  | fr=>obtain ⟨_,rfl,_,_⟩:=r;rfl
  | bo=>obtain ⟨_,rfl,_,_⟩:=r;rfl
def fIs(neg:Bool):Md->D->Md->D->Option (Md×D):=λ_ x _ y=>match y with
 | .non=>some (.fz,.bl (if neg then !eH x else eH x))
 | _=>none
theorem aG4:OpD C X (compareOp .Is) (fIs false):=by
 refine ⟨_,aC7,λF H m x n y v u k d Q s rx ry e w=>?_⟩;unfold fIs at e;split at e
 . cases e;cases ry.non;exact ⟨rfl,by rw[wE s rx];exact w _ F H (.refl s) (cZ _) (by intro z;cases z)⟩
 . cases e
theorem aG5:OpD C X (compareOp .IsNot) (fIs true):=by
 refine ⟨_,aC8,λF H m x n y v u k d Q s rx ry e w=>?_⟩;unfold fIs at e;split at e
 . cases e;cases ry.non;exact ⟨rfl,by rw[wE s rx];exact w _ F H (.refl s) (cZ _) (by intro z;cases z)⟩
 . cases e
theorem wF{neg:Bool}:IsB (fIs neg):=λm x n y k d e=>by
 unfold fIs at e;split at e
 . cases e;exact ⟨_,rfl,rfl⟩
 . cases e
theorem aG6:OpR X (binaryOp .Add) (λx y H Q=>∃ l b xs ys,x=.ref l/\y=.ref b/\SqL X.K H l xs/\SqL X.K H b ys/\xs.length+ys.length<=sizeLine/\∀ p,H p=none->Q (.ref p) (upd H p (.lst (xs++ys)))):=by
 intro aA s σ H x y v u Q I rx ry h;obtain ⟨l,b,xs,ys,rfl,rfl,hl,hb,hz,q⟩:=h;cases rx;cases ry;obtain ⟨its,r1,p1,_⟩:=I.list hl;obtain ⟨its2,r2,p2,_⟩:=I.list hb;obtain ⟨⟨cls,dd,data,sl⟩,n,ho,hc,hd1,hd⟩:=p1;obtain ⟨⟨cls2,dd2,data2,sl2⟩,n2,ho2,hc2,hd2',hd2⟩:=p2;simp only at hc hd hc2 hd2;subst hc hd hc2 hd2;have e:its.toArray++its2.toArray=(its++its2).toArray:=by simp
 have l1:=r1.length;have l2:=r2.length;refine aQ3 ⟨_,ho,rfl⟩ ⟨_,ho2,rfl⟩ noFill_list_add seq_list_add PySem.F.slot_list_add PySem.F.entry_list_add (PySem.F.args_list_add_2 _ _) (list_addW l b its.toArray its2.toArray n n2 dd dd2 sl sl2 (by simp;omega)) ⟨ho,ho2,?_⟩
 rw[e];refine ⟨.ref s.heap.objs.size,_,I.laid (t':=s.toks) (o:=.lst (xs++ys)) (λb ob q=>hps q) (aQC _) ?_,rfl,q _ (I.hok.fresh (aQC _))⟩;exact ⟨by rw[aQ0];exact hz,_,0,r1.append r2,aPO _ rfl⟩
theorem aG7:OpR X (binaryOp .Add) (λx y H Q=>∃ l b xs ys,x=.ref l/\y=.ref b/\SqT X.K H l xs/\SqT X.K H b ys/\xs.length+ys.length<=sizeLine/\(xs=[]->Q (.ref b) H)/\(xs≠[]->ys=[]->Q (.ref l) H)/\(xs≠[]->ys≠[]->∀ p,H p=none->Q (.ref p) (upd H p (.tup (xs++ys))))):=by
 intro aA s σ H x y v u Q I rx ry h;obtain ⟨l,b,xs,ys,rfl,rfl,hl,hb,hz,q0,q1,q2⟩:=h;cases rx;cases ry;obtain ⟨its,r1,p1,_⟩:=I.tuple hl;obtain ⟨its2,r2,p2,_⟩:=I.tuple hb;have n1:=r1.nil_iff;have n2:=r2.nil_iff;have l1:=r1.length;have l2:=r2.length;by_cases hv:its=[]
 . obtain ⟨⟨cls,dd,data,sl⟩,ho,hc,n,hd⟩:=id p1;obtain ⟨⟨cls2,dd2,data2,sl2⟩,ho2,hc2,n2',hd2⟩:=id p2;simp only at hc hd hc2 hd2;subst hc hd hc2 hd2;exact aQ3 ⟨_,ho,rfl⟩ ⟨_,ho2,rfl⟩ aQ4 seq_tuple_add aQ5 aQ6 (aQ7 _ _)
     (tuple_addW0 l b its.toArray its2.toArray n n2' dd dd2 sl sl2 (by simp[hv])) ⟨ho,ho2,⟨.ref b,H,I,rfl,q0 (n1.mp hv)⟩⟩
 . refine HT.aDS p1 p2 hv (λz=>⟨.ref l,H,I,rfl,q1 (λw=>hv (n1.mpr w)) (n2.mp z)⟩) (λz=>?_) (by omega)
   refine ⟨.ref s.heap.objs.size,_,I.laid (t':=s.toks) (o:=.tup (xs++ys)) (λb ob q=>hps q) (aQC _) ?_,rfl,q2 (λw=>hv (n1.mpr w)) (λw=>z (n2.mpr w)) _ (I.hok.fresh (aQC _))⟩;exact ⟨by rw[aQ0];exact hz,_,r1.append r2,gW.new _ _⟩
def nX:Md->D->Md->D->Option (Md×D):=λm x n y=>match x,y with
 | .lst xs,.lst ys=>if xs.length+ys.length<=sizeLine then some (.fr,.lst (xs++ys)) else none
 | .tup xs,.tup ys=>if xs.length+ys.length<=sizeLine then some (.fz,.tup (xs++ys)) else none
 | _,_=>none
theorem aC.nilIff{K:Fg}{F:Hp}{ds:List D}{xs:List V}(h:aC K F ds xs):xs=[]↔ds=[]:=by
 have:=h.length;constructor
 . intro e;subst e;cases ds with | nil=>rfl | cons _ _=>simp at this
 . intro e;subst e;cases xs with | nil=>rfl | cons _ _=>simp at this
theorem aG8:OpD C X (binaryOp .Add) nX:=by
 refine ⟨_,aG6.or aG7,λF H m x n y v u k d Q s rx ry e w=>?_⟩;unfold nX at e;split at e
 . rename_i xs ys;split at e
   . rename_i hz;cases e;obtain ⟨a,us,rfl,q1,r1⟩:=rx.seqL s;obtain ⟨b,vs,rfl,q2,r2⟩:=ry.seqL s;refine .inl ⟨a,b,us,vs,rfl,rfl,q1,q2,by rw[r1.length,r2.length];exact hz,λp hp=>?_⟩
     exact w (.ref p) F _ (aI.fresh _ s hp) ⟨p,rfl,s.free hp,_,bQ,r1.append r2⟩ λ_ a ea=>by cases ea;exact hp
   . cases e
 . rename_i xs ys;split at e
   . rename_i hz;cases e;have ex:=rx;have ey:=ry;obtain ⟨a,us,rfl,q1,r1⟩:=rx.seqT s;obtain ⟨b,vs,rfl,q2,r2⟩:=ry.seqT s;have fz:∀ {m:Md} {zs:List D} {c:Addr},Rp X.K F H m (.tup zs) (.ref c)->aB X.K F (.tup zs) (.ref c):=λ{m zs c} h=>by
       cases m with
       | fz=>exact h
       | fr=>obtain ⟨_,_,_,q⟩:=h;exact q.elim
       | bo=>obtain ⟨_,_,_,q⟩:=h;exact q.elim
     refine .inr ⟨a,b,us,vs,rfl,rfl,q1,q2,by rw[r1.length,r2.length];exact hz,λz=>?_,λ_ z=>?_,λ_ _ p hp=>?_⟩
     . have:xs=[]:=r1.nilIff.mp z;subst this;exact w (.ref b) F H (.refl s) (fz ey) (by intro z;cases z)
     . have:ys=[]:=r2.nilIff.mp z;subst this;rw[aQQ] at w;exact w (.ref a) F H (.refl s) (fz ex) (by intro z;cases z)
     . exact w (.ref p) _ _ (aI.laid (.tup (us++vs)) s hp) (aB.tup_of (s.free hp) (r1.append r2)) (by intro z;cases z)
   . cases e
 . cases e
def gI:D->Bool | .non | .bl _ | .int _ | .str _=>true | _=>false
def eqD:D->D->Bool
 | .non,.non=>true
 | .bl a,.bl b=>a==b
 | .bl a,.int b=>(if a then 1 else 0)==b
 | .int a,.bl b=>a==(if b then 1 else 0)
 | .int a,.int b=>a==b
 | .str a,.str b=>a==b
 | _,_=>false
def vOf:D->V | .non=>.non | .bl b=>.bl b | .int i=>.int i | .str x=>.str x | _=>.non
theorem aG9{K:Fg}{F H:Hp}{m:Md}{d:D}{v:V}(h:gI d=true)(r:Rp K F H m d v):v=vOf d:=by
 cases d with
 | non=>exact r.non
 | bl _=>exact r.bl
 | int _=>exact r.int
 | str _=>exact r.str.1
 | _=>cases h
theorem qP{K:Fg}{F:Hp}:∀ {ds:List D} {xs:List V},ds.all gI=true->aC K F ds xs->xs=ds.map vOf
 | [],_,_,r=>by simp only[aC] at r;exact r
 | d::ds,_,h,r=>by simp only[aC] at r;obtain ⟨y,ys,rfl,r1,r2⟩:=r;rw[aSS,aRI] at h;rw[aRN,aG9 (H:=F) (m:=.fz) h.1 r1,qP h.2 r2]
theorem aHA{d:D}(h:gI d=true):iE (vOf d)=true:=by cases d <;> first | rfl | cases h
theorem aHB{x y:D}(hx:gI x=true)(hy:gI y=true):eqV (vOf x) (vOf y)=eqD x y:=by cases x <;> cases y <;> first | rfl | (cases hx;done) | (cases hy;done)
theorem qQ:∀ {ds:List D},ds.all gI=true->(ds.map vOf).all iE=true
 | [],_=>rfl
 | d::ds,h=>by rw[aSS,aRI] at h;rw[aRN,aSS,aHA h.1,qQ h.2];rfl
def eQ:List (Md×D)->Option (Md×D)
 | [(_,.lst ds)]=>some (.fz,.tup ds)
 | [(.fz,.tup ds)]=>some (.fz,.tup ds)
 | _=>none
def gJ:List (Md×D)->Option (Md×D)
 | [(_,.lst ds)]=>some (.fr,.lst ds)
 | [(_,.tup ds)]=>some (.fr,.lst ds)
 | _=>none
def qR:List (Md×D)->Option (Md×D)
 | [(_,.int i)]=>some (.fz,.int i)
 | [(_,.bl b)]=>some (.fz,.int (if b then 1 else 0))
 | _=>none
def qS(i:Int):Bool:=decide (i.natAbs.log2<1920)
def qT(i:Int):Str:=Str.ofString (toString i)
def lT:List (Md×D)->Option (Md×D)
 | [(_,.int i)]=>if qS i=true then some (.fz,.str (qT i)) else none
 | _=>none
theorem aHC:dQ X (.type "tuple") eQ:=by
 refine ⟨_,aEB,λF H xs vs k d Q s rx e w=>?_⟩;unfold eQ at e;split at e
 . rename_i m ds;cases e;obtain ⟨v,rfl,r⟩:=rx.one;obtain ⟨a,xs,rfl,q,rl⟩:=r.seqL s;exact ⟨a,xs,rfl,.inl ⟨q,λl hl=>w (.ref l) _ _ (aI.laid (.tup xs) s hl) (aB.tup_of (s.free hl) rl) (by intro z;cases z)⟩⟩
 . rename_i ds;cases e;obtain ⟨v,rfl,r⟩:=rx.one;have r0:=r;obtain ⟨a,xs,rfl,q,rl⟩:=r.seqT s;exact ⟨a,xs,rfl,.inr ⟨q,w (.ref a) F H (.refl s) r0 (by intro z;cases z)⟩⟩
 . cases e
theorem aHD:dQ X (.type "list") gJ:=by
 refine ⟨_,aEA,λF H xs vs k d Q s rx e w=>?_⟩;unfold gJ at e;split at e
 . rename_i m ds;cases e;obtain ⟨v,rfl,r⟩:=rx.one;obtain ⟨a,xs,rfl,q,rl⟩:=r.seqL s;exact ⟨a,xs,rfl,.inl q,λl hl=>w (.ref l) F _ (aI.fresh _ s hl) ⟨l,rfl,s.free hl,xs,bQ,rl⟩ λ_ a ea=>by cases ea;exact hl⟩
 . rename_i m ds;cases e;obtain ⟨v,rfl,r⟩:=rx.one;obtain ⟨a,xs,rfl,q,rl⟩:=r.seqT s;exact ⟨a,xs,rfl,.inr q,λl hl=>w (.ref l) F _ (aI.fresh _ s hl) ⟨l,rfl,s.free hl,xs,bQ,rl⟩ λ_ a ea=>by cases ea;exact hl⟩
 . cases e
theorem aHE:dQ X (.type "int") qR:=by
 refine ⟨_,aDG,λF H xs vs k d Q s rx e w=>?_⟩;unfold qR at e;split at e
 . cases e;obtain ⟨v,rfl,r⟩:=rx.one;cases r.int;exact .inl ⟨_,rfl,w _ F H (.refl s) (cY _) (by intro z;cases z)⟩
 . cases e;obtain ⟨v,rfl,r⟩:=rx.one;cases r.bl;exact .inr ⟨_,rfl,w _ F H (.refl s) (cY _) (by intro z;cases z)⟩
 . cases e
end
theorem aHF(i:Int):PyData.strOk (Str.ofString (toString i))=true:=by
 unfold PyData.strOk;rw[aR5];intro c hc;have hc':c∈(Str.ofString (toString i)).cps.toList:=by rw[aQJ];exact hc
 have:¬ (c≠45/\(c<48\/57<c)):=λh=>int_text_free' c h i hc';have hb:c<58:=by omega
 simp;omega
section
variable {X:Cx}
theorem aHG:dQ X (.type "str") lT:=by
 refine ⟨_,aDH,λF H xs vs k d Q s rx e w=>?_⟩;unfold lT at e;split at e
 . rename_i m i;split at e
   . rename_i hs;cases e;obtain ⟨v,rfl,r⟩:=rx.one;cases r.int;have hl:i.natAbs.log2<1920:=aR3 hs;have h1:(qT i).length<=1921:=int_text_len_1921 hl;have hz:sizeLine=16777216:=aQH;exact ⟨i,rfl,hl,w _ F H (.refl s) (iY ⟨by omega,aHF i⟩) (by intro z;cases z)⟩
   . cases e
 . cases e
end
theorem aHH:bootBuiltins "min" = some (.builtin "min"):=by decide +kernel
theorem aHI:bootBuiltins "max" = some (.builtin "max"):=by decide +kernel
theorem aHJ{C:Cw}{X:Cx}{T:String}{φ}{x:Str}{e:Expr}{es:List Expr}{gs:Rho->a6}{p pos:Pos}(o:dQ X (.type T) φ)(hg:Gl X x)(hm:X.mg x=none)(hv:bootBuiltins x=some (.type T))(ha:PAv C X (e::es) gs)(hn:x ≠ "__name__")(hdb:(x==("__debug__" : Str))=false)(hst:∀ x∈e::es,cS x=true):PV C X (.Call (.Name x p) (e::es) [] pos) (λρ=>eD φ (gs ρ)):=by obtain ⟨r,h1,h2⟩:=o;exact PE.imp (u9 h1 hg hm hv ha hn hdb (cH (hst e mcs)) (lQ _ _ λy hy=>hst y (mcm hy))) λσ H Q q=>vX h2 q
section
variable {prog:Program}{w:World}{A:Around}{E:VSP}{s:Shared}
theorem aHK{l:Addr}{items:Array Value}{Q:List Value->Shared->Prop}(hA:A.handled=none)(ht:s.heap.IsList l items)(h:∀ h',Heap.ExtBut s.heap.objs.size s.heap h'->∀ tk,Q items.toList { s with heap:=h',toks:=tk }):wpAny (model prog w) A (unpackItems (.ref l) items.size none) Q E s:=by
 unfold unpackItems notIterableAtAll;refine aP9 (aP9 (aRT ht.typeIs PySem.F.slot_list_iter.lookup ?_));refine aP8 ?_;dsimp only;rw[if_neg aQK];refine aP9 (aRD (aQB ht ?_));have hlt:l<s.heap.objs.size:=by obtain ⟨o,e,_⟩:=ht;exact aPP e
 have hne:l≠s.heap.objs.size:=aPS hlt;have keep:∀ b o,s.heap.get? b=some o->(s.heap.push { cls:=Value.type "list_iterator", data:=Data.fields #[Value.ref l,Value.int 0 0] }).get? b=some o:=λb o q=>hps q;have ht':(s.heap.push { cls:=Value.type "list_iterator", data:=Data.fields #[Value.ref l,Value.int 0 0] }).IsList l items:=by obtain ⟨o,e,c⟩:=ht;exact ⟨o,keep l o e,c⟩
 have hi':(s.heap.push { cls:=Value.type "list_iterator", data:=Data.fields #[Value.ref l,Value.int 0 0] }).IsListIter s.heap.objs.size l 0:=⟨_,aPO _ rfl,rfl,rfl⟩;refine aP9 (aRD (PySem.W.kun_draw hne items.size 0 _ _ hi' ht' (by omega) λh' hi hsb=>?_))
 have ei:List.take items.size (List.drop 0 items.toList)=items.toList:=by rw[aST];exact aSU (by simp)
 rw[ei];rw[if_neg (by simp)]
 have hl2:h'.IsList l items:=by obtain ⟨o,e,c⟩:=ht';exact ⟨o,by rw[hsb.2 l hne];exact e,c⟩
 rw[Nat.zero_add] at hi;refine aP9 (aRD ((Walks.list hA s.heap.objs.size l hne items).done _ _ _ ⟨hi,hl2⟩ λh2 tk k2=>?_));rw[if_neg (by simp)]
 refine aP8 (h h2 (λb o hb e=>k2 b o (by simpa using hb) ?_) tk)
 show h'.get? b=some o;rw[hsb.2 b hb];exact keep b o e
theorem aHL{env:Env}{elts:List Expr}{k:Nat}{pos:Pos}{l:Addr}{items:Array Value}{Q:Unit->Shared->Prop}(hA:A.handled=none)(ht:s.heap.IsList l items)(hn:(assignEach elts env).length=items.size)(hst:(assignEach elts env).findIdx? (·.1)=none)(h:∀ h',Heap.ExtBut s.heap.objs.size s.heap h'->∀ tk,wpAny (model prog w) A (assignInOrder ((assignEach elts env).map (·.2)) items.toList) Q E { s with heap:=h',toks:=tk }):wpAny (model prog w) A (assign (.Tuple elts k pos) env (.ref l)) Q E s:=by rw[assign_Tuple];refine aP9 (wpAny_standAt ?_);unfold unpack;rw[hst,hn];exact aP9 (aRD (aHK hA ht h))
theorem aHM{t sl:Addr}{items:Array Value}{vl vu:Value}{lo hi:Option Int}{Q:VSP}(ht:IsTup s.heap t items)(hs:s.heap.IsSliceOf sl vl vu .none)(pl:IsPart vl lo)(pu:IsPart vu hi)(h0:HT.sIx items.size 0 lo=0)(h1:HT.sIx items.size items.size hi=items.size)(h:Q (.ref t) s):wpAny (model prog w) A (getItem (.ref t) (.ref sl)) Q E s:=by
 obtain ⟨os,hos,hcs,hds⟩:=id hs;have tS:s.TypeIs (.ref sl) "slice" := ⟨os,hos,hcs⟩;unfold getItem
 try with_reducible refine aRD ?_
 first | refine aP9 (aP8 ?_) | skip
 refine aP9 (wpAny_sequenceKey ht.typeIs (by decide) (aP9 (aRE (name:=Str.ofString "__getitem__") ht.typeIs aRF (aRG aRF ht.typeIs entry_tuple_getitem ?_ (args_tuple_getitem _ _)))))
 show wpAny _ _ (Builtin.Tuple.tupleItemsOf (.ref t) >>= _) _ _ s;refine aP9 (tupleItemsOf_ ht (aP9 (aRH tS ?_)));rw[if_pos (by decide)]
 refine aP9 (HT.vD hs pl pu ?_);have yes:(((HT.sIx items.size 0 lo:Nat):Int)==0&&(1:Int)==1&&(HT.sIx items.size items.size hi-HT.sIx items.size 0 lo)==items.size)=true:=by rw[h0,h1];simp
 show wpAny _ _ (if (((HT.sIx items.size 0 lo:Nat):Int)==0&&(1:Int)==1&&(HT.sIx items.size items.size hi-HT.sIx items.size 0 lo)==items.size)=true then _ else _) _ _ s;rw[if_pos yes];unfold Builtin.Tuple.tupleIsExact;refine aP9 (aP9 (aRH ht.typeIs (aP8 ?_)));rw[if_pos (by decide)]
 refine aP9 (wpAny_rule ?_)
 first
  | exact aP8 ⟨_,rfl,aP8 h⟩
  | exact ⟨_,rfl,aP8 h⟩
end
section
variable {X:Cx}{pos:Pos}
def rSlW(K:Fg):V->Option Int->Option Int->Hp->VK->Prop:=λx lo hi H Q=>∃ a xs,x=.ref a/\SqT K H a xs/\(HT.sIx xs.length 0 lo=0/\HT.sIx xs.length xs.length hi=xs.length)/\Q x H
theorem aHN:SlR X (rSlW X.K):=by
 intro aA s σ H x v vl vu lo hi sl Q I rx hs pl pu h;obtain ⟨a,xs,rfl,hx,hw,q⟩:=h;cases rx;obtain ⟨its,r,ht,hz⟩:=I.tuple hx;have hlen:its.toArray.size=xs.length:=by rw[aQI];exact r.length.symm
 exact ⟨"tuple", _,PyProof.Rows.slot_tuple_getitem.lookup,ht.typeIs,aHM ht hs pl pu (by rw[hlen];exact hw.1) (by rw[hlen];exact hw.2) ⟨.ref a,H,I,rfl,q⟩⟩
def gSeq(K:Fg)(n:Nat)(t:TGs):TG:=λv σ H Q=>∃ a xs,v=.ref a/\(SqT K H a xs\/SqL K H a xs)/\xs.length=n/\t xs σ H Q
theorem aHO{es:List Expr}{k:Nat}{t:TGs}{n:Nat}(hc:X.calm=true)(h:PGs X es t)(hn:(assignEach es X.env).length=n)(hst:(assignEach es X.env).findIdx? (·.1)=none):PG X (.Tuple es k pos) (gSeq X.K n t):=by
 intro aA s σ H v u Q I r hw;obtain ⟨a,xs,e1,hq,hl,hw⟩:=hw;rcases hq with hq | hq
 . exact aCL hc h hn hst aA s σ H v u Q I r ⟨a,xs,e1,hq,hl,hw⟩
 . subst e1;cases r;obtain ⟨its,rv,ht,hz⟩:=I.list hq;refine aHL (I.ok.hd hc) ht.isList (by simp[hn,<- hl,rv.length]) hst λh' hx tk=>?_
   have I1:Inv X aA σ H { s with heap:=h',toks:=tk }:=I.kept (t':=tk) λb o e=>hx b o (aPS (aPP e)) e
   exact h aA _ σ H xs _ Q I1 (by simpa using rv) hw
end
inductive Tg where
 | nm (i:Nat) | tp (ts:List Tg)
mutual
def aQ:Tg->D->Rho->Option Rho
 | .nm i,d,ρ=>some (ρ.set i (some (false,d)))
 | .tp ts,d,ρ=>match d with
  | .tup ds=>dU ts ds ρ
  | .lst ds=>dU ts ds ρ
  | _=>none
def dU:List Tg->List D->Rho->Option Rho
 | [],ds,ρ=>if ds.isEmpty then some ρ else none
 | t::ts,ds,ρ=>match ds with
  | d::ds=>(match aQ t d ρ with | some ρ1=>dU ts ds ρ1 | none=>none)
  | []=>none
end
mutual
def fY:Tg->List Nat
 | .nm i=>[i]
 | .tp ts=>nY ts
def nY:List Tg->List Nat
 | []=>[]
 | t::ts=>fY t++nY ts
end
mutual
def gOf(K:Fg):Tg->TG
 | .nm i=>k5 i
 | .tp ts=>gSeq K ts.length (iJ K ts)
def iJ(K:Fg):List Tg->TGs
 | []=>gNil
 | t::ts=>uX (gOf K t) (iJ K ts)
end
def PGw(X:Cx)(tg:Expr)(t:Tg):Prop:=PG X tg (gOf X.K t)
def i8(X:Cx)(tgs:List Expr)(ts:List Tg):Prop:=PGs X tgs (iJ X.K ts)
def iK:Expr->Bool | .Starred ..=>false | _=>true
theorem qU{e:Expr}{es:List Expr}{env:Env}(h:iK e=true):assignEach (e::es) env=(false,assign e env)::assignEach es env:=by cases e <;> first | rfl | cases h
theorem qV:∀ {ts:List Tg} {ds:List D} {ρ ρ':Rho},dU ts ds ρ=some ρ'->ds.length=ts.length
 | [],ds,ρ,ρ',e=>by
  simp only[dU] at e;split at e
  . rename_i h;have:ds=[]:=by simpa using h
    subst this;rfl
  . cases e
 | t::ts,ds,ρ,ρ',e=>by
  simp only[dU] at e;split at e
  . split at e
    . rw[aR1,aR1,qV e]
    . cases e
  . cases e
mutual
theorem nZ{K:Fg}{F0 H0:Hp}:∀ (t:Tg) {F H:Hp} {σ:L2.St} {ρ ρ':Rho} {d:D} {v:V} {Q:L2.St->Hp->Prop},a5 K F0 H0 F H σ ρ->aB K F d v->aQ t d ρ=some ρ'->(∀ σ',a5 K F0 H0 F H σ' ρ'->σ'.length=σ.length->(∀ j,j∉fY t->σ'[j]? = σ[j]?)->Q σ' H)->gOf K t v σ H Q
 | .nm i,F,H,σ,ρ,ρ',d,v,Q,R,r,e,w=>by
  simp only[aQ] at e;cases e;simp only[gOf];refine w _ (R.set (m:=false) (.refl R.sub) r (by intro z;cases z)) (by rw[aSG]) λj hj=>?_
  simp only[fY,aSV] at hj;rw[aP3 (λz=>hj z.symm)]
 | .tp ts,F,H,σ,ρ,ρ',d,v,Q,R,r,e,w=>by
  simp only[aQ] at e;split at e
  . rename_i ds;simp only[aB] at r;obtain ⟨a,xs,rfl,hq,rl⟩:=r;simp only[gOf];refine ⟨a,xs,rfl,.inl (aE.seqT R.sub hq),by rw[rl.length];exact qV e,qW ts R rl e ?_⟩
    simp only[fY] at w;exact w
  . rename_i ds;simp only[aB] at r;obtain ⟨a,xs,rfl,hq,rl⟩:=r;simp only[gOf];refine ⟨a,xs,rfl,.inr (R.sub.seq hq),by rw[rl.length];exact qV e,qW ts R rl e ?_⟩
    simp only[fY] at w;exact w
  . cases e
theorem qW{K:Fg}{F0 H0:Hp}:∀ (ts:List Tg) {F H:Hp} {σ:L2.St} {ρ ρ':Rho} {ds:List D} {vs:List V} {Q:L2.St->Hp->Prop},a5 K F0 H0 F H σ ρ->aC K F ds vs->dU ts ds ρ=some ρ'->(∀ σ',a5 K F0 H0 F H σ' ρ'->σ'.length=σ.length->(∀ j,j∉nY ts->σ'[j]? = σ[j]?)->Q σ' H)->iJ K ts vs σ H Q
 | [],F,H,σ,ρ,ρ',ds,vs,Q,R,r,e,w=>by
  simp only[dU] at e;split at e
  . cases e;rename_i hd;have:ds=[]:=by simpa using hd
    subst this;simp only[aC] at r;simp only[iJ];exact ⟨r,w σ R rfl λ_ _=>rfl⟩
  . cases e
 | t::ts,F,H,σ,ρ,ρ',ds,vs,Q,R,r,e,w=>by
  simp only[dU] at e;split at e
  . rename_i d ds';split at e
    . rename_i ρ1 e1;simp only[aC] at r;obtain ⟨y,ys,rfl,r1,r2⟩:=r;simp only[iJ];refine ⟨y,ys,rfl,nZ t R r1 e1 λσ1 R1 l1 k1=>qW ts R1 r2 e λσ2 R2 l2 k2=>w σ2 R2 (l2.trans l1) λj hj=>?_⟩;simp only[nY,aPZ,not_or] at hj;rw[k2 j hj.2,k1 j hj.1]
    . cases e
  . cases e
end
section
variable {C:Cw}{X:Cx}{pos:Pos}
theorem aHP{x:Str}{i:Nat}(hN:X.N.Nodup)(hi:X.N[i]? = some x)(hx:L2.Loc X.env.scope x)(hf:X.fn x=true\/X.env.scope.names.lookup x=some .local):PGw X (.Name x pos) (.nm i):=by unfold PGw;simp only[gOf];exact aCI hN hi hx hf
theorem aHQ:i8 X [] []:=by unfold i8;simp only[iJ];exact aCJ
theorem aHR{e:Expr}{es:List Expr}{t:Tg}{ts:List Tg}(h1:PGw X e t)(h2:i8 X es ts)(hs:iK e=true):i8 X (e::es) (t::ts):=by unfold i8;simp only[iJ];exact aCK h1 h2 (by rw[qU hs];rfl)
theorem aHS{es:List Expr}{env:Env}(hs:∀ e∈es,iK e=true):(assignEach es env).length=es.length/\(assignEach es env).findIdx? (·.1)=none:=by
 induction es with
 | nil=>exact ⟨rfl,rfl⟩
 | cons e es ih =>
  obtain ⟨h1,h2⟩:=ih λx hx=>hs x (mcm hx);rw[qU (hs e mcs)];refine ⟨by rw[aR1,aR1,h1],?_⟩
  rw[List.findIdx?_cons];simp[h2]
theorem aHT{es:List Expr}{ts:List Tg}{k:Nat}(hc:X.calm=true)(h:i8 X es ts)(hs:∀ e∈es,iK e=true)(hl:es.length=ts.length):PGw X (.Tuple es k pos) (.tp ts):=by have st:=aHS (env:=X.env) hs;unfold PGw;simp only[gOf];exact aHO (n:=ts.length) hc h (by rw[st.1,hl]) st.2
theorem aHU{tg:Expr}{t:Tg}(h:PGw X tg t):PGv C X tg (aQ t) :=
 ⟨_,h,λF H σ ρ ρ' d v Q R r e w=>nZ t R r e λσ' R' _ _=>w σ' F H (aE.refl _) R'⟩
def hC(t:Tg)(ρ:Rho)(r:Res):aG:=(aY r).thS ρ λm d=>match m with | .fz=>(match aQ t d ρ with | some ρ'=>.nx ρ' | none=>.stuck) | _=>.stuck
theorem aHV{tg e:Expr}{t:Tg}{g:Rho->Res}(he:PV C X e g)(hg:PGw X tg t)(hs:swapsWithSole [tg] e pos.line X.env=pure false)(hw:swappedStores [tg] e X.env=pure none)(hst:iK tg=true):PSv C X (.Assign [tg] e pos) (λρ=>hC t ρ (g ρ)):=by
 refine PS.imp (aCM (iG he) hg hs hw (by rw[qU hst];rfl)) λEn σ H qq=>?_
 obtain ⟨ρ,F,R,w⟩:=qq;unfold hC at w;refine jX R w λm d v F' H' w' s R' rp fr=>?_;cases m with
 | fr=>exact (show False from w').elim
 | bo=>exact (show False from w').elim
 | fz =>
 cases eg:aQ t d ρ with
 | none=>rw[eg] at w';exact (show False from w').elim
 | some ρ'=>rw[eg] at w';have rv:aB X.K F' d v:=rp;exact nZ t R' rv eg λσ' R'' _ _=>w' σ' F' H' (aE.refl _) R''
end
section
variable {C:Cw}{X:Cx}{e:Expr}{g:Rho->Res}{pos p:Pos}
theorem wG{t:Tg}{tgN:List Str}{aD:List Nat}{gi gt ge:Rho->Res}(hsl:∀ j∈fY t,aD.length<=j){σ:L2.St}{H:Hp}{Q:VK}(q:tG (C.at X) (λρ=>b0 (gi ρ) ρ aD tgN.length (aQ t) gt ge) σ H Q):lM aD tgN.length (tIv (C.at X) gi) (gOf X.K t) (tT (C.nox.at X) gt) (tG (C.nox.at X) λρ=>aY (ge ρ)) σ H Q:=by
 rw[a7] at q;obtain ⟨ρ,F,RS,w⟩:=q;unfold lM;refine ⟨ρ,F,RS,?_⟩;cases er:gi ρ with
 | stuck=>rw[er] at w;exact w
 | exc c=>rw[er] at w;exact w
 | ok m d =>
  rw[er] at w;cases d with
  | lst ds =>
   unfold b0 at w;rw[Res.thn_ok] at w;dsimp only at w;split at w
   . rename_i hsz;intro J F1 H1 s1 hJ Da hDa;cases et:e9 (aQ t) gt ge (cN aD ρ++List.replicate tgN.length none) ds with
     | none=>rw[et] at w;exact w.elim
     | some total =>
      rw[et] at w;have hD0:H Da=none:=s1.same.free hDa;have hF1:F1 Da=none:=s1.sub.free hDa;have R0:=aGK aD tgN.length RS;refine ⟨λi m ys H'=>m=ds.length-i/\i<=ds.length/\H' Da=some (.lst ys)/\∃ F' zs,aI F H F' H'/\aE F1 F'/\F' Da=none/\aC X.K F' zs ys/\zs.length<=i /\
       ∃ aN,e9 (aQ t) gt ge (cN aD ρ++List.replicate tgN.length none) (ds.drop i)=some aN/\total=zs++aN,
       ⟨ds.length,by simp,aQO _,bQ,F1,[],s1.upd hD0 hF1,aE.refl _,hF1,aC.nil,aQC _,total,by simpa using et,rfl⟩,?_⟩
      rintro i m ys H' ⟨rfl,hile,hD,F',zs,st,sF,hFD,rz,hzl,aN,ec,etot⟩;refine ⟨hD,?_⟩;by_cases hlt:i<ds.length
      . refine .inr ⟨hJ.go i H' (sF.trans st.sub) hlt,by rw[rz.length];omega,λv H2 y=>?_⟩
        obtain ⟨F2,d,ed,s2,rd⟩:=hJ.yld i F' H' v H2 sF st.sub hlt y;have hd:ds.drop i=d::ds.drop (i+1):=by rw[aSJ hlt];rw[aSE hlt] at ed;cases ed;rfl
        rw[hd] at ec;unfold e9 at ec;have hD2:H2 Da=some (.lst ys):=s2.same _ _ hD;have hF2:F2 Da=none:=s2.new _ hFD (by rw[hD];exact λz=>nomatch z)
        cases eg:aQ t d (cN aD ρ++List.replicate tgN.length none) with
        | none=>rw[eg] at ec;cases ec
        | some ρ1 =>
        rw[eg] at ec;dsimp only at ec;have R2:=(R0.step st).step s2;refine nZ t R2 rd eg λσ1 R1 len1 keep1=>?_;refine ⟨⟨len1.symm,λj u ej=>?_⟩,ρ1,F2,R1,?_⟩
        . by_cases hj:j∈fY t
          . have:=hsl j hj;rw[aQV (by simpa[eP] using this),aQW] at ej
            split at ej <;> cases ej
          . rw[keep1 j hj];exact ej
        cases ett:gt ρ1 with
        | stuck=>rw[ett] at ec;cases ec
        | exc c=>rw[ett] at ec;cases ec
        | ok mt dt =>
         cases dt with
         | bl b =>
          rw[ett] at ec;intro F3 H3 s3;have hD3:H3 Da=some (.lst ys):=s3.same _ _ hD2;have hF3:F3 Da=none:=s3.new _ hF2 (by rw[hD2];exact λz=>nomatch z)
          cases b with
          | false=>rw[if_neg aQK];exact ⟨ds.length-(i+1),by omega,rfl,hlt,hD3,F3,zs,(st.trans s2).trans s3,(sF.trans s2.fsame).trans s3.fsame,hF3,rz.mono (s2.fsame.trans s3.fsame) _ _,Nat.le_succ_of_le hzl,aN,ec,etot⟩
          | true =>
           rw[if_pos rfl,a7];refine ⟨_,F3,R1.step s3,?_⟩;dsimp only at ec;cases ee:aY (ge ρ1) with
           | stuck=>rw[ee] at ec;cases ec
           | exc c=>rw[ee] at ec;cases ec
           | ok me ye =>
            rw[ee] at ec;dsimp only at ec;have hme:me=.fz:=by
             cases h:ge ρ1 with
             | ok m' d'=>rw[h] at ee;cases m' <;> cases ee <;> rfl
             | exc c=>rw[h] at ee;cases ee
             | stuck=>rw[h] at ee;cases ee
            subst hme;cases er2:e9 (aQ t) gt ge (cN aD ρ++List.replicate tgN.length none) (ds.drop (i+1)) with
            | none=>rw[er2] at ec;cases ec
            | some rest' =>
             rw[er2] at ec;cases ec;intro u F4 H4 s4 ru _;have hD4:H4 Da=some (.lst ys):=s4.same _ _ hD3;have hF4:F4 Da=none:=s4.new _ hF3 (by rw[hD3];exact λz=>nomatch z)
             refine ⟨hD4,ds.length-(i+1),by omega,rfl,hlt,bQ,F4,zs++[ye],(((st.trans s2).trans s3).trans s4).upd hD0 hF4,((sF.trans s2.fsame).trans s3.fsame).trans s4.fsame,hF4,?_,by simp;omega,rest',er2,by rw[etot];simp⟩
             exact aC.append (rz.mono ((s2.fsame.trans s3.fsame).trans s4.fsame) _ _) (aC.cons ru aC.nil)
         | _=>rw[ett] at ec;cases ec
      . have ei:i=ds.length:=by omega
        subst ei;rw[aSK] at ec;cases ec;rw[aQQ] at etot;subst etot;exact .inl ⟨hJ.stop _ H' (sF.trans st.sub) (aQC _),w (.ref Da) F' H' st ⟨Da,rfl,hFD,ys,hD,rz⟩ λ_ a ea=>by cases ea;exact hD0⟩
   . exact w.elim
  | _=>exact w.elim
theorem aHW{aS elt tg:Expr}{t:Tg}{tgN:List Str}{ifs:List Expr}{scope:Scope}{aD:List Nat}{aH:List Str}{gi gt ge:Rho->Res}(hc:X.calm=true)(hi:PIv C X tg aS gi)(dL:∀ y∈scope.names,y.2 ≠ .cell)(eK:scope.kind=.function)(gD:∀ y∈scope.names,y.2=.local->scope.names.lookup y.1=some .local)(eL:∀ y∈scope.names,y.2=.free->X.env.kindOf y.1=some .cell\/X.env.kindOf y.1=some .free)(fG:aH.map some=aD.map λi=>X.N[i]?)(gG:∀ y∈aH,(y,NameKind.free)∈scope.names)(gE:∀ y∈aH,(relabel scope X.env).names.lookup y=some .cell\/(relabel scope X.env).names.lookup y=some .free)(hsl:∀ j∈fY t,aD.length<=j)(hg:∀ cl A fp s3 H3,PGw (bR X scope (aH++tgN) cl A fp s3 H3) tg t)(hf:∀ cl A fp s3 H3,eG (bR X scope (aH++tgN) cl A fp s3 H3) ifs (tT (C.nox.at X) gt))(he:∀ cl A fp s3 H3,PV C.nox (bR X scope (aH++tgN) cl A fp s3 H3) elt ge)(hs:∀ x,foldedSetIterable aS X.env x=pure x:=by intro _;rfl):PV C X (.ListComp elt [⟨tg,aS,ifs,0⟩] scope pos) (λρ=>b0 (gi ρ) ρ aD tgN.length (aQ t) gt ge):=by
 have capLen:aH.length=aD.length:=by simpa using congrArg List.length fG
 refine PE.imp (aGG (aH:=aH) (tgN:=tgN) (gt:=gOf X.K t) (tt:=tT (C.nox.at X) gt) (te:=tG (C.nox.at X) λρ=>aY (ge ρ)) hc hi dL eK gD eL fG gG gE
  hg hf (λcl A fp s3 H3=>iG (he cl A fp s3 H3)) hs) λσ H Q q=>wG hsl q
theorem aHX(fz:Bool){i:Nat}{x:Str}{pos' spos:Pos}{aS elt tg:Expr}{t:Tg}{tgN:List Str}{ifs:List Expr}{scope:Scope}{aD:List Nat}{aH:List Str}{gi gt ge:Rho->Res}(hc:X.calm=true)(hi:PIv C X tg aS gi)(dL:∀ y∈scope.names,y.2 ≠ .cell)(eK:scope.kind=.function)(gD:∀ y∈scope.names,y.2=.local->scope.names.lookup y.1=some .local)(eL:∀ y∈scope.names,y.2=.free->X.env.kindOf y.1=some .cell\/X.env.kindOf y.1=some .free)(fG:aH.map some=aD.map λi=>X.N[i]?)(gG:∀ y∈aH,(y,NameKind.free)∈scope.names)(gE:∀ y∈aH,(relabel scope X.env).names.lookup y=some .cell\/(relabel scope X.env).names.lookup y=some .free)(hsl:∀ j∈fY t,aD.length<=j)(hg:∀ cl A fp s3 H3,PGw (bR X scope (aH++tgN) cl A fp s3 H3) tg t)(hf:∀ cl A fp s3 H3,eG (bR X scope (aH++tgN) cl A fp s3 H3) ifs (tT (C.nox.at X) gt))(he:∀ cl A fp s3 H3,PV C.nox (bR X scope (aH++tgN) cl A fp s3 H3) elt ge)(hN:X.N.Nodup)(hx:X.N[i]? = some x)(hk:X.env.scope.names.lookup x=some .local)(hsw:swapsWith (.ListComp elt [⟨tg,aS,ifs,0⟩] scope pos) (some (.Name x pos')) spos.line X.env=pure true)(hs:∀ x,foldedSetIterable aS X.env x=pure x:=by intro _;rfl):PSv C X (.Assign [.Name x pos'] (.ListComp elt [⟨tg,aS,ifs,0⟩] scope pos) spos) (λρ=>fK ρ i (if fz=true then aY (b0 (gi ρ) ρ aD tgN.length (aQ t) gt ge) else b0 (gi ρ) ρ aD tgN.length (aQ t) gt ge)):=by
 refine PS.imp (aGH (aH:=aH) (tgN:=tgN) (gt:=gOf X.K t) (tt:=tT (C.nox.at X) gt) (te:=tG (C.nox.at X) λρ=>aY (ge ρ)) hc hi dL eK gD eL fG gG gE
  hg hf (λcl A fp s3 H3=>iG (he cl A fp s3 H3)) hN hx hk hsw hs) λE σ H q=>wG hsl ?_
 cases fz with
 | false=>exact qL q
 | true=>have q:=qL q;unfold k6 at q;rw[a7] at q ⊢;obtain ⟨ρ,F,R,w⟩:=q;exact ⟨ρ,F,R,bC.frz w⟩
end
section
variable {C:Cw}{X:Cx}{e:Expr}{g:Rho->Res}{pos p:Pos}
end
inductive PVL(C:Cw)(X:Cx):List Expr->List (Rho->Res)->Prop where
 | nil:PVL C X [] []
 | cons {e:Expr} {g:Rho->Res} {es:List Expr} {gs:List (Rho->Res)} (h:PV C X e g) (r:PVL C X es gs):PVL C X (e::es) (g::gs)
inductive LtI(A:Around)(s:Shared):List Value->List Value->Bool->Prop where
 | nn:LtI A s [] [] false
 | nc {w:Value} {ws:List Value}:LtI A s [] (w::ws) true
 | cn {v:Value} {vs:List Value}:LtI A s (v::vs) [] false
 | eq {v w:Value} {vs ws:List Value} {b:Bool} (h:SeqAt.EqAt A s v w true) (r:LtI A s vs ws b):LtI A s (v::vs) (w::ws) b
 | ne {v w:Value} {vs ws:List Value} {b:Bool} (h:SeqAt.EqAt A s v w false) (l:∀ (prog:Program) (w':World) (E:VSP) (Q:VSP),Q (.bool b) s->wpAny (model prog w') A (richCompare .Lt v w) Q E s):LtI A s (v::vs) (w::ws) b
section
open PySem.SeqAt
open PySem.AutoSeq1 (wpAny_loadPart')
open PySem.MeetsSeq PySem.MeetsSeq2 PySem.MeetsSeq3
theorem aHY(l b:Addr)(items items2:Array Value)(n n2:Nat)(dd dd2:Option Addr)(sl sl2:Array (Option Value))(r:Bool):Meets (Builtin.«tuple.__lt__» ⟨[.ref l,.ref b],[]⟩) (λA R s=>s.heap.get? l=some { cls:=.type "tuple", dict:=dd,data:=.seq items n,slots:=sl }/\s.heap.get? b=some { cls:=.type "tuple", dict:=dd2,data:=.seq items2 n2,slots:=sl2 }/\LtI A.in1 s items.toList items2.toList r/\R (.ok (.ret (.bool r))) s) :=
 .of_wp λprog w A R s h=>by
  obtain ⟨hp,g,d,tk,os⟩:=s;obtain ⟨hl,hb,hi,h⟩:=h;have f2:=AutoSeq1.sub_tuple_tuple
  wp_walk using wpAny_loadPart' hl,wpAny_loadPart' hb,aRV _ (λaN b s'=>b.1=none/\s'=⟨hp,g,d,tk,os⟩/\∃ (vs ws:List Value),aN=vs.zip ws /\
   LtI A.in1 ⟨hp,g,d,tk,os⟩ vs ws r/\vs.length+items2.size=ws.length+items.size) _
  case turn =>
   rintro ⟨y,x⟩ aN b s' ⟨hb',rfl,vs,ws,hz,hvi,hlen⟩;cases hvi with
   | nn=>rw[List.zip_nil_left] at hz;cases hz
   | nc=>rw[List.zip_nil_left] at hz;cases hz
   | cn=>rw[List.zip_nil_right] at hz;cases hz
   | eq he hr =>
    rw[aSW] at hz;injection hz with hyx hrest
    injection hyx with hy hx
    subst hy hx;simp only[aR1] at hlen;refine aP9 (he prog w _ _ ?_)
    wp_walk
    exact ⟨rfl,rfl,_,_,hrest,hr,by omega⟩
   | ne he hr =>
    rw[aSW] at hz;injection hz with hyx hrest
    injection hyx with hy hx
    subst hy hx;refine aP9 (he prog w _ _ ?_);have hri:=hr prog w
    wp_walk using hri
    exact ⟨_,rfl,by simpa using h⟩
  case fin =>
   rintro ⟨b1,b2⟩ s' ⟨hb',rfl,vs,ws,hz,hvi,hlen⟩;simp only at hb';subst hb';have hv:r=decide (items.size<items2.size):=by
    cases hvi with
    | nn=>simp only[aSX] at hlen;exact (aPL (by omega)).symm
    | nc=>simp only[aSX,aR1] at hlen;exact (aRO (by omega)).symm
    | cn=>simp only[aSX,aR1] at hlen;exact (aPL (by omega)).symm
    | eq he hr=>rw[aSW] at hz;cases hz
    | ne he hr=>rw[aSW] at hz;cases hz
   rw[hv] at h
   wp_walk
   exact ⟨_,rfl,by simpa[Builtin.Tuple.tupleCompareSizes] using h⟩
  case h=>exact ⟨rfl,rfl,items.toList,items2.toList,rfl,hi,by simp[Nat.add_comm]⟩
end
section
variable {prog:Program}{w:World}{A:Around}{E:VSP}{s:Shared}
theorem wH{l b:Addr}{items items2:Array Value}{r:Bool}{Q:VSP}(hl:IsTup s.heap l items)(hb:IsTup s.heap b items2)(hi:LtI (A.in1) s items.toList items2.toList r)(hu:A.units<cLine)(h:Q (.bool r) s):wpAny (model prog w) A (compareOp .Lt (.ref l) (.ref b)) Q E s:=by
 obtain ⟨⟨cls,dd,data,sl⟩,ho,hc,n,hd⟩:=id hl;obtain ⟨⟨cls2,dd2,data2,sl2⟩,ho2,hc2,n2,hd2⟩:=id hb;simp only at hc hd hc2 hd2;subst hc hd hc2 hd2;exact richCompare_meets_room (op:=.Lt) ⟨_,ho,rfl⟩ ⟨_,ho2,rfl⟩ PySem.F.slot_tuple_lt PySem.F.entry_tuple_lt (PySem.F.args_tuple_lt_2 _ _) (aHY l b items items2 n n2 dd dd2 sl sl2 r)
  ⟨ho,ho2,hi,show Value.bool r≠Value.notImplemented/\Q (.bool r) s from ⟨(λx=>nomatch x),h⟩⟩ hu
end
section
variable {C:Cw}{X:Cx}
def ltS(x y:Str):Bool:=decide (x.cps.toList<y.cps.toList)
def qX:V->V->Option Bool
 | .int i,.int j=>some (decide (i<j))
 | .str i,.str j=>some (ltS i j)
 | _,_=>none
def j2:List V->List V->Option Bool
 | [],[]=>some false
 | [],_::_=>some true
 | _::_,[]=>some false
 | x::xs,y::ys=>if eqV x y=true then j2 xs ys else qX x y
theorem wI{A:Around}{s:Shared}{r:Bool}:∀ {xs ys:List V} {us vs:List Value},aJ xs us->aJ ys vs->xs.all iE=true->ys.all iE=true->j2 xs ys=some r->LtI A s us vs r
 | _,_,_,_,.nil,.nil,_,_,h=>by cases h;exact .nn
 | _,_,_,_,.nil,.cons _ _,_,_,h=>by cases h;exact .nc
 | _,_,_,_,.cons _ _,.nil,_,_,h=>by cases h;exact .cn
 | x::xs,y::ys,u::us,v::vs,.cons r1 t1,.cons r2 t2,f,g,h=>by
  rw[aSS,aRI] at f g;unfold j2 at h;cases e:eqV x y with
  | true=>rw[e,if_pos rfl] at h;exact .eq (by rw[<- e];exact vH r1 r2 f.1 g.1) (wI t1 t2 f.2 g.2 h)
  | false =>
   rw[e,if_neg aQK] at h;refine .ne (by rw[<- e];exact vH r1 r2 f.1 g.1) λprog w' E Q q=>?_
   unfold qX at h;split at h
   . cases h;obtain ⟨t,rfl⟩:=r1;obtain ⟨t',rfl⟩:=r2;exact lt_int q
   . cases h;obtain ⟨t,rfl⟩:=r1;obtain ⟨t',rfl⟩:=r2;exact lt_str q
   . cases h
theorem aHZ(hu:X.A.units+64<cLine):OpR X (compareOp .Lt) (λx y H Q=>∃ l b xs ys r,x=.ref l/\y=.ref b/\SqT X.K H l xs/\SqT X.K H b ys/\xs.all iE=true/\ys.all iE=true/\j2 xs ys=some r/\Q (.bl r) H):=by intro aA s σ H x y v u Q I rx ry h;obtain ⟨l,b,xs,ys,r,rfl,rfl,hl,hb,f,g,e,q⟩:=h;cases rx;cases ry;obtain ⟨us,r1,p1,_⟩:=I.tuple hl;obtain ⟨vs,r2,p2,_⟩:=I.tuple hb;exact wH p1 p2 (by simpa using wI r1 r2 f g e) (by omega) ⟨.bl r,H,I,rfl,q⟩
def ltD1:D->D->Option Bool
 | .int i,.int j=>some (decide (i<j))
 | .str i,.str j=>some (ltS i j)
 | _,_=>none
def ltL:List D->List D->Option Bool
 | [],[]=>some false
 | [],_::_=>some true
 | _::_,[]=>some false
 | x::xs,y::ys=>if eqD x y=true then ltL xs ys else ltD1 x y
theorem wJ:∀ {xs ys:List D},xs.all gI=true->ys.all gI=true->j2 (xs.map vOf) (ys.map vOf)=ltL xs ys
 | [],[],_,_=>rfl
 | [],_::_,_,_=>rfl
 | _::_,[],_,_=>rfl
 | x::xs,y::ys,f,g=>by rw[aSS,aRI] at f g;show (if eqV (vOf x) (vOf y)=true then j2 (xs.map vOf) (ys.map vOf) else qX (vOf x) (vOf y))=if eqD x y=true then ltL xs ys else ltD1 x y;rw[aHB f.1 g.1,wJ f.2 g.2];congr 1;cases x <;> cases y <;> first | rfl | (cases f.1;done) | (cases g.1;done)
def ltF:Md->D->Md->D->Option (Md×D):=λ_ x _ y=>match x,y with
 | .str i,.str j=>some (.fz,.bl (ltS i j))
 | .tup xs,.tup ys=>if (xs.all gI&&ys.all gI)=true then (ltL xs ys).map λb=>(.fz,.bl b) else none
 | _,_=>none
theorem aH0(hu:X.A.units+64<cLine):OpD C X (compareOp .Lt) ltF:=by
 refine ⟨_,aC5.or (aHZ hu),λF H m x n y v u k d Q s rx ry e w=>?_⟩;unfold ltF at e;split at e
 . rename_i i j;cases e;obtain ⟨rfl,_⟩:=rx.str;obtain ⟨rfl,_⟩:=ry.str;exact .inl ⟨i,j,rfl,rfl,w _ F H (.refl s) (cZ _) (by intro z;cases z)⟩
 . rename_i xs ys;split at e
   . rename_i hf;rw[aRI] at hf;obtain ⟨a,us,rfl,q1,r1⟩:=rx.seqT s;obtain ⟨b,vs,rfl,q2,r2⟩:=ry.seqT s;have e1:=qP hf.1 r1;have e2:=qP hf.2 r2;subst e1;subst e2;cases el:ltL xs ys with
     | none=>rw[el] at e;cases e
     | some r=>rw[el] at e;cases e;exact .inr ⟨a,b,_,_,r,rfl,rfl,q1,q2,qQ hf.1,qQ hf.2,by rw[wJ hf.1 hf.2];exact el,w _ F H (.refl s) (cZ _) (by intro z;cases z)⟩
   . cases e
 . cases e
theorem aH1:IsB ltF:=λm x n y k d e=>by
 unfold ltF at e;split at e
 . cases e;exact ⟨_,rfl,rfl⟩
 . split at e
   . rename_i xs ys _;cases el:ltL xs ys with
     | none=>rw[el] at e;cases e
     | some r=>rw[el] at e;cases e;exact ⟨_,rfl,rfl⟩
   . cases e
 . cases e
def j3:List (Md×D)->Option (Md×D):=λxs=>match xs with
 | [(_,.str z)]=>if z.length<=640 then (PySem.intText? z).map λn=>(.fz,.int n) else none
 | _=>qR xs
theorem aH2:dQ X (.type "int") j3:=by
 obtain ⟨r,h1,h2⟩:=aHE (X:=X);refine ⟨λxs H Q=>r xs H Q\/∃ z n,xs=[.str z]/\z.length<=640/\PySem.intText? z=some n/\Q (.int n) H,?_,λF H xs vs k d Q s rx e w=>?_⟩
 . intro aA s σ H xs us Q I rr h;rcases h with h | ⟨z,n,rfl,hl,hn,q⟩
   . exact h1 aA s σ H xs us Q I rr h
   . obtain ⟨u,rfl,t,rfl⟩:=eB rr;exact PySem.W.KIN.call_text hn hl ⟨.int n,H,I.tok _,⟨_,rfl⟩,q⟩
 . unfold j3 at e;split at e
   . rename_i m z;split at e
     . rename_i hl;cases en:PySem.intText? z with
       | none=>rw[en] at e;cases e
       | some n=>rw[en] at e;cases e;obtain ⟨v,rfl,r0⟩:=rx.one;obtain ⟨rfl,_⟩:=r0.str;exact .inr ⟨z,n,rfl,hl,en,w _ F H (.refl s) (cY _) (by intro z;cases z)⟩
     . cases e
   . exact .inl (h2 F H xs vs k d Q s rx e w)
end
section
open PySem.SeqAt
open PySem.AutoSeq1 (wpAny_loadPart')
open PySem.MeetsSeq PySem.MeetsSeq2 PySem.MeetsSeq3
variable {prog:Program}{w:World}{A:Around}{E:VSP}{s:Shared}
end
section
variable {X:Cx}{aA:LAO}{σ:L2.St}{H:Hp}{s:Shared}{h':Heap}
end
section
variable {C:Cw}{X:Cx}{tg e:Expr}{g:Rho->Res}{gs:Rho->a6}{pos p:Pos}
end
open PySem.AutoSeq1 (wpAny_loadPart')
section
variable {prog:Program}{w:World}{A:Around}{E:VSP}{s:Shared}
end
section
variable {P:Program}{w:World}{K:Fg}{elts:List Expr}{cx:Nat}{pos:Pos}
end
section
variable {C:Cw}{X:Cx}{tg e:Expr}{g:Rho->Res}{gs:Rho->a6}{pos p:Pos}
end
end D3
namespace D3
open PySem PySem.Spec PySem.Calls PyProof.Rows L2 PySem.W
section
variable {prog:Program}{w:World}{A:Around}{E:VSP}{s:Shared}{K:Fg}{x D:Addr}{ox:Obj}{od:Option Obj}
def XAt(h:Heap)(x:Addr)(ox:Obj)(D:Addr):Prop:=h.get? x=some ox/\ox.cls=.ref D
structure XCls(K:Fg)(D:Addr):Prop where
 ga:PySem.W.findIn K (.ref D) "__getattribute__" = some (some (.builtin "BaseException.__getattribute__"))
 gn:PySem.W.findIn K (.ref D) "__getattr__" = some none
 ca:PySem.W.findIn K (.ref D) "__class__" = some (some (.builtin "object.__class__"))
 bx:PySem.W.mroIn K D (.type "BaseException")=some true
 ob:PySem.W.mroIn K D (.type "object")=some true
 hn:PySem.W.specialIn K (.builtin "object.__class__") "__get__" = some (some (.builtin "getset_descriptor.__get__"))
 tk:PySem.W.takesIn K (.builtin "object.__class__")=some true
end
end D3
namespace D3
open PySem PySem.Spec PySem.Calls PyProof.Rows L2
structure Fly(P:Program)(w:World)(outer:List Env)(H:Hp)(s:Shared)(H1:Hp)(B hp:Heap):Prop where
 un:Un (frs outer) [] H H1 s.heap hp
 ok:HOk P w H1 hp
 kb:∀ b o,hp.get? b=some o->s.heap.get? b≠none->b∉frs outer->B.get? b=some o
 kh:∀ b u,H1 b=some u->∃ o,hp.get? b=some o/\B.get? b=some o
 fr:∀ b∈frs outer,H b=none/\∃ o,s.heap.get? b=some o/\∀ vs,o.data ≠ .fields vs
section
variable {P:Program}{w:World}{outer:List Env}{H H1:Hp}{s:Shared}{B hp h':Heap}
theorem hG{b:Addr}:b∉([]:List Addr):=by simp
theorem Fly.slots(f:Fly P w outer H s H1 B hp)(up:hp.UpToSlots h'){b:Addr}(hb:b∈frs outer):∃ o sl sl',s.heap.get? b=some o/\hp.get? b=some { o with slots:=sl }/\h'.get? b=some { o with slots:=sl' }:=by obtain ⟨hn,o,e,nf⟩:=f.fr b hb;obtain ⟨sl,e1⟩:=f.un.slot b o e hn hb hG;obtain ⟨sl',e2⟩:=up b _ e1 nf;exact ⟨o,sl,sl',e,e1,e2⟩
theorem Fly.on(f:Fly P w outer H s H1 B hp)(st:B.StaysIn h')(up:hp.UpToSlots h'):Fly P w outer H s H1 B h' where
 un:={
  keep:=λb o e n hb _=>st b o (f.kb b o (f.un.keep b o e n hb hG) (by rw[e];exact λz=>nomatch z) hb)
  slot:=λb o e n hb _=>by obtain ⟨o',sl,sl',e0,_,e2⟩:=f.slots up hb;rw[e] at e0;cases e0;exact ⟨sl',e2⟩
  free:=f.un.free
  there:=λb o e _=>by
   by_cases hb:b∈frs outer
   . obtain ⟨o',sl,sl',e0,_,e2⟩:=f.slots up hb;exact ⟨_,e2⟩
   . obtain ⟨o',e1⟩:=f.un.there b o e hG;exact ⟨o',st b o' (f.kb b o' e1 (by rw[e];exact λz=>nomatch z) hb)⟩
  tups:=f.un.tups
  frzs:=f.un.frzs
  tbls:=f.un.tbls }
 ok := fun a o e => (f.ok a o e).stay (fun b u hb q => by
     have:∃ u',H1 b=some u':=by
      rcases hb with rfl | hb
      . exact ⟨o,e⟩
      . exact ⟨_,hb⟩
     obtain ⟨u',eu⟩:=this;obtain ⟨o',e1,e2⟩:=f.kh b u' eu;rw[q] at e1;cases e1;exact st b u e2) (λ_ q=>q) λ_ _ q=>q
 kb:=λb o e ns hb=>by
  cases e0:s.heap.get? b with
  | none=>exact absurd e0 ns
  | some o0=>obtain ⟨o',e1⟩:=f.un.there b o0 e0 hG;have e2:=f.kb b o' e1 ns hb;have e3:=st b o' e2;rw[e] at e3;cases e3;exact e2
 kh:=λb u e=>by obtain ⟨o,_,e2⟩:=f.kh b u e;exact ⟨o,st b o e2,e2⟩
 fr:=f.fr
end
def CX1(P:Program)(w:World):CXT:=λouter H s E ev s'=>∃ (e C:Addr) (a0:Value) (H1:Hp) (B:Heap),
 ev=.ref e/\s'.os=s.os/\AllBare s'.gens/\Heap.FlyingW B outer e (.ref C) a0 s'.heap/\Fly P w outer H s H1 B s'.heap/\E (.ref C) none H1
section
variable {X:Cx}{aA:LAO}{σ:L2.St}{H H1:Hp}{s s':Shared}{B hp:Heap}{E:XK}
theorem aH3(I:Inv X aA σ H s):∀ b∈frs X.stack,H b=none/\∃ o,s.heap.get? b=some o/\∀ vs,o.data ≠ .fields vs:=λb hb =>
 ⟨I.stkFree b hb,(I.stack.mem hb).2⟩
theorem Fly.inv(I:Inv X aA σ H s)(f:Fly X.prog X.w X.stack H s H1 B s'.heap)(ho:s'.os=s.os)(hg:AllBare s'.gens):Inv X aA σ H1 s' :=
 Inv.call' (ch:=[]) I ho f.un f.ok hg (λb z=>absurd z hG)
theorem Fly.out(I:Inv X aA σ H s)(f:Fly X.prog X.w X.stack H s H1 B s'.heap)(ho:s'.os=s.os)(hg:AllBare s'.gens)(hx:X.ex=[])(hs:X.stack=X.env::X.outer)(hf:X.env.frame=some X.env.locals){h':Heap}(st:B.StaysIn h')(up:s'.heap.UpToSlots h'):Fly X.prog X.w X.outer X.H₀ X.s₀ H1 B h':=by
 have I1:=f.inv I ho hg;have f1:=f.on st up;have ub:=I1.base;rw[hx] at ub;have old:∀ b o,X.s₀.heap.get? b=some o->∃ o',s.heap.get? b=some o':=λb o e=>I.base.there b o e (by rw[hx];exact hG)
 have nl:∀ b o,X.s₀.heap.get? b=some o->b≠X.env.locals:=λb o e z=>absurd (aPP e) (by rw[z];exact aSQ.mpr I.ok.above)
 have sub:∀ b,b∉frs X.outer->b≠X.env.locals->b∉frs X.stack:=λb h1 h2 z=>by
  rcases aPY.mp (I.stkSub b z) with q | q
  . exact h2 q
  . exact h1 q
 have sup:∀ b,b∈frs X.outer->b∈frs X.stack:=λb hb=>by rw[hs];unfold frs;rw[aPX,hf];exact mcm hb
 refine ⟨⟨λb o e n hb _=>?_,λb o e n hb _=>?_,ub.free,λb o e _=>?_,ub.tups,ub.frzs,ub.tbls⟩,f1.ok,λb o e ns hb=>?_,f1.kh,λb hb=>?_⟩
 . have e1:=ub.keep b o e n hb hG;obtain ⟨o',e0⟩:=old b o e;exact st b o (f.kb b o e1 (by rw[e0];exact λz=>nomatch z) (sub b hb (nl b o e)))
 . obtain ⟨sl,e1⟩:=ub.slot b o e n hb hG;obtain ⟨o',sl1,sl2,e0,e1',e2⟩:=f.slots up (sup b hb);have q:=aP4 (e1.symm.trans e1');refine ⟨sl2,?_⟩;rw[e2];obtain ⟨c1,d1,t1,l1⟩:=o;obtain ⟨c2,d2,t2,l2⟩:=o';simp only[Obj.mk.injEq] at q;obtain ⟨rfl,rfl,rfl,_⟩:=q;rfl
 . obtain ⟨o',e0⟩:=old b o e;exact f1.un.there b o' e0 hG
 . cases e0:X.s₀.heap.get? b with
   | none=>exact absurd e0 ns
   | some o0=>obtain ⟨o',e1⟩:=old b o0 e0;exact f1.kb b o e (by rw[e1];exact λz=>nomatch z) (sub b hb (nl b o0 e0))
 . exact ⟨I.ok.frf b hb,(I.ok.funs.mem hb).2⟩
def lU(h:Heap)(l:List Env):Heap:=PySem.W.hideAll h (frs l)
theorem Fly.raise(I:Inv X aA σ H s)(hx:X.ex=[])(hs:X.stack=X.env::X.outer)(hf:X.env.frame=some X.env.locals){h':Heap}(st:(lU s.heap X.stack).StaysIn h')(up:s.heap.UpToSlots h'):Fly X.prog X.w X.outer X.H₀ X.s₀ H (lU s.heap X.stack) h':=by
 have f:Fly X.prog X.w X.stack H s H (lU s.heap X.stack) s.heap :=
  ⟨Un.refl,I.hok,λb o e _ hb=>aPT _ e hb,λb u e=>by
   have hn:b∉frs X.stack:=λz=>by rw[I.stkFree b z] at e;cases e
   have:∃ o,s.heap.get? b=some o:=by
    have:=I.hok b u e;cases u with
    | lst xs=>obtain ⟨_,_,_,_,e⟩:=this;exact ⟨_,e⟩
    | tup xs=>obtain ⟨_,_,_,o,e,_⟩:=this;exact ⟨_,e⟩
    | dK kvs=>obtain ⟨_,_,_,_,o,_,_,e,_⟩:=this;exact ⟨_,e⟩
    | dT kvs=>obtain ⟨_,_,_,_,o,_,_,e,_⟩:=this;exact ⟨_,e⟩
    | dN kvs=>obtain ⟨_,_,_,_,o,_,_,e,_⟩:=this;exact ⟨_,e⟩
    | set S n=>obtain ⟨o,_,_,_,e,_⟩:=this;exact ⟨_,e⟩
    | ins C dx fs=>obtain ⟨_,_,_,e,_⟩:=this;exact ⟨_,e⟩
    | own y=>obtain ⟨_,e⟩:=this;exact ⟨_,e⟩
    | xd fs=>obtain ⟨_,⟨_,_,_,e,_⟩,_⟩:=this;exact ⟨_,e⟩
    | rng lo hi=>obtain ⟨_,_,_,e⟩:=this;exact ⟨_,e⟩
    | frz ob u=>obtain ⟨e,_⟩:=this;exact ⟨_,e⟩
    | tbl ps=>exact ⟨_,this⟩
    | met f y=>exact ⟨_,this⟩
    | ext φ=>obtain ⟨_,⟨_,e⟩,_⟩:=this;exact ⟨_,e⟩
   obtain ⟨o,eo⟩:=this;exact ⟨o,eo,aPT _ eo hn⟩,aH3 I⟩
 exact f.out I rfl I.bare hx hs hf st up
end
def vErr:List Value:=[.type "ValueError", .type "Exception", .type "BaseException", .type "object"]
def wK(K:Fg)(C:Addr):Prop:=PySem.W.excIn K C vErr "ValueError.__new__" = true
def RzOk(C:Cw)(X:Cx):Prop:=∀ (aA:LAO) (σ:L2.St) (H:Hp) (s:Shared) (c:Str) (Cc:Addr) (vs:List Value) (h':Heap) (e:Addr),Inv X aA σ H s->X.mg c=some (.ref Cc)->C.EE c σ H ->
 Heap.MadeExcOf s.heap h' e (.ref Cc) vs->X.xe (.ref e) { s with heap:=h' }
section
variable {C:Cw}{X:Cx}{e:Expr}{es:List Expr}{gs:Rho->a6}{x:Str}{np cpos pos:Pos}
structure FnCx(X:Cx):Prop where
 hx:X.ex=[]
 hs:X.stack=X.env::X.outer
 hf:X.env.frame=some X.env.locals
end
section
variable {P:Program}{w:World}{K:Fg}{mg:SOV}{base:Heap}{N:List Str}{aW:Str}{scope:Scope}{f:Addr}{cdv:Value}{A:Around}{outer:List Env}{s:Shared}{H:Hp}{E:XK}
theorem fnCx:FnCx (eC (CX1 P w) P w K mg base N aW scope f cdv A outer s H E):=⟨rfl,rfl,rfl⟩
def lV(mg:SOV)(E:XK):XE:=λc _ H'=>∀ u,mg c=some u->E u none H'
theorem aH4{C:Cw}(hE:C.EE=lV mg E):XOk (CX1 P w) C (eC (CX1 P w) P w K mg base N aW scope f cdv A outer s H E):=by intro aA σ H1 s1 ev s' I h;obtain ⟨e,Cc,a0,H2,B,rfl,ho,hg,fl,fy,c,hm,he⟩:=h;rw[hE] at he;have I0:=I.ok.frames;refine wpAny_leaves_onW I0 rfl fl λh' fl' up=>?_;exact ⟨e,Cc,a0,H2,B,rfl,ho.trans I.os,hg,fl',fy.out I ho hg rfl rfl rfl fl'.1 up,he _ hm⟩
theorem aH5{C:Cw}(hE:C.EE=lV mg E):RzOk C (eC (CX1 P w) P w K mg base N aW scope f cdv A outer s H E):=by
 intro aA σ H1 s1 c Cc vs h1 e I hm he made;rw[hE] at he;have I0:=I.ok.frames;have hin:∀ env∈(eC (CX1 P w) P w K mg base N aW scope f cdv A outer s H E).stack,∀ a,env.frame=some a->a∈frs (eC (CX1 P w) P w K mg base N aW scope f cdv A outer s H E).stack:=λenv he a ha=>aQE.mpr ⟨env,he,ha⟩;have FF:s1.heap.FunFrames (lU s1.heap (eC (CX1 P w) P w K mg base N aW scope f cdv A outer s H E).stack) _:=PySem.W.funFrames_hide I.stack hin;have st0:(lU s1.heap (eC (CX1 P w) P w K mg base N aW scope f cdv A outer s H E).stack).StaysIn s1.heap:=λb o q=>PySem.W.of_hideAll _ q;refine wpAny_leaves_madeW (s:={ s1 with heap:=h1 }) I0 rfl st0 FF made λh' t fl _ _ up=>?_
 have up0:s1.heap.UpToSlots h':=(Heap.UpToSlots.of_keeps made.keeps).trans up;exact ⟨e,Cc,.ref t,H1,_,rfl,I.os,I.bare,fl,Fly.raise I rfl rfl rfl fl.1 up0,he _ hm⟩
end
structure HX where
 cls:Str
 slot:Option Nat
 g:Rho->aG
def qY(K:Fg)(mg:SOV)(xt:Str->Str->Option Bool):Prop:=∀ c x b,xt c x=some b->∃ C C2,PySem.W.nsIn K mainGlobals c=some (some (.ref C))/\mg c=some (.ref C)/\mg x=some (.ref C2) /\
 PySem.W.mroIn K C2 (.type "BaseException")=some true/\PySem.W.typeIn K (.ref C2)=some (.type "type")/\PySem.W.mroIn K C (.ref C2)=some b
section
variable {X:Cx}{aA:LAO}{σ:L2.St}{H:Hp}{s:Shared}{e:Addr}
end
section
variable {C:Cw}{X:Cx}{aA:LAO}{σ:L2.St}{H H1:Hp}{s s0:Shared}{e Cc:Addr}{a0:Value}{B:Heap}
end
section
variable {C:Cw}{X:Cx}{aA:LAO}{σ:L2.St}{H:Hp}{s:Shared}{D:fV}{hs:List ExceptHandler}{hx:List HX}{xt:Str->Str->Option Bool}
end
def n4(mg:SOV)(n:Str)(cv:V):Prop:=(∃ C,mg n=some (.ref C)/\cv=.ref C)\/(mg n=none/\n ≠ "__name__" /\ ∃ T,bootBuiltins n=some (.type T)/\cv=.ty T)
def wL:V->Value | .ref a=>.ref a | .ty T=>.type T | _=>.none
def qZ(K:Fg)(mg:SOV)(xis:Str->Str->Option Bool):Prop:=∀ c n b,xis c n=some b->∃ C cv,PySem.W.nsIn K mainGlobals c=some (some (.ref C))/\XCls K C/\n4 mg n cv/\PySem.W.kitOne K (.ref C) (wL cv)=some b
section
variable {C:Cw}{X:Cx}{e:Expr}{g:Rho->Res}{p q pos tp:Pos}{n:Str}{xis:Str->Str->Option Bool}
end
theorem aH6{P:Program}{w:World}{K:Fg}{mg:SOV}{base:Heap}{x aW:Str}{st:Stmt}{f:Addr}{fd:FuncData}{N ps:List Str}{k:Nat}{g:Rho->aG}(F:Fun K x aW st f fd)(S:nI N ps (fW st))(hbody:∀ (C:Cw) (cdv:Value) (A:Around) (outer:List Env) (s:Shared) (H:Hp) (E:XK),C.EE=lV mg E->cX k (A.deeper (envOfC aW (fW st) s.heap.objs.size f cdv))->PBv C (eC (CX1 P w) P w K mg base N aW (fW st) f cdv A outer s H E) (jU st) g):dM P w K mg base (CX1 P w) (k+1) f fd ps (spV K mg ps.length (phi ps.length N.length g)):=by
 obtain ⟨oc,od,kV,doc,pm,an,cdv,ct,osl,rfl,lk,hcd⟩:=F.ex;refine fn_of lk hcd S (λvs H Q E h=>h.1) λA outer s H vs Q E hr h=>?_;obtain ⟨hl,F0,ds,sF,rl,h⟩:=h;have hl':ds.length=ps.length:=by rw[<- rl.length];exact hl
 let C:Cw:=⟨K,F0,H,lV mg E⟩
 refine ⟨_,hbody C cdv A outer s H E rfl hr,iI N.length ds,F0,aGO sF rl,?_⟩;unfold phi at h;rw[if_pos hl'] at h;cases er:g (iI N.length ds) with
 | nx ρ=>rw[er] at h;exact λσ' F' H' _ R=>h.2 .non F' H' R.st vN (by intro z;cases z)
 | rt m d=>rw[er] at h;exact λv F' H' s rp fr=>h.2 v F' H' s rp fr
 | bk ρ=>rw[er] at h;exact h.elim
 | ct ρ=>rw[er] at h;exact h.elim
 | exc c ρ=>rw[er] at h;exact λσ' F' H' _ R u hu=>h F' H' u R.st hu
 | stuck=>rw[er] at h;exact h.elim
def hU(ρ:Rho)(i:Nat)(r:Res):aG:=match ρ[i]? with
 | some (some (true,.lst ds))=>(aY r).thS ρ λm d=>match m with | .fz=>if ds.length<sizeLine then .nx (ρ.set i (some (true,.lst (ds++[d])))) else .stuck | _=>.stuck
 | _=>.stuck
theorem aH7{r:Res}{m:Md}{d:D}(h:aY r=.ok m d):m=.fz:=by
 cases r with
 | ok m' d'=>cases m' <;> cases h <;> rfl
 | exc c=>cases h
 | stuck=>cases h
section
variable {C:Cw}{X:Cx}{e:Expr}{g:Rho->Res}{x:Str}{p ap cp pos:Pos}
theorem aH8(i:Nat)(hv:PE X (.Name x p) (k4 i))(he:PV C X e g)(hs:cS e=true)(hline:ap.endLine=cp.line):PSv C X (.Expr (.Call (.Attribute (.Name x p) "append" ap) [e] [] cp) pos) (λρ=>hU ρ i (g ρ)):=by
 have h1 := pe_bm (X := X) (o := .Name x p) (e := e) (es := []) (apos := ap) (cpos := cp) PySem.F.plainAttrs_list PySem.F.slot_list_append PySem.F.type_list_append vI hv (nG (iG he) nF (cH hs)) (qN rfl) (by
     rw[nW _ _ (λy hy=>by simp only[aPY,List.mem_nil_iff,aSY] at hy;subst hy;exact hs)];rfl) (aQL.mpr hline) (cH hs) rfl
 refine PS.imp (aCH h1) λE σ H q=>?_;obtain ⟨ρ,F,R,w⟩:=q;dsimp only at w;unfold uV tBM;cases e0:ρ[i]? with
 | none=>unfold hU at w;rw[e0] at w;exact w.elim
 | some o =>
  cases o with
  | none=>unfold hU at w;rw[e0] at w;exact w.elim
  | some bd =>
   obtain ⟨b,d0⟩:=bd;cases b with
   | false=>unfold hU at w;rw[e0] at w;exact w.elim
   | true =>
    cases d0 with
    | lst ds =>
     unfold hU at w;rw[e0] at w;dsimp only at w;obtain ⟨v0,ev0,rp0,hn0⟩:=R.slot i true _ e0;obtain ⟨a,ea,hfa,xs,hh,rl⟩:=rp0;subst ea;refine ⟨.ref a,ev0,.inl ⟨rfl,xs,SqL.of hh⟩,?_⟩;unfold lD;refine jX R w λm d v F' H' w' s R' rp fr=>?_;cases m with
     | fr=>exact (show False from w').elim
     | bo=>exact (show False from w').elim
     | fz =>
     dsimp only at w';split at w'
     . rename_i hl;have hh':H' a=some (.lst xs):=s.same _ _ hh;refine ⟨a,xs,v,rfl,rfl,hh',by rw[rl.length];exact hl,?_⟩
       exact w' σ F' _ (aE.refl _) (R'.mut e0 ev0 ⟨_,bQ,aC.append (rl.mono s.fsame _ _) (aC.cons rp aC.nil)⟩)
     . exact w'.elim
    | _=>unfold hU at w;rw[e0] at w;exact w.elim
end
def Hld(B:Heap)(l:List Env)(e:Addr)(cls a0:Value)(h:Heap):Prop:=B.StaysIn h/\B.get? e=none/\h.FunFrames B l/\∃ fl,h.TracedAtW B e cls a0 fl
section
variable {M:Model}{A:Around}{E:VSP}{s:Shared}{B:Heap}{env:Env}{outer:List Env}{L e:Addr}{cls a0:Value}{Q:Unit->Shared->Prop}
theorem aH9(hfr:A.frames=some (env::outer))(hf:env.frame=some L)(hh:Hld B (env::outer) e cls a0 s.heap)(hQ:∀ h',Heap.HeldW B (env::outer) e cls a0 L h'->s.heap.UpToSlots h'->Q () { s with heap:=h' }):wpAny M A (noteFrame (.ref e) env) Q E s:=by
 obtain ⟨k1,k2,k3,fl,ht⟩:=hh;by_cases hl:fl=rawInt L
 . subst hl;exact wpAny_noteFrame_againW hf ht (hQ s.heap ⟨k1,k2,k3,ht⟩ (Heap.UpToSlots.refl _))
 obtain ⟨oe,xs,T,oT,ys,q1,⟨q2,q3⟩,q4,q5,q6,q7,q8,q9,q10⟩:=ht;subst q2;unfold noteFrame;simp only[hf];refine aP9 (aRB q1 q4 q5 ?_);have n1:(Value.ref T != Value.none)=true:=by simp
 have n2:¬ ((fl==rawInt L)=true):=by rw[aQL];exact hl
 rw[if_pos n1];refine aP9 (aRB q8 q9 q10 ?_);rw[if_neg n2];obtain ⟨lt3,_⟩:=aSZ.mp q10;obtain ⟨lt1,_⟩:=aSZ.mp q5;refine aP9 (aS0 q8 q9 lt3 ?_);generalize hg:s.heap.update T (Obj.mapFields λz=>z.setIfInBounds 3 Value.none)=g;have oth:∀ b,b≠T->g.get? b=s.heap.get? b:=λb hb=>by rw[<- hg];exact aRL _ _ (Ne.symm hb)
 have plain:∀ b o,s.heap.get? b=some o->(∀ z,o.data ≠ .fields z)->g.get? b=some o:=λb o w1 w2=>by rw[oth b (by rintro rfl;rw[q8] at w1;cases w1;exact w2 ys q9)];exact w1
 have inB:∀ b o,B.get? b=some o->g.get? b=some o:=λb o w=>by rw[oth b (by rintro rfl;rw[q6] at w;cases w)];exact k1 b o w
 refine wpAny_entryW (s:={ s with heap:=g }) hfr (k3.of_keeps λb o w1 w2=>⟨o,plain b o w1 w2,rfl⟩) hf (by show g.get? e=_;rw[oth e (Ne.symm q7)];exact q1) inB k2 q4 lt1 q3 λh' hn=>?_
 obtain ⟨m1,m2,m3,m4⟩:=hn;exact hQ h' ⟨m1,k2,m2,m3⟩ λb o w1 w2=>m4 b o (plain b o w1 w2) w2
theorem aIA(hfr:A.frames=some (env::outer))(hf:env.frame=some L)(hh:Hld B (env::outer) e cls a0 s.heap)(hQ:∀ h',Heap.FlyingW B outer e cls a0 h'->s.heap.UpToSlots h'->Q () { s with heap:=h' }):wpAny M A (leaving env (.ref e)) Q E s:=by
 unfold leaving;refine aP9 (aH9 hfr hf hh λh4 held up4=>?_);refine wpAny_landsW (s:={ s with heap:=h4 }) held λh5 fl up5=>?_
 obtain ⟨w1,w2,w3,w4⟩:=fl;exact hQ h5 ⟨w1,w2,w3.2.2,w4⟩ (up4.trans up5)
end
def HX1(P:Program)(w:World):CXT:=λouter H s E ev s'=>∃ (e C:Addr) (a0:Value) (H1:Hp) (B:Heap),
 ev=.ref e/\s'.os=s.os/\AllBare s'.gens/\Hld B outer e (.ref C) a0 s'.heap/\Fly P w outer H s H1 B s'.heap/\E (.ref C) none H1
section
variable {P:Program}{w:World}{K:Fg}{mg:SOV}{base:Heap}{N:List Str}{aW:Str}{scope:Scope}{f:Addr}{cdv:Value}{A:Around}{outer:List Env}{s:Shared}{H:Hp}{E:XK}
theorem aIB{C:Cw}(hE:C.EE=lV mg E):XOk (HX1 P w) C (eC (CX1 P w) P w K mg base N aW scope f cdv A outer s H E):=by intro aA σ H1 s1 ev s' I h;obtain ⟨e,Cc,a0,H2,B,rfl,ho,hg,fl,fy,c,hm,he⟩:=h;rw[hE] at he;refine aIA I.ok.frames rfl fl λh' fl' up=>?_;exact ⟨e,Cc,a0,H2,B,rfl,ho.trans I.os,hg,fl',fy.out I ho hg rfl rfl rfl fl'.1 up,he _ hm⟩
end
section
variable {C:Cw}{X:Cx}{aA:LAO}{D:fV}{hs:List ExceptHandler}{hx:List HX}{xt:Str->Str->Option Bool}
end
section
variable {P:Program}{w:World}{outer:List Env}{H H1:Hp}{s:Shared}{B hp h':Heap}{Z:Addr}
end
section
variable {X:Cx}{XE:VSP}{aA:LAO}{σ:L2.St}{H:Hp}{s:Shared}
end
end D3
namespace L2
open PySem PySem.Spec PyProof.Rows D3
section
variable {prog:Program}{w:World}{A:Around}{R:Result->Shared->Prop}{s:Shared}
end
end L2
namespace D3
open PySem PySem.Spec PyProof.Rows L2
section
variable {C:Cw}{X:Cx}{pos:Pos}
end
end D3
namespace PySem
open Sem (wp)
open Builtin
end PySem
namespace L2
open PySem PySem.Spec PyProof.Rows
section
variable {X:Cx}
end
end L2
namespace D3
open PySem PySem.Spec PySem.Calls PyProof.Rows L2
section
variable {C:Cw}{X:Cx}
variable {e ke:Expr}{g gk:Rho->Res}{x:Str}{p ap cp pos:Pos}
end
end D3
namespace D3
open PySem PySem.Spec PyProof.Rows L2
section
variable {prog:Program}{w:World}{A:Around}{R:Result->Shared->Prop}{J:Addr}{fp wr:List Addr}{n:Nat}{P:Nat->Value->Prop}{St:Nat->Heap->Prop}{ns:List Int}{S:Addr}
end
section
variable {prog:Program}{w:World}{A:Around}{E:VSP}{s:Shared}
end
section
variable {C:Cw}{X:Cx}{e:Expr}{g:Rho->Res}{p q kp pos:Pos}{j}
end
theorem aC.drop{K:Fg}{F:Hp}:∀ (n:Nat) {ds:List D} {xs:List V},aC K F ds xs->aC K F (ds.drop n) (xs.drop n)
 | 0,_,_,h=>h
 | n+1,[],xs,h=>by simp only[aC] at h;subst h;simp[aC]
 | n+1,d::ds,xs,h=>by simp only[aC] at h;obtain ⟨v,vs,rfl,_,t⟩:=h;exact aC.drop n t
theorem aC.take{K:Fg}{F:Hp}:∀ (n:Nat) {ds:List D} {xs:List V},aC K F ds xs->aC K F (ds.take n) (xs.take n)
 | 0,_,_,_=>by simp[aC]
 | n+1,[],xs,h=>by simp only[aC] at h;subst h;simp[aC]
 | n+1,d::ds,xs,h=>by simp only[aC] at h;obtain ⟨v,vs,rfl,r,t⟩:=h;simp only[List.take_succ_cons,aC];exact ⟨v,_,rfl,r,aC.take n t⟩
def dF(xs:List D)(lo hi:Option Int):List D:=(xs.drop (HT.sIx xs.length 0 lo)).take (HT.sIx xs.length xs.length hi-HT.sIx xs.length 0 lo)
theorem aC.cut{K:Fg}{F:Hp}{ds:List D}{xs:List V}(h:aC K F ds xs)(lo hi:Option Int):aC K F (dF ds lo hi) (gY xs lo hi):=by unfold dF gY;rw[h.length];exact (h.drop _).take _
def lW(n:Nat)(lo hi:Option Int):Bool:=HT.sIx n 0 lo==0&&HT.sIx n n hi==n
def slP(x:Res)(lo hi:Option (Rho->Res))(ρ:Rho):Res:=x.thn λm d=>match d with
 | .str z=>cF lo ρ λl=>cF hi ρ λh=>.ok .fz (.str (Txt.slice z l h))
 | .lst ds=>cF lo ρ λl=>cF hi ρ λh=>.ok .fr (.lst (dF ds l h))
 | .tup ds=>cF lo ρ λl=>cF hi ρ λh=>if (lW ds.length l h&&m != .fz)=true then .stuck else .ok .fz (.tup (dF ds l h))
 | _=>.stuck
section
variable {C:Cw}{X:Cx}{a:Expr}{ga:Rho->Res}{pos:Pos}
theorem aIC{lo hi:Option Expr}{gl gh:Option (Rho->Res)}{p2:Pos}(ha:PV C X a ga)(hl:POv C X lo gl)(hh:POv C X hi gh):PV C X (.Subscript a (.Slice lo hi none p2) pos) (λρ=>slP (ga ρ) gl gh ρ):=by
 refine PE.imp (aD0 (aFK.or (aD9.or (aD1.or aHN))) ha (vW hl) (vW hh)) λσ H Q q=>?_;unfold tSl;rw[a7] at q ⊢;obtain ⟨ρ,F,R,w⟩:=q
 try dsimp only at w
 refine ⟨ρ,F,R,?_⟩;cases er:ga ρ with
 | stuck=>rw[er] at w;exact w
 | exc c=>rw[er] at w;exact w
 | ok m d =>
  rw[er] at w;intro v F1 H1 s1 rp _;cases d with
  | str z=>obtain ⟨rfl,hz,hk⟩:=rp.str;have w1:bC (C.at X) F1 H1 σ (cF gl ρ λl=>cF gh ρ λh=>.ok .fz (.str (Txt.slice z l h))) Q:=bC.step s1 w;refine jW (R.step s1) w1 λl F2 H2 s2 R2 w2=>jW R2 w2 λh F3 H3 s3 R3 w3=>.inl ?_;exact ⟨z,rfl,hz,w3 _ F3 H3 (.refl R3.sub) (iY ⟨aPV (aR8 z _ _) hz,aFL hk⟩) (by intro z;cases z)⟩
  | lst ds=>have w1:bC (C.at X) F1 H1 σ (cF gl ρ λl=>cF gh ρ λh=>.ok .fr (.lst (dF ds l h))) Q:=bC.step s1 w;refine jW (R.step s1) w1 λl F2 H2 s2 R2 w2=>jW R2 w2 λh F3 H3 s3 R3 w3=>.inr (.inl ?_);obtain ⟨p,xs,rfl,hq,rl⟩:=((rp.step s2).step s3).seqL R3.sub;exact ⟨p,xs,rfl,hq,λp' hp'=>w3 (.ref p') F3 _ (aI.fresh _ R3.sub hp') ⟨p',rfl,R3.sub.free hp',_,bQ,rl.cut l h⟩ λ_ a ea=>by cases ea;exact hp'⟩
  | tup ds =>
   have w1:bC (C.at X) F1 H1 σ (cF gl ρ λl=>cF gh ρ λh=>if (lW ds.length l h&&m != .fz)=true then .stuck else .ok .fz (.tup (dF ds l h))) Q:=bC.step s1 w;refine jW (R.step s1) w1 λl F2 H2 s2 R2 w2=>jW R2 w2 λh F3 H3 s3 R3 w3=>.inr (.inr ?_);obtain ⟨p,xs,rfl,hq,rl⟩:=((rp.step s2).step s3).seqT R3.sub;have lw:lW ds.length l h=true↔HT.sIx xs.length 0 l=0/\HT.sIx xs.length xs.length h=xs.length:=by rw[rl.length];unfold lW;simp
   cases hw:lW ds.length l h with
   | true =>
    cases m with
    | fz =>
     rw[hw,if_neg (by decide)] at w3
     have e:=lw.mp hw;have ec:dF ds l h=ds:=by unfold dF;rw[<- rl.length,e.1,e.2,rl.length,aST,Nat.sub_zero];exact aS1
     rw[ec] at w3;exact .inr ⟨p,xs,rfl,hq,e,w3 (.ref p) F3 H3 (.refl R3.sub) ((rp.step s2).step s3) (by intro z;cases z)⟩
    | fr=>rw[hw,if_pos (by decide)] at w3;exact w3.elim
    | bo=>rw[hw,if_pos (by decide)] at w3;exact w3.elim
   | false =>
    rw[hw,if_neg (by simp)] at w3
    refine .inl ⟨p,xs,rfl,hq,λz=>?_,λp' hp'=>w3 (.ref p') _ _ (aI.laid (.tup (gY xs l h)) R3.sub hp') (aB.tup_of (R3.sub.free hp') (rl.cut l h)) (by intro z;cases z)⟩
    rw[lw.mpr z] at hw;cases hw
  | _=>exact (show False from w).elim
end
section
variable {C:Cw}{X:Cx}{pos:Pos}
theorem aID:PV C X (.Dict [] [] pos) (λ_=>.ok .fr (.dct [])):=by refine PE.imp aEI λσ H Q q=>?_;rw[a7] at q;obtain ⟨ρ,F,R,w⟩:=q;intro p hp;exact w (.ref p) F _ (aI.fresh _ R.sub hp) ⟨p,rfl,R.sub.free hp,[],bQ,by simp[dO]⟩ λ_ a ea=>by cases ea;exact hp
end
section
variable {X:Cx}
end
section
variable {C:Cw}{X:Cx}{a b:Expr}{ga gb:Rho->Res}{pos:Pos}
def n6:List (Md×D)->Option (Md×D)
 | [(_,.dct kvs)]=>some (.fr,.dct kvs)
 | _=>none
theorem aIE:dQ X (.type "dict") n6:=by
 refine ⟨λvs H Q=>∃ a xs,vs=[.ref a]/\H a=some (.dK xs)/\∀ p,H p=none->Q (.ref p) (upd H p (.dK xs)),?_,?_⟩
 . intro aA s σ H vs us Q I r h;obtain ⟨a,xs,rfl,hh,q⟩:=h;obtain ⟨u,rfl,ru⟩:=eB r;cases (show u=Value.ref a from ru)
   exact aEJ I (.inl hh) λp s' hp I'=>⟨.ref p,_,I',rfl,q p hp⟩
 . intro F H xs vs k d Q s rx e w;unfold n6 at e;split at e
   . rename_i m kvs;cases e;obtain ⟨v,rfl,r⟩:=rx.one;obtain ⟨a,ys,rfl,hh,rk⟩:=r.dict s;exact ⟨a,ys,rfl,hh,λp hp=>w (.ref p) F _ (aI.fresh _ s hp) ⟨p,rfl,s.free hp,ys,bQ,rk⟩ λ_ b eb=>by cases eb;exact hp⟩
   . cases e
end
section
variable {C:Cw}{X:Cx}{e ke:Expr}{g gk:Rho->Res}{x:Str}{p sp pos:Pos}
end
section
variable {C:Cw}{X:Cx}{a b:Expr}{ga gb:Rho->Res}{pos:Pos}
end
end D3
namespace D3
open PySem PySem.Spec PyProof.Rows L2 PySem.SeqAt PySem.MeetsSeq
theorem SqT.plain{X:Cx}{aA:LAO}{σ:L2.St}{H:Hp}{s:Shared}{a:Addr}{xs:List V}(I:L2.Inv X aA σ H s)(h:SqT X.K H a xs):∃ its:List Value,aJ xs its/\gW s.heap a its.toArray/\xs.length<=sizeLine:=by
 rcases h with h | ⟨o,its,n,hk,hc,hd,hs,hz,r⟩
 . obtain ⟨z,its,r,p⟩:=h.ok I.hok;exact ⟨its,r,p,z⟩
 . exact ⟨its.toList,r,⟨o,I.kIn a o hk,hc,hd,n,by simpa using hs⟩,by rw[r.length,aP7];exact hz⟩
section
variable {X:Cx}{o e:Expr}{apos cpos:Pos}{td ty:TE}
end
section
variable {C:Cw}{X:Cx}{o e:Expr}{apos cpos:Pos}{go g:Rho->Res}
end
end D3
namespace D3
open PySem PySem.Spec PyProof.Rows L2
section
variable {C:Cw}{X:Cx}
end
def TabE(w:World)(K:Fg):List (Str×Str)->List DictEntry->Prop
 | [],es=>es=[]
 | (z,f)::r,es=>∃ t a es',es=⟨PyData.keyHash w.params z,.str z t,.ref a⟩::es'/\PySem.W.nsIn K mainGlobals f=some (some (.ref a))/\TabE w K r es'
structure j4(w:World)(K:Fg)(mg:SOV)(x:Str)(tb:List (Str×Str)):Prop where
 ex:∃ a ob es ep,mg x=some (.ref a)/\K.lookup a=some ob/\ob.ExactDict/\ob.data=.dict es ep/\TabE w K tb es.toList
 nd:(tb.map (·.1)).Nodup
section
variable {C:Cw}{X:Cx}{e b:Expr}{es:List Expr}{gs:Rho->a6}{gb:Rho->Res}{p pos:Pos}{x:Str}{k n:Nat}{tb:List (Str×Str)}
end
section
variable {X:Cx}
end
theorem a5.frz{K:Fg}{F0 H0 F H:Hp}{σ:L2.St}{ρ:Rho}(R:a5 K F0 H0 F H σ ρ){i:Nat}{d:D}(e:ρ[i]? = some (some (true,d))):∃ F',aE F F'/\a5 K F0 H0 F' H σ (ρ.set i (some (false,d))):=by
 obtain ⟨v,ev,rp,hn⟩:=R.slot i true d e;obtain ⟨x,rfl,nx,t⟩:=rp;obtain ⟨o,ho,r⟩:=t.freeze nx;have sm:aE F (upd F x o):=λb u q=>by rw[aU (cK q nx)];exact q
 have hi:i<ρ.length:=(aP1.mp e).1;refine ⟨upd F x o,sm,R.st.freeze (hn rfl x rfl) nx ho,λj m d' ej=>?_,λj k d1 d2 a hjk e1 e2 q1 q2=>?_,by rw[aSG];exact R.len⟩
 . by_cases hj:j=i
   . subst hj;rw[aP2 hi] at ej;cases ej;exact ⟨.ref x,ev,r,by intro z;cases z⟩
   . rw[aP3 (λz=>hj z.symm)] at ej;obtain ⟨v',ev',rp',hn'⟩:=R.slot j m d' ej;refine ⟨v',ev',?_,hn'⟩;cases m with
     | false=>exact aB.mono sm _ _ rp'
     | true =>
      obtain ⟨a,rfl,na,t'⟩:=rp';have ax:a≠x:=λz=>by subst z;exact R.apart j i d' d a hj ej e ev' ev
      refine ⟨a,rfl,by rw[aU ax];exact na,?_⟩
      cases d' with
      | lst ds=>obtain ⟨xs,q,rr⟩:=t';exact ⟨xs,q,rr.mono sm _ _⟩
      | dct ds=>obtain ⟨xs,q,rr⟩:=t';exact ⟨xs,q,rr.mono sm _ _⟩
      | ins c fs=>obtain ⟨C,dx,gs,n,q,rr⟩:=t';exact ⟨C,dx,gs,n,q,rr.mono sm _ _⟩
      | set ks=>obtain ⟨S,q,rr⟩:=t';exact ⟨S,q,rr⟩
      | dtn ds=>obtain ⟨xs,q,rr⟩:=t';exact ⟨xs,q,rr.mono sm _ _⟩
      | _=>exact t'.elim
 . have own:∀ {j:Nat} {d1:D},(ρ.set i (some (false,d)))[j]? = some (some (true,d1))->ρ[j]? = some (some (true,d1)):=λ{j d1} z=>by
     by_cases hj:j=i
     . subst hj;rw[aP2 hi] at z;cases z
     . rw[aP3 (λy=>hj y.symm)] at z;exact z
   exact R.apart j k d1 d2 a hjk (own e1) (own e2) q1 q2
def lX(ρ:Rho)(i:Nat):aG:=match ρ[i]? with
 | some (some (true,d))=>.nx (ρ.set i (some (false,d)))
 | _=>.stuck
theorem aIF{C:Cw}{X:Cx}{sts:List Stmt}{i:Nat}{g:Rho->aG}(h:PBv C X sts g):PBv C X sts (λρ=>(lX ρ i).thn g):=by
 refine PSs.imp h λE σ H q=>?_;obtain ⟨ρ,F,R,w⟩:=q;dsimp only at w;unfold lX at w;split at w
 . rename_i d e;obtain ⟨F',sm,R'⟩:=R.frz e;exact ⟨_,F',R',cR.mono sm w⟩
 . exact w.elim
def Ent(w:World):List Str->List (Int×Value)->Prop
 | [],l=>l=[]
 | x::xs,l=>∃ t r,l=(hashStr w x,.str x t)::r/\Ent w xs r
def dW(w:World):Bool:=w.params.followText "set-order"
def SetX(w:World)(h:Heap)(a:Addr)(xs:List Str):Prop:=∃ o es ep t,h.get? a=some o/\o.ExactSet/\o.data=.set es ep t/\Ent w xs es.toList/\xs.Nodup/\xs.length<scanBound/\t.fits es.size=true/\t.led = !dW w/\(xs=[]\/t.plain=false)
section
variable {prog:Program}{w:World}{A:Around}{E:VSP}{s:Shared}
end
theorem lY:plainId "set.update.loop" = true:=by decide +kernel
theorem rA:entryFor table "set.update.loop" = some Builtin.«set.update.loop»:=entryFor_of_tree (by kernel_rfl)
theorem aIG(a:Value):checkTypeCall "set" ⟨[a],[]⟩=pure ():=by kernel_rfl
theorem aIH(a:Value):checkBuiltinCall "set.__new__" ⟨[.type "set", a],[]⟩=pure ():=by kernel_rfl
section
variable {prog:Program}{w:World}{A:Around}{E:VSP}{s:Shared}
end
def sob(w:World):Obj:={ cls:=.type "set", dict:=none,data:=.set #[] 0 (.fresh 0 0 (!dW w)) }
section
variable {prog:Program}{w:World}{A:Around}{E:VSP}{s:Shared}
theorem aII(v:Value){Q1:VSP}(h:Q1 (.ref s.heap.objs.size) { s with heap:=s.heap.push (sob w) }):codeAny (model prog w) A (.call (.builtin "set.__new__") ⟨[.type "set", v],[]⟩) (wants Q1 E) s:=by
 refine codeAny_call_builtin_code (aS2 PySem.F.plain_set_new _) (wpAny_of_eq (aIH v) (aS3 PySem.F.entry_set_new ?_));rw[aS4 PySem.F.plain_set_new _];have sub:=sub_set_self;obtain ⟨hp,g,d,tk,os⟩:=s;unfold Builtin.«set.__new__» Builtin.Frozenset.newClass;dsimp only
 wp_walk
 refine aS5 (aP8 ?_);dsimp only;simp only[newObj];exact aP9 (wpAny_alloc (aP8 (aP8 h)))
theorem aIJ{M:Model}{self v:Value}{Q:Unit->Shared->Prop}(ty:s.TypeIs self "set")(q:Q () s):wpAny M A (checkBuiltinCall "set.__init__" ⟨[self,v],[]⟩) Q E s:=by
 unfold checkBuiltinCall;simp only[kind_set_init,split_set_init,sig_set_init];refine aP9 (aRX ty sub_set_self ?_);simp only[aRY,aRZ,↓reduceIte];unfold Bind.checkArgs;dsimp only;refine aP9 (m:=Bind.printed "set" true _ _) (printed_name (by decide) (aP9 (m:=Bind.printed "*" false _ _) (printed_star (self:=self) rfl ty λsh=>?_)))
 have e1:(if (Manifest.Receiver.self==Manifest.Receiver.none)=true then [self,v].length else [self,v].length-1)=1:=rfl;rw[e1,aRM,show Bind.check ⟨.positional, "set", "*", .self,[⟨"iterable", .posOnly,false⟩]⟩ "set" sh 1 []=pure () from by kernel_rfl]
 exact aP8 q
end
def Small(m:Nat):Prop:=m=7\/m=15\/m=31
section
variable {m:Nat}{ow:Array (Option Nat)}
end
def SetM(w:World)(h:Heap)(a:Addr)(xs:List Str):Prop:=∃ o es ep t,h.get? a=some o/\o.ExactSet/\o.data=.set es ep t/\Ent w xs es.toList/\xs.Nodup/\xs.length<scanBound/\t.fits es.size=true/\t.led = !dW w/\(xs=[]\/t.plain=false)/\Small t.mask/\t.dummies = #[]
theorem rB{α:Type}:∀ {l:List α} {i:Nat} (h:i<l.length),(l[i]::l.eraseIdx i).Perm l
 | [],i,h=>by simp at h
 | a::l,0,h=>.refl _
 | a::l,i+1,h=>by
  have hi:i<l.length:=by simpa using h
  exact (List.Perm.swap a l[i] _).trans ((rB hi).cons a)
theorem wM{α:Type}{next:Nat->Nat}:∀ {f k:Nat} {left:List α} {out:Array α},left.length=f->(pickOrder.go next f k left out).toList.Perm (out.toList++left)
 | 0,k,left,out,h=>by have:left=[]:=List.length_eq_zero_iff.mp h;subst this;unfold pickOrder.go;simp
 | f+1,k,left,out,h=>by
  have hl:next k % left.length<left.length:=Nat.mod_lt _ (by omega)
  unfold pickOrder.go;rw[aSE hl];dsimp only;refine (wM (by rw[List.length_eraseIdx,if_pos hl];omega)).trans ?_
  rw[Array.toList_push,aS6];exact List.Perm.append_left _ (rB hl)
theorem n8{α:Type}{next:Nat->Nat}{xs:Array α}:(pickOrder next xs).toList.Perm xs.toList:=by unfold pickOrder;simpa using wM (next:=next) (f:=xs.size) (k:=0) (left:=xs.toList) (out:=#[]) rfl
section
variable {prog:Program}{w:World}{A:Around}{E:VSP}{s:Shared}
theorem i9{Q:Bool->Shared->Prop}(q:Q (dW w) s):wpAny (model prog w) A setsByText Q E s:=by unfold setsByText;exact aP9 (aS5 (aP8 q))
def Wide(h:Heap)(a:Addr)(n:Nat):Prop:=∀ o es ep t,h.get? a=some o->o.data=.set es ep t->n<=t.mask
end
section
variable {prog:Program}{w:World}{A:Around}{E:VSP}{s:Shared}
end
theorem fZ:Slot "set_iterator" "__next__" "set_iterator.__next__" := .of (owner := "set_iterator") (n := "__next__") (by rw[typeLookup_type,builtinLookup_eq_fast];kernel_rfl) (by decide +kernel) (by decide +kernel) (by decide +kernel) (by first | exact .inl (by decide +kernel) | exact .inr (by decide +kernel)) (by rw[aS7];kernel_rfl)
theorem n9:entryFor table "set_iterator.__next__" = some Builtin.«set_iterator.__next__»:=entryFor_of_tree (by kernel_rfl)
theorem wN:Manifest.owners.lookup (String.ofList "rotareti_tes".toList.reverse)=some Manifest.sig_set_iterator:=by kernel_rfl
theorem oA(a:Value):argsOk "set_iterator.__next__" ⟨[a],[]⟩:=by unfold argsOk;rw[signature?_of (id := "set_iterator.__next__") (n := "__txen__".toList) (o := "rotareti_tes".toList) (by kernel_rfl) wN];kernel_rfl
theorem wO:Slot "set_iterator" "__iter__" "set_iterator.__iter__" := .of (owner := "set_iterator") (n := "__iter__") (by rw[typeLookup_type,builtinLookup_eq_fast];kernel_rfl) (by decide +kernel) (by decide +kernel) (by decide +kernel) (by first | exact .inl (by decide +kernel) | exact .inr (by decide +kernel)) (by rw[aS7];kernel_rfl)
theorem aIK(a:Value):argsOk "set_iterator.__iter__" ⟨[a],[]⟩:=by unfold argsOk;rw[signature?_of (id := "set_iterator.__iter__") (n := "__reti__".toList) (o := "rotareti_tes".toList) (by kernel_rfl) wN];kernel_rfl
theorem aIL:entryFor table "set.__iter__" = some Builtin.«frozenset.__iter__»:=entryFor_alias (id' := "frozenset.__iter__") (by kernel_rfl) rfl (by decide +kernel) (by kernel_rfl)
theorem aIM:entryFor table "set_iterator.__iter__" = some Builtin.«dict_keyiterator.__iter__»:=entryFor_alias (id' := "dict_keyiterator.__iter__") (by kernel_rfl) rfl (by decide +kernel) (by kernel_rfl)
def SIt(h:Heap)(I a:Addr)(f:Value)(i n ep:Nat):Prop:=∃ o,h.get? I=some o/\o.cls=.type "set_iterator" /\ o.data=.fields #[f,.int i 0,.ref a,.int n 0,.int ep 0]
theorem SIt.ty{s:Shared}{I a:Addr}{f:Value}{i n ep:Nat}(x:SIt s.heap I a f i n ep):s.TypeIs (.ref I) "set_iterator" := let ⟨o,h1,h2,_⟩:=x;⟨o,h1,h2⟩
theorem SIt.at{h h':Heap}{I a:Addr}{f:Value}{i n ep:Nat}(x:SIt h I a f i n ep)(k:∀ o,h.get? I=some o->h'.get? I=some o):SIt h' I a f i n ep:=let ⟨o,h1,r⟩:=x;⟨o,k o h1,r⟩
section
variable {prog:Program}{w:World}{A:Around}{E:VSP}{s:Shared}{I a:Addr}{i n ep:Nat}{o:Obj}{es:Array (Int×Value)}{t:SetTable}
theorem rC{f:Value}{Q:VSP}(x:SIt s.heap I a f i n ep)(q:Q (.ref I) s):wpAny (model prog w) A (pyIter (.ref I)) Q E s:=by refine aS8 x.ty wO (aRG wO x.ty aIM ?_ (aIK _));show wpAny _ _ (ret (.ref I)) _ _ s;exact aP8 ⟨_,rfl, "set_iterator", _,x.ty,fZ.lookup,q⟩
theorem aIN {β : Type} {m : Sem β} {f f' : Value} {o : Obj} (h0 : s.heap.get? I = some o) (hc : o.cls = .type "set_iterator") (hd : o.data = .fields #[f, .int i 0, .ref a, .int n 0, .int ep 0]) {Q : β → Shared → Prop}
    (q:∀ h',Heap.SameBut I s.heap h'->SIt h' I a f' (i+1) n ep->wpAny (model prog w) A m Q E { s with heap:=h' }):wpAny (model prog w) A (do setField (.ref I) 0 f';setField (.ref I) 1 (rawInt (i+1));m) Q E s:=by
 refine aP9 (aS0 h0 hd (by simp) ?_)
 have g1:=aS9 (Obj.mapFields (·.setIfInBounds 0 f')) h0 (aTA (aTB hd _));have d1:=aTB hd (·.setIfInBounds 0 f');refine aP9 (aS0 (s:={ s with heap:=s.heap.update I (Obj.mapFields (·.setIfInBounds 0 f')) }) g1 d1 (by simp) (q _ ((aTC _ I _).trans (aTC _ I _)) ?_))
 refine ⟨_,aS9 _ g1 (aTA (aTB d1 _)),(aTD ..).trans ((aTD ..).trans hc),?_⟩;rw[aTB d1];simp[rawInt]
theorem aIO{f:Value}{o:Obj}(h0:s.heap.get? I=some o)(hc:o.cls=.type "set_iterator")(hd:o.data=.fields #[f,.int i 0,.ref a,.int n 0,.int ep 0]){Q:Unit->Shared->Prop}(q:∀ h',Heap.SameBut I s.heap h'->SIt h' I a f (i+1) n ep->Q () { s with heap:=h' }):wpAny (model prog w) A (setField (.ref I) 1 (rawInt (i+1))) Q E s:=by
 refine aS0 h0 hd (by simp) (q _ (aTC _ I _) ⟨_,aS9 _ h0 (aTA (aTB hd _)),(aTD ..).trans hc,?_⟩)
 rw[aTB hd];simp[rawInt]
theorem wP {P : PySem.Fin → Shared → Prop} {Q : Option Value → Shared → Prop} (hh : A.handled = none) (q : ∀ h', (∀ b o, s.heap.get? b = some o → h'.get? b = some o) → Q none { s with heap := h' }) :
    wpAny (model prog w) A.in1 (do let e <- newExc (.type "StopIteration") [];raiseNew e) P (λe s'=>wpAny (model prog w) A (do let c <- isInstance e (.type "StopIteration");if c=true then pure none else throw e) Q E s') s:=by
 refine aP9 ?_;simp only[newExc,newTuple];refine aP9 (aRJ (aP9 (m:=firstArgMember _ _) (wpAny_of_eq (a:=Value.none) (by first | rfl | (simp only[firstArgMember];rfl)) (aRJ ?_ (by size_fits)))) (by size_fits))
 simp only[raiseNew];refine aP9 (wpAny_handled ?_);rw[show A.in1.handled=none from hh]
 refine aP9 (aP8 (wpAny_throw (aP9 ?_)));exact aRX (T := "StopIteration") (b:=true) ⟨_,aPO _ rfl,rfl⟩ isSubtype_stop (aP8 (q _ λb o e=>hps (hps e)))
theorem wQ{k k':Nat}{x:Value}{Q:Option Value->Shared->Prop}(X:SIt s.heap I a (.int k 0) i es.size ep)(ho:s.heap.get? a=some o)(hd:o.data=.set es ep t)(hf:t.fits es.size=true)(hn:∀ {A':Around} {E':VSP} {Q':Option (Value×Nat)->Shared->Prop},Q' (some (x,k')) s->wpAny (model prog w) A' (setNext a k i ep) Q' E' s)(q:∀ h',Heap.SameBut I s.heap h'->SIt h' I a (.int k' 0) (i+1) es.size ep->Q (some x) { s with heap:=h' }):wpAny (model prog w) A (pyNext (.ref I)) Q E s:=by obtain ⟨oI,h0,hc,hdI⟩:=id X;unfold pyNext;refine aP9 (aTE (aRE (name:=Str.ofString "__next__") X.ty fZ (aRG fZ X.ty n9 ?_ (oA _))));unfold Builtin.«set_iterator.__next__»;refine aP9 (m:=slotArgs _ _ _) (aP8 (aP9 (aTF h0 hdI ?_)));dsimp only;refine aP9 (aTG ho hd hf ?_);simp only[aTH,aRZ,↓reduceIte,aQ8];refine aP9 (hn ?_);dsimp only;exact aIN h0 hc hdI λh' sb X'=>aP8 ⟨_,rfl,aP8 (q h' sb X')⟩
theorem wR{k:Nat}{Q:Option Value->Shared->Prop}(hh:A.handled=none)(X:SIt s.heap I a (.int k 0) i es.size ep)(ho:s.heap.get? a=some o)(hd:o.data=.set es ep t)(hf:t.fits es.size=true)(hn:∀ {A':Around} {E':VSP} {Q':Option (Value×Nat)->Shared->Prop},Q' none s->wpAny (model prog w) A' (setNext a k i ep) Q' E' s)(q:∀ h',(∀ b o,b≠I->s.heap.get? b=some o->h'.get? b=some o)->Q none { s with heap:=h' }):wpAny (model prog w) A (pyNext (.ref I)) Q E s:=by
 obtain ⟨oI,h0,hc,hdI⟩:=id X;unfold pyNext;refine aP9 (aTE (aRE (name:=Str.ofString "__next__") X.ty fZ (aRG fZ X.ty n9 ?_ (oA _))));unfold Builtin.«set_iterator.__next__»;refine aP9 (m:=slotArgs _ _ _) (aP8 (aP9 (aTF h0 hdI ?_)));dsimp only;refine aP9 (aTG ho hd hf ?_);simp only[aTH,aRZ,↓reduceIte,aQ8];refine aP9 (hn ?_);dsimp only;refine aP9 (aS0 h0 hdI (by simp) (wP hh λh' k'=>q h' λb o' nb e=>k' b o' ?_))
 exact (aTC s.heap I _).extBut b o' nb e
theorem aIP{tp:Addr}{ps:Array Value}{p:Nat}{u:Tok}{hx:Int}{x:Value}{Q:Option Value->Shared->Prop}(X:SIt s.heap I a (.ref tp) i es.size ep)(ht:s.heap.IsTuple tp ps)(hp:ps[i]? = some (.int p u))(ho:s.heap.get? a=some o)(hd:o.data=.set es ep t)(hf:t.fits es.size=true)(hx:es[p]? = some (hx,x))(q:∀ h',Heap.SameBut I s.heap h'->SIt h' I a (.ref tp) (i+1) es.size ep->Q (some x) { s with heap:=h' }):wpAny (model prog w) A (pyNext (.ref I)) Q E s:=by obtain ⟨oI,h0,hc,hdI⟩:=id X;obtain ⟨ot,hot,hct,nt,hdt⟩:=ht;unfold pyNext;refine aP9 (aTE (aRE (name:=Str.ofString "__next__") X.ty fZ (aRG fZ X.ty n9 ?_ (oA _))));unfold Builtin.«set_iterator.__next__»;refine aP9 (m:=slotArgs _ _ _) (aP8 (aP9 (aTF h0 hdI ?_)));dsimp only;refine aP9 (aTG ho hd hf ?_);simp only[aTH,aRZ,↓reduceIte,aQ8];refine aP9 (wpAny_seqItems hot hdt ?_);dsimp only;rw[hp];dsimp only;unfold setNextDrawn;refine aP9 (aP9 (aTI ho hd hf ?_));simp only[aTH,aRZ,↓reduceIte,aQ8,hx];refine aP8 (aP9 (aIO h0 hc hdI λh' sb X'=>aP8 ⟨_,rfl,aP8 (q h' sb X')⟩))
theorem aIQ{tp:Addr}{ps:Array Value}{Q:Option Value->Shared->Prop}(hh:A.handled=none)(X:SIt s.heap I a (.ref tp) i es.size ep)(ht:s.heap.IsTuple tp ps)(hp:ps[i]? = none)(ho:s.heap.get? a=some o)(hd:o.data=.set es ep t)(hf:t.fits es.size=true)(q:∀ h',(∀ b o,b≠I->s.heap.get? b=some o->h'.get? b=some o)->Q none { s with heap:=h' }):wpAny (model prog w) A (pyNext (.ref I)) Q E s:=by
 obtain ⟨oI,h0,hc,hdI⟩:=id X;obtain ⟨ot,hot,hct,nt,hdt⟩:=ht;unfold pyNext;refine aP9 (aTE (aRE (name:=Str.ofString "__next__") X.ty fZ (aRG fZ X.ty n9 ?_ (oA _))));unfold Builtin.«set_iterator.__next__»;refine aP9 (m:=slotArgs _ _ _) (aP8 (aP9 (aTF h0 hdI ?_)));dsimp only;refine aP9 (aTG ho hd hf ?_);simp only[aTH,aRZ,↓reduceIte,aQ8];refine aP9 (wpAny_seqItems hot hdt ?_);dsimp only;rw[hp];dsimp only;refine aP9 (aS0 h0 hdI (by simp) ?_)
 have g1:=aS9 (Obj.mapFields (·.setIfInBounds 0 (rawInt 0))) h0 (aTA (aTB hdI _));have d1:=aTB hdI (·.setIfInBounds 0 (rawInt 0));refine aP9 (aS0 (s:={ s with heap:=s.heap.update I (Obj.mapFields (·.setIfInBounds 0 (rawInt 0))) }) g1 d1 (by simp) (wP hh λh' k'=>q h' λb o' nb e=>k' b o' ?_))
 exact (aTC _ I _).extBut b o' nb ((aTC s.heap I _).extBut b o' nb e)
end
section
variable {prog:Program}{w:World}{A:Around}{E:VSP}{s:Shared}
theorem aIR{M:Model}{src:Source}{n:Nat}{Q:Nat->Shared->Prop}(hn:n≠0)(h:∀ i,i<n->Q i { s with drawn:=s.drawn.bump src }):wpAny M A (choose src n) Q E s :=
 λ_ _ _=>⟨hn,h _ (Nat.mod_lt _ (Nat.pos_of_ne_zero hn))⟩
theorem wS{M:Model}{α:Type}:∀ {n:Nat} {l:List α} {s:Shared} {Q:List α->Shared->Prop},l.length=n->(∀ d l',l'.Perm l->Q l' { s with drawn:=d })->wpAny M A (drawOrder n l) Q E s
 | 0,l,s,Q,hl,h=>by have:l=[]:=List.length_eq_zero_iff.mp hl;subst this;unfold drawOrder;exact aP8 (h s.drawn [] (.refl _))
 | n+1,[],s,Q,hl,h=>by cases hl
 | n+1,x::l,s,Q,hl,h=>by
  unfold drawOrder;refine aP9 (aIR (by simp) λi hi=>?_)
  rw[aSE hi];dsimp only;refine aP9 (wS (by rw[List.length_eraseIdx,if_pos hi];omega) λd l' p=>aP8 (h d _ ?_))
  exact (p.cons _).trans (rB hi)
variable {I a:Addr}{ep:Nat}{o:Obj}{es:Array (Int×Value)}{t:SetTable}
theorem aIS(hh:A.handled=none)(hne:a≠I)(hd:o.data=.set es ep t)(hf:t.fits es.size=true)(bt:dW w=true):Walks prog w A I [I,a] [I] es.size (λi v=>((pickOrder (w.params.setOrder a ep) es).map (·.2))[i]? = some v) (λi h=>SIt h I a (.int (0:Nat) 0) i es.size ep/\h.get? a=some o) where
 sub:=λb hb=>by simp at hb;simp[hb]
 frame:=λ_ _ _ st hk=>⟨st.1.at λo e=>hk I (by simp) o e,hk a (by simp) o st.2⟩
 item:=λi s Q E hi st hQ=>by
  have hz:(pickOrder (w.params.setOrder a ep) es).size=es.size:=by rw[<- aP7,n8.length_eq,aP7]
  have hx:(pickOrder (w.params.setOrder a ep) es)[i]? = some (pickOrder (w.params.setOrder a ep) es)[i]:=aTJ (by rw[hz];exact hi)
  refine wQ (k:=0) (k':=0) st.1 st.2 hd hf (x:=((pickOrder (w.params.setOrder a ep) es)[i]).2) (λ{A' E' Q'} q=>?_) λh' sb X'=>?_
  . unfold setNext setWalk;refine aP9 (aTI st.2 hd hf (aP9 (i9 ?_)));simp only[bt,↓reduceIte,aTH,aRZ];refine aP9 (aP9 (aTI st.2 hd hf (aP9 (i9 ?_))));simp only[bt,↓reduceIte];refine aP9 (aS5 (aP8 (aP8 ?_)));show Q' (Option.map _ (pickOrder (w.params.setOrder a ep) es)[i]?) _;rw[hx];exact q
  . exact hQ _ h' s.toks (by rw[Array.getElem?_map,hx];rfl) ⟨X',sb.extBut a o hne st.2⟩ λb o' hb e=>sb.extBut b o' (λh=>hb (by simp[h])) e
 done:=λs Q E st hQ=>by
  have hz:(pickOrder (w.params.setOrder a ep) es).size=es.size:=by rw[<- aP7,n8.length_eq,aP7]
  have hx:(pickOrder (w.params.setOrder a ep) es)[es.size]? = none:=aTK (by rw[hz];exact aQC _)
  refine wR (k:=0) hh st.1 st.2 hd hf (λ{A' E' Q'} q=>?_) λh' kp=>hQ h' s.toks λb o' hb e=>kp b o' (λh=>hb (by simp[h])) e
  unfold setNext setWalk;refine aP9 (aTI st.2 hd hf (aP9 (i9 ?_)));simp only[bt,↓reduceIte,aTH,aRZ];refine aP9 (aP9 (aTI st.2 hd hf (aP9 (i9 ?_))));simp only[bt,↓reduceIte];refine aP9 (aS5 (aP8 (aP8 ?_)));show Q' (Option.map _ (pickOrder (w.params.setOrder a ep) es)[es.size]?) _;rw[hx];exact q
 self:=λ_ _ _ _ st hQ=>rC st.1 hQ
theorem aIT{tp:Addr}{ps:Array Value}(hh:A.handled=none)(hne:a≠I)(hnt:tp≠I)(hd:o.data=.set es ep t)(hf:t.fits es.size=true){qs:List Nat}(hq:ps=(qs.map λ(i:Nat)=>rawInt i).toArray)(hp:qs.Perm (List.range es.size)):Walks prog w A I [I,a,tp] [I] es.size (λi v=>∃ p hx,qs[i]? = some p/\es[p]? = some (hx,v)) (λi h=>SIt h I a (.ref tp) i es.size ep/\h.get? a=some o/\h.IsTuple tp ps) where
 sub:=λb hb=>by simp at hb;simp[hb]
 frame:=λ_ _ _ st hk=>⟨st.1.at λo e=>hk I (by simp) o e,hk a (by simp) o st.2.1,st.2.2.at λo e=>hk tp (by simp) o e⟩
 item:=λi s Q E hi st hQ=>by
  have hz:qs.length=es.size:=by rw[hp.length_eq,aTL]
  have hi':i<qs.length:=by rw[hz];exact hi
  have hx:qs[i]? = some qs[i]:=aSE hi';have hm:qs[i]<es.size:=aPU.mp (hp.mem_iff.mp (aSF hi'));have he:es[qs[i]]? = some (es[qs[i]].1,es[qs[i]].2):=aTJ hm;refine aIP st.1 st.2.2 (p:=qs[i]) (u:=0) (by rw[hq,aTM,aQY,hx];rfl) st.2.1 hd hf he λh' sb X'=>?_
  exact hQ _ h' s.toks ⟨_,_,hx,he⟩ ⟨X',sb.extBut a o hne st.2.1,st.2.2.extBut sb.extBut hnt⟩ λb o' hb e=>sb.extBut b o' (λh=>hb (by simp[h])) e
 done:=λs Q E st hQ=>by
  have hz:qs.length=es.size:=by rw[hp.length_eq,aTL]
  refine aIQ hh st.1 st.2.2 (by rw[hq,aTM,aQY,aTN (by rw[hz];exact aQC _)];rfl) st.2.1 hd hf λh' kp=>hQ h' s.toks λb o' hb e=>kp b o' (λh=>hb (by simp[h])) e
 self:=λ_ _ _ _ st hQ=>rC st.1 hQ
theorem rD{I:Addr}{fp wr:List Addr}{n n':Nat}{P P':Nat->Value->Prop}{St:Nat->Heap->Prop}(W:Walks prog w A I fp wr n P St)(e:n=n')(h:∀ i v,P i v->P' i v):Walks prog w A I fp wr n' P' St:=by subst e;exact ⟨W.sub,W.frame,λi s Q E hi st hQ=>W.item i s Q E hi st λv h' tk p=>hQ v h' tk (h i v p),W.done,W.self⟩
end
section
variable {prog:Program}{w:World}{A:Around}{E:VSP}{s:Shared}{a:Addr}{xs:List Str}
theorem aIU{Q:Bool->Shared->Prop}(ty:s.TypeIs (.ref a) "set")(q:Q false s):wpAny (model prog w) A (Builtin.List.listLengthHint (.ref a)) Q E s:=by
 unfold Builtin.List.listLengthHint;refine aP9 (aRT ty PySem.F.slot_set_len.lookup ?_);generalize hi:("set.__len__" : String)=j
 wp_delta
 rw[show splitId j=some ("set", "__len__") from by subst hi;decide +kernel]
 subst hi;refine aP9 (aRX ty sub_set_self ?_);refine aTO (λx=>absurd x (by decide)) (λ_=>aTO (λ_=>?_) (λx=>absurd (by decide +kernel) x))
 exact aP9 (aRH ty (aP8 q))
theorem aIV{items:List Value}{acc:Array Value}(h:ItemsOf (λi v=>items[i]? = some v) acc items.length):acc.toList=items:=by
 apply List.ext_getElem?;intro j;by_cases hj:j<items.length
 . have e1:acc[j]? = some (acc[j]'(by rw[h.1];exact hj)):=aTJ _
   rw[aTP,e1];exact (h.2 j _ e1).symm
 . have z1:acc.toList.length=items.length:=by rw[aP7];exact h.1
   rw[aTN (l:=acc.toList) (by omega),aTN (l:=items) (by omega)]
end
def lts(x y:Str):Bool:=ltCps x.cps.toList y.cps.toList
theorem j5{x y:Str}:lts x y=true↔x.cps.toList<y.cps.toList:=by unfold lts;rw[ltCps_eq,aR2]
theorem gK(x:Str):lts x x=false:=by
 cases h:lts x x with
 | false=>rfl
 | true=>exact absurd (j5.mp h) (List.lt_irrefl _)
theorem rE{x y z:Str}(a:lts x y=true)(b:lts y z=true):lts x z=true:=j5.mpr (List.lt_trans (j5.mp a) (j5.mp b))
theorem j6{x y:Str}(a:lts x y=false)(b:lts y x=false):x=y:=by
 have h1:¬ x.cps.toList<y.cps.toList:=λh=>by rw[j5.mpr h] at a;cases a
 have h2:¬ y.cps.toList<x.cps.toList:=λh=>by rw[j5.mpr h] at b;cases b
 have e:=List.le_antisymm (List.not_lt.mp h2) (List.not_lt.mp h1);cases x;cases y;exact congrArg Str.mk (Array.ext' e)
theorem wT:∀ {l:List Str} {p:Str},risingS p l=true->∀ x∈l,lts x p=false
 | y::l,p,h,x,hx=>by
  have h:(!lts y p&&risingS y l)=true:=h;rw[aRI,aTQ] at h;rcases aPY.mp hx with rfl | hx
  . exact h.1
  . have h2:=wT h.2 x hx;cases q:lts x p with
    | false=>rfl
    | true =>
     cases q2:lts p y with
     | true=>rw[rE q q2] at h2;cases h2
     | false=>have:=j6 q2 h.1;subst this;rw[q] at h2;cases h2
def sx(w:World)(l:Addr)(ys:List Str):HO:=.ext λh=>SetX w h l ys
theorem wU:∀ {ys:List Str} {us:List Value},StrsAre us ys->aJ (ys.map V.str) us
 | [],_,.nil=>.nil
 | _::ys,_,.cons y t h=>.cons ⟨t,rfl⟩ (wU h)
section
variable {X:Cx}
theorem Inv.drew{aA:LAO}{σ:L2.St}{H:Hp}{s:Shared}(I:L2.Inv X aA σ H s)(d:Drawn):L2.Inv X aA σ H { s with drawn:=d } :=
 ⟨I.ok,I.os,I.bare,I.base,I.loc,I.cell,I.free,I.freeC,I.pin,I.hok,I.len⟩
end
theorem aIW:bootBuiltins "set" = some (.type "set"):=by decide +kernel
theorem wV:bootBuiltins "sorted" = some (.builtin "sorted"):=by decide +kernel
def txD:List D->Option (List Str)
 | []=>some []
 | .str x::ds=>(txD ds).map (x :: ·)
 | _::_=>none
def txT:D->Option (List Str)
 | .tup ds=>txD ds
 | _=>none
theorem rF{K:Fg}{F:Hp}:∀ {ds:List D} {xs:List V} {ns:List Str},txD ds=some ns->aC K F ds xs->xs=ns.map V.str/\∀ x∈ns,x.length<=sizeLine/\PyData.strOk x=true
 | [],xs,ns,e,r=>by cases e;simp only[aC] at r;subst r;exact ⟨rfl,λx hx=>by cases hx⟩
 | d::ds,xs,ns,e,r=>by
  cases d with
  | str x =>
   simp only[txD] at e;cases q:txD ds with
   | none=>rw[q] at e;cases e
   | some ms=>rw[q] at e;cases e;simp only[aC] at r;obtain ⟨v,vs,rfl,rv,rr⟩:=r;obtain ⟨rfl,h2⟩:=rF q rr;simp only[aB] at rv;obtain ⟨rfl,h1⟩:=rv;exact ⟨rfl,λy hy=>(aPY.mp hy).elim (λe=>by subst e;exact h1) (h2 y)⟩
  | _=>cases e
theorem wW{K:Fg}{F:Hp}:∀ {ns:List Str},(∀ x∈ns,x.length<=sizeLine/\PyData.strOk x=true)->aC K F (ns.map .str) (ns.map V.str)
 | [],_=>by simp[aC]
 | x::ns,h=>by simp only[aRN,aC,aB];exact ⟨_,_,rfl,⟨rfl,h x mcs⟩,wW λy hy=>h y (mcm hy)⟩
section
variable {C:Cw}{X:Cx}{ga gb:Rho->Res}{ea eb:Expr}
end
section
variable {C:Cw}{X:Cx}{ga gb:Rho->Res}{ea eb:Expr}{p p1 p2 q q1 q2 pos:Pos}
end
section
variable {prog:Program}{w:World}{A:Around}{E:VSP}{s:Shared}{I l:Addr}{items:Array Value}
end
section
variable {C:Cw}{X:Cx}{ga:Rho->Res}{ea:Expr}{p p1 q1 pos:Pos}
end
section
variable {prog:Program}{w:World}{A:Around}{R:Result->Shared->Prop}{s:Shared}{b:Bool}{elt tg aS tg2 uM:Expr}{ifs:List Expr}{scope:Scope}{pos:Pos}{it acc:Value}{env:Env}
end
def AllF(ρ:Rho):Prop:=∀ (i:Nat) (m:Bool) (d:D),ρ[i]? = some (some (m,d))->m=false
def AR(K:Fg)(w:World)(b:Bool)(Da:Addr)(F:Hp)(zs:List D)(o:HO):Prop:=match b with
 | true=>∃ ys,o=.lst ys/\aC K F zs ys
 | false=>∃ (ns ys:List Str),zs=ns.map .str/\o=sx w Da ys/\ys.Nodup/\ys.length<=ns.length/\(∀ x,x∈ys↔x∈ns)/\∀ x∈ns,x.length<=sizeLine/\PyData.strOk x=true
section
variable {C:Cw}{X:Cx}
end
section
variable {C:Cw}{X:Cx}{elt aS tg uM tg2:Expr}{ifs:List Expr}{scope:Scope}{pos:Pos}{aD:List Nat}{aH tgN:List Str}{gi gt gi2 ge:Rho->Res}
variable (hc : X.calm = true) (hi : PIv C X tg aS gi) (dL : ∀ y ∈ scope.names, y.2 ≠ .cell) (eK : scope.kind = .function) (gD : ∀ y ∈ scope.names, y.2 = .local → scope.names.lookup y.1 = some .local)
    (eL:∀ y∈scope.names,y.2=.free->X.env.kindOf y.1=some .cell\/X.env.kindOf y.1=some .free)
    (fG:aH.map some=aD.map λi=>X.N[i]?) (gG:∀ y∈aH,(y,NameKind.free)∈scope.names)
    (gE:∀ y∈aH,(relabel scope X.env).names.lookup y=some .cell\/(relabel scope X.env).names.lookup y=some .free)
    (hn:tgN.length=2)
    (hg:∀ cl A fp s3 H3,PGw (bR X scope (aH++tgN) cl A fp s3 H3) tg (.nm aD.length)) (hf:∀ cl A fp s3 H3,eG (bR X scope (aH++tgN) cl A fp s3 H3) ifs (tT (C.nox.at X) gt))
    (hi2:∀ cl A fp s3 H3,PIv C.nox (bR X scope (aH++tgN) cl A fp s3 H3) tg2 uM gi2) (hg2:∀ cl A fp s3 H3,PGw (bR X scope (aH++tgN) cl A fp s3 H3) tg2 (.nm (aD.length+1)))
    (he:∀ cl A fp s3 H3,PV C.nox (bR X scope (aH++tgN) cl A fp s3 H3) elt ge)
    (hs:∀ x,foldedSetIterable aS X.env x=pure x) (hs2:∀ env x,foldedSetIterable uM env x=pure x)
include hc hi dL eK gD eL fG gG gE hn hg hf hi2 hg2 he hs hs2
end
end D3
namespace D3
open PySem PySem.Spec PyProof.Rows L2 PySem.W
section
variable {n:Nat}{lt:Nat->Nat->Bool}{cmp:Nat->Nat->(Bool->Shared->Prop)->Shared->Prop}{J:Shared->Prop}
def Upto(lt:Nat->Nat->Bool)(p:Array Nat)(b:Nat):Prop:=∀ i j,i<j->j<b->lt (p.getD i 0) (p.getD j 0)=true
def hV(n:Nat)(lt:Nat->Nat->Bool)(cmp:Nat->Nat->(Bool->Shared->Prop)->Shared->Prop)(J:Shared->Prop):Prop:=∀ i j s C,i<n->j<n->J s->(∀ s',J s'->C (lt i j) s')->cmp i j C s
end
section
variable {prog:Program}{w:World}{A:Around}{E:VSP}{s:Shared}
end
theorem oB{α:Type}(d:α):∀ (l:List α),(List.range l.length).map (λi=>l.getD i d)=l:=λl=>by
 apply List.ext_getElem
 . simp
 . intro i h1 h2;simp at h1;simp[h1]
section
variable {prog:Program}{w:World}{A:Around}{E:VSP}{s:Shared}
end
theorem rG{α:Type}{K:Fg}{F:Hp}{f:α->D}{g:α->V}:∀ {q:List α},(∀ i∈q,aB K F (f i) (g i))->aC K F (q.map f) (q.map g)
 | [],_=>aC.nil
 | i::q,h=>aC.cons (h i mcs) (rG λj hj=>h j (mcm hj))
theorem wX{α:Type}{g:α->V}{u:α->Value}:∀ {q:List α},(∀ i∈q,aM (g i) (u i))->aJ (q.map g) (q.map u)
 | [],_=>.nil
 | i::q,h=>.cons (h i mcs) (wX λj hj=>h j (mcm hj))
theorem wY:∀ {xs:List V} {us:List Value} {i:Nat},aJ xs us->i<xs.length->aM (xs.getD i .non) (us.getD i .none)
 | [],_,i,h,e=>by simp at e
 | x::xs,_,0,h,e=>by cases h with | cons r t=>exact r
 | x::xs,_,i+1,h,e=>by
  cases h with
  | cons r t =>
   have:=wY (i:=i) t (by simpa using e)
   simpa using this
section
variable {X:Cx}
end
end D3
namespace D3
open PySem PySem.Spec PyProof.Rows L2 PySem.SeqAt PySem.MeetsSeq
abbrev wZ:Md->D->Md->D->Option (Md×D):=fI (λ_ _=>true) λi j=>.int (Builtin.bitAnd i j)
abbrev fBor:Md->D->Md->D->Option (Md×D):=fI (λ_ _=>true) λi j=>.int (Builtin.bitOr i j)
abbrev fShl:Md->D->Md->D->Option (Md×D):=fI (λi j=>decide (0<=j)&&decide (j<=1000000)&&decide (i.natAbs<2 ^ 64)) λi j=>.int (i * 2 ^ j.toNat)
abbrev fShr:Md->D->Md->D->Option (Md×D):=fI (λ_ j=>decide (0<=j)) λi j=>.int (i / 2 ^ j.toNat)
section
variable {C:Cw}{X:Cx}
theorem aIX:OpD C X (binaryOp .BitAnd) wZ:=iF aC4 λ_ _ i j=>cY _
theorem aIY:OpD C X (binaryOp .BitOr) fBor:=iF op_or λ_ _ i j=>cY _
theorem aIZ:OpD C X (binaryOp .LShift) fShl:=jV aC2 (λi j h=>by
 simp only[aRI,aR2] at h;exact ⟨h.1.1,h.1.2,h.2⟩) λ_ _ i j=>cY _
theorem aI0:OpD C X (binaryOp .RShift) fShr:=jV aC3 (λi j h=>aR3 h) λ_ _ i j=>cY _
end
section
variable {X:Cx}{o e:Expr}{apos cpos:Pos}{td ty:TE}
end
section
variable {C:Cw}{X:Cx}{o e:Expr}{apos cpos:Pos}{go g:Rho->Res}
end
end D3
namespace D3
open PySem PySem.Spec PyProof.Rows L2
def epO(o:Obj):Nat:=match o.data with | .dict _ ep=>ep | _=>0
section
variable {C:Cw}{X:Cx}{pos:Pos}{scope:Scope}{aD:List Nat}{aH:List Str}{x d m:Str}{p0 p1 p2 p3 p4 p5 p6 p7 p8 p9:Pos}{i j jd jm k0:Nat}
end
end D3
namespace L2
open PySem PySem.Spec PyProof.Rows D3
end L2
namespace D3
open PySem PySem.Spec PyProof.Rows L2
section
variable {C:Cw}{X:Cx}{pos:Pos}
end
abbrev eT(xs:Array Nat):Prop:=xs.toList.Pairwise (· < ·)
theorem oC{xs:Array Nat}(h:eT xs){i j v u:Nat}(hi:xs[i]? = some v)(hj:xs[j]? = some u)(hl:i<j):v<u:=by rw[<- aTP] at hi hj;obtain ⟨h1,e1⟩:=aP1.mp hi;obtain ⟨h2,e2⟩:=aP1.mp hj;rw[<- e1,<- e2];exact aTR.mp h i j h1 h2 hl
theorem rH{xs:Array Nat}(h:eT xs)(j:Nat):∀ (f lo hi:Nat),hi<=lo+f->lo<=hi->hi<=xs.size->(∀ k v,k<lo->xs[k]? = some v->v<j)->(∀ k v,hi<=k->xs[k]? = some v->j<=v)->SetTable.below.go xs j f lo hi<=xs.size/\(∀ k v,k<SetTable.below.go xs j f lo hi->xs[k]? = some v->v<j)/\∀ k v,SetTable.below.go xs j f lo hi<=k->xs[k]? = some v->j<=v
 | 0,lo,hi,hf,hl,hs,h1,h2=>by
  have:lo=hi:=by omega
  subst this;exact ⟨hs,h1,h2⟩
 | f+1,lo,hi,hf,hl,hs,h1,h2=>by
  unfold SetTable.below.go;split
  . rename_i hlt;dsimp only;have hm:(lo+hi) / 2<xs.size:=by omega
    have em:xs[(lo+hi) / 2]? = some xs[(lo+hi) / 2]:=aTJ hm;have eg:xs.getD ((lo+hi) / 2) j=xs[(lo+hi) / 2]:=by rw[aTS,em];rfl
    rw[eg];split
    . rename_i hv;refine rH h j f _ _ (by omega) (by omega) hs (λk v hk e=>?_) h2
      by_cases hk2:k=(lo+hi) / 2
      . subst hk2;rw[em] at e;cases e;exact hv
      . exact Nat.lt_trans (oC h e em (by omega)) hv
    . rename_i hv;refine rH h j f _ _ (by omega) (by omega) (by omega) h1 λk v hk e=>?_
      by_cases hk2:k=(lo+hi) / 2
      . subst hk2;rw[em] at e;cases e;omega
      . have:=oC h em e (by omega);omega
  . have:lo=hi:=by omega
    subst this;exact ⟨hs,h1,h2⟩
theorem oD{xs:Array Nat}(h:eT xs)(j:Nat):SetTable.below xs j<=xs.size/\(∀ k v,k<SetTable.below xs j->xs[k]? = some v->v<j)/\∀ k v,SetTable.below xs j<=k->xs[k]? = some v->j<=v :=
 rH h j _ _ _ (by omega) (aQO _) (aQC _) (λk v hk=>absurd hk (Nat.not_lt_zero _)) λk v hk e=>by rw[aTK hk] at e;cases e
theorem aI1{xs:Array Nat}(h:eT xs):SetTable.below xs 0=0:=by
 obtain ⟨a,b,c⟩:=oD h 0;by_cases h0:SetTable.below xs 0=0
 . exact h0
 . have:=b 0 (xs[0]'(by omega)) (by omega) (aTJ _)
   omega
theorem aI2{xs:Array Nat}(h:eT xs){i p:Nat}(e:xs[i]? = some p):SetTable.below xs (p+1)=i+1:=by
 obtain ⟨a,b,c⟩:=oD h (p+1);have hi:i<xs.size:=by
  rcases aTT i xs.size with q | q
  . exact q
  . rw[aTK q] at e;cases e
 have h1:i<SetTable.below xs (p+1):=by
  rcases aTT i (SetTable.below xs (p+1)) with q | q
  . exact q
  . have:=c i p q e;omega
 by_cases h2:SetTable.below xs (p+1)=i+1
 . exact h2
 . have hl:i+1<xs.size:=by omega
   have e2:xs[i+1]? = some xs[i+1]:=aTJ hl;have u1:=b (i+1) _ (by omega) e2
   have u2:=oC h e e2 (aQN _);omega
def PlOk(t:SetTable):Prop:=t.plain=false\/(t.dummies = #[]/\eT t.place)
theorem aI3{xs:Array Nat}(h:eT xs){j:Nat}(hn:xs[SetTable.below xs j]?≠some j):j∉xs.toList:=λhm=>by
 obtain ⟨k,hk,e⟩:=aSC hm;have ek:xs[k]? = some j:=by rw[<- aTP,aSE hk,e]
 obtain ⟨a,b,c⟩:=oD h j;have hk':k<xs.size:=by simpa using hk
 rcases aTT k (SetTable.below xs j) with q | q
 . have:=b k j q ek;omega
 . have hb:SetTable.below xs j<xs.size:=by omega
   have eb:xs[SetTable.below xs j]? = some xs[SetTable.below xs j]:=aTJ hb;have v1:=c _ _ (aQC _) eb;rcases aTT (SetTable.below xs j) k with q2 | q2
   . have:=oC h eb ek q2;omega
   . have:SetTable.below xs j=k:=by omega
     rw[this] at hn;exact hn ek
theorem aI4(j:Nat):SetTable.has #[] j=false:=rfl
theorem aI5{t:SetTable}{j:Nat}(hd:t.dummies = #[])(h:eT t.place)(hn:t.place[SetTable.below t.place j]?≠some j):(t.put j).1.dummies = #[]/\eT (t.put j).1.place:=by
 unfold SetTable.put;dsimp only;rw[hd,aI4];refine ⟨rfl,?_⟩;show (SetTable.insertAt t.place (SetTable.below t.place j) j).toList.Pairwise _;have hj:=aI3 h hn;obtain ⟨a,b,c⟩:=oD h j;generalize SetTable.below t.place j=p at *;rw[SetTable.toList_insertAt];have ht:t.place.toList.length=t.place.size:=by simp
 have hlt:∀ x∈t.place.toList.take p,x<j:=λx hx=>by obtain ⟨k,hk,e⟩:=aSC hx;rw[List.getElem_take] at e;rw[aQT] at hk;exact b k x (by omega) (by rw[<- aTP,aSE (by omega),e])
 have hgt:∀ x∈t.place.toList.drop p,j<x:=λx hx=>by
  have hne:x≠j:=λe=>hj (e ▸ List.mem_of_mem_drop hx);obtain ⟨k,hk,e⟩:=aSC hx;rw[List.getElem_drop] at e;rw[aRC] at hk;have:=c (p+k) x (by omega) (by rw[<- aTP,aSE (by omega),e])
  omega
 have hs:t.place.toList.Pairwise (· < ·):=h;rw[<- aTU p t.place.toList,aTV] at hs;rw[aTV,aTW];exact ⟨hs.1,⟨hgt,hs.2.1⟩,λx hx y hy=>by
  rcases aPY.mp hy with rfl | hy
  . exact hlt x hx
  . exact hs.2.2 x hx y hy⟩
def EntI(w:World):List Int->List (Int×Value)->Prop
 | [],l=>l=[]
 | x::xs,l=>∃ t r,l=(hashInt x,.int x t)::r/\EntI w xs r
def SetI(w:World)(h:Heap)(a:Addr)(xs:List Int):Prop:=∃ o es ep t,h.get? a=some o/\o.ExactSet/\o.data=.set es ep t/\EntI w xs es.toList/\xs.Nodup/\xs.length<scanBound/\t.fits es.size=true/\t.led = !dW w/\PlOk t
section
variable {prog:Program}{w:World}{A:Around}{E:VSP}{s:Shared}
end
section
variable {prog:Program}{w:World}{A:Around}{E:VSP}{s:Shared}
end
theorem aI6:isSubtype (.type "list") (.type "set")=pure false:=by rw[aS7];kernel_rfl
theorem aI7:isSubtype (.type "list") (.type "frozenset")=pure false:=by rw[aS7];kernel_rfl
section
variable {prog:Program}{w:World}{A:Around}{E:VSP}{s:Shared}
theorem aI8{M:Model}{p:Addr}{Q:Bool->Shared->Prop}(tp:s.TypeIs (.ref p) "list")(q:Q false s):wpAny M A (isInstance (.ref p) (.type "set") <||> isInstance (.ref p) (.type "frozenset")) Q E s:=by unfold orM;exact aP9 (aRX tp aI6 (aRX tp aI7 q))
end
section
variable {prog:Program}{w:World}{A:Around}{E:VSP}{s:Shared}
variable {I a:Addr}{ep:Nat}{o:Obj}{es:Array (Int×Value)}{t:SetTable}
def plc(t:SetTable):Nat->Nat
 | 0=>0
 | i+1=>t.place.getD i 0+1
theorem w6(h:eT t.place){i:Nat}(hi:i<=t.place.size):SetTable.below t.place (plc t i)=i:=by
 cases i with
 | zero=>exact aI1 h
 | succ i =>
  have e:t.place[i]? = some (t.place[i]'(by omega)):=aTJ _
  show SetTable.below t.place (t.place.getD i 0+1)=_;rw[aTS,e];exact aI2 h e
theorem aI9(hh:A.handled=none)(hne:a≠I)(hd:o.data=.set es ep t)(hf:t.fits es.size=true)(bt:dW w=false)(hl:t.led=true)(hr:eT t.place)(h1:(!t.plain&&decide (es.size > 1))=false):Walks prog w A I [I,a] [I] es.size (λi v=>(es.map (·.2))[i]? = some v) (λi h=>SIt h I a (.int ((plc t i:Nat):Int) 0) i es.size ep/\h.get? a=some o):=by
 have hz:t.place.size=es.size:=by unfold SetTable.fits at hf;rw[aRI,aQL] at hf;exact hf.1
 refine ⟨λb hb=>by simp at hb;simp[hb],λ_ _ _ st hk=>⟨st.1.at λo e=>hk I (by simp) o e,hk a (by simp) o st.2⟩,λi s Q E hi st hQ=>?_,λs Q E st hQ=>?_,λ_ _ _ _ st hQ=>rC st.1 hQ⟩
 . have e1:es[i]? = some (es[i].1,es[i].2):=aTJ hi;have e2:t.place[i]? = some (t.place[i]'(by omega)):=aTJ _
   have e3:plc t (i+1)=t.place[i]'(by omega)+1:=by show t.place.getD i 0+1=_;rw[aTS,e2];rfl
   refine wQ (k:=plc t i) (k':=plc t (i+1)) st.1 st.2 hd hf (x:=es[i].2) (λ{A' E' Q'} q=>?_) λh' sb X'=>?_
   . unfold setNext;refine aP9 (aTI st.2 hd hf (aP9 (i9 ?_)));simp only[bt,↓reduceIte,aRZ];split
     . rename_i hc;have hc:(!t.plain&&decide (es.size > 1))=true:=hc;rw[h1] at hc;cases hc
     . show wpAny _ _ ((if (!t.led&&!(es.isEmpty))=true then _ else _) >>= _) _ _ _;rw[hl];refine aP9 (aP8 ?_);rw[w6 hr (by omega),e1,e2]
       rw[e3] at q;exact aP8 q
   . exact hQ _ h' s.toks (by rw[Array.getElem?_map,e1];rfl) ⟨X',sb.extBut a o hne st.2⟩ λb o' hb e=>sb.extBut b o' (λh=>hb (by simp[h])) e
 . refine wR hh st.1 st.2 hd hf (λ{A' E' Q'} q=>?_) λh' kp=>hQ h' s.toks λb o' hb e=>kp b o' (λh=>hb (by simp[h])) e
   unfold setNext;refine aP9 (aTI st.2 hd hf (aP9 (i9 ?_)));simp only[bt,↓reduceIte,aRZ];split
   . rename_i hc;have hc:(!t.plain&&decide (es.size > 1))=true:=hc;rw[h1] at hc;cases hc
   . show wpAny _ _ ((if (!t.led&&!(es.isEmpty))=true then _ else _) >>= _) _ _ _;rw[hl];refine aP9 (aP8 ?_);rw[w6 hr (by omega),aTK (aQC _)]
     exact aP8 q
end
section
variable {prog:Program}{w:World}{A:Around}{E:VSP}{s:Shared}{a:Addr}{xs:List Int}
end
section
variable {X:Cx}
end
section
variable {C:Cw}{X:Cx}{ga:Rho->Res}{ea:Expr}{p p1 q1 pos:Pos}
end
section
variable {C:Cw}{X:Cx}{e:Expr}{es:List Expr}{gs:Rho->a6}{p pos:Pos}{x:Str}{k n:Nat}{Φ:List D->Res}{CX:CXT}
end
section
variable {C:Cw}{X:Cx}{e ke:Expr}{g gk:Rho->Res}{x:Str}{p ap cp sp pos:Pos}
end
section
open PySem.SeqAt
open PySem.AutoSeq1 (wpAny_loadPart')
open PySem.MeetsSeq PySem.MeetsSeq2 PySem.MeetsSeq3
variable {prog:Program}{w:World}{A:Around}{E:VSP}{s:Shared}
end
section
variable {prog:Program}{w:World}{A:Around}{E:VSP}{s:Shared}
end
section
variable {prog:Program}{w:World}{K:Type}[DecidableEq K]{knd:KeyKind prog w K}{A:Around}{E:VSP}{s:Shared}
end
section
variable {C:Cw}{X:Cx}{ga gb:Rho->Res}{ea eb:Expr}{p p1 q1 pos:Pos}
end
end D3
namespace D3
open PySem PySem.Spec PySem.Calls PyProof.Rows L2
section
variable {C:Cw}{X:Cx}{o e f:Expr}{go ge gf:Rho->Res}{apos cpos:Pos}
end
end D3
namespace PySem
open Sem (wp)
section
variable {prog:Program}{w:World}{A:Around}{E:VSP}{s:Shared}
end
end PySem
namespace L2
open PySem PySem.Spec PyProof.Rows
section
variable {X:Cx}{tg:Expr}
end
end L2
namespace D3
open PySem PySem.Spec PySem.Calls PyProof.Rows L2
section
variable {C:Cw}{X:Cx}{tg:Expr}{gs:Rho->a6}{p pos:Pos}
end
section
variable {C:Cw}{X:Cx}{pos:Pos}
end
end D3
namespace D3
open PySem PySem.Spec PyProof.Rows L2
section
variable {X:Cx}{aA:LAO}{σ:L2.St}{H:Hp}{s:Shared}
theorem bW.is:∀ {xs:List N} {ys:List V} {us:List Value},(∀ x∈xs,∀ v u,NAt X.K H x v->aM v u->IsN s.heap x u)->bW X.K H xs ys->aJ ys us->aR s.heap xs us
 | [],ys,us,_,h,r=>by rw[bW] at h;subst h;cases r;rw[aR]
 | x::xs,ys,us,k,h,r=>by
  rw[bW] at h;obtain ⟨y,zs,rfl,h1,h2⟩:=h;cases r with
  | cons r1 r2=>rw[aR];exact ⟨_,_,rfl,k x mcs _ _ h1 r1,bW.is (λz hz=>k z (mcm hz)) h2 r2⟩
theorem NAt.is(I:L2.Inv X aA σ H s)(k:N):∀ v u,NAt X.K H k v->aM v u->IsN s.heap k u:=by
 induction k using N.ind with
 | hi n=>intro v u h r;rw[NAt] at h;subst h;obtain ⟨t,rfl⟩:=r;rw[IsN];exact ⟨t,rfl⟩
 | hs x=>intro v u h r;rw[NAt] at h;obtain ⟨rfl,_,hk⟩:=h;obtain ⟨t,rfl⟩:=r;rw[IsN];exact ⟨⟨t,rfl⟩,hk⟩
 | ht xs ih=>intro v u h r;rw[NAt] at h;obtain ⟨a,ys,rfl,hq,hl⟩:=h;cases r;obtain ⟨its,rv,⟨o,e,c,_,n,d⟩,_⟩:=SqT.plain I hq;rw[IsN];exact ⟨a,o,its.toArray,n,rfl,e,c,d,by simpa using bW.is ih hl rv⟩
abbrev KN:=Paired (λ(p:N×Addr×V) (q:N×Addr×Value)=>p.1=q.1/\p.2.1=q.2.1/\aM p.2.2 q.2.2)
def jA(K:Fg)(H:Hp)(kvs:List (N×Addr×V)):Prop:=∀ p∈kvs,NAt K H p.1 (.ref p.2.1)/\p.1.dp<=8
def fB(kvs:List (N×Addr×V))(k:N):Option V:=(kvs.find? λp=>decide (p.1=k)).map (·.2.2)
def iL(kvs:List (N×Addr×V))(k:N)(b:Addr)(v:V):List (N×Addr×V):=if (fB kvs k).isSome=true then kvs.map (λp=>if p.1=k then (p.1,p.2.1,v) else p) else kvs++[(k,b,v)]
theorem w8{p:N×Addr×V}{r:List (N×Addr×V)}{k:N}(e:p.1=k):fB (p::r) k=some p.2.2:=by simp[fB,aTX,e]
theorem xA{p:N×Addr×V}{r:List (N×Addr×V)}{k:N}(e:¬ p.1=k):fB (p::r) k=fB r k:=by simp[fB,aTX,e]
theorem KN.val{kvs:List (N×Addr×V)}{xs:List (N×Addr×Value)}(r:KN kvs xs)(k:N):eM (fB kvs k) ((atKey xs k).map (·.2)):=by
 induction r with
 | nil=>exact True.intro
 | @cons p q ps qs h t ih =>
  by_cases e:p.1=k
  . have b:atKey (q::qs) k=some q.2:=by simp[atKey,aTX,h.1.symm.trans e]
    rw[w8 e,b];exact h.2.2
  . have e':¬ q.1=k:=λz=>e (h.1.trans z);have b:atKey (q::qs) k=atKey qs k:=by simp[atKey,aTX,e']
    rw[xA e,b];exact ih
theorem KN.repl{kvs:List (N×Addr×V)}{xs:List (N×Addr×Value)}(r:KN kvs xs)(k:N){y:V}{u:Value}(ry:aM y u):KN (kvs.map λp=>if p.1=k then (p.1,p.2.1,y) else p) (xs.map (putAt k u)):=by
 induction r with
 | nil=>exact .nil
 | @cons p q ps qs h t ih =>
  rw[aRN,aRN];refine .cons ?_ ih;unfold putAt;by_cases e:p.1=k
  . rw[if_pos e,if_pos (h.1.symm.trans e)];exact ⟨h.1,h.2.1,ry⟩
  . rw[if_neg e,if_neg (λz=>e (h.1.trans z))];exact h
theorem KN.put{kvs:List (N×Addr×V)}{xs:List (N×Addr×Value)}(r:KN kvs xs)(k:N)(b:Addr){y:V}{u:Value}(ry:aM y u):KN (iL kvs k b y) (storedH xs k b u):=by
 have e:(fB kvs k).isSome=(atKey xs k).isSome:=by rw[(r.val k).isSome_eq,Option.isSome_map]
 unfold iL storedH;rw[e];by_cases q:(atKey xs k).isSome=true
 . rw[if_pos q,if_pos q];exact r.repl k ry
 . rw[if_neg q,if_neg q];exact Paired.snoc r ⟨rfl,rfl,ry⟩
theorem aJA(kvs:List (N×Addr×V))(k:N)(b:Addr)(v:V):(iL kvs k b v).length<=kvs.length+1:=by
 unfold iL;split
 . rw[aQ1];omega
 . rw[aQ0];exact aQC _
theorem KN.is{kvs:List (N×Addr×V)}{xs:List (N×Addr×Value)}{P:N->Addr->Prop}(r:KN kvs xs)(h:∀ p∈kvs,P p.1 p.2.1):∀ x∈xs,P x.1 x.2.1:=by
 induction r with
 | nil=>intro x hx;cases hx
 | @cons p q ps qs hq t ih =>
  intro x hx;rcases aPY.mp hx with e | hx
  . subst e;have:=h p mcs;rw[hq.1,hq.2.1] at this;exact this
  . exact ih (λp hp=>h p (mcm hp)) x hx
theorem oE{a:Addr}{kvs:List (N×Addr×V)}(I:L2.Inv X aA σ H s)(e:Rd H a (.dN kvs))(hk:jA X.K H kvs):kvs.length<=sizeLine/\(a==sysModules)=false/\∃ xs,KN kvs xs/\s.heap.DictOfH (nP X.prog X.w) a xs:=by
 obtain ⟨z,y,xs,r,o,es,ep,h1,h2,h3,h4,h5⟩:=(show bU X.prog X.w H s.heap a (.dN kvs) from e.ok I.hok)
 exact ⟨z,y,xs,r,o,es,ep,h1,h2,h3,h4,KN.is (P:=λk b=>(nP X.prog X.w).is s.heap k b) r λp hp=>⟨NAt.is I _ _ _ (hk p hp).1 rfl,(hk p hp).2⟩,h5⟩
def j7(K:Fg)(H:Hp)(a:Addr)(y:V)(r:Option V):Prop:=∃ kvs k b,Rd H a (.dN kvs)/\jA K H kvs/\y=.ref b/\(NAt K H k (.ref b)/\k.dp<=8)/\r=fB kvs k
def NPut(K:Fg)(H:Hp)(a:Addr)(y v:V)(H':Hp):Prop:=∃ kvs k b,H a=some (.dN kvs)/\jA K H kvs/\y=.ref b/\(NAt K H k (.ref b)/\k.dp<=8)/\kvs.length<sizeLine/\H'=upd H a (.dN (iL kvs k b v))
end
section
variable {X:Cx}{aA:LAO}{σ:L2.St}{H:Hp}{s:Shared}{a:Addr}{y v d:V}{u r:Value}{o:Option V}{A:Around}{E:VSP}
theorem rJ(hu:A.units+64<cLine):(nP X.prog X.w).room A.in1:=by show A.units+1+8<cLine;omega
theorem aJB{Q:VSP}(hu:A.units+64<cLine)(I:L2.Inv X aA σ H s)(g:j7 X.K H a y (some v))(ry:aM y u)(h:∀ w' s',L2.Inv X aA σ H s'->aM v w'->Q w' s'):wpAny (model X.prog X.w) A (getItem (.ref a) u) Q E s:=by
 obtain ⟨kvs,k,b,e,hk,rfl,kb,l⟩:=g;cases ry;obtain ⟨z,hd,xs,rel,dd⟩:=oE I e hk;obtain ⟨w',hw,rw'⟩:=eM.some_of (v:=v) (o:=(atKey xs k).map (·.2)) (by rw[l];exact rel.val k)
 obtain ⟨p,hp,hp2⟩:=Option.map_eq_some_iff.mp hw;refine wpAny_getItem_heap (rJ hu) (k:=k) ⟨NAt.is I _ _ _ kb.1 rfl,kb.2⟩ dd hp ?_;rw[hp2];exact h w' _ (I.tok _) rw'
theorem aJC{Q:VSP}(hu:A.units+64<cLine)(I:L2.Inv X aA σ H s)(g:j7 X.K H a y o)(ry:aM y u)(rd:aM d r)(h:∀ w' s',L2.Inv X aA σ H s'->aM (o.getD d) w'->Q w' s'):wpAny (model X.prog X.w) A (call (.builtin "dict.get") [.ref a,u,r]) Q E s:=by obtain ⟨kvs,k,b,e,hk,rfl,kb,l⟩:=g;cases ry;obtain ⟨z,hd,xs,rel,dd⟩:=oE I e hk;refine call_meetsIn PySem.F.slot_dict_get dd.typeIs PySem.F.entry_dict_get (PySem.F.args_dict_get_3 _ _ _) (meetsH_dict_get_default (nP X.prog X.w) a b hd r) ⟨rJ hu,k,xs,⟨NAt.is I _ _ _ kb.1 rfl,kb.2⟩,dd,h _ _ (I.tok _) ?_⟩;rw[l];exact (rel.val k).getD rd
theorem aJD{H':Hp}{Q:Unit->Shared->Prop}(hu:A.units+64<cLine)(I:L2.Inv X aA σ H s)(g:NPut X.K H a y v H')(ry:aM y u)(rv:aM v r)(h:∀ s',L2.Inv X aA σ H' s'->Q () s'):wpAny (model X.prog X.w) A (setItem (.ref a) u r) Q E s:=by
 obtain ⟨kvs,k,b,e,hk,rfl,kb,l,rfl⟩:=g;cases ry;obtain ⟨z,hd,xs,rel,dd⟩:=oE I (.inl e) hk;have hz:xs.length<=sizeLine:=by rw[<- aPN rel];exact z
 have hl:(iL kvs k b v).length<=sizeLine:=by have:=aJA kvs k b v;omega
 refine wpAny_setItem_heap (hsz:=hz) (rJ hu) (k:=k) ⟨NAt.is I _ _ _ kb.1 rfl,kb.2⟩ dd λh' dd' hs=>h _ ?_;obtain ⟨q,es,ep,hq,h2,h3,h4,_,h5⟩:=dd';exact aEE I (by rw[e];exact True.intro) hs ⟨q,hq⟩ ⟨hl,hd,_,rel.put k b rv,q,es,ep,hq,h2,h3,h4,h5⟩
theorem aJE(I:L2.Inv X aA σ H s)(g:j7 X.K H a y o):s.TypeIs (.ref a) "dict" := by obtain ⟨kvs,k,b,e,hk,_⟩:=g;obtain ⟨_,_,xs,_,dd⟩:=oE I e hk;exact dd.typeIs
end
end D3
namespace D3
open PySem PySem.Spec PySem.Calls PyProof.Rows L2
mutual
def nD:N->D
 | .i n=>.int n
 | .s x=>.str x
 | .t xs=>.tup (nDL xs)
def nDL:List N->List D
 | []=>[]
 | x::xs=>nD x::nDL xs
end
mutual
def bF:D->Option N
 | .int i=>some (.i i)
 | .str x=>some (.s x)
 | .tup ds=>(fC ds).map .t
 | _=>none
def fC:List D->Option (List N)
 | []=>some []
 | d::ds=>match bF d,fC ds with
  | some k,some ks=>some (k::ks)
  | _,_=>none
end
def cT(d:D):Option N:=match d with
 | .tup ds=>match fC ds with
  | some ks=>if (N.t ks).dp<=8 then some (.t ks) else none
  | none=>none
 | _=>none
section
variable {K:Fg}{F H:Hp}
mutual
theorem rK:∀ {d:D} {k:N} {v:V},bF d=some k->aB K F d v->NAt K F k v
 | .int i,k,v,e,r=>by simp only[bF] at e;cases e;simpa only [aB,NAt] using r
 | .str x,k,v,e,r=>by simp only[bF] at e;cases e;simpa only [aB,NAt] using r
 | .tup ds,k,v,e,r=>by simp only[bF] at e;obtain ⟨ks,ek,rfl⟩:=Option.map_eq_some_iff.mp e;simp only[aB] at r;obtain ⟨a,xs,rfl,hq,rl⟩:=r;rw[NAt];exact ⟨a,xs,rfl,hq,rL ek rl⟩
 | .non,_,_,e,_=>by simp only[bF] at e;cases e
 | .bl _,_,_,e,_=>by simp only[bF] at e;cases e
 | .lst _,_,_,e,_=>by simp only[bF] at e;cases e
 | .dct _,_,_,e,_=>by simp only[bF] at e;cases e
 | .ty _,_,_,e,_=>by simp only[bF] at e;cases e
 | .ob _,_,_,e,_=>by simp only[bF] at e;cases e
 | .ins _ _,_,_,e,_=>by simp only[bF] at e;cases e
 | .fn _,_,_,e,_=>by simp only[bF] at e;cases e
 | .exn _,_,_,e,_=>by simp only[bF] at e;cases e
 | .set _,_,_,e,_=>by simp only[bF] at e;cases e
 | .dtn _,_,_,e,_=>by simp only[bF] at e;cases e
 | .dtf _,_,_,e,_=>by simp only[bF] at e;cases e
theorem rL:∀ {ds:List D} {ks:List N} {xs:List V},fC ds=some ks->aC K F ds xs->bW K F ks xs
 | [],ks,xs,e,r=>by simp only[fC] at e;cases e;simpa only [aC,bW] using r
 | d::ds,ks,xs,e,r=>by
  simp only[fC] at e;simp only[aC] at r;obtain ⟨y,ys,rfl,r1,r2⟩:=r;cases e1:bF d with
  | none=>rw[e1] at e;cases e
  | some k =>
   cases e2:fC ds with
   | none=>rw[e1,e2] at e;cases e
   | some ks'=>rw[e1,e2] at e;cases e;rw[bW];exact ⟨y,ys,rfl,rK e1 r1,rL e2 r2⟩
end
theorem oF{d:D}{k:N}{m:Md}{v:V}(e:cT d=some k)(r:Rp K F H m d v):∃ b,v=.ref b/\NAt K F k (.ref b)/\k.dp<=8:=by
 unfold cT at e;split at e
 . rename_i ds;split at e
   . rename_i ks ek;split at e
     . rename_i hd;cases e;cases m with
       | fz =>
        have r:aB K F (.tup ds) v:=r;have h:=rK (k:=.t ks) (by simp only[bF];rw[ek];rfl) r
        simp only[aB] at r;obtain ⟨a,xs,rfl,_⟩:=r;exact ⟨a,rfl,h,hd⟩
       | fr=>obtain ⟨a,_,_,q⟩:=r;exact q.elim
       | bo=>obtain ⟨a,_,_,q⟩:=r;exact q.elim
     . cases e
   . cases e
 . cases e
theorem xB:∀ {xs:List N} {ys:List V},(∀ x∈xs,∀ v,NAt K F x v->aB K F (nD x) v)->bW K F xs ys->aC K F (nDL xs) ys
 | [],ys,_,h=>by rw[bW] at h;subst h;rw[nDL];exact aC.nil
 | x::xs,ys,k,h=>by rw[bW] at h;obtain ⟨y,zs,rfl,h1,h2⟩:=h;rw[nDL];exact aC.cons (k x mcs y h1) (xB (λz hz=>k z (mcm hz)) h2)
theorem rM(k:N):∀ v,NAt K F k v->aB K F (nD k) v:=by
 induction k using N.ind with
 | hi n=>intro v h;rw[NAt] at h;rw[nD];simpa only [aB] using h
 | hs x=>intro v h;rw[NAt] at h;rw[nD];simpa only [aB] using h
 | ht xs ih=>intro v h;rw[NAt] at h;obtain ⟨a,ys,rfl,hq,hl⟩:=h;rw[nD];simp only[aB];exact ⟨a,ys,rfl,hq,xB ih hl⟩
def dG(kvs:List (N×D))(k:N):Option D:=(kvs.find? λkv=>decide (kv.1=k)).map (·.2)
def j8(kvs:List (N×D))(k:N)(d:D):List (N×D):=if (dG kvs k).isSome=true then kvs.map (λkv=>if kv.1=k then (kv.1,d) else kv) else kvs++[(k,d)]
theorem xC{p:N×D}{r:List (N×D)}{k:N}(e:p.1=k):dG (p::r) k=some p.2:=by simp[dG,aTX,e]
theorem xD{p:N×D}{r:List (N×D)}{k:N}(e:¬ p.1=k):dG (p::r) k=dG r k:=by simp[dG,aTX,e]
theorem aP.val:∀ {kvs:List (N×D)} {xs:List (N×Addr×V)} (k:N),aP K F kvs xs->match dG kvs k with | some d=>∃ v,fB xs k=some v/\aB K F d v | none=>fB xs k=none
 | [],xs,k,h=>by simp only[aP] at h;subst h;rfl
 | (k',d)::kvs,xs,k,h=>by
  simp only[aP] at h;obtain ⟨b,y,ys,rfl,_,r,t⟩:=h;by_cases e:k'=k
  . rw[xC (p:=(k',d)) e];exact ⟨y,w8 (p:=(k',b,y)) e,r⟩
  . rw[xD (p:=(k',d)) e,xA (p:=(k',b,y)) e];exact aP.val k t
theorem aP.hasK{kvs:List (N×D)}{xs:List (N×Addr×V)}(k:N)(h:aP K F kvs xs):(fB xs k).isSome=(dG kvs k).isSome:=by
 have:=aP.val k h;cases e:dG kvs k with
 | none=>rw[e] at this;dsimp only at this;rw[this];rfl
 | some d=>rw[e] at this;obtain ⟨v,ev,_⟩:=this;rw[ev];rfl
theorem aP.keys:∀ {kvs:List (N×D)} {xs:List (N×Addr×V)},aP K F kvs xs->jA K F xs
 | [],xs,h=>by simp only[aP] at h;subst h;intro p hp;cases hp
 | (k',d)::kvs,xs,h=>by
  simp only[aP] at h;obtain ⟨b,y,ys,rfl,q,r,t⟩:=h;intro p hp;rcases aPY.mp hp with rfl | hp
  . exact q
  . exact t.keys p hp
theorem jA.mono{F':Hp}{xs:List (N×Addr×V)}(s:aE F F')(h:jA K F xs):jA K F' xs:=λp hp=>⟨NAt.mono s _ _ (h p hp).1,(h p hp).2⟩
theorem aP.len:∀ {kvs:List (N×D)} {xs:List (N×Addr×V)},aP K F kvs xs->xs.length=kvs.length
 | [],xs,h=>by simp only[aP] at h;subst h;rfl
 | (k',d)::kvs,xs,h=>by simp only[aP] at h;obtain ⟨b,y,ys,rfl,q,r,t⟩:=h;rw[aR1,aR1,t.len]
theorem aP.repl{k:N}{d:D}{v:V}(rv:aB K F d v):∀ {kvs:List (N×D)} {xs:List (N×Addr×V)},aP K F kvs xs->aP K F (kvs.map λkv=>if kv.1=k then (kv.1,d) else kv) (xs.map λp=>if p.1=k then (p.1,p.2.1,v) else p)
 | [],xs,h=>by simp only[aP] at h;subst h;simp only[aP,aRM]
 | (k',d')::kvs,xs,h=>by
  simp only[aP] at h;obtain ⟨b,y,ys,rfl,q,r,t⟩:=h;rw[aRN,aRN];by_cases e:k'=k
  . rw[if_pos e,if_pos e];simp only[aP];exact ⟨b,v,_,rfl,q,rv,t.repl rv⟩
  . rw[if_neg e,if_neg e];simp only[aP];exact ⟨b,y,_,rfl,q,r,t.repl rv⟩
theorem aP.snoc{k:N}{b:Addr}{d:D}{v:V}(hk:NAt K F k (.ref b)/\k.dp<=8)(rv:aB K F d v):∀ {kvs:List (N×D)} {xs:List (N×Addr×V)},aP K F kvs xs->aP K F (kvs++[(k,d)]) (xs++[(k,b,v)])
 | [],xs,h=>by simp only[aP] at h;subst h;simp only[aP,aTY];exact ⟨b,v,[],rfl,hk,rv,rfl⟩
 | (k',d')::kvs,xs,h=>by simp only[aP] at h;obtain ⟨b',y,ys,rfl,q,r,t⟩:=h;rw[aRR,aRR];simp only[aP];exact ⟨b',y,_,rfl,q,r,t.snoc hk rv⟩
theorem aP.put{k:N}{b:Addr}{d:D}{v:V}{kvs:List (N×D)}{xs:List (N×Addr×V)}(hk:NAt K F k (.ref b)/\k.dp<=8)(rv:aB K F d v)(h:aP K F kvs xs):aP K F (j8 kvs k d) (iL xs k b v):=by
 unfold j8 iL;rw[h.hasK k];split
 . exact h.repl rv
 . exact h.snoc hk rv
def asN:D->Option (List (N×D))
 | .dtn kvs=>some kvs
 | .dtf kvs=>some kvs
 | _=>none
theorem Rp.asN{m:Md}{d:D}{kvs:List (N×D)}{v:V}(s:aE F H)(r:Rp K F H m d v)(e:asN d=some kvs):∃ a xs,v=.ref a/\Rd H a (.dN xs)/\aP K F kvs xs:=by
 cases d with
 | dtn ks =>
  cases e;cases m with
  | fz=>have r:aB K F (.dtn kvs) v:=r;simp only[aB] at r;obtain ⟨a,xs,rfl,q,t⟩:=r;exact ⟨a,xs,rfl,.inl (s _ _ q),t⟩
  | fr=>obtain ⟨a,rfl,_,xs,q,t⟩:=r;exact ⟨a,xs,rfl,.inl q,t⟩
  | bo=>obtain ⟨a,rfl,_,xs,q,t⟩:=r;exact ⟨a,xs,rfl,.inl q,t⟩
 | dtf ks =>
  cases e;cases m with
  | fz=>have r:aB K F (.dtf kvs) v:=r;simp only[aB] at r;obtain ⟨a,o,xs,rfl,q,t⟩:=r;exact ⟨a,xs,rfl,.inr ⟨o,s _ _ q⟩,t⟩
  | fr=>obtain ⟨a,_,_,q⟩:=r;exact q.elim
  | bo=>obtain ⟨a,_,_,q⟩:=r;exact q.elim
 | _=>cases e
theorem xE{m n:Md}{x y:D}{kvs:List (N×D)}{k:N}{v u:V}(s:aE F H)(rx:Rp K F H m x v)(ex:D3.asN x=some kvs)(ry:Rp K F H n y u)(ey:cT y=some k):∃ a xs,v=.ref a/\Rd H a (.dN xs)/\aP K F kvs xs/\j7 K H a u (fB xs k):=by obtain ⟨a,xs,rfl,hr,t⟩:=Rp.asN s rx ex;obtain ⟨b,rfl,hn,hd⟩:=oF ey ry;exact ⟨a,xs,rfl,hr,t,xs,k,b,hr,t.keys.mono s,rfl,⟨NAt.mono s _ _ hn,hd⟩,rfl⟩
end
section
variable {X:Cx}
def rIxN(K:Fg):R2:=λx y H Q=>∃ a v,x=.ref a/\j7 K H a y (some v)/\Q v H
theorem ix_dn(hu:X.A.units+64<cLine):IxR X (rIxN X.K):=by
 intro value slice aA s σ H x y v u Q I rx ry h hsub;obtain ⟨a,w',rfl,g,q⟩:=h;cases (show v=Value.ref a from rx)
 have hT:=aJE I g;unfold subscriptTail;refine aP9 ?_;rw[getitemInPython_of_ne hT.not_modules];refine aP9 (aRT hT PySem.F.slot_dict_getitem.lookup ?_);have fin:wpAny (model X.prog X.w) X.A (subscripted slice false (.ref a) u) (λr s3=>wpAny (model X.prog X.w) X.A (letTemporaryGo value (.ref a) r >>= λ_=>pure r) (EP X aA σ Q) X.xe s3) X.xe s:=by rw[hsub];exact wpAny_operating (aJB hu I g ry λz s3 I3 rz=>aP9 (wpAny_letTemporaryGo (aP8 ⟨w',H,I3,rz,q⟩)))
 first
  | exact aP8 (aP9 fin)
  | exact aP9 (aP8 (aP9 fin))
  | exact aP9 fin
end
def lZ:Md->D->Md->D->Option (Md×D):=λ_ x _ y=>match asN x,cT y with
 | some kvs,some k=>(dG kvs k).map λd=>(.fz,d)
 | _,_=>none
def l0(ra rk rd:Res):Res:=ra.thn λ_ da=>match asN da with
 | some kvs=>rk.thn λ_ dk=>(aY rd).thn λm d=>(match m,cT dk with
  | .fz,some k=>.ok .fz ((dG kvs k).getD d)
  | _,_=>.stuck)
 | none=>.stuck
def l4(ρ:Rho)(i:Nat)(rk rv:Res):aG:=match ρ[i]? with
 | some (some (true,.dtn kvs))=>(aY rv).thS ρ λm d=>match m with
  | .fz=>rk.thS ρ λ_ kd=>(match cT kd with
   | some k=>if kvs.length<sizeLine then .nx (ρ.set i (some (true,.dtn (j8 kvs k d)))) else .stuck
   | none=>.stuck)
  | _=>.stuck
 | _=>.stuck
def tNNew:TE:=λ_ H Q=>∀ p,H p=none->Q (.ref p) (upd H p (.dN []))
theorem aJF{X:Cx}{pos:Pos}:PE X (.Dict [] [] pos) tNNew:=λaA s σ H Q I h =>
 wpAny_Dict_empty ⟨.ref s.heap.objs.size,_,I.laid (a:=s.heap.objs.size) (o:=.dN []) (t':=s.toks) (λ_ _ q=>hps q) (aQC _)
  ⟨aQO _,aPM.mpr (Ne.symm (aPS I.big)),[],.nil,_,#[],0,aPO _ rfl,⟨rfl,rfl,rfl⟩,rfl,rfl,List.nodup_nil⟩,rfl,h _ (I.hok.fresh (aQC _))⟩
section
variable {C:Cw}{X:Cx}{a b o e f:Expr}{ga gb go ge gf:Rho->Res}{pos apos cpos:Pos}
theorem aJG:PV C X (.Dict [] [] pos) (λ_=>.ok .fr (.dtn [])):=by refine PE.imp aJF λσ H Q q=>?_;rw[a7] at q;obtain ⟨ρ,F,R,w⟩:=q;intro p hp;exact w (.ref p) F _ (aI.fresh _ R.sub hp) ⟨p,rfl,R.sub.free hp,[],bQ,by simp[aP]⟩ λ_ a ea=>by cases ea;exact hp
theorem aJH(hu:X.A.units+64<cLine)(ha:PV C X a ga)(hb:PV C X b gb)(hs:nM b):PV C X (.Subscript a b pos) (λρ=>op2 lZ (ga ρ) (gb ρ)):=by
 refine PE.imp (vG (ix_dn hu) ha hb hs) λσ H Q q=>lE (λF H m x n y v u k d Q s rx ry e w=>?_) q;unfold lZ at e;split at e
 . rename_i kvs ky ek1 ek2;obtain ⟨p,xs,rfl,hh,rk,g⟩:=xE s rx ek1 ry ek2;have hv:=aP.val ky rk;cases eg:dG kvs ky with
   | none=>rw[eg] at e;cases e
   | some d'=>rw[eg] at e hv;cases e;obtain ⟨v',ev,rv⟩:=hv;rw[ev] at g;exact ⟨p,v',rfl,g,w v' F H (.refl s) rv (by intro z;cases z)⟩
 . cases e
def IsDN(H:Hp)(a:Addr):Prop:=∃ kvs,Rd H a (.dN kvs)
theorem xF{aA:LAO}{σ:L2.St}{H:Hp}{s:Shared}{a:Addr}(I:L2.Inv X aA σ H s)(d:IsDN H a):s.TypeIs (.ref a) "dict" /\ ∀ b,Value.ref a=.ref b->∃ ob,s.heap.get? b=some ob/\ob.dict=none:=by
 obtain ⟨kvs,e⟩:=d;obtain ⟨_,_,xs,_,ob,es,ep,h1,h2,_⟩:=(show bU X.prog X.w H s.heap a (.dN kvs) from e.ok I.hok)
 exact ⟨⟨ob,h1,h2.1⟩,λb q=>by cases q;exact ⟨ob,h1,h2.2.1⟩⟩
def xG(K:Fg)(td ty tx:TE):TE:=λσ H Q=>td σ H λx H1=>∃ a,x=.ref a/\IsDN H1 a/\ty σ H1 λy H2=>tx σ H2 λz H3=>∃ o,j7 K H3 a y o/\Q (o.getD z) H3
theorem aJI{td ty tx:TE}(hu:X.A.units+64<cLine)(ho:PE X o td)(he:PE X e ty)(hf:PE X f tx)(m:M2 X o "get" apos e f cpos):PE X (.Call (.Attribute o "get" apos) [e,f] [] cpos) (xG X.K td ty tx):=by
 intro aA s σ H Q I h;refine wpAny_Call_method m.base m.few m.line PySem.F.plainAttrs_dict PySem.F.slot_dict_get PySem.F.type_dict_get (thn (ho aA s σ H _ I h) λu s1 ⟨x,H1,I1,rx,a,ex,d,q1⟩=>?_);subst ex;obtain rfl:u=Value.ref a:=rx;refine ⟨(xF I1 d).1,(xF I1 d).2,?_⟩;rw[m.trees];refine Calls.callWith_builtin rfl (Calls.evalArgs_plain (aQP (thn (he aA s1 σ H1 _ I1 q1) λiv s2 ⟨y,H2,I2,ry,q2⟩ =>
  aQP (thn (hf aA s2 σ H2 _ I2 q2) λfv s3 ⟨z,H3,I3,rz,ov,g,q3⟩=>Calls.spliced_nil ?_))))
 exact aJC hu I3 g ry rz λw' s4 I4 rw'=>⟨_,H3,I4,rw',q3⟩
theorem aJJ(hu:X.A.units+64<cLine)(ho:PV C X o go)(he:PV C X e ge)(hf:PV C X f gf)(m:M2 X o "get" apos e f cpos):PV C X (.Call (.Attribute o "get" apos) [e,f] [] cpos) (λρ=>l0 (go ρ) (ge ρ) (gf ρ)):=by
 refine PE.imp (aJI hu ho he (iG hf) m) λσ H Q q=>?_;unfold xG;rw[a7] at q ⊢;obtain ⟨ρ,F,R,w⟩:=q;refine ⟨ρ,F,R,?_⟩;unfold l0 at w;cases ea:go ρ with
 | stuck=>rw[ea] at w;exact w
 | exc c=>rw[ea] at w;exact w
 | ok ma da =>
  rw[ea,Res.thn_ok] at w;intro v F1 H1 s1 r1 _;have w1:=bC.step s1 w;cases en:asN da with
  | none=>rw[en] at w1;exact w1.elim
  | some kvs =>
   rw[en] at w1;dsimp only at w1;obtain ⟨a,xs,rfl,hh,rk⟩:=Rp.asN s1.sub r1 en;refine ⟨a,rfl,⟨xs,hh⟩,?_⟩;rw[a7];refine ⟨ρ,F1,R.step s1,?_⟩;cases ek:ge ρ with
   | stuck=>rw[ek] at w1;exact w1
   | exc c=>rw[ek] at w1;exact w1
   | ok mk dk =>
    rw[ek,Res.thn_ok] at w1;intro y F2 H2 s2 r2 _;have w2:=bC.step s2 w1;rw[a7];refine ⟨ρ,F2,(R.step s1).step s2,?_⟩;cases ed:aY (gf ρ) with
    | stuck=>rw[ed] at w2;exact w2
    | exc c=>rw[ed] at w2;exact w2
    | ok md d =>
     rw[ed,Res.thn_ok] at w2;intro z F3 H3 s3 r3 _;have w3:=bC.step s3 w2;have hm:md=.fz:=aH7 ed;subst hm;cases ek2:cT dk with
     | none=>rw[ek2] at w3;exact w3.elim
     | some k =>
      rw[ek2] at w3;dsimp only at w3;obtain ⟨a',xs',ea',hh',rk',g⟩:=xE s3.sub ((r1.step s2).step s3) en (r2.step s3) ek2;cases ea';refine ⟨_,g,?_⟩;have hv:=aP.val k rk';cases eg:dG kvs k with
      | none=>rw[eg] at hv w3;dsimp only at hv;rw[hv];exact w3 z F3 H3 (.refl s3.sub) r3 (by intro z;cases z)
      | some d'=>rw[eg] at hv w3;obtain ⟨v',ev,rv⟩:=hv;rw[ev];exact w3 v' F3 H3 (.refl s3.sub) rv (by intro z;cases z)
def xH(K:Fg)(td ty tv:TE):TS:=λD σ H=>tv σ H λv H1=>td σ H1 λx H2=>ty σ H2 λy H3=>∃ a H4,x=.ref a/\NPut K H3 a y v H4/\D.nx σ H4
theorem aJK{i value:Expr}{pos':Pos}{td ty tv:TE}(hu:X.A.units+64<cLine)(ho:PE X o td)(hi:PE X i ty)(hv:PE X value tv)(hs:swapsWith value (some (.Subscript o i pos')) pos.line X.env=pure false):PS X (.Assign [.Subscript o i pos'] value pos) (xH X.K td ty tv):=by intro aA s σ H D I h;refine wpAny_Assign_Subscript (thn (hv aA s σ H _ I h) λr s1 ⟨v,H1,I1,rv,q1⟩=>thn (ho aA s1 σ H1 _ I1 q1) λu s2 ⟨x,H2,I2,rx,q2⟩=>thn (hi aA s2 σ H2 _ I2 q2) λiv s3 ⟨y,H3,I3,ry,a,H4,ex,g,q3⟩=>?_) hs;subst ex;obtain rfl:u=Value.ref a:=rx;exact aJD hu I3 g ry rv λs4 I4=>⟨σ,H4,I4,q3⟩
end
section
variable {C:Cw}{X:Cx}{e ke:Expr}{g gk:Rho->Res}{x:Str}{p sp pos:Pos}
theorem aJL(i:Nat)(hu:X.A.units+64<cLine)(hv:PE X (.Name x p) (k4 i))(hk:PV C X ke gk)(he:PV C X e g)(hsw:swapsWith e (some (.Subscript (.Name x p) ke sp)) pos.line X.env=pure false):PSv C X (.Assign [.Subscript (.Name x p) ke sp] e pos) (λρ=>l4 ρ i (gk ρ) (g ρ)):=by
 refine PS.imp (aJK hu hv hk (iG he) hsw) λE σ H q=>?_;obtain ⟨ρ,F,R,w⟩:=q;dsimp only at w;unfold xH;unfold l4 at w;split at w
 . rename_i kvs e0;obtain ⟨v0,ev0,rp0,hn0⟩:=R.slot i true _ e0;obtain ⟨a,ea,hfa,xs,hh,rk⟩:=rp0;subst ea;refine jX R w λm d v F' H' w' s R' rp fr=>?_;cases m with
   | fr=>exact (show False from w').elim
   | bo=>exact (show False from w').elim
   | fz =>
   dsimp only at w';refine ⟨.ref a,ev0,?_⟩;refine jX R' w' λm2 kd u F2 H2 w2 s2 R2 rp2 _=>?_;cases ek:cT kd with
   | none=>rw[ek] at w2;exact w2.elim
   | some k =>
    rw[ek] at w2;dsimp only at w2;split at w2
    . rename_i hl;have hh2:H2 a=some (.dN xs):=s2.same _ _ (s.same _ _ hh);obtain ⟨b,rfl,hn,hd⟩:=oF ek rp2;have rk2:=rk.mono (s.fsame.trans s2.fsame) _ _;refine ⟨a,_,rfl,⟨xs,k,b,hh2,rk2.keys.mono s2.sub,rfl,⟨NAt.mono s2.sub _ _ hn,hd⟩,by rw[rk.len];exact hl,rfl⟩,?_⟩
      exact w2 σ F2 _ (aE.refl _) (R2.mut e0 ev0 ⟨_,bQ,aP.put ⟨hn,hd⟩ (aB.mono s2.fsame _ _ rp) rk2⟩)
    . exact w2.elim
 . exact w.elim
end
end D3
namespace D3
open PySem PySem.Spec PyProof.Rows L2 PySem.W
structure WkO(lt:Nat->Nat->Bool):Prop where
 ntr:∀ {i j k},lt i j=false->lt j k=false->lt i k=false
 asy:∀ {i j},lt i j=true->lt j i=false
theorem WkO.irr{lt:Nat->Nat->Bool}(O:WkO lt)(i:Nat):lt i i=false:=by
 cases e:lt i i with
 | false=>rfl
 | true=>have:=O.asy e;rw[e] at this;cases this
structure PW(n:Nat)(p:Array Nat):Prop where
 size:p.size=n
 below:∀ k,p.getD k 0<n
theorem PW.perm{n:Nat}{p q:Array Nat}(h:PW n p)(e:q.Perm p):PW n q:=by
 refine ⟨by rw[e.size_eq,h.size],λk=>?_⟩
 simp only[aTS];cases z:q[k]? with
 | none=>have:=h.below p.size;simp only[aTS,Array.getElem?_size] at this;exact this
 | some v =>
  have hm:v∈p.toList:=(Array.perm_iff_toList_perm.mp e).mem_iff.mp (by rw[aQJ];exact aR9 z)
  obtain ⟨i,hi⟩:=List.getElem?_of_mem hm;have:=h.below i;rw[aTP] at hi;simp only[aTS,hi] at this;exact this
section
variable {n:Nat}{lt:Nat->Nat->Bool}{cmp:Nat->Nat->(Bool->Shared->Prop)->Shared->Prop}{J:Shared->Prop}
def Wup(lt:Nat->Nat->Bool)(p:Array Nat)(b:Nat):Prop:=∀ i j,i<j->j<b->lt (p.getD j 0) (p.getD i 0)=false
def Wdn(lt:Nat->Nat->Bool)(p:Array Nat)(b:Nat):Prop:=∀ i j,i<j->j<b->lt (p.getD i 0) (p.getD j 0)=false
def Weq(lt:Nat->Nat->Bool)(p:Array Nat)(a b:Nat):Prop:=∀ i j,a<=i->i<b->a<=j->j<b->lt (p.getD i 0) (p.getD j 0)=false
theorem Wup.more(O:WkO lt){p:Array Nat}{m:Nat}(h:Wup lt p m)(hm:1<=m)(e:lt (p.getD m 0) (p.getD (m-1) 0)=false):Wup lt p (m+1):=λi j hij hj=>by
 by_cases hjm:j<m
 . exact h i j hij hjm
 . have:j=m:=by omega
   subst this;by_cases hi:i=j-1
   . rw[hi];exact e
   . exact O.ntr e (h i (j-1) (by omega) (by omega))
theorem Wdn.more(O:WkO lt){p:Array Nat}{m:Nat}(h:Wdn lt p m)(hm:1<=m)(e:lt (p.getD (m-1) 0) (p.getD m 0)=false):Wdn lt p (m+1):=λi j hij hj=>by
 by_cases hjm:j<m
 . exact h i j hij hjm
 . have:j=m:=by omega
   subst this;by_cases hi:i=j-1
   . rw[hi];exact e
   . exact O.ntr (h i (j-1) (by omega) (by omega)) e
theorem iM{p:Array Nat}(a b:Nat)(hb:b<=p.size)(k:Nat):(kas_rev p a b).getD k 0=if a<=k/\k<b then p.getD (a+b-1-k) 0 else p.getD k 0:=by simp only[aTS];unfold kas_rev;rw[getElem?_mirror_all hb];split <;> rfl
theorem oG{p:Array Nat}(pp:PW n p)(a b:Nat):PW n (kas_rev p a b)/\(kas_rev p a b).Perm p:=by have pe:(kas_rev p a b).Perm p:=mirror_perm _ _ _ _;exact ⟨pp.perm pe,pe⟩
theorem rO(O:WkO lt)(hc:hV n lt cmp J){p:Array Nat}(pp:PW n p):∀ (f m:Nat) (s:Shared) (Q:Nat->Shared->Prop),m+f=n->1<=m->Wup lt p m->J s->(∀ m' s',m<=m'->m'<=n->Wup lt p m'->(m'<n->lt (p.getD m' 0) (p.getD (m'-1) 0)=true)->J s'->Q m' s')->(kas_asc p f m).kasWp cmp Q s
 | 0,m,s,Q,e,h1,u,hJ,q=>q m s (aQC _) (by omega) u (λz=>by omega) hJ
 | f+1,m,s,Q,e,h1,u,hJ,q=>by
  refine hc _ _ s _ (pp.below m) (pp.below (m-1)) hJ λs' hJ'=>?_;cases ec:lt (p.getD m 0) (p.getD (m-1) 0) with
  | true=>exact q m s' (aQC _) (by omega) u (λ_=>ec) hJ'
  | false=>exact rO O hc pp f (m+1) s' Q (by omega) (by omega) (u.more O h1 ec) hJ' λm' s2 a b c d e=>q m' s2 (by omega) b c d e
theorem Wdn.turn{p:Array Nat}{a m:Nat}(hp:m<=p.size)(d:Wdn lt p m)(e:Weq lt p a m):Wdn lt (kas_rev p a m) m:=λi j hij hj=>by
 rw[iM a m hp,iM a m hp];by_cases hi:a<=i
 . rw[if_pos ⟨hi,by omega⟩,if_pos ⟨by omega,hj⟩]
   exact e _ _ (by omega) (by omega) (by omega) (by omega)
 . rw[if_neg (by omega)]
   by_cases hj2:a<=j
   . rw[if_pos ⟨hj2,hj⟩];exact d _ _ (by omega) (by omega)
   . rw[if_neg (by omega)];exact d i j hij hj
theorem oH(O:WkO lt)(hc:hV n lt cmp J)(p0:Array Nat):∀ (f m q:Nat) (p:Array Nat) (s:Shared) (Q:Array Nat×Nat×Nat->Shared->Prop),PW n p->p.Perm p0->m+f=n->q+1<=m->Wdn lt p m->Weq lt p (m-(q+1)) m->J s->(∀ p' m' q' s',PW n p'->p'.Perm p0->q'+1<=m'->1<=m'->m'<=n->Wdn lt p' m'->Weq lt p' (m'-(q'+1)) m'->J s'->Q (p',m',q') s')->(kas_desc f p m q).kasWp cmp Q s
 | 0,m,q,p,s,Q,pp,pe,e,h1,u,we,hJ,k=>k p m q s pp pe h1 (by omega) (by omega) u we hJ
 | f+1,m,q,p,s,Q,pp,pe,e,h1,u,we,hJ,k=>by
  unfold kas_desc;refine hc _ _ s _ (pp.below m) (pp.below (m-1)) hJ λs' hJ'=>?_;have sz:=pp.size;cases ec:lt (p.getD m 0) (p.getD (m-1) 0) with
  | true =>
   have e1:=O.asy ec;have one:∀ (r:Array Nat),Weq lt r (m+1-(0+1)) (m+1):=λr i j a b c d=>by
    have:i=j:=by omega
    subst this;exact O.irr _
   dsimp only;rw[if_pos rfl];by_cases hq:q > 0
   . rw[if_pos hq];obtain ⟨pp2,pe2⟩:=oG pp (m-(q+1)) m;refine oH O hc p0 f (m+1) 0 _ s' Q pp2 (pe2.trans pe) (by omega) (by omega) ?_ (one _) hJ' k
     refine (u.turn (by omega) we).more O (by omega) ?_
     rw[iM _ _ (by omega),iM _ _ (by omega),if_pos ⟨by omega,by omega⟩,if_neg (by omega)]
     exact O.ntr (we _ (m-1) (by omega) (by omega) (by omega) (by omega)) e1
   . rw[if_neg hq];exact oH O hc p0 f (m+1) 0 p s' Q pp pe (by omega) (by omega) (u.more O (by omega) e1) (one _) hJ' k
  | false =>
   dsimp only;rw[if_neg aQK];refine hc _ _ s' _ (pp.below (m-1)) (pp.below m) hJ' λs2 hJ2=>?_;cases ed:lt (p.getD (m-1) 0) (p.getD m 0) with
   | true=>dsimp only;rw[if_pos rfl];exact k p m q s2 pp pe h1 (by omega) (by omega) u we hJ2
   | false =>
    dsimp only;rw[if_neg aQK];refine oH O hc p0 f (m+1) (q+1) p s2 Q pp pe (by omega) (by omega) (u.more O (by omega) ed) (λi j a b c d=>?_) hJ2 k
    by_cases hi:i<m
    . by_cases hj:j<m
      . exact we i j (by omega) hi (by omega) hj
      . have:j=m:=by omega
        subst this;exact O.ntr (we i (j-1) (by omega) hi (by omega) (by omega)) ed
    . have:i=m:=by omega
      subst this;by_cases hj:j<i
      . exact O.ntr ec (we (i-1) j (by omega) (by omega) (by omega) hj)
      . have:j=i:=by omega
        subst this;exact O.irr _
theorem xI(O:WkO lt)(hc:hV n lt cmp J){p:Array Nat}(pp:PW n p){m:Nat}(h1:1<=m)(hm:m<=n)(d:Wdn lt p m){s:Shared}{Q:Nat×Array Nat->Shared->Prop}(hJ:J s)(q:∀ m' p' s',1<=m'->m'<=n->PW n p'->p'.Perm p->Wup lt p' m'->J s'->Q (m',p') s'):(kas_tail3 m n p).kasWp cmp Q s:=by
 unfold kas_tail3;rw[KasT.kasWp_bind];obtain ⟨pp2,pe2⟩:=oG pp 0 m;have sz:=pp.size;refine rO O hc pp2 (n-m) m s _ (by omega) h1 (λi j hij hj=>?_) hJ λm2 s3 a2 b2 u2 _ hJ3=>q m2 _ s3 (by omega) b2 pp2 pe2 u2 hJ3
 rw[iM _ _ (by omega),iM _ _ (by omega),if_pos ⟨by omega,by omega⟩,if_pos ⟨by omega,by omega⟩]
 exact d _ _ (by omega) (by omega)
theorem xJ(O:WkO lt)(hc:hV n lt cmp J){p:Array Nat}(pp:PW n p){m:Nat}(hm:m<n)(d:Wdn lt p (m+1)){s:Shared}{Q:Nat×Array Nat->Shared->Prop}(hJ:J s)(q:∀ m' p' s',1<=m'->m'<=n->PW n p'->p'.Perm p->Wup lt p' m'->J s'->Q (m',p') s'):(kas_descPart m n p).kasWp cmp Q s:=by
 unfold kas_descPart;rw[KasT.kasWp_bind];refine oH O hc p (n-(m+1)) (m+1) 0 p s _ pp (aTZ _) (by omega) (by omega) d (λi j a b c d=>?_) hJ λp' m' q' s' pp' pe' h1 h2 h3 d' e' hJ'=>?_
 . have:i=j:=by omega
   subst this;exact O.irr _
 . dsimp only;have sz:=pp'.size;by_cases hq:q' > 0
   . rw[if_pos hq];obtain ⟨pp2,pe2⟩:=oG pp' (m'-(q'+1)) m';exact xI O hc pp2 h2 h3 (d'.turn (by omega) e') hJ' λm2 p2 s2 x1 x2 x3 x4 x5 x6=>q m2 p2 s2 x1 x2 x3 ((x4.trans pe2).trans pe') x5 x6
   . rw[if_neg hq];exact xI O hc pp' h2 h3 d' hJ' λm2 p2 s2 x1 x2 x3 x4 x5 x6=>q m2 p2 s2 x1 x2 x3 (x4.trans pe') x5 x6
theorem aJM(O:WkO lt)(hc:hV n lt cmp J)(hn:2<=n){p:Array Nat}(pp:PW n p){s:Shared}{Q:Nat×Array Nat->Shared->Prop}(hJ:J s)(q:∀ m' p' s',1<=m'->m'<=n->PW n p'->p'.Perm p->Wup lt p' m'->J s'->Q (m',p') s'):(kas_count n p).kasWp cmp Q s:=by
 unfold kas_count;rw[KasT.kasWp_bind];have sz:=pp.size;refine rO O hc pp (n-1) 1 s _ (by omega) (aQC _) (λi j h1 h2=>by omega) hJ λm s1 a b u d hJ1=>?_
 by_cases em:m=n
 . rw[if_pos (by simpa using em)]
   exact q m p s1 a b pp (aTZ _) u hJ1
 . rw[if_neg (by simpa using em)]
   have dm:=O.asy (d (by omega))
   by_cases h1:m > 1
   . rw[if_pos h1];refine hc _ _ s1 _ (pp.below 0) (pp.below (m-1)) hJ1 λs2 hJ2=>?_;cases ec:lt (p.getD 0 0) (p.getD (m-1) 0) with
     | true=>dsimp only;rw[if_pos rfl];exact q m p s2 a b pp (aTZ _) u hJ2
     | false =>
      dsimp only;rw[if_neg aQK];obtain ⟨pp2,pe2⟩:=oG pp 0 m;have ge:∀ i,i<m->lt (p.getD i 0) (p.getD 0 0)=false:=λi hi=>by
       by_cases h0:i=0
       . rw[h0];exact O.irr _
       . exact u 0 i (by omega) hi
      have le:∀ i,i<m->lt (p.getD (m-1) 0) (p.getD i 0)=false:=λi hi=>by
       by_cases h0:i=m-1
       . rw[h0];exact O.irr _
       . exact u i (m-1) (by omega) (by omega)
      have all:Weq lt p 0 m:=λi j _ hi _ hj=>O.ntr (O.ntr (ge i hi) ec) (le j hj);refine xJ O hc pp2 (by omega) (Wdn.more O (Wdn.turn (by omega) (λi j hij hj=>all i j (by omega) (by omega) (by omega) hj) all) (by omega) ?_) hJ2 λm2 p2 s3 x1 x2 x3 x4 x5 x6=>q m2 p2 s3 x1 x2 x3 (x4.trans pe2) x5 x6
      rw[iM _ _ (by omega),iM _ _ (by omega),if_pos ⟨by omega,by omega⟩,if_neg (by omega)]
      exact O.ntr (all _ (m-1) (by omega) (by omega) (by omega) (by omega)) dm
   . rw[if_neg h1];have e1:m=1:=by omega
     subst e1
     exact xJ O hc pp (by omega) (λi j hij hj=>by
      have:i=0/\j=1:=by omega
      rw[this.1,this.2];exact dm) hJ1 q
theorem rP(O:WkO lt)(hc:hV n lt cmp J){p:Array Nat}(pp:PW n p){k:Nat}(hk:k<n)(u:Wup lt p k):∀ (f l r:Nat) (s:Shared) (Q:Nat->Shared->Prop),l<=r->r<=k->r-l<=f->J s->(∀ i,i<l->lt (p.getD k 0) (p.getD i 0)=false)->(∀ i,r<=i->i<k->lt (p.getD i 0) (p.getD k 0)=false)->(∀ l' s',l'<=k->(∀ i,i<l'->lt (p.getD k 0) (p.getD i 0)=false)->(∀ i,l'<=i->i<k->lt (p.getD i 0) (p.getD k 0)=false)->J s'->Q l' s')->(kas_place p k f l r).kasWp cmp Q s
 | 0,l,r,s,Q,h1,h2,h3,hJ,a,b,q=>q l s (by omega) a (λi hi=>b i (by omega)) hJ
 | f+1,l,r,s,Q,h1,h2,h3,hJ,a,b,q=>by
  unfold kas_place;by_cases hlr:l ≥ r
  . rw[if_pos hlr];exact q l s (by omega) a (λi hi=>b i (by omega)) hJ
  . rw[if_neg hlr];refine hc _ _ s _ (pp.below k) (pp.below ((l+r) / 2)) hJ λs' hJ'=>?_;cases ec:lt (p.getD k 0) (p.getD ((l+r) / 2) 0) with
    | true =>
     refine rP O hc pp hk u f l ((l+r) / 2) s' Q (by omega) (by omega) (by omega) hJ' a (λi h4 h5=>?_) q
     by_cases e:i=(l+r) / 2
     . rw[e];exact O.asy ec
     . exact O.ntr (u _ i (by omega) h5) (O.asy ec)
    | false =>
     refine rP O hc pp hk u f ((l+r) / 2+1) r s' Q (by omega) h2 (by omega) hJ' (λi h4=>?_) b q
     by_cases e:i=(l+r) / 2
     . rw[e];exact ec
     . exact O.ntr ec (u i _ (by omega) (by omega))
theorem xK(O:WkO lt)(hc:hV n lt cmp J):∀ (f k:Nat) (p:Array Nat) (s:Shared) (Q:Array Nat->Shared->Prop),k+f=n->PW n p->Wup lt p k->J s->(∀ p' s',PW n p'->p'.Perm p->Wup lt p' n->J s'->Q p' s')->(kas_bin f p k).kasWp cmp Q s
 | 0,k,p,s,Q,e,pp,u,hJ,q=>by
  have:k=n:=by omega
  subst this;exact q p s pp (aTZ _) u hJ
 | f+1,k,p,s,Q,e,pp,u,hJ,q=>by
  unfold kas_bin;rw[KasT.kasWp_bind];refine rP O hc pp (by omega) u k 0 k s _ (aQO _) (aQC _) (by omega) hJ (λi h=>by omega) (λi h1 h2=>by omega) λl s1 hl a b hJ1=>?_
  have pe:(bubble p k (k-l)).Perm p:=bubble_perm _ _ _;have g:=getElem?_bubble (xs:=p) (src:=k) (by rw[pp.size];omega) (k-l) (by omega)
  refine xK O hc f (k+1) _ s1 Q (by omega) (pp.perm pe) (λi j hij hj=>?_) hJ1 λp' s2 x y z w=>q p' s2 x (y.trans pe) z w
  have el:k-(k-l)=l:=by omega
  rw[el] at g;have gd:∀ i,(bubble p k (k-l)).getD i 0=if i=l then p.getD k 0 else if l<i/\i<=k then p.getD (i-1) 0 else p.getD i 0:=λi=>by
   simp only[aTS];rw[g i];split
   . rfl
   . split <;> rfl
  rw[gd i,gd j];by_cases h1:i<l
  . rw[if_neg (show ¬ i=l by omega),if_neg (show ¬ (l<i/\i<=k) by omega)]
    by_cases h2:j=l
    . rw[if_pos h2];exact a i h1
    . rw[if_neg h2];split
      . exact u i (j-1) (by omega) (by omega)
      . exact u i j hij (by omega)
  . by_cases h2:i=l
    . rw[if_pos h2,if_neg (show ¬ j=l by omega),if_pos (show l<j/\j<=k by omega)]
      exact b (j-1) (by omega) (by omega)
    . rw[if_neg h2,if_pos (show l<i/\i<=k by omega),if_neg (show ¬ j=l by omega),if_pos (show l<j/\j<=k by omega)]
      exact u (i-1) (j-1) (by omega) (by omega)
theorem aJN(O:WkO lt)(hc:hV n lt cmp J)(hn:2<=n){s:Shared}{Q:Array Nat->Shared->Prop}(hJ:J s)(q:∀ p s',PW n p->p.Perm (List.toArray (List.range n))->Wup lt p n->J s'->Q p s'):(kas_sort n).kasWp cmp Q s:=by
 unfold kas_sort;rw[KasT.kasWp_bind];have pp:PW n (List.toArray (List.range n)):=by
  refine ⟨by simp,λk=>?_⟩
  simp only[aTS,aTM,List.getElem?_range];by_cases hk:k<n
  . simp[hk]
  . simp[hk];omega
 refine aJM O hc hn pp hJ λm p s1 a b pp' pe u hJ1=>?_;by_cases h:m<n
 . rw[if_pos h];have em:max m 1=m:=by omega
   rw[em];exact xK O hc (n-m) m p s1 Q (by omega) pp' u hJ1 λp' s2 x y z w=>q p' s2 x (y.trans pe) z w
 . rw[if_neg h];have em:m=n:=by omega
   subst em;exact q p s1 pp' pe u hJ1
end
mutual
def ltN:N->N->Bool
 | .i n,.i m=>decide (n<m)
 | .i _,.s _=>true
 | .i _,.t _=>true
 | .s _,.i _=>false
 | .s x,.s y=>lts x y
 | .s _,.t _=>true
 | .t _,.i _=>false
 | .t _,.s _=>false
 | .t xs,.t ys=>bK xs ys
def bK:List N->List N->Bool
 | [],[]=>false
 | [],_::_=>true
 | _::_,[]=>false
 | x::xs,y::ys=>if x=y then bK xs ys else ltN x y
end
mutual
def okN:N->N->Bool
 | .i _,.i _=>true
 | .s _,.s _=>true
 | .t xs,.t ys=>eI xs ys
 | .i _,.s _=>false
 | .i _,.t _=>false
 | .s _,.i _=>false
 | .s _,.t _=>false
 | .t _,.i _=>false
 | .t _,.s _=>false
def eI:List N->List N->Bool
 | [],_=>true
 | _::_,[]=>true
 | x::xs,y::ys=>if x=y then eI xs ys else okN x y
end
theorem xL:∀ (xs:List N),bK xs xs=false
 | []=>by rw[bK]
 | x::xs=>by rw[bK,if_pos rfl,xL xs]
theorem iN(k:N):ltN k k=false:=by
 cases k with
 | i n=>rw[ltN];simp
 | s x=>rw[ltN];exact gK x
 | t xs=>rw[ltN];exact xL xs
theorem xM:∀ {xs ys:List N},(∀ x∈xs,∀ y,ltN x y=false->ltN y x=false->x=y)->bK xs ys=false->bK ys xs=false->xs=ys
 | [],[],_,_,_=>rfl
 | [],_::_,_,h,_=>by rw[bK] at h;cases h
 | _::_,[],_,_,h=>by rw[bK] at h;cases h
 | x::xs,y::ys,k,h1,h2=>by
  rw[bK] at h1 h2;by_cases e:x=y
  . subst e;rw[if_pos rfl] at h1 h2;rw[xM (λz hz=>k z (mcm hz)) h1 h2]
  . rw[if_neg e] at h1;rw[if_neg (λz=>e z.symm)] at h2;exact absurd (k x mcs y h1 h2) e
theorem oJ(k:N):∀ y,ltN k y=false->ltN y k=false->k=y:=by
 induction k using N.ind with
 | hi n =>
  intro y h1 h2;cases y with
  | i m =>
   rw[ltN] at h1 h2;have:n=m:=by have a1:=aT0 h1;have a2:=aT0 h2;omega
   rw[this]
  | s x=>rw[ltN] at h1;cases h1
  | t xs=>rw[ltN] at h1;cases h1
 | hs x =>
  intro y h1 h2;cases y with
  | i m=>rw[ltN] at h2;cases h2
  | s z=>rw[ltN] at h1 h2;rw[j6 h1 h2]
  | t xs=>rw[ltN] at h1;cases h1
 | ht xs ih =>
  intro y h1 h2;cases y with
  | i m=>rw[ltN] at h2;cases h2
  | s z=>rw[ltN] at h2;cases h2
  | t ys=>rw[ltN] at h1 h2;rw[xM ih h1 h2]
theorem xN:∀ {xs ys zs:List N},(∀ x∈xs,∀ y z,ltN x y=true->ltN y z=true->ltN x z=true)->bK xs ys=true->bK ys zs=true->bK xs zs=true
 | [],[],_,_,h,_=>by rw[bK] at h;cases h
 | [],_::_,[],_,_,h=>by rw[bK] at h;cases h
 | [],_::_,_::_,_,_,_=>by rw[bK]
 | _::_,[],_,_,h,_=>by rw[bK] at h;cases h
 | _::_,_::_,[],_,_,h=>by rw[bK] at h;cases h
 | x::xs,y::ys,z::zs,k,h1,h2=>by
  rw[bK] at h1 h2 ⊢;by_cases e1:x=y
  . subst e1;rw[if_pos rfl] at h1;by_cases e2:x=z
    . rw[if_pos e2] at h2 ⊢;exact xN (λz hz=>k z (mcm hz)) h1 h2
    . rw[if_neg e2] at h2 ⊢;exact h2
  . rw[if_neg e1] at h1;by_cases e2:y=z
    . subst e2;rw[if_neg e1];exact h1
    . rw[if_neg e2] at h2;have h3:=k x mcs y z h1 h2;by_cases e3:x=z
      . rw[<- e3] at h2;have:=k x mcs y x h1 h2;rw[iN] at this;cases this
      . rw[if_neg e3];exact h3
theorem rQ(k:N):∀ y z,ltN k y=true->ltN y z=true->ltN k z=true:=by
 induction k using N.ind with
 | hi n =>
  intro y z h1 h2;cases z with
  | i l =>
   cases y with
   | i m=>rw[ltN] at h1 h2 ⊢;have a1:=aR3 h1;have a2:=aR3 h2;exact aRO (by omega)
   | s x=>rw[ltN] at h2;cases h2
   | t xs=>rw[ltN] at h2;cases h2
  | s x=>rw[ltN]
  | t xs=>rw[ltN]
 | hs x =>
  intro y z h1 h2;cases y with
  | i m=>rw[ltN] at h1;cases h1
  | s x2 =>
   cases z with
   | i l=>rw[ltN] at h2;cases h2
   | s x3=>rw[ltN] at h1 h2 ⊢;exact rE h1 h2
   | t xs=>rw[ltN]
  | t xs =>
   cases z with
   | i l=>rw[ltN] at h2;cases h2
   | s x3=>rw[ltN] at h2;cases h2
   | t xs=>rw[ltN]
 | ht xs ih =>
  intro y z h1 h2;cases y with
  | i m=>rw[ltN] at h1;cases h1
  | s x2=>rw[ltN] at h1;cases h1
  | t ys =>
   cases z with
   | i l=>rw[ltN] at h2;cases h2
   | s x3=>rw[ltN] at h2;cases h2
   | t zs=>rw[ltN] at h1 h2 ⊢;exact xN ih h1 h2
theorem oK{a b:N}(h:ltN a b=true):ltN b a=false:=by
 cases e:ltN b a with
 | false=>rfl
 | true=>have:=rQ a b a h e;rw[iN] at this;cases this
theorem rR{a b c:N}(h1:ltN a b=false)(h2:ltN b c=false):ltN a c=false:=by
 cases e:ltN a c with
 | false=>rfl
 | true =>
  cases e1:ltN b a with
  | true=>have:=rQ b a c e1 e;rw[h2] at this;cases this
  | false=>have:=oJ a b h1 e1;subst this;rw[e] at h2;cases h2
def fD(l:List N):Prop:=l.Pairwise λx y=>ltN y x=false
def j9(x:N):List N->List N
 | []=>[x]
 | y::l=>if ltN y x=true then y::j9 x l else x::y::l
def cO(l:List N):List N:=l.foldr j9 []
theorem rS(x:N):∀ (l:List N),(j9 x l).Perm (x::l)
 | []=>aT1 _
 | y::l=>by
  unfold j9;split
  . exact ((rS x l).cons y).trans (List.Perm.swap x y l)
  . exact aT1 _
theorem kA:∀ (l:List N),(cO l).Perm l
 | []=>aT1 _
 | x::l=>(rS x (cO l)).trans ((kA l).cons x)
theorem xO{x:N}:∀ {l:List N},fD l->fD (j9 x l)
 | [],_=>aT2 _ _
 | y::l,h=>by
  unfold j9;split
  . rename_i e;refine aTW.mpr ⟨λz hz=>?_,xO (aTW.mp h).2⟩;rcases aPY.mp ((rS x l).mem_iff.mp hz) with rfl | hz
    . exact oK e
    . exact (aTW.mp h).1 z hz
  . rename_i e;have e:ltN y x=false:=by simpa using e
    refine aTW.mpr ⟨λz hz=>?_,h⟩;rcases aPY.mp hz with rfl | hz
    . exact e
    . exact rR ((aTW.mp h).1 z hz) e
theorem oM:∀ (l:List N),fD (cO l)
 | []=>List.Pairwise.nil
 | x::l=>xO (oM l)
theorem xP:∀ {l l':List N},fD l->fD l'->l.Perm l'->l=l'
 | [],l',_,_,p=>p.symm.eq_nil.symm
 | x::l,[],_,_,p=>p.eq_nil
 | x::l,y::l',h,h',p=>by
  have h1:=aTW.mp h;have h2:=aTW.mp h';have exy:x=y:=by
   have a:ltN y x=false:=by
    rcases aPY.mp (p.mem_iff.mpr mcs) with e | e
    . rw[e];exact iN _
    . exact h1.1 y e
   have b:ltN x y=false:=by
    rcases aPY.mp (p.mem_iff.mp mcs) with e | e
    . rw[e];exact iN _
    . exact h2.1 x e
   exact oJ x y b a
  subst exy;rw[xP h1.2 h2.2 p.cons_inv]
theorem rT{l l':List N}(h:fD l')(p:l'.Perm l):l'=cO l:=xP h (oM l) (p.trans (kA l).symm)
section
variable {prog:Program}{w:World}{s:Shared}
theorem aJO{A:Around}{x y:N}{u v:Value}(hu:A.units+x.dp<cLine)(hx:IsN s.heap x u)(hy:IsN s.heap y v):SeqAt.EqAt A s u v (decide (x=y)):=by
 obtain ⟨⟨as,ra⟩,ca⟩:=IsN.reads x u hx;obtain ⟨⟨bs,rb⟩,cb⟩:=IsN.reads y v hy;have:=SeqAt.eqAt_reads x.py y.py A s u v as bs ra rb ca cb (by rw[N.py_depth];have:=aRW x.dp y.py.depth;omega)
 rw[N.py_eqv] at this;exact this
theorem xQ{A:Around}:∀ {xs ys:List N} {us vs:List Value},(∀ x∈xs,∀ (y:N) (u v:Value),IsN s.heap x u->IsN s.heap y v->okN x y=true->∀ (prog:Program) (w':World) (E:VSP) (Q:VSP),Q (.bool (ltN x y)) s->wpAny (model prog w') A (compareOp .Lt u v) Q E s)->A.units+N.dpL xs<cLine->aR s.heap xs us->aR s.heap ys vs->eI xs ys=true->LtI A s us vs (bK xs ys)
 | [],[],us,vs,_,_,h1,h2,_=>by rw[aR] at h1 h2;subst h1;subst h2;rw[bK];exact .nn
 | [],y::ys,us,vs,_,_,h1,h2,_=>by rw[aR] at h1;rw[aR] at h2;subst h1;obtain ⟨v,ws,rfl,_⟩:=h2;rw[bK];exact .nc
 | x::xs,[],us,vs,_,_,h1,h2,_=>by rw[aR] at h1;rw[aR] at h2;subst h2;obtain ⟨v,ws,rfl,_⟩:=h1;rw[bK];exact .cn
 | x::xs,y::ys,us,vs,k,hu,h1,h2,ok=>by
  rw[aR] at h1 h2;obtain ⟨u,us,rfl,p1,p2⟩:=h1;obtain ⟨v,vs,rfl,q1,q2⟩:=h2;rw[N.dpL] at hu;rw[eI] at ok;have e:=aJO (A:=A) (by omega) p1 q1
  rw[bK];by_cases exy:x=y
  . rw[aRO exy] at e;rw[if_pos exy] at ok ⊢;exact .eq e (xQ (λz hz=>k z (mcm hz)) (by omega) p2 q2 ok)
  . rw[aPL exy] at e;rw[if_neg exy] at ok ⊢;exact .ne e λprog w' E Q q=>k x mcs y u v p1 q1 ok prog w' E Q q
theorem n_lt(k:N):∀ {A:Around} {E:VSP} {y:N} {u v:Value} {Q:VSP} {prog:Program} {w:World},A.units+k.dp+1<cLine->IsN s.heap k u->IsN s.heap y v->okN k y=true->Q (.bool (ltN k y)) s->wpAny (model prog w) A (compareOp .Lt u v) Q E s:=by
 induction k using N.ind with
 | hi n =>
  intro A E y u v Q prog w hu h1 h2 ok q;cases y with
  | i m=>rw[IsN] at h1 h2;obtain ⟨t,rfl⟩:=h1;obtain ⟨t',rfl⟩:=h2;rw[ltN] at q;exact lt_int q
  | s x=>rw[okN] at ok;cases ok
  | t xs=>rw[okN] at ok;cases ok
 | hs x =>
  intro A E y u v Q prog w hu h1 h2 ok q;cases y with
  | s z=>rw[IsN] at h1 h2;obtain ⟨⟨t,rfl⟩,_⟩:=h1;obtain ⟨⟨t',rfl⟩,_⟩:=h2;rw[ltN] at q;unfold lts at q;rw[ltCps_eq] at q;exact lt_str q
  | i m=>rw[okN] at ok;cases ok
  | t xs=>rw[okN] at ok;cases ok
 | ht xs ih =>
  intro A E y u v Q prog w hu h1 h2 ok q;cases y with
  | i m=>rw[okN] at ok;cases ok
  | s x=>rw[okN] at ok;cases ok
  | t ys=>rw[IsN] at h1 h2;obtain ⟨a,o,its,n,rfl,g1,c1,d1,l1⟩:=h1;obtain ⟨b,o',its',n',rfl,g2,c2,d2,l2⟩:=h2;rw[ltN] at q;rw[okN] at ok;rw[N.dp] at hu;exact wH ⟨o,g1,c1,n,d1⟩ ⟨o',g2,c2,n',d2⟩ (xQ (A:=A.in1) (λx hx y u v p1 p2 ok prog w' E Q q=>ih x hx (by have:=N.dp_mem hx;show A.units+1+_+1<_;omega) p1 p2 ok q) (by show A.units+1+_<_;omega) l1 l2 ok) (by omega) q
end
def eU(h:Heap)(vs:List Value)(ks:List N):Prop:=vs.length=ks.length/\∀ i,i<ks.length->IsN h (ks.getD i (.i 0)) (vs.getD i .none)
def dA:N->Bool
 | .t (.t _::_)=>true
 | _=>false
structure jB(ks:List N)(p:List Nat):Prop where
 perm:p.Perm (List.range ks.length)
 up:fD (p.map λi=>ks.getD i (.i 0))
theorem jB.eq{ks:List N}{p:List Nat}(h:jB ks p):(p.map λi=>ks.getD i (.i 0))=cO ks:=by refine rT h.up ?_;have:=h.perm.map λi=>ks.getD i (.i 0);rw[oB] at this;exact this
theorem IsN.kept{h h':Heap}(k:N):∀ {v:Value},IsN h k v->(∀ a o,h.get? a=some o->o.cls=.type "tuple" -> h'.get? a=some o)->IsN h' k v:=by
 induction k using N.ind with
 | hi n=>intro v q _;rw[IsN] at q ⊢;exact q
 | hs x=>intro v q _;rw[IsN] at q ⊢;exact q
 | ht xs ih=>intro v q kp;rw[IsN] at q ⊢;obtain ⟨a,o,its,n,e,ha,hc,hd,hi⟩:=q;exact ⟨a,o,its,n,e,kp a o ha hc,hc,hd,hi.map λx hx v q=>ih x hx q kp⟩
def rU(ks:List N):Prop:=∀ x∈ks,∀ y∈ks,okN x y=true
section
variable {prog:Program}{w:World}{A:Around}{E:VSP}{s:Shared}
theorem xR{fin:Bool}{Q:Bool->Shared->Prop}:∀ {xs ys:List N} {us vs:List Value} {i:Nat},A.units+N.dpL xs+1<cLine->aR s.heap xs us->aR s.heap ys vs->eI xs ys=true->fin=decide (us.length<vs.length)->Q (bK xs ys) s->KatLex prog w A false fin Q (us.zip vs) i s
 | [],[],us,vs,i,_,h1,h2,_,e,q=>by rw[aR] at h1 h2;subst h1;subst h2;subst e;rw[bK] at q;exact q
 | [],y::ys,us,vs,i,_,h1,h2,_,e,q=>by rw[aR] at h1;rw[aR] at h2;subst h1;obtain ⟨v,zs,rfl,_⟩:=h2;subst e;rw[bK] at q;exact q
 | x::xs,[],us,vs,i,_,h1,h2,_,e,q=>by rw[aR] at h1;rw[aR] at h2;subst h2;obtain ⟨v,zs,rfl,_⟩:=h1;subst e;rw[bK] at q;exact q
 | x::xs,y::ys,us,vs,i,hu,h1,h2,ok,e,q=>by
  rw[aR] at h1 h2;obtain ⟨u,us,rfl,p1,p2⟩:=h1;obtain ⟨v,vs,rfl,q1,q2⟩:=h2;rw[N.dpL] at hu;rw[eI] at ok;rw[bK] at q;rw[aSW];refine kat_cons (qJ (by omega) p1 q1 (kat_go (λh=>?_) λh=>?_))
  . have exy:=aR3 h;rw[if_pos exy] at ok q;exact kat_yes (xR (by omega) p2 q2 ok (by subst e;simp) q)
  . have exy:=aT0 h;rw[if_neg exy] at ok q;exact kat_no (kat_one _ _ (n_lt x (by omega) p1 q1 ok q))
theorem aJP{x y:N}{u v:Value}{Q:Bool->Shared->Prop}(hu:A.units+x.dp<cLine)(fx:dA x=true)(fy:dA y=true)(hx:IsN s.heap x u)(hy:IsN s.heap y v)(ok:okN x y=true)(q:Q (ltN x y) s):wpAny (model prog w) A (keyLt' (tuples' false) u v) Q E s:=by
 cases x with
 | i n=>cases fx
 | s z=>cases fx
 | t xs =>
  cases y with
  | i n=>cases fy
  | s z=>cases fy
  | t ys=>rw[IsN] at hx hy;obtain ⟨a,o,its,n,rfl,g1,c1,d1,l1⟩:=hx;obtain ⟨b,o',its',n',rfl,g2,c2,d2,l2⟩:=hy;rw[okN] at ok;rw[ltN] at q;rw[N.dp] at hu;exact kat_lt g1 d1 g2 d2 (xR (by omega) l1 l2 ok (by simp) q)
theorem xS:∀ {vs:List Value} {ks:List N},eU s.heap vs ks->(∀ k∈ks,dA k=true)->∃ fs:List Value,KatTups s.heap vs fs/\fs.length=ks.length/\∀ f∈fs,Looks (model prog w) s.heap (typeOf f) (.type "tuple")
 | [],[],_,_=>⟨[],trivial,rfl,λf hf=>nomatch hf⟩
 | [],_::_,h,_=>by have:=h.1;simp at this
 | _::_,[],h,_=>by have:=h.1;simp at this
 | v::vs,k::ks,h,ft=>by
  have h0:=h.2 0 (by simp)
  have h0:IsN s.heap k v:=by simpa using h0
  have tail:eU s.heap vs ks:=⟨by simpa using h.1,λi hi=>by
   have:=h.2 (i+1) (by simpa using hi)
   simpa using this⟩
  obtain ⟨fs,k1,k2,k3⟩:=xS tail λt ht=>ft t (mcm ht);have fk:=ft k mcs;unfold dA at fk;split at fk
  . rename_i ys zs;rw[IsN] at h0;obtain ⟨a,o,its,n,rfl,g1,c1,d1,l1⟩:=h0;rw[aR] at l1;obtain ⟨f,us,e1,p1,_⟩:=l1;rw[IsN] at p1;obtain ⟨b,o2,its2,n2,rfl,g2,c2,d2,_⟩:=p1;have f0:its[0]? = some (.ref b):=by
      have:its.toList[0]? = some (.ref b):=by rw[e1];rfl
      simpa using this
    refine ⟨.ref b::fs,⟨⟨a,o,its,n,rfl,g1,c1,d1,f0⟩,k1⟩,by simp[k2],λf hf=>?_⟩
    rcases aPY.mp hf with rfl | hf
    . have L:Looks (model prog w) s.heap (typeOf (.ref b)) o2.cls:=(Looks.ld g2).andThen .now;rw[c2] at L;exact L
    . exact k3 f hf
  . cases fk
theorem kindN{vs:List Value}{ks:List N}{Q:SortKind->Shared->Prop}(h:eU s.heap vs ks)(ft:∀ k∈ks,dA k=true)(h2:0<ks.length)(q:Q (tuples' false) s):wpAny (model prog w) A (keyKind' vs.toArray) Q E s:=by obtain ⟨fs,k1,k2,k3⟩:=xS (prog:=prog) (w:=w) h ft;exact kat_kind (T:=.type "tuple") k1 (by omega) k3 rfl q
theorem wkO_N(ks:List N):WkO λi j=>ltN (ks.getD i (.i 0)) (ks.getD j (.i 0)):=⟨λa b=>rR a b,λa=>oK a⟩
theorem aJQ{ks:List N}{p:Array Nat}(pp:PW ks.length p)(pe:p.Perm (List.toArray (List.range ks.length)))(u:Wup (λi j=>ltN (ks.getD i (.i 0)) (ks.getD j (.i 0))) p ks.length):jB ks p.toList:=by
 refine ⟨by simpa using Array.perm_iff_toList_perm.mp pe,?_⟩
 unfold fD;rw[aT3];refine aTR.mpr λi j hi hj hij=>?_;rw[aP7] at hi hj;have:=u i j hij (by rw[<- pp.size];exact hj)
 simpa[Array.getD,hi,hj] using this
theorem eU.kept{h h':Heap}{vs:List Value}{ks:List N}(q:eU h vs ks)(kp:∀ a o,h.get? a=some o->o.cls=.type "tuple" -> h'.get? a=some o):eU h' vs ks:=⟨q.1,λi hi=>IsN.kept _ (q.2 i hi) kp⟩
theorem xT{a:Addr}{vs:List Value}{ks:List N}{n:Nat}{P:PySem.Fin->Shared->Prop}(hu:A.units+9<cLine)(ho:s.heap.get? a=some (seqObj "list" vs.toArray n))(hv:eU s.heap vs ks)(d8:∀ k∈ks,k.dp<=8)(ok:rU ks)(ft:ks.length<=1\/∀ k∈ks,dA k=true)(h64:ks.length<64)(h:∀ p,jB ks p->P (.done (.ret .none)) { s with heap:=sortedHeap s.heap a vs (p.map λi=>vs.getD i .none).toArray }):wpAny (model prog w) A (Builtin.«list.sort» ⟨[.ref a],[]⟩) P E s:=by
 have lv:=hv.1;have la:a<s.heap.objs.size:=aPP ho;rw[list_sort_plain];refine aP9 (listItems_at ho rfl (aP9 (listUpdate_at ho rfl ?_ (by rw[aQI,aQH];omega) (aQO _))))
 obtain ⟨e1,ho1⟩:∃ c,(s.heap.update a (Obj.mapSeq λ_=>(#[]:Array Value))).get? a=some (seqObj "list" #[] c):=⟨_,get?_update_seq ho λ_=>#[]⟩;refine aP9 (seqEpoch_at ho1 rfl (aP9 (wpAny_newTuple (aP9 (aT4 (aRD ?_) (aQO _))) (by show vs.length<=_;rw[aQH];omega))))
 have ho2:(((s.heap.update a (Obj.mapSeq λ_=>(#[]:Array Value))).push (seqObj "tuple" vs.toArray 0)).push (seqObj "list" #[] 0)).get? a=some (seqObj "list" #[] e1):=hps (hps ho1);have hv2:eU (((s.heap.update a (Obj.mapSeq λ_=>(#[]:Array Value))).push (seqObj "tuple" vs.toArray 0)).push (seqObj "list" #[] 0)) vs ks:=hv.kept λb o e c=>by
  have hb:b≠a:=λz=>by
   rw[z,ho] at e;cases e;have c:Value.type "list" = .type "tuple" := c;injection c with c
   exact absurd c (by decide)
  exact hps (hps ((Heap.get?_update_ne _ _ _ _ hb).trans e))
 have fin:=h;show wpAny (model prog w) A _ P E { s with heap:=((s.heap.update a (Obj.mapSeq λ_=>(#[]:Array Value))).push (seqObj "tuple" vs.toArray 0)).push (seqObj "list" #[] 0) }
 dsimp only;by_cases hs:vs.toArray.size<2
 . rw[if_pos hs,if_pos hs];rw[aQI] at hs;refine aP9 (aP8 ?_);rw[StateT.run_pure];refine aP9 (aP8 ?_);have w0:jB ks (List.range ks.length):=⟨aT1 _,by
     rw[oB]
     match ks,lv with
     | [],_=>exact List.Pairwise.nil
     | [t],_=>exact aT2 _ _
     | _::_::_,lv=>simp at lv;omega⟩
   have ev:((List.range ks.length).map λi=>vs.getD i Value.none).toArray=(arrOf (SortSt.mk' general' (vs.toArray.zip vs.toArray) #[] 7 none)).map (·.2):=by
    rw[<- lv,oB];show vs.toArray=(vs.toArray.zip vs.toArray).map (·.2);apply Array.ext
    . simp
    . intro i h1 h2;simp
   have w1:=fin _ w0;rw[ev] at w1;refine aP9 (seqEpoch_at ho2 rfl (aP9 (listUpdate_at ho2 rfl ?_ (aQO _) (by rw[<- ev,aQI,aQ1,aTL,aQH];omega))))
   simp only[aTH,aRZ,aQ9];exact aP8 w1
 . rw[if_neg hs,if_neg hs];rw[aQI] at hs;have ft:∀ k∈ks,dA k=true:=ft.resolve_left (by omega)
   refine aP9 (kindN (s:={ s with heap:=((s.heap.update a (Obj.mapSeq λ_=>(#[]:Array Value))).push (seqObj "tuple" vs.toArray 0)).push (seqObj "list" #[] 0) }) hv2 ft (by omega) ?_)
   have ask:hV ks.length (λi j=>ltN (ks.getD i (.i 0)) (ks.getD j (.i 0))) (kas_ask prog w A (tuples' false) vs) (λs'=>s'={ s with heap:=((s.heap.update a (Obj.mapSeq λ_=>(#[]:Array Value))).push (seqObj "tuple" vs.toArray 0)).push (seqObj "list" #[] 0) }):=λi j s' C hi hj hJ q=>by
    subst hJ;unfold kas_ask;have mi:ks.getD i (.i 0)∈ks:=by simp[hi]
    have mj:ks.getD j (.i 0)∈ks:=by simp[hj]
    exact aJP (by have:=d8 _ mi;omega) (ft _ mi) (ft _ mj) (hv2.2 i hi) (hv2.2 j hj) (ok _ mi _ mj) (q _ rfl)
   refine aP9 (aP5 (kat_run (ks:=vs) (vs:=vs) (κ:=tuples' false) (Q:=λst' s'=>s'=_/\∃ p:Array Nat,PW ks.length p/\p.Perm (List.toArray (List.range ks.length))/\Wup (λi j=>ltN (ks.getD i (.i 0)) (ks.getD j (.i 0))) p ks.length/\arrOf st'=p.map (kas_item (vs.toArray.zip vs.toArray))/\failedOf st'=none)
    (G:=λp s'=>s'=_/\PW ks.length p/\p.Perm (List.toArray (List.range ks.length))/\Wup (λi j=>ltN (ks.getD i (.i 0)) (ks.getD j (.i 0))) p ks.length) rfl (by omega) (by omega)
    (λp st' s' a1 a2 a3 a4=>⟨a4.1,p,a4.2.1,a4.2.2.1,a4.2.2.2,a2,a3⟩) (by rw[lv];exact aJN (wkO_N ks) ask (by omega) rfl λp s' b1 b2 b3 b4=>⟨b4,b1,b2,b3⟩)) ?_ λ_ _ e=>e)
   rintro ⟨⟨⟩,st'⟩ s' ⟨rfl,p,pp,pe,u,ea,ef⟩;have w1:=fin _ (aJQ pp pe u);have ev:=kat_snds (vs:=vs) rfl ea;rw[<- ev] at w1;refine aP9 (seqEpoch_at ho2 rfl (aP9 (listUpdate_at ho2 rfl ?_ (aQO _) (by rw[ev,aQI,aQ1,aP7,pp.size,aQH];omega))))
   rw[ef];simp only[aTH,aRZ,aQ9];exact aP8 w1
theorem xU{l:Addr}{vs:List Value}{Q:List Value->Shared->Prop}(hl:IsTup s.heap l vs.toArray)(hz:vs.length<=sizeLine)(h:Q vs { s with heap:=(s.heap.push (seqObj "list" #[] 0)).update s.heap.objs.size (Obj.mapSeq (·++vs.toArray)) }):wpAny (model prog w) A (collect (.ref l)) Q E s:=by
 obtain ⟨o,ho,hc,n,hd⟩:=id hl;have g0:=Heap.get?_push_of_some (seqObj "list" #[] 0) ho;have g1:(s.heap.push (seqObj "list" #[] 0)).get? s.heap.objs.size=some (seqObj "list" #[] 0):=aPO _ rfl;unfold collect;refine aP9 (wpAny_runValue (aS3 entry_proto_collect' ?_));show wpAny _ _ (do let l' <- newList [];again (.builtin "list.__iadd__" ⟨[l',.ref l],[]⟩)) _ _ s
 refine aP9 (aT4 (aP8 ⟨Code.quiet_builtin _ (by decide +kernel),aS3 entry_list_iadd' ?_⟩))
 show wpAny (model prog w) _ (Builtin.List.listExtendWith (.ref s.heap.objs.size) (.ref l) (.ref s.heap.objs.size)) _ _ _;unfold Builtin.List.listExtendWith;refine aP9 (aRH (T := "tuple") (s:={ s with heap:=s.heap.push (seqObj "list" #[] 0) }) ⟨o,g0,hc⟩ ?_)
 rw[if_pos (by rw[show (Value.type "tuple" == Value.type "tuple")=true from rfl,Bool.or_true])]
 refine aP9 (listItems_at (s:={ s with heap:=s.heap.push (seqObj "list" #[] 0) }) g0 hd (aP9 (listItems_at (xs:=#[]) (n:=0) g1 rfl ?_)))
 rw[if_neg (by simp)]
 refine aP9 (listUpdate_at (xs:=#[]) (n:=0) g1 rfl (aP8 ?_) (aQO _) (by show (#[]++vs.toArray).size<=sizeLine+1;simp only[Array.size_append,aQI,aSX];omega))
 show wpAny (model prog w) A (do match (<- load s.heap.objs.size).data with | .seq xs _=>pure xs.toList | _=>unsupported "internal:collect") Q E _
 refine aP9 (aQA (get?_update_seq g1 _) ?_);show wpAny _ A (pure ((#[]:Array Value)++vs.toArray).toList) Q E _;rw[show ((#[]:Array Value)++vs.toArray).toList=vs by simp]
 exact aP8 h
theorem aJR{l:Addr}{vs:List Value}{ks:List N}{Q:VSP}(hu:A.units+64<cLine)(hl:s.heap.IsList l vs.toArray\/IsTup s.heap l vs.toArray)(hv:eU s.heap vs ks)(d8:∀ k∈ks,k.dp<=8)(ok:rU ks)(ft:ks.length<=1\/∀ k∈ks,dA k=true)(h64:ks.length<64)(h:∀ p,jB ks p->Q (.ref (s.heap.objs.size+1)) { s with heap:=sortedAll s.heap vs (p.map λi=>vs.getD i .none).toArray }):wpAny (model prog w) A (call (.builtin "sorted") [.ref l]) Q E s:=by
 have lv:=hv.1;refine aT5 kind_sorted plain_sorted entry_sorted (args_sorted1 (.ref l)) ?_;unfold Builtin.«sorted»;have col:∀ {R:List Value->Shared->Prop} {E':VSP},R vs { s with heap:=(s.heap.push (seqObj "list" #[] 0)).update s.heap.objs.size (Obj.mapSeq (·++vs.toArray)) } -> wpAny (model prog w) A.in1 (collect (.ref l)) R E' s:=λ{R E'} r=>by
  rcases hl with hl | hl
  . exact collect_list hl r (by rw[aQH];omega)
  . exact xU hl (by rw[aQH];omega) r
 refine aP9 (m:=checkCount "sorted" 1 1 [Value.ref l].length) (aP8 (aP9 (col (aP9 (aT4 ?_ (by rw[aQH];omega))))))
 have z1:((s.heap.push (seqObj "list" #[] 0)).update s.heap.objs.size (Obj.mapSeq (·++vs.toArray))).objs.size=s.heap.objs.size+1:=(Heap.size_update ..).trans (size_push' ..);have g1:(((s.heap.push (seqObj "list" #[] 0)).update s.heap.objs.size (Obj.mapSeq (·++vs.toArray))).push (seqObj "list" vs.toArray 0)).get? (s.heap.objs.size+1)=some (seqObj "list" vs.toArray 0):=z1 ▸ aPO _ rfl;have hv1:eU (((s.heap.push (seqObj "list" #[] 0)).update s.heap.objs.size (Obj.mapSeq (·++vs.toArray))).push (seqObj "list" vs.toArray 0)) vs ks:=hv.kept λb o e _ =>
  hps ((Heap.get?_update_ne _ _ _ _ (aPS (aPP e))).trans (hps e))
 show wpAny _ _ _ _ _ { s with heap:=((s.heap.push (seqObj "list" #[] 0)).update s.heap.objs.size (Obj.mapSeq (·++vs.toArray))).push (seqObj "list" vs.toArray 0) }
 rw[z1];exact aP9 (aRD (aRG slot_list_sort ⟨_,g1,rfl⟩ entry_list_sort (xT (A:=A.in1.in1) (by show A.units+1+1+9<_;omega) (s:={ s with heap:=((s.heap.push (seqObj "list" #[] 0)).update s.heap.objs.size (Obj.mapSeq (·++vs.toArray))).push (seqObj "list" vs.toArray 0) }) g1 hv1 d8 ok ft h64 λp wp=>⟨_,rfl,aP8 ⟨_,rfl,h p wp⟩⟩) (args_list_sort _)))
end
theorem xV:∀ {h:Heap} {ks:List N} {us:List Value},aR h ks us->eU h us ks
 | h,[],us,q=>by rw[aR] at q;subst q;exact ⟨rfl,λi hi=>by simp at hi⟩
 | h,k::ks,us,q=>by
  rw[aR] at q;obtain ⟨u,us,rfl,q1,q2⟩:=q;obtain ⟨l,r⟩:=xV q2;refine ⟨by simp[l],λi hi=>?_⟩
  cases i with
  | zero=>simpa using q1
  | succ i=>have:=r i (by simpa using hi);simpa using this
theorem bW.nth{K:Fg}{F:Hp}:∀ {ks:List N} {vs:List V},bW K F ks vs->vs.length=ks.length/\∀ i,i<ks.length->NAt K F (ks.getD i (.i 0)) (vs.getD i .non)
 | [],vs,q=>by rw[bW] at q;subst q;exact ⟨rfl,λi hi=>by simp at hi⟩
 | k::ks,vs,q=>by
  rw[bW] at q;obtain ⟨u,us,rfl,q1,q2⟩:=q;obtain ⟨l,r⟩:=bW.nth q2;refine ⟨by simp[l],λi hi=>?_⟩
  cases i with
  | zero=>simpa using q1
  | succ i=>have:=r i (by simpa using hi);simpa using this
theorem gL:∀ (ks:List N),nDL ks=ks.map nD
 | []=>by rw[nDL];rfl
 | k::ks=>by rw[nDL,gL ks];rfl
def okS(ks:List N):Bool:=ks.all (λk=>decide (k.dp<=8))&&(decide (ks.length<=1)||ks.all dA)&&ks.all (λx=>ks.all λy=>okN x y)&&decide (ks.length<64)
def f6(l:List Str):Prop:=l.Pairwise λx y=>lts y x=false
def kB(x:Str):List Str->List Str
 | []=>[x]
 | y::l=>if lts y x=true then y::kB x l else x::y::l
def aX(l:List Str):List Str:=l.foldr kB []
theorem oN{x y:Str}(h:lts x y=true):lts y x=false:=by
 cases e:lts y x with
 | false=>rfl
 | true=>have:=rE h e;rw[gK] at this;cases this
theorem rV{a b c:Str}(h1:lts a b=false)(h2:lts b c=false):lts a c=false:=by
 have:=rR (a:=.s a) (b:=.s b) (c:=.s c) (by rw[ltN];exact h1) (by rw[ltN];exact h2)
 rw[ltN] at this;exact this
theorem rW(x:Str):∀ (l:List Str),(kB x l).Perm (x::l)
 | []=>aT1 _
 | y::l=>by
  unfold kB;split
  . exact ((rW x l).cons y).trans (List.Perm.swap x y l)
  . exact aT1 _
theorem gM:∀ (l:List Str),(aX l).Perm l
 | []=>aT1 _
 | x::l=>(rW x (aX l)).trans ((gM l).cons x)
theorem xW{x:Str}:∀ {l:List Str},f6 l->f6 (kB x l)
 | [],_=>aT2 _ _
 | y::l,h=>by
  unfold kB;split
  . rename_i e;refine aTW.mpr ⟨λz hz=>?_,xW (aTW.mp h).2⟩;rcases aPY.mp ((rW x l).mem_iff.mp hz) with rfl | hz
    . exact oN e
    . exact (aTW.mp h).1 z hz
  . rename_i e;have e:lts y x=false:=by simpa using e
    refine aTW.mpr ⟨λz hz=>?_,h⟩;rcases aPY.mp hz with rfl | hz
    . exact e
    . exact rV ((aTW.mp h).1 z hz) e
theorem l5:∀ (l:List Str),f6 (aX l)
 | []=>List.Pairwise.nil
 | x::l=>xW (l5 l)
theorem xX:∀ {l l':List Str},f6 l->f6 l'->l.Perm l'->l=l'
 | [],l',_,_,p=>p.symm.eq_nil.symm
 | x::l,[],_,_,p=>p.eq_nil
 | x::l,y::l',h,h',p=>by
  have h1:=aTW.mp h;have h2:=aTW.mp h';have exy:x=y:=by
   have a:lts y x=false:=by
    rcases aPY.mp (p.mem_iff.mpr mcs) with e | e
    . rw[e];exact gK _
    . exact h1.1 y e
   have b:lts x y=false:=by
    rcases aPY.mp (p.mem_iff.mp mcs) with e | e
    . rw[e];exact gK _
    . exact h2.1 x e
   exact j6 b a
  subst exy;rw[xX h1.2 h2.2 p.cons_inv]
theorem xY{l l':List Str}(h:f6 l')(p:l'.Perm l):l'=aX l:=xX h (l5 l) (p.trans (gM l).symm)
theorem xZ:∀ {l:List Str},sortedS l=true->f6 l
 | [],_=>.nil
 | x::l,h=>by
  refine aTW.mpr ⟨λy hy=>wT (show risingS x l=true from h) y hy,xZ ?_⟩
  cases l with
  | nil=>rfl
  | cons y l=>have h:(!lts y x&&risingS y l)=true:=h;rw[aRI] at h;exact h.2
section
variable {prog:Program}{w:World}{A:Around}{E:VSP}{s:Shared}
theorem aJS{l:Addr}{vs:List Value}{ns:List Str}{Q:VSP}(hl:s.heap.IsList l vs.toArray\/IsTup s.heap l vs.toArray)(sa:StrsAre vs ns)(h64:vs.length<64)(h:∀ (out:Array Value) ys,StrsAre out.toList ys->ys.Perm ns->sortedS ys=true->Q (.ref (s.heap.objs.size+1)) { s with heap:=sortedAll s.heap vs out }):wpAny (model prog w) A (call (.builtin "sorted") [.ref l]) Q E s:=by
 refine aT5 kind_sorted plain_sorted entry_sorted (args_sorted1 (.ref l)) ?_;unfold Builtin.«sorted»;have col:∀ {R:List Value->Shared->Prop} {E':VSP},R vs { s with heap:=(s.heap.push (seqObj "list" #[] 0)).update s.heap.objs.size (Obj.mapSeq (·++vs.toArray)) } -> wpAny (model prog w) A.in1 (collect (.ref l)) R E' s:=λ{R E'} r=>by
  rcases hl with hl | hl
  . exact collect_list hl r (by rw[aQH];omega)
  . exact xU hl (by rw[aQH];omega) r
 refine aP9 (m:=checkCount "sorted" 1 1 [Value.ref l].length) (aP8 (aP9 (col (aP9 (aT4 ?_ (by rw[aQH];omega))))))
 have z1:((s.heap.push (seqObj "list" #[] 0)).update s.heap.objs.size (Obj.mapSeq (·++vs.toArray))).objs.size=s.heap.objs.size+1:=(Heap.size_update ..).trans (size_push' ..);have g1:(((s.heap.push (seqObj "list" #[] 0)).update s.heap.objs.size (Obj.mapSeq (·++vs.toArray))).push (seqObj "list" vs.toArray 0)).get? (s.heap.objs.size+1)=some (seqObj "list" vs.toArray 0):=z1 ▸ aPO _ rfl;show wpAny _ _ _ _ _ { s with heap:=((s.heap.push (seqObj "list" #[] 0)).update s.heap.objs.size (Obj.mapSeq (·++vs.toArray))).push (seqObj "list" vs.toArray 0) }
 rw[z1];refine aP9 (aRD (aRG slot_list_sort ⟨_,g1,rfl⟩ entry_list_sort (list_sort_treeK strKind_oneLt (s:={ s with heap:=((s.heap.push (seqObj "list" #[] 0)).update s.heap.objs.size (Obj.mapSeq (·++vs.toArray))).push (seqObj "list" vs.toArray 0) }) g1 sa.keysOf (λv1 v2 r e=>keyKind_strs (by rw[<- e];exact sa)) h64 λst' p1 p2=>⟨_,rfl,?_⟩) (args_list_sort _)))
 obtain ⟨zs,y1,y2,y3⟩:=sorted_out_str sa p1 p2;exact aP8 ⟨_,rfl,h _ zs y1 y2 y3⟩
end
section
variable {X:Cx}
def rSrtN(K:Fg):List V->Hp->VK->Prop:=λxs H Q=>∃ (p:Addr) (vs:List V) (ks:List N),xs=[.ref p]/\(SqL K H p vs\/SqT K H p vs)/\bW K H ks vs/\okS ks=true/\∀ l q,H l=none->jB ks q->Q (.ref l) (upd H l (.lst (q.map λi=>vs.getD i .non)))
theorem yA{aA:LAO}{σ:L2.St}{H:Hp}{s:Shared}{p:Addr}{vs:List V}(I:L2.Inv X aA σ H s)(h:SqL X.K H p vs\/SqT X.K H p vs):∃ its:List Value,aJ vs its/\(s.heap.IsList p its.toArray\/IsTup s.heap p its.toArray):=by
 rcases h with h | h
 . obtain ⟨its,rv,pl,_⟩:=I.list h;exact ⟨its,rv,.inl pl.isList⟩
 . obtain ⟨its,rv,pl,_⟩:=SqT.plain I h;exact ⟨its,rv,.inr pl.isTup⟩
theorem aJT(hu:X.A.units+64<cLine):cL X (.builtin "sorted") (rSrtN X.K):=by
 intro aA s σ H xs us Q I r h;obtain ⟨p,vs,ks,rfl,hp,hn,ok,q⟩:=h;obtain ⟨u,rfl,rx⟩:=eB r;cases rx;obtain ⟨its,rv,pl⟩:=yA I hp;unfold okS at ok;simp only[aRI,aR4,aR2,aSB] at ok;obtain ⟨⟨⟨d8,ft⟩,ao⟩,h64⟩:=ok;have lz:its.length=vs.length:=rv.length.symm;have lv:=hn.nth.1;have ta:eU s.heap its ks:=xV (bW.is (λx _ v u a b=>NAt.is I x v u a b) hn rv);refine aJR hu pl ta d8 ao ft h64 λw wp=>?_;obtain ⟨e,he⟩:=sortedAll_at s.heap its (w.map λi=>its.getD i .none).toArray;have wl:w.length=ks.length:=by rw[wp.perm.length_eq,aTL]
 have le:(w.map λi=>vs.getD i V.non).length<=sizeLine:=by rw[aQ1,wl,aQH];omega
 have rv2:aJ (w.map λi=>vs.getD i V.non) (w.map λi=>its.getD i Value.none):=wX λi hi=>wY rv (by
  have:=wp.perm.mem_iff.mp hi;rw[aPU] at this;omega)
 exact ⟨.ref (s.heap.objs.size+1),_,I.laid (t':=s.toks) (λb o e=>sortedAll_old e) (aSR _) (show bU X.prog X.w _ _ _ (.lst (w.map λi=>vs.getD i V.non)) from ⟨le,_,e,rv2,he⟩),rfl,q _ w (I.hok.fresh (aSR _)) wp⟩
def rSrtS(K:Fg):List V->Hp->VK->Prop:=λxs H Q=>∃ (p:Addr) (ns:List Str),xs=[.ref p]/\(SqL K H p (ns.map V.str)\/SqT K H p (ns.map V.str))/\ns.length<64/\∀ l,H l=none->Q (.ref l) (upd H l (.lst ((aX ns).map V.str)))
theorem aJU:cL X (.builtin "sorted") (rSrtS X.K):=by
 intro aA s σ H xs us Q I r h;obtain ⟨p,ns,rfl,hp,hz,q⟩:=h;obtain ⟨u,rfl,rx⟩:=eB r;cases rx;obtain ⟨its,rv,pl⟩:=yA I hp;have sa:=nT rv;have lz:its.length=ns.length:=sa.length;refine aJS pl sa (by rw[lz];exact hz) λout ys oa py so=>?_
 obtain ⟨e,he⟩:=sortedAll_at s.heap its out;have e1:ys=aX ns:=xY (xZ so) py;have le:((aX ns).map V.str).length<=sizeLine:=by rw[aQ1,<- e1,py.length_eq,aQH];omega
 exact ⟨.ref (s.heap.objs.size+1),_,I.laid (t':=s.toks) (λb o e=>sortedAll_old e) (aSR _) (show bU X.prog X.w _ _ _ (.lst ((aX ns).map V.str)) from ⟨le,out.toList,e,by rw[<- e1];exact wU oa,by simpa using he⟩),rfl,q _ (I.hok.fresh (aSR _))⟩
theorem cL.or{f:Value}{r1 r2:List V->Hp->VK->Prop}(h1:cL X f r1)(h2:cL X f r2):cL X f (λxs H Q=>r1 xs H Q\/r2 xs H Q):=λaA s σ H xs us Q I r h=>by
 rcases h with h | h
 . exact h1 aA s σ H xs us Q I r h
 . exact h2 aA s σ H xs us Q I r h
def seqD:D->Option (List D)
 | .lst ds=>some ds
 | .tup ds=>some ds
 | _=>none
def fN:List (Md×D)->Option (Md×D)
 | [(_,d)]=>match seqD d with
  | some ds=>match txD ds with
   | some ns=>if ns.length<64 then some (.fr,.lst ((aX ns).map .str)) else none
   | none=>match fC ds with
    | some ks=>if okS ks=true then some (.fr,.lst (nDL (cO ks))) else none
    | none=>none
  | none=>none
 | _=>none
theorem Rp.seqD{K:Fg}{F H:Hp}{m:Md}{d:D}{ds:List D}{v:V}(s:aE F H)(e:D3.seqD d=some ds)(r:Rp K F H m d v):∃ a xs,v=.ref a/\(SqL K H a xs\/SqT K H a xs)/\aC K F ds xs:=by
 cases d with
 | lst es=>cases e;obtain ⟨a,xs,rfl,q,rl⟩:=r.seqL s;exact ⟨a,xs,rfl,.inl q,rl⟩
 | tup es=>cases e;obtain ⟨a,xs,rfl,q,rl⟩:=r.seqT s;exact ⟨a,xs,rfl,.inr q,rl⟩
 | _=>cases e
theorem aJV(hu:X.A.units+64<cLine):dQ X (.builtin "sorted") fN:=by
 refine ⟨_,cL.or aJU (aJT hu),λF H xs vs k d Q s rx e w=>?_⟩;unfold fN at e;split at e
 . rename_i m d0;obtain ⟨v,rfl,r⟩:=rx.one;split at e
   . rename_i ds ed;obtain ⟨a,xs,rfl,q,rl⟩:=Rp.seqD s ed r;split at e
     . rename_i ns en;split at e
       . rename_i hc;cases e;obtain ⟨rfl,k1⟩:=rF en rl;exact .inl ⟨a,ns,rfl,q,hc,λl hl=>w (.ref l) F _ (aI.fresh _ s hl) ⟨l,rfl,s.free hl,_,bQ,wW λx hx=>k1 x ((gM ns).mem_iff.mp hx)⟩ λ_ a ea=>by cases ea;exact hl⟩
       . cases e
     . split at e
       . rename_i ks en;split at e
         . rename_i hc;cases e;have hn:=rL en rl;refine .inr ⟨a,xs,ks,rfl,q,hn.map (λx _ v z=>NAt.mono s x v z),hc,λl p hl wp=>w (.ref l) F _ (aI.fresh _ s hl) ⟨l,rfl,s.free hl,_,bQ,?_⟩ λ_ a ea=>by cases ea;exact hl⟩
           rw[<- wp.eq,gL,aT6];refine rG λi hi=>?_;have:=wp.perm.mem_iff.mp hi;rw[aPU] at this;exact rM _ _ (hn.nth.2 i this)
         . cases e
       . cases e
   . cases e
 . cases e
end
end D3
namespace D3
open PySem PySem.Spec PyProof.Rows L2
section
variable {prog:Program}{w:World}{A:Around}{E:VSP}{s:Shared}{d it:Addr}{o:Obj}{es:Array DictEntry}{ep i:Nat}
theorem aJW{Q:VSP}(hm:(d==sysModules)=false)(ho:s.heap.get? d=some o)(hc:o.ExactDict)(hd:o.data=.dict es ep)(q:Q (.ref s.heap.objs.size) { s with heap:=s.heap.push { cls:=.type "dict_keyiterator", data:=.fields #[.ref d,.int 0 0,.int es.size 0,.int ep 0] } }):wpAny (model prog w) A (pyIter (.ref d)) Q E s:=by
 have hT:s.TypeIs (.ref d) "dict" := ⟨o,ho,hc.1⟩;refine aS8 hT F.slot_dict_iter (aRG F.slot_dict_iter hT F.entry_dict_iter ?_ (F.args_dict_iter_1 (.ref d)));unfold Builtin.«dict.__iter__» Builtin.Dict.dictSlotNone;refine aP9 (aP9 (wpAny_notOrdered_dict hT (aP8 ?_)));show wpAny (model prog w) _ (Builtin.Dict.showsAll d >>= _) _ _ s;unfold Builtin.Dict.showsAll;rw[if_neg (λz=>by rw[hm] at z;cases z)]
 refine aP9 (aP8 (aP9 (aT7 ho hd (aP9 (aT8 ho hd ?_)))));refine aP9 (aRJ (aP8 ⟨.ref s.heap.objs.size,rfl, "dict_keyiterator", _,⟨_,aPO _ rfl,rfl⟩,F.slot_dict_keyiterator_next.lookup,?_⟩));simpa[rawInt] using q
theorem aJX{e:DictEntry}{Q:Option Value->Shared->Prop}(hit:s.heap.IsKeyIter it d i es.size ep)(ho:s.heap.get? d=some o)(hd:o.data=.dict es ep)(he:es[i]? = some e)(q:∀ h',h'.IsKeyIter it d (i+1) es.size ep->Heap.SameBut it s.heap h'->Q (some e.key) { s with heap:=h' }):wpAny (model prog w) A (pyNext (.ref it)) Q E s:=by
 obtain ⟨io,hio,hic,hid⟩:=id hit;obtain ⟨hlt,rfl⟩:=aSZ.mp he;unfold pyNext;refine aP9 (aTE (aRE (name:=Str.ofString "__next__") hit.typeIs aT9 (aRG aT9 hit.typeIs aUA ?_ (aUB (.ref it)))));refine aP9 (aP8 (aP9 (aP9 ?_)))
 first | refine aP9 (aUC hit.typeIs (aP8 (aP9 (aTF hio hid ?_)))) | refine aP9 (aUD hit.typeIs (aP8 (aP9 (aTF hio hid ?_))))
 simp only[show Builtin.Dict_items.ownsTuple "dict_keyiterator" = false by decide,aRZ,aQ9]
 show wpAny _ _ (if (Value.ref d==Value.none)=true then _ else _) _ _ s;rw[if_neg (λ(z:(Value.ref d==Value.none)=true)=>aQK z)];refine aP9 (aP8 (aP9 (aT7 ho hd ?_)));rw[if_neg (by simp)]
 refine aP9 (aP8 (aP9 (aT8 ho hd ?_)));rw[if_neg (by simp)]
 refine aP8 ?_;simp only[show ¬ ((i:Int)<0) from by omega,aQ9,aQ8,aTJ hlt]
 refine aP9 ?_
 first | refine aP9 (aUC hit.typeIs (aP8 (aP9 (aUE hit.typeIs ?_)))) | refine aP9 (aUD hit.typeIs (aP8 (aP9 (aUE hit.typeIs ?_))))
 show wpAny _ _ (setField (.ref it) 1 (rawInt ((i:Int)+1)) >>= _) _ _ s;refine aP9 (aS0 hio hid (by simp) ?_)
 have hit2:(s.heap.update it (Obj.mapFields (·.setIfInBounds 1 (rawInt ((i:Int)+1))))).IsKeyIter it d (i+1) es.size ep :=
  ⟨_,aS9 _ hio (aTA (aTB hid _)),(aTD ..).trans hic,by rw[aTB hid];simp[rawInt]⟩
 refine aP9 (aRD (aP9 (aUE (s:={ s with heap:=s.heap.update it (Obj.mapFields (·.setIfInBounds 1 (rawInt ((i:Int)+1)))) }) hit2.typeIs ?_)))
 show wpAny _ _ (pure es[i].key) _ _ _;exact aP8 (aP8 ⟨_,rfl,aP8 (q _ hit2 (aTC ..))⟩)
end
theorem aJY{prog:Program}{w:World}{A:Around}{E:VSP}{s:Shared}{d it:Addr}{o:Obj}{es:Array DictEntry}{ep i:Nat}{Q:Option Value->Shared->Prop}(hh:A.handled=none)(hit:s.heap.IsKeyIter it d i es.size ep)(ho:s.heap.get? d=some o)(hd:o.data=.dict es ep)(hi:es.size<=i)(q:∀ h',Heap.ExtBut it s.heap h'->Q none { s with heap:=h' }):wpAny (model prog w) A (pyNext (.ref it)) Q E s:=by
 obtain ⟨io,hio,hic,hid⟩:=id hit;unfold pyNext;refine aP9 (aTE (aRE (name:=Str.ofString "__next__") hit.typeIs aT9 (aRG aT9 hit.typeIs aUA ?_ (aUB (.ref it)))));refine aP9 (aP8 (aP9 (aP9 ?_)))
 first | refine aP9 (aUC hit.typeIs (aP8 (aP9 (aTF hio hid ?_)))) | refine aP9 (aUD hit.typeIs (aP8 (aP9 (aTF hio hid ?_))))
 simp only[show Builtin.Dict_items.ownsTuple "dict_keyiterator" = false by decide,aRZ,aQ9]
 show wpAny _ _ (if (Value.ref d==Value.none)=true then _ else _) _ _ s;rw[if_neg (λ(z:(Value.ref d==Value.none)=true)=>aQK z)];refine aP9 (aP8 (aP9 (aT7 ho hd ?_)));rw[if_neg (by simp)]
 refine aP9 (aP8 (aP9 (aT8 ho hd ?_)));rw[if_neg (by simp)]
 refine aP8 ?_;simp only[show ¬ ((i:Int)<0) from by omega,aQ9,aQ8,aTK hi]
 refine aP9 ?_
 first | refine aP9 (aUC hit.typeIs (aP8 ?_)) | refine aP9 (aUD hit.typeIs (aP8 ?_))
 show wpAny (model prog w) _ (setField (.ref it) 0 .none >>= _) _ _ s;refine aP9 (aS0 hio hid (by simp) ?_)
 show wpAny (model prog w) _ (newExc (.type "StopIteration") [] >>= _) _ _ _;refine aP9 ?_;simp only[newExc,newTuple];refine aP9 (aRJ (aP9 (m:=firstArgMember _ _) (wpAny_of_eq (a:=Value.none) (by first | rfl | (simp only[firstArgMember];rfl)) (aRJ ?_ (by size_fits)))) (by size_fits))
 simp only[raiseNew];refine aP9 (wpAny_handled ?_);rw[show A.in1.handled=none from hh]
 refine aP9 (aP8 (wpAny_throw ?_));refine aP9 (aRX (b:=true) (T := "StopIteration") ⟨_,aPO _ rfl,rfl⟩ isSubtype_stop ?_);exact aP8 (q _ (((aTC ..).extBut.push _).push _))
def Itn(d:Addr)(o:Obj)(xs:List (N×Addr×V)):It :=
 ⟨λi H=>H d=some (.frz o (.dN xs))/\i<xs.length,λi H x H'=>H'=H/\∃ p,xs[i]? = some p/\x=.ref p.2.1,λi H=>H d=some (.frz o (.dN xs))/\xs.length<=i⟩
theorem KN.nth{kvs:List (N×Addr×V)}{xs:List (N×Addr×Value)}(r:KN kvs xs):xs.length=kvs.length/\∀ (i:Nat) (p:N×Addr×V),kvs[i]? = some p->∃ u,xs[i]? = some (p.1,p.2.1,u):=by
 induction r with
 | nil=>exact ⟨rfl,λi p h=>by simp at h⟩
 | @cons a b as bs h t ih =>
  refine ⟨by simp[ih.1],λi p hp=>?_⟩
  cases i with
  | zero =>
   have hp:a=p:=by simpa using hp
   subst hp;refine ⟨b.2.2,?_⟩;rw[h.1,h.2.1];rfl
  | succ i=>have:=ih.2 i p (by simpa using hp);simpa using this
theorem rX{P:Program}{w:World}{H:Hp}{h:Heap}{d:Addr}{o:Obj}{xs:List (N×Addr×V)}(ok:HOk P w H h)(hd:H d=some (.frz o (.dN xs))):(d==sysModules)=false/\∃ es,h.get? d=some o/\o.ExactDict/\o.data=.dict es (epO o)/\es.size=xs.length/\∀ (i:Nat) (p:N×Addr×V),xs[i]? = some p->∃ e,es[i]? = some e/\e.key=.ref p.2.1:=by
 obtain ⟨g,z,y,vs,r,o',es,ep,h1,h2,h3,h4,h5⟩:=ok d _ hd;rw[g] at h1;cases h1;obtain ⟨l,n⟩:=KN.nth r;refine ⟨y,es,g,h2,by unfold epO;rw[h3],by rw[<- aP7,h4,aQ1,l],λi p hp=>?_⟩
 obtain ⟨u,hu⟩:=n i p hp;refine ⟨uO w (p.1,p.2.1,u),?_,rfl⟩;rw[<- aTP,h4,aQY,hu];rfl
theorem aJZ{P:Program}{w:World}{K:Fg}{tg:Expr}(d it:Addr)(o:Obj)(xs:List (N×Addr×V)):jT P w K tg (Itn d o xs) [it] it (λi h=>h.IsKeyIter it d i xs.length (epO o)) where
 mem:=by simp
 obj:=λi h st b hb=>by
  have e:b=it:=by simpa using hb
  subst e;obtain ⟨o,e,c,d⟩:=st;exact ⟨o,e,λv z=>by rw[d] at z;cases z⟩
 keep:=λi h h' st k=>st.at λo e=>k it (by simp) o e
 item:=by
  intro X hP hw hK hc i aA s σ H E I hf st hg;subst hP hw hK;obtain ⟨hd,hi⟩:=hg;obtain ⟨ns,es,g,hx,dt,sz,n⟩:=rX I.hok hd;obtain ⟨f0,f1,f2,f3,f4,f5⟩:=hf it (by simp)
  obtain ⟨e,he,ke⟩:=n i xs[i] (by simp[hi])
  rw[<- sz] at st;refine aJX st g dt he λh' hit' hs'=>?_;have I1:L2.Inv X aA σ H { s with heap:=h' }:=I.turned (t':=s.toks) (λb o hb e=>hs'.extBut b o hb e) f0 f1 f3 f4 f5
  rw[sz] at hit';obtain ⟨o1,e1,c1,d1⟩:=id hit';refine ⟨e.key,rfl,k7 (s:={ s with heap:=h' }) e1 c1 d1 (by decide) ⟨.ref xs[i].2.1,H,I1,ke,⟨rfl,xs[i],by simp[hi],rfl⟩,hit',λb hb=>(hf b hb).1⟩⟩
 done:=by
  intro X hP hw hK hc i aA s σ H E I hf st hg;subst hP hw hK;obtain ⟨hd,hi⟩:=hg;obtain ⟨ns,es,g,hx,dt,sz,n⟩:=rX I.hok hd;obtain ⟨f0,f1,f2,f3,f4,f5⟩:=hf it (by simp)
  exact aJY (I.ok.hd hc) (by rw[sz];exact st) g dt (by omega) λh' eb=>⟨rfl,I.turned (t':=s.toks) (λb o hb e=>eb b o hb e) f0 f1 f3 f4 f5⟩
 self:=λ_ _ _ _ _ st h=>wpAny_pyIter_keyiter st h
def iDn(tl:TE):TI:=λσ H R=>tl σ H λx H1=>∃ d o xs,x=.ref d/\H1 d=some (.frz o (.dN xs))/\R (Itn d o xs) H1
theorem pi_dn{X:Cx}{tg l:Expr}{tl:TE}(hl:PE X l tl):PI X tg l (iDn tl):=by
 intro aA s σ H R I h;refine thn (hl aA s σ H _ I h) λv s1 ⟨x,H1,I1,r1,q1⟩=>?_;obtain ⟨d,o,xs,e,hd,q⟩:=q1;subst e;cases r1;obtain ⟨ns,es,g,hx,dt,sz,n⟩:=rX I1.hok hd;refine aJW ns g hx dt ?_;rw[sz];have I2:L2.Inv X aA σ H1 { s1 with heap:=s1.heap.push { cls:=.type "dict_keyiterator", data:=.fields #[.ref d,.int 0 0,.int xs.length 0,.int (epO o) 0] } }:=I1.kept (t':=s1.toks) λb o e=>hps e
 refine ⟨s1.heap.objs.size,[s1.heap.objs.size],_,_,_,rfl,I2,aJZ d _ o xs,⟨_,aPO _ rfl,rfl,rfl⟩,λb hb=>?_,q⟩;have e:b=s1.heap.objs.size:=by simpa using hb
 subst e;exact I1.fpOk (aQC _) (I1.hok.fresh (aQC _))
theorem aP.nth{K:Fg}{F:Hp}:∀ {kvs:List (N×D)} {xs:List (N×Addr×V)},aP K F kvs xs->∀ (i:Nat) (p:N×Addr×V),xs[i]? = some p->∃ d,kvs[i]? = some (p.1,d)/\NAt K F p.1 (.ref p.2.1)
 | [],xs,h,i,p,e=>by simp only[aP] at h;subst h;simp at e
 | (k,d)::kvs,xs,h,i,p,e=>by
  simp only[aP] at h;obtain ⟨b,y,ys,rfl,q,r,t⟩:=h;cases i with
  | zero =>
   have e:(k,b,y)=p:=by simpa using e
   subst e;exact ⟨d,rfl,q.1⟩
  | succ i=>have:=t.nth i p (by simpa using e);simpa using this
theorem aJ0{K:Fg}{F:Hp}{a:Addr}{o:Obj}{kvs:List (N×D)}{xs:List (N×Addr×V)}(hf:F a=some (.frz o (.dN xs)))(r:aP K F kvs xs):lL K F (Itn a o xs) (kvs.map λkv=>nD kv.1) where
 go:=λi H s hi=>⟨s _ _ hf,by rw[r.len];simpa using hi⟩
 stop:=λi H s hi=>⟨s _ _ hf,by rw[r.len];simpa using hi⟩
 yld:=λi Fc H x H' s1 s2 hi y=>by obtain ⟨rfl,p,hp,rfl⟩:=y;obtain ⟨d,hd,hn⟩:=r.nth i p hp;exact ⟨Fc,nD p.1,by rw[aQY,hd];rfl,.refl s2,rM _ _ (NAt.mono s1 _ _ hn)⟩
def l6(r:Res):Res:=r.thn λ_ d=>match d with
 | .dtf kvs=>.ok .fz (.lst (kvs.map λkv=>nD kv.1))
 | _=>.stuck
theorem aJ1{C:Cw}{X:Cx}{tg e:Expr}{g:Rho->Res}(h:PV C X e g):PIv C X tg e (λρ=>l6 (g ρ)):=by
 refine PI.imp (pi_dn h) λσ H R q=>?_;obtain ⟨ρ,F,RS,w⟩:=q;dsimp only at w;unfold iDn;rw[a7];refine ⟨ρ,F,RS,?_⟩;unfold l6 at w;cases er:g ρ with
 | stuck=>rw[er] at w;exact w.elim
 | exc c=>rw[er] at w;exact w
 | ok m d =>
  rw[er,Res.thn_ok] at w;intro v F' H' st rp _;cases d with
  | dtf kvs =>
   cases m with
   | fz=>have rp:aB X.K F' (.dtf kvs) v:=rp;simp only[aB] at rp;obtain ⟨a,o,xs,rfl,hf,r⟩:=rp;exact ⟨a,o,xs,rfl,st.sub _ _ hf,w _ F' H' st (aJ0 hf r)⟩
   | fr=>obtain ⟨a,_,_,q⟩:=rp;exact q.elim
   | bo=>obtain ⟨a,_,_,q⟩:=rp;exact q.elim
  | _=>exact w.elim
def kC(ρ:Rho)(i:Nat):aG:=match ρ[i]? with
 | some (some (true,.dtn kvs))=>.nx (ρ.set i (some (false,.dtf kvs)))
 | _=>.stuck
theorem a5.nfrz{K:Fg}{F0 H0 F H:Hp}{σ:L2.St}{ρ:Rho}{i:Nat}{kvs:List (N×D)}{a:Addr}{xs:List (N×Addr×V)}(o:Obj)(R:a5 K F0 H0 F H σ ρ)(e:ρ[i]? = some (some (true,.dtn kvs)))(ev:σ[i]? = some (some (.ref a)))(hF:F a=none)(hH:H a=some (.dN xs))(h0:H0 a=none)(r:aP K F kvs xs):aE F (upd F a (.frz o (.dN xs)))/\a5 K F0 H0 (upd F a (.frz o (.dN xs))) (upd H a (.frz o (.dN xs))) σ (ρ.set i (some (false,.dtf kvs))):=by
 have sm:aE F (upd F a (.frz o (.dN xs))):=λb u q=>by rw[aU (cK q hF)];exact q
 have hi:i<ρ.length:=(aP1.mp e).1;have own:∀ {j:Nat} {d1:D},(ρ.set i (some (false,.dtf kvs)))[j]? = some (some (true,d1))->j≠i/\ρ[j]? = some (some (true,d1)):=λ{j d1} z=>by
  by_cases hj:j=i
  . subst hj;rw[aP2 hi] at z;cases z
  . rw[aP3 (λy=>hj y.symm)] at z;exact ⟨hj,z⟩
 refine ⟨sm,⟨λb u q=>?_,λb u q=>?_,λb u q=>?_,λb q1 q2=>?_⟩,λj m d' ej=>?_,λj k d1 d2 b hjk e1 e2 q1 q2=>R.apart j k d1 d2 b hjk (own e1).2 (own e2).2 q1 q2,by rw[aSG];exact R.len⟩
 . rw[aU (cK q h0)];exact R.st.same b u q
 . rw[aU (cK (R.st.fsame b u q) hF)];exact R.st.fsame b u q
 . by_cases hb:b=a
   . subst hb;rw[bQ] at q ⊢;exact q
   . rw[aU hb] at q ⊢;exact R.sub b u q
 . have:b≠a:=λz=>q2 (by rw[z];exact h0)
   rw[aU this];exact R.st.new b q1 q2
 . by_cases hj:j=i
   . subst hj;rw[aP2 hi] at ej;cases ej;refine ⟨.ref a,ev,?_,by intro z;cases z⟩
     show aB K _ (.dtf kvs) _;simp only[aB];exact ⟨a,o,xs,rfl,bQ,r.mono sm _ _⟩
   . rw[aP3 (λz=>hj z.symm)] at ej;obtain ⟨v',ev',rp',hn'⟩:=R.slot j m d' ej;refine ⟨v',ev',?_,hn'⟩;cases m with
     | false=>exact aB.mono sm _ _ rp'
     | true =>
      obtain ⟨b,rfl,nb,t'⟩:=rp';have ab:b≠a:=λz=>by subst z;exact R.apart j i d' _ b hj ej e ev' ev
      refine ⟨b,rfl,by rw[aU ab];exact nb,?_⟩
      cases d' with
      | lst ds=>obtain ⟨ys,q,rr⟩:=t';exact ⟨ys,by rw[aU ab];exact q,rr.mono sm _ _⟩
      | dct ds=>obtain ⟨ys,q,rr⟩:=t';exact ⟨ys,by rw[aU ab];exact q,rr.mono sm _ _⟩
      | ins c fs=>obtain ⟨C,dx,gs,n,q,rr⟩:=t';exact ⟨C,dx,gs,n,by rw[aU ab];exact q,rr.mono sm _ _⟩
      | set ks=>obtain ⟨S,q,rr⟩:=t';exact ⟨S,by rw[aU ab];exact q,rr⟩
      | dtn ds=>obtain ⟨ys,q,rr⟩:=t';exact ⟨ys,by rw[aU ab];exact q,rr.mono sm _ _⟩
      | _=>exact t'.elim
theorem aJ2{C:Cw}{X:Cx}{sts:List Stmt}{i:Nat}{g:Rho->aG}(h:PBv C X sts g):PBv C X sts (λρ=>(kC ρ i).thn g):=by
 intro aA s σ H E I q;obtain ⟨ρ,F,R,w⟩:=q;dsimp only at w;unfold kC at w;split at w
 . rename_i kvs e;obtain ⟨v,ev,rp,hn⟩:=R.slot i true _ e;obtain ⟨a,rfl,hF,xs,hH,r⟩:=rp;have ok:=I.hok a _ hH;obtain ⟨_,_,_,_,o,_,_,g1,_⟩:=id ok;have I2:=I.write (x:=a) (e:=a) (o:=.frz o (.dN xs)) (t':=s.toks) (h':=s.heap) (by rw[hH];exact trivial) (.inl rfl) (λ_ _ _ q=>q) ⟨_,g1⟩ ⟨g1,ok.stay (λ_ _ _ q=>q) (λc q=>by rw[aU (λz=>by rw[z,hH] at q;cases q)];exact q) λc ys q=>by rw[aU (λz=>by rw[z,hH] at q;cases q)];exact q⟩
   obtain ⟨sm,R2⟩:=a5.nfrz o R e ev hF hH (hn rfl a rfl) r;exact h aA s σ _ E I2 ⟨_,_,R2,cR.mono sm w⟩
 . exact w.elim
theorem slot0{t:SetTable}(hp:t.place = #[])(hd:t.dummies = #[])(j:Nat):t.slot j=.empty:=by unfold SetTable.slot SetTable.has;rw[hp,hd];rfl
theorem rY(j1 j:Nat):SetTable.below #[j1] j=if j1<j then 1 else 0:=by
 show SetTable.below.go #[j1] j 1 0 1=_;unfold SetTable.below.go;rw[if_pos (by decide)]
 show (if (#[j1]:Array Nat).getD 0 j<j then SetTable.below.go #[j1] j 0 1 1 else SetTable.below.go #[j1] j 0 0 0)=_;have e:(#[j1]:Array Nat).getD 0 j=j1:=rfl;rw[e];by_cases h:j1<j
 . rw[if_pos h,if_pos h];rfl
 . rw[if_neg h,if_neg h];rfl
theorem rZ{t:SetTable}{j1:Nat}(hp:t.place = #[j1])(hd:t.dummies = #[])(j:Nat):t.slot j=if j=j1 then .live 0 else .empty:=by
 unfold SetTable.slot;rw[hp,hd,rY];by_cases h:j=j1
 . subst h;rw[if_pos rfl,if_neg (aPR _)];simp
 . rw[if_neg h];by_cases h2:j1<j
   . rw[if_pos h2];rfl
   . rw[if_neg h2];have:((#[j1]:Array Nat)[0]?==some j)=false:=by simp;exact λe=>h e.symm
     simp only[this,aRZ,aQ9];rfl
def jC(t:SetTable)(j1:Nat):Nat->SetTable.Probe->Prop
 | 0,p=>p.j≠j1
 | g+1,p=>p.j≠j1\/jC t j1 g (t.advance p)
theorem adv7{t:SetTable}(hm:t.mask=7){p:SetTable.Probe}(h0:p.more=0):t.advance p={ p with j:=(p.i * 5+1+p.perturb / 32) % 8,more:=0,i:=(p.i * 5+1+p.perturb / 32) % 8,perturb:=p.perturb / 32 }:=by
 unfold SetTable.advance SetTable.leap SetTable.runEnd;rw[h0,hm];simp only[aPR,gt_iff_lt,aQ9];have:¬ (p.i * 5+1+p.perturb / 32) % (7+1)+9<=7:=by omega
 rw[if_neg this,Nat.sub_self]
theorem yB{t:SetTable}(hm:t.mask=7)(j1:Nat):∀ (g:Nat) (p:SetTable.Probe),p.more=0->p.j=p.i->p.perturb<32 ^ g->p.i<8->jC t j1 (g+1) p
 | 0,p,h0,hj,hp,h8=>by
  by_cases e:p.j=j1
  . right;show (t.advance p).j≠j1;rw[adv7 hm h0];show (p.i * 5+1+p.perturb / 32) % 8≠j1;have:p.perturb=0:=by simpa using hp
    rw[this];omega
  . left;exact e
 | g+1,p,h0,hj,hp,h8=>by
  right;rw[adv7 hm h0];refine yB hm j1 g _ rfl rfl ?_ ?_
  . show p.perturb / 32<32 ^ g;rw[Nat.pow_succ] at hp;exact Nat.div_lt_of_lt_mul (by rw[Nat.mul_comm];exact hp)
  . show (p.i * 5+1+p.perturb / 32) % 8<8;omega
theorem aJ3{t:SetTable}(hm:t.mask=7)(j1:Nat)(h:Int):jC t j1 14 (t.probeStart h):=by
 refine yB hm j1 13 _ ?_ rfl ?_ ?_
 . show SetTable.runEnd t.mask (SetTable.bits h % (t.mask+1))-SetTable.bits h % (t.mask+1)=0;unfold SetTable.runEnd;rw[hm,if_neg (by omega),Nat.sub_self]
 . show SetTable.bits h<32 ^ 13;have:SetTable.bits h<2 ^ 64:=by unfold SetTable.bits;omega
   exact aPQ this (by decide)
 . show SetTable.bits h % (t.mask+1)<8;rw[hm];omega
theorem go1{t:SetTable}{j1:Nat}(hm:t.mask=7)(hp:t.place = #[j1])(hd:t.dummies = #[])(f:Nat->Int)(h:Int):∀ (n g:Nat) (p:SetTable.Probe),p.dummy=none->jC t j1 g p->g<n->(∃ j,SetTable.probe.go t f h n p=some (.empty j none)/\j≠j1)\/(f 0==h)=true/\∃ next g',g'<g/\next.dummy=none/\jC t j1 g' next/\SetTable.probe.go t f h n p=some (.candidate j1 0 next)
 | 0,g,p,_,_,h2=>by omega
 | n+1,g,p,h0,h1,h2=>by
  unfold SetTable.probe.go;rw[rZ hp hd];by_cases e:p.j=j1
  . rw[if_pos e];cases g with
    | zero=>exact absurd e h1
    | succ g =>
     have h1:jC t j1 g (t.advance p):=h1.resolve_left λz=>z e;have da:(t.advance p).dummy=none:=by
      unfold SetTable.advance;split
      . exact h0
      . exact h0
     dsimp only;by_cases hf:(f 0==h)=true
     . rw[if_pos hf];exact .inr ⟨hf,_,g,aQN g,da,h1,by rw[e]⟩
     . rw[if_neg hf];rcases go1 hm hp hd f h n g _ da h1 (by omega) with q | ⟨q,_⟩
       . exact .inl q
       . exact absurd q hf
  . rw[if_neg e];exact .inl ⟨p.j,by dsimp only;rw[h0],e⟩
section
variable {prog:Program}{w:World}{A:Around}{E:VSP}{s:Shared}
theorem yC(k:N):∀ {n:Nat} {v:Value} {Q:Bool->Shared->Prop},IsN s.heap k v->(∀ b,Q b s)->wpAny (model prog w) A (hashByValue n v) Q E s:=by
 induction k using N.ind with
 | hi m=>intro n v Q hk h;rw[IsN] at hk;obtain ⟨t,rfl⟩:=hk;cases n <;> exact aP8 (h _)
 | hs x=>intro n v Q hk h;rw[IsN] at hk;obtain ⟨⟨t,rfl⟩,_⟩:=hk;cases n <;> exact aP8 (h _)
 | ht xs ih =>
  intro n v Q hk h;rw[IsN] at hk;obtain ⟨a,o,items,c,rfl,ho,hc,hd,hi⟩:=hk;cases n with
  | zero=>exact aP8 (h _)
  | succ n =>
   have hT:s.TypeIs (.ref a) "tuple" := ⟨o,ho,hc⟩;unfold hashByValue;refine aP9 (aRT hT F.slot_tuple_hash.lookup ?_);dsimp only;unfold seqItems?;refine aP9 (aP9 (aQA ho ?_));rw[hd];refine aP8 ?_;refine aP9 ?_;show wpAny _ _ (forIn items _ _) _ _ s;rw[<- aRU];refine aRV _ (λaN r s'=>s'=s/\∀ v∈aN,∃ x∈xs,IsN s.heap x v) _ ?_ ?_ _ _ ⟨rfl,hi.mem⟩
   . rintro v aN r s' ⟨rfl,hall⟩;obtain ⟨x,hx,hv⟩:=hall v mcs;refine aP9 (ih x hx (n:=n) hv λb=>?_);cases b with
     | true=>exact aP8 ⟨rfl,λu hu=>hall u (mcm hu)⟩
     | false=>exact aP8 (by first | exact ⟨rfl,λu hu=>hall u (mcm hu)⟩ | exact aP8 (h _))
   . rintro ⟨r1,r2⟩ s' ⟨rfl,_⟩;cases r1 with
     | none=>exact aP8 (h _)
     | some b=>exact aP8 (h _)
theorem yD(k:N):∀ {n:Nat} {v:Value} {Q:Bool->Shared->Prop},k.dp<=n->IsN s.heap k v->Q false s->wpAny (model prog w) A (ofAClassStatement n v) Q E s:=by
 induction k using N.ind with
 | hi m=>intro n v Q hn hk h;rw[IsN] at hk;obtain ⟨t,rfl⟩:=hk;cases n <;> exact aP8 h
 | hs x=>intro n v Q hn hk h;rw[IsN] at hk;obtain ⟨⟨t,rfl⟩,_⟩:=hk;cases n <;> exact aP8 h
 | ht xs ih =>
  intro n v Q hn hk h;rw[IsN] at hk;obtain ⟨a,o,items,c,rfl,ho,hc,hd,hi⟩:=hk;rw[N.dp] at hn;cases n with
  | zero=>omega
  | succ n =>
   have hT:s.TypeIs (.ref a) "tuple" := ⟨o,ho,hc⟩;unfold ofAClassStatement;refine aP9 (aRH hT ?_);dsimp only;rw[if_pos (by decide)]
   refine aP9 (aP8 ?_);simp only[aRY,aRZ,aQ9];unfold seqItems?;refine aP9 (aP9 (aQA ho ?_));rw[hd];refine aP8 ?_;dsimp only;refine aP9 ?_;rw[<- aRU];refine aRV _ (λaN r s'=>r.1=none/\s'=s/\∀ v∈aN,∃ x∈xs,IsN s.heap x v) _ ?_ ?_ _ _ ⟨rfl,rfl,hi.mem⟩
   . rintro v aN r s' ⟨hr,rfl,hall⟩;obtain ⟨x,hx,hv⟩:=hall v mcs;refine aP9 (ih x hx (n:=n) (by have:=N.dp_mem hx;omega) hv ?_)
     simp only[aRZ,aQ9];exact aP8 ⟨rfl,rfl,λu hu'=>hall u (mcm hu')⟩
   . rintro ⟨r1,r2⟩ s' ⟨hr,rfl,_⟩;simp only at hr;subst hr;exact aP8 h
theorem aJ4{x y:N}{b c:Addr}{Q:Bool->Shared->Prop}(dx:x.dp<=8)(dy:y.dp<=8)(hx:IsN s.heap x (.ref b))(hy:IsN s.heap y (.ref c))(q:Q false s):wpAny (model prog w) A (searchCouldBeSeen (.ref b) [.ref c]) Q E s:=by
 unfold searchCouldBeSeen;refine aP9 ?_;refine aRV _ (λaN r s'=>r.1=none/\s'=s/\(aN=[]\/aN=[.ref c])) _ ?_ ?_ _ _ ⟨rfl,rfl,.inr rfl⟩
 . rintro v aN r s' ⟨hr,rfl,hl⟩;rcases hl with hl | hl
   . cases hl
   . cases hl;dsimp only;by_cases e:(b==c||carriedByValue (.ref b)&&carriedByValue (.ref c))=true
     . rw[if_pos e];exact aP8 ⟨rfl,rfl,by first | exact .inl rfl | simp⟩
     . rw[if_neg e];refine aP9 (qK x dx hx ?_);simp only[aRY,aRZ,aQ9];refine aP9 (qK y dy hy ?_);simp only[aRY,aRZ,aQ9];refine aP9 (yD x dx hx ?_);simp only[aRZ,aQ9];refine aP9 (yD y dy hy ?_);simp only[aRZ,aQ9];exact aP8 ⟨rfl,rfl,by first | exact .inl rfl | simp⟩
 . rintro ⟨r1,r2⟩ s' ⟨hr,rfl,_⟩;simp only at hr;subst hr;exact aP8 q
end
def cP(w:World)(p:N×Addr):Int×Value:=(bB w p.1,.ref p.2)
def dH(h:Heap)(p:N×Addr):Prop:=IsN h p.1 (.ref p.2)/\p.1.dp<=8
def cC(w:World)(h:Heap)(a:Addr)(ps:List (N×Addr)):Prop:=∃ o es ep t,h.get? a=some o/\o.ExactSet/\o.data=.set es ep t/\es.toList=ps.map (cP w)/\ps.length<=2/\t.fits es.size=true/\t.led = !dW w/\PlOk t
def jD(w:World)(h:Heap)(a:Addr)(p:N×Addr):Prop:=∃ o ep t,h.get? a=some o/\o.ExactSet/\o.data=.set #[cP w p] ep t/\t.mask=7/\t.dummies = #[]/\t.place = #[SetTable.bits (bB w p.1) % 8]/\t.led = !dW w
section
variable {prog:Program}{w:World}{A:Around}{E:VSP}{s:Shared}{a b c:Addr}{x y:N}
theorem yE{t:SetTable}{p:N×Addr}(hm:t.mask=7)(hd:t.dummies = #[])(hp:t.place = #[SetTable.bits (bB w p.1) % 8]):t.fits (#[cP w p]:Array (Int×Value)).size=true:=by unfold SetTable.fits SetTable.fill;rw[hm,hd,hp];rfl
theorem srch0{Q:SetFound->Shared->Prop}{o:Obj}{ep:Nat}{t:SetTable}{h:Int}(ho:s.heap.get? a=some o)(hd:o.data=.set #[] ep t)(hm:t.mask=7)(hp:t.place = #[])(hdu:t.dummies = #[])(q:Q (.free (SetTable.bits h % 8) false) s):wpAny (model prog w) A (setSearch a (.ref b) h (adding:=true)) Q E s:=by
 have hf:t.fits (#[]:Array (Int×Value)).size=true:=by unfold SetTable.fits SetTable.fill;rw[hm,hp,hdu];rfl
 unfold setSearch setSearchFrom;refine aP9 (aTI ho hd hf ?_);dsimp only;have gw:t.gaveWay=false:=by unfold SetTable.gaveWay;rw[hm];rfl
 rw[gw];simp only[aRZ,aQ9];have e:∀ f:Nat->Int,t.probe f h (t.probeStart h)=some (.empty (SetTable.bits h % 8) none):=λf=>by unfold SetTable.probe;rw[hm];show SetTable.probe.go t f h (219+1) _=_;unfold SetTable.probe.go;rw[slot0 hp hdu];show some (SetTable.Met.empty (SetTable.bits h % (t.mask+1)) none)=_;rw[hm]
 rw[aRK,e];exact aP8 q
theorem srch1{Q:SetFound->Shared->Prop}{o:Obj}{ep:Nat}{t:SetTable}{j1:Nat}(hu:A.units+8<cLine)(ho:s.heap.get? a=some o)(hd:o.data=.set #[cP w (y,c)] ep t)(hm:t.mask=7)(hp:t.place = #[j1])(hdu:t.dummies = #[])(kx:dH s.heap (x,b))(ky:dH s.heap (y,c))(q1:x=y->Q (.there none) s)(q2:∀ j,j≠j1->x≠y->Q (.free j false) s)(first:SetTable.bits (bB w y) % 8=j1):∀ (g fuel:Nat) (stand:Option SetTable.Probe),(stand.getD (t.probeStart (bB w x))).dummy=none->jC t j1 g (stand.getD (t.probeStart (bB w x)))->g<200->g<fuel->(stand=none\/x≠y)->wpAny (model prog w) A (setSearchFrom a (.ref b) (bB w x) true fuel stand) Q E s:=by
 intro g
 induction g using Nat.strongRecOn with
 | ind g ih =>
 intro fuel stand d0 lv g2 gf once;cases fuel with
 | zero=>omega
 | succ fuel =>
 have hf:t.fits (#[cP w (y,c)]:Array (Int×Value)).size=true:=by unfold SetTable.fits SetTable.fill;rw[hm,hp,hdu];rfl
 unfold setSearchFrom;refine aP9 (aTI ho hd hf ?_);dsimp only;have gw:t.gaveWay=false:=by unfold SetTable.gaveWay;rw[hm];rfl
 rw[gw];simp only[aRZ,aQ9];have f0:∀ f:Nat->Int,t.probe f (bB w x) (stand.getD (t.probeStart (bB w x)))=SetTable.probe.go t f (bB w x) 220 (stand.getD (t.probeStart (bB w x))):=λf=>by unfold SetTable.probe;rw[hm];rfl
 rw[f0];rcases go1 hm hp hdu _ (bB w x) 220 g _ d0 lv (by omega) with ⟨j,e,nj⟩ | ⟨hq,next,g',l1,l2,l3,e⟩
 . rw[e];refine aP8 (q2 j nj λexy=>?_);rcases once with once | once
   . subst once;subst exy;rw[aRK] at e;have:SetTable.probe.go t _ (bB w x) (219+1) (t.probeStart (bB w x))=some (.empty j none):=e;unfold SetTable.probe.go at this;have ej:(t.probeStart (bB w x)).j=j1:=by show SetTable.bits (bB w x) % (t.mask+1)=j1;rw[hm];exact first
     rw[rZ hp hdu,ej,if_pos rfl] at this;dsimp only at this;rw[if_pos (by first | rfl | exact aSO _)] at this
     cases this
   . exact once exy
 . rw[e];dsimp only;have seen:∀ {R:Bool->Shared->Prop} {E':VSP},R false s->wpAny (model prog w) A (searchCouldBeSeen (.ref b) (((#[cP w (y,c)]:Array (Int×Value)).filter (·.1==bB w x)).toList.map (·.2))) R E' s:=λ{R E'} r=>by
     have ef:((#[cP w (y,c)]:Array (Int×Value)).filter (·.1==bB w x)).toList.map (·.2)=[.ref c]:=by have hq:(bB w y==bB w x)=true:=hq;simp[cP,hq]
     rw[ef];exact aJ4 kx.2 ky.2 kx.1 ky.1 r
   refine aTO (λ_=>aP9 (seen ?_)) (λ_=>?_)
   all_goals
    first | rw[if_neg aQK] | skip
    show wpAny _ _ (holding [Value.ref c] (eqBool (.ref c) (.ref b)) >>= _) _ _ _;refine aP9 (aRD (qJ (x:=y) (y:=x) (by have:=ky.2;dsimp only at this;omega) ky.1 kx.1 (aP9 (aTI ho hd hf ?_))))
    dsimp only;by_cases exy:y=x
    . rw[if_pos (by rw[aRO exy];rfl)]
      exact aP8 (q1 exy.symm)
    . rw[if_neg (by rw[aPL exy];decide)]
      have em:t.sameMemory t.moves t.mask=some true:=by unfold SetTable.sameMemory;rw[if_pos (aSO _)]
      rw[em];dsimp only;rw[if_pos rfl,rZ hp hdu,if_pos rfl];show wpAny _ _ (isSame (.ref c) (.ref c) >>= _) _ _ _;refine aP9 (wpAny_isSame_ref_self (aP9 (aP8 ?_)));rw[if_pos rfl];dsimp only;rw[if_neg (by rw[aPL exy];decide)]
      exact ih g' l1 fuel (some next) l2 l3 (by omega) (by omega) (.inr λz=>exy z.symm)
theorem yF{o:Obj}{es es':Array (Int×Value)}{ep:Nat}{t t':SetTable}{h:Heap}(ho:h.get? a=some o)(hd:o.data=.set es ep t):(h.update a (Obj.putSet es' t')).get? a=some { o with data:=.set es' (ep+1) t' }:=by obtain ⟨oc,od,odata,os⟩:=o;dsimp only at hd;subst hd;exact aS9 (Obj.putSet es' t') ho rfl
theorem aJ5{Q:Bool->Shared->Prop}(hu:A.units+8<cLine)(g0:s.heap.get? a=some (sob w))(kx:dH s.heap (x,b))(q:∀ h',Heap.SameBut a s.heap h'->jD w h' a (x,b)->Q true { s with heap:=h',toks:=s.toks+x.dr }):wpAny (model prog w) A (setAdd a (.ref b)) Q E s:=by
 unfold setAdd;refine aRD (aP9 (qI x (by have:=kx.2;dsimp only at this;omega) kx.1 ?_))
 unfold setAddHashed setAddHashedIn;refine aRD (aP9 (aTI (s:={ s with toks:=s.toks+x.dr }) g0 rfl rfl ?_))
 dsimp only;rw[if_neg (λz=>by cases z)]
 refine aP9 (srch0 (s:={ s with toks:=s.toks+x.dr }) g0 rfl rfl rfl rfl ?_)
 dsimp only;refine aP9 (aTI (s:={ s with toks:=s.toks+x.dr }) g0 rfl rfl ?_)
 dsimp only;have hb:∀ {R:Bool->Shared->Prop} {E':VSP},(∀ v,R v { s with toks:=s.toks+x.dr })->wpAny (model prog w) A (if ((SetTable.fresh 0 0 (!dW w)).put (SetTable.bits (bB w x) % 8)).1.plain=true then hashByValue 8 (.ref b) else pure true) R E' { s with toks:=s.toks+x.dr }:=λ{R E'} r=>by
  split
  . exact yC x kx.1 r
  . exact aP8 (r _)
 refine aP9 (hb λv=>?_);refine aP9 (wpAny_storeSet_of (s:={ s with toks:=s.toks+x.dr }) g0 rfl ?_ (by show 1<=_;decide))
 have fin:∀ t':SetTable,t'.mask=7->t'.dummies = #[]->t'.place = #[SetTable.bits (bB w x) % 8]->t'.led = !dW w->Q true { s with heap:=s.heap.update a (Obj.putSet (SetTable.insertAt #[] 0 (bB w x,Value.ref b)) t'),toks:=s.toks+x.dr }:=λt' h1 h2 h3 h4 =>
  q _ (aTC ..) ⟨_,_,t',yF g0 rfl,⟨rfl,rfl,rfl⟩,rfl,h1,h2,h3,h4⟩
 cases v with
 | true=>exact aP8 (fin _ rfl rfl rfl rfl)
 | false=>exact aP8 (fin _ rfl rfl rfl rfl)
theorem ins1{α:Type}(e f:α)(p:Nat)(hp:p<=1):(SetTable.insertAt #[e] p f).toList.Perm [e,f]:=by
 have:p=0\/p=1:=by omega
 rcases this with rfl | rfl
 . exact List.Perm.swap _ _ _
 . exact aT1 _
theorem jD.sn{h:Heap}{p:N×Addr}(X:jD w h a p):cC w h a [p]:=by obtain ⟨o,ep,t,ho,hex,hd,hm,hdu,hp,hl⟩:=X;exact ⟨o,_,ep,t,ho,hex,hd,rfl,aSR 1,yE hm hdu hp,hl,.inr ⟨hdu,by rw[hp];exact aT2 _ _⟩⟩
theorem jD.kept{h h':Heap}{p:N×Addr}(X:jD w h a p)(k:∀ o,h.get? a=some o->h'.get? a=some o):jD w h' a p:=by obtain ⟨o,ep,t,ho,r⟩:=X;exact ⟨o,ep,t,k o ho,r⟩
theorem cC.kept{h h':Heap}{ps:List (N×Addr)}(X:cC w h a ps)(k:∀ o,h.get? a=some o->h'.get? a=some o):cC w h' a ps:=by obtain ⟨o,es,ep,t,ho,r⟩:=X;exact ⟨o,es,ep,t,k o ho,r⟩
theorem aJ6{Q:Bool->Shared->Prop}(hu:A.units+8<cLine)(X:jD w s.heap a (y,c))(kx:dH s.heap (x,b))(ky:dH s.heap (y,c))(q:∀ v h' ps,Heap.SameBut a s.heap h'->cC w h' a ps->(if x=y then ps=[(y,c)] else ps.Perm [(y,c),(x,b)])->Q v { s with heap:=h',toks:=s.toks+x.dr }):wpAny (model prog w) A (setAdd a (.ref b)) Q E s:=by
 obtain ⟨o,ep,t,ho,hex,hd,hm,hdu,hp,hl⟩:=id X;have hf:=yE (w:=w) (p:=(y,c)) hm hdu hp;unfold setAdd;refine aRD (aP9 (qI x (by have:=kx.2;dsimp only at this;omega) kx.1 ?_))
 unfold setAddHashed setAddHashedIn;refine aRD (aP9 (aTI (s:={ s with toks:=s.toks+x.dr }) ho hd hf ?_))
 dsimp only;rw[if_neg (λz=>by cases z)]
 unfold setSearch;refine aP9 (srch1 (s:={ s with toks:=s.toks+x.dr }) hu ho hd hm hp hdu kx ky (λexy=>?_) (λj nj nxy=>?_) rfl 14 100000 none rfl (aJ3 hm _ _) (by decide) (by decide) (.inl rfl))
 . dsimp only;exact aP8 (q false s.heap [(y,c)] (Heap.SameBut.refl a s.heap) X.sn (by rw[if_pos exy]))
 . dsimp only;refine aP9 (aTI (s:={ s with toks:=s.toks+x.dr }) ho hd hf ?_)
   dsimp only
   suffices key : ∀ v : Bool, wpAny (model prog w) A (do
       storeSet a (SetTable.insertAt #[cP w (y,c)] (t.put j).2 (bB w x,Value.ref b)) (if v=true then (t.put j).1 else { (t.put j).1 with plain:=false })
       if (!false && (if v = true then (t.put j).1 else { (t.put j).1 with plain := false }).tooFull) = true then do
           setRelay a (SetTable.grown ((#[cP w (y,c)]:Array (Int×Value)).size+1))
           pure true
        else pure true) Q E { s with toks:=s.toks+x.dr } from
    aTO (λ_=>aP9 (yC x kx.1 key)) (λ_=>aP9 (aP8 (key true)))
   intro v;have rs:eT t.place:=by rw[hp];exact aT2 _ _
   have hn:t.place[SetTable.below t.place j]?≠some j:=by
    rw[hp,rY];split
    . simp
    . intro z;have z:SetTable.bits (bB w y) % 8=j:=by simpa using z
      exact nj z.symm
   obtain ⟨k1,k2⟩:=aI5 hdu rs hn;have pb:(t.put j).2<=1:=by show SetTable.below t.place j<=1;rw[hp,rY];split <;> decide
   have pe:(SetTable.insertAt #[cP w (y,c)] (t.put j).2 (bB w x,Value.ref b)).toList.Perm [cP w (y,c),cP w (x,b)]:=ins1 _ _ _ pb;have sz:(SetTable.insertAt #[cP w (y,c)] (t.put j).2 (bB w x,Value.ref b)).size=2:=by rw[<- aP7,pe.length_eq];rfl
   have pz:(t.put j).1.place.size=2:=by show (SetTable.insertAt t.place (SetTable.below t.place j) j).size=2;have:=ins1 (SetTable.bits (bB w y) % 8) j (SetTable.below t.place j) pb;rw[hp] at this ⊢;rw[<- aP7,this.length_eq];rfl
   have hl2:(t.put j).1.led = !dW w:=hl;have hm2:(t.put j).1.mask=7:=hm;generalize (t.put j).1=t1 at *;generalize SetTable.insertAt #[cP w (y,c)] (t.put j).2 (bB w x,Value.ref b)=es1 at *;refine aP9 (wpAny_storeSet_of (s:={ s with toks:=s.toks+x.dr }) ho hd ?_ (by rw[sz];decide))
   obtain ⟨ps,pp,ee⟩:∃ ps:List (N×Addr),ps.Perm [(y,c),(x,b)]/\es1.toList=ps.map (cP w):=by
    have l2:es1.toList.length=2:=by rw[aP7];exact sz
    match es1.toList,l2,pe with
    | [u,v],_,pe =>
     rcases aPY.mp (pe.mem_iff.mp (show u∈[u,v] from mcs)) with e | e
     . subst e;have:=pe.cons_inv;have e2:v=cP w (x,b):=by simpa using this.mem_iff.mp (aSV.mpr rfl)
       subst e2;exact ⟨_,.refl _,rfl⟩
     . have e:u=cP w (x,b):=by simpa using e
       subst e;have:=(pe.trans (List.Perm.swap _ _ _)).cons_inv;have e2:v=cP w (y,c):=by simpa using this.mem_iff.mp (aSV.mpr rfl)
       subst e2;exact ⟨[(x,b),(y,c)],List.Perm.swap _ _ _,rfl⟩
   have fin:∀ t2:SetTable,t2.mask=7->t2.dummies = #[]->eT t2.place->t2.place.size=2->t2.led = !dW w->Q true { s with heap:=s.heap.update a (Obj.putSet es1 t2),toks:=s.toks+x.dr }:=λt2 h1 h2 h3 h4 h5 =>
    q true _ ps (aTC ..) ⟨_,es1,_,t2,yF ho hd,hex,rfl,ee,by rw[pp.length_eq];exact aQC 2,by unfold SetTable.fits SetTable.fill;rw[h1,h2,h4,sz];rfl,h5,.inr ⟨h2,h3⟩⟩ (by rw[if_neg nxy];exact pp)
   have tf:∀ t2:SetTable,t2.mask=7->t2.dummies = #[]->t2.place.size=2->(!false&&t2.tooFull)=false:=λt2 h1 h2 h4=>by unfold SetTable.tooFull SetTable.fill;rw[h1,h2,h4];rfl
   cases v with
   | true =>
    have e:(if true=true then t1 else { t1 with plain:=false })=t1:=rfl
    rw[e,tf t1 hm2 k1 pz];exact aP8 (fin t1 hm2 k1 k2 pz hl2)
   | false =>
    have e:(if false=true then t1 else { t1 with plain:=false })={ t1 with plain:=false }:=rfl
    rw[e,tf { t1 with plain:=false } hm2 k1 pz]
    exact aP8 (fin { t1 with plain:=false } hm2 k1 k2 pz hl2)
end
theorem l7{α β:Type}{f:α->β}:∀ {l:List β} {ps:List α},l.Perm (ps.map f)->∃ qs:List α,qs.Perm ps/\l=qs.map f
 | [],ps,h=>by
  have:=h.symm.eq_nil;have e:ps=[]:=by simpa using this
  subst e;exact ⟨[],.refl _,rfl⟩
 | x::l,ps,h=>by obtain ⟨p,hp,rfl⟩:=aUF.mp (h.mem_iff.mp mcs);obtain ⟨s,t,rfl⟩:=List.append_of_mem hp;have pm:(s++p::t).Perm (p::(s++t)):=List.perm_middle;obtain ⟨qs,q1,q2⟩:=l7 ((h.trans (pm.map f)).cons_inv);exact ⟨p::qs,(q1.cons p).trans pm.symm,by rw[q2];rfl⟩
theorem dH.kept{h h':Heap}{p:N×Addr}(k:dH h p)(kp:∀ a o,h.get? a=some o->o.cls=.type "tuple" -> h'.get? a=some o):dH h' p:=⟨IsN.kept _ k.1 kp,k.2⟩
theorem cC.there{w:World}{h:Heap}{a:Addr}{ps:List (N×Addr)}(x:cC w h a ps):a<h.objs.size:=by obtain ⟨o,es,ep,t,ho,r⟩:=x;exact aPP ho
theorem cC.ty{w:World}{s:Shared}{a:Addr}{ps:List (N×Addr)}(x:cC w s.heap a ps):s.TypeIs (.ref a) "set" := by obtain ⟨o,es,ep,t,ho,hex,r⟩:=x;exact ⟨o,ho,hex.1⟩
def Two(k1 k2:N)(b1 b2:Addr)(ps:List (N×Addr)):Prop:=if k2=k1 then ps=[(k1,b1)] else ps.Perm [(k1,b1),(k2,b2)]
section
variable {prog:Program}{w:World}{A:Around}{E:VSP}{s:Shared}{k1 k2:N}{b1 b2:Addr}
theorem aJ7{R:Result->Shared->Prop}{I:Addr}{fp:List Addr}{P:Nat->Value->Prop}{St:Nat->Heap->Prop}(hu:A.units+16<cLine)(W:Walks prog w A.in1 I fp [I] 2 P St)(p1:∀ v,P 0 v->v=.ref b1)(p2:∀ v,P 1 v->v=.ref b2)(S:Addr)(hSf:S∉fp)(hst:St 0 s.heap)(g0:s.heap.get? S=some (sob w))(hI:∀ o,s.heap.get? I=some o->o.cls ≠ .type "tuple")(q1:dH s.heap (k1,b1))(q2:dH s.heap (k2,b2))(hR:∀ h' tk ps,(∀ b o,b≠S->b≠I->s.heap.get? b=some o->h'.get? b=some o)->cC w h' S ps->Two k1 k2 b1 b2 ps->R (.ok (.ret .none)) { s with heap:=h',toks:=tk }):codeAny (model prog w) A (.builtin "set.update.loop" ⟨[.ref S,.ref I],[]⟩) R s:=by
 have hSw:S∉[I]:=λh=>hSf (W.sub _ h);have hSI:S≠I:=λe=>hSw (by simp[e])
 have tupI:∀ a o,s.heap.get? a=some o->o.cls=.type "tuple" -> a≠I:=λa o e c z=>hI o (by rw[<- z];exact e) c
 have tupS:∀ a o,s.heap.get? a=some o->o.cls=.type "tuple" -> a≠S:=λa o e c z=>by
  rw[z,g0] at e;cases e;have c:Value.type "set" = .type "tuple" := c;injection c with c
  exact absurd c (by decide)
 have hu1:A.in1.units+8<cLine:=by show A.units+1+8<_;omega
 refine aS3 rA ?_;rw[aS4 lY _];show wpAny _ A.in1 (pyNext (.ref I) >>= _) _ _ s;refine aP9 (W.item 0 s _ _ (by decide) hst λv h1 tk hP1 hst1 hk1=>?_)
 cases p1 v hP1;have c1:∀ a o,s.heap.get? a=some o->o.cls=.type "tuple" -> h1.get? a=some o:=λa o e c=>hk1 a o (by simpa using tupI a o e c) e
 show wpAny _ A.in1 (holding [.ref b1] (setAdd S (.ref b1)) >>= _) _ _ _;refine aP9 (aRD (aJ5 (s:={ s with heap:=h1,toks:=tk }) hu1 (hk1 S _ hSw g0) (q1.kept c1) λh2 sb X2=>?_))
 have c2:∀ a o,s.heap.get? a=some o->o.cls=.type "tuple" -> h2.get? a=some o:=λa o e c=>sb.extBut a o (tupS a o e c) (c1 a o e c);refine aP8 ⟨aS2 lY _,aS3 rA ?_⟩;rw[aS4 lY _];show wpAny _ A.in1 (pyNext (.ref I) >>= _) _ _ _;refine aP9 (W.item 1 _ _ _ (by decide) (W.frame _ _ _ hst1 λb hb o e=>sb.extBut b o (λe'=>hSf (e' ▸ hb)) e) λv h3 tk3 hP3 hst3 hk3=>?_)
 cases p2 v hP3;have c3:∀ a o,s.heap.get? a=some o->o.cls=.type "tuple" -> h3.get? a=some o:=λa o e c=>hk3 a o (by simpa using tupI a o e c) (c2 a o e c)
 show wpAny _ A.in1 (holding [.ref b2] (setAdd S (.ref b2)) >>= _) _ _ _;refine aP9 (aRD (aJ6 hu1 (X2.kept λo e=>hk3 S o hSw e) (q2.kept c3) (q1.kept c3) λv h4 ps sb4 X4 two=>?_));refine aP8 ⟨aS2 lY _,aS3 rA ?_⟩;rw[aS4 lY _];show wpAny _ A.in1 (pyNext (.ref I) >>= _) _ _ _;refine aP9 (W.done _ _ _ (W.frame _ _ _ hst3 λb hb o e=>sb4.extBut b o (λe'=>hSf (e' ▸ hb)) e) λh5 tk5 hk5=>?_);exact aP8 (hR h5 tk5 ps (λb o n1 n2 e=>hk5 b o (by simpa using n2) (sb4.extBut b o n1 (hk3 b o (by simpa using n2) (sb.extBut b o n1 (hk1 b o (by simpa using n2) e))))) (X4.kept λo e=>hk5 S o hSw e) two)
theorem aJ8{a p:Addr}{K:Fin->Shared->Prop}(hu:A.units+16<cLine)(hh:A.handled=none)(g0:s.heap.get? a=some (sob w))(hp:s.heap.IsList p #[.ref b1,.ref b2])(ne:a≠p)(q1:dH s.heap (k1,b1))(q2:dH s.heap (k2,b2))(h:∀ h' tk ps,(∀ b o,b≠a->s.heap.get? b=some o->h'.get? b=some o)->cC w h' a ps->Two k1 k2 b1 b2 ps->K (.done (.ret .none)) { s with heap:=h',toks:=tk }):wpAny (model prog w) A (Builtin.«set.__init__» ⟨[.ref a,.ref p],[]⟩) K E s:=by
 have ty:s.TypeIs (.ref a) "set" := ⟨_,g0,rfl⟩;have tp:s.TypeIs (.ref p) "list" := hp.typeIs;unfold Builtin.«set.__init__»;refine aP9 (m:=noKeywords _ _) (aP8 ?_);dsimp only;unfold typeNameOfCut shownTypeOf;refine aP9 (aP9 (aP9 (aRH ty ?_)));have e1:(Value.type "set" == Value.type "builtin_function_or_method")=false:=by decide
 simp only[e1,aRZ,↓reduceIte];refine aP8 ?_;refine aP8 (aP9 (m:=checkCount _ 0 1 _) (aP8 (aP9 (m:=Builtin.Frozenset.addrOf _) (aP8 (aP9 ?_)))));unfold setUsed;refine aP9 (aTI g0 rfl rfl (aP8 ?_));have e2:((SetTable.fresh 0 0 (!dW w)).fill != 0)=false:=rfl;dsimp only;rw[e2];simp only[aRZ,↓reduceIte];refine aP9 ?_;unfold Builtin.Frozenset.updateFrom Builtin.Frozenset.isAnySet;refine aP9 (aI8 tp ?_);simp only[aRZ,↓reduceIte];refine aP9 (aRH tp ?_);have e3:(Value.type "list" == Value.type "dict")=false:=by decide
 simp only[e3,aRZ,↓reduceIte];refine aP9 (aQB hp (aP9 (wpAny_runValue ?_)));obtain ⟨op,ho,hrest⟩:=id hp;have lp:p<s.heap.objs.size:=aPP ho;have la:a<s.heap.objs.size:=aPP g0;refine aJ7 (A:=A) (s:={ s with heap:=s.heap.push _ }) hu (Walks.list (A:=A.in1) hh s.heap.objs.size p (aPS lp) #[.ref b1,.ref b2]) (λv q=>(aP4 q).symm) (λv q=>(aP4 q).symm) a
  (by simp only[aPY,aUG,aSY,not_or];exact ⟨aPS la,ne⟩) ⟨⟨_,aPO _ rfl,rfl,rfl⟩,hp.push _⟩ (hps g0) (λo e=>?_) (q1.kept λb o e _=>hps e) (q2.kept λb o e _=>hps e) λh' tk ps kp X m=>?_
 . have e2:some _=some o:=(aPO _ rfl).symm.trans e;cases e2;intro z;injection z with z
   exact absurd z (by decide)
 . exact aP8 (aP8 (h h' tk ps (λb o hb e=>kp b o hb (aPS (aPP e)) (hps e)) X m))
theorem aJ9{p:Addr}{Q:VSP}(hu:A.units+64<cLine)(hh:A.handled=none)(hp:s.heap.IsList p #[.ref b1,.ref b2])(q1:dH s.heap (k1,b1))(q2:dH s.heap (k2,b2))(h:∀ h' tk ps,(∀ b o,s.heap.get? b=some o->h'.get? b=some o)->cC w h' s.heap.objs.size ps->Two k1 k2 b1 b2 ps->Q (.ref s.heap.objs.size) { s with heap:=h',toks:=tk }):wpAny (model prog w) A (call (.type "set") [.ref p]) Q E s:=by
 obtain ⟨c,tl,hmro⟩:=PySem.F.called_set.mro;have hmade:=PySem.F.called_set.made;have hsub:=PySem.F.called_set.sub;have h1:=PySem.F.called_set.notType;have h2:=PySem.F.called_set.canCreate;have hct:=aIG (.ref p);refine wpAny_call (codeAny_of_tree (show wpAny _ _ (callAny (.type "set") _) _ _ _ from aP8 ⟨Code.quiet_builtin _ (by decide +kernel),aS3 PySem.F.entry_type_call ?_⟩))
 rw[Around.under_plain (weight_type_call_type "set" [.ref p] []) rfl]
 repeat (any_goals (first | assumption | wp_step))
 refine aRP (aII (E:=E) (.ref p) (Q1:=λr s1=>r=.ref s.heap.objs.size/\s1={ s with heap:=s.heap.push (sob w) }) ⟨rfl,rfl⟩) λr s1 hr=>?_
 cases r with
 | error e=>exact hr
 | ok fl =>
  cases fl with
  | ret obj =>
   obtain ⟨rfl,rfl⟩:=hr;have g0:(s.heap.push (sob w)).get? s.heap.objs.size=some (sob w):=aPO _ rfl;have ty:Shared.TypeIs { s with heap:=s.heap.push (sob w) } (.ref s.heap.objs.size) "set" := ⟨_,g0,rfl⟩
   have hli:=PySem.F.called_set.init.lookup;have hbi:=PySem.F.called_set.init.bind (.ref s.heap.objs.size)
   repeat (any_goals (first | assumption | wp_step))
   refine aRP (codeAny_call_builtin (R:=wants (λr s2=>r=.none/\Q (.ref s.heap.objs.size) s2) E) PySem.F.called_set.init.plain PySem.F.entry_set_init (aIJ ty ?_)) λr2 s2 hr2=>?_
   . refine aJ8 (A:=A.in1.in1) (s:={ s with heap:=s.heap.push (sob w) }) (by show A.units+1+1+16<_;omega) hh g0 (hp.push _) (Nat.ne_of_gt (aPP hp.choose_spec.1)) (q1.kept λb o e _=>hps e) (q2.kept λb o e _=>hps e) λh' tk ys kp X m=>⟨rfl,h h' tk ys (λb o e=>kp b o (aPS (aPP e)) (hps e)) X m⟩
   . cases r2 with
     | error e=>exact hr2
     | ok f2 =>
      cases f2 with
      | ret r =>
       obtain ⟨rfl,hq⟩:=hr2
       repeat (any_goals (first | assumption | wp_step))
      | _=>exact hr2.elim
  | _=>exact hr.elim
end
theorem r6{w:World}{l:List (Int×Value)}{ps:List (N×Addr)}(e:l=ps.map (cP w)):l.map (·.2)=ps.map λp=>Value.ref p.2:=by rw[e,aT6];rfl
section
variable {prog:Program}{w:World}{A:Around}{E:VSP}{s:Shared}
variable {I a:Addr}{ep:Nat}{o:Obj}{es:Array (Int×Value)}{t:SetTable}
theorem aKA{xs:List (N×Addr)}{Q:VSP}(hh:A.handled=none)(X:cC w s.heap a xs)(q:∀ (I:Addr) (h':Heap) d (fp:List Addr) (items:List Value) (ys:List (N×Addr)) (St:Nat->Heap->Prop),Walks prog w A I fp [I] items.length (λi v=>items[i]? = some v) St->St 0 h'->items=List.map (λp:N×Addr=>Value.ref p.2) ys->ys.Perm xs->(∀ b o,s.heap.get? b=some o->h'.get? b=some o)->s.heap.objs.size<=I->(∀ b∈fp,b=a\/s.heap.objs.size<=b)->Q (.ref I) { s with heap:=h',drawn:=d }):wpAny (model prog w) A (pyIter (.ref a)) Q E s:=by
 obtain ⟨o,es,ep,t,ho,hex,hd,he,hb,hf,hl,hp⟩:=id X;have la:=X.there;have hz:es.size=xs.length:=by rw[<- aP7,he,aQ1]
 refine aS8 X.ty PySem.F.slot_set_iter (aRG PySem.F.slot_set_iter X.ty aIL ?_ (PySem.F.args_set_iter_1 _));unfold Builtin.«frozenset.__iter__»;refine aP9 (m:=Builtin.Frozenset.slot0 _ _) (aP8 (aP9 ?_));unfold Builtin.Frozenset.sizeOf;refine aP9 (aTG ho hd hf (aP8 (aP9 ?_)));unfold setDrawn;refine aP9 (aTI ho hd hf (aP9 (i9 (aP8 ?_))));dsimp only;have sz:es.size<=sizeLine:=by rw[hz,aQH];omega
 split
 . rename_i hc;refine aP9 (wS (by simp) λd l' pl=>aP9 (wpAny_newTuple ?_ (by rw[aQ1,pl.length_eq,aTL];exact sz)))
   have ho1:=Heap.get?_push_of_some (seqObj "tuple" (l'.map λ(i:Nat)=>rawInt i).toArray 0) ho;refine aP9 (wpAny_setEpoch_of (s:={ s with heap:=s.heap.push (seqObj "tuple" (l'.map λ(i:Nat)=>rawInt i).toArray 0),drawn:=d }) ho1 hd hf (aP9 (aRJ (aP8 ⟨_,rfl, "set_iterator", _,⟨_,aPO _ rfl,rfl⟩,fZ.lookup,?_⟩))))
   have ls:(s.heap.push (seqObj "tuple" (l'.map λ(i:Nat)=>rawInt i).toArray 0)).objs.size=s.heap.objs.size+1:=size_push' _ _;have pe:(l'.map λp=>es.getD p (0,.none)).Perm es.toList:=by
    refine (pl.map _).trans (.of_eq ?_);apply List.ext_getElem
    . simp
    . intro k k1 k2;simp at k1 ⊢;rw[aTJ k1];rfl
   obtain ⟨ys,py,ey⟩:=l7 (he ▸ pe);have W:=aIT (prog:=prog) (w:=w) (A:=A) (I:=(s.heap.push (seqObj "tuple" (l'.map λ(i:Nat)=>rawInt i).toArray 0)).objs.size) (tp:=s.heap.objs.size) hh (by rw[ls];exact aPS (aSP la)) (by rw[ls];exact aPS (aQN _)) hd hf rfl pl
   refine q _ _ d _ ((l'.map λp=>es.getD p (0,.none)).map (·.2)) ys _ (rD W (by simp[pl.length_eq]) λi v hv=>?_) ⟨⟨_,aPO _ rfl,rfl,rfl⟩,hps ho1,⟨_,hps (aPO _ rfl),rfl,_,rfl⟩⟩ (r6 ey) py
    (λb o' e=>hps (hps e)) (by rw[ls];exact aSR _) λb hb=>?_
   . obtain ⟨p,hx,e1,e2⟩:=hv;rw[aQY,aQY,e1];simp[aTS,e2]
   . simp only[aPY,aUG,aSY] at hb;rcases hb with rfl | rfl | rfl
     . right;rw[ls];exact aSR _
     . left;rfl
     . right;exact aQC _
 . rename_i hc;refine aP9 (aP8 (aP9 (wpAny_setEpoch_of ho hd hf (aP9 (aRJ (aP8 ⟨_,rfl, "set_iterator", _,⟨_,aPO _ rfl,rfl⟩,fZ.lookup,?_⟩))))));have fpx:∀ b∈[s.heap.objs.size,a],b=a\/s.heap.objs.size<=b:=λb hb=>by
     simp only[aPY,aUG,aSY] at hb;rcases hb with rfl | rfl
     . right;exact aQC _
     . left;rfl
   cases bt:dW w with
   | true =>
    obtain ⟨ys,py,ey⟩:=l7 (he ▸ n8 (next:=w.params.setOrder a ep) (xs:=es));have W:=aIS (prog:=prog) (w:=w) (A:=A) (I:=s.heap.objs.size) hh (aPS la) hd hf bt;refine q _ _ s.drawn _ ((pickOrder (w.params.setOrder a ep) es).toList.map (·.2)) ys _ (rD W (by rw[aQ1,n8.length_eq,aP7]) λi v hv=>?_) ⟨⟨_,aPO _ rfl,rfl,rfl⟩,hps ho⟩ (r6 ey) py (λb o' e=>hps e) (aQC _) fpx
    rw[<- hv];simp
   | false =>
    have hc':(!t.plain&&decide (es.size > 1))=false:=by have hc:¬ (!dW w&&(!t.plain&&decide (es.size > 1)))=true:=hc;rw[bt] at hc;simpa using hc
    have hzp:t.place.size=es.size:=by unfold SetTable.fits at hf;rw[aRI,aQL] at hf;exact hf.1
    have hr:eT t.place:=by
     rcases hp with hp | hp
     . rw[hp] at hc';have h1:t.place.toList.length<=1:=by rw[aP7,hzp];simpa using hc'
       show t.place.toList.Pairwise _;generalize t.place.toList=l at h1
       match l,h1 with
       | [],_=>exact .nil
       | [x],_=>exact aT2 _ _
     . exact hp.2
    have W:=aI9 (prog:=prog) (w:=w) (A:=A) (I:=s.heap.objs.size) hh (aPS la) hd hf bt (by rw[hl,bt];rfl) hr hc'
    refine q _ _ s.drawn _ (es.toList.map (·.2)) xs _ (rD W (by simp) λi v hv=>?_) ⟨⟨_,aPO _ rfl,rfl,rfl⟩,hps ho⟩ (r6 he) (.refl _) (λb o' e=>hps e) (aQC _) fpx
    rw[<- hv];simp
end
section
variable {prog:Program}{w:World}{A:Around}{E:VSP}{s:Shared}{a:Addr}{xs:List (N×Addr)}
theorem ext_n{R:Result->Shared->Prop}(hh:A.handled=none)(X:cC w s.heap a xs)(S:Addr)(hSa:S≠a)(res:Value)(hS:s.heap.get? S=some { cls:=.type "list", data:=.seq #[] })(hR:∀ h' d tk vs ys c,(∀ b o,b≠S->s.heap.get? b=some o->h'.get? b=some o)->h'.get? S=some { cls:=.type "list", dict:=none,data:=.seq vs c,slots:=#[] } -> vs.toList=List.map (λp:N×Addr=>Value.ref p.2) ys->ys.Perm xs->R (.ok (.ret res)) { s with heap:=h',drawn:=d,toks:=tk }):wpAny (model prog w) A.in1 (Builtin.List.listExtendWith (.ref S) (.ref a) res) (λfin s'=>match fin with | .done f=>R (.ok f) s' | .again c'=>c'.quiet=true/\codeAny (model prog w) A c' R s') (λe s'=>R (.error e) s') s:=by
 have hb:xs.length<=sizeLine:=by obtain ⟨o,es,ep,t,ho,hex,hd,he,hb,r⟩:=X;rw[aQH];omega
 unfold Builtin.List.listExtendWith;refine aP9 (aRH X.ty ?_);have n1:Builtin.List.listSameRef (.ref S) (.ref a)=false:=by simp[Builtin.List.listSameRef,hSa]
 have n2:(Value.type "set" == Value.type "list")=false:=by decide
 have n3:(Value.type "set" == Value.type "tuple")=false:=by decide
 simp only[n1,n2,n3,Bool.or_false,aRZ,↓reduceIte];refine aP9 (aKA (A:=A.in1) hh X λI h1 d fp items ys St W st sa py kp hI hfp=>?_);have lS:S<s.heap.objs.size:=aPP hS;have hSf:S∉fp:=λhm=>(hfp S hm).elim hSa λh=>absurd lS (aSQ.mpr h);have hSI:S≠I:=λe=>absurd lS (aSQ.mpr (e ▸ hI));have hil:items.length<=sizeLine:=by rw[sa,aQ1,py.length_eq];exact hb
 have hS1 := kp S _ hS; have key : ∀ (h : Heap) (c : Nat), St 0 h → (∀ b o, b ≠ S → s.heap.get? b = some o → h.get? b = some o) → h.get? S = some { cls := .type "list", data := .seq #[] c } →
     codeAny (model prog w) A (.builtin "list.extend.loop" ⟨[.ref S,.ref I,res],[]⟩) R { s with heap:=h,drawn:=d }:=by
  intro h c st' k' hS';refine codeAny_extend_loopS W.toS hil S hSf res items.length 0 _ #[] c rfl (aQO _) st' hS' (ItemsOf.nil _) λs' acc c' hm hS2 hacc=>?_;rw[Moved.eq_with hm];refine hR s'.heap d s'.toks acc ys c' (λb o nb e=>hm.heap b o (λhx=>?_) (k' b o nb e)) hS2 (by rw[aIV hacc];exact sa) py
  rcases aPY.mp hx with e' | hx
  . exact nb e'
  . exact absurd (aPP e) (by rw[aSV.mp hx];exact aSQ.mpr hI)
 refine aP9 (aRD (aIU (s:={ s with heap:=h1,drawn:=d }) (cC.ty (s:={ s with heap:=h1,drawn:=d }) (X.kept λo e=>kp a o e)) ?_))
 refine aTO (λ_=>?_) (λ_=>aP8 ⟨aS2 PySem.F.plain_extend_loop _,key h1 0 st (λb o _ e=>kp b o e) hS1⟩);refine aP9 (wpAny_rule (aP9 ?_));show wpAny _ _ (updateSeq S (·.push Value.none) >>= λ_=>updateSeq S (·.pop)) _ _ { s with heap:=h1,drawn:=d }
 refine aP9 (wpAny_updateSeq (s:={ s with heap:=h1,drawn:=d }) hS1 rfl ?_)
 have hS2:=aS9 (Obj.mapSeq (·.push Value.none)) hS1 rfl;refine wpAny_updateSeq (hz:=by seq_fits) hS2 rfl ?_
 have hS3:=aS9 (Obj.mapSeq (·.pop)) hS2 rfl;have oth:∀ b,b≠S->∀ o,h1.get? b=some o->((h1.update S (Obj.mapSeq (·.push Value.none))).update S (Obj.mapSeq (·.pop))).get? b=some o:=λb nb o e =>
  (aRL _ _ (Ne.symm nb)).trans ((aRL _ _ (Ne.symm nb)).trans e)
 exact aP8 ⟨aS2 PySem.F.plain_extend_loop _,key _ _ (W.frame 0 _ _ st λb hb o e=>oth b (λh=>hSf (h ▸ hb)) o e) (λb o nb e=>oth b nb o (kp b o e)) hS3⟩
theorem aKB{R:List Value->Shared->Prop}(hh:A.handled=none)(X:cC w s.heap a xs)(h:∀ h' d tk vs ys,(∀ b o,s.heap.get? b=some o->h'.get? b=some o)->s.heap.objs.size<h'.objs.size->vs=List.map (λp:N×Addr=>Value.ref p.2) ys->ys.Perm xs->R vs { s with heap:=h',drawn:=d,toks:=tk }):wpAny (model prog w) A (collect (.ref a)) R E s:=by
 have la:=X.there;unfold collect;refine aP9 (wpAny_runValue (aS3 PySem.F.entry_proto_collect ?_));rw[aS4 PySem.F.plain_proto_collect _];show wpAny (model prog w) A.in1 (newList [] >>= λl=>again (.builtin "list.__iadd__" ⟨[l,.ref a],[]⟩)) _ _ s;refine aP9 (aRJ (aP8 ⟨aS2 PySem.F.plain_list_iadd _,aS3 PySem.F.entry_list_iadd ?_⟩));rw[aS4 PySem.F.plain_list_iadd _];have g0:(s.heap.push { cls:=.type "list", data:=.seq ([]:List Value).toArray }).get? s.heap.objs.size=some { cls:=.type "list", data:=.seq #[] }:=aPO _ rfl;show wpAny (model prog w) A.in1 (Builtin.List.listExtendWith (.ref s.heap.objs.size) (.ref a) (.ref s.heap.objs.size)) _ _ _;have key:=ext_n (A:=A) (prog:=prog) (s:={ s with heap:=s.heap.push { cls:=.type "list", data:=.seq ([]:List Value).toArray } })
  (R:=λq s'=>∃ h' d tk vs ys c,q=.ok (.ret (.ref s.heap.objs.size))/\s'={ s with heap:=h',drawn:=d,toks:=tk }/\(∀ b o,s.heap.get? b=some o->h'.get? b=some o)/\h'.get? s.heap.objs.size=some { cls:=.type "list", dict:=none,data:=.seq vs c,slots:=#[] }/\vs.toList=List.map (λp:N×Addr=>Value.ref p.2) ys/\ys.Perm xs)
  hh (X.kept λo e=>hps e) s.heap.objs.size (Nat.ne_of_gt la) (.ref s.heap.objs.size) g0
  λh' d tk vs ys c kp gS sa py=>⟨h',d,tk,vs,ys,c,rfl,rfl,λb o e=>kp b o (aPS (aPP e)) (hps e),gS,sa,py⟩
 refine aP5 key (λf s' x=>?_) λe s' x=>?_
 . cases f with
   | done f=>obtain ⟨h',d,tk,vs,ys,c,e,rfl,kp,gS,sa,py⟩:=x;cases e;show wpAny _ A (load s.heap.objs.size >>= _) _ _ _;exact aP9 (aQA gS (aP8 (h h' d tk vs.toList ys kp (aPP gS) sa py)))
   | again c1=>refine ⟨x.1,aRP x.2 λq s2 y=>?_⟩;obtain ⟨h',d,tk,vs,ys,c,rfl,rfl,kp,gS,sa,py⟩:=y;show wpAny _ A (load s.heap.objs.size >>= _) _ _ _;exact aP9 (aQA gS (aP8 (h h' d tk vs.toList ys kp (aPP gS) sa py)))
 . obtain ⟨_,_,_,_,_,_,e',_⟩:=x;cases e'
end
end D3
namespace D3
open PySem PySem.Spec PyProof.Rows L2 PySem.W
theorem yG{h:Heap}:∀ {ys:List (N×Addr)},(∀ p∈ys,dH h p)->eU h (ys.map λp=>Value.ref p.2) (ys.map (·.1))
 | [],_=>⟨rfl,λi hi=>by simp at hi⟩
 | p::ys,k=>by
  obtain ⟨l,r⟩:=yG (ys:=ys) λq hq=>k q (mcm hq);refine ⟨by simp,λi hi=>?_⟩
  cases i with
  | zero=>exact (k p mcs).1
  | succ i=>have:=r i (by simpa using hi);simpa using this
def OkP(ps:List (N×Addr)):Prop:=rU (ps.map (·.1))/\(ps.length<=1\/∀ p∈ps,dA p.1=true)/\ps.length<64
theorem OkP.perm{ps qs:List (N×Addr)}(h:OkP ps)(p:qs.Perm ps):OkP qs:=by have pm:=p.map (·.1);exact ⟨λx hx y hy=>h.1 x (pm.mem_iff.mp hx) y (pm.mem_iff.mp hy),h.2.1.imp (λz=>by rw[p.length_eq];exact z) λz q hq=>z q (p.mem_iff.mp hq),by rw[p.length_eq];exact h.2.2⟩
section
variable {prog:Program}{w:World}{A:Around}{E:VSP}{s:Shared}{a:Addr}{xs:List (N×Addr)}
theorem aKC{Q:VSP}(hu:A.units+64<cLine)(hh:A.handled=none)(X:cC w s.heap a xs)(kx:∀ p∈xs,dH s.heap p)(ok:OkP xs)(h:∀ h' d tk D e (zs:List (N×Addr)),(∀ b o,s.heap.get? b=some o->h'.get? b=some o)->s.heap.objs.size<=D->h'.get? D=some (seqObj "list" (zs.map λp=>Value.ref p.2).toArray e)->zs.Perm xs->fD (zs.map (·.1))->Q (.ref D) { s with heap:=h',drawn:=d,toks:=tk }):wpAny (model prog w) A (call (.builtin "sorted") [.ref a]) Q E s:=by
 refine aT5 kind_sorted plain_sorted entry_sorted (args_sorted1 (.ref a)) ?_;unfold Builtin.«sorted»;refine aP9 (m:=checkCount "sorted" 1 1 [Value.ref a].length) (aP8 (aP9 (aKB (A:=A.in1) hh X λh1 d tk vs ys kp lh sa py=>?_)));subst sa;have oky:=ok.perm py;have ly:ys.length<64:=oky.2.2;refine aP9 (aT4 ?_ (by rw[aQ1,aQH];omega))
 have g1:(h1.push (seqObj "list" (ys.map λp=>Value.ref p.2).toArray 0)).get? h1.objs.size=some (seqObj "list" (ys.map λp=>Value.ref p.2).toArray 0):=aPO _ rfl;have hv:eU (h1.push (seqObj "list" (ys.map λp=>Value.ref p.2).toArray 0)) (ys.map λp=>Value.ref p.2) (ys.map (·.1)):=yG λp hp=>(kx p (py.mem_iff.mp hp)).kept λb o e _=>hps (kp b o e);refine aP9 (aRD (aRG slot_list_sort ⟨_,g1,rfl⟩ entry_list_sort (xT (A:=A.in1.in1) (s:={ s with heap:=h1.push (seqObj "list" (ys.map λp=>Value.ref p.2).toArray 0),drawn:=d,toks:=tk }) (by show A.units+1+1+9<_;omega) g1 hv (λk hk=>?_) oky.1 (oky.2.1.imp (λz=>by rw[aQ1];exact z) λz k hk=>?_) (by rw[aQ1];exact ly) λp wp=>⟨_,rfl,?_⟩) (args_list_sort _)))
 . obtain ⟨p,hp,rfl⟩:=aUF.mp hk;exact (kx p (py.mem_iff.mp hp)).2
 . obtain ⟨p,hp,rfl⟩:=aUF.mp hk;exact z p hp
 . have pl:∀ i∈p,i<ys.length:=λi hi=>by have:=wp.perm.mem_iff.mp hi;rw[aPU,aQ1] at this;exact this
   have e1:(p.map λi=>(ys.map λp=>Value.ref p.2).getD i .none)=(p.map λi=>ys.getD i (.i 0,0)).map λp=>Value.ref p.2:=by rw[aT6];refine aUH λi hi=>?_;simp[pl i hi]
   have e2:(p.map λi=>(ys.map (·.1)).getD i (.i 0))=(p.map λi=>ys.getD i (.i 0,0)).map (·.1):=by rw[aT6];refine aUH λi hi=>?_;simp[pl i hi]
   have zp:(p.map λi=>ys.getD i (.i 0,0)).Perm ys:=by have:=wp.perm.map λi=>ys.getD i (.i 0,0);rw[aQ1,oB] at this;exact this
   have up:=wp.up;rw[e2] at up;rw[e1];obtain ⟨e,he⟩:=sortedHeap_at (out:=((p.map λi=>ys.getD i (.i 0,0)).map λp=>Value.ref p.2).toArray) g1;refine aP8 ⟨_,rfl,h _ d tk _ e _ (λb o hb=>?_) (aPW lh) he (zp.trans py) up⟩;have lb:=aPP (kp b o hb);rw[sortedHeap_old (aPS lb) (by rw[size_push'];exact aSP lb)]
   exact hps (kp b o hb)
end
def sn(w:World)(l:Addr)(ps:List (N×Addr)):HO:=.ext λh=>cC w h l ps
theorem sn_ok{P:Program}{w:World}{H:Hp}{h:Heap}{l:Addr}{ps:List (N×Addr)}(x:cC w h l ps):bU P w H h l (sn w l ps):=by
 refine ⟨x,?_,λh1 h2 x1 k=>cC.kept (show cC w h1 l ps from x1) k⟩
 obtain ⟨o,es,ep,t,ho,r⟩:=x;exact ⟨o,ho⟩
section
variable {X:Cx}
def jE(K:Fg)(H:Hp)(p:N×Addr):Prop:=NAt K H p.1 (.ref p.2)/\p.1.dp<=8
theorem jE.at{aA:LAO}{σ:L2.St}{H:Hp}{s:Shared}(I:L2.Inv X aA σ H s){p:N×Addr}(k:jE X.K H p):dH s.heap p:=⟨NAt.is I _ _ _ k.1 rfl,k.2⟩
def r8(X:Cx):List V->Hp->VK->Prop:=λxs H Q=>∃ (p:Addr) (q1 q2:N×Addr),xs=[.ref p]/\SqL X.K H p [.ref q1.2,.ref q2.2]/\jE X.K H q1/\jE X.K H q2/\∀ (l:Addr) (ps:List (N×Addr)),H l=none->Two q1.1 q2.1 q1.2 q2.2 ps->Q (.ref l) (upd H l (sn X.w l ps))
theorem aKD(hu:X.A.units+64<cLine)(hc:X.calm=true):cL X (.type "set") (r8 X):=by
 intro aA s σ H xs us Q I r h;obtain ⟨p,q1,q2,rfl,hp,h1,h2,q⟩:=h;obtain ⟨u,rfl,rx⟩:=eB r;cases rx;obtain ⟨its,rv,pl,_⟩:=I.list hp;have e:its=[.ref q1.2,.ref q2.2]:=by
  cases rv with
  | cons r1 t1 =>
   cases t1 with
   | cons r2 t2=>cases t2;cases r1;cases r2;rfl
 subst e;refine aJ9 (k1:=q1.1) (k2:=q2.1) (b1:=q1.2) (b2:=q2.2) hu (I.ok.hd hc) pl.isList (h1.at I) (h2.at I) λh' tk ys kp SX m=>?_;exact ⟨.ref s.heap.objs.size,_,I.laid (t':=tk) kp (aQC _) (sn_ok SX),rfl,q _ ys (I.hok.fresh (aQC _)) m⟩
def r9(X:Cx):List V->Hp->VK->Prop:=λxs H Q=>∃ (a:Addr) (ps:List (N×Addr)),xs=[.ref a]/\H a=some (sn X.w a ps)/\(∀ p∈ps,jE X.K H p)/\OkP ps/\∀ (l:Addr) (zs:List (N×Addr)),H l=none->zs.Perm ps->fD (zs.map (·.1))->Q (.ref l) (upd H l (.lst (zs.map λp=>V.ref p.2)))
theorem yH:∀ (zs:List (N×Addr)),aJ (zs.map λp=>V.ref p.2) (zs.map λp=>Value.ref p.2)
 | []=>.nil
 | p::zs=>.cons rfl (yH zs)
theorem aKE(hu:X.A.units+64<cLine)(hc:X.calm=true):cL X (.builtin "sorted") (r9 X):=by
 intro aA s σ H xs us Q I r h;obtain ⟨a,ps,rfl,ha,kh,ok,q⟩:=h;obtain ⟨u,rfl,rx⟩:=eB r;cases rx;have xa:cC X.w s.heap a ps:=(I.hok a _ ha).1;refine aKC hu (I.ok.hd hc) xa (λp hp=>(kh p hp).at I) ok λh' d tk D e zs kp hD g py so=>?_;have le:(zs.map λp=>V.ref p.2).length<=sizeLine:=by rw[aQ1,py.length_eq,aQH];have:=ok.2.2;omega
 exact ⟨.ref D,_,Inv.drew (I.laid (t':=tk) kp hD (show bU X.prog X.w _ h' D (.lst (zs.map λp=>V.ref p.2)) from ⟨le,_,e,yH zs,g⟩)) d,rfl,q D zs (I.hok.fresh hD) py so⟩
end
def two(k1 k2:N):List N:=if k2=k1 then [k1] else cO [k1,k2]
def fO(ra:Res):Res:=ra.thn λ_ d=>match d with
 | .lst [d1,d2]=>(match cT d1,cT d2 with
  | some k1,some k2=>if okS [k1,k2]=true then .ok .fr (.lst (nDL (two k1 k2))) else .stuck
  | _,_=>.stuck)
 | _=>.stuck
section
variable {C:Cw}{X:Cx}{ga:Rho->Res}{ea:Expr}{p p1 q1 pos:Pos}
theorem aKF{σ:L2.St}{H:Hp}{Q:VK}(hK:C.K=X.K)(q:tG C (λρ=>fO (ga ρ)) σ H Q):tCB (r9 X) (lD (tCB (r8 X) (lD (tG C ga) qG)) qG) σ H Q:=by
 show tG C ga σ H λv H1=>r8 X [v] H1 λsv H2=>r9 X [sv] H2 Q;rw[a7] at q ⊢;obtain ⟨ρ,F,R,w⟩:=q;refine ⟨ρ,F,R,?_⟩;cases e1:ga ρ with
 | stuck=>simp only[fO,e1,Res.thn_stuck] at w;exact w
 | exc c=>simp only[fO,e1,Res.thn_exc] at w;exact w
 | ok m d =>
  simp only[fO,e1,Res.thn_ok] at w;intro v F1 H1 s1 r1 _;split at w
  . rename_i d1 d2;split at w
    . rename_i k1 k2 ek1 ek2;split at w
      . rename_i hc;obtain ⟨a,xs,rfl,sq,rl⟩:=r1.seqL s1.sub;simp only[aC] at rl;obtain ⟨x1,ys,rfl,rd1,x2,ys2,rfl,rd2,rfl⟩:=rl;obtain ⟨b1,rfl,n1,h1⟩:=oF (H:=H1) (m:=.fz) ek1 rd1;obtain ⟨b2,rfl,n2,h2⟩:=oF (H:=H1) (m:=.fz) ek2 rd2;rw[hK] at sq n1 n2;have kh1:jE X.K H1 (k1,b1):=⟨NAt.mono s1.sub _ _ n1,h1⟩;have kh2:jE X.K H1 (k2,b2):=⟨NAt.mono s1.sub _ _ n2,h2⟩;refine ⟨a,(k1,b1),(k2,b2),rfl,sq,kh1,kh2,λA1 ps hA1 tw=>?_⟩;have s2:aI F H F1 (upd H1 A1 (sn X.w A1 ps)):=s1.trans (aI.fresh _ s1.sub hA1);have mem:∀ p∈ps,p=(k1,b1)\/p=(k2,b2):=λp hp=>by
          unfold Two at tw;split at tw
          . subst tw;exact .inl (aSV.mp hp)
          . simpa using tw.mem_iff.mp hp
        have nat:∀ p∈ps,NAt X.K F1 p.1 (.ref p.2)/\p.1.dp<=8:=λp hp=>by
         rcases mem p hp with rfl | rfl
         . exact ⟨n1,h1⟩
         . exact ⟨n2,h2⟩
        unfold okS at hc;simp only[aRI,aR4,aR2,aSB] at hc;obtain ⟨⟨⟨_,ft⟩,ao⟩,_⟩:=hc;have ft:∀ k∈[k1,k2],dA k=true:=ft.resolve_left (λz=>by simp at z)
        have mk:∀ p∈ps,p.1∈[k1,k2]:=λp hp=>by rcases mem p hp with rfl | rfl <;> simp
        have lp:ps.length<=2:=by
         unfold Two at tw;split at tw
         . subst tw;exact aSR 1
         . rw[tw.length_eq];exact aQC 2
        refine ⟨A1,ps,rfl,bQ,λp hp=>⟨NAt.mono s2.sub _ _ (nat p hp).1,(nat p hp).2⟩,⟨λx hx y hy=>?_,.inr λp hp=>ft _ (mk p hp),by omega⟩,λL zs hL pz so=>?_⟩
        . obtain ⟨p,hp,rfl⟩:=aUF.mp hx;obtain ⟨p',hp',rfl⟩:=aUF.mp hy;exact ao _ (mk p hp) _ (mk p' hp')
        . have s3:=s2.trans (aI.fresh (.lst (zs.map λp=>V.ref p.2)) s2.sub hL);have ez:zs.map (·.1)=two k1 k2:=by
            unfold Two at tw;unfold two;split at tw
            . rename_i e;rw[if_pos e];subst tw;have:zs=[(k1,b1)]:=pz.eq_singleton;rw[this];rfl
            . rename_i e;rw[if_neg e];exact rT so ((pz.trans tw).map (·.1))
          refine w (.ref L) F1 _ s3 ⟨L,rfl,s2.sub.free hL,_,bQ,?_⟩ λ_ a' ea'=>?_
          . rw[hK,<- ez,gL,aT6];exact rG λp hp=>rM _ _ (nat p (pz.mem_iff.mp hp)).1
          . cases ea';cases q:H L with
            | none=>rfl
            | some o=>rw[s2.same _ _ q] at hL;cases hL
      . exact w.elim
    . exact w.elim
  . exact w.elim
theorem aKG(hu:X.A.units+64<cLine)(hc:X.calm=true)(gs:Gl X "sorted")(ns:X.mg "sorted" = none)(gt:Gl X "set")(nt:X.mg "set" = none)(ha:PV C X ea ga)(sa:cS ea=true):PV C X (.Call (.Name "sorted" p) [.Call (.Name "set" p1) [ea] [] q1] [] pos) (λρ=>fO (ga ρ)):=by
 refine PE.imp (u8 (aKE hu hc) gs ns wV (nG (u9 (aKD hu hc) gt nt aIW (nG ha nF (cH sa)) (by decide) (by decide) (cH sa) rfl) nF)) λσ H Q w=>?_
 exact aKF (X:=X) rfl w
end
def ltW:Md->D->Md->D->Option (Md×D):=λ_ x _ y=>match bF x,bF y with
 | some a,some b=>if (decide (a.dp<=40)&&okN a b)=true then some (.fz,.bl (ltN a b)) else none
 | _,_=>none
theorem yI{K:Fg}{F H:Hp}{m:Md}{d:D}{k:N}{v:V}(e:bF d=some k)(r:Rp K F H m d v):NAt K F k v:=by
 cases m with
 | fz=>exact rK e r
 | fr =>
  obtain ⟨a,_,_,q⟩:=r;cases d with
  | lst ds=>simp only[bF] at e;cases e
  | dct ds=>simp only[bF] at e;cases e
  | ins c fs=>simp only[bF] at e;cases e
  | set ks=>simp only[bF] at e;cases e
  | dtn ds=>simp only[bF] at e;cases e
  | _=>exact q.elim
 | bo =>
  obtain ⟨a,_,_,q⟩:=r;cases d with
  | lst ds=>simp only[bF] at e;cases e
  | dct ds=>simp only[bF] at e;cases e
  | ins c fs=>simp only[bF] at e;cases e
  | set ks=>simp only[bF] at e;cases e
  | dtn ds=>simp only[bF] at e;cases e
  | _=>exact q.elim
theorem aKH{C:Cw}{X:Cx}(hu:X.A.units+64<cLine):OpD C X (compareOp .Lt) ltW:=by
 refine ⟨λx y H Q=>∃ a b,NAt X.K H a x/\NAt X.K H b y/\a.dp<=40/\okN a b=true/\Q (.bl (ltN a b)) H,?_,?_⟩
 . intro aA s σ H x y v u Q I rx ry h;obtain ⟨a,b,na,nb,hd,ok,q⟩:=h;exact n_lt a (by omega) (NAt.is I a x v na rx) (NAt.is I b y u nb ry) ok ⟨.bl (ltN a b),H,I,rfl,q⟩
 . intro F H m x n y v u k d Q s rx ry e w;unfold ltW at e;split at e
   . rename_i a b ea eb;split at e
     . rename_i hc;rw[aRI,aR2] at hc;cases e;exact ⟨a,b,NAt.mono s _ _ (yI ea rx),NAt.mono s _ _ (yI eb ry),hc.1,hc.2,w _ F H (.refl s) (cZ _) (by intro z;cases z)⟩
     . cases e
   . cases e
def bV(up:Bool)(ns:List Str):Str:=ns.getD (argBest (λi j=>if up then lts (ns.getD j Str.empty) (ns.getD i Str.empty) else lts (ns.getD i Str.empty) (ns.getD j Str.empty)) (ns.length-1)) Str.empty
theorem yJ{bt:Nat->Nat->Bool}:∀ (k:Nat),argBest bt k<=k
 | 0=>aQC _
 | k+1=>by
  unfold argBest;split
  . exact aQC _
  . exact Nat.le_succ_of_le (yJ k)
theorem oO:∀ {vs:List Value} {ns:List Str},StrsAre vs ns->∀ {i:Nat} {v:Value},vs[i]? = some v->∃ t,v=.str (ns.getD i Str.empty) t
 | _,_,.nil,i,v,h=>by simp at h
 | _,_,.cons x t r,0,v,h=>by cases h;exact ⟨t,rfl⟩
 | _,_,.cons x t r,i+1,v,h=>by have:=oO r (i:=i) h;simpa using this
section
variable {X:Cx}
theorem nN{s:Shared}{p:Addr}{its:List Value}{A:Around}{E:VSP}{Q:VSP}{bt:Nat->Nat->Bool}{op:CmpOp}{ns:List Str}(hh:A.handled=none)(hp:s.heap.IsList p its.toArray)(sa:StrsAre its ns)(h0:0<ns.length)(hb:∀ x y:Nat,∀ (t u:Tok) (s:Shared) (Q:VSP) (E:VSP),Q (.bool (bt x y)) s->wpAny (model X.prog X.w) A.in1 (richCompare op (.str (ns.getD x Str.empty) t) (.str (ns.getD y Str.empty) u)) Q E s)(q:∀ t h' tk,(∀ b o,s.heap.get? b=some o->h'.get? b=some o)->Q (.str (ns.getD (argBest bt (ns.length-1)) Str.empty) t) { s with heap:=h',toks:=tk }):wpAny (model X.prog X.w) A.in1 (pyIter (.ref p)) (λit s₂=>∃ I fp wr n P St bt,it=.ref I/\Walks X.prog X.w A.in1 I fp wr n P St/\St 0 s₂.heap/\(∀ b∈fp,b<s₂.heap.objs.size)/\0<n/\CmpOf X.prog X.w A.in1 op P bt/\∀ v h' tk,P (argBest bt (n-1)) v->(∀ b o,b∉wr->s₂.heap.get? b=some o->h'.get? b=some o)->Q v { s₂ with heap:=h',toks:=tk }) E s:=by
 obtain ⟨op',ho,_⟩:=id hp;have lp:p<s.heap.objs.size:=aPP ho;have lz:its.length=ns.length:=sa.length;refine aQB hp ?_;refine ⟨s.heap.objs.size,[s.heap.objs.size,p],[s.heap.objs.size],its.toArray.size,λi v=>its.toArray[i]? = some v,_,bt,rfl,Walks.list (A:=A.in1) hh s.heap.objs.size p (aPS lp) its.toArray,⟨⟨_,aPO _ rfl,rfl,rfl⟩,hp.push _⟩,λb hb=>?_,by simp[lz];exact h0,λi j vi vj s Q E hi hj hq=>?_,λv h' tk hv kp=>?_⟩
 . have ls:(s.heap.push { cls:=.type "list_iterator", data:=.fields #[.ref p,.int 0 0] }).objs.size=s.heap.objs.size+1:=size_push' _ _;simp only[aPY,aUG,aSY] at hb;rcases hb with rfl | rfl
   . exact Nat.lt_of_lt_of_eq (aQN _) ls.symm
   . exact Nat.lt_of_lt_of_eq (aSP lp) ls.symm
 . obtain ⟨t,rfl⟩:=oO sa (i:=i) (by simpa using hi)
   obtain ⟨u,rfl⟩:=oO sa (i:=j) (by simpa using hj)
   exact hb i j t u s Q E hq
 . obtain ⟨t,rfl⟩:=oO sa (i:=argBest bt (its.toArray.size-1)) (by simpa using hv)
   have e:its.toArray.size=ns.length:=by simp[lz]
   rw[e];exact q t h' tk λb o eb=>kp b o (by simp;exact aPS (aPP eb)) (hps eb)
def sC(up:Bool)(K:Fg):List V->Hp->VK->Prop:=λxs H Q=>∃ (p:Addr) (ns:List Str),xs=[.ref p]/\SqL K H p (ns.map V.str)/\0<ns.length/\Q (.str (bV up ns)) H
theorem aKI(hc:X.calm=true):cL X (.builtin "min") (sC false X.K):=by
 intro aA s σ H xs us Q I r h;obtain ⟨p,ns,rfl,hp,h0,q⟩:=h;obtain ⟨u,rfl,rx⟩:=eB r;cases rx;obtain ⟨its,rv,pl,_⟩:=I.list hp;refine call_min_walk (nN (X:=X) (op:=.Lt) (bt:=λi j=>lts (ns.getD i Str.empty) (ns.getD j Str.empty)) (I.ok.hd hc) pl.isList (nT rv) h0 (λx y t u s Q E q=>?_) λt h' tk kp=>?_)
 . unfold lts at q;rw[ltCps_eq] at q;exact lt_str q
 . exact ⟨.str (bV false ns),H,I.kept (t':=tk) kp,⟨t,rfl⟩,q⟩
theorem aKJ(hc:X.calm=true):cL X (.builtin "max") (sC true X.K):=by
 intro aA s σ H xs us Q I r h;obtain ⟨p,ns,rfl,hp,h0,q⟩:=h;obtain ⟨u,rfl,rx⟩:=eB r;cases rx;obtain ⟨its,rv,pl,_⟩:=I.list hp;refine call_max_walk (nN (X:=X) (op:=.Gt) (bt:=λi j=>lts (ns.getD j Str.empty) (ns.getD i Str.empty)) (I.ok.hd hc) pl.isList (nT rv) h0 (λx y t u s Q E q=>?_) λt h' tk kp=>?_)
 . unfold lts at q;rw[ltCps_eq] at q;exact PySem.P.gt_str q
 . exact ⟨.str (bV true ns),H,I.kept (t':=tk) kp,⟨t,rfl⟩,q⟩
def l8(up:Bool):List (Md×D)->Option (Md×D)
 | [(_,.lst ds)]=>match txD ds with
  | some ns=>if 0<ns.length then some (.fz,.str (bV up ns)) else none
  | none=>none
 | _=>none
theorem oP{up:Bool}{ns:List Str}(h:0<ns.length):bV up ns∈ns:=by
 unfold bV;have l:argBest (λi j=>if up then lts (ns.getD j Str.empty) (ns.getD i Str.empty) else lts (ns.getD i Str.empty) (ns.getD j Str.empty)) (ns.length-1)<ns.length:=aUI (yJ _) (by omega)
 generalize argBest _ _=j at l;simp[l]
theorem yK{up:Bool}{f:Value}(hr:cL X f (sC up X.K)):dQ X f (l8 up):=by
 refine ⟨_,hr,λF H xs vs k d Q s rx e w=>?_⟩;unfold l8 at e;split at e
 . rename_i m ds;split at e
   . rename_i ns en;split at e
     . rename_i hc;cases e;obtain ⟨v,rfl,r⟩:=rx.one;obtain ⟨a,xs,rfl,q,rl⟩:=r.seqL s;obtain ⟨rfl,k1⟩:=rF en rl;exact ⟨a,ns,rfl,q,hc,w _ F H (.refl s) (iY (k1 _ (oP hc))) (by intro z;cases z)⟩
     . cases e
   . cases e
 . cases e
end
end D3
set_option genSizeOfSpec false
set_option genInjectivity false
namespace D3
open PySem PySem.Spec PyProof.Rows L2
inductive KC where | s (y:Str) | i (n:Int) | t (tb:List (Str×Str))
 deriving DecidableEq
def KC.d:KC->D | .s y=>.str y | .i n=>.int n | .t _=>.non
inductive GV where | con (c:KC) | fn (n:Nat) | no | cls
 deriving DecidableEq
inductive Bn where | len | isinstance | all
 deriving DecidableEq
def Bn.name:Bn->Str
 | .len => "len" | .isinstance => "isinstance" | .all => "all"
def Bn.f:Bn->List (Md×D)->Option (Md×D)
 | .len=>eE | .isinstance=>bI | .all=>iH
def Bn.id:Bn->String
 | .len => "len" | .isinstance => "isinstance" | .all => "all"
inductive Ty where | int | bool | str | tuple | list | dict
 deriving DecidableEq
def Ty.f:Ty->List (Md×D)->Option (Md×D)
 | .tuple=>eQ | .list=>gJ | .int=>j3 | .str=>lT | .dict=>n6 | _=>λ_=>none
def Ty.id:Ty->String
 | .int => "int" | .bool => "bool" | .str => "str" | .tuple => "tuple" | .list => "list" | .dict => "dict"
structure WD where
 Φ:Str->List D->Res
 I:Str->Option (List D->Res)
 cl:List CI
 xt:List ((Str×Str)×Bool)
 xi:List ((Str×Str)×Bool)
def WD.xf(W:WD):Str->Str->Option Bool:=λc x=>W.xt.lookup (c,x)
def WD.xg(W:WD):Str->Str->Option Bool:=λc x=>W.xi.lookup (c,x)
inductive E where
 | var (i:Nat) | non | bl (b:Bool) | int (i:Int) | str (x:Str)
 | glob (x:Str) (c:KC) | ty (t:Ty)
 | bin (op:Operator) (a b:E) | cmp (op:CmpOp) (a b:E)
 | andL (es:List E) | orL (es:List E) | not (a:E) | tru (a:E) | frz (a:E)
 | ix (a b:E) | slice (a:E) (lo hi:Option E)
 | tup (es:List E) | lst (es:List E)
 | call (f:Str) (n:Nat) (es:List E) | bcall (b:Bn) (es:List E)
 | items (a:E) | rng1 (a:E)
 | comp (elt it:E) (ts:List E) (aD:List Nat) (t:Tg) (n:Nat)
 | tcall (t:Ty) (es:List E)
 | dnew
 | meth (o:E) (m:Str) (es:List E) | mk0 (c:Str)
 | never
 | nnew | nix (a b:E) | nget (a k d:E) | nkeys (a:E) | srtw (a:E) | us2 (a:E) | ltn (a b:E) | bst (up:Bool) (a:E)
def noF:Md->D->Md->D->Option (Md×D):=λ_ _ _ _=>none
def aZ:Operator->Md->D->Md->D->Option (Md×D)
 | .Add=>orO fAdd nX | .Sub=>fSub | .Mult=>orO fMul noK | .Mod=>fMod | .FloorDiv=>fDiv | .Pow=>fPow | .BitAnd=>wZ | .BitOr=>fBor | .LShift=>fShl | .RShift=>fShr | _=>noF
def bX:CmpOp->Md->D->Md->D->Option (Md×D)
 | .Lt=>orO fLt ltF | .LtE=>fLe | .Gt=>fGt | .GtE=>fGe | .Eq=>fEq | .NotEq=>fNe | .In=>orO fIn noK | .NotIn=>orO aGP noK | .Is=>fIs false | .IsNot=>fIs true
mutual
def evE(W:WD):E->Rho->Res
 | .var i,ρ=>eO ρ i
 | .non,_=>.ok .fz .non
 | .bl b,_=>.ok .fz (.bl b)
 | .int i,_=>.ok .fz (.int i)
 | .str x,_=>.ok .fz (.str x)
 | .glob _ c,_=>.ok .fz c.d
 | .ty t,_=>.ok .fz (.ty t.id)
 | .bin op a b,ρ=>op2 (aZ op) (evE W a ρ) (evE W b ρ)
 | .cmp op a b,ρ=>op2 (bX op) (evE W a ρ) (evE W b ρ)
 | .andL es,ρ=>evA W es ρ
 | .orL es,ρ=>dX W es ρ
 | .not a,ρ=>lG (evE W a ρ)
 | .tru a,ρ=>lF (evE W a ρ)
 | .frz a,ρ=>aY (evE W a ρ)
 | .ix a b,ρ=>op2 ixD (evE W a ρ) (evE W b ρ)
 | .slice a lo hi,ρ=>slP (evE W a ρ) (evO W lo) (evO W hi) ρ
 | .tup es,ρ=>i7 (cA W es ρ)
 | .lst es,ρ=>dP (cA W es ρ)
 | .call f n es,ρ=>bE n (W.Φ f) (cA W es ρ)
 | .bcall b es,ρ=>eD b.f (cA W es ρ)
 | .items a,ρ=>eZ (aY (evE W a ρ))
 | .rng1 a,ρ=>fL (cG (evE W a ρ) (.ok []))
 | .comp elt it ts aD t n,ρ=>b0 (evE W it ρ) ρ aD n (aQ t) (λρ=>evF W ts ρ) (λρ=>evE W elt ρ)
 | .tcall t es,ρ=>eD t.f (cA W es ρ)
 | .dnew,_=>.ok .fr (.dct [])
 | .meth o m es,ρ=>fA W.cl W.Φ m (evE W o ρ) (cA W es ρ)
 | .mk0 c,_=>.ok .fr (.ins c [])
 | .never,_=>.stuck
 | .nnew,_=>.ok .fr (.dtn [])
 | .nix a b,ρ=>op2 lZ (evE W a ρ) (evE W b ρ)
 | .nget a k d,ρ=>l0 (evE W a ρ) (evE W k ρ) (evE W d ρ)
 | .nkeys a,ρ=>l6 (evE W a ρ)
 | .srtw a,ρ=>eD fN (cG (evE W a ρ) (.ok []))
 | .us2 a,ρ=>fO (evE W a ρ)
 | .ltn a b,ρ=>op2 ltW (evE W a ρ) (evE W b ρ)
 | .bst up a,ρ=>eD (l8 up) (cG (evE W a ρ) (.ok []))
def cA(W:WD):List E->Rho->a6
 | [],_=>.ok []
 | e::es,ρ=>cG (evE W e ρ) (cA W es ρ)
def evA(W:WD):List E->Rho->Res
 | [],_=>.stuck
 | [e],ρ=>evE W e ρ
 | e::es,ρ=>fH (evE W e ρ) (evA W es ρ)
def dX(W:WD):List E->Rho->Res
 | [],_=>.stuck
 | [e],ρ=>evE W e ρ
 | e::es,ρ=>orR (evE W e ρ) (dX W es ρ)
def evF(W:WD):List E->Rho->Res
 | [],_=>.ok .fz (.bl true)
 | e::es,ρ=>fH (evE W e ρ) (evF W es ρ)
def evL(W:WD):List E->List (Rho->Res)
 | []=>[]
 | e::es=>evE W e::evL W es
def evO(W:WD):Option E->Option (Rho->Res)
 | none=>none
 | some e=>some (evE W e)
end
structure MG where
 G:List (Str×GV)
 mk0:List Str
 mki:List (Str×Str×Nat)
 iso:List Str
 xcs:List Str
 xns:List Str
structure MC where
 N:List Str
 sc:Scope
 g:MG
 fn:Bool
 calm:Bool
 rz:Bool
def MC.kind(m:MC)(x:Str):Option NameKind:=m.sc.names.lookup x
def MC.vis(m:MC)(x:Str):Bool:=(m.kind x==some .local||m.kind x==some .cell||m.kind x==some .free)&&x != "__debug__" && x != "__classdict__"
def MC.glob(m:MC)(x:Str)(v:GV):Bool:=m.kind x==some .globalImplicit&&m.g.G.lookup x==some v&&x != "__debug__" && x != "__name__"
def MC.gk(m:MC)(x:Str):Bool:=m.kind x==some .globalImplicit&&x != "__debug__"
def strK(x:Str):Bool:=decide (x.length<=sizeLine)&&PyData.strOk x
def sD:Expr->Bool | .Slice ..=>false | _=>true
def iO:Expr->Bool | .Set ..=>false | _=>true
def yL:Expr->Bool | .UnaryOp .Not _ _=>false | .BoolOp ..=>false | .IfExp ..=>false | .Compare ..=>false | _=>true
def MC.sub(m:MC)(scope:Scope)(aH tgN:List Str):MC:={ m with N:=aH++tgN,sc:={ scope with names:=lO scope m.sc },fn:=false,rz:=false }
def MC.loc(m:MC)(i:Nat)(x:Str):Bool:=m.N[i]?==some x&&(m.kind x==some .local||(m.fn&&m.kind x==some .cell))
mutual
def mG(m:MC):Tg->Expr->Bool
 | .nm i,e=>match e with | .Name x _=>m.loc i x | _=>false
 | .tp ts,e=>match e with | .Tuple es _ _=>m.calm&&es.all iK&&mGs m ts es | _=>false
def mGs(m:MC):List Tg->List Expr->Bool
 | [],es=>es.isEmpty
 | t::ts,l=>match l with | e::es=>mG m t e&&mGs m ts es | _=>false
end
def f7:Nat->Expr->List Str
 | _,.Name x _=>[x]
 | n+1,.Tuple es _ _=>es.flatMap (f7 n)
 | _,_=>[]
def oQ(scope sc:Scope)(N:List Str)(aD:List Nat)(aH tgN:List Str):Bool :=
 scope.names.all (λy=>y.2 != .cell)&&scope.kind == .function&&scope.names.all (λy=>y.2 != .local||scope.names.lookup y.1==some .local) &&
 scope.names.all (λy=>y.2 != .free||sc.names.lookup y.1==some .cell||sc.names.lookup y.1==some .free)&&(aH.map some==aD.map λi=>N[i]?)&&aH.all (λy=>scope.names.contains (y,.free)) &&
 aH.all (λy=>(lO scope sc).lookup y==some .cell||(lO scope sc).lookup y==some .free)&&decide (aH++tgN).Nodup
def strK':KC->Bool | .s y=>strK y | .i _=>true | .t _=>false
structure SX(k:Nat)(W:WD)(m:MC)(C:Cw)(X:Cx):Prop where
 hN:X.N=m.N
 hs:X.env.scope=m.sc
 cm:m.calm=true->X.calm=true
 rm:m.calm=true->cX k X.A
 un:X.A.units+64<cLine
 xo:m.calm=true->XOk (CX1 X.prog X.w) (C.at X) X
 xt:qY X.K X.mg W.xf
 xi:qZ X.K X.mg W.xg
 xc:∀ c,c∈m.g.xcs->∃ Cc,X.mg c=some (.ref Cc)/\wK X.K Cc
 xn:∀ n,n∈m.g.xns->∃ cv,n4 X.mg n cv
 con:∀ x c,m.g.G.lookup x=some (.con c)->match c with | .s y=>∃ t,X.mg x=some (.str y t) | .i n=>∃ t,X.mg x=some (.int n t) | .t tb=>j4 X.w X.K X.mg x tb
 no:∀ x,m.g.G.lookup x=some .no->X.mg x=none
 mk0:∀ c,c∈m.g.mk0->qO X.K X.mg c
 mki:∀ c key n,(c,key,n)∈m.g.mki->∀ Φ,W.I key=some Φ->∃ j,j+1<=k/\InV X.prog X.w X.K X.mg X.base (CX1 X.prog X.w) j c n Φ
 iso:∀ c,c∈m.g.iso->IsV X.K X.mg W.cl c
 fl:∀ i f,i∈W.cl->f∈i.flds->FlV X.K i.name f
 mt:∀ c m key n,CI.meth W.cl c m=some (key,n)->MtV X.prog X.w X.K X.mg X.base (CX1 X.prog X.w) k c m n (W.Φ key)
 fn:∀ x n,m.g.G.lookup x=some (.fn n)->FnV X.prog X.w X.K X.mg X.base (CX1 X.prog X.w) k x n (W.Φ x)
 fnn:m.fn=true->∀ x,X.fn x=true
section
variable {k:Nat}{W:WD}{m:MC}{C:Cw}{X:Cx}{x y:Expr}
theorem SX.gl(S:SX k W m C X){z:Str}{v:GV}(h:m.glob z v=true):Gl X z/\m.g.G.lookup z=some v/\(z==("__debug__" : Str))=false/\z ≠ "__name__" := by
 unfold MC.glob MC.kind at h;simp only[aRI,aQL,aUJ] at h;obtain ⟨⟨⟨h1,h2⟩,h3⟩,h4⟩:=h;refine ⟨?_,h2,by simpa using h3,h4⟩
 show X.env.scope.names.lookup z=_;rw[S.hs];exact h1
theorem SX.vis(S:SX k W m C X){z:Str}(h:m.vis z=true):Vis X.env.scope z/\(z==("__debug__" : Str))=false/\(z==("__classdict__" : Str))=false:=by
 unfold MC.vis MC.kind at h;simp only[aRI,aR4,aQL,aUJ] at h;obtain ⟨⟨h1,h2⟩,h3⟩:=h;refine ⟨?_,by simpa using h2,by simpa using h3⟩
 unfold Vis;rw[S.hs];rcases h1 with (h1 | h1) | h1
 . exact .inl h1
 . exact .inr (.inl h1)
 . exact .inr (.inr h1)
theorem aKK(b:Bn):bootBuiltins b.name=some (.builtin b.id):=by
 cases b
 . exact aGQ
 . exact aGR
 . exact aGS
theorem aKL(b:Bn){c:Bool}(hc:c=true->X.calm=true)(h:(c||b == .len||b == .isinstance)=true):dQ X (.builtin b.id) b.f:=by
 have hc:(b == .len||b == .isinstance)=false->X.calm=true:=λz=>hc (by cases c with | true=>rfl | false=>rw[Bool.false_or] at h;rw[h] at z;cases z)
 cases b
 . exact aFP
 . exact aFR
 . exact aFW (hc rfl)
theorem aKM{f:Value}:dQ X f (λ_=>none):=⟨λ_ _ _=>False,λ_ _ _ _ _ _ _ _ _ h=>h.elim,λ_ _ _ _ _ _ _ _ _ e _=>by cases e⟩
theorem aKN(t:Ty):dQ X (.type t.id) t.f:=by
 cases t
 . exact aH2
 . exact aKM
 . exact aHG
 . exact aHC
 . exact aHD
 . exact aIE
theorem yM(t:Ty):bootBuiltins (t.id:Str)=some (.type t.id):=by
 cases t
 . exact aGT
 . exact aGU
 . exact aGV
 . exact aGW
 . exact aGX
 . exact aGY
theorem aKO(op:Operator):(∃ φ,aZ op=φ/\OpD C X (binaryOp op) φ)\/aZ op=noF:=by
 cases op
 case Add=>exact .inl ⟨_,rfl,o_add.or aG8⟩
 case Sub=>exact .inl ⟨_,rfl,aEV⟩
 case Mult=>exact .inl ⟨_,rfl,o_mul.or j0⟩
 case Mod=>exact .inl ⟨_,rfl,aEY⟩
 case FloorDiv=>exact .inl ⟨_,rfl,aE0⟩
 case Pow=>exact .inl ⟨_,rfl,aE1⟩
 case BitAnd=>exact .inl ⟨_,rfl,aIX⟩
 case BitOr=>exact .inl ⟨_,rfl,aIY⟩
 case LShift=>exact .inl ⟨_,rfl,aIZ⟩
 case RShift=>exact .inl ⟨_,rfl,aI0⟩
 all_goals exact .inr rfl
theorem oR:IsB noK:=λ_ _ _ _ _ _ z=>by cases z
theorem aKP(op:CmpOp)(hu:X.A.units+64<cLine):(OpD C X (compareOp op) (bX op)/\IsB (bX op))\/bX op=noF:=by
 cases op
 case Lt=>exact .inl ⟨aE2.or (aH0 hu),lN nV aH1⟩
 case LtE=>exact .inl ⟨aE3,nV⟩
 case Gt=>exact .inl ⟨aE4,nV⟩
 case GtE=>exact .inl ⟨aE5,nV⟩
 case Eq=>exact .inl ⟨o_eq hu,lN wD oR⟩
 case NotEq=>exact .inl ⟨o_ne hu,lN wD oR⟩
 case In=>exact .inl ⟨aE8.or j0,lN wC oR⟩
 case NotIn=>exact .inl ⟨aE9.or j0,lN wC oR⟩
 case Is=>exact .inl ⟨aG4,wF⟩
 case IsNot=>exact .inl ⟨aG5,wF⟩
theorem yN{f:Value->Value->Sem Value}:OpD C X f noF:=⟨λ_ _ _ _=>False,λ_ _ _ _ _ _ _ _ _ _ _ _ h=>h.elim,λ_ _ _ _ _ _ _ _ _ _ _ _ _ _ e _=>by cases e⟩
theorem aKQ(op:Operator):OpD C X (binaryOp op) (aZ op):=by
 rcases aKO (C:=C) (X:=X) op with ⟨φ,e,h⟩ | e
 . rw[e];exact h
 . rw[e];exact yN
theorem sH(op:CmpOp)(hu:X.A.units+64<cLine):OpD C X (compareOp op) (bX op)/\IsB (bX op):=by
 rcases aKP (C:=C) op hu with h | e
 . exact h
 . rw[e];exact ⟨yN,λ_ _ _ _ _ _ z=>by cases z⟩
theorem sJ(op:CmpOp){e:Expr}(h:iO e=true):behindInMarks op e=false:=by cases e <;> first | rfl | cases h
theorem sK{e:Expr}{env:Env}(h:iO e=true):∀ v,foldedSetIterable e env v=pure v:=by intro v;cases e <;> first | rfl | cases h
theorem yO{e:Expr}(h:sD e=true):nM e:=by intro o i;cases e <;> first | rfl | cases h
theorem aKR{e:Expr}{env:Env}(h:yL e=true):∀ cW,isTrue e env cW=(do let v <- cW;standAt e.pos;holding [v] (truthy v)):=by
 intro cW;cases e
 case UnaryOp op _ _=>cases op <;> first | rfl | cases h
 all_goals first | rfl | cases h
theorem SX.sub(S:SX k W m C X){scope:Scope}{aH tgN:List Str}(cl:List (Str×Addr))(A:Addr)(fp:List Addr)(s3:Shared)(H3:Hp):SX k W (m.sub scope aH tgN) C.nox (bR X scope (aH++tgN) cl A fp s3 H3):=by
 refine ⟨rfl,?_,S.cm,S.rm,S.un,λ_ aA σ H s e s' I h=>?_,S.xt,S.xi,S.xc,S.xn,S.con,S.no,S.mk0,S.mki,S.iso,S.fl,S.mt,S.fn,λz=>by cases z⟩
 rotate_left
 . obtain ⟨_,_,_,_,_,_,_,_,_,_,_,_,z⟩:=h;exact z.elim
 show (compEnvC scope cl A X.env).scope=_;unfold MC.sub;rw[<- S.hs];rfl
theorem SX.loc(S:SX k W m C X){i:Nat}{z:Str}(h:m.loc i z=true):X.N[i]? = some z/\L2.Loc X.env.scope z/\(X.fn z=true\/X.env.scope.names.lookup z=some .local):=by
 unfold MC.loc MC.kind at h;simp only[aRI,aR4,aQL] at h;refine ⟨by rw[S.hN];exact h.1,?_,?_⟩
 . unfold L2.Loc;rw[S.hs];rcases h.2 with q | q
   . exact .inl q
   . exact .inr q.2
 . rw[S.hs];rcases h.2 with q | q
   . exact .inr q
   . exact .inl (S.fnn q.1 z)
mutual
theorem sG(S:SX k W m C X)(hN:m.N.Nodup):∀ (t:Tg) {e:Expr},mG m t e=true->PGw X e t
 | .nm i,e,h=>by
  simp only[mG] at h;split at h
  . obtain ⟨a,b,c⟩:=S.loc h;exact aHP (by rw[S.hN];exact hN) a b c
  . cases h
 | .tp ts,e,h=>by
  simp only[mG] at h;split at h
  . rw[aRI,aRI,aSB] at h;obtain ⟨p,l⟩:=sGs S hN ts h.2 h.1.2;exact aHT (S.cm h.1.1) p h.1.2 l
  . cases h
theorem sGs(S:SX k W m C X)(hN:m.N.Nodup):∀ (ts:List Tg) {es:List Expr},mGs m ts es=true->(∀ e∈es,iK e=true)->i8 X es ts/\es.length=ts.length
 | [],[],h,_=>⟨aHQ,rfl⟩
 | [],_::_,h,_=>by simp[mGs] at h
 | t::ts,[],h,_=>by simp[mGs] at h
 | t::ts,e::es,h,hs=>by simp only[mGs,aRI] at h;obtain ⟨p,l⟩:=sGs S hN ts h.2 λx hx=>hs x (mcm hx);exact ⟨aHR (sG S hN t h.1) p (hs e mcs),by rw[aR1,aR1,l]⟩
end
end
theorem aKS{C:Cw}{X:Cx}{e:Expr}:PV C X e (λ_=>.stuck):=λaA s σ H Q I q=>by rw[a7] at q;obtain ⟨ρ,F,R,w⟩:=q;exact w.elim
abbrev PE(m:MC)(f:E)(e:Expr):Prop:=∀ {k:Nat} {W:WD} {C:Cw} {X:Cx},SX k W m C X->PV C X e (evE W f)
abbrev PTE(m:MC)(f:E)(e:Expr):Prop:=∀ {k:Nat} {W:WD} {C:Cw} {X:Cx},SX k W m C X->PTv C X e (evE W f)
abbrev PIE(m:MC)(tg:Expr)(f:E)(e:Expr):Prop:=∀ {k:Nat} {W:WD} {C:Cw} {X:Cx},SX k W m C X->PIv C X tg e (evE W f)
inductive eV(m:MC):List E->List Expr->Prop
 | nil:eV m [] []
 | cons {f fs x xs}:cS x=true->PE m f x->eV m fs xs->eV m (f::fs) (x::xs)
inductive fP(m:MC):List E->List Expr->Prop
 | nil:fP m [] []
 | cons {f fs x xs}:PTE m f x->fP m fs xs->fP m (f::fs) (x::xs)
abbrev CkE(m:MC)(f:E)(e:Expr):Type:=Option (PLift (PE m f e))
abbrev CkT(m:MC)(f:E)(e:Expr):Type:=Option (PLift (PTE m f e))
abbrev CkI(m:MC)(tg:Expr)(f:E)(e:Expr):Type:=Option (PLift (PIE m tg f e))
abbrev fQ(m:MC)(f:List E)(e:List Expr):Type:=Option (PLift (eV m f e))
abbrev CkF(m:MC)(f:List E)(e:List Expr):Type:=Option (PLift (fP m f e))
abbrev CkO(m:MC)(f:Option E)(e:Option Expr):Type:=Option (PLift (∀ {k:Nat} {W:WD} {C:Cw} {X:Cx},SX k W m C X->POv C X e (evO W f)))
theorem got{P:Prop}:∀ {o:Option (PLift P)},o.isSome=true->P
 | some p,_=>p.down
 | none,h=>nomatch h
section
variable {k:Nat}{W:WD}{m:MC}{C:Cw}{X:Cx}
theorem eV.star:∀ {fs:List E} {es:List Expr},eV m fs es->∀ x∈es,cS x=true
 | _,_,.nil=>λx hx=>by cases hx
 | _,_,.cons s _ q=>λx hx=>by
  rcases aPY.mp hx with rfl | hx
  . exact s
  . exact q.star x hx
theorem eV.es(S:SX k W m C X):∀ {fs:List E} {es:List Expr},eV m fs es->PAv C X es (cA W fs)
 | _,_,.nil=>by simp only[cA];exact lI
 | _,_,.cons s p q=>by simp only[cA];exact lJ (p S) (q.es S) (cH s)
theorem eV.a{pos:Pos}(S:SX k W m C X):∀ {fs:List E} {es:List Expr},eV m fs es->PV C X (.BoolOp .And es pos) (evA W fs)
 | _,_,.nil=>λaA s σ H Q I q=>by rw[a7] at q;obtain ⟨ρ,F,R,w⟩:=q;exact w.elim
 | _,_,.cons s p .nil=>by simp only[evA];exact vU (p S)
 | _,_,.cons s p (.cons s' p' q)=>by simp only[evA];exact aFG (p S) (eV.a S (.cons s' p' q))
theorem eV.o{pos:Pos}(S:SX k W m C X):∀ {fs:List E} {es:List Expr},eV m fs es->PV C X (.BoolOp .Or es pos) (dX W fs)
 | _,_,.nil=>λaA s σ H Q I q=>by rw[a7] at q;obtain ⟨ρ,F,R,w⟩:=q;exact w.elim
 | _,_,.cons s p .nil=>by simp only[dX];exact vU (p S)
 | _,_,.cons s p (.cons s' p' q)=>by simp only[dX];exact aFH (p S) (eV.o S (.cons s' p' q))
theorem fP.a{pos:Pos}(S:SX k W m C X):∀ {fs:List E} {es:List Expr},fP m fs es->PWv C X (.BoolOp .And es pos) (evA W fs)
 | _,_,.nil=>λcW aA s σ H Q I q=>by obtain ⟨ρ,F,R,w⟩:=q;exact w.elim
 | _,_,.cons p .nil=>by simp only[evA];exact vQ (p S)
 | _,_,.cons p (.cons p' q)=>by simp only[evA];exact aFE (p S) (fP.a S (.cons p' q))
theorem fP.o{pos:Pos}(S:SX k W m C X):∀ {fs:List E} {es:List Expr},fP m fs es->PWv C X (.BoolOp .Or es pos) (dX W fs)
 | _,_,.nil=>λcW aA s σ H Q I q=>by obtain ⟨ρ,F,R,w⟩:=q;exact w.elim
 | _,_,.cons p .nil=>by simp only[dX];exact vQ (p S)
 | _,_,.cons p (.cons p' q)=>by simp only[dX];exact aFF (p S) (fP.o S (.cons p' q))
theorem fP.f(S:SX k W m C X):∀ {fs:List E} {es:List Expr},fP m fs es->eG X es (tT (C.at X) (evF W fs))
 | _,_,.nil=>by
  have:evF W []=λ_=>.ok .fz (.bl true):=by funext ρ;simp only[evF]
  rw[this];exact aGI
 | f::fs,_,.cons p q=>by
  have:evF W (f::fs)=λρ=>fH (evE W f ρ) (evF W fs ρ):=by funext ρ;simp only[evF]
  rw[this];exact aGJ (p S) (q.f S)
section
variable {fs:List E}{es:List Expr}{r:fQ m fs es}{t:CkF m fs es}{pos:Pos}
theorem gSt(h:r.isSome=true):∀ x∈es,cS x=true:=(got h).star
theorem gEs(h:r.isSome=true)(S:SX k W m C X):PAv C X es (cA W fs):=(got h).es S
theorem gA(h:r.isSome=true)(S:SX k W m C X):PV C X (.BoolOp .And es pos) (evA W fs):=(got h).a S
theorem gOr(h:r.isSome=true)(S:SX k W m C X):PV C X (.BoolOp .Or es pos) (dX W fs):=(got h).o S
theorem gWA(h:t.isSome=true)(S:SX k W m C X):PWv C X (.BoolOp .And es pos) (evA W fs):=(got h).a S
theorem gWO(h:t.isSome=true)(S:SX k W m C X):PWv C X (.BoolOp .Or es pos) (dX W fs):=(got h).o S
theorem gF(h:t.isSome=true)(S:SX k W m C X):eG X es (tT (C.at X) (evF W fs)):=(got h).f S
end
end
theorem aKT{C:Cw}{X:Cx}{e:Expr}:PTv C X e (λ_=>.stuck):=by intro aA s σ H Q I q;obtain ⟨ρ,F,R,w⟩:=q;exact w.elim
theorem aKU{C:Cw}{X:Cx}{tg e:Expr}:PIv C X tg e (λ_=>.stuck):=by intro aA s σ H R I q;obtain ⟨ρ,F,RS,w⟩:=q;exact w.elim
noncomputable def aKV{m:MC}{a e}(r1:CkE m a e):CkE m (.frz a) e:=if h:r1.isSome=true then some ⟨λS=>iG (got h S)⟩ else none
noncomputable def aKW {m : MC} {a e} (r1 : CkE m a e) : CkT m (.tru a) e := if h : (yL e && r1.isSome) = true then some ⟨fun {k} {W} {C} {X} S => by
    simp only[aRI] at h;exact aFB (got h.2 S) (aKR h.1)⟩ else none
noncomputable def aKX{m:MC}{tg a e}(r1:CkE m a e):CkI m tg (.items a) e:=if h:r1.isSome=true then some ⟨λS=>aF7 (got h S)⟩ else none
noncomputable def aKY{m:MC}{tg a e}(r1:CkE m a e):CkI m tg (.nkeys a) e:=if h:r1.isSome=true then some ⟨λS=>aJ1 (got h S)⟩ else none
noncomputable def aKZ {m : MC} {i} {x} {p1} : CkE m (.var i) (.Name x p1) := if h : (m.N[i]? == some x && m.vis x) = true then some ⟨fun {k} {W} {C} {X} S => by
    simp only[aRI,aQL] at h;obtain ⟨h1,h2,h3⟩:=S.vis h.2
    exact aEQ i (m9 (by rw[S.hN];exact h.1) h1 h2 h3)⟩ else none
noncomputable def aK0 {m : MC} {y} {c} {x} {p1} : CkE m (.glob y c) (.Name x p1) := if h : (x == y && m.glob x (.con c) && strK' c) = true then some ⟨fun {k} {W} {C} {X} S => by
    simp only[aRI,aQL] at h;obtain ⟨⟨rfl,h1⟩,h2⟩:=h;obtain ⟨g,l,hd,hn⟩:=S.gl h1;have:=S.con _ _ l;cases c with
    | s y=>obtain ⟨t,ht⟩:=this;exact aFS g ht h2 hd
    | i n=>obtain ⟨t,ht⟩:=this;exact aFT g ht hd
    | t tb=>cases h2⟩ else none
noncomputable def kE_ty {m : MC} {t} {x} {p1} : CkE m (.ty t) (.Name x p1) := if h : (x == (t.id : Str) && m.glob x .no) = true then some ⟨fun {k} {W} {C} {X} S => by
    simp only[aRI,aQL] at h;obtain ⟨rfl,h1⟩:=h;obtain ⟨g,l,hd,hn⟩:=S.gl h1;exact pv_ty g (S.no _ l) (yM t) hn hd⟩ else none
noncomputable def aK1 {m : MC} {p0} {p1} : CkE m (.non) (.Constant .none p0 p1) := if h : (true) = true then some ⟨fun {k} {W} {C} {X} S => by
    exact aES⟩ else none
noncomputable def kE_bl {m : MC} {c} {b} {p1} {p2} : CkE m (.bl c) (.Constant (.bool b) p1 p2) := if h : (b == c) = true then some ⟨fun {k} {W} {C} {X} S => by
    simp only[aQL] at h;subst h;exact pv_bl⟩ else none
noncomputable def aK2 {m : MC} {c} {b} {p1} {p2} : CkE m (.int c) (.Constant (.int b) p1 p2) := if h : (b == c) = true then some ⟨fun {k} {W} {C} {X} S => by
    simp only[aQL] at h;subst h;exact aER⟩ else none
noncomputable def aK3 {m : MC} {c} {b} {p1} {p2} : CkE m (.str c) (.Constant (.str b) p1 p2) := if h : (b == c && strK b) = true then some ⟨fun {k} {W} {C} {X} S => by
    simp only[aRI,aQL] at h;obtain ⟨rfl,h⟩:=h;exact aET h⟩ else none
noncomputable def aK4 {m : MC} {op} {a} {b} {x} {o} {y} {p3} (r1 : CkE m a x) (r2 : CkE m b y) : CkE m (.bin op a b) (.BinOp x o y p3) := if h : (o == op && (r1.isSome && r2.isSome)) = true then some ⟨fun {k} {W} {C} {X} S => by
    simp only[aRI,aQL] at h;obtain ⟨rfl,h1,h2⟩:=h;exact pv_op (aKQ _) (got h1 S) (got h2 S)⟩ else none
noncomputable def aK5 {m : MC} {op} {a} {b} {x} {o} {y} {p3} (r1 : CkE m a x) (r2 : CkE m b y) : CkE m (.cmp op a b) (.Compare x [o] [y] p3) := if h : (o == op && iO y && (r1.isSome && r2.isSome)) = true then some ⟨fun {k} {W} {C} {X} S => by
    simp only[aRI,aQL] at h;obtain ⟨⟨rfl,hs⟩,h1,h2⟩:=h;exact vO (sH _ S.un).1 (got h1 S) (got h2 S) (sJ _ hs)⟩ else none
noncomputable def aK6 {m : MC} {es} {xs} {p1} (r1 : fQ m es xs) : CkE m (.andL es) (.BoolOp .And xs p1) := if h : (r1.isSome) = true then some ⟨fun {k} {W} {C} {X} S => by
    exact gA h S⟩ else none
noncomputable def aK7 {m : MC} {es} {xs} {p1} (r1 : fQ m es xs) : CkE m (.orL es) (.BoolOp .Or xs p1) := if h : (r1.isSome) = true then some ⟨fun {k} {W} {C} {X} S => by
    exact gOr h S⟩ else none
noncomputable def aK8 {m : MC} {a} {x} {p1} (r1 : CkE m a x) : CkE m (.not a) (.UnaryOp .Not x p1) := if h : (r1.isSome) = true then some ⟨fun {k} {W} {C} {X} S => by
    exact aFI (got h S)⟩ else none
noncomputable def aK9 {m : MC} {a} {l} {u} {x} {lo} {hi} {p3} {p4} (r1 : CkE m a x) (r2 : CkO m l lo) (r3 : CkO m u hi) : CkE m (.slice a l u) (.Subscript x (.Slice lo hi none p3) p4) := if h : (r1.isSome && (r2.isSome && r3.isSome)) = true then some ⟨fun {k} {W} {C} {X} S => by
    simp only[aRI] at h;obtain ⟨h0,h1,h2⟩:=h;exact aIC (got h0 S) (got h1 S) (got h2 S)⟩ else none
noncomputable def kE_ix {m : MC} {a} {b} {x} {y} {p2} (r1 : CkE m a x) (r2 : CkE m b y) : CkE m (.ix a b) (.Subscript x y p2) := if h : (sD y && (r1.isSome && r2.isSome)) = true then some ⟨fun {k} {W} {C} {X} S => by
    simp only[aRI] at h;obtain ⟨h0,h1,h2⟩:=h;exact pv_ix (got h1 S) (got h2 S) (yO h0)⟩ else none
noncomputable def aLA {m : MC} {es} {es0} {p1} {p2} (r1 : fQ m es es0) : CkE m (.tup es) (.Tuple es0 p1 p2) := if h : (r1.isSome) = true then some ⟨fun {k} {W} {C} {X} S => by
    exact aFN (gEs h S)⟩ else none
noncomputable def aLB {m : MC} {es} {es0} {p1} (r1 : fQ m es es0) : CkE m (.lst es) (.List es0 p1) := if h : (r1.isSome) = true then some ⟨fun {k} {W} {C} {X} S => by
    exact aFO (gEs h S)⟩ else none
noncomputable def aLC {m : MC} {g} {n} {es} {f} {p} {x} {xs} {cp} (r1 : fQ m es (x :: xs)) : CkE m (.call g n es) (.Call (.Name f p) (x :: xs) [] cp) := if h : (m.calm && f == g && m.glob f (.fn n) && r1.isSome) = true then some ⟨fun {k} {W} {C} {X} S => by
    simp only[aRI,aQL] at h;obtain ⟨⟨⟨hq,rfl⟩,h1⟩,h2⟩:=h;obtain ⟨gl,l,hd,hn⟩:=S.gl h1;have st:=gSt h2;exact aGN (S.fn _ _ l) (S.rm hq) (S.xo hq) gl (gEs h2 S) hd (cH (st x mcs)) (lQ _ _ λy hy=>st y (mcm hy))⟩ else none
noncomputable def aLD {m : MC} {b} {es} {f} {p} {x} {xs} {cp} (r1 : fQ m es (x :: xs)) : CkE m (.bcall b es) (.Call (.Name f p) (x :: xs) [] cp) := if h : ((m.calm || b == .len || b == .isinstance) && f == b.name && m.glob f .no && r1.isSome) = true then some ⟨fun {k} {W} {C} {X} S => by
    rw[aRI,aRI,aRI] at h;obtain ⟨⟨⟨hq,hz⟩,h1⟩,h2⟩:=h;cases (aQL.mp hz);obtain ⟨gl,l,hd,hn⟩:=S.gl h1;have st:=gSt h2;exact nR (aKL b S.cm hq) gl (S.no _ l) (aKK b) (gEs h2 S) hn hd (cH (st x mcs)) (lQ _ _ λy hy=>st y (mcm hy))⟩ else none
noncomputable def aLE {m : MC} {t} {es} {f} {p1} {x} {xs} {p4} (r1 : fQ m es (x :: xs)) : CkE m (.tcall t es) (.Call (.Name f p1) (x :: xs) [] p4) := if h : (f == (t.id : Str) && m.glob f .no && r1.isSome) = true then some ⟨fun {k} {W} {C} {X} S => by
    simp only[aRI,aQL] at h;obtain ⟨⟨rfl,h1⟩,h2⟩:=h;obtain ⟨gl,l,hd,hn⟩:=S.gl h1;exact aHJ (aKN t) gl (S.no _ l) (yM t) (gEs h2 S) hn hd (gSt h2)⟩ else none
noncomputable def aLF {m : MC} {a} {f} {es} {o} {g} {ap} {xs} {cp} (r1 : CkE m a o) (r2 : fQ m es xs) : CkE m (.meth a f es) (.Call (.Attribute o g ap) xs [] cp) := if h : (m.calm && g == f && ap.endLine == cp.line && decide (xs.length < 30) && lP o && (r1.isSome && r2.isSome)) = true then some ⟨fun {k} {W} {C} {X} S => by
    simp only[aRI,aQL,aR2] at h;obtain ⟨⟨⟨⟨⟨hq,rfl⟩,h1⟩,h2⟩,h3⟩,h4,h5⟩:=h;exact aG0 S.mt (S.rm hq) (S.xo hq) (got h4 S) (gEs h5 S) h3 (gSt h5) h2 h1 λe0=>by
     subst e0;cases es with
     | nil=>funext ρ;simp only[cA]
     | cons _ _=>cases got h5⟩ else none
noncomputable def aLG {m : MC} {c} {f} {p1} {p2} : CkE m (.mk0 c) (.Call (.Name f p1) [] [] p2) := if h : (f == c && m.glob f .cls && m.g.mk0.contains f) = true then some ⟨fun {k} {W} {C} {X} S => by
    simp only[aRI,aQL,aUK] at h;obtain ⟨⟨rfl,h1⟩,h2⟩:=h;obtain ⟨gl,l,hd,hn⟩:=S.gl h1;exact aG3 (S.mk0 _ h2) gl hd⟩ else none
noncomputable def aLH {m : MC} {p0} : CkE m (.dnew) (.Dict [] [] p0) := if h : (true) = true then some ⟨fun {k} {W} {C} {X} S => by
    exact aID⟩ else none
noncomputable def aLI {m : MC} {el} {it} {ts} {aD} {t} {n} {elt} {tg} {aS} {ifs} {scope} {cp} (r1 : CkI m tg it aS) (r2 : CkE (m.sub scope (aD.filterMap fun i => m.N[i]?) (f7 4 tg)) el elt) (r3 : CkF (m.sub scope (aD.filterMap fun i => m.N[i]?) (f7 4 tg)) ts ifs) : CkE m (.comp el it ts aD t n) (.ListComp elt [⟨tg, aS, ifs, 0⟩] scope cp) := if h : (m.calm && oQ scope m.sc m.N aD (aD.filterMap fun i => m.N[i]?) (f7 4 tg) && iO aS && decide ((f7 4 tg).length = n) && (fY t).all (fun j => decide (aD.length ≤ j)) && mG (m.sub scope (aD.filterMap fun i => m.N[i]?) (f7 4 tg)) t tg && (r1.isSome && (r2.isSome && r3.isSome))) = true then some ⟨fun {k} {W} {C} {X} S => by
    simp only[aRI,aR2,aSB] at h;obtain ⟨⟨⟨⟨⟨⟨hq,ho⟩,hn⟩,hl⟩,hs⟩,hg⟩,h1,h2,h3⟩:=h;unfold oQ at ho;simp only[aRI,aSB,aR4,aUJ,aQL,aR2,aUK] at ho;obtain ⟨⟨⟨⟨⟨⟨⟨g1,g2⟩,g3⟩,g4⟩,g5⟩,g6⟩,g7⟩,g8⟩:=ho;have er:(relabel scope X.env).names=lO scope m.sc:=by rw[<- S.hs];rfl
    have := aHW (pos := cp) (tgN := f7 4 tg) (t := t) (S.cm hq) (got h1 S) g1 g2 (fun y hy e => (g3 y hy).resolve_left fun z => z e) (fun y hy e => by
        have:=g4 y hy;show X.env.scope.names.lookup y.1=_\/X.env.scope.names.lookup y.1=_;rw[S.hs];rcases this with (z | z) | z
        . exact absurd e z
        . exact .inl z
        . exact .inr z) (by rw[S.hN];exact g5) g6 (λy hy=>by rw[er];exact g7 y hy) (λj hj=>hs j hj) (λcl A fp s3 H3=>sG (S.sub cl A fp s3 H3) g8 t hg)
        (λcl A fp s3 H3=>gF h3 (S.sub cl A fp s3 H3)) (λcl A fp s3 H3=>got h2 (S.sub cl A fp s3 H3)) (sK hn)
    rw[hl] at this;exact this⟩ else none
noncomputable def aLJ {m : MC} {p0} : CkE m (.nnew) (.Dict [] [] p0) := if h : (true) = true then some ⟨fun {k} {W} {C} {X} S => by
    exact aJG⟩ else none
noncomputable def aLK {m : MC} {a} {b} {x} {y} {p2} (r1 : CkE m a x) (r2 : CkE m b y) : CkE m (.nix a b) (.Subscript x y p2) := if h : (sD y && (r1.isSome && r2.isSome)) = true then some ⟨fun {k} {W} {C} {X} S => by
    simp only[aRI] at h;obtain ⟨h0,h1,h2⟩:=h;exact aJH S.un (got h1 S) (got h2 S) (yO h0)⟩ else none
noncomputable def aLL {m : MC} {a} {b} {d} {o} {f} {ap} {x} {y} {cp} (r1 : CkE m a o) (r2 : CkE m b x) (r3 : CkE m d y) : CkE m (.nget a b d) (.Call (.Attribute o f ap) [x, y] [] cp) := if h : (f == "get" && ap.endLine == cp.line && lP o && cS x && cS y && (r1.isSome && (r2.isSome && r3.isSome))) = true then some ⟨fun {k} {W} {C} {X} S => by
    simp only[aRI,aQL] at h;obtain ⟨⟨⟨⟨⟨rfl,hl⟩,hc⟩,hs⟩,hs2⟩,h1,h2,h3⟩:=h;exact aJJ S.un (got h1 S) (got h2 S) (got h3 S) ⟨qN hc,by
     rw[nW _ _ (λz hz=>by
      simp only[aPY,List.mem_nil_iff,aSY] at hz;rcases hz with rfl | rfl
      . exact hs
      . exact hs2)];rfl,aQL.mpr hl,by rw[cH hs,cH hs2];rfl⟩⟩ else none
noncomputable def aLM {m : MC} {a} {f} {p1} {x} {p3} (r1 : CkE m a x) : CkE m (.srtw a) (.Call (.Name f p1) [x] [] p3) := if h : (f == "sorted" && m.glob f .no && cS x && r1.isSome) = true then some ⟨fun {k} {W} {C} {X} S => by
    simp only[aRI,aQL] at h;obtain ⟨⟨⟨rfl,h1⟩,hs⟩,h2⟩:=h;obtain ⟨gl,l,hd,hn⟩:=S.gl h1;exact nR (aJV S.un) gl (S.no _ l) wV (lJ (got h2 S) lI (cH hs)) hn hd (cH hs) rfl⟩ else none
noncomputable def aLN {m : MC} {a} {f} {p1} {g} {p3} {x} {p5} {p6} (r1 : CkE m a x) : CkE m (.us2 a) (.Call (.Name f p1) [.Call (.Name g p3) [x] [] p5] [] p6) := if h : (m.calm && f == "sorted" && g == "set" && m.glob f .no && m.glob g .no && cS x && r1.isSome) = true then some ⟨fun {k} {W} {C} {X} S => by
    simp only[aRI,aQL] at h;obtain ⟨⟨⟨⟨⟨⟨hq,rfl⟩,rfl⟩,h1⟩,h2⟩,s1⟩,h3⟩:=h;obtain ⟨gl,l,hd,hn⟩:=S.gl h1;obtain ⟨gl',l',hd',hn'⟩:=S.gl h2;exact aKG S.un (S.cm hq) gl (S.no _ l) gl' (S.no _ l') (got h3 S) s1⟩ else none
noncomputable def aLO {m : MC} {a} {b} {x} {o} {y} {p3} (r1 : CkE m a x) (r2 : CkE m b y) : CkE m (.ltn a b) (.Compare x [o] [y] p3) := if h : (o == .Lt && iO y && (r1.isSome && r2.isSome)) = true then some ⟨fun {k} {W} {C} {X} S => by
    simp only[aRI,aQL] at h;obtain ⟨⟨rfl,hs⟩,h1,h2⟩:=h;exact vO (aKH S.un) (got h1 S) (got h2 S) (sJ _ hs)⟩ else none
noncomputable def aLP {m : MC} {up} {a} {f} {p1} {x} {p3} (r1 : CkE m a x) : CkE m (.bst up a) (.Call (.Name f p1) [x] [] p3) := if h : (m.calm && f == (if up then "max" else "min") && m.glob f .no && cS x && r1.isSome) = true then some ⟨fun {k} {W} {C} {X} S => by
    simp only[aRI,aQL] at h;obtain ⟨⟨⟨⟨hq,rfl⟩,h1⟩,hs⟩,h2⟩:=h;obtain ⟨gl,l,hd,hn⟩:=S.gl h1;cases up with
    | false=>exact nR (yK (aKI (S.cm hq))) gl (S.no _ l) aHH (lJ (got h2 S) lI (cH hs)) hn hd (cH hs) rfl
    | true=>exact nR (yK (aKJ (S.cm hq))) gl (S.no _ l) aHI (lJ (got h2 S) lI (cH hs)) hn hd (cH hs) rfl⟩ else none
noncomputable def aLQ {m : MC} {op} {a} {b} {x} {o} {y} {p3} (r1 : CkE m a x) (r2 : CkE m b y) : CkT m (.cmp op a b) (.Compare x [o] [y] p3) := if h : (o == op && iO y && (r1.isSome && r2.isSome)) = true then some ⟨fun {k} {W} {C} {X} S => by
    simp only[aRI,aQL] at h;obtain ⟨⟨rfl,hs⟩,h1,h2⟩:=h;exact aFC (sH _ S.un).1 (sH (C:=C) _ S.un).2 (got h1 S) (got h2 S) (sJ _ hs)⟩ else none
noncomputable def aLR {m : MC} {es} {xs} {p1} (r1 : CkF m es xs) : CkT m (.andL es) (.BoolOp .And xs p1) := if h : (r1.isSome) = true then some ⟨fun {k} {W} {C} {X} S => by
    exact pt_w (gWA h S)⟩ else none
noncomputable def aLS {m : MC} {es} {xs} {p1} (r1 : CkF m es xs) : CkT m (.orL es) (.BoolOp .Or xs p1) := if h : (r1.isSome) = true then some ⟨fun {k} {W} {C} {X} S => by
    exact pt_w (gWO h S)⟩ else none
noncomputable def aLT {m : MC} {a} {x} {p1} (r1 : CkT m a x) : CkT m (.not a) (.UnaryOp .Not x p1) := if h : (r1.isSome) = true then some ⟨fun {k} {W} {C} {X} S => by
    exact aFD (got h S)⟩ else none
noncomputable def aLU {m : MC} {tg0} {a} {f} {p1} {x} {p3} (r1 : CkE m a x) : CkI m tg0 (.rng1 a) (.Call (.Name f p1) [x] [] p3) := if h : (f == "range" && m.glob f .no && cS x && r1.isSome) = true then some ⟨fun {k} {W} {C} {X} S => by
    simp only[aRI,aQL] at h;obtain ⟨⟨⟨rfl,h1⟩,h2⟩,h3⟩:=h;obtain ⟨gl,l,hd,hn⟩:=S.gl h1;exact aF9 gl (S.no _ l) (lJ (got h3 S) lI (cH h2)) (cH h2)⟩ else none
noncomputable def kEs {m : MC} {f fs x xs} (r1 : CkE m f x) (r2 : fQ m fs xs) : fQ m (f :: fs) (x :: xs) := if h : (cS x && r1.isSome && r2.isSome) = true then some ⟨by
    simp only[aRI] at h;exact .cons h.1.1 (@got _ r1 h.1.2) (got h.2)⟩ else none
noncomputable def kO{m:MC}{f x}(r1:CkE m f x):CkO m (some f) (some x):=if h:r1.isSome=true then some ⟨λS=>by simp only[evO];exact got h S⟩ else none
noncomputable def kF {m : MC} {f fs x xs} (r1 : CkT m f x) (r2 : CkF m fs xs) : CkF m (f :: fs) (x :: xs) := if h : (r1.isSome && r2.isSome) = true then some ⟨by
    simp only[aRI] at h;exact .cons (@got _ r1 h.1) (got h.2)⟩ else none
set_option maxHeartbeats 4000000 in
mutual
noncomputable def ckE:(m:MC)->(f:E)->(e:Expr)->CkE m f e
 | m,.frz a,e=>aKV (ckE m a e)
 | m,.never,e=>some ⟨λ_=>aKS⟩
 | m,.var i,e=>match e with | .Name x p1=>aKZ | _=>none
 | m,.glob y c,e=>match e with | .Name x p1=>aK0 | _=>none
 | m,.ty t,e=>match e with | .Name x p1=>kE_ty | _=>none
 | m,.non,e=>match e with | .Constant .none p0 p1=>aK1 | _=>none
 | m,.bl c,e=>match e with | .Constant (.bool b) p1 p2=>kE_bl | _=>none
 | m,.int c,e=>match e with | .Constant (.int b) p1 p2=>aK2 | _=>none
 | m,.str c,e=>match e with | .Constant (.str b) p1 p2=>aK3 | _=>none
 | m,.bin op a b,e=>match e with | .BinOp x o y p3=>aK4 (ckE m a x) (ckE m b y) | _=>none
 | m,.cmp op a b,e=>match e with | .Compare x [o] [y] p3=>aK5 (ckE m a x) (ckE m b y) | _=>none
 | m,.andL es,e=>match e with | .BoolOp .And xs p1=>aK6 (hW m es xs) | _=>none
 | m,.orL es,e=>match e with | .BoolOp .Or xs p1=>aK7 (hW m es xs) | _=>none
 | m,.not a,e=>match e with | .UnaryOp .Not x p1=>aK8 (ckE m a x) | _=>none
 | m,.slice a l u,e=>match e with | .Subscript x (.Slice lo hi none p3) p4=>aK9 (ckE m a x) (ckO m l lo) (ckO m u hi) | _=>none
 | m,.ix a b,e=>match e with | .Subscript x y p2=>kE_ix (ckE m a x) (ckE m b y) | _=>none
 | m,.tup es,e=>match e with | .Tuple es0 p1 p2=>aLA (hW m es es0) | _=>none
 | m,.lst es,e=>match e with | .List es0 p1=>aLB (hW m es es0) | _=>none
 | m,.call g n es,e=>match e with | .Call (.Name f p) (x::xs) [] cp=>aLC (hW m es (x::xs)) | _=>none
 | m,.bcall b es,e=>match e with | .Call (.Name f p) (x::xs) [] cp=>aLD (hW m es (x::xs)) | _=>none
 | m,.tcall t es,e=>match e with | .Call (.Name f p1) (x::xs) [] p4=>aLE (hW m es (x::xs)) | _=>none
 | m,.meth a f es,e=>match e with | .Call (.Attribute o g ap) xs [] cp=>aLF (ckE m a o) (hW m es xs) | _=>none
 | m,.mk0 c,e=>match e with | .Call (.Name f p1) [] [] p2=>aLG | _=>none
 | m,.dnew,e=>match e with | .Dict [] [] p0=>aLH | _=>none
 | m,.nnew,e=>match e with | .Dict [] [] p0=>aLJ | _=>none
 | m,.us2 a,e=>match e with | .Call (.Name f p1) [.Call (.Name g p3) [x] [] p5] [] p6=>aLN (ckE m a x) | _=>none
 | m,.srtw a,e=>match e with | .Call (.Name f p1) [x] [] p3=>aLM (ckE m a x) | _=>none
 | m,.bst up a,e=>match e with | .Call (.Name f p1) [x] [] p3=>aLP (ckE m a x) | _=>none
 | m,.nix a b,e=>match e with | .Subscript x y p2=>aLK (ckE m a x) (ckE m b y) | _=>none
 | m,.ltn a b,e=>match e with | .Compare x [o] [y] p3=>aLO (ckE m a x) (ckE m b y) | _=>none
 | m,.comp el it ts aD t n,e=>match e with | .ListComp elt [⟨tg,aS,ifs,0⟩] scope cp=>aLI (ckI m tg it aS) (ckE (m.sub scope (aD.filterMap λi=>m.N[i]?) (f7 4 tg)) el elt) (ckF (m.sub scope (aD.filterMap λi=>m.N[i]?) (f7 4 tg)) ts ifs) | _=>none
 | m,.nget a b d,e=>match e with | .Call (.Attribute o f ap) [x,y] [] cp=>aLL (ckE m a o) (ckE m b x) (ckE m d y) | _=>none
 | _,.tru _,_=>none
 | _,.items _,_=>none
 | _,.nkeys _,_=>none
 | _,.rng1 _,_=>none
noncomputable def ckT:(m:MC)->(f:E)->(e:Expr)->CkT m f e
 | m,.tru a,e=>aKW (ckE m a e)
 | m,.never,e=>some ⟨λ_=>aKT⟩
 | m,.cmp op a b,e=>match e with | .Compare x [o] [y] p3=>aLQ (ckE m a x) (ckE m b y) | _=>none
 | m,.andL es,e=>match e with | .BoolOp .And xs p1=>aLR (ckF m es xs) | _=>none
 | m,.orL es,e=>match e with | .BoolOp .Or xs p1=>aLS (ckF m es xs) | _=>none
 | m,.not a,e=>match e with | .UnaryOp .Not x p1=>aLT (ckT m a x) | _=>none
 | _,_,_=>none
noncomputable def ckI:(m:MC)->(tg:Expr)->(f:E)->(e:Expr)->CkI m tg f e
 | m,tg,.items a,e=>aKX (ckE m a e)
 | m,tg,.nkeys a,e=>aKY (ckE m a e)
 | m,tg,.never,e=>some ⟨λ_=>aKU⟩
 | m,tg0,.rng1 a,e=>match e with | .Call (.Name f p1) [x] [] p3=>aLU (ckE m a x) | _=>none
 | _,_,_,_=>none
noncomputable def hW:(m:MC)->(fs:List E)->(es:List Expr)->fQ m fs es
 | m,[],es=>match es with | []=>some ⟨.nil⟩ | _=>none
 | m,f::fs,l=>match l with | x::xs=>kEs (ckE m f x) (hW m fs xs) | _=>none
noncomputable def ckO:(m:MC)->(f:Option E)->(e:Option Expr)->CkO m f e
 | m,none,e=>match e with | none=>some ⟨λ_=>True.intro⟩ | _=>none
 | m,some f,l=>match l with | some x=>kO (ckE m f x) | _=>none
noncomputable def ckF:(m:MC)->(fs:List E)->(es:List Expr)->CkF m fs es
 | m,[],es=>match es with | []=>some ⟨.nil⟩ | _=>none
 | m,f::fs,l=>match l with | x::xs=>kF (ckT m f x) (ckF m fs xs) | _=>none
end
noncomputable def mE(m:MC)(f:E)(e:Expr):Bool:=(ckE m f e).isSome
noncomputable def mT(m:MC)(f:E)(e:Expr):Bool:=(ckT m f e).isSome
noncomputable def mI(m:MC)(tg:Expr)(f:E)(e:Expr):Bool:=(ckI m tg f e).isSome
noncomputable def mF(m:MC)(f:List E)(e:List Expr):Bool:=(ckF m f e).isSome
section
variable {k:Nat}{W:WD}
theorem sE(f:E){m:MC}{C:Cw}{X:Cx}{e:Expr}(S:SX k W m C X)(h:mE m f e=true):PV C X e (evE W f):=got h S
theorem sT(f:E){m:MC}{C:Cw}{X:Cx}{e:Expr}(S:SX k W m C X)(h:mT m f e=true):PTv C X e (evE W f):=got h S
theorem sI(f:E){m:MC}{C:Cw}{X:Cx}{tg e:Expr}(S:SX k W m C X)(h:mI m tg f e=true):PIv C X tg e (evE W f):=got h S
theorem sF(fs:List E){m:MC}{C:Cw}{X:Cx}{es:List Expr}(S:SX k W m C X)(h:mF m fs es=true):eG X es (tT (C.at X) (evF W fs)):=gF h S
end
end D3
set_option genSizeOfSpec false
set_option genInjectivity false
namespace D3
open PySem PySem.Spec PyProof.Rows L2
inductive S where
 | ret (e:E) | retV (i:Nat) | set (i:Nat) (e:E) | ite (c:E) (a b:List S) | for (it:E) (t:Tg) (body:List S)
 | never | asg (t:Tg) (e:E)
 | app (i:Nat) (e:E) | setC (i:Nat) (fz:Bool) (e:E) | nput (i:Nat) (k e:E) | frzV (i:Nat) | nfrz (i:Nat)
mutual
noncomputable def evS(W:WD):S->Rho->aG
 | .ret e,ρ=>jY (evE W e ρ) ρ
 | .retV i,ρ=>fJ ρ i
 | .set i e,ρ=>fK ρ i (evE W e ρ)
 | .ite c a b,ρ=>ifS (evE W c ρ) ρ (evB W a ρ) (evB W b ρ)
 | .for it t body,ρ=>fM (evE W it ρ) ρ (aQ t) (evB W body)
 | .asg t e,ρ=>hC t ρ (evE W e ρ)
 | .app i e,ρ=>hU ρ i (evE W e ρ)
 | .frzV i,ρ=>lX ρ i
 | .nfrz i,ρ=>kC ρ i
 | .nput i k e,ρ=>l4 ρ i (evE W k ρ) (evE W e ρ)
 | .setC i fz e,ρ=>fK ρ i (if fz=true then aY (evE W e ρ) else evE W e ρ)
 | .never,_=>.stuck
noncomputable def evB(W:WD):List S->Rho->aG
 | [],ρ=>.nx ρ
 | s::r,ρ=>(evS W s ρ).thn (evB W r)
end
noncomputable def l9:Expr->Bool | .ListComp ..=>false | .SetComp ..=>false | .DictComp ..=>false | _=>true
noncomputable def mC(m:MC)(elt:Expr)(scope:Scope):E->List Comprehension->Bool
 | .comp el it ts aD t n,gens=>match gens with
  | [⟨tg,aS,ifs,0⟩] =>
   let aH:=aD.filterMap λi=>m.N[i]?
   let tgN:=f7 4 tg
   m.calm&&oQ scope m.sc m.N aD aH tgN&&iO aS&&decide (tgN.length=n)&&(fY t).all (λj=>decide (aD.length<=j))&&mG (m.sub scope aH tgN) t tg&&(mI m tg it aS&&(mE (m.sub scope aH tgN) el elt&&mF (m.sub scope aH tgN) ts ifs))
  | _=>false
 | _,_=>false
noncomputable def yP:Expr->Bool | .Tuple ..=>false | _=>true
theorem sL{e:Expr}{t:Option Expr}{n:Nat}{env:Env}(h:l9 e=true):swapsWith e t n env=pure false:=by cases e <;> first | rfl | cases h
theorem aLV{m:MC}{e:Expr}{x:Str}{p:Pos}{n:Nat}{env:Env}(hs:env.scope=m.sc)(h:(l9 e||m.kind x==some .cell)=true):swapsWith e (some (.Name x p)) n env=pure false:=by
 rw[aR4,aQL] at h;rcases h with h | h
 . exact sL h
 . have hk:env.kindOf x=some .cell:=by show env.scope.names.lookup x=_;rw[hs];exact h
   unfold swapsWith;have kc:(NameKind.cell==NameKind.local)=false:=by decide
   cases e <;> first | rfl | (simp[hk,kc])
theorem aLW{t:Expr}{e:Expr}{env:Env}(h:yP e=true):swappedStores [t] e env=pure none:=by
 unfold swappedStores;split
 . rename_i q;split at q
   . cases h
   . cases h
   . cases q
 . rfl
theorem aLX{C:Cw}{X:Cx}{st:Stmt}:PSv C X st (λ_=>.stuck):=λaA s σ H En I q=>by obtain ⟨ρ,F,R,w⟩:=q;exact w.elim
section
variable {k:Nat}{W:WD}{m:MC}{C:Cw}{X:Cx}
structure SB(k:Nat)(W:WD)(m:MC)(C:Cw)(X:Cx):Prop extends SX k W m C X where
 nd:m.N.Nodup
 hp:PassesOwn (model X.prog X.w) X.A X.env X.xe
 ro:m.rz=true->RzOk (C.at X) X/\FnCx X/\XOk (HX1 X.prog X.w) (C.at X) X
end
theorem aLY{k:Nat}{W:WD}{m:MC}{C:Cw}{X:Cx}(S:SB k W m C X)(fz:Bool){i:Nat}{el it:E}{ts:List E}{aD:List Nat}{t:Tg}{n:Nat}{x:Str}{px cp sp:Pos}{elt:Expr}{gens:List Comprehension}{scope:Scope}(h1:m.N[i]? = some x)(h2:m.kind x=some .local)(h3:m.sc.kind=.function)(h4:px.line=cp.line)(h5:(scope.names.any λy=>y.1==x&&(y.2 == .local||y.2 == .cell))=false)(h:mC m elt scope (.comp el it ts aD t n) gens=true):PSv C X (.Assign [.Name x px] (.ListComp elt gens scope cp) sp) (λρ=>fK ρ i (if fz=true then aY (evE W (.comp el it ts aD t n) ρ) else evE W (.comp el it ts aD t n) ρ)):=by
 have hk:X.env.scope.names.lookup x=some .local:=by rw[S.hs];exact h2
 conv at h=>lhs;whnf
 split at h
 . rename_i tg aS ifs;simp only[aRI,aR2,aSB] at h;obtain ⟨⟨⟨⟨⟨⟨hq,ho⟩,hn⟩,hl⟩,hs⟩,hg⟩,k1,k2,k3⟩:=h;unfold oQ at ho;simp only[aRI,aSB,aR4,aUJ,aQL,aR2,aUK] at ho;obtain ⟨⟨⟨⟨⟨⟨⟨g1,g2⟩,g3⟩,g4⟩,g5⟩,g6⟩,g7⟩,g8⟩:=ho;have er:(relabel scope X.env).names=lO scope m.sc:=by rw[<- S.hs];rfl
   have bk:X.env.blockKind=.function:=by unfold Env.blockKind;rw[S.hs,h3];rfl
   have hsw:swapsWith (.ListComp elt [⟨tg,aS,ifs,0⟩] scope cp) (some (.Name x px)) sp.line X.env=pure true:=by
    have kx:X.env.kindOf x=some .local:=hk;unfold swapsWith;have k1:(ScopeKind.function==ScopeKind.function)=true:=by decide
    have k2:(some NameKind.local==some NameKind.local)=true:=by decide
    simp only[bk,kx,Expr.pos,h4,h5,k1,k2,aSO];rfl
   have := aHX fz (pos := cp) (pos' := px) (spos := sp) (i := i) (x := x) (tgN := f7 4 tg) (t := t) (S.cm hq) (sI it S.toSX k1) g1 g2 (fun y hy e => (g3 y hy).resolve_left fun z => z e) (fun y hy e => by
       have:=g4 y hy;show X.env.scope.names.lookup y.1=_\/X.env.scope.names.lookup y.1=_;rw[S.hs];rcases this with (z | z) | z
       . exact absurd e z
       . exact .inl z
       . exact .inr z) (by rw[S.hN];exact g5) g6 (λy hy=>by rw[er];exact g7 y hy) (λj hj=>hs j hj) (λcl A fp s3 H3=>sG (S.toSX.sub cl A fp s3 H3) g8 t hg)
       (λcl A fp s3 H3=>sF ts (S.toSX.sub cl A fp s3 H3) k3) (λcl A fp s3 H3=>sE el (S.toSX.sub cl A fp s3 H3) k2) (by rw[S.hN];exact S.nd) (by rw[S.hN];exact h1) hk hsw (sK hn)
   rw[hl] at this;exact this
 . cases h
abbrev CkS(m:MC)(f:D3.S)(st:Stmt):Type:=Option (PLift (∀ {k:Nat} {W:WD} {C:Cw} {X:Cx},SB k W m C X->PSv C X st (evS W f)))
abbrev CkB(m:MC)(f:List D3.S)(sts:List Stmt):Type:=Option (PLift (∀ {k:Nat} {W:WD} {C:Cw} {X:Cx},SB k W m C X->PBv C X sts (evB W f)))
noncomputable def aLZ {m : MC} {f} {e} {p1} : CkS m (.ret f) (.Return (some e) p1) := if h : (mE m f e) = true then some ⟨fun {k} {W} {C} {X} S => by
    exact aF0 (sE f S.toSX h)⟩ else none
noncomputable def aL0 {m : MC} {i} {x} {p1} {p2} : CkS m (.retV i) (.Return (some (.Name x p1)) p2) := if h : (m.N[i]? == some x && m.vis x) = true then some ⟨fun {k} {W} {C} {X} S => by
    simp only[aRI,aQL] at h;obtain ⟨h1,h2,h3⟩:=S.toSX.vis h.2
    exact aF1 i (m9 (by rw[S.hN];exact h.1) h1 h2 h3)⟩ else none
noncomputable def aL1 {m : MC} {i} {f} {x} {p1} {e} {p3} : CkS m (.set i f) (.Assign [.Name x p1] e p3) := if h : (m.loc i x && (l9 e || m.kind x == some .cell) && mE m f e) = true then some ⟨fun {k} {W} {C} {X} S => by
    simp only[aRI] at h;obtain ⟨⟨h1,h2⟩,h3⟩:=h;obtain ⟨b,c,d⟩:=S.toSX.loc h1
    exact aF3 (by rw[S.hN];exact S.nd) b c (sE f S.toSX h3) (aLV S.hs h2) d⟩ else none
noncomputable def aL2 {m : MC} {i} {f} {g} {x} {p1} {k} {p3} {e} {p5} : CkS m (.nput i f g) (.Assign [.Subscript (.Name x p1) k p3] e p5) := if h : (m.N[i]? == some x && m.vis x && l9 e && mE m f k && mE m g e) = true then some ⟨fun {k} {W} {C} {X} S => by
    simp only[aRI,aQL] at h;obtain ⟨⟨⟨⟨h1,h2⟩,h3⟩,h4⟩,h5⟩:=h;obtain ⟨v1,v2,v3⟩:=S.toSX.vis h2
    exact aJL i S.un (m9 (by rw[S.hN];exact h1) v1 v2 v3) (sE f S.toSX h4) (sE g S.toSX h5) (sL h3)⟩ else none
noncomputable def aL3 {m : MC} {i} {fz} {f} {x} {px} {elt} {gens} {scope} {cp} {p6} : CkS m (.setC i fz f) (.Assign [.Name x px] (.ListComp elt gens scope cp) p6) := if h : (m.N[i]? == some x && m.kind x == some .local && m.sc.kind == .function && px.line == cp.line && !(scope.names.any fun y => y.1 == x && (y.2 == .local || y.2 == .cell)) && mC m elt scope f gens) = true then some ⟨fun {k} {W} {C} {X} S => by
    simp only[aRI,aQL,aTQ] at h;obtain ⟨⟨⟨⟨⟨h1,h2⟩,h3⟩,h4⟩,h5⟩,h7⟩:=h;cases f with
    | comp el it ts aD t n=>exact aLY S fz h1 h2 h3 h4 h5 h7
    | _=>cases h7⟩ else none
noncomputable def aL4 {m : MC} {f} {a} {b} {c} {x} {y} {p3} (r1 : CkB m a x) (r2 : CkB m b y) : CkS m (.ite f a b) (.If c x y p3) := if h : (mT m f c && (r1.isSome && r2.isSome)) = true then some ⟨fun {k} {W} {C} {X} S => by
    simp only[aRI] at h;obtain ⟨h1,h2,h3⟩:=h;exact aF2 (sT f S.toSX h1) (got h2 S) (got h3 S)⟩ else none
noncomputable def aL5 {m : MC} {f} {t} {b} {tg} {e} {body} {p3} (r1 : CkB m b body) : CkS m (.for f t b) (.For tg e body [] p3) := if h : (m.calm && mG m t tg && iO e && (mI m tg f e && r1.isSome)) = true then some ⟨fun {k} {W} {C} {X} S => by
    simp only[aRI] at h;obtain ⟨⟨⟨hq,h1⟩,h2⟩,h3,h4⟩:=h;exact aGA S.hp (S.cm hq) (sI f S.toSX h3) (aHU (sG S.toSX S.nd t h1)) (got h4 S) (sK h2)⟩ else none
noncomputable def aL6 {m : MC} {t} {f} {tg} {e} {p2} : CkS m (.asg t f) (.Assign [tg] e p2) := if h : (mG m t tg && iK tg && l9 e && yP e && mE m f e) = true then some ⟨fun {k} {W} {C} {X} S => by
    simp only[aRI] at h;obtain ⟨⟨⟨⟨h1,h2⟩,h3⟩,h4⟩,h5⟩:=h;exact aHV (sE f S.toSX h5) (sG S.toSX S.nd t h1) (sL h3) (aLW h4) h2⟩ else none
noncomputable def aL7 {m : MC} {i} {f} {x} {p1} {a} {ap} {e} {cp} {p6} : CkS m (.app i f) (.Expr (.Call (.Attribute (.Name x p1) a ap) [e] [] cp) p6) := if h : (m.N[i]? == some x && m.vis x && a == "append" && ap.endLine == cp.line && cS e && mE m f e) = true then some ⟨fun {k} {W} {C} {X} S => by
    simp only[aRI,aQL] at h;obtain ⟨⟨⟨⟨⟨h1,h2⟩,rfl⟩,h3⟩,h4⟩,h5⟩:=h;obtain ⟨v1,v2,v3⟩:=S.toSX.vis h2
    exact aH8 i (m9 (by rw[S.hN];exact h1) v1 v2 v3) (sE f S.toSX h5) h4 h3⟩ else none
theorem aL8{k:Nat}{W:WD}{m:MC}{C:Cw}{X:Cx}(S:SB k W m C X):PBv C X [] (evB W []):=by
 have:evB W []=λρ=>.nx ρ:=by funext ρ;simp only[evB]
 rw[this];exact aFX
noncomputable def aL9 {m : MC} {i fs sts} (r : CkB m fs sts) : CkB m (.frzV i :: fs) sts := if h : r.isSome = true then some ⟨fun {k} {W} {C} {X} S => by
    have:evB W (.frzV i::fs)=λρ=>(lX ρ i).thn (evB W fs):=by funext ρ;rfl
    rw[this];exact aIF (got h S)⟩ else none
noncomputable def aMA {m : MC} {i fs sts} (r : CkB m fs sts) : CkB m (.nfrz i :: fs) sts := if h : r.isSome = true then some ⟨fun {k} {W} {C} {X} S => by
    have:evB W (.nfrz i::fs)=λρ=>(kC ρ i).thn (evB W fs):=by funext ρ;rfl
    rw[this];exact aJ2 (got h S)⟩ else none
noncomputable def aMB {m : MC} {f fs st sts} (r : CkS m f st) (r2 : CkB m fs sts) : CkB m (f :: fs) (st :: sts) := if h : (r.isSome && r2.isSome) = true then some ⟨fun {k} {W} {C} {X} S => by
    rw[aRI] at h;have:evB W (f::fs)=λρ=>(evS W f ρ).thn (evB W fs):=by funext ρ;simp only[evB]
    rw[this];exact aFZ (got h.1 S) (got h.2 S)⟩ else none
set_option maxHeartbeats 4000000 in
mutual
noncomputable def ckS:(m:MC)->(f:D3.S)->(st:Stmt)->CkS m f st
 | m,.never,st=>some ⟨λ_=>aLX⟩
 | _,.frzV _,_=>none
 | _,.nfrz _,_=>none
 | m,.ret f,st=>match st with | .Return (some e) p1=>aLZ | _=>none
 | m,.retV i,st=>match st with | .Return (some (.Name x p1)) p2=>aL0 | _=>none
 | m,.set i f,st=>match st with | .Assign [.Name x p1] e p3=>aL1 | _=>none
 | m,.nput i f g,st=>match st with | .Assign [.Subscript (.Name x p1) k p3] e p5=>aL2 | _=>none
 | m,.setC i fz f,st=>match st with | .Assign [.Name x px] (.ListComp elt gens scope cp) p6=>aL3 | _=>none
 | m,.ite f a b,st=>match st with | .If c x y p3=>aL4 (ckB m a x) (ckB m b y) | _=>none
 | m,.for f t b,st=>match st with | .For tg e body [] p3=>aL5 (ckB m b body) | _=>none
 | m,.asg t f,st=>match st with | .Assign [tg] e p2=>aL6 | _=>none
 | m,.app i f,st=>match st with | .Expr (.Call (.Attribute (.Name x p1) a ap) [e] [] cp) p6=>aL7 | _=>none
noncomputable def ckB:(m:MC)->(f:List D3.S)->(sts:List Stmt)->CkB m f sts
 | m,[],sts=>match sts with | []=>some ⟨λS=>aL8 S⟩ | _=>none
 | m,.frzV i::fs,sts=>aL9 (ckB m fs sts)
 | m,.nfrz i::fs,sts=>aMA (ckB m fs sts)
 | m,f::fs,sts=>match sts with | st::sts=>aMB (ckS m f st) (ckB m fs sts) | _=>none
end
noncomputable def mB(m:MC)(f:List D3.S)(sts:List Stmt):Bool:=(ckB m f sts).isSome
theorem sB{k:Nat}{W:WD}{m:MC}{C:Cw}{X:Cx}(S:SB k W m C X)(f:List D3.S){sts:List Stmt}(h:mB m f sts=true):PBv C X sts (evB W f):=got h S
abbrev IB:=Unit
structure FD where
 ps:List Str
 N:List Str
 b:List D3.S
structure ID where
 c:Str
 ps:List Str
 N:List Str
 ib:IB
structure TB where
 T:List (Str×FD)
 I:List (Str×ID)
 cl:List CI
 xt:List ((Str×Str)×Bool)
 xi:List ((Str×Str)×Bool)
noncomputable def sM(W:WD)(i:ID):List D->Res:=λ_=>.stuck
noncomputable def mD(t:TB)(W:WD)(f:Str):List D->Res:=match t.T.lookup f with
 | some d=>phi d.ps.length d.N.length (evB W d.b)
 | none=>λ_=>.stuck
noncomputable def WT(t:TB):Nat->WD
 | 0=>⟨λ_ _=>.stuck,λ_=>none,t.cl,t.xt,t.xi⟩
 | 1=>⟨λf=>mD t ⟨λ_ _=>.stuck,λ_=>none,t.cl,t.xt,t.xi⟩ f,λ_=>none,t.cl,t.xt,t.xi⟩
 | k+2=>⟨λf=>mD t (WT t (k+1)) f,λkey=>match t.I.lookup key with | some i=>some (sM (WT t k) i) | none=>none,t.cl,t.xt,t.xi⟩
theorem oS(t:TB):∀ k,(WT t k).cl=t.cl
 | 0=>rfl
 | 1=>rfl
 | k+2=>rfl
theorem yQ(t:TB):∀ k,(WT t k).xt=t.xt
 | 0=>rfl
 | 1=>rfl
 | k+2=>rfl
theorem yR(t:TB):∀ k,(WT t k).xi=t.xi
 | 0=>rfl
 | 1=>rfl
 | k+2=>rfl
theorem WT_Φ(t:TB):∀ k f,(WT t (k+1)).Φ f=mD t (WT t k) f
 | 0,f=>rfl
 | k+1,f=>rfl
noncomputable def sN(N ps:List Str)(sc:Scope):Bool:=sc.kind == .function&&!sc.isCoroutine&&!sc.isGenerator&&decide N.Nodup&&(N.take ps.length==ps)&&ps.all (λx=>sc.names.lookup x==some .local||sc.names.lookup x==some .cell)&&sc.names.all (λy=>y.2 != .free)
theorem aMC{N ps:List Str}{sc:Scope}(h:sN N ps sc=true):nI N ps sc:=by unfold sN at h;simp only[aRI,aSB,aR4,aUJ,aQL,aR2,aTQ] at h;obtain ⟨⟨⟨⟨⟨⟨h1,h2⟩,h3⟩,h4⟩,h5⟩,h6⟩,h7⟩:=h;exact ⟨h1,h2,h3,h4,h5,h6,h7⟩
noncomputable def jF(g:MG)(st:Stmt)(d:FD):Bool:=sN d.N d.ps (fW st)&&mB ⟨d.N,fW st,g,true,true,true⟩ d.b (jU st)
noncomputable def idOk(g:MG)(st:Stmt)(d:ID):Bool:=false
noncomputable def yS(K:Fg)(g:MG)(fa:Str->Addr)(key:Str)(d:FD):Prop :=
 ∃ name st fd,Fun K name key st (fa key) fd/\gH K fd d.ps []/\jF g st d=true
noncomputable def mH(K:Fg)(g:MG)(fa:Str->Addr):List (Str×FD)->Prop
 | []=>True
 | (x,d)::r=>yS K g fa x d/\mH K g fa r
theorem mH.at{K:Fg}{g:MG}{fa:Str->Addr}:∀ {T:List (Str×FD)} {x:Str} {d:FD},mH K g fa T->T.lookup x=some d->yS K g fa x d
 | [],_,_,_,e=>by cases e
 | (y,d')::r,x,d,h,e=>by
  rw[aR0] at e;split at e
  . rename_i hb;cases e;rw[aQL] at hb;subst hb;exact h.1
  . exact h.2.at e
noncomputable def yT(K:Fg)(mg:SOV)(g:MG)(key:Str)(d:ID):Prop :=
 ∃ name st C f fd,PySem.W.nsIn K mainGlobals d.c=some (some (.ref C))/\mg d.c=some (.ref C)/\Mk K C f/\Fun K name key st f fd/\gH K fd d.ps []/\idOk g st d=true
noncomputable def mJ(K:Fg)(mg:SOV)(g:MG):List (Str×ID)->Prop
 | []=>True
 | (x,d)::r=>yT K mg g x d/\mJ K mg g r
theorem mJ.at{K:Fg}{mg:SOV}{g:MG}:∀ {T:List (Str×ID)} {x:Str} {d:ID},mJ K mg g T->T.lookup x=some d->yT K mg g x d
 | [],_,_,_,e=>by cases e
 | (y,d')::r,x,d,h,e=>by
  rw[aR0] at e;split at e
  . rename_i hb;cases e;rw[aQL] at hb;subst hb;exact h.1
  . exact h.2.at e
noncomputable def GVOk(w:World)(K:Fg)(mg:SOV)(fa:Str->Addr)(x:Str):GV->Prop
 | .con (.s y)=>∃ t,mg x=some (.str y t)
 | .con (.i n)=>∃ t,mg x=some (.int n t)
 | .con (.t tb)=>j4 w K mg x tb
 | .no=>mg x=none
 | .fn _=>mg x=some (.ref (fa x))
 | .cls=>True
noncomputable def mK(w:World)(K:Fg)(mg:SOV)(fa:Str->Addr):List (Str×GV)->Prop
 | []=>True
 | (x,v)::r=>GVOk w K mg fa x v/\mK w K mg fa r
theorem mK.at{w:World}{K:Fg}{mg:SOV}{fa:Str->Addr}:∀ {G:List (Str×GV)} {x:Str} {v:GV},mK w K mg fa G->G.lookup x=some v->GVOk w K mg fa x v
 | [],_,_,_,e=>by cases e
 | (y,v')::r,x,v,h,e=>by
  rw[aR0] at e;split at e
  . rename_i hb;cases e;rw[aQL] at hb;subst hb;exact h.1
  . exact h.2.at e
noncomputable def gOk(G:List (Str×GV))(T:List (Str×FD)):Bool:=G.all λ(x,v)=>match v with | .fn n=>(match T.lookup x with | some d=>d.ps.length==n | none=>false) | _=>true
theorem yU{T:List (Str×FD)}:∀ {G:List (Str×GV)} {x:Str} {n:Nat},gOk G T=true->G.lookup x=some (.fn n)->∃ d,T.lookup x=some d/\d.ps.length=n
 | [],_,_,_,e=>by cases e
 | (y,v')::r,x,n,h,e=>by
  unfold gOk at h;rw[aSS,aRI] at h;rw[aR0] at e;split at e
  . rename_i hb;cases e;rw[aQL] at hb;subst hb;have h1:=h.1;dsimp only at h1;cases q:T.lookup x with
    | none=>rw[q] at h1;cases h1
    | some d=>rw[q] at h1;exact ⟨d,rfl,by simpa using h1⟩
  . exact yU (G:=r) h.2 e
noncomputable def mtOk(cl:List CI)(T:List (Str×FD)):Bool:=cl.all λi=>i.meths.all λ(_,key,n)=>match T.lookup key with | some d=>d.ps.length==n | none=>false
noncomputable def yV(mki:List (Str×Str×Nat))(I:List (Str×ID)):Bool:=mki.all λ(c,key,n)=>match I.lookup key with | some d=>d.c==c&&d.ps.length==n+1 | none=>false
noncomputable def kD(K:Fg)(fa:Str->Addr)(C:Addr):List (Str×Str×Nat)->Prop
 | []=>True
 | (m,key,_)::r=>lC K C m (fa key)/\kD K fa C r
noncomputable def kE(K:Fg)(C:Addr):List Str->Prop
 | []=>True
 | f::r=>qF K C f/\kE K C r
noncomputable def mL(K:Fg)(fa:Str->Addr):List CI->Prop
 | []=>True
 | i::r=>(∃ C,PySem.W.nsIn K mainGlobals i.name=some (some (.ref C))/\Cls K C/\kD K fa C i.meths/\kE K C i.flds)/\mL K fa r
theorem mL.at{K:Fg}{fa:Str->Addr}:∀ {cl:List CI} {i:CI},mL K fa cl->i∈cl->∃ C,PySem.W.nsIn K mainGlobals i.name=some (some (.ref C))/\Cls K C/\kD K fa C i.meths/\kE K C i.flds
 | [],_,_,h=>by cases h
 | j::r,i,h,hi=>by
  rcases aPY.mp hi with rfl | hi
  . exact h.1
  . exact h.2.at hi
theorem kE.at{K:Fg}{C:Addr}:∀ {l:List Str} {f:Str},kE K C l->f∈l->qF K C f
 | [],_,_,h=>by cases h
 | j::r,i,h,hi=>by
  rcases aPY.mp hi with rfl | hi
  . exact h.1
  . exact h.2.at hi
theorem kD.at{K:Fg}{fa:Str->Addr}{C:Addr}:∀ {l:List (Str×Str×Nat)} {m key:Str} {n:Nat},kD K fa C l->l.lookup m=some (key,n)->lC K C m (fa key)
 | [],_,_,_,_,e=>by cases e
 | (m',key',n')::r,m,key,n,h,e=>by
  rw[aR0] at e;split at e
  . rename_i hb;cases e;rw[aQL] at hb;subst hb;exact h.1
  . exact h.2.at e
structure GF(w:World)(K:Fg)(mg:SOV)(g:MG)(t:TB)(fa:Str->Addr):Prop where
 con:mK w K mg fa g.G
 gok:gOk g.G t.T=true
 all:mH K g fa t.T
 alli:mJ K mg g t.I
 mk0:∀ c,c∈g.mk0->qO K mg c
 mkok:yV g.mki t.I=true
 iso:∀ c,c∈g.iso->IsV K mg t.cl c
 cls:mL K fa t.cl
 mtok:mtOk t.cl t.T=true
 xtok:qY K mg (λc x=>t.xt.lookup (c,x))
 xiok:qZ K mg (λc x=>t.xi.lookup (c,x))
 xcok:∀ c,c∈g.xcs->∃ Cc,mg c=some (.ref Cc)/\wK K Cc
 xnok:∀ n,n∈g.xns->∃ cv,n4 mg n cv
theorem yW{K:Fg}{mg:SOV}{n:Nat}{Φ:List D->Res}{vs:List V}{H:Hp}{Q:VK}{E:XK}(hz:∀ ds,Φ ds=.stuck)(h:spV K mg n Φ vs H Q E):False:=by obtain ⟨_,F,ds,_,_,h⟩:=h;rw[hz] at h;exact h
section
variable {P:Program}{w:World}{K:Fg}{mg:SOV}{base:Heap}{g:MG}{t:TB}{fa:Str->Addr}
structure kG(P:Program)(w:World)(K:Fg)(mg:SOV)(base:Heap)(t:TB)(fa:Str->Addr)(k:Nat):Prop where
 fn:∀ key d,t.T.lookup key=some d->∃ fd,dM P w K mg base (CX1 P w) k (fa key) fd d.ps (spV K mg d.ps.length ((WT t k).Φ key))/\gH K fd d.ps []/\PySem.W.keepIn K (.ref (fa key))=true
 ini:∀ key d Φ,t.I.lookup key=some d->(WT t k).I key=some Φ->∃ j,j+1<=k/\InV P w K mg base (CX1 P w) j d.c (d.ps.length-1) Φ
theorem sx_of(f:GF w K mg g t fa){k:Nat}(A:kG P w K mg base t fa k){N:List Str}{sc:Scope}{C:Cw}{X:Cx}(hP:X.prog=P)(hw:X.w=w)(hK:X.K=K)(hmg:X.mg=mg)(hb:X.base=base)(hN:X.N=N)(hs:X.env.scope=sc)(cm:X.calm=true)(rm:cX k X.A)(hfn:∀ x,X.fn x=true)(xo:XOk (CX1 X.prog X.w) (C.at X) X):SX k (WT t k) ⟨N,sc,g,true,true,true⟩ C X:=by
 subst hP hw hK hmg hb;refine ⟨hN,hs,λ_=>cm,λ_=>rm,rm.units,λ_=>xo,?_,?_,f.xcok,f.xnok,λy c l=>?_,λy l=>f.con.at l,λc hc=>f.mk0 c hc,λc key n hm Φ e=>?_,λc hc=>by rw[oS];exact f.iso c hc,λi f' hi hf=>?_,λc m key n e=>?_,λy n l=>?_,λ_=>hfn⟩
 . unfold WD.xf;rw[yQ];exact f.xtok
 . unfold WD.xg;rw[yR];exact f.xiok
 . have:=f.con.at l;cases c <;> exact this
 . have h1:=aSB.mp f.mkok (c,key,n) hm;dsimp only at h1;cases q:t.I.lookup key with
   | none=>rw[q] at h1;cases h1
   | some d=>rw[q] at h1;simp only[aRI,aQL] at h1;obtain ⟨j,hj,M⟩:=A.ini key d Φ q e;rw[h1.1,h1.2] at M;exact ⟨j,hj,M⟩
 . rw[oS] at hi;obtain ⟨C',h1,h2,_,h4⟩:=f.cls.at hi;exact ⟨C',h1,h2,h4.at hf⟩
 . rw[oS] at e;unfold CI.meth at e;split at e
   . rename_i i ei;have hi:=List.mem_of_find?_eq_some ei;have hn:i.name=c:=by simpa using List.find?_some ei
     obtain ⟨C',h1,h2,h3,_⟩:=f.cls.at hi;have hmo:=aSB.mp (aSB.mp f.mtok i hi) (m,key,n) (aQU e);dsimp only at hmo;cases q:t.T.lookup key with
     | none=>rw[q] at hmo;cases hmo
     | some d=>rw[q] at hmo;rw[aQL] at hmo;obtain ⟨fd,FO,hb,_⟩:=A.fn key d q;rw[hmo] at FO;exact ⟨C',fa key,fd,d.ps,by rw[<- hn];exact h1,h2,h3.at e,FO,hb⟩
   . cases e
 . obtain ⟨d,e,rfl⟩:=yU f.gok l;obtain ⟨fd,FO,hb,hk⟩:=A.fn y d e;exact ⟨fa y,fd,d.ps,FO,f.con.at l,hk,hb⟩
theorem sO(f:GF w K mg g t fa){k:Nat}(A:kG P w K mg base t fa k){key:Str}{d:FD}{name:Str}{st:Stmt}{fd:FuncData}{a:Addr}(F:Fun K name key st a fd)(e:t.T.lookup key=some d)(ok:jF g st d=true):dM P w K mg base (CX1 P w) (k+1) a fd d.ps (spV K mg d.ps.length ((WT t (k+1)).Φ key)):=by
 unfold jF at ok;rw[aRI] at ok;have sc:=aMC ok.1;have:(WT t (k+1)).Φ key=phi d.ps.length d.N.length (evB (WT t k) d.b):=by rw[WT_Φ];unfold mD;rw[e]
 rw[this];exact aH6 (k:=k) F sc λC cdv A' outer s H En hE hr=>sB (m:=⟨d.N,fW st,g,true,true,true⟩) (X:=eC (CX1 P w) P w K mg base d.N key (fW st) a cdv A' outer s H En) ⟨sx_of f A rfl rfl rfl rfl rfl rfl rfl rfl hr (λ_=>rfl) (aH4 (K:=K) (H:=H) (outer:=outer) hE),sc.nd,PassesOwn.leaving,λ_=>⟨aH5 (K:=K) (H:=H) (outer:=outer) hE,fnCx,aIB (K:=K) (H:=H) (outer:=outer) hE⟩⟩ d.b ok.2
theorem aMD(f:GF w K mg g t fa){k:Nat}(A:kG P w K mg base t fa k){key:Str}{d:ID}(e:t.I.lookup key=some d):InV P w K mg base (CX1 P w) (k+1) d.c (d.ps.length-1) (sM (WT t k) d):=by obtain ⟨name,st,C2,a,fd,ns,hm,M,F,hb,ok⟩:=f.alli.at e;cases ok
theorem yX(f:GF w K mg g t fa):∀ k,kG P w K mg base t fa k/\kG P w K mg base t fa (k+1)
 | 0=>by
  have A0:kG P w K mg base t fa 0:=⟨λkey d e=>by
   obtain ⟨name,st,fd,F,hb,_⟩:=f.all.at e;exact ⟨fd,⟨λvs H Q En h=>(yW (λ_=>rfl) h).elim,λA outer s H args us vs Q En _ _ _ _ h=>(yW (λ_=>rfl) h).elim⟩,hb,F.kp⟩,λkey d Φ _ e=>by cases e⟩
  refine ⟨A0,λkey d e=>?_,λkey d Φ _ e=>by cases e⟩
  obtain ⟨name,st,fd,F,hb,ok⟩:=f.all.at e;exact ⟨fd,sO f A0 F e ok,hb,F.kp⟩
 | k+1=>by
  obtain ⟨A0,A1⟩:=yX f k;refine ⟨A1,λkey d e=>?_,λkey d Φ e ei=>?_⟩
  . obtain ⟨name,st,fd,F,hb,ok⟩:=f.all.at e;exact ⟨fd,sO f A1 F e ok,hb,F.kp⟩
  . have ei:(match t.I.lookup key with | some i=>some (sM (WT t k) i) | none=>none)=some Φ:=ei
    rw[e] at ei;cases ei;exact ⟨k+1,aQC _,aMD f A0 e⟩
end
noncomputable def sP(K:Fg)(Φ:List D->Res):Sp:=λvs H Q E=>∃ a ns,vs=[.ref a]/\SqL K H a (ns.map V.int)/\Φ (nU ns)=.ok .fz (.bl true)/\∀ H',Q (.bl true) H'
theorem aME{P:Program}{w:World}{K:Fg}{mg:SOV}{base:Heap}{CX:CXT}{k:Nat}{f:Addr}{fd:FuncData}{ps:List Str}{Φ:List D->Res}(h:dM P w K mg base CX k f fd ps (spV K mg 1 Φ)):dM P w K mg base CX k f fd ps (sP K Φ) :=
 h.imp λvs H Q E ⟨a,ns,e,hq,hp,q⟩=>by
  subst e;refine ⟨rfl,H,nU ns,aE.refl _,aC.cons ?_ aC.nil,?_⟩
  . simp only[aB];exact ⟨a,_,rfl,hq,wB ns⟩
  . rw[hp];exact ⟨by decide,λv F' H' s rp _=>by rw[rp.bl];exact q H'⟩
theorem aMF{P:Program}{w:World}{K:Fg}{mg:SOV}{base:Heap}{g:MG}{t:TB}{fa:Str->Addr}(f:GF w K mg g t fa)(k:Nat){a:Addr}{fd:FuncData}{d:FD}{st:Stmt}(F:Fun K "law" "law" st a fd)(e:t.T.lookup ("law" : Str)=some d)(ok:jF g st d=true)(hl:d.ps.length=1):dM P w K mg base (CX1 P w) (k+1) a fd d.ps (sP K ((WT t (k+1)).Φ ("law" : Str))):=by have:=sO (P:=P) (w:=w) (base:=base) f (yX f k).1 F e ok;rw[hl] at this;exact aME this
end D3
namespace D3
open PySem L2
section
variable {W:WD}{ρ:Rho}{a b c:E}{es:List E}
@[simp] theorem yY{i}:evE W (.var i) ρ=eO ρ i:=Eq.trans rfl rfl
@[simp] theorem e_non:evE W .non ρ=.ok .fz .non:=Eq.trans rfl rfl
@[simp] theorem e_bl{b}:evE W (.bl b) ρ=.ok .fz (.bl b):=Eq.trans rfl rfl
@[simp] theorem e_int{i}:evE W (.int i) ρ=.ok .fz (.int i):=Eq.trans rfl rfl
@[simp] theorem e_str{x}:evE W (.str x) ρ=.ok .fz (.str x):=Eq.trans rfl rfl
@[simp] theorem e_globS{x y}:evE W (.glob x (.s y)) ρ=.ok .fz (.str y):=Eq.trans rfl rfl
@[simp] theorem e_globI{x y}:evE W (.glob x (.i y)) ρ=.ok .fz (.int y):=Eq.trans rfl rfl
@[simp] theorem e_ty{t:Ty}:evE W (.ty t) ρ=.ok .fz (.ty t.id):=Eq.trans rfl rfl
@[simp] theorem e_bin{op}:evE W (.bin op a b) ρ=op2 (aZ op) (evE W a ρ) (evE W b ρ):=Eq.trans rfl rfl
@[simp] theorem e_cmp{op}:evE W (.cmp op a b) ρ=op2 (bX op) (evE W a ρ) (evE W b ρ):=Eq.trans rfl rfl
@[simp] theorem e_andL:evE W (.andL es) ρ=evA W es ρ:=Eq.trans rfl rfl
@[simp] theorem e_orL:evE W (.orL es) ρ=dX W es ρ:=Eq.trans rfl rfl
@[simp] theorem e_not:evE W (.not a) ρ=lG (evE W a ρ):=Eq.trans rfl rfl
@[simp] theorem e_tru:evE W (.tru a) ρ=lF (evE W a ρ):=Eq.trans rfl rfl
@[simp] theorem e_frz:evE W (.frz a) ρ=aY (evE W a ρ):=Eq.trans rfl rfl
@[simp] theorem e_ix:evE W (.ix a b) ρ=op2 ixD (evE W a ρ) (evE W b ρ):=Eq.trans rfl rfl
@[simp] theorem e_slice{l h}:evE W (.slice a l h) ρ=slP (evE W a ρ) (evO W l) (evO W h) ρ:=Eq.trans rfl rfl
@[simp] theorem e_tup:evE W (.tup es) ρ=i7 (cA W es ρ):=Eq.trans rfl rfl
@[simp] theorem e_lst:evE W (.lst es) ρ=dP (cA W es ρ):=Eq.trans rfl rfl
@[simp] theorem yZ{f n}:evE W (.call f n es) ρ=bE n (W.Φ f) (cA W es ρ):=Eq.trans rfl rfl
@[simp] theorem e_bcall{f:Bn}:evE W (.bcall f es) ρ=eD f.f (cA W es ρ):=Eq.trans rfl rfl
@[simp] theorem e_items:evE W (.items a) ρ=eZ (aY (evE W a ρ)):=Eq.trans rfl rfl
@[simp] theorem e_rng1:evE W (.rng1 a) ρ=fL (cG (evE W a ρ) (.ok [])):=Eq.trans rfl rfl
@[simp] theorem e_dnew:evE W .dnew ρ=.ok .fr (.dct []):=Eq.trans rfl rfl
@[simp] theorem e_nnew:evE W .nnew ρ=.ok .fr (.dtn []):=Eq.trans rfl rfl
@[simp] theorem e_nix:evE W (.nix a b) ρ=op2 lZ (evE W a ρ) (evE W b ρ):=Eq.trans rfl rfl
@[simp] theorem e_nget{k d:E}:evE W (.nget a k d) ρ=l0 (evE W a ρ) (evE W k ρ) (evE W d ρ):=Eq.trans rfl rfl
@[simp] theorem e_nkeys:evE W (.nkeys a) ρ=l6 (evE W a ρ):=Eq.trans rfl rfl
@[simp] theorem e_srtw:evE W (.srtw a) ρ=eD fN (cG (evE W a ρ) (.ok [])):=Eq.trans rfl rfl
@[simp] theorem e_us2:evE W (.us2 a) ρ=fO (evE W a ρ):=Eq.trans rfl rfl
@[simp] theorem e_ltn:evE W (.ltn a b) ρ=op2 ltW (evE W a ρ) (evE W b ρ):=Eq.trans rfl rfl
@[simp] theorem e_bst{up}:evE W (.bst up a) ρ=eD (l8 up) (cG (evE W a ρ) (.ok [])):=Eq.trans rfl rfl
@[simp] theorem e_comp{ts:List E}{aD t n}:evE W (.comp a b ts aD t n) ρ=b0 (evE W b ρ) ρ aD n (aQ t) (λρ=>evF W ts ρ) (λρ=>evE W a ρ):=Eq.trans rfl rfl
@[simp] theorem el_nil:evL W []=[]:=by simp only[evL]
@[simp] theorem el_cons:evL W (a::es)=evE W a::evL W es:=by simp only[evL]
@[simp] theorem sg_nm{i:Nat}{d:D}:aQ (.nm i) d ρ=some (ρ.set i (some (false,d))):=by simp only[aQ]
@[simp] theorem sg_tp{ts:List Tg}{ds:List D}:aQ (.tp ts) (.tup ds) ρ=dU ts ds ρ:=by simp only[aQ]
@[simp] theorem sg_tpl{ts:List Tg}{ds:List D}:aQ (.tp ts) (.lst ds) ρ=dU ts ds ρ:=by simp only[aQ]
@[simp] theorem sgs_nil:dU [] [] ρ=some ρ:=by simp[dU]
@[simp] theorem sgs_cons{t:Tg}{ts:List Tg}{d:D}{ds:List D}:dU (t::ts) (d::ds) ρ=(aQ t d ρ).bind (dU ts ds):=by simp only[dU];cases aQ t d ρ <;> rfl
@[simp] theorem e_tcall{t:Ty}:evE W (.tcall t es) ρ=eD t.f (cA W es ρ):=Eq.trans rfl rfl
@[simp] theorem e_meth{x}:evE W (.meth a x es) ρ=fA W.cl W.Φ x (evE W a ρ) (cA W es ρ):=Eq.trans rfl rfl
@[simp] theorem e_mk0{x}:evE W (.mk0 x) ρ=.ok .fr (.ins x []):=Eq.trans rfl rfl
@[simp] theorem y0:cA W [] ρ=.ok []:=by simp only[cA]
@[simp] theorem y6:cA W (a::es) ρ=cG (evE W a ρ) (cA W es ρ):=by simp only[cA]
@[simp] theorem ea_one:evA W [a] ρ=evE W a ρ:=by simp only[evA]
@[simp] theorem ea_cons:evA W (a::b::es) ρ=fH (evE W a ρ) (evA W (b::es) ρ):=by simp only[evA]
@[simp] theorem eo_one:dX W [a] ρ=evE W a ρ:=by simp only[dX]
@[simp] theorem eo_cons:dX W (a::b::es) ρ=orR (evE W a ρ) (dX W (b::es) ρ):=by simp only[dX]
@[simp] theorem kH:evF W [] ρ=.ok .fz (.bl true):=by simp only[evF]
@[simp] theorem ef_cons:evF W (a::es) ρ=fH (evE W a ρ) (evF W es ρ):=by simp only[evF]
@[simp] theorem eo_none:evO W none=none:=by simp only[evO]
@[simp] theorem eo_some:evO W (some a)=some (evE W a):=by simp only[evO]
@[simp] theorem s_ret:evS W (.ret a) ρ=jY (evE W a ρ) ρ:=Eq.trans rfl rfl
@[simp] theorem s_retV{i}:evS W (.retV i) ρ=fJ ρ i:=Eq.trans rfl rfl
@[simp] theorem s_set{i}:evS W (.set i a) ρ=fK ρ i (evE W a ρ):=Eq.trans rfl rfl
@[simp] theorem s_ite{x y:List S}:evS W (.ite a x y) ρ=ifS (evE W a ρ) ρ (evB W x ρ) (evB W y ρ):=Eq.trans rfl rfl
@[simp] theorem s_for{t:Tg}{y:List S}:evS W (.for a t y) ρ=fM (evE W a ρ) ρ (aQ t) (evB W y):=Eq.trans rfl rfl
@[simp] theorem s_asg{t:Tg}:evS W (.asg t a) ρ=hC t ρ (evE W a ρ):=Eq.trans rfl rfl
@[simp] theorem s_app{i}:evS W (.app i a) ρ=hU ρ i (evE W a ρ):=Eq.trans rfl rfl
@[simp] theorem s_frzV{i}:evS W (.frzV i) ρ=lX ρ i:=Eq.trans rfl rfl
@[simp] theorem s_nfrz{i}:evS W (.nfrz i) ρ=kC ρ i:=Eq.trans rfl rfl
@[simp] theorem s_nput{i}:evS W (.nput i a b) ρ=l4 ρ i (evE W a ρ) (evE W b ρ):=Eq.trans rfl rfl
@[simp] theorem s_setC{i}:evS W (.setC i false a) ρ=fK ρ i (evE W a ρ):=Eq.trans rfl rfl
@[simp] theorem s_setCf{i}:evS W (.setC i true a) ρ=fK ρ i (aY (evE W a ρ)):=Eq.trans rfl rfl
@[simp] theorem b_nil:evB W [] ρ=.nx ρ:=by simp only[evB]
@[simp] theorem zA{s:S}{r:List S}:evB W (s::r) ρ=(evS W s ρ).thn (evB W r):=by simp only[evB]
end
section
variable {m n:Md}{i j:Int}{ρ:Rho}{d:D}
@[simp] theorem x_add:op2 (aZ .Add) (.ok m (.int i)) (.ok n (.int j))=.ok .fz (.int (i+j)):=rfl
@[simp] theorem x_band:op2 (aZ .BitAnd) (.ok m (.int i)) (.ok n (.int j))=.ok .fz (.int (Builtin.bitAnd i j)):=rfl
@[simp] theorem x_bor:op2 (aZ .BitOr) (.ok m (.int i)) (.ok n (.int j))=.ok .fz (.int (Builtin.bitOr i j)):=rfl
@[simp] theorem x_shl(h:0<=j)(h1:j<=1000000)(h2:i.natAbs<2 ^ 64):op2 (aZ .LShift) (.ok m (.int i)) (.ok n (.int j))=.ok .fz (.int (i * 2 ^ j.toNat)):=by
 show (match (if (decide (0<=j)&&decide (j<=1000000)&&decide (i.natAbs<2 ^ 64))=true then some (Md.fz,D.int (i * 2 ^ j.toNat)) else none) with | some (m,d)=>Res.ok m d | none=>.stuck)=_
 rw[aRO h,aRO h1,aRO h2];rfl
@[simp] theorem x_shr(h:0<=j):op2 (aZ .RShift) (.ok m (.int i)) (.ok n (.int j))=.ok .fz (.int (i / 2 ^ j.toNat)):=by
 show (match (if decide (0<=j)=true then some (Md.fz,D.int (i / 2 ^ j.toNat)) else none) with | some (m,d)=>Res.ok m d | none=>.stuck)=_
 rw[aRO h];rfl
@[simp] theorem x_sub:op2 (aZ .Sub) (.ok m (.int i)) (.ok n (.int j))=.ok .fz (.int (i-j)):=rfl
@[simp] theorem x_lt:op2 (bX .Lt) (.ok m (.int i)) (.ok n (.int j))=.ok .fz (.bl (decide (i<j))):=rfl
@[simp] theorem x_le:op2 (bX .LtE) (.ok m (.int i)) (.ok n (.int j))=.ok .fz (.bl (decide (i<=j))):=rfl
@[simp] theorem x_gt:op2 (bX .Gt) (.ok m (.int i)) (.ok n (.int j))=.ok .fz (.bl (decide (j<i))):=rfl
@[simp] theorem x_ge:op2 (bX .GtE) (.ok m (.int i)) (.ok n (.int j))=.ok .fz (.bl (decide (j<=i))):=rfl
@[simp] theorem mM(h:0<j):op2 (aZ .Mod) (.ok m (.int i)) (.ok n (.int j))=.ok .fz (.int (i % j)):=by show Res.of (if decide (0<j)=true then _ else _)=_;rw[if_pos (aRO h)];rfl
theorem x_div(h:0<j)(hb:bits j=true):op2 (aZ .FloorDiv) (.ok m (.int i)) (.ok n (.int j))=.ok .fz (.int (i / j)):=by show Res.of (if (decide (0<j)&&bits j)=true then _ else _)=_;rw[if_pos (by rw[hb,aRO h];rfl)];rfl
theorem aMG(h:i.natAbs<10 ^ 2000):bits i=true:=by
 unfold bits;refine aRO ?_;by_cases h0:i.natAbs=0
 . rw[h0];decide
 . refine (Nat.log2_lt h0).mpr (Nat.lt_trans h ?_);decide +kernel
theorem aMH{N:Nat}(h:i.natAbs<=N)(hN:N<10 ^ 2000:=by decide +kernel):bits i=true:=aMG (aUI h hN)
@[simp] theorem sQ(h:0<j)(hb:j.natAbs<=1000000000):op2 (aZ .FloorDiv) (.ok m (.int i)) (.ok n (.int j))=.ok .fz (.int (i / j)):=x_div h (aMH hb)
theorem aMI(h:((bits i&&bits j)||(w64 i||w64 j))=true):op2 (aZ .Mult) (.ok m (.int i)) (.ok n (.int j))=.ok .fz (.int (i * j)):=by show Res.of (((if ((bits i&&bits j)||(w64 i||w64 j))=true then _ else _:Option (Md×D)).orElse _).orElse _)=_;rw[if_pos h];rfl
theorem zB(h:i.natAbs<9000000000000000000):op2 (aZ .Mult) (.ok m (.int i)) (.ok n (.int j))=.ok .fz (.int (i * j)):=aMI (by
 have:w64 i=true:=aRO (by omega)
 rw[this];simp)
theorem cI{φ:Md->D->Md->D->Option (Md×D)}{x y d:D}{k:Md}(h:φ m x n y=some (k,d)):op2 φ (.ok m x) (.ok n y)=.ok k d:=by show Res.of (φ m x n y)=_;rw[h];rfl
@[simp] theorem x_eqI:op2 (bX .Eq) (.ok m (.int i)) (.ok n (.int j))=.ok .fz (.bl (i==j)):=cI rfl
@[simp] theorem x_neI:op2 (bX .NotEq) (.ok m (.int i)) (.ok n (.int j))=.ok .fz (.bl (i != j)):=cI rfl
@[simp] theorem x_eqB{a b:Bool}:op2 (bX .Eq) (.ok m (.bl a)) (.ok n (.bl b))=.ok .fz (.bl (a==b)):=cI rfl
@[simp] theorem x_neB{a b:Bool}:op2 (bX .NotEq) (.ok m (.bl a)) (.ok n (.bl b))=.ok .fz (.bl (a != b)):=cI rfl
@[simp] theorem x_eqS{a b:Str}:op2 (bX .Eq) (.ok m (.str a)) (.ok n (.str b))=.ok .fz (.bl (a==b)):=cI (by rfl)
@[simp] theorem x_neS{a b:Str}:op2 (bX .NotEq) (.ok m (.str a)) (.ok n (.str b))=.ok .fz (.bl (a != b)):=cI (by rfl)
@[simp] theorem x_inS{a b:Str}:op2 (bX .In) (.ok m (.str a)) (.ok n (.str b))=.ok .fz (.bl (fX a b)):=cI rfl
@[simp] theorem x_notinS{a b:Str}:op2 (bX .NotIn) (.ok m (.str a)) (.ok n (.str b))=.ok .fz (.bl (!fX a b)):=cI rfl
@[simp] theorem oU{a b:Str}(h:a.length+b.length<=sizeLine):op2 (aZ .Add) (.ok m (.str a)) (.ok n (.str b))=.ok .fz (.str (a++b)) :=
 cI (by
  have:fS (λi j=>decide (i.length+j.length<=sizeLine)) (λi j=>D.str (i++j)) m (.str a) n (.str b)=some (Md.fz,D.str (a++b)):=by show (if decide (a.length+b.length<=sizeLine)=true then some (Md.fz,D.str (a++b)) else none)=_;rw[if_pos (aRO h)]
  show orO (orO (fI (λ_ _=>true) λi j=>.int (i+j)) (fS (λi j=>decide (i.length+j.length<=sizeLine)) λi j=>.str (i++j))) nX m (.str a) n (.str b)=_;simp only[orO,this];rfl)
@[simp] theorem x_isN{d:D}:op2 (bX .Is) (.ok m d) (.ok n .non)=.ok .fz (.bl (eH d)):=cI rfl
@[simp] theorem x_isnotN{d:D}:op2 (bX .IsNot) (.ok m d) (.ok n .non)=.ok .fz (.bl (!eH d)):=cI rfl
@[simp] theorem aMJ{x y:List D}(h:x.length+y.length<=sizeLine):op2 (aZ .Add) (.ok m (.lst x)) (.ok n (.lst y))=.ok .fr (.lst (x++y)):=cI (by
 show (if x.length+y.length<=sizeLine then some (Md.fr,D.lst (x++y)) else none)=_;rw[if_pos h])
@[simp] theorem aMK{x y:List D}(h:x.length+y.length<=sizeLine):op2 (aZ .Add) (.ok m (.tup x)) (.ok n (.tup y))=.ok .fz (.tup (x++y)):=cI (by
 show (if x.length+y.length<=sizeLine then some (Md.fz,D.tup (x++y)) else none)=_;rw[if_pos h])
@[simp] theorem isn_n:eH .non=true:=rfl
@[simp] theorem isn_i{i:Int}:eH (.int i)=false:=rfl
@[simp] theorem isn_b{i:Bool}:eH (.bl i)=false:=rfl
@[simp] theorem isn_s{i:Str}:eH (.str i)=false:=rfl
@[simp] theorem isn_t{i:List D}:eH (.tup i)=false:=rfl
@[simp] theorem isn_l{i:List D}:eH (.lst i)=false:=rfl
@[simp] theorem x_andT{y:Res}:fH (.ok m (.bl true)) y=y:=rfl
@[simp] theorem x_andF{y:Res}:fH (.ok m (.bl false)) y=.ok .fz (.bl false):=rfl
@[simp] theorem x_orT{y:Res}:orR (.ok m (.bl true)) y=.ok .fz (.bl true):=rfl
@[simp] theorem x_orF{y:Res}:orR (.ok m (.bl false)) y=y:=rfl
@[simp] theorem x_and{a b:Bool}:fH (.ok m (.bl a)) (.ok .fz (.bl b))=.ok .fz (.bl (a&&b)):=by cases a <;> rfl
@[simp] theorem x_or{a b:Bool}:orR (.ok m (.bl a)) (.ok .fz (.bl b))=.ok .fz (.bl (a||b)):=by cases a <;> rfl
@[simp] theorem x_not{a:Bool}:lG (.ok m (.bl a))=.ok .fz (.bl (!a)):=rfl
@[simp] theorem x_tru{a:Bool}:lF (.ok m (.bl a))=.ok .fz (.bl a):=rfl
@[simp] theorem x_truI:lF (.ok m (.int i))=.ok .fz (.bl (i != 0)):=rfl
@[simp] theorem x_ifT{x y:aG}:ifS (.ok m (.bl true)) ρ x y=x:=rfl
@[simp] theorem x_ifF{x y:aG}:ifS (.ok m (.bl false)) ρ x y=y:=rfl
@[simp] theorem x_frz:aY (.ok .fz d)=.ok .fz d:=rfl
@[simp] theorem x_frr:aY (.ok .fr d)=.ok .fz d:=rfl
@[simp] theorem x_set{k:Nat}:fK ρ k (.ok .fz d)=.nx (ρ.set k (some (false,d))):=rfl
@[simp] theorem x_setr{k:Nat}:fK ρ k (.ok .fr d)=.nx (ρ.set k (some (true,d))):=rfl
@[simp] theorem x_ret:jY (.ok .fz d) ρ=.rt .fz d:=rfl
@[simp] theorem x_retr:jY (.ok .fr d) ρ=.rt .fr d:=rfl
@[simp] theorem g_0{r:Rho}:eO (some (false,d)::r) 0=.ok .fz d:=rfl
@[simp] theorem g_0b{r:Rho}:eO (some (true,d)::r) 0=.ok .bo d:=rfl
@[simp] theorem g_s{x:Option (Bool×D)}{r:Rho}{i:Nat}:eO (x::r) (i+1)=eO r i:=rfl
@[simp] theorem g_1{x:Option (Bool×D)}{r:Rho}:eO (x::r) 1=eO r 0:=rfl
@[simp] theorem rs_0{r:Rho}:fJ (some (false,d)::r) 0=.rt .fz d:=rfl
@[simp] theorem rs_0b{r:Rho}:fJ (some (true,d)::r) 0=.rt .fr d:=rfl
@[simp] theorem rs_1{x:Option (Bool×D)}{r:Rho}:fJ (x::r) 1=fJ r 0:=rfl
@[simp] theorem rs_s{x:Option (Bool×D)}{r:Rho}{i:Nat}:fJ (x::r) (i+1)=fJ r i:=rfl
@[simp] theorem r_set0{x y:Option (Bool×D)}{r:Rho}:(x::r).set 0 y=y::r:=rfl
@[simp] theorem x_callR{f:List (Md×D)->Option (Md×D)}{xs:List (Md×D)}:eD f (.ok xs)=Res.of (f xs):=rfl
@[simp] theorem bn_len:Bn.f .len=eE:=rfl
@[simp] theorem bn_isi:Bn.f .isinstance=bI:=rfl
@[simp] theorem ty_int:Ty.f .int=j3:=rfl
@[simp] theorem ty_str:Ty.f .str=lT:=rfl
@[simp] theorem ty_tuple:Ty.f .tuple=eQ:=rfl
@[simp] theorem ty_dict:Ty.f .dict=n6:=rfl
@[simp] theorem ty_list:Ty.f .list=gJ:=rfl
@[simp] theorem tci_i{i:Int}:j3 [(m,.int i)]=some (.fz,.int i):=rfl
@[simp] theorem tci_b{i:Bool}:j3 [(m,.bl i)]=some (.fz,.int (if i then 1 else 0)):=rfl
@[simp] theorem tct_l{i:List D}:eQ [(m,.lst i)]=some (.fz,.tup i):=rfl
@[simp] theorem tct_t{i:List D}:eQ [(.fz,.tup i)]=some (.fz,.tup i):=rfl
@[simp] theorem tcl_l{i:List D}:gJ [(m,.lst i)]=some (.fr,.lst i):=rfl
@[simp] theorem tcl_t{i:List D}:gJ [(m,.tup i)]=some (.fr,.lst i):=rfl
@[simp] theorem tcs_i{i:Int}(h:qS i=true):lT [(m,.int i)]=some (.fz,.str (qT i)):=by show (if qS i=true then _ else _)=_;rw[if_pos h]
@[simp] theorem bn_all:Bn.f .all=iH:=rfl
@[simp] theorem len_s{z:Str}:eE [(m,.str z)]=some (.fz,.int z.length):=rfl
@[simp] theorem len_l{z:List D}:eE [(m,.lst z)]=some (.fz,.int z.length):=rfl
@[simp] theorem len_t{z:List D}:eE [(m,.tup z)]=some (.fz,.int z.length):=rfl
@[simp] theorem itm_l{z:List D}:eZ (.ok m (.lst z))=.ok .fz (.lst z):=rfl
@[simp] theorem itm_t{z:List D}:eZ (.ok m (.tup z))=.ok .fz (.lst z):=rfl
@[simp] theorem itm_s{z:Str}:eZ (.ok m (.str z))=.ok .fz (.lst (dR z)):=rfl
end
@[simp] theorem WT_xf{t:TB}{k:Nat}:(WT t k).xf=λc x=>t.xt.lookup (c,x):=by unfold WD.xf;rw[yQ]
@[simp] theorem WT_xg{t:TB}{k:Nat}:(WT t k).xg=λc x=>t.xi.lookup (c,x):=by unfold WD.xg;rw[yR]
section
variable {c x:Str}{ρ ρ':Rho}{m:Md}{d:D}{xt:Str->Str->Option Bool}{hs:List HX}{g:Rho->aG}
@[simp] theorem x_frx:aY (.exc c)=.exc c:=rfl
@[simp] theorem x_setx{k:Nat}:fK ρ k (.exc c)=.exc c ρ:=rfl
@[simp] theorem x_retx:jY (.exc c) ρ=.exc c ρ:=rfl
end
theorem bA{n N:Nat}{g:Rho->aG}{ds:List D}{m:Md}{d:D}(hl:ds.length=n)(h:g (iI N ds)=.rt m d):phi n N g ds=.ok m d:=by unfold phi;rw[if_pos hl,h];rfl
theorem oV{n:Nat}{Φ:List D->Res}{xs:List (Md×D)}{ds:List D}{d:D}(hl:ds.length=n)(ha:dE xs=some ds)(h:Φ ds=.ok .fz d):bE n Φ (.ok xs)=.ok .fz d:=by
 show (match dE xs with | some ds=>if ds.length=n then (match Φ ds with | .ok .bo _=>Res.stuck | r=>r) else .stuck | none=>.stuck)=_
 rw[ha];show (if ds.length=n then _ else _)=_;rw[if_pos hl,h]
@[simp] theorem cD{Φ:List D->Res}{a d:D}(h:Φ [a]=.ok .fz d):bE 1 Φ (.ok [(.fz,a)])=.ok .fz d:=oV (ds:=[a]) rfl rfl h
@[simp] theorem dY{Φ:List D->Res}{a b d:D}(h:Φ [a,b]=.ok .fz d):bE 2 Φ (.ok [(.fz,a),(.fz,b)])=.ok .fz d:=oV (ds:=[a,b]) rfl rfl h
@[simp] theorem call3{Φ:List D->Res}{a b c d:D}(h:Φ [a,b,c]=.ok .fz d):bE 3 Φ (.ok [(.fz,a),(.fz,b),(.fz,c)])=.ok .fz d:=oV (ds:=[a,b,c]) rfl rfl h
@[simp] theorem sR{cl:List CI}{Φ:Str->List D->Res}{c m key:Str}{n:Nat}{fs:List (Str×D)}{as:a6}(h:CI.meth cl c m=some (key,n))(hl:fs.lookup m=none):fA cl Φ m (.ok .fz (.ins c fs)) as=bE n (Φ key) (cG (.ok .fz (.ins c fs)) as):=by
 show (match CI.meth cl c m with | some (key,n)=>if fs.lookup m=none then bE n (Φ key) (cG (.ok .fz (.ins c fs)) as) else .stuck | none=>.stuck)=_
 rw[h];show (if fs.lookup m=none then _ else _)=_;rw[if_pos hl]
@[simp] theorem wt_cl{t:TB}{k:Nat}:(WT t k).cl=t.cl:=oS t k
theorem cE{t:TB}{k:Nat}{f:Str}{d:FD}(h:t.T.lookup f=some d):(WT t (k+1)).Φ f=phi d.ps.length d.N.length (evB (WT t k) d.b):=by rw[WT_Φ];unfold mD;rw[h]
@[simp] theorem call4{Φ:List D->Res}{a b c e d:D}(h:Φ [a,b,c,e]=.ok .fz d):bE 4 Φ (.ok [(.fz,a),(.fz,b),(.fz,c),(.fz,e)])=.ok .fz d:=oV (ds:=[a,b,c,e]) rfl rfl h
theorem dB{W:WD}:∀ {x y:List D3.S} {ρ:Rho},evB W (x++y) ρ=(evB W x ρ).thn (evB W y)
 | [],y,ρ=>by simp
 | s::x,y,ρ=>by
  show evB W (s::(x++y)) ρ=_;rw[zA,zA];cases evS W s ρ with
  | nx ρ'=>exact dB
  | _=>rfl
theorem zC{k:D->Rho->Option Rho}{t e:Rho->Res}{ρ0:Rho}{f:D->D}:∀ {ds:List D},(∀ d∈ds,∃ ρ1 m,k d ρ0=some ρ1/\t ρ1=.ok m (.bl true)/\∃ m',aY (e ρ1)=.ok m' (f d))->e9 k t e ρ0 ds=some (ds.map f)
 | [],_=>rfl
 | d::ds,h=>by obtain ⟨ρ1,m,e1,e2,m',e3⟩:=h d mcs;unfold e9;rw[e1];dsimp only;rw[e2];dsimp only;rw[e3];dsimp only;rw[zC λd hd=>h d (mcm hd)];rfl
theorem oW{ρ:Rho}{aD:List Nat}{n:Nat}{k:D->Rho->Option Rho}{t e:Rho->Res}{m:Md}{ds:List D}(f:D->D)(hl:ds.length<sizeLine)(h:∀ d∈ds,∃ ρ1 m,k d (cN aD ρ++List.replicate n none)=some ρ1/\t ρ1=.ok m (.bl true)/\∃ m',aY (e ρ1)=.ok m' (f d)):b0 (.ok m (.lst ds)) ρ aD n k t e=.ok .fr (.lst (ds.map f)):=by unfold b0;rw[Res.thn_ok];dsimp only;rw[if_pos hl,zC h]
end D3
namespace Tp
open PySem PySem.W PySem.Calls
structure S where
 t:BT
 n:Nat
 k:Nat
 nm:Value
 g:List DictEntry
 tb:List Value
def tupO(vs:List Value):Obj:=⟨.type "tuple", none,.seq vs.toArray 0,#[]⟩
def fldO(c:Value)(vs:List Value):Obj:=⟨c,none,.fields vs.toArray,#[]⟩
def dicO(es:List DictEntry)(e:Nat):Obj:=⟨.type "dict", none,.dict es.toArray e,#[]⟩
def en(P:Params)(x:Str)(k:Nat)(v:Value):DictEntry:=⟨PyData.keyHash P x,.str x k,v⟩
def texts:List Str->Nat->List Value
 | [],_=>[]
 | x::xs,k=>.str x k::texts xs (k+1)
def fileS:Str := "/claim/cut.py"
def codeO(name aW:Str)(k line argc fl:Nat)(isF:Bool)(a:Nat)(ls cs tm:Value)(j:Nat):Obj :=
 fldO (.type "code") [.str name k,.str aW (k+1),.str fileS (k+2),.int line 0,.int argc 0,.int 0 0,.int 0 0,.int fl 0,.ref a,.bool isF,.int 181 0,.ref (a+1),.none,ls,cs,tm,.int j 0,.int line 0,.str fileS (j+1)]
def frmO(code ns:Nat)(nm:Value):Obj:=⟨.type "frame", none,.plain,#[some (.ref code),some (.ref 3),some (.ref ns),none,some nm,none,some (.ref 0)]⟩
def fnD(name aW:Str)(args:Arguments)(body:List Stmt)(sc:Scope)(gl:Nat)(nm cd:Value):FuncData:=⟨name,aW,args,.stmts body,sc,gl,[],.none,.none,.none,nm,none,cd,.none,0⟩
def insL:List Obj->BT->Nat->BT
 | [],t,_=>t
 | o::os,t,n=>insL os (t.ins n o) (n+1)
def layF(name aW:Str)(args:Arguments)(body:List Stmt)(sc:Scope)(line n k:Nat)(nm:Value):List Obj×Nat×Nat :=
 match localNames args sc (.stmts body) with
 | some (ls,cs) =>
  let a:=ls.length
  let b:=cs.length
  ([tupO [],fldO .none [],tupO (texts ls (k+3)),tupO (texts cs (k+3+a)),⟨.none,none,.func (fnD name aW args body sc 0 .none .none),#[]⟩,
   codeO name aW k line args.args.length 3 true n (.ref (n+2)) (.ref (n+3)) (.ref (n+4)) (k+3+a+b),⟨.type "function", none,.func (fnD name aW args body sc 3 nm (.ref (n+5))),#[]⟩],n+5,k+5+a+b)
 | none =>
  ([tupO [],fldO .none [],⟨.none,none,.func (fnD name aW args body sc 0 .none .none),#[]⟩,
   codeO name aW k line args.args.length 3 true n .none .none (.ref (n+2)) (k+3),⟨.type "function", none,.func (fnD name aW args body sc 3 nm (.ref (n+3))),#[]⟩],n+3,k+5)
def look(x:Str):List DictEntry->Option Value
 | []=>none
 | ⟨_,.str y _,v⟩::es=>match decide (x=y) with | true=>some v | false=>look x es
 | _::es=>look x es
structure B where
 t:BT
 n:Nat
 k:Nat
 es:List DictEntry
 tb:List Value
def layB(P:Params)(cn:Str)(nm:Value):List Stmt->B->B
 | .FunctionDef name args body _ _ _ sc _ _ pos::r,⟨t,n,k,es,tb⟩ =>
  match layF name (cn ++ "." ++ name) args body sc pos.line n k nm with
  | (os,c,j)=>layB P cn nm r ⟨insL os t n,n+os.length,j+1,en P name j (.ref (c+1))::es,.ref c :: .int pos.col 0 :: .int pos.line 0::tb⟩
 | _::r,b=>layB P cn nm r b
 | [],b=>b
def mroOf(t:BT)(a:Nat):List Value×Value:=match t.get a with
 | some ⟨_,_,.cls c,sl⟩=>(c.mro,(sl.getD 4 none).getD .none)
 | _=>([],.none)
def subTo(a:Nat):Obj->Obj
 | ⟨c,d,.cls k,sl⟩=>⟨c,d,.cls { k with subclasses:=k.subclasses++[.ref a] },sl⟩
 | o=>o
def layC(P:Params)(name:Str)(bases:List PySem.Expr)(body:List Stmt)(st:List Str)(line:Nat):S->S
 | ⟨t,n,k,nm,g,tb⟩ =>
  let bs:List Value:=match bases with
   | .Name b _::_=>(match look b g with | some v=>[v] | none=>[.type "ValueError"])
   | _=>[]
  let n2:=n+2
  let t1:=insL [tupO bs,fldO (.type "builtin_function_or_method") [.builtin "type.__prepare__", .type "type"],dicO [] 0,tupO [],fldO .none [],codeO name name (k+2) line 0 0 false (n+3) .none .none .none (k+5),frmO (n+5) n2 nm] t n
  match layB P name nm body ⟨t1,n+7,k+12,[en P "__firstlineno__" (k+11) (.int line (k+10)),en P "__qualname__" (k+9) (.str name (k+8)),en P "__module__" (k+7) nm],[]⟩ with
  | ⟨t2,m,j,es,ct⟩ =>
   let es1:=en P "__static_attributes__" (j+st.length) (.ref m)::es
   let j1:=j+st.length+1
   let t3:=(t2.set n2 λ_=>dicO es1.reverse es1.length).set (n+4) λ_=>fldO .none ct.reverse
   let cl:=m+2
   let cp:=(es1.reverse.take 1)++(es1.reverse.drop 2)
   let fin (mro:List Value) (nw:Value) (bv:List Value) (sl0:Option Value) (xs:List DictEntry) (gs:List Obj) (t:BT) (j:Nat):S :=
    let os:=[tupO (texts st (m-m+(j1-1-st.length))),dicO (cp++xs++[en P "__doc__" j .none]) (2+xs.length),⟨.type "type", none,.cls ⟨name,bv,.ref cl::mro,m+1,name,true,[],[],false,none,false⟩,#[sl0,none,some (.str name k),some (.str name (k+8)),some nw,some (.bool true)]⟩]
     ++ gs++[fldO (.type "super") [.ref cl,.ref cl,.ref cl],fldO (.type "builtin_function_or_method") [.builtin "object.__init_subclass__", .ref cl]]
    ⟨insL os t m,m+os.length,j+3,nm,en P name (j+2) (.ref cl)::g,.ref (n+5) :: .int 0 0 :: .int line 0::tb⟩
   let gw (j a:Nat):=fldO (.type "getset_descriptor") [.str "__weakref__" j,.ref cl,.builtin "ExceptionGroup.__weakref__", .none]
   match bs with
   | [] => fin [.type "object"] (.builtin "object.__new__") [.type "object"] none [en P "__dict__" (j1 + 1) (.ref (m + 3)), en P "__weakref__" (j1 + 3) (.ref (m + 4))]
       [fldO (.type "getset_descriptor") [.str "__dict__" j1,.ref cl,.builtin "function.__dict__", .builtin "function.__dict__#set"],gw (j1+2) 0] t3 (j1+4)
   | .ref a::_=>match mroOf t3 a with
    | (mro,nw)=>fin mro nw bs (some (.ref n)) [] [] (t3.set a (subTo cl)) j1
   | _=>fin [.type "ValueError", .type "Exception", .type "BaseException", .type "object"] (.builtin "ValueError.__new__") bs (some (.ref n)) [en P "__weakref__" (j1+1) (.ref (m+3))] [gw j1 0] t3 (j1+2)
def keysD(P:Params)(g:List DictEntry):List (Option PySem.Expr)->List PySem.Expr->Nat->List DictEntry
 | some (.Constant (.str x) _ _)::ks,.Name y _::vs,k=>en P x k ((look y g).getD .none)::keysD P g ks vs (k+1)
 | _,_,_=>[]
def put(P:Params)(x:Str)(v:Value)(t:BT)(n k:Nat)(nm:Value)(g:List DictEntry)(tb:List Value):S:=match decide (x = "__name__") with
 | true=>⟨t,n,k+1,v,g,tb⟩
 | false=>⟨t,n,k+1,nm,en P x k v::g,tb⟩
def lay1(P:Params):Stmt->S->S
 | .FunctionDef name args body _ _ _ sc _ _ pos,⟨t,n,k,nm,g,tb⟩=>match layF name name args body sc pos.line n k nm with
  | (os,c,j)=>⟨insL os t n,n+os.length,j+1,nm,en P name j (.ref (c+1))::g,.ref c :: .int pos.col 0 :: .int pos.line 0::tb⟩
 | .ClassDef name bases _ body _ _ _ _ _ st pos,s=>layC P name bases body st pos.line s
 | .Assign [.Name x _] (.Constant (.str v) _ _) _,⟨t,n,k,nm,g,tb⟩=>put P x (.str v k) t n (k+1) nm g tb
 | .Assign [.Name x _] (.Constant (.int v) _ _) _,⟨t,n,k,nm,g,tb⟩=>put P x (.int v k) t n (k+1) nm g tb
 | .Assign [.Name x _] (.Dict ks vs _) _,⟨t,n,k,nm,g,tb⟩=>put P x (.ref n) (t.ins n (dicO (keysD P g ks vs k) vs.length)) (n+1) (k+2 * vs.length) nm g tb
 | _,s=>s
def lay(P:Params):List Stmt->S->S
 | [],s=>s
 | st::r,s=>lay P r (lay1 P st s)
def s0(os:List Obj):S :=
 ⟨insL [tupO [],fldO .none [],codeO "<module>" "<module>" 182 1 0 0 false 11 .none .none .none 185,frmO 13 3 (.str "__main__" 164)] (insL os .nil 0) 11,15,187,.str "__main__" 164,[],[]⟩
def nameTo(nm:Value):List DictEntry->List DictEntry
 | e::es=>{ e with val:=nm }::es
 | []=>[]
def mainTo(nm:Value)(g:List DictEntry):Obj->Obj
 | ⟨c,d,.dict es e,sl⟩=>⟨c,d,.dict (nameTo nm es.toList++g.reverse).toArray (e+g.length),sl⟩
 | o=>o
def S.bt(s:S):BT:=(s.t.set 3 (mainTo s.nm s.g)).set 12 λ_=>fldO .none s.tb.reverse
open PyProof.Rows
def z0:Pos:=⟨0,0,0,0⟩
def an:Option Value:=some (.ref 6)
def ev(p:Program):Env:={ scope:=p.main.scope,locals:=mainNs,globals:=mainNs,cells:=[],code:=.ref 13,frame:=some 14 }
def cd(p:Program):Code:=.body (behindTheImports p) (ev p)
def go(tb:String->Option Builtin)(p:Program)(w:World)(F:Nat):List Stmt->SharedT->Code->Pos->Option (SharedT×Code×Pos)
 | [],s,c,q=>some (s,c,q)
 | st::l,s,c,q=>match segRunT tb p w 11 an 1 F s (pieceOf st (ev p) c q [topFrame z0]) with
  | some (.next,s',c',q')=>go tb p w F l s' c' q'
  | _=>none
def ns(F N:Nat):List Stmt->Nat
 | []=>N
 | _::l=>F+ns F N l
section
variable {tb:String->Option Builtin}{p:Program}{w:World}
theorem one{n N:Nat}{s s' r:Shared}{st:Stmt}{aN:List Stmt}{c c':Code}{e:Env}{q q':Pos}(h:segRun tb p w 11 an 1 n s (pieceOf st e c q [topFrame z0])=some (.next,s',c',q'))(k:topRun tb p w 11 an N s' (restOf aN e c' q' [topFrame z0])=some r):topRun tb p w 11 an (n+N) s (restOf (st::aN) e c q [topFrame z0])=some r:=by
 obtain ⟨a,ha,hN⟩:=seg_top (B:=[topFrame z0]) (res:=id)
  (K':=λf=>match f with
   | .next=>(execs aN e).wrap doneF (leaveH e) id id
   | f=>doneF f)
  (H':=leaveH e) rfl n s (pieceOf st e c q [topFrame z0])
  ⟨(exec st e).wrap (λf=>match f with
   | .next=>(execs aN e).wrap doneF (leaveH e) id id
   | f=>doneF f) (leaveH e) id id,c,q,[topFrame z0]⟩ _ _ _ _ ⟨rfl,rfl,.inl ⟨rfl,rfl,_,rfl,rfl⟩⟩ h
 cases ha;unfold restOf;rw[execs_cons_wrap];exact hN N r k
theorem go_top'{F:Nat}:∀ (l:List Stmt) {s s':SharedT} {c c':Code} {q q':Pos},go tb p w F l s c q=some (s',c',q')->∀ {N:Nat} {r:Shared} {aN:List Stmt},topRun tb p w 11 an N s'.abs (restOf aN (ev p) c' q' [topFrame z0])=some r->topRun tb p w 11 an (ns F N l) s.abs (restOf (l++aN) (ev p) c q [topFrame z0])=some r
 | [],_,_,_,_,_,_,h,_,_,_,k=>by cases h;exact k
 | st::l,s,s',c,c',q,q',h,N,r,aN,k=>by
  unfold go at h;split at h
  . rename_i x e;exact one (segRun_of e) (go_top' l h k)
  . cases h
theorem fin2(s:Shared)(c:Code)(q:Pos):topRun tb p w 11 an 2 s (restOf [] (ev p) c q [topFrame z0])=some s:=by obtain ⟨h,g,d,k,o⟩:=s;rfl
noncomputable def sh(P:Params)(S:S)(n k:Nat)(os:OsState):SharedT:=⟨S.bt,n,(boot_heap P).life,#[],boot_drawn,k,os⟩
noncomputable def sA(P:Params):S:=s0 (boot_heap P).objs.toList
theorem run_of{l:List Stmt}{n k:Nat}{c':Code}{q':Pos}(hl:behindTheImports p=l)(pre:∀ (w:World) (os:OsState),topGo treeTable p w 11 an 12 ⟨boot_heap w.params,#[],boot_drawn,boot_toks,os⟩ (topStub p)=some ((sh w.params (sA w.params) 15 187 os).abs,⟨denote treeTable (cd p),cd p,z0,[topFrame z0]⟩))(blk:∀ (w:World) (s:Shared),segRun treeTable p w 11 an 1 1 s (blockOf l (ev p) (cd p) z0 [topFrame z0])=some (.next,s,cd p,z0))(run:∀ (w:World) (os:OsState),go treeTable p w 1000 l (sh w.params (sA w.params) 15 187 os) (cd p) z0=some (sh w.params (lay w.params l (sA w.params)) n k os,c',q')):∀ (w:World) (os:OsState),topRun treeTable p w 11 an (12+(1+ns 1000 2 l)) ⟨boot_heap w.params,#[],boot_drawn,boot_toks,os⟩ (topStub p)=some (sh w.params (lay w.params l (sA w.params)) n k os).abs:=by
 intro w os;refine go_top (pre w os) ?_;unfold cd;rw[hl];refine piece_block (n:=1) (by have:=blk w (sh w.params (sA w.params) 15 187 os).abs;unfold cd at this;rw[hl] at this;exact this) ?_
 have:=go_top' l (run w os) (aN:=[]) (fin2 _ _ _);rw[aQQ] at this;unfold cd at this;rw[hl] at this;exact this
end
noncomputable def KK(l:List Stmt)(as:List Addr)(P:Params):Frag:=as.map λa=>(a,((lay P l (sA P)).bt.get a).getD default)
theorem KK_e(l:List Stmt)(as:List Addr)(P:Params):as=(KK l as P).map (·.1):=by unfold KK;rw[aT6];exact (List.map_id as).symm
noncomputable def hk(l:List Stmt)(as:List Addr):Hook:=kHook (KK l as) as (KK_e l as)
noncomputable def H1(l:List Stmt)(n:Nat)(P:Params):Heap:=absHeap (lay P l (sA P)).bt n (boot_heap P).life
noncomputable def S1(l:List Stmt)(n k:Nat)(P:Params)(os:OsState):Shared:=⟨H1 l n P,#[],boot_drawn,k,os⟩
def bnd(n:Str):Stmt->List Str
 | .FunctionDef x ..=>if x==n then [] else [x]
 | .ClassDef x ..=>[x]
 | .Assign [.Name x _] _ _=>if x == "__name__" then [] else [x]
 | _=>[]
def los(l:List Stmt):List Str:=l.flatMap (bnd "law")
def vw(p:Program):Program:={ p with main:={ p.main with body:=p.main.body.filter λst=>match st with | .FunctionDef x ..=>x == "law" | _=>false } }
def xt(r:OpenRow)(s:Shared):Bool:=xlAt (vw r.prog) [] s&&recOk r.toRowW.records s
theorem size1(w:World):((boot_heap w.params).isNs mainGlobals&&(#[]:Array GenState).size==0,(boot_heap w.params).objs.size,(boot_heap w.params).nsMap mainGlobals "__annotations__")=(true,11,an):=by kernel_rfl
end Tp
theorem Tp.twA:Prod.fst (true,(@Tp.go,@Tp.lay,@Tp.sh,@Tp.sA,@Tp.cd,@Tp.ev,@Tp.S.bt,@Tp.KK,@Tp.hk,@Tp.H1,@Tp.S1,@Tp.los,@Tp.vw,@Tp.xt))=true:=by k_qdec
namespace D3
open PySem PySem.Spec PySem.Calls PyProof.Rows L2
theorem zD:∀ {ps:List Str} {us:List Value},ps.Nodup->us.length=ps.length->ps.filterMap (λn=>((ps.zip us).lookup n).map (n,·))=ps.zip us/\∀ n∈ps,((ps.zip us).lookup n).isNone=false
 | [],us,_,_=>⟨rfl,λ_ h=>by cases h⟩
 | p::ps,[],_,h=>by cases h
 | p::ps,u::us,nd,h=>by
  obtain ⟨h1,h2⟩:=aQR.mp nd;obtain ⟨i1,i2⟩:=zD (us:=us) h2 (Nat.succ.inj h);have e:∀ n∈ps,((p,u)::ps.zip us).lookup n=(ps.zip us).lookup n:=λn hn=>by rw[aR0];have:(n==p)=false:=aPM.mpr λz=>h1 (z ▸ hn);rw[this]
  refine ⟨?_,λn hn=>?_⟩
  . rw[aSW,aPX,aR0,aSO];dsimp only[Option.map];refine congrArg _ (Eq.trans ?_ i1);have c:∀ l:List Str,(∀ n∈l,n∈ps)->l.filterMap (λn=>(((p,u)::ps.zip us).lookup n).map (n,·))=l.filterMap (λn=>((ps.zip us).lookup n).map (n,·)):=by
      intro l hl
      induction l with
      | nil=>rfl
      | cons a l ih=>rw[aPX,aPX,e a (hl a mcs),ih λn hn=>hl n (mcm hn)]
    exact c ps λ_ h=>h
  . rw[aSW];rcases aPY.mp hn with rfl | hn
    . rw[aR0,aSO];rfl
    . rw[e n hn];exact i2 n hn
theorem aML{fd:FuncData}{ps:List Str}(h1:fd.params.posonlyargs=[])(h2:fd.params.args.map (·.arg)=ps)(h3:fd.params.vararg=none)(h4:fd.params.kwonlyargs=[])(h5:fd.params.kwarg=none)(hd:fd.defaults=.none)(h6:ps.Nodup)(us:List Value)(hl:us.length=ps.length):bindArgs fd ⟨us,[]⟩=pure (ps.zip us):=by
 obtain ⟨z1,z2⟩:=zD h6 hl;have z3:(ps.take (ps.length-0)).filter (λn=>((ps.zip us).lookup n).isNone)=[]:=by rw[Nat.sub_zero,aS1,List.filter_eq_nil_iff];intro n hn;rw[z2 n hn];decide
 unfold bindArgs;simp only[h1,h2,h3,h4,h5,hd,aRM,aTY,aQQ,aSL,aSN,hl,aPR,seqItems?];have q:(do notAStandIn Value.none;pure none:Sem (Option (Array Value)))=pure none:=rfl
 rw[q];simp only[aSN,aRK,aSX,Nat.zero_sub,aST,z3,decide_false,Bool.false_and,aRZ,aQ9,List.isEmpty_nil,aRY,List.zip_nil_right,aSL,z1,Array.toList_empty,List.drop_nil]
noncomputable def adB(K:Fg)(x:Str):Option Addr:=match PySem.W.nsIn K mainGlobals x with | some (some (.ref a))=>some a | _=>none
theorem fR{K:Fg}{x:Str}{a:Addr}(h:adB K x=some a):PySem.W.nsIn K mainGlobals x=some (some (.ref a)):=by
 unfold adB at h;split at h
 . rename_i b e;cases h;exact e
 . cases h
noncomputable def isKey(key:Str):Addr×Obj->Bool
 | (_,⟨.type t,_,.func fd,_⟩)=>t == "function" && fd.qualname==key
 | _=>false
noncomputable def faK(K:Fg)(key:Str):Addr:=match K.find? (isKey key) with | some p=>p.1 | none=>0
noncomputable def stOf(fd:FuncData)(b:List Stmt):Stmt:=.FunctionDef fd.name fd.params b [] none [] fd.scope none fd.name ⟨0,0,0,0⟩
noncomputable def parB(p:Arguments)(ps:List Str):Bool:=p.posonlyargs.isEmpty&&(p.args.map (·.arg)==ps)&&p.vararg.isNone&&p.kwonlyargs.isEmpty&&p.kwarg.isNone&&decide ps.Nodup
noncomputable def fdB(K:Fg)(nm:Option Str)(key:Str)(a:Addr)(ps:List Str)(f:Stmt->Bool)(fd:FuncData)(b:List Stmt):Bool :=
 (nm.getD fd.name==fd.name)&&((fd.qualname==key)&&(fd.globals==mainGlobals&&(fd.closure.isEmpty&&((fd.defaults == .none)&&(fd.builtins==builtinsNs&&(PySem.W.codeIn K fd.code key&&(PySem.W.keepIn K (.ref a)&&(parB fd.params ps&&f (stOf fd b)))))))))
noncomputable def kI(K:Fg)(nm:Option Str)(key:Str)(a:Addr)(ps:List Str)(f:Stmt->Bool):Bool:=match K.lookup a with
 | some ⟨_,_,.func fd,_⟩=>(match fd.body with
  | .stmts b=>fdB K nm key a ps f fd b
  | _=>false)
 | _=>false
theorem sS{K:Fg}{nm:Option Str}{key:Str}{a:Addr}{ps:List Str}{f:Stmt->Bool}(h:kI K nm key a ps f=true):∃ name st fd,Fun K name key st a fd/\gH K fd ps []/\f st=true/\nm.getD name=name/\∀ us:List Value,us.length=ps.length->bindArgs fd ⟨us,[]⟩=pure (ps.zip us):=by
 unfold kI at h;split at h
 . rename_i oc od fd sl el;split at h
   . rename_i b eb;unfold fdB at h;simp only[aRI] at h;obtain ⟨h1,h2,h3,h4,h5,h6,h7,h8,h9,h10⟩:=h;obtain ⟨name,qualname,params,body,scope,globals,closure,defaults,kwdefaults,doc,pm,an,code,ct,bl⟩:=fd;dsimp only at *;obtain rfl:=eb;obtain rfl:=aQL.mp h2;obtain rfl:=aQL.mp h3;obtain rfl:=List.isEmpty_iff.mp h4;obtain rfl:=aQL.mp h5;obtain rfl:=aQL.mp h6;unfold parB at h9;simp only[aRI,List.isEmpty_iff,aQL,Option.isNone_iff_eq_none,aR2] at h9;obtain ⟨⟨⟨⟨⟨p1,p2⟩,p3⟩,p4⟩,p5⟩,p6⟩:=h9;have bp:=aML (fd:=PySem.W.fnOf name qualname params b scope .none kwdefaults doc pm an code ct) p1 p2 p3 p4 p5 rfl p6;exact ⟨name,_,_,aEP (st:=stOf ⟨name,qualname,params,.stmts b,scope,mainGlobals,[],.none,kwdefaults,doc,pm,an,code,ct,builtinsNs⟩ b) el h7 h8,.all bp,h10,aQL.mp h1,bp⟩
   . cases h
 . cases h
noncomputable def gvB(K:Fg)(x:Str):GV->Bool
 | .con (.s y)=>(match PySem.W.nsIn K mainGlobals x with | some (some (.str z _))=>z==y | _=>false)
 | .con (.i n)=>(match PySem.W.nsIn K mainGlobals x with | some (some (.int z _))=>z==n | _=>false)
 | .con (.t _)=>true
 | .no=>PySem.W.nsIn K mainGlobals x==some none
 | .fn _=>PySem.W.nsIn K mainGlobals x==some (some (.ref (faK K x)))
 | .cls=>true
noncomputable def oX(K:Fg)(C:Addr):Bool:=PySem.W.plainGet K C Str.empty&&(PySem.W.hasDictIn K C&&(PySem.W.plainOver K C&&PySem.W.findIn K (.ref C) "__setattr__" == some (some (.builtin "object.__setattr__"))))
theorem zE{K:Fg}{C:Addr}(h:oX K C=true):Cls K C:=by unfold oX at h;simp only[aRI,aQL] at h;exact ⟨h.1,h.2.1,h.2.2.1,h.2.2.2⟩
noncomputable def sU(K:Fg)(C:Addr)(x:Str×Str×Nat):Bool:=PySem.W.findIn K (.ref C) x.1==some (some (.ref (faK K x.2.1)))&&(PySem.W.isFn K (.ref (faK K x.2.1))&&PySem.W.keepIn K (.ref (faK K x.2.1)))
noncomputable def ciB(K:Fg)(i:CI):Bool:=match adB K i.name with
 | some C=>oX K C&&(i.meths.all (sU K C)&&i.flds.all λf=>PySem.W.findIn K (.ref C) f==some none)
 | none=>false
noncomputable def mk0B(K:Fg)(c:Str):Bool:=match adB K c with
 | some C=>PySem.W.makesIn K C&&(PySem.W.findIn K (.ref C) "__init__" == some (some (.builtin "object.__init__"))&&PySem.W.keepIn K (.ref C))
 | none=>false
noncomputable def clB(K:Fg)(C:Addr):Bool:=PySem.W.findIn K (.ref C) "__class__" == some (some (.builtin "object.__class__"))&&(PySem.W.specialIn K (.builtin "object.__class__") "__get__" == some (some (.builtin "getset_descriptor.__get__"))&&(PySem.W.takesIn K (.builtin "object.__class__")==some true&&PySem.W.mroIn K C (.type "object")==some true))
noncomputable def isoB(K:Fg)(cl:List CI)(c:Str):Bool:=match adB K c with
 | some C=>["NoneType", "bool", "int", "str", "tuple", "list", "dict"].all (λt=>PySem.W.kitOne K (.type t) (.ref C)==some false)&&cl.all λi=>match adB K i.name with
  | some C'=>oX K C'&&(clB K C'&&PySem.W.kitOne K (.ref C') (.ref C)==some (i.ups.contains c))
  | none=>false
 | none=>false
noncomputable def inB(K:Fg)(g:MG)(x:Str×ID):Bool:=match adB K x.2.c with
 | some C=>PySem.W.makesIn K C&&(PySem.W.findIn K (.ref C) "__init__" == some (some (.ref (faK K x.1)))&&(PySem.W.isFn K (.ref (faK K x.1))&&(PySem.W.keepIn K (.ref C)&&kI K none x.1 (faK K x.1) x.2.ps (λst=>idOk g st x.2))))
 | none=>false
noncomputable def xtB(K:Fg)(x:(Str×Str)×Bool):Bool:=match adB K x.1.1,adB K x.1.2 with
 | some C,some C2=>PySem.W.mroIn K C2 (.type "BaseException")==some true&&(PySem.W.typeIn K (.ref C2)==some (.type "type")&&PySem.W.mroIn K C (.ref C2)==some x.2)
 | _,_=>false
noncomputable def xcB(K:Fg)(C:Addr):Bool:=PySem.W.findIn K (.ref C) "__getattribute__" == some (some (.builtin "BaseException.__getattribute__"))&&(PySem.W.findIn K (.ref C) "__getattr__" == some none&&(PySem.W.mroIn K C (.type "BaseException")==some true&&clB K C))
noncomputable def cvB(K:Fg)(n:Str):Option V:=match PySem.W.nsIn K mainGlobals n with
 | some (some (.ref C))=>some (.ref C)
 | some none=>if n == "__name__" then none else (match bootBuiltins n with | some (.type T)=>some (.ty T) | _=>none)
 | _=>none
noncomputable def xiB(K:Fg)(x:(Str×Str)×Bool):Bool:=match adB K x.1.1,cvB K x.1.2 with
 | some C,some cv=>xcB K C&&PySem.W.kitOne K (.ref C) (wL cv)==some x.2
 | _,_=>false
noncomputable def rzB(K:Fg)(c:Str):Bool:=match adB K c with
 | some C=>PySem.W.excIn K C vErr "ValueError.__new__"
 | none=>false
noncomputable def gfB(K:Fg)(g:MG)(t:TB):Bool :=
 g.G.all (λx=>gvB K x.1 x.2)&&(gOk g.G t.T&&(t.T.all (λx=>kI K (if x.1 == "law" then some "law" else none) x.1 (faK K x.1) x.2.ps (λst=>jF g st x.2))&&(t.I.all (inB K g)&&(g.mk0.all (mk0B K)&&(yV g.mki t.I&&(g.iso.all (isoB K t.cl)&&(t.cl.all (ciB K)&&(mtOk t.cl t.T&&(t.xt.all (xtB K)&&(t.xi.all (xiB K)&&(g.xcs.all (rzB K)&&g.xns.all (λn=>(cvB K n).isSome))))))))))))
section
variable {w:World}{K:Fg}{mg:SOV}{h:Heap}(X:K.In h)(G:h.Ns mainGlobals mg)
include X G
theorem zF:∀ {l:List (Str×GV)},(∀ x tb,(x,GV.con (.t tb))∈l->j4 w K mg x tb)->l.all (λx=>gvB K x.1 x.2)=true->mK w K mg (faK K) l
 | [],_,_=>trivial
 | (x,v)::l,ht,b=>by
  rw[aSS,aRI] at b;refine ⟨?_,zF (λx tb hx=>ht x tb (mcm hx)) b.2⟩;have b:=b.1;dsimp only at b;cases v with
  | con c =>
   cases c with
   | s y =>
    have b:(match PySem.W.nsIn K mainGlobals x with | some (some (.str z _))=>z==y | _=>false)=true:=b
    split at b
    . rename_i z t e;cases aQL.mp b;exact ⟨t,aUL X G e⟩
    . cases b
   | i y =>
    have b:(match PySem.W.nsIn K mainGlobals x with | some (some (.int z _))=>z==y | _=>false)=true:=b
    split at b
    . rename_i z t e;cases aQL.mp b;exact ⟨t,aUL X G e⟩
    . cases b
   | t tb=>exact ht x tb mcs
  | fn n=>exact aUL X G (aQL.mp b)
  | no=>exact PySem.W.mg_none_of X G (aQL.mp b)
  | cls=>trivial
theorem zG{n:Str}{cv:V}(e:cvB K n=some cv):n4 mg n cv:=by
 unfold cvB at e;split at e
 . rename_i C q;cases e;exact .inl ⟨C,aUL X G q,rfl⟩
 . rename_i q;split at e
   . cases e
   . rename_i hn;split at e
     . rename_i T hb;cases e;exact .inr ⟨PySem.W.mg_none_of X G q,by simpa using hn,T,hb,rfl⟩
     . cases e
 . cases e
end
theorem zH{K:Fg}{g:MG}:∀ {l:List (Str×FD)},l.all (λx=>kI K (if x.1 == "law" then some "law" else none) x.1 (faK K x.1) x.2.ps (λst=>jF g st x.2))=true->mH K g (faK K) l
 | [],_=>trivial
 | (x,d)::l,b=>by rw[aSS,aRI] at b;obtain ⟨name,st,fd,F,hb,ok,_,_⟩:=sS b.1;exact ⟨⟨name,st,fd,F,hb,ok⟩,zH b.2⟩
theorem zI{K:Fg}{C:Addr}:∀ {l:List (Str×Str×Nat)},l.all (sU K C)=true->kD K (faK K) C l
 | [],_=>trivial
 | (m,key,n)::l,b=>by rw[aSS,aRI] at b;have b1:=b.1;unfold sU at b1;simp only[aRI,aQL] at b1;exact ⟨⟨b1.1,b1.2.1,b1.2.2⟩,zI b.2⟩
theorem zJ{K:Fg}{C:Addr}:∀ {l:List Str},l.all (λf=>PySem.W.findIn K (.ref C) f==some none)=true->kE K C l
 | [],_=>trivial
 | f::l,b=>by rw[aSS,aRI] at b;exact ⟨aQL.mp b.1,zJ b.2⟩
theorem zK{K:Fg}:∀ {l:List CI},l.all (ciB K)=true->mL K (faK K) l
 | [],_=>trivial
 | i::l,b=>by
  rw[aSS,aRI] at b;refine ⟨?_,zK b.2⟩;have b:=b.1;unfold ciB at b;split at b
  . rename_i C e;simp only[aRI] at b;exact ⟨C,fR e,zE b.1,zI b.2.1,zJ b.2.2⟩
  . cases b
section
variable {w:World}{K:Fg}{mg:SOV}{h:Heap}(X:K.In h)(G:h.Ns mainGlobals mg)
include X G
theorem zL{g:MG}:∀ {l:List (Str×ID)},l.all (inB K g)=true->mJ K mg g l
 | [],_=>trivial
 | (x,d)::l,b=>by
  rw[aSS,aRI] at b;refine ⟨?_,zL b.2⟩;have b:=b.1;unfold inB at b;split at b
  . rename_i C e;simp only[aRI,aQL] at b;obtain ⟨b1,b2,b3,b4,b5⟩:=b;obtain ⟨name,st,fd,F,hb,ok,_,_⟩:=sS b5;exact ⟨name,st,C,_,fd,fR e,aUL X G (fR e),⟨b1,b2,b3,b4⟩,F,hb,ok⟩
  . cases b
omit X G in
theorem sV{c x:Str}{v:Bool}:∀ {l:List ((Str×Str)×Bool)},l.lookup (c,x)=some v->((c,x),v)∈l
 | [],e=>by cases e
 | (y,b)::l,e=>by
  rw[aR0] at e;split at e
  . rename_i hb;cases e;rw[<- aQL.mp hb];exact mcs
  . exact mcm (sV e)
theorem xt_of{l:List ((Str×Str)×Bool)}(b:l.all (xtB K)=true):qY K mg (λc x=>l.lookup (c,x)):=λc x v e=>by
 have b:=aSB.mp b ((c,x),v) (sV e);unfold xtB at b;split at b
 . rename_i C C2 e1 e2;simp only[aRI,aQL] at b;exact ⟨C,C2,fR e1,aUL X G (fR e1),aUL X G (fR e2),b.1,b.2.1,b.2.2⟩
 . cases b
theorem xi_of{l:List ((Str×Str)×Bool)}(b:l.all (xiB K)=true):qZ K mg (λc x=>l.lookup (c,x)):=λc x v e=>by
 have b:=aSB.mp b ((c,x),v) (sV e);unfold xiB at b;split at b
 . rename_i C cv e1 e2;unfold xcB clB at b;simp only[aRI,aQL] at b;obtain ⟨⟨b1,b2,b3,b4,b5,b6,b7⟩,b8⟩:=b;exact ⟨C,cv,fR e1,⟨b1,b2,b4,b3,b7,b5,b6⟩,zG X G e2,b8⟩
 . cases b
theorem gf_of{g:MG}{t:TB}(b:gfB K g t=true)(ht:∀ x tb,(x,GV.con (.t tb))∈g.G->j4 w K mg x tb):GF w K mg g t (faK K):=by
 unfold gfB at b;simp only[aRI] at b;obtain ⟨b1,b2,b3,b4,b5,b6,b7,b8,b9,b10,b11,b12,b13⟩:=b;refine ⟨zF X G ht b1,b2,zH b3,zL X G b4,λc hc=>?_,b6,λc hc=>?_,zK b8,b9,xt_of X G b10,xi_of X G b11,λc hc=>?_,λn hn=>?_⟩
 . have b:=aSB.mp b5 c hc;unfold mk0B at b;split at b
   . rename_i C e;simp only[aRI,aQL] at b;exact ⟨C,fR e,aUL X G (fR e),b.1,b.2.1,b.2.2⟩
   . cases b
 . have b:=aSB.mp b7 c hc;unfold isoB at b;split at b
   . rename_i C e;rw[aRI] at b;refine ⟨C,aUL X G (fR e),λt ht=>aQL.mp (aSB.mp b.1 t ht),λi hi=>?_⟩;have b:=aSB.mp b.2 i hi;split at b
     . rename_i C' e';unfold clB at b;simp only[aRI,aQL] at b;obtain ⟨c1,⟨c2,c3,c4,c5⟩,c6⟩:=b;exact ⟨C',fR e',zE c1,c2,c3,c4,c5,c6⟩
     . cases b
   . cases b
 . have b:=aSB.mp b12 c hc;unfold rzB at b;split at b
   . rename_i C e;exact ⟨C,aUL X G (fR e),b⟩
   . cases b
 . have b:=aSB.mp b13 n hn;cases e:cvB K n with
   | none=>rw[e] at b;cases b
   | some cv=>exact ⟨cv,zG X G e⟩
end
noncomputable def sW(K:Fg)(g:MG)(t:TB):Bool:=gfB K g t&&PySem.W.nsIn K mainGlobals "law" == some (some (.ref (faK K "law")))
theorem zM{x:Str}{d:FD}:∀ {l:List (Str×FD)},l.lookup x=some d->(x,d)∈l
 | [],e=>by cases e
 | (y,b)::l,e=>by
  rw[aR0] at e;split at e
  . rename_i hb;cases e;rw[<- aQL.mp hb];exact mcs
  . exact mcm (zM e)
noncomputable def noT(g:MG):Bool:=g.G.all λx=>match x.2 with | .con (.t _)=>false | _=>true
theorem aMM{g:MG}{K:Params->Fg}(b:noT g=true)(w:World)(mg:SOV)(h:Heap)(_:(K w.params).In h)(_:h.Ns mainGlobals mg)(x:Str)(tb:List (Str×Str))(hm:(x,GV.con (.t tb))∈g.G):j4 w (K w.params) mg x tb:=by have:=aSB.mp b _ hm;cases this
theorem walkG{l:PySem.W.OpenLaw}{q:Program}{loose:List Str}{XP:(Str->Option Value)->Heap->Prop}{YP:World->Heap->Prop}{d:DefRec}{K:Params->Fg}{g:MG}{t:TB}{kk:Nat}{x:Str}{e:FD}(hn:l.most=some 63)(hdf:d.params.defaults=[])(hdn:d.name = "law")(hY:∀ (w:World) (h:Heap),YP w h->(K w.params).In h)(b:∀ P,sW (K P) g t=true)(ht:∀ (w:World) (mg:SOV) (h:Heap),(K w.params).In h->h.Ns mainGlobals mg->∀ x tb,(x,GV.con (.t tb))∈g.G->j4 w (K w.params) mg x tb)(hT:t.T.lookup ("law" : Str)=some e)(hps:e.ps=[x])(hr:cX (kk+1) callerA)(main:∀ ns:List Int,ns.length<=63->(WT t (kk+1)).Φ "law" (nU ns)=.ok .fz (.bl true)):PySem.W.WalkO q loose XP YP l.row.toRowW d [] (λf vs=>PySem.call f vs):=by
 refine L2.nN (n:=63) (k:=kk+1) (x:=x) (CX:=λw=>CX1 l.prog w) (sp:=λw=>sP (K w.params) ((WT t (kk+1)).Φ ("law" : Str))) hn (by decide) hdf hr hY (λw mg fa h KX G hmg=>?_)
  (λ_ _ a ns hl _ hS=>⟨a,ns,rfl,hS,main ns hl,λ_=>rfl⟩) λ_ _ _ _ _ z=>by obtain ⟨_,_,_,_,_,_,_,_,_,_,z⟩:=z;exact z
 have b:=b w.params;unfold sW at b;rw[aRI,aQL] at b;have f:=gf_of (w:=w) KX G b.1 (ht w mg h KX G);have e1:=aUL KX G b.2;rw[hdn,e1] at hmg;cases hmg;have b3:t.T.all (λx=>kI (K w.params) (if x.1 == "law" then some "law" else none) x.1 (faK (K w.params) x.1) x.2.ps (λst=>jF g st x.2))=true:=by have:=b.1;unfold gfB at this;simp only[aRI] at this;exact this.2.2.1
 obtain ⟨name,st,fd,F,hb,ok,hnm,bp⟩:=sS (aSB.mp b3 (("law" : Str),e) (zM hT));have hnm:name = "law" := hnm.symm;subst hnm;refine ⟨fd,λs u=>.of_eq ?_,λbase _ _=>?_⟩
 . have:=bp [u] (by rw[hps];rfl)
   rw[hps] at this;exact this
 . have:=aMF (P:=l.prog) (base:=base) f kk F hT ok (by rw[hps];rfl)
   rw[hps] at this;exact this
end D3
namespace Tp
open PySem PySem.W PySem.Calls PyProof.Rows
theorem left{p:Program}{r:OpenRow}{l:List Stmt}{n k:Nat}{as:List Addr}{c':Code}{q':Pos}(hl:behindTheImports p=l)(pre:∀ (w:World) (os:OsState),topGo treeTable p w 11 an 12 ⟨boot_heap w.params,#[],boot_drawn,boot_toks,os⟩ (topStub p)=some ((sh w.params (sA w.params) 15 187 os).abs,⟨denote treeTable (cd p),cd p,z0,[topFrame z0]⟩))(blk:∀ (w:World) (s:Shared),segRun treeTable p w 11 an 1 1 s (blockOf l (ev p) (cd p) z0 [topFrame z0])=some (.next,s,cd p,z0))(run:∀ (w:World) (os:OsState),go treeTable p w 1000 l (sh w.params (sA w.params) 15 187 os) (cd p) z0=some (sh w.params (lay w.params l (sA w.params)) n k os,c',q'))(le:Nat.ble (12+(1+ns 1000 2 l)) 1000000=true)(e1:opening p=plainProg p.main.scope.names)(e2:∀ s,fenceModules? p s=some s)(uL:∀ w:World,(λos=>((staticsOk (importedModules p.main.body) (boot_heap w.params) (H1 l n w.params)&&namesBound p (H1 l n w.params)&&gensDone (S1 l n k w.params os)&&laidKept (boot_heap w.params) (H1 l n w.params)),openSeen (vw p) (los l) (importedModules p.main.body) (xt r) true (S1 l n k w.params os),(hk l as).obs (S1 l n k w.params os)))=λ_=>(true,openGood (vw p) (los l),(hk l as).val w)):LeftO p (vw p) (los l) (xt r) (hk l as).obs (hk l as).val 1000000 :=
 LeftO.of_pieces (H₀:=boot_heap) (H₁:=H1 l n) (m₀:=11) (ann:=an) (boot_open e1 rfl e2) size1 (run_of hl pre blk run) le uL
theorem head{p:OpenLaw}{l:List Stmt}{as:List Addr}{d:DefRec}(left:LeftO p.prog (vw p.prog) (los l) (xt p.row) (hk l as).obs (hk l as).val 1000000)(said:p.row.wellSaid=true)(h1:defOf (vw p.prog) p.name=some (d,[]))(h2:p.prog.theDef p.name=some (d.params,d.body,d.scope))(h3:kwWritten? d.params.kwonlyargs d.params.kw_defaults=some [])(h4:(!p.row.writes||p.row.records.isEmpty)=true)(ok:(chainsOk (vw p.prog)&&opensWell p.prog&&(frees p.row.toRowW&&p.row.within.isEmpty))=true)(hb:p.prog.bare)(hw:p.row.toRowW.promised)(call:WalkO (vw p.prog) (los l) (XL (vw p.prog) []) (hk l as).says p.row.toRowW d [] λf vs=>PySem.call f vs):p.row.Holds :=
 holds_open (r:=p.row) (XP:=XL (vw p.prog) []) (YP:=(hk l as).says) left (hk l as).of (hk l as).keeps (λs e=>xl_of s (Bool.and_eq_true_iff.mp e).1) XL.keeps h1 h2 h3
  (λs e=>recFacts_of (Bool.and_eq_true_iff.mp e).2) h4 said ok hb hw call
end Tp
namespace D3
open PySem PySem.Spec PySem.Calls PyProof.Rows L2
end D3
namespace K23
open PySem L2 D3
def f8:List D3.S:=[.ite (.not (.tru (.call "is_term" 1 [(.var 1)]))) [.ret (.bl false)] []]
def hX:List D3.S:=[.ite (.orL [(.not (.tru (.call "is_reason" 1 [(.var 1)]))),(.cmp .Eq (.var 1) (.tup []))]) [.ret (.bl false)] []]
def eW:List D3.S:=[.set 10 (.frz (.bin .Add (.bin .FloorDiv (.var 0) (.bin .Add (.int 7) (.bin .Mult (.int 6) (.var 9)))) (.bin .Mult (.int 11) (.var 9)))),.ite (.cmp .Eq (.var 9) (.var 5)) [.set 10 (.frz (.bin .Add (.bin .FloorDiv (.var 0) (.int 25)) (.var 7)))] [],.ite (.cmp .Eq (.var 9) (.int 0)) [.set 8 (.frz (.bin .Add (.var 8) (.ix (.var 2) (.bin .Mod (.var 10) (.int 26)))))] [.set 8 (.frz (.bin .Add (.var 8) (.ix (.var 3) (.bin .Mod (.var 10) (.int 36)))))]]
def iP:List D3.S:=[.set 8 (.str ""),.for (.rng1 (.var 4)) (.nm 9) eW,.app 6 (.bin .Add (.var 8) (.slice (.str "a9z") none (some (.bin .Mod (.bin .FloorDiv (.var 0) (.bin .Add (.int 5) (.var 7))) (.int 4)))))]
def kJ:List D3.S:=[.set 5 (.tup [(.frz (.tcall .tuple [(.srtw (.var 2))])),(.var 3)]),.nput 1 (.var 5) (.bin .Add (.nget (.var 1) (.var 5) (.int 0)) (.var 4))]
def mN:List D3.S:=[.ite (.not (.tru (.call "_law_alike" 2 [(.ix (.var 0) (.var 2)),(.ix (.var 1) (.var 2))]))) [.ret (.bl false)] []]
def oY:List D3.S:=[.ret (.andL [(.bcall .isinstance [(.var 0),(.ty .int)]),(.not (.bcall .isinstance [(.var 0),(.ty .bool)]))])]
def jG:List D3.S:=[.ite (.not (.tru (.bcall .isinstance [(.var 0),(.ty .str)]))) [.ret (.bl false)] [],.ite (.orL [(.cmp .Lt (.bcall .len [(.var 0)]) (.int 1)),(.cmp .Gt (.bcall .len [(.var 0)]) (.glob "LONGEST" (.i 40)))]) [.ret (.bl false)] [],.ret (.andL [(.cmp .In (.ix (.var 0) (.int 0)) (.glob "LETTERS" (.s "abcdefghijklmnopqrstuvwxyz"))),(.bcall .all [(.comp (.call "is_name_sign" 1 [(.var 0)]) (.items (.var 0)) [] [] (.nm 0) 1)])])]
def oZ:List D3.S:=[.ret (.orL [(.cmp .In (.var 0) (.glob "LETTERS" (.s "abcdefghijklmnopqrstuvwxyz"))),(.cmp .In (.var 0) (.glob "FIGURES" (.s "0123456789")))])]
def o3:List D3.S:=[.ret (.bcall .all [(.comp (.ltn (.ix (.var 0) (.var 1)) (.ix (.var 0) (.bin .Add (.var 1) (.int 1)))) (.rng1 (.bin .Sub (.bcall .len [(.var 0)]) (.int 1))) [] [0] (.nm 1) 1)])]
def aMN:List D3.S:=[.never,.never,.never]
def aMO:List D3.S:=[.never]
def aMP:List D3.S:=[.never,.never,.never]
def gN:List D3.S:=[.ite (.not (.tru (.bcall .isinstance [(.var 0),(.ty .tuple)]))) [.ret (.bl false)] [],.for (.items (.var 0)) (.nm 1) f8,.ret (.call "is_rising" 1 [(.frz (.comp (.tup [(.var 0),(.var 1)]) (.items (.var 0)) [] [] (.tp [(.nm 0),(.nm 1),(.nm 2)]) 3))])]
def fT:List D3.S:=[.ite (.orL [(.not (.tru (.bcall .isinstance [(.var 0),(.ty .tuple)]))),(.cmp .NotEq (.bcall .len [(.var 0)]) (.int 3))]) [.ret (.bl false)] [],.asg (.tp [(.nm 1),(.nm 2),(.nm 3)]) (.var 0),.ite (.orL [(.not (.tru (.call "is_whole" 1 [(.var 3)]))),(.cmp .Lt (.var 3) (.int 1))]) [.ret (.bl false)] [],.ret (.andL [(.call "is_facts" 1 [(.var 1)]),(.call "is_bars" 1 [(.var 2)])])]
def hZ:List D3.S:=[.ite (.orL [(.not (.tru (.bcall .isinstance [(.var 0),(.ty .tuple)]))),(.not (.tru (.bcall .all [(.comp (.call "is_name" 1 [(.var 0)]) (.items (.var 0)) [] [] (.nm 0) 1)])))]) [.ret (.bl false)] [],.ret (.cmp .Eq (.tcall .list [(.var 0)]) (.srtw (.var 0)))]
def iQ:List D3.S:=[.ite (.not (.tru (.bcall .isinstance [(.var 0),(.ty .tuple)]))) [.ret (.bl false)] [],.for (.items (.var 0)) (.nm 1) hX,.ret (.call "is_rising" 1 [(.var 0)])]
def aMQ:List D3.S:=[.never,.never,.never,.never]
def mO:List D3.S:=[.ite (.cmp .Lt (.var 1) (.bcall .len [(.var 0)])) [.ret (.ix (.var 0) (.var 1))] [],.ret (.int 0)]
def o4:List D3.S:=[.set 2 (.str "abcdefghijklmnopqrstuvwxyz"),.set 3 (.frz (.bin .Add (.var 2) (.str "0123456789"))),.set 4 (.frz (.bin .Add (.int 1) (.bin .Mod (.var 0) (.int 5)))),.set 5 (.frz (.bin .Mod (.bin .FloorDiv (.var 0) (.int 5)) (.var 4))),.set 6 (.lst []),.for (.rng1 (.var 1)) (.nm 7) iP,.retV 6]
def o5:List D3.S:=[.set 1 .nnew,.for (.items (.var 0)) (.tp [(.nm 2),(.nm 3),(.nm 4)]) kJ,.nfrz 1,.ret (.tcall .tuple [(.srtw (.comp (.tup [(.ix (.var 1) (.int 0)),(.ix (.var 1) (.int 1)),(.nix (.var 0) (.var 1))]) (.nkeys (.var 1)) [] [1] (.nm 1) 1))])]
def fU:List D3.S:=[.set 2 (.tup [(.tup [(.ix (.var 1) (.bin .Mod (.var 0) (.int 4)))]),(.tup []),(.frz (.bin .Add (.int 1) (.bin .Mod (.bin .FloorDiv (.var 0) (.int 4)) (.int 3))))]),.ite (.cmp .Eq (.bin .Mod (.bin .FloorDiv (.var 0) (.int 12)) (.int 4)) (.int 0)) [.ret (.tup [(.var 2)])] [],.ite (.cmp .Eq (.bin .Mod (.bin .FloorDiv (.var 0) (.int 12)) (.int 4)) (.int 1)) [.ret (.call "_law_normal" 1 [(.frz (.lst [(.var 2),(.tup [(.tup [(.ix (.var 1) (.bin .Mod (.bin .FloorDiv (.var 0) (.int 48)) (.int 4))),(.ix (.var 1) (.bin .Mod (.bin .FloorDiv (.var 0) (.int 192)) (.int 4)))]),(.tup []),(.int 1)])]))])] [],.ite (.cmp .Eq (.bin .Mod (.bin .FloorDiv (.var 0) (.int 12)) (.int 4)) (.int 2)) [.ret (.tup [(.tup [(.tup []),(.tup []),(.frz (.bin .Add (.int 1) (.bin .Mod (.bin .FloorDiv (.var 0) (.int 48)) (.int 3))))])])] [],.ret (.tup [(.tup [(.ix (.var 2) (.int 0)),(.tup [(.tup [(.tup [(.tup [(.ix (.var 1) (.bin .Mod (.bin .FloorDiv (.var 0) (.int 48)) (.int 4)))]),(.tup []),(.int 1)])])]),(.ix (.var 2) (.int 2))])])]
def bS:List D3.S:=[.setC 2 true (.comp (.ix (.var 0) (.bin .Mod (.bin .FloorDiv (.var 1) (.ix (.lst [(.int 1),(.int 4),(.int 16)]) (.var 2))) (.int 4))) (.rng1 (.bin .Mod (.bin .FloorDiv (.var 0) (.int 64)) (.int 4))) [] [1,0] (.nm 2) 1),.set 3 (.tup []),.ite (.cmp .Eq (.bin .Mod (.bin .FloorDiv (.var 0) (.int 256)) (.int 3)) (.int 1)) [.set 3 (.tup [(.frz (.call "_law_bar" 2 [(.frz (.bin .FloorDiv (.var 0) (.int 768))),(.var 1)]))])] [],.ite (.cmp .Eq (.bin .Mod (.bin .FloorDiv (.var 0) (.int 256)) (.int 3)) (.int 2)) [.set 3 (.frz (.tcall .tuple [(.us2 (.lst [(.frz (.call "_law_bar" 2 [(.frz (.bin .FloorDiv (.var 0) (.int 768))),(.var 1)])),(.frz (.call "_law_bar" 2 [(.frz (.bin .FloorDiv (.var 0) (.int 9216))),(.var 1)]))]))]))] [],.set 4 (.frz (.bin .Add (.int 1) (.bin .Mod (.bin .FloorDiv (.var 0) (.int 768)) (.int 3)))),.ite (.cmp .Eq (.bin .Mod (.var 0) (.int 5)) (.int 2)) [.set 4 (.frz (.bin .Add (.int 1) (.bin .Mod (.bin .FloorDiv (.var 0) (.int 7)) (.bin .Pow (.int 10) (.int 40)))))] [],.ret (.tup [(.frz (.tcall .tuple [(.srtw (.var 2))])),(.var 3),(.var 4)])]
def o7:List D3.S:=[.ret (.call "_law_normal" 1 [(.frz (.comp (.call "_law_term" 2 [(.var 1),(.var 0)]) (.items (.var 0)) [] [1] (.nm 1) 1))])]
def dC:List D3.S:=[.ite (.cmp .Is (.var 1) .non) [.ret (.cmp .Is (.var 0) .non)] [],.ite (.tru (.bcall .isinstance [(.var 1),(.ty .bool)])) [.ret (.andL [(.bcall .isinstance [(.var 0),(.ty .bool)]),(.cmp .Eq (.var 0) (.var 1))])] [],.ite (.tru (.bcall .isinstance [(.var 1),(.ty .int)])) [.ret (.andL [(.bcall .isinstance [(.var 0),(.ty .int)]),(.not (.bcall .isinstance [(.var 0),(.ty .bool)])),(.cmp .Eq (.var 0) (.var 1))])] [],.ite (.tru (.bcall .isinstance [(.var 1),(.ty .str)])) [.ret (.andL [(.bcall .isinstance [(.var 0),(.ty .str)]),(.cmp .Eq (.var 0) (.var 1))])] [],.ite (.tru (.bcall .isinstance [(.var 1),(.ty .tuple)])) [.ite (.orL [(.not (.tru (.bcall .isinstance [(.var 0),(.ty .tuple)]))),(.cmp .NotEq (.bcall .len [(.var 0)]) (.bcall .len [(.var 1)]))]) [.ret (.bl false)] []] [.ite (.orL [(.not (.tru (.bcall .isinstance [(.var 0),(.ty .list)]))),(.cmp .NotEq (.bcall .len [(.var 0)]) (.bcall .len [(.var 1)]))]) [.ret (.bl false)] []],.for (.rng1 (.bcall .len [(.var 1)])) (.nm 2) mN,.ret (.bl true)]
def cU:List D3.S:=[.set 3 (.bst false (.var 2)),.set 4 (.bst true (.var 2)),.set 5 (.tup [(.tup [(.tup [(.var 3)]),(.tup []),(.int 1)])]),.set 6 (.tup [(.tup [(.tup [(.var 4)]),(.tup []),(.int 1)])]),.ite (.cmp .Eq (.var 0) (.int 5)) [.ret (.ix (.lst [(.tup [(.tup [])]),(.tup [(.tup []),(.var 5)]),(.tup [(.var 5),(.tup [])])]) (.bin .Mod (.var 1) (.int 3)))] [],.ite (.cmp .Eq (.var 0) (.int 6)) [.ret (.tup [(.var 5),(.var 5)])] [],.ite (.cmp .Eq (.var 0) (.int 7)) [.ret (.tup [(.var 6),(.var 5)])] [],.ite (.cmp .Eq (.var 0) (.int 9)) [.ret (.lst [(.var 5)])] [],.ret (.ix (.lst [(.tup [(.tup [(.tup [(.tup [(.var 3)]),(.tup []),(.int 0)])])]),(.tup [(.tup [(.tup [(.tup [(.var 4),(.var 3)]),(.tup []),(.int 1)])])]),(.tup [(.tup [(.tup [(.tup [(.var 3)]),(.tup []),(.int 1)]),(.tup [(.tup [(.var 3)]),(.tup []),(.int 2)])])]),(.tup [(.str "a")])]) (.bin .Mod (.var 1) (.int 4)))]
def cV:List D3.S:=[.asg (.tp [(.nm 4),(.nm 5),(.nm 6)]) (.var 0),.ite (.cmp .Lt (.var 1) (.int 3)) [.ret (.tup [(.var 4),(.var 5),(.ix (.lst [(.int 0),(.ix (.lst [(.bl true),.non,(.str "1")]) (.bin .Mod (.var 2) (.int 3))),(.frz (.bin .Sub (.bin .Sub (.int 0) (.int 1)) (.bin .Mod (.var 2) (.int 9))))]) (.var 1))])] [],.ite (.cmp .Eq (.var 1) (.int 3)) [.set 7 (.ix (.lst [(.str "A"),(.str ""),(.int 7),.non,(.tup [(.str "a")]),(.str "a_"),(.str "0a")]) (.bin .Mod (.var 2) (.int 7))),.ret (.tup [(.ix (.lst [(.frz (.bin .Add (.var 4) (.tup [(.var 7)]))),(.frz (.bin .Add (.tup [(.var 7)]) (.var 4))),(.tup [(.bst false (.var 3)),(.var 7),(.bst true (.var 3))])]) (.bin .Mod (.bin .FloorDiv (.var 2) (.int 7)) (.int 3))),(.var 5),(.var 6)])] [],.ite (.cmp .Eq (.var 1) (.int 4)) [.asg (.tp [(.nm 8),(.nm 9),(.nm 10),(.nm 11)]) (.srtw (.var 3)),.ret (.tup [(.ix (.lst [(.tup [(.var 11),(.var 8)]),(.tup [(.var 8),(.var 11),(.var 9)])]) (.bin .Mod (.var 2) (.int 2))),(.var 5),(.var 6)])] [],.ite (.cmp .Eq (.var 1) (.int 8)) [.ret (.tup [(.frz (.tcall .list [(.var 4)])),(.var 5),(.var 6)])] [],.ite (.cmp .Eq (.var 1) (.int 10)) [.ret (.tup [(.var 4),(.var 5)])] [],.ite (.cmp .Eq (.var 1) (.int 14)) [.ret (.lst [(.var 4),(.var 5),(.var 6)])] [],.ret (.tup [(.var 4),(.frz (.call "_law_spoiled_bars" 3 [(.var 1),(.var 2),(.var 3)])),(.var 6)])]
def dZ:List D3.S:=[.set 5 (.frz (.tcall .list [(.var 0)])),.ite (.cmp .Eq (.var 2) (.int 11)) [.retV 5] [],.ite (.andL [(.cmp .Eq (.var 2) (.int 13)),(.cmp .Gt (.bcall .len [(.var 5)]) (.int 1))]) [.set 1 (.frz (.bin .Mod (.var 1) (.bin .Sub (.bcall .len [(.var 5)]) (.int 1)))),.ret (.tcall .tuple [(.bin .Add (.bin .Add (.slice (.var 5) none (some (.var 1))) (.lst [(.ix (.var 5) (.bin .Add (.var 1) (.int 1))),(.ix (.var 5) (.var 1))])) (.slice (.var 5) (some (.bin .Add (.var 1) (.int 2))) none))])] [],.ite (.orL [(.cmp .Eq (.var 2) (.int 12)),(.cmp .Eq (.var 2) (.int 13))]) [.set 6 (.ix (.var 5) (.var 1)),.set 7 (.tup [(.ix (.var 6) (.int 0)),(.ix (.var 6) (.int 1)),(.ix (.lst [(.ix (.var 6) (.int 2)),(.frz (.bin .Add (.ix (.var 6) (.int 2)) (.int 1))),(.int 1)]) (.bin .Mod (.var 3) (.int 3)))]),.ret (.tcall .tuple [(.bin .Add (.bin .Add (.slice (.var 5) none (some (.var 1))) (.lst [(.var 6),(.var 7)])) (.slice (.var 5) (some (.bin .Add (.var 1) (.int 1))) none))])] [],.ret (.tcall .tuple [(.bin .Add (.bin .Add (.slice (.var 5) none (some (.var 1))) (.lst [(.frz (.call "_law_spoiled_term" 4 [(.ix (.var 5) (.var 1)),(.var 2),(.var 3),(.var 4)]))])) (.slice (.var 5) (some (.bin .Add (.var 1) (.int 1))) none))])]
def bZ:List D3.S:=[.set 1 (.frz (.call "_law_names" 2 [(.frz (.call "_law_cell_at" 2 [(.var 0),(.int 0)])),(.int 4)])),.set 2 (.frz (.bin .Mod (.call "_law_cell_at" 2 [(.var 0),(.int 1)]) (.int 16))),.set 3 (.frz (.call "_law_cell_at" 2 [(.var 0),(.int 2)])),.set 4 (.frz (.mk0 "Reasons")),.set 5 (.frz (.call "_law_reason" 2 [(.frz (.slice (.var 0) (some (.int 3)) (some (.int 62)))),(.var 1)])),.ite (.orL [(.not (.tru (.call "_law_alike" 2 [(.frz (.meth (.var 4) "holds" [(.var 5)])),(.bl true)]))),(.not (.tru (.call "_law_alike" 2 [(.frz (.meth (.var 4) "holds" [(.tup [])])),(.bl true)])))]) [.ret (.bl false)] [],.set 6 (.frz (.call "_law_reason" 2 [(.frz (.bin .Add (.tcall .list [(.slice (.var 0) (some (.int 3)) (some (.int 62)))]) (.lst [(.var 3)]))),(.var 1)])),.set 7 (.frz (.call "_law_spoiled" 5 [(.var 6),(.frz (.bin .Mod (.bin .FloorDiv (.var 3) (.int 21)) (.bcall .len [(.var 6)]))),(.var 2),(.var 3),(.var 1)])),.set 8 (.ix (.lst [.non,(.int 0),(.int 1),(.bl true),(.str "a"),(.str ""),(.frz (.lst [])),(.frz .dnew),(.tup [(.str "a")]),(.tup [(.tup [(.tup []),(.tup []),(.int 1)]),(.int 5)])]) (.bin .Mod (.var 3) (.int 10))),.ite (.orL [(.not (.tru (.call "_law_alike" 2 [(.frz (.meth (.var 4) "holds" [(.var 7)])),(.bl false)]))),(.not (.tru (.call "_law_alike" 2 [(.frz (.meth (.var 4) "holds" [(.var 8)])),(.bl false)])))]) [.ret (.bl false)] [],.set 9 (.frz (.meth (.var 4) "lack" [(.var 6)])),.ite (.orL [(.not (.tru (.call "_law_alike" 2 [(.var 9),(.tup [(.tup [(.tup []),(.tup [(.var 6)]),(.int 1)])])]))),(.not (.tru (.call "_law_alike" 2 [(.frz (.meth (.var 4) "lack" [(.tup [])])),(.tup [(.tup [(.tup []),(.tup []),(.int 1)])])])))]) [.ret (.bl false)] [],.ret (.andL [(.call "_law_alike" 2 [(.frz (.meth (.var 4) "holds" [(.var 9)])),(.bl true)]),(.call "_law_alike" 2 [(.frz (.meth (.var 4) "holds" [(.frz (.meth (.var 4) "one" []))])),(.bl true)])])]
def aMR:List D3.S:=[.ite (.cmp .Eq (.var 1) (.meth (.var 0) "nought" [])) [.ret (.meth (.var 0) "one" [])] [],.ret (.meth (.var 0) "nought" [])]
def aMS:List D3.S:=[.ret (.tup [])]
def o8:List D3.S:=[.ret (.tup [(.tup [(.tup []),(.tup []),(.int 1)])])]
def kK:List D3.S:=[.ite (.cmp .Eq (.var 1) (.tup [])) [.ret (.meth (.var 0) "one" [])] [],.ret (.tup [(.tup [(.tup []),(.tup [(.var 1)]),(.int 1)])])]
def o9:List D3.S:=[.ret (.call "is_reason" 1 [(.var 1)])]
def zN:FD:=⟨["thing"],["thing"],oY⟩
def zO:FD:=⟨["thing"],["thing"],jG⟩
def zP:FD:=⟨["sign"],["sign"],oZ⟩
def zQ:FD:=⟨["things"],["things"],o3⟩
def aMT:FD:=⟨["terms"],["terms", "found", "facts", "bars", "times"],aMN⟩
def aMU:FD:=⟨["one", "other"],["one", "other"],aMO⟩
def aMV:FD:=⟨["one", "other"],["one", "other", "found", "bar"],aMP⟩
def zR:FD:=⟨["thing"],["thing", "term"],gN⟩
def zT:FD:=⟨["thing"],["thing", "facts", "bars", "times"],fT⟩
def zU:FD:=⟨["thing"],["thing"],hZ⟩
def zV:FD:=⟨["thing"],["thing", "bar"],iQ⟩
def aMW:FD:=⟨["reason"],["reason", "texts", "facts", "bars", "times", "factors", "bar"],aMQ⟩
def zW:FD:=⟨["_law_script", "_law_k"],["_law_script", "_law_k"],mO⟩
def zX:FD:=⟨["_law_cell", "_law_many"],["_law_cell", "_law_many", "_law_letters", "_law_signs", "_law_size", "_law_at", "_law_names_here", "_law_k", "_law_name", "_law_j", "_law_drift"],o4⟩
def zY:FD:=⟨["_law_terms"],["_law_terms", "_law_known", "_law_facts", "_law_bars", "_law_times", "_law_key"],o5⟩
def zZ:FD:=⟨["_law_cell", "_law_names_here"],["_law_cell", "_law_names_here", "_law_one"],fU⟩
def z5:FD:=⟨["_law_cell", "_law_names_here"],["_law_cell", "_law_names_here", "_law_facts", "_law_bars", "_law_times"],bS⟩
def z6:FD:=⟨["_law_cells", "_law_names_here"],["_law_cells", "_law_names_here"],o7⟩
def z7:FD:=⟨["_law_found", "_law_due"],["_law_found", "_law_due", "_law_k"],dC⟩
def z8:FD:=⟨["_law_way", "_law_cell", "_law_names_here"],["_law_way", "_law_cell", "_law_names_here", "_law_low", "_law_high", "_law_one", "_law_two"],cU⟩
def z9:FD:=⟨["_law_term_here", "_law_way", "_law_cell", "_law_names_here"],["_law_term_here", "_law_way", "_law_cell", "_law_names_here", "_law_facts", "_law_bars", "_law_times", "_law_bad", "_law_p", "_law_q", "_law_r", "_law_s"],cV⟩
def aAA:FD:=⟨["_law_reason_here", "_law_at", "_law_way", "_law_cell", "_law_names_here"],["_law_reason_here", "_law_at", "_law_way", "_law_cell", "_law_names_here", "_law_some", "_law_term_here", "_law_again"],dZ⟩
def sX:FD:=⟨["_law_script"],["_law_script", "_law_names_here", "_law_way", "_law_cell", "_law_kind", "_law_reason_here", "_law_some", "_law_bad", "_law_odd", "_law_lack"],bZ⟩
def aMX:FD:=⟨["self", "a"],["self", "a"],aMR⟩
def aMY:FD:=⟨["self"],["self"],aMS⟩
def aAB:FD:=⟨["self"],["self"],o8⟩
def aAC:FD:=⟨["self", "a"],["self", "a"],kK⟩
def aAD:FD:=⟨["self", "thing"],["self", "thing"],o9⟩
def aMZ:CI:=⟨"Kind", ["Kind"],[],[("lack", "Kind.lack", 2)]⟩
def aM0:CI:=⟨"Reasons", ["Reasons", "Kind"],[],[("nought", "Reasons.nought", 1),("one", "Reasons.one", 1),("lack", "Reasons.lack", 2),("holds", "Reasons.holds", 2)]⟩
def T:List (Str×FD):=[(("is_whole" : Str),zN),(("is_name" : Str),zO),(("is_name_sign" : Str),zP),(("is_rising" : Str),zQ),(("reason_of" : Str),aMT),(("term_of_both" : Str),aMU),(("bars_of_both" : Str),aMV),(("is_reason" : Str),zR),(("is_term" : Str),zT),(("is_facts" : Str),zU),(("is_bars" : Str),zV),(("shown_reason" : Str),aMW),(("_law_cell_at" : Str),zW),(("_law_names" : Str),zX),(("_law_normal" : Str),zY),(("_law_bar" : Str),zZ),(("_law_term" : Str),z5),(("_law_reason" : Str),z6),(("_law_alike" : Str),z7),(("_law_spoiled_bars" : Str),z8),(("_law_spoiled_term" : Str),z9),(("_law_spoiled" : Str),aAA),(("law" : Str),sX),(("Kind.lack" : Str),aMX),(("Reasons.nought" : Str),aMY),(("Reasons.one" : Str),aAB),(("Reasons.lack" : Str),aAC),(("Reasons.holds" : Str),aAD)]
def TT:TB:=⟨T,[],[aMZ,aM0],[],[]⟩
def GG:MG:=⟨[(("FIGURES" : Str),(GV.con (.s "0123456789"))),(("LETTERS" : Str),(GV.con (.s "abcdefghijklmnopqrstuvwxyz"))),(("LONGEST" : Str),(GV.con (.i 40))),(("Reasons" : Str),(GV.cls)),(("_law_alike" : Str),(GV.fn 2)),(("_law_bar" : Str),(GV.fn 2)),(("_law_cell_at" : Str),(GV.fn 2)),(("_law_names" : Str),(GV.fn 2)),(("_law_normal" : Str),(GV.fn 1)),(("_law_reason" : Str),(GV.fn 2)),(("_law_spoiled" : Str),(GV.fn 5)),(("_law_spoiled_bars" : Str),(GV.fn 3)),(("_law_spoiled_term" : Str),(GV.fn 4)),(("_law_term" : Str),(GV.fn 2)),(("all" : Str),(GV.no)),(("bool" : Str),(GV.no)),(("int" : Str),(GV.no)),(("is_bars" : Str),(GV.fn 1)),(("is_facts" : Str),(GV.fn 1)),(("is_name" : Str),(GV.fn 1)),(("is_name_sign" : Str),(GV.fn 1)),(("is_reason" : Str),(GV.fn 1)),(("is_rising" : Str),(GV.fn 1)),(("is_term" : Str),(GV.fn 1)),(("is_whole" : Str),(GV.fn 1)),(("isinstance" : Str),(GV.no)),(("len" : Str),(GV.no)),(("list" : Str),(GV.no)),(("max" : Str),(GV.no)),(("min" : Str),(GV.no)),(("range" : Str),(GV.no)),(("set" : Str),(GV.no)),(("sorted" : Str),(GV.no)),(("str" : Str),(GV.no)),(("tuple" : Str),(GV.no))],["Reasons"],[],[],[],[]⟩
def top(i:Nat):Stmt:=PySem.Challenge.pw_whencewise_k23_lacks_and_holds.main.body.getD i (.Pass ⟨0,0,0,0⟩)
abbrev sY:Stmt:=top 31
theorem aM1(k:Nat):(WT TT (k+1)).Φ "is_whole" = phi 1 1 (evB (WT TT k) oY):=cE (d:=zN) rfl
theorem aAE(k:Nat):(WT TT (k+1)).Φ "is_name" = phi 1 1 (evB (WT TT k) jG):=cE (d:=zO) rfl
theorem aM2(k:Nat):(WT TT (k+1)).Φ "is_name_sign" = phi 1 1 (evB (WT TT k) oZ):=cE (d:=zP) rfl
theorem aM3(k:Nat):(WT TT (k+1)).Φ "is_rising" = phi 1 1 (evB (WT TT k) o3):=cE (d:=zQ) rfl
theorem pA(k:Nat):(WT TT (k+1)).Φ "is_reason" = phi 1 2 (evB (WT TT k) gN):=cE (d:=zR) rfl
theorem mP(k:Nat):(WT TT (k+1)).Φ "is_term" = phi 1 4 (evB (WT TT k) fT):=cE (d:=zT) rfl
theorem sZ(k:Nat):(WT TT (k+1)).Φ "is_facts" = phi 1 1 (evB (WT TT k) hZ):=cE (d:=zU) rfl
theorem tB(k:Nat):(WT TT (k+1)).Φ "is_bars" = phi 1 2 (evB (WT TT k) iQ):=cE (d:=zV) rfl
theorem aM4(k:Nat):(WT TT (k+1)).Φ "_law_cell_at" = phi 2 2 (evB (WT TT k) mO):=cE (d:=zW) rfl
theorem aM5(k:Nat):(WT TT (k+1)).Φ "_law_names" = phi 2 11 (evB (WT TT k) o4):=cE (d:=zX) rfl
theorem aM6(k:Nat):(WT TT (k+1)).Φ "_law_normal" = phi 1 6 (evB (WT TT k) o5):=cE (d:=zY) rfl
theorem aAF(k:Nat):(WT TT (k+1)).Φ "_law_bar" = phi 2 3 (evB (WT TT k) fU):=cE (d:=zZ) rfl
theorem aAG(k:Nat):(WT TT (k+1)).Φ "_law_term" = phi 2 5 (evB (WT TT k) bS):=cE (d:=z5) rfl
theorem aM7(k:Nat):(WT TT (k+1)).Φ "_law_reason" = phi 2 2 (evB (WT TT k) o7):=cE (d:=z6) rfl
theorem pB(k:Nat):(WT TT (k+1)).Φ "_law_alike" = phi 2 3 (evB (WT TT k) dC):=cE (d:=z7) rfl
theorem aM8(k:Nat):(WT TT (k+1)).Φ "_law_spoiled_bars" = phi 3 7 (evB (WT TT k) cU):=cE (d:=z8) rfl
theorem aM9(k:Nat):(WT TT (k+1)).Φ "_law_spoiled_term" = phi 4 12 (evB (WT TT k) cV):=cE (d:=z9) rfl
theorem aNA(k:Nat):(WT TT (k+1)).Φ "_law_spoiled" = phi 5 8 (evB (WT TT k) dZ):=cE (d:=aAA) rfl
theorem u_law(k:Nat):(WT TT (k+1)).Φ "law" = phi 1 10 (evB (WT TT k) bZ):=cE (d:=sX) rfl
theorem aNB(k:Nat):(WT TT (k+1)).Φ "Reasons.one" = phi 1 1 (evB (WT TT k) o8):=cE (d:=aAB) rfl
theorem aAH(k:Nat):(WT TT (k+1)).Φ "Reasons.lack" = phi 2 2 (evB (WT TT k) kK):=cE (d:=aAC) rfl
theorem aNC(k:Nat):(WT TT (k+1)).Φ "Reasons.holds" = phi 2 2 (evB (WT TT k) o9):=cE (d:=aAD) rfl
theorem aND:CI.meth TT.cl "Reasons" "one" = some (("Reasons.one" : Str),1):=rfl
theorem aNE{Φ:Str->List D->Res}{as:a6}:fA TT.cl Φ "one" (.ok .fz (.ins "Reasons" [])) as=bE 1 (Φ "Reasons.one") (cG (.ok .fz (.ins "Reasons" [])) as):=sR aND rfl
theorem aNF:CI.meth TT.cl "Reasons" "lack" = some (("Reasons.lack" : Str),2):=rfl
theorem aAI{Φ:Str->List D->Res}{as:a6}:fA TT.cl Φ "lack" (.ok .fz (.ins "Reasons" [])) as=bE 2 (Φ "Reasons.lack") (cG (.ok .fz (.ins "Reasons" [])) as):=sR aNF rfl
theorem aNG:CI.meth TT.cl "Reasons" "holds" = some (("Reasons.holds" : Str),2):=rfl
theorem aNH{Φ:Str->List D->Res}{as:a6}:fA TT.cl Φ "holds" (.ok .fz (.ins "Reasons" [])) as=bE 2 (Φ "Reasons.holds") (cG (.ok .fz (.ins "Reasons" [])) as):=sR aNG rfl
end K23
namespace K23
open PySem PySem.Spec PyProof.Rows L2 D3
abbrev Ky:=N×N
abbrev Tr:=Ky×Int
def kyN(k:Ky):N:=.t [k.1,k.2]
def tmN(t:Tr):N:=.t [t.1.1,t.1.2,.i t.2]
def kl(a b:Ky):Bool:=ltN (kyN a) (kyN b)
theorem tE{a b:Ky}(h:kyN a=kyN b):a=b:=by unfold kyN at h;simp only[N.t.injEq,aRQ,and_true] at h;exact aRA h.1 h.2
theorem aAJ{a b:Tr}(h:tmN a=tmN b):a=b:=by unfold tmN at h;simp only[N.t.injEq,aRQ,and_true,N.i.injEq] at h;exact aRA (aRA h.1 h.2.1) h.2.2
theorem tF(a:Ky):kl a a=false:=iN _
theorem aAK{a b:Ky}(h1:kl a b=false)(h2:kl b a=false):a=b:=tE (oJ _ _ h1 h2)
theorem tI{a b:Tr}(h:a.1≠b.1):ltN (tmN a) (tmN b)=kl a.1 b.1:=by
 unfold kl kyN tmN;simp only[ltN,bK];by_cases e1:a.1.1=b.1.1
 . rw[if_pos e1,if_pos e1];by_cases e2:a.1.2=b.1.2
   . exact absurd (aRA e1 e2) h
   . rw[if_neg e2,if_neg e2]
 . rw[if_neg e1,if_neg e1]
def cJ(p:List Tr)(k:Ky):Int:=match p with
 | []=>0
 | t::r=>(if t.1=k then t.2 else 0)+cJ r k
def Has(p:List Tr)(k:Ky):Prop:=∃ t∈p,t.1=k
theorem kL:∀ (p:List Tr) (t:Tr) (k:Ky),cJ (p++[t]) k=cJ p k+if t.1=k then t.2 else 0
 | [],t,k=>by simp[cJ]
 | a::p,t,k=>by show (if a.1=k then a.2 else 0)+cJ (p++[t]) k=(if a.1=k then a.2 else 0)+cJ p k+_;rw[kL p t k,Int.add_assoc]
theorem aNI{p q:List Tr}(h:p.Perm q)(k:Ky):cJ p k=cJ q k:=by
 induction h with
 | nil=>rfl
 | cons x _ ih=>show _+cJ _ k=_+cJ _ k;rw[ih]
 | swap x y l=>show _+(_+cJ l k)=_+(_+cJ l k);omega
 | trans _ _ ih1 ih2=>rw[ih1,ih2]
theorem aNJ{p q:List Tr}(h:p.Perm q)(k:Ky):Has p k↔Has q k:=⟨λ⟨t,m,e⟩=>⟨t,h.mem_iff.mp m,e⟩,λ⟨t,m,e⟩=>⟨t,h.mem_iff.mpr m,e⟩⟩
theorem mQ:∀ {p:List Tr} {k:Ky},¬ Has p k->cJ p k=0
 | [],k,_=>rfl
 | t::p,k,h=>by have h1:¬ t.1=k:=λe=>h ⟨t,mcs,e⟩;have h2:¬ Has p k:=λ⟨u,m,e⟩=>h ⟨u,mcm m,e⟩;show (if t.1=k then t.2 else 0)+cJ p k=0;rw[if_neg h1,mQ h2];rfl
theorem mR{p:List Tr}{t:Tr}{k:Ky}:Has (p++[t]) k↔Has p k\/t.1=k:=by
 constructor
 . rintro ⟨u,m,e⟩;rcases aPZ.mp m with m | m
   . exact .inl ⟨u,m,e⟩
   . cases aSV.mp m;exact .inr e
 . rintro (⟨u,m,e⟩ | e)
   . exact ⟨u,aP0 _ m,e⟩
   . exact ⟨t,aQF _ (aSV.mpr rfl),e⟩
def f9(p L:List Tr):Prop:=∀ k n,(k,n)∈L↔Has p k/\n=cJ p k
def cQ(acc:List Tr)(t:Tr):List Tr:=if (acc.any λa=>decide (a.1=t.1))=true then acc.map (λa=>if a.1=t.1 then (a.1,a.2+t.2) else a) else acc++[t]
theorem kM{acc:List Tr}{k:Ky}:(acc.any λa=>decide (a.1=k))=true↔Has acc k:=by
 rw[List.any_eq_true];constructor
 . rintro ⟨a,m,e⟩;exact ⟨a,m,aR3 e⟩
 . rintro ⟨a,m,e⟩;exact ⟨a,m,aRO e⟩
theorem pC{p L:List Tr}(h:f9 p L)(k:Ky):Has L k↔Has p k:=by
 constructor
 . rintro ⟨⟨k',n⟩,m,rfl⟩;exact ((h k' n).mp m).1
 . intro q;exact ⟨(k,cJ p k),(h k _).mpr ⟨q,rfl⟩,rfl⟩
theorem aAL(acc:List Tr)(t:Tr):(cQ acc t).map (·.1)=if (acc.any λa=>decide (a.1=t.1))=true then acc.map (·.1) else acc.map (·.1)++[t.1]:=by
 unfold cQ;split
 . rw[aT6];refine aUH λa _=>?_;show (if a.1=t.1 then (a.1,a.2+t.2) else a).1=a.1;split <;> rfl
 . rw[aUM];rfl
theorem aNK{p acc:List Tr}(t:Tr)(h:f9 p acc)(nd:(acc.map (·.1)).Nodup):f9 (p++[t]) (cQ acc t)/\((cQ acc t).map (·.1)).Nodup:=by
 refine ⟨λk n=>?_,?_⟩
 . unfold cQ;by_cases q:(acc.any λa=>decide (a.1=t.1))=true
   . rw[if_pos q];have hp:Has p t.1:=(pC h _).mp (kM.mp q);rw[mR,kL];constructor
     . intro m;obtain ⟨⟨k',n'⟩,m',e⟩:=aUF.mp m;have hh:=(h k' n').mp m';dsimp only at e;split at e
       . rename_i ek;cases e;rw[if_pos ek.symm];exact ⟨.inl hh.1,by rw[hh.2]⟩
       . rename_i ek;cases e;rw[if_neg (λz=>ek z.symm)];exact ⟨.inl hh.1,by rw[hh.2];omega⟩
     . rintro ⟨m,rfl⟩;have hk:Has p k:=by
         rcases m with m | m
         . exact m
         . rw[<- m];exact hp
       have m':=(h k _).mpr ⟨hk,rfl⟩;refine aUF.mpr ⟨(k,cJ p k),m',?_⟩;dsimp only;by_cases ek:k=t.1
       . rw[if_pos ek,if_pos ek.symm]
       . rw[if_neg ek,if_neg (λz=>ek z.symm),aUN]
   . rw[if_neg q];have hp:¬ Has p t.1:=λz=>q (kM.mpr ((pC h _).mpr z));rw[mR,kL,aPZ,aSV,h k n];by_cases ek:t.1=k
     . subst ek;rw[if_pos rfl,mQ hp,aUO];constructor
       . rintro (z | z)
         . exact absurd z.1 hp
         . exact ⟨.inr rfl,by rw[<- z]⟩
       . rintro ⟨_,rfl⟩;exact .inr rfl
     . rw[if_neg ek,aUN];constructor
       . rintro (z | z)
         . exact ⟨.inl z.1,z.2⟩
         . exact absurd (by rw[<- z]) ek
       . rintro ⟨z | z,e⟩
         . exact .inl ⟨z,e⟩
         . exact absurd z ek
 . rw[aAL];split
   . exact nd
   . rename_i q;refine List.nodup_append.mpr ⟨nd,aT2 _ _,λa ha b hb e=>?_⟩;cases aSV.mp hb;obtain ⟨u,mu,rfl⟩:=aUF.mp ha;exact q (kM.mpr ⟨u,mu,e⟩)
theorem aAM:∀ (r p acc:List Tr),f9 p acc->(acc.map (·.1)).Nodup->f9 (p++r) (r.foldl cQ acc)/\((r.foldl cQ acc).map (·.1)).Nodup
 | [],p,acc,h,nd=>by rw[aQQ];exact ⟨h,nd⟩
 | t::r,p,acc,h,nd=>by obtain ⟨h1,n1⟩:=aNK t h nd;have:=aAM r (p++[t]) _ h1 n1;rw[aS6] at this;exact this
def bD(ts:List Tr):List Tr:=ts.foldl cQ []
theorem aAN:f9 [] []:=λk n=>Iff.intro (λh=>by cases h) (λh=>by obtain ⟨⟨t,m,_⟩,_⟩:=h;cases m)
theorem gO(ts:List Tr):f9 ts (bD ts)/\((bD ts).map (·.1)).Nodup:=by have:=aAM ts [] [] aAN List.nodup_nil;rw[aTY] at this;exact this
def iR(rf:List Tr)(t:Tr):List Tr:=match rf with
 | []=>[t]
 | l::r=>if l.1=t.1 then (t.1,l.2+t.2)::r else t::l::r
def pD(rf:List Tr):Prop:=rf.Pairwise λa b=>kl b.1 a.1=true
theorem aNL{p rf:List Tr}(t:Tr)(h:f9 p rf)(d:pD rf)(le:∀ x∈p,ltN (tmN t) (tmN x)=false):f9 (p++[t]) (iR rf t)/\pD (iR rf t):=by
 cases rf with
 | nil =>
  have hp:∀ k,¬ Has p k:=λk z=>nomatch (h k _).mpr ⟨z,rfl⟩;refine ⟨λk n=>?_,aT2 _ _⟩;rw[mR,kL,mQ (hp k),aUO];show (k,n)∈[t]↔_;rw[aSV];constructor
  . intro e;rw[<- e];exact ⟨.inr rfl,by rw[if_pos rfl]⟩
  . rintro ⟨z | z,e⟩
    . exact absurd z (hp k)
    . rw[if_pos z] at e;rw[e,<- z]
 | cons l r =>
  have hl:(l.1,l.2)∈l::r:=mcs;have hl:=(h l.1 l.2).mp hl;have dl:=(aTW.mp d).1;have nr:∀ n,(l.1,n)∉r:=λn m=>by have:=dl _ m;rw[tF] at this;cases this
  unfold iR;dsimp only;by_cases e:l.1=t.1
  . rw[if_pos e];refine ⟨λk n=>?_,aTW.mpr ⟨λa ha=>by rw[<- e];exact dl a ha,(aTW.mp d).2⟩⟩
    rw[mR,kL,aPY];by_cases ek:t.1=k
    . subst ek;rw[if_pos rfl];constructor
      . rintro (z | z)
        . rw[Prod.mk.injEq] at z;exact ⟨.inr rfl,by rw[z.2,hl.2,e]⟩
        . exact absurd z (by rw[<- e];exact nr n)
      . rintro ⟨_,z⟩;left;rw[z,hl.2,e]
    . rw[if_neg ek,aUN];constructor
      . rintro (z | z)
        . exact absurd (Prod.mk.injEq .. ▸ z).1.symm ek
        . have:=(h k n).mp (mcm z);exact ⟨.inl this.1,this.2⟩
      . rintro ⟨z | z,e'⟩
        . have:=(h k n).mpr ⟨z,e'⟩;rcases aPY.mp this with m | m
          . exact absurd (by rw[<- m] at e;exact e.symm) ek
          . exact .inr m
        . exact absurd z ek
  . rw[if_neg e];obtain ⟨x,mx,ex⟩:=hl.1;have k1:kl t.1 l.1=false:=by
      have:=le x mx;rw[tI (by rw[ex];exact λz=>e z.symm),ex] at this
      exact this
    have k2:kl l.1 t.1=true:=by
     cases q:kl l.1 t.1 with
     | true=>rfl
     | false=>exact absurd (aAK q k1) e
    have hp:¬ Has p t.1:=λz=>by
     have:=(h t.1 _).mpr ⟨z,rfl⟩;rcases aPY.mp this with m | m
     . exact e (by rw[<- m])
     . have:=dl _ m;rw[k1] at this;cases this
    refine ⟨λk n=>?_,aTW.mpr ⟨λa ha=>?_,d⟩⟩
    . rw[mR,kL,aPY,h k n];by_cases ek:t.1=k
      . subst ek;rw[if_pos rfl,mQ hp,aUO];constructor
        . rintro (z | z)
          . exact ⟨.inr rfl,by rw[<- z]⟩
          . exact absurd z.1 hp
        . rintro ⟨_,rfl⟩;exact .inl rfl
      . rw[if_neg ek,aUN];constructor
        . rintro (z | z)
          . exact absurd (by rw[<- z]) ek
          . exact ⟨.inl z.1,z.2⟩
        . rintro ⟨z | z,e'⟩
          . exact .inr ⟨z,e'⟩
          . exact absurd z ek
    . rcases aPY.mp ha with rfl | ha
      . exact k2
      . exact rQ _ _ _ (dl a ha) k2
theorem aAO:∀ (r p rf:List Tr),f9 p rf->pD rf->fD ((p++r).map tmN)->f9 (p++r) (r.foldl iR rf)/\pD (r.foldl iR rf)
 | [],p,rf,h,d,_=>by rw[aQQ];exact ⟨h,d⟩
 | t::r,p,rf,h,d,so=>by
  have le:∀ x∈p,ltN (tmN t) (tmN x)=false:=λx hx=>by rw[aUM] at so;exact (aTV.mp so).2.2 _ (List.mem_map_of_mem hx) _ (List.mem_map_of_mem mcs)
  obtain ⟨h1,d1⟩:=aNL t h d le;have:=aAO r (p++[t]) _ h1 d1 (by rw[aS6];exact so)
  rw[aS6] at this;exact this
theorem aAP:∀ {a b:List Tr},a.map tmN=b.map tmN->a=b
 | [],[],_=>rfl
 | [],_::_,h=>by cases h
 | _::_,[],h=>by cases h
 | x::a,y::b,h=>by rw[aRN,aRN,aRQ] at h;rw[aAJ h.1,aAP h.2]
theorem both{ts S:List Tr}(hs:S.map tmN=cO (ts.map tmN)):(S.foldl iR []).reverse.map tmN=cO ((bD ts).map tmN):=by
 have pm:S.Perm ts:=by
  have h0:(S.map tmN).Perm (ts.map tmN):=by rw[hs];exact kA _
  obtain ⟨qs,q1,q2⟩:=l7 h0;have:S=qs:=by exact aAP q2
  rw[this];exact q1
 obtain ⟨h1,d1⟩:=aAO S [] [] aAN .nil (by rw[aTY,hs];exact oM _)
 rw[aTY] at h1;obtain ⟨h2,n2⟩:=gO ts;have nd1:(S.foldl iR []).Nodup:=d1.imp λ{a b} h e=>by subst e;rw[tF] at h;cases h
 have nd2:(bD ts).Nodup:=by have:=aT3.mp n2;exact this.imp λ{a b} h e=>h (by rw[e])
 have pe:(S.foldl iR []).Perm (bD ts):=(List.perm_ext_iff_of_nodup nd1 nd2).mpr λ⟨k,n⟩=>by rw[h1 k n,h2 k n,aNJ pm k,aNI pm k]
 refine rT ?_ (((List.reverse_perm _).trans pe).map tmN);unfold fD;rw[aT3,List.pairwise_reverse];refine d1.imp λ{a b} h=>?_;have ne:a.1≠b.1:=λe=>by rw[e,tF] at h;cases h
 rw[tI ne];exact oK h
theorem aAQ:∀ {ks:List N},(∀ k∈ks,bH (nD k)=some k.py)->dS (nDL ks)=some (N.pyL ks)
 | [],_=>by simp[nDL,dS,N.pyL]
 | k::ks,h=>by simp only[nDL,dS,N.pyL];rw[h k mcs,aAQ λx hx=>h x (mcm hx)]
theorem aAR(k:N):bH (nD k)=some k.py:=by
 induction k using N.ind with
 | hi n=>simp[nD,bH,N.py]
 | hs x=>simp[nD,bH,N.py]
 | ht xs ih=>simp only[nD,bH,N.py];rw[aAQ ih];rfl
theorem eqF_N{neg:Bool}{x y:N}{m m':Md}(hx:x.dp<=50)(hy:y.dp<=50):eqF neg m (nD x) m' (nD y)=some (.fz,.bl (if neg then !decide (x=y) else decide (x=y))):=by unfold eqF;rw[aAR,aAR];dsimp only;rw[if_pos (by unfold jZ;rw[aRI,aR2,aR2,N.py_depth,N.py_depth];omega),N.py_eqv]
theorem pE{x y:N}{m m':Md}(hx:x.dp<=50)(hy:y.dp<=50):op2 (bX .Eq) (.ok m (nD x)) (.ok m' (nD y))=.ok .fz (.bl (decide (x=y))):=cI (by
 show orO (eqF false) _ m (nD x) m' (nD y)=_;unfold orO;rw[eqF_N hx hy];rfl)
theorem tJ:∀ {ks:List N},(∀ k∈ks,bF (nD k)=some k)->fC (nDL ks)=some ks
 | [],_=>by simp[nDL,fC]
 | k::ks,h=>by simp only[nDL,fC];rw[h k mcs,tJ λx hx=>h x (mcm hx)]
theorem tK(k:N):bF (nD k)=some k:=by
 induction k using N.ind with
 | hi n=>simp[nD,bF]
 | hs x=>simp[nD,bF]
 | ht xs ih=>simp only[nD,bF];rw[tJ ih];rfl
theorem aAS(ks:List N):fC (nDL ks)=some ks:=tJ λk _=>tK k
theorem mS{ks:List N}(h:(N.t ks).dp<=8):cT (nD (.t ks))=some (.t ks):=by
 rw[nD];show (match fC (nDL ks) with | some ks=>if (N.t ks).dp<=8 then some (N.t ks) else none | none=>none)=_
 rw[aAS];dsimp only;rw[if_pos h]
theorem aNM{ks:List N}(h:∀ k∈ks,dA k=true)(h0:ks≠[]):txD (nDL ks)=none:=by
 cases ks with
 | nil=>exact absurd rfl h0
 | cons k ks =>
  have:=h k mcs;unfold dA at this;split at this
  . simp only[nDL,nD];rfl
  . cases this
theorem aNN(ks:List N):(cO ks).length=ks.length:=(kA ks).length_eq
theorem aNO{ks:List N}{m:Md}{d:D}(hd:seqD d=some (nDL ks))(h:∀ k∈ks,dA k=true)(ok:okS ks=true):fN [(m,d)]=some (.fr,.lst (nDL (cO ks))):=by
 show (match seqD d with | some ds=>_ | none=>none)=_
 rw[hd];dsimp only;by_cases h0:ks=[]
 . subst h0;rfl
 . rw[aNM h h0,aAS];dsimp only;rw[if_pos ok]
def isF(f:N):Prop:=∃ xs:List Str,f=.t (xs.map .s)/\xs.length<64
def isBs:Nat->N->Prop
 | 0,b=>b=.t []
 | j+1,b=>∃ rs:List N,b=.t rs/\rs.length<64/\∀ r∈rs,∃ ts:List Tr,r=.t (ts.map tmN)/\ts.length<64/\∀ t∈ts,isF t.1.1/\isBs j t.1.2
def isK(j:Nat)(k:Ky):Prop:=isF k.1/\isBs j k.2
theorem jH:∀ {xs ys:List N},(∀ x∈xs,∀ y∈ys,okN x y=true)->eI xs ys=true
 | [],_,_=>by simp[eI]
 | _::_,[],_=>by simp[eI]
 | x::xs,y::ys,h=>by
  rw[eI];split
  . exact jH λa ha b hb=>h a (mcm ha) b (mcm hb)
  . exact h x mcs y mcs
theorem kN{f g:N}(hf:isF f)(hg:isF g):okN f g=true:=by obtain ⟨xs,rfl,_⟩:=hf;obtain ⟨ys,rfl,_⟩:=hg;rw[okN];refine jH λx hx y hy=>?_;obtain ⟨a,_,rfl⟩:=aUF.mp hx;obtain ⟨b,_,rfl⟩:=aUF.mp hy;rw[okN]
theorem mU{s t:Tr}(h1:okN s.1.1 t.1.1=true)(h2:okN s.1.2 t.1.2=true):okN (tmN s) (tmN t)=true:=by
 unfold tmN;simp only[okN,eI];split
 . split
   . split <;> rfl
   . exact h2
 . exact h1
theorem mV:∀ {j:Nat} {b c:N},isBs j b->isBs j c->okN b c=true
 | 0,b,c,h1,h2=>by cases h1;cases h2;simp[okN,eI]
 | j+1,b,c,h1,h2=>by obtain ⟨rs,rfl,_,h1⟩:=h1;obtain ⟨qs,rfl,_,h2⟩:=h2;rw[okN];refine jH λx hx y hy=>?_;obtain ⟨ts,rfl,_,h1⟩:=h1 x hx;obtain ⟨us,rfl,_,h2⟩:=h2 y hy;rw[okN];refine jH λa ha b hb=>?_;obtain ⟨s,hs,rfl⟩:=aUF.mp ha;obtain ⟨t,ht,rfl⟩:=aUF.mp hb;exact mU (kN (h1 s hs).1 (h2 t ht).1) (mV (h1 s hs).2 (h2 t ht).2)
theorem ok_K{j:Nat}{s t:Tr}(h1:isK j s.1)(h2:isK j t.1):okN (tmN s) (tmN t)=true:=mU (kN h1.1 h2.1) (mV h1.2 h2.2)
theorem jI:∀ {xs:List N} {n:Nat},(∀ x∈xs,x.dp<=n)->N.dpL xs<=n
 | [],n,_=>by simp[N.dpL]
 | x::xs,n,h=>by rw[N.dpL];have:=h x mcs;have:=jI λy hy=>h y (mcm hy);omega
theorem pF{f:N}(h:isF f):f.dp<=1:=by
 obtain ⟨xs,rfl,_⟩:=h;rw[N.dp];have:N.dpL (xs.map N.s)<=0:=jI λx hx=>by obtain ⟨a,_,rfl⟩:=aUF.mp hx;rw[N.dp];exact aQC 0
 omega
theorem tL:∀ {j:Nat} {b:N},isBs j b->b.dp<=3 * j+1
 | 0,b,h=>by cases h;simp[N.dp,N.dpL]
 | j+1,b,h=>by
  obtain ⟨rs,rfl,_,h⟩:=h;rw[N.dp];have:N.dpL rs<=3 * j+3:=jI λr hr=>by
   obtain ⟨ts,rfl,_,h⟩:=h r hr;rw[N.dp];have:N.dpL (ts.map tmN)<=3 * j+2:=jI λx hx=>by obtain ⟨t,ht,rfl⟩:=aUF.mp hx;have a1:=pF (h t ht).1;have a2:=tL (h t ht).2;simp only[tmN,N.dp,N.dpL];omega
   omega
  omega
theorem kP{k:Ky}{j:Nat}(h:isK j k)(hj:j<=2):k.1.dp<=1/\k.2.dp<=7/\(kyN k).dp<=8/\∀ n,(tmN (k,n)).dp<=8:=by
 have a1:=pF h.1;have a2:=tL h.2;refine ⟨a1,by omega,?_,λn=>?_⟩
 . simp only[kyN,N.dp,N.dpL];omega
 . simp only[tmN,N.dp,N.dpL];omega
theorem iA:∀ {j:Nat} {b:N},isBs j b->isBs (j+1) b
 | 0,b,h=>by cases h;exact ⟨[],rfl,by decide,λr hr=>nomatch hr⟩
 | j+1,b,h=>by obtain ⟨rs,rfl,l,h⟩:=h;refine ⟨rs,rfl,l,λr hr=>?_⟩;obtain ⟨ts,rfl,l2,h⟩:=h r hr;exact ⟨ts,rfl,l2,λt ht=>⟨(h t ht).1,iA (h t ht).2⟩⟩
theorem aNP{t:Tr}(h:isF t.1.1):dA (tmN t)=true:=by obtain ⟨xs,e,_⟩:=h;unfold tmN;rw[e];rfl
theorem okS_T{ts:List Tr}(h:∀ t∈ts,isK 2 t.1)(hl:ts.length<64):okS (ts.map tmN)=true/\∀ k∈ts.map tmN,dA k=true:=by
 have hF:∀ k∈ts.map tmN,dA k=true:=λk hk=>by obtain ⟨t,ht,rfl⟩:=aUF.mp hk;exact aNP (h t ht).1
 refine ⟨?_,hF⟩;unfold okS;simp only[aRI,aR4,aR2,aSB];refine ⟨⟨⟨λk hk=>?_,.inr hF⟩,λx hx y hy=>?_⟩,by rw[aQ1];exact hl⟩
 . obtain ⟨t,ht,rfl⟩:=aUF.mp hk;exact (kP (h t ht) (aQC 2)).2.2.2 t.2
 . obtain ⟨s,hs,rfl⟩:=aUF.mp hx;obtain ⟨t,ht,rfl⟩:=aUF.mp hy;exact ok_K (h s hs) (h t ht)
theorem bL{ds:List D}{m m':Md}{i:Int}{d:D}(h:atI ds i=some d):op2 ixD (.ok m (.lst ds)) (.ok m' (.int i))=.ok .fz d:=cI (by show (atI ds i).map _=_;rw[h];rfl)
theorem jJ{ds:List D}{m m':Md}{i:Int}{d:D}(h:atI ds i=some d):op2 ixD (.ok m (.tup ds)) (.ok m' (.int i))=.ok .fz d:=cI (by show (atI ds i).map _=_;rw[h];rfl)
theorem ix2_0{m m':Md}{x y:D}:op2 ixD (.ok m (.tup [x,y])) (.ok m' (.int 0))=.ok .fz x:=jJ rfl
theorem ix2_1{m m':Md}{x y:D}:op2 ixD (.ok m (.tup [x,y])) (.ok m' (.int 1))=.ok .fz y:=jJ rfl
theorem tM{m m':Md}{x y z:D}:op2 ixD (.ok m (.tup [x,y,z])) (.ok m' (.int 0))=.ok .fz x:=jJ rfl
theorem ix3_1{m m':Md}{x y z:D}:op2 ixD (.ok m (.tup [x,y,z])) (.ok m' (.int 1))=.ok .fz y:=jJ rfl
theorem tN{m m':Md}{x y z:D}:op2 ixD (.ok m (.tup [x,y,z])) (.ok m' (.int 2))=.ok .fz z:=jJ rfl
theorem bO:i7 (.ok [])=.ok .fz (.tup []):=rfl
theorem cB{x:D}:i7 (.ok [(.fz,x)])=.ok .fz (.tup [x]):=rfl
theorem dI{x y:D}:i7 (.ok [(.fz,x),(.fz,y)])=.ok .fz (.tup [x,y]):=rfl
theorem bT{x y z:D}:i7 (.ok [(.fz,x),(.fz,y),(.fz,z)])=.ok .fz (.tup [x,y,z]):=rfl
theorem T_eq(t:Tr):nD (tmN t)=.tup [nD t.1.1,nD t.1.2,.int t.2]:=by simp[tmN,nD,nDL]
theorem pG(k:Ky):nD (kyN k)=.tup [nD k.1,nD k.2]:=by simp[kyN,nD,nDL]
abbrev tD(t:Tr):D:=nD (tmN t)
theorem kQ(ts:List Tr):nDL (ts.map tmN)=ts.map tD:=by rw[gL,aT6];rfl
theorem lst0:dP (.ok [])=.ok .fr (.lst []):=rfl
theorem eJ(t:Tr):tD t=.tup [nD t.1.1,nD t.1.2,.int t.2]:=T_eq t
theorem aAT{α:Type}{enc:α->D}{p:α->Bool}{g:α->D}{k:D->Rho->Option Rho}{t e:Rho->Res}{ρ0:Rho}:∀ {xs:List α},(∀ x∈xs,∃ ρ1 m,k (enc x) ρ0=some ρ1/\t ρ1=.ok m (.bl (p x))/\(p x=true->∃ m',aY (e ρ1)=.ok m' (g x)))->e9 k t e ρ0 (xs.map enc)=some ((xs.filter p).map g)
 | [],_=>rfl
 | x::xs,h=>by
  obtain ⟨ρ1,m,e1,e2,e3⟩:=h x mcs;have ih:=aAT λy hy=>h y (mcm hy);rw[aRN];unfold e9;rw[e1];dsimp only;rw[e2];cases q:p x with
  | true=>obtain ⟨m',e3⟩:=e3 q;simp[e3,ih,List.filter_cons,q]
  | false=>simp[ih,List.filter_cons,q]
theorem aNQ{α:Type}{enc:α->D}(p:α->Bool)(g:α->D){ρ:Rho}{aD:List Nat}{n:Nat}{k:D->Rho->Option Rho}{t e:Rho->Res}{m:Md}{xs:List α}(hl:xs.length<sizeLine)(h:∀ x∈xs,∃ ρ1 m,k (enc x) (cN aD ρ++List.replicate n none)=some ρ1/\t ρ1=.ok m (.bl (p x))/\(p x=true->∃ m',aY (e ρ1)=.ok m' (g x))):b0 (.ok m (.lst (xs.map enc))) ρ aD n k t e=.ok .fr (.lst ((xs.filter p).map g)):=by unfold b0;rw[Res.thn_ok];dsimp only;rw[if_pos (by simpa using hl),aAT h]
theorem tO{α:Type}{enc:α->D}(g:α->D){ρ:Rho}{aD:List Nat}{n:Nat}{k:D->Rho->Option Rho}{t e:Rho->Res}{m:Md}{xs:List α}(hl:xs.length<sizeLine)(h:∀ x∈xs,∃ ρ1 m,k (enc x) (cN aD ρ++List.replicate n none)=some ρ1/\t ρ1=.ok m (.bl true)/\∃ m',aY (e ρ1)=.ok m' (g x)):b0 (.ok m (.lst (xs.map enc))) ρ aD n k t e=.ok .fr (.lst (xs.map g)):=by
 have:=aNQ (enc:=enc) (λ_=>true) g (ρ:=ρ) (aD:=aD) (n:=n) (k:=k) (t:=t) (e:=e) (m:=m) hl λx hx=>by obtain ⟨ρ1,m,e1,e2,e3⟩:=h x hx;exact ⟨ρ1,m,e1,e2,λ_=>e3⟩
 rw[this,List.filter_eq_self.mpr λ_ _=>rfl]
def F(ys:List Str):N:=.t (ys.map .s)
theorem kR(ys:List Str):nD (F ys)=.tup (ys.map .str):=by unfold F;rw[nD,gL,aT6];congr 1
abbrev Rw:=List Str×N×Int
def enc(r:Rw):D:=.tup [.tup (r.1.map .str),nD r.2.1,.int r.2.2]
def tr(r:Rw):Tr:=((F (aX r.1),r.2.1),r.2.2)
def kv(a:Tr):N×D:=(kyN a.1,.int a.2)
theorem tP:∀ (xs:List Str),txD (xs.map .str)=some xs
 | []=>rfl
 | x::xs=>by rw[aRN];unfold txD;rw[tP xs];rfl
theorem mW{xs:List Str}{m:Md}{d:D}(hd:seqD d=some (xs.map .str))(h:xs.length<64):fN [(m,d)]=some (.fr,.lst ((aX xs).map .str)):=by
 show (match seqD d with | some ds=>_ | none=>none)=_
 rw[hd];dsimp only;rw[tP];dsimp only;rw[if_pos h]
theorem pH:∀ (acc:List Tr) (k:Ky),dG (acc.map kv) (kyN k)=(acc.find? λa=>decide (a.1=k)).map λa=>.int a.2
 | [],k=>rfl
 | a::acc,k=>by
  rw[aRN];by_cases e:a.1=k
  . rw[xC (p:=kv a) (by show kyN a.1=_;rw[e]),List.find?_cons_of_pos (by simpa using e)]
    rfl
  . rw[xD (p:=kv a) (λz=>e (tE z)),pH acc k,List.find?_cons_of_neg (by simpa using e)]
theorem tQ{acc:List Tr}{k:Ky}{n:Int}(nd:(acc.map (·.1)).Nodup)(h:(k,n)∈acc):acc.find? (λa=>decide (a.1=k))=some (k,n):=by
 induction acc with
 | nil=>cases h
 | cons a acc ih =>
  rw[aRN,aQR] at nd;rcases aPY.mp h with e | h
  . subst e;rw[List.find?_cons_of_pos (by simp)]
  . have:¬ a.1=k:=λe=>nd.1 (by rw[e];exact aUF.mpr ⟨_,h,rfl⟩)
    rw[List.find?_cons_of_neg (by simpa using this)]
    exact ih nd.2 h
theorem aNR{acc:List Tr}{t:Tr}(nd:(acc.map (·.1)).Nodup):((cQ acc t).map (·.1)).Nodup:=by
 rw[aAL];split
 . exact nd
 . rename_i q;refine List.nodup_append.mpr ⟨nd,aT2 _ _,λa ha b hb e=>?_⟩;cases aSV.mp hb;obtain ⟨u,mu,rfl⟩:=aUF.mp ha;exact q (kM.mpr ⟨u,mu,e⟩)
theorem aAU(acc:List Tr)(t:Tr):(cQ acc t).length<=acc.length+1:=by
 unfold cQ;split
 . rw[aQ1];omega
 . rw[aQ0];exact aQC _
def gP(acc:List Tr)(k:Ky):Int:=((acc.find? λa=>decide (a.1=k)).map (·.2)).getD 0
theorem aNS(acc:List Tr)(k:Ky):(dG (acc.map kv) (kyN k)).getD (.int 0)=.int (gP acc k):=by rw[pH];unfold gP;cases acc.find? λa=>decide (a.1=k) <;> rfl
theorem aNT{acc:List Tr}{t:Tr}(nd:(acc.map (·.1)).Nodup):j8 (acc.map kv) (kyN t.1) (.int (gP acc t.1+t.2))=(cQ acc t).map kv:=by
 unfold j8 cQ;rw[pH];by_cases q:(acc.any λa=>decide (a.1=t.1))=true
 . rw[if_pos q];obtain ⟨⟨k,n⟩,m,e⟩:=kM.mp q;dsimp only at e;subst e;have hf:=tQ nd m;have hv:gP acc t.1=n:=by unfold gP;rw[hf];rfl
   rw[if_pos (by rw[hf];rfl),hv,aT6,aT6]
   refine aUH λa ha=>?_;show (if kyN a.1=kyN t.1 then (kyN a.1,D.int (n+t.2)) else kv a)=kv (if a.1=t.1 then (a.1,a.2+t.2) else a);by_cases e:a.1=t.1
   . rw[if_pos e,if_pos (by rw[e])]
     have:a=(t.1,n):=by
      have:=tQ nd (k:=t.1) (n:=a.2) (by rw[<- e];exact ha)
      rw[hf] at this;injection this with this
      rw[this,<- e]
     rw[this];rfl
   . rw[if_neg e,if_neg (λz=>e (tE z))]
 . rw[if_neg q];have:(acc.find? λa=>decide (a.1=t.1))=none:=by rw[List.find?_eq_none];intro a ha z;exact q (kM.mpr ⟨a,ha,aR3 z⟩)
   have hv:gP acc t.1=0:=by unfold gP;rw[this];rfl
   rw[if_neg (by rw[this];decide),hv,aUO,aUM]
   rfl
theorem tR{k:Ky}(h:(kyN k).dp<=8):cT (.tup [nD k.1,nD k.2])=some (kyN k):=by rw[<- pG];exact mS h
theorem nbody{W:WD}{A x5:Option (Bool×D)}{acc:List Tr}{r:Rw}(nd:(acc.map (·.1)).Nodup)(hx:r.1.length<64)(h8:(kyN (tr r).1).dp<=8)(hl:acc.length<1000):evB W kJ [A,some (true,.dtn (acc.map kv)),some (false,.tup (r.1.map .str)),some (false,nD r.2.1),some (false,.int r.2.2),x5]=.nx [A,some (true,.dtn ((cQ acc (tr r)).map kv)),some (false,.tup (r.1.map .str)),some (false,nD r.2.1),some (false,.int r.2.2),some (false,.tup [nD (tr r).1.1,nD (tr r).1.2])]:=by
 have e1:fN [(.fz,.tup (r.1.map .str))]=some (.fr,.lst ((aX r.1).map .str)):=mW rfl hx;have e2:eQ [(.fr,.lst ((aX r.1).map D.str))]=some (.fz,nD (tr r).1.1):=by show some (Md.fz,D.tup ((aX r.1).map D.str))=_;rw[show (tr r).1.1=F (aX r.1) from rfl,kR]
 have e0:nD r.2.1=nD (tr r).1.2:=rfl;have e3:l0 (.ok .bo (.dtn (acc.map kv))) (.ok .fz (.tup [nD (tr r).1.1,nD (tr r).1.2])) (.ok .fz (.int 0))=.ok .fz (.int (gP acc (tr r).1)):=by
  show (match Md.fz,cT (.tup [nD (tr r).1.1,nD (tr r).1.2]) with | .fz,some k=>Res.ok .fz ((dG (acc.map kv) k).getD (.int 0)) | _,_=>.stuck)=_
  rw[tR h8];dsimp only;rw[aNS]
 have e4 : l4 [A, some (true, .dtn (acc.map kv)), some (false, .tup (r.1.map .str)), some (false, nD (tr r).1.2), some (false, .int r.2.2), some (false, .tup [nD (tr r).1.1, nD (tr r).1.2])] 1 (.ok .fz (.tup [nD (tr r).1.1, nD (tr r).1.2])) (.ok .fz (.int (gP acc (tr r).1 + r.2.2))) =
     .nx [A,some (true,.dtn ((cQ acc (tr r)).map kv)),some (false,.tup (r.1.map .str)),some (false,nD (tr r).1.2),some (false,.int r.2.2),some (false,.tup [nD (tr r).1.1,nD (tr r).1.2])]:=by
  show (match cT (.tup [nD (tr r).1.1,nD (tr r).1.2]) with | some k=>if (acc.map kv).length<sizeLine then aG.nx (List.set [A,some (true,D.dtn (acc.map kv)),some (false,D.tup (r.1.map .str)),some (false,nD (tr r).1.2),some (false,.int r.2.2),some (false,.tup [nD (tr r).1.1,nD (tr r).1.2])] 1 (some (true,D.dtn (j8 (acc.map kv) k (.int (gP acc (tr r).1+r.2.2)))))) else .stuck | none=>.stuck)=_
  rw[tR h8];dsimp only;rw[if_pos (by rw[aQ1,aQH];omega)]
  have:=aNT (t:=tr r) nd;rw[show (tr r).2=r.2.2 from rfl] at this
  rw[this];rfl
 rw[e0];generalize nD (tr r).1.1=Fd at *;generalize nD (tr r).1.2=Bd at *;generalize D.dtn (acc.map kv)=L at *;generalize D.tup (r.1.map .str)=X at *;generalize D.dtn ((cQ acc (tr r)).map kv)=L' at *;generalize (aX r.1).map D.str=Y at *;simp[kJ,Ty.f,e1,e2,dI,e3,e4]
theorem aAV{W:WD}{A:Option (Bool×D)}:∀ (rs:List Rw) (acc:List Tr) (x2 x3 x4 x5:Option (Bool×D)),(acc.map (·.1)).Nodup->(∀ r∈rs,r.1.length<64/\(kyN (tr r).1).dp<=8)->acc.length+rs.length<1000->∃ y2 y3 y4 y5,cM (aQ (.tp [.nm 2,.nm 3,.nm 4])) (evB W kJ) (rs.map enc) [A,some (true,.dtn (acc.map kv)),x2,x3,x4,x5]=.nx [A,some (true,.dtn (((rs.map tr).foldl cQ acc).map kv)),y2,y3,y4,y5]
 | [],acc,x2,x3,x4,x5,_,_,_=>⟨x2,x3,x4,x5,rfl⟩
 | r::rs,acc,x2,x3,x4,x5,nd,h,hl=>by
  obtain ⟨h1,h2⟩:=h r mcs;rw[aR1] at hl;obtain ⟨y2,y3,y4,y5,e⟩:=aAV (W:=W) (A:=A) rs (cQ acc (tr r)) (some (false,.tup (r.1.map .str))) (some (false,nD r.2.1)) (some (false,.int r.2.2)) (some (false,.tup [nD (tr r).1.1,nD (tr r).1.2])) (aNR nd) (λx hx=>h x (mcm hx)) (by have:=aAU acc (tr r);omega)
  refine ⟨y2,y3,y4,y5,?_⟩;rw[aRN];unfold cM;rw[show aQ (.tp [.nm 2,.nm 3,.nm 4]) (enc r) [A,some (true,.dtn (acc.map kv)),x2,x3,x4,x5]=some [A,some (true,.dtn (acc.map kv)),some (false,.tup (r.1.map .str)),some (false,nD r.2.1),some (false,.int r.2.2),x5] from by simp[enc]]
  dsimp only;rw[nbody nd h1 h2 (by omega)]
  exact e
theorem aNU{ts:List Tr}(h:∀ t∈ts,isK 2 t.1):∀ t∈bD ts,isK 2 t.1:=λt ht=>by obtain ⟨u,hu,e⟩:=(((gO ts).1 t.1 t.2).mp ht).1;rw[<- e];exact h u hu
theorem aAW:∀ (r acc:List Tr),(r.foldl cQ acc).length<=acc.length+r.length
 | [],acc=>aQC _
 | t::r,acc=>by have h1:=aAW r (cQ acc t);have h2:=aAU acc t;rw[List.foldl_cons,aR1];omega
theorem mX(ts:List Tr):(bD ts).length<=ts.length:=by unfold bD;have:=aAW ts [];simpa using this
def nf(ts:List Tr):D:=.tup (nDL (cO ((bD ts).map tmN)))
theorem tU{k:Nat}{rs:List Rw}(h:∀ r∈rs,r.1.length<64/\isK 2 (tr r).1)(hl:rs.length<64):(WT TT (k+1)).Φ "_law_normal" [.lst (rs.map enc)]=.ok .fz (nf (rs.map tr)):=by
 have hK:∀ t∈rs.map tr,isK 2 t.1:=λt ht=>by obtain ⟨r,hr,rfl⟩:=aUF.mp ht;exact (h r hr).2
 obtain ⟨tl,nd⟩:=gO (rs.map tr);have aK:=aNU hK;have al:(bD (rs.map tr)).length<64:=by have:=mX (rs.map tr);rw[aQ1] at this;omega
 obtain ⟨y2,y3,y4,y5,e2⟩:=aAV (W:=WT TT k) (A:=some (false,.lst (rs.map enc))) rs [] none none none none List.nodup_nil (λr hr=>⟨(h r hr).1,(kP (h r hr).2 (aQC 2)).2.2.1⟩) (by simp;omega)
 have e2:cM (aQ (.tp [.nm 2,.nm 3,.nm 4])) (evB (WT TT k) kJ) (rs.map enc) [some (false,.lst (rs.map enc)),some (true,.dtn []),none,none,none,none]=.nx [some (false,.lst (rs.map enc)),some (true,.dtn ((bD (rs.map tr)).map kv)),y2,y3,y4,y5]:=e2;have e4:kC [some (false,.lst (rs.map enc)),some (true,.dtn ((bD (rs.map tr)).map kv)),y2,y3,y4,y5] 1=.nx [some (false,.lst (rs.map enc)),some (false,.dtf ((bD (rs.map tr)).map kv)),y2,y3,y4,y5]:=rfl;have e5:l6 (.ok .fz (.dtf ((bD (rs.map tr)).map kv)))=.ok .fz (.lst ((bD (rs.map tr)).map λa=>nD (kyN a.1))):=by show Res.ok .fz (.lst (((bD (rs.map tr)).map kv).map λkv=>nD kv.1))=_;rw[aT6];rfl
 have e6:b0 (.ok .fz (.lst ((bD (rs.map tr)).map λa=>nD (kyN a.1)))) [some (false,.lst (rs.map enc)),some (false,.dtf ((bD (rs.map tr)).map kv)),y2,y3,y4,y5] [1] 1 (aQ (.nm 1)) (λρ=>evF (WT TT k) [] ρ) (λρ=>evE (WT TT k) (.tup [(.ix (.var 1) (.int 0)),(.ix (.var 1) (.int 1)),(.nix (.var 0) (.var 1))]) ρ)=.ok .fr (.lst ((bD (rs.map tr)).map tD)):=by
  refine tO (enc:=λa:Tr=>nD (kyN a.1)) tD (by rw[aQH];omega) λa ha=>?_
  refine ⟨[some (false,.dtf ((bD (rs.map tr)).map kv)),some (false,nD (kyN a.1))],.fz,rfl,by simp,.fz,?_⟩
  have g:op2 lZ (.ok .fz (.dtf ((bD (rs.map tr)).map kv))) (.ok .fz (.tup [nD a.1.1,nD a.1.2]))=.ok .fz (.int a.2):=cI (by
   show (match some ((bD (rs.map tr)).map kv),cT (.tup [nD a.1.1,nD a.1.2]) with | some kvs,some k=>(dG kvs k).map λd=>(Md.fz,d) | _,_=>none)=_
   rw[tR (kP (aK a ha) (aQC 2)).2.2.1];dsimp only;rw[pH,tQ nd (k:=a.1) (n:=a.2) ha];rfl)
  rw[eJ a,pG];generalize D.dtf ((bD (rs.map tr)).map kv)=L at *;simp[ix2_0,ix2_1,g,bT]
 have e7:fN [(.fr,.lst ((bD (rs.map tr)).map tD))]=some (.fr,.lst (nDL (cO ((bD (rs.map tr)).map tmN)))):=by obtain ⟨ok,ft⟩:=okS_T aK al;exact aNO (by rw[kQ];rfl) ft ok
 have e8:eQ [(.fr,.lst (nDL (cO ((bD (rs.map tr)).map tmN))))]=some (.fz,nf (rs.map tr)):=rfl;rw[aM6];refine bA rfl ?_;show evB _ o5 [some (false,.lst (rs.map enc)),none,none,none,none,none]=_;unfold o5;generalize kJ=B at *;generalize D.dtf ((bD (rs.map tr)).map kv)=L1 at *;generalize D.dtn ((bD (rs.map tr)).map kv)=L2 at *;generalize ((bD (rs.map tr)).map λa=>nD (kyN a.1))=L3 at *;generalize (bD (rs.map tr)).map tD=L4 at *;generalize nDL (cO ((bD (rs.map tr)).map tmN))=L5 at *;generalize nf (rs.map tr)=L6 at *;generalize E.tup [(E.ix (.var 1) (.int 0)),(.ix (.var 1) (.int 1)),(.nix (.var 0) (.var 1))]=EE at *;generalize rs.map enc=A at *;simp only[kH] at e6;simp[fM,e2,e4,e5,e6,e7,Ty.f,e8]
theorem aAX{α:Type}(xs:List α)(v:Int)(n:Int)(hn:n=xs.length)(h:0<n):∃ c,c∈xs/\atI xs (v % n)=some c:=by
 have h0:=aUP v (show n≠0 by omega)
 have h1:=aUQ v h;obtain ⟨j,hj⟩:=aUR h0;have hl:j<xs.length:=by omega
 exact ⟨xs[j],aSF hl,by rw[hj];exact gZ (aSE hl)⟩
abbrev NM(nms:List Str):D:=.lst (nms.map .str)
theorem kS{nms:List Str}(hn:nms.length=4)(v:Int):∃ s:Str,∀ m m':Md,op2 ixD (.ok m (NM nms)) (.ok m' (.int (v % 4)))=.ok .fz (.str s):=by
 obtain ⟨d,hd,e⟩:=aAX (nms.map D.str) v 4 (by simp[hn]) (by decide)
 obtain ⟨s,_,rfl⟩:=aUF.mp hd;exact ⟨s,λm m'=>bL e⟩
def isRs(ts:List Tr):Prop:=(ts≠[]/\ts.length<64)/\∀ t∈ts,isF t.1.1/\isBs 1 t.1.2
theorem jK{ys:List Str}(h:ys.length<64):isF (F ys):=⟨ys,rfl,h⟩
theorem bs0:isBs 1 (.t []):=⟨[],rfl,by decide,λr hr=>nomatch hr⟩
theorem dJ:nD (.t [])=.tup []:=by simp[nD,nDL]
theorem iB(t:Tr):nD (.t ([t].map tmN))=.tup [.tup [nD t.1.1,nD t.1.2,.int t.2]]:=by rw[nD,gL];show D.tup [nD (tmN t)]=_;rw[T_eq]
theorem aAY:nD (F [])=.tup []:=kR []
theorem iS(s:Str):nD (F [s])=.tup [.str s]:=kR [s]
theorem mY{r:Rw}(hx:r.1.length<64)(hb:isBs 2 r.2.1):isK 2 (tr r).1:=⟨jK (by rw[(gM r.1).length_eq];exact hx),hb⟩
theorem pI{ts:List Tr}:∃ S:List Tr,S.Perm ts/\S.map tmN=cO (ts.map tmN):=by obtain ⟨S,p,e⟩:=l7 (kA (ts.map tmN));exact ⟨S,p,e.symm⟩
theorem bar{k:Nat}{nms:List Str}(hn:nms.length=4)(c:Int):∃ ts:List Tr,isRs ts/\(WT TT (k+2)).Φ "_law_bar" [.int c,NM nms]=.ok .fz (nD (.t (ts.map tmN))):=by
 obtain ⟨s,hs⟩:=kS hn c;obtain ⟨s1,h1⟩:=kS hn (c / 48);obtain ⟨s2,h2⟩:=kS hn (c / 192);have one:∀ (b:N),isBs 1 b->∀ n,isRs [((F [s],b),n)]:=λb hb n=>⟨⟨by simp,by simp⟩,λt ht=>by cases aSV.mp ht;exact ⟨jK (by simp),hb⟩⟩
 have bN:∀ {d:D},evB (WT TT (k+1)) fU [some (false,.int c),some (false,NM nms),none]=.rt .fz d->(WT TT (k+2)).Φ "_law_bar" [.int c,NM nms]=.ok .fz d:=λ{d} h=>by rw[aAF];exact bA rfl h
 have way:c / 12 % 4=0\/c / 12 % 4=1\/c / 12 % 4=2\/c / 12 % 4=3:=by omega
 rcases way with w | w | w | w
 . refine ⟨_,one (.t []) bs0 (1+c / 4 % 3),bN ?_⟩;rw[iB];dsimp only;rw[iS,dJ];generalize NM nms=M at *;simp[fU,hs,bO,cB,bT,w]
 . have rs:∀ r∈([([s],.t [],1+c / 4 % 3),([s1,s2],.t [],1)]:List Rw),r.1.length<64/\isK 2 (tr r).1:=λr hr=>by
     simp only[aPY,aUG,aSY] at hr;rcases hr with rfl | rfl
     . exact ⟨by simp,mY (by simp) (iA bs0)⟩
     . exact ⟨by simp,mY (by simp) (iA bs0)⟩
   have nr:=cD (tU (k:=k) rs (by simp))
   obtain ⟨S,p,e⟩:=pI (ts:=bD (([([s],.t [],1+c / 4 % 3),([s1,s2],.t [],1)]:List Rw).map tr));refine ⟨S,⟨⟨λz=>?_,by have:=mX (([([s],.t [],1+c / 4 % 3),([s1,s2],.t [],1)]:List Rw).map tr);rw[p.length_eq];rw[aQ1] at this;exact aUI this (by simp)⟩,λt ht=>?_⟩,bN ?_⟩
   . subst z;have hh:=(pC (gO (([([s],.t [],1+c / 4 % 3),([s1,s2],.t [],1)]:List Rw).map tr)).1 (tr ([s],.t [],1+c / 4 % 3)).1).mpr ⟨_,mcs,rfl⟩;obtain ⟨u,hu,_⟩:=hh;exact nomatch p.mem_iff.mpr hu
   . obtain ⟨u,hu,eu⟩:=(((gO (([([s],.t [],1+c / 4 % 3),([s1,s2],.t [],1)]:List Rw).map tr)).1 t.1 t.2).mp (p.mem_iff.mp ht)).1;rw[<- eu];obtain ⟨r,hr,rfl⟩:=aUF.mp hu;simp only[aPY,aUG,aSY] at hr;rcases hr with rfl | rfl
     . exact ⟨jK (by rw[(gM _).length_eq];simp),bs0⟩
     . exact ⟨jK (by rw[(gM _).length_eq];simp),bs0⟩
   . have eS:nf (([([s],.t [],1+c / 4 % 3),([s1,s2],.t [],1)]:List Rw).map tr)=nD (.t (S.map tmN)):=by unfold nf;rw[<- e,nD]
     rw[eS] at nr;have l2:dP (.ok [(.fz,.tup [.tup [.str s],.tup [],.int (1+c / 4 % 3)]),(.fz,.tup [.tup [.str s1,.str s2],.tup [],.int 1])])=.ok .fr (.lst (([([s],.t [],1+c / 4 % 3),([s1,s2],.t [],1)]:List Rw).map enc)):=by show Res.ok .fr (.lst [_,_])=.ok .fr (.lst [enc _,enc _]);simp only[enc,dJ];rfl
     generalize (([([s],.t [],1+c / 4 % 3),([s1,s2],.t [],1)]:List Rw).map enc)=LL at *;generalize NM nms=M at *;generalize nD (.t (S.map tmN))=RR at *;simp[fU,hs,h1,h2,bO,cB,dI,bT,w,l2,nr]
 . refine ⟨[((F [],.t []),1+c / 48 % 3)],⟨⟨by simp,by simp⟩,λt ht=>by cases aSV.mp ht;exact ⟨jK (by simp),bs0⟩⟩,bN ?_⟩
   rw[iB];dsimp only;rw[aAY,dJ];generalize NM nms=M at *;simp[fU,hs,bO,cB,bT,w]
 . refine ⟨_,one (.t [.t ([((F [s1],.t []),1)].map tmN)]) ⟨_,rfl,by simp,λr hr=>?_⟩ (1+c / 4 % 3),bN ?_⟩
   . cases aSV.mp hr;exact ⟨_,rfl,by simp,λt ht=>by cases aSV.mp ht;exact ⟨jK (by simp),rfl⟩⟩
   . rw[iB];dsimp only;have e2:nD (.t [.t ([((F [s1],.t []),(1:Int))].map tmN)])=.tup [.tup [.tup [.tup [.str s1],.tup [],.int 1]]]:=by rw[nD,nDL,iB,nDL];dsimp only;rw[iS,dJ]
     rw[iS,e2];generalize NM nms=M at *;simp[fU,hs,h1,bO,cB,bT,w,tM,tN]
theorem aAZ{α:Type}(P:α->Prop)(g:α->D){k:D->Rho->Option Rho}{t e:Rho->Res}{ρ0:Rho}:∀ {ds:List D},(∀ d∈ds,∃ ρ1 m x m',k d ρ0=some ρ1/\t ρ1=.ok m (.bl true)/\aY (e ρ1)=.ok m' (g x)/\P x)->∃ xs:List α,e9 k t e ρ0 ds=some (xs.map g)/\xs.length=ds.length/\∀ x∈xs,P x
 | [],_=>⟨[],rfl,rfl,λx hx=>nomatch hx⟩
 | d::ds,h=>by
  obtain ⟨ρ1,m,x,m',e1,e2,e3,px⟩:=h d mcs;obtain ⟨xs,f1,f2,f3⟩:=aAZ P g λy hy=>h y (mcm hy);refine ⟨x::xs,?_,by simp[f2],λy hy=>?_⟩
  . unfold e9;rw[e1];dsimp only;rw[e2];simp[e3,f1]
  . rcases aPY.mp hy with rfl | hy
    . exact px
    . exact f3 y hy
theorem tV{α:Type}(P:α->Prop)(g:α->D){ρ:Rho}{aD:List Nat}{n:Nat}{k:D->Rho->Option Rho}{t e:Rho->Res}{m:Md}{ds:List D}(hl:ds.length<sizeLine)(h:∀ d∈ds,∃ ρ1 m x m',k d (cN aD ρ++List.replicate n none)=some ρ1/\t ρ1=.ok m (.bl true)/\aY (e ρ1)=.ok m' (g x)/\P x):∃ xs:List α,b0 (.ok m (.lst ds)) ρ aD n k t e=.ok .fr (.lst (xs.map g))/\xs.length=ds.length/\∀ x∈xs,P x:=by obtain ⟨xs,f1,f2,f3⟩:=aAZ P g h;refine ⟨xs,?_,f2,f3⟩;unfold b0;rw[Res.thn_ok];dsimp only;rw[if_pos hl,f1]
def mZ:Int:=10000000000000000000000000000000000000000
theorem aA0:op2 (aZ .Pow) (.ok .fz (.int 10)) (.ok .fz (.int 40))=.ok .fz (.int mZ):=by rfl
theorem z40:(0:Int)<mZ:=by decide
theorem iT{ts:List Tr}(h:∀ t∈ts,isF t.1.1/\isBs 1 t.1.2):(N.t (ts.map tmN)).dp<=8:=by
 rw[N.dp];have:N.dpL (ts.map tmN)<=5:=jI λx hx=>by obtain ⟨t,ht,rfl⟩:=aUF.mp hx;have a1:=pF (h t ht).1;have a2:=tL (h t ht).2;simp only[tmN,N.dp,N.dpL];omega
 omega
theorem pJ{ts:List Tr}(h:isRs ts):dA (.t (ts.map tmN))=true:=by
 obtain ⟨h0,_⟩:=h;cases ts with
 | nil=>exact absurd rfl h0.1
 | cons t ts=>rfl
theorem iU{ts us:List Tr}(h1:isRs ts)(h2:isRs us):okN (.t (ts.map tmN)) (.t (us.map tmN))=true:=by rw[okN];refine jH λa ha b hb=>?_;obtain ⟨s,hs,rfl⟩:=aUF.mp ha;obtain ⟨t,ht,rfl⟩:=aUF.mp hb;exact mU (kN (h1.2 s hs).1 (h2.2 t ht).1) (mV (h1.2 s hs).2 (h2.2 t ht).2)
theorem aNV{ts us:List Tr}{m:Md}(h1:isRs ts)(h2:isRs us):∃ b:N,isBs 2 b/\eD eQ (cG (fO (.ok m (.lst [nD (.t (ts.map tmN)),nD (.t (us.map tmN))]))) (.ok []))=.ok .fz (nD b):=by
 have ok:okS [.t (ts.map tmN),.t (us.map tmN)]=true:=by
  unfold okS;simp only[aRI,aR4,aR2,aSB];refine ⟨⟨⟨λk hk=>?_,.inr λk hk=>?_⟩,λx hx y hy=>?_⟩,by simp⟩
  . simp only[aPY,aUG,aSY] at hk;rcases hk with rfl | rfl
    . exact iT h1.2
    . exact iT h2.2
  . simp only[aPY,aUG,aSY] at hk;rcases hk with rfl | rfl
    . exact pJ h1
    . exact pJ h2
  . simp only[aPY,aUG,aSY] at hx hy;rcases hx with rfl | rfl <;> rcases hy with rfl | rfl
    . exact iU h1 h1
    . exact iU h1 h2
    . exact iU h2 h1
    . exact iU h2 h2
 refine ⟨.t (two (.t (ts.map tmN)) (.t (us.map tmN))),⟨_,rfl,by unfold two;split <;> simp[aNN],λr hr=>?_⟩,?_⟩
 . have:r=.t (ts.map tmN)\/r=.t (us.map tmN):=by
     unfold two at hr;split at hr
     . exact .inl (aSV.mp hr)
     . simpa using (kA _).mem_iff.mp hr
   rcases this with rfl | rfl
   . exact ⟨ts,rfl,h1.1.2,h1.2⟩
   . exact ⟨us,rfl,h2.1.2,h2.2⟩
 . have e:fO (.ok m (.lst [nD (.t (ts.map tmN)),nD (.t (us.map tmN))]))=.ok .fr (.lst (nDL (two (.t (ts.map tmN)) (.t (us.map tmN))))):=by
     show (match cT (nD (.t (ts.map tmN))),cT (nD (.t (us.map tmN))) with | some k1,some k2=>if okS [k1,k2]=true then Res.ok .fr (.lst (nDL (two k1 k2))) else .stuck | _,_=>.stuck)=_
     rw[mS (iT h1.2),mS (iT h2.2)];dsimp only;rw[if_pos ok]
   rw[e,nD];rfl
theorem facts{k:Nat}{nms:List Str}(hn:nms.length=4)(c:Int)(ρ:Rho)(h0:ρ[0]? = some (some (false,.int c)))(h1:ρ[1]? = some (some (false,NM nms))):∃ xs:List Str,xs.length<64/\b0 (fL (.ok [(.fz,.int (c / 64 % 4))])) ρ [1,0] 1 (aQ (.nm 2)) (λρ=>evF (WT TT k) [] ρ) (λρ=>evE (WT TT k) (.ix (.var 0) (.bin .Mod (.bin .FloorDiv (.var 1) (.ix (.lst [(.int 1),(.int 4),(.int 16)]) (.var 2))) (.int 4))) ρ)=.ok .fr (.lst (xs.map .str)):=by
 have hr:fL (.ok [(.fz,.int (c / 64 % 4))])=.ok .fz (.lst (bG 0 (c / 64 % 4))):=by show (if (decide (-(2 ^ 62)<=c / 64 % 4)&&decide (c / 64 % 4<2 ^ 62))=true then Res.ok .fz (.lst (bG 0 (c / 64 % 4))) else .stuck)=_;rw[if_pos (by rw[aRI,aR2,aR2];omega)]
 have hsub:cN [1,0] ρ=[some (false,NM nms),some (false,.int c)]:=by simp[cN,h0,h1]
 rw[hr];have len:(bG 0 (c / 64 % 4)).length<64:=by simp[bG];omega
 obtain ⟨xs,e,l,_⟩:=tV (ρ:=ρ) (aD:=[1,0]) (n:=1) (k:=aQ (.nm 2)) (t:=λρ=>evF (WT TT k) [] ρ) (e:=λρ=>evE (WT TT k) (.ix (.var 0) (.bin .Mod (.bin .FloorDiv (.var 1) (.ix (.lst [(.int 1),(.int 4),(.int 16)]) (.var 2))) (.int 4))) ρ) (m:=.fz) (ds:=bG 0 (c / 64 % 4)) (λ_:Str=>True) D.str (by rw[aQH];omega) (λd hd=>by
  unfold bG at hd;obtain ⟨j,hj,rfl⟩:=aUF.mp hd;rw[aPU] at hj;have hj3:j=0\/j=1\/j=2:=by omega
  have l3:∀ {m:Md},dP (.ok [(.fz,.int 1),(.fz,.int 4),(.fz,.int 16)])=.ok .fr (.lst [.int 1,.int 4,.int 16]):=λ{m}=>rfl;rw[hsub];have i0:op2 ixD (.ok .fr (.lst [.int 1,.int 4,.int 16])) (.ok .fz (.int 0))=.ok .fz (.int 1):=bL rfl;have i1:op2 ixD (.ok .fr (.lst [.int 1,.int 4,.int 16])) (.ok .fz (.int 1))=.ok .fz (.int 4):=bL rfl;have i2:op2 ixD (.ok .fr (.lst [.int 1,.int 4,.int 16])) (.ok .fz (.int 2))=.ok .fz (.int 16):=bL rfl;rcases hj3 with rfl | rfl | rfl
  . obtain ⟨s,hs⟩:=kS hn (c / 1);have hs:=hs .fz .fz;refine ⟨[some (false,NM nms),some (false,.int c),some (false,.int 0)],.fz,s,.fz,by simp,by simp,?_,trivial⟩
    generalize NM nms=M at *;simp at hs;simp[l3 (m:=.fz),i0,hs]
  . obtain ⟨s,hs⟩:=kS hn (c / 4);have hs:=hs .fz .fz;refine ⟨[some (false,NM nms),some (false,.int c),some (false,.int 1)],.fz,s,.fz,by simp,by simp,?_,trivial⟩
    generalize NM nms=M at *;simp[l3 (m:=.fz),i1,hs]
  . obtain ⟨s,hs⟩:=kS hn (c / 16);have hs:=hs .fz .fz;refine ⟨[some (false,NM nms),some (false,.int c),some (false,.int 2)],.fz,s,.fz,by simp,by simp,?_,trivial⟩
    generalize NM nms=M at *;simp[l3 (m:=.fz),i2,hs])
 exact ⟨xs,by omega,e⟩
def iC(r:Rw):Prop:=r.1.length<64/\isBs 2 r.2.1/\aX r.1=r.1
theorem tW(xs:List Str):aX (aX xs)=aX xs:=(xY (l5 xs) (aT1 _)).symm
theorem m5(xs:List Str):(aX xs).length=xs.length:=(gM xs).length_eq
theorem term{k:Nat}{nms:List Str}(hn:nms.length=4)(c:Int):∃ r:Rw,iC r/\(WT TT (k+3)).Φ "_law_term" [.int c,NM nms]=.ok .fz (enc r):=by
 obtain ⟨xs,lx,hx⟩:=facts (k:=k+2) hn c [some (false,.int c),some (false,NM nms),none,none,none] rfl rfl;obtain ⟨ts,h1,b1⟩:=bar (k:=k) hn (c / 768);obtain ⟨us,h2,b2⟩:=bar (k:=k) hn (c / 9216);obtain ⟨b,hb,eb⟩:=aNV (m:=.fr) h1 h2;have b1:=dY b1;have b2:=dY b2;have s1:fN [(.fz,.lst (xs.map D.str))]=some (.fr,.lst ((aX xs).map .str)):=mW rfl lx;have s2:eQ [(.fr,.lst ((aX xs).map D.str))]=some (.fz,.tup ((aX xs).map .str)):=rfl;have bN:∀ {d:D},evB (WT TT (k+2)) bS [some (false,.int c),some (false,NM nms),none,none,none]=.rt .fz d->(WT TT (k+3)).Φ "_law_term" [.int c,NM nms]=.ok .fz d:=λ{d} h=>by rw[aAG];exact bA rfl h
 have l2:∀ {x y:D},dP (.ok [(.fz,x),(.fz,y)])=.ok .fr (.lst [x,y]):=rfl;have bars:∃ b:N,isBs 2 b/\evB (WT TT (k+2)) (bS.drop 1 |>.take 3) [some (false,.int c),some (false,NM nms),some (false,.lst (xs.map .str)),none,none]=.nx [some (false,.int c),some (false,NM nms),some (false,.lst (xs.map .str)),some (false,nD b),none]:=by
  have way:c / 256 % 3=0\/c / 256 % 3=1\/c / 256 % 3=2:=by omega
  have bn:isBs 2 (.t []):=iA bs0;generalize xs.map D.str=X at *;generalize NM nms=M at *;rcases way with w | w | w
  . refine ⟨.t [],bn,?_⟩;rw[dJ];simp[bS,bO,w]
  . refine ⟨.t [.t (ts.map tmN)],⟨_,rfl,by simp,λr hr=>by cases aSV.mp hr;exact ⟨ts,rfl,h1.1.2,h1.2⟩⟩,?_⟩
    have e:nD (.t [.t (ts.map tmN)])=.tup [nD (.t (ts.map tmN))]:=by rw[nD,nDL,nDL]
    rw[e];generalize nD (.t (ts.map tmN))=R1 at *;simp[bS,bO,cB,w,b1]
  . refine ⟨b,hb,?_⟩;generalize nD (.t (ts.map tmN))=R1 at *;generalize nD (.t (us.map tmN))=R2 at *;generalize nD b=BB at *;simp[bS,bO,w,b1,b2,l2,Ty.f,eb]
 obtain ⟨b',hb',eb'⟩:=bars;have times:∃ n:Int,evB (WT TT (k+2)) (bS.drop 4) [some (false,.int c),some (false,NM nms),some (false,.lst (xs.map .str)),some (false,nD b'),none]=.rt .fz (.tup [.tup ((aX xs).map .str),nD b',.int n]):=by
  generalize xs.map D.str=X at *;generalize (aX xs).map D.str=Y at *;generalize NM nms=M at *;generalize nD b'=BB at *;by_cases w:c % 5=2
  . refine ⟨1+c / 7 % mZ,?_⟩;simp[bS,w,aA0,z40,s1,s2,Ty.f,bT]
  . refine ⟨1+c / 768 % 3,?_⟩;have w:(c % 5==2)=false:=by simpa using w
    simp[bS,w,s1,s2,Ty.f,bT]
 obtain ⟨n,en⟩:=times;refine ⟨(aX xs,b',n),⟨by rw[m5];exact lx,hb',tW xs⟩,bN ?_⟩
 have split:bS=bS.take 1++((bS.drop 1).take 3++bS.drop 4):=rfl;rw[split,dB];have first:evB (WT TT (k+2)) (bS.take 1) [some (false,.int c),some (false,NM nms),none,none,none]=.nx [some (false,.int c),some (false,NM nms),some (false,.lst (xs.map .str)),none,none]:=by generalize xs.map D.str=X at *;generalize NM nms=M at *;simp at hx;simp[bS,hx]
 rw[first,aG.thn_nx,dB,eb',aG.thn_nx,en]
 rfl
theorem ix_s{z:Str}{m m':Md}{i:Int}{c:Nat}(h:atI z.cps.toList i=some c):op2 ixD (.ok m (.str z)) (.ok m' (.int i))=.ok .fz (.str ⟨#[c]⟩):=cI (by show (atI z.cps.toList i).map _=_;rw[h];rfl)
def bJ:Str := "abcdefghijklmnopqrstuvwxyz"
def bM:Str:=bJ++("0123456789" : Str)
def iV:List Nat:=bJ.cps.toList
def gQ:List Nat:=bM.cps.toList
theorem pK:iV.length=26:=by decide +kernel
theorem pL:gQ.length=36:=by decide +kernel
def iW(v:Int):Nat:=iV.getD (v % 26).toNat 0
def sgn(v:Int):Nat:=gQ.getD (v % 36).toNat 0
theorem pM{l:List Nat}{n:Nat}(hn:l.length=n)(h0:0<n)(v:Int):atI l (v % (n:Int))=some (l.getD (v % (n:Int)).toNat 0)/\l.getD (v % (n:Int)).toNat 0∈l:=by
 have h0':=aUP v (show (n:Int)≠0 by omega)
 have h1:=aUQ v (show (0:Int)<n by omega)
 obtain ⟨j,hj⟩:=aUR h0';rw[hj];have h2:j<l.length:=by omega
 rw[aQ8,aSD,aSE h2];exact ⟨gZ (aSE h2),aSF h2⟩
theorem aNW(v:Int)(m m':Md):op2 ixD (.ok m (.str bJ)) (.ok m' (.int (v % 26)))=.ok .fz (.str ⟨#[iW v]⟩):=ix_s (pM pK (by decide) v).1
theorem aNX(v:Int)(m m':Md):op2 ixD (.ok m (.str bM)) (.ok m' (.int (v % 36)))=.ok .fz (.str ⟨#[sgn v]⟩):=ix_s (pM pL (by decide) v).1
theorem aA1(v:Int):iW v∈iV:=(pM pK (by decide) v).2
theorem aNY(v:Int):sgn v∈gQ:=(pM pL (by decide) v).2
theorem aNZ:∀ c∈iV,c∈gQ:=by decide +kernel
theorem nd26:iV.Nodup:=by decide +kernel
theorem nd36:gQ.Nodup:=by decide +kernel
theorem aA2{l:List Nat}(nd:l.Nodup){i j:Nat}(hi:i<l.length)(hj:j<l.length)(e:l.getD i 0=l.getD j 0):i=j:=by rw[aSD,aSD,aSE hi,aSE hj] at e;exact (List.getElem_inj nd).mp (by simpa using e)
theorem aN0{v:Int}{i j:Nat}(hi:i<4)(hj:j<4)(e:iW (v+(i:Int))=iW (v+(j:Int))):i=j:=by
 have:=aA2 nd26 (by rw[pK];omega) (by rw[pK];omega) e
 omega
theorem aN1{v:Int}{i j:Nat}(hi:i<4)(hj:j<4)(e:sgn (v+(i:Int))=sgn (v+(j:Int))):i=j:=by
 have:=aA2 nd36 (by rw[pL];omega) (by rw[pL];omega) e
 omega
def vj(c k at' j:Int):Int:=if j=at' then c / 25+k else c / (7+6 * j)+11 * j
def chr(c k at' j:Int):Nat:=if j=0 then iW (vj c k at' j) else sgn (vj c k at' j)
def ap1(z:Str)(c:Nat):Str:=z++(⟨#[c]⟩:Str)
theorem aN2(a b:Str):(a++b).length=a.length+b.length:=by show (a.cps++b.cps).size=_;rw[Array.size_append];rfl
theorem aA3(a b:Str):(a++b).cps.toList=a.cps.toList++b.cps.toList:=by show (a.cps++b.cps).toList=_;rw[Array.toList_append]
theorem aN3{W:WD}{c k at' j:Int}{x1 x4 x6 x10:Option (Bool×D)}{z:Str}(hj:0<=j)(hj5:j<=4)(hz:z.length<=50):evB W eW [some (false,.int c),x1,some (false,.str bJ),some (false,.str bM),x4,some (false,.int at'),x6,some (false,.int k),some (false,.str z),some (false,.int j),x10]=.nx [some (false,.int c),x1,some (false,.str bJ),some (false,.str bM),x4,some (false,.int at'),x6,some (false,.int k),some (false,.str (ap1 z (chr c k at' j))),some (false,.int j),some (false,.int (vj c k at' j))]:=by
 have m6:op2 (aZ .Mult) (.ok .fz (.int 6)) (.ok .fz (.int j))=.ok .fz (.int (6 * j)):=zB (by decide)
 have m11:op2 (aZ .Mult) (.ok .fz (.int 11)) (.ok .fz (.int j))=.ok .fz (.int (11 * j)):=zB (by decide)
 have d7:op2 (aZ .FloorDiv) (.ok .fz (.int c)) (.ok .fz (.int (7+6 * j)))=.ok .fz (.int (c / (7+6 * j))):=sQ (by omega) (by omega)
 have st : ∀ v : Int, evB W [eW.getD 2 .never] [some (false, .int c), x1, some (false, .str bJ), some (false, .str bM), x4, some (false, .int at'), x6, some (false, .int k), some (false, .str z), some (false, .int j), some (false, .int v)] =
     .nx [some (false,.int c),x1,some (false,.str bJ),some (false,.str bM),x4,some (false,.int at'),x6,some (false,.int k),some (false,.str (ap1 z (if j=0 then iW v else sgn v))),some (false,.int j),some (false,.int v)]:=λv=>by
  have e1:=aNW v .fz .fz;have e2:=aNX v .fz .fz;have a1:op2 (aZ .Add) (.ok .fz (.str z)) (.ok .fz (.str ⟨#[iW v]⟩))=.ok .fz (.str (ap1 z (iW v))):=oU (by rw[aQH];show z.length+1<=_;omega)
  have a2:op2 (aZ .Add) (.ok .fz (.str z)) (.ok .fz (.str ⟨#[sgn v]⟩))=.ok .fz (.str (ap1 z (sgn v))):=oU (by rw[aQH];show z.length+1<=_;omega)
  generalize bJ=LL at *;generalize bM=SS at *;by_cases w:j=0
  . rw[if_pos w];simp[eW,w,e1,a1]
  . rw[if_neg w];have w:(j==0)=false:=by simpa using w
    simp[eW,w,e2,a2]
 have fst : evB W (eW.take 2) [some (false, .int c), x1, some (false, .str bJ), some (false, .str bM), x4, some (false, .int at'), x6, some (false, .int k), some (false, .str z), some (false, .int j), x10] =
     .nx [some (false,.int c),x1,some (false,.str bJ),some (false,.str bM),x4,some (false,.int at'),x6,some (false,.int k),some (false,.str z),some (false,.int j),some (false,.int (vj c k at' j))]:=by
  unfold vj;generalize bJ=LL at *;generalize bM=SS at *;by_cases w:j=at'
  . subst w;rw[if_pos rfl];simp[eW,m6,m11,d7]
  . rw[if_neg w];have w:(j==at')=false:=by simpa using w
    simp[eW,m6,m11,d7,w]
 have split:eW=eW.take 2++[eW.getD 2 .never]:=rfl;rw[split,dB,fst,aG.thn_nx];exact st _
theorem jL{k:D->Rho->Option Rho}{body:Rho->aG}{d:D}{ds:List D}{ρ ρ1 ρ2:Rho}(h1:k d ρ=some ρ1)(h2:body ρ1=.nx ρ2):cM k body (d::ds) ρ=cM k body ds ρ2:=by
 conv=>lhs;unfold cM
 rw[h1];dsimp only;rw[h2]
theorem aN4(z:Str)(c:Nat):(ap1 z c).length=z.length+1:=aN2 _ _
theorem aA4{W:WD}{c k at':Int}{x1 x4 x6:Option (Bool×D)}:∀ (js:List Int) (z:Str) (x9 x10:Option (Bool×D)),(∀ j∈js,0<=j/\j<=4)->z.length+js.length<=50->∃ (z':Str) (y9 y10:Option (Bool×D)),z'.cps.toList=z.cps.toList++js.map (chr c k at')/\cM (aQ (.nm 9)) (evB W eW) (js.map .int) [some (false,.int c),x1,some (false,.str bJ),some (false,.str bM),x4,some (false,.int at'),x6,some (false,.int k),some (false,.str z),x9,x10]=.nx [some (false,.int c),x1,some (false,.str bJ),some (false,.str bM),x4,some (false,.int at'),x6,some (false,.int k),some (false,.str z'),y9,y10]
 | [],z,x9,x10,_,_=>⟨z,x9,x10,by simp,rfl⟩
 | j::js,z,x9,x10,h,hz=>by
  rw[aR1] at hz;have e1:=aN3 (W:=W) (c:=c) (k:=k) (at':=at') (x1:=x1) (x4:=x4) (x6:=x6) (x10:=x10) (z:=z) (h j mcs).1 (h j mcs).2 (by omega)
  obtain ⟨z2,y9,y10,l2,e2⟩:=aA4 (W:=W) (c:=c) (k:=k) (at':=at') (x1:=x1) (x4:=x4) (x6:=x6) js (ap1 z (chr c k at' j)) (some (false,.int j)) (some (false,.int (vj c k at' j))) (λi hi=>h i (mcm hi)) (by rw[aN4];omega)
  refine ⟨z2,y9,y10,?_,?_⟩
  . rw[l2];unfold ap1;rw[aA3,aRN,aS6];rfl
  . rw[aRN,jL (show aQ (.nm 9) (.int j) [some (false,.int c),x1,some (false,.str bJ),some (false,.str bM),x4,some (false,.int at'),x6,some (false,.int k),some (false,.str z),x9,x10]=some [some (false,.int c),x1,some (false,.str bJ),some (false,.str bM),x4,some (false,.int at'),x6,some (false,.int k),some (false,.str z),some (false,.int j),x10] from by simp) e1]
    exact e2
def Nm(z:Str):Prop:=(∃ c l,z.cps.toList=c::l/\c∈iV)/\(∀ c∈z.cps.toList,c∈gQ)/\z.length<=40
theorem aN5{t:Int}(h0:0<=t)(h4:t<4):∀ c∈(Txt.slice "a9z" none (some t)).cps.toList,c∈gQ:=by
 have:t=0\/t=1\/t=2\/t=3:=by omega
 rcases this with rfl | rfl | rfl | rfl <;> decide +kernel
theorem aN6(c k at' j:Int):chr c k at' j∈gQ:=by
 unfold chr;split
 . exact aNZ _ (aA1 _)
 . exact aNY _
theorem chr0(c k at':Int):chr c k at' 0∈iV:=by unfold chr;rw[if_pos rfl];exact aA1 _
theorem aN7{z:Str}{m m':Md}{g:Rho->Res}{ρ:Rho}{i:Int}(h:g ρ=.ok m' (.int i)):slP (.ok m (.str z)) none (some g) ρ=.ok .fz (.str (Txt.slice z none (some i))):=by unfold slP;rw[Res.thn_ok];show cF none ρ _=_;unfold cF;show (g ρ).thn _=_;rw[h];rfl
def fE(n:Int):List Int:=(List.range n.toNat).map λi:Nat=>(i:Int)
theorem rng5(n:Int)(h0:0<=n)(h5:n<=5):(fE n).length=n.toNat/\(∀ j∈fE n,0<=j/\j<=4)/\fL (.ok [(.fz,.int n)])=.ok .fz (.lst ((fE n).map .int)):=by
 unfold fE;refine ⟨by simp,λj hj=>?_,?_⟩
 . obtain ⟨i,hi,rfl⟩:=aUF.mp hj;rw[aPU] at hi;omega
 . show (if (decide (-(2 ^ 62)<=n)&&decide (n<2 ^ 62))=true then Res.ok .fz (.lst (bG 0 n)) else .stuck)=_;rw[if_pos (by rw[aRI,aR2,aR2];omega)]
   unfold bG;rw[aT6,Int.sub_zero];congr 3;funext i;show D.int (0+(i:Int))=D.int i;rw[aUO]
def eX(c n at':Int)(k:Int)(s:Str):Prop:=∃ z:Str,s.cps.toList=(fE n).map (chr c k at')++z.cps.toList/\(∀ x∈z.cps.toList,x∈gQ)/\z.length<=3
theorem eX.nm{c n at' k:Int}{s:Str}(h:eX c n at' k s)(h1:1<=n)(h5:n<=5):Nm s:=by
 obtain ⟨z,e,hz,lz⟩:=h;have hj:∃ r,fE n=0::r:=by
  unfold fE;obtain ⟨m,hm⟩:∃ m,n.toNat=m+1:=⟨n.toNat-1,by omega⟩
  rw[hm,List.range_succ_eq_map];exact ⟨_,rfl⟩
 have lj:(fE n).length<=5:=by rw[(rng5 n (by omega) h5).1];omega
 obtain ⟨r,hr⟩:=hj;refine ⟨⟨chr c k at' 0,r.map (chr c k at')++z.cps.toList,by rw[e,hr];rfl,chr0 c k at'⟩,λx hx=>?_,?_⟩
 . rw[e] at hx;rcases aPZ.mp hx with hx | hx
   . obtain ⟨j,_,rfl⟩:=aUF.mp hx;exact aN6 c k at' j
   . exact hz x hx
 . have:=congrArg List.length e;rw[aQ0,aQ1] at this;show s.cps.size<=40;rw[<- aP7,this];have lz:z.cps.toList.length<=3:=by rw[aP7];exact lz
   omega
theorem eX.apart{c n at':Int}{i j:Nat}{s:Str}(h0:0<=at')(hn:at'<n)(hi:i<4)(hj:j<4)(h1:eX c n at' i s)(h2:eX c n at' j s):i=j:=by
 obtain ⟨z1,e1,_⟩:=h1;obtain ⟨z2,e2,_⟩:=h2;rw[e1] at e2;have e3:=(List.append_inj e2 (by simp)).1
 have hm:at'∈fE n:=by unfold fE;exact aUF.mpr ⟨at'.toNat,aPU.mpr (by omega),by omega⟩
 have e4:chr c i at' at'=chr c j at' at':=List.map_inj_left.mp e3 at' hm;unfold chr vj at e4;rw[if_pos rfl,if_pos rfl] at e4;split at e4
 . exact aN0 hi hj e4
 . exact aN1 hi hj e4
theorem aN8{W:WD}{c k at' n:Int}{x1 x8 x9 x10:Option (Bool×D)}{ns:List Str}(h0:0<=n)(h5:n<=5)(hk:0<=k)(hk3:k<=3)(hl:ns.length<=10):∃ (s:Str) (y8 y9 y10:Option (Bool×D)),eX c n at' k s/\evB W iP [some (false,.int c),x1,some (false,.str bJ),some (false,.str bM),some (false,.int n),some (false,.int at'),some (true,.lst (ns.map .str)),some (false,.int k),x8,x9,x10]=.nx [some (false,.int c),x1,some (false,.str bJ),some (false,.str bM),some (false,.int n),some (false,.int at'),some (true,.lst ((ns++[s]).map .str)),some (false,.int k),y8,y9,y10]:=by
 obtain ⟨lj,hj,er⟩:=rng5 n h0 h5;obtain ⟨z,y9,y10,lz,ez⟩:=aA4 (W:=W) (c:=c) (k:=k) (at':=at') (x1:=x1) (x4:=some (false,.int n)) (x6:=some (true,.lst (ns.map .str))) (fE n) Str.empty x9 x10 hj (by show 0+_<=_;omega)
 have lz:z.cps.toList=(fE n).map (chr c k at'):=lz;have ll:z.length<=5:=by show z.cps.size<=5;rw[<- aP7,lz,aQ1];omega
 have d5:op2 (aZ .FloorDiv) (.ok .fz (.int c)) (.ok .fz (.int (5+k)))=.ok .fz (.int (c / (5+k))):=sQ (by omega) (by omega)
 have l3:(Txt.slice "a9z" none (some (c / (5+k) % 4))).length<=3:=aR8 _ _ _;refine ⟨z++Txt.slice "a9z" none (some (c / (5+k) % 4)),some (false,.str z),y9,y10,⟨_,by rw[aA3,lz],aN5 (by omega) (by omega),l3⟩,?_⟩
 have sl:slP (.ok .fz (.str "a9z")) none (some (evE W (.bin .Mod (.bin .FloorDiv (.var 0) (.bin .Add (.int 5) (.var 7))) (.int 4)))) [some (false,.int c),x1,some (false,.str bJ),some (false,.str bM),some (false,.int n),some (false,.int at'),some (true,.lst (ns.map .str)),some (false,.int k),some (false,.str z),y9,y10]=.ok .fz (.str (Txt.slice "a9z" none (some (c / (5+k) % 4)))):=aN7 (m':=.fz) (by
  generalize bJ=LL at *;generalize bM=SS at *;simp[d5])
 have a1:op2 (aZ .Add) (.ok .fz (.str z)) (.ok .fz (.str (Txt.slice "a9z" none (some (c / (5+k) % 4)))))=.ok .fz (.str (z++Txt.slice "a9z" none (some (c / (5+k) % 4)))):=oU (by rw[aQH];omega)
 have ap:∀ s:Str,hU [some (false,.int c),x1,some (false,.str bJ),some (false,.str bM),some (false,.int n),some (false,.int at'),some (true,.lst (ns.map .str)),some (false,.int k),some (false,.str z),y9,y10] 6 (.ok .fz (.str s))=.nx [some (false,.int c),x1,some (false,.str bJ),some (false,.str bM),some (false,.int n),some (false,.int at'),some (true,.lst ((ns++[s]).map .str)),some (false,.int k),some (false,.str z),y9,y10]:=λs=>by
  show (if (ns.map D.str).length<sizeLine then _ else _)=_;rw[if_pos (by rw[aQ1,aQH];omega),aUM]
  rfl
 have ap:=ap (z++Txt.slice "a9z" none (some (c / (5+k) % 4)));have ez:cM (aQ (.nm 9)) (evB W eW) ((fE n).map .int) [some (false,.int c),x1,some (false,.str bJ),some (false,.str bM),some (false,.int n),some (false,.int at'),some (true,.lst (ns.map .str)),some (false,.int k),some (false,.str (Str.ofString "")),x9,x10]=_:=ez;unfold iP;generalize eW=B at *;generalize bJ=LL at *;generalize bM=SS at *;generalize (z++Txt.slice "a9z" none (some (c / (5+k) % 4)))=ZZ at *;generalize (Txt.slice "a9z" none (some (c / (5+k) % 4)))=Z3 at *;generalize E.bin .Mod (.bin .FloorDiv (.var 0) (.bin .Add (.int 5) (.var 7))) (.int 4)=EE at *;generalize ns.map D.str=X at *;generalize (ns++[ZZ]).map D.str=Y at *;simp[er,fM,ez,sl,a1,ap]
theorem names{k:Nat}(c:Int):∃ ns:List Str,ns.length=4/\(∀ s∈ns,Nm s)/\ns.Nodup/\(WT TT (k+1)).Φ "_law_names" [.int c,.int 4]=.ok .fr (NM ns):=by
 have n0:0<=1+c % 5:=by omega
 have n5:1+c % 5<=5:=by omega
 have st:∀ (ns:List Str) (i:Int) (x8 x9 x10:Option (Bool×D)),0<=i->i<=3->ns.length<=10->∃ (s:Str) (y8 y9 y10:Option (Bool×D)),eX c (1+c % 5) (c / 5 % (1+c % 5)) i s/\evB (WT TT k) iP [some (false,.int c),some (false,.int 4),some (false,.str bJ),some (false,.str bM),some (false,.int (1+c % 5)),some (false,.int (c / 5 % (1+c % 5))),some (true,.lst (ns.map .str)),some (false,.int i),x8,x9,x10]=.nx [some (false,.int c),some (false,.int 4),some (false,.str bJ),some (false,.str bM),some (false,.int (1+c % 5)),some (false,.int (c / 5 % (1+c % 5))),some (true,.lst ((ns++[s]).map .str)),some (false,.int i),y8,y9,y10]:=λns i x8 x9 x10 hi hi3 hl=>aN8 n0 n5 hi hi3 hl;obtain ⟨s0,a8,a9,a10,q0,e0⟩:=st [] 0 none none none (by decide) (by decide) (by simp)
 obtain ⟨s1,b8,b9,b10,q1,e1⟩:=st ([]++[s0]) 1 a8 a9 a10 (by decide) (by decide) (by simp)
 obtain ⟨s2,c8,c9,c10,q2,e2⟩:=st ([]++[s0]++[s1]) 2 b8 b9 b10 (by decide) (by decide) (by simp)
 obtain ⟨s3,d8,d9,d10,q3,e3⟩:=st ([]++[s0]++[s1]++[s2]) 3 c8 c9 c10 (by decide) (by decide) (by simp)
 have a0':0<=c / 5 % (1+c % 5):=aUP _ (by omega)
 have a1':c / 5 % (1+c % 5)<1+c % 5:=aUQ _ (by omega)
 have ap:∀ {i j:Nat} {x y:Str},i<4->j<4->i≠j->eX c (1+c % 5) (c / 5 % (1+c % 5)) (i:Int) x->eX c (1+c % 5) (c / 5 % (1+c % 5)) (j:Int) y->x≠y:=λhi hj ne h1 h2 e=>by subst e;exact ne (eX.apart a0' a1' hi hj h1 h2)
 have q0:eX c (1+c % 5) (c / 5 % (1+c % 5)) ((0:Nat):Int) s0:=q0;have q1:eX c (1+c % 5) (c / 5 % (1+c % 5)) ((1:Nat):Int) s1:=q1;have q2:eX c (1+c % 5) (c / 5 % (1+c % 5)) ((2:Nat):Int) s2:=q2;have q3:eX c (1+c % 5) (c / 5 % (1+c % 5)) ((3:Nat):Int) s3:=q3;have n1':1<=1+c % 5:=by omega
 refine ⟨[s0,s1,s2,s3],rfl,λs hs=>?_,?_,?_⟩
 . simp only[aPY,aUG,aSY] at hs;rcases hs with rfl | rfl | rfl | rfl
   . exact q0.nm n1' n5
   . exact q1.nm n1' n5
   . exact q2.nm n1' n5
   . exact q3.nm n1' n5
 . have d01:=ap (by decide) (by decide) (by decide) q0 q1
   have d02:=ap (by decide) (by decide) (by decide) q0 q2
   have d03:=ap (by decide) (by decide) (by decide) q0 q3
   have d12:=ap (by decide) (by decide) (by decide) q1 q2
   have d13:=ap (by decide) (by decide) (by decide) q1 q3
   have d23:=ap (by decide) (by decide) (by decide) q2 q3
   simp[d01,d02,d03,d12,d13,d23]
 have rg:fL (.ok [(.fz,.int 4)])=.ok .fz (.lst [.int 0,.int 1,.int 2,.int 3]):=rfl;have sg:∀ (d:D) (L:List D) (x7 x8 x9 x10:Option (Bool×D)),aQ (.nm 7) d [some (false,.int c),some (false,.int 4),some (false,.str bJ),some (false,.str bM),some (false,.int (1+c % 5)),some (false,.int (c / 5 % (1+c % 5))),some (true,.lst L),x7,x8,x9,x10]=some [some (false,.int c),some (false,.int 4),some (false,.str bJ),some (false,.str bM),some (false,.int (1+c % 5)),some (false,.int (c / 5 % (1+c % 5))),some (true,.lst L),some (false,d),x8,x9,x10]:=λd L x7 x8 x9 x10=>rfl;have lp:cM (aQ (.nm 7)) (evB (WT TT k) iP) [.int 0,.int 1,.int 2,.int 3] [some (false,.int c),some (false,.int 4),some (false,.str bJ),some (false,.str bM),some (false,.int (1+c % 5)),some (false,.int (c / 5 % (1+c % 5))),some (true,.lst []),none,none,none,none]=.nx [some (false,.int c),some (false,.int 4),some (false,.str bJ),some (false,.str bM),some (false,.int (1+c % 5)),some (false,.int (c / 5 % (1+c % 5))),some (true,NM [s0,s1,s2,s3]),some (false,.int 3),d8,d9,d10]:=by have e0:evB (WT TT k) iP [some (false,.int c),some (false,.int 4),some (false,.str bJ),some (false,.str bM),some (false,.int (1+c % 5)),some (false,.int (c / 5 % (1+c % 5))),some (true,.lst []),some (false,.int 0),none,none,none]=_:=e0;rw[jL (sg _ _ _ _ _ _) e0,jL (sg _ _ _ _ _ _) e1,jL (sg _ _ _ _ _ _) e2,jL (sg _ _ _ _ _ _) e3];rfl
 have a0:op2 (aZ .Add) (.ok .fz (.str bJ)) (.ok .fz (.str "0123456789"))=.ok .fz (.str bM):=oU (by decide +kernel)
 have md:op2 (aZ .Mod) (.ok .fz (.int (c / 5))) (.ok .fz (.int (1+c % 5)))=.ok .fz (.int (c / 5 % (1+c % 5))):=mM (by omega)
 have rt:∀ {L:D} {x7 x8 x9 x10:Option (Bool×D)},fJ [some (false,.int c),some (false,.int 4),some (false,.str bJ),some (false,.str bM),some (false,.int (1+c % 5)),some (false,.int (c / 5 % (1+c % 5))),some (true,L),x7,x8,x9,x10] 6=.rt .fr L:=rfl;rw[aM5];refine bA rfl ?_;show evB _ o4 [some (false,.int c),some (false,.int 4),none,none,none,none,none,none,none,none,none]=_;have bd:o4=[.set 2 (.str bJ),.set 3 (.frz (.bin .Add (.var 2) (.str "0123456789"))),.set 4 (.frz (.bin .Add (.int 1) (.bin .Mod (.var 0) (.int 5)))),.set 5 (.frz (.bin .Mod (.bin .FloorDiv (.var 0) (.int 5)) (.var 4))),.set 6 (.lst []),.for (.rng1 (.var 1)) (.nm 7) iP,.retV 6]:=rfl;rw[bd];generalize iP=B at *;generalize bJ=LL at *;generalize bM=SS at *;generalize NM [s0,s1,s2,s3]=OUT at *;simp[a0,md,lst0,rg,fM,lp,rt]
inductive Sz:N->Prop where
 | i (n:Int):Sz (.i n)
 | s (x:Str):Sz (.s x)
 | t {xs:List N} (h:∀ x∈xs,Sz x) (hl:xs.length<1000):Sz (.t xs)
theorem sz_F{f:N}(h:isF f):Sz f:=by
 obtain ⟨xs,rfl,l⟩:=h;refine .t (λx hx=>?_) (by rw[aQ1];omega)
 obtain ⟨a,_,rfl⟩:=aUF.mp hx;exact .s a
theorem pN{t:Tr}(h1:Sz t.1.1)(h2:Sz t.1.2):Sz (tmN t):=.t (λx hx=>by
 simp only[aPY,aUG,aSY] at hx;rcases hx with rfl | rfl | rfl
 . exact h1
 . exact h2
 . exact .i _) (by simp)
theorem sz_B:∀ {j:Nat} {b:N},isBs j b->Sz b
 | 0,b,h=>by cases h;exact .t (λx hx=>nomatch hx) (by simp)
 | j+1,b,h=>by
  obtain ⟨rs,rfl,l,h⟩:=h;refine .t (λr hr=>?_) (by omega)
  obtain ⟨ts,rfl,l2,h⟩:=h r hr;refine .t (λx hx=>?_) (by rw[aQ1];omega)
  obtain ⟨t,ht,rfl⟩:=aUF.mp hx;exact pN (sz_F (h t ht).1) (sz_B (h t ht).2)
theorem m7{k:D->Rho->Option Rho}{body:Rho->aG}(P:Rho->Prop):∀ (ds:List D) (ρ:Rho),P ρ->(∀ d∈ds,∀ ρ,P ρ->∃ ρ1,k d ρ=some ρ1/\P ρ1/\body ρ1=.nx ρ1)->∃ ρ',cM k body ds ρ=.nx ρ'/\P ρ'
 | [],ρ,h,_=>⟨ρ,rfl,h⟩
 | d::ds,ρ,h,hs=>by obtain ⟨ρ1,e1,h1,e2⟩:=hs d mcs ρ h;obtain ⟨ρ',e3,h3⟩:=m7 P ds ρ1 h1 λx hx=>hs x (mcm hx);exact ⟨ρ',by rw[jL e1 e2];exact e3,h3⟩
theorem aA5{ks:List N}{i:Nat}(h:i<ks.length):atI (nDL ks) (i:Int)=some (nD ks[i]):=by rw[gL];exact gZ (by rw[aQY,aSE h];rfl)
theorem aA6(ks:List N):(nDL ks).length=ks.length:=by rw[gL,aQ1]
theorem rng_n{n:Int}(h0:0<=n)(h1:n<1000):fL (.ok [(.fz,.int n)])=.ok .fz (.lst (bG 0 n)):=by show (if (decide (-(2 ^ 62)<=n)&&decide (n<2 ^ 62))=true then Res.ok .fz (.lst (bG 0 n)) else .stuck)=_;rw[if_pos (by rw[aRI,aR2,aR2];omega)]
theorem aN9{xs:List N}{m:Nat}(hl:xs.length<1000)(ih:∀ x∈xs,(WT TT m).Φ "_law_alike" [nD x,nD x]=.ok .fz (.bl true)):(WT TT (m+1)).Φ "_law_alike" [.tup (nDL xs),.tup (nDL xs)]=.ok .fz (.bl true):=by
 have ln:eE [(.fz,.tup (nDL xs))]=some (.fz,.int xs.length):=by show some (Md.fz,D.int ((nDL xs).length:Nat))=_;rw[aA6]
 have rg:=rng_n (n:=(xs.length:Int)) (by omega) (by omega)
 obtain ⟨ρ',e1,x,rfl⟩:=m7 (k:=aQ (.nm 2)) (body:=evB (WT TT m) mN) (λρ=>∃ x,ρ=[some (false,.tup (nDL xs)),some (false,.tup (nDL xs)),x]) (bG 0 xs.length) [some (false,.tup (nDL xs)),some (false,.tup (nDL xs)),none] ⟨none,rfl⟩ (λd hd ρ hρ=>by
  obtain ⟨x,rfl⟩:=hρ;unfold bG at hd;obtain ⟨j,hj,rfl⟩:=aUF.mp hd;rw[aPU] at hj;have hj:j<xs.length:=by omega
  rw[aUO];refine ⟨[some (false,.tup (nDL xs)),some (false,.tup (nDL xs)),some (false,.int j)],rfl,⟨_,rfl⟩,?_⟩;have ix:op2 ixD (.ok .fz (.tup (nDL xs))) (.ok .fz (.int (j:Int)))=.ok .fz (nD xs[j]):=jJ (aA5 hj);have al:=dY (ih xs[j] (aSF hj));generalize D.tup (nDL xs)=A at *;generalize nD xs[j]=B at *;simp[mN,ix,al])
 have i2:bI [(.fz,.tup (nDL xs)),(.fz,.ty "bool")]=some (.fz,.bl false):=rfl;have i3:bI [(.fz,.tup (nDL xs)),(.fz,.ty "int")]=some (.fz,.bl false):=rfl;have i4:bI [(.fz,.tup (nDL xs)),(.fz,.ty "str")]=some (.fz,.bl false):=rfl;have i5:bI [(.fz,.tup (nDL xs)),(.fz,.ty "tuple")]=some (.fz,.bl true):=rfl;have nn:eH (.tup (nDL xs))=false:=rfl;generalize bG 0 xs.length=RG at *;generalize (xs.length:Int)=LN at *;rw[pB];refine bA rfl ?_;show evB _ dC [some (false,.tup (nDL xs)),some (false,.tup (nDL xs)),none]=_;have split:dC=dC.take 4++((dC.drop 4).take 1++dC.drop 5):=rfl;rw[split,dB];have p1:evB (WT TT m) (dC.take 4) [some (false,.tup (nDL xs)),some (false,.tup (nDL xs)),none]=.nx [some (false,.tup (nDL xs)),some (false,.tup (nDL xs)),none]:=by
  clear e1 rg ln i5
  generalize D.tup (nDL xs)=A at *;simp[dC,i2,i3,i4,Ty.id,nn]
 have p2:evB (WT TT m) ((dC.drop 4).take 1) [some (false,.tup (nDL xs)),some (false,.tup (nDL xs)),none]=.nx [some (false,.tup (nDL xs)),some (false,.tup (nDL xs)),none]:=by
  clear e1 rg i2 i3 i4 nn
  generalize D.tup (nDL xs)=A at *;simp[dC,i5,Ty.id,ln]
 have p3:evB (WT TT m) (dC.drop 5) [some (false,.tup (nDL xs)),some (false,.tup (nDL xs)),none]=.rt .fz (.bl true):=by
  clear i2 i3 i4 i5 nn p1 p2
  show evB (WT TT m) [.for (.rng1 (.bcall .len [(.var 1)])) (.nm 2) mN,.ret (.bl true)] _=_;generalize mN=LB at *;generalize D.tup (nDL xs)=A at *;simp[ln,rg,fM,e1]
 rw[p1,aG.thn_nx,dB,p2,aG.thn_nx,p3]
theorem aOA{n:Int}{m:Nat}:(WT TT (m+1)).Φ "_law_alike" [.int n,.int n]=.ok .fz (.bl true):=by rw[pB];refine bA rfl ?_;show evB _ dC [some (false,.int n),some (false,.int n),none]=_;have i2:bI [(.fz,.int n),(.fz,.ty "bool")]=some (.fz,.bl false):=rfl;have i3:bI [(.fz,.int n),(.fz,.ty "int")]=some (.fz,.bl true):=rfl;have nn:eH (.int n)=false:=rfl;simp[dC,i2,i3,Ty.id,nn]
theorem aOB{x:Str}{m:Nat}:(WT TT (m+1)).Φ "_law_alike" [.str x,.str x]=.ok .fz (.bl true):=by rw[pB];refine bA rfl ?_;show evB _ dC [some (false,.str x),some (false,.str x),none]=_;have i2:bI [(.fz,.str x),(.fz,.ty "bool")]=some (.fz,.bl false):=rfl;have i3:bI [(.fz,.str x),(.fz,.ty "int")]=some (.fz,.bl false):=rfl;have i4:bI [(.fz,.str x),(.fz,.ty "str")]=some (.fz,.bl true):=rfl;have nn:eH (.str x)=false:=rfl;simp[dC,i2,i3,i4,Ty.id,nn]
theorem aA7{k:N}(h:Sz k):∀ {m:Nat},k.dp<m->(WT TT m).Φ "_law_alike" [nD k,nD k]=.ok .fz (.bl true):=by
 induction h with
 | i n =>
  intro m hm;cases m with | zero=>omega | succ m=>?_
  rw[nD];exact aOA
 | s x =>
  intro m hm;cases m with | zero=>omega | succ m=>?_
  rw[nD];exact aOB
 | @t xs h hl ih =>
  intro m hm;cases m with | zero=>omega | succ m=>?_
  rw[N.dp] at hm;rw[nD];exact aN9 hl λx hx=>ih x hx (by have:=N.dp_mem hx;omega)
def ce(ns:List Int)(i:Int):Int:=if 0<=i then (ns[i.toNat]?).getD 0 else 0
theorem cell(k:Nat)(ns:List Int){i:Int}(h0:0<=i):(WT TT (k+1)).Φ "_law_cell_at" [.lst (ns.map .int),.int i]=.ok .fz (.int (ce ns i)):=by
 rw[aM4];refine bA rfl ?_;show evB _ mO [some (false,.lst (ns.map .int)),some (false,.int i)]=_;obtain ⟨j,rfl⟩:=aUR h0;unfold ce;rw[if_pos h0];by_cases h:j<ns.length
 . have hx:op2 ixD (.ok .fz (.lst (ns.map .int))) (.ok .fz (.int j))=.ok .fz (.int ns[j]):=bL (gZ (by rw[aQY,aSE h];rfl))
   have h':((j:Int)<(ns.length:Int)):=by omega
   simp[mO,h',hx,h]
 . have h':¬ ((j:Int)<(ns.length:Int)):=by omega
   simp[mO,h',aTN (Nat.le_of_not_lt h)]
theorem tX(k:Nat)(ns:List Int){i:Int}(h0:0<=i):bE 2 ((WT TT (k+1)).Φ "_law_cell_at") (.ok [(.fz,.lst (ns.map .int)),(.fz,.int i)])=.ok .fz (.int (ce ns i)):=dY (cell k ns h0)
theorem aOC{ds:List D}{i:Nat}:D3.dF ds none (some (i:Int))=ds.take i:=by
 unfold D3.dF;rw[HT.vA,HT.nJ,aST,Nat.sub_zero];by_cases h:i<=ds.length
 . rw[Nat.min_eq_left h]
 . rw[Nat.min_eq_right (by omega),aS1,aSU (by omega)]
theorem aOD{ds:List D}{i:Nat}:D3.dF ds (some (i:Int)) none=ds.drop i:=by
 unfold D3.dF;rw[HT.vA,HT.nJ];by_cases h:i<=ds.length
 . rw[Nat.min_eq_left h,aSU (by rw[aRC];exact aQC _)]
 . rw[Nat.min_eq_right (by omega),aSK,List.drop_eq_nil_of_le (by omega)]
   simp
theorem aOE{ds:List D}{m m1 m2:Md}{g1 g2:Rho->Res}{ρ:Rho}{i j:Int}(h1:g1 ρ=.ok m1 (.int i))(h2:g2 ρ=.ok m2 (.int j)):slP (.ok m (.lst ds)) (some g1) (some g2) ρ=.ok .fr (.lst (D3.dF ds (some i) (some j))):=by unfold slP;rw[Res.thn_ok];show cF (some g1) ρ _=_;unfold cF;show (g1 ρ).thn _=_;rw[h1];show (g2 ρ).thn _=_;rw[h2];rfl
theorem sl_hi{ds:List D}{m m2:Md}{g2:Rho->Res}{ρ:Rho}{j:Int}(h2:g2 ρ=.ok m2 (.int j)):slP (.ok m (.lst ds)) none (some g2) ρ=.ok .fr (.lst (D3.dF ds none (some j))):=by unfold slP;rw[Res.thn_ok];show cF none ρ _=_;unfold cF;show (g2 ρ).thn _=_;rw[h2];rfl
theorem sl_lo{ds:List D}{m m1:Md}{g1:Rho->Res}{ρ:Rho}{i:Int}(h1:g1 ρ=.ok m1 (.int i)):slP (.ok m (.lst ds)) (some g1) none ρ=.ok .fr (.lst (D3.dF ds (some i) none)):=by unfold slP;rw[Res.thn_ok];show cF (some g1) ρ _=_;unfold cF;show (g1 ρ).thn _=_;rw[h1];rfl
theorem aOF{n:Nat}{Φ:List D->Res}{xs:List (Md×D)}{ds:List D}{d:D}(hl:ds.length=n)(ha:dE xs=some ds)(h:Φ ds=.ok .fr d):bE n Φ (.ok xs)=.ok .fr d:=by
 show (match dE xs with | some ds=>if ds.length=n then (match Φ ds with | .ok .bo _=>Res.stuck | r=>r) else .stuck | none=>.stuck)=_
 rw[ha];show (if ds.length=n then _ else _)=_;rw[if_pos hl,h]
theorem aOG{Φ:List D->Res}{a b d:D}(h:Φ [a,b]=.ok .fr d):bE 2 Φ (.ok [(.fz,a),(.fz,b)])=.ok .fr d:=aOF (ds:=[a,b]) rfl rfl h
theorem handed{rs:List Rw}(h:∀ r∈rs,iC r):∃ S:List Tr,nf (rs.map tr)=.tup (S.map tD)/\S.length<=rs.length/\∀ t∈S,∃ r:Rw,iC r/\tr r=t/\enc r=tD t:=by
 obtain ⟨S,p,e⟩:=pI (ts:=bD (rs.map tr));refine ⟨S,?_,?_,λt ht=>?_⟩
 . unfold nf;rw[<- e,kQ]
 . rw[p.length_eq];have:=mX (rs.map tr);rw[aQ1] at this;exact this
 . obtain ⟨u,hu,eu⟩:=(((gO (rs.map tr)).1 t.1 t.2).mp (p.mem_iff.mp ht)).1;obtain ⟨r,hr,rfl⟩:=aUF.mp hu;have g:=h r hr;have e1:tr (r.1,r.2.1,t.2)=t:=aRA (by rw[<- eu];rfl) rfl
   refine ⟨(r.1,r.2.1,t.2),g,e1,?_⟩;rw[eJ,<- e1];show D.tup [D.tup (r.1.map .str),nD r.2.1,.int t.2]=.tup [nD (F (aX r.1)),nD r.2.1,.int t.2];rw[kR,g.2.2]
theorem jM:∀ {S:List Tr},(∀ t∈S,∃ r:Rw,iC r/\tr r=t/\enc r=tD t)->∃ rs:List Rw,rs.map tr=S/\rs.map enc=S.map tD/\∀ r∈rs,iC r
 | [],_=>⟨[],rfl,rfl,λr hr=>nomatch hr⟩
 | t::S,h=>by
  obtain ⟨r,g,e1,e2⟩:=h t mcs;obtain ⟨rs,f1,f2,f3⟩:=jM λx hx=>h x (mcm hx);refine ⟨r::rs,by rw[aRN,e1,f1],by rw[aRN,aRN,e2,f2],λx hx=>?_⟩
  rcases aPY.mp hx with rfl | hx
  . exact g
  . exact f3 x hx
def kT(c:D):Bool:=match c with | .str x=>fX x (Str.ofString "abcdefghijklmnopqrstuvwxyz")||fX x (Str.ofString "0123456789") | _=>false
def hd(z:Str):Str:=⟨#[z.cps.toList.headD 0]⟩
def bP(z:Str):Bool:=!(decide (z.length<1)||decide (40<z.length))&&(fX (hd z) (Str.ofString "abcdefghijklmnopqrstuvwxyz")&&(dR z).all kT)
theorem aOH(k:Nat){x:Str}:(WT TT (k+1)).Φ "is_name_sign" [.str x]=.ok .fz (.bl (kT (.str x))):=by rw[aM2];refine bA rfl ?_;show evB _ oZ [some (false,.str x)]=_;simp[oZ,kT]
theorem aOI{z:Str}{d:D}(h:d∈dR z):∃ x:Str,d=.str x:=by simp only[dR,aUF] at h;obtain ⟨c,_,rfl⟩:=h;exact ⟨_,rfl⟩
theorem aA8{f:D->Bool}:∀ {ds:List D},g9 (ds.map λd=>.bl (f d))=some (ds.map f)
 | []=>rfl
 | d::ds=>by show (g9 (ds.map _)).map _=_;rw[aA8];rfl
theorem aOJ{z:Str}:(dR z).length=z.length:=by simp[dR,Str.length]
theorem all_map{m:Md}{f:D->Bool}{ds:List D}:iH [(m,.lst (ds.map λd=>.bl (f d)))]=some (.fz,.bl (ds.all f)):=by show (g9 _).map _=_;rw[aA8];simp[Function.comp_def]
theorem first{z:Str}(h:1<=z.length){m m':Md}:op2 ixD (.ok m (.str z)) (.ok m' (.int 0))=.ok .fz (.str (hd z)):=by
 refine cI ?_;show (atI z.cps.toList 0).map _=_;have:z.cps.toList≠[]:=by intro e;simp[Str.length,<- aP7,e] at h
 obtain ⟨a,l,e⟩:=List.exists_cons_of_ne_nil this;rw[e,show atI (a::l) (0:Int)=some a from gZ (j:=0) rfl]
 unfold hd;rw[e];rfl
theorem kU(k:Nat){z:Str}:(WT TT (k+2)).Φ "is_name" [.str z]=.ok .fz (.bl (bP z)):=by
 rw[aAE];refine bA rfl ?_;show evB _ jG [some (false,.str z)]=_;have ei:bI [(.fz,.str z),(.fz,.ty "str")]=some (.fz,.bl true):=rfl;by_cases h1:(decide (z.length<1)||decide (40<z.length))=true
 . have h1':(decide ((z.length:Int)<1)||decide (40<(z.length:Int)))=true:=by simp only[aR4,aR2] at h1 ⊢;omega
   have hn:bP z=false:=by unfold bP;rw[h1];rfl
   simp[jG,ei,h1',hn,Ty.id]
 . have h2:1<=z.length/\z.length<=40:=by simp at h1;omega
   have h1':(decide ((z.length:Int)<1)||decide (40<(z.length:Int)))=false:=by simp only[Bool.or_eq_false_iff,decide_eq_false_iff_not];omega
   rw[Bool.not_eq_true] at h1;have hl:(dR z).length<sizeLine:=by rw[aOJ];have:sizeLine=16777216:=aQH;omega
   have ec:b0 (.ok .fz (.lst (dR z))) [some (false,.str z)] [] 1 (aQ (.nm 0)) (λρ=>.ok .fz (.bl true)) (λρ=>bE 1 ((WT TT (k+1)).Φ "is_name_sign") (cG (eO ρ 0) (.ok [])))=.ok .fr (.lst ((dR z).map λd=>.bl (kT d))):=by refine oW _ hl λd hd=>?_;obtain ⟨x,rfl⟩:=aOI hd;exact ⟨[some (false,.str x)],.fz,by simp[cN],rfl,.fz,by simp[aOH k]⟩
   have hn:bP z=(fX (hd z) (Str.ofString "abcdefghijklmnopqrstuvwxyz")&&(dR z).all kT):=by unfold bP;rw[h1];rfl
   simp[jG,ei,h1',hn,first h2.1,Ty.id,ec,all_map]
theorem tY(k:Nat){d:D}(h:bI [(.fz,d),(.fz,.ty "str")]=some (.fz,.bl false)):(WT TT (k+2)).Φ "is_name" [d]=.ok .fz (.bl false):=by rw[aAE];refine bA rfl ?_;show evB _ jG [some (false,d)]=_;simp[jG,h,Ty.id]
theorem aOK:∀ c∈iV,fX ⟨#[c]⟩ (Str.ofString "abcdefghijklmnopqrstuvwxyz")=true:=by decide +kernel
theorem sg_in:∀ c∈gQ,kT (.str ⟨#[c]⟩)=true:=by decide +kernel
theorem Nm.pos{z:Str}(h:Nm z):1<=z.length:=by obtain ⟨⟨c,l,e,_⟩,_⟩:=h;simp[Str.length,<- aP7,e]
theorem Nm.name{z:Str}(h:Nm z):bP z=true:=by
 have hp:=h.pos;obtain ⟨⟨c,l,e,hc⟩,ha,hl⟩:=h;unfold bP;simp only[aRI,aTQ,Bool.or_eq_false_iff,decide_eq_false_iff_not];refine ⟨⟨by omega,by omega⟩,?_,?_⟩
 . unfold hd;rw[e];exact aOK c hc
 . rw[aSB];intro d hd;simp only[dR,aUF] at hd;obtain ⟨x,hx,rfl⟩:=hd;exact sg_in x (ha x hx)
theorem cW(k:Nat){d:D}{a b:Bool}(h1:bI [(.fz,d),(.fz,.ty "int")]=some (.fz,.bl a))(h2:bI [(.fz,d),(.fz,.ty "bool")]=some (.fz,.bl b)):(WT TT (k+1)).Φ "is_whole" [d]=.ok .fz (.bl (a&&!b)):=by rw[aM1];refine bA rfl ?_;show evB _ oY [some (false,d)]=_;cases a <;> simp[oY,h1,h2,Ty.id]
theorem tZ:∀ (xs:List Str),dS (xs.map .str)=some (xs.map .str)
 | []=>by simp[dS]
 | x::xs=>by simp only[aRN,dS,bH];rw[tZ xs]
theorem aA9:∀ (xs:List Str),PyData.depthAll (xs.map .str)=0
 | []=>by simp[PyData.depthAll]
 | x::xs=>by simp only[aRN,PyData.depthAll,PyData.depth];rw[aA9 xs];rfl
theorem aBA:∀ (xs ys:List Str),PyData.eqvAll (xs.map .str) (ys.map .str)=decide (xs=ys)
 | [],[]=>by simp[PyData.eqvAll]
 | [],_::_=>by simp[PyData.eqvAll]
 | _::_,[]=>by simp[PyData.eqvAll]
 | x::xs,y::ys=>by simp only[aRN,PyData.eqvAll,PyData.eqv];rw[aBA xs ys];by_cases e1:x=y <;> by_cases e2:xs=ys <;> simp[e1,e2]
theorem aOL{xs ys:List Str}{m m':Md}:op2 (bX .Eq) (.ok m (.lst (xs.map .str))) (.ok m' (.lst (ys.map .str)))=.ok .fz (.bl (decide (xs=ys))):=cI (by
 show orO (eqF false) _ m _ m' _=_;unfold orO eqF;simp only[bH];rw[tZ,tZ];simp only[aSI];have d1:∀ zs:List Str,jZ (.list (zs.map .str))=true:=λzs=>aRO (by show PyData.depth _<=50;simp only[PyData.depth];rw[aA9];decide)
 rw[if_pos (by rw[d1,d1];rfl)]
 simp only[PyData.eqv];rw[aBA];rfl)
def gR(xs:List Str):Bool:=xs.all bP&&decide (xs=aX xs)
theorem t0(k:Nat){xs:List Str}(hl:xs.length<64):(WT TT (k+3)).Φ "is_facts" [.tup (xs.map .str)]=.ok .fz (.bl (gR xs)):=by
 have ei:bI [(.fz,.tup (xs.map D.str)),(.fz,.ty "tuple")]=some (.fz,.bl true):=rfl;have ec:b0 (.ok .fz (.lst (xs.map D.str))) [some (false,.tup (xs.map D.str))] [] 1 (aQ (.nm 0)) (λρ=>evF (WT TT (k+2)) [] ρ) (λρ=>evE (WT TT (k+2)) (.call "is_name" 1 [(.var 0)]) ρ)=.ok .fr (.lst ((xs.map D.str).map λd=>.bl (match d with | .str z=>bP z | _=>false))):=by
  refine oW (ds:=xs.map D.str) _ (by rw[aQ1,aQH];omega) λd hd=>?_
  obtain ⟨x,_,rfl⟩:=aUF.mp hd;have e:=cD (kU k (z:=x));exact ⟨[some (false,.str x)],.fz,rfl,by simp,.fz,by simp[e]⟩
 have ea:iH [(.fr,.lst ((xs.map D.str).map λd=>.bl (match d with | .str z=>bP z | _=>false)))]=some (.fz,.bl (xs.all bP)):=by rw[all_map,List.all_map];rfl
 have es:fN [(.fz,.tup (xs.map D.str))]=some (.fr,.lst ((aX xs).map .str)):=mW rfl hl;have el:gJ [(.fz,.tup (xs.map D.str))]=some (.fr,.lst (xs.map D.str)):=rfl;have eq:=aOL (xs:=xs) (ys:=aX xs) (m:=.fr) (m':=.fr);rw[sZ];refine bA rfl ?_;show evB _ hZ [some (false,.tup (xs.map D.str))]=_;have ci:eZ (.ok .fz (.tup (xs.map D.str)))=.ok .fz (.lst (xs.map D.str)):=rfl;simp only[kH,yZ,y6,y0,yY] at ec;unfold gR;generalize (xs.map D.str).map (λd=>D.bl (match d with | .str z=>bP z | _=>false))=L2 at *
 generalize D.tup (xs.map D.str)=A at *;generalize xs.map D.str=X at *;generalize (aX xs).map D.str=Y at *;cases hb:xs.all bP with
 | true=>rw[hb] at ea;simp[hZ,ei,ci,ec,ea,Ty.id,Ty.f,el,es,eq]
 | false=>rw[hb] at ea;simp[hZ,ei,ci,ec,ea,Ty.id]
def bY(ks:List N):Bool:=(List.range (ks.length-1)).all λi=>ltN (ks.getD i (.i 0)) (ks.getD (i+1) (.i 0))
theorem rng_m{n:Int}(h0:-1<=n)(h1:n<1000):fL (.ok [(.fz,.int n)])=.ok .fz (.lst (bG 0 n)):=by show (if (decide (-(2 ^ 62)<=n)&&decide (n<2 ^ 62))=true then Res.ok .fz (.lst (bG 0 n)) else .stuck)=_;rw[if_pos (by rw[aRI,aR2,aR2];omega)]
theorem ltW_N{a b:N}{m m':Md}(h:a.dp<=40)(ok:okN a b=true):op2 ltW (.ok m (nD a)) (.ok m' (nD b))=.ok .fz (.bl (ltN a b)):=cI (by
 unfold ltW;rw[tK,tK];dsimp only
 rw[if_pos (by rw[aRO h,ok];rfl)])
theorem t4{ks:List N}{i:Nat}(h:i<ks.length):ks.getD i (.i 0)∈ks:=by simp[h]
theorem t5(k:Nat){ks:List N}{d:D}(hx:∀ i:Nat,i<ks.length->∀ m:Md,op2 ixD (.ok .fz d) (.ok m (.int (i:Int)))=.ok .fz (nD (ks.getD i (.i 0))))(hlen:eE [(.fz,d)]=some (.fz,.int ks.length))(ok:∀ x∈ks,∀ y∈ks,okN x y=true)(dp:∀ x∈ks,x.dp<=40)(hl:ks.length<1000):(WT TT (k+1)).Φ "is_rising" [d]=.ok .fz (.bl (bY ks)):=by
 have rg:=rng_m (n:=(ks.length:Int)-1) (by omega) (by omega)
 have ec:b0 (.ok .fz (.lst (bG 0 ((ks.length:Int)-1)))) [some (false,d)] [0] 1 (aQ (.nm 1)) (λρ=>evF (WT TT k) [] ρ) (λρ=>evE (WT TT k) (.ltn (.ix (.var 0) (.var 1)) (.ix (.var 0) (.bin .Add (.var 1) (.int 1)))) ρ)=.ok .fr (.lst ((bG 0 ((ks.length:Int)-1)).map λx=>.bl (match x with | .int i=>ltN (ks.getD i.toNat (.i 0)) (ks.getD (i.toNat+1) (.i 0)) | _=>false))):=by
  refine oW (ds:=bG 0 ((ks.length:Int)-1)) _ (by simp[bG];rw[aQH];omega) λx hx'=>?_
  unfold bG at hx';obtain ⟨j,hj,rfl⟩:=aUF.mp hx';rw[aPU] at hj;have hj:j+1<ks.length:=by omega
  rw[aUO];refine ⟨[some (false,d),some (false,.int (j:Int))],.fz,rfl,by simp,.fz,?_⟩
  have e1:=hx j (by omega) .fz
  have e2:=hx (j+1) hj .fz;have e3:=ltW_N (m:=.fz) (m':=.fz) (dp _ (t4 (i:=j) (by omega))) (ok _ (t4 (i:=j) (by omega)) _ (t4 (i:=j+1) hj))
  have ej:((j:Int)+1)=((j+1:Nat):Int):=by omega
  rw[<- ej] at e2
  clear ej
  dsimp only;rw[aQ8];generalize nD (ks.getD j (.i 0))=A at *;generalize nD (ks.getD (j+1) (.i 0))=B at *;generalize ltN (ks.getD j (.i 0)) (ks.getD (j+1) (.i 0))=C at *;simp[e1,e2,e3]
 have ea:iH [(.fr,.lst ((bG 0 ((ks.length:Int)-1)).map λx=>.bl (match x with | .int i=>ltN (ks.getD i.toNat (.i 0)) (ks.getD (i.toNat+1) (.i 0)) | _=>false)))]=some (.fz,.bl (bY ks)):=by
  rw[all_map];unfold bY bG;rw[List.all_map,show ((ks.length:Int)-1-0).toNat=ks.length-1 by omega]
  refine congrArg (λb=>some (Md.fz,D.bl b)) ?_;congr 1;funext i;show ltN (ks.getD (0+(i:Int)).toNat (.i 0)) (ks.getD ((0+(i:Int)).toNat+1) (.i 0))=_;rw[aUO,aQ8]
 rw[aM3];refine bA rfl ?_;show evB _ o3 [some (false,d)]=_;simp only[kH] at ec;generalize (bG 0 ((ks.length:Int)-1)).map (λx=>D.bl (match x with | .int i=>ltN (ks.getD i.toNat (.i 0)) (ks.getD (i.toNat+1) (.i 0)) | _=>false))=L at *
 generalize bG 0 ((ks.length:Int)-1)=R at *;unfold o3;generalize E.ltn (.ix (.var 0) (.var 1)) (.ix (.var 0) (.bin .Add (.var 1) (.int 1)))=EE at *;simp[hlen,rg,ec,ea]
theorem kW{m:Nat}{f b:D}{n:Int}{x y:Bool}(hn:1<=n)(hf:(WT TT (m+1)).Φ "is_facts" [f]=.ok .fz (.bl x))(hb:(WT TT (m+1)).Φ "is_bars" [b]=.ok .fz (.bl y)):(WT TT (m+2)).Φ "is_term" [.tup [f,b,.int n]]=.ok .fz (.bl (x&&y)):=by
 have hf:=cD hf;have hb:=cD hb;have hw:=cD (cW m (d:=.int n) (a:=true) (b:=false) rfl rfl);have i1:bI [(.fz,.tup [f,b,.int n]),(.fz,.ty "tuple")]=some (.fz,.bl true):=rfl;have l1:eE [(.fz,.tup [f,b,.int n])]=some (.fz,.int 3):=rfl;have as:hC (.tp [(.nm 1),(.nm 2),(.nm 3)]) [some (false,.tup [f,b,.int n]),none,none,none] (.ok .fz (.tup [f,b,.int n]))=.nx [some (false,.tup [f,b,.int n]),some (false,f),some (false,b),some (false,.int n)]:=rfl;have h1:¬ n<1:=by omega
 rw[mP];refine bA rfl ?_;show evB _ fT [some (false,.tup [f,b,.int n]),none,none,none]=_;generalize D.tup [f,b,.int n]=A at *;cases x <;> simp[fT,i1,l1,as,hw,h1,hf,hb,Ty.id]
theorem aOM{m:Nat}{f b d:D}(hw:(WT TT (m+1)).Φ "is_whole" [d]=.ok .fz (.bl false)):(WT TT (m+2)).Φ "is_term" [.tup [f,b,d]]=.ok .fz (.bl false):=by have hw:=cD hw;have i1:bI [(.fz,.tup [f,b,d]),(.fz,.ty "tuple")]=some (.fz,.bl true):=rfl;have l1:eE [(.fz,.tup [f,b,d])]=some (.fz,.int 3):=rfl;have as:hC (.tp [(.nm 1),(.nm 2),(.nm 3)]) [some (false,.tup [f,b,d]),none,none,none] (.ok .fz (.tup [f,b,d]))=.nx [some (false,.tup [f,b,d]),some (false,f),some (false,b),some (false,d)]:=rfl;rw[mP];refine bA rfl ?_;show evB _ fT [some (false,.tup [f,b,d]),none,none,none]=_;generalize D.tup [f,b,d]=A at *;simp[fT,i1,l1,as,hw,Ty.id]
theorem aBB{m:Nat}{f b:D}{n:Int}(hn:n<1):(WT TT (m+2)).Φ "is_term" [.tup [f,b,.int n]]=.ok .fz (.bl false):=by have hw:=cD (cW m (d:=.int n) (a:=true) (b:=false) rfl rfl);have i1:bI [(.fz,.tup [f,b,.int n]),(.fz,.ty "tuple")]=some (.fz,.bl true):=rfl;have l1:eE [(.fz,.tup [f,b,.int n])]=some (.fz,.int 3):=rfl;have as:hC (.tp [(.nm 1),(.nm 2),(.nm 3)]) [some (false,.tup [f,b,.int n]),none,none,none] (.ok .fz (.tup [f,b,.int n]))=.nx [some (false,.tup [f,b,.int n]),some (false,f),some (false,b),some (false,.int n)]:=rfl;rw[mP];refine bA rfl ?_;show evB _ fT [some (false,.tup [f,b,.int n]),none,none,none]=_;generalize D.tup [f,b,.int n]=A at *;simp[fT,i1,l1,as,hw,hn,Ty.id]
theorem t7{m:Nat}{d:D}(h:bI [(.fz,d),(.fz,.ty "tuple")]=some (.fz,.bl false)):(WT TT (m+1)).Φ "is_term" [d]=.ok .fz (.bl false):=by rw[mP];refine bA rfl ?_;show evB _ fT [some (false,d),none,none,none]=_;simp[fT,h,Ty.id]
theorem aON{m:Nat}{a b:D}:(WT TT (m+1)).Φ "is_term" [.tup [a,b]]=.ok .fz (.bl false):=by have i1:bI [(.fz,.tup [a,b]),(.fz,.ty "tuple")]=some (.fz,.bl true):=rfl;have l1:eE [(.fz,.tup [a,b])]=some (.fz,.int 2):=rfl;rw[mP];refine bA rfl ?_;show evB _ fT [some (false,.tup [a,b]),none,none,none]=_;generalize D.tup [a,b]=A at *;simp[fT,i1,l1,Ty.id]
theorem t8{k:D->Rho->Option Rho}{body:Rho->aG}(P:Rho->Prop){d:D}{B:List D}:∀ (A:List D) (ρ:Rho),P ρ->(∀ x∈A,∀ ρ,P ρ->∃ ρ1,k x ρ=some ρ1/\P ρ1/\body ρ1=.nx ρ1)->(∀ ρ,P ρ->∃ ρ1,k d ρ=some ρ1/\body ρ1=.rt .fz (.bl false))->cM k body (A++d::B) ρ=.rt .fz (.bl false)
 | [],ρ,h,_,hd=>by obtain ⟨ρ1,e1,e2⟩:=hd ρ h;show cM k body (d::B) ρ=_;unfold cM;rw[e1];dsimp only;rw[e2]
 | x::A,ρ,h,hs,hd=>by obtain ⟨ρ1,e1,h1,e2⟩:=hs x mcs ρ h;rw[aRR,jL e1 e2];exact t8 P A ρ1 h1 (λy hy=>hs y (mcm hy)) hd
theorem m8{m:Nat}{A B:List D}{d:D}(hA:∀ x∈A,(WT TT m).Φ "is_term" [x]=.ok .fz (.bl true))(hd:(WT TT m).Φ "is_term" [d]=.ok .fz (.bl false)):(WT TT (m+1)).Φ "is_reason" [.tup (A++d::B)]=.ok .fz (.bl false):=by
 have i1:bI [(.fz,.tup (A++d::B)),(.fz,.ty "tuple")]=some (.fz,.bl true):=rfl;have ci:eZ (.ok .fz (.tup (A++d::B)))=.ok .fz (.lst (A++d::B)):=rfl;have lp:=t8 (k:=aQ (.nm 1)) (body:=evB (WT TT m) f8) (d:=d) (B:=B) (λρ=>∃ x,ρ=[some (false,.tup (A++d::B)),x]) A [some (false,.tup (A++d::B)),none] ⟨none,rfl⟩ (λx hx ρ hρ=>by
  obtain ⟨y,rfl⟩:=hρ;have h:=cD (hA x hx);refine ⟨[some (false,.tup (A++d::B)),some (false,x)],rfl,⟨_,rfl⟩,?_⟩;generalize D.tup (A++d::B)=AA at *;simp[f8,h]) (λρ hρ=>by
  obtain ⟨y,rfl⟩:=hρ;have h:=cD hd;refine ⟨[some (false,.tup (A++d::B)),some (false,d)],rfl,?_⟩;generalize D.tup (A++d::B)=AA at *;simp[f8,h])
 rw[pA];refine bA rfl ?_;show evB _ gN [some (false,.tup (A++d::B)),none]=_;unfold gN;generalize f8=LB at *;generalize D.tup (A++d::B)=AA at *;simp[i1,ci,fM,lp,Ty.id]
theorem gT{m:Nat}{d:D}(h:bI [(.fz,d),(.fz,.ty "tuple")]=some (.fz,.bl false)):(WT TT (m+1)).Φ "is_reason" [d]=.ok .fz (.bl false):=by rw[pA];refine bA rfl ?_;show evB _ gN [some (false,d),none]=_;simp[gN,h,Ty.id]
theorem aOO{ts:List Tr}{i:Nat}(h:i<ts.length):((ts.map λt=>kyN t.1)).getD i (.i 0)=kyN ts[i].1:=by simp[h]
theorem aBC{m:Nat}{ts:List Tr}(hl:ts.length<64)(hK:∀ t∈ts,isK 2 t.1)(hT:∀ t∈ts,(WT TT (m+1)).Φ "is_term" [tD t]=.ok .fz (.bl true)):(WT TT (m+2)).Φ "is_reason" [.tup (ts.map tD)]=.ok .fz (.bl (bY (ts.map λt=>kyN t.1))):=by
 have i1:bI [(.fz,.tup (ts.map tD)),(.fz,.ty "tuple")]=some (.fz,.bl true):=rfl;have ci:eZ (.ok .fz (.tup (ts.map tD)))=.ok .fz (.lst (ts.map tD)):=rfl;obtain ⟨ρ',lp,x',rfl⟩:=m7 (k:=aQ (.nm 1)) (body:=evB (WT TT (m+1)) f8) (λρ=>∃ x,ρ=[some (false,.tup (ts.map tD)),x]) (ts.map tD) [some (false,.tup (ts.map tD)),none] ⟨none,rfl⟩ (λx hx ρ hρ=>by
  obtain ⟨y,rfl⟩:=hρ;obtain ⟨t,ht,rfl⟩:=aUF.mp hx;have h:=cD (hT t ht);refine ⟨[some (false,.tup (ts.map tD)),some (false,tD t)],rfl,⟨_,rfl⟩,?_⟩;generalize D.tup (ts.map tD)=AA at *;generalize tD t=TT' at *;simp[f8,h])
 have ec:b0 (.ok .fz (.lst (ts.map tD))) [some (false,.tup (ts.map tD)),x'] [] 3 (aQ (.tp [(.nm 0),(.nm 1),(.nm 2)])) (λρ=>evF (WT TT (m+1)) [] ρ) (λρ=>evE (WT TT (m+1)) (.tup [(.var 0),(.var 1)]) ρ)=.ok .fr (.lst (ts.map λt=>nD (kyN t.1))):=by
  refine tO (enc:=tD) (λt=>nD (kyN t.1)) (by rw[aQH];omega) λt ht=>?_
  refine ⟨[some (false,nD t.1.1),some (false,nD t.1.2),some (false,.int t.2)],.fz,by rw[eJ];rfl,by simp,.fz,?_⟩
  rw[pG];simp[dI]
 have rs := cD (t5 m (ks := ts.map fun t => kyN t.1) (d := .lst (ts.map fun t => nD (kyN t.1))) (fun i hi mm => bL (gZ (by
     rw[aQ1] at hi
     rw[aQY,aSE hi,aOO hi];rfl))) (by show some (Md.fz,D.int ((ts.map λt=>nD (kyN t.1)).length:Nat))=_;rw[aQ1,aQ1]) (λx hx y hy=>by
     obtain ⟨s,hs,rfl⟩:=aUF.mp hx;obtain ⟨t,ht,rfl⟩:=aUF.mp hy;unfold kyN;simp only[okN,eI];split
     . split
       . rfl
       . exact mV (hK s hs).2 (hK t ht).2
     . exact kN (hK s hs).1 (hK t ht).1) (λx hx=>by
     obtain ⟨s,hs,rfl⟩:=aUF.mp hx;have:=(kP (hK s hs) (aQC 2)).2.2.1
     omega) (by rw[aQ1];omega))
 rw[pA];refine bA rfl ?_;show evB _ gN [some (false,.tup (ts.map tD)),none]=_;simp only[kH] at ec;unfold gN;generalize f8=LB at *;generalize bY (ts.map λt=>kyN t.1)=RB at *;generalize (ts.map λt=>nD (kyN t.1))=KL at *;generalize D.tup (ts.map tD)=AA at *;generalize ts.map tD=AL at *;generalize E.tup [E.var 0,E.var 1]=EE at *;simp[i1,ci,fM,lp,ec,rs,Ty.id]
theorem aOP{m:Nat}{d:D}(h:bI [(.fz,d),(.fz,.ty "tuple")]=some (.fz,.bl false)):(WT TT (m+1)).Φ "is_bars" [d]=.ok .fz (.bl false):=by rw[tB];refine bA rfl ?_;show evB _ iQ [some (false,d),none]=_;simp[iQ,h,Ty.id]
theorem aOQ{m:Nat}{A B:List N}{d e:D}{x:Bool}(hA:∀ k∈A,(WT TT m).Φ "is_reason" [nD k]=.ok .fz (.bl true)/\k ≠ .t []/\k.dp<=40)(hd:(WT TT m).Φ "is_reason" [d]=.ok .fz (.bl x))(he:x=true->op2 (bX .Eq) (.ok .fz d) (.ok .fz (.tup []))=.ok .fz (.bl true))(L:List D)(hL:L=nDL A++d::nDL B):(WT TT (m+1)).Φ "is_bars" [.tup L]=.ok .fz (.bl false):=by
 have i1:bI [(.fz,.tup L),(.fz,.ty "tuple")]=some (.fz,.bl true):=rfl;have ci:eZ (.ok .fz (.tup L))=.ok .fz (.lst L):=rfl;have lp:=t8 (k:=aQ (.nm 1)) (body:=evB (WT TT m) hX) (d:=d) (B:=nDL B) (λρ=>∃ x,ρ=[some (false,.tup L),x]) (nDL A) [some (false,.tup L),none] ⟨none,rfl⟩ (λz hz ρ hρ=>by
  obtain ⟨y,rfl⟩:=hρ;rw[gL] at hz;obtain ⟨k,hk,rfl⟩:=aUF.mp hz;obtain ⟨h1,h2,h3⟩:=hA k hk;have h:=cD h1;have eq:=pE (m:=.fz) (m':=.fz) (x:=k) (y:=.t []) (by omega) (by simp[N.dp,N.dpL])
  rw[aPL h2,dJ] at eq;refine ⟨[some (false,.tup L),some (false,nD k)],rfl,⟨_,rfl⟩,?_⟩;generalize D.tup L=AA at *;generalize nD k=KK at *;simp[hX,h,bO,eq]) (λρ hρ=>by
  obtain ⟨y,rfl⟩:=hρ;have h:=cD hd;refine ⟨[some (false,.tup L),some (false,d)],rfl,?_⟩;generalize D.tup L=AA at *;cases x with
  | false=>simp[hX,h]
  | true =>
   have he:=he rfl;simp[hX,h,bO,he])
 rw[<- hL] at lp;rw[tB];refine bA rfl ?_;show evB _ iQ [some (false,.tup L),none]=_;unfold iQ;generalize hX=LB at *;generalize D.tup L=AA at *;simp[i1,ci,fM,lp,Ty.id]
theorem pO{m:Nat}{ks:List N}(hl:ks.length<64)(hA:∀ k∈ks,(WT TT (m+1)).Φ "is_reason" [nD k]=.ok .fz (.bl true)/\k ≠ .t []/\k.dp<=40)(ok:∀ x∈ks,∀ y∈ks,okN x y=true):(WT TT (m+2)).Φ "is_bars" [nD (.t ks)]=.ok .fz (.bl (bY ks)):=by
 rw[nD];have i1:bI [(.fz,.tup (nDL ks)),(.fz,.ty "tuple")]=some (.fz,.bl true):=rfl;have ci:eZ (.ok .fz (.tup (nDL ks)))=.ok .fz (.lst (nDL ks)):=rfl;obtain ⟨ρ',lp,x',rfl⟩:=m7 (k:=aQ (.nm 1)) (body:=evB (WT TT (m+1)) hX) (λρ=>∃ x,ρ=[some (false,.tup (nDL ks)),x]) (nDL ks) [some (false,.tup (nDL ks)),none] ⟨none,rfl⟩ (λz hz ρ hρ=>by
  obtain ⟨y,rfl⟩:=hρ;rw[gL] at hz;obtain ⟨k,hk,rfl⟩:=aUF.mp hz;obtain ⟨h1,h2,h3⟩:=hA k hk;have h:=cD h1;have eq:=pE (m:=.fz) (m':=.fz) (x:=k) (y:=.t []) (by omega) (by simp[N.dp,N.dpL])
  rw[aPL h2,dJ] at eq;refine ⟨[some (false,.tup (nDL ks)),some (false,nD k)],rfl,⟨_,rfl⟩,?_⟩;generalize D.tup (nDL ks)=AA at *;generalize nD k=KK at *;simp[hX,h,bO,eq])
 have rs:=cD (t5 m (ks:=ks) (d:=.tup (nDL ks)) (λi hi mm=>jJ (by rw[aA5 hi];simp[hi])) (by show some (Md.fz,D.int ((nDL ks).length:Nat))=_;rw[aA6]) ok (λx hx=>(hA x hx).2.2) (by omega))
 rw[tB];refine bA rfl ?_;show evB _ iQ [some (false,.tup (nDL ks)),none]=_;unfold iQ;generalize hX=LB at *;generalize bY ks=RB at *;generalize D.tup (nDL ks)=AA at *;generalize nDL ks=AL at *;simp[i1,ci,fM,lp,rs,Ty.id]
def VF(f:N):Prop:=∃ xs:List Str,f=F xs/\gR xs=true/\xs.length<64
def rN(ts:List Tr):N:=.t (ts.map tmN)
def eY(ts:List Tr):List N:=ts.map λt=>kyN t.1
def VB:Nat->N->Prop
 | 0,b=>b=.t []
 | j+1,b=>∃ rs:List (List Tr),b=.t (rs.map rN)/\rs.length<64/\bY (rs.map rN)=true/\∀ ts∈rs,ts≠[]/\ts.length<64/\bY (eY ts)=true/\∀ t∈ts,VF t.1.1/\VB j t.1.2/\1<=t.2
def VT(j:Nat)(t:Tr):Prop:=VF t.1.1/\VB j t.1.2/\1<=t.2
theorem VF.isF{f:N}(h:VF f):isF f:=by obtain ⟨xs,rfl,_,l⟩:=h;exact jK l
theorem VB.isBs:∀ {j:Nat} {b:N},VB j b->isBs j b
 | 0,b,h=>h
 | j+1,b,h=>by
  obtain ⟨rs,rfl,l,_,h⟩:=h;refine ⟨rs.map rN,rfl,by rw[aQ1];exact l,λr hr=>?_⟩
  obtain ⟨ts,hts,rfl⟩:=aUF.mp hr;obtain ⟨_,l2,_,h⟩:=h ts hts;exact ⟨ts,rfl,l2,λt ht=>⟨(h t ht).1.isF,VB.isBs (h t ht).2.1⟩⟩
theorem aBD:∀ {j:Nat} {b:N},j<=2->isBs j b->isBs 2 b
 | 0,b,_,h=>iA (iA h)
 | 1,b,_,h=>iA h
 | 2,b,_,h=>h
 | j+3,b,hj,h=>by omega
theorem pP(k:Nat){f:N}(h:VF f):(WT TT (k+3)).Φ "is_facts" [nD f]=.ok .fz (.bl true):=by obtain ⟨xs,rfl,hb,l⟩:=h;rw[kR,t0 k l,hb]
theorem pQ{ts:List Tr}(h:ts≠[]):rN ts ≠ .t []:=λe=>by
 unfold rN at e;injection e with e
 exact h (by simpa using e)
theorem pR:∀ {j:Nat} {b:N},j<=2->VB j b->∀ {m:Nat},3 * j+6<=m->(WT TT m).Φ "is_bars" [nD b]=.ok .fz (.bl true)
 | 0,b,_,h,m,hm=>by
  cases h;obtain ⟨m,rfl⟩:∃ k,m=k+2:=⟨m-2,by omega⟩
  exact pO (ks:=[]) (by simp) (λk hk=>nomatch hk) (λk hk=>nomatch hk)
 | j+1,b,hj,h,m,hm=>by
  have hB:=VB.isBs h;obtain ⟨rs,rfl,l,rb,h⟩:=h;obtain ⟨m,rfl⟩:∃ k,m=k+5:=⟨m-5,by omega⟩
  obtain ⟨qs,eq,lq,hq⟩:=hB;rw[<- rb];refine pO (m:=m+3) (by rw[aQ1];exact l) (λk hk=>?_) (λx hx y hy=>?_)
  . obtain ⟨ts,hts,rfl⟩:=aUF.mp hk;obtain ⟨n0,l2,rk,hv⟩:=h ts hts;have hK:∀ t∈ts,isK 2 t.1:=λt ht=>⟨(hv t ht).1.isF,aBD (by omega) (VB.isBs (hv t ht).2.1)⟩
    refine ⟨?_,pQ n0,?_⟩
    . have:=aBC (m:=m+2) l2 hK (λt ht=>by
        rw[eJ];exact kW (m:=m+1) (hv t ht).2.2 (by
         obtain ⟨k,rfl⟩:∃ k,m=k+1:=⟨m-1,by omega⟩
         exact pP k (hv t ht).1) (pR (by omega) (hv t ht).2.1 (by omega)))
      have rk:bY (ts.map λt=>kyN t.1)=true:=rk;rw[rk] at this;unfold rN;rw[nD,kQ];exact this
    . unfold rN;rw[N.dp];have:N.dpL (ts.map tmN)<=8:=jI λx hx=>by obtain ⟨t,ht,rfl⟩:=aUF.mp hx;exact (kP (hK t ht) (aQC 2)).2.2.2 t.2
      omega
  . obtain ⟨ts,hts,rfl⟩:=aUF.mp hx;obtain ⟨us,hus,rfl⟩:=aUF.mp hy;have h1:=(h ts hts).2.2.2;have h2:=(h us hus).2.2.2;unfold rN;rw[okN];refine jH λa ha b hb=>?_;obtain ⟨s,hs,rfl⟩:=aUF.mp ha;obtain ⟨t,ht,rfl⟩:=aUF.mp hb;exact mU (kN (h1 s hs).1.isF (h2 t ht).1.isF) (mV (VB.isBs (h1 s hs).2.1) (VB.isBs (h2 t ht).2.1))
theorem t9{j:Nat}{t:Tr}(hj:j<=2)(h:VT j t){m:Nat}(hm:3 * j+7<=m):(WT TT m).Φ "is_term" [tD t]=.ok .fz (.bl true):=by
 obtain ⟨m,rfl⟩:∃ k,m=k+4:=⟨m-4,by omega⟩
 rw[eJ];exact kW (m:=m+2) h.2.2 (pP m h.1) (pR hj h.2.1 (by omega))
theorem jN{j:Nat}{ts:List Tr}(hj:j<=2)(hl:ts.length<64)(h:∀ t∈ts,VT j t){m:Nat}(hm:3 * j+8<=m):(WT TT m).Φ "is_reason" [.tup (ts.map tD)]=.ok .fz (.bl (bY (eY ts))):=by
 obtain ⟨m,rfl⟩:∃ k,m=k+2:=⟨m-2,by omega⟩
 exact aBC hl (λt ht=>⟨(h t ht).1.isF,aBD hj (VB.isBs (h t ht).2.1)⟩) λt ht=>t9 hj (h t ht) (by omega)
theorem uA{ks:List N}(h:ks.Pairwise λx y=>ltN x y=true):bY ks=true:=by
 unfold bY;rw[aSB];intro i hi;rw[aPU] at hi;have h1:i<ks.length:=by omega
 have h2:i+1<ks.length:=by omega
 have:=aTR.mp h i (i+1) h1 h2 (aQN i);simpa[h1,h2] using this
theorem aBE{ts S:List Tr}(p:S.Perm (bD ts))(e:S.map tmN=cO ((bD ts).map tmN)):bY (eY S)=true:=by
 refine uA ?_;unfold eY;rw[aT3];have so:fD (S.map tmN):=by rw[e];exact oM _
 have nd:(S.map (·.1)).Nodup:=(p.map (·.1)).symm.nodup (gO ts).2;have so:=aT3.mp so;have nd:=aT3.mp nd;refine (so.and nd).imp λ{a b} h=>?_;obtain ⟨h1,h2⟩:=h;rw[tI (λz=>h2 z.symm)] at h1;cases q:kl a.1 b.1 with
 | true=>exact q
 | false=>exact absurd (aAK q h1) h2
theorem uB:∀ {p:List Tr} {k:Ky},(∀ t∈p,1<=t.2)->Has p k->1<=cJ p k
 | [],k,_,h=>by obtain ⟨t,m,_⟩:=h;cases m
 | t::p,k,h,hk=>by
  have h0:0<=cJ p k:=by
   by_cases q:Has p k
   . have:=uB (λx hx=>h x (mcm hx)) q;omega
   . rw[mQ q];exact aUS 0
  show 1<=(if t.1=k then t.2 else 0)+cJ p k;by_cases e:t.1=k
  . rw[if_pos e];have:=h t mcs;omega
  . rw[if_neg e];have q:Has p k:=by
      obtain ⟨u,m,eu⟩:=hk;rcases aPY.mp m with rfl | m
      . exact absurd eu e
      . exact ⟨u,m,eu⟩
    have:=uB (λx hx=>h x (mcm hx)) q;omega
def RV(j:Nat)(r:Rw):Prop:=r.1.length<64/\r.1.all bP=true/\VB j r.2.1/\1<=r.2.2
theorem aOR{xs:List Str}(h:xs.all bP=true):gR (aX xs)=true:=by unfold gR;rw[aRI,aR2];refine ⟨?_,(tW xs).symm⟩;rw[aSB] at h ⊢;exact λx hx=>h x ((gM xs).mem_iff.mp hx)
theorem RV.vt{j:Nat}{r:Rw}(h:RV j r):VT j (tr r):=⟨⟨aX r.1,rfl,aOR h.2.1,by rw[m5];exact h.1⟩,h.2.2.1,h.2.2.2⟩
theorem aBF{j:Nat}{rs:List Rw}(h:∀ r∈rs,RV j r):∀ t∈bD (rs.map tr),VT j t:=λt ht=>by
 have hh:=((gO (rs.map tr)).1 t.1 t.2).mp ht;have sp:=uB (λu hu=>by obtain ⟨r,hr,rfl⟩:=aUF.mp hu;exact (h r hr).2.2.2) hh.1
 obtain ⟨u,hu,eu⟩:=hh.1;obtain ⟨r,hr,rfl⟩:=aUF.mp hu;have v:=(h r hr).vt;refine ⟨?_,?_,by rw[hh.2];exact sp⟩
 . rw[<- eu];exact v.1
 . rw[<- eu];exact v.2.1
def VR(j:Nat)(ts:List Tr):Prop:=ts.length<64/\(∀ t∈ts,VT j t)/\bY (eY ts)=true
theorem ris1(k:N):bY [k]=true:=rfl
theorem VR.one{j:Nat}{t:Tr}(h:VT j t):VR j [t]:=⟨by simp,λu hu=>by cases aSV.mp hu;exact h,ris1 _⟩
theorem VR.isRs{ts:List Tr}(h:VR 1 ts)(h0:ts≠[]):isRs ts:=⟨⟨h0,h.1⟩,λt ht=>⟨(h.2.1 t ht).1.isF,VB.isBs (h.2.1 t ht).2.1⟩⟩
theorem VF_F{xs:List Str}(h:xs.all bP=true)(hs:aX xs=xs)(hl:xs.length<64):VF (F xs):=⟨xs,rfl,by unfold gR;rw[h,hs];simp,hl⟩
theorem gB:∀ (j:Nat),VB j (.t [])
 | 0=>rfl
 | j+1=>⟨[],rfl,by simp,rfl,λts hts=>nomatch hts⟩
theorem aBG{j:Nat}{ts:List Tr}(h:VR j ts)(h0:ts≠[]):VB (j+1) (.t [rN ts]):=⟨[ts],rfl,by simp,rfl,λus hus=>by cases aSV.mp hus;exact ⟨h0,h.1,h.2.2,h.2.1⟩⟩
theorem kX{nms:List Str}(hn:nms.length=4)(hN:∀ s∈nms,Nm s)(v:Int):∃ s:Str,bP s=true/\∀ m m':Md,op2 ixD (.ok m (NM nms)) (.ok m' (.int (v % 4)))=.ok .fz (.str s):=by
 obtain ⟨d,hd,e⟩:=aAX (nms.map D.str) v 4 (by simp[hn]) (by decide)
 obtain ⟨s,hs,rfl⟩:=aUF.mp hd;exact ⟨s,(hN s hs).name,λm m'=>bL e⟩
theorem F1{s:Str}(h:bP s=true):VF (F [s]):=VF_F (by simp[h]) rfl (by simp)
theorem barV{k:Nat}{nms:List Str}(hn:nms.length=4)(hN:∀ s∈nms,Nm s)(c:Int):∃ ts:List Tr,(VR 1 ts/\ts≠[])/\(WT TT (k+2)).Φ "_law_bar" [.int c,NM nms]=.ok .fz (nD (.t (ts.map tmN))):=by
 obtain ⟨s,ns,hs⟩:=kX hn hN c;obtain ⟨s1,ns1,h1⟩:=kX hn hN (c / 48);obtain ⟨s2,ns2,h2⟩:=kX hn hN (c / 192);have one:∀ (b:N),VB 1 b->∀ n,1<=n->VR 1 [((F [s],b),n)]/\[((F [s],b),n)]≠([]:List Tr):=λb hb n hn=>⟨VR.one ⟨F1 ns,hb,hn⟩,by simp⟩
 have bN:∀ {d:D},evB (WT TT (k+1)) fU [some (false,.int c),some (false,NM nms),none]=.rt .fz d->(WT TT (k+2)).Φ "_law_bar" [.int c,NM nms]=.ok .fz d:=λ{d} h=>by rw[aAF];exact bA rfl h
 have way:c / 12 % 4=0\/c / 12 % 4=1\/c / 12 % 4=2\/c / 12 % 4=3:=by omega
 rcases way with w | w | w | w
 . refine ⟨_,one (.t []) (gB 1) (1+c / 4 % 3) (by omega),bN ?_⟩
   rw[iB];dsimp only;rw[iS,dJ];generalize NM nms=M at *;simp[fU,hs,bO,cB,bT,w]
 . have rs:∀ r∈([([s],.t [],1+c / 4 % 3),([s1,s2],.t [],1)]:List Rw),r.1.length<64/\isK 2 (tr r).1:=λr hr=>by
     simp only[aPY,aUG,aSY] at hr;rcases hr with rfl | rfl
     . exact ⟨by simp,mY (by simp) (iA bs0)⟩
     . exact ⟨by simp,mY (by simp) (iA bs0)⟩
   have nr:=cD (tU (k:=k) rs (by simp))
   obtain ⟨S,p,e⟩:=pI (ts:=bD (([([s],.t [],1+c / 4 % 3),([s1,s2],.t [],1)]:List Rw).map tr));have rv:∀ r∈([([s],.t [],1+c / 4 % 3),([s1,s2],.t [],1)]:List Rw),RV 1 r:=λr hr=>by
    simp only[aPY,aUG,aSY] at hr;rcases hr with rfl | rfl
    . exact ⟨by simp,by simp[ns],gB 1,by show (1:Int)<=1+c / 4 % 3;omega⟩
    . exact ⟨by simp,by simp[ns1,ns2],gB 1,aUS 1⟩
   refine ⟨S,⟨⟨?_,λt ht=>aBF rv t (p.mem_iff.mp ht),aBE p e⟩,λz=>?_⟩,bN ?_⟩
   . have:=mX (([([s],.t [],1+c / 4 % 3),([s1,s2],.t [],1)]:List Rw).map tr);rw[p.length_eq];rw[aQ1] at this;exact aUI this (by simp)
   . subst z;have hh:=(pC (gO (([([s],.t [],1+c / 4 % 3),([s1,s2],.t [],1)]:List Rw).map tr)).1 (tr ([s],.t [],1+c / 4 % 3)).1).mpr ⟨_,mcs,rfl⟩;obtain ⟨u,hu,_⟩:=hh;exact nomatch p.mem_iff.mpr hu
   . have eS:nf (([([s],.t [],1+c / 4 % 3),([s1,s2],.t [],1)]:List Rw).map tr)=nD (.t (S.map tmN)):=by unfold nf;rw[<- e,nD]
     rw[eS] at nr;have l2:dP (.ok [(.fz,.tup [.tup [.str s],.tup [],.int (1+c / 4 % 3)]),(.fz,.tup [.tup [.str s1,.str s2],.tup [],.int 1])])=.ok .fr (.lst (([([s],.t [],1+c / 4 % 3),([s1,s2],.t [],1)]:List Rw).map enc)):=by show Res.ok .fr (.lst [_,_])=.ok .fr (.lst [enc _,enc _]);simp only[enc,dJ];rfl
     generalize (([([s],.t [],1+c / 4 % 3),([s1,s2],.t [],1)]:List Rw).map enc)=LL at *;generalize NM nms=M at *;generalize nD (.t (S.map tmN))=RR at *;simp[fU,hs,h1,h2,bO,cB,dI,bT,w,l2,nr]
 . refine ⟨[((F [],.t []),1+c / 48 % 3)],⟨VR.one ⟨VF_F rfl rfl (by simp),gB 1,by show (1:Int)<=1+c / 48 % 3;omega⟩,by simp⟩,bN ?_⟩
   rw[iB];dsimp only;rw[aAY,dJ];generalize NM nms=M at *;simp[fU,hs,bO,cB,bT,w]
 . refine ⟨_,one (.t [.t (([((F [s1],.t []),1)]:List Tr).map tmN)]) (aBG (j:=0) (ts:=([((F [s1],.t []),1)]:List Tr)) (VR.one ⟨F1 ns1,gB 0,aUS 1⟩) (by simp)) (1+c / 4 % 3) (by omega),bN ?_⟩
   rw[iB];dsimp only;have e2:nD (.t [.t ([((F [s1],.t []),(1:Int))].map tmN)])=.tup [.tup [.tup [.tup [.str s1],.tup [],.int 1]]]:=by rw[nD,nDL,iB,nDL];dsimp only;rw[iS,dJ]
   rw[iS,e2];generalize NM nms=M at *;simp[fU,hs,h1,bO,cB,bT,w,tM,tN]
theorem aOS{k:Nat}{nms:List Str}(hn:nms.length=4)(hN:∀ s∈nms,Nm s)(c:Int)(ρ:Rho)(h0:ρ[0]? = some (some (false,.int c)))(h1:ρ[1]? = some (some (false,NM nms))):∃ xs:List Str,xs.length<64/\xs.all bP=true/\b0 (fL (.ok [(.fz,.int (c / 64 % 4))])) ρ [1,0] 1 (aQ (.nm 2)) (λρ=>evF (WT TT k) [] ρ) (λρ=>evE (WT TT k) (.ix (.var 0) (.bin .Mod (.bin .FloorDiv (.var 1) (.ix (.lst [(.int 1),(.int 4),(.int 16)]) (.var 2))) (.int 4))) ρ)=.ok .fr (.lst (xs.map .str)):=by
 have hr:fL (.ok [(.fz,.int (c / 64 % 4))])=.ok .fz (.lst (bG 0 (c / 64 % 4))):=by show (if (decide (-(2 ^ 62)<=c / 64 % 4)&&decide (c / 64 % 4<2 ^ 62))=true then Res.ok .fz (.lst (bG 0 (c / 64 % 4))) else .stuck)=_;rw[if_pos (by rw[aRI,aR2,aR2];omega)]
 have hsub:cN [1,0] ρ=[some (false,NM nms),some (false,.int c)]:=by simp[cN,h0,h1]
 rw[hr];have len:(bG 0 (c / 64 % 4)).length<64:=by simp[bG];omega
 obtain ⟨xs,e,l,hx⟩:=tV (ρ:=ρ) (aD:=[1,0]) (n:=1) (k:=aQ (.nm 2)) (t:=λρ=>evF (WT TT k) [] ρ) (e:=λρ=>evE (WT TT k) (.ix (.var 0) (.bin .Mod (.bin .FloorDiv (.var 1) (.ix (.lst [(.int 1),(.int 4),(.int 16)]) (.var 2))) (.int 4))) ρ) (m:=.fz) (ds:=bG 0 (c / 64 % 4)) (λs:Str=>bP s=true) D.str (by rw[aQH];omega) (λd hd=>by
  unfold bG at hd;obtain ⟨j,hj,rfl⟩:=aUF.mp hd;rw[aPU] at hj;have hj3:j=0\/j=1\/j=2:=by omega
  have l3:∀ {m:Md},dP (.ok [(.fz,.int 1),(.fz,.int 4),(.fz,.int 16)])=.ok .fr (.lst [.int 1,.int 4,.int 16]):=λ{m}=>rfl;rw[hsub];have i0:op2 ixD (.ok .fr (.lst [.int 1,.int 4,.int 16])) (.ok .fz (.int 0))=.ok .fz (.int 1):=bL rfl;have i1:op2 ixD (.ok .fr (.lst [.int 1,.int 4,.int 16])) (.ok .fz (.int 1))=.ok .fz (.int 4):=bL rfl;have i2:op2 ixD (.ok .fr (.lst [.int 1,.int 4,.int 16])) (.ok .fz (.int 2))=.ok .fz (.int 16):=bL rfl;rcases hj3 with rfl | rfl | rfl
  . obtain ⟨s,qs,hs⟩:=kX hn hN (c / 1);have hs:=hs .fz .fz;refine ⟨[some (false,NM nms),some (false,.int c),some (false,.int 0)],.fz,s,.fz,by simp,by simp,?_,qs⟩
    generalize NM nms=M at *;simp at hs;simp[l3 (m:=.fz),i0,hs]
  . obtain ⟨s,qs,hs⟩:=kX hn hN (c / 4);have hs:=hs .fz .fz;refine ⟨[some (false,NM nms),some (false,.int c),some (false,.int 1)],.fz,s,.fz,by simp,by simp,?_,qs⟩
    generalize NM nms=M at *;simp[l3 (m:=.fz),i1,hs]
  . obtain ⟨s,qs,hs⟩:=kX hn hN (c / 16);have hs:=hs .fz .fz;refine ⟨[some (false,NM nms),some (false,.int c),some (false,.int 2)],.fz,s,.fz,by simp,by simp,?_,qs⟩
    generalize NM nms=M at *;simp[l3 (m:=.fz),i2,hs])
 exact ⟨xs,by omega,aSB.mpr hx,e⟩
theorem aOT{ts us:List Tr}{m:Md}(h1:VR 1 ts)(z1:ts≠[])(h2:VR 1 us)(z2:us≠[]):∃ b:N,VB 2 b/\eD eQ (cG (fO (.ok m (.lst [nD (.t (ts.map tmN)),nD (.t (us.map tmN))]))) (.ok []))=.ok .fz (nD b):=by
 have r1:=h1.isRs z1;have r2:=h2.isRs z2;have ok:okS [.t (ts.map tmN),.t (us.map tmN)]=true:=by
  unfold okS;simp only[aRI,aR4,aR2,aSB];refine ⟨⟨⟨λk hk=>?_,.inr λk hk=>?_⟩,λx hx y hy=>?_⟩,by simp⟩
  . simp only[aPY,aUG,aSY] at hk;rcases hk with rfl | rfl
    . exact iT r1.2
    . exact iT r2.2
  . simp only[aPY,aUG,aSY] at hk;rcases hk with rfl | rfl
    . exact pJ r1
    . exact pJ r2
  . simp only[aPY,aUG,aSY] at hx hy;rcases hx with rfl | rfl <;> rcases hy with rfl | rfl
    . exact iU r1 r1
    . exact iU r1 r2
    . exact iU r2 r1
    . exact iU r2 r2
 have e:fO (.ok m (.lst [nD (.t (ts.map tmN)),nD (.t (us.map tmN))]))=.ok .fr (.lst (nDL (two (.t (ts.map tmN)) (.t (us.map tmN))))):=by
  show (match cT (nD (.t (ts.map tmN))),cT (nD (.t (us.map tmN))) with | some k1,some k2=>if okS [k1,k2]=true then Res.ok .fr (.lst (nDL (two k1 k2))) else .stuck | _,_=>.stuck)=_
  rw[mS (iT r1.2),mS (iT r2.2)];dsimp only;rw[if_pos ok]
 have q:∀ {ts:List Tr},VR 1 ts->ts≠[]->ts≠[]/\ts.length<64/\bY (eY ts)=true/\∀ t∈ts,VF t.1.1/\VB 1 t.1.2/\1<=t.2:=λh z=>⟨z,h.1,h.2.2,h.2.1⟩;have fin:∀ rs:List (List Tr),rs.map rN=two (.t (ts.map tmN)) (.t (us.map tmN))->rs.length<64->bY (rs.map rN)=true->(∀ x∈rs,x=ts\/x=us)->∃ b:N,VB 2 b/\eD eQ (cG (fO (.ok m (.lst [nD (.t (ts.map tmN)),nD (.t (us.map tmN))]))) (.ok []))=.ok .fz (nD b):=λrs er l rb hm=>by
  refine ⟨.t (rs.map rN),⟨rs,rfl,l,rb,λx hx=>?_⟩,?_⟩
  . rcases hm x hx with rfl | rfl
    . exact q h1 z1
    . exact q h2 z2
  . rw[e,nD,er];rfl
 by_cases c:N.t (us.map tmN)=.t (ts.map tmN)
 . exact fin [ts] (by unfold two;rw[if_pos c];rfl) (by simp) rfl (λx hx=>.inl (aSV.mp hx))
 . have st:two (.t (ts.map tmN)) (.t (us.map tmN))=cO [.t (ts.map tmN),.t (us.map tmN)]:=by unfold two;rw[if_neg c]
   cases lt:ltN (.t (us.map tmN)) (.t (ts.map tmN)) with
   | true =>
    have es:cO [N.t (ts.map tmN),.t (us.map tmN)]=[.t (us.map tmN),.t (ts.map tmN)]:=by show (if ltN (.t (us.map tmN)) (.t (ts.map tmN))=true then _ else _)=_;rw[if_pos lt];rfl
    exact fin [us,ts] (by rw[st,es];rfl) (by simp) (by show bY [.t (us.map tmN),.t (ts.map tmN)]=true;exact uA (by simpa using lt)) (λx hx=>by simp only[aPY,aUG,aSY] at hx;exact hx.symm)
   | false =>
    have es:cO [N.t (ts.map tmN),.t (us.map tmN)]=[.t (ts.map tmN),.t (us.map tmN)]:=by show (if ltN (.t (us.map tmN)) (.t (ts.map tmN))=true then _ else _)=_;rw[if_neg (by rw[lt];decide)]
    have lt2:ltN (.t (ts.map tmN)) (.t (us.map tmN))=true:=by
     cases q:ltN (.t (ts.map tmN)) (.t (us.map tmN)) with
     | true=>rfl
     | false=>exact absurd (oJ _ _ lt q) c
    exact fin [ts,us] (by rw[st,es];rfl) (by simp) (by show bY [.t (ts.map tmN),.t (us.map tmN)]=true;exact uA (by simpa using lt2)) (λx hx=>by simpa using hx)
theorem termV{k:Nat}{nms:List Str}(hn:nms.length=4)(hN:∀ s∈nms,Nm s)(c:Int):∃ r:Rw,(iC r/\RV 2 r)/\(WT TT (k+3)).Φ "_law_term" [.int c,NM nms]=.ok .fz (enc r):=by
 obtain ⟨xs,lx,nx,hx⟩:=aOS (k:=k+2) hn hN c [some (false,.int c),some (false,NM nms),none,none,none] rfl rfl;obtain ⟨ts,⟨v1,z1⟩,b1⟩:=barV (k:=k) hn hN (c / 768);have h1:=v1.isRs z1;obtain ⟨us,⟨v2,z2⟩,b2⟩:=barV (k:=k) hn hN (c / 9216);have h2:=v2.isRs z2;obtain ⟨b,hb,eb⟩:=aOT (m:=.fr) v1 z1 v2 z2;have b1:=dY b1;have b2:=dY b2;have s1:fN [(.fz,.lst (xs.map D.str))]=some (.fr,.lst ((aX xs).map .str)):=mW rfl lx;have s2:eQ [(.fr,.lst ((aX xs).map D.str))]=some (.fz,.tup ((aX xs).map .str)):=rfl;have bN:∀ {d:D},evB (WT TT (k+2)) bS [some (false,.int c),some (false,NM nms),none,none,none]=.rt .fz d->(WT TT (k+3)).Φ "_law_term" [.int c,NM nms]=.ok .fz d:=λ{d} h=>by rw[aAG];exact bA rfl h
 have l2:∀ {x y:D},dP (.ok [(.fz,x),(.fz,y)])=.ok .fr (.lst [x,y]):=rfl;have bars:∃ b:N,VB 2 b/\evB (WT TT (k+2)) (bS.drop 1 |>.take 3) [some (false,.int c),some (false,NM nms),some (false,.lst (xs.map .str)),none,none]=.nx [some (false,.int c),some (false,NM nms),some (false,.lst (xs.map .str)),some (false,nD b),none]:=by
  have way:c / 256 % 3=0\/c / 256 % 3=1\/c / 256 % 3=2:=by omega
  have bn:VB 2 (.t []):=gB 2;generalize xs.map D.str=X at *;generalize NM nms=M at *;rcases way with w | w | w
  . refine ⟨.t [],bn,?_⟩;rw[dJ];simp[bS,bO,w]
  . refine ⟨.t [.t (ts.map tmN)],aBG v1 z1,?_⟩;have e:nD (.t [.t (ts.map tmN)])=.tup [nD (.t (ts.map tmN))]:=by rw[nD,nDL,nDL]
    rw[e];generalize nD (.t (ts.map tmN))=R1 at *;simp[bS,bO,cB,w,b1]
  . refine ⟨b,hb,?_⟩;generalize nD (.t (ts.map tmN))=R1 at *;generalize nD (.t (us.map tmN))=R2 at *;generalize nD b=BB at *;simp[bS,bO,w,b1,b2,l2,Ty.f,eb]
 obtain ⟨b',hb',eb'⟩:=bars;have times:∃ n:Int,1<=n/\evB (WT TT (k+2)) (bS.drop 4) [some (false,.int c),some (false,NM nms),some (false,.lst (xs.map .str)),some (false,nD b'),none]=.rt .fz (.tup [.tup ((aX xs).map .str),nD b',.int n]):=by
  generalize xs.map D.str=X at *;generalize (aX xs).map D.str=Y at *;generalize NM nms=M at *;generalize nD b'=BB at *;by_cases w:c % 5=2
  . refine ⟨1+c / 7 % mZ,by have:=aUP (c / 7) (show mZ≠0 by decide);omega,?_⟩
    simp[bS,w,aA0,z40,s1,s2,Ty.f,bT]
  . refine ⟨1+c / 768 % 3,by omega,?_⟩
    have w:(c % 5==2)=false:=by simpa using w
    simp[bS,w,s1,s2,Ty.f,bT]
 obtain ⟨n,n1,en⟩:=times;refine ⟨(aX xs,b',n),⟨⟨by rw[m5];exact lx,VB.isBs hb',tW xs⟩,⟨by rw[m5];exact lx,by rw[aSB] at nx ⊢;exact λx hx=>nx x ((gM xs).mem_iff.mp hx),hb',n1⟩⟩,bN ?_⟩
 have split:bS=bS.take 1++((bS.drop 1).take 3++bS.drop 4):=rfl;rw[split,dB];have first:evB (WT TT (k+2)) (bS.take 1) [some (false,.int c),some (false,NM nms),none,none,none]=.nx [some (false,.int c),some (false,NM nms),some (false,.lst (xs.map .str)),none,none]:=by generalize xs.map D.str=X at *;generalize NM nms=M at *;simp at hx;simp[bS,hx]
 rw[first,aG.thn_nx,dB,eb',aG.thn_nx,en]
 rfl
theorem aBH{k:Nat}{nms:List Str}(hn:nms.length=4)(hN:∀ s∈nms,Nm s)(cs:List Int)(hl:cs.length<64):∃ rs:List Rw,rs.length=cs.length/\(∀ r∈rs,iC r/\RV 2 r)/\(WT TT (k+4)).Φ "_law_reason" [.lst (cs.map .int),NM nms]=.ok .fz (nf (rs.map tr)):=by
 obtain ⟨rs,e,l,g⟩:=tV (ρ:=[some (false,.lst (cs.map .int)),some (false,NM nms)]) (aD:=[1]) (n:=1) (k:=aQ (.nm 1)) (t:=λρ=>evF (WT TT (k+3)) [] ρ) (e:=λρ=>evE (WT TT (k+3)) (.call "_law_term" 2 [(.var 1),(.var 0)]) ρ) (m:=.fz) (ds:=cs.map .int) (λr=>iC r/\RV 2 r) enc (by rw[aQ1,aQH];omega) (λd hd=>by
  obtain ⟨c,_,rfl⟩:=aUF.mp hd;obtain ⟨r,gr,er⟩:=termV (k:=k) hn hN c;have er:=dY er;refine ⟨[some (false,NM nms),some (false,.int c)],.fz,r,.fz,rfl,by simp,?_,gr⟩
  generalize NM nms=M at *;simp[er])
 rw[aQ1] at l;refine ⟨rs,l,g,?_⟩;have nr:=cD (tU (k:=k+2) (rs:=rs) (λr hr=>⟨(g r hr).1.1,mY (g r hr).1.1 (g r hr).1.2.1⟩) (by omega))
 rw[aM7];refine bA rfl ?_;show evB _ o7 [some (false,.lst (cs.map .int)),some (false,NM nms)]=_;simp at e;generalize NM nms=M at *;generalize cs.map D.int=C at *;generalize rs.map enc=RE at *;simp[o7,e,nr]
theorem aBI{f:Nat->Str}:∀ (k i:Nat),i<=k->lts (f i) (f (argBest (λi j=>lts (f i) (f j)) k))=false
 | 0,i,h=>by
  have:i=0:=by omega
  subst this;exact gK _
 | k+1,i,h=>by
  unfold argBest;by_cases e:i=k+1
  . subst e;split
    . exact gK _
    . rename_i q;simpa using q
  . have ih:=aBI (f:=f) k i (by omega)
    split
    . rename_i q;exact rV ih (oN q)
    . exact ih
theorem aBJ{f:Nat->Str}:∀ (k i:Nat),i<=k->lts (f (argBest (λi j=>lts (f j) (f i)) k)) (f i)=false
 | 0,i,h=>by
  have:i=0:=by omega
  subst this;exact gK _
 | k+1,i,h=>by
  unfold argBest;by_cases e:i=k+1
  . subst e;split
    . exact gK _
    . rename_i q;simpa using q
  . have ih:=aBJ (f:=f) k i (by omega)
    split
    . rename_i q;exact rV (oN q) ih
    . exact ih
theorem aBK{ns:List Str}{s:Str}(h:s∈ns):lts s (bV false ns)=false:=by
 obtain ⟨i,hi,rfl⟩:=aSC h;have:=aBI (f:=λi=>ns.getD i Str.empty) (ns.length-1) i (by omega)
 unfold bV;simpa[hi] using this
theorem aOU{ns:List Str}{s:Str}(h:s∈ns):lts (bV true ns) s=false:=by
 obtain ⟨i,hi,rfl⟩:=aSC h;have:=aBJ (f:=λi=>ns.getD i Str.empty) (ns.length-1) i (by omega)
 unfold bV;simpa[hi] using this
theorem aOV{ns:List Str}(hn:ns.length=4)(nd:ns.Nodup):lts (bV false ns) (bV true ns)=true:=by
 cases q:lts (bV false ns) (bV true ns) with
 | true=>rfl
 | false =>
  have m1:=oP (up:=true) (ns:=ns) (by omega)
  have e:=j6 q (aBK m1);have all:∀ s∈ns,s=bV true ns:=λs hs=>by have a:=aBK hs;rw[e] at a;exact j6 a (aOU hs)
  match ns,hn,nd with
  | [a,b,c,d],_,nd =>
   have h1:=all a (by simp)
   have h2:=all b (by simp)
   rw[aQR] at nd;have ab:a=b:=h1.trans h2.symm;exact absurd (by rw[ab];exact mcs) nd.1
theorem uC(k:N):okN k k=true:=by
 cases k with
 | i n=>rw[okN]
 | s x=>rw[okN]
 | t xs =>
  rw[okN]
  induction xs with
  | nil=>rw[eI]
  | cons x xs ih=>rw[eI,if_pos rfl];exact ih
def aV(s:Str):N:=rN [((F [s],.t []),1)]
theorem aBL(s:Str):nD (aV s)=.tup [.tup [.tup [.str s],.tup [],.int 1]]:=by unfold aV rN;rw[iB];dsimp only;rw[iS,dJ]
theorem uD{s:Str}(h:bP s=true){m:Nat}(hm:8<=m):(WT TT m).Φ "is_reason" [nD (aV s)]=.ok .fz (.bl true)/\aV s ≠ .t []/\(aV s).dp<=40:=by
 have v:VT 0 ((F [s],.t []),(1:Int)):=⟨F1 h,gB 0,aUS 1⟩;have:=jN (j:=0) (ts:=[((F [s],.t []),1)]) (by decide) (by simp) (λt ht=>by cases aSV.mp ht;exact v) hm
 refine ⟨?_,pQ (by simp),?_⟩
 . unfold aV rN;rw[nD,kQ];exact this
 . have a1:=pF (F1 h).isF;simp only[aV,rN,aRN,aRM,tmN,N.dp,N.dpL];omega
theorem aBM{m m':Md}:op2 (bX .Eq) (.ok m (.tup [])) (.ok m' (.tup []))=.ok .fz (.bl true):=by
 have:=pE (m:=m) (m':=m') (x:=.t []) (y:=.t []) (by simp[N.dp,N.dpL]) (by simp[N.dp,N.dpL])
 rw[dJ] at this;simpa using this
theorem aBN{m:Nat}(hm:8<=m):(WT TT m).Φ "is_reason" [.tup []]=.ok .fz (.bl true):=jN (j:=0) (ts:=[]) (by decide) (by simp) (λt ht=>nomatch ht) hm
theorem aOW{a b:Str}(h:lts a b=true):ltN (aV b) (aV a)=false:=by
 have ne:¬ F [b]=F [a]:=λe=>by
  unfold F at e;injection e with e
  have:b=a:=by simpa using e
  subst this;rw[gK] at h;cases h
 have nf:¬ (tmN ((F [b],.t []),1)=tmN ((F [a],.t []),1)):=λe=>ne (congrArg (λt:Tr=>t.1.1) (aAJ e));unfold aV rN;simp only[aRN,aRM,ltN,bK];rw[if_neg nf];unfold tmN;simp only[ltN,bK];rw[if_neg ne];unfold F;simp only[aRN,aRM,ltN,bK];have nb:¬ (N.s b=N.s a):=λe=>ne (by unfold F;rw[aRN,aRN,e])
 rw[if_neg nb];exact oN h
def jO(d:D):Prop:=∀ m:Nat,20<=m->(WT TT m).Φ "is_bars" [d]=.ok .fz (.bl false)
theorem aBO{a b:Str}(ha:bP a=true)(hb:bP b=true)(h:ltN (aV a) (aV b)=false):jO (.tup [nD (aV a),nD (aV b)]):=λm hm=>by
 obtain ⟨m,rfl⟩:∃ k,m=k+2:=⟨m-2,by omega⟩
 have:=pO (m:=m) (ks:=[aV a,aV b]) (by simp) (λk hk=>by
  simp only[aPY,aUG,aSY] at hk;rcases hk with rfl | rfl
  . exact uD ha (by omega)
  . exact uD hb (by omega)) (λx hx y hy=>by
  have q:∀ {s t:Str},bP s=true->bP t=true->okN (aV s) (aV t)=true:=λhs ht=>by unfold aV rN;rw[okN];refine jH λu hu v hv=>?_;obtain ⟨u',hu',rfl⟩:=aUF.mp hu;obtain ⟨v',hv',rfl⟩:=aUF.mp hv;cases aSV.mp hu';cases aSV.mp hv';exact mU (kN (F1 hs).isF (F1 ht).isF) (uC _)
  simp only[aPY,aUG,aSY] at hx hy;rcases hx with rfl | rfl <;> rcases hy with rfl | rfl
  . exact q ha ha
  . exact q ha hb
  . exact q hb ha
  . exact q hb hb)
 have rb:bY [aV a,aV b]=false:=by show ([0].all λi=>ltN ([aV a,aV b].getD i (.i 0)) ([aV a,aV b].getD (i+1) (.i 0)))=false;simp[h]
 rw[rb] at this;simpa only [nD,nDL] using this
theorem pS{A:List N}{d:D}{B:List N}{x:Bool}(hA:∀ k∈A,∃ s,bP s=true/\k=aV s)(hd:∀ m:Nat,15<=m->(WT TT m).Φ "is_reason" [d]=.ok .fz (.bl x))(he:x=true->d=.tup []):jO (.tup (nDL A++d::nDL B)):=λm hm=>by
 obtain ⟨m,rfl⟩:∃ k,m=k+1:=⟨m-1,by omega⟩
 refine aOQ (e:=d) (λk hk=>?_) (hd m (by omega)) (λhx=>by rw[he hx];exact aBM) _ rfl
 obtain ⟨s,hs,rfl⟩:=hA k hk;exact uD hs (by omega)
theorem uE{x:D}:dP (.ok [(.fz,x)])=.ok .fr (.lst [x]):=rfl
theorem uF{x y:D}:dP (.ok [(.fz,x),(.fz,y)])=.ok .fr (.lst [x,y]):=rfl
theorem jP{x y z:D}:dP (.ok [(.fz,x),(.fz,y),(.fz,z)])=.ok .fr (.lst [x,y,z]):=rfl
theorem pT{x y z u:D}:dP (.ok [(.fz,x),(.fz,y),(.fz,z),(.fz,u)])=.ok .fr (.lst [x,y,z,u]):=rfl
theorem pU{nms:List Str}{up:Bool}(h:0<nms.length):l8 up [(.fz,NM nms)]=some (.fz,.str (bV up nms)):=by
 show (match txD (nms.map .str) with | some ns=>if 0<ns.length then some (Md.fz,D.str (bV up ns)) else none | none=>none)=_
 rw[tP];dsimp only;rw[if_pos h]
theorem aOX{Φ:List D->Res}{a b c d:D}{m:Md}(hm:m ≠ .bo)(h:Φ [a,b,c]=.ok m d):aY (bE 3 Φ (.ok [(.fz,a),(.fz,b),(.fz,c)]))=.ok .fz d:=by
 have:bE 3 Φ (.ok [(.fz,a),(.fz,b),(.fz,c)])=.ok m d:=by
  show (match Φ [a,b,c] with | .ok .bo _=>Res.stuck | r=>r)=_
  rw[h];cases m with
  | bo=>exact absurd rfl hm
  | fz=>rfl
  | fr=>rfl
 rw[this];cases m with
 | bo=>exact absurd rfl hm
 | fz=>rfl
 | fr=>rfl
theorem aOY{k:Nat}{nms:List Str}(hn:nms.length=4)(hN:∀ s∈nms,Nm s)(nd:nms.Nodup)(w c:Int)(hw:w=5\/w=6\/w=7\/w=9\/w=15):∃ d:D,jO d/\aY (bE 3 ((WT TT (k+1)).Φ "_law_spoiled_bars") (.ok [(.fz,.int w),(.fz,.int c),(.fz,NM nms)]))=.ok .fz d:=by
 have lh:=aOV hn nd;have b1:=pU (nms:=nms) (up:=false) (by omega)
 have b2:=pU (nms:=nms) (up:=true) (by omega)
 have n1:bP (bV false nms)=true:=(hN _ (oP (by omega))).name
 have n2:bP (bV true nms)=true:=(hN _ (oP (by omega))).name
 generalize bV false nms=lo at *;generalize bV true nms=hi at *;generalize NM nms=M at *;have o1:=aBL lo;have o2:=aBL hi;have bN:∀ {m:Md} {d:D},m ≠ .bo->evB (WT TT k) cU [some (false,.int w),some (false,.int c),some (false,M),none,none,none,none]=.rt m d->aY (bE 3 ((WT TT (k+1)).Φ "_law_spoiled_bars") (.ok [(.fz,.int w),(.fz,.int c),(.fz,M)]))=.ok .fz d:=λ{m d} hm h=>aOX hm (by
  rw[aM8];exact bA rfl h)
 have first:evB (WT TT k) (cU.take 4) [some (false,.int w),some (false,.int c),some (false,M),none,none,none,none]=.nx [some (false,.int w),some (false,.int c),some (false,M),some (false,.str lo),some (false,.str hi),some (false,nD (aV lo)),some (false,nD (aV hi))]:=by rw[o1,o2];simp[cU,b1,b2,bO,cB,bT]
 have split:cU=cU.take 4++cU.drop 4:=rfl;have go:∀ {m:Md} {d:D},m ≠ .bo->evB (WT TT k) (cU.drop 4) [some (false,.int w),some (false,.int c),some (false,M),some (false,.str lo),some (false,.str hi),some (false,nD (aV lo)),some (false,nD (aV hi))]=.rt m d->aY (bE 3 ((WT TT (k+1)).Φ "_law_spoiled_bars") (.ok [(.fz,.int w),(.fz,.int c),(.fz,M)]))=.ok .fz d:=λ{m d} hm h=>bN hm (by rw[split,dB,first,aG.thn_nx,h])
 have nr:∀ m:Nat,15<=m->(WT TT m).Φ "is_reason" [.tup []]=.ok .fz (.bl true):=λm hm=>aBN (by omega)
 have one1:∀ k∈[aV lo],∃ s,bP s=true/\k=aV s:=λk hk=>⟨lo,n1,aSV.mp hk⟩;have none1:∀ k∈([]:List N),∃ s,bP s=true/\k=aV s:=λk hk=>nomatch hk;have zz:∀ {A:List N} (d:D) {B:List N} (L:List D),L=nDL A++d::nDL B->jO (.tup (nDL A++d::nDL B))->jO (.tup L):=λ{A} d {B} L e h=>by rw[e];exact h
 have e3:nDL [aV lo]=[nD (aV lo)]:=by rw[nDL,nDL]
 have e0:nDL []=[]:=by rw[nDL]
 rcases hw with rfl | rfl | rfl | rfl | rfl
 . have way:c % 3=0\/c % 3=1\/c % 3=2:=by omega
   generalize nD (aV hi)=O2 at *;rcases way with v | v | v
   . refine ⟨_,zz (A:=[]) (.tup []) (B:=[]) [.tup []] (by rw[e0];rfl) (pS none1 nr λ_=>rfl),go (m:=.fz) (by decide) ?_⟩
     generalize nD (aV lo)=O1 at *;have ix:op2 ixD (.ok .fr (.lst [.tup [.tup []],.tup [.tup [],O1],.tup [O1,.tup []]])) (.ok .fz (.int 0))=.ok .fz (.tup [.tup []]):=bL rfl;simp[cU,bO,cB,dI,jP,v,ix]
   . refine ⟨_,zz (A:=[]) (.tup []) (B:=[aV lo]) [.tup [],nD (aV lo)] (by rw[e0,e3];rfl) (pS none1 nr λ_=>rfl),go (m:=.fz) (by decide) ?_⟩
     generalize nD (aV lo)=O1 at *;have ix:op2 ixD (.ok .fr (.lst [.tup [.tup []],.tup [.tup [],O1],.tup [O1,.tup []]])) (.ok .fz (.int 1))=.ok .fz (.tup [.tup [],O1]):=bL rfl;simp[cU,bO,cB,dI,jP,v,ix]
   . refine ⟨_,zz (A:=[aV lo]) (.tup []) (B:=[]) [nD (aV lo),.tup []] (by rw[e0,e3];rfl) (pS one1 nr λ_=>rfl),go (m:=.fz) (by decide) ?_⟩
     generalize nD (aV lo)=O1 at *;have ix:op2 ixD (.ok .fr (.lst [.tup [.tup []],.tup [.tup [],O1],.tup [O1,.tup []]])) (.ok .fz (.int 2))=.ok .fz (.tup [O1,.tup []]):=bL rfl;simp[cU,bO,cB,dI,jP,v,ix]
 . refine ⟨_,aBO n1 n1 (iN _),go (m:=.fz) (by decide) ?_⟩
   generalize nD (aV lo)=O1 at *;generalize nD (aV hi)=O2 at *;simp[cU,dI]
 . refine ⟨_,aBO n2 n1 (aOW lh),go (m:=.fz) (by decide) ?_⟩
   generalize nD (aV lo)=O1 at *;generalize nD (aV hi)=O2 at *;simp[cU,dI]
 . refine ⟨.lst [nD (aV lo)],λm hm=>?_,go (m:=.fr) (by decide) ?_⟩
   . obtain ⟨m,rfl⟩:∃ k,m=k+1:=⟨m-1,by omega⟩
     exact aOP rfl
   . generalize nD (aV lo)=O1 at *;generalize nD (aV hi)=O2 at *;simp[cU,uE]
 . have way:c % 4=0\/c % 4=1\/c % 4=2\/c % 4=3:=by omega
   have bad:∀ {d:D} {x:Bool},x=false->(∀ m:Nat,15<=m->(WT TT m).Φ "is_reason" [d]=.ok .fz (.bl x))->jO (.tup [d]):=λ{d x} hx h=>zz (A:=[]) d (B:=[]) [d] (by rw[e0];rfl) (pS none1 h λe=>by rw[hx] at e;cases e)
   have d1:∀ m:Nat,15<=m->(WT TT m).Φ "is_reason" [.tup [.tup [.tup [.str lo],.tup [],.int 0]]]=.ok .fz (.bl false):=λm hm=>by
    obtain ⟨m,rfl⟩:∃ k,m=k+3:=⟨m-3,by omega⟩
    exact m8 (A:=[]) (B:=[]) (λx hx=>nomatch hx) (aBB (m:=m) (by decide))
   have d2:∀ m:Nat,15<=m->(WT TT m).Φ "is_reason" [.tup [.tup [.tup [.str hi,.str lo],.tup [],.int 1]]]=.ok .fz (.bl false):=λm hm=>by
    obtain ⟨m,rfl⟩:∃ k,m=k+9:=⟨m-9,by omega⟩
    have fx:(WT TT (m+7)).Φ "is_facts" [.tup ([hi,lo].map .str)]=.ok .fz (.bl false):=by
     rw[t0 (m+4) (by simp)]
     have:gR [hi,lo]=false:=by
      unfold gR;have e:aX [hi,lo]=[lo,hi]:=by show (if lts lo hi=true then _ else _)=_;rw[if_pos lh];rfl
      rw[e];have:¬ hi=lo:=λz=>by subst z;rw[gK] at lh;cases lh
      simp[this]
     rw[this]
    have bx:=pR (j:=0) (b:=.t []) (by decide) (gB 0) (m:=m+7) (by omega)
    rw[dJ] at bx;have tx:=kW (m:=m+6) (n:=1) (aUS 1) fx bx;exact m8 (A:=[]) (B:=[]) (λx hx=>nomatch hx) tx
   have d3:∀ m:Nat,15<=m->(WT TT m).Φ "is_reason" [.tup [.tup [.tup [.str lo],.tup [],.int 1],.tup [.tup [.str lo],.tup [],.int 2]]]=.ok .fz (.bl false):=λm hm=>by
    have:=jN (j:=0) (ts:=[((F [lo],.t []),1),((F [lo],.t []),2)]) (by decide) (by simp) (λt ht=>by
     simp only[aPY,aUG,aSY] at ht;rcases ht with rfl | rfl
     . exact ⟨F1 n1,gB 0,aUS 1⟩
     . exact ⟨F1 n1,gB 0,by show (1:Int)<=2;decide⟩) (m:=m) (by omega)
    have rb:bY (eY [((F [lo],.t []),(1:Int)),((F [lo],.t []),2)])=false:=by show ([0].all λi=>ltN ([kyN (F [lo],.t []),kyN (F [lo],.t [])].getD i (.i 0)) ([kyN (F [lo],.t []),kyN (F [lo],.t [])].getD (i+1) (.i 0)))=false;simp[iN]
    rw[rb] at this;simp only[aRN,aRM,eJ] at this;rw[iS,dJ] at this;exact this
   have d4:∀ m:Nat,15<=m->(WT TT m).Φ "is_reason" [.str "a"]=.ok .fz (.bl false):=λm hm=>by
    obtain ⟨m,rfl⟩:∃ k,m=k+1:=⟨m-1,by omega⟩
    exact gT rfl
   generalize nD (aV lo)=O1 at *;generalize nD (aV hi)=O2 at *;rcases way with v | v | v | v
   . refine ⟨_,bad rfl d1,go (m:=.fz) (by decide) ?_⟩
     have ix:∀ {a b c d:D},op2 ixD (.ok .fr (.lst [a,b,c,d])) (.ok .fz (.int 0))=.ok .fz a:=bL rfl;simp[cU,bO,cB,dI,bT,pT,v,ix]
   . refine ⟨_,bad rfl d2,go (m:=.fz) (by decide) ?_⟩
     have ix:∀ {a b c d:D},op2 ixD (.ok .fr (.lst [a,b,c,d])) (.ok .fz (.int 1))=.ok .fz b:=bL rfl;simp[cU,bO,cB,dI,bT,pT,v,ix]
   . refine ⟨_,bad rfl d3,go (m:=.fz) (by decide) ?_⟩
     have ix:∀ {a b c d:D},op2 ixD (.ok .fr (.lst [a,b,c,d])) (.ok .fz (.int 2))=.ok .fz c:=bL rfl;simp[cU,bO,cB,dI,bT,pT,v,ix]
   . refine ⟨_,bad rfl d4,go (m:=.fz) (by decide) ?_⟩
     have ix:∀ {a b c d:D},op2 ixD (.ok .fr (.lst [a,b,c,d])) (.ok .fz (.int 3))=.ok .fz d:=bL rfl;simp[cU,bO,cB,dI,bT,pT,v,ix]
def gC:D->Bool
 | .str z=>bP z
 | _=>false
theorem aOZ{m:Nat}{d:D}(h:bI [(.fz,d),(.fz,.ty "tuple")]=some (.fz,.bl false)):(WT TT (m+1)).Φ "is_facts" [d]=.ok .fz (.bl false):=by rw[sZ];refine bA rfl ?_;show evB _ hZ [some (false,d)]=_;simp[hZ,h,Ty.id]
theorem aO0{k:Nat}{ds:List D}(hl:ds.length<100)(hd:∀ d∈ds,(WT TT (k+2)).Φ "is_name" [d]=.ok .fz (.bl (gC d)))(hb:ds.all gC=false):(WT TT (k+3)).Φ "is_facts" [.tup ds]=.ok .fz (.bl false):=by
 have ei:bI [(.fz,.tup ds),(.fz,.ty "tuple")]=some (.fz,.bl true):=rfl;have ec:b0 (.ok .fz (.lst ds)) [some (false,.tup ds)] [] 1 (aQ (.nm 0)) (λρ=>evF (WT TT (k+2)) [] ρ) (λρ=>evE (WT TT (k+2)) (.call "is_name" 1 [(.var 0)]) ρ)=.ok .fr (.lst (ds.map λd=>.bl (gC d))):=by
  refine oW (ds:=ds) _ (by rw[aQH];omega) λd hd'=>?_
  have e:=cD (hd d hd');exact ⟨[some (false,d)],.fz,rfl,by simp,.fz,by simp[e]⟩
 have ea:iH [(.fr,.lst (ds.map λd=>.bl (gC d)))]=some (.fz,.bl false):=by rw[all_map,hb]
 have ci:eZ (.ok .fz (.tup ds))=.ok .fz (.lst ds):=rfl;rw[sZ];refine bA rfl ?_;show evB _ hZ [some (false,.tup ds)]=_;simp only[kH,yZ,y6,y0,yY] at ec;generalize (ds.map λd=>D.bl (gC d))=L2 at *;generalize D.tup ds=A at *;simp[hZ,ei,ci,ec,ea,Ty.id]
theorem aO1{xs:List Str}(h:¬ f6 xs):gR xs=false:=by
 unfold gR;have:¬ xs=aX xs:=λe=>h (by rw[e];exact l5 xs)
 rw[aPL this,Bool.and_false]
def jQ(d:D):Prop:=∀ m:Nat,25<=m->(WT TT m).Φ "is_term" [d]=.ok .fz (.bl false)
theorem kY{t:Tr}(v:VT 2 t){f:D}(hf:∀ m:Nat,20<=m->(WT TT m).Φ "is_facts" [f]=.ok .fz (.bl false)):jQ (.tup [f,nD t.1.2,.int t.2]):=λm hm=>by
 obtain ⟨m,rfl⟩:∃ k,m=k+2:=⟨m-2,by omega⟩
 exact kW v.2.2 (hf _ (by omega)) (pR (by decide) v.2.1 (by omega))
theorem aO2{t:Tr}(v:VT 2 t){b:D}(hb:jO b):jQ (.tup [nD t.1.1,b,.int t.2]):=λm hm=>by
 obtain ⟨m,rfl⟩:∃ k,m=k+4:=⟨m-4,by omega⟩
 have:=kW (m:=m+2) v.2.2 (pP m v.1) (hb _ (by omega))
 exact this
theorem uG{f b d:D}{a c:Bool}(h1:bI [(.fz,d),(.fz,.ty "int")]=some (.fz,.bl a))(h2:bI [(.fz,d),(.fz,.ty "bool")]=some (.fz,.bl c))(h:(a&&!c)=false):jQ (.tup [f,b,d]):=λm hm=>by
 obtain ⟨m,rfl⟩:∃ k,m=k+2:=⟨m-2,by omega⟩
 exact aOM (by rw[cW m h1 h2,h])
theorem aBP{f b:D}{n:Int}(h:n<1):jQ (.tup [f,b,.int n]):=λm hm=>by
 obtain ⟨m,rfl⟩:∃ k,m=k+2:=⟨m-2,by omega⟩
 exact aBB h
theorem aO3{d:D}(h:d=.str "A" \/ d=.str "" \/ d=.int 7\/d=.non\/d=.tup [.str "a"]\/d=.str "a_" \/ d=.str "0a"):gC d=false/\∀ k:Nat,(WT TT (k+2)).Φ "is_name" [d]=.ok .fz (.bl (gC d)):=by
 rcases h with rfl | rfl | rfl | rfl | rfl | rfl | rfl
 . exact ⟨by decide +kernel,λk=>kU k⟩
 . exact ⟨by decide +kernel,λk=>kU k⟩
 . exact ⟨rfl,λk=>tY k rfl⟩
 . exact ⟨rfl,λk=>tY k rfl⟩
 . exact ⟨rfl,λk=>tY k rfl⟩
 . exact ⟨by decide +kernel,λk=>kU k⟩
 . exact ⟨by decide +kernel,λk=>kU k⟩
theorem uH{ds:List D}(hl:ds.length<100)(hd:∀ d∈ds,(∃ s:Str,d=.str s)\/∀ k:Nat,(WT TT (k+2)).Φ "is_name" [d]=.ok .fz (.bl (gC d))){b:D}(hb:b∈ds)(nb:gC b=false):∀ m:Nat,20<=m->(WT TT m).Φ "is_facts" [.tup ds]=.ok .fz (.bl false):=λm hm=>by
 obtain ⟨m,rfl⟩:∃ k,m=k+3:=⟨m-3,by omega⟩
 refine aO0 hl (λd hd'=>?_) ?_
 . rcases hd d hd' with ⟨s,rfl⟩ | h
   . exact kU m
   . exact h m
 . cases q:ds.all gC with
   | false=>rfl
   | true=>rw[aSB] at q;have:=q b hb;rw[nb] at this;cases this
theorem aO4{Φ:List D->Res}{a b c e d:D}{m:Md}(hm:m ≠ .bo)(h:Φ [a,b,c,e]=.ok m d):aY (bE 4 Φ (.ok [(.fz,a),(.fz,b),(.fz,c),(.fz,e)]))=.ok .fz d:=by
 have:bE 4 Φ (.ok [(.fz,a),(.fz,b),(.fz,c),(.fz,e)])=.ok m d:=by
  show (match Φ [a,b,c,e] with | .ok .bo _=>Res.stuck | r=>r)=_
  rw[h];cases m with
  | bo=>exact absurd rfl hm
  | fz=>rfl
  | fr=>rfl
 rw[this];cases m with
 | bo=>exact absurd rfl hm
 | fz=>rfl
 | fr=>rfl
theorem aO5{p q r s:Str}(so:f6 [p,q,r,s])(nd:[p,q,r,s].Nodup):lts p s=true/\lts q s=true:=by
 have st:∀ {a b:Str},lts b a=false->a≠b->lts a b=true:=λ{a b} h ne=>by
  cases e:lts a b with
  | true=>rfl
  | false=>exact absurd (j6 e h) ne
 unfold f6 at so;simp only[aTW,aPY,aUG,aSY] at so;simp only[aQR,aPY,aUG,aSY,not_or] at nd;exact ⟨st (so.1 s (by simp)) nd.1.2.2,st (so.2.1 s (by simp)) nd.2.1.2⟩
theorem catT{x y:List D}{m n:Md}(h:x.length+y.length<=1000):op2 (aZ .Add) (.ok m (.tup x)) (.ok n (.tup y))=.ok .fz (.tup (x++y)):=aMK (by rw[aQH];omega)
theorem lst7{a b c d e f g:D}:dP (.ok [(.fz,a),(.fz,b),(.fz,c),(.fz,d),(.fz,e),(.fz,f),(.fz,g)])=.ok .fr (.lst [a,b,c,d,e,f,g]):=rfl
theorem pV{m m':Md}{x y z:D}:op2 ixD (.ok m (.lst [x,y,z])) (.ok m' (.int 0))=.ok .fz x:=bL rfl
theorem pW{m m':Md}{x y z:D}:op2 ixD (.ok m (.lst [x,y,z])) (.ok m' (.int 1))=.ok .fz y:=bL rfl
theorem pX{m m':Md}{x y z:D}:op2 ixD (.ok m (.lst [x,y,z])) (.ok m' (.int 2))=.ok .fz z:=bL rfl
theorem aO6{k:Nat}{nms:List Str}(hn:nms.length=4)(hN:∀ s∈nms,Nm s)(nd:nms.Nodup){t:Tr}(v:VT 2 t)(w c:Int)(hw:0<=w)(hw':w<=15)(h11:w≠11)(h12:w≠12)(h13:w≠13):∃ d:D,jQ d/\aY (bE 4 ((WT TT (k+2)).Φ "_law_spoiled_term") (.ok [(.fz,tD t),(.fz,.int w),(.fz,.int c),(.fz,NM nms)]))=.ok .fz d:=by
 obtain ⟨xs,ex,fx,lx⟩:=id v.1;have eF:nD t.1.1=.tup (xs.map .str):=by rw[ex,kR]
 have bN:∀ {m:Md} {d:D},m ≠ .bo->evB (WT TT (k+1)) cV [some (false,tD t),some (false,.int w),some (false,.int c),some (false,NM nms),none,none,none,none,none,none,none,none]=.rt m d->aY (bE 4 ((WT TT (k+2)).Φ "_law_spoiled_term") (.ok [(.fz,tD t),(.fz,.int w),(.fz,.int c),(.fz,NM nms)]))=.ok .fz d:=λ{m d} hm h=>aO4 hm (by
  rw[aM9];exact bA rfl h)
 have split:cV=cV.take 1++cV.drop 1:=rfl;have first:evB (WT TT (k+1)) (cV.take 1) [some (false,tD t),some (false,.int w),some (false,.int c),some (false,NM nms),none,none,none,none,none,none,none,none]=.nx [some (false,tD t),some (false,.int w),some (false,.int c),some (false,NM nms),some (false,nD t.1.1),some (false,nD t.1.2),some (false,.int t.2),none,none,none,none,none]:=by
  have as:hC (.tp [(.nm 4),(.nm 5),(.nm 6)]) [some (false,tD t),some (false,.int w),some (false,.int c),some (false,NM nms),none,none,none,none,none,none,none,none] (.ok .fz (tD t))=.nx [some (false,tD t),some (false,.int w),some (false,.int c),some (false,NM nms),some (false,nD t.1.1),some (false,nD t.1.2),some (false,.int t.2),none,none,none,none,none]:=by rw[eJ];rfl
  generalize NM nms=M at *;generalize tD t=TD at *;simp[cV,as]
 have go:∀ {m:Md} {d:D},m ≠ .bo->evB (WT TT (k+1)) (cV.drop 1) [some (false,tD t),some (false,.int w),some (false,.int c),some (false,NM nms),some (false,nD t.1.1),some (false,nD t.1.2),some (false,.int t.2),none,none,none,none,none]=.rt m d->aY (bE 4 ((WT TT (k+2)).Φ "_law_spoiled_term") (.ok [(.fz,tD t),(.fz,.int w),(.fz,.int c),(.fz,NM nms)]))=.ok .fz d:=λ{m d} hm h=>bN hm (by rw[split,dB,first,aG.thn_nx,h])
 by_cases w3:w<3
 . have c3:c % 3=0\/c % 3=1\/c % 3=2:=by omega
   have run:∀ {x d:D},op2 ixD (.ok .fr (.lst [.bl true,.non,.str "1"])) (.ok .fz (.int (c % 3)))=.ok .fz x->op2 ixD (.ok .fr (.lst [.int 0,x,.int (0-1-c % 9)])) (.ok .fz (.int w))=.ok .fz d->evB (WT TT (k+1)) (cV.drop 1) [some (false,tD t),some (false,.int w),some (false,.int c),some (false,NM nms),some (false,nD t.1.1),some (false,nD t.1.2),some (false,.int t.2),none,none,none,none,none]=.rt .fz (.tup [nD t.1.1,nD t.1.2,d]):=λ{x d} h1 h2=>by
    generalize NM nms=M at *;generalize tD t=TD at *;generalize nD t.1.1=FF at *;generalize nD t.1.2=BB at *;have e:(0:Int)-1-c % 9 = -1-c % 9:=by omega
    rw[e] at h2;simp[cV,w3,jP,h1,h2,bT]
   have x3:∃ x:D,op2 ixD (.ok .fr (.lst [.bl true,.non,.str "1"])) (.ok .fz (.int (c % 3)))=.ok .fz x/\jQ (.tup [nD t.1.1,nD t.1.2,x]):=by
    rcases c3 with e | e | e
    . exact ⟨.bl true,by rw[e];exact pV,uG (a:=true) (c:=true) rfl rfl rfl⟩
    . exact ⟨.non,by rw[e];exact pW,uG (a:=false) (c:=false) rfl rfl rfl⟩
    . exact ⟨.str "1", by rw[e];exact pX,uG (a:=false) (c:=false) rfl rfl rfl⟩
   obtain ⟨x,hx,nx⟩:=x3;have ww:w=0\/w=1\/w=2:=by omega
   rcases ww with rfl | rfl | rfl
   . exact ⟨_,aBP (by decide),go (m:=.fz) (by decide) (run hx pV)⟩
   . exact ⟨_,nx,go (m:=.fz) (by decide) (run hx pW)⟩
   . exact ⟨_,aBP (by omega),go (m:=.fz) (by decide) (run hx pX)⟩
 have w3':decide (w<3)=false:=aPL w3;by_cases e3:w=3
 . subst e3;have lo:=pU (nms:=nms) (up:=false) (by omega)
   have hi:=pU (nms:=nms) (up:=true) (by omega)
   have c7:c % 7=0\/c % 7=1\/c % 7=2\/c % 7=3\/c % 7=4\/c % 7=5\/c % 7=6:=by omega
   have bx:∃ d:D,(d=.str "A" \/ d=.str "" \/ d=.int 7\/d=.non\/d=.tup [.str "a"]\/d=.str "a_" \/ d=.str "0a")/\op2 ixD (.ok .fr (.lst [.str "A", .str "", .int 7,.non,.tup [.str "a"],.str "a_", .str "0a"])) (.ok .fz (.int (c % 7)))=.ok .fz d:=by
    rcases c7 with e | e | e | e | e | e | e <;> rw[e]
    . exact ⟨_,.inl rfl,bL rfl⟩
    . exact ⟨_,.inr (.inl rfl),bL rfl⟩
    . exact ⟨_,.inr (.inr (.inl rfl)),bL rfl⟩
    . exact ⟨_,.inr (.inr (.inr (.inl rfl))),bL rfl⟩
    . exact ⟨_,.inr (.inr (.inr (.inr (.inl rfl)))),bL rfl⟩
    . exact ⟨_,.inr (.inr (.inr (.inr (.inr (.inl rfl))))),bL rfl⟩
    . exact ⟨_,.inr (.inr (.inr (.inr (.inr (.inr rfl))))),bL rfl⟩
   obtain ⟨d,hd,ed⟩:=bx;obtain ⟨nb,nm⟩:=aO3 hd;have a1:op2 (aZ .Add) (.ok .fz (.tup (xs.map D.str))) (.ok .fz (.tup [d]))=.ok .fz (.tup (xs.map D.str++[d])):=catT (by simp;omega)
   have a2:op2 (aZ .Add) (.ok .fz (.tup [d])) (.ok .fz (.tup (xs.map D.str)))=.ok .fz (.tup ([d]++xs.map D.str)):=catT (by simp;omega)
   have run:∀ {f:D},op2 ixD (.ok .fr (.lst [.tup (xs.map D.str++[d]),.tup ([d]++xs.map D.str),.tup [.str (bV false nms),d,.str (bV true nms)]])) (.ok .fz (.int (c / 7 % 3)))=.ok .fz f->evB (WT TT (k+1)) (cV.drop 1) [some (false,tD t),some (false,.int 3),some (false,.int c),some (false,NM nms),some (false,nD t.1.1),some (false,nD t.1.2),some (false,.int t.2),none,none,none,none,none]=.rt .fz (.tup [f,nD t.1.2,.int t.2]):=λ{f} hf=>by rw[eF];generalize bV false nms=lw at *;generalize bV true nms=hg at *;generalize NM nms=M at *;generalize tD t=TD at *;generalize nD t.1.2=BB at *;generalize D.tup ([d]++xs.map D.str)=T2 at *;generalize D.tup (xs.map D.str++[d])=T1 at *;generalize D.tup (xs.map D.str)=T0 at *;simp[cV,lst7,ed,cB,bT,a1,a2,lo,hi,jP,hf]
   have str:∀ z∈xs.map D.str,(∃ s:Str,z=.str s)\/∀ k:Nat,(WT TT (k+2)).Φ "is_name" [z]=.ok .fz (.bl (gC z)):=λz hz=>by obtain ⟨s,_,rfl⟩:=aUF.mp hz;exact .inl ⟨s,rfl⟩
   have v3:c / 7 % 3=0\/c / 7 % 3=1\/c / 7 % 3=2:=by omega
   rcases v3 with e | e | e
   . refine ⟨_,kY v (uH (ds:=xs.map D.str++[d]) (by simp;omega) (λz hz=>?_) (b:=d) (by simp) nb),go (m:=.fz) (by decide) (run (by rw[e];exact pV))⟩
     rcases aPZ.mp hz with hz | hz
     . exact str z hz
     . cases aSV.mp hz;exact .inr nm
   . refine ⟨_,kY v (uH (ds:=[d]++xs.map D.str) (by simp;omega) (λz hz=>?_) (b:=d) (by simp) nb),go (m:=.fz) (by decide) (run (by rw[e];exact pW))⟩
     rcases aPZ.mp hz with hz | hz
     . cases aSV.mp hz;exact .inr nm
     . exact str z hz
   . refine ⟨_,kY v (uH (ds:=[.str (bV false nms),d,.str (bV true nms)]) (by simp) (λz hz=>?_) (b:=d) (by simp) nb),go (m:=.fz) (by decide) (run (by rw[e];exact pX))⟩
     simp only[aPY,aUG,aSY] at hz;rcases hz with rfl | rfl | rfl
     . exact .inl ⟨_,rfl⟩
     . exact .inr nm
     . exact .inl ⟨_,rfl⟩
 by_cases e4:w=4
 . subst e4;have so:=l5 nms;have sl:=m5 nms;have sn:(aX nms).Nodup:=(gM nms).symm.nodup nd;have es:fN [(.fz,NM nms)]=some (.fr,.lst ((aX nms).map .str)):=mW rfl (by omega)
   obtain ⟨p,q,r,s,eq⟩:∃ p q r s,aX nms=[p,q,r,s]:=by
    match aX nms,sl.trans hn with
    | [p,q,r,s],_=>exact ⟨p,q,r,s,rfl⟩
   rw[eq] at so sn es;obtain ⟨ps,qs⟩:=aO5 so sn;have as:hC (.tp [(.nm 8),(.nm 9),(.nm 10),(.nm 11)]) [some (false,tD t),some (false,.int 4),some (false,.int c),some (false,NM nms),some (false,nD t.1.1),some (false,nD t.1.2),some (false,.int t.2),none,none,none,none,none] (.ok .fr (.lst ([p,q,r,s].map .str)))=.nx [some (false,tD t),some (false,.int 4),some (false,.int c),some (false,NM nms),some (false,nD t.1.1),some (false,nD t.1.2),some (false,.int t.2),none,some (false,.str p),some (false,.str q),some (false,.str r),some (false,.str s)]:=rfl;have run:∀ {f:D},op2 ixD (.ok .fr (.lst [.tup [.str s,.str p],.tup [.str p,.str s,.str q]])) (.ok .fz (.int (c % 2)))=.ok .fz f->evB (WT TT (k+1)) (cV.drop 1) [some (false,tD t),some (false,.int 4),some (false,.int c),some (false,NM nms),some (false,nD t.1.1),some (false,nD t.1.2),some (false,.int t.2),none,none,none,none,none]=.rt .fz (.tup [f,nD t.1.2,.int t.2]):=λ{f} hf=>by generalize NM nms=M at *;generalize tD t=TD at *;generalize nD t.1.1=FF at *;generalize nD t.1.2=BB at *;generalize [p,q,r,s].map D.str=LL at *;simp[cV,es,as,dI,bT,uF,hf]
   have no:∀ {ys:List Str},ys.length<64 -> ¬ f6 ys->∀ m:Nat,20<=m->(WT TT m).Φ "is_facts" [.tup (ys.map .str)]=.ok .fz (.bl false):=λ{ys} hl hs m hm=>by
    obtain ⟨m,rfl⟩:∃ k,m=k+3:=⟨m-3,by omega⟩
    rw[t0 m hl,aO1 hs]
   have v2:c % 2=0\/c % 2=1:=by omega
   rcases v2 with e | e
   . exact ⟨_,kY v (no (ys:=[s,p]) (by simp) (λh=>by
       have:=(aTW.mp h).1 p (by simp)
       rw[ps] at this;cases this)),go (m:=.fz) (by decide) (run (by rw[e];exact bL rfl))⟩
   . exact ⟨_,kY v (no (ys:=[p,s,q]) (by simp) (λh=>by
       have:=(aTW.mp (aTW.mp h).2).1 q (by simp)
       rw[qs] at this;cases this)),go (m:=.fz) (by decide) (run (by rw[e];exact bL rfl))⟩
 have b3:(w==3)=false:=by simpa using e3
 have b4:(w==4)=false:=by simpa using e4
 by_cases e8:w=8
 . subst e8;refine ⟨.tup [.lst (xs.map .str),nD t.1.2,.int t.2],kY v (λm hm=>by
     obtain ⟨m,rfl⟩:∃ k,m=k+1:=⟨m-1,by omega⟩
     exact aOZ rfl),go (m:=.fz) (by decide) ?_⟩
   rw[eF];have tl:gJ [(.fz,.tup (xs.map D.str))]=some (.fr,.lst (xs.map .str)):=rfl;generalize NM nms=M at *;generalize tD t=TD at *;generalize nD t.1.2=BB at *;generalize xs.map D.str=XX at *;simp[cV,Ty.f,tl,bT]
 have b8:(w==8)=false:=by simpa using e8
 by_cases e10:w=10
 . subst e10;refine ⟨.tup [nD t.1.1,nD t.1.2],λm hm=>by
     obtain ⟨m,rfl⟩:∃ k,m=k+1:=⟨m-1,by omega⟩
     exact aON,go (m:=.fz) (by decide) ?_⟩
   generalize NM nms=M at *;generalize tD t=TD at *;generalize nD t.1.1=FF at *;generalize nD t.1.2=BB at *;simp[cV,dI]
 have b10:(w==10)=false:=by simpa using e10
 by_cases e14:w=14
 . subst e14;refine ⟨.lst [nD t.1.1,nD t.1.2,.int t.2],λm hm=>by
     obtain ⟨m,rfl⟩:∃ k,m=k+1:=⟨m-1,by omega⟩
     exact t7 rfl,go (m:=.fr) (by decide) ?_⟩
   generalize NM nms=M at *;generalize tD t=TD at *;generalize nD t.1.1=FF at *;generalize nD t.1.2=BB at *;simp[cV,jP]
 have b14:(w==14)=false:=by simpa using e14
 obtain ⟨d,nb,ed⟩:=aOY (k:=k) hn hN nd w c (by omega)
 refine ⟨_,aO2 v nb,go (m:=.fz) (by decide) ?_⟩
 generalize NM nms=M at *;generalize tD t=TD at *;generalize nD t.1.1=FF at *;generalize nD t.1.2=BB at *;simp[cV,w3',b3,b4,b8,b10,b14,ed,bT]
def NoR(d:D):Prop:=∀ m:Nat,30<=m->(WT TT m).Φ "is_reason" [d]=.ok .fz (.bl false)
theorem aBQ{ks:List N}{i:Nat}(h:i+1<ks.length)(e:ltN (ks.getD i (.i 0)) (ks.getD (i+1) (.i 0))=false):bY ks=false:=by
 unfold bY;cases q:(List.range (ks.length-1)).all λi=>ltN (ks.getD i (.i 0)) (ks.getD (i+1) (.i 0)) with
 | false=>rfl
 | true =>
  rw[aSB] at q;have:=q i (aPU.mpr (by omega))
  rw[e] at this;cases this
theorem aO7{ks:List N}{i:Nat}(h:i+1<ks.length)(e:bY ks=true):ltN (ks.getD i (.i 0)) (ks.getD (i+1) (.i 0))=true:=by unfold bY at e;rw[aSB] at e;exact e i (aPU.mpr (by omega))
theorem pY(A B:List Tr)(t:Tr):(eY (A++t::B)).getD A.length (.i 0)=kyN t.1:=by unfold eY;simp
theorem uI(A B:List Tr)(t u:Tr):(eY (A++t::u::B)).getD (A.length+1) (.i 0)=kyN u.1:=by have:=pY (A++[t]) B u;simpa using this
theorem aO8{A B:List Tr}{t u:Tr}(h:VR 2 (A++t::u::B)):NoR (.tup ((A++u::t::B).map tD)):=λm hm=>by
 have:=jN (j:=2) (ts:=A++u::t::B) (by decide) (by have:=h.1;simpa using this) (λx hx=>h.2.1 x (by simp only[aPZ,aPY] at hx ⊢;rcases hx with q | q | q | q <;> simp[q])) (m:=m) (by omega)
 rw[this];have l:A.length+1<(eY (A++t::u::B)).length:=by unfold eY;simp
 have lt:=aO7 l h.2.2;rw[pY,uI] at lt;rw[aBQ (i:=A.length) (by unfold eY;simp) (by rw[pY,uI];exact oK lt)]
theorem aO9{A B:List Tr}{t:Tr}{n:Int}(h:VR 2 (A++t::B))(hl:(A++t::B).length<63)(hn:1<=n):NoR (.tup ((A++t::(t.1,n)::B).map tD)):=λm hm=>by
 have vt:=h.2.1 t (by simp)
 have:=jN (j:=2) (ts:=A++t::(t.1,n)::B) (by decide) (by simp at hl ⊢;omega) (λx hx=>by
  simp only[aPZ,aPY] at hx;rcases hx with q | q | q | q
  . exact h.2.1 x (by simp[q])
  . exact h.2.1 x (by simp[q])
  . subst q;exact ⟨vt.1,vt.2.1,hn⟩
  . exact h.2.1 x (by simp[q])) (m:=m) (by omega)
 rw[this];rw[aBQ (i:=A.length) (by unfold eY;simp) (by rw[pY,uI];exact iN _)]
theorem aPA{A B:List Tr}{t:Tr}{d:D}(h:VR 2 (A++t::B))(hd:jQ d):NoR (.tup (A.map tD++d::B.map tD)):=λm hm=>by
 obtain ⟨m,rfl⟩:∃ k,m=k+1:=⟨m-1,by omega⟩
 refine m8 (λx hx=>?_) (hd m (by omega))
 obtain ⟨u,hu,rfl⟩:=aUF.mp hx;exact t9 (j:=2) (by decide) (h.2.1 u (by simp[hu])) (by omega)
theorem aPB{Φ:List D->Res}{a b c e f d:D}{m:Md}(hm:m ≠ .bo)(h:Φ [a,b,c,e,f]=.ok m d):aY (bE 5 Φ (.ok [(.fz,a),(.fz,b),(.fz,c),(.fz,e),(.fz,f)]))=.ok .fz d:=by
 have:bE 5 Φ (.ok [(.fz,a),(.fz,b),(.fz,c),(.fz,e),(.fz,f)])=.ok m d:=by
  show (match Φ [a,b,c,e,f] with | .ok .bo _=>Res.stuck | r=>r)=_
  rw[h];cases m with
  | bo=>exact absurd rfl hm
  | fz=>rfl
  | fr=>rfl
 rw[this];cases m with
 | bo=>exact absurd rfl hm
 | fz=>rfl
 | fr=>rfl
theorem jR{x y:List D}{m n:Md}(h:x.length+y.length<=1000):op2 (aZ .Add) (.ok m (.lst x)) (.ok n (.lst y))=.ok .fr (.lst (x++y)):=aMJ (by rw[aQH];omega)
theorem aPC{α:Type}{S:List α}{a:Nat}(h:a<S.length):∃ A t B,S=A++t::B/\A.length=a:=⟨S.take a,S[a],S.drop (a+1),by rw[<- aSJ h,aTU],by rw[aQT];omega⟩
theorem aPD{k:Nat}{nms:List Str}(hn:nms.length=4)(hN:∀ s∈nms,Nm s)(nd:nms.Nodup){S:List Tr}(v:VR 2 S)(hl:S.length<63){a:Nat}(ha:a<S.length)(w c:Int)(hw:0<=w)(hw':w<=15):∃ d:D,NoR d/\aY (bE 5 ((WT TT (k+3)).Φ "_law_spoiled") (.ok [(.fz,.tup (S.map tD)),(.fz,.int (a:Nat)),(.fz,.int w),(.fz,.int c),(.fz,NM nms)]))=.ok .fz d:=by
 have bN:∀ {m:Md} {d:D},m ≠ .bo->evB (WT TT (k+2)) dZ [some (false,.tup (S.map tD)),some (false,.int (a:Nat)),some (false,.int w),some (false,.int c),some (false,NM nms),none,none,none]=.rt m d->aY (bE 5 ((WT TT (k+3)).Φ "_law_spoiled") (.ok [(.fz,.tup (S.map tD)),(.fz,.int (a:Nat)),(.fz,.int w),(.fz,.int c),(.fz,NM nms)]))=.ok .fz d:=λ{m d} hm h=>aPB hm (by
  rw[aNA];exact bA rfl h)
 have tl:gJ [(.fz,.tup (S.map tD))]=some (.fr,.lst (S.map tD)):=rfl;have split:dZ=dZ.take 1++dZ.drop 1:=rfl;have first:evB (WT TT (k+2)) (dZ.take 1) [some (false,.tup (S.map tD)),some (false,.int (a:Nat)),some (false,.int w),some (false,.int c),some (false,NM nms),none,none,none]=.nx [some (false,.tup (S.map tD)),some (false,.int (a:Nat)),some (false,.int w),some (false,.int c),some (false,NM nms),some (false,.lst (S.map tD)),none,none]:=by generalize NM nms=M at *;generalize S.map tD=SD at *;simp[dZ,Ty.f,tl]
 have go:∀ {m:Md} {d:D},m ≠ .bo->evB (WT TT (k+2)) (dZ.drop 1) [some (false,.tup (S.map tD)),some (false,.int (a:Nat)),some (false,.int w),some (false,.int c),some (false,NM nms),some (false,.lst (S.map tD)),none,none]=.rt m d->aY (bE 5 ((WT TT (k+3)).Φ "_law_spoiled") (.ok [(.fz,.tup (S.map tD)),(.fz,.int (a:Nat)),(.fz,.int w),(.fz,.int c),(.fz,NM nms)]))=.ok .fz d:=λ{m d} hm h=>bN hm (by rw[split,dB,first,aG.thn_nx,h])
 have ln:eE [(.fz,.lst (S.map tD))]=some (.fz,.int S.length):=by show some (Md.fz,D.int ((S.map tD).length:Nat))=_;rw[aQ1]
 by_cases e11:w=11
 . subst e11;refine ⟨.lst (S.map tD),λm hm=>by
     obtain ⟨m,rfl⟩:∃ k,m=k+1:=⟨m-1,by omega⟩
     exact gT rfl,go (m:=.fz) (by decide) ?_⟩
   generalize NM nms=M at *;have rt:∀ {L:D} {x0 x1 x2 x3 x4 x6 x7:Option (Bool×D)},fJ [x0,x1,x2,x3,x4,some (false,L),x6,x7] 5=.rt .fz L:=rfl;generalize D.lst (S.map tD)=SL at *;generalize D.tup (S.map tD)=SD at *;simp[dZ,rt]
 have b11:(w==11)=false:=by simpa using e11
 have s0:∀ (ρ:Rho) (i:Nat) (e:E),evE (WT TT (k+2)) e ρ=.ok .fz (.int (i:Nat))->slP (.ok .fz (.lst (S.map tD))) none (some (evE (WT TT (k+2)) e)) ρ=.ok .fr (.lst ((S.take i).map tD)):=λρ i e h=>by rw[sl_hi h,aOC,List.map_take]
 have s9:∀ (ρ:Rho) (i:Nat) (e:E),evE (WT TT (k+2)) e ρ=.ok .fz (.int (i:Nat))->slP (.ok .fz (.lst (S.map tD))) (some (evE (WT TT (k+2)) e)) none ρ=.ok .fr (.lst ((S.drop i).map tD)):=λρ i e h=>by rw[sl_lo h,aOD,List.map_drop]
 have ixS:∀ (i:Nat) (h:i<S.length),op2 ixD (.ok .fz (.lst (S.map tD))) (.ok .fz (.int (i:Nat)))=.ok .fz (tD S[i]):=λi h=>bL (gZ (by rw[aQY,aSE h];rfl))
 have tcT:∀ {L:List D},eQ [(.fr,.lst L)]=some (.fz,.tup L):=rfl;by_cases c13:w=13/\1<S.length
 . obtain ⟨rfl,l1⟩:=c13;have h0:0<=(a:Int) % ((S.length:Int)-1):=aUP _ (by omega)
   have h1:(a:Int) % ((S.length:Int)-1)<(S.length:Int)-1:=aUQ _ (by omega)
   obtain ⟨i,hi⟩:=aUR h0;have hi:(a:Int) % ((S.length:Int)-1)=((i:Nat):Int):=hi;have md:op2 (aZ .Mod) (.ok .fz (.int (a:Nat))) (.ok .fz (.int ((S.length:Int)-1)))=.ok .fz (.int (i:Nat)):=by rw[mM (by omega),hi]
   have il:i+1<S.length:=by omega
   have s1:=s0 [some (false,.tup (S.map tD)),some (false,.int (i:Nat)),some (false,.int 13),some (false,.int c),some (false,NM nms),some (false,.lst (S.map tD)),none,none] i (.var 1) (by simp)
   have s2:=s9 [some (false,.tup (S.map tD)),some (false,.int (i:Nat)),some (false,.int 13),some (false,.int c),some (false,NM nms),some (false,.lst (S.map tD)),none,none] (i+2) (.bin .Add (.var 1) (.int 2)) (by simp)
   have x0:=ixS i (by omega)
   have x1:=ixS (i+1) il;rw[show ((i+1:Nat):Int)=(i:Int)+1 by omega] at x1
   have eS:S=S.take i++S[i]::S[i+1]::S.drop (i+2):=by rw[<- aSJ il,<- aSJ (show i<S.length by omega),aTU]
   have c1:op2 (aZ .Add) (.ok .fr (.lst ((S.take i).map tD))) (.ok .fr (.lst [tD S[i+1],tD S[i]]))=.ok .fr (.lst ((S.take i).map tD++[tD S[i+1],tD S[i]])):=jR (by simp;omega)
   have c2:op2 (aZ .Add) (.ok .fr (.lst ((S.take i).map tD++[tD S[i+1],tD S[i]]))) (.ok .fr (.lst ((S.drop (i+2)).map tD)))=.ok .fr (.lst ((S.take i).map tD++[tD S[i+1],tD S[i]]++(S.drop (i+2)).map tD)):=jR (by simp;omega)
   refine ⟨.tup ((S.take i++S[i+1]::S[i]::S.drop (i+2)).map tD),aO8 (by rw[<- eS];exact v),go (m:=.fz) (by decide) ?_⟩
   have em:(S.take i++S[i+1]::S[i]::S.drop (i+2)).map tD=(S.take i).map tD++[tD S[i+1],tD S[i]]++(S.drop (i+2)).map tD:=by simp
   rw[em];have l1':(1:Int)<(S.length:Int):=by omega
   generalize NM nms=M at *;generalize (S.take i).map tD++[tD S[i+1],tD S[i]]++(S.drop (i+2)).map tD=L3 at *;generalize (S.take i).map tD++[tD S[i+1],tD S[i]]=L2 at *;generalize (S.take i).map tD=L1 at *;generalize (S.drop (i+2)).map tD=L0 at *;generalize tD S[i+1]=T1 at *;generalize tD S[i]=T0 at *;generalize D.tup (S.map tD)=SD at *;generalize S.map tD=SL at *;simp[dZ,Ty.f,ln,l1',md,s1,s2,x0,x1,uF,c1,c2,tcT]
 have c13':(w==13&&decide (1<S.length))=false:=by
  cases q:(w==13&&decide (1<S.length)) with
  | false=>rfl
  | true=>rw[aRI,aQL,aR2] at q;exact absurd q c13
 have and13:∀ (ρ:Rho),eO ρ 2=.ok .fz (.int w)->eO ρ 5=.ok .fz (.lst (S.map tD))->evE (WT TT (k+2)) (.andL [(.cmp .Eq (.var 2) (.int 13)),(.cmp .Gt (.bcall .len [(.var 5)]) (.int 1))]) ρ=.ok .fz (.bl false):=λρ h2 h5=>by
  by_cases q:w=13
  . have l:¬ (1:Int)<(S.length:Int):=by have:¬ 1<S.length:=λz=>c13 ⟨q,z⟩;omega
    generalize D.lst (S.map tD)=SL at *;generalize ((S.length:Nat):Int)=LN at *;simp[h2,h5,q,ln,l]
  . have q:(w==13)=false:=by simpa using q
    simp[h2,q]
 obtain ⟨A,t,B,eS,lA⟩:=aPC ha;have tk:S.take a=A:=by rw[eS,<- lA,List.take_left'];rfl
 have dr:S.drop (a+1)=B:=by rw[eS,<- lA];simp
 have gt:S[a]=t:=by simp[eS,<- lA]
 have xa:=ixS a ha;rw[gt] at xa;have vS:VR 2 (A++t::B):=by rw[<- eS];exact v
 have lS:(A++t::B).length<63:=by rw[<- eS];exact hl
 rw[aQ0,aR1] at lS;have vt:=vS.2.1 t (by simp)
 by_cases c12:w=12\/w=13
 . have n3:∃ n:Int,1<=n/\op2 ixD (.ok .fr (.lst [.int t.2,.int (t.2+1),.int 1])) (.ok .fz (.int (c % 3)))=.ok .fz (.int n):=by
     have:c % 3=0\/c % 3=1\/c % 3=2:=by omega
     have:=vt.2.2;rcases ‹c % 3=0\/c % 3=1\/c % 3=2› with e | e | e <;> rw[e]
     . exact ⟨_,vt.2.2,pV⟩
     . exact ⟨_,by omega,pW⟩
     . exact ⟨_,aUS 1,pX⟩
   obtain ⟨n,hn1,en⟩:=n3;have ti0:op2 ixD (.ok .fz (tD t)) (.ok .fz (.int 0))=.ok .fz (nD t.1.1):=by rw[eJ];exact tM
   have ti1:op2 ixD (.ok .fz (tD t)) (.ok .fz (.int 1))=.ok .fz (nD t.1.2):=by rw[eJ];exact ix3_1
   have ti2:op2 ixD (.ok .fz (tD t)) (.ok .fz (.int 2))=.ok .fz (.int t.2):=by rw[eJ];exact tN
   have again:D.tup [nD t.1.1,nD t.1.2,.int n]=tD (t.1,n):=(eJ (t.1,n)).symm;have s1:=s0 [some (false,.tup (S.map tD)),some (false,.int (a:Nat)),some (false,.int w),some (false,.int c),some (false,NM nms),some (false,.lst (S.map tD)),some (false,tD t),some (false,tD (t.1,n))] a (.var 1) (by simp)
   have s2:=s9 [some (false,.tup (S.map tD)),some (false,.int (a:Nat)),some (false,.int w),some (false,.int c),some (false,NM nms),some (false,.lst (S.map tD)),some (false,tD t),some (false,tD (t.1,n))] (a+1) (.bin .Add (.var 1) (.int 1)) (by simp)
   rw[tk] at s1;rw[dr] at s2;have c1:op2 (aZ .Add) (.ok .fr (.lst (A.map tD))) (.ok .fr (.lst [tD t,tD (t.1,n)]))=.ok .fr (.lst (A.map tD++[tD t,tD (t.1,n)])):=jR (by simp;omega)
   have c2:op2 (aZ .Add) (.ok .fr (.lst (A.map tD++[tD t,tD (t.1,n)]))) (.ok .fr (.lst (B.map tD)))=.ok .fr (.lst (A.map tD++[tD t,tD (t.1,n)]++B.map tD)):=jR (by simp;omega)
   refine ⟨.tup ((A++t::(t.1,n)::B).map tD),aO9 vS (by rw[aQ0,aR1];exact lS) hn1,go (m:=.fz) (by decide) ?_⟩
   have em:(A++t::(t.1,n)::B).map tD=A.map tD++[tD t,tD (t.1,n)]++B.map tD:=by simp
   rw[em];have a13:=and13 [some (false,.tup (S.map tD)),some (false,.int (a:Nat)),some (false,.int w),some (false,.int c),some (false,NM nms),some (false,.lst (S.map tD)),none,none] rfl rfl;have or12:(w==12||w==13)=true:=by simpa using c12
   have sp:dZ.drop 1=(dZ.drop 1).take 2++dZ.drop 3:=rfl;have p1:evB (WT TT (k+2)) ((dZ.drop 1).take 2) [some (false,.tup (S.map tD)),some (false,.int (a:Nat)),some (false,.int w),some (false,.int c),some (false,NM nms),some (false,.lst (S.map tD)),none,none]=.nx [some (false,.tup (S.map tD)),some (false,.int (a:Nat)),some (false,.int w),some (false,.int c),some (false,NM nms),some (false,.lst (S.map tD)),none,none]:=by generalize NM nms=M at *;generalize D.tup (S.map tD)=SD at *;generalize D.lst (S.map tD)=SL at *;show evB (WT TT (k+2)) [.ite (.cmp .Eq (.var 2) (.int 11)) [.retV 5] [],.ite (.andL [(.cmp .Eq (.var 2) (.int 13)),(.cmp .Gt (.bcall .len [(.var 5)]) (.int 1))]) _ []] _=_;generalize E.andL [(.cmp .Eq (.var 2) (.int 13)),(.cmp .Gt (.bcall .len [(.var 5)]) (.int 1))]=EA at *;simp[b11,a13]
   rw[sp,dB,p1,aG.thn_nx];rw[<- again] at s1 s2 c1 c2 ⊢;generalize A.map tD++[tD t,D.tup [nD t.1.1,nD t.1.2,.int n]]++B.map tD=L3 at *;generalize A.map tD++[tD t,D.tup [nD t.1.1,nD t.1.2,.int n]]=L2 at *;generalize NM nms=M at *;generalize A.map tD=L1 at *;generalize B.map tD=L0 at *;generalize tD t=T0 at *;generalize nD t.1.1=FF at *;generalize nD t.1.2=BB at *;generalize D.tup (S.map tD)=SD at *;generalize D.lst (S.map tD)=SL at *;have orE:∀ (ρ:Rho),eO ρ 2=.ok .fz (.int w)->evE (WT TT (k+2)) (.orL [(.cmp .Eq (.var 2) (.int 12)),(.cmp .Eq (.var 2) (.int 13))]) ρ=.ok .fz (.bl true):=λρ h=>by
    rcases c12 with q | q
    . simp[h,q]
    . simp[h,q]
   have oe:=orE [some (false,SD),some (false,.int (a:Nat)),some (false,.int w),some (false,.int c),some (false,M),some (false,SL),none,none] rfl;show evB (WT TT (k+2)) [.ite (.orL [(.cmp .Eq (.var 2) (.int 12)),(.cmp .Eq (.var 2) (.int 13))]) [.set 6 (.ix (.var 5) (.var 1)),.set 7 (.tup [(.ix (.var 6) (.int 0)),(.ix (.var 6) (.int 1)),(.ix (.lst [(.ix (.var 6) (.int 2)),(.frz (.bin .Add (.ix (.var 6) (.int 2)) (.int 1))),(.int 1)]) (.bin .Mod (.var 3) (.int 3)))]),.ret (.tcall .tuple [(.bin .Add (.bin .Add (.slice (.var 5) none (some (.var 1))) (.lst [(.var 6),(.var 7)])) (.slice (.var 5) (some (.bin .Add (.var 1) (.int 1))) none))])] [],_] _=_;generalize E.orL [(.cmp .Eq (.var 2) (.int 12)),(.cmp .Eq (.var 2) (.int 13))]=EO at *;simp[oe,xa,ti0,ti1,ti2,jP,en,bT,s1,s2,uF,c1,c2,Ty.f,tcT]
 . have n12:w≠12:=λe=>c12 (.inl e);have n13:w≠13:=λe=>c12 (.inr e);obtain ⟨d,nt,ed⟩:=aO6 (k:=k) hn hN nd vt w c hw hw' e11 n12 n13;have s1:=s0 [some (false,.tup (S.map tD)),some (false,.int (a:Nat)),some (false,.int w),some (false,.int c),some (false,NM nms),some (false,.lst (S.map tD)),none,none] a (.var 1) (by simp)
   have s2:=s9 [some (false,.tup (S.map tD)),some (false,.int (a:Nat)),some (false,.int w),some (false,.int c),some (false,NM nms),some (false,.lst (S.map tD)),none,none] (a+1) (.bin .Add (.var 1) (.int 1)) (by simp)
   rw[tk] at s1;rw[dr] at s2;have c1:op2 (aZ .Add) (.ok .fr (.lst (A.map tD))) (.ok .fr (.lst [d]))=.ok .fr (.lst (A.map tD++[d])):=jR (by simp;omega)
   have c2:op2 (aZ .Add) (.ok .fr (.lst (A.map tD++[d]))) (.ok .fr (.lst (B.map tD)))=.ok .fr (.lst (A.map tD++[d]++B.map tD)):=jR (by simp;omega)
   have em:A.map tD++d::B.map tD=A.map tD++[d]++B.map tD:=by simp
   have nb:=aPA vS nt;rw[em] at nb;refine ⟨_,nb,go (m:=.fz) (by decide) ?_⟩
   have b12:(w==12)=false:=by simpa using n12
   have b13:(w==13)=false:=by simpa using n13
   generalize NM nms=M at *;generalize A.map tD++[d]++B.map tD=L3 at *;generalize A.map tD++[d]=L2 at *;generalize A.map tD=L1 at *;generalize B.map tD=L0 at *;generalize tD t=T0 at *;generalize D.tup (S.map tD)=SD at *;generalize D.lst (S.map tD)=SL at *;simp[dZ,b11,b12,b13,xa,ed,uE,s1,s2,c1,c2,Ty.f,tcT]
theorem kZ{m:Nat}{d:D}{b:Bool}(h:(WT TT m).Φ "is_reason" [d]=.ok .fz (.bl b)):fA TT.cl (WT TT (m+1)).Φ "holds" (.ok .fz (.ins "Reasons" [])) (.ok [(.fz,d)])=.ok .fz (.bl b):=by have h:=cD h;rw[aNH];refine dY ?_;rw[aNC];refine bA rfl ?_;show evB _ o9 [some (false,.ins "Reasons" []),some (false,d)]=_;simp[o9,h]
def eA:Tr:=((.t [],.t []),1)
def fF(S:List Tr):Tr:=((.t [],.t [rN S]),1)
theorem uJ(S:List Tr):nD (rN S)=.tup (S.map tD):=by unfold rN;rw[nD,kQ]
theorem uK:tD eA=.tup [.tup [],.tup [],.int 1]:=by rw[eJ];simp[eA,nD,nDL]
theorem aBR(S:List Tr):tD (fF S)=.tup [.tup [],.tup [.tup (S.map tD)],.int 1]:=by rw[eJ];simp[fF,nD,nDL,uJ]
theorem mone{m:Nat}:fA TT.cl (WT TT (m+1)).Φ "one" (.ok .fz (.ins "Reasons" [])) (.ok [])=.ok .fz (.tup [tD eA]):=by rw[aNE,uK];refine cD ?_;rw[aNB];refine bA rfl ?_;show evB _ o8 [some (false,.ins "Reasons" [])]=_;simp[o8,bO,bT,cB]
theorem mlack{m:Nat}{S:List Tr}(h:S≠[])(dp:(rN S).dp<=50):fA TT.cl (WT TT (m+1)).Φ "lack" (.ok .fz (.ins "Reasons" [])) (.ok [(.fz,.tup (S.map tD))])=.ok .fz (.tup [tD (fF S)]):=by
 have eq:=pE (m:=.fz) (m':=.fz) (x:=rN S) (y:=.t []) dp (by simp[N.dp,N.dpL])
 rw[aPL (pQ h),uJ,dJ] at eq;rw[aAI,aBR];refine dY ?_;rw[aAH];refine bA rfl ?_;show evB _ kK [some (false,.ins "Reasons" []),some (false,.tup (S.map tD))]=_;generalize D.tup (S.map tD)=A at *;simp[kK,bO,bT,cB,eq]
theorem aPE{m:Nat}:fA TT.cl (WT TT (m+2)).Φ "lack" (.ok .fz (.ins "Reasons" [])) (.ok [(.fz,.tup [])])=.ok .fz (.tup [tD eA]):=by have o:=mone (m:=m);rw[aAI];refine dY ?_;rw[aAH];refine bA rfl ?_;show evB _ kK [some (false,.ins "Reasons" []),some (false,.tup [])]=_;generalize tD eA=A at *;simp[kK,bO,aBM,o]
theorem aBS:VF (.t []):=⟨[],rfl,rfl,by simp⟩
theorem aBT:VT 2 eA:=⟨aBS,gB 2,by decide⟩
theorem aPF{m:Nat}(hm:14<=m):(WT TT m).Φ "is_reason" [.tup [tD eA]]=.ok .fz (.bl true):=jN (j:=2) (ts:=[eA]) (by decide) (by simp) (λt ht=>by cases aSV.mp ht;exact aBT) hm
theorem VR.dp{S:List Tr}(v:VR 2 S):(rN S).dp<=9:=by
 unfold rN;rw[N.dp];have:N.dpL (S.map tmN)<=8:=jI λx hx=>by obtain ⟨t,ht,rfl⟩:=aUF.mp hx;exact (kP ⟨(v.2.1 t ht).1.isF,VB.isBs (v.2.1 t ht).2.1⟩ (aQC 2)).2.2.2 t.2
 omega
theorem VR.sz{S:List Tr}(v:VR 2 S):Sz (rN S):=.t (λx hx=>by
 obtain ⟨t,ht,rfl⟩:=aUF.mp hx
 exact pN (sz_F (v.2.1 t ht).1.isF) (sz_B (VB.isBs (v.2.1 t ht).2.1))) (by rw[aQ1];have:=v.1;omega)
theorem VR.ok{S:List Tr}(v:VR 2 S){m:Nat}(hm:14<=m):(WT TT m).Φ "is_reason" [.tup (S.map tD)]=.ok .fz (.bl true):=by rw[jN (j:=2) (by decide) v.1 v.2.1 hm,v.2.2]
theorem aPG{m:Nat}{t:Tr}(hd:(kyN t.1).dp<=40)(hT:(WT TT (m+1)).Φ "is_term" [tD t]=.ok .fz (.bl true)):(WT TT (m+2)).Φ "is_reason" [.tup [tD t]]=.ok .fz (.bl true):=by
 have i1:bI [(.fz,.tup [tD t]),(.fz,.ty "tuple")]=some (.fz,.bl true):=rfl;have ci:eZ (.ok .fz (.tup [tD t]))=.ok .fz (.lst [tD t]):=rfl;obtain ⟨ρ',lp,x',rfl⟩:=m7 (k:=aQ (.nm 1)) (body:=evB (WT TT (m+1)) f8) (λρ=>∃ x,ρ=[some (false,.tup [tD t]),x]) [tD t] [some (false,.tup [tD t]),none] ⟨none,rfl⟩ (λx hx ρ hρ=>by
  obtain ⟨y,rfl⟩:=hρ;cases aSV.mp hx;have h:=cD hT;refine ⟨[some (false,.tup [tD t]),some (false,tD t)],rfl,⟨_,rfl⟩,?_⟩;generalize D.tup [tD t]=AA at *;generalize tD t=TT' at *;simp[f8,h])
 have ec:b0 (.ok .fz (.lst ([t].map tD))) [some (false,.tup [tD t]),x'] [] 3 (aQ (.tp [(.nm 0),(.nm 1),(.nm 2)])) (λρ=>evF (WT TT (m+1)) [] ρ) (λρ=>evE (WT TT (m+1)) (.tup [(.var 0),(.var 1)]) ρ)=.ok .fr (.lst ([t].map λt=>nD (kyN t.1))):=by
  refine tO (enc:=tD) (λt=>nD (kyN t.1)) (by rw[aQH];simp) λt ht=>?_
  refine ⟨[some (false,nD t.1.1),some (false,nD t.1.2),some (false,.int t.2)],.fz,by rw[eJ];rfl,by simp,.fz,?_⟩
  rw[pG];simp[dI]
 have ec : b0 (.ok .fz (.lst [tD t])) [some (false, .tup [tD t]), x'] [] 3 (aQ (.tp [(.nm 0), (.nm 1), (.nm 2)])) (fun ρ => evF (WT TT (m + 1)) [] ρ) (fun ρ => evE (WT TT (m + 1)) (.tup [(.var 0), (.var 1)]) ρ) = .ok .fr (.lst [nD (kyN t.1)]) := ec; have rs := cD (t5 m (ks := [kyN t.1]) (d := .lst [nD (kyN t.1)]) (fun i hi mm => bL (gZ (by
     cases i with
     | zero=>rfl
     | succ i=>simp at hi))) rfl (λx hx y hy=>by
     cases aSV.mp hx;cases aSV.mp hy;exact uC _) (λx hx=>by
     cases aSV.mp hx
     exact hd) (by simp))
 rw[ris1] at rs;rw[pA];refine bA rfl ?_;show evB _ gN [some (false,.tup [tD t]),none]=_;simp only[kH] at ec;unfold gN;generalize f8=LB at *;generalize nD (kyN t.1)=KL at *;generalize D.tup [tD t]=AA at *;generalize [tD t]=AL at *;generalize E.tup [E.var 0,E.var 1]=EE at *;simp[i1,ci,fM,lp,ec,rs,Ty.id]
theorem aPH{S:List Tr}(v:VR 2 S)(h0:S≠[]){m:Nat}(hm:20<=m):(WT TT m).Φ "is_reason" [.tup [tD (fF S)]]=.ok .fz (.bl true):=by
 obtain ⟨m,rfl⟩:∃ k,m=k+8:=⟨m-8,by omega⟩
 have dp:=v.dp;refine aPG (m:=m+6) (by simp[fF,kyN,N.dp,N.dpL];omega) ?_
 rw[eJ];refine kW (m:=m+5) (x:=true) (y:=true) (aUS 1) (pP (m+3) aBS) ?_;refine pO (m:=m+4) (ks:=[rN S]) (by simp) (λk hk=>?_) (λx hx y hy=>?_)
 . cases aSV.mp hk;exact ⟨by rw[uJ];exact v.ok (by omega),pQ h0,by omega⟩
 . cases aSV.mp hx;cases aSV.mp hy;exact uC _
theorem aPI{S:List Tr}(v:VR 2 S){m:Nat}(hm:20<=m):(WT TT m).Φ "_law_alike" [.tup [tD (fF S)],.tup [tD (fF S)]]=.ok .fz (.bl true):=by
 have dp:=v.dp;have e:D.tup [tD (fF S)]=nD (.t [tmN (fF S)]):=by rw[nD];rfl
 rw[e];refine aA7 (.t (λx hx=>?_) (by simp)) ?_
 . cases aSV.mp hx;exact pN (.t (λx hx=>nomatch hx) (by simp)) (.t (λx hx=>by cases aSV.mp hx;exact v.sz) (by simp))
 . simp[fF,tmN,N.dp,N.dpL];omega
theorem aPJ{m:Nat}(hm:20<=m):(WT TT m).Φ "_law_alike" [.tup [tD eA],.tup [tD eA]]=.ok .fz (.bl true):=by
 have e:D.tup [tD eA]=nD (.t [tmN eA]):=by rw[nD];rfl
 rw[e];refine aA7 (.t (λx hx=>?_) (by simp)) ?_
 . cases aSV.mp hx;exact pN (.t (λx hx=>nomatch hx) (by simp)) (.t (λx hx=>nomatch hx) (by simp))
 . simp[eA,tmN,N.dp,N.dpL];omega
theorem aBU{b:Bool}{m:Nat}:(WT TT (m+1)).Φ "_law_alike" [.bl b,.bl b]=.ok .fz (.bl true):=by
 rw[pB];refine bA rfl ?_;show evB _ dC [some (false,.bl b),some (false,.bl b),none]=_;have i2:bI [(.fz,.bl b),(.fz,.ty "bool")]=some (.fz,.bl true):=rfl;have nn:eH (.bl b)=false:=rfl;have eq:op2 (bX .Eq) (.ok .fz (.bl b)) (.ok .fz (.bl b))=.ok .fz (.bl true):=by cases b <;> rfl
 simp[dC,i2,Ty.id,nn,eq]
def iX:List D:=[.non,.int 0,.int 1,.bl true,.str "a", .str "", .lst [],.dct [],.tup [.str "a"],.tup [tD eA,.int 5]]
theorem aPK:∀ d∈iX,NoR d:=λd hd m hm=>by
 obtain ⟨m,rfl⟩:∃ k,m=k+1:=⟨m-1,by omega⟩
 have hs:(WT TT m).Φ "is_term" [.str "a"]=.ok .fz (.bl false):=by
  obtain ⟨m,rfl⟩:∃ k,m=k+1:=⟨m-1,by omega⟩
  exact t7 rfl
 have h5:(WT TT m).Φ "is_term" [.int 5]=.ok .fz (.bl false):=by
  obtain ⟨m,rfl⟩:∃ k,m=k+1:=⟨m-1,by omega⟩
  exact t7 rfl
 simp only[iX,aPY,aUG,aSY] at hd;rcases hd with rfl | rfl | rfl | rfl | rfl | rfl | rfl | rfl | rfl | rfl
 . exact gT rfl
 . exact gT rfl
 . exact gT rfl
 . exact gT rfl
 . exact gT rfl
 . exact gT rfl
 . exact gT rfl
 . exact gT rfl
 . exact m8 (A:=[]) (B:=[]) (λx hx=>nomatch hx) hs
 . exact m8 (A:=[tD eA]) (B:=[]) (λx hx=>by cases aSV.mp hx;exact t9 (j:=2) (by decide) aBT (by omega)) h5
theorem cut62{ns:List Int}:∃ cs:List Int,cs.length<=59/\D3.dF (ns.map .int) (some 3) (some 62)=cs.map .int:=by
 unfold D3.dF;rw[show (some (3:Int))=some ((3:Nat):Int) from rfl,show (some (62:Int))=some ((62:Nat):Int) from rfl,HT.nJ,HT.nJ,<- List.map_drop,<- List.map_take]
 exact ⟨_,by rw[aQT];omega,rfl⟩
theorem aBV{rs:List Rw}(h:∀ r∈rs,iC r/\RV 2 r)(hl:rs.length<64):∃ S:List Tr,nf (rs.map tr)=.tup (S.map tD)/\S.length<=rs.length/\VR 2 S/\(rs≠[]->S≠[]):=by
 obtain ⟨S,p,e⟩:=pI (ts:=bD (rs.map tr));have ll:S.length<=rs.length:=by rw[p.length_eq];have:=mX (rs.map tr);rw[aQ1] at this;exact this
 refine ⟨S,?_,ll,⟨by omega,λt ht=>aBF (λr hr=>(h r hr).2) t (p.mem_iff.mp ht),aBE p e⟩,λh0 e0=>?_⟩
 . unfold nf;rw[<- e,kQ]
 . cases rs with
   | nil=>exact h0 rfl
   | cons r rs =>
    subst e0;have:=((gO ((r::rs).map tr)).1 (tr r).1 (cJ ((r::rs).map tr) (tr r).1)).mpr ⟨⟨tr r,by simp,rfl⟩,rfl⟩
    exact absurd (p.mem_iff.mpr this) (by simp)
def kk:Nat:=40
theorem lst10{a b c d e f g h i j:D}:dP (.ok [(.fz,a),(.fz,b),(.fz,c),(.fz,d),(.fz,e),(.fz,f),(.fz,g),(.fz,h),(.fz,i),(.fz,j)])=.ok .fr (.lst [a,b,c,d,e,f,g,h,i,j]):=rfl
theorem main(ns:List Int)(h:ns.length<=63):(WT TT (kk+1)).Φ ("law" : Str) (nU ns)=.ok .fz (.bl true):=by
 have c0:=tX 39 ns (i:=0) (by decide)
 have c1:=tX 39 ns (i:=1) (by decide)
 have c2:=tX 39 ns (i:=2) (by decide)
 obtain ⟨nms,hn,hN,nd,en⟩:=names (k:=39) (ce ns 0);have en:=aOG en;obtain ⟨cs,lc,ec⟩:=cut62 (ns:=ns);generalize hw:ce ns 1 % 16=w at *;have w0:0<=w:=by omega
 have w1:w<=15:=by omega
 have md:op2 (aZ .Mod) (.ok .fz (.int (ce ns 1))) (.ok .fz (.int 16))=.ok .fz (.int w):=by rw[mM (by omega),hw]
 generalize ce ns 0=n0 at *;generalize ce ns 1=n1 at *;generalize ce ns 2=c at *;obtain ⟨rs1,l1,g1,e1⟩:=aBH (k:=36) hn hN cs (by omega)
 obtain ⟨rs2,l2,g2,e2⟩:=aBH (k:=36) hn hN (cs++[c]) (by rw[aQ0];simp;omega)
 rw[aQ0,List.length_singleton] at l2;obtain ⟨R,eR,lR,vR,_⟩:=aBV g1 (by omega)
 obtain ⟨S,eS,lS,vS,zS⟩:=aBV g2 (by omega)
 have S0:S≠[]:=zS (λe=>by rw[e] at l2;simp at l2)
 have SL:0<S.length:=List.length_pos_iff.mpr S0;rw[eR] at e1;rw[eS] at e2;have e1:=dY e1;have e2:=dY e2;have v0:0<=c / 21 % (S.length:Int):=aUP _ (by omega)
 have v1:c / 21 % (S.length:Int)<(S.length:Int):=aUQ _ (by omega)
 obtain ⟨a,ha⟩:=aUR v0;have ha:c / 21 % (S.length:Int)=((a:Nat):Int):=ha;have dv:op2 (aZ .FloorDiv) (.ok .fz (.int c)) (.ok .fz (.int 21))=.ok .fz (.int (c / 21)):=sQ (by decide) (by decide)
 have ma:op2 (aZ .Mod) (.ok .fz (.int (c / 21))) (.ok .fz (.int (S.length:Int)))=.ok .fz (.int ((a:Nat):Int)):=by rw[mM (by omega),ha]
 obtain ⟨bad,nb,eb⟩:=aPD (k:=37) hn hN nd vS (by omega) (a:=a) (by omega) w c w0 w1
 obtain ⟨j,hj⟩:=aUR (show 0<=c % 10 by omega)
 have hj:c % 10=((j:Nat):Int):=hj;have jl:j<iX.length:=by show j<10;omega
 have m10:op2 (aZ .Mod) (.ok .fz (.int c)) (.ok .fz (.int 10))=.ok .fz (.int ((j:Nat):Int)):=by rw[mM (by omega),hj]
 have ixo:op2 ixD (.ok .fr (.lst iX)) (.ok .fz (.int ((j:Nat):Int)))=.ok .fz iX[j]:=bL (gZ (aSE jl));have no:=aPK iX[j] (aSF jl);generalize iX[j]=odd at *;have h1:=kZ (vR.ok (m:=39) (by decide))
 have h2:=kZ (aBN (m:=39) (by decide))
 have h3:=kZ (nb 39 (by decide))
 have h4:=kZ (no 39 (by decide))
 have h5:=kZ (aPH vS S0 (m:=39) (by decide))
 have h6:=kZ (aPF (m:=39) (by decide))
 have k1:=mlack (m:=39) S0 (by have:=vS.dp;omega)
 have k2:=aPE (m:=38);have k3:=mone (m:=39);have aT:=dY (aBU (b:=true) (m:=39));have aF:=dY (aBU (b:=false) (m:=39));have aL:=dY (aPI vS (m:=40) (by decide))
 have aO:=dY (aPJ (m:=40) (by decide))
 have ca:op2 (aZ .Add) (.ok .fr (.lst (cs.map .int))) (.ok .fr (.lst [.int c]))=.ok .fr (.lst ((cs++[c]).map .int)):=by rw[aUM];exact jR (by rw[aQ1];simp;omega)
 have tl:∀ {L:List D},gJ [(.fr,.lst L)]=some (.fr,.lst L):=λ{L}=>rfl;have ln:eE [(.fz,.tup (S.map tD))]=some (.fz,.int S.length):=by show some (Md.fz,D.int ((S.map tD).length:Nat))=_;rw[aQ1]
 have sl:∀ ρ:Rho,slP (.ok .fz (.lst (ns.map .int))) (some (evE (WT TT 40) (.int 3))) (some (evE (WT TT 40) (.int 62))) ρ=.ok .fr (.lst (cs.map .int)):=λρ=>by rw[aOE (m1:=.fz) (m2:=.fz) (i:=3) (j:=62) (by simp) (by simp),ec]
 rw[u_law];refine bA rfl ?_;show evB (WT TT 40) bZ [some (false,.lst (ns.map .int)),none,none,none,none,none,none,none,none,none]=_;have split:bZ=bZ.take 5++((bZ.drop 5).take 1++((bZ.drop 6).take 2++((bZ.drop 8).take 1++((bZ.drop 9).take 1++((bZ.drop 10).take 2++bZ.drop 12))))):=rfl;have p1:evB (WT TT 40) (bZ.take 5) [some (false,.lst (ns.map .int)),none,none,none,none,none,none,none,none,none]=.nx [some (false,.lst (ns.map .int)),some (false,NM nms),some (false,.int w),some (false,.int c),some (false,.ins "Reasons" []),some (false,.tup (R.map tD)),none,none,none,none]:=by
  clear split eb ma ln ca e2 h1 h2 h3 h4 h5 h6 k1 k2 k3 aT aF aL aO m10 ixo
  generalize NM nms=M at *;generalize ns.map D.int=NS at *;generalize cs.map D.int=CS at *;generalize R.map tD=RD at *;simp[bZ,c0,c1,c2,en,sl,md,e1]
 have p2:evB (WT TT 40) ((bZ.drop 5).take 1) [some (false,.lst (ns.map .int)),some (false,NM nms),some (false,.int w),some (false,.int c),some (false,.ins "Reasons" []),some (false,.tup (R.map tD)),none,none,none,none]=.nx [some (false,.lst (ns.map .int)),some (false,NM nms),some (false,.int w),some (false,.int c),some (false,.ins "Reasons" []),some (false,.tup (R.map tD)),none,none,none,none]:=by
  clear split eb ma ln ca e1 e2 h3 h4 h5 h6 k1 k2 k3 aF aL aO m10 ixo p1 c0 c1 c2 en sl md
  generalize NM nms=M at *;generalize ns.map D.int=NS at *;generalize R.map tD=RD at *;simp[bZ,h1,h2,aT,bO]
 have p3:evB (WT TT 40) ((bZ.drop 6).take 2) [some (false,.lst (ns.map .int)),some (false,NM nms),some (false,.int w),some (false,.int c),some (false,.ins "Reasons" []),some (false,.tup (R.map tD)),none,none,none,none]=.nx [some (false,.lst (ns.map .int)),some (false,NM nms),some (false,.int w),some (false,.int c),some (false,.ins "Reasons" []),some (false,.tup (R.map tD)),some (false,.tup (S.map tD)),some (false,bad),none,none]:=by
  clear split e1 h1 h2 h3 h4 h5 h6 k1 k2 k3 aT aF aL aO m10 ixo p1 p2 c0 c1 c2 en md
  generalize NM nms=M at *;generalize ns.map D.int=NS at *;generalize (cs++[c]).map D.int=CC at *;generalize cs.map D.int=CS at *;generalize R.map tD=RD at *;generalize S.map tD=SD at *;generalize ((S.length:Nat):Int)=LN at *;generalize ((a:Nat):Int)=AN at *;simp[bZ,sl,tl,uE,ca,e2,ln,dv,ma,eb,Ty.f]
 have p4:evB (WT TT 40) ((bZ.drop 8).take 1) [some (false,.lst (ns.map .int)),some (false,NM nms),some (false,.int w),some (false,.int c),some (false,.ins "Reasons" []),some (false,.tup (R.map tD)),some (false,.tup (S.map tD)),some (false,bad),none,none]=.nx [some (false,.lst (ns.map .int)),some (false,NM nms),some (false,.int w),some (false,.int c),some (false,.ins "Reasons" []),some (false,.tup (R.map tD)),some (false,.tup (S.map tD)),some (false,bad),some (false,odd),none]:=by
  clear split e1 h1 h2 h3 h4 h5 h6 k1 k2 k3 aT aF aL aO p1 p2 p3 c0 c1 c2 en md eb ma ln ca e2 sl
  generalize NM nms=M at *;generalize ns.map D.int=NS at *;generalize R.map tD=RD at *;generalize S.map tD=SD at *;generalize ((j:Nat):Int)=JN at *;unfold iX at ixo;rw[uK] at ixo;simp[bZ,bO,cB,dI,bT,lst0,lst10,m10,ixo]
 have p5:evB (WT TT 40) ((bZ.drop 9).take 1) [some (false,.lst (ns.map .int)),some (false,NM nms),some (false,.int w),some (false,.int c),some (false,.ins "Reasons" []),some (false,.tup (R.map tD)),some (false,.tup (S.map tD)),some (false,bad),some (false,odd),none]=.nx [some (false,.lst (ns.map .int)),some (false,NM nms),some (false,.int w),some (false,.int c),some (false,.ins "Reasons" []),some (false,.tup (R.map tD)),some (false,.tup (S.map tD)),some (false,bad),some (false,odd),none]:=by
  clear split e1 h1 h2 h5 h6 k1 k2 k3 aT aL aO p1 p2 p3 p4 c0 c1 c2 en md eb ma ln ca e2 sl m10 ixo
  generalize NM nms=M at *;generalize ns.map D.int=NS at *;generalize R.map tD=RD at *;generalize S.map tD=SD at *;simp[bZ,h3,h4,aF]
 have p6:evB (WT TT 40) ((bZ.drop 10).take 2) [some (false,.lst (ns.map .int)),some (false,NM nms),some (false,.int w),some (false,.int c),some (false,.ins "Reasons" []),some (false,.tup (R.map tD)),some (false,.tup (S.map tD)),some (false,bad),some (false,odd),none]=.nx [some (false,.lst (ns.map .int)),some (false,NM nms),some (false,.int w),some (false,.int c),some (false,.ins "Reasons" []),some (false,.tup (R.map tD)),some (false,.tup (S.map tD)),some (false,bad),some (false,odd),some (false,.tup [tD (fF S)])]:=by
  clear split e1 h1 h2 h3 h4 h5 h6 k3 aT aF p1 p2 p3 p4 p5 c0 c1 c2 en md eb ma ln ca e2 sl m10 ixo
  rw[aBR] at *;rw[uK] at k2 aO;generalize NM nms=M at *;generalize ns.map D.int=NS at *;generalize R.map tD=RD at *;generalize S.map tD=SD at *;simp[bZ,k1,k2,aL,aO,bO,cB,bT]
 have p7:evB (WT TT 40) (bZ.drop 12) [some (false,.lst (ns.map .int)),some (false,NM nms),some (false,.int w),some (false,.int c),some (false,.ins "Reasons" []),some (false,.tup (R.map tD)),some (false,.tup (S.map tD)),some (false,bad),some (false,odd),some (false,.tup [tD (fF S)])]=.rt .fz (.bl true):=by
  clear split e1 h1 h2 h3 h4 k1 k2 aF aL aO p1 p2 p3 p4 p5 p6 c0 c1 c2 en md eb ma ln ca e2 sl m10 ixo
  generalize NM nms=M at *;generalize ns.map D.int=NS at *;generalize R.map tD=RD at *;generalize S.map tD=SD at *;generalize D.tup [tD (fF S)]=LK at *;generalize D.tup [tD eA]=ON at *;simp[bZ,h5,k3,h6,aT]
 rw[split,dB,p1,aG.thn_nx,dB,p2,aG.thn_nx,dB,p3,aG.thn_nx,dB,p4,aG.thn_nx,dB,p5,aG.thn_nx,dB,p6,aG.thn_nx,p7]
end K23
namespace K23
open PySem PySem.W Tp
theorem tw:Prod.fst (true,PySem.Challenge.pw_whencewise_k23_lacks_and_holds)=true:=by k_qdec
def as:List Addr:=[2,3,15,17,18,20,21,22,25,26,27,29,30,32,33,41,43,44,46,47,48,49,50,51,52,55,58,59,60,67,69,70,72,73,74,76,77,79,80,81,83,84,86,87,88,91,92,93,95,96,98,99,100,103,104,105,107,108,110,111,112,114,115,117,118,119,120,121,124,126,127,129,130,131,133,134,136,137,138,140,141,143,144,145,148,149,150,152,153,155,156,157,160,161,162,164,165,167,168,169,171,172,174,175,176,178,179,181,182,183,185,186,188,189,190,193,194,195,197,198,200,201,202,205,206,207,210,211,212,214,215,217,218,219,221,222,224,225,226,228,229,231,232,233,235,236,238,239,240,242,243,245,246]
theorem pre(w:World)(os:OsState):topGo treeTable PySem.Challenge.pw_whencewise_k23_lacks_and_holds w 11 an 12 ⟨boot_heap w.params,#[],boot_drawn,boot_toks,os⟩ (topStub PySem.Challenge.pw_whencewise_k23_lacks_and_holds)=some ((sh w.params (sA w.params) 15 187 os).abs,⟨denote treeTable (cd PySem.Challenge.pw_whencewise_k23_lacks_and_holds),cd PySem.Challenge.pw_whencewise_k23_lacks_and_holds,z0,[topFrame z0]⟩):=by
 rw[Fast.te10261539341061485641,Fast.te203182992438928480,Fast.te13144403056285818395,Fast.te15667345088766844465,Fast.te14364793385576792824,Fast.te11892475500146522536]
 kernel_rfl
theorem blk(w:World)(s:Shared):segRun treeTable PySem.Challenge.pw_whencewise_k23_lacks_and_holds w 11 an 1 1 s (blockOf PySem.Challenge.pw_whencewise_k23_lacks_and_holds.main.body (ev PySem.Challenge.pw_whencewise_k23_lacks_and_holds) (cd PySem.Challenge.pw_whencewise_k23_lacks_and_holds) z0 [topFrame z0])=some (.next,s,cd PySem.Challenge.pw_whencewise_k23_lacks_and_holds,z0):=by kernel_rfl
theorem run(w:World)(os:OsState):go treeTable PySem.Challenge.pw_whencewise_k23_lacks_and_holds w 1000 PySem.Challenge.pw_whencewise_k23_lacks_and_holds.main.body (sh w.params (sA w.params) 15 187 os) (cd PySem.Challenge.pw_whencewise_k23_lacks_and_holds) z0=some (sh w.params (lay w.params PySem.Challenge.pw_whencewise_k23_lacks_and_holds.main.body (sA w.params)) 247 524 os,cd PySem.Challenge.pw_whencewise_k23_lacks_and_holds,⟨219,0,235,110⟩):=by
 rw[Fast.te10261539341061485641,Fast.te203182992438928480,Fast.te13144403056285818395,Fast.te5678740263434597267,Fast.te14364793385576792824,Fast.te10212481707522018265]
 kernel_rfl
theorem uL(w:World):(λos=>((staticsOk (importedModules PySem.Challenge.pw_whencewise_k23_lacks_and_holds.main.body) (boot_heap w.params) (H1 PySem.Challenge.pw_whencewise_k23_lacks_and_holds.main.body 247 w.params)&&namesBound PySem.Challenge.pw_whencewise_k23_lacks_and_holds (H1 PySem.Challenge.pw_whencewise_k23_lacks_and_holds.main.body 247 w.params)&&gensDone (S1 PySem.Challenge.pw_whencewise_k23_lacks_and_holds.main.body 247 524 w.params os)&&laidKept (boot_heap w.params) (H1 PySem.Challenge.pw_whencewise_k23_lacks_and_holds.main.body 247 w.params)),openSeen (vw PySem.Challenge.pw_whencewise_k23_lacks_and_holds) (los PySem.Challenge.pw_whencewise_k23_lacks_and_holds.main.body) (importedModules PySem.Challenge.pw_whencewise_k23_lacks_and_holds.main.body) (xt PySem.Challenge.rw_whencewise_k23_lacks_and_holds.row) true (S1 PySem.Challenge.pw_whencewise_k23_lacks_and_holds.main.body 247 524 w.params os),(hk PySem.Challenge.pw_whencewise_k23_lacks_and_holds.main.body as).obs (S1 PySem.Challenge.pw_whencewise_k23_lacks_and_holds.main.body 247 524 w.params os)))=λ_=>(true,openGood (vw PySem.Challenge.pw_whencewise_k23_lacks_and_holds) (los PySem.Challenge.pw_whencewise_k23_lacks_and_holds.main.body),(hk PySem.Challenge.pw_whencewise_k23_lacks_and_holds.main.body as).val w):=by
 rw[Fast.te14387180822208032119,Fast.te10261539341061485641,Fast.te5923862056798008813,Fast.te9407923862454927560,Fast.te15884229538025494872,Fast.te4187177175401517315,Fast.te18076920544200396443,Fast.te9318435048543301240,Fast.te17808466708180730929,Fast.te2368527892694137696]
 kernel_rfl
theorem gf(P:Params):D3.sW (KK PySem.Challenge.pw_whencewise_k23_lacks_and_holds.main.body as P) GG TT=true:=by
 kernel_rfl
abbrev dl:DefRec:=⟨"law", L2.nO sY,L2.jU sY,L2.fW sY,⟨219,0,235,110⟩⟩
end K23
open PySem PySem.W PyProof.Rows
set_option maxRecDepth 100000 in
set_option maxHeartbeats 0 in
theorem PySem.Challenge.cw_whencewise_k23_lacks_and_holds_holds : PySem.Challenge.rw_whencewise_k23_lacks_and_holds.Holds := by
 w_on;o_law
 exact Tp.head (p:=PySem.Challenge.rw_whencewise_k23_lacks_and_holds) (d:=K23.dl) (Tp.left (by kernel_rfl) K23.pre K23.blk K23.run (by kernel_rfl) (by kernel_rfl) (λ_=>by kernel_rfl) K23.uL) (by assumption) (by kernel_rfl) (by kernel_rfl) rfl rfl (by decide +kernel) ⟨rfl,rfl,rfl,rfl,rfl,by decide +kernel⟩ (by w_witness2)
  (D3.walkG (K:=Tp.KK PySem.Challenge.pw_whencewise_k23_lacks_and_holds.main.body K23.as) (kk:=K23.kk) (e:=K23.sX) rfl rfl rfl (λw h Y=>PySem.W.kIn_of Y) K23.gf (D3.aMM (g:=K23.GG) (by decide +kernel)) rfl rfl ⟨rfl,by decide,by decide⟩ K23.main)
