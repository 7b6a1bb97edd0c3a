import PyProof.Rows.All
import Wide.All
import OpenK.AllK
import Wide.FinOn
import Lean
import PyProof.EqAt
import PyProof.EqKinds
import PyProof.TupleCall
import PySem.Challenge.RW_whencewise_k63_plans_refused
set_option linter.all false
section
open PySem PySem.Spec PyProof.Rows
def aOC:=@decide_eq_false
def aOD:=@beq_eq_false_iff_ne
def aOE:=@PySem.Paired.length
def aOF:=@Option.some.inj
def aOG:=@PySem.Heap.get?_push_size
def aOH:=@PySem.Heap.lt_size
def aOI:=@Nat.lt_of_lt_of_le
def aOJ:=@Nat.lt_irrefl
def aOK:=@Nat.ne_of_lt
def aOL:=@PySem.W.hideAll_get
def aOM:=@PySem.W.of_hideAll
def aON:=@List.mem_range
def aOO:=@PySem.W.hideAll_none
def aOP:=@Nat.le_trans
def aOQ:=@List.filterMap_cons
def aOR:=@List.mem_cons
def aOS:=@List.mem_append
def aOT:=@List.mem_append_left
def aOU:=@List.getElem?_eq_some_iff
def aOV:=@List.getElem_inj
def aOW:=@List.getElem?_set_self
def aOX:=@List.getElem?_set_ne
def aOY:=@PySem.wpAny_mono
def aOZ:=@PySem.wpAny_truthy_bool
def aO0:=@Array.length_toList
def aO1:=@PySem.wpAny_execs_nil
def aO2:=@PySem.wpAny_assign_Name
def aO3:=@PySem.wpAny_bind
def aO4:=@PySem.wpAny_standAt
def aO5:=@PySem.wpAny_pure
def aO6:=@PySem.wpAny_newObj_type
def aO7:=@PySem.wpAny_rule
def aO8:=@PySem.wpAny_passesOwn
def aO9:=@Bool.false_ne_true
def aPA:=@Nat.ne_of_gt
def aPB:=@PySem.wpAny_pyIter_list
def aPC:=@Nat.le_refl
def aPD:=@PySem.wpAny_pyIter_tuple
def aPE:=@PyProof.Rows.callWith_type1
def aPF:=@List.mem_filterMap
def aPG:=@List.mem_append_right
def aPH:=@PySem.sizeLine_eq
def aPI:=@List.size_toArray
def aPJ:=@List.append_nil
def aPK:=@List.nodup_cons
def aPL:=@List.of_mem_zip
def aPM:=@List.length_take
def aPN:=@PySem.mem_of_lookup
def aPO:=@List.getElem?_append_right
def aPP:=@List.getElem?_replicate
def aPQ:=@List.getElem?_append_left
def aPR:=@List.getElem?_map
def aPS:=@List.mem_of_getElem?
def aPT:=@List.length_append
def aPU:=@List.length_map
def aPV:=@PySem.wpAny_Call_Name_kw
def aPW:=@PySem.concat_meets
def aPX:=@PySem.noFill_tuple_add
def aPY:=@PySem.F.slot_tuple_add
def aPZ:=@PySem.F.entry_tuple_add
def aP0:=@PySem.F.args_tuple_add_2
def aP1:=@Int.toNat_natCast
def aP2:=@if_false
def aP3:=@if_true
def aP4:=@PySem.wpAny_field
def aP5:=@List.length_drop
def aP6:=@PySem.wpAny_holding
def aP7:=@PySem.wpAny_callSpecial?_slot
def aP8:=@PyProof.Rows.slot_tuple_getitem
def aP9:=@PySem.wpAny_call_entry
def aQA:=@PySem.wpAny_typeOf
def aQB:=@Bool.and_eq_true
def aQC:=@Option.getD_none
def aQD:=@List.all_cons
def aQE:=@List.any_cons
def aQF:=@PySem.Heap.get?_update_other
def aQG:=@PySem.call_meets
def aQH:=@List.find?_cons
def aQI:=@decide_eq_true
def aQJ:=@List.length_cons
def aQK:=@List.map_cons
def aQL:=@Option.isSome_map
def aQM:=@Option.map_eq_some_iff
def aQN:=@PySem.tupleKind_room_in1
def aQO:=@PySem.wpAny_specialOf
def aQP:=@Nat.zero_le
def aQQ:=@decide_eq_true_eq
def aQR:=@of_decide_eq_true
def aQS:=@Bool.or_eq_true
def aQT:=@Array.all_eq_true_iff_forall_mem
def aQU:=@Array.mem_toList_iff
def aQV:=@PySem.wpAny_getItem_str_slice
def aQW:=@PySem.post_val_or_str
def aQX:=@PySem.Txt.slice_le
def aQY:=@List.replicate_succ
def aQZ:=@List.foldl_cons
def aQ0:=@beq_iff_eq
def aQ1:=@PySem.W.kia_one
def aQ2:=@Bool.eq_iff_iff
def aQ3:=@List.all_eq_true
def aQ4:=@List.getD_eq_getElem?_getD
def aQ5:=@List.getElem?_eq_getElem
def aQ6:=@List.getElem_mem
def aQ7:=@List.length_set
def aQ8:=@List.getElem?_set
def aQ9:=@Option.map_some
def aRA:=@List.drop_eq_getElem_cons
def aRB:=@List.drop_length
def aRC:=@List.forIn_nil
def aRD:=@List.forIn_cons
def aRE:=@LawfulMonad.pure_bind
def aRF:=@List.lookup_cons
def aRG:=@beq_self_eq_true
def aRH:=@Bool.false_eq_true
def aRI:=@PySem.Heap.size_push
def aRJ:=@Nat.lt_succ_of_lt
def aRK:=@Option.some.injEq
def aRL:=@PySem.Heap.SameBut.refl
def aRM:=@List.drop_zero
def aRN:=@List.take_of_length_le
def aRO:=@Nat.zero_add
def aRP:=@List.mem_singleton
def aRQ:=@PySem.F.slot_tuple_iterator_next
def aRR:=@PySem.F.entry_tuple_iterator_next
def aRS:=@PySem.F.args_tuple_iterator_next_1
def aRT:=@PySem.wpAny_seqItems
def aRU:=@PySem.wpAny_setField
def aRV:=@PySem.Obj.data_mapFields
def aRW:=@PySem.wpAny_of_eq
def aRX:=@PySem.wpAny_setField_rec
def aRY:=@PySem.wpAny_onRaise
def aRZ:=@PySem.wpAny_updateSeq_pair
def aR0:=@PySem.wpAny_attempt
def aR1:=@PySem.F.slot_zip_next
def aR2:=@PySem.F.entry_zip_next
def aR3:=@PySem.F.args_zip_next_1
def aR4:=@PySem.wpAny_isInstance
def aR5:=@List.mem_nil_iff
def aR6:=@or_false
def aR7:=@PySem.wpAny_pyIter_enum
def aR8:=@PySem.W.looks_mroIn
def aR9:=@PySem.W.looks_findIn
def aSA:=@PySem.codeAny_builtin
def aSB:=@Option.bind_eq_some_iff
def aSC:=@Array.getElem?_eq_some_iff
def aSD:=@PySem.F.slot_tuple_mul
def aSE:=@PySem.F.entry_tuple_mul
def aSF:=@PySem.F.args_tuple_mul_2
def aSG:=@List.take_length
def aSH:=@PySem.W.mg_of
def aSI:=@PySem.Around.under_plainId
def aSJ:=@Array.getElem?_eq_none_iff
def aSK:=@Array.getElem?_eq_getElem
def aSL:=@bne_iff_ne
def aSM:=@List.contains_iff_mem
def aSN:=@Nat.lt_of_le_of_lt
def aSO:=@Nat.add_le_add_left
def aSP:=@Bool.not_eq_true'
def aSQ:=@List.mem_map
def aSR:=@List.map_append
def aSS:=@List.findSome?_cons
def aST:=@List.mem_iff_getElem
def aSU:=@List.findSome?_eq_none_iff
def aSV:=@List.mem_of_mem_take
end
abbrev VSP := PySem.Value -> PySem.Shared -> Prop
abbrev Fg := PySem.W.Frag
abbrev LAO := List (PySem.Addr × PySem.Obj)
abbrev SOV := PySem.Str -> Option PySem.Value
theorem mcm {α : Type} {a b : α} {l : List α} (h : a ∈ l) : a ∈ b :: l := List.mem_cons_of_mem _ h
theorem mcs {α : Type} {a : α} {l : List α} : a ∈ a :: l := List.mem_cons_self
theorem hps {h : PySem.Heap} {o p : PySem.Obj} {b : PySem.Addr} (e : h.get? b = some o) : (h.push p).get? b = some o := PySem.Heap.get?_push_of_some _ e
set_option Elab.async false
set_option linter.all false
set_option maxRecDepth 100000
namespace L2
open PySem PySem.Spec PyProof.Rows
abbrev Key:=Sum Int Str
def iT:Key->Value->Bool
 | .inl k,v=>Value.isInt k v
 | .inr x,v=>Value.isStrOf x v
def keyH(w:World):Key->Int
 | .inl k=>hashInt k
 | .inr x=>hashStr w x
theorem fR:∀ {k:Key} {v:Value},iT k v=true->(∃ i t,k=Sum.inl i/\v=Value.int i t)\/(∃ x t,k=Sum.inr x/\v=Value.str x t)
 | .inl i,v,h=>by obtain ⟨t,e⟩:=Value.isInt_shape (k:=i) (v:=v) h;exact .inl ⟨i,t,rfl,e⟩
 | .inr x,v,h=>by obtain ⟨t,e⟩:=Value.isStrOf_shape (x:=x) (v:=v) h;exact .inr ⟨x,t,rfl,e⟩
theorem aAJ(i:Int)(t:Tok):iT (.inl i) (.int i t)=true:=by simp[iT,Value.isInt]
theorem aAK(x:Str)(t:Tok):iT (.inr x) (.str x t)=true:=by simp[iT,Value.isStrOf]
theorem aAL(a b:Int):decide ((Sum.inl a:Key)=Sum.inl b)=(a==b):=by
 by_cases e:a=b
 . subst e;simp
 . have h:¬ (Sum.inl a:Key)=Sum.inl b:=λq=>e (Sum.inl.inj q);rw[aOC h];exact (aOD.mpr e).symm
theorem aAM(a b:Str):decide ((Sum.inr a:Key)=Sum.inr b)=decide (a=b):=by
 by_cases e:a=b
 . subst e;simp
 . have h:¬ (Sum.inr a:Key)=Sum.inr b:=λq=>e (Sum.inr.inj q);rw[aOC h,aOC e]
theorem aAN(a:Int)(b:Str):decide ((Sum.inl a:Key)=Sum.inr b)=false:=aOC (λq=>nomatch q)
theorem aAO(a:Str)(b:Int):decide ((Sum.inr a:Key)=Sum.inl b)=false:=aOC (λq=>nomatch q)
def bV(prog:Program)(w:World):PySem.KeyKind prog w Key where
 is:=iT
 hash:=keyH w
 inj:=λv a b ha hb=>by
  rcases fR ha with ⟨i,t,rfl,rfl⟩ | ⟨x,t,rfl,rfl⟩
  . rcases fR hb with ⟨j,u,rfl,e⟩ | ⟨y,u,rfl,e⟩
    . injection e with e1 _;rw[e1]
    . exact nomatch e
  . rcases fR hb with ⟨j,u,rfl,e⟩ | ⟨y,u,rfl,e⟩
    . exact nomatch e
    . injection e with e1 _;rw[e1]
 byValue:=λk v h=>by rcases fR h with ⟨i,t,rfl,rfl⟩ | ⟨x,t,rfl,rfl⟩ <;> rfl
 pyHash:=λhv h=>by
  rcases fR hv with ⟨i,t,rfl,rfl⟩ | ⟨x,t,rfl,rfl⟩
  . exact wpAny_pyHash_int h
  . exact wpAny_pyHash_str h
 eqBool:=λhu hv h=>by
  rcases fR hu with ⟨i,t,rfl,rfl⟩ | ⟨x,t,rfl,rfl⟩
  . rcases fR hv with ⟨j,u,rfl,rfl⟩ | ⟨y,u,rfl,rfl⟩
    . rw[aAL] at h;exact wpAny_eqBool_int h
    . rw[aAN] at h;exact SeqAt.EqAt.int_str i t y u _ _ _ _ h
  . rcases fR hv with ⟨j,u,rfl,rfl⟩ | ⟨y,u,rfl,rfl⟩
    . rw[aAO] at h;exact SeqAt.EqAt.str_int x t j u _ _ _ _ h
    . rw[aAM] at h;exact wpAny_eqBool_str h
 «strs»:=λk x t v h=>by
  rcases fR h with ⟨i,u,rfl,e⟩ | ⟨y,u,rfl,e⟩
  . exact nomatch e
  . injection e with e1 _
    subst e1;cases v <;> rfl
theorem aAP(prog:Program)(w:World)(i:Int)(t:Tok):(bV prog w).is (.inl i) (.int i t)=true:=aAJ i t
theorem aAQ(prog:Program)(w:World)(x:Str)(t:Tok):(bV prog w).is (.inr x) (.str x t)=true:=aAK x t
inductive V where
 | non | bl (b:Bool) | int (i:Int) | str (x:Str) | byt (b:Array UInt8) | flt (b:UInt64) | ref (a:Addr) | ty (n:String)
 deriving DecidableEq
def aM:V->Value->Prop
 | .non,u=>u=Value.none
 | .bl b,u=>u=Value.bool b
 | .int i,u=>∃ t,u=Value.int i t
 | .str x,u=>∃ t,u=Value.str x t
 | .byt b,u=>∃ t,u=Value.bytes b t
 | .flt b,u=>∃ t,u=Value.float b t
 | .ref a,u=>u=Value.ref a
 | .ty n,u=>u=Value.type n
abbrev aN:List V->List Value->Prop:=Paired aM
theorem aN.length{xs:List V}{us:List Value}(r:aN xs us):xs.length=us.length:=aOE r
theorem aN.get:∀ {xs:List V} {us:List Value} {i:Nat} {x:V},aN xs us->xs[i]? = some x->∃ u,us[i]? = some u/\aM x u
 | _,_,_,_,.nil,e=>by simp at e
 | _,_,0,_,.cons r _,e=>by simp at e;subst e;exact ⟨_,rfl,r⟩
 | _,_,i+1,x,.cons _ t,e=>by
  obtain ⟨u,h1,h2⟩:=aN.get (i:=i) (x:=x) t (by simpa using e)
  exact ⟨u,by simpa using h1,h2⟩
theorem aN.append:∀ {xs ys:List V} {us ws:List Value},aN xs us->aN ys ws->aN (xs++ys) (us++ws)
 | _,_,_,_,.nil,s=>s
 | _,_,_,_,.cons r t,s=>.cons r (aN.append t s)
theorem aN.take:∀ {xs:List V} {us:List Value} (n:Nat),aN xs us->aN (xs.take n) (us.take n)
 | _,_,0,_=>.nil
 | _,_,_+1,.nil=>.nil
 | _,_,n+1,.cons r t=>.cons r (aN.take n t)
theorem aN.drop:∀ {xs:List V} {us:List Value} (n:Nat),aN xs us->aN (xs.drop n) (us.drop n)
 | _,_,0,r=>r
 | _,_,_+1,.nil=>.nil
 | _,_,n+1,.cons _ t=>aN.drop n t
def dS:Option V->Option Value->Prop
 | some v,some u=>aM v u
 | none,none=>True
 | _,_=>False
def KV{κ:Type}:List (κ×V)->List (κ×Value)->Prop:=Paired λ(p:κ×V) (q:κ×Value)=>p.1=q.1/\aM p.2 q.2
def kV:Key->V
 | .inl i=>.int i
 | .inr x=>.str x
inductive HO where
 /-- a list -/
 | lst (xs:List V)
 /-- a tuple (never changes) -/
 | tup (xs:List V)
 /-- a dict whose keys are ints and texts;one whose keys are tuples of ints and texts (the empty one is both) -/
 | dK (kvs:List (Key×V)) | dT (kvs:List (List Key×V))
 /-- a set of ints: its members,its size -/
 | set (S:Key->Bool) (n:Nat)
 /-- an instance of the class at C,its dict at dx,its attributes -/
 | ins (C dx:Addr) (fs:List (Str×V))
 /-- the dict of the instance at x -/
 | own (x:Addr)
 /-- the dict of an exception -/
 | xd (fs:List (Str×V))
 /-- a bound method,f of x -/
 | met (f x:Addr)
 /-- a range object lo,lo+1,.. below hi -/
 | rng (lo hi:Int)
 /-- a thing that is known to the object (the script;a dict while a loop walks it): read,never written while it is so -/
 | frz (o:Obj) (u:HO)
 /-- a code object's table -/
 | tbl (ps:Array Value)
 /-- any other thing,by what is true of its one object (a def of one's own: SetO a S n:=HO.ext λh=>..) -/
 | ext (φ:Heap->Prop)
abbrev Hp:=Addr->Option HO
def upd(H:Hp)(a:Addr)(o:HO):Hp:=λb=>if b=a then some o else H b
theorem bN{H:Hp}{a:Addr}{o:HO}:upd H a o a=some o:=by unfold upd;rw[if_pos rfl]
theorem aO{H:Hp}{a b:Addr}{o:HO}(h:b≠a):upd H a o b=H b:=by unfold upd;rw[if_neg h]
theorem ne_of{H:Hp}{a b:Addr}{o u:HO}(h:H a=some o)(h':H b=some u)(d:o≠u):a≠b:=by intro e;subst e;rw[h] at h';exact d (aOF h')
theorem cV{H:Hp}{a b:Addr}{o:HO}(h:H a=some o)(h':H b=none):a≠b:=by intro e;subst e;rw[h] at h';cases h'
def fF(h:Heap)(a:Addr)(items:Array Value):Prop:=∃ o,h.get? a=some o/\o.cls=.type "tuple" /\ o.dict=none/\∃ n,o.data=.seq items n
theorem fF.isTup{h:Heap}{a:Addr}{items:Array Value}(x:fF h a items):IsTup h a items:=by obtain ⟨o,e,c,_,n,d⟩:=x;exact ⟨o,e,c,n,d⟩
theorem fF.new(h:Heap)(items:Array Value):fF (h.push { cls:=.type "tuple", data:=.seq items }) h.objs.size items:=⟨_,aOG _ rfl,rfl,rfl,_,rfl⟩
section
variable (P:Program)(w:World)
def bS(H:Hp)(h:Heap)(a:Addr):HO->Prop
 | .lst xs=>xs.length<=sizeLine/\∃ (its:List Value) (n:Nat),aN xs its/\h.get? a=some { cls:=.type "list", data:=.seq its.toArray n }
 | .tup xs=>xs.length<=sizeLine/\∃ its:List Value,aN xs its/\fF h a its.toArray
 | .dK kvs=>kvs.length<=sizeLine/\(a==sysModules)=false/\∃ vs,KV kvs vs/\h.DictOf (bV P w) a vs
 | .dT kvs => kvs.length ≤ sizeLine ∧ (a == sysModules) = false ∧ ∃ xs : List (List Key × Addr × Value),
     Paired (λ(p:List Key×V) (q:List Key×Addr×Value)=>p.1=q.1/\H q.2.1=some (.tup (p.1.map kV))/\aM p.2 q.2.2) kvs xs /\
     ∃ o es ep,h.get? a=some o/\o.ExactDict/\o.data=.dict es ep/\es.toList=xs.map (entryOfKey (tupleKind (bV P w)))/\(xs.map (·.1)).Nodup
 | .set S n=>h.SetOf (bV P w) a S n
 | .ins C dx fs => H dx = some (.own a) ∧ fs.length ≤ 1000 ∧ dx ≠ a ∧ h.get? a = some (PySem.W.instObj C dx) ∧
     ∃ mA,h.Ns1 dx mA/\(∀ f,dS (fs.lookup f) (mA f))/\PySem.Within mA (fs.map (·.1))
 | .own _=>∃ o,h.get? a=some o
 | .xd fs=>∃ mA,h.Ns1 a mA/\∀ f,dS (fs.lookup f) (mA f)
 | .rng lo hi=>∃ t u v,h.get? a=some { cls:=.type "range", data:=.fields #[.int lo t,.int hi u,.int 1 v] }
 | .frz o u=>h.get? a=some o/\bS H h a u
 | .tbl ps=>h.get? a=some { cls:=.none,data:=.fields ps }
 | .met f x=>h.get? a=some (PySem.W.methodObj (.ref f) (.ref x))
 | .ext φ=>φ h/\(∃ o,h.get? a=some o)/\∀ h1 h2:Heap,φ h1->(∀ o,h1.get? a=some o->h2.get? a=some o)->φ h2
def HOk(H:Hp)(h:Heap):Prop:=∀ a o,H a=some o->bS P w H h a o
end
section
variable {P:Program}{w:World}{H H':Hp}{h h':Heap}{a:Addr}{o:HO}
theorem bS.lt(x:bS P w H h a o):a<h.objs.size:=by
 cases o with
 | lst xs=>obtain ⟨_,_,_,_,e⟩:=x;exact aOH e
 | tup xs=>obtain ⟨_,_,_,p⟩:=x;exact p.isTup.lt
 | dK kvs=>obtain ⟨_,_,_,_,o,_,_,e,_⟩:=x;exact aOH e
 | dT kvs=>obtain ⟨_,_,_,_,o,_,_,e,_⟩:=x;exact aOH e
 | set S n=>obtain ⟨o,_,_,_,e,_⟩:=x;exact aOH e
 | ins C dx fs=>obtain ⟨_,_,_,e,_⟩:=x;exact aOH e
 | own y=>obtain ⟨_,e⟩:=x;exact aOH e
 | xd fs=>obtain ⟨_,⟨_,_,_,e,_⟩,_⟩:=x;exact aOH e
 | rng lo hi=>obtain ⟨_,_,_,e⟩:=x;exact aOH e
 | frz ob u=>obtain ⟨e,_⟩:=x;exact aOH e
 | tbl ps=>exact aOH (show h.get? a=some _ from x)
 | met f y=>exact aOH (show h.get? a=some _ from x)
 | ext φ=>obtain ⟨_,⟨_,e⟩,_⟩:=x;exact aOH e
theorem Paired.mapP{α β:Type}{F G:α->β->Prop}:∀ {l₁:List α} {l₂:List β},Paired F l₁ l₂->(∀ a b,F a b->G a b)->Paired G l₁ l₂
 | _,_,.nil,_=>.nil
 | _,_,.cons r t,f=>.cons (f _ _ r) (Paired.mapP t f)
theorem bS.stay(x:bS P w H h a o)(k:∀ b u,(b=a\/H b=some (.own a))->h.get? b=some u->h'.get? b=some u)(ho:∀ b,H b=some (.own a)->H' b=some (.own a))(ht:∀ b xs,H b=some (.tup xs)->H' b=some (.tup xs)):bS P w H' h' a o:=by
 induction o with
 | lst xs=>obtain ⟨z,its,n,r,e⟩:=x;exact ⟨z,its,n,r,k _ _ (.inl rfl) e⟩
 | tup xs=>obtain ⟨z,its,r,ob,e,c⟩:=x;exact ⟨z,its,r,ob,k _ _ (.inl rfl) e,c⟩
 | dK kvs=>obtain ⟨z,y,vs,r,ob,es,ep,e,c⟩:=x;exact ⟨z,y,vs,r,ob,es,ep,k _ _ (.inl rfl) e,c⟩
 | dT kvs=>obtain ⟨z,y,xs,r,ob,es,ep,e,c⟩:=x;exact ⟨z,y,xs,Paired.mapP r λp q z=>⟨z.1,ht _ _ z.2.1,z.2.2⟩,ob,es,ep,k _ _ (.inl rfl) e,c⟩
 | set S n=>obtain ⟨ob,es,ep,t,e,c⟩:=x;exact ⟨ob,es,ep,t,k _ _ (.inl rfl) e,c⟩
 | ins C dx fs=>obtain ⟨d,z,ne,e,mA,⟨od,es,ep,e2,c⟩,r⟩:=x;exact ⟨ho _ d,z,ne,k _ _ (.inl rfl) e,mA,⟨od,es,ep,k _ _ (.inr d) e2,c⟩,r⟩
 | own y=>obtain ⟨ob,e⟩:=x;exact ⟨ob,k _ _ (.inl rfl) e⟩
 | xd fs=>obtain ⟨mA,⟨od,es,ep,e,c⟩,r⟩:=x;exact ⟨mA,⟨od,es,ep,k _ _ (.inl rfl) e,c⟩,r⟩
 | rng lo hi=>obtain ⟨t,u,v,e⟩:=x;exact ⟨t,u,v,k _ _ (.inl rfl) e⟩
 | frz ob u ih=>obtain ⟨e,q⟩:=x;exact ⟨k _ _ (.inl rfl) e,ih q⟩
 | tbl ps=>have e:h.get? a=some { cls:=.none,data:=.fields ps }:=x;show h'.get? a=some { cls:=.none,data:=.fields ps };exact k a _ (.inl rfl) e
 | met f y=>have e:h.get? a=some (PySem.W.methodObj (.ref f) (.ref y)):=x;show h'.get? a=some (PySem.W.methodObj (.ref f) (.ref y));exact k a _ (.inl rfl) e
 | ext φ=>obtain ⟨p,⟨o,e⟩,st⟩:=x;exact ⟨st _ _ p λo q=>k _ _ (.inl rfl) q,⟨o,k _ _ (.inl rfl) e⟩,st⟩
theorem HOk.lt(x:HOk P w H h)(e:H a=some o):a<h.objs.size:=(x a o e).lt
theorem HOk.fresh(x:HOk P w H h)(e:h.objs.size<=a):H a=none:=by
 cases q:H a with
 | none=>rfl
 | some u=>exact absurd (aOI (x.lt q) e) (aOJ _)
theorem HOk.kept(x:HOk P w H h)(k:∀ b u,h.get? b=some u->h'.get? b=some u):HOk P w H h':=λa o e =>
 (x a o e).stay (λb u _ q=>k b u q) (λ_ q=>q) λ_ _ q=>q
theorem HOk.laid(x:HOk P w H h)(k:∀ b u,h.get? b=some u->h'.get? b=some u)(hp:h.objs.size<=a)(new:bS P w (upd H a o) h' a o):HOk P w (upd H a o) h':=λb u e=>by
 have hn:=x.fresh hp;by_cases hb:b=a
 . subst hb;rw[bN] at e;cases e;exact new
 . rw[aO hb] at e;exact (x b u e).stay (λc v _ q=>k c v q) (λc q=>by rw[aO (cV q hn)];exact q) λc xs q=>by rw[aO (cV q hn)];exact q
end
def Rd(H:Hp)(a:Addr)(u:HO):Prop:=H a=some u\/∃ o,H a=some (.frz o u)
theorem Rd.ok{P:Program}{w:World}{H:Hp}{h:Heap}{a:Addr}{u:HO}(r:Rd H a u)(x:HOk P w H h):bS P w H h a u:=by
 rcases r with r | ⟨o,r⟩
 . exact x a u r
 . obtain ⟨_,q⟩:=x a _ r;exact q
def Mut:Option HO->Prop
 | some (.lst _)=>True
 | some (.dK _)=>True
 | some (.dT _)=>True
 | some (.set _ _)=>True
 | some (.ins _ _ _)=>True
 | some (.ext _)=>True
 | _=>False
section
variable {P:Program}{w:World}{H:Hp}{h h':Heap}{x e:Addr}{o':HO}
theorem HOk.write(ok:HOk P w H h)(mu:Mut (H x))(he:e=x\/H e=some (.own x))(k:∀ b u,b≠e->h.get? b=some u->h'.get? b=some u)(heo:∃ u,h'.get? e=some u)(new:bS P w (upd H x o') h' x o'):HOk P w (upd H x o') h':=λb u q=>by
 have nown:∀ c y,H c=some (.own y)->c≠x:=λc y r z=>by subst z;rw[r] at mu;exact mu
 have ntup:∀ c xs,H c=some (.tup xs)->c≠x:=λc xs r z=>by subst z;rw[r] at mu;exact mu
 by_cases hb:b=x
 . subst hb;rw[bN] at q;cases q;exact new
 . rw[aO hb] at q;by_cases hbe:b=e
   . have q':H b=some (.own x):=by
       rcases he with z | z
       . exact absurd (hbe.trans z) hb
       . rw[hbe];exact z
     rw[q] at q';cases q';obtain ⟨v,hv⟩:=heo;exact ⟨v,by rw[hbe];exact hv⟩
   . refine (ok b u q).stay (λc v hc r=>k c v ?_ r) (λc r=>by rw[aO (nown c b r)];exact r) λc xs r=>by rw[aO (ntup c xs r)];exact r
     rcases hc with rfl | hc
     . exact hbe
     . rintro rfl;rcases he with z | z
       . exact nown c b hc z
       . rw[hc] at z;cases z;exact hb rfl
end
structure Un(fs ex:List Addr)(H H':Hp)(h h':Heap):Prop where
 keep:∀ b o,h.get? b=some o->H b=none->b∉fs->b∉ex->h'.get? b=some o
 slot:∀ b o,h.get? b=some o->H b=none->b∈fs->b∉ex->∃ sl,h'.get? b=some { o with slots:=sl }
 free:∀ b o,h.get? b=some o->H b=none->b∉ex->H' b=none
 there:∀ b o,h.get? b=some o->b∉ex->∃ o',h'.get? b=some o'
 tups:∀ b xs,H b=some (.tup xs)->H' b=some (.tup xs)
 frzs:∀ b o u,H b=some (.frz o u)->H' b=some (.frz o u)
 tbls:∀ b ps,H b=some (.tbl ps)->∃ more,H' b=some (.tbl (ps++more))
section
variable {fs fs' ex ex':List Addr}{H H1 H2:Hp}{h h1 h2 h':Heap}{a x e:Addr}{o:HO}
theorem Un.any(u:Un fs ex H H1 h h1){b:Addr}{ob:Obj}(q:h.get? b=some ob)(n:H b=none)(hx:b∉ex):∃ sl,h1.get? b=some { ob with slots:=sl }:=by
 by_cases hb:b∈fs
 . exact u.slot b ob q n hb hx
 . exact ⟨ob.slots,u.keep b ob q n hb hx⟩
theorem Un.kept(k:∀ b u,h.get? b=some u->h'.get? b=some u):Un fs ex H H h h' :=
 ⟨λb ob q _ _ _=>k b ob q,λb ob q _ _ _=>⟨ob.slots,k b ob q⟩,λ_ _ _ n _=>n,λb ob q _=>⟨ob,k b ob q⟩,λ_ _ q=>q,λ_ _ _ q=>q,λ_ ps q=>⟨#[],by rw[q];simp⟩⟩
theorem Un.refl:Un fs ex H H h h:=Un.kept λ_ _ q=>q
theorem Un.laid(k:∀ b u,h.get? b=some u->h'.get? b=some u)(hp:h.objs.size<=a)(hn:H a=none):Un fs ex H (upd H a o) h h' where
 keep:=λb u q _ _ _=>k b u q
 slot:=λb u q _ _ _=>⟨u.slots,k b u q⟩
 free:=λb u q n _=>by rw[aO (aOK (aOI (aOH q) hp))];exact n
 there:=λb u q _=>⟨u,k b u q⟩
 tups:=λb xs q=>by rw[aO (cV q hn)];exact q
 frzs:=λb u xs q=>by rw[aO (cV q hn)];exact q
 tbls:=λb ps q=>⟨#[],by rw[aO (cV q hn),q];simp⟩
theorem Un.write(mu:Mut (H x))(he:e=x\/H e=some (.own x))(k:∀ b u,b≠e->h.get? b=some u->h'.get? b=some u)(heo:∃ u,h'.get? e=some u):Un fs ex H (upd H x o) h h':=by
 have hx:∀ b,H b=none->b≠x:=λb n z=>by subst z;rw[n] at mu;exact mu
 have hb:∀ b,H b=none->b≠e:=λb n z=>by
  subst z;rcases he with r | r
  . exact hx b n r
  . rw[n] at r;cases r
 have hm:∀ b u,H b=some u -> ¬ Mut (some u)->b≠x:=λb u q nm z=>by subst z;rw[q] at mu;exact nm mu
 refine ⟨λb u q n _ _=>k b u (hb b n) q,λb u q n _ _=>⟨u.slots,k b u (hb b n) q⟩,λb u q n _=>by rw[aO (hx b n)];exact n,λb u q _=>?_,
  λb xs q=>by rw[aO (hm b _ q λz=>z)];exact q,λb u xs q=>by rw[aO (hm b _ q λz=>z)];exact q,λb ps q=>⟨#[],by rw[aO (hm b _ q λz=>z),q];simp⟩⟩
 by_cases hbe:b=e
 . subst hbe;exact heo
 . exact ⟨u,k b u hbe q⟩
end
def trk(h:Heap)(H:Hp):List Addr:=(List.range h.objs.size).filter λa=>(H a).isSome
def fT(h:Heap)(H:Hp):Heap:=PySem.W.hideAll h (trk h H)
theorem aAR(h:Heap)(H:Hp):(fT h H).objs.size=h.objs.size:=PySem.W.hideAll_size _ _
theorem aAS{h:Heap}{H:Hp}{b:Addr}{o:Obj}(e:h.get? b=some o)(n:H b=none):(fT h H).get? b=some o :=
 aOL _ e λhm=>by have q:(H b).isSome=true:=(List.mem_filter.mp hm).2;rw[n] at q;simp at q
theorem aAT{h:Heap}{H:Hp}{b:Addr}{o:Obj}(e:(fT h H).get? b=some o):h.get? b=some o/\H b=none:=by
 have e':h.get? b=some o:=aOM (trk h H) e;refine ⟨e',?_⟩;cases q:H b with
 | none=>rfl
 | some x =>
  have hm:b∈trk h H:=List.mem_filter.mpr ⟨aON.mpr (aOH e'),by simp[q]⟩
  have z:(fT h H).get? b=none:=aOO (trk h H) hm;rw[z] at e;cases e
def aAU(g h:Heap)(L:Addr):LAO:=(List.range h.objs.size).filterMap λa=>if a=L\/(g.get? a).isSome=true then none else (h.get? a).map λo=>(a,o)
def aY(g h:Heap)(L d:Addr):LAO:=(aAU g h L).filter λp=>decide (p.1≠d)
structure Mod(K:Fg)(mg:SOV)(base:Heap):Prop where
 kin:K.In base
 glob:base.Ns mainGlobals mg
 blt:∃ mb,base.Ns builtinsNs mb/\∀ x:Str,x ≠ "__name__" -> mb x=bootBuiltins x
 nolimit:base.NoLimit
structure Cx where
 prog:Program
 w:World
 K:Fg
 mg:SOV
 base:Heap
 A:Around
 N:List Str
 s₀:Shared
 H₀:Hp
 env:Env
 outer:List Env
 stack:List Env
 ex:List Addr
 fn:Str->Bool
 calm:Bool
 pn:LAO
 xe:VSP
def frs(l:List Env):List Addr:=l.filterMap (·.frame)
abbrev Cx.fs(X:Cx):List Addr:=frs X.outer
def Vis(sc:Scope)(x:Str):Prop:=sc.names.lookup x=some .local\/sc.names.lookup x=some .cell\/sc.names.lookup x=some .free
def Loc(sc:Scope)(x:Str):Prop:=sc.names.lookup x=some .local\/sc.names.lookup x=some .cell
def Look(env:Env)(h:Heap)(m:SOV)(x:Str)(u:Value):Prop :=
 (env.kindOf x=some .local/\m x=some u)\/((env.kindOf x=some .cell\/env.kindOf x=some .free)/\∃ c,env.cells.lookup x=some c/\h.IsCell c (some u))
structure Cx.Ok(X:Cx):Prop where
 mod:Mod X.K X.mg X.base
 kind:X.env.scope.kind=.function
 glob:X.env.globals=mainGlobals
 blt:X.env.builtins=builtinsNs
 above:X.s₀.heap.objs.size<=X.env.locals
 inj:∀ x y c,X.env.cells.lookup x=some c->X.env.cells.lookup y=some c->x=y
 has:∀ x,(X.env.kindOf x=some .cell\/X.env.kindOf x=some .free)->∃ c,X.env.cells.lookup x=some c
 cab:∀ x c,X.fn x=true->X.env.cells.lookup x=some c->X.s₀.heap.objs.size<=c
 hd:X.calm=true->X.A.handled=none
 frames:X.A.frames=some X.stack
 stk:X.stack=X.outer\/(X.stack=X.env::X.outer/\X.env.frame=some X.env.locals)
 exf:∀ b∈X.ex,b≠X.env.locals/\∀ x c,X.env.cells.lookup x=some c->c≠b
 bs:∀ b o,X.base.get? b=some o->X.s₀.heap.get? b=some o/\X.H₀ b=none
 bsz:X.base.objs.size<=X.s₀.heap.objs.size
 noex:∀ b o,X.base.get? b=some o->b∉X.ex
 exfs:∀ b∈X.ex,b∉X.fs
 funs:X.s₀.heap.FunFrames X.base X.outer
 frf:∀ b∈X.fs,X.H₀ b=none
structure Inv(X:Cx)(aA:LAO)(σ:List (Option V))(H:Hp)(s:Shared):Prop where
 ok:X.Ok
 os:s.os=X.s₀.os
 bare:AllBare s.gens
 base:Un X.fs X.ex X.H₀ H X.s₀.heap s.heap
 loc:∃ m,s.heap.Ns X.env.locals m/\∀ (i:Nat) (x:Str) (v:V),X.N[i]? = some x->σ[i]? = some (some v)->Vis X.env.scope x->∃ u,aM v u/\Look X.env s.heap m x u
 cell:∀ x c,X.env.cells.lookup x=some c->∃ v,s.heap.IsCell c v
 free:H X.env.locals=none
 freeC:∀ x c,X.env.cells.lookup x=some c->H c=none
 pin:∀ p∈X.pn++aA,s.heap.get? p.1=some p.2/\H p.1=none/\p.1≠X.env.locals/\p.1∉X.fs/\∀ v,p.2.data ≠ .cell v
 hok:HOk X.prog X.w H s.heap
 len:σ.length=X.N.length
section
variable {X:Cx}{aA:LAO}{σ:List (Option V)}{H H':Hp}{s:Shared}{h':Heap}
theorem Cx.Ok.nofr(ok:X.Ok){b:Addr}{o:Obj}(e:X.base.get? b=some o):b∉X.fs:=λhb=>by have:=(ok.funs.mem hb).1;rw[e] at this;cases this
theorem Inv.bs(I:Inv X aA σ H s):∀ b o,X.base.get? b=some o->s.heap.get? b=some o/\H b=none:=λb o e =>
 ⟨I.base.keep b o (I.ok.bs b o e).1 (I.ok.bs b o e).2 (I.ok.nofr e) (I.ok.noex b o e),I.base.free b o (I.ok.bs b o e).1 (I.ok.bs b o e).2 (I.ok.noex b o e)⟩
theorem Inv.bk(I:Inv X aA σ H s):∀ b o,X.base.get? b=some o->s.heap.get? b=some o:=λb o e=>(I.bs b o e).1
theorem Inv.mod(I:Inv X aA σ H s):Mod X.K X.mg X.base:=I.ok.mod
theorem Inv.kIn(I:Inv X aA σ H s):X.K.In s.heap:=I.ok.mod.kin.keeps I.bk
theorem Inv.lt(I:Inv X aA σ H s):X.env.locals<s.heap.objs.size:=let ⟨_,hn,_⟩:=I.loc;hn.lt
theorem Inv.sz(I:Inv X aA σ H s):X.s₀.heap.objs.size<=s.heap.objs.size:=aOP I.ok.above (Nat.le_of_lt I.lt)
theorem Inv.nofs(I:Inv X aA σ H s){a:Addr}(h:s.heap.objs.size<=a):a∉X.fs:=λhb=>by obtain ⟨_,o,ho,_⟩:=I.ok.funs.mem hb;exact absurd (aOI (aOH ho) (aOP I.sz h)) (aOJ _)
theorem Inv.cne(I:Inv X aA σ H s):∀ x c,X.env.cells.lookup x=some c->c≠X.env.locals:=λx c e z=>by obtain ⟨v,o,ho,hd⟩:=I.cell x c e;obtain ⟨m,⟨o',es,ep,ho',hd',_⟩,_⟩:=I.loc;rw[z,ho'] at ho;cases ho;rw[hd'] at hd;cases hd
theorem Inv.funs(I:Inv X aA σ H s):s.heap.FunFrames X.base X.outer:=by
 have all:∀ (l:List Env),(∀ b∈frs l,b∈X.fs)->X.s₀.heap.FunFrames X.base l->s.heap.FunFrames X.base l:=by
  intro l
  induction l with
  | nil=>intro _ _;trivial
  | cons env r ih =>
   intro hs hl;obtain ⟨hk,⟨L,o,hf,hn,ho,hd⟩,hr⟩:=hl;have hL:L∈X.fs:=hs L (by unfold frs;rw[aOQ,hf];exact mcs)
   obtain ⟨sl,e⟩:=I.base.slot L o ho (I.ok.frf L hL) hL λz=>I.ok.exfs L z hL;exact ⟨hk,⟨L,_,hf,hn,e,hd⟩,ih (λb hb=>hs b (by unfold frs;rw[aOQ,hf];exact mcm hb)) hr⟩
 exact all X.outer (λ_ hb=>hb) I.ok.funs
theorem Inv.stack(I:Inv X aA σ H s):s.heap.FunFrames X.base X.stack:=by
 rcases I.ok.stk with e | ⟨e,hf⟩
 . rw[e];exact I.funs
 . rw[e];obtain ⟨m,hn,_⟩:=I.loc;refine .cons (by rw[I.ok.kind];decide) hf hn ?_ I.funs
   exact Heap.get?_none_of_le (aOP I.ok.bsz I.ok.above)
theorem Inv.stkSub(I:Inv X aA σ H s):∀ b∈frs X.stack,b∈X.env.locals::X.fs:=λb hb=>by
 rcases I.ok.stk with e | ⟨e,hf⟩
 . rw[e] at hb;exact mcm hb
 . rw[e] at hb;unfold frs at hb;rw[aOQ,hf] at hb;exact hb
theorem Inv.stkFree(I:Inv X aA σ H s):∀ b∈frs X.stack,H b=none:=λb hb=>by
 rcases aOR.mp (I.stkSub b hb) with e | hb
 . rw[e];exact I.free
 . obtain ⟨_,o,ho,_⟩:=I.ok.funs.mem hb;exact I.base.free b o ho (I.ok.frf b hb) λz=>I.ok.exfs b z hb
theorem Inv.step{g':Array GenState}{t':Nat}{d':Drawn}{ch:List Addr}(I:Inv X aA σ H s)(hch:∀ b∈ch,(b∈X.ex\/X.s₀.heap.objs.size<=b)/\b≠X.env.locals/\(∀ x c,X.env.cells.lookup x=some c->c≠b)/\∀ p∈X.pn++aA,p.1≠b)(keep:∀ b o,b≠X.env.locals->b∉X.fs->b∉ch->s.heap.get? b=some o->H b=none->h'.get? b=some o)(slot:∀ b o,b≠X.env.locals->b∈X.fs->b∉ch->s.heap.get? b=some o->H b=none->∃ sl,h'.get? b=some { o with slots:=sl })(free:∀ b o,b∉ch->s.heap.get? b=some o->H b=none->H' b=none)(there:∀ b o,b∉ch->s.heap.get? b=some o->∃ o',h'.get? b=some o')(tups:∀ b xs,H b=some (.tup xs)->H' b=some (.tup xs))(frzs:∀ b o u,H b=some (.frz o u)->H' b=some (.frz o u))(tbls:∀ b ps,H b=some (.tbl ps)->∃ more,H' b=some (.tbl (ps++more)))(ns:∀ m,s.heap.Ns X.env.locals m->h'.Ns X.env.locals m)(hok:HOk X.prog X.w H' h')(hg:AllBare g'):Inv X aA σ H' { s with heap:=h',gens:=g',drawn:=d',toks:=t' }:=by
 have neL:∀ b o,X.s₀.heap.get? b=some o->b≠X.env.locals:=λb o e=>aOK (aOI (aOH e) I.ok.above);have neC:∀ b o,X.s₀.heap.get? b=some o->b∉X.ex->b∉ch:=λb o e hx hb=>by
  rcases (hch b hb).1 with z | z
  . exact hx z
  . exact absurd (aOI (aOH e) z) (aOJ _)
 have cellK:∀ x c,X.env.cells.lookup x=some c->∀ v,s.heap.IsCell c v->h'.IsCell c v:=λx c e v ⟨o,ho,hd⟩=>by
  have nch:c∉ch:=λz=>(hch c z).2.2.1 x c e rfl;by_cases hc:c∈X.fs
  . obtain ⟨sl,q⟩:=slot c o (I.cne x c e) hc nch ho (I.freeC x c e);exact ⟨_,q,hd⟩
  . exact ⟨o,keep c o (I.cne x c e) hc nch ho (I.freeC x c e),hd⟩
 refine ⟨I.ok,I.os,hg,⟨λb o e n hb hx=>?_,λb o e n hb hx=>?_,λb o e n hx=>?_,λb o e hx=>?_,λb xs e=>tups b xs (I.base.tups b xs e),λb o xs e=>frzs b o xs (I.base.frzs b o xs e),λb ps e=>?_⟩,?_,λx c e=>?_,?_,λx c e=>?_,λp hp=>?_,hok,I.len⟩
 . exact keep b o (neL b o e) hb (neC b o e hx) (I.base.keep b o e n hb hx) (I.base.free b o e n hx)
 . obtain ⟨sl,e1⟩:=I.base.slot b o e n hb hx;obtain ⟨sl',e2⟩:=slot b _ (neL b o e) hb (neC b o e hx) e1 (I.base.free b o e n hx);exact ⟨sl',e2⟩
 . obtain ⟨o',e1⟩:=I.base.there b o e hx;exact free b o' (neC b o e hx) e1 (I.base.free b o e n hx)
 . obtain ⟨o',e1⟩:=I.base.there b o e hx;exact there b o' (neC b o e hx) e1
 . obtain ⟨m1,e1⟩:=I.base.tbls b ps e;obtain ⟨m2,e2⟩:=tbls b _ e1;exact ⟨m1++m2,by rw[e2,Array.append_assoc]⟩
 . obtain ⟨m,hn,hl⟩:=I.loc;refine ⟨m,ns m hn,λi x v e1 e2 e3=>?_⟩;obtain ⟨u,r,l⟩:=hl i x v e1 e2 e3;refine ⟨u,r,?_⟩;rcases l with l | ⟨k,c,e,z⟩
   . exact .inl l
   . exact .inr ⟨k,c,e,cellK x c e _ z⟩
 . obtain ⟨v,z⟩:=I.cell x c e;exact ⟨v,cellK x c e v z⟩
 . obtain ⟨m,⟨o,_,_,ho,_⟩,_⟩:=I.loc;exact free _ o (λz=>(hch _ z).2.1 rfl) ho I.free
 . obtain ⟨v,o,ho,hd⟩:=I.cell x c e;exact free c o (λz=>(hch c z).2.2.1 x c e rfl) ho (I.freeC x c e)
 . obtain ⟨e,n,ne,nf,d⟩:=I.pin p hp;have nch:p.1∉ch:=λz=>(hch p.1 z).2.2.2 p hp rfl;exact ⟨keep p.1 p.2 ne nf nch e n,free p.1 p.2 nch e n,ne,nf,d⟩
theorem Inv.un{t':Nat}(I:Inv X aA σ H s)(u:Un X.fs [] H H' s.heap h')(hok:HOk X.prog X.w H' h'):Inv X aA σ H' { s with heap:=h',toks:=t' }:=by
 obtain ⟨m,⟨o,es,ep,ho,r⟩,_⟩:=id I.loc;obtain ⟨sl,hL⟩:=u.any ho I.free (by simp)
 exact I.step (g':=s.gens) (d':=s.drawn) (ch:=[]) (λ_ z=>nomatch z) (λb o _ hb _ e n=>u.keep b o e n hb (by simp)) (λb o _ hb _ e n=>u.slot b o e n hb (by simp)) (λb o _ e n=>u.free b o e n (by simp)) (λb o _ e=>u.there b o e (by simp)) u.tups u.frzs u.tbls (λm' hm=>by
  obtain ⟨o',es',ep',ho',r'⟩:=hm;rw[ho] at ho';cases ho';exact ⟨_,es',ep',hL,r'⟩) hok I.bare
theorem Inv.call{g':Array GenState}{t':Nat}{d':Drawn}{ch:List Addr}(I:Inv X aA σ H s)(u:Un (frs X.stack) ch H H' s.heap h')(hok:HOk X.prog X.w H' h')(hg:AllBare g')(hch:∀ b∈ch,(b∈X.ex\/X.s₀.heap.objs.size<=b)/\b≠X.env.locals/\(∀ x c,X.env.cells.lookup x=some c->c≠b)/\∀ p∈X.pn++aA,p.1≠b):Inv X aA σ H' { s with heap:=h',gens:=g',drawn:=d',toks:=t' }:=by
 obtain ⟨m,⟨o,es,ep,ho,r⟩,_⟩:=id I.loc;obtain ⟨sl,hL⟩:=u.any ho I.free λz=>(hch _ z).2.1 rfl;exact I.step (ch:=ch) hch (λb o hL hb hc e n=>u.keep b o e n (λz=>(aOR.mp (I.stkSub b z)).elim hL hb) hc) (λb o _ _ hc e n=>u.any e n hc) (λb o hc e n=>u.free b o e n hc) (λb o hc e=>u.there b o e hc) u.tups u.frzs u.tbls (λm' hm=>by
  obtain ⟨o',es',ep',ho',r'⟩:=hm;rw[ho] at ho';cases ho';exact ⟨_,es',ep',hL,r'⟩) hok hg
theorem Inv.turned{t':Nat}{it:Addr}(I:Inv X aA σ H s)(k:∀ b o,b≠it->s.heap.get? b=some o->h'.get? b=some o)(hn:H it=none)(hL:it≠X.env.locals)(h1:it∈X.ex\/X.s₀.heap.objs.size<=it)(h2:∀ x c,X.env.cells.lookup x=some c->c≠it)(h3:∀ p∈X.pn++aA,p.1≠it):Inv X aA σ H { s with heap:=h',toks:=t' }:=by
 have nit:∀ b u,H b=some u->b≠it:=λb u e z=>by rw[z,hn] at e;cases e
 refine I.step (g':=s.gens) (d':=s.drawn) (ch:=[it]) (λb hb=>?_) (λb o _ _ hc e _=>k b o (λz=>hc (by simp[z])) e) (λb o _ _ hc e _=>⟨o.slots,k b o (λz=>hc (by simp[z])) e⟩) (λ_ _ _ _ n=>n)
  (λb o hc e=>⟨o,k b o (λz=>hc (by simp[z])) e⟩) (λ_ _ e=>e) (λ_ _ _ e=>e) (λb ps e=>⟨#[],by rw[e];simp⟩) (λm hm=>?_) (λb u e=>?_) I.bare
 . have e:b=it:=by simpa using hb
   subst e;exact ⟨h1,hL,h2,h3⟩
 . obtain ⟨o,es,ep,ho,r⟩:=hm;exact ⟨o,es,ep,k _ o (Ne.symm hL) ho,r⟩
 . refine (I.hok b u e).stay (λc v hc q=>k c v ?_ q) (λ_ q=>q) λ_ _ q=>q;rcases hc with z | z
   . rw[z];exact nit b u e
   . exact nit c _ z
theorem Inv.tok(I:Inv X aA σ H s)(t:Nat):Inv X aA σ H { s with toks:=t }:=I.un (h':=s.heap) (t':=t) Un.refl I.hok
theorem Inv.kept{t':Nat}(I:Inv X aA σ H s)(k:∀ b u,s.heap.get? b=some u->h'.get? b=some u):Inv X aA σ H { s with heap:=h',toks:=t' }:=I.un (Un.kept k) (I.hok.kept k)
theorem Inv.laid{a:Addr}{o:HO}{t':Nat}(I:Inv X aA σ H s)(k:∀ b u,s.heap.get? b=some u->h'.get? b=some u)(hp:s.heap.objs.size<=a)(new:bS X.prog X.w (upd H a o) h' a o):Inv X aA σ (upd H a o) { s with heap:=h',toks:=t' }:=I.un (Un.laid k hp (I.hok.fresh hp)) (I.hok.laid k hp new)
theorem Inv.write{x e:Addr}{o:HO}{t':Nat}(I:Inv X aA σ H s)(mu:Mut (H x))(he:e=x\/H e=some (.own x))(k:∀ b u,b≠e->s.heap.get? b=some u->h'.get? b=some u)(heo:∃ u,h'.get? e=some u)(new:bS X.prog X.w (upd H x o) h' x o):Inv X aA σ (upd H x o) { s with heap:=h',toks:=t' }:=I.un (Un.write mu he k heo) (I.hok.write mu he k heo new)
theorem Inv.weak{σ':List (Option V)}(I:Inv X aA σ H s)(hl:σ'.length=σ.length)(w:∀ (i:Nat) v,σ'[i]? = some (some v)->σ[i]? = some (some v)):Inv X aA σ' H s :=
 ⟨I.ok,I.os,I.bare,I.base,let ⟨m,hn,hl'⟩:=I.loc;⟨m,hn,λi x v e1 e2 e3=>hl' i x v e1 (w i v e2) e3⟩,I.cell,I.free,I.freeC,I.pin,I.hok,hl.trans I.len⟩
theorem Inv.pins_of{pins':LAO}(I:Inv X aA σ H s)(h:∀ p∈pins',s.heap.get? p.1=some p.2/\H p.1=none/\p.1≠X.env.locals/\p.1∉X.fs/\∀ v,p.2.data ≠ .cell v):Inv X pins' σ H s :=
 ⟨I.ok,I.os,I.bare,I.base,I.loc,I.cell,I.free,I.freeC,λp hp=>(aOS.mp hp).elim (λz=>I.pin p (aOT _ z)) (h p),I.hok,I.len⟩
theorem oU{N:List Str}(hN:N.Nodup){i j:Nat}{x:Str}(a:N[i]? = some x)(b:N[j]? = some x):i=j:=by obtain ⟨h1,e1⟩:=aOU.mp a;obtain ⟨h2,e2⟩:=aOU.mp b;exact (aOV hN).mp (e1.trans e2.symm)
theorem oV{M:Model}{A:Around}{E:VSP}{i:Nat}{x:Str}{v:V}{u:Value}{Q:Unit->Shared->Prop}(I:Inv X aA σ H s)(hN:X.N.Nodup)(hi:X.N[i]? = some x)(hx:Loc X.env.scope x)(r:aM v u)(h:∀ s',Inv X aA (σ.set i (some v)) H s'->(∃ a,Heap.SameBut a s.heap s'.heap/\(a=X.env.locals\/X.env.cells.lookup x=some a))->Q () s')(hf:X.fn x=true\/X.env.scope.names.lookup x=some .local:=by first | exact .inl rfl | exact .inr rfl | assumption):wpAny M A (storeName X.env x u) Q E s:=by
 obtain ⟨m,hn,hl⟩:=id I.loc;have hcls:(X.env.scope.kind == .class||(X.env.scope.kind == .module&&X.env.locals != X.env.globals))=false:=by rw[I.ok.kind];rfl
 have hiσ:i<σ.length:=by rw[I.len];exact (aOU.mp hi).1
 have cne:=I.cne;have tracked:∀ {a:Addr} {h':Heap},(∃ o,s.heap.get? a=some o/\H a=none)->Heap.SameBut a s.heap h'->HOk X.prog X.w H h':=λ{a h'} ha hs b ob e=>by
  obtain ⟨_,_,b0⟩:=ha;refine (I.hok b ob e).stay (λc w' hc q=>(hs.2 c ?_).trans q) (λ_ q=>q) λ_ _ q=>q;rintro rfl;rcases hc with rfl | hc
  . rw[b0] at e;cases e
  . rw[b0] at hc;cases hc
 rcases hx with hk | hk
 . refine wpAny_storeName_local hk hn (λh' hn' hs=>?_) hcls;obtain ⟨oL,_,_,hoL,_⟩:=id hn;refine h _ ⟨I.ok,I.os,I.bare,⟨λb o e n hb hx=>?_,λb o e n hb hx=>?_,I.base.free,λb o e hx=>?_,I.base.tups,I.base.frzs,I.base.tbls⟩,⟨_,hn',λj y v' e1 e2 e3=>?_⟩,λy c e=>?_,I.free,I.freeC,λp hp=>?_,tracked ⟨oL,hoL,I.free⟩ hs,by simpa using I.len⟩ ⟨_,hs,.inl rfl⟩
   . exact (hs.2 b (aOK (aOI (aOH e) I.ok.above))).trans (I.base.keep b o e n hb hx)
   . obtain ⟨sl,e1⟩:=I.base.slot b o e n hb hx;exact ⟨sl,(hs.2 b (aOK (aOI (aOH e) I.ok.above))).trans e1⟩
   . obtain ⟨o',e1⟩:=I.base.there b o e hx;exact ⟨o',(hs.2 b (aOK (aOI (aOH e) I.ok.above))).trans e1⟩
   . by_cases hj:j=i
     . subst hj;rw[hi] at e1;cases e1;rw[aOW hiσ] at e2;cases e2;exact ⟨u,r,.inl ⟨hk,by simp⟩⟩
     . rw[aOX (Ne.symm hj)] at e2;obtain ⟨u',r',q⟩:=hl j y v' e1 e2 e3;refine ⟨u',r',?_⟩;rcases q with ⟨k,e⟩ | ⟨k,c,e,z⟩
       . refine .inl ⟨k,?_⟩;have:y≠x:=λe=>hj (oU hN e1 (e ▸ hi));simp[this,e]
       . exact .inr ⟨k,c,e,z.sameBut hs (cne y c e)⟩
   . obtain ⟨w',z⟩:=I.cell y c e;exact ⟨w',z.sameBut hs (cne y c e)⟩
   . obtain ⟨e,n,ne,nf,d⟩:=I.pin p hp;exact ⟨(hs.2 p.1 ne).trans e,n,ne,nf,d⟩
 . have hfn:X.fn x=true:=by
     rcases hf with z | z
     . exact z
     . rw[z] at hk;cases hk
   obtain ⟨c,hc⟩:=I.ok.has x (.inl hk);obtain ⟨w',z⟩:=I.cell x c hc;refine wpAny_storeName_cell I.ok.kind hk hc z (λh' hc' hs=>?_);obtain ⟨oc,hoc,hocd⟩:=id z;refine h { s with heap:=h' } ⟨I.ok,I.os,I.bare,⟨λb o e n hb hx=>?_,λb o e n hb hx=>?_,I.base.free,λb o e hx=>?_,I.base.tups,I.base.frzs,I.base.tbls⟩,⟨m,hn.sameBut hs (Ne.symm (cne x c hc)),λj y v' e1 e2 e3=>?_⟩,λy c' e=>?_,I.free,I.freeC,λp hp=>?_,tracked ⟨oc,hoc,I.freeC x c hc⟩ hs,by simpa using I.len⟩ ⟨c,hs,.inr hc⟩
   . exact (hs.2 b (aOK (aOI (aOH e) (I.ok.cab x c hfn hc)))).trans (I.base.keep b o e n hb hx)
   . obtain ⟨sl,e1⟩:=I.base.slot b o e n hb hx;exact ⟨sl,(hs.2 b (aOK (aOI (aOH e) (I.ok.cab x c hfn hc)))).trans e1⟩
   . obtain ⟨o',e1⟩:=I.base.there b o e hx;exact ⟨o',(hs.2 b (aOK (aOI (aOH e) (I.ok.cab x c hfn hc)))).trans e1⟩
   . by_cases hj:j=i
     . subst hj;rw[hi] at e1;cases e1;rw[aOW hiσ] at e2;cases e2;exact ⟨u,r,.inr ⟨.inl hk,c,hc,hc'⟩⟩
     . rw[aOX (Ne.symm hj)] at e2;obtain ⟨u',r',q⟩:=hl j y v' e1 e2 e3;refine ⟨u',r',?_⟩;rcases q with q | ⟨k,c',e,z'⟩
       . exact .inl q
       . refine .inr ⟨k,c',e,z'.sameBut hs ?_⟩;rintro rfl;exact hj (oU hN e1 (I.ok.inj _ _ _ e hc ▸ hi))
   . by_cases hcc:c'=c
     . subst hcc;exact ⟨_,hc'⟩
     . obtain ⟨w2,z2⟩:=I.cell y c' e;exact ⟨w2,z2.sameBut hs hcc⟩
   . obtain ⟨e,n,ne,nf,d⟩:=I.pin p hp;refine ⟨(hs.2 p.1 ?_).trans e,n,ne,nf,d⟩;intro q;rw[q,hoc] at e;have q':oc=p.2:=aOF e;exact d w' (by rw[<- q'];exact hocd)
theorem iU{M:Model}{A:Around}{E:VSP}{i:Nat}{x:Str}{v:V}{u:Value}{Q:Unit->Shared->Prop}(I:Inv X aA σ H s)(hN:X.N.Nodup)(hi:X.N[i]? = some x)(hx:Loc X.env.scope x)(r:aM v u)(h:∀ s',Inv X aA (σ.set i (some v)) H s'->Q () s')(hf:X.fn x=true\/X.env.scope.names.lookup x=some .local:=by first | exact .inl rfl | exact .inr rfl | assumption):wpAny M A (storeName X.env x u) Q E s :=
 oV I hN hi hx r (λs' I' _=>h s' I') hf
theorem Inv.call'{s':Shared}{ch:List Addr}(I:Inv X aA σ H s)(ho:s'.os=s.os)(u:Un (frs X.stack) ch H H' s.heap s'.heap)(hok:HOk X.prog X.w H' s'.heap)(hg:AllBare s'.gens)(hch:∀ b∈ch,(b∈X.ex\/X.s₀.heap.objs.size<=b)/\b≠X.env.locals/\(∀ x c,X.env.cells.lookup x=some c->c≠b)/\∀ p∈X.pn++aA,p.1≠b):Inv X aA σ H' s':=by obtain ⟨h',g',d',t',o'⟩:=s';have e:o'=s.os:=ho;subst e;exact I.call (g':=g') (t':=t') (d':=d') u hok hg hch
end
abbrev XK:=Value->Option Addr->Hp->Prop
abbrev St:=List (Option V)
abbrev VK:=V->Hp->Prop
abbrev TE:=St->Hp->VK->Prop
abbrev TT:=St->Hp->(Bool->Hp->Prop)->Prop
abbrev TA:=St->Hp->(List V->Hp->Prop)->Prop
structure cJ where
 nx:St->Hp->Prop
 rt:VK
 bk:St->Hp->Prop:=λ_ _=>False
 ct:St->Hp->Prop:=λ_ _=>False
abbrev TS:=cJ->St->Hp->Prop
def EP(X:Cx)(aA:LAO)(σ:St)(Q:VK)(u:Value)(s':Shared):Prop:=∃ v H',Inv X aA σ H' s'/\aM v u/\Q v H'
def TP(X:Cx)(aA:LAO)(σ:St)(Q:Bool->Hp->Prop)(b:Bool)(s':Shared):Prop:=∃ H',Inv X aA σ H' s'/\Q b H'
def AP(X:Cx)(aA:LAO)(σ:St)(Q:List V->Hp->Prop)(us:List Value)(s':Shared):Prop:=∃ vs H',Inv X aA σ H' s'/\aN vs us/\Q vs H'
def SP(X:Cx)(aA:LAO)(D:cJ)(f:Flow)(s':Shared):Prop :=
 match f with
 | .next=>∃ σ' H',Inv X aA σ' H' s'/\D.nx σ' H'
 | .brk=>∃ σ' H',Inv X aA σ' H' s'/\D.bk σ' H'
 | .cont=>∃ σ' H',Inv X aA σ' H' s'/\D.ct σ' H'
 | .ret u=>∃ v σ' H',Inv X aA σ' H' s'/\aM v u/\D.rt v H'
def PE(X:Cx)(e:Expr)(t:TE):Prop :=
 ∀ (aA:LAO) (s:Shared) (σ:St) (H:Hp) (Q:VK),Inv X aA σ H s->t σ H Q->wpAny (model X.prog X.w) X.A (eval e X.env) (EP X aA σ Q) X.xe s
def PT(X:Cx)(e:Expr)(t:TT):Prop :=
 ∀ (aA:LAO) (s:Shared) (σ:St) (H:Hp) (Q:Bool->Hp->Prop),Inv X aA σ H s->t σ H Q->wpAny (model X.prog X.w) X.A (isTrue e X.env (eval e X.env)) (TP X aA σ Q) X.xe s
def PW(X:Cx)(e:Expr)(t:TT):Prop :=
 ∀ (whole:Sem Value) (aA:LAO) (s:Shared) (σ:St) (H:Hp) (Q:Bool->Hp->Prop),Inv X aA σ H s->t σ H Q->wpAny (model X.prog X.w) X.A (isTrue e X.env whole) (TP X aA σ Q) X.xe s
theorem PW.pt{X:Cx}{e:Expr}{t:TT}(h:PW X e t):PT X e t:=h _
def PA(X:Cx)(es:List Expr)(t:TA):Prop :=
 ∀ (pos:Pos) (aA:LAO) (s:Shared) (σ:St) (H:Hp) (Q:List V->Hp->Prop),Inv X aA σ H s->t σ H Q->wpAny (model X.prog X.w) X.A (spliced (backTo pos (starEach es X.env))) (AP X aA σ Q) X.xe s
def PS(X:Cx)(st:Stmt)(t:TS):Prop :=
 ∀ (aA:LAO) (s:Shared) (σ:St) (H:Hp) (D:cJ),Inv X aA σ H s->t D σ H->wpAny (model X.prog X.w) X.A (exec st X.env) (SP X aA D) X.xe s
def PSs(X:Cx)(st:List Stmt)(t:TS):Prop :=
 ∀ (aA:LAO) (s:Shared) (σ:St) (H:Hp) (D:cJ),Inv X aA σ H s->t D σ H->wpAny (model X.prog X.w) X.A (execs st X.env) (SP X aA D) X.xe s
theorem thn{α:Type}{t:Sem α}{Q Q':α->Shared->Prop}{M:Model}{A:Around}{E:VSP}{s:Shared}(h:wpAny M A t Q E s)(hQ:∀ a s,Q a s->Q' a s):wpAny M A t Q' E s:=aOY h hQ λ_ _ x=>x
section
variable {X:Cx}
def hV(i:Nat):TE:=λσ H Q=>∃ v,σ[i]? = some (some v)/\Q v H
def tC(v:V):TE:=λ_ H Q=>Q v H
theorem iV{i:Nat}{x:Str}{pos:Pos}(hN:X.N[i]? = some x)(hv:Vis X.env.scope x)(hd:(x==("__debug__" : Str))=false:=by decide)(hcd:(x==("__classdict__" : Str))=false:=by decide):PE X (.Name x pos) (hV i):=by
 intro aA s σ H Q I h;obtain ⟨v,e,h⟩:=h;obtain ⟨m,hn,hl⟩:=I.loc;obtain ⟨u,r,l⟩:=hl i x v hN e hv;have fin:EP X aA σ Q u s:=⟨v,H,I,r,h⟩;rcases l with ⟨hk,hm⟩ | ⟨hk,c,hc,bW⟩
 . exact wpAny_Name (wpAny_loadName_local I.ok.kind hk hn hm fin) hd
 . rcases hk with hk | hk
   . exact wpAny_Name (wpAny_loadName_cell I.ok.kind hk hc bW fin) hd
   . exact wpAny_Name (wpAny_loadName_free I.ok.kind hk hc bW fin hcd) hd
theorem aAV{i j pos}:PE X (.Constant (.int i) j pos) (tC (.int i)):=λ_ _ _ H _ I h=>wpAny_Constant_int ⟨.int i,H,I.tok _,⟨_,rfl⟩,h⟩
theorem pe_bl{b j pos}:PE X (.Constant (.bool b) j pos) (tC (.bl b)):=λ_ _ _ H _ I h=>Constant_bool ⟨.bl b,H,I,rfl,h⟩
theorem aAW{j pos}:PE X (.Constant .none j pos) (tC .non):=λ_ _ _ H _ I h=>Constant_none ⟨.non,H,I,rfl,h⟩
theorem aAX{x j pos}:PE X (.Constant (.str x) j pos) (tC (.str x)):=λ_ _ _ H _ I h=>Calls.Constant_str ⟨.str x,H,I.tok _,⟨_,rfl⟩,h⟩
def Gl(X:Cx)(x:Str):Prop:=X.env.kindOf x=some .globalImplicit
theorem kE{E:VSP}{aA:LAO}{s:Shared}{σ:St}{H:Hp}{x:Str}{u:Value}{pos:Pos}{Q:VSP}(I:Inv X aA σ H s)(hg:Gl X x)(hm:X.mg x=some u)(h:Q u s)(hd:(x==("__debug__" : Str))=false:=by decide):wpAny (model X.prog X.w) X.A (eval (.Name x pos) X.env) Q E s :=
 Calls.Name_function_global I.ok.kind hg (Calls.loadGlobal_global (by rw[I.ok.glob];exact I.mod.glob.keeps I.bk) hm h) hd
theorem hW{E:VSP}{aA:LAO}{s:Shared}{σ:St}{H:Hp}{x:Str}{u:Value}{pos:Pos}{Q:VSP}(I:Inv X aA σ H s)(hg:Gl X x)(hm:X.mg x=none)(hv:bootBuiltins x=some u)(h:Q u s)(hn:x ≠ "__name__" := by decide)(hd:(x==("__debug__" : Str))=false:=by decide):wpAny (model X.prog X.w) X.A (eval (.Name x pos) X.env) Q E s:=by obtain ⟨mb,h1,h2⟩:=I.mod.blt;exact Calls.Name_function_global I.ok.kind hg (Calls.loadGlobal_builtin (by rw[I.ok.glob];exact I.mod.glob.keeps I.bk) hm (by rw[I.ok.blt];exact h1.keeps I.bk) ((h2 x hn).trans hv) h) hd
theorem oW{x:Str}{v:V}{u:Value}{pos:Pos}(hg:Gl X x)(hm:X.mg x=some u)(r:aM v u)(hd:(x==("__debug__" : Str))=false:=by decide):PE X (.Name x pos) (tC v) :=
 λ_ _ _ H _ I h=>kE I hg hm ⟨v,H,I,r,h⟩ hd
theorem r8{x:Str}{v:V}{u:Value}{pos:Pos}(hg:Gl X x)(hm:X.mg x=none)(hv:bootBuiltins x=some u)(r:aM v u)(hn:x ≠ "__name__" := by decide)(hd:(x==("__debug__" : Str))=false:=by decide):PE X (.Name x pos) (tC v) :=
 λ_ _ _ H _ I h=>hW I hg hm hv ⟨v,H,I,r,h⟩ hn hd
variable {a b:Expr}{ta tb:TE}{pos:Pos}
variable {tA tB':TT}{aY:List Expr}
def oX(t u:TT):TT:=λσ H Q=>t σ H λc H1=>if c=true then u σ H1 Q else Q false H1
def tOr(t u:TT):TT:=λσ H Q=>t σ H λc H1=>if c=true then Q true H1 else u σ H1 Q
def tNot(t:TT):TT:=λσ H Q=>t σ H λc H1=>Q (!c) H1
theorem aAY(ha:PT X a tA):PW X (.BoolOp .And [a] pos) tA:=by
 intro wh aA s σ H Q I h;refine isTrue_and (thn (ha aA s σ H Q I h) λc s1 e=>?_);cases c with
 | true=>exact isTrue_and_nil e
 | false=>exact e
theorem aAZ(ha:PT X a tA):PW X (.BoolOp .Or [a] pos) tA:=by
 intro wh aA s σ H Q I h;refine isTrue_or (thn (ha aA s σ H Q I h) λc s1 e=>?_);cases c with
 | false=>exact isTrue_or_nil e
 | true=>exact e
theorem aA0(ha:PT X a tA)(hb:PW X (.BoolOp .And (b::aY) pos) tB'):PW X (.BoolOp .And (a::b::aY) pos) (oX tA tB'):=by
 intro wh aA s σ H Q I h;refine isTrue_and (thn (ha aA s σ H _ I h) λc s1 ⟨H1,I1,q1⟩=>?_);cases c with
 | true=>exact hb wh aA s1 σ H1 Q I1 q1
 | false=>exact ⟨H1,I1,q1⟩
theorem pw_or(ha:PT X a tA)(hb:PW X (.BoolOp .Or (b::aY) pos) tB'):PW X (.BoolOp .Or (a::b::aY) pos) (tOr tA tB'):=by
 intro wh aA s σ H Q I h;refine isTrue_or (thn (ha aA s σ H _ I h) λc s1 ⟨H1,I1,q1⟩=>?_);cases c with
 | true=>exact ⟨H1,I1,q1⟩
 | false=>exact hb wh aA s1 σ H1 Q I1 q1
theorem aA1(ha:PT X a tA):PT X (.UnaryOp .Not a pos) (tNot tA):=by intro aA s σ H Q I h;exact isTrue_not (ha aA s σ H (λc H1=>Q (!c) H1) I h)
def r9(ta tb:TE):TE:=λσ H Q=>ta σ H λx H1=>∃ c,x=.bl c/\if c=true then tb σ H1 Q else Q (.bl false) H1
def tOrV(ta tb:TE):TE:=λσ H Q=>ta σ H λx H1=>∃ c,x=.bl c/\if c=true then Q (.bl true) H1 else tb σ H1 Q
def sC(ta:TE):TE:=λσ H Q=>ta σ H λx H1=>∃ c,x=.bl c/\Q (.bl (!c)) H1
theorem aA2{op}{t:TE}(h:PE X a t):PE X (.BoolOp op [a] pos) t:=λaA s σ H Q I hw=>BoolOp_one (h aA s σ H Q I hw)
theorem aA3(ha:PE X a ta)(hb:PE X (.BoolOp .And (b::aY) pos) tb):PE X (.BoolOp .And (a::b::aY) pos) (r9 ta tb):=by
 intro aA s σ H Q I h;refine BoolOp_and (thn (ha aA s σ H _ I h) λv s1 ⟨x,H1,I1,r1,q1⟩=>?_);obtain ⟨c,rfl,q1⟩:=q1;cases r1;refine aOZ ?_;cases c with
 | true=>exact hb aA s1 σ H1 Q I1 q1
 | false=>exact ⟨.bl false,H1,I1,rfl,q1⟩
theorem pe_or(ha:PE X a ta)(hb:PE X (.BoolOp .Or (b::aY) pos) tb):PE X (.BoolOp .Or (a::b::aY) pos) (tOrV ta tb):=by
 intro aA s σ H Q I h;refine BoolOp_or (thn (ha aA s σ H _ I h) λv s1 ⟨x,H1,I1,r1,q1⟩=>?_);obtain ⟨c,rfl,q1⟩:=q1;cases r1;refine aOZ ?_;cases c with
 | false=>exact hb aA s1 σ H1 Q I1 q1
 | true=>exact ⟨.bl true,H1,I1,rfl,q1⟩
theorem aA4(ha:PE X a ta):PE X (.UnaryOp .Not a pos) (sC ta):=by intro aA s σ H Q I h;refine UnaryOp_ (thn (ha aA s σ H _ I h) λv s1 ⟨x,H1,I1,r1,q1⟩=>?_);obtain ⟨c,rfl,q1⟩:=q1;cases r1;exact not_of (aOZ ⟨.bl (!c),H1,I1,rfl,q1⟩)
end
def SqL(K:Fg)(H:Hp)(a:Addr)(xs:List V):Prop :=
 Rd H a (.lst xs) \/
  ∃ (o:Obj) (its:Array Value) (n:Nat),K.lookup a=some o/\o.cls=.type "list" /\ o.dict=none/\o.data=.seq its n/\its.size<=sizeLine/\aN xs its.toList
def SqT(K:Fg)(H:Hp)(a:Addr)(xs:List V):Prop :=
 Rd H a (.tup xs) \/
  ∃ (o:Obj) (its:Array Value) (n:Nat),K.lookup a=some o/\o.cls=.type "tuple" /\ o.dict=none/\o.data=.seq its n/\its.size<=sizeLine/\aN xs its.toList
def absV:Value->Option V
 | .none=>some .non
 | .bool b=>some (.bl b)
 | .int i _=>some (.int i)
 | .str x _=>some (.str x)
 | .bytes b _=>some (.byt b)
 | .float b _=>some (.flt b)
 | .ref a=>some (.ref a)
 | .type n=>some (.ty n)
 | _=>none
theorem aM.abs{x:V}{u:Value}(r:aM x u):absV u=some x:=by
 cases x with
 | non=>cases r;rfl
 | bl _=>cases r;rfl
 | int _=>obtain ⟨t,rfl⟩:=r;rfl
 | str _=>obtain ⟨t,rfl⟩:=r;rfl
 | byt _=>obtain ⟨t,rfl⟩:=r;rfl
 | flt _=>obtain ⟨t,rfl⟩:=r;rfl
 | ref _=>cases r;rfl
 | ty _=>cases r;rfl
theorem aM.inj{x y:V}{u:Value}(r:aM x u)(q:aM y u):x=y:=aOF (r.abs.symm.trans q.abs)
theorem aN.inj:∀ {xs ys:List V} {us:List Value},aN xs us->aN ys us->xs=ys
 | _,_,_,.nil,.nil=>rfl
 | _,_,_,.cons r t,.cons r' t'=>by rw[r.inj r',aN.inj t t']
section
variable {X:Cx}{aA:LAO}{σ:St}{H:Hp}{s:Shared}{a:Addr}{xs ys:List V}
theorem SqL.of{K:Fg}(h:H a=some (.lst xs)):SqL K H a xs:=.inl (.inl h)
theorem SqT.of{K:Fg}(h:H a=some (.tup xs)):SqT K H a xs:=.inl (.inl h)
theorem Inv.list(I:Inv X aA σ H s)(h:SqL X.K H a xs):∃ its:List Value,aN xs its/\PlainL s.heap a its.toArray/\xs.length<=sizeLine:=by
 rcases h with h | ⟨o,its,n,hk,hc,hd,hs,hz,r⟩
 . obtain ⟨z,its,n,r,e⟩:=h.ok I.hok;exact ⟨its,r,⟨_,n,e,rfl,rfl,rfl⟩,z⟩
 . refine ⟨its.toList,r,⟨o,n,I.kIn a o hk,hc,hd,by simpa using hs⟩,?_⟩
   have e:=r.length;simp only[aO0] at e;omega
theorem Inv.tuple(I:Inv X aA σ H s)(h:SqT X.K H a xs):∃ its:List Value,aN xs its/\IsTup s.heap a its.toArray/\xs.length<=sizeLine:=by
 rcases h with h | ⟨o,its,n,hk,hc,hdt,hs,hz,r⟩
 . obtain ⟨z,its,r,p⟩:=h.ok I.hok;exact ⟨its,r,p.isTup,z⟩
 . refine ⟨its.toList,r,⟨o,I.kIn a o hk,hc,n,by simpa using hs⟩,?_⟩
   have e:=r.length;simp only[aO0] at e;omega
theorem Inv.list_inj(I:Inv X aA σ H s)(h:SqL X.K H a xs)(h':SqL X.K H a ys):xs=ys:=by
 obtain ⟨its,r,⟨o,n,e,_,_,d⟩,_⟩:=I.list h;obtain ⟨its',r',⟨o',n',e',_,_,d'⟩,_⟩:=I.list h';rw[e] at e';cases e';rw[d] at d';injection d' with d1 _
 have:its=its':=by simpa using congrArg Array.toList d1
 subst this;exact r.inj r'
theorem Inv.tuple_inj(I:Inv X aA σ H s)(h:SqT X.K H a xs)(h':SqT X.K H a ys):xs=ys:=by
 obtain ⟨its,r,⟨o,e,_,n,d⟩,_⟩:=I.tuple h;obtain ⟨its',r',⟨o',e',_,n',d'⟩,_⟩:=I.tuple h';rw[e] at e';cases e';rw[d] at d';injection d' with d1 _
 have:its=its':=by simpa using congrArg Array.toList d1
 subst this;exact r.inj r'
end
abbrev Cx.wish(X:Cx)(E:VSP):Cx:={ X with xe:=E }
section
variable {X:Cx}{aA:LAO}{σ:St}{H:Hp}{s:Shared}{E:VSP}
end
section
variable {X:Cx}{st:Stmt}{aY:List Stmt}{t u:TS}{e:Expr}{te:TE}{pos:Pos}
def tNext:TS:=λD σ H=>D.nx σ H
def tSeq(t u:TS):TS:=λD σ H=>t { D with nx:=u D } σ H
theorem aA5:PSs X [] tNext:=λ_ _ σ H _ I h=>aO1 ⟨σ,H,I,h⟩
theorem aA6(h1:PS X st t)(h2:PSs X aY u):PSs X (st::aY) (tSeq t u):=by
 intro aA s σ H D I h;refine wpAny_execs_cons (thn (h1 aA s σ H { D with nx:=u D } I h) λf s1 q=>?_)
 cases f with
 | next=>obtain ⟨σ',H',I',q⟩:=q;exact h2 aA s1 σ' H' D I' q
 | ret v=>exact q
 | brk=>exact q
 | cont=>exact q
theorem Inv.quiet{aA:LAO}{σ:St}{H:Hp}{s:Shared}(I:Inv X aA σ H s):interactive X.env=false:=by simp[interactive,I.ok.kind]
def oY(te:TE):TS:=λD σ H=>te σ H λ_ H1=>D.nx σ H1
theorem o7(he:PE X e te)(hs:swapsWith e none pos.line X.env=pure false:=by rfl):PS X (.Expr e pos) (oY te):=by intro aA s σ H D I h;exact wpAny_Expr_any (thn (he aA s σ H _ I h) λv s1 ⟨x,H1,I1,r1,q1⟩=>⟨σ,H1,I1,q1⟩) I.quiet hs
def tRet(te:TE):TS:=λD σ H=>te σ H D.rt
theorem sD(he:PE X e te):PS X (.Return (some e) pos) (tRet te):=by intro aA s σ H D I h;exact wpAny_Return_some (thn (he aA s σ H _ I h) λv s1 ⟨x,H1,I1,r1,q1⟩=>⟨x,σ,H1,I1,r1,q1⟩)
def tIfS(c:TT)(t u:TS):TS:=λD σ H=>c σ H λb H1=>if b=true then t D σ H1 else u D σ H1
theorem ps_if{c:Expr}{a b:List Stmt}{tc:TT}(hc:PT X c tc)(ha:PSs X a t)(hb:PSs X b u):PS X (.If c a b pos) (tIfS tc t u):=by
 intro aA s σ H D I h;refine wpAny_If (thn (hc aA s σ H _ I h) λd s1 ⟨H1,I1,q1⟩=>?_);cases d with
 | true=>exact ha aA s1 σ H1 D I1 q1
 | false=>exact hb aA s1 σ H1 D I1 q1
end
abbrev TG:=V->St->Hp->(St->Hp->Prop)->Prop
abbrev TGs:=List V->St->Hp->(St->Hp->Prop)->Prop
def PG(X:Cx)(target:Expr)(t:TG):Prop :=
 ∀ (aA:LAO) (s:Shared) (σ:St) (H:Hp) (v:V) (u:Value) (Q:St->Hp->Prop),Inv X aA σ H s->aM v u->t v σ H Q ->
  wpAny (model X.prog X.w) X.A (assign target X.env u) (λ_ s'=>∃ σ' H',Inv X aA σ' H' s'/\Q σ' H') X.xe s
def PGs(X:Cx)(ts:List Expr)(t:TGs):Prop :=
 ∀ (aA:LAO) (s:Shared) (σ:St) (H:Hp) (vs:List V) (us:List Value) (Q:St->Hp->Prop),Inv X aA σ H s->aN vs us->t vs σ H Q ->
  wpAny (model X.prog X.w) X.A (assignInOrder ((assignEach ts X.env).map (·.2)) us) (λ_ s'=>∃ σ' H',Inv X aA σ' H' s'/\Q σ' H') X.xe s
section
variable {X:Cx}{pos:Pos}
def iW(i:Nat):TG:=λv σ H Q=>Q (σ.set i (some v)) H
theorem aA7{i:Nat}{x:Str}(hN:X.N.Nodup)(hi:X.N[i]? = some x)(hx:Loc X.env.scope x)(hf:X.fn x=true\/X.env.scope.names.lookup x=some .local:=by first | exact .inl rfl | exact .inr rfl | assumption):PG X (.Name x pos) (iW i):=by intro aA s σ H v u Q I r h;exact aO2 (iU I hN hi hx r (λs' I'=>⟨_,H,I',h⟩) hf)
def gNil:TGs:=λvs σ H Q=>vs=[]/\Q σ H
def sH(t:TG)(u:TGs):TGs:=λvs σ H Q=>∃ v r,vs=v::r/\t v σ H λσ' H'=>u r σ' H' Q
theorem aA8:PGs X [] gNil:=by intro aA s σ H vs us Q I r h;obtain ⟨e,h⟩:=h;subst e;cases r;exact assignInOrder_nil ⟨σ,H,I,h⟩
theorem aA9{e:Expr}{es:List Expr}{t:TG}{u:TGs}(h1:PG X e t)(h2:PGs X es u)(hs:(assignEach (e::es) X.env).map (·.2)=assign e X.env::(assignEach es X.env).map (·.2):=by rfl):PGs X (e::es) (sH t u):=by
 intro aA s σ H vs us Q I r h;obtain ⟨v,vr,e1,h⟩:=h;subst e1;cases r with
 | cons r rr=>rw[hs];refine assignInOrder_cons (thn (h1 aA s σ H _ _ _ I r h) λ_ s1 ⟨σ1,H1,I1,q1⟩=>?_);exact h2 aA s1 σ1 H1 _ _ Q I1 rr q1
def gTup(K:Fg)(n:Nat)(t:TGs):TG:=λv σ H Q=>∃ a xs,v=.ref a/\SqT K H a xs/\xs.length=n/\t xs σ H Q
theorem aBA{es:List Expr}{k:Nat}{t:TGs}{n:Nat}(hc:X.calm=true)(h:PGs X es t)(hn:(assignEach es X.env).length=n:=by rfl)(hst:(assignEach es X.env).findIdx? (·.1)=none:=by rfl):PG X (.Tuple es k pos) (gTup X.K n t):=by
 intro aA s σ H v u Q I r hw;obtain ⟨a,xs,e1,hq,hl,hw⟩:=hw;subst e1;cases r;obtain ⟨its,rv,ht,hz⟩:=I.tuple hq;refine assign_Tuple_tuple (I.ok.hd hc) ht (by simp[hn,<- hl,rv.length]) hst λh' hx=>?_
 have I1:Inv X aA σ H { s with heap:=h' }:=I.kept (t':=s.toks) λb o e=>hx b o (aOK (aOH e)) e
 exact h aA _ σ H xs _ Q I1 (by simpa using rv) hw
def hZ(te:TE)(g:TG):TS:=λD σ H=>te σ H λx H1=>g x σ H1 D.nx
theorem aBB{tg e:Expr}{te:TE}{g:TG}(he:PE X e te)(hg:PG X tg g)(hs:swapsWithSole [tg] e pos.line X.env=pure false:=by rfl)(hw:swappedStores [tg] e X.env=pure none:=by rfl)(h1:(assignEach [tg] X.env).map (·.2)=[assign tg X.env]:=by rfl):PS X (.Assign [tg] e pos) (hZ te g):=by intro aA s σ H D I h;refine wpAny_Assign_stores (thn (he aA s σ H _ I h) λv s1 ⟨x,H1,I1,r1,q1⟩=>?_) hs hw;rw[h1];exact thn (hg aA s1 σ H1 x v _ I1 r1 q1) λ_ s2 q=>q
theorem aBC{i:Nat}{x:Str}{e:Expr}{te:TE}{pos':Pos}(hN:X.N.Nodup)(hi:X.N[i]? = some x)(hx:Loc X.env.scope x)(he:PE X e te)(hs:swapsWith e (some (.Name x pos')) pos.line X.env=pure false:=by rfl)(hf:X.fn x=true\/X.env.scope.names.lookup x=some .local:=by first | exact .inl rfl | exact .inr rfl | assumption):PS X (.Assign [.Name x pos'] e pos) (hZ te (iW i)):=by intro aA s σ H D I h;refine wpAny_Assign_Name (thn (he aA s σ H _ I h) λv s1 ⟨y,H1,I1,r1,q1⟩=>?_) hs;exact iU I1 hN hi hx r1 (λs2 I2=>⟨_,H1,I2,q1⟩) hf
def tPar(i j:Nat)(ta:TA):TS:=λD σ H=>ta σ H λvs H1=>∃ v w,vs=[v,w]/\D.nx ((σ.set i (some v)).set j (some w)) H1
theorem aBD{i j:Nat}{x y:Str}{a b:Expr}{ta:TA}{px py pt:Pos}{kt k2 pt2}(hc:X.calm=true)(hN:X.N.Nodup)(hi:X.N[i]? = some x)(hj:X.N[j]? = some y)(hij:i≠j)(hx:X.env.scope.names.lookup x=some .local)(hy:X.env.scope.names.lookup y=some .local)(ha:PA X [a,b] ta)(hw:swappedStores [.Tuple [.Name x px,.Name y py] kt pt] (.Tuple [a,b] k2 pt2) X.env=pure (some [x,y]))(hs:swapsWithSole [.Tuple [.Name x px,.Name y py] kt pt] (.Tuple [a,b] k2 pt2) pos.line X.env=pure false:=by rfl):PS X (.Assign [.Tuple [.Name x px,.Name y py] kt pt] (.Tuple [a,b] k2 pt2) pos) (tPar i j ta):=by
 intro aA s σ H D I h;rw[exec_Assign_arm];refine aO3 (aO4 ?_);rw[hs];refine aO3 (aO5 ?_);rw[if_neg (by decide)]
 refine aO3 (Tuple_ (thn (ha _ aA s σ H _ I h) λus s1 ⟨vs,H1,I1,r1,q1⟩=>?_));obtain ⟨v,w,e1,q1⟩:=q1;subst e1;obtain ⟨u1,u2,rfl,rv,rw'⟩:∃ u1 u2,us=[u1,u2]/\aM v u1/\aM w u2:=by
  cases r1 with
  | cons p q =>
   cases q with
   | cons p' q'=>cases q';exact ⟨_,_,rfl,p,p'⟩
 refine aO6 ?_ (by show 2<=sizeLine;decide)
 have I2:Inv X aA σ H1 { s1 with heap:=s1.heap.push { cls:=.type "tuple", data:=.seq [u1,u2].toArray } }:=I1.kept (t':=s1.toks) λb o e=>hps e
 rw[hw];refine aO3 (aO5 ?_);show wpAny (model X.prog X.w) X.A (do rule "assign.swapped-stores"; let items <- unpackItems (.ref s1.heap.objs.size) 2 none;assignInOrder [λv=>bindName X.env y v,λv=>bindName X.env x v] items.reverse;pure Flow.next) _ _ _
 refine aO3 (aO7 (aO3 (unpackItems_tuple (items:=#[u1,u2]) (I.ok.hd hc) (IsTup.new s1.heap _) λh' hx'=>?_)));have I3:=I2.kept (h':=h') (t':=s1.toks) λb o e=>hx' b o (aOK (aOH e)) e;show wpAny _ _ (assignInOrder [λv=>bindName X.env y v,λv=>bindName X.env x v] [u2,u1] >>= λ_=>pure Flow.next) _ _ _;refine aO3 (assignInOrder_cons (wpAny_bindName (iU I3 hN hj (.inl hy) rw' (λs2 I4=>?_) (.inr hy))));refine assignInOrder_cons (wpAny_bindName (iU I4 hN hi (.inl hx) rv (λs3 I5=>assignInOrder_nil (aO5 ?_)) (.inr hx)));rw[List.set_comm _ _ (Ne.symm hij)] at I5;exact ⟨_,H1,I5,q1⟩
end
section
variable {X:Cx}{pos:Pos}
def aBE(c:TT)(tb:TS):TS:=λD σ H=>∃ W:Nat->St->Hp->Prop,(∃ m,W m σ H)/\∀ m σ H,W m σ H ->
 c σ H λb H1=>if b=true then ∃ N:St->Hp->Prop,(∀ σ' H',N σ' H'->∃ m',m'<m/\W m' σ' H')/\tb { D with nx:=N,ct:=N,bk:=D.nx } σ H1 else D.nx σ H1
theorem aBF{c:Expr}{body:List Stmt}{tc:TT}{tb:TS}(hp:PassesOwn (model X.prog X.w) X.A X.env X.xe)(hc:PT X c tc)(hb:PSs X body tb):PS X (.While c body [] pos) (aBE tc tb):=by
 intro aA s σ H D I h;obtain ⟨W,⟨m0,w0⟩,turn⟩:=h;refine wpAny_While (codeAny_whileLoop (λn s'=>∃ σ' H',Inv X aA σ' H' s'/\W n σ' H') ?_ m0 ⟨σ,H,I,w0⟩);rintro n s1 ⟨σ1,H1,I1,w1⟩;refine aO8 hp (thn (hc aA s1 σ1 H1 _ I1 (turn n σ1 H1 w1)) λb s2 ⟨H2,I2,q2⟩=>?_);cases b with
 | true =>
  obtain ⟨N,hN,q2⟩:=q2;rw[if_pos rfl];refine aO8 hp (thn (hb aA s2 σ1 H2 _ I2 q2) λf s3 q3=>?_);cases f with
  | next=>obtain ⟨σ3,H3,I3,n3⟩:=q3;obtain ⟨m',hm,w3⟩:=hN σ3 H3 n3;exact ⟨m',hm,σ3,H3,I3,w3⟩
  | cont=>obtain ⟨σ3,H3,I3,n3⟩:=q3;obtain ⟨m',hm,w3⟩:=hN σ3 H3 n3;exact ⟨m',hm,σ3,H3,I3,w3⟩
  | brk=>exact q3
  | ret v=>exact q3
 | false=>rw[if_neg aO9];exact aO1 ⟨σ1,H2,I2,q2⟩
end
structure It where
 go:Nat->Hp->Prop
 yld:Nat->Hp->V->Hp->Prop
 stop:Nat->Hp->Prop
def d9(X:Cx)(aA:LAO)(H:Hp)(b:Addr):Prop :=
 H b=none/\b≠X.env.locals/\b∉X.fs/\(b∈X.ex\/X.s₀.heap.objs.size<=b)/\(∀ x c,X.env.cells.lookup x=some c->c≠b)/\∀ p∈X.pn++aA,p.1≠b
theorem Inv.fpOk{X:Cx}{aA:LAO}{σ:St}{H H':Hp}{s:Shared}{b:Addr}(I:Inv X aA σ H s)(hb:s.heap.objs.size<=b)(hn:H' b=none):d9 X aA H' b:=by
 refine ⟨hn,aPA (aOI I.lt hb),I.nofs hb,.inr (aOP I.sz hb),λx c e z=>?_,λp hp z=>?_⟩
 . obtain ⟨v,q⟩:=I.cell x c e;exact absurd (aOI q.lt (by rw[z];exact hb)) (aOJ _)
 . exact absurd (aOI (aOH (I.pin p hp).1) (by rw[z];exact hb)) (aOJ _)
structure gM(P:Program)(w:World)(K:Fg)(tg:Expr)(J:It)(fp:List Addr)(it:Addr)(tn:Nat->Heap->Prop):Prop where
 mem:it∈fp
 obj:∀ i h,tn i h->∀ b∈fp,∃ o,h.get? b=some o/\∀ v,o.data ≠ .cell v
 keep:∀ i h h',tn i h->(∀ b∈fp,∀ o,h.get? b=some o->h'.get? b=some o)->tn i h'
 item:∀ (X:Cx),X.prog=P->X.w=w->X.K=K->X.calm=true->∀ (i:Nat) (aA:LAO) (s:Shared) (σ:St) (H:Hp) (E:VSP),Inv X aA σ H s->(∀ b∈fp,d9 X aA H b)->tn i s.heap->J.go i H ->
  wpAny (model P w) X.A (pyNext (.ref it)) (λr s1=>∃ u,r=some u /\
   wpAny (model P w) X.A (letOwnedTupleGo tg (.ref it) u) (λ_ s2=>∃ x H',Inv X aA σ H' s2/\aM x u/\J.yld i H x H'/\tn (i+1) s2.heap/\∀ b∈fp,H' b=none) E s1) E s
 done:∀ (X:Cx),X.prog=P->X.w=w->X.K=K->X.calm=true->∀ (i:Nat) (aA:LAO) (s:Shared) (σ:St) (H:Hp) (E:VSP),Inv X aA σ H s->(∀ b∈fp,d9 X aA H b)->tn i s.heap->J.stop i H ->
  wpAny (model P w) X.A (pyNext (.ref it)) (λr s1=>r=none/\Inv X aA σ H s1) E s
 self:∀ (A:Around) (i:Nat) (s:Shared) (Q:VSP) (E:VSP),tn i s.heap->Q (.ref it) s->wpAny (model P w) A (pyIter (.ref it)) Q E s
abbrev TI:=St->Hp->(It->Hp->Prop)->Prop
def PIE(X:Cx)(aA:LAO)(σ:St)(tg:Expr)(R:It->Hp->Prop)(itv:Value)(s2:Shared):Prop :=
 ∃ (it:Addr) (fp:List Addr) (tn:Nat->Heap->Prop) (J:It) (H':Hp),itv=.ref it/\Inv X aA σ H' s2/\gM X.prog X.w X.K tg J fp it tn/\tn 0 s2.heap/\(∀ b∈fp,d9 X aA H' b)/\R J H'
def PI(X:Cx)(tg aI:Expr)(wi:TI):Prop :=
 ∀ (aA:LAO) (s:Shared) (σ:St) (H:Hp) (R:It->Hp->Prop),Inv X aA σ H s->wi σ H R ->
  wpAny (model X.prog X.w) X.A (eval aI X.env) (λv s1=>wpAny (model X.prog X.w) X.A (pyIter v) (PIE X aA σ tg R) X.xe s1) X.xe s
theorem l6{M:Model}{A:Around}{E:VSP}{s:Shared}{tg:Expr}{it:Addr}{u:Value}{o:Obj}{n:String}{vs:Array Value}{Q:Unit->Shared->Prop}(ho:s.heap.get? it=some o)(hc:o.cls=.type n)(hd:o.data=.fields vs)(hn:["enumerate", "zip", "dict_itemiterator", "dict_reverseitemiterator", "odict_iterator", "itertools.zip_longest", "itertools.pairwise"].contains n=false)(hQ:Q () s):wpAny M A (letOwnedTupleGo tg (.ref it) u) Q E s:=by
 unfold letOwnedTupleGo;cases tg <;> first
  | exact aO5 hQ
  | (cases u <;> first
      | exact aO5 hQ
      | (refine aO3 (wpAny_load ho ?_)
         rw[hc,hd];show wpAny M A (if (["enumerate", "zip", "dict_itemiterator", "dict_reverseitemiterator", "odict_iterator", "itertools.zip_longest", "itertools.pairwise"].contains n&&vs[0]?==some (rawInt _))=true then _ else _) Q E s;rw[if_neg (by intro h;rw[hn,Bool.false_and] at h;cases h)]
         exact aO5 hQ))
def Itl(K:Fg)(a:Addr):It :=
 ⟨λi H=>∃ xs x,SqL K H a xs/\xs[i]? = some x,λi H x H'=>H'=H/\∀ xs,SqL K H a xs->xs[i]? = some x,λi H=>∃ xs,SqL K H a xs/\xs.length<=i⟩
def Itt(K:Fg)(a:Addr):It :=
 ⟨λi H=>∃ xs x,SqT K H a xs/\xs[i]? = some x,λi H x H'=>H'=H/\∀ xs,SqT K H a xs->xs[i]? = some x,λi H=>∃ xs,SqT K H a xs/\xs.length<=i⟩
def Itr(lo:Int)(n:Nat):It:=⟨λi _=>i<n,λi H x H'=>H'=H/\x=.int (lo+i),λi _=>n<=i⟩
theorem aBG{P:Program}{w:World}{K:Fg}{tg:Expr}(a it:Addr):gM P w K tg (Itl K a) [it] it (λi h=>h.IsListIter it a i) where
 mem:=by simp
 obj:=λi h st b hb=>by
  have e:b=it:=by simpa using hb
  subst e;obtain ⟨o,e,c,d⟩:=st;exact ⟨o,e,λv z=>by rw[d] at z;cases z⟩
 keep:=λi h h' st k=>st.at λo e=>k it (by simp) o e
 item:=by
  intro X hP hw hK hc i aA s σ H E I hf st hg;subst hP hw hK;obtain ⟨xs,x,hq,hx⟩:=hg;obtain ⟨its,rv,p,hz⟩:=I.list hq;obtain ⟨u,hu,ru⟩:=rv.get hx;obtain ⟨f0,f1,f2,f3,f4,f5⟩:=hf it (by simp)
  refine wpAny_pyNext_list_item st p.isList (x:=u) (by simpa using hu) λh' st' sb=>?_
  have I1:Inv X aA σ H { s with heap:=h' }:=I.turned (t':=s.toks) (λb o hb e=>(sb.2 b hb).trans e) f0 f1 f3 f4 f5
  obtain ⟨o,e,c,d⟩:=id st';exact ⟨u,rfl,l6 (s:={ s with heap:=h' }) e c d (by decide) ⟨x,H,I1,ru,⟨rfl,λys hy=>by rw[I.list_inj hy hq];exact hx⟩,st',λb hb=>(hf b hb).1⟩⟩
 done:=by
  intro X hP hw hK hc i aA s σ H E I hf st hg;subst hP hw hK;obtain ⟨xs,hq,hx⟩:=hg;obtain ⟨its,rv,p,hz⟩:=I.list hq;obtain ⟨f0,f1,f2,f3,f4,f5⟩:=hf it (by simp)
  have hl:=rv.length;exact wpAny_pyNext_list_end (I.ok.hd hc) st p.isList (by simp;omega) λh' eb=>⟨rfl,I.turned (t':=s.toks) (λb o hb e=>eb b o hb e) f0 f1 f3 f4 f5⟩
 self:=λ_ _ _ _ _ st h=>wpAny_pyIter_listiter st h
theorem aBH{P:Program}{w:World}{K:Fg}{tg:Expr}(a it:Addr):gM P w K tg (Itt K a) [it] it (λi h=>h.IsTupleIter it a i) where
 mem:=by simp
 obj:=λi h st b hb=>by
  have e:b=it:=by simpa using hb
  subst e;obtain ⟨o,e,c,d⟩:=st;exact ⟨o,e,λv z=>by rw[d] at z;cases z⟩
 keep:=λi h h' st k=>st.at λo e=>k it (by simp) o e
 item:=by
  intro X hP hw hK hc i aA s σ H E I hf st hg;subst hP hw hK;obtain ⟨xs,x,hq,hx⟩:=hg;obtain ⟨its,rv,p,hz⟩:=I.tuple hq;obtain ⟨u,hu,ru⟩:=rv.get hx;obtain ⟨f0,f1,f2,f3,f4,f5⟩:=hf it (by simp)
  refine wpAny_pyNext_tuple_item st (show s.heap.IsTuple a its.toArray from p) (x:=u) (by simpa using hu) λh' st' sb=>?_
  have I1:Inv X aA σ H { s with heap:=h' }:=I.turned (t':=s.toks) (λb o hb e=>(sb.2 b hb).trans e) f0 f1 f3 f4 f5
  obtain ⟨o,e,c,d⟩:=id st';exact ⟨u,rfl,l6 (s:={ s with heap:=h' }) e c d (by decide) ⟨x,H,I1,ru,⟨rfl,λys hy=>by rw[I.tuple_inj hy hq];exact hx⟩,st',λb hb=>(hf b hb).1⟩⟩
 done:=by
  intro X hP hw hK hc i aA s σ H E I hf st hg;subst hP hw hK;obtain ⟨xs,hq,hx⟩:=hg;obtain ⟨its,rv,p,hz⟩:=I.tuple hq;obtain ⟨f0,f1,f2,f3,f4,f5⟩:=hf it (by simp)
  have hl:=rv.length;exact wpAny_pyNext_tuple_end (I.ok.hd hc) st (show s.heap.IsTuple a its.toArray from p) (by simp;omega) λh' eb=>⟨rfl,I.turned (t':=s.toks) (λb o hb e=>eb b o hb e) f0 f1 f3 f4 f5⟩
 self:=λ_ _ _ _ _ st h=>wpAny_pyIter_tupleiter st h
theorem aBI{P:Program}{w:World}{K:Fg}{tg:Expr}(it:Addr)(lo:Int)(n:Nat):gM P w K tg (Itr lo n) [it] it (λi h=>IsRangeIter h it (lo+(i:Nat) * 1) ((n:Int)-(i:Nat)) 1) where
 mem:=by simp
 obj:=λi h st b hb=>by
  have e:b=it:=by simpa using hb
  subst e;exact ⟨_,st,λv z=>by
   have z':Data.fields _=Data.cell v:=z;cases z'⟩
 keep:=λi h h' st k=>k it (by simp) _ st
 item:=by
  intro X hP hw hK hc i aA s σ H E I hf st hg;subst hP hw hK;obtain ⟨f0,f1,f2,f3,f4,f5⟩:=hf it (by simp)
  have W:=Walks.range (prog:=X.prog) (w:=X.w) (I.ok.hd hc) it lo 1 n;refine W.item i s _ _ hg st λv h' tk hv st' kk=>?_;obtain ⟨t,rfl⟩:=hv;have I1:Inv X aA σ H { s with heap:=h',toks:=tk }:=I.turned (λb o hb e=>kk b o (by simpa using hb) e) f0 f1 f3 f4 f5
  refine ⟨_,rfl,l6 (s:={ s with heap:=h',toks:=tk }) (n := "range_iterator") st' rfl rfl (by decide) ⟨.int (lo+i),H,I1,⟨t,?_⟩,⟨rfl,rfl⟩,st',λb hb=>(hf b hb).1⟩⟩
  rw[Int.mul_one]
 done:=by
  intro X hP hw hK hc i aA s σ H E I hf st hg;subst hP hw hK;obtain ⟨f0,f1,f2,f3,f4,f5⟩:=hf it (by simp)
  exact wpAny_pyNext_range_end (I.ok.hd hc) st (by have:n<=i:=hg;omega) λh' eb=>⟨rfl,I.turned (t':=s.toks) (λb o hb e=>eb b o hb e) f0 f1 f3 f4 f5⟩
 self:=λ_ _ _ _ _ st h=>wpAny_pyIter_rangeiter st h
section
variable {X:Cx}{tg:Expr}
def o8(K:Fg)(tl:TE):TI:=λσ H R=>tl σ H λx H1=>∃ a,x=.ref a/\(∃ xs,SqL K H1 a xs)/\R (Itl K a) H1
def iTup(K:Fg)(tl:TE):TI:=λσ H R=>tl σ H λx H1=>∃ a,x=.ref a/\(∃ xs,SqT K H1 a xs)/\R (Itt K a) H1
theorem aBJ{l:Expr}{tl:TE}(hl:PE X l tl):PI X tg l (o8 X.K tl):=by
 intro aA s σ H R I h;refine thn (hl aA s σ H _ I h) λv s1 ⟨x,H1,I1,r1,q1⟩=>?_;obtain ⟨a,e,⟨xs,hq⟩,q⟩:=q1;subst e;cases r1;obtain ⟨its,rv,p,hz⟩:=I1.list hq;refine aPB p.isList ?_;refine ⟨s1.heap.objs.size,[s1.heap.objs.size],_,_,H1,rfl,I1.kept (t':=s1.toks) λb o e=>hps e,aBG a _,⟨_,aOG _ rfl,rfl,rfl⟩,λb hb=>?_,q⟩;have e:b=s1.heap.objs.size:=by simpa using hb
 subst e;exact I1.fpOk (aPC _) (I1.hok.fresh (aPC _))
theorem aBK{l:Expr}{tl:TE}(hl:PE X l tl):PI X tg l (iTup X.K tl):=by
 intro aA s σ H R I h;refine thn (hl aA s σ H _ I h) λv s1 ⟨x,H1,I1,r1,q1⟩=>?_;obtain ⟨a,e,⟨xs,hq⟩,q⟩:=q1;subst e;cases r1;obtain ⟨its,rv,p,hz⟩:=I1.tuple hq;refine aPD (show s1.heap.IsTuple a its.toArray from p) ?_
 refine ⟨s1.heap.objs.size,[s1.heap.objs.size],_,_,H1,rfl,I1.kept (t':=s1.toks) λb o e=>hps e,aBH a _,⟨_,aOG _ rfl,rfl,rfl⟩,λb hb=>?_,q⟩;have e:b=s1.heap.objs.size:=by simpa using hb
 subst e;exact I1.fpOk (aPC _) (I1.hok.fresh (aPC _))
theorem aBL{aA:LAO}{σ:St}{H:Hp}{s:Shared}{R:It->Hp->Prop}{E:VSP}{lo hi:Int}{t u v:Tok}{tk:Nat}(I:Inv X aA σ H s)(h1:-(2 ^ 62)<=lo)(h2:lo<2 ^ 62)(h3:-(2 ^ 62)<=hi)(h4:hi<2 ^ 62)(q:R (Itr lo (hi-lo).toNat) H):wpAny (model X.prog X.w) X.A (pyIter (.ref s.heap.objs.size)) (PIE X aA σ tg R) E { s with heap:=s.heap.push { cls:=.type "range", data:=.fields #[.int lo t,.int hi u,.int 1 v] },toks:=tk }:=by
 refine wpAny_pyIter_range (IsRange.new ..) (small_one h1 h2 h3 h4) ?_;have I1:Inv X aA σ H { s with heap:=s.heap.push { cls:=.type "range", data:=.fields #[.int lo t,.int hi u,.int 1 v] },toks:=tk }:=I.kept λb o e=>hps e
 refine ⟨(s.heap.push { cls:=.type "range", data:=.fields #[.int lo t,.int hi u,.int 1 v] }).objs.size,[(s.heap.push { cls:=.type "range", data:=.fields #[.int lo t,.int hi u,.int 1 v] }).objs.size],_,_,H,rfl,
  I1.kept (t':=tk) λb o e=>hps e,aBI _ lo (hi-lo).toNat,?_,λb hb=>?_,q⟩
 . have e1:lo+((0:Nat):Int) * 1=lo:=by simp
   have e2:(((hi-lo).toNat:Nat):Int)-((0:Nat):Int)=Builtin.Range.rangeSize lo hi 1:=by rw[rangeSize_one];split <;> omega
   show IsRangeIter _ _ (lo+((0:Nat):Int) * 1) ((((hi-lo).toNat:Nat):Int)-((0:Nat):Int)) 1;rw[e1,e2];exact aOG _ rfl
 . have e:b=(s.heap.push { cls:=.type "range", data:=.fields #[.int lo t,.int hi u,.int 1 v] }).objs.size:=by simpa using hb
   subst e;exact I1.fpOk (aPC _) (I1.hok.fresh (aPC _))
def sJ(ta:TA):TI:=λσ H R=>ta σ H λvs H1=>∃ j:Int,vs=[.int j] /\ -(2 ^ 62)<=j/\j<2 ^ 62/\R (Itr 0 j.toNat) H1
theorem aBM{a:Expr}{ta:TA}{p pos:Pos}(hg:Gl X "range")(hm:X.mg "range" = none)(ha:PA X [a] ta)(hs:starEach [a] X.env=[(false,eval a X.env)]:=by rfl):PI X tg (.Call (.Name "range" p) [a] [] pos) (sJ ta):=by
 intro aA s σ H R I h;refine Call_ (hW I hg hm boot_range (aPE (thn (ha pos aA s σ H _ I h) λus s1 ⟨vs,H1,I1,r1,q1⟩=>?_) hs rfl));obtain ⟨j,e,q1,q2,q⟩:=q1;subst e;cases r1 with
 | cons r rr=>cases rr;obtain ⟨t,rfl⟩:=r;exact call_range_1 (aBL I1 (by omega) (by omega) q1 q2 (by simpa using q))
def tFor(wi:TI)(g:TG)(tb:TS):TS:=λD σ H=>wi σ H λJ H1=>∃ W:Nat->Nat->St->Hp->Prop,(∃ m,W 0 m σ H1)/\∀ i m σ H,W i m σ H ->
 (J.stop i H/\D.nx σ H)\/(J.go i H/\∃ N:St->Hp->Prop,(∀ σ' H',N σ' H'->∃ m',m'<m/\W (i+1) m' σ' H')/\∀ x H',J.yld i H x H'->g x σ H' λσ2 H2=>tb { D with nx:=N,ct:=N,bk:=D.nx } σ2 H2)
def iX(fp:List Addr)(h:Heap):LAO:=fp.filterMap λb=>(h.get? b).map λo=>(b,o)
theorem l7{fp:List Addr}{h:Heap}{b:Addr}{o:Obj}(hb:b∈fp)(e:h.get? b=some o):(b,o)∈iX fp h:=aPF.mpr ⟨b,hb,by rw[e];rfl⟩
theorem aBN{fp:List Addr}{h:Heap}{p:Addr×Obj}(hp:p∈iX fp h):p.1∈fp/\h.get? p.1=some p.2:=by
 obtain ⟨b,hb,e⟩:=aPF.mp hp;cases q:h.get? b with
 | none=>rw[q] at e;cases e
 | some o=>rw[q] at e;have e':(b,o)=p:=aOF e;subst e';exact ⟨hb,q⟩
theorem Inv.pinned{aA:LAO}{σ:St}{H:Hp}{s:Shared}{fp:List Addr}(I:Inv X aA σ H s)(hf:∀ b∈fp,d9 X aA H b)(ho:∀ b∈fp,∃ o,s.heap.get? b=some o/\∀ v,o.data ≠ .cell v):Inv X (aA++iX fp s.heap) σ H s :=
 I.pins_of λp hp=>(aOS.mp hp).elim (λz=>I.pin p (aPG _ z)) λz=>by obtain ⟨hb,e⟩:=aBN z;obtain ⟨f0,f1,f2,_⟩:=hf p.1 hb;obtain ⟨o,e',d⟩:=ho p.1 hb;rw[e] at e';cases e';exact ⟨e,f0,f1,f2,d⟩
theorem Inv.unpinned{aA pl:LAO}{σ:St}{H:Hp}{s:Shared}(I:Inv X (aA++pl) σ H s):Inv X aA σ H s:=I.pins_of λp hp=>I.pin p (aPG _ (aOT _ hp))
theorem aBO{aI:Expr}{body:List Stmt}{wi:TI}{g:TG}{tb:TS}{pos:Pos}(hp:PassesOwn (model X.prog X.w) X.A X.env X.xe)(hc:X.calm=true)(hi:PI X tg aI wi)(hg:PG X tg g)(hb:PSs X body tb)(hs:∀ x,foldedSetIterable aI X.env x=pure x:=by intro _;rfl):PS X (.For tg aI body [] pos) (tFor wi g tb):=by
 intro aA s σ H D I h;refine wpAny_For (thn (hi aA s σ H _ I h) λv s1 h1=>thn h1 λitv s2 h2=>?_) hs;obtain ⟨it,fp,tn,J,H2,e,I2,T,st2,f2,W,⟨m0,w0⟩,turn⟩:=h2;subst e;have stat:∀ {H':Hp},(∀ b∈fp,H' b=none)->∀ b∈fp,d9 X aA H' b:=λhn b hb=>⟨hn b hb,(f2 b hb).2⟩;refine codeAny_forLoop_any (λn s'=>∃ i σ' H',Inv X aA σ' H' s'/\tn i s'.heap/\(∀ b∈fp,H' b=none)/\W i n σ' H') ?_ m0 ⟨0,σ,H2,I2,st2,λb hb=>(f2 b hb).1,w0⟩;rintro n s3 ⟨i,σ3,H3,I3,st3,fr3,w3⟩;rcases turn i n σ3 H3 w3 with ⟨stop,qn⟩ | ⟨go,N,hN,step⟩
 . refine aO8 hp (thn (T.done X rfl rfl rfl hc i aA s3 σ3 H3 X.xe I3 (stat fr3) st3 stop) λr s4 ⟨hr,I4⟩=>?_);subst hr;exact aO1 ⟨σ3,H3,I4,qn⟩
 . refine aO8 hp (thn (T.item X rfl rfl rfl hc i aA s3 σ3 H3 X.xe I3 (stat fr3) st3 go) λr s4 ⟨u,hr,h4⟩=>?_);subst hr;refine aO8 hp (thn h4 λ_ s5 ⟨x,H5,I5,r5,y5,st5,fr5⟩=>?_);have I5':=I5.pinned (stat fr5) (T.obj _ _ st5);refine aO8 hp (thn (hg _ s5 σ3 H5 x u _ I5' r5 (step x H5 y5)) λ_ s6 ⟨σ6,H6,I6,q6⟩=>?_);refine aO8 hp (thn (hb _ s6 σ6 H6 _ I6 q6) λf s7 q7=>?_);have again:∀ {σ7:St} {H7:Hp},Inv X (aA++iX fp s5.heap) σ7 H7 s7->N σ7 H7->∃ m,m<n/\∃ i σ' H',Inv X aA σ' H' s7/\tn i s7.heap/\(∀ b∈fp,H' b=none)/\W i m σ' H':=λ{σ7 H7} I7 n7=>by obtain ⟨m',hm,w7⟩:=hN σ7 H7 n7;refine ⟨m',hm,i+1,σ7,H7,I7.unpinned,T.keep _ _ _ st5 λb hb o e=>(I7.pin (b,o) (aPG _ (aPG _ (l7 hb e)))).1,λb hb=>?_,w7⟩;obtain ⟨o,e,d⟩:=T.obj _ _ st5 b hb;exact (I7.pin (b,o) (aPG _ (aPG _ (l7 hb e)))).2.1
   cases f with
   | next=>obtain ⟨σ7,H7,I7,n7⟩:=q7;exact again I7 n7
   | cont=>obtain ⟨σ7,H7,I7,n7⟩:=q7;exact again I7 n7
   | brk=>obtain ⟨σ7,H7,I7,q7⟩:=q7;exact ⟨σ7,H7,I7.unpinned,q7⟩
   | ret v=>obtain ⟨x7,σ7,H7,I7,r7,q7⟩:=q7;exact ⟨x7,σ7,H7,I7.unpinned,r7,q7⟩
end
abbrev R2:=V->V->Hp->VK->Prop
def OpR(X:Cx)(f:Value->Value->Sem Value)(r:R2):Prop :=
 ∀ (aA:LAO) (s:Shared) (σ:St) (H:Hp) (x y:V) (v u:Value) (Q:VK),Inv X aA σ H s->aM x v->aM y u->r x y H Q ->
  wpAny (model X.prog X.w) X.A (f v u) (EP X aA σ Q) X.xe s
def fG(X:Cx)(f:Value)(r:List V->Hp->VK->Prop):Prop :=
 ∀ (aA:LAO) (s:Shared) (σ:St) (H:Hp) (xs:List V) (us:List Value) (Q:VK),Inv X aA σ H s->aN xs us->r xs H Q ->
  wpAny (model X.prog X.w) X.A (call f us) (EP X aA σ Q) X.xe s
def TruR(X:Cx)(r:V->Hp->(Bool->Hp->Prop)->Prop):Prop :=
 ∀ (aA:LAO) (s:Shared) (σ:St) (H:Hp) (x:V) (v:Value) (Q:Bool->Hp->Prop),Inv X aA σ H s->aM x v->r x H Q ->
  wpAny (model X.prog X.w) X.A (truthy v) (TP X aA σ Q) X.xe s
def tOp(r:R2)(ta tb:TE):TE:=λσ H Q=>ta σ H λx H1=>tb σ H1 λy H2=>r x y H2 Q
def rI(C:Int->Int->Prop)(g:Int->Int->V):R2:=λx y H Q=>∃ i j,x=.int i/\y=.int j/\C i j/\Q (g i j) H
def rI0(g:Int->Int->V):R2:=λx y H Q=>∃ i j,x=.int i/\y=.int j/\Q (g i j) H
section
variable {X:Cx}{a b c:Expr}{ta tb tc:TE}{pos:Pos}
theorem o9(ha:PE X a ta)(hb:PE X b tb){aA:LAO}{s:Shared}{σ:St}{H:Hp}{R:V->V->Hp->Prop}(I:Inv X aA σ H s)(h:ta σ H λx H1=>tb σ H1 λy H2=>R x y H2){Q:VSP}{f:Value->Value->Sem Value}(hf:∀ v u s2 x y H2,Inv X aA σ H2 s2->aM x v->aM y u->R x y H2->wpAny (model X.prog X.w) X.A (f v u) Q X.xe s2):wpAny (model X.prog X.w) X.A (eval a X.env) (λv s₁=>wpAny (model X.prog X.w) X.A (eval b X.env) (λu s₂=>wpAny (model X.prog X.w) X.A (f v u) Q X.xe s₂) X.xe s₁) X.xe s:=by refine thn (ha aA s σ H _ I h) λv s1 ⟨x,H1,I1,r1,q1⟩=>?_;refine thn (hb aA s1 σ H1 _ I1 q1) λu s2 ⟨y,H2,I2,r2,q2⟩=>?_;exact hf v u s2 x y H2 I2 r1 r2 q2
theorem pe_op{op:Operator}{r:R2}(ho:OpR X (binaryOp op) r)(ha:PE X a ta)(hb:PE X b tb):PE X (.BinOp a op b pos) (tOp r ta tb):=by intro aA s σ H Q I h;exact wpAny_BinOp (o9 ha hb I h λv u s2 x y H2 I2 rx ry q=>ho aA s2 σ H2 x y v u Q I2 rx ry q)
theorem opI{f:Value->Value->Sem Value}{C:Int->Int->Prop}{g:Int->Int->Int}(rule:∀ (i j:Int) (t u:Tok) (s:Shared) (Q:VSP) (E:VSP),C i j->Q (.int (g i j) s.toks) { s with toks:=s.toks+1 } -> wpAny (model X.prog X.w) X.A (f (.int i t) (.int j u)) Q E s):OpR X f (rI C λi j=>.int (g i j)):=by intro aA s σ H x y v u Q I rx ry h;obtain ⟨i,j,rfl,rfl,hc,q⟩:=h;obtain ⟨t,rfl⟩:=rx;obtain ⟨t',rfl⟩:=ry;exact rule i j t t' s _ _ hc ⟨.int (g i j),H,I.tok _,⟨_,rfl⟩,q⟩
theorem l8{f:Value->Value->Sem Value}{g:Int->Int->Int}(rule:∀ (i j:Int) (t u:Tok) (s:Shared) (Q:VSP) (E:VSP),Q (.int (g i j) s.toks) { s with toks:=s.toks+1 } -> wpAny (model X.prog X.w) X.A (f (.int i t) (.int j u)) Q E s):OpR X f (rI0 λi j=>.int (g i j)):=by intro aA s σ H x y v u Q I rx ry h;obtain ⟨i,j,rfl,rfl,q⟩:=h;obtain ⟨t,rfl⟩:=rx;obtain ⟨t',rfl⟩:=ry;exact rule i j t t' s _ _ ⟨.int (g i j),H,I.tok _,⟨_,rfl⟩,q⟩
theorem l9{f:Value->Value->Sem Value}{g:Int->Int->Bool}(rule:∀ (i j:Int) (t u:Tok) (s:Shared) (Q:VSP) (E:VSP),Q (.bool (g i j)) s->wpAny (model X.prog X.w) X.A (f (.int i t) (.int j u)) Q E s):OpR X f (rI0 λi j=>.bl (g i j)):=by intro aA s σ H x y v u Q I rx ry h;obtain ⟨i,j,rfl,rfl,q⟩:=h;obtain ⟨t,rfl⟩:=rx;obtain ⟨t',rfl⟩:=ry;exact rule i j t t' s _ _ ⟨.bl (g i j),H,I,rfl,q⟩
def CPow(i j:Int):Prop:=0<=j/\j<=1000000/\i.natAbs<2 ^ 64
theorem aBP(k:Nat):(0:Int)<=2 ^ k:=by rw[two_pow_cast];exact Int.natCast_nonneg _
theorem aBQ:OpR X (binaryOp .Add) (rI0 λi j=>.int (i+j)):=l8 λ_ _ _ _ _ _ _ q=>add_int q
theorem aBR:OpR X (binaryOp .Sub) (rI0 λi j=>.int (i-j)):=l8 λ_ _ _ _ _ _ _ q=>sub_int q
theorem aBS:OpR X (binaryOp .Mod) (rI (λ_ j=>0<j) λi j=>.int (i % j)):=opI λi j _ _ _ _ _ hc q=>by have h1:(0:Int)<j:=hc;exact mod_int' (by omega) (by rw[Int.fmod_eq_emod_of_nonneg i (by omega)];exact q)
theorem aBT:OpR X (binaryOp .Pow) (rI CPow λi j=>.int (i ^ j.toNat)):=opI λ_ _ _ _ _ _ _ hc q=>pow_int_small hc.1 hc.2.1 hc.2.2 q
theorem aBU:OpR X (binaryOp .LShift) (rI CPow λi j=>.int (i * 2 ^ j.toNat)):=opI λ_ _ _ _ _ _ _ hc q=>lshift_int_small hc.1 hc.2.1 hc.2.2 q
theorem aBV:OpR X (binaryOp .RShift) (rI (λ_ j=>0<=j) λi j=>.int (i / 2 ^ j.toNat)):=opI λi j _ _ _ _ _ hc q =>
 rshift_int hc (by rw[Int.fdiv_eq_ediv_of_nonneg i (aBP _)];exact q)
theorem aBW:OpR X (binaryOp .BitAnd) (rI0 λi j=>.int (Builtin.bitAnd i j)):=l8 λ_ _ _ _ _ _ _ q=>and_int q
theorem op_or:OpR X (binaryOp .BitOr) (rI0 λi j=>.int (Builtin.bitOr i j)):=l8 λ_ _ _ _ _ _ _ q=>or_int q
end
section
variable {X:Cx}{a b c:Expr}{ta tb tc:TE}{pos:Pos}
theorem mD{aA:LAO}{σ:St}{H:Hp}{s:Shared}{Q:VK}{k k':Bool}(I:Inv X aA σ H s)(q:Q (.bl k) H)(e:k=k'):EP X aA σ Q (.bool k') s:=by subst e;exact ⟨.bl k,H,I,rfl,q⟩
theorem op_lt:OpR X (compareOp .Lt) (rI0 λi j=>.bl (decide (i<j))):=l9 λ_ _ _ _ _ _ _ q=>lt_int q
theorem op_le:OpR X (compareOp .LtE) (rI0 λi j=>.bl (decide (i<=j))):=l9 λ_ _ _ _ _ _ _ q=>le_int q
theorem op_gt:OpR X (compareOp .Gt) (rI0 λi j=>.bl (decide (j<i))):=l9 λ_ _ _ _ _ _ _ q=>gt_int q
theorem op_ge:OpR X (compareOp .GtE) (rI0 λi j=>.bl (decide (j<=i))):=l9 λ_ _ _ _ _ _ _ q=>ge_int q
theorem aBX:OpR X (compareOp .In) (λx y H Q=>∃ i j,x=.str i/\y=.str j/\Q (.bl (!(Builtin.Str.occurrences j i 0 j.length 1).isEmpty)) H):=by intro aA s σ H x y v u Q I rx ry h;obtain ⟨i,j,rfl,rfl,q⟩:=h;obtain ⟨t,rfl⟩:=rx;obtain ⟨t',rfl⟩:=ry;exact in_str (mD I q rfl)
theorem aBY:OpR X (compareOp .Is) (λx y H Q=>y=.non/\Q (.bl (decide (x=.non))) H):=by
 intro aA s σ H x y v u Q I rx ry h;obtain ⟨rfl,q⟩:=h;cases ry;refine is_none_gen (mD I q ?_);cases x <;> first
  | (cases rx;rfl)
  | (obtain ⟨t,rfl⟩:=rx;rfl)
theorem aBZ:OpR X (compareOp .IsNot) (λx y H Q=>y=.non/\Q (.bl (!decide (x=.non))) H):=by
 intro aA s σ H x y v u Q I rx ry h;obtain ⟨rfl,q⟩:=h;cases ry;refine isnot_none_gen (mD I q ?_);cases x <;> first
  | (cases rx;rfl)
  | (obtain ⟨t,rfl⟩:=rx;rfl)
theorem aB0:OpR X (compareOp .NotIn) (λx y H Q=>∃ i j,x=.str i/\y=.str j/\Q (.bl (!(!(Builtin.Str.occurrences j i 0 j.length 1).isEmpty))) H):=by intro aA s σ H x y v u Q I rx ry h;obtain ⟨i,j,rfl,rfl,q⟩:=h;obtain ⟨t,rfl⟩:=rx;obtain ⟨t',rfl⟩:=ry;exact notIn_str (mD I q rfl)
theorem OpR.or{f:Value->Value->Sem Value}{r r':R2}(h:OpR X f r)(h':OpR X f r'):OpR X f (λx y H Q=>r x y H Q\/r' x y H Q):=by
 intro aA s σ H x y v u Q I rx ry q;rcases q with q | q
 . exact h aA s σ H x y v u Q I rx ry q
 . exact h' aA s σ H x y v u Q I rx ry q
theorem aB1{op:CmpOp}{r:R2}(ho:OpR X (compareOp op) r)(ha:PE X a ta)(hb:PE X b tb)(hm:behindInMarks op b=false):PE X (.Compare a [op] [b] pos) (tOp r ta tb):=by intro aA s σ H Q I h;exact wpAny_Compare1 (o9 ha hb I h λv u s2 x y H2 I2 rx ry q=>ho aA s2 σ H2 x y v u Q I2 rx ry q) hm
def sK(t:TE):TT:=λσ H Q=>t σ H λx H'=>∃ k,x=.bl k/\Q k H'
theorem aB2{op:CmpOp}{r:R2}(ho:OpR X (compareOp op) r)(ha:PE X a ta)(hb:PE X b tb)(hm:behindInMarks op b=false):PT X (.Compare a [op] [b] pos) (sK (tOp r ta tb)):=by
 intro aA s σ H Q I h;refine wpAny_isTrue_Compare1 (thn (ha aA s σ H _ I h) λv s1 ⟨x,H1,I1,r1,q1⟩=>thn (hb aA s1 σ H1 _ I1 q1) λu s2 ⟨y,H2,I2,r2,q2⟩ =>
  thn (ho aA s2 σ H2 x y v u _ I2 r1 r2 q2) λc s3 ⟨z,H3,I3,r3,k,e,q3⟩=>?_) hm
 subst e;cases r3;exact aOZ ⟨H3,I3,q3⟩
def pA(K:Fg)(x:V)(H:Hp)(k:Bool):Prop :=
 match x with
 | .non=>k=false
 | .bl b=>k=b
 | .int i=>k=(i != 0)
 | .str y=>y.length<=sizeLine/\k=((y.length:Int) != 0)
 | .byt y=>y.size<=sizeLine/\k=((y.size:Int) != 0)
 | .ref p=>(∃ xs,SqL K H p xs/\k = !xs.isEmpty)\/(∃ xs,SqT K H p xs/\k = !xs.isEmpty)\/∃ kvs,H p=some (.dK kvs)/\k = !kvs.isEmpty
 | _=>False
theorem aB3{κ:Type}{kvs:List (κ×V)}{vs:List (κ×Value)}(r:KV kvs vs):(!vs.isEmpty) = !kvs.isEmpty:=by cases r <;> rfl
theorem sL{xs:List V}{its:List Value}(r:aN xs its):(!its.toArray.isEmpty) = !xs.isEmpty:=by cases r <;> simp
theorem kG:(sizeLine:Nat)<2 ^ 63:=by rw[aPH];decide
theorem aB4:TruR X (λx H Q=>∃ k,pA X.K x H k/\Q k H):=by
 intro aA s σ H x v Q I rx h;obtain ⟨k,e,q⟩:=h;have hl:=kG;have hs:sizeLine=16777216:=aPH;cases x with
 | non=>cases rx;have e':k=false:=e;subst e';exact truthy_none ⟨H,I,q⟩
 | bl b=>cases rx;have e':k=b:=e;subst e';exact aOZ ⟨H,I,q⟩
 | int i=>obtain ⟨t,rfl⟩:=rx;have e':k=(i != 0):=e;subst e';exact PySem.P.truthy_int ⟨H,I,q⟩
 | str y=>obtain ⟨t,rfl⟩:=rx;obtain ⟨hy,e'⟩:y.length<=sizeLine/\k=((y.length:Int) != 0):=e;subst e';exact PySem.P.truthy_str (by omega) ⟨H,I.tok _,q⟩
 | byt y=>obtain ⟨t,rfl⟩:=rx;obtain ⟨hy,e'⟩:y.size<=sizeLine/\k=((y.size:Int) != 0):=e;subst e';exact PySem.W.truthy_bytes (by omega) ⟨H,I.tok _,q⟩
 | ref p =>
  cases rx;have e':(∃ xs,SqL X.K H p xs/\k = !xs.isEmpty)\/(∃ xs,SqT X.K H p xs/\k = !xs.isEmpty)\/∃ kvs,H p=some (.dK kvs)/\k = !kvs.isEmpty:=e;rcases e' with ⟨xs,hx,e'⟩ | ⟨xs,hx,e'⟩ | ⟨kvs,hx,e'⟩
  . subst e';obtain ⟨its,r,pl,hz⟩:=I.list hx;have hlen:=r.length;exact wpAny_truthy_list pl.isList (by simp only[aPI];omega) ⟨H,I.tok _,by rw[sL r];exact q⟩
  . subst e';obtain ⟨its,r,pl,hz⟩:=I.tuple hx;have hlen:=r.length;exact truthy_tuple pl (by simp only[aPI];omega) ⟨H,I.tok _,by rw[sL r];exact q⟩
  . subst e';obtain ⟨hz,hS,vs,r,m⟩:kvs.length<=sizeLine/\(p==sysModules)=false/\∃ vs,KV kvs vs/\s.heap.DictOf (bV X.prog X.w) p vs:=I.hok p _ hx;have hlen:kvs.length=vs.length:=aOE r;exact wpAny_truthy_dict hS m (by omega) ⟨H,I.tok _,by rw[aB3 r];exact q⟩
 | _=>exact (show False from e).elim
theorem aB5 (ha : PE X a ta) (he : ∀ whole, isTrue a X.env whole = (do let v ← whole; standAt a.pos; holding [v] (truthy v))) :
    PT X a (λσ H Q=>ta σ H λx H'=>∃ k,pA X.K x H' k/\Q k H'):=by
 intro aA s σ H Q I h;exact isTrue_plain (thn (ha aA s σ H _ I h) λv s1 ⟨x,H1,I1,r1,q1⟩=>aB4 aA s1 σ H1 x v Q I1 r1 q1) (he _)
theorem aB6:OpR X (binaryOp .Add) (λx y H Q=>∃ i j,x=.str i/\y=.str j/\i.length+j.length<=sizeLine/\Q (.str (i++j)) H):=by intro aA s σ H x y v u Q I rx ry h;obtain ⟨i,j,rfl,rfl,hz,q⟩:=h;obtain ⟨t,rfl⟩:=rx;obtain ⟨t',rfl⟩:=ry;exact add_str (λt' tk=>⟨.str (i++j),H,I.tok _,⟨_,rfl⟩,q⟩) hz
theorem fU{x:V}{us:List Value}(r:aN [x] us):∃ u,us=[u]/\aM x u:=by
 cases r with
 | cons r1 r2=>cases r2;exact ⟨_,rfl,r1⟩
theorem pB{x y:V}{us:List Value}(r:aN [x,y] us):∃ u w',us=[u,w']/\aM x u/\aM y w':=by
 cases r with
 | cons r1 r2 =>
  cases r2 with
  | cons r3 r4=>cases r4;exact ⟨_,_,rfl,r1,r3⟩
theorem aB7:fG X (.type "int") (λxs H Q=>(∃ i,xs=[.int i]/\Q (.int i) H)\/∃ k,xs=[.bl k]/\Q (.int (if k then 1 else 0)) H):=by
 intro aA s σ H xs us Q I r h;rcases h with ⟨i,rfl,q⟩ | ⟨k,rfl,q⟩
 . obtain ⟨u,rfl,t,rfl⟩:=fU r;exact call_int_int ⟨.int i,H,I,⟨_,rfl⟩,q⟩
 . obtain ⟨u,rfl,r1⟩:=fU r;cases r1;exact call_int_bool ⟨.int (if k then 1 else 0),H,I.tok _,⟨_,rfl⟩,q⟩
theorem aB8:fG X (.type "str") (λxs H Q=>∃ i,xs=[.int i]/\i.natAbs.log2<1920/\Q (.str (toString i)) H):=by intro aA s σ H xs us Q I r h;obtain ⟨i,rfl,hz,q⟩:=h;obtain ⟨u,rfl,t,rfl⟩:=fU r;exact PySem.P.str_of_int hz ⟨.str _,H,I.tok _,⟨_,rfl⟩,q⟩
def LenV(K:Fg)(x:V)(H:Hp)(n:Nat):Prop :=
 match x with
 | .str y=>y.length<=sizeLine/\n=y.length
 | .byt y=>y.size<=sizeLine/\n=y.size
 | .ref p=>(∃ xs,SqL K H p xs/\n=xs.length)\/∃ xs,SqT K H p xs/\n=xs.length
 | _=>False
theorem aB9:fG X (.builtin "len") (λxs H Q=>∃ x n,xs=[x]/\LenV X.K x H n/\Q (.int n) H):=by
 intro aA s σ H xs us Q I r h;obtain ⟨x,n,rfl,e,q⟩:=h;obtain ⟨u,rfl,rx⟩:=fU r;have hl:=kG;have hs:sizeLine=16777216:=aPH;cases x with
 | str y=>obtain ⟨t,rfl⟩:=rx;obtain ⟨hy,e'⟩:y.length<=sizeLine/\n=y.length:=e;subst e';exact len_str (by omega) ⟨.int _,H,I.tok _,⟨_,rfl⟩,q⟩
 | byt y=>obtain ⟨t,rfl⟩:=rx;obtain ⟨hy,e'⟩:y.size<=sizeLine/\n=y.size:=e;subst e';exact PySem.W.len_bytes (by omega) ⟨.int _,H,I.tok _,⟨_,rfl⟩,q⟩
 | ref p =>
  cases rx;have e':(∃ xs,SqL X.K H p xs/\n=xs.length)\/∃ xs,SqT X.K H p xs/\n=xs.length:=e;rcases e' with ⟨xs,hx,e'⟩ | ⟨xs,hx,e'⟩
  . subst e';obtain ⟨its,r',pl,hz⟩:=I.list hx;have hlen:=r'.length;exact Calls.call_len_list pl.isList (by simp only[aPI];omega) ⟨.int xs.length,H,I.tok _,⟨_,by simp only[aPI];rw[hlen]⟩,q⟩
  . subst e';obtain ⟨its,r',pl,hz⟩:=I.tuple hx;have hlen:=r'.length;exact len_tuple pl (by simp only[aPI];omega) ⟨.int xs.length,H,I.tok _,⟨_,by simp only[aPI];rw[hlen]⟩,q⟩
 | _=>exact (show False from e).elim
end
section
variable {prog:Program}{w:World}{A:Around}{E:VSP}{s:Shared}{K:Fg}{x dx C f:Addr}{mA:SOV}{name:Str}{v:Value}
end
theorem dS.some_of{v:V}{o:Option Value}(r:dS (some v) o):∃ u,o=some u/\aM v u:=by
 cases o with
 | none=>exact (show False from r).elim
 | some u=>exact ⟨u,rfl,r⟩
theorem dS.none_of{o:Option Value}(r:dS none o):o=none:=by
 cases o with
 | none=>rfl
 | some u=>exact (show False from r).elim
section
variable {P:Program}{w:World}{H H':Hp}{h h':Heap}{a C dx:Addr}{fs fs':List (Str×V)}
end
structure Cls(K:Fg)(C:Addr):Prop where
 pg:PySem.W.plainGet K C Str.empty=true
 hd:PySem.W.hasDictIn K C=true
 po:PySem.W.plainOver K C=true
 sa:PySem.W.findIn K (.ref C) "__setattr__" = some (some (.builtin "object.__setattr__"))
def pC(K:Fg)(C:Addr)(f:Str):Prop:=PySem.W.findIn K (.ref C) f=some none
structure pD(K:Fg)(C:Addr)(m:Str)(f:Addr):Prop where
 at_:PySem.W.findIn K (.ref C) m=some (some (.ref f))
 fn:PySem.W.isFn K (.ref f)=true
 kp:PySem.W.keepIn K (.ref f)=true
section
variable {X:Cx}{aA:LAO}{σ:St}{H:Hp}{s:Shared}{a C dx:Addr}{fs:List (Str×V)}{f:Str}{v:V}{A:Around}{E:VSP}
end
section
variable {X:Cx}{o e value:Expr}{f:Str}{pos pos' tpos:Pos}{ta tv:TE}
end
section
variable {X:Cx}{aA:LAO}{σ:St}{H:Hp}{s:Shared}{A:Around}{E:VSP}{Q:VSP}{c:Value}{b:Bool}
end
structure cK(k:Nat)(A:Around):Prop where
 hd:A.handled=none
 dp:A.depth+3 * k+5<recursionLimit
 un:A.units+16 * k+200<cLine
theorem cK.deeper{k:Nat}{A:Around}(r:cK (k+1) A)(env:Env):cK k (A.deeper env) :=
 ⟨r.hd,by have:=r.dp;show A.depth+1+3 * k+5<_;omega,by have:=r.un;show A.units+3+16 * k+200<_;omega⟩
theorem cK.depth{k:Nat}{A:Around}(r:cK k A):A.depth<recursionLimit:=by have:=r.dp;omega
theorem cK.units{k:Nat}{A:Around}(r:cK k A):A.units+64<cLine:=by have:=r.un;omega
def mH:TA:=λ_ H Q=>Q [] H
def eW(ta:TE)(tr:TA):TA:=λσ H Q=>ta σ H λx H1=>tr σ H1 λxs H2=>Q (x::xs) H2
section
variable {X:Cx}{e:Expr}{es:List Expr}{te:TE}{t:TA}{pos:Pos}
theorem iA:PA X [] mH:=λ_ _ _ _ H Q I h=>Calls.spliced_nil ⟨[],H,I,.nil,h⟩
theorem eY(ha:PE X e te)(hr:PA X es t)(hs:starEach (e::es) X.env=(false,eval e X.env)::starEach es X.env:=by rfl):PA X (e::es) (eW te t):=by intro pos aA s σ H Q I h;rw[hs];show wpAny _ _ (spliced ((false,eval e X.env)::backTo pos (starEach es X.env))) _ _ s;refine Calls.spliced_cons (thn (ha aA s σ H _ I h) λu s1 ⟨x,H1,I1,r1,q1⟩=>?_);exact thn (hr pos aA s1 σ H1 _ I1 q1) λus s2 ⟨xs,H2,I2,r2,q2⟩=>⟨x::xs,H2,I2,.cons r1 r2,q2⟩
def mJ(t:TA):TE:=λσ H Q=>t σ H λxs H1=>xs.length<=sizeLine/\∀ p,H1 p=none->Q (.ref p) (upd H1 p (.tup xs))
def tLst(t:TA):TE:=λσ H Q=>t σ H λxs H1=>xs.length<=sizeLine/\∀ p,H1 p=none->Q (.ref p) (upd H1 p (.lst xs))
theorem sM{x1}(h:PA X es t):PE X (.Tuple es x1 pos) (mJ t):=by
 intro aA s σ H Q I hq;refine wpAny_Tuple_spliced (thn (h pos aA s σ H _ I hq) λus s1 ⟨xs,H1,I1,r,z,q⟩=>⟨by rw[<- r.length];exact z,?_⟩)
 have hf:H1 s1.heap.objs.size=none:=I1.hok.fresh (aPC _);refine ⟨.ref s1.heap.objs.size,upd H1 s1.heap.objs.size (.tup xs),I1.laid (t':=s1.toks) (λb u e=>hps e) (aPC _) ?_,rfl,q _ hf⟩;exact ⟨z,us,r,⟨_,aOG _ rfl,rfl,rfl,_,rfl⟩⟩
theorem aCA(h:PA X es t):PE X (.List es pos) (tLst t):=by
 intro aA s σ H Q I hq;refine wpAny_List_spliced (thn (h pos aA s σ H _ I hq) λus s1 ⟨xs,H1,I1,r,z,q⟩=>⟨by rw[<- r.length];exact z,?_⟩)
 have hf:H1 s1.heap.objs.size=none:=I1.hok.fresh (aPC _);refine ⟨.ref s1.heap.objs.size,upd H1 s1.heap.objs.size (.lst xs),I1.laid (t':=s1.toks) (λb u e=>hps e) (aPC _) ?_,rfl,q _ hf⟩;exact ⟨z,us,0,r,aOG _ rfl⟩
end
abbrev Sp:=List V->Hp->VK->XK->Prop
abbrev CXT:=List Env->Hp->Shared->XK->Value->Shared->Prop
structure mK(P:Program)(w:World)(K:Fg)(mg:SOV)(base:Heap)(A:Around)(outer:List Env)(s:Shared)(H:Hp):Prop where
 frames:A.frames=some outer
 mod:Mod K mg base
 bs:∀ b o,base.get? b=some o->s.heap.get? b=some o/\H b=none
 bsz:base.objs.size<=s.heap.objs.size
 funs:s.heap.FunFrames base outer
 frf:∀ b∈frs outer,H b=none
 hok:HOk P w H s.heap
 bare:AllBare s.gens
def CE(outer:List Env)(P:Program)(w:World)(H:Hp)(s:Shared)(Q:VK)(u:Value)(s':Shared):Prop :=
 ∃ v H',s'.os=s.os/\AllBare s'.gens/\Un (frs outer) [] H H' s.heap s'.heap/\HOk P w H' s'.heap/\aM v u/\Q v H'
def CR(CX:CXT)(outer:List Env)(P:Program)(w:World)(H:Hp)(s:Shared)(Q:VK)(E:XK)(r:Result)(s':Shared):Prop :=
 match r with
 | .ok (.ret u)=>CE outer P w H s Q u s'
 | .ok _=>False
 | .error e=>CX outer H s E e s'
structure c8(P:Program)(w:World)(K:Fg)(mg:SOV)(base:Heap)(CX:CXT)(k:Nat)(f:Addr)(fd:FuncData)(ps:List Str)(sp:Sp):Prop where
 len:∀ vs H Q E,sp vs H Q E->vs.length=ps.length
 run:∀ (A:Around) (outer:List Env) (s:Shared) (H:Hp) (args:Args) (us:List Value) (vs:List V) (Q:VK) (E:XK),cK k A->mK P w K mg base A outer s H->BindsTo s fd args (ps.zip us)->aN vs us->sp vs H Q E ->
  codeAny (model P w) A (.call (.ref f) args) (CR CX outer P w H s Q E) s
theorem c8.imp{P:Program}{w:World}{K:Fg}{mg:SOV}{base:Heap}{CX:CXT}{k:Nat}{f:Addr}{fd:FuncData}{ps:List Str}{sp sp':Sp}(F:c8 P w K mg base CX k f fd ps sp)(h:∀ vs H Q E,sp' vs H Q E->sp vs H Q E):c8 P w K mg base CX k f fd ps sp' :=
 ⟨λvs H Q E q=>F.len vs H Q E (h _ _ _ _ q),λA outer s H args us vs Q E hr he hb hv hs=>F.run A outer s H args us vs Q E hr he hb hv (h _ _ _ _ hs)⟩
section
variable {X:Cx}{aA:LAO}{σ:St}{H:Hp}{s s':Shared}
theorem Inv.env0(I:Inv X aA σ H s):mK X.prog X.w X.K X.mg X.base X.A X.stack s H :=
 ⟨I.ok.frames,I.ok.mod,I.bs,aOP I.ok.bsz I.sz,I.stack,I.stkFree,I.hok,I.bare⟩
theorem Inv.after{Q:VK}{u:Value}(I:Inv X aA σ H s)(h:CE X.stack X.prog X.w H s Q u s'):EP X aA σ Q u s':=by obtain ⟨v,H',os,bare,un,hok,r,q⟩:=h;obtain ⟨hh,g,d,t,os'⟩:=s';obtain rfl:os'=s.os:=os;exact ⟨v,H',I.call (h':=hh) (g':=g) (d':=d) (t':=t) (ch:=[]) un hok bare (λb z=>absurd z (by simp)),r,q⟩
end
def fH(K:Fg)(fd:FuncData)(ps:List Str)(ds:List Value):Prop :=
 ∀ (s:Shared) (us:List Value),K.In s.heap->(us++ds).length=ps.length->BindsTo s fd ⟨us,[]⟩ (ps.zip (us++ds))
theorem fH.all{K:Fg}{fd:FuncData}{ps:List Str}(h:∀ us:List Value,us.length=ps.length->bindArgs fd ⟨us,[]⟩=pure (ps.zip us)):fH K fd ps []:=λs us _ hl=>by rw[aPJ] at hl ⊢;exact .of_eq (h us hl)
section
variable {X:Cx}{CX:CXT}{k:Nat}{f C:Addr}{fd:FuncData}{ps:List Str}{sp:Sp}{dvs:List V}{ds:List Value}{E:XK}{x m:Str}{p pos apos:Pos}{e o:Expr}{es:List Expr}{ta:TE}{t:TA}
structure Mk(K:Fg)(C f:Addr):Prop where
 makes:PySem.W.makesIn K C=true
 init:PySem.W.findIn K (.ref C) "__init__" = some (some (.ref f))
 fn:PySem.W.isFn K (.ref f)=true
 kp:PySem.W.keepIn K (.ref C)=true
end
section
variable {X:Cx}{CX:CXT}{k:Nat}{f C:Addr}{fd:FuncData}{ps ks:List Str}{sp:Sp}{E:XK}{x m:Str}{p pos apos kpos:Pos}{e o:Expr}{es:List Expr}{kws:List Keyword}{te ta:TE}{t tk:TA}{nm:Option Str}
variable {g:List Value->List Value->List Value}{gV:List V->List V->List V}
end
structure mL(N P:List Str)(sc:Scope):Prop where
 kind:sc.kind=.function
 co:sc.isCoroutine=false
 gen:sc.isGenerator=false
 nd:N.Nodup
 pre:N.take P.length=P
 par:∀ x∈P,sc.names.lookup x=some .local\/sc.names.lookup x=some .cell
 nofree:∀ y∈sc.names,y.2 ≠ .free
theorem sN{kindOf:Str->Option NameKind}{x:Str}:∀ {binds:List (Str×Value)} {m:SOV},(∀ v,(x,v)∉binds)->bindL kindOf binds m x=m x
 | [],_,_=>rfl
 | (n,v)::r,m,h=>by
  unfold bindL;rw[sN λw hw=>h w (mcm hw)];split
  . have:x≠n:=by rintro rfl;exact h v mcs
    simp[this]
  . rfl
theorem sO{kindOf:Str->Option NameKind}{x:Str}:∀ {binds:List (Str×Value)} {m:SOV},(∀ v,(x,v)∉binds)->bindC kindOf binds m x=m x
 | [],_,_=>rfl
 | (n,v)::r,m,h=>by
  unfold bindC;rw[sO λw hw=>h w (mcm hw)];split
  . rfl
  . have:x≠n:=by rintro rfl;exact h v mcs
    simp[this]
theorem sP{kindOf:Str->Option NameKind}{x:Str}{v:Value}:∀ {P:List Str} {vs:List Value} {i:Nat} {m:SOV},P.Nodup->P[i]? = some x->vs[i]? = some v->kindOf x=some .local->bindL kindOf (P.zip vs) m x=some v
 | [],_,_,_,_,h,_,_=>by simp at h
 | _::_,[],_,_,_,_,h,_=>by simp at h
 | p::P,w::vs,0,m,nd,h1,h2,hk=>by simp at h1 h2;subst h1;subst h2;show bindL kindOf ((p,w)::P.zip vs) m p=_;unfold bindL;rw[sN λv hv=>(aPK.mp nd).1 (aPL hv).1,if_pos hk];simp
 | p::P,w::vs,i+1,m,nd,h1,h2,hk=>by show bindL kindOf ((p,w)::P.zip vs) m x=_;unfold bindL;exact sP (i:=i) (aPK.mp nd).2 (by simpa using h1) (by simpa using h2) hk
theorem sQ{kindOf:Str->Option NameKind}{x:Str}{v:Value}:∀ {P:List Str} {vs:List Value} {i:Nat} {m:SOV},P.Nodup->P[i]? = some x->vs[i]? = some v->kindOf x≠some .local->bindC kindOf (P.zip vs) m x=some v
 | [],_,_,_,_,h,_,_=>by simp at h
 | _::_,[],_,_,_,_,h,_=>by simp at h
 | p::P,w::vs,0,m,nd,h1,h2,hk=>by simp at h1 h2;subst h1;subst h2;show bindC kindOf ((p,w)::P.zip vs) m p=_;unfold bindC;rw[sO λv hv=>(aPK.mp nd).1 (aPL hv).1,if_neg hk];simp
 | p::P,w::vs,i+1,m,nd,h1,h2,hk=>by show bindC kindOf ((p,w)::P.zip vs) m x=_;unfold bindC;exact sQ (i:=i) (aPK.mp nd).2 (by simpa using h1) (by simpa using h2) hk
def eZ(N:List Str)(vs:List V):St:=vs.map some++List.replicate (N.length-vs.length) none
def dH(CX:CXT)(P:Program)(w:World)(K:Fg)(mg:SOV)(base:Heap)(N:List Str)(aP:Str)(scope:Scope)(f:Addr)(cd:Value)(A:Around)(outer:List Env)(s:Shared)(H:Hp)(E:XK):Cx where
 prog:=P
 w:=w
 K:=K
 mg:=mg
 base:=base
 A:=A.deeper (envOfC aP scope s.heap.objs.size f cd)
 N:=N
 s₀:=s
 H₀:=H
 env:=envOfC aP scope s.heap.objs.size f cd
 outer:=outer
 stack:=envOfC aP scope s.heap.objs.size f cd::outer
 ex:=[]
 calm:=true
 fn:=λ_=>true
 pn:=[]
 xe:=λe s'=>wpAny (model P w) (A.deeper (envOfC aP scope s.heap.objs.size f cd)) (leaving (envOfC aP scope s.heap.objs.size f cd) e) (λ_ s''=>CX outer H s E e s'') (λe' s''=>CX outer H s E e' s'') s'
theorem sR{sc:Scope}{n:Nat}{x:Str}(h:sc.names.lookup x=some .cell):∃ c,(cellsFrom n sc.names []).lookup x=some c:=by have q:=PySem.W.cellsFrom_some sc.names n [] (.inl h);exact Option.isSome_iff_exists.mp q
theorem aCB{CX:CXT}{P:Program}{w:World}{K:Fg}{mg:SOV}{base:Heap}{N ps:List Str}{aP:Str}{scope:Scope}{f:Addr}{cd:Value}{A:Around}{outer:List Env}{s s1:Shared}{H:Hp}{E:XK}{us:List Value}{vs:List V}(S:mL N ps scope)(hd:A.handled=none)(e0:mK P w K mg base A outer s H)(hl:vs.length=ps.length)(r:aN vs us)(x:InCallC s s.heap.objs.size (bindL (envOfC aP scope s.heap.objs.size f cd).kindOf (ps.zip us) λ_=>none) (cellsFrom (s.heap.objs.size+1) scope.names []) (bindC (envOfC aP scope s.heap.objs.size f cd).kindOf (ps.zip us) λ_=>none) s1):Inv (dH CX P w K mg base N aP scope f cd A outer s H E) [] (eZ N vs) H s1:=by
 have hpl:ps.length<=N.length:=by have:=congrArg List.length S.pre;rw[aPM] at this;omega
 obtain ⟨h1,tk,rfl,hk⟩:=x.done;have noA:∀ b:Addr,b∉(dH CX P w K mg base N aP scope f cd A outer s H E).ex:=λb z=>absurd (show b∈([]:List Addr) from z) (by simp)
 refine ⟨⟨e0.mod,S.kind,rfl,rfl,aPC _,λy z c h1 h2=>?_,λy hy=>?_,λy c _ h=>?_,λ_=>hd,Around.frames_deeper e0.frames,.inr ⟨rfl,rfl⟩,λb z=>absurd z (noA b),e0.bs,e0.bsz,λb _ _=>noA b,λb z=>absurd z (noA b),e0.funs,e0.frf⟩,
  rfl,e0.bare,Un.kept hk,⟨_,x.toInCall.ns,λi y v h1 h2 h3=>?_⟩,λy c h=>⟨_,x.cell y c h⟩,e0.hok.fresh (aPC _),λy c h=>?_,λp hp=>absurd (show p∈([]:LAO) from hp) (by simp),e0.hok.kept hk,?_⟩
 . exact name_of_addr x.apart (aPN h1) (aPN h2)
 . have hy:scope.names.lookup y=some .cell\/scope.names.lookup y=some .free:=hy;rcases hy with hy | hy
   . exact sR hy
   . exact absurd rfl (S.nofree _ (aPN hy))
 . exact Nat.le_of_lt (x.above y c (aPN h))
 . have hi:i<vs.length:=by
     unfold eZ at h2;by_cases hi:i<vs.length
     . exact hi
     . rw[aPO (by simpa using hi)] at h2
       rw[aPP] at h2;split at h2 <;> cases h2
   have ha:vs[i]? = some v:=by
    unfold eZ at h2;rw[aPQ (by simpa using hi),aPR] at h2
    cases e:vs[i]? with
    | none=>rw[e] at h2;cases h2
    | some a=>rw[e] at h2;cases h2;rfl
   obtain ⟨u,hu,rv⟩:=r.get ha;have hp:ps[i]? = some y:=by rw[<- S.pre,List.getElem?_take_of_lt (by omega)];exact h1
   have ndP:ps.Nodup:=by rw[<- S.pre];exact S.nd.sublist (List.take_sublist _ _)
   refine ⟨u,rv,?_⟩;rcases S.par y (aPS hp) with k | k
   . exact .inl ⟨k,sP ndP hp hu k⟩
   . obtain ⟨c,e⟩:=sR (n:=s.heap.objs.size+1) k;refine .inr ⟨.inl k,c,e,?_⟩;have q:=x.cell y c e;rw[sQ ndP hp hu (by show scope.names.lookup y≠_;rw[k];decide)] at q
     exact q
 . exact e0.hok.fresh (Nat.le_of_lt (x.above y c (aPN h)))
 . unfold eZ;show _=N.length;rw[aPT,aPU,List.length_replicate];omega
theorem fn_of{CX:CXT}{P:Program}{w:World}{K:Fg}{mg:SOV}{base:Heap}{k:Nat}{f:Addr}{name aP:Str}{params:Arguments}{body:List Stmt}{scope:Scope}{dV kV doc pm cdv ct oc:Value}{an od:Option Addr}{osl:Array (Option Value)}{N ps:List Str}{sp:Sp}(lk:K.lookup f=some ⟨oc,od,.func (PySem.W.fnOf name aP params body scope dV kV doc pm an cdv ct),osl⟩)(hcd:PySem.W.codeIn K cdv aP=true)(S:mL N ps scope)(len:∀ vs H Q E,sp vs H Q E->vs.length=ps.length)(hbody:∀ (A:Around) (outer:List Env) (s:Shared) (H:Hp) (vs:List V) (Q:VK) (E:XK),cK k (A.deeper (envOfC aP scope s.heap.objs.size f cdv))->sp vs H Q E->∃ t,PSs (dH CX P w K mg base N aP scope f cdv A outer s H E) body t/\t { nx:=λ_ H'=>Q .non H',rt:=Q } (eZ N vs) H):c8 P w K mg base CX (k+1) f (PySem.W.fnOf name aP params body scope dV kV doc pm an cdv ct) ps sp:=by
 refine ⟨len,λA outer s H args us vs Q E hr e0 hb r hsp=>?_⟩;have hl:=len _ _ _ _ hsp;have KX:K.In s.heap:=e0.mod.kin.keeps λb o e=>(e0.bs b o e).1;have lim:s.heap.NoLimit:=e0.mod.nolimit.keeps λb o e=>(e0.bs b o e).1;have bX:∀ y∈ps.zip us,scope.names.lookup y.1=some .local\/(scope.names.lookup y.1=some .cell/\((cellsFrom (s.heap.objs.size+1) scope.names []).lookup y.1).isSome=true):=λ⟨n,v⟩ hy=>by
  rcases S.par n (aPL hy).1 with q | q
  . exact .inl q
  . exact .inr ⟨q,PySem.W.cellsFrom_some _ _ _ (.inl q)⟩
 refine codeAny_call_function hr.depth (KX _ _ lk) rfl S.co S.gen rfl (PySem.W.codeRec_of KX hcd) (hb _ _ _ _ ?_);refine wpAny_newFunctionEnv_cells S.kind bX λenv he s1 x=>?_;subst he;refine ⟨lim.keeps x.toInCall.keep,codeAny_func ?_⟩;obtain ⟨t,ht,hq⟩:=hbody A outer s H vs Q E (hr.deeper _) hsp;have I:Inv (dH CX P w K mg base N aP scope f cdv A outer s H E) [] (eZ N vs) H s1:=aCB S hr.hd e0 hl r x;refine aOY (ht [] s1 (eZ N vs) H _ I hq) (λfl s' hs=>?_) λe s' hs=>hs;have fin:∀ {σ':St} {H':Hp} {v:V} {u:Value},Inv (dH CX P w K mg base N aP scope f cdv A outer s H E) [] σ' H' s'->aM v u->Q v H'->CE outer P w H s Q u s' :=
  λ{σ' H' v u} J rv q=>⟨v,H',J.os,J.bare,J.base,J.hok,rv,q⟩
 cases fl with
 | ret u=>obtain ⟨v,σ',H',J,rv,q⟩:=hs;exact fin J rv q
 | next=>obtain ⟨σ',H',J,q⟩:=hs;exact fin (v:=V.non) (u:=Value.none) J rfl q
 | brk=>obtain ⟨_,_,_,q⟩:=hs;exact False.elim q
 | cont=>obtain ⟨_,_,_,q⟩:=hs;exact False.elim q
section
variable {X:Cx}{x:Str}{p pos:Pos}{e:Expr}{es:List Expr}{t:TA}{id T:String}{r:List V->Hp->VK->Prop}
def tCB(r:List V->Hp->VK->Prop)(t:TA):TE:=λσ H Q=>t σ H λvs H1=>r vs H1 Q
theorem pE(hc:fG X (.builtin id) r)(hg:Gl X x)(hm:X.mg x=none)(hv:bootBuiltins x=some (.builtin id))(ha:PA X (e::es) t)(hn:x ≠ "__name__" := by decide)(hdb:(x==("__debug__" : Str))=false:=by decide)(he:starEach (e::es) X.env=(false,eval e X.env)::starEach es X.env:=by rfl)(hpl:(backTo pos (starEach es X.env)).any (·.1)=false:=by rfl):PE X (.Call (.Name x p) (e::es) [] pos) (tCB r t):=by intro aA s σ H Q I h;refine aPV (hW I hg hm hv ?_ hn hdb);exact PyProof.Rows.callWith_builtin1 (thn (ha pos aA s σ H _ I h) λus s1 ⟨vs,H1,I1,r1,q1⟩=>hc aA s1 σ H1 vs us Q I1 r1 q1) he hpl
theorem aCC(hc:fG X (.type T) r)(hg:Gl X x)(hm:X.mg x=none)(hv:bootBuiltins x=some (.type T))(ha:PA X (e::es) t)(hn:x ≠ "__name__" := by decide)(hdb:(x==("__debug__" : Str))=false:=by decide)(he:starEach (e::es) X.env=(false,eval e X.env)::starEach es X.env:=by rfl)(hpl:(backTo pos (starEach es X.env)).any (·.1)=false:=by rfl):PE X (.Call (.Name x p) (e::es) [] pos) (tCB r t):=by intro aA s σ H Q I h;refine aPV (hW I hg hm hv ?_ hn hdb);exact aPE (thn (ha pos aA s σ H _ I h) λus s1 ⟨vs,H1,I1,r1,q1⟩=>hc aA s1 σ H1 vs us Q I1 r1 q1) he hpl
end
end L2
namespace HT
open PySem PyProof.Rows
section
open PySem.SeqAt
open PySem.AutoSeq1 (wpAny_loadPart')
open PySem.MeetsSeq PySem.MeetsSeq2 PySem.MeetsSeq3
end
section
variable {prog:Program}{w:World}{A:Around}{E:VSP}{s:Shared}
theorem aCD{t b:Addr}{vs ws:List Value}{Q:VSP}(ht:IsTup s.heap t vs.toArray)(hb:IsTup s.heap b ws.toArray)(hv:vs≠[])(h1:ws=[]->Q (.ref t) s)(h2:ws≠[]->Q (.ref s.heap.objs.size) { s with heap:=s.heap.push { cls:=.type "tuple", data:=.seq (vs++ws).toArray } })(hsz:vs.length+ws.length<=sizeLine):wpAny (model prog w) A (binaryOp .Add (.ref t) (.ref b)) Q E s:=by
 obtain ⟨⟨cls,dd,data,sl⟩,ho,hc,n,hd⟩:=id ht;obtain ⟨⟨cls2,dd2,data2,sl2⟩,ho2,hc2,n2,hd2⟩:=id hb;simp only at hc hd hc2 hd2;subst hc hd hc2 hd2;have e:vs.toArray++ws.toArray=(vs++ws).toArray:=by simp
 by_cases hw:ws=[]
 . exact aPW ⟨_,ho,rfl⟩ ⟨_,ho2,rfl⟩ aPX seq_tuple_add aPY aPZ (aP0 _ _)
     (tuple_addW1 t b vs.toArray ws.toArray n n2 dd dd2 sl sl2 (by simpa using hv) (by simp[hw])) ⟨ho,ho2,h1 hw⟩
 . refine aPW ⟨_,ho,rfl⟩ ⟨_,ho2,rfl⟩ aPX seq_tuple_add aPY aPZ (aP0 _ _)
     (tuple_addW2 t b vs.toArray ws.toArray n n2 dd dd2 sl sl2 (by simpa using hv) (by simpa using hw) (by rw[aPI,aPI];exact hsz)) ⟨ho,ho2,?_⟩
   rw[e];exact h2 hw
def sIx(n d:Nat):Option Int->Nat
 | none=>d
 | some v=>if v<0 then (v+(n:Int)).toNat else min v.toNat n
theorem aCE(n d:Nat):sIx n d none=d:=rfl
theorem pF(n d k:Nat):sIx n d (some (k:Int))=min k n:=by show (if (k:Int)<0 then ((k:Int)+(n:Int)).toNat else min (k:Int).toNat n)=min k n;rw[if_neg (by omega),aP1]
theorem aCF(n d:Nat)(hd:d<=n)(o:Option Int):sIx n d o<=n:=by
 cases o with
 | none=>exact hd
 | some v =>
  show (if v<0 then (v+(n:Int)).toNat else min v.toNat n)<=n;by_cases hv:v<0
  . rw[if_pos hv];omega
  . rw[if_neg hv];exact Nat.min_le_right _ _
theorem sS(v:Int)(n d:Nat):(if v<0 then max (v+(n:Int)) 0 else min v (n:Int))=((sIx n d (some v):Nat):Int):=by
 show (if v<0 then max (v+(n:Int)) 0 else min v (n:Int))=(((if v<0 then (v+(n:Int)).toNat else min v.toNat n):Nat):Int);by_cases hv:v<0
 . simp only[if_pos hv];omega
 . simp only[if_neg hv];omega
theorem aCG(lo hi:Option Int)(n:Nat):Builtin.Slice.sliceAdjust lo hi 1 (n:Int)=(((sIx n 0 lo:Nat):Int),((sIx n n hi:Nat):Int)):=by
 have h1:¬ ((1:Int)<0):=by omega
 unfold Builtin.Slice.sliceAdjust;simp only[h1,aP2];refine Prod.ext ?_ ?_
 . cases lo with
   | none=>rfl
   | some v=>exact sS v n 0
 . cases hi with
   | none=>rfl
   | some v=>exact sS v n n
theorem aCH(i j:Nat):Builtin.Slice.slicePlaces (i:Int) (j:Int) 1=j-i:=by
 unfold Builtin.Slice.slicePlaces;have h1:(1:Int) > 0:=by omega
 simp only[h1,aP3,Int.ediv_one];split <;> omega
theorem sU{v:Value}{o:Option Int}{Q:Option Int->Shared->Prop}(p:IsPart v o)(h:Q o s):wpAny (model prog w) A (Builtin.Slice.slicePartIndex v) Q E s:=by
 cases p with
 | none=>exact slicePart_none h
 | int i t=>exact slicePart_int h
theorem sV{sl:Addr}{vl vu:Value}{lo hi:Option Int}{n:Nat}{Q:Int×Int×Nat->Shared->Prop}(hs:s.heap.IsSliceOf sl vl vu .none)(pl:IsPart vl lo)(pu:IsPart vu hi)(h:Q (((sIx n 0 lo:Nat):Int),1,sIx n n hi-sIx n 0 lo) s):wpAny (model prog w) A (Builtin.Slice.sliceApplied (.ref sl) (pure (n:Int))) Q E s:=by
 obtain ⟨os,hos,hcs,hds⟩:=id hs;unfold Builtin.Slice.sliceApplied Builtin.Slice.sliceFields;refine aO3 (aO3 (aP4 hos hds (x:=vl) rfl (aO3 (aP4 hos hds (x:=vu) rfl (aO3 (aP4 hos hds (x:=.none) rfl (aO5 ?_)))))));refine aO3 (slicePart_none ?_);show wpAny _ _ (if ((1:Int)==0)=true then _ else _) _ _ s;rw[if_neg (by decide)]
 refine aO3 (sU pl (aO3 (sU pu (aO3 (aO5 ?_)))));show wpAny _ _ (match Builtin.Slice.sliceAdjust lo hi 1 (n:Int) with | (lo,hi)=>pure (lo,(1:Int),Builtin.Slice.slicePlaces lo hi 1)) _ _ s
 rw[aCG lo hi n];show wpAny _ _ (pure (((sIx n 0 lo:Nat):Int),(1:Int),Builtin.Slice.slicePlaces ((sIx n 0 lo:Nat):Int) ((sIx n n hi:Nat):Int) 1)) _ _ s;rw[aCH];exact aO5 h
theorem aCI(xs:Array Value)(i k:Nat):((List.range k).filterMap λ(m:Nat)=>xs[((i:Int)+(m:Int) * 1).toNat]?).toArray=((xs.toList.drop i).take k).toArray:=by
 have e:(λ(m:Nat)=>xs[((i:Int)+(m:Int) * 1).toNat]?)=λm=>xs[i+m]?:=by
  funext m;have:((i:Int)+(m:Int) * 1).toNat=i+m:=by omega
  rw[this]
 rw[e];have:=pick_run xs i k;rw[List.filterMap_map] at this;have e2:((λx=>xs[x]?) ∘ λx=>i+x)=λm=>xs[i+m]?:=rfl;rw[e2] at this;rw[this]
theorem aCJ{t sl:Addr}{items:Array Value}{vl vu:Value}{lo hi:Option Int}{Q:VSP}(ht:IsTup s.heap t items)(hs:s.heap.IsSliceOf sl vl vu .none)(pl:IsPart vl lo)(pu:IsPart vu hi)(hw:¬ (sIx items.size 0 lo=0/\sIx items.size items.size hi=items.size))(h:Q (.ref s.heap.objs.size) { s with heap:=s.heap.push { cls:=.type "tuple", data:=.seq ((items.toList.drop (sIx items.size 0 lo)).take (sIx items.size items.size hi-sIx items.size 0 lo)).toArray } })(hsz:items.size<=sizeLine):wpAny (model prog w) A (getItem (.ref t) (.ref sl)) Q E s:=by
 have htake:sizeOk (.seq ((items.toList.drop (sIx items.size 0 lo)).take (sIx items.size items.size hi-sIx items.size 0 lo)).toArray):=by show ((items.toList.drop (sIx items.size 0 lo)).take (sIx items.size items.size hi-sIx items.size 0 lo)).toArray.size<=sizeLine;rw[aPI,aPM,aP5,aO0];omega
 have hj:sIx items.size items.size hi<=items.size:=aCF _ _ (aPC _) hi;obtain ⟨os,hos,hcs,hds⟩:=id hs;have hTs:s.TypeIs (.ref sl) "slice" := ⟨os,hos,hcs⟩;unfold getItem
 try with_reducible refine aP6 ?_
 first | refine aO3 (aO5 ?_) | skip
 refine aO3 (wpAny_sequenceKey ht.typeIs (by decide) ?_)
 refine aO3 (aP7 (name:=Str.ofString "__getitem__") ht.typeIs aP8
  (aP9 aP8 ht.typeIs entry_tuple_getitem ?_ (args_tuple_getitem _ _)))
 show wpAny _ _ (Builtin.Tuple.tupleItemsOf (.ref t) >>= _) _ _ s;refine aO3 (tupleItemsOf_ ht ?_);refine aO3 (aQA hTs ?_);rw[if_pos (by decide)]
 refine aO3 (sV hs pl pu ?_);have hno:¬ ((((sIx items.size 0 lo:Nat):Int)==0&&(1:Int)==1&&(sIx items.size items.size hi-sIx items.size 0 lo)==items.size)=true):=by intro q;rw[aQB,aQB] at q;have q1:((sIx items.size 0 lo:Nat):Int)=0:=eq_of_beq q.1.1;have q2:sIx items.size items.size hi-sIx items.size 0 lo=items.size:=eq_of_beq q.2;exact hw ⟨by omega,by omega⟩
 show wpAny _ _ (if (((sIx items.size 0 lo:Nat):Int)==0&&(1:Int)==1&&(sIx items.size items.size hi-sIx items.size 0 lo)==items.size)=true then _ else _) _ _ s;rw[if_neg hno,aCI]
 first
  | exact aO3 (m:=Builtin.Tuple.tupleExact _) (aO6 (aO5 ⟨_,rfl,aO5 h⟩) htake)
  | exact aO3 (m:=Builtin.Tuple.tupleExact _) (aO6 (aO3 (aO5 (aO5 ⟨_,rfl,aO5 h⟩))) htake)
  | exact aO3 (aO3 (m:=Builtin.Tuple.tupleExact _) (aO6 (aO5 (aO5 ⟨_,rfl,aO5 h⟩)) htake))
  | exact aO3 (aO3 (m:=Builtin.Tuple.tupleExact _) (aO6 (aO5 ⟨_,rfl,aO5 h⟩) htake))
end
end HT
namespace L2
open PySem PySem.Spec PyProof.Rows
abbrev TO:=St->Hp->(Option Int->Hp->Prop)->Prop
def PO(X:Cx)(e:Option Expr)(t:TO):Prop :=
 ∀ (aA:LAO) (s:Shared) (σ:St) (H:Hp) (Q:Option Int->Hp->Prop),Inv X aA σ H s->t σ H Q ->
  wpAny (model X.prog X.w) X.A (evalPart e X.env) (λu s'=>∃ o H',Inv X aA σ H' s'/\IsPart u o/\Q o H') X.xe s
def sW:TO:=λ_ H Q=>Q none H
def mM(t:TE):TO:=λσ H Q=>t σ H λx H1=>∃ i,x=.int i/\Q (some i) H1
section
variable {X:Cx}{e:Expr}{te:TE}{lo hi:Option Expr}{tl th:TO}{pos p2:Pos}
theorem aCK:PO X none sW:=by intro aA s σ H Q I h;rw[evalPart_none];exact aO5 ⟨none,H,I,.none,h⟩
theorem aCL(h:PE X e te):PO X (some e) (mM te):=by intro aA s σ H Q I hw;rw[evalPart_some];refine thn (h aA s σ H _ I hw) λu s1 ⟨x,H1,I1,r1,q1⟩=>?_;obtain ⟨i,rfl,q⟩:=q1;obtain ⟨t,rfl⟩:=r1;exact ⟨some i,H1,I1,.int i t,q⟩
def SlR(X:Cx)(r:V->Option Int->Option Int->Hp->VK->Prop):Prop :=
 ∀ (aA:LAO) (s:Shared) (σ:St) (H:Hp) (x:V) (v vl vu:Value) (lo hi:Option Int) (sl:Addr) (Q:VK),Inv X aA σ H s->aM x v->s.heap.IsSliceOf sl vl vu .none->IsPart vl lo->IsPart vu hi->r x lo hi H Q ->
  ∃ T id,typeLookup (.type T) "__getitem__" = pure (some (.builtin id))/\s.TypeIs v T/\wpAny (model X.prog X.w) X.A (getItem v (.ref sl)) (EP X aA σ Q) X.xe s
theorem SlR.or{r r':V->Option Int->Option Int->Hp->VK->Prop}(h:SlR X r)(h':SlR X r'):SlR X (λx lo hi H Q=>r x lo hi H Q\/r' x lo hi H Q):=by
 intro aA s σ H x v vl vu lo hi sl Q I rx hs pl pu q;rcases q with q | q
 . exact h aA s σ H x v vl vu lo hi sl Q I rx hs pl pu q
 . exact h' aA s σ H x v vl vu lo hi sl Q I rx hs pl pu q
def tSl(r:V->Option Int->Option Int->Hp->VK->Prop)(te:TE)(tl th:TO):TE:=λσ H Q=>te σ H λx H1=>tl σ H1 λl H2=>th σ H2 λu H3=>r x l u H3 Q
theorem aCM{r:V->Option Int->Option Int->Hp->VK->Prop}(hr:SlR X r)(he:PE X e te)(hl:PO X lo tl)(hu:PO X hi th):PE X (.Subscript e (.Slice lo hi none p2) pos) (tSl r te tl th):=by
 intro aA s σ H Q I h;refine Subscript_ (thn (he aA s σ H _ I h) λv s1 ⟨x,H1,I1,r1,q1⟩=>?_);refine wpAny_Slice (thn (hl aA s1 σ H1 _ I1 q1) λvl s2 ⟨l,H2,I2,pl,q2⟩=>thn (hu aA s2 σ H2 _ I2 q2) λvu s3 ⟨u,H3,I3,pu,q3⟩=>?_);rw[evalPart_none];refine aO5 ?_;have I4:Inv X aA σ H3 { s3 with heap:=s3.heap.push { cls:=.type "slice", data:=.fields #[vl,vu,.none] } }:=I3.kept (t':=s3.toks) λb ob q=>hps q
 obtain ⟨T,id,hT,ht,hg⟩:=hr aA { s3 with heap:=s3.heap.push { cls:=.type "slice", data:=.fields #[vl,vu,.none] } } σ H3 x v vl vu l u s3.heap.objs.size Q I4 r1 (Heap.IsSliceOf.new ..) pl pu q3
 show wpAny (model X.prog X.w) X.A (subscriptTail e (.Slice lo hi none p2) v (.ref s3.heap.objs.size)) (EP X aA σ Q) X.xe { s3 with heap:=s3.heap.push { cls:=.type "slice", data:=.fields #[vl,vu,.none] } }
 exact tail_any (ops:=[.ref s3.heap.objs.size,v]) ht hT hg (by with_unfolding_all rfl)
def fV(xs:List V)(lo hi:Option Int):List V:=(xs.drop (HT.sIx xs.length 0 lo)).take (HT.sIx xs.length xs.length hi-HT.sIx xs.length 0 lo)
theorem sX(xs:List V)(lo hi:Option Int):(fV xs lo hi).length<=xs.length:=by unfold fV;rw[aPM,aP5];omega
def rSlT(K:Fg):V->Option Int->Option Int->Hp->VK->Prop:=λx lo hi H Q=>∃ a xs,x=.ref a/\SqT K H a xs /\
 ¬ (HT.sIx xs.length 0 lo=0/\HT.sIx xs.length xs.length hi=xs.length)/\∀ p,H p=none->Q (.ref p) (upd H p (.tup (fV xs lo hi)))
theorem aCN:SlR X (rSlT X.K):=by
 intro aA s σ H x v vl vu lo hi sl Q I rx hs pl pu h;obtain ⟨a,xs,rfl,hx,hw,q⟩:=h;cases rx;obtain ⟨its,r,ht,hz⟩:=I.tuple hx;have hlen:its.toArray.size=xs.length:=by rw[aPI];exact r.length.symm
 refine ⟨"tuple", _,PyProof.Rows.slot_tuple_getitem.lookup,ht.typeIs,?_⟩;refine HT.aCJ ht hs pl pu (by rw[hlen];exact hw) ?_ (by rw[hlen];exact hz)
 rw[hlen];refine ⟨.ref s.heap.objs.size,_,I.laid (t':=s.toks) (o:=.tup (fV xs lo hi)) (λb ob q=>hps q) (aPC _) ?_,rfl,q _ (I.hok.fresh (aPC _))⟩;exact ⟨aOP (sX xs lo hi) hz,_,(r.drop (HT.sIx xs.length 0 lo)).take (HT.sIx xs.length xs.length hi-HT.sIx xs.length 0 lo),fF.new _ _⟩
theorem aN.nil_iff{xs:List V}{us:List Value}(r:aN xs us):us=[]↔xs=[]:=by
 cases r with
 | nil=>simp
 | cons _ _=>simp
end
def ixN(n:Nat)(i:Int):Option Nat:=if 0<=i then (if i<n then some i.toNat else none) else if -(n:Int)<=i then some (i+n).toNat else none
def atI{α:Type}(xs:List α)(i:Int):Option α:=(ixN xs.length i).bind λj=>xs[j]?
theorem aCO{n:Nat}{i:Int}{j:Nat}(h:ixN n i=some j):seqIndex? i n=some j/\j<n /\ -(n:Int)<=i/\i<n:=by
 unfold ixN at h;by_cases h0:0<=i
 . rw[if_pos h0] at h;by_cases h1:i<n
   . rw[if_pos h1] at h;have e:i.toNat=j:=aOF h;exact ⟨by rw[seqIndex_of h0 h1,e],by omega,by omega,h1⟩
   . rw[if_neg h1] at h;cases h
 . rw[if_neg h0] at h;by_cases h1:-(n:Int)<=i
   . rw[if_pos h1] at h;have e:(i+n).toNat=j:=aOF h;exact ⟨by rw[seqIndex_neg (by omega) h1,e],by omega,h1,by omega⟩
   . rw[if_neg h1] at h;cases h
theorem mO{α:Type}{xs:List α}{i:Int}{v:α}(h:atI xs i=some v):∃ j,seqIndex? i xs.length=some j/\xs[j]? = some v/\j<xs.length /\ -(xs.length:Int)<=i/\i<xs.length:=by
 unfold atI at h;cases e:ixN xs.length i with
 | none=>rw[e] at h;cases h
 | some j=>rw[e] at h;obtain ⟨h1,h2,h3,h4⟩:=aCO e;exact ⟨j,h1,h,h2,h3,h4⟩
theorem cD{α:Type}{xs:List α}{j:Nat}{v:α}(h:xs[j]? = some v):atI xs (j:Int)=some v:=by
 have hj:j<xs.length:=(aOU.mp h).1;have e:ixN xs.length (j:Int)=some j:=by unfold ixN;rw[if_pos (by omega),if_pos (by omega)];simp
 unfold atI;rw[e];exact h
def mP(b:Expr):Prop:=∀ o i,subscripted b false o i=operate [o,i] (getItem o i)
def IxR(X:Cx)(r:R2):Prop :=
 ∀ (value slice:Expr) (aA:LAO) (s:Shared) (σ:St) (H:Hp) (x y:V) (v u:Value) (Q:VK),Inv X aA σ H s->aM x v->aM y u->r x y H Q ->
  subscripted slice false v u=operate [v,u] (getItem v u)->wpAny (model X.prog X.w) X.A (subscriptTail value slice v u) (EP X aA σ Q) X.xe s
def MtR(X:Cx)(id:String)(r:V->List V->Hp->VK->Prop):Prop :=
 ∀ (aA:LAO) (s:Shared) (σ:St) (H:Hp) (x:V) (xs:List V) (v:Value) (us:List Value) (Q:VK),Inv X aA σ H s->aM x v->aN xs us->r x xs H Q ->
  wpAny (model X.prog X.w) X.A (call (.builtin id) (v::us)) (EP X aA σ Q) X.xe s
section
variable {X:Cx}{a b:Expr}{ta tb:TE}{pos:Pos}
theorem IxR.or{r r':R2}(h:IxR X r)(h':IxR X r'):IxR X (λx y H Q=>r x y H Q\/r' x y H Q):=by
 intro value slice aA s σ H x y v u Q I rx ry q hs;rcases q with q | q
 . exact h value slice aA s σ H x y v u Q I rx ry q hs
 . exact h' value slice aA s σ H x y v u Q I rx ry q hs
theorem sY{r:R2}(hr:IxR X r)(ha:PE X a ta)(hb:PE X b tb)(hs:mP b):PE X (.Subscript a b pos) (tOp r ta tb):=by intro aA s σ H Q I h;exact Subscript_ (o9 ha hb I h λv u s2 x y H2 I2 rx ry q=>hr a b aA s2 σ H2 x y v u Q I2 rx ry q (hs _ _))
def rIxL(K:Fg):R2:=λx y H Q=>∃ p xs i v,x=.ref p/\y=.int i/\SqL K H p xs/\atI xs i=some v/\Q v H
def rIxT(K:Fg):R2:=λx y H Q=>∃ p xs i v,x=.ref p/\y=.int i/\SqT K H p xs/\atI xs i=some v/\Q v H
def rIxS:R2:=λx y H Q=>∃ z i c,x=.str z/\y=.int i/\z.length<=sizeLine/\atI z.cps.toList i=some c/\Q (.str ⟨#[c]⟩) H
theorem aCP:IxR X (rIxL X.K):=by
 intro value slice aA s σ H x y v u Q I rx ry h hs;obtain ⟨p,xs,i,z,rfl,rfl,hq,he,q⟩:=h;cases rx;obtain ⟨t,rfl⟩:=ry;obtain ⟨its,r,pl,hz⟩:=I.list hq;obtain ⟨j,h1,h2,h3,h4,h5⟩:=mO he;obtain ⟨w,ew,rw'⟩:=r.get h2;have hl:=r.length;have hn:=kG;have fin:EP X aA σ Q w s:=⟨z,H,I,rw',q⟩;by_cases h0:0<=i
 . have hj:i.toNat=j:=by rw[seqIndex_of h0 h5] at h1;exact aOF h1
   exact item_listR pl.isList h0 (by omega) (by rw[hj];simpa using ew) fin hs
 . have hj:(i+(its.toArray.size:Int)).toNat=j:=by
     rw[seqIndex_neg (by omega) h4] at h1
     rw[aPI,<- hl];exact aOF h1
   exact subscriptTail_builtinR (x:=w) pl.isList.typeIs slot_list_getitem.lookup
    (wpAny_getItem_list_neg (Q:=λr s'=>r=w/\EP X aA σ Q r s') pl.isList (by omega) (by rw[aPI] <;> omega) (by omega) (by rw[hj];simpa using ew) ⟨rfl,fin⟩) hs
theorem aCQ:IxR X (rIxT X.K):=by
 intro value slice aA s σ H x y v u Q I rx ry h hs;obtain ⟨p,xs,i,z,rfl,rfl,hq,he,q⟩:=h;cases rx;obtain ⟨t,rfl⟩:=ry;obtain ⟨its,r,pl,hz⟩:=I.tuple hq;obtain ⟨j,h1,h2,h3,h4,h5⟩:=mO he;obtain ⟨w,ew,rw'⟩:=r.get h2;have hl:=r.length;have hn:=kG;have fin:EP X aA σ Q w s:=⟨z,H,I,rw',q⟩;exact subscriptTail_builtinR (x:=w) pl.typeIs slot_tuple_getitem.lookup
  (getItem_tuple (j:=j) (Q:=λr s'=>r=w/\EP X aA σ Q r s') pl (by omega) (by omega) (by rw[aPI,<- hl];exact h1) (by simpa using ew) ⟨rfl,fin⟩) hs
theorem aCR:IxR X rIxS:=by
 intro value slice aA s σ H x y v u Q I rx ry h hs;obtain ⟨z,i,c,rfl,rfl,hz,he,q⟩:=h;obtain ⟨t,rfl⟩:=rx;obtain ⟨t',rfl⟩:=ry;obtain ⟨j,h1,h2,h3,h4,h5⟩:=mO he;have hl:z.cps.toList.length=z.length:=by simp[Str.length]
 rw[hl] at h1 h4 h5;have hn:=kG;exact tail_any (typeIs_str s z t) slot_str_getitem.lookup (getItem_str (c:=c) (by
  have e1:decide (i < -(2 ^ 63:Int))=false:=aOC (by omega)
  have e2:decide (i ≥ 2 ^ 63)=false:=aOC (by omega)
  rw[e1,e2,Bool.or_false]) (by rw[h1];simpa using h2) ⟨.str ⟨#[c]⟩,H,I.tok _,⟨_,rfl⟩,q⟩) hs
def rIx(K:Fg):R2:=λx y H Q=>rIxL K x y H Q\/rIxT K x y H Q\/rIxS x y H Q
theorem aCS:IxR X (rIx X.K):=aCP.or (aCQ.or aCR)
theorem aCT(lo hi:Option Int)(n:Nat):(sliceBounds lo hi none n).1=((HT.sIx n 0 lo:Nat):Int)/\(sliceBounds lo hi none n).2.1=((HT.sIx n n hi:Nat):Int)/\(sliceBounds lo hi none n).2.2=1:=by
 refine ⟨?_,?_,rfl⟩
 . cases lo with
   | none=>simp[sliceBounds,HT.sIx]
   | some i =>
    simp only[sliceBounds,HT.sIx,aQC,show (1:Int) > 0 by decide,aP3]
    by_cases h:i<0
    . simp only[h,aP3] <;> omega
    . simp only[h,aP2] <;> omega
 . cases hi with
   | none=>simp[sliceBounds,HT.sIx]
   | some i =>
    simp only[sliceBounds,HT.sIx,aQC,show (1:Int) > 0 by decide,aP3]
    by_cases h:i<0
    . simp only[h,aP3] <;> omega
    . simp only[h,aP2] <;> omega
theorem aCU(its:List Value)(lo hi:Option Int):slicePick its.toArray lo hi none=((its.drop (HT.sIx its.length 0 lo)).take (HT.sIx its.length its.length hi-HT.sIx its.length 0 lo)).toArray:=by obtain ⟨h1,h2,h3⟩:=aCT lo hi its.toArray.size;unfold slicePick;rw[h1,h2,h3];simp only[sliceRange_one,pick_run,aPI] <;> rfl
def rSlL(K:Fg):V->Option Int->Option Int->Hp->VK->Prop:=λx lo hi H Q=>∃ a xs,x=.ref a/\SqL K H a xs/\∀ p,H p=none->Q (.ref p) (upd H p (.lst (fV xs lo hi)))
theorem aCV:SlR X (rSlL X.K):=by
 intro aA s σ H x v vl vu lo hi sl Q I rx hs pl pu h;obtain ⟨a,xs,rfl,hx,q⟩:=h;cases rx;obtain ⟨its,r,ht,hz⟩:=I.list hx;have hlen:=r.length;refine ⟨"list", _,slot_list_getitem.lookup,ht.isList.typeIs,?_⟩;refine wpAny_getItem_list_slice ht.isList hs pl pu .none (by simp) ?_ (by rw[aPI] <;> omega)
 rw[aCU,<- hlen];refine ⟨.ref s.heap.objs.size,_,I.laid (t':=s.toks) (o:=.lst (fV xs lo hi)) (λb ob q=>hps q) (aPC _) ?_,rfl,q _ (I.hok.fresh (aPC _))⟩;exact ⟨aOP (sX xs lo hi) hz,_,0,(r.drop (HT.sIx xs.length 0 lo)).take (HT.sIx xs.length xs.length hi-HT.sIx xs.length 0 lo),aOG _ rfl⟩
def fJ:V->Bool
 | .non=>true
 | .bl _=>true
 | .int _=>true
 | .str _=>true
 | _=>false
def eqV:V->V->Bool
 | .non,.non=>true
 | .bl a,.bl b=>a==b
 | .bl a,.int b=>(if a then 1 else 0)==b
 | .int a,.bl b=>a==(if b then 1 else 0)
 | .int a,.int b=>a==b
 | .str a,.str b=>a==b
 | _,_=>false
theorem aCW{A:Around}{s:Shared}{y x:V}{u v:Value}(ry:aM y u)(rx:aM x v)(fy:fJ y=true)(fx:fJ x=true):SeqAt.EqAt A s u v (eqV y x):=by
 cases y with
 | non =>
  cases ry;cases x with
  | non=>cases rx;exact SeqAt.EqAt.same _
  | bl b=>cases rx;exact SeqAt.EqAt.none_bool b
  | int b=>obtain ⟨t,rfl⟩:=rx;exact SeqAt.EqAt.none_int b t
  | str b=>obtain ⟨t,rfl⟩:=rx;exact SeqAt.EqAt.none_str b t
  | _=>exact absurd (show false=true from fx) aO9
 | bl a =>
  cases ry;cases x with
  | non=>cases rx;exact SeqAt.EqAt.bool_none a
  | bl b=>cases rx;exact SeqAt.EqAt.bool_bool a b
  | int b=>obtain ⟨t,rfl⟩:=rx;exact SeqAt.EqAt.bool_int a b t
  | str b=>obtain ⟨t,rfl⟩:=rx;exact SeqAt.EqAt.bool_str a b t
  | _=>exact absurd (show false=true from fx) aO9
 | int a =>
  obtain ⟨t',rfl⟩:=ry;cases x with
  | non=>cases rx;exact SeqAt.EqAt.int_none a t'
  | bl b=>cases rx;exact SeqAt.EqAt.int_bool a t' b
  | int b=>obtain ⟨t,rfl⟩:=rx;exact SeqAt.EqAt.int_int a t' b t
  | str b=>obtain ⟨t,rfl⟩:=rx;exact SeqAt.EqAt.int_str a t' b t
  | _=>exact absurd (show false=true from fx) aO9
 | str a =>
  obtain ⟨t',rfl⟩:=ry;cases x with
  | non=>cases rx;exact SeqAt.EqAt.str_none a t'
  | bl b=>cases rx;exact SeqAt.EqAt.str_bool a t' b
  | int b=>obtain ⟨t,rfl⟩:=rx;exact SeqAt.EqAt.str_int a t' b t
  | str b=>obtain ⟨t,rfl⟩:=rx;exact SeqAt.EqAt.str_str a t' b t
  | _=>exact absurd (show false=true from fx) aO9
 | _=>exact absurd (show false=true from fy) aO9
def eqU(x:V)(u:Value):Bool:=match u with
 | .none=>eqV .non x
 | .bool b=>eqV (.bl b) x
 | .int i _=>eqV (.int i) x
 | .str z _=>eqV (.str z) x
 | _=>false
theorem sZ{x y:V}{u:Value}(r:aM y u)(f:fJ y=true):eqU x u=eqV y x:=by
 cases y with
 | non=>cases r;rfl
 | bl b=>cases r;rfl
 | int i=>obtain ⟨t,rfl⟩:=r;rfl
 | str z=>obtain ⟨t,rfl⟩:=r;rfl
 | _=>exact absurd (show false=true from f) aO9
theorem kI{x:V}:∀ {xs:List V} {us:List Value},aN xs us->xs.all fJ=true->us.any (eqU x)=xs.any λy=>eqV y x
 | _,_,.nil,_=>rfl
 | y::xs,u::us,.cons r t,f=>by rw[aQD,aQB] at f;rw[aQE,aQE,sZ r f.1,kI t f.2]
theorem kJ{A:Around}{s:Shared}{x:V}{v:Value}(rx:aM x v)(fx:fJ x=true):∀ {xs:List V} {us:List Value},aN xs us->xs.all fJ=true->∀ u∈us,SeqAt.EqAt A s u v (eqU x u)
 | _,_,.nil,_=>λu hu=>by cases hu
 | y::xs,u::us,.cons r t,f=>λu' hu=>by
  rw[aQD,aQB] at f;rcases aOR.mp hu with rfl | hu
  . rw[sZ r f.1];exact aCW r rx f.1 fx
  . exact kJ rx fx t f.2 u' hu
def inV(x:V)(xs:List V):Bool:=xs.any λy=>eqV y x
def rIn(K:Fg)(neg:Bool):R2:=λx y H Q=>∃ p xs,y=.ref p/\(SqL K H p xs\/SqT K H p xs)/\fJ x=true/\xs.all fJ=true/\Q (.bl (if neg then !inV x xs else inV x xs)) H
theorem aCX:OpR X (compareOp .In) (rIn X.K false):=by
 intro aA s σ H x y v u Q I rx ry h;obtain ⟨p,xs,rfl,hq,fx,fs,q⟩:=h;cases ry;rcases hq with hq | hq
 . obtain ⟨its,r,pl,hz⟩:=I.list hq;refine SeqAt.in_listAt (eqU x) pl.isList (λw hw=>kJ rx fx r fs w (by simpa using hw)) ⟨.bl _,H,I,rfl,?_⟩
   rw[show its.toArray.any (eqU x)=its.any (eqU x) by simp,kI r fs]
   exact q
 . obtain ⟨its,r,pl,hz⟩:=I.tuple hq;refine SeqAt.in_tupleAt (eqU x) pl (λw hw=>kJ rx fx r fs w (by simpa using hw)) ⟨.bl _,H,I,rfl,?_⟩
   rw[show its.toArray.any (eqU x)=its.any (eqU x) by simp,kI r fs]
   exact q
theorem aCY:OpR X (compareOp .NotIn) (rIn X.K true):=by
 intro aA s σ H x y v u Q I rx ry h;obtain ⟨p,xs,rfl,hq,fx,fs,q⟩:=h;cases ry;rcases hq with hq | hq
 . obtain ⟨its,r,pl,hz⟩:=I.list hq;refine SeqAt.notIn_listAt (eqU x) pl.isList (λw hw=>kJ rx fx r fs w (by simpa using hw)) ⟨.bl _,H,I,rfl,?_⟩
   rw[show its.toArray.any (eqU x)=its.any (eqU x) by simp,kI r fs]
   exact q
 . obtain ⟨its,r,pl,hz⟩:=I.tuple hq;refine SeqAt.notIn_tupleAt (eqU x) pl (λw hw=>kJ rx fx r fs w (by simpa using hw)) ⟨.bl _,H,I,rfl,?_⟩
   rw[show its.toArray.any (eqU x)=its.any (eqU x) by simp,kI r fs]
   exact q
theorem aCZ:fG X (.type "list") (λxs H Q=>∃ p ys,xs=[.ref p]/\(SqL X.K H p ys\/SqT X.K H p ys)/\∀ l,H l=none->Q (.ref l) (upd H l (.lst ys))):=by
 intro aA s σ H xs us Q I r h; obtain ⟨p, ys, rfl, hq, q⟩ := h; obtain ⟨u, rfl, rx⟩ := fU r; cases rx; have fin : ∀ (its : List Value), aN ys its → ys.length ≤ sizeLine → ∀ (h' : Heap) (c' : Nat), (∀ b o', s.heap.get? b = some o' → h'.get? b = some o') →
     h'.get? s.heap.objs.size=some { cls:=.type "list", dict:=none,data:=.seq its.toArray c',slots:=#[] } -> EP X aA σ Q (.ref s.heap.objs.size) { s with heap:=h' }:=λits r' hz h' c' kp e =>
  ⟨.ref s.heap.objs.size,_,I.laid (t':=s.toks) kp (aPC _) (show bS X.prog X.w _ h' _ (.lst ys) from ⟨hz,its,c',r',e⟩),rfl,q _ (I.hok.fresh (aPC _))⟩
 rcases hq with hq | hq
 . obtain ⟨its,r',pl,hz⟩:=I.list hq;have hlen:=r'.length;obtain ⟨o,ho,hc,n,hd⟩:=pl.isList;exact call_list_seq p (.inl rfl) ho hc hd (λh' c' kp e=>fin its r' hz h' c' kp e) (by simp only[aPI] <;> omega)
 . obtain ⟨its,r',pl,hz⟩:=I.tuple hq;have hlen:=r'.length;obtain ⟨o,ho,hc,n,hd⟩:=pl;exact call_list_seq p (.inr rfl) ho hc hd (λh' c' kp e=>fin its r' hz h' c' kp e) (by simp only[aPI] <;> omega)
theorem aC0:fG X (.type "tuple") (λxs H Q=>∃ p ys,xs=[.ref p]/\((SqL X.K H p ys/\∀ l,H l=none->Q (.ref l) (upd H l (.tup ys)))\/(SqT X.K H p ys/\Q (.ref p) H))):=by
 intro aA s σ H xs us Q I r h;obtain ⟨p,ys,rfl,h⟩:=h;obtain ⟨u,rfl,rx⟩:=fU r;cases rx;rcases h with ⟨hq,q⟩ | ⟨hq,q⟩
 . obtain ⟨its,r',pl,hz⟩:=I.list hq;have hlen:=r'.length;refine call_tuple_list pl.isList (λh' kp=>?_) (by simp only[aPI] <;> omega)
   have I1:Inv X aA σ H { s with heap:=h' }:=I.kept (t':=s.toks) kp
   have I2:Inv X aA σ (upd H h'.objs.size (.tup ys)) { s with heap:=h'.push { cls:=.type "tuple", data:=.seq its.toArray } } :=
    I1.laid (t':=s.toks) (λb o e=>hps e) (aPC _) (show bS X.prog X.w _ _ _ (.tup ys) from ⟨hz,its,r',fF.new _ _⟩)
   exact ⟨.ref h'.objs.size,_,I2,rfl,q _ (I1.hok.fresh (aPC _))⟩
 . obtain ⟨its,r',pl,hz⟩:=I.tuple hq;exact call_tuple_same pl ⟨.ref p,H,I,rfl,q⟩
def tyV(K:Fg)(T:String)(x:V)(H:Hp):Prop:=match x with
 | .str _=>T = "str"
 | .int _=>T = "int"
 | .ref p => (T = "list" ∧ ∃ xs, SqL K H p xs) ∨ (T = "tuple" ∧ ∃ o, K.lookup p = some o ∧ o.cls = .type "tuple" ∧ o.dict = none) ∨
     (T = "dict" /\ ((∃ kvs,H p=some (.dK kvs))\/∃ kvs,H p=some (.dT kvs)))\/(T = "set" /\ ∃ S n,H p=some (.set S n))
 | _=>False
theorem aC1{aA:LAO}{σ:St}{H:Hp}{s:Shared}{T:String}{x:V}{v:Value}(I:Inv X aA σ H s)(r:aM x v)(ty:tyV X.K T x H):s.TypeIs v T/\∀ a,v=.ref a->∃ ob,s.heap.get? a=some ob/\ob.dict=none:=by
 cases x with
 | str z =>
  obtain ⟨t,rfl⟩:=r;cases (show T = "str" from ty)
  exact ⟨typeIs_str s z t,λ_ e=>nomatch e⟩
 | int i =>
  obtain ⟨t,rfl⟩:=r;cases (show T = "int" from ty)
  exact ⟨typeIs_int s i t,λ_ e=>nomatch e⟩
 | ref p =>
  cases r;rcases ty with ⟨rfl,xs,hq⟩ | ⟨rfl,o,hk,hc,hd⟩ | ⟨rfl,hk⟩ | ⟨rfl,S,n,hk⟩
  . obtain ⟨its,_,pl,_⟩:=I.list hq;refine ⟨pl.isList.typeIs,λa e=>?_⟩;cases e;obtain ⟨o,n,e,c,hd,_⟩:=pl;exact ⟨o,e,hd⟩
  . refine ⟨⟨o,I.kIn p o hk,hc⟩,λa e=>?_⟩;cases e;exact ⟨o,I.kIn _ o hk,hd⟩
  . have z:∃ o,s.heap.get? p=some o/\o.ExactDict:=by
      rcases hk with ⟨kvs,hk⟩ | ⟨kvs,hk⟩
      . obtain ⟨_,_,_,_,o,_,_,e,ex,_⟩:=I.hok p _ hk;exact ⟨o,e,ex⟩
      . obtain ⟨_,_,_,_,o,_,_,e,ex,_⟩:=I.hok p _ hk;exact ⟨o,e,ex⟩
    obtain ⟨o,e,ex⟩:=z;refine ⟨⟨o,e,ex.1⟩,λa e2=>?_⟩;cases e2;exact ⟨o,e,ex.2.1⟩
  . obtain ⟨o,_,_,_,e,ex,_⟩:=I.hok p _ hk;refine ⟨⟨o,e,ex.1⟩,λa e2=>?_⟩;cases e2;exact ⟨o,e,ex.2.1⟩
 | _=>exact False.elim ty
def tBM(K:Fg)(T:String)(r:V->List V->Hp->VK->Prop)(to:TE)(t:TA):TE:=λσ H Q=>to σ H λx H1=>tyV K T x H1/\t σ H1 λxs H2=>r x xs H2 Q
variable {o e:Expr}{es:List Expr}{to:TE}{t:TA}{name:Str}{apos cpos:Pos}{T id:String}{r:V->List V->Hp->VK->Prop}
theorem tB(pa:PlainAttrs T)(slot:Slot T name id)(hty:typeOf (.builtin id)=pure (.type "method_descriptor"))(hm:MtR X id r)(ho:PE X o to)(ha:PA X (e::es) t)(hbase:attributeBase o name X.env (eval o X.env)=eval o X.env:=by rfl)(hfew:((backTo cpos (starEach (e::es) X.env)).all (λx=>!x.1)&&(backToKw cpos (keywordEach [] X.env)).all (λx=>x.1.isSome)&&decide ((e::es).length+([]:List Keyword).length+(if ([]:List Keyword).isEmpty then 0 else 1)<30))=true:=by rfl)(hline:(apos.endLine==cpos.line)=true:=by rfl)(hs:starEach (e::es) X.env=(false,eval e X.env)::starEach es X.env:=by rfl)(hplain:(backTo cpos (starEach es X.env)).any (·.1)=false:=by rfl):PE X (.Call (.Attribute o name apos) (e::es) [] cpos) (tBM X.K T r to t):=by
 intro aA s σ H Q I h;refine wpAny_Call_method_late hbase hfew hline rfl (thn (ho aA s σ H _ I h) λv s1 ⟨x,H1,I1,r1,ty,q1⟩=>?_);obtain ⟨h1,h2⟩:=aC1 I1 r1 ty;refine ⟨T,id,pa,slot,hty,h1,h2,?_⟩;have hA:=ha cpos aA s1 σ H1 _ I1 q1;rw[hs] at hA ⊢;refine Calls.callWith_builtin (by show (false||(backTo cpos (starEach es X.env)).any (·.1))=false;rw[hplain] <;> rfl) (Calls.evalArgs_plain ?_)
 exact thn hA λus s2 ⟨vs,H2,I2,r2,q2⟩=>hm aA s2 σ H2 x vs v us Q I2 r1 r2 q2
end
def MtM(X:Cx)(id:String)(r:V->List V->Hp->VK->Prop):Prop :=
 ∀ (aA:LAO) (s:Shared) (σ:St) (H:Hp) (x:V) (xs:List V) (v:Value) (us:List Value) (Q:VK),Inv X aA σ H s->aM x v->aN xs us->r x xs H Q ->
  wpAny (model X.prog X.w) X.A (call (.builtin id) (v::us)) (EP X aA σ Q) X.xe s
theorem aN.one:∀ {x:V} {us:List Value},aN [x] us->∃ u,us=[u]/\aM x u
 | _,_,.cons r .nil=>⟨_,rfl,r⟩
theorem aN.two:∀ {x y:V} {us:List Value},aN [x,y] us->∃ u v,us=[u,v]/\aM x u/\aM y v
 | _,_,_,.cons r (.cons q .nil)=>⟨_,_,rfl,r,q⟩
section
variable {X:Cx}{aA:LAO}{σ:St}{H:Hp}{s:Shared}{l b:Addr}{xs ys zs:List V}
theorem Inv.lset{its its':List Value}{n:Nat}{f:Array Value->Array Value}{t':Nat}(I:Inv X aA σ H s)(hH:H l=some (.lst xs))(e:s.heap.get? l=some { cls:=.type "list", data:=.seq its.toArray n })(hf:f its.toArray=its'.toArray)(hv:aN ys its')(hz:ys.length<=sizeLine):Inv X aA σ (upd H l (.lst ys)) { s with heap:=s.heap.update l (Obj.mapSeq f),toks:=t' }:=by
 have q:=PySem.IsL.update e f;rw[hf] at q;refine I.write (x:=l) (e:=l) (by rw[hH];exact trivial) (.inl rfl) (λb' u hb hu=>(aQF s.heap (Obj.mapSeq f) (Ne.symm hb)).trans hu) ⟨_,q⟩ ?_
 exact ⟨hz,its',_,hv,q⟩
theorem Inv.lstM(I:Inv X aA σ H s)(hH:H l=some (.lst xs)):xs.length<=sizeLine/\∃ (its:List Value) (n:Nat),aN xs its/\xs.length=its.length/\s.heap.get? l=some { cls:=.type "list", data:=.seq its.toArray n }:=by obtain ⟨z,its,n,r,e⟩:=I.hok l _ hH;exact ⟨z,its,n,r,r.length,e⟩
end
section
variable {X:Cx}
def aC2:V->List V->Hp->VK->Prop:=λx vs H Q=>∃ l xs y,x=.ref l/\vs=[y]/\H l=some (.lst xs)/\xs.length<sizeLine/\Q .non (upd H l (.lst (xs++[y])))
theorem pG:MtM X "list.append" aC2:=by
 intro aA s σ H x vs v us Q I rx rv h;obtain ⟨l,xs,y,rfl,rfl,hH,hz,q⟩:=h;cases rx;obtain ⟨u,rfl,ru⟩:=rv.one;obtain ⟨z,its,n,r,hl,e⟩:=I.lstM hH;refine aQG F.slot_list_append ⟨_,e,rfl⟩ F.entry_list_append (F.args_list_append_2 _ _) (PySem.list_append l its.toArray n u (by rw[aPI];omega)) ⟨e,?_⟩
 refine ⟨.non,_,I.lset (its':=its++[u]) hH e (by simp) (r.append (.cons ru .nil)) ?_,rfl,q⟩
 rw[aPT,List.length_singleton];omega
end
section
variable {prog:Program}{w:World}{A:Around}{E:VSP}{s:Shared}
end
section
variable {X:Cx}
end
section
variable {κ:Type}[DecidableEq κ]
def c9(kvs:List (κ×V))(k:κ):Option V:=(kvs.find? λkv=>decide (kv.1=k)).map (·.2)
def dA(kvs:List (κ×V))(k:κ)(v:V):List (κ×V) :=
 if (kvs.any λkv=>decide (kv.1=k))=true then kvs.map (λkv=>if kv.1=k then (kv.1,v) else kv) else kvs++[(k,v)]
theorem mQ{p:κ×V}{r:List (κ×V)}{k:κ}(e:p.1=k):c9 (p::r) k=some p.2:=by simp[c9,aQH,e]
theorem mR{p:κ×V}{r:List (κ×V)}{k:κ}(e:¬ p.1=k):c9 (p::r) k=c9 r k:=by simp[c9,aQH,e]
theorem tD(k:κ):∀ kvs:List (κ×V),(kvs.any λkv=>decide (kv.1=k))=(c9 kvs k).isSome
 | []=>rfl
 | p::r=>by
  rw[aQE];by_cases e:p.1=k
  . simp only[mQ e,aQI e,Bool.true_or,Option.isSome_some]
  . rw[mR e,aOC e,Bool.false_or];exact tD k r
theorem pH(kvs:List (κ×V))(k:κ)(v:V):(dA kvs k v).length<=kvs.length+1:=by
 unfold dA;split
 . rw[aPU];omega
 . rw[aPT,aQJ,List.length_nil];omega
theorem dS.isSome_eq{o:Option V}{u:Option Value}(r:dS o u):o.isSome=u.isSome:=by
 cases o with
 | none=>cases u with
  | none=>rfl
  | some _=>exact (show False from r).elim
 | some _=>cases u with
  | none=>exact (show False from r).elim
  | some _=>rfl
theorem KV.val{kvs:List (κ×V)}{vs:List (κ×Value)}(r:KV kvs vs)(k:κ):dS (c9 kvs k) (valueAt vs k):=by
 unfold KV at r
 induction r with
 | nil=>exact True.intro
 | @cons p q ps qs h t ih =>
  obtain ⟨h1,h2⟩:=h;by_cases e:p.1=k
  . have e':q.1=k:=h1.symm.trans e;have b:valueAt (q::qs) k=some q.2:=by simp[valueAt,aQH,e']
    rw[mQ e,b];exact h2
  . have e':¬ q.1=k:=λz=>e (h1.trans z);have b:valueAt (q::qs) k=valueAt qs k:=by simp[valueAt,aQH,e']
    rw[mR e,b];exact ih
theorem KV.any{kvs:List (κ×V)}{vs:List (κ×Value)}(r:KV kvs vs)(k:κ):(kvs.any λkv=>decide (kv.1=k))=vs.any λkv=>decide (kv.1=k):=by
 unfold KV at r
 induction r with
 | nil=>rfl
 | cons h t ih=>rw[aQE,aQE,ih,h.1]
theorem KV.repl{kvs:List (κ×V)}{vs:List (κ×Value)}(r:KV kvs vs)(k:κ){y:V}{u:Value}(ry:aM y u):KV (kvs.map λkv=>if kv.1=k then (kv.1,y) else kv) (vs.map λkv=>if kv.1=k then (kv.1,u) else kv):=by
 unfold KV at r ⊢
 induction r with
 | nil=>exact .nil
 | @cons p q ps qs h t ih =>
  rw[aQK,aQK];refine .cons ?_ ih;obtain ⟨h1,h2⟩:=h;by_cases e:p.1=k
  . rw[if_pos e,if_pos (h1.symm.trans e)];exact ⟨h1,ry⟩
  . rw[if_neg e,if_neg (λz=>e (h1.trans z))];exact ⟨h1,h2⟩
theorem KV.put{kvs:List (κ×V)}{vs:List (κ×Value)}(r:KV kvs vs)(k:κ){y:V}{u:Value}(ry:aM y u):KV (dA kvs k y) (stored vs k u):=by
 unfold dA stored;rw[r.any k];by_cases e:(vs.any λkv=>decide (kv.1=k))=true
 . rw[if_pos e,if_pos e];exact r.repl k ry
 . rw[if_neg e,if_neg e];exact Paired.snoc r ⟨rfl,ry⟩
theorem KV.length{kvs:List (κ×V)}{vs:List (κ×Value)}(r:KV kvs vs):kvs.length=vs.length:=aOE r
end
theorem iB{P:Program}{w:World}{k:Key}{u:Value}(r:aM (kV k) u):(bV P w).is k u=true:=by
 cases k with
 | inl i=>obtain ⟨t,e⟩:=(show ∃ t,u=Value.int i t from r);subst e;exact aAP P w i t
 | inr x=>obtain ⟨t,e⟩:=(show ∃ t,u=Value.str x t from r);subst e;exact aAQ P w x t
theorem tE{P:Program}{w:World}:∀ {ks:List Key} {us:List Value},aN (ks.map kV) us->ItemsAre (bV P w) ks us
 | [],_,r=>by rw[List.map_nil] at r;cases r;exact .nil
 | k::ks,_,r=>by
  rw[aQK] at r;cases r with
  | cons h t=>exact .cons (iB h) (tE t)
abbrev KT(H:Hp):List (List Key×V)->List (List Key×Addr×Value)->Prop:=Paired λp q=>p.1=q.1/\H q.2.1=some (.tup (p.1.map kV))/\aM p.2 q.2.2
theorem KT.val{H:Hp}{kvs:List (List Key×V)}{xs:List (List Key×Addr×Value)}(r:KT H kvs xs)(k:List Key):dS (c9 kvs k) ((atKey xs k).map (·.2)):=by
 induction r with
 | nil=>exact True.intro
 | @cons p q ps qs h t ih =>
  obtain ⟨h1,_,h2⟩:=h;by_cases e:p.1=k
  . have e':q.1=k:=h1.symm.trans e;have b:atKey (q::qs) k=some q.2:=by simp[atKey,aQH,e']
    rw[mQ e,b];exact h2
  . have e':¬ q.1=k:=λz=>e (h1.trans z);have b:atKey (q::qs) k=atKey qs k:=by simp[atKey,aQH,e']
    rw[mR e,b];exact ih
theorem KT.repl{H:Hp}{kvs:List (List Key×V)}{xs:List (List Key×Addr×Value)}(r:KT H kvs xs)(k:List Key){y:V}{u:Value}(ry:aM y u):KT H (kvs.map λkv=>if kv.1=k then (kv.1,y) else kv) (xs.map (putAt k u)):=by
 induction r with
 | nil=>exact .nil
 | @cons p q ps qs h t ih =>
  rw[aQK,aQK];refine .cons ?_ ih;obtain ⟨h1,h2,h3⟩:=h;unfold putAt;by_cases e:p.1=k
  . rw[if_pos e,if_pos (h1.symm.trans e)];exact ⟨h1,h2,ry⟩
  . rw[if_neg e,if_neg (λz=>e (h1.trans z))];exact ⟨h1,h2,h3⟩
theorem KT.put{H:Hp}{kvs:List (List Key×V)}{xs:List (List Key×Addr×Value)}(r:KT H kvs xs)(k:List Key){b:Addr}{y:V}{u:Value}(hb:H b=some (.tup (k.map kV)))(ry:aM y u):KT H (dA kvs k y) (storedH xs k b u):=by
 have e:(kvs.any λkv=>decide (kv.1=k))=(atKey xs k).isSome:=by rw[tD,(r.val k).isSome_eq,aQL]
 unfold dA storedH;rw[e];by_cases q:(atKey xs k).isSome=true
 . rw[if_pos q,if_pos q];exact r.repl k ry
 . rw[if_neg q,if_neg q];exact Paired.snoc r ⟨rfl,hb,ry⟩
theorem KT.keeps{H H':Hp}{kvs:List (List Key×V)}{xs:List (List Key×Addr×Value)}(r:KT H kvs xs)(ht:∀ b ys,H b=some (.tup ys)->H' b=some (.tup ys)):KT H' kvs xs :=
 Paired.mapP r λ_ _ z=>⟨z.1,ht _ _ z.2.1,z.2.2⟩
section
variable {P:Program}{w:World}{H:Hp}{h:Heap}{a:Addr}
theorem tF{u:HO}(ok:HOk P w H h)(e:Rd H a u):bS P w H h a u:=e.ok ok
theorem iY{kvs:List (Key×V)}(ok:HOk P w H h)(e:Rd H a (.dK kvs)):kvs.length<=sizeLine/\(a==sysModules)=false/\∃ vs,KV kvs vs/\h.DictOf (bV P w) a vs :=
 show bS P w H h a (.dK kvs) from tF ok e
theorem pI{kvs:List (Key×V)}(ok:HOk P w H h)(e:H a=some (.dK kvs)):kvs.length<=sizeLine/\(a==sysModules)=false/\∃ vs,KV kvs vs/\h.DictOf (bV P w) a vs:=iY ok (.inl e)
theorem kK{ks:List Key}(ok:HOk P w H h)(e:H a=some (.tup (ks.map kV))):(tupleKind (bV P w)).is h ks a:=by
 obtain ⟨_,its,r,o,h1,h2,_,n,h3⟩:=(show bS P w H h a (.tup (ks.map kV)) from ok a _ e)
 exact ⟨o,its.toArray,n,h1,h2,h3,by simpa using tE r⟩
theorem kL{kvs:List (List Key×V)}(ok:HOk P w H h)(e:Rd H a (.dT kvs)):kvs.length<=sizeLine/\(a==sysModules)=false/\∃ xs,KT H kvs xs/\h.DictOfH (tupleKind (bV P w)) a xs:=by
 obtain ⟨z,y,xs,r,o,es,ep,h1,h2,h3,h4,h5⟩:=(show bS P w H h a (.dT kvs) from tF ok e)
 refine ⟨z,y,xs,r,o,es,ep,h1,h2,h3,h4,λx hx=>?_,h5⟩;have all:∀ {l:List (List Key×V)} {m:List (List Key×Addr×Value)},KT H l m->∀ x∈m,(tupleKind (bV P w)).is h x.1 x.2.1:=by
  intro l m q
  induction q with
  | nil=>intro x hx;exact nomatch hx
  | @cons p q ps qs hq t ih =>
   intro x hx;rcases aOR.mp hx with e | hx
   . subst e;exact kK ok (by rw[<- hq.1];exact hq.2.1)
   . exact ih x hx
 exact all r x hx
theorem dt_of{kvs:List (List Key×V)}(ok:HOk P w H h)(e:H a=some (.dT kvs)):kvs.length<=sizeLine/\(a==sysModules)=false/\∃ xs,KT H kvs xs/\h.DictOfH (tupleKind (bV P w)) a xs:=kL ok (.inl e)
end
def gN(H:Hp)(a:Addr)(y:V)(r:Option V):Prop :=
 (∃ kvs k,Rd H a (.dK kvs)/\y=kV k/\r=c9 kvs k)\/∃ kvs k b,Rd H a (.dT kvs)/\y=.ref b/\H b=some (.tup (k.map kV))/\r=c9 kvs k
def DPut(H:Hp)(a:Addr)(y v:V)(H':Hp):Prop :=
 (∃ kvs k,H a=some (.dK kvs)/\y=kV k/\kvs.length<sizeLine/\H'=upd H a (.dK (dA kvs k v))) \/
 ∃ kvs k b,H a=some (.dT kvs)/\y=.ref b/\H b=some (.tup (k.map kV))/\kvs.length<sizeLine/\H'=upd H a (.dT (dA kvs k v))
section
variable {X:Cx}{aA:LAO}{σ:St}{H:Hp}{s:Shared}{a:Addr}{y v:V}{u r:Value}{o:Option V}{A:Around}{E:VSP}
theorem Inv.big(I:Inv X aA σ H s):sysModules<s.heap.objs.size:=by have h:mainGlobals<s.heap.objs.size:=(I.mod.glob.keeps I.bk).lt;exact Nat.lt_trans (by decide) h
theorem aC3{Q:VSP}(hu:A.units+1<cLine)(I:Inv X aA σ H s)(g:gN H a y (some v))(ry:aM y u)(h:∀ w' s',Inv X aA σ H s'->aM v w'->Q w' s'):wpAny (model X.prog X.w) A (getItem (.ref a) u) Q E s:=by
 rcases g with ⟨kvs,k,e,ey,l⟩ | ⟨kvs,k,b,e,ey,eb,l⟩
 . subst ey;obtain ⟨z,hd,vs,rel,dd⟩:=iY I.hok e;obtain ⟨w',hw,rw'⟩:=dS.some_of (v:=v) (o:=valueAt vs k) (by rw[l];exact rel.val k)
   exact wpAny_getItem_of (iB ry) dd.mapOf hw (h w' _ (I.tok _) rw')
 . subst ey;cases (show u=Value.ref b from ry)
   obtain ⟨z,hd,xs,rel,dd⟩:=kL I.hok e;obtain ⟨w',hw,rw'⟩:=dS.some_of (v:=v) (o:=(atKey xs k).map (·.2)) (by rw[l];exact rel.val k)
   obtain ⟨p,hp,hp2⟩:=aQM.mp hw;refine wpAny_getItem_heap (aQN hu) (kK I.hok eb) dd hp ?_;rw[hp2];exact h w' _ (I.tok _) rw'
theorem d_in{Q:VSP}(hu:A.units+1<cLine)(I:Inv X aA σ H s)(g:gN H a y o)(ry:aM y u)(h:∀ s',Inv X aA σ H s'->Q (.bool o.isSome) s'):wpAny (model X.prog X.w) A (compareOp .In u (.ref a)) Q E s:=by
 rcases g with ⟨kvs,k,e,ey,l⟩ | ⟨kvs,k,b,e,ey,eb,l⟩
 . subst ey;obtain ⟨z,hd,vs,rel,dd⟩:=iY I.hok e;refine wpAny_in_of (iB ry) hd dd.mapOf ?_;rw[<- (rel.val k).isSome_eq,<- l];exact h _ (I.tok _)
 . subst ey;cases (show u=Value.ref b from ry)
   obtain ⟨z,hd,xs,rel,dd⟩:=kL I.hok e;refine wpAny_in_heap (aQN hu) (kK I.hok eb) hd dd ?_;have q:=(rel.val k).isSome_eq;rw[aQL] at q;rw[<- q,<- l];exact h _ (I.tok _)
theorem aC4{Q:VSP}(hu:A.units+1<cLine)(I:Inv X aA σ H s)(g:gN H a y o)(ry:aM y u)(h:∀ s',Inv X aA σ H s'->Q (.bool (!o.isSome)) s'):wpAny (model X.prog X.w) A (compareOp .NotIn u (.ref a)) Q E s:=by
 rcases g with ⟨kvs,k,e,ey,l⟩ | ⟨kvs,k,b,e,ey,eb,l⟩
 . subst ey;obtain ⟨z,hd,vs,rel,dd⟩:=iY I.hok e;refine wpAny_notIn_of (iB ry) hd dd.mapOf ?_;rw[<- (rel.val k).isSome_eq,<- l];exact h _ (I.tok _)
 . subst ey;cases (show u=Value.ref b from ry)
   obtain ⟨z,hd,xs,rel,dd⟩:=kL I.hok e;refine wpAny_notIn_heap (aQN hu) (kK I.hok eb) hd dd ?_;have q:=(rel.val k).isSome_eq;rw[aQL] at q;rw[<- q,<- l];exact h _ (I.tok _)
theorem tI{h':Heap}{t':Nat}{ob:HO}(I:Inv X aA σ H s)(mu:Mut (H a))(hs:Heap.SameBut a s.heap h')(he:∃ q,h'.get? a=some q)(new:bS X.prog X.w (upd H a ob) h' a ob):Inv X aA σ (upd H a ob) { s with heap:=h',toks:=t' } :=
 I.write (x:=a) (e:=a) mu (.inl rfl) (λb q hb z=>(hs.2 b hb).trans z) he new
theorem pJ{P:Program}{w:World}{H':Hp}{h':Heap}{kvs:List (Key×V)}{vs:List (Key×Value)}(z:kvs.length<=sizeLine)(hd:(a==sysModules)=false)(rel:KV kvs vs)(dd:h'.DictOf (bV P w) a vs):bS P w H' h' a (.dK kvs):=⟨z,hd,vs,rel,dd⟩
theorem aC5{H':Hp}{Q:Unit->Shared->Prop}(hu:A.units+1<cLine)(I:Inv X aA σ H s)(g:DPut H a y v H')(ry:aM y u)(rv:aM v r)(h:∀ s',Inv X aA σ H' s'->Q () s'):wpAny (model X.prog X.w) A (setItem (.ref a) u r) Q E s:=by
 rcases g with ⟨kvs,k,e,ey,l,eH⟩ | ⟨kvs,k,b,e,ey,eb,l,eH⟩
 . subst ey eH;obtain ⟨z,hd,vs,rel,dd⟩:=pI I.hok e;have hz:vs.length<=sizeLine:=by rw[<- rel.length];exact z
   have hl:(dA kvs k v).length<=sizeLine:=by have:=pH kvs k v;omega
   refine wpAny_setItem_pairs (hsz:=hz) (iB ry) dd λh' dd' hs=>h _ ?_;have he:∃ q,h'.get? a=some q:=let ⟨q,_,_,hq,_⟩:=dd';⟨q,hq⟩
   exact tI I (by rw[e];exact True.intro) hs he (pJ hl hd (rel.put k rv) dd')
 . subst ey eH;cases (show u=Value.ref b from ry)
   obtain ⟨z,hd,xs,rel,dd⟩:=dt_of I.hok e;have hz:xs.length<=sizeLine:=by rw[<- aOE rel];exact z
   have hl:(dA kvs k v).length<=sizeLine:=by have:=pH kvs k v;omega
   refine wpAny_setItem_heap (hsz:=hz) (aQN hu) (kK I.hok eb) dd λh' dd' hs=>h _ ?_;obtain ⟨q,es,ep,hq,h2,h3,h4,_,h5⟩:=dd';refine tI I (by rw[e];exact True.intro) hs ⟨q,hq⟩ ⟨hl,hd,_,(rel.put k eb rv).keeps λc ys ec=>?_,q,es,ep,hq,h2,h3,h4,h5⟩
   rw[aO (ne_of ec e (λz=>nomatch z))];exact ec
end
section
variable {X:Cx}{aA:LAO}{σ:St}{H:Hp}{s:Shared}{a:Addr}{kvs:List (Key×V)}{k:Key}{u:Value}{A:Around}{E:VSP}
end
def pK(i:Expr):Prop:=∀ ov iv,subscripted i false ov iv=operate [ov,iv] (getItem ov iv)
theorem aC6{prog:Program}{w:World}{A:Around}{E:VSP}{s:Shared}{env:Env}{value slice:Expr}{pos:Pos}{T id:String}{Q:VSP}(hl:typeLookup (.type T) "__getitem__" = pure (some (.builtin id)))(hs:pK slice)(h:wpAny (model prog w) A (eval value env) (λo s₁=>wpAny (model prog w) A (eval slice env) (λi s₂=>s₂.TypeIs o T/\wpAny (model prog w) A (getItem o i) Q E s₂) E s₁) E s):wpAny (model prog w) A (eval (.Subscript value slice pos) env) Q E s:=by
 refine Subscript_ (aOY h (λo s₁ h₁=>aOY h₁ (λi s₂ h₂=>?_) λ_ _ x=>x) λ_ _ x=>x);obtain ⟨hT,h₂⟩:=h₂;unfold subscriptTail;refine aO3 ?_;rw[getitemInPython_of_ne hT.not_modules];refine aO3 (aQO hT hl ?_);have fin:wpAny (model prog w) A (subscripted slice false o i) (λr s₃=>wpAny (model prog w) A (letTemporaryGo value o r >>= λ_=>pure r) Q E s₃) E s₂:=by rw[hs o i];exact wpAny_operating (aOY h₂ (λr s₃ h₃=>aO3 (wpAny_letTemporaryGo (aO5 h₃))) λ_ _ x=>x)
 first
  | exact aO5 (aO3 fin)
  | exact aO3 (aO5 (aO3 fin))
  | exact aO3 fin
theorem aC7{X:Cx}{aA:LAO}{σ:St}{H:Hp}{s:Shared}{a:Addr}{y:V}{o:Option V}(I:Inv X aA σ H s)(g:gN H a y o):s.TypeIs (.ref a) "dict" := by
 rcases g with ⟨kvs,k,e,_,_⟩ | ⟨kvs,k,b,e,_,_,_⟩
 . obtain ⟨_,_,vs,_,dd⟩:=iY I.hok e;exact dd.typeIs
 . obtain ⟨_,_,xs,_,dd⟩:=kL I.hok e;exact dd.typeIs
def tJ(td ty tv:TE):TS:=λD σ H=>tv σ H λv H1=>td σ H1 λx H2=>ty σ H2 λy H3=>∃ a H4,x=.ref a/\DPut H3 a y v H4/\D.nx σ H4
section
variable {X:Cx}{o i e value:Expr}{pos pos' tpos:Pos}{td ty tv:TE}
theorem aC8(hu:X.A.units+1<cLine)(ho:PE X o td)(hi:PE X i ty)(hv:PE X value tv)(hs:swapsWith value (some (.Subscript o i pos')) pos.line X.env=pure false):PS X (.Assign [.Subscript o i pos'] value pos) (tJ td ty tv):=by intro aA s σ H D I h;refine wpAny_Assign_Subscript (thn (hv aA s σ H _ I h) λr s1 ⟨v,H1,I1,rv,q1⟩=>thn (ho aA s1 σ H1 _ I1 q1) λu s2 ⟨x,H2,I2,rx,q2⟩=>thn (hi aA s2 σ H2 _ I2 q2) λiv s3 ⟨y,H3,I3,ry,a,H4,ex,g,q3⟩=>?_) hs;subst ex;obtain rfl:u=Value.ref a:=rx;exact aC5 hu I3 g ry rv λs4 I4=>⟨σ,H4,I4,q3⟩
end
theorem aC9{P:Program}{w:World}{H:Hp}(h:Heap)(hb:sysModules<h.objs.size):bS P w H (h.push { cls:=.type "dict", data:=.dict #[] }) h.objs.size (.dK []) :=
 ⟨aQP _,aOD.mpr (Ne.symm (aOK hb)),[],.nil,Heap.DictOf.new h⟩
def aDA:TE:=λ_ H Q=>∀ p,H p=none->Q (.ref p) (upd H p (.dK []))
section
variable {X:Cx}{pos:Pos}
theorem aDB:PE X (.Dict [] [] pos) aDA:=λaA s σ H Q I h =>
 wpAny_Dict_empty ⟨.ref s.heap.objs.size,_,I.laid (a:=s.heap.objs.size) (o:=.dK []) (t':=s.toks) (λ_ _ q=>hps q) (aPC _) (aC9 s.heap I.big),rfl,h _ (I.hok.fresh (aPC _))⟩
end
section
variable {X:Cx}{aA:LAO}{σ:St}{H:Hp}{s:Shared}{a:Addr}{y d:V}{u r:Value}{o:Option V}{A:Around}{E:VSP}
end
section
variable {X:Cx}{o e f:Expr}{apos cpos:Pos}{td ty tx:TE}
end
section
variable {X:Cx}{aA:LAO}{σ:St}{H:Hp}{s:Shared}{a:Addr}{kvs:List (Key×V)}{A:Around}{E:VSP}
theorem aDC{Q:VSP}(I:Inv X aA σ H s)(e:Rd H a (.dK kvs))(h:∀ p s',H p=none->Inv X aA σ (upd H p (.dK kvs)) s'->Q (.ref p) s'):wpAny (model X.prog X.w) A (call (.type "dict") [.ref a]) Q E s:=by
 obtain ⟨z,hd,vs,rel,dd⟩:=iY I.hok e;refine kt_call_dict hd dd (by rw[<- rel.length];exact z) λh' dd' hs=>?_
 refine h _ _ (I.hok.fresh (aPC _)) (I.laid (a:=s.heap.objs.size) (o:=.dK kvs) (t':=s.toks) (λb q hq=>?_) (aPC _) (pJ z (aOD.mpr (Ne.symm (aOK I.big))) rel dd'));exact (hs.2 b (aOK (aOH hq))).trans (hps hq)
end
section
variable {X:Cx}{aA:LAO}{σ:St}{H:Hp}{s:Shared}{a:Addr}{y:V}{u:Value}{A:Around}{E:VSP}
end
end L2
namespace Att
open PySem PySem.W PySem.Calls PyProof.Rows
theorem aDD{P:Params}{h:Heap}:∀ (ns:List Int) (vs:List Value),WellAll P h vs (ns.map WData.int)->IntsAre vs ns:=by
 intro ns
 induction ns with
 | nil=>intro vs w;rw[List.map_nil] at w;cases w;exact .nil
 | cons n ns ih =>
  intro vs w;rw[aQK] at w;cases w with
  | cons a b=>cases a;exact .cons _ _ (ih _ b)
theorem aDE{l:OpenLaw}{n:Nat}(hn:l.most=some n){P:Params}{h:Heap}{args:List WData}{vals:List Value}(hpre:l.row.toRowW.claim.pre args=true)(hwl:WellAll P h vals args):∃ a vs ns,vals=[Value.ref a]/\args=[WData.list (ns.map WData.int)]/\h.get? a=some { cls:=.type "list", data:=.seq vs.toArray }/\IntsAre vs ns/\ns.length<=n:=by
 have hsh:WShape.hasAll [] args [.list .int]=true:=(pre_splitW hpre).1;have hc:l.pre.holds [] { args:=args }=true:=(pre_splitW hpre).2;obtain ⟨d,r,rfl,h1,h2⟩:=hasAllW_cons hsh;obtain rfl:=hasAllW_nil h2;obtain ⟨xs,rfl,h3⟩:=hasW_list h1;obtain ⟨ns,rfl⟩:=items_int h3;have hlen:ns.length<=n:=by
  unfold OpenLaw.pre at hc;have h4:(WTm.not (.lt (.lit (.int (n:Int))) (.len (.arg 0)))).holds [] { args:=[.list (ns.map .int)] }=true:=by have h4:=(holds_andW hc).1;rw[hn] at h4;exact h4
  have h5:=condW_of h4 (w_not (w_lt w_lit (w_len_list (w_arg rfl))));rw[aPU] at h5;refine Nat.le_of_not_lt λq=>?_;have q':(n:Int)<((ns.length:Nat):Int):=by omega
  first
   | (rw[aQI q'] at h5;exact absurd h5 (by decide))
   | (simp at h5;omega)
 cases hwl with
 | cons w1 w2 =>
  cases w2;cases w1 with
  | list ho hall=>exact ⟨_,_,ns,rfl,rfl,ho,aDD ns _ hall,hlen⟩
theorem aDF(l:OpenLaw)(args:List WData):l.row.toRowW.claim.post args (.bool true) args=true :=
 postW_of (r:=l.row.toRowW) (X:=(true==true))
  (show WShape.has [] (.bool true) .bool=true by first | rfl | decide | simp[WShape.has,WShape.arms,WShape.armsAll])
  (show (WTm.eq .res (.lit (.bool true))).value [] { args:=args,res:=some (.bool true),after:=args }=some (.bool (true==true)) from w_eq_bool (w_res rfl) w_lit) rfl
theorem aDG{l:OpenLaw}{n:Nat}{q:Program}{loose:List Str}{XP:(Str->Option Value)->Heap->Prop}{YP:World->Heap->Prop}{d:DefRec}(hn:l.most=some n)(hdf:d.params.defaults=[])(call:∀ (w:World) (s₀ s₁:Shared) (mg mb:SOV) (fa:Addr) (o:Obj) (pm cd doc:Value) (a:Addr) (vs:List Value) (ns:List Int),Ground q loose [] XP w s₀ mg mb s₁.heap->YP w s₁.heap->s₁.heap.get? fa=some o->o.data=.func (docDef d.name d.params d.body d.scope pm cd doc)->s₁.heap.CodeRec cd d.name->mg d.name=some (.ref fa)->s₁.heap.get? a=some { cls:=.type "list", data:=.seq vs.toArray } -> IntsAre vs ns->ns.length<=n->s₁.gens = #[]->codeAny (model l.prog w) callerA (.call (.ref fa) ⟨[.ref a],[]⟩) (λr s'=>r=.ok (.ret (.bool true))/\OldK s₁.heap s'.heap/\s'.os=s₁.os/\AllBare s'.gens) s₁):WalkO q loose XP YP l.row.toRowW d [] (λf vs=>PySem.call f vs):=by intro w s₀ s₁ mg mb G Y fa o pm cd doc dV kV ho hd hcd hD hmg hg args vals as hpre hlay hrd hwl hlo;obtain rfl:dV=.none:=Dflts.none hD hdf;obtain rfl:kV=.none:=Dflts.noKw hD;obtain ⟨a,vs,ns,rfl,rfl,hobj,hints,hlen⟩:=aDE hn hpre hwl;refine enter_call (codeAny_mono (call w s₀ s₁ mg mb fa o pm cd doc a vs ns G Y ho (fd_plain hd) hcd hmg hobj hints hlen hg) λr s' hq=>?_);obtain ⟨rfl,h2,h3,h4⟩:=hq;exact ⟨.inl ⟨.bool true,.bool true,[],rfl,λ_=>rfl,.bool true,aDF l _,λ_=>⟨List.Pairwise.nil,λ_ hm=>(nomatch hm)⟩⟩,h2,h3,h4⟩
section
variable {prog:Program}{w:World}{A:Around}{E:VSP}{s:Shared}{K:Frag}
def ledger(h:Heap)(L d:Addr):LAO:=(List.range h.objs.size).filterMap λa=>if a=L\/a=d then none else (h.get? a).map λo=>(a,o)
end
end Att
namespace L2
open PySem PySem.Spec PyProof.Rows
theorem tK:∀ {vs:List Value} {ns:List Int},IntsAre vs ns->aN (ns.map V.int) vs
 | _,_,.nil=>.nil
 | _,_,.cons n t h=>.cons ⟨t,rfl⟩ (tK h)
def pL(H:Hp):Prop:=∀ b,H b=none\/∃ o xs,H b=some (.frz o (.lst xs))
theorem aDH{P:Program}{w:World}{K:Fg}{mg mb:SOV}{CX:CXT}{k:Nat}{fa a:Addr}{fd:FuncData}{x:Str}{sp:Sp}{s₁:Shared}{vs:List Value}{ns:List Int}(KX:K.In s₁.heap)(hns:s₁.heap.Ns mainGlobals mg)(hb:s₁.heap.Ns builtinsNs mb)(hbb:∀ x:Str,x ≠ "__name__" -> mb x=bootBuiltins x)(hlim:s₁.heap.NoLimit)(hg:s₁.gens = #[])(ha:s₁.heap.get? a=some { cls:=.type "list", data:=.seq vs.toArray })(hi:IntsAre vs ns)(hl:ns.length<=sizeLine)(hr:cK k callerA)(F:∀ base:Heap,K.In base->base.Ns mainGlobals mg->c8 P w K mg base CX k fa fd [x] sp)(hbind:∀ (s:Shared) (u:Value),BindsTo s fd ⟨[u],[]⟩ [(x,u)])(hsp:∀ H:Hp,pL H->SqL K H a (ns.map V.int)->sp [.ref a] H (λv _=>v=.bl true) λ_ _ _=>False)(hCX:∀ H e s',CX [] H s₁ (λ_ _ _=>False) e s'->False):codeAny (model P w) callerA (.call (.ref fa) ⟨[.ref a],[]⟩) (λr s'=>r=.ok (.ret (.bool true))/\OldK s₁.heap s'.heap/\s'.os=s₁.os/\AllBare s'.gens) s₁:=by
 have rv := tK hi; have lenV := hi.length; have core : ∀ H : Hp, pL H → SqL K H a (ns.map V.int) → HOk P w H s₁.heap → (∀ b, H b ≠ none → b = a) → (H a ≠ none → K.lookup a = none) →
     codeAny (model P w) callerA (.call (.ref fa) ⟨[.ref a],[]⟩) (λr s'=>r=.ok (.ret (.bool true))/\OldK s₁.heap s'.heap/\s'.os=s₁.os/\AllBare s'.gens) s₁:=by
  intro H hO hS hok hA hK;have base_of:∀ {b:Addr} {o:Obj},s₁.heap.get? b=some o->H b=none->(fT s₁.heap H).get? b=some o:=λe n=>aAS e n;have noA:∀ {b:Addr} {o:Obj} {es:Array DictEntry} {ep:Nat},s₁.heap.get? b=some o->o.data=.dict es ep->H b=none:=λ{b o es ep} e d=>by
   cases q:H b with
   | none=>rfl
   | some u =>
    have e':b=a:=hA b (by rw[q];simp)
    subst e';rw[ha] at e;cases e;have d':Data.seq vs.toArray _=Data.dict es ep:=d;cases d'
  have nsK:∀ {b:Addr} {m:SOV},s₁.heap.Ns b m->(fT s₁.heap H).Ns b m:=λ{b m} ⟨o,es,ep,e,d,r⟩=>⟨o,es,ep,base_of e (noA e d),d,r⟩;have hKb:K.In (fT s₁.heap H):=λb o e=>base_of (KX b o e) (by
   cases q:H b with
   | none=>rfl
   | some u =>
    have e':b=a:=hA b (by rw[q];simp)
    subst e'
    rw[hK (by rw[q];simp)] at e;cases e)
  have hM:Mod K mg (fT s₁.heap H):=⟨hKb,nsK hns,⟨mb,nsK hb,hbb⟩,let ⟨mc,h1,h2⟩:=hlim;⟨mc,nsK h1,h2⟩⟩
  have e0:mK P w K mg (fT s₁.heap H) callerA [] s₁ H:=⟨rfl,hM,λb o e=>aAT e,Nat.le_of_eq (aAR _ _),trivial,λb hb=>absurd (show b∈([]:List Addr) from hb) (by simp),hok,.of_eq hg⟩
  refine codeAny_mono ((F _ hKb (nsK hns)).run callerA [] s₁ H ⟨[.ref a],[]⟩ [.ref a] [.ref a] _ _ hr e0 (hbind s₁ (.ref a)) (.cons rfl .nil) (hsp H hO hS)) λr s' h=>?_;cases r with
  | error e=>exact (hCX H e s' h).elim
  | ok fl =>
   cases fl with
   | next=>exact False.elim h
   | brk=>exact False.elim h
   | cont=>exact False.elim h
   | ret u =>
    obtain ⟨v,H',os,bare,un,hok',r',q⟩:=h;have q':v=.bl true:=q;subst q';obtain rfl:u=Value.bool true:=r';refine ⟨rfl,OldK.of_keep λb o e=>?_,os,bare⟩;cases q:H b with
    | none=>exact un.keep b o e q (by intro z;exact absurd (show b∈([]:List Addr) from z) (by simp)) (by simp)
    | some u =>
     rcases hO b with z | ⟨ob,xs,z⟩
     . rw[q] at z;cases z
     . have z2:=un.frzs b ob _ z;obtain ⟨e1,_⟩:=hok b _ z;obtain ⟨e2,_⟩:=hok' b _ z2;rw[e] at e1;cases e1;exact e2
 cases hk:K.lookup a with
 | some o=>have e:=KX a o hk;rw[ha] at e;cases e;refine core (λ_=>none) (λ_=>.inl rfl) (.inr ⟨_,vs.toArray,_,hk,rfl,rfl,rfl,by rw[aPI,lenV];exact hl,by simpa using rv⟩) (λb u z=>by have z':(none:Option HO)=some u:=z;cases z') (λb z=>absurd rfl z) λz=>absurd rfl z
 | none =>
  refine core (λb=>if b=a then some (.frz { cls:=.type "list", data:=.seq vs.toArray } (.lst (ns.map V.int))) else none) (λb=>?_) (.inl (.inr ⟨{ cls:=.type "list", data:=.seq vs.toArray },if_pos rfl⟩)) (λb u z=>?_) (λb z=>?_) λ_=>hk
  . by_cases hb:b=a
    . exact .inr ⟨_,_,if_pos hb⟩
    . exact .inl (if_neg hb)
  . by_cases hb:b=a
    . have z':=(if_pos hb).symm.trans z;cases z';subst hb;exact ⟨ha,by rw[aPU];exact hl,vs,_,rv,ha⟩
    . have z':=(if_neg hb).symm.trans z;cases z'
  . by_cases hb:b=a
    . exact hb
    . exact absurd (if_neg hb) z
abbrev KOf{K:Fg}{h:Heap}(_:K.In h):Fg:=K
theorem aDI{l:PySem.W.OpenLaw}{n k:Nat}{q:Program}{loose:List Str}{XP:(Str->Option Value)->Heap->Prop}{YP:World->Heap->Prop}{d:DefRec}{K:Params->Fg}{CX:World->CXT}{sp:World->Sp}{x:Str}(hn:l.most=some n)(hn2:n<=sizeLine)(hdf:d.params.defaults=[])(hr:cK k callerA)(hY:∀ (w:World) (h:Heap),YP w h->(K w.params).In h)(F:∀ (w:World) (mg:SOV) (fa:Addr) (h:Heap),(K w.params).In h->h.Ns mainGlobals mg->mg d.name=some (.ref fa)->∃ fd:FuncData,(∀ (s:Shared) (u:Value),BindsTo s fd ⟨[u],[]⟩ [(x,u)])/\∀ base:Heap,(K w.params).In base->base.Ns mainGlobals mg->c8 l.prog w (K w.params) mg base (CX w) k fa fd [x] (sp w))(hsp:∀ (w:World) (H:Hp) (a:Addr) (ns:List Int),ns.length<=n->pL H->SqL (K w.params) H a (ns.map V.int)->sp w [.ref a] H (λv _=>v=.bl true) λ_ _ _=>False)(hCX:∀ (w:World) (H:Hp) (s:Shared) (e:Value) (s':Shared),CX w [] H s (λ_ _ _=>False) e s'->False):PySem.W.WalkO q loose XP YP l.row.toRowW d [] (λf vs=>PySem.call f vs):=by refine Att.aDG hn hdf λw s₀ s₁ mg mb fa o pm cd doc a vs ns G Y ho hd hcd hmg hobj hints hlen hg=>?_;have KX:=hY w _ Y;obtain ⟨fd,hb,hF⟩:=F w mg fa _ KX G.T.g hmg;exact aDH KX G.T.g G.T.b G.T.builtins G.T.nolimit hg hobj hints (aOP hlen hn2) hr hF hb (λH hO hS=>hsp w H a ns hlen hO hS) λH e s'=>hCX w H s₁ e s'
def mS(s:Stmt):Arguments:=match s with
 | .FunctionDef _ a _ _ _ _ _ _ _ _=>a
 | _=>{ posonlyargs:=[],args:=[],vararg:=none,kwonlyargs:=[],kw_defaults:=[],kwarg:=none,defaults:=[] }
def iZ(s:Stmt):List Stmt:=match s with
 | .FunctionDef _ _ b _ _ _ _ _ _ _=>b
 | _=>[]
def e6(s:Stmt):Scope:=match s with
 | .FunctionDef _ _ _ _ _ _ sc _ _ _=>sc
 | _=>{ kind:=.function,names:=[],isGenerator:=false,isCoroutine:=false }
structure Fun(K:Fg)(x aP:Str)(st:Stmt)(f:Addr)(fd:FuncData):Prop where
 ex:∃ (oc:Value) (od:Option Addr) (kV doc pm:Value) (an:Option Addr) (cdv ct:Value) (osl:Array (Option Value)),
  fd=PySem.W.fnOf x aP (mS st) (iZ st) (e6 st) .none kV doc pm an cdv ct/\K.lookup f=some ⟨oc,od,.func fd,osl⟩/\PySem.W.codeIn K cdv aP=true
 kp:PySem.W.keepIn K (.ref f)=true
section
variable {P:Program}{w:World}{K:Fg}{mg:SOV}{base:Heap}
theorem aDJ{x aP:Str}{st:Stmt}{f:Addr}{oc:Value}{od an:Option Addr}{osl:Array (Option Value)}{kV doc pm cdv ct:Value}(l:K.lookup f=some ⟨oc,od,.func (PySem.W.fnOf x aP (mS st) (iZ st) (e6 st) .none kV doc pm an cdv ct),osl⟩)(c:PySem.W.codeIn K cdv aP=true)(k:PySem.W.keepIn K (.ref f)=true):Fun K x aP st f (PySem.W.fnOf x aP (mS st) (iZ st) (e6 st) .none kV doc pm an cdv ct):=⟨⟨oc,od,kV,doc,pm,an,cdv,ct,osl,rfl,l,c⟩,k⟩
end
section
variable {X:Cx}
end
def aH(H H':Hp):Prop:=∀ b o,H b=some o->H' b=some o
theorem aH.refl(H:Hp):aH H H:=λ_ _ h=>h
theorem aH.trans{H H1 H2:Hp}(a:aH H H1)(b:aH H1 H2):aH H H2:=λc o h=>b c o (a c o h)
theorem aH.free{H H':Hp}(e:aH H H'){l:Addr}(h:H' l=Option.none):H l=Option.none:=by
 cases q:H l with
 | none=>rfl
 | some o=>rw[e l o q] at h;cases h
theorem aH.seq{K:Fg}{H H':Hp}{a:Addr}{xs:List V}(e:aH H H')(h:SqL K H a xs):SqL K H' a xs:=by
 rcases h with (h | ⟨o,h⟩) | h
 . exact .inl (.inl (e _ _ h))
 . exact .inl (.inr ⟨o,e _ _ h⟩)
 . exact .inr h
section
variable {κ:Type}[DecidableEq κ]
end
end L2
namespace D3
open PySem PySem.Spec PyProof.Rows L2
inductive D where
 | non | bl (b:Bool) | int (i:Int) | str (x:Str) | tup (xs:List D) | lst (xs:List D) | dct (kvs:List (Key×D)) | ty (n:String) | ob (a:Addr) | ins (c:Str) (fs:List (Str×D)) | fn (x:Str) | exn (c:Str) | set (ks:List Key)
inductive Md where | fz | fr | bo
 deriving DecidableEq
inductive Res where
 | ok (m:Md) (d:D) | exc (c:Str) | stuck
def eJ(a C:Addr):HO:=.ext λh=>∃ o,h.get? a=some o/\o.cls=.ref C
def tL(S:Key->Bool)(ks:List Key):Prop:=ks.Nodup/\∀ k,S k=true↔k∈ks
mutual
def aF(K:Fg)(F:Hp):D->V->Prop
 | .non,v=>v=.non
 | .bl b,v=>v=.bl b
 | .int i,v=>v=.int i
 | .str x,v=>v=.str x/\x.length<=sizeLine/\PyData.strOk x=true
 | .tup ds,v=>∃ a xs,v=.ref a/\SqT K F a xs/\aB K F ds xs
 | .lst ds,v=>∃ a xs,v=.ref a/\SqL K F a xs/\aB K F ds xs
 | .dct kvs,v=>∃ a xs,v=.ref a/\F a=some (.dK xs)/\aL K F kvs xs
 | .ty n,v=>v=.ty n
 | .ob a,v=>v=.ref a
 | .ins c fs,v=>∃ a C dx gs,v=.ref a/\PySem.W.nsIn K mainGlobals c=some (some (.ref C))/\F a=some (.ins C dx gs)/\e9 K F fs gs
 | .fn x,v=>∃ a,v=.ref a/\PySem.W.nsIn K mainGlobals x=some (some (.ref a))
 | .exn c,v=>∃ a C,v=.ref a/\PySem.W.nsIn K mainGlobals c=some (some (.ref C))/\F a=some (eJ a C)
 | .set ks,v=>∃ a S,v=.ref a/\F a=some (.set S ks.length)/\tL S ks
def aB(K:Fg)(F:Hp):List D->List V->Prop
 | [],xs=>xs=[]
 | d::ds,xs=>∃ y ys,xs=y::ys/\aF K F d y/\aB K F ds ys
def aL(K:Fg)(F:Hp):List (Key×D)->List (Key×V)->Prop
 | [],xs=>xs=[]
 | (k,d)::ds,xs=>∃ y ys,xs=(k,y)::ys/\aF K F d y/\aL K F ds ys
def e9(K:Fg)(F:Hp):List (Str×D)->List (Str×V)->Prop
 | [],xs=>xs=[]
 | (k,d)::ds,xs=>∃ y ys,xs=(k,y)::ys/\aF K F d y/\e9 K F ds ys
end
theorem aH.seqT{K:Fg}{H H':Hp}{a:Addr}{xs:List V}(e:aH H H')(h:SqT K H a xs):SqT K H' a xs:=by
 rcases h with (h | ⟨o,h⟩) | h
 . exact .inl (.inl (e _ _ h))
 . exact .inl (.inr ⟨o,e _ _ h⟩)
 . exact .inr h
section
variable {K:Fg}{F F':Hp}
mutual
theorem aF.mono(s:aH F F'):∀ (d:D) (v:V),aF K F d v->aF K F' d v
 | .non,_,h=>by simpa only [aF] using h
 | .bl _,_,h=>by simpa only [aF] using h
 | .int _,_,h=>by simpa only [aF] using h
 | .str _,_,h=>by simpa only [aF] using h
 | .tup ds,v,h=>by simp only[aF] at h ⊢;obtain ⟨a,xs,e,q,r⟩:=h;exact ⟨a,xs,e,aH.seqT s q,aB.mono s ds xs r⟩
 | .lst ds,v,h=>by simp only[aF] at h ⊢;obtain ⟨a,xs,e,q,r⟩:=h;exact ⟨a,xs,e,s.seq q,aB.mono s ds xs r⟩
 | .dct ds,v,h=>by simp only[aF] at h ⊢;obtain ⟨a,xs,e,q,r⟩:=h;exact ⟨a,xs,e,s _ _ q,aL.mono s ds xs r⟩
 | .ty _,_,h=>by simpa only [aF] using h
 | .ob _,_,h=>by simpa only [aF] using h
 | .fn _,_,h=>by simpa only [aF] using h
 | .exn _,_,h=>by simp only[aF] at h ⊢;obtain ⟨a,C,e,n,q⟩:=h;exact ⟨a,C,e,n,s _ _ q⟩
 | .set _,_,h=>by simp only[aF] at h ⊢;obtain ⟨a,S,e,q,r⟩:=h;exact ⟨a,S,e,s _ _ q,r⟩
 | .ins c fs,v,h=>by simp only[aF] at h ⊢;obtain ⟨a,C,dx,gs,e,n,q,r⟩:=h;exact ⟨a,C,dx,gs,e,n,s _ _ q,e9.mono s fs gs r⟩
theorem aB.mono(s:aH F F'):∀ (ds:List D) (xs:List V),aB K F ds xs->aB K F' ds xs
 | [],_,h=>by simpa only [aB] using h
 | d::ds,xs,h=>by simp only[aB] at h ⊢;obtain ⟨y,ys,e,q,r⟩:=h;exact ⟨y,ys,e,aF.mono s d y q,aB.mono s ds ys r⟩
theorem aL.mono(s:aH F F'):∀ (ds:List (Key×D)) (xs:List (Key×V)),aL K F ds xs->aL K F' ds xs
 | [],_,h=>by simpa only [aL] using h
 | (k,d)::ds,xs,h=>by simp only[aL] at h ⊢;obtain ⟨y,ys,e,q,r⟩:=h;exact ⟨y,ys,e,aF.mono s d y q,aL.mono s ds ys r⟩
theorem e9.mono(s:aH F F'):∀ (ds:List (Str×D)) (xs:List (Str×V)),e9 K F ds xs->e9 K F' ds xs
 | [],_,h=>by simpa only [e9] using h
 | (k,d)::ds,xs,h=>by simp only[e9] at h ⊢;obtain ⟨y,ys,e,q,r⟩:=h;exact ⟨y,ys,e,aF.mono s d y q,e9.mono s ds ys r⟩
end
theorem aB.length:∀ {ds:List D} {xs:List V},aB K F ds xs->xs.length=ds.length
 | [],_,h=>by simp only[aB] at h;subst h;rfl
 | d::ds,_,h=>by simp only[aB] at h;obtain ⟨y,ys,rfl,_,r⟩:=h;rw[aQJ,aQJ,aB.length r]
theorem aB.get:∀ {ds:List D} {xs:List V} {i:Nat} {x:V},aB K F ds xs->xs[i]? = some x->∃ d,ds[i]? = some d/\aF K F d x
 | [],_,_,_,h,e=>by simp only[aB] at h;subst h;simp at e
 | d::ds,_,0,_,h,e=>by simp only[aB] at h;obtain ⟨y,ys,rfl,r,_⟩:=h;simp at e;subst e;exact ⟨d,rfl,r⟩
 | d::ds,_,i+1,_,h,e=>by
  simp only[aB] at h;obtain ⟨y,ys,rfl,_,r⟩:=h;obtain ⟨d',e',r'⟩:=aB.get (i:=i) r (by simpa using e)
  exact ⟨d',by simpa using e',r'⟩
theorem aB.get':∀ {ds:List D} {xs:List V} {i:Nat} {d:D},aB K F ds xs->ds[i]? = some d->∃ x,xs[i]? = some x/\aF K F d x
 | [],_,_,_,h,e=>by simp at e
 | d::ds,_,0,_,h,e=>by simp only[aB] at h;obtain ⟨y,ys,rfl,r,_⟩:=h;simp at e;subst e;exact ⟨y,rfl,r⟩
 | d::ds,_,i+1,_,h,e=>by
  simp only[aB] at h;obtain ⟨y,ys,rfl,_,r⟩:=h;obtain ⟨d',e',r'⟩:=aB.get' (i:=i) r (by simpa using e)
  exact ⟨d',by simpa using e',r'⟩
theorem aB.append:∀ {ds es:List D} {xs ys:List V},aB K F ds xs->aB K F es ys->aB K F (ds++es) (xs++ys)
 | [],_,_,_,h,r=>by simp only[aB] at h;subst h;exact r
 | d::ds,_,_,_,h,r=>by simp only[aB] at h;obtain ⟨y,ys,rfl,q,t⟩:=h;show aB K F (d::(ds++_)) (y::(ys++_));simp only[aB];exact ⟨y,_,rfl,q,aB.append t r⟩
theorem aB.nil:aB K F [] []:=by simp only[aB]
theorem aB.cons{d:D}{ds:List D}{x:V}{xs:List V}(h:aF K F d x)(r:aB K F ds xs):aB K F (d::ds) (x::xs):=by simp only[aB];exact ⟨x,xs,rfl,h,r⟩
end
def Top(K:Fg)(F H:Hp)(a:Addr):D->Prop
 | .lst ds=>∃ xs,H a=some (.lst xs)/\aB K F ds xs
 | .dct ds=>∃ xs,H a=some (.dK xs)/\aL K F ds xs
 | .ins c fs=>∃ C dx gs,PySem.W.nsIn K mainGlobals c=some (some (.ref C))/\H a=some (.ins C dx gs)/\e9 K F fs gs
 | .set ks=>∃ S,H a=some (.set S ks.length)/\tL S ks
 | _=>False
def Rp(K:Fg)(F H:Hp)(m:Md)(d:D)(v:V):Prop :=
 match m with
 | .fz=>aF K F d v
 | _=>∃ a,v=.ref a/\F a=none/\Top K F H a d
structure aK(F H F' H':Hp):Prop where
 same:aH H H'
 fsame:aH F F'
 sub:aH F' H'
 new:∀ a,F a=none->H a≠none->F' a=none
theorem aK.refl{F H:Hp}(h:aH F H):aK F H F H:=⟨aH.refl _,aH.refl _,h,λ_ h _=>h⟩
theorem aK.trans{F H F1 H1 F2 H2:Hp}(a:aK F H F1 H1)(b:aK F1 H1 F2 H2):aK F H F2 H2 :=
 ⟨a.same.trans b.same,a.fsame.trans b.fsame,b.sub,λx h1 h2=>b.new x (a.new x h1 h2) (by
  cases e:H x with
  | none=>exact absurd e h2
  | some o=>rw[a.same x o e];exact λz=>nomatch z)⟩
theorem aK.laid{F H:Hp}{p:Addr}(o:HO)(h:aH F H)(hp:H p=none):aK F H (upd F p o) (upd H p o):=by
 have hf:F p=none:=h.free hp;refine ⟨λb u e=>?_,λb u e=>?_,λb u e=>?_,λa h1 h2=>?_⟩
 . rw[aO (cV e hp)];exact e
 . rw[aO (cV e hf)];exact e
 . by_cases hb:b=p
   . subst hb;rw[bN] at e ⊢;exact e
   . rw[aO hb] at e ⊢;exact h b u e
 . have:a≠p:=by rintro rfl;exact h2 hp
   rw[aO this];exact h1
theorem aK.fresh{F H:Hp}{p:Addr}(o:HO)(h:aH F H)(hp:H p=none):aK F H F (upd H p o):=by
 refine ⟨λb u e=>?_,aH.refl _,λb u e=>?_,λa h1 _=>h1⟩
 . rw[aO (cV e hp)];exact e
 . rw[aO (cV (h b u e) hp)];exact h b u e
theorem Top.step{K:Fg}{F H F' H':Hp}{a:Addr}{d:D}(st:aK F H F' H')(h:Top K F H a d):Top K F' H' a d:=by
 cases d with
 | lst ds=>obtain ⟨xs,e,r⟩:=h;exact ⟨xs,st.same _ _ e,r.mono st.fsame _ _⟩
 | dct ds=>obtain ⟨xs,e,r⟩:=h;exact ⟨xs,st.same _ _ e,r.mono st.fsame _ _⟩
 | ins c fs=>obtain ⟨C,dx,gs,n,e,r⟩:=h;exact ⟨C,dx,gs,n,st.same _ _ e,r.mono st.fsame _ _⟩
 | set ks=>obtain ⟨S,e,r⟩:=h;exact ⟨S,st.same _ _ e,r⟩
 | _=>exact h.elim
theorem Top.there{K:Fg}{F H:Hp}{a:Addr}{d:D}(h:Top K F H a d):H a≠none:=by
 cases d with
 | lst ds=>obtain ⟨xs,e,r⟩:=h;rw[e];exact λz=>nomatch z
 | dct ds=>obtain ⟨xs,e,r⟩:=h;rw[e];exact λz=>nomatch z
 | ins c fs=>obtain ⟨C,dx,gs,n,e,r⟩:=h;rw[e];exact λz=>nomatch z
 | set ks=>obtain ⟨S,e,r⟩:=h;rw[e];exact λz=>nomatch z
 | _=>exact h.elim
theorem Rp.step{K:Fg}{F H F' H':Hp}{m:Md}{d:D}{v:V}(st:aK F H F' H')(h:Rp K F H m d v):Rp K F' H' m d v:=by
 cases m with
 | fz=>exact aF.mono st.fsame d v h
 | fr=>obtain ⟨a,e,n,t⟩:=h;exact ⟨a,e,st.new a n t.there,t.step st⟩
 | bo=>obtain ⟨a,e,n,t⟩:=h;exact ⟨a,e,st.new a n t.there,t.step st⟩
theorem Rp.seqL{K:Fg}{F H:Hp}{m:Md}{ds:List D}{v:V}(s:aH F H)(h:Rp K F H m (.lst ds) v):∃ a xs,v=.ref a/\SqL K H a xs/\aB K F ds xs:=by
 cases m with
 | fz=>have h:aF K F (.lst ds) v:=h;simp only[aF] at h;obtain ⟨a,xs,e,q,r⟩:=h;exact ⟨a,xs,e,s.seq q,r⟩
 | fr=>obtain ⟨a,e,n,xs,q,r⟩:=h;exact ⟨a,xs,e,SqL.of q,r⟩
 | bo=>obtain ⟨a,e,n,xs,q,r⟩:=h;exact ⟨a,xs,e,SqL.of q,r⟩
theorem Rp.seqT{K:Fg}{F H:Hp}{m:Md}{ds:List D}{v:V}(s:aH F H)(h:Rp K F H m (.tup ds) v):∃ a xs,v=.ref a/\SqT K H a xs/\aB K F ds xs:=by
 cases m with
 | fz=>have h:aF K F (.tup ds) v:=h;simp only[aF] at h;obtain ⟨a,xs,e,q,r⟩:=h;exact ⟨a,xs,e,aH.seqT s q,r⟩
 | fr=>obtain ⟨a,e,n,q⟩:=h;exact q.elim
 | bo=>obtain ⟨a,e,n,q⟩:=h;exact q.elim
theorem Rp.dict{K:Fg}{F H:Hp}{m:Md}{ds:List (Key×D)}{v:V}(s:aH F H)(h:Rp K F H m (.dct ds) v):∃ a xs,v=.ref a/\H a=some (.dK xs)/\aL K F ds xs:=by
 cases m with
 | fz=>have h:aF K F (.dct ds) v:=h;simp only[aF] at h;obtain ⟨a,xs,e,q,r⟩:=h;exact ⟨a,xs,e,s _ _ q,r⟩
 | fr=>obtain ⟨a,e,n,xs,q,r⟩:=h;exact ⟨a,xs,e,q,r⟩
 | bo=>obtain ⟨a,e,n,xs,q,r⟩:=h;exact ⟨a,xs,e,q,r⟩
theorem Rp.ins{K:Fg}{F H:Hp}{m:Md}{c:Str}{fs:List (Str×D)}{v:V}(s:aH F H)(h:Rp K F H m (.ins c fs) v):∃ a C dx gs,v=.ref a/\PySem.W.nsIn K mainGlobals c=some (some (.ref C))/\H a=some (.ins C dx gs)/\e9 K F fs gs:=by
 cases m with
 | fz=>have h:aF K F (.ins c fs) v:=h;simp only[aF] at h;obtain ⟨a,C,dx,gs,e,n,q,r⟩:=h;exact ⟨a,C,dx,gs,e,n,s _ _ q,r⟩
 | fr=>obtain ⟨a,e,n,C,dx,gs,z,q,r⟩:=h;exact ⟨a,C,dx,gs,e,z,q,r⟩
 | bo=>obtain ⟨a,e,n,C,dx,gs,z,q,r⟩:=h;exact ⟨a,C,dx,gs,e,z,q,r⟩
theorem Rp.int{K:Fg}{F H:Hp}{m:Md}{i:Int}{v:V}(h:Rp K F H m (.int i) v):v=.int i:=by
 cases m with
 | fz=>have h:aF K F (.int i) v:=h;simpa only [aF] using h
 | fr=>obtain ⟨a,e,n,q⟩:=h;exact q.elim
 | bo=>obtain ⟨a,e,n,q⟩:=h;exact q.elim
theorem Rp.bl{K:Fg}{F H:Hp}{m:Md}{i:Bool}{v:V}(h:Rp K F H m (.bl i) v):v=.bl i:=by
 cases m with
 | fz=>have h:aF K F (.bl i) v:=h;simpa only [aF] using h
 | fr=>obtain ⟨a,e,n,q⟩:=h;exact q.elim
 | bo=>obtain ⟨a,e,n,q⟩:=h;exact q.elim
theorem Rp.non{K:Fg}{F H:Hp}{m:Md}{v:V}(h:Rp K F H m .non v):v=.non:=by
 cases m with
 | fz=>have h:aF K F .non v:=h;simpa only [aF] using h
 | fr=>obtain ⟨a,e,n,q⟩:=h;exact q.elim
 | bo=>obtain ⟨a,e,n,q⟩:=h;exact q.elim
theorem Rp.str{K:Fg}{F H:Hp}{m:Md}{x:Str}{v:V}(h:Rp K F H m (.str x) v):v=.str x/\x.length<=sizeLine/\PyData.strOk x=true:=by
 cases m with
 | fz=>have h:aF K F (.str x) v:=h;simpa only [aF] using h
 | fr=>obtain ⟨a,e,n,q⟩:=h;exact q.elim
 | bo=>obtain ⟨a,e,n,q⟩:=h;exact q.elim
theorem Rp.ty{K:Fg}{F H:Hp}{m:Md}{n:String}{v:V}(h:Rp K F H m (.ty n) v):v=.ty n:=by
 cases m with
 | fz=>have h:aF K F (.ty n) v:=h;simpa only [aF] using h
 | fr=>obtain ⟨a,e,n,q⟩:=h;exact q.elim
 | bo=>obtain ⟨a,e,n,q⟩:=h;exact q.elim
theorem Rp.ob{K:Fg}{F H:Hp}{m:Md}{n:Addr}{v:V}(h:Rp K F H m (.ob n) v):v=.ref n:=by
 cases m with
 | fz=>have h:aF K F (.ob n) v:=h;simpa only [aF] using h
 | fr=>obtain ⟨a,e,n,q⟩:=h;exact q.elim
 | bo=>obtain ⟨a,e,n,q⟩:=h;exact q.elim
theorem rp_ty{K:Fg}{F H:Hp}(i:String):Rp K F H .fz (.ty i) (.ty i):=by show aF K F _ _;simp only[aF]
theorem cL{K:Fg}{F H:Hp}(i:Int):Rp K F H .fz (.int i) (.int i):=by show aF K F _ _;simp only[aF]
theorem bY{K:Fg}{F H:Hp}(i:Bool):Rp K F H .fz (.bl i) (.bl i):=by show aF K F _ _;simp only[aF]
theorem tM{K:Fg}{F H:Hp}:Rp K F H .fz .non .non:=by show aF K F _ _;simp only[aF]
theorem fA{K:Fg}{F H:Hp}{x:Str}(h:x.length<=sizeLine/\PyData.strOk x=true):Rp K F H .fz (.str x) (.str x):=by show aF K F _ _;simp only[aF,true_and];exact h
abbrev Rho:=List (Option (Bool×D))
structure aR(K:Fg)(F0 H0 F H:Hp)(σ:L2.St)(ρ:Rho):Prop where
 st:aK F0 H0 F H
 slot:∀ (i:Nat) (m:Bool) (d:D),ρ[i]? = some (some (m,d))->∃ v,σ[i]? = some (some v)/\Rp K F H (if m then .bo else .fz) d v/\(m=true->∀ a,v=.ref a->H0 a=none)
 apart:∀ (i j:Nat) (d d':D) (a:Addr),i≠j->ρ[i]? = some (some (true,d))->ρ[j]? = some (some (true,d'))->σ[i]? = some (some (.ref a))->σ[j]? = some (some (.ref a))->False
 len:σ.length=ρ.length
theorem aR.step{K:Fg}{F0 H0 F H F' H':Hp}{σ:L2.St}{ρ:Rho}(r:aR K F0 H0 F H σ ρ)(st:aK F H F' H'):aR K F0 H0 F' H' σ ρ :=
 ⟨r.st.trans st,λi m d e=>by obtain ⟨v,e1,e2,e3⟩:=r.slot i m d e;exact ⟨v,e1,e2.step st,e3⟩,r.apart,r.len⟩
theorem aR.sub{K:Fg}{F0 H0 F H:Hp}{σ:L2.St}{ρ:Rho}(r:aR K F0 H0 F H σ ρ):aH F H:=r.st.sub
abbrev XE:=Str->L2.St->Hp->Prop
structure Cw where
 K:Fg
 F0:Hp
 H0:Hp
 EE:XE
def tG(C:Cw)(g:Rho->Res):TE:=λσ H Q=>∃ ρ F,aR C.K C.F0 C.H0 F H σ ρ/\match g ρ with
 | .ok m d=>∀ v F' H',aK F H F' H'->Rp C.K F' H' m d v->(m=.fr->∀ a,v=.ref a->H a=none)->Q v H'
 | .exc c=>∀ F' H',aK F H F' H'->C.EE c σ H'
 | .stuck=>False
abbrev Cw.at(C:Cw)(X:Cx):Cw:={ C with K:=X.K }
def PV(C:Cw)(X:Cx)(e:Expr)(g:Rho->Res):Prop:=PE X e (tG (C.at X) g)
theorem PE.imp{X:Cx}{e:Expr}{t t':TE}(h:PE X e t)(i:∀ σ H Q,t' σ H Q->t σ H Q):PE X e t':=λaA s σ H Q I q=>h aA s σ H Q I (i σ H Q q)
def Res.thn(r:Res)(k:Md->D->Res):Res:=match r with
 | .ok m d=>k m d
 | .exc c=>.exc c
 | .stuck=>.stuck
@[simp] theorem Res.thn_ok(m:Md)(d:D)(k:Md->D->Res):(Res.ok m d).thn k=k m d:=rfl
@[simp] theorem Res.thn_exc(c:Str)(k:Md->D->Res):(Res.exc c).thn k=.exc c:=rfl
@[simp] theorem Res.thn_stuck(k:Md->D->Res):Res.stuck.thn k=.stuck:=rfl
def Res.of:Option (Md×D)->Res
 | some (m,d)=>.ok m d
 | none=>.stuck
@[simp] theorem Res.of_some(m:Md)(d:D):Res.of (some (m,d))=.ok m d:=rfl
@[simp] theorem Res.of_none:Res.of none=.stuck:=rfl
def aS(C:Cw)(F H:Hp)(σ:L2.St)(r:Res)(Q:VK):Prop:=match r with
 | .ok m d=>∀ v F' H',aK F H F' H'->Rp C.K F' H' m d v->(m=.fr->∀ a,v=.ref a->H a=none)->Q v H'
 | .exc c=>∀ F' H',aK F H F' H'->C.EE c σ H'
 | .stuck=>False
theorem aV{C:Cw}{g:Rho->Res}{σ:L2.St}{H:Hp}{Q:VK}:tG C g σ H Q=∃ ρ F,aR C.K C.F0 C.H0 F H σ ρ/\aS C F H σ (g ρ) Q:=by unfold tG aS;rfl
theorem aS.step{C:Cw}{F H F1 H1:Hp}{σ:L2.St}{r:Res}{Q:VK}(st:aK F H F1 H1)(h:aS C F H σ r Q):aS C F1 H1 σ r Q:=by
 cases r with
 | ok m d=>exact λv F' H' s2 rp hf=>h v F' H' (st.trans s2) rp λe a ea=>st.same.free (hf e a ea)
 | exc c=>exact λF' H' s2=>h F' H' (st.trans s2)
 | stuck=>exact h
section
variable {C:Cw}{X:Cx}{a b:Expr}{ga gb:Rho->Res}{pos:Pos}
def dU(ρ:Rho)(i:Nat):Res:=match ρ[i]? with
 | some (some (false,d))=>.ok .fz d
 | some (some (true,d))=>.ok .bo d
 | _=>.stuck
theorem aDK(i:Nat){x:Str}(h:PE X (.Name x pos) (hV i)):PV C X (.Name x pos) (λρ=>dU ρ i):=by
 refine PE.imp h λσ H Q q=>?_;rw[aV] at q;obtain ⟨ρ,F,R,w⟩:=q;unfold dU at w;cases e:ρ[i]? with
 | none=>rw[e] at w;exact w.elim
 | some o =>
  cases o with
  | none=>rw[e] at w;exact w.elim
  | some p =>
   obtain ⟨m,d⟩:=p;obtain ⟨v,e1,r,_⟩:=R.slot i m d e;rw[e] at w;cases m with
   | false=>exact ⟨v,e1,w v F H (.refl R.sub) r (by intro z;cases z)⟩
   | true=>exact ⟨v,e1,w v F H (.refl R.sub) r (by intro z;cases z)⟩
theorem iC{e:Expr}{v:V}(d:D)(h:PE X e (tC v))(r:∀ F H,Rp X.K F H .fz d v):PV C X e (λ_=>.ok .fz d):=by refine PE.imp h λσ H Q q=>?_;rw[aV] at q;obtain ⟨ρ,F,R,w⟩:=q;exact w v F H (.refl R.sub) (r F H) (by intro z;cases z)
theorem aDL{i j}:PV C X (.Constant (.int i) j pos) (λ_=>.ok .fz (.int i)):=iC _ aAV λ_ _=>cL i
theorem pv_bl{i j}:PV C X (.Constant (.bool i) j pos) (λ_=>.ok .fz (.bl i)):=iC _ pe_bl λ_ _=>bY i
theorem aDM{j}:PV C X (.Constant .none j pos) (λ_=>.ok .fz .non):=iC _ aAW λ_ _=>tM
theorem aDN{x:Str}{j}(h:(decide (x.length<=sizeLine)&&PyData.strOk x)=true:=by decide +kernel):PV C X (.Constant (.str x) j pos) (λ_=>.ok .fz (.str x)) :=
 iC _ aAX λ_ _=>fA (by rw[aQB,aQQ] at h;exact h)
def op2(φ:Md->D->Md->D->Option (Md×D))(x y:Res):Res:=x.thn λm d=>y.thn λn e=>Res.of (φ m d n e)
def OpD(C:Cw)(X:Cx)(f:Value->Value->Sem Value)(φ:Md->D->Md->D->Option (Md×D)):Prop :=
 ∃ r:R2,OpR X f r/\∀ F H m x n y v u k d Q,aH F H->Rp X.K F H m x v->Rp X.K F H n y u->φ m x n y=some (k,d) ->
  (∀ v' F' H',aK F H F' H'->Rp X.K F' H' k d v'->(k=.fr->∀ a,v'=.ref a->H a=none)->Q v' H')->r v u H Q
theorem kM{φ:Md->D->Md->D->Option (Md×D)}{r:R2}(h:∀ F H m x n y v u k d Q,aH F H->Rp C.K F H m x v->Rp C.K F H n y u->φ m x n y=some (k,d)->(∀ v' F' H',aK F H F' H'->Rp C.K F' H' k d v'->(k=.fr->∀ a,v'=.ref a->H a=none)->Q v' H')->r v u H Q){σ:L2.St}{H:Hp}{Q:VK}(q:tG C (λρ=>op2 φ (ga ρ) (gb ρ)) σ H Q):tOp r (tG C ga) (tG C gb) σ H Q:=by
 unfold tOp;rw[aV] at q ⊢;obtain ⟨ρ,F,R,w⟩:=q;refine ⟨ρ,F,R,?_⟩;cases ea:ga ρ with
 | stuck=>simp only[op2,ea,Res.thn] at w;exact w
 | exc c=>simp only[op2,ea,Res.thn] at w;exact w
 | ok m d =>
  intro v F1 H1 s1 r1 _;rw[aV];refine ⟨ρ,F1,R.step s1,?_⟩;have w1:=w.step s1;simp only[op2,ea,Res.thn] at w1;cases eb:gb ρ with
  | stuck=>rw[eb] at w1;exact w1
  | exc c=>rw[eb] at w1;exact w1
  | ok n e =>
   rw[eb] at w1;intro u F2 H2 s2 r2 _;have w2:aS C F2 H2 σ (Res.of (φ m d n e)) Q:=aS.step s2 w1;cases ef:φ m d n e with
   | none=>rw[ef] at w2;exact w2.elim
   | some kd=>obtain ⟨k,d'⟩:=kd;rw[ef] at w2;exact h F2 H2 m d n e v u k d' Q s2.sub (r1.step s2) r2 ef w2
theorem tN{op:Operator}{φ}(o:OpD C X (binaryOp op) φ)(ha:PV C X a ga)(hb:PV C X b gb):PV C X (.BinOp a op b pos) (λρ=>op2 φ (ga ρ) (gb ρ)):=by obtain ⟨r,h1,h2⟩:=o;exact PE.imp (pe_op h1 ha hb) λσ H Q q=>kM h2 q
theorem kN{op:CmpOp}{φ}(o:OpD C X (compareOp op) φ)(ha:PV C X a ga)(hb:PV C X b gb)(hm:behindInMarks op b=false):PV C X (.Compare a [op] [b] pos) (λρ=>op2 φ (ga ρ) (gb ρ)):=by obtain ⟨r,h1,h2⟩:=o;exact PE.imp (aB1 h1 ha hb hm) λσ H Q q=>kM h2 q
def orO(φ ψ:Md->D->Md->D->Option (Md×D)):Md->D->Md->D->Option (Md×D):=λm x n y=>(φ m x n y).orElse λ_=>ψ m x n y
theorem OpD.or{f:Value->Value->Sem Value}{φ ψ}(h:OpD C X f φ)(h':OpD C X f ψ):OpD C X f (orO φ ψ):=by
 obtain ⟨r,h1,h2⟩:=h;obtain ⟨r',h1',h2'⟩:=h';refine ⟨_,h1.or h1',λF H m x n y v u k d Q s rx ry e w=>?_⟩;unfold orO at e;cases e1:φ m x n y with
 | none=>rw[e1] at e;exact .inr (h2' F H m x n y v u k d Q s rx ry e w)
 | some p=>rw[e1] at e;cases e;exact .inl (h2 F H m x n y v u k d Q s rx ry e1 w)
def fI(c:Int->Int->Bool)(g:Int->Int->D):Md->D->Md->D->Option (Md×D):=λ_ x _ y=>match x,y with
 | .int i,.int j=>if c i j=true then some (.fz,g i j) else none
 | _,_=>none
theorem i3{f:Value->Value->Sem Value}{Cc:Int->Int->Prop}{c:Int->Int->Bool}{g:Int->Int->V}{g':Int->Int->D}(o:OpR X f (rI Cc g))(hc:∀ i j,c i j=true->Cc i j)(hg:∀ F H i j,Rp X.K F H .fz (g' i j) (g i j)):OpD C X f (fI c g'):=by
 refine ⟨_,o,λF H m x n y v u k d Q s rx ry e w=>?_⟩;unfold fI at e;split at e
 . rename_i i j;cases rx.int;cases ry.int;split at e
   . rename_i hcc;cases e;exact ⟨i,j,rfl,rfl,hc i j hcc,w _ F H (.refl s) (hg F H i j) (by intro z;cases z)⟩
   . cases e
 . cases e
theorem gO{f:Value->Value->Sem Value}{g:Int->Int->V}{g':Int->Int->D}(o:OpR X f (rI0 g))(hg:∀ F H i j,Rp X.K F H .fz (g' i j) (g i j)):OpD C X f (fI (λ_ _=>true) g'):=by
 refine ⟨_,o,λF H m x n y v u k d Q s rx ry e w=>?_⟩;unfold fI at e;split at e
 . rename_i i j;cases rx.int;cases ry.int;rw[if_pos rfl] at e;cases e;exact ⟨i,j,rfl,rfl,w _ F H (.refl s) (hg F H i j) (by intro z;cases z)⟩
 . cases e
def cE(i:Int):Bool:=decide (i.natAbs.log2<9000)
theorem aDO:OpD C X (binaryOp .Add) (fI (λ_ _=>true) λi j=>.int (i+j)):=gO aBQ λ_ _ i j=>cL _
theorem aDP:OpD C X (binaryOp .Sub) (fI (λ_ _=>true) λi j=>.int (i-j)):=gO aBR λ_ _ i j=>cL _
theorem aDQ{i j:Int}(h:(cE i&&cE j)=true):IntMulOk i j:=by
 rw[aQB] at h;have b:∀ {i:Int},cE i=true->Builtin.Int.intBits i<=2 ^ 20:=λ{i} h=>by
  unfold cE at h;have:=aQR h;unfold Builtin.Int.intBits;split
  . exact aQP _
  . have e:(2:Nat) ^ 20=1048576:=by decide
    omega
 exact IntMulOk.of_bits (b h.1) (b h.2)
def w64(i:Int):Bool:=decide (i.natAbs<2 ^ 63)
theorem tO{i:Int}(h:w64 i=true):Builtin.Int.intBits i<=64:=by
 have h:=aQR h;unfold Builtin.Int.intBits;split
 . exact aQP _
 . rename_i hz;have:i.natAbs.log2<63:=(Nat.log2_lt (by simpa using hz)).mpr h
   omega
theorem aDR:OpD C X (binaryOp .Mult) (fI (λi j=>(cE i&&cE j)||(w64 i||w64 j)) λi j=>.int (i * j)) :=
 i3 (Cc:=λi j=>IntMulOk i j) (opI λ_ _ _ _ _ _ _ hc q=>mul_int q hc) (λi j h=>by
  rcases (aQS _ _).mp h with h | h
  . exact aDQ h
  . rcases (aQS _ _).mp h with h | h
    . exact IntMulOk.of_left (tO h)
    . exact IntMulOk.of_right (tO h)) λ_ _ i j=>cL _
theorem aDS:OpD C X (binaryOp .Mod) (fI (λ_ j=>decide (0<j)) λi j=>.int (i % j)):=i3 aBS (λi j h=>aQR h) λ_ _ i j=>cL _
theorem aDT:OpR X (binaryOp .FloorDiv) (rI (λ_ j=>0<j/\cE j=true) λi j=>.int (i / j)):=opI λi j _ _ _ _ _ hc q=>by
 obtain ⟨h1,h2⟩:=hc;refine floordiv_int (by omega) ?_ (.inl (PyProof.noPylong_of_log2 (aQR h2)))
 rw[Int.fdiv_eq_ediv_of_nonneg i (by omega)]
 exact q
theorem aDU:OpD C X (binaryOp .FloorDiv) (fI (λ_ j=>decide (0<j)&&cE j) λi j=>.int (i / j)):=i3 aDT (λi j h=>by rw[aQB,aQQ] at h;exact h) λ_ _ i j=>cL _
theorem aDV:OpD C X (binaryOp .Pow) (fI (λi j=>decide (0<=j)&&decide (j<=1000000)&&decide (i.natAbs<2 ^ 64)) λi j=>.int (i ^ j.toNat)) :=
 i3 aBT (λi j h=>by simp only[aQB,aQQ] at h;exact ⟨h.1.1,h.1.2,h.2⟩) λ_ _ i j=>cL _
theorem aDW:OpD C X (compareOp .Lt) (fI (λ_ _=>true) λi j=>.bl (decide (i<j))):=gO op_lt λ_ _ i j=>bY _
theorem aDX:OpD C X (compareOp .LtE) (fI (λ_ _=>true) λi j=>.bl (decide (i<=j))):=gO op_le λ_ _ i j=>bY _
theorem aDY:OpD C X (compareOp .Gt) (fI (λ_ _=>true) λi j=>.bl (decide (j<i))):=gO op_gt λ_ _ i j=>bY _
theorem aDZ:OpD C X (compareOp .GtE) (fI (λ_ _=>true) λi j=>.bl (decide (j<=i))):=gO op_ge λ_ _ i j=>bY _
def fS(c:Str->Str->Bool)(g:Str->Str->D):Md->D->Md->D->Option (Md×D):=λ_ x _ y=>match x,y with
 | .str i,.str j=>if c i j=true then some (.fz,g i j) else none
 | _,_=>none
theorem tP{x y:Str}(hx:PyData.strOk x=true)(hy:PyData.strOk y=true):PyData.strOk (x++y)=true:=by unfold PyData.strOk at *;show (x.cps++y.cps).all _=true;rw[Array.all_append,hx,hy];rfl
theorem aD0:OpD C X (binaryOp .Add) (fS (λi j=>decide (i.length+j.length<=sizeLine)) λi j=>.str (i++j)):=by
 refine ⟨_,aB6,λF H m x n y v u k d Q s rx ry e w=>?_⟩;unfold fS at e;split at e
 . rename_i i j;obtain ⟨rfl,h1⟩:=rx.str;obtain ⟨rfl,h2⟩:=ry.str;split at e
   . rename_i hc;cases e;have hc:=aQR hc;exact ⟨i,j,rfl,rfl,hc,w _ F H (.refl s) (fA ⟨by rw[strLen_append];exact hc,tP h1.2 h2.2⟩) (by intro z;cases z)⟩
   . cases e
 . cases e
def i4(i j:Str):Bool:=!(Builtin.Str.occurrences j i 0 j.length 1).isEmpty
theorem aD1:OpD C X (compareOp .In) (fS (λ_ _=>true) λi j=>.bl (i4 i j)):=by
 refine ⟨_,aBX,λF H m x n y v u k d Q s rx ry e w=>?_⟩;unfold fS at e;split at e
 . rename_i i j;obtain ⟨rfl,h1⟩:=rx.str;obtain ⟨rfl,h2⟩:=ry.str;rw[if_pos rfl] at e;cases e;exact ⟨i,j,rfl,rfl,w _ F H (.refl s) (bY _) (by intro z;cases z)⟩
 . cases e
theorem aD2:OpD C X (compareOp .NotIn) (fS (λ_ _=>true) λi j=>.bl (!i4 i j)):=by
 refine ⟨_,aB0,λF H m x n y v u k d Q s rx ry e w=>?_⟩;unfold fS at e;split at e
 . rename_i i j;obtain ⟨rfl,h1⟩:=rx.str;obtain ⟨rfl,h2⟩:=ry.str;rw[if_pos rfl] at e;cases e;exact ⟨i,j,rfl,rfl,w _ F H (.refl s) (bY _) (by intro z;cases z)⟩
 . cases e
end
section
variable {C:Cw}{X:Cx}{a b c e:Expr}{ga gb gc g:Rho->Res}{pos:Pos}
def a8:Res->Res
 | .ok .bo _=>.stuck
 | .ok _ d=>.ok .fz d
 | r=>r
theorem aK.freeze{F H F' H':Hp}{x:Addr}{o:HO}(st:aK F H F' H')(hx:H x=none)(hx':F' x=none)(ho:H' x=some o):aK F H (upd F' x o) H':=by
 refine ⟨st.same,λb u q=>?_,λb u q=>?_,λy h1 h2=>?_⟩
 . rw[aO (cV (st.fsame b u q) hx')];exact st.fsame b u q
 . by_cases hb:b=x
   . subst hb;rw[bN] at q;rw[<- q];exact ho
   . rw[aO hb] at q;exact st.sub b u q
 . have:y≠x:=by rintro rfl;exact h2 hx
   rw[aO this];exact st.new y h1 h2
theorem Top.freeze{K:Fg}{F H:Hp}{x:Addr}{d:D}(hx:F x=none)(h:Top K F H x d):∃ o,H x=some o/\aF K (upd F x o) d (.ref x):=by
 have s:∀ o,aH F (upd F x o):=λo b u q=>by rw[aO (cV q hx)];exact q
 cases d with
 | lst ds=>obtain ⟨xs,q,r⟩:=h;refine ⟨_,q,?_⟩;simp only[aF];exact ⟨x,xs,rfl,SqL.of bN,r.mono (s _) _ _⟩
 | dct ds=>obtain ⟨xs,q,r⟩:=h;refine ⟨_,q,?_⟩;simp only[aF];exact ⟨x,xs,rfl,bN,r.mono (s _) _ _⟩
 | ins c fs=>obtain ⟨C,dx,gs,n,q,r⟩:=h;refine ⟨_,q,?_⟩;simp only[aF];exact ⟨x,C,dx,gs,rfl,n,bN,r.mono (s _) _ _⟩
 | set ks=>obtain ⟨S,q,r⟩:=h;refine ⟨_,q,?_⟩;simp only[aF];exact ⟨x,S,rfl,bN,r⟩
 | _=>exact h.elim
theorem aS.frz{F H:Hp}{σ:L2.St}{r:Res}{Q:VK}(w:aS C F H σ (a8 r) Q):aS C F H σ r Q:=by
 cases r with
 | exc c=>exact w
 | stuck=>exact w
 | ok m d =>
  cases m with
  | fz=>exact w
  | bo=>exact (show False from w).elim
  | fr=>intro v F' H' st rp fr;obtain ⟨x,rfl,n,t⟩:=rp;obtain ⟨o,ho,r⟩:=t.freeze n;exact w (.ref x) (upd F' x o) H' (st.freeze (fr rfl x rfl) n ho) r (by intro z;cases z)
theorem fK(h:PV C X e g):PV C X e (λρ=>a8 (g ρ)):=PE.imp h λσ H Q q=>by
 rw[aV] at q ⊢;obtain ⟨ρ,F,R,w⟩:=q
 try dsimp only at w
 exact ⟨ρ,F,R,w.frz⟩
def iD(C:Cw)(F H:Hp)(σ:L2.St)(r:Res)(Q:Bool->Hp->Prop):Prop:=match r with
 | .ok _ (.bl b)=>∀ F' H',aK F H F' H'->Q b H'
 | .exc c=>∀ F' H',aK F H F' H'->C.EE c σ H'
 | _=>False
theorem iD.step{F H F1 H1:Hp}{σ:L2.St}{r:Res}{Q:Bool->Hp->Prop}(st:aK F H F1 H1)(h:iD C F H σ r Q):iD C F1 H1 σ r Q:=by
 cases r with
 | ok m d =>
  cases d with
  | bl b=>exact λF' H' s2=>h F' H' (st.trans s2)
  | _=>exact h
 | exc c=>exact λF' H' s2=>h F' H' (st.trans s2)
 | stuck=>exact h
def tT(C:Cw)(g:Rho->Res):TT:=λσ H Q=>∃ ρ F,aR C.K C.F0 C.H0 F H σ ρ/\iD C F H σ (g ρ) Q
def PTv(C:Cw)(X:Cx)(e:Expr)(g:Rho->Res):Prop:=PT X e (tT (C.at X) g)
def PWv(C:Cw)(X:Cx)(e:Expr)(g:Rho->Res):Prop:=PW X e (tT (C.at X) g)
theorem PT.imp{X:Cx}{e:Expr}{t t':TT}(h:PT X e t)(i:∀ σ H Q,t' σ H Q->t σ H Q):PT X e t':=λaA s σ H Q I q=>h aA s σ H Q I (i σ H Q q)
theorem PW.imp{X:Cx}{e:Expr}{t t':TT}(h:PW X e t)(i:∀ σ H Q,t' σ H Q->t σ H Q):PW X e t':=λwhole aA s σ H Q I q=>h whole aA s σ H Q I (i σ H Q q)
def mU:D->Option Bool
 | .non=>some false
 | .bl b=>some b
 | .int i=>some (i != 0)
 | .str x=>some ((x.length:Int) != 0)
 | .tup ds=>some (!ds.isEmpty)
 | .lst ds=>some (!ds.isEmpty)
 | .dct ds=>some (!ds.isEmpty)
 | _=>none
def gP(r:Res):Res:=r.thn λ_ d=>match mU d with | some b=>.ok .fz (.bl b) | none=>.stuck
theorem aB.isEmpty{K:Fg}{F:Hp}{ds:List D}{xs:List V}(h:aB K F ds xs):ds.isEmpty=xs.isEmpty:=by
 cases ds with
 | nil=>simp only[aB] at h;subst h;rfl
 | cons d ds=>simp only[aB] at h;obtain ⟨y,ys,rfl,_⟩:=h;rfl
theorem aL.isEmpty{K:Fg}{F:Hp}{ds:List (Key×D)}{xs:List (Key×V)}(h:aL K F ds xs):ds.isEmpty=xs.isEmpty:=by
 cases ds with
 | nil=>simp only[aL] at h;subst h;rfl
 | cons d ds=>obtain ⟨k,d⟩:=d;simp only[aL] at h;obtain ⟨y,ys,rfl,_⟩:=h;rfl
theorem aD3{K:Fg}{F H:Hp}{m:Md}{d:D}{v:V}{k:Bool}(s:aH F H)(h:Rp K F H m d v)(e:mU d=some k):pA K v H k:=by
 cases d with
 | non=>cases h.non;cases e;rfl
 | bl b=>cases h.bl;cases e;rfl
 | int i=>cases h.int;cases e;rfl
 | str x=>obtain ⟨rfl,hl,_⟩:=h.str;cases e;exact ⟨hl,rfl⟩
 | tup ds=>obtain ⟨a,xs,rfl,q,r⟩:=h.seqT s;cases e;exact .inr (.inl ⟨xs,q,by rw[r.isEmpty]⟩)
 | lst ds=>obtain ⟨a,xs,rfl,q,r⟩:=h.seqL s;cases e;exact .inl ⟨xs,q,by rw[r.isEmpty]⟩
 | dct ds=>obtain ⟨a,xs,rfl,q,r⟩:=h.dict s;cases e;exact .inr (.inr ⟨xs,q,by rw[r.isEmpty]⟩)
 | ty n=>cases e
 | ob n=>cases e
 | ins n=>cases e
 | fn n=>cases e
 | exn n=>cases e
 | set n=>cases e
theorem aD4(h:PV C X e g)(he:∀ whole,isTrue e X.env whole=(do let v <- whole;standAt e.pos;holding [v] (truthy v)):=by intro _;rfl):PTv C X e (λρ=>gP (g ρ)):=by
 refine PT.imp (aB5 h he) λσ H Q q=>?_;obtain ⟨ρ,F,R,w⟩:=q
 try dsimp only at w
 rw[aV];refine ⟨ρ,F,R,?_⟩;cases er:g ρ with
 | stuck=>rw[er] at w;exact w
 | exc c=>rw[er] at w;exact w
 | ok m d =>
  rw[er] at w;intro v F' H' st rp _;have w:iD (C.at X) F H σ (match mU d with | some b=>.ok .fz (.bl b) | none=>.stuck) Q:=w
  cases ed:mU d with
  | none=>rw[ed] at w;exact w.elim
  | some k=>rw[ed] at w;exact ⟨k,aD3 st.sub rp ed,w F' H' st⟩
theorem kP{op:CmpOp}{φ}(o:OpD C X (compareOp op) φ)(hb':∀ m x n y k d,φ m x n y=some (k,d)->∃ t,k=.fz/\d=.bl t)(ha:PV C X a ga)(hb:PV C X b gb)(hm:behindInMarks op b=false):PTv C X (.Compare a [op] [b] pos) (λρ=>op2 φ (ga ρ) (gb ρ)):=by
 obtain ⟨r,h1,h2⟩:=o;refine PT.imp (aB2 h1 ha hb hm) λσ H Q q=>?_;obtain ⟨ρ,F,R,w⟩:=q
 try dsimp only at w
 unfold sK;refine kM h2 ?_;rw[aV];refine ⟨ρ,F,R,?_⟩;cases er:op2 φ (ga ρ) (gb ρ) with
 | stuck=>rw[er] at w;exact w
 | exc c=>rw[er] at w;exact w
 | ok m d =>
  rw[er] at w;have:∃ t,m=.fz/\d=.bl t:=by
   unfold op2 at er;cases e1:ga ρ with
   | stuck=>rw[e1] at er;cases er
   | exc c=>rw[e1] at er;cases er
   | ok m1 d1 =>
    cases e2:gb ρ with
    | stuck=>rw[e1,e2] at er;cases er
    | exc c=>rw[e1,e2] at er;cases er
    | ok m2 d2 =>
     rw[e1,e2] at er;have er:Res.of (φ m1 d1 m2 d2)=.ok m d:=er;cases e3:φ m1 d1 m2 d2 with
     | none=>rw[e3] at er;cases er
     | some kd=>rw[e3] at er;obtain ⟨k,d'⟩:=kd;cases er;exact hb' _ _ _ _ _ _ e3
  obtain ⟨t,rfl,rfl⟩:=this;intro v F' H' st rp _;cases rp.bl;exact ⟨t,rfl,w F' H' st⟩
def dJ(x:Res)(y:Res):Res:=x.thn λ_ d=>match d with | .bl true=>y | .bl false=>.ok .fz (.bl false) | _=>.stuck
def orR(x:Res)(y:Res):Res:=x.thn λ_ d=>match d with | .bl true=>.ok .fz (.bl true) | .bl false=>y | _=>.stuck
def kQ(x:Res):Res:=x.thn λ_ d=>match d with | .bl b=>.ok .fz (.bl (!b)) | _=>.stuck
theorem aD5(ha:PTv C X a ga):PTv C X (.UnaryOp .Not a pos) (λρ=>kQ (ga ρ)):=by
 refine PT.imp (aA1 ha) λσ H Q q=>?_;obtain ⟨ρ,F,R,w⟩:=q
 try dsimp only at w
 refine ⟨ρ,F,R,?_⟩;cases er:ga ρ with
 | stuck=>rw[er] at w;exact w
 | exc c=>rw[er] at w;exact w
 | ok m d =>
  rw[er] at w;cases d with
  | bl b=>exact w
  | _=>exact w
theorem tQ{op:BoolOp}(h:PTv C X a ga):PWv C X (.BoolOp op [a] pos) ga:=by
 cases op with
 | And=>exact aAY h
 | Or=>exact aAZ h
theorem tR{σ:L2.St}{H:Hp}{Q:Bool->Hp->Prop}(q:tT C (λρ=>dJ (ga ρ) (gb ρ)) σ H Q):oX (tT C ga) (tT C gb) σ H Q:=by
 obtain ⟨ρ,F,R,w⟩:=q
 try dsimp only at w
 refine ⟨ρ,F,R,?_⟩;cases er:ga ρ with
 | stuck=>rw[er] at w;exact w
 | exc c=>rw[er] at w;exact w
 | ok m d =>
  rw[er] at w;cases d with
  | bl b =>
   intro F' H' st;cases b with
   | true=>rw[if_pos rfl];exact ⟨ρ,F',R.step st,iD.step st w⟩
   | false=>rw[if_neg aO9];exact w F' H' st
  | _=>exact w
theorem tT_or{σ:L2.St}{H:Hp}{Q:Bool->Hp->Prop}(q:tT C (λρ=>orR (ga ρ) (gb ρ)) σ H Q):tOr (tT C ga) (tT C gb) σ H Q:=by
 obtain ⟨ρ,F,R,w⟩:=q
 try dsimp only at w
 refine ⟨ρ,F,R,?_⟩;cases er:ga ρ with
 | stuck=>rw[er] at w;exact w
 | exc c=>rw[er] at w;exact w
 | ok m d =>
  rw[er] at w;cases d with
  | bl b =>
   intro F' H' st;cases b with
   | true=>rw[if_pos rfl];exact w F' H' st
   | false=>rw[if_neg aO9];exact ⟨ρ,F',R.step st,iD.step st w⟩
  | _=>exact w
theorem aD6{aY:List Expr}(ha:PTv C X a ga)(hb:PWv C X (.BoolOp .And (b::aY) pos) gb):PWv C X (.BoolOp .And (a::b::aY) pos) (λρ=>dJ (ga ρ) (gb ρ)):=PW.imp (aA0 ha hb) λ_ _ _ q=>tR q
theorem aD7{aY:List Expr}(ha:PTv C X a ga)(hb:PWv C X (.BoolOp .Or (b::aY) pos) gb):PWv C X (.BoolOp .Or (a::b::aY) pos) (λρ=>orR (ga ρ) (gb ρ)):=PW.imp (pw_or ha hb) λ_ _ _ q=>tT_or q
theorem pt_w(h:PWv C X e g):PTv C X e g:=PW.pt h
theorem tU{op}(h:PV C X a ga):PV C X (.BoolOp op [a] pos) ga:=aA2 h
theorem aD8{aY:List Expr}(ha:PV C X a ga)(hb:PV C X (.BoolOp .And (b::aY) pos) gb):PV C X (.BoolOp .And (a::b::aY) pos) (λρ=>dJ (ga ρ) (gb ρ)):=by
 refine PE.imp (aA3 ha hb) λσ H Q q=>?_;unfold r9;rw[aV] at q ⊢;obtain ⟨ρ,F,R,w⟩:=q
 try dsimp only at w
 refine ⟨ρ,F,R,?_⟩;cases er:ga ρ with
 | stuck=>rw[er] at w;exact w
 | exc c=>rw[er] at w;exact w
 | ok m d =>
  rw[er] at w;cases d with
  | bl k =>
   intro v F' H' st rp _;cases rp.bl;refine ⟨k,rfl,?_⟩;cases k with
   | true=>rw[if_pos rfl,aV];exact ⟨ρ,F',R.step st,aS.step st w⟩
   | false=>rw[if_neg aO9];exact w (.bl false) F' H' st (bY _) (by intro z;cases z)
  | _=>exact w.elim
theorem aD9{aY:List Expr}(ha:PV C X a ga)(hb:PV C X (.BoolOp .Or (b::aY) pos) gb):PV C X (.BoolOp .Or (a::b::aY) pos) (λρ=>orR (ga ρ) (gb ρ)):=by
 refine PE.imp (pe_or ha hb) λσ H Q q=>?_;unfold tOrV;rw[aV] at q ⊢;obtain ⟨ρ,F,R,w⟩:=q
 try dsimp only at w
 refine ⟨ρ,F,R,?_⟩;cases er:ga ρ with
 | stuck=>rw[er] at w;exact w
 | exc c=>rw[er] at w;exact w
 | ok m d =>
  rw[er] at w;cases d with
  | bl k =>
   intro v F' H' st rp _;cases rp.bl;refine ⟨k,rfl,?_⟩;cases k with
   | true=>rw[if_pos rfl];exact w (.bl true) F' H' st (bY _) (by intro z;cases z)
   | false=>rw[if_neg aO9,aV];exact ⟨ρ,F',R.step st,aS.step st w⟩
  | _=>exact w.elim
theorem aEA(ha:PV C X a ga):PV C X (.UnaryOp .Not a pos) (λρ=>kQ (ga ρ)):=by
 refine PE.imp (aA4 ha) λσ H Q q=>?_;unfold sC;rw[aV] at q ⊢;obtain ⟨ρ,F,R,w⟩:=q
 try dsimp only at w
 refine ⟨ρ,F,R,?_⟩;cases er:ga ρ with
 | stuck=>rw[er] at w;exact w
 | exc c=>rw[er] at w;exact w
 | ok m d =>
  rw[er] at w;cases d with
  | bl k=>intro v F' H' st rp _;cases rp.bl;exact ⟨k,rfl,w _ F' H' st (bY _) (by intro z;cases z)⟩
  | _=>exact w.elim
def ixD:Md->D->Md->D->Option (Md×D):=λ_ x _ y=>match x,y with
 | .lst ds,.int i=>(atI ds i).map λd=>(.fz,d)
 | .tup ds,.int i=>(atI ds i).map λd=>(.fz,d)
 | .str z,.int i=>(atI z.cps.toList i).map λc=>(.fz,.str ⟨#[c]⟩)
 | _,_=>none
theorem aB.atI{K:Fg}{F:Hp}{ds:List D}{xs:List V}{i:Int}{d:D}(h:aB K F ds xs)(e:atI ds i=some d):∃ x,L2.atI xs i=some x/\aF K F d x:=by
 unfold L2.atI at *;rw[h.length];cases q:ixN ds.length i with
 | none=>rw[q] at e;cases e
 | some j=>rw[q] at e;exact h.get' e
theorem aEB{F H:Hp}{m n k:Md}{x y d:D}{v u:V}{Q:VK}(s:aH F H)(rx:Rp X.K F H m x v)(ry:Rp X.K F H n y u)(e:ixD m x n y=some (k,d))(w:∀ v' F' H',aK F H F' H'->Rp X.K F' H' k d v'->(k=.fr->∀ a,v'=.ref a->H a=none)->Q v' H'):rIx X.K v u H Q:=by
 unfold ixD at e;split at e
 . rename_i ds i;cases ry.int;obtain ⟨p,xs,rfl,hq,r⟩:=rx.seqL s;cases ei:atI ds i with
   | none=>rw[ei] at e;cases e
   | some d'=>rw[ei] at e;cases e;obtain ⟨x',ex,rx'⟩:=r.atI ei;exact .inl ⟨p,xs,i,x',rfl,rfl,hq,ex,w x' F H (.refl s) rx' (by intro z;cases z)⟩
 . rename_i ds i;cases ry.int;obtain ⟨p,xs,rfl,hq,r⟩:=rx.seqT s;cases ei:atI ds i with
   | none=>rw[ei] at e;cases e
   | some d'=>rw[ei] at e;cases e;obtain ⟨x',ex,rx'⟩:=r.atI ei;exact .inr (.inl ⟨p,xs,i,x',rfl,rfl,hq,ex,w x' F H (.refl s) rx' (by intro z;cases z)⟩)
 . rename_i z i;cases ry.int;obtain ⟨rfl,hl,hk⟩:=rx.str;cases ei:atI z.cps.toList i with
   | none=>rw[ei] at e;cases e
   | some c =>
    rw[ei] at e;cases e;refine .inr (.inr ⟨z,i,c,rfl,rfl,hl,ei,w _ F H (.refl s) (fA ⟨?_,?_⟩) (by intro z;cases z)⟩)
    . show 1<=sizeLine;decide
    . obtain ⟨j,_,hj,_⟩:=mO ei;unfold PyData.strOk at hk ⊢;rw[aQT] at hk;have hc:=hk c (by rw[<- aQU];exact aPS hj)
      simpa using hc
 . cases e
theorem pv_ix(ha:PV C X a ga)(hb:PV C X b gb)(hs:mP b:=by intro _ _;rfl):PV C X (.Subscript a b pos) (λρ=>op2 ixD (ga ρ) (gb ρ)):=by exact PE.imp (sY aCS ha hb hs) λσ H Q q=>kM (λF H m x n y v u k d Q s rx ry e w=>aEB s rx ry e w) q
theorem aEC:SlR X (λx lo hi H Q=>∃ z,x=.str z/\z.length<=sizeLine/\Q (.str (Txt.slice z lo hi)) H):=by
 intro aA s σ H x v vl vu lo hi sl Q I rx hs pl pu h;obtain ⟨z,rfl,hz,q⟩:=h;obtain ⟨t,rfl⟩:=rx;refine ⟨"str", _,PySem.F.slot_str_getitem.lookup,typeIs_str _ _ _,?_⟩;have fin:∀ t' k,EP X aA σ Q (.str (Txt.slice z lo hi) t') { s with toks:=k }:=λt' k=>⟨.str (Txt.slice z lo hi),H,I.tok _,⟨_,rfl⟩,q⟩
 cases pl with
 | none =>
  cases pu with
  | none=>exact aQV (l:=none) (u:=none) (st:=none) hs rfl (aQW ⟨aOP (aQX z _ _) hz,λt' k=>fin t' k⟩)
  | int j tj=>exact aQV (l:=none) (u:=some (j,tj)) (st:=none) hs rfl (aQW ⟨aOP (aQX z _ _) hz,λt' k=>fin t' k⟩)
 | int i ti =>
  cases pu with
  | none=>exact aQV (l:=some (i,ti)) (u:=none) (st:=none) hs rfl (aQW ⟨aOP (aQX z _ _) hz,λt' k=>fin t' k⟩)
  | int j tj=>exact aQV (l:=some (i,ti)) (u:=some (j,tj)) (st:=none) hs rfl (aQW ⟨aOP (aQX z _ _) hz,λt' k=>fin t' k⟩)
theorem aED{z:Str}{lo hi:Option Int}(h:PyData.strOk z=true):PyData.strOk (Txt.slice z lo hi)=true:=by
 unfold Txt.slice;split
 . exact h
 . unfold PyData.strOk at *;rw[aQT] at h ⊢;intro c hc;rw[<- aQU,List.toList_toArray,aPF] at hc;obtain ⟨j,_,hj⟩:=hc;exact h c (Array.mem_of_getElem? hj)
def POv(C:Cw)(X:Cx):Option Expr->Option (Rho->Res)->Prop
 | none,none=>True
 | some e,some g=>PV C X e g
 | _,_=>False
def tV(C:Cw):Option (Rho->Res)->TO
 | none=>sW
 | some g=>mM (tG C g)
theorem tW{e:Option Expr}{g:Option (Rho->Res)}(h:POv C X e g):PO X e (tV (C.at X) g):=by
 cases e with
 | none=>cases g with
  | none=>exact aCK
  | some g=>exact h.elim
 | some e=>cases g with
  | none=>exact h.elim
  | some g=>exact aCL h
def cW(g:Option (Rho->Res))(ρ:Rho)(k:Option Int->Res):Res:=match g with
 | none=>k none
 | some g=>(g ρ).thn λ_ d=>match d with | .int i=>k (some i) | _=>.stuck
theorem i6{F H:Hp}{σ:L2.St}{g:Option (Rho->Res)}{ρ:Rho}{k:Option Int->Res}{Q:VK}{R:Option Int->Hp->Prop}(RS:aR C.K C.F0 C.H0 F H σ ρ)(w:aS C F H σ (cW g ρ k) Q)(h:∀ i F' H',aK F H F' H'->aR C.K C.F0 C.H0 F' H' σ ρ->aS C F' H' σ (k i) Q->R i H'):tV C g σ H R:=by
 cases g with
 | none=>exact h none F H (.refl RS.sub) RS w
 | some g =>
  show mM (tG C g) σ H R;unfold mM;rw[aV];refine ⟨ρ,F,RS,?_⟩;have w:aS C F H σ ((g ρ).thn λ_ d=>match d with | .int i=>k (some i) | _=>.stuck) Q:=w
  cases er:g ρ with
  | stuck=>rw[er] at w;exact w
  | exc c=>rw[er] at w;exact w
  | ok m d =>
   rw[er] at w;intro v F' H' st rp _;cases d with
   | int i=>cases rp.int;exact ⟨i,rfl,h (some i) F' H' st (RS.step st) (aS.step st w)⟩
   | _=>exact (show False from w).elim
def iE:Md->D->Md->D->Option (Md×D):=λ_ x _ y=>match x,y with
 | .str z,.int n=>if (decide (1<=n)&&decide (n<=1000000)&&decide (z.length * n.toNat<=sizeLine))=true then some (.fz,.str (Txt.mul z n)) else none
 | _,_=>none
theorem tX{α:Type}(xs:Array α):∀ (k:Nat) (acc:Array α),((List.replicate k xs).foldl (· ++ ·) acc).size=acc.size+k * xs.size
 | 0,acc=>by simp
 | k+1,acc=>by rw[aQY,aQZ,tX xs k,Array.size_append,Nat.succ_mul];omega
theorem tY{α:Type}(p:α->Bool)(xs:Array α)(h:xs.all p=true):∀ (k:Nat) (acc:Array α),acc.all p=true->((List.replicate k xs).foldl (· ++ ·) acc).all p=true
 | 0,acc,q=>q
 | k+1,acc,q=>by rw[aQY,aQZ];exact tY p xs h k _ (by rw[Array.all_append,q,h];rfl)
theorem aEE(z:Str){n:Int}(h:1<=n):(Txt.mul z n).length=z.length * n.toNat:=by
 unfold Txt.mul;rw[if_neg (by omega)]
 split
 . rename_i hc;rcases (aQS _ _).mp hc with hc | hc
   . have:n=1:=by simpa using hc
     subst this;simp
   . have:z.length=0:=by simpa using hc
     rw[this];simp
 . show Array.size (List.foldl (· ++ ·) #[] (List.replicate n.toNat z.cps))=_;rw[tX,Nat.mul_comm];simp[Str.length]
theorem aEF{z:Str}{n:Int}(h:PyData.strOk z=true):PyData.strOk (Txt.mul z n)=true:=by
 unfold Txt.mul;split
 . decide +kernel
 . split
   . exact h
   . unfold PyData.strOk at *;exact tY _ _ h _ _ (by simp)
theorem aEG:OpD C X (binaryOp .Mult) iE:=by
 refine ⟨λx y H Q=>∃ z n,x=.str z/\y=.int n/\MulOk z n/\Q (.str (Txt.mul z n)) H,?_,?_⟩
 . intro aA s σ H x y v u Q I rx ry h;obtain ⟨z,n,rfl,rfl,hm,q⟩:=h;obtain ⟨t,rfl⟩:=rx;obtain ⟨t',rfl⟩:=ry;exact SB.mul hm λt' k=>⟨.str (Txt.mul z n),H,I.tok _,⟨_,rfl⟩,q⟩
 . intro F H m x n y v u k d Q s rx ry e w;unfold iE at e;split at e
   . rename_i z i;obtain ⟨rfl,hz,hk⟩:=rx.str;cases ry.int;split at e
     . rename_i hc;simp only[aQB,aQQ] at hc;obtain ⟨⟨h1,h2⟩,h3⟩:=hc;cases e;refine ⟨z,i,rfl,rfl,⟨?_,λ_ _=>?_,λ_ _=>?_⟩,w _ F H (.refl s) (fA ⟨by rw[aEE z h1];exact h3,aEF hk⟩) (by intro z;cases z)⟩
       . rw[Bool.or_eq_false_iff];exact ⟨aOC (by omega),aOC (by omega)⟩
       . have hs:sizeLine=16777216:=aPH;have:(2 ^ 63-1:Int) / i ≥ (2 ^ 63-1) / 1000000:=by
           apply Int.le_ediv_of_mul_le (by omega)
           have e1:(2 ^ 63-1:Int) / 1000000=9223372036854:=by decide
           rw[e1];have:(9223372036854:Int) * i<=9223372036854 * 1000000:=Int.mul_le_mul_of_nonneg_left h2 (by decide)
           have e2:(9223372036854:Int) * 1000000<=2 ^ 63-1:=by decide
           omega
         have e1:(2 ^ 63-1:Int) / 1000000=9223372036854:=by decide
         omega
       . unfold Builtin.Str.tooLong;exact aOC (by omega)
     . cases e
   . cases e
end
inductive aW where
 | ok (xs:List (Md×D)) | exc (c:Str) | stuck
def RpL(K:Fg)(F H:Hp):List (Md×D)->List V->Prop
 | [],vs=>vs=[]
 | (m,d)::r,vs=>∃ v us,vs=v::us/\Rp K F H m d v/\RpL K F H r us
def aW.thn(r:aW)(k:List (Md×D)->Res):Res:=match r with
 | .ok xs=>k xs
 | .exc c=>.exc c
 | .stuck=>.stuck
@[simp] theorem aW.thn_ok(xs:List (Md×D))(k:List (Md×D)->Res):(aW.ok xs).thn k=k xs:=rfl
@[simp] theorem aW.thn_exc(c:Str)(k:List (Md×D)->Res):(aW.exc c).thn k=.exc c:=rfl
@[simp] theorem aW.thn_stuck(k:List (Md×D)->Res):aW.stuck.thn k=.stuck:=rfl
def kR(C:Cw)(F H:Hp)(σ:L2.St)(r:aW)(Q:List V->Hp->Prop):Prop:=match r with
 | .ok xs=>∀ vs F' H',aK F H F' H'->RpL C.K F' H' xs vs->Q vs H'
 | .exc c=>∀ F' H',aK F H F' H'->C.EE c σ H'
 | .stuck=>False
theorem kR.step{C:Cw}{F H F1 H1:Hp}{σ:L2.St}{r:aW}{Q:List V->Hp->Prop}(st:aK F H F1 H1)(h:kR C F H σ r Q):kR C F1 H1 σ r Q:=by
 cases r with
 | ok m=>exact λv F' H' s2 rp=>h v F' H' (st.trans s2) rp
 | exc c=>exact λF' H' s2=>h F' H' (st.trans s2)
 | stuck=>exact h
def tAv(C:Cw)(g:Rho->aW):TA:=λσ H Q=>∃ ρ F,aR C.K C.F0 C.H0 F H σ ρ/\kR C F H σ (g ρ) Q
def PAv(C:Cw)(X:Cx)(es:List Expr)(g:Rho->aW):Prop:=PA X es (tAv (C.at X) g)
theorem PA.imp{X:Cx}{e:List Expr}{t t':TA}(h:PA X e t)(i:∀ σ H Q,t' σ H Q->t σ H Q):PA X e t':=λp aA s σ H Q I q=>h p aA s σ H Q I (i σ H Q q)
def eB(x:Res)(y:aW):aW:=match x with
 | .ok m d=>(match y with | .ok r=>.ok ((m,d)::r) | .exc c=>.exc c | .stuck=>.stuck)
 | .exc c=>.exc c
 | .stuck=>.stuck
@[simp] theorem mV(m:Md)(d:D)(r:List (Md×D)):eB (.ok m d) (.ok r)=.ok ((m,d)::r):=rfl
section
variable {C:Cw}{X:Cx}{a b c e:Expr}{es:List Expr}{ga gb gc g:Rho->Res}{gs:Rho->aW}{pos p:Pos}{x:Str}
theorem mW:PAv C X [] (λ_=>.ok []):=PA.imp iA λσ H Q q=>by obtain ⟨ρ,F,R,w⟩:=q;exact w [] F H (.refl R.sub) rfl
theorem kS(ha:PV C X e g)(hr:PAv C X es gs)(hs:starEach (e::es) X.env=(false,eval e X.env)::starEach es X.env:=by rfl):PAv C X (e::es) (λρ=>eB (g ρ) (gs ρ)):=by
 refine PA.imp (eY ha hr hs) λσ H Q q=>?_;unfold eW;obtain ⟨ρ,F,R,w⟩:=q;dsimp only at w;rw[aV];refine ⟨ρ,F,R,?_⟩;cases er:g ρ with
 | stuck=>rw[er] at w;exact w
 | exc c=>rw[er] at w;exact w
 | ok m d =>
  rw[er] at w;intro v F1 H1 s1 r1 _;refine ⟨ρ,F1,R.step s1,?_⟩;have w1:=kR.step s1 w;cases es':gs ρ with
  | stuck=>rw[es'] at w1;exact w1
  | exc c=>rw[es'] at w1;exact w1
  | ok r=>rw[es'] at w1;intro vs F2 H2 s2 r2;exact w1 (v::vs) F2 H2 s2 ⟨v,vs,rfl,r1.step s2,r2⟩
def bZ:List (Md×D)->Option (List D)
 | []=>some []
 | (.fz,d)::r=>(bZ r).map (d :: ·)
 | _::_=>none
theorem RpL.fz{K:Fg}{F H:Hp}:∀ {xs:List (Md×D)} {vs:List V} {ds:List D},RpL K F H xs vs->bZ xs=some ds->aB K F ds vs
 | [],_,_,h,e=>by cases e;rw[show _=[] from h];exact aB.nil
 | (.fz,d)::r,_,_,h,e=>by
  obtain ⟨v,us,rfl,r1,r2⟩:=h;unfold bZ at e;cases q:bZ r with
  | none=>rw[q] at e;cases e
  | some ds'=>rw[q] at e;cases e;exact aB.cons r1 (RpL.fz r2 q)
 | (.fr,d)::r,_,_,h,e=>by cases e
 | (.bo,d)::r,_,_,h,e=>by cases e
def eK(r:aW):Res:=r.thn λxs=>match bZ xs with | some ds=>if ds.length<=sizeLine then .ok .fz (.tup ds) else .stuck | none=>.stuck
def iF(r:aW):Res:=r.thn λxs=>match bZ xs with | some ds=>if ds.length<=sizeLine then .ok .fr (.lst ds) else .stuck | none=>.stuck
theorem aF.tup_of{K:Fg}{F:Hp}{p:Addr}{ds:List D}{xs:List V}(hp:F p=none)(r:aB K F ds xs):aF K (upd F p (.tup xs)) (.tup ds) (.ref p):=by simp only[aF];exact ⟨p,xs,rfl,SqT.of bN,r.mono (λb u q=>by rw[aO (cV q hp)];exact q) _ _⟩
theorem aEH{x1}(h:PAv C X es gs):PV C X (.Tuple es x1 pos) (λρ=>eK (gs ρ)):=by
 refine PE.imp (sM h) λσ H Q q=>?_;unfold mJ;rw[aV] at q;obtain ⟨ρ,F,R,w⟩:=q;refine ⟨ρ,F,R,?_⟩;cases er:gs ρ with
 | stuck=>rw[er] at w;exact w
 | exc c=>rw[er] at w;exact w
 | ok xs =>
  rw[er] at w;intro vs F1 H1 s1 r1;have w1:aS (C.at X) F1 H1 σ (match bZ xs with | some ds=>if ds.length<=sizeLine then .ok .fz (.tup ds) else .stuck | none=>.stuck) Q:=aS.step s1 w
  cases ef:bZ xs with
  | none=>rw[ef] at w1;exact w1.elim
  | some ds =>
   rw[ef] at w1;dsimp only at w1;split at w1
   . rename_i hl;have r2:=r1.fz ef;refine ⟨by rw[r2.length];exact hl,λp hp=>?_⟩
     exact w1 (.ref p) _ _ (aK.laid (.tup vs) s1.sub hp) (aF.tup_of (s1.sub.free hp) r2) (by intro z;cases z)
   . exact w1.elim
theorem aEI(h:PAv C X es gs):PV C X (.List es pos) (λρ=>iF (gs ρ)):=by
 refine PE.imp (aCA h) λσ H Q q=>?_;unfold tLst;rw[aV] at q;obtain ⟨ρ,F,R,w⟩:=q;refine ⟨ρ,F,R,?_⟩;cases er:gs ρ with
 | stuck=>rw[er] at w;exact w
 | exc c=>rw[er] at w;exact w
 | ok xs =>
  rw[er] at w;intro vs F1 H1 s1 r1;have w1:aS (C.at X) F1 H1 σ (match bZ xs with | some ds=>if ds.length<=sizeLine then .ok .fr (.lst ds) else .stuck | none=>.stuck) Q:=aS.step s1 w
  cases ef:bZ xs with
  | none=>rw[ef] at w1;exact w1.elim
  | some ds =>
   rw[ef] at w1;dsimp only at w1;split at w1
   . rename_i hl;have r2:=r1.fz ef;refine ⟨by rw[r2.length];exact hl,λp hp=>?_⟩
     refine w1 (.ref p) F1 _ (aK.fresh (.lst vs) s1.sub hp) ⟨p,rfl,s1.sub.free hp,vs,bN,r2⟩ λ_ a ea=>by cases ea;exact hp
   . exact w1.elim
def i7:D->Option Key
 | .int i=>some (.inl i)
 | .str x=>some (.inr x)
 | _=>none
theorem pM{K:Fg}{F H:Hp}{m:Md}{d:D}{k:Key}{v:V}(e:i7 d=some k)(r:Rp K F H m d v):v=kV k:=by
 cases d with
 | int i=>cases e;exact r.int
 | str x=>cases e;exact r.str.1
 | _=>cases e
def dW(X:Cx)(f:Value)(φ:List (Md×D)->Option (Md×D)):Prop :=
 ∃ r:List V->Hp->VK->Prop,fG X f r/\∀ F H xs vs k d Q,aH F H->RpL X.K F H xs vs->φ xs=some (k,d) ->
  (∀ v' F' H',aK F H F' H'->Rp X.K F' H' k d v'->(k=.fr->∀ a,v'=.ref a->H a=none)->Q v' H')->r vs H Q
def fW(φ:List (Md×D)->Option (Md×D))(r:aW):Res:=r.thn λxs=>Res.of (φ xs)
theorem tZ{φ:List (Md×D)->Option (Md×D)}{r:List V->Hp->VK->Prop}(h:∀ F H xs vs k d Q,aH F H->RpL C.K F H xs vs->φ xs=some (k,d)->(∀ v' F' H',aK F H F' H'->Rp C.K F' H' k d v'->(k=.fr->∀ a,v'=.ref a->H a=none)->Q v' H')->r vs H Q){σ:L2.St}{H:Hp}{Q:VK}(q:tG C (λρ=>fW φ (gs ρ)) σ H Q):tCB r (tAv C gs) σ H Q:=by
 unfold tCB;rw[aV] at q;obtain ⟨ρ,F,R,w⟩:=q;refine ⟨ρ,F,R,?_⟩;cases er:gs ρ with
 | stuck=>rw[er] at w;exact w
 | exc c=>rw[er] at w;exact w
 | ok xs =>
  rw[er] at w;intro vs F1 H1 s1 r1;have w1:aS C F1 H1 σ (Res.of (φ xs)) Q:=aS.step s1 w;cases ef:φ xs with
  | none=>rw[ef] at w1;exact w1.elim
  | some kd=>obtain ⟨k,d⟩:=kd;rw[ef] at w1;exact h F1 H1 xs vs k d Q s1.sub r1 ef w1
theorem aEJ{id:String}{φ}(o:dW X (.builtin id) φ)(hg:Gl X x)(hm:X.mg x=none)(hv:bootBuiltins x=some (.builtin id))(ha:PAv C X (e::es) gs)(hn:x ≠ "__name__" := by decide)(hdb:(x==("__debug__" : Str))=false:=by decide)(he:starEach (e::es) X.env=(false,eval e X.env)::starEach es X.env:=by rfl)(hpl:(backTo pos (starEach es X.env)).any (·.1)=false:=by rfl):PV C X (.Call (.Name x p) (e::es) [] pos) (λρ=>fW φ (gs ρ)):=by obtain ⟨r,h1,h2⟩:=o;exact PE.imp (pE h1 hg hm hv ha hn hdb he hpl) λσ H Q q=>tZ h2 q
def gQ:List (Md×D)->Option (Md×D)
 | [(_,.str z)]=>some (.fz,.int z.length)
 | [(_,.lst ds)]=>some (.fz,.int ds.length)
 | [(_,.tup ds)]=>some (.fz,.int ds.length)
 | _=>none
theorem RpL.one{K:Fg}{F H:Hp}{m:Md}{d:D}{vs:List V}(h:RpL K F H [(m,d)] vs):∃ v,vs=[v]/\Rp K F H m d v:=by obtain ⟨v,us,rfl,r,e⟩:=h;exact ⟨v,by rw[show us=[] from e],r⟩
theorem RpL.two{K:Fg}{F H:Hp}{m n:Md}{d e:D}{vs:List V}(h:RpL K F H [(m,d),(n,e)] vs):∃ v u,vs=[v,u]/\Rp K F H m d v/\Rp K F H n e u:=by obtain ⟨v,us,rfl,r,v',us',rfl,r',e⟩:=h;exact ⟨v,v',by rw[show us'=[] from e],r,r'⟩
theorem aEK:dW X (.builtin "len") gQ:=by
 refine ⟨_,aB9,λF H xs vs k d Q s rx e w=>?_⟩;unfold gQ at e;split at e
 . rename_i m z;cases e;obtain ⟨v,rfl,r⟩:=rx.one;obtain ⟨rfl,hz,_⟩:=r.str;exact ⟨_,z.length,rfl,⟨hz,rfl⟩,w _ F H (.refl s) (cL _) (by intro z;cases z)⟩
 . rename_i m ds;cases e;obtain ⟨v,rfl,r⟩:=rx.one;obtain ⟨a,xs,rfl,q,rl⟩:=r.seqL s;exact ⟨_,xs.length,rfl,.inl ⟨xs,q,rfl⟩,by rw[rl.length];exact w _ F H (.refl s) (cL _) (by intro z;cases z)⟩
 . rename_i m ds;cases e;obtain ⟨v,rfl,r⟩:=rx.one;obtain ⟨a,xs,rfl,q,rl⟩:=r.seqT s;exact ⟨_,xs.length,rfl,.inr ⟨xs,q,rfl⟩,by rw[rl.length];exact w _ F H (.refl s) (cL _) (by intro z;cases z)⟩
 . cases e
def tyN:D->Option String
 | .non=>some "NoneType" | .bl _=>some "bool" | .int _=>some "int" | .str _=>some "str" | .tup _=>some "tuple" | .lst _=>some "list" | .dct _=>some "dict" | _=>none
def kT(t c:String):Option Bool:=if ["int", "bool", "str", "list", "tuple", "dict"].contains c=true then some (t==c||(t == "bool" && c == "int")) else none
def mX:List (Md×D)->Option (Md×D)
 | [(_,d),(_,.ty c)]=>match tyN d with | some t=>(kT t c).map λb=>(.fz,.bl b) | none=>none
 | _=>none
theorem aEL{K:Fg}{d:D}{t c:String}{b:Bool}(ht:tyN d=some t)(e:kT t c=some b):PySem.W.kitOne K (.type t) (.type c)=some b:=by
 unfold kT at e;split at e
 . rename_i hc;simp only[List.contains_cons,List.contains_nil,Bool.or_false,aQS,aQ0] at hc;cases e;have ht':t = "NoneType" \/ t = "bool" \/ t = "int" \/ t = "str" \/ t = "tuple" \/ t = "list" \/ t = "dict" := by cases d <;> cases ht <;> simp
   rcases hc with rfl | rfl | rfl | rfl | rfl | rfl <;> rcases ht' with rfl | rfl | rfl | rfl | rfl | rfl | rfl <;> rfl
 . cases e
theorem aEM:dW X (.builtin "isinstance") mX:=by
 refine ⟨λvs H Q=>∃ (F:Hp) (m:Md) (d:D) (v:V) (t c:String) (b:Bool),aH F H/\Rp X.K F H m d v/\vs=[v,.ty c]/\tyN d=some t/\kT t c=some b/\Q (.bl b) H,?_,?_⟩
 . intro aA s σ H xs us Q I r h;obtain ⟨F,m,d,v,t,c,b,sF,rp,rfl,ht,hb,q⟩:=h;obtain ⟨u,u',rfl,ru,ru'⟩:=pB r;cases (show u'=Value.type c from ru')
   have e:=aEL (K:=X.K) ht hb;have fin:∀ tk,EP X aA σ Q (.bool b) { s with toks:=tk }:=λtk=>⟨.bl b,H,I.tok _,rfl,q⟩
   cases d with
   | non=>cases rp.non;cases ht;cases (show u=Value.none from ru);exact aQ1 PySem.W.kitx_none I.kIn True.intro e (λz=>nomatch z) fin
   | bl y=>cases rp.bl;cases ht;cases (show u=Value.bool y from ru);exact aQ1 PySem.W.kitx_bool I.kIn True.intro e (λz=>nomatch z) fin
   | int i=>cases rp.int;cases ht;obtain ⟨t,q⟩:=(show ∃ t,u=Value.int i t from ru);cases q;exact aQ1 PySem.W.kitx_int I.kIn True.intro e (λz=>nomatch z) fin
   | str y=>obtain ⟨rfl,_⟩:=rp.str;cases ht;obtain ⟨t,q⟩:=(show ∃ t,u=Value.str y t from ru);cases q;exact aQ1 PySem.W.kitx_str I.kIn True.intro e (λz=>nomatch z) fin
   | tup ds =>
    obtain ⟨a,xs,rfl,hq,_⟩:=rp.seqT sF;cases ht;cases (show u=Value.ref a from ru)
    obtain ⟨its,_,⟨o,h1,h2,_⟩,_⟩:=I.tuple hq;exact aQ1 PySem.W.kitx_tuple I.kIn ⟨o,h1,h2⟩ e (λz=>nomatch z) fin
   | lst ds =>
    obtain ⟨a,xs,rfl,hq,_⟩:=rp.seqL sF;cases ht;cases (show u=Value.ref a from ru)
    obtain ⟨its,_,⟨o,n,h1,h2,_⟩,_⟩:=I.list hq;exact aQ1 PySem.W.kitx_list I.kIn ⟨o,h1,h2⟩ e (λz=>nomatch z) fin
   | dct ds =>
    obtain ⟨a,xs,rfl,hq,_⟩:=rp.dict sF;cases ht;cases (show u=Value.ref a from ru)
    obtain ⟨_,_,vs,_,p⟩:=(show bS X.prog X.w H s.heap a (.dK xs) from I.hok a _ hq)
    obtain ⟨o,es,ep,h1,h2,_⟩:=p;exact aQ1 PySem.W.kitx_dict I.kIn ⟨o,h1,h2.1⟩ e (λz=>nomatch z) fin
   | _=>cases ht
 . intro F H xs vs k d Q s rx e w;unfold mX at e;split at e
   . rename_i m d' n c;obtain ⟨v,u,rfl,r1,r2⟩:=rx.two;cases r2.ty;cases et:tyN d' with
     | none=>rw[et] at e;cases e
     | some t =>
      rw[et] at e;dsimp only at e;cases eb:kT t c with
      | none=>rw[eb] at e;cases e
      | some b=>rw[eb] at e;cases e;exact ⟨F,m,d',v,t,c,b,s,r1,rfl,et,eb,w _ F H (.refl s) (bY _) (by intro z;cases z)⟩
   . cases e
theorem pv_ty{T:String}(hg:Gl X x)(hm:X.mg x=none)(hv:bootBuiltins x=some (.type T))(hn:x ≠ "__name__" := by decide)(hd:(x==("__debug__" : Str))=false:=by decide):PV C X (.Name x pos) (λ_=>.ok .fz (.ty T)) :=
 iC _ (r8 (v:=.ty T) hg hm hv rfl hn hd) λ_ _=>rp_ty T
theorem aEN{y:Str}{t:Tok}(hg:Gl X x)(hm:X.mg x=some (.str y t))(h:(decide (y.length<=sizeLine)&&PyData.strOk y)=true:=by decide +kernel)(hd:(x==("__debug__" : Str))=false:=by decide):PV C X (.Name x pos) (λ_=>.ok .fz (.str y)) :=
 iC _ (oW (v:=.str y) hg hm ⟨t,rfl⟩ hd) λ_ _=>fA (by rw[aQB,aQQ] at h;exact h)
theorem aEO{y:Int}{t:Tok}(hg:Gl X x)(hm:X.mg x=some (.int y t))(hd:(x==("__debug__" : Str))=false:=by decide):PV C X (.Name x pos) (λ_=>.ok .fz (.int y)) :=
 iC _ (oW (v:=.int y) hg hm ⟨t,rfl⟩ hd) λ_ _=>cL _
def i8:List D->Option (List Bool)
 | []=>some []
 | .bl b::r=>(i8 r).map (b :: ·)
 | _=>none
def mY:List (Md×D)->Option (Md×D)
 | [(_,.lst ds)]=>(i8 ds).map λbs=>(.fz,.bl (bs.all id))
 | _=>none
theorem t4{K:Fg}{F:Hp}:∀ {ds:List D} {xs:List V} {bs:List Bool},aB K F ds xs->i8 ds=some bs->xs=bs.map V.bl
 | [],_,_,h,e=>by cases e;simp only[aB] at h;exact h
 | d::ds,_,_,h,e=>by
  simp only[aB] at h;obtain ⟨y,ys,rfl,r,t⟩:=h;cases d with
  | bl b =>
   unfold i8 at e;cases q:i8 ds with
   | none=>rw[q] at e;cases e
   | some bs=>rw[q] at e;cases e;simp only[aF] at r;subst r;rw[t4 t q];rfl
  | _=>cases e
theorem aEP(bs:List Bool):(List.range bs.length).all (λi=>bs.getD i true)=bs.all id:=by
 rw[aQ2,aQ3,aQ3];constructor
 . intro h b hb;obtain ⟨i,hi,e⟩:=List.getElem_of_mem hb;have:=h i (aON.mpr hi);rw[aQ4,aQ5 hi] at this;rw[<- e];exact this
 . intro h i hi;have hi:=aON.mp hi;rw[aQ4,aQ5 hi];exact h _ (aQ6 hi)
theorem aEQ{prog:Program}{w:World}{aA:LAO}{σ:L2.St}{H:Hp}{s:Shared}{a:Addr}{bs:List Bool}(hc:X.calm=true)(I:Inv X aA σ H s)(hq:SqL X.K H a (bs.map V.bl)){E:VSP}{Q:VSP}(h:∀ (it:Value) (s2:Shared),(∃ I' fp wr n P St tr,it=.ref I'/\Walks prog w X.A.in1 I' fp wr n P St/\St 0 s2.heap/\TruthOf prog w X.A.in1 P tr/\n=bs.length/\(∀ i,tr i=bs.getD i true)/\∀ h' tk,(∀ b o,b∉wr->s2.heap.get? b=some o->h'.get? b=some o)->∃ s3:Shared,s3={ s2 with heap:=h',toks:=tk }/\Inv X aA σ H s3)->Q it s2):wpAny (model prog w) X.A.in1 (pyIter (.ref a)) Q E s:=by
 obtain ⟨its,rv,p,hz⟩:=I.list hq;have hlen:=rv.length;rw[aPU] at hlen;refine aPB p.isList (h _ _ ⟨s.heap.objs.size,_,_,_,_,_,λi=>bs.getD i true,rfl,Walks.list (by show X.A.handled=none;exact I.ok.hd hc) s.heap.objs.size a ?_ its.toArray,⟨⟨_,aOG _ rfl,rfl,rfl⟩,?_⟩,?_,?_,λ_=>rfl,?_⟩)
 . obtain ⟨o,n,e,_⟩:=p;exact aOK (aOH e)
 . obtain ⟨o,n,e,c,d,dd⟩:=p;exact ⟨o,hps e,c,n,dd⟩
 . intro i v s' Q' E' hP hQ;have hv:its[i]? = some v:=by simpa using hP
   have hi:i<bs.length:=by rw[hlen];exact (aOU.mp hv).1
   have hx:(bs.map V.bl)[i]? = some (V.bl bs[i]):=by rw[aPR,aQ5 hi];rfl
   obtain ⟨u,hu,ru⟩:=rv.get hx;rw[hv] at hu;cases hu;cases (show v=Value.bool _ from ru)
   have hQ:Q' (bs.getD i true) s':=hQ;rw[aQ4,aQ5 hi] at hQ;exact aOZ hQ
 . rw[aPI,hlen]
 . intro h' tk hk;refine ⟨_,rfl,?_⟩;refine (I.kept (t':=tk) (h':=h') λb o e=>?_)
   refine hk b o (by intro hb; have : b = s.heap.objs.size := by simpa using hb
                     subst this;exact absurd (aOH e) (aOJ _)) (hps e)
theorem aER(hc:X.calm=true):dW X (.builtin "all") mY:=by
 refine ⟨λvs H Q=>∃ (a:Addr) (bs:List Bool),vs=[.ref a]/\SqL X.K H a (bs.map V.bl)/\Q (.bl (bs.all id)) H,?_,?_⟩
 . intro aA s σ H xs us Q I r h;obtain ⟨a,bs,rfl,hq,q⟩:=h;obtain ⟨u,rfl,ru⟩:=fU r;cases (show u=Value.ref a from ru)
   refine call_all_walk (aEQ hc I hq λit s2 hh=>?_);obtain ⟨I',fp,wr,n,P,St,tr,rfl,W,st,T,rfl,htr,fin⟩:=hh;refine ⟨I',fp,wr,_,P,St,tr,rfl,W,st,T,λh' tk hk=>?_⟩;obtain ⟨s3,rfl,I3⟩:=fin h' tk hk;have e:(List.range bs.length).all tr=bs.all id:=by rw[<- aEP];congr 1;funext i;exact htr i
   rw[e];exact ⟨.bl (bs.all id),H,I3,rfl,q⟩
 . intro F H xs vs k d Q s rx e w;unfold mY at e;split at e
   . rename_i m ds;obtain ⟨v,rfl,r⟩:=rx.one;obtain ⟨a,xs,rfl,hq,rl⟩:=r.seqL s;cases eb:i8 ds with
     | none=>rw[eb] at e;cases e
     | some bs=>rw[eb] at e;cases e;have:=t4 rl eb;subst this;exact ⟨a,bs,rfl,hq,w _ F H (.refl s) (bY _) (by intro z;cases z)⟩
   . cases e
end
inductive aG where
 | nx (ρ:Rho) | rt (m:Md) (d:D) | bk (ρ:Rho) | ct (ρ:Rho) | exc (c:Str) (ρ:Rho) | stuck
def bI(C:Cw)(Fa:Hp)(r:aG)(E:cJ):Prop:=match r with
 | .nx ρ=>∀ σ F H,aH Fa F->aR C.K C.F0 C.H0 F H σ ρ->E.nx σ H
 | .bk ρ=>∀ σ F H,aH Fa F->aR C.K C.F0 C.H0 F H σ ρ->E.bk σ H
 | .ct ρ=>∀ σ F H,aH Fa F->aR C.K C.F0 C.H0 F H σ ρ->E.ct σ H
 | .exc c ρ=>∀ σ F H,aH Fa F->aR C.K C.F0 C.H0 F H σ ρ->C.EE c σ H
 | .rt m d=>∀ v F H,aK C.F0 C.H0 F H->Rp C.K F H m d v->(m=.fr->∀ a,v=.ref a->C.H0 a=none)->E.rt v H
 | .stuck=>False
theorem bI.mono{C:Cw}{F F1:Hp}{r:aG}{E:cJ}(s:aH F F1)(w:bI C F r E):bI C F1 r E:=by
 cases r with
 | nx ρ=>exact λσ F' H' z R=>w σ F' H' (s.trans z) R
 | bk ρ=>exact λσ F' H' z R=>w σ F' H' (s.trans z) R
 | ct ρ=>exact λσ F' H' z R=>w σ F' H' (s.trans z) R
 | exc c ρ=>exact λσ F' H' z R=>w σ F' H' (s.trans z) R
 | rt m d=>exact w
 | stuck=>exact w
def tH(C:Cw)(g:Rho->aG):TS:=λE σ H=>∃ ρ F,aR C.K C.F0 C.H0 F H σ ρ/\bI C F (g ρ) E
def PSv(C:Cw)(X:Cx)(st:Stmt)(g:Rho->aG):Prop:=PS X st (tH (C.at X) g)
def PBv(C:Cw)(X:Cx)(st:List Stmt)(g:Rho->aG):Prop:=PSs X st (tH (C.at X) g)
theorem PS.imp{X:Cx}{e:Stmt}{t t':TS}(h:PS X e t)(i:∀ E σ H,t' E σ H->t E σ H):PS X e t':=λaA s σ H E I q=>h aA s σ H E I (i E σ H q)
theorem PSs.imp{X:Cx}{e:List Stmt}{t t':TS}(h:PSs X e t)(i:∀ E σ H,t' E σ H->t E σ H):PSs X e t':=λaA s σ H E I q=>h aA s σ H E I (i E σ H q)
def aG.thn(r:aG)(k:Rho->aG):aG:=match r with
 | .nx ρ=>k ρ
 | r=>r
@[simp] theorem aG.thn_nx(ρ:Rho)(k:Rho->aG):(aG.nx ρ).thn k=k ρ:=rfl
@[simp] theorem aG.thn_rt(m:Md)(d:D)(k:Rho->aG):(aG.rt m d).thn k=.rt m d:=rfl
@[simp] theorem aG.thn_bk(ρ:Rho)(k:Rho->aG):(aG.bk ρ).thn k=.bk ρ:=rfl
@[simp] theorem aG.thn_ct(ρ:Rho)(k:Rho->aG):(aG.ct ρ).thn k=.ct ρ:=rfl
@[simp] theorem aG.thn_exc(c:Str)(ρ:Rho)(k:Rho->aG):(aG.exc c ρ).thn k=.exc c ρ:=rfl
@[simp] theorem aG.thn_stuck(k:Rho->aG):aG.stuck.thn k=.stuck:=rfl
section
variable {C:Cw}{X:Cx}{a b c e:Expr}{es:List Expr}{ga gb gc g:Rho->Res}{gs:Rho->aW}{pos p:Pos}{x:Str}{st:Stmt}{sts:List Stmt}{h1 h2:Rho->aG}
theorem aES:PBv C X [] (λρ=>.nx ρ):=PSs.imp aA5 λE σ H q=>by obtain ⟨ρ,F,R,w⟩:=q;exact w σ F H (aH.refl _) R
theorem aET{E:cJ}{σ:L2.St}{H:Hp}(q:tH C (λρ=>(h1 ρ).thn h2) E σ H):tSeq (tH C h1) (tH C h2) E σ H:=by
 obtain ⟨ρ,F,R,w⟩:=q;refine ⟨ρ,F,R,?_⟩;dsimp only at w;cases er:h1 ρ with
 | nx ρ'=>rw[er] at w;exact λσ' F' H' z R'=>⟨ρ',F',R',bI.mono z w⟩
 | rt m d=>rw[er] at w;exact w
 | bk ρ'=>rw[er] at w;exact w
 | ct ρ'=>rw[er] at w;exact w
 | exc c ρ'=>rw[er] at w;exact w
 | stuck=>rw[er] at w;exact w
theorem aEU(ha:PSv C X st h1)(hb:PBv C X sts h2):PBv C X (st::sts) (λρ=>(h1 ρ).thn h2):=PSs.imp (aA6 ha hb) λE σ H q=>aET q
def Res.thS(r:Res)(ρ:Rho)(k:Md->D->aG):aG:=match r with
 | .ok m d=>k m d
 | .exc c=>.exc c ρ
 | .stuck=>.stuck
@[simp] theorem Res.thS_ok(m:Md)(d:D)(ρ:Rho)(k:Md->D->aG):(Res.ok m d).thS ρ k=k m d:=rfl
@[simp] theorem Res.thS_exc(c:Str)(ρ:Rho)(k:Md->D->aG):(Res.exc c).thS ρ k=.exc c ρ:=rfl
@[simp] theorem Res.thS_stuck(ρ:Rho)(k:Md->D->aG):Res.stuck.thS ρ k=.stuck:=rfl
theorem fX{F:Hp}{σ:L2.St}{H:Hp}{ρ:Rho}{k:Md->D->aG}{E:cJ}{Q:VK}(R:aR C.K C.F0 C.H0 F H σ ρ)(w:bI C F ((g ρ).thS ρ k) E)(h:∀ m d v F' H',bI C F' (k m d) E->aK F H F' H'->aR C.K C.F0 C.H0 F' H' σ ρ->Rp C.K F' H' m d v->(m=.fr->∀ a,v=.ref a->H a=none)->Q v H'):tG C g σ H Q:=by
 rw[aV];refine ⟨ρ,F,R,?_⟩;cases er:g ρ with
 | stuck=>rw[er] at w;exact w
 | exc c=>rw[er] at w;exact λF' H' s=>w σ F' H' s.fsame (R.step s)
 | ok m d=>rw[er] at w;exact λv F' H' s rp fr=>h m d v F' H' (bI.mono s.fsame w) s (R.step s) rp fr
theorem aEV(he:PV C X e g)(hs:swapsWith e none pos.line X.env=pure false:=by rfl):PSv C X (.Expr e pos) (λρ=>(g ρ).thS ρ λ_ _=>.nx ρ):=PS.imp (o7 he hs) λE σ H q=>by obtain ⟨ρ,F,R,w⟩:=q;exact fX R w λm d v F' H' w' s R' rp fr=>w' σ F' H' (aH.refl _) R'
def fL(r:Res)(ρ:Rho):aG:=r.thS ρ λm d=>match m with | .bo=>.stuck | m=>.rt m d
theorem aEW(he:PV C X e g):PSv C X (.Return (some e) pos) (λρ=>fL (g ρ) ρ):=PS.imp (sD he) λE σ H q=>by
 obtain ⟨ρ,F,R,w⟩:=q;refine fX R w λm d v F' H' w' s R' rp fr=>?_;cases m with
 | bo=>exact (show False from w').elim
 | fz=>exact w' v F' H' R'.st rp (by intro z;cases z)
 | fr=>exact w' v F' H' R'.st rp λ_ a ea=>R.st.same.free (fr rfl a ea)
def fM(ρ:Rho)(i:Nat):aG:=match ρ[i]? with
 | some (some (false,d))=>.rt .fz d
 | some (some (true,d))=>.rt .fr d
 | _=>.stuck
theorem aEX(i:Nat)(h:PE X (.Name x p) (hV i)):PSv C X (.Return (some (.Name x p)) pos) (λρ=>fM ρ i):=PS.imp (sD h) λE σ H q=>by
 obtain ⟨ρ,F,R,w⟩:=q;dsimp only at w;unfold fM at w;cases e:ρ[i]? with
 | none=>rw[e] at w;exact w.elim
 | some o =>
  cases o with
  | none=>rw[e] at w;exact w.elim
  | some q =>
   obtain ⟨m,d⟩:=q;obtain ⟨v,e1,r,hh⟩:=R.slot i m d e;rw[e] at w;cases m with
   | false=>exact ⟨v,e1,w v F H R.st r (by intro z;cases z)⟩
   | true=>exact ⟨v,e1,w v F H R.st r λ_=>hh rfl⟩
def ifS(t:Res)(ρ:Rho)(x y:aG):aG:=t.thS ρ λ_ d=>match d with | .bl true=>x | .bl false=>y | _=>.stuck
theorem aEY{s1 s2:List Stmt}(hc:PTv C X c gc)(ha:PBv C X s1 h1)(hb:PBv C X s2 h2):PSv C X (.If c s1 s2 pos) (λρ=>ifS (gc ρ) ρ (h1 ρ) (h2 ρ)):=by
 refine PS.imp (ps_if hc ha hb) λE σ H q=>?_;obtain ⟨ρ,F,R,w⟩:=q;dsimp only at w;refine ⟨ρ,F,R,?_⟩;cases er:gc ρ with
 | stuck=>rw[er] at w;exact w
 | exc c=>rw[er] at w;exact λF' H' s=>w σ F' H' s.fsame (R.step s)
 | ok m d =>
  rw[er] at w;cases d with
  | bl k =>
   intro F' H' s;cases k with
   | true=>rw[if_pos rfl];exact ⟨ρ,F',R.step s,bI.mono s.fsame w⟩
   | false=>rw[if_neg aO9];exact ⟨ρ,F',R.step s,bI.mono s.fsame w⟩
  | _=>exact w.elim
def dX(ρ:Rho)(i:Nat)(r:Res):aG:=r.thS ρ λm d=>match m with
 | .fz=>.nx (ρ.set i (some (false,d)))
 | .fr=>.nx (ρ.set i (some (true,d)))
 | .bo=>.stuck
theorem aR.set{K:Fg}{F0 H0 F H F' H':Hp}{σ:L2.St}{ρ:Rho}{i:Nat}{m:Bool}{d:D}{v:V}(R0:aR K F0 H0 F H σ ρ)(s:aK F H F' H')(rp:Rp K F' H' (if m then .bo else .fz) d v)(fr:m=true->∀ a,v=.ref a->H a=none):aR K F0 H0 F' H' (σ.set i (some v)) (ρ.set i (some (m,d))):=by
 have R:=R0.step s;refine ⟨R.st,λj m' d' e=>?_,λj k d1 d2 a hjk e1 e2 q1 q2=>?_,by rw[aQ7,aQ7];exact R.len⟩
 . by_cases hj:j=i
   . subst hj;rw[aQ8] at e;by_cases hl:j<ρ.length
     . rw[if_pos rfl,if_pos hl] at e;cases e;refine ⟨v,by rw[aQ8,if_pos rfl,if_pos (by rw[R.len];exact hl)],rp,λz a ea=>R0.st.same.free (fr z a ea)⟩
     . rw[if_pos rfl,if_neg hl] at e;cases e
   . rw[aOX (λz=>hj z.symm)] at e ⊢;exact R.slot j m' d' e
 . have old:∀ (l:Nat) (d:D) (b:Addr),l≠i->ρ[l]? = some (some (true,d))->σ[l]? = some (some (.ref b))->H b≠none:=λl d b hl e q=>by obtain ⟨u,q',r,_⟩:=R0.slot l true d e;rw[q] at q';cases q';obtain ⟨b',eb,_,t⟩:=r;cases eb;exact t.there
   by_cases hj:j=i
   . subst hj;rw[aOX hjk] at e2 q2;rw[aQ8] at e1 q1;by_cases hl:j<ρ.length
     . rw[if_pos rfl,if_pos hl] at e1;rw[if_pos rfl,if_pos (by rw[R.len];exact hl)] at q1
       cases e1;cases q1;exact old k d2 a (λz=>hjk z.symm) e2 q2 (fr rfl a rfl)
     . rw[if_pos rfl,if_neg hl] at e1;cases e1
   . by_cases hk:k=i
     . subst hk;rw[aOX (λz=>hjk z.symm)] at e1 q1;rw[aQ8] at e2 q2;by_cases hl:k<ρ.length
       . rw[if_pos rfl,if_pos hl] at e2;rw[if_pos rfl,if_pos (by rw[R.len];exact hl)] at q2
         cases e2;cases q2;exact old j d1 a hjk e1 q1 (fr rfl a rfl)
       . rw[if_pos rfl,if_neg hl] at e2;cases e2
     . rw[aOX (λz=>hj z.symm)] at e1 q1;rw[aOX (λz=>hk z.symm)] at e2 q2;exact R.apart j k d1 d2 a hjk e1 e2 q1 q2
theorem kU{g:Rho->Res}{i:Nat}{E:cJ}{σ:L2.St}{H:Hp}(q:tH (C.at X) (λρ=>dX ρ i (g ρ)) E σ H):hZ (tG (C.at X) g) (iW i) E σ H:=by
 obtain ⟨ρ,F,R,w⟩:=q;dsimp only at w;refine fX R w λm d v F' H' w' s R' rp fr=>?_;cases m with
 | bo=>exact (show False from w').elim
 | fz=>exact w' _ F' H' (aH.refl _) (R.set (m:=false) s rp (by intro z;cases z))
 | fr=>exact w' _ F' H' (aH.refl _) (R.set (m:=true) s rp λ_ a ea=>fr rfl a ea)
theorem aEZ{i:Nat}{pos':Pos}(hN:X.N.Nodup)(hi:X.N[i]? = some x)(hx:Loc X.env.scope x)(he:PV C X e g)(hs:swapsWith e (some (.Name x pos')) pos.line X.env=pure false:=by rfl)(hf:X.fn x=true\/X.env.scope.names.lookup x=some .local:=by first | exact .inl rfl | exact .inr rfl | assumption):PSv C X (.Assign [.Name x pos'] e pos) (λρ=>dX ρ i (g ρ)):=PS.imp (aBC hN hi hx he hs hf) λE σ H q=>kU q
end
def Its(x:Str):It:=⟨λi _=>i<x.cps.size,λi H v H'=>H'=H/\∃ c,x.cps[i]? = some c/\v=.str ⟨#[c]⟩,λi _=>x.cps.size<=i⟩
theorem t5{P:Program}{w:World}{K:Fg}{tg:Expr}(it:Addr)(x:Str)(t:Tok)(ty:String)(hty:["enumerate", "zip", "dict_itemiterator", "dict_reverseitemiterator", "odict_iterator", "itertools.zip_longest", "itertools.pairwise"].contains ty=false)(W:∀ A':Around,A'.handled=none->Walks P w A' it [it] [it] x.cps.size (SignAt x) (λi h=>h.IsStrIter it ty x t i))(Sf:∀ (A:Around) (i:Nat) (s:Shared) (Q:VSP) (E:VSP),s.heap.IsStrIter it ty x t i->Q (.ref it) s->wpAny (model P w) A (pyIter (.ref it)) Q E s):gM P w K tg (Its x) [it] it (λi h=>i<=x.cps.size/\h.IsStrIter it ty x t i) where
 mem:=by simp
 obj:=λi h st b hb=>by
  have e:b=it:=by simpa using hb
  subst e;obtain ⟨_,o,e,c,d⟩:=st;exact ⟨o,e,λv z=>by rw[d] at z;cases z⟩
 keep:=λi h h' st k=>⟨st.1,let ⟨o,e,r⟩:=st.2;⟨o,k it (by simp) o e,r⟩⟩
 item:=by
  intro X hP hw hK hc i aA s σ H E I hf st hg;subst hP hw hK;obtain ⟨f0,f1,f2,f3,f4,f5⟩:=hf it (by simp)
  refine (W X.A (I.ok.hd hc)).item i s _ _ hg st.2 λv h' tk hv st' kk=>?_;obtain ⟨c,u,hc',rfl⟩:=hv;have I1:Inv X aA σ H { s with heap:=h',toks:=tk }:=I.turned (λb o hb e=>kk b o (by simpa using hb) e) f0 f1 f3 f4 f5
  obtain ⟨o,e,oc,d⟩:=id st';exact ⟨_,rfl,l6 (s:={ s with heap:=h',toks:=tk }) e oc d hty ⟨.str ⟨#[c]⟩,H,I1,⟨u,rfl⟩,⟨rfl,c,hc',rfl⟩,⟨hg,st'⟩,λb hb=>(hf b hb).1⟩⟩
 done:=by
  intro X hP hw hK hc i aA s σ H E I hf st hg;subst hP hw hK;obtain ⟨f0,f1,f2,f3,f4,f5⟩:=hf it (by simp)
  have e:i=x.cps.size:=Nat.le_antisymm st.1 hg;subst e;exact (W X.A (I.ok.hd hc)).done s _ _ st.2 λh' tk kk=>⟨rfl,I.turned (λb o hb e=>kk b o (by simpa using hb) e) f0 f1 f3 f4 f5⟩
 self:=λA i s Q E st h=>Sf A i s Q E st.2 h
def iStr(te:TE):TI:=λσ H R=>te σ H λx H1=>∃ z,x=.str z/\R (Its z) H1
theorem aE0{X:Cx}{tg l:Expr}{tl:TE}(hl:PE X l tl):PI X tg l (iStr tl):=by
 intro aA s σ H R I h;refine thn (hl aA s σ H _ I h) λv s1 ⟨x,H1,I1,r1,q1⟩=>?_;obtain ⟨z,e,q⟩:=q1;subst e;obtain ⟨t,rfl⟩:=r1;have fin:∀ (ty:String) (o:Obj),o={ cls:=.type ty,data:=.fields #[.str z t,.int ((0:Nat):Int) 0] } -> (∀ b:Addr,b∈[s1.heap.objs.size]->d9 X aA H1 b)/\Inv X aA σ H1 { s1 with heap:=s1.heap.push o }/\(s1.heap.push o).IsStrIter s1.heap.objs.size ty z t 0:=λty o eo=>by
  refine ⟨λb hb=>?_,I1.kept (t':=s1.toks) λb o e=>hps e,⟨o,aOG _ (by rw[eo];rfl),by rw[eo],by rw[eo]⟩⟩
  have e:b=s1.heap.objs.size:=by simpa using hb
  subst e;exact I1.fpOk (aPC _) (I1.hok.fresh (aPC _))
 cases ha:z.cps.all (· < 128)
 . refine wpAny_pyIter_wide ha ?_;obtain ⟨f1,f2,f3⟩:=fin "str_iterator" _ rfl;exact ⟨s1.heap.objs.size,[s1.heap.objs.size],_,Its z,H1,rfl,f2,t5 _ z t "str_iterator" (by decide) (λA' hA=>Walks.strWide hA _ z t) (λA i s Q E st h=>wpAny_pyIter_striter_wide st h),⟨aQP _,f3⟩,f1,q⟩
 . refine wpAny_pyIter_ascii ha ?_;obtain ⟨f1,f2,f3⟩:=fin "str_ascii_iterator" _ rfl;exact ⟨s1.heap.objs.size,[s1.heap.objs.size],_,Its z,H1,rfl,f2,t5 _ z t "str_ascii_iterator" (by decide) (λA' hA=>Walks.strAscii hA _ z t) (λA i s Q E st h=>wpAny_pyIter_striter_ascii st h),⟨aQP _,f3⟩,f1,q⟩
theorem PI.imp{X:Cx}{tg e:Expr}{t t':TI}(h:PI X tg e t)(i:∀ σ H R,t' σ H R->t σ H R):PI X tg e t':=λaA s σ H R I q=>h aA s σ H R I (i σ H R q)
theorem PI.or{X:Cx}{tg e:Expr}{t t':TI}(h:PI X tg e t)(h':PI X tg e t'):PI X tg e (λσ H R=>t σ H R\/t' σ H R):=λaA s σ H R I q=>by
 rcases q with q | q
 . exact h aA s σ H R I q
 . exact h' aA s σ H R I q
structure kW(K:Fg)(F:Hp)(J:It)(ds:List D):Prop where
 go:∀ i H,aH F H->i<ds.length->J.go i H
 stop:∀ i H,aH F H->ds.length<=i->J.stop i H
 yld:∀ i Fc H x H',aH F Fc->aH Fc H->i<ds.length->J.yld i H x H'->∃ F' d,ds[i]? = some d/\aK Fc H F' H'/\aF K F' d x
def WantI(C:Cw)(F H:Hp)(σ:L2.St)(r:Res)(R:It->Hp->Prop):Prop:=match r with
 | .ok _ (.lst ds)=>∀ J F' H',aK F H F' H'->kW C.K F' J ds->R J H'
 | .exc c=>∀ F' H',aK F H F' H'->C.EE c σ H'
 | _=>False
def tIv(C:Cw)(g:Rho->Res):TI:=λσ H R=>∃ ρ F,aR C.K C.F0 C.H0 F H σ ρ/\WantI C F H σ (g ρ) R
def PIv(C:Cw)(X:Cx)(tg e:Expr)(g:Rho->Res):Prop:=PI X tg e (tIv (C.at X) g)
def i9(z:Str):List D:=z.cps.toList.map λc=>.str ⟨#[c]⟩
def gR(r:Res):Res:=r.thn λ_ d=>match d with
 | .lst ds=>.ok .fz (.lst ds)
 | .tup ds=>.ok .fz (.lst ds)
 | .str z=>.ok .fz (.lst (i9 z))
 | _=>.stuck
section
variable {C:Cw}{X:Cx}{tg e:Expr}{g:Rho->Res}{gs:Rho->aW}{pos p:Pos}
theorem aE1{K:Fg}{F:Hp}{a:Addr}{ds:List D}{xs:List V}(hq:SqT K F a xs)(r:aB K F ds xs):kW K F (Itt K a) ds where
 go:=λi H s hi=>by
  have hl:i<xs.length:=by rw[r.length];exact hi
  exact ⟨xs,xs[i],aH.seqT s hq,by simp[hl]⟩
 stop:=λi H s hi=>⟨xs,aH.seqT s hq,by rw[r.length];exact hi⟩
 yld:=λi Fc H x H' s1 s2 hi y=>by obtain ⟨rfl,y⟩:=y;have hx:=y xs (aH.seqT s2 (aH.seqT s1 hq));obtain ⟨d,e,rd⟩:=r.get hx;exact ⟨Fc,d,e,.refl s2,rd.mono s1 _ _⟩
theorem aE2{K:Fg}{F:Hp}{z:Str}(hk:PyData.strOk z=true):kW K F (Its z) (i9 z) where
 go:=λi H s hi=>by simpa[i9,Its] using hi
 stop:=λi H s hi=>by simpa[i9,Its] using hi
 yld:=λi Fc H x H' s1 s2 hi y=>by
  obtain ⟨rfl,c,hc,rfl⟩:=y;refine ⟨Fc,.str ⟨#[c]⟩,by simp[i9,hc],.refl s2,?_⟩
  simp only[aF,true_and];refine ⟨by show 1<=sizeLine;decide,?_⟩
  unfold PyData.strOk at hk ⊢;rw[aQT] at hk;simpa using hk c (Array.mem_of_getElem? hc)
theorem aE3(h:PV C X e g):PIv C X tg e (λρ=>gR (a8 (g ρ))):=by
 have h:=fK h;refine PI.imp (PI.or (aBJ h) (PI.or (aBK h) (aE0 h))) λσ H R q=>?_;obtain ⟨ρ,F,RS,w⟩:=q;dsimp only at w;cases er:a8 (g ρ) with
 | stuck=>rw[er] at w;exact w.elim
 | exc c=>refine .inl ?_;unfold o8;rw[aV];refine ⟨ρ,F,RS,?_⟩;rw[er] at w ⊢;exact w
 | ok m d =>
  rw[er] at w;have hm:m=.fz:=by
   cases h:g ρ with
   | ok m' d'=>rw[h] at er;cases m' <;> cases er <;> rfl
   | exc c=>rw[h] at er;cases er
   | stuck=>rw[h] at er;cases er
  subst hm;cases d with
  | lst ds =>
   refine .inl ?_; unfold o8; rw [aV]; refine ⟨ρ, F, RS, ?_⟩; rw [er]; intro v F' H' st rp _; have rp : aF X.K F' (.lst ds) v := rp; simp only [aF] at rp; obtain ⟨a, xs, rfl, hq, r⟩ := rp; exact ⟨a, rfl, ⟨xs, st.sub.seq hq⟩, w _ F' H' st ⟨fun i H s hi => by
       have hl:i<xs.length:=by rw[r.length];exact hi
       exact ⟨xs,xs[i],s.seq hq,by simp[hl]⟩,λi H s hi=>⟨xs,s.seq hq,by rw[r.length];exact hi⟩,λi Fc H x H' s1 s2 hi y=>by
       obtain ⟨rfl,y⟩:=y;have hx:=y xs (s2.seq (s1.seq hq));obtain ⟨d,e,rd⟩:=r.get hx;exact ⟨Fc,d,e,.refl s2,rd.mono s1 _ _⟩⟩⟩
  | tup ds=>refine .inr (.inl ?_);unfold iTup;rw[aV];refine ⟨ρ,F,RS,?_⟩;rw[er];intro v F' H' st rp _;have rp:aF X.K F' (.tup ds) v:=rp;simp only[aF] at rp;obtain ⟨a,xs,rfl,hq,r⟩:=rp;exact ⟨a,rfl,⟨xs,aH.seqT st.sub hq⟩,w _ F' H' st (aE1 hq r)⟩
  | str z=>refine .inr (.inr ?_);unfold iStr;rw[aV];refine ⟨ρ,F,RS,?_⟩;rw[er];intro v F' H' st rp _;obtain ⟨rfl,hz,hk⟩:=Rp.str rp;exact ⟨z,rfl,w _ F' H' st (aE2 hk)⟩
  | _=>exact w.elim
def bT(lo hi:Int):List D:=(List.range (hi-lo).toNat).map λi=>.int (lo+(i:Nat))
def jA(r:aW):Res:=r.thn λxs=>match xs with
 | [(_,.int n)]=>if (decide (-(2 ^ 62)<=n)&&decide (n<2 ^ 62))=true then .ok .fz (.lst (bT 0 n)) else .stuck
 | _=>.stuck
theorem aE4{K:Fg}{F:Hp}{lo hi:Int}:kW K F (Itr lo (hi-lo).toNat) (bT lo hi) where
 go:=λi H s h=>by simpa[bT,Itr] using h
 stop:=λi H s h=>by simpa[bT,Itr] using h
 yld:=λi Fc H x H' s1 s2 h y=>by
  obtain ⟨rfl,rfl⟩:=y;have h':i<(hi-lo).toNat:=by simpa[bT] using h
  refine ⟨Fc,.int (lo+i),?_,.refl s2,by simp only[aF]⟩
  simp only[bT,aPR,List.getElem?_range h',aQ9]
theorem aE5{a:Expr}(hg:Gl X "range")(hm:X.mg "range" = none)(ha:PAv C X [a] gs)(hs:starEach [a] X.env=[(false,eval a X.env)]:=by rfl):PIv C X tg (.Call (.Name "range" p) [a] [] pos) (λρ=>jA (gs ρ)):=by
 refine PI.imp (aBM hg hm ha hs) λσ H R q=>?_;obtain ⟨ρ,F,RS,w⟩:=q;dsimp only at w;unfold sJ;refine ⟨ρ,F,RS,?_⟩;cases er:gs ρ with
 | stuck=>rw[er] at w;exact w
 | exc c=>rw[er] at w;exact w
 | ok xs =>
  rw[er] at w;intro vs F' H' st rp;unfold jA at w;rw[aW.thn_ok] at w;split at w
  . rename_i m n;split at w
    . rename_i hc;rw[aQB,aQQ,aQQ] at hc;obtain ⟨v,rfl,r⟩:=rp.one;cases r.int;have:=aE4 (K:=X.K) (F:=F') (lo:=0) (hi:=n);rw[Int.sub_zero] at this;exact ⟨n,rfl,hc.1,hc.2,w _ F' H' st this⟩
    . exact w.elim
  . exact w.elim
def PGv(C:Cw)(X:Cx)(tg:Expr)(k:D->Rho->Option Rho):Prop:=∃ t:TG,PG X tg t/\∀ F H σ ρ ρ' d v Q,aR X.K C.F0 C.H0 F H σ ρ->aF X.K F d v->k d ρ=some ρ' ->
 (∀ σ' F' H',aH F F'->aR X.K C.F0 C.H0 F' H' σ' ρ'->Q σ' H')->t v σ H Q
def cM(k:D->Rho->Option Rho)(body:Rho->aG):List D->Rho->aG
 | [],ρ=>.nx ρ
 | d::ds,ρ=>match k d ρ with
  | none=>.stuck
  | some ρ1=>match body ρ1 with
   | .nx ρ2=>cM k body ds ρ2
   | .ct ρ2=>cM k body ds ρ2
   | .bk ρ2=>.nx ρ2
   | r=>r
def pN(r:Res)(ρ:Rho)(k:D->Rho->Option Rho)(body:Rho->aG):aG:=r.thS ρ λ_ d=>match d with | .lst ds=>cM k body ds ρ | _=>.stuck
theorem aE6{body:List Stmt}{k:D->Rho->Option Rho}{h1:Rho->aG}(hp:PassesOwn (model X.prog X.w) X.A X.env X.xe)(hc:X.calm=true)(hi:PIv C X tg e g)(hg:PGv C X tg k)(hb:PBv C X body h1)(hs:∀ x,foldedSetIterable e X.env x=pure x:=by intro _;rfl):PSv C X (.For tg e body [] pos) (λρ=>pN (g ρ) ρ k h1):=by
 obtain ⟨t,ht,hk⟩:=hg;refine PS.imp (aBO hp hc hi ht hb hs) λE σ H q=>?_;obtain ⟨ρ,F,RS,w⟩:=q;dsimp only at w;unfold tFor;refine ⟨ρ,F,RS,?_⟩;cases er:g ρ with
 | stuck=>rw[er] at w;exact w
 | exc c=>rw[er] at w;exact λF' H' s=>w σ F' H' s.fsame (RS.step s)
 | ok m d =>
  rw[er] at w;cases d with
  | lst ds =>
   intro J F1 H1 s1 hJ;have w:bI (C.at X) F1 (cM k h1 ds ρ) E:=bI.mono s1.fsame w;refine ⟨λi m σ' H'=>m=ds.length-i/\i<=ds.length/\∃ ρ' F',aH F1 F'/\aR X.K C.F0 C.H0 F' H' σ' ρ'/\bI (C.at X) F' (cM k h1 (ds.drop i) ρ') E,⟨ds.length,by simp,aQP _,ρ,F1,aH.refl _,RS.step s1,by simpa using w⟩,?_⟩
   rintro i m σ' H' ⟨rfl,hi,ρ',F',sF,R',w'⟩;by_cases hlt:i<ds.length
   . refine .inr ⟨hJ.go i H' (sF.trans R'.sub) hlt,λσ2 H2=>∃ ρ2 F2,aH F1 F2/\aR X.K C.F0 C.H0 F2 H2 σ2 ρ2/\bI (C.at X) F2 (cM k h1 (ds.drop (i+1)) ρ2) E,λσ2 H2 ⟨ρ2,F2,a,b,c⟩=>⟨ds.length-(i+1),by omega,rfl,hlt,ρ2,F2,a,b,c⟩,λx H2 y=>?_⟩
     obtain ⟨F2,d,ed,s2,rd⟩:=hJ.yld i F' H' x H2 sF R'.sub hlt y;have hd:ds.drop i=d::ds.drop (i+1):=by rw[aRA hlt];rw[aQ5 hlt] at ed;cases ed;rfl
     rw[hd] at w';unfold cM at w';cases ek:k d ρ' with
     | none=>rw[ek] at w';exact w'.elim
     | some ρ1 =>
      rw[ek] at w';dsimp only at w';refine hk F2 H2 σ' ρ' ρ1 d x _ (R'.step s2) rd ek λσ3 F3 H3 z3 R3=>?_;have z13:aH F1 F3:=(sF.trans s2.fsame).trans z3;have w3:=bI.mono (s2.fsame.trans z3) w';refine ⟨ρ1,F3,R3,?_⟩;cases eb:h1 ρ1 with
      | nx ρ2=>rw[eb] at w3;exact λσ4 F4 H4 z4 R4=>⟨ρ2,F4,z13.trans z4,R4,bI.mono z4 w3⟩
      | ct ρ2=>rw[eb] at w3;exact λσ4 F4 H4 z4 R4=>⟨ρ2,F4,z13.trans z4,R4,bI.mono z4 w3⟩
      | bk ρ2=>rw[eb] at w3;exact λσ4 F4 H4 z4 R4=>w3 σ4 F4 H4 z4 R4
      | rt m d=>rw[eb] at w3;exact w3
      | exc c ρ2=>rw[eb] at w3;exact w3
      | stuck=>rw[eb] at w3;exact w3
   . have ei:i=ds.length:=by omega
     subst ei;refine .inl ⟨hJ.stop _ H' (sF.trans R'.sub) (aPC _),?_⟩;rw[aRB] at w';exact w' σ' F' H' (aH.refl _) R'
  | _=>exact w.elim
end
end D3
namespace L2
open PySem PySem.Spec PyProof.Rows
theorem pO {env : Env} : ∀ (names : List (Str × NameKind)) (acc : List (Str × Addr)), (∀ y ∈ names, y.2 = .free → ∃ c, env.cells.lookup y.1 = some c) → (∀ y c, acc.lookup y = some c → env.cells.lookup y = some c) →
    ∃ cl,(forIn names acc λ(x:Str×NameKind) (cs:List (Str×Addr))=>(if x.2 == .free then (do let c <- cellOf env x.1;pure (ForInStep.yield ((x.1,c)::cs))) else pure (ForInStep.yield cs):Sem (ForInStep (List (Str×Addr)))))=pure cl /\
     (∀ y c,cl.lookup y=some c->env.cells.lookup y=some c)/\(∀ y c,acc.lookup y=some c->cl.lookup y=some c)/\∀ y,(y,NameKind.free)∈names->∃ c,cl.lookup y=some c
 | [],acc,_,ha=>⟨acc,by rw[aRC],ha,λ_ _ h=>h,λ_ h=>by cases h⟩
 | (n,k)::r,acc,h,ha=>by
  rw[aRD];by_cases hk:k=.free
  . subst hk;obtain ⟨c,ec⟩:=h (n,.free) mcs rfl;have hc:cellOf env n=pure c:=by unfold cellOf;rw[ec]
    have e:((if (NameKind.free==NameKind.free)=true then (do let c <- cellOf env n;pure (ForInStep.yield ((n,c)::acc))) else pure (ForInStep.yield acc)):Sem (ForInStep (List (Str×Addr))))=pure (ForInStep.yield ((n,c)::acc)):=by rw[if_pos (by decide),hc,aRE]
    obtain ⟨cl,e1,e2,e3,e4⟩:=pO (env:=env) r ((n,c)::acc) (λy hy=>h y (mcm hy)) (λy c' q=>by
     rw[aRF] at q;cases hyn:y==n with
     | true=>rw[hyn] at q;cases q;rw[aQ0.mp hyn];exact ec
     | false=>rw[hyn] at q;exact ha y c' q)
    refine ⟨cl,?_,e2,λy c' q=>?_,λy hy=>?_⟩
    . dsimp only;rw[e,aRE];exact e1
    . cases hyn:y==n with
      | true=>have:=aQ0.mp hyn;subst this;have q':=ha y c' q;rw[ec] at q';cases q';exact e3 y c (by rw[aRF,hyn])
      | false=>exact e3 y c' (by rw[aRF,hyn];exact q)
    . rcases aOR.mp hy with z | z
      . cases z;exact ⟨c,e3 n c (by rw[aRF,aRG])⟩
      . exact e4 y z
  . have e:((if (k==NameKind.free)=true then (do let c <- cellOf env n;pure (ForInStep.yield ((n,c)::acc))) else pure (ForInStep.yield acc)):Sem (ForInStep (List (Str×Addr))))=pure (ForInStep.yield acc):=by rw[if_neg (by simpa using hk)]
    obtain ⟨cl,e1,e2,e3,e4⟩:=pO (env:=env) r acc (λy hy=>h y (mcm hy)) ha;refine ⟨cl,?_,e2,e3,λy hy=>?_⟩
    . dsimp only;rw[e,aRE];exact e1
    . rcases aOR.mp hy with z | z
      . cases z;exact absurd rfl hk
      . exact e4 y z
theorem t7{scope:Scope}{env:Env}(h:∀ y∈scope.names,y.2=.free->∃ c,env.cells.lookup y.1=some c):∃ cl,closureFor scope env=pure cl/\(∀ y c,cl.lookup y=some c->env.cells.lookup y=some c)/\∀ y,(y,NameKind.free)∈scope.names->∃ c,cl.lookup y=some c:=by
 obtain ⟨cl,e1,e2,_,e4⟩:=pO (env:=env) scope.names [] h (λy c q=>by simp at q)
 refine ⟨cl,?_,e2,e4⟩;unfold closureFor;rw[bind_pure];exact e1
theorem t9{scope:Scope}{env:Env}(bW:∀ y∈scope.names,y.2 ≠ .cell){x:Str}(h:(relabel scope env).names.lookup x=some .cell\/(relabel scope env).names.lookup x=some .free):(x,NameKind.free)∈scope.names:=by
 unfold relabel at h;dsimp only at h;have go:∀ (l:List (Str×NameKind)),(∀ y∈l,y.2 ≠ .cell)->((l.map λ(n,k)=>if (k==NameKind.free&&env.scope.kind == .function&&env.kindOf n==some .cell) then (n,NameKind.cell) else (n,k)).lookup x=some .cell\/(l.map λ(n,k)=>if (k==NameKind.free&&env.scope.kind == .function&&env.kindOf n==some .cell) then (n,NameKind.cell) else (n,k)).lookup x=some .free)->(x,NameKind.free)∈l:=by
  intro l
  induction l with
  | nil=>intro _ h;simp at h
  | cons y l ih =>
   intro hc h;obtain ⟨n,k⟩:=y;rw[aQK] at h;by_cases hx:x=n
   . subst hx;have hk:k=.free:=by
       by_cases hk:k=.free
       . exact hk
       . have e:(k==NameKind.free&&env.scope.kind == .function&&env.kindOf x==some .cell)=false:=by
           have:(k==NameKind.free)=false:=by simpa using hk
           rw[this];rfl
         simp only[e,aRH,aP2,aRF,aRG] at h;rcases h with h | h
         . cases h;exact absurd rfl (hc _ mcs)
         . cases h;exact absurd rfl hk
     subst hk;exact mcs
   . have hb:(x==n)=false:=by simpa using hx
     have hh:∀ (kk:NameKind) (l':List (Str×NameKind)),((n,kk)::l').lookup x=l'.lookup x:=λkk l'=>by rw[aRF,hb]
     by_cases hcond:(k==NameKind.free&&env.scope.kind == .function&&env.kindOf n==some .cell)=true
     . dsimp only at h;rw[if_pos hcond,hh] at h;exact mcm (ih (λy hy=>hc y (mcm hy)) h)
     dsimp only at h;rw[if_neg hcond,hh] at h;exact mcm (ih (λy hy=>hc y (mcm hy)) h)
 exact go scope.names bW h
def aQ(X:Cx)(scope:Scope)(N:List Str)(cl:List (Str×Addr))(C:Addr)(fp:List Addr)(s3:Shared)(H3:Hp):Cx where
 prog:=X.prog
 w:=X.w
 K:=X.K
 mg:=X.mg
 base:=X.base
 A:=X.A
 N:=N
 s₀:=s3
 H₀:=H3
 env:=compEnvC scope cl C X.env
 outer:=X.stack
 stack:=X.stack
 ex:=fp
 fn:=λ_=>false
 calm:=X.calm
 pn:=[]
 xe:=λ_ _=>False
def cO(X:Cx)(cs:List Expr)(t:TT):Prop :=
 ∀ (aA:LAO) (s:Shared) (σ:St) (H:Hp) (Q:Bool->Hp->Prop),Inv X aA σ H s->t σ H Q ->
  wpAny (model X.prog X.w) X.A (forIn cs true λc r=>if r=true then do let ok <- isTrue c X.env (eval c X.env);pure (ForInStep.yield ok) else pure (ForInStep.yield r)) (TP X aA σ Q) X.xe s
theorem aE7{X:Cx}:cO X [] (λ_ H Q=>Q true H):=λaA s σ H Q I h=>by rw[aRC];exact aO5 ⟨H,I,h⟩
theorem uA{X:Cx}:∀ cs:List Expr,(forIn cs false λc r=>if r=true then do let ok <- isTrue c X.env (eval c X.env);pure (ForInStep.yield ok) else pure (ForInStep.yield r):Sem Bool)=pure false
 | []=>by rw[aRC]
 | c::cs=>by rw[aRD,if_neg aO9,aRE];exact uA cs
theorem aE8{X:Cx}{c:Expr}{cs:List Expr}{t u:TT}(hc:PT X c t)(hr:cO X cs u):cO X (c::cs) (oX t u):=λaA s σ H Q I h=>by
 rw[aRD,if_pos rfl];refine aO3 (aO3 (thn (hc aA s σ H _ I h) λb s1 ⟨H1,I1,q1⟩=>aO5 ?_));cases b with
 | true=>rw[if_pos rfl] at q1;exact hr aA s1 σ H1 Q I1 q1
 | false=>rw[if_neg aO9] at q1;dsimp only;rw[uA];exact aO5 ⟨H1,I1,q1⟩
section
variable {prog:Program}{w:World}{A:Around}{R:Result->Shared->Prop}{s:Shared}
theorem aE9 {elt target aI : Expr} {ifs : List Expr} {scope : Scope} {pos : Pos} {it acc : Value} {env : Env} (I : Nat → Shared → Prop) (turn : ∀ n s, I n s → wpAny (model prog w) A (pyNext it) (fun r s1 => match r with
      | none=>R (.ok .next) s1
      | some v => wpAny (model prog w) A (letOwnedTupleGo target it v) (fun _ s1' => wpAny (model prog w) A (assign target env v) (fun _ s2 =>
          wpAny (model prog w) A (forIn ifs true λc r=>if r=true then do let ok <- isTrue c env (eval c env);pure (ForInStep.yield ok) else pure (ForInStep.yield r)) (λok s3 =>
           if ok=true then wpAny (model prog w) A (eval elt env) (λx s4 =>
            wpAny (model prog w) A (call (.builtin "list.append") [acc,x]) (λ_ s5=>∃ m,m<n/\I m s5) (λ_ _=>False) s4) (λ_ _=>False) s3
           else ∃ m, m < n ∧ I m s3) (fun _ _ => False) s2) (fun _ _ => False) s1') (fun _ _ => False) s1) (fun _ _ => False) s)
    (n:Nat) (h:I n s) :
    codeAny (model prog w) A (.compLoop (.ListComp elt [⟨target,aI,ifs,0⟩] scope pos) 0 it acc env) R s:=by
 refine codeAny_loop rfl I (λn s hI=>?_) n h;show wpAny _ A ((compTurn (.ListComp elt [⟨target,aI,ifs,0⟩] scope pos) 0 it acc env).onRaise (λx=>do noteFrame x env;theTreesLotGoes x)) _ _ s
 refine wpAny_noted ?_;rw[compTurn_list];refine aO3 (aO4 (aO3 (aOY (turn n s hI) (λr s1 h1=>?_) λ_ _ h'=>h'.elim)));cases r with
 | none=>exact aO5 h1
 | some v =>
  refine aO3 (aOY h1 (λ_ s1' h1'=>?_) λ_ _ h'=>h'.elim);refine aO3 (aOY h1' (λ_ s2 h2=>aO3 (aOY h2 (λok s3 h3=>?_) λ_ _ h'=>h'.elim)) λ_ _ h'=>h'.elim);cases ok with
  | false=>exact aO5 ⟨rfl,h3⟩
  | true=>exact aO3 (aO3 (aOY h3 (λx s4 h4=>aO3 (aOY h4 (λ_ s5 h5=>aO5 (aO5 ⟨rfl,h5⟩)) λ_ _ h'=>h'.elim)) λ_ _ h'=>h'.elim))
end
def cC(aD:List Nat)(σ:St):St:=aD.map λi=>(σ[i]?).getD none
def Weak(σ σ':St):Prop:=σ.length=σ'.length/\∀ (j:Nat) v,σ[j]? = some (some v)->σ'[j]? = some (some v)
def fY(aD:List Nat)(k:Nat)(wi:TI)(gt:TG)(tt:TT)(te:TE):TE:=λσ H Q=>wi σ H λJ H1=>∀ D,H1 D=none ->
 ∃ W:Nat->Nat->List V->Hp->Prop,(∃ m,W 0 m [] (upd H1 D (.lst [])))/\∀ i m ys H,W i m ys H->H D=some (.lst ys) /\
  ((J.stop i H/\Q (.ref D) H)\/(J.go i H/\ys.length<sizeLine/\∀ x H',J.yld i H x H'->gt x (cC aD σ++List.replicate k none) H' λσ2 H2=>Weak (cC aD σ++List.replicate k none) σ2/\tt σ2 H2 λb H3 =>
   if b=true then te σ2 H3 λy H4=>H4 D=some (.lst ys)/\∃ m',m'<m/\W (i+1) m' (ys++[y]) (upd H4 D (.lst (ys++[y]))) else ∃ m',m'<m/\W (i+1) m' ys H3))
theorem uB{X:Cx}{elt aI tg:Expr}{ifs:List Expr}{scope:Scope}{pos:Pos}{aD:List Nat}{aE tgN:List Str}{wi:TI}{gt:TG}{tt:TT}{te:TE}{use:Option (Value->Sem Unit)}{QQ:VSP}{aA:LAO}{s:Shared}{σ:St}{H:Hp}{Q:VK}(hc:X.calm=true)(hi:PI X tg aI wi)(bW:∀ y∈scope.names,y.2 ≠ .cell)(bX:scope.kind=.function)(cY:∀ y∈scope.names,y.2=.local->scope.names.lookup y.1=some .local)(b0:∀ y∈scope.names,y.2=.free->X.env.kindOf y.1=some .cell\/X.env.kindOf y.1=some .free)(cG:aE.map some=aD.map λi=>X.N[i]?)(c7:∀ y∈aE,(y,NameKind.free)∈scope.names)(cZ:∀ y∈aE,(relabel scope X.env).names.lookup y=some .cell\/(relabel scope X.env).names.lookup y=some .free)(hg:∀ cl C fp s3 H3,PG (aQ X scope (aE++tgN) cl C fp s3 H3) tg gt)(hf:∀ cl C fp s3 H3,cO (aQ X scope (aE++tgN) cl C fp s3 H3) ifs tt)(he:∀ cl C fp s3 H3,PE (aQ X scope (aE++tgN) cl C fp s3 H3) elt te)(hs:∀ x,foldedSetIterable aI X.env x=pure x)(I:Inv X aA σ H s)(h:fY aD tgN.length wi gt tt te σ H Q)(hend:∀ (D Z:Addr) (s6:Shared) (H5:Hp),(∃ m,s6.heap.Ns Z m)->(∀ h'',Heap.SameBut Z s6.heap h''->Inv X aA σ H5 { s6 with heap:=h'' })->H5 Z=none->X.s₀.heap.objs.size<=Z->Z≠X.env.locals->(∀ x c,X.env.cells.lookup x=some c->c≠Z)->(∀ p∈X.pn++aA,p.1≠Z)->Q (.ref D) H5->compPost (model X.prog X.w) X.A X.xe use QQ (.ref D) Z (.ok .next) s6):wpAny (model X.prog X.w) X.A (comprehension (.ListComp elt [⟨tg,aI,ifs,0⟩] scope pos) scope X.env (firstIterPos [⟨tg,aI,ifs,0⟩] pos) (newList []) (firstAsync [⟨tg,aI,ifs,0⟩]) (firstIter [⟨tg,aI,ifs,0⟩] X.env) use) QQ X.xe s:=by
 obtain ⟨cl,hclos,clsub,clhas⟩:=t7 (scope:=scope) (env:=X.env) λy hy hk=>I.ok.has y.1 (b0 y hy hk);refine wpAny_comprehension_free (use:=use) rfl hs hclos bX cY (thn (hi aA s σ H _ I h) λv s1 h1=>thn h1 λitv s2 h2=>?_);obtain ⟨it,fp,tn,J,H2,e,I2,T,st2,f2,q⟩:=h2;subst e;refine aO6 ?_;have hn:H2 s2.heap.objs.size=none:=I2.hok.fresh (aPC _);obtain ⟨W,⟨m0,w0⟩,turn⟩:=q s2.heap.objs.size hn;have I3:Inv X aA σ (upd H2 s2.heap.objs.size (.lst [])) { s2 with heap:=s2.heap.push { cls:=.type "list", dict:=none,data:=.seq ([]:List Value).toArray } } :=
  I2.laid (t':=s2.toks) (λb u e=>hps e) (aPC _) ⟨aQP _,[],0,.nil,aOG _ rfl⟩
 generalize hs3:({ s2 with heap:=s2.heap.push { cls:=.type "list", dict:=none,data:=.seq ([]:List Value).toArray } }:Shared)=s3 at I3 ⊢
 generalize hH3:upd H2 s2.heap.objs.size (.lst [])=H3 at I3 w0;have fpl:∀ b∈fp,b<s2.heap.objs.size:=λb hb=>by obtain ⟨o,eo,_⟩:=T.obj 0 _ st2 b hb;exact aOH eo
 have sz3:s3.heap.objs.size=s2.heap.objs.size+1:=by rw[<- hs3];exact aRI _ _
 have keep23:∀ b o,s2.heap.get? b=some o->s3.heap.get? b=some o:=λb o e=>by rw[<- hs3];exact hps e
 have hDf:s2.heap.objs.size∉fp:=λhb=>aOJ _ (fpl _ hb);refine wpAny_newFunctionEnv bW (by intro y hy;simp at hy) (λh4 hns hsb=>?_) bX
 try dsimp only at hns hsb ⊢
 have keep34:∀ b o,s3.heap.get? b=some o->h4.get? b=some o:=λb o e=>hsb.extBut b o (aOK (aOH e)) (hps e);have nostk:∀ b∈fp,b∉frs X.stack:=λb hb z=>by
  obtain ⟨_,f1,f2',_⟩:=f2 b hb;rcases aOR.mp (I2.stkSub b z) with q | q
  . exact f1 q
  . exact f2' q
 have okc:(aQ X scope (aE++tgN) cl s3.heap.objs.size fp s3 H3).Ok :=
  { mod:=I3.ok.mod
    kind:=bX
    glob:=I3.ok.glob
    blt:=I3.ok.blt
    above:=aPC _
    inj:=λx y c h1 h2=>I3.ok.inj x y c (clsub x c h1) (clsub y c h2)
    has:=λx hx=>clhas x (t9 bW hx)
    cab:=λx c z=>by cases z
    hd:=I3.ok.hd
    frames:=I3.ok.frames
    stk:=.inl rfl
    exf:=λb hb=>⟨aOK (by show b<s3.heap.objs.size;rw[sz3];exact aRJ (fpl b hb)),λx c e=>(f2 b hb).2.2.2.2.1 x c (clsub x c e)⟩
    bs:=I3.bs
    bsz:=aOP I3.ok.bsz I3.sz
    noex:=λb o e hb=>by
     obtain ⟨_,_,_,f3,_⟩:=f2 b hb;rcases f3 with z | z
     . exact I2.ok.noex b o e z
     . exact absurd (aOH (I2.ok.bs b o e).1) (Nat.not_lt.mpr z)
    exfs:=nostk
    funs:=I3.stack
    frf:=I3.stkFree }
 have capLen:aE.length=aD.length:=by have:=congrArg List.length cG;simpa using this
 generalize hσ0:cC aD σ++List.replicate tgN.length none=σ0 at turn;have Ic:Inv (aQ X scope (aE++tgN) cl s3.heap.objs.size fp s3 H3) [] σ0 H3 { s3 with heap:=h4,toks:=s3.toks+([]:List (Str×Value)).length }:=by
  refine ⟨okc,rfl,I3.bare,Un.kept keep34,⟨_,hns,λi y v h1 h2 h3=>?_⟩,λx c e=>?_,I3.hok.fresh (aPC _),λx c e=>I3.freeC x c (clsub x c e),λp hp=>absurd (show p∈([]:LAO) from hp) (by simp),I3.hok.kept keep34,?_⟩
  . by_cases hi:i<aD.length
    . have ey:aE[i]? = some y:=by have h1:(aE++tgN)[i]? = some y:=h1;rw[aPQ (by rw[capLen];exact hi)] at h1;exact h1
      have hj:X.N[aD[i]]? = some y:=by
       have e1:(aE.map some)[i]? = (aD.map λi=>X.N[i]?)[i]?:=by rw[cG]
       rw[aPR,aPR,ey,aQ5 hi] at e1;simpa using e1.symm
      have ev:σ[aD[i]]? = some (some v):=by
       rw[<- hσ0,aPQ (by simpa[cC] using hi)] at h2
       unfold cC at h2;rw[aPR,aQ5 hi] at h2;simp only[aQ9,aRK] at h2;cases z:σ[aD[i]]? with
       | none=>rw[z] at h2;cases h2
       | some o=>rw[z] at h2;exact congrArg some h2
      have hyf:=c7 y (aPS ey);have hkX:=b0 _ hyf rfl;obtain ⟨m,_,hl⟩:=I3.loc;obtain ⟨u,ru,lk⟩:=hl aD[i] y v hj ev (by rcases hkX with z | z;exact .inr (.inl z);exact .inr (.inr z))
      refine ⟨u,ru,.inr ⟨cZ y (aPS ey),?_⟩⟩;rcases lk with ⟨hk,_⟩ | ⟨_,c,ec,ic⟩
      . rcases hkX with z | z
        . rw[show X.env.kindOf y=some .cell from z] at hk;cases hk
        . rw[show X.env.kindOf y=some .free from z] at hk;cases hk
      . obtain ⟨c',ec'⟩:=clhas y hyf;have:=clsub y c' ec';rw[ec] at this;cases this;exact ⟨c,ec',ic.keeps keep34⟩
    . rw[<- hσ0,aPO (by simpa[cC] using hi),aPP] at h2
      split at h2 <;> cases h2
  . obtain ⟨v,q⟩:=I3.cell x c (clsub x c e);exact ⟨v,q.keeps keep34⟩
  . rw[<- hσ0];show (cC aD σ++List.replicate tgN.length none).length=(aE++tgN).length;simp[cC,capLen]
 have fpc:∀ {H':Hp},(∀ b∈fp,H' b=none)->∀ b∈fp,d9 (aQ X scope (aE++tgN) cl s3.heap.objs.size fp s3 H3) [] H' b:=λhn b hb =>
  ⟨hn b hb,(okc.exf b hb).1,nostk b hb,.inl hb,(okc.exf b hb).2,λp hp=>absurd (show p∈([]:LAO) from hp) (by simp)⟩
 have loop:codeAny (model X.prog X.w) X.A (.compLoop (.ListComp elt [⟨tg,aI,ifs,0⟩] scope pos) 0 (.ref it) (.ref s2.heap.objs.size) (compEnvC scope cl s3.heap.objs.size X.env)) (compPost (model X.prog X.w) X.A X.xe use QQ (.ref s2.heap.objs.size) s3.heap.objs.size) { s3 with heap:=h4,toks:=s3.toks+([]:List (Str×Value)).length }:=by
  refine aE9 (λn s'=>∃ i ys H',Inv (aQ X scope (aE++tgN) cl s3.heap.objs.size fp s3 H3) [] σ0 H' s'/\tn i s'.heap/\(∀ b∈fp,H' b=none)/\W i n ys H') ?_ m0
   ⟨0,[],H3,Ic,T.keep _ _ _ st2 (λb hb o e=>keep34 b o (keep23 b o e)),λb hb=>by rw[<- hH3,aO (by intro z;rw[z] at hb;exact hDf hb)];exact (f2 b hb).1,w0⟩
  rintro n s5 ⟨i,ys,H5,I5,st5,fr5,w5⟩;obtain ⟨hD,hw⟩:=turn i n ys H5 w5;rcases hw with ⟨stop,qq⟩ | ⟨go,hlen,step⟩
  . refine thn (T.done (aQ X scope (aE++tgN) cl s3.heap.objs.size fp s3 H3) rfl rfl rfl hc i [] s5 σ0 H5 _ I5 (fpc fr5) st5 stop) λr s6 ⟨hr,I6⟩=>?_;subst hr;obtain ⟨m,hm,_⟩:=id I6.loc;refine hend s2.heap.objs.size s3.heap.objs.size s6 H5 ⟨m,hm⟩ (λh'' hsb2=>?_) I6.free I3.sz (λz=>?_) (λx c ec z=>?_) (λp hp z=>?_) qq;rotate_left
    . obtain ⟨m,⟨o,es,ep,ho,_⟩,_⟩:=id I3.loc;rw[<- z] at ho;exact aOJ _ (aOH ho)
    . obtain ⟨v,o,ho,_⟩:=I3.cell x c ec;rw[z] at ho;exact aOJ _ (aOH ho)
    . have:=(I3.pin p hp).1;rw[z] at this;exact aOJ _ (aOH this)
    have u:=I6.base;have neC:∀ b o,s3.heap.get? b=some o->b≠s3.heap.objs.size:=λb o e=>aOK (aOH e);have un:Un (frs X.stack) fp H3 H5 s3.heap h'':=by
     refine ⟨λb o e n hb hx=>hsb2.extBut b o (neC b o e) (u.keep b o e n hb hx),λb o e n hb hx=>?_,u.free,λb o e hx=>?_,u.tups,u.frzs,u.tbls⟩
     . obtain ⟨sl,q⟩:=u.slot b o e n hb hx;exact ⟨sl,hsb2.extBut b _ (neC b o e) q⟩
     . obtain ⟨o',q⟩:=u.there b o e hx;exact ⟨o',hsb2.extBut b _ (neC b o e) q⟩
    have hok : HOk X.prog X.w H5 h'' := fun a o e => (I6.hok a o e).stay (fun b v hb q => hsb2.extBut b v (by
        intro z;have fr:=I6.free;rcases hb with hb | hb
        . rw[hb] at z;rw[z] at e;rw[show H5 s3.heap.objs.size=none from fr] at e;cases e
        . rw[z,show H5 s3.heap.objs.size=none from fr] at hb;cases hb) q) (λ_ q=>q) λ_ _ q=>q
    have os6:=I6.os;obtain ⟨hh,g6,d6,t6,o6⟩:=s6;obtain rfl:o6=s3.os:=os6;have I8:=I3.call (h':=h'') (g':=g6) (d':=d6) (t':=t6) (ch:=fp) un hok I6.bare λb hb=>by obtain ⟨_,f1,_,f3,f4,f5⟩:=f2 b hb;exact ⟨f3,f1,f4,f5⟩
    exact I8
  . refine thn (T.item (aQ X scope (aE++tgN) cl s3.heap.objs.size fp s3 H3) rfl rfl rfl hc i [] s5 σ0 H5 _ I5 (fpc fr5) st5 go) λr s6 ⟨u,hr,h6⟩=>?_;subst hr;refine thn h6 λ_ s7 ⟨x,H7,I7,r7,y7,st7,fr7⟩=>?_;have I7':=I7.pinned (fpc fr7) (T.obj _ _ st7);refine thn (hg cl s3.heap.objs.size fp s3 H3 _ s7 σ0 H7 x u _ I7' r7 (step x H7 y7)) λ_ s8 ⟨σ8,H8,I8,wk,q8⟩=>?_;have back:∀ {H':Hp} {s':Shared} {m':Nat} {ys':List V},Inv (aQ X scope (aE++tgN) cl s3.heap.objs.size fp s3 H3) ([]++iX fp s7.heap) σ8 H' s'->m'<n->W (i+1) m' ys' H' ->
        ∃ m,m<n/\∃ i ys H',Inv (aQ X scope (aE++tgN) cl s3.heap.objs.size fp s3 H3) [] σ0 H' s'/\tn i s'.heap/\(∀ b∈fp,H' b=none)/\W i m ys H':=λ{H' s' m' ys'} I' hm w'=>by
      have pinned:∀ b∈fp,∀ o,s7.heap.get? b=some o->s'.heap.get? b=some o/\H' b=none:=λb hb o e=>by have:=I'.pin (b,o) (aPG _ (aPG _ (l7 hb e)));exact ⟨this.1,this.2.1⟩
      refine ⟨m',hm,i+1,ys',H',I'.unpinned.weak wk.1 wk.2,T.keep _ _ _ st7 λb hb o e=>(pinned b hb o e).1,λb hb=>?_,w'⟩;obtain ⟨o,e,_⟩:=T.obj _ _ st7 b hb;exact (pinned b hb o e).2
    refine thn (hf cl s3.heap.objs.size fp s3 H3 _ s8 σ8 H8 _ I8 q8) λb s9 ⟨H9,I9,q9⟩=>?_;cases b with
    | false=>rw[if_neg aO9] at q9 ⊢;obtain ⟨m',hm,w9⟩:=q9;exact back I9 hm w9
    | true =>
     rw[if_pos rfl] at q9 ⊢;refine thn (he cl s3.heap.objs.size fp s3 H3 _ s9 σ8 H9 _ I9 q9) λy s10 ⟨yv,H10,I10,r10,hD10,m',hm,w10⟩=>?_;refine thn (pG (X:=aQ X scope (aE++tgN) cl s3.heap.objs.size fp s3 H3) _ s10 σ8 H10 (.ref s2.heap.objs.size) [yv] (.ref s2.heap.objs.size) [y] (λv H'=>v=.non/\H'=upd H10 s2.heap.objs.size (.lst (ys++[yv]))) I10 rfl (.cons r10 .nil)
      ⟨s2.heap.objs.size,ys,yv,rfl,rfl,hD10,hlen,rfl,rfl⟩) λ_ s11 ⟨v,H11,I11,_,_,e11⟩=>?_
     subst e11;exact back I11 hm w10
 exact codeAny_compStart_list loop (T.self _ 0 _ _ _ (T.keep _ _ _ st2 (λb hb o e=>keep34 b o (keep23 b o e))) loop)
theorem aFA{X:Cx}{elt aI tg:Expr}{ifs:List Expr}{scope:Scope}{pos:Pos}{aD:List Nat}{aE tgN:List Str}{wi:TI}{gt:TG}{tt:TT}{te:TE}(hc:X.calm=true)(hi:PI X tg aI wi)(bW:∀ y∈scope.names,y.2 ≠ .cell)(bX:scope.kind=.function)(cY:∀ y∈scope.names,y.2=.local->scope.names.lookup y.1=some .local)(b0:∀ y∈scope.names,y.2=.free->X.env.kindOf y.1=some .cell\/X.env.kindOf y.1=some .free)(cG:aE.map some=aD.map λi=>X.N[i]?)(c7:∀ y∈aE,(y,NameKind.free)∈scope.names)(cZ:∀ y∈aE,(relabel scope X.env).names.lookup y=some .cell\/(relabel scope X.env).names.lookup y=some .free)(hg:∀ cl C fp s3 H3,PG (aQ X scope (aE++tgN) cl C fp s3 H3) tg gt)(hf:∀ cl C fp s3 H3,cO (aQ X scope (aE++tgN) cl C fp s3 H3) ifs tt)(he:∀ cl C fp s3 H3,PE (aQ X scope (aE++tgN) cl C fp s3 H3) elt te)(hs:∀ x,foldedSetIterable aI X.env x=pure x:=by intro _;rfl):PE X (.ListComp elt [⟨tg,aI,ifs,0⟩] scope pos) (fY aD tgN.length wi gt tt te):=by intro aA s σ H Q I h;rw[eval_ListComp];exact uB (use:=none) hc hi bW bX cY b0 cG c7 cZ hg hf he hs I h λD Z s6 H5 hm hI _ _ _ _ _ q=>by obtain ⟨m,hm⟩:=hm;exact ⟨m,hm,λh'' hs=>⟨.ref D,H5,hI h'' hs,rfl,q⟩⟩
theorem Inv.dropped{X:Cx}{aA:LAO}{σ:St}{H:Hp}{s:Shared}{h'':Heap}{Z:Addr}(I:Inv X aA σ H s)(hs:Heap.SameBut Z s.heap h'')(hz:H Z=none)(h0:X.s₀.heap.objs.size<=Z)(h1:Z≠X.env.locals)(h2:∀ x c,X.env.cells.lookup x=some c->c≠Z)(h3:∀ p∈X.pn++aA,p.1≠Z):Inv X aA σ H { s with heap:=h'' }:=by
 have un:Un (frs X.stack) [Z] H H s.heap h'':=by
  have k:∀ b o,s.heap.get? b=some o->b∉[Z]->h''.get? b=some o:=λb o e hb=>hs.extBut b o (λz=>hb (by rw[z];exact mcs)) e
  exact ⟨λb o e _ _ hx=>k b o e hx,λb o e _ _ hx=>⟨o.slots,k b o e hx⟩,λ_ _ _ n _=>n,λb o e hx=>⟨o,k b o e hx⟩,λ_ _ q=>q,λ_ _ _ q=>q,λ_ ps q=>⟨#[],by simpa using q⟩⟩
 have hok:HOk X.prog X.w H h'':=λa o e=>(I.hok a o e).stay (λb v hb q=>hs.extBut b v (by
  rintro rfl;rcases hb with hb | hb
  . rw[hb,e] at hz;cases hz
  . rw[hz] at hb;cases hb) q) (λ_ q=>q) λ_ _ q=>q
 obtain ⟨hh,g,d,t,o⟩:=s;exact I.call (g':=g) (d':=d) (t':=t) (ch:=[Z]) un hok I.bare λb hb=>by
  obtain rfl:b=Z:=by simpa using hb
  exact ⟨.inr h0,h1,h2,h3⟩
theorem aFB{i:Nat}{x:Str}{pos' spos:Pos}{X:Cx}{elt aI tg:Expr}{ifs:List Expr}{scope:Scope}{pos:Pos}{aD:List Nat}{aE tgN:List Str}{wi:TI}{gt:TG}{tt:TT}{te:TE}(hc:X.calm=true)(hi:PI X tg aI wi)(bW:∀ y∈scope.names,y.2 ≠ .cell)(bX:scope.kind=.function)(cY:∀ y∈scope.names,y.2=.local->scope.names.lookup y.1=some .local)(b0:∀ y∈scope.names,y.2=.free->X.env.kindOf y.1=some .cell\/X.env.kindOf y.1=some .free)(cG:aE.map some=aD.map λi=>X.N[i]?)(c7:∀ y∈aE,(y,NameKind.free)∈scope.names)(cZ:∀ y∈aE,(relabel scope X.env).names.lookup y=some .cell\/(relabel scope X.env).names.lookup y=some .free)(hg:∀ cl C fp s3 H3,PG (aQ X scope (aE++tgN) cl C fp s3 H3) tg gt)(hf:∀ cl C fp s3 H3,cO (aQ X scope (aE++tgN) cl C fp s3 H3) ifs tt)(he:∀ cl C fp s3 H3,PE (aQ X scope (aE++tgN) cl C fp s3 H3) elt te)(hN:X.N.Nodup)(hx:X.N[i]? = some x)(hk:X.env.scope.names.lookup x=some .local)(hsw:swapsWith (.ListComp elt [⟨tg,aI,ifs,0⟩] scope pos) (some (.Name x pos')) spos.line X.env=pure true)(hs:∀ x,foldedSetIterable aI X.env x=pure x:=by intro _;rfl):PS X (.Assign [.Name x pos'] (.ListComp elt [⟨tg,aI,ifs,0⟩] scope pos) spos) (hZ (fY aD tgN.length wi gt tt te) (iW i)):=by
 intro aA s σ H En I h;rw[exec_Assign_Name_used _ _ _ _ hsw];refine aO3 (aO4 (aO3 ?_));show wpAny _ X.A (comprehension (.ListComp elt [⟨tg,aI,ifs,0⟩] scope pos) scope X.env (firstIterPos [⟨tg,aI,ifs,0⟩] pos) (newList []) (firstAsync [⟨tg,aI,ifs,0⟩]) (firstIter [⟨tg,aI,ifs,0⟩] X.env) (some (assign (.Name x pos') X.env)) >>= _) _ _ s;refine aO3 (uB (use:=some (assign (.Name x pos') X.env)) hc hi bW bX cY b0 cG c7 cZ hg hf he hs I h λD Z s6 H5 hm hI hz h0 h1 h2 h3 q=>?_);obtain ⟨m,hm⟩:=hm;have I6:=hI s6.heap (aRL _ _);refine aO2 (oV I6 hN hx (.inl hk) (show aM (.ref D) (.ref D) from rfl) (λs' I' hch=>?_) (.inr hk))
 obtain ⟨a,sb,ha⟩:=hch;have na:Z≠a:=by
  rcases ha with rfl | ha
  . exact h1
  . exact λz=>h2 x a ha z.symm
 exact ⟨m,hm.sameBut sb na,λh'' hs2=>aO5 (aO5 ⟨_,H5,I'.dropped hs2 hz h0 h1 h2 h3,q⟩)⟩
end L2
namespace D3
open PySem PySem.Spec PyProof.Rows L2
def cH(aD:List Nat)(ρ:Rho):Rho:=aD.map λi=>match ρ[i]? with | some (some (false,d))=>some (false,d) | _=>none
def cP(k:D->Rho->Option Rho)(t e:Rho->Res)(ρ0:Rho):List D->Option (List D)
 | []=>some []
 | d::ds=>match k d ρ0 with
  | none=>none
  | some ρ1=>match t ρ1 with
   | .ok _ (.bl true)=>(match a8 (e ρ1) with | .ok _ y=>(cP k t e ρ0 ds).map (y :: ·) | _=>none)
   | .ok _ (.bl false)=>cP k t e ρ0 ds
   | _=>none
def dY(src:Res)(ρ:Rho)(aD:List Nat)(n:Nat)(k:D->Rho->Option Rho)(t e:Rho->Res):Res:=src.thn λ_ d=>match d with
 | .lst ds=>if ds.length<sizeLine then (match cP k t e (cH aD ρ++List.replicate n none) ds with | some ys=>.ok .fr (.lst ys) | none=>.stuck) else .stuck
 | _=>.stuck
abbrev Cw.nox(C:Cw):Cw:={ C with EE:=λ_ _ _=>False }
theorem aK.upd{F H F' H':Hp}{x:Addr}{o:HO}(st:aK F H F' H')(hx:H x=none)(hx':F' x=none):aK F H F' (L2.upd H' x o) :=
 ⟨λb u q=>by rw[aO (cV q hx)];exact st.same b u q,st.fsame,λb u q=>by rw[aO (cV q hx')];exact st.sub b u q,st.new⟩
section
variable {C:Cw}{X:Cx}{e:Expr}{g:Rho->Res}{pos p:Pos}
theorem aFC:cO X [] (tT (C.at X) λ_=>.ok .fz (.bl true)):=λaA s σ H Q I h=>by obtain ⟨ρ,F,R,w⟩:=h;exact aE7 aA s σ H Q I (w F H (.refl R.sub))
theorem aFD{c:Expr}{cs:List Expr}{ga gb:Rho->Res}(hc:PTv C X c ga)(hr:cO X cs (tT (C.at X) gb)):cO X (c::cs) (tT (C.at X) λρ=>dJ (ga ρ) (gb ρ)):=λaA s σ H Q I h =>
 aE8 hc hr aA s σ H Q I (tR h)
theorem uC{K:Fg}{F0 H0 F H:Hp}{σ:L2.St}{ρ:Rho}(aD:List Nat)(n:Nat)(R:aR K F0 H0 F H σ ρ):aR K F0 H0 F H (cC aD σ++List.replicate n none) (cH aD ρ++List.replicate n none):=by
 have low:∀ (i:Nat) (m:Bool) (d:D),(cH aD ρ++List.replicate n none)[i]? = some (some (m,d))->m=false/\∃ v,(cC aD σ++List.replicate n none)[i]? = some (some v)/\aF K F d v:=λi m d e=>by
  by_cases hi:i<aD.length
  . rw[aPQ (by simpa[cH] using hi)] at e
    rw[aPQ (by simpa[cC] using hi)]
    unfold cH at e;unfold cC;rw[aPR,aQ5 hi] at e ⊢;simp only[aQ9,aRK] at e;cases z:ρ[aD[i]]? with
    | none=>rw[z] at e;cases e
    | some o =>
     rw[z] at e;cases o with
     | none=>cases e
     | some q =>
      obtain ⟨b,d'⟩:=q;cases b with
      | true=>cases e
      | false=>cases e;obtain ⟨v,e1,r,_⟩:=R.slot _ _ _ z;exact ⟨rfl,v,by simp[e1],r⟩
  . rw[aPO (by simpa[cH] using hi),aPP] at e
    split at e <;> cases e
 refine ⟨R.st,λi m d e=>?_,λi j d d' a _ e1 _ _ _=>?_,by simp[cC,cH]⟩
 . obtain ⟨rfl,v,e1,r⟩:=low i m d e;exact ⟨v,e1,r,by intro z;cases z⟩
 . have:=(low i true d e1).1;cases this
end
mutual
def bA:D->Option PyData
 | .non=>some .none
 | .bl b=>some (.bool b)
 | .int i=>some (.int i)
 | .str x=>some (.str x)
 | .tup ds=>(dZ ds).map .tuple
 | .lst ds=>(dZ ds).map .list
 | _=>none
def dZ:List D->Option (List PyData)
 | []=>some []
 | d::ds=>match bA d,dZ ds with
  | some p,some ps=>some (p::ps)
  | _,_=>none
end
section
variable {X:Cx}{aA:LAO}{σ:L2.St}{F H:Hp}{s:Shared}
mutual
theorem mZ(I:Inv X aA σ H s)(sF:aH F H):∀ (d:D) (p:PyData) (v:V) (u:Value),aF X.K F d v->aM v u->bA d=some p->(∃ as,Reads s.heap u p as)/\p.canLay0=true
 | .non,p,v,u,h,r,e=>by simp only[aF] at h;subst h;cases r;simp only[bA] at e;cases e;exact ⟨⟨_,.none⟩,rfl⟩
 | .bl b,p,v,u,h,r,e=>by simp only[aF] at h;subst h;cases r;simp only[bA] at e;cases e;exact ⟨⟨_,.bool b⟩,rfl⟩
 | .int i,p,v,u,h,r,e=>by simp only[aF] at h;subst h;obtain ⟨t,rfl⟩:=r;simp only[bA] at e;cases e;exact ⟨⟨_,.int i t⟩,rfl⟩
 | .str x,p,v,u,h,r,e=>by simp only[aF] at h;obtain ⟨rfl,_,hk⟩:=h;obtain ⟨t,rfl⟩:=r;simp only[bA] at e;cases e;exact ⟨⟨_,.str x t⟩,by simpa only [PyData.canLay0] using hk⟩
 | .tup ds,p,v,u,h,r,e=>by
  simp only[aF] at h;obtain ⟨a,xs,rfl,q,rl⟩:=h;cases r;simp only[bA] at e;cases ep:dZ ds with
  | none=>rw[ep] at e;cases e
  | some ps=>rw[ep] at e;cases e;obtain ⟨its,rv,⟨o,h1,h2,n,h3⟩,_⟩:=I.tuple (aH.seqT sF q);obtain ⟨⟨as,ra⟩,hc⟩:=m5 I sF ds ps xs its rl rv ep;exact ⟨⟨_,.tuple h1 h2 h3 (by simpa using ra)⟩,by simpa only [PyData.canLay0] using hc⟩
 | .lst ds,p,v,u,h,r,e=>by
  simp only[aF] at h;obtain ⟨a,xs,rfl,q,rl⟩:=h;cases r;simp only[bA] at e;cases ep:dZ ds with
  | none=>rw[ep] at e;cases e
  | some ps=>rw[ep] at e;cases e;obtain ⟨its,rv,⟨o,n,h1,h2,_,h3⟩,_⟩:=I.list (sF.seq q);obtain ⟨⟨as,ra⟩,hc⟩:=m5 I sF ds ps xs its rl rv ep;exact ⟨⟨_,.list h1 h2 h3 (by simpa using ra)⟩,by simpa only [PyData.canLay0] using hc⟩
 | .dct _,p,v,u,h,r,e=>by simp only[bA] at e;cases e
 | .ty _,p,v,u,h,r,e=>by simp only[bA] at e;cases e
 | .ob _,p,v,u,h,r,e=>by simp only[bA] at e;cases e
 | .ins _ _,p,v,u,h,r,e=>by simp only[bA] at e;cases e
 | .fn _,p,v,u,h,r,e=>by simp only[bA] at e;cases e
 | .exn _,p,v,u,h,r,e=>by simp only[bA] at e;cases e
 | .set _,p,v,u,h,r,e=>by simp only[bA] at e;cases e
theorem m5(I:Inv X aA σ H s)(sF:aH F H):∀ (ds:List D) (ps:List PyData) (xs:List V) (us:List Value),aB X.K F ds xs->aN xs us->dZ ds=some ps->(∃ as,ReadsAll s.heap us ps as)/\PyData.canLayAll0 ps=true
 | [],ps,xs,us,h,r,e=>by simp only[aB] at h;subst h;cases r;simp only[dZ] at e;cases e;exact ⟨⟨_,.nil⟩,rfl⟩
 | d::ds,ps,xs,us,h,r,e=>by
  simp only[aB] at h;obtain ⟨y,ys,rfl,hd,hl⟩:=h;cases r with
  | cons r1 r2 =>
   simp only[dZ] at e;cases e1:bA d with
   | none=>rw[e1] at e;cases e
   | some p =>
    cases e2:dZ ds with
    | none=>rw[e1,e2] at e;cases e
    | some ps'=>rw[e1,e2] at e;cases e;obtain ⟨⟨as,ra⟩,hc⟩:=mZ I sF d p y _ hd r1 e1;obtain ⟨⟨bs,rb⟩,hc'⟩:=m5 I sF ds ps' ys _ hl r2 e2;exact ⟨⟨_,.cons ra rb⟩,by simp only[PyData.canLayAll0,hc,hc',Bool.and_self]⟩
end
theorem uD(I:Inv X aA σ H s)(sF:aH F H){m:Md}{d:D}{p:PyData}{v:V}{u:Value}(h:Rp X.K F H m d v)(r:aM v u)(e:bA d=some p):(∃ as,Reads s.heap u p as)/\p.canLay0=true:=by
 cases m with
 | fz=>exact mZ I sF d p v u h r e
 | _ =>
  obtain ⟨a,rfl,n,t⟩:=h;cases d with
  | lst ds =>
   obtain ⟨xs,q,rl⟩:=t;cases r;simp only[bA] at e;cases ep:dZ ds with
   | none=>rw[ep] at e;cases e
   | some ps=>rw[ep] at e;cases e;obtain ⟨its,rv,⟨o,n,h1,h2,_,h3⟩,_⟩:=I.list (SqL.of q);obtain ⟨⟨as,ra⟩,hc⟩:=m5 I sF ds ps xs its rl rv ep;exact ⟨⟨_,.list h1 h2 h3 (by simpa using ra)⟩,by simpa only [PyData.canLay0] using hc⟩
  | dct ds=>simp only[bA] at e;cases e
  | ins _ _=>simp only[bA] at e;cases e
  | set _=>simp only[bA] at e;cases e
  | _=>exact t.elim
end
def eL(p:PyData):Bool:=decide (p.depth<=50)
def eqF(neg:Bool):Md->D->Md->D->Option (Md×D):=λ_ x _ y=>match bA x,bA y with
 | some p,some q=>if (eL p&&eL q)=true then some (.fz,.bl (if neg then !PyData.eqv p q else PyData.eqv p q)) else none
 | _,_=>none
section
variable {C:Cw}{X:Cx}
theorem uE{f:Value->Value->Sem Value}{neg:Bool}(hu:X.A.units+64<cLine)(rule:∀ (s:Shared) (a b:Value) (da db:PyData) (as bs:List Addr) (Q:VSP),Reads s.heap a da as->Reads s.heap b db bs->da.canLay0=true->db.canLay0=true->X.A.units+min da.depth db.depth<cLine->Q (.bool (if neg then !PyData.eqv da db else PyData.eqv da db)) s->wpAny (model X.prog X.w) X.A (f a b) Q X.xe s):OpD C X f (eqF neg):=by
 refine ⟨λx y H Q=>∃ F m n d e p q,aH F H/\Rp X.K F H m d x/\Rp X.K F H n e y/\bA d=some p/\bA e=some q/\(eL p&&eL q)=true/\Q (.bl (if neg then !PyData.eqv p q else PyData.eqv p q)) H,?_,?_⟩
 . intro aA s σ H x y v u Q I rx ry h;obtain ⟨F,m,n,d,e,p,q,sF,hd,he,ep,eq,hs,hQ⟩:=h;obtain ⟨⟨as,ra⟩,ca⟩:=uD I sF hd rx ep;obtain ⟨⟨bs,rb⟩,cb⟩:=uD I sF he ry eq;rw[aQB] at hs;have h1:=aQR hs.1;refine rule s v u p q as bs _ ra rb ca cb (by have:=Nat.min_le_left p.depth q.depth;omega) ⟨.bl _,H,I,rfl,hQ⟩
 . intro F H m x n y v u k d Q s rx ry e w;unfold eqF at e;split at e
   . rename_i p q ep eq;split at e
     . rename_i hc;cases e;exact ⟨F,m,n,x,y,p,q,s,rx,ry,ep,eq,hc,w _ F H (.refl s) (bY _) (by intro z;cases z)⟩
     . cases e
   . cases e
theorem aFE(hu:X.A.units+64<cLine):OpD C X (compareOp .Eq) (eqF false):=uE hu λs a b da db as bs Q ra rb ca cb hd q=>SeqAt.compareEq_reads ra rb ca cb hd q
theorem aFF(hu:X.A.units+64<cLine):OpD C X (compareOp .NotEq) (eqF true):=uE hu λs a b da db as bs Q ra rb ca cb hd q=>SeqAt.compareNe_reads ra rb ca cb hd q
end
section
variable {C:Cw}{X:Cx}{o e:Expr}{es:List Expr}{go:Rho->Res}{gs:Rho->aW}{apos cpos:Pos}{T id:String}{name:Str}
def uF:List D->Option (List Str)
 | []=>some []
 | .str x::r=>(uF r).map (x :: ·)
 | _=>none
def joinD:Md->D->List (Md×D)->Option (Md×D):=λ_ x xs=>match x,xs with
 | .str z,[(_,.lst ds)]=>(match uF ds with
  | some ys=>if (ys.map (·.length)).sum+ys.length * z.length<=sizeLine then some (.fz,.str (Txt.join z ys)) else none
  | none=>none)
 | _,_=>none
end
def spV(K:Fg)(mg:SOV)(n:Nat)(Φ:List D->Res):Sp:=λvs H Q E=>vs.length=n/\∃ F ds,aH F H/\aB K F ds vs/\match Φ ds with
 | .ok m d=>m ≠ .bo/\∀ v F' H',aK F H F' H'->Rp K F' H' m d v->(m=.fr->∀ a,v=.ref a->H a=none)->Q v H'
 | .exc c=>∀ F' H' u,aK F H F' H'->mg c=some u->E u none H'
 | .stuck=>False
structure FnV(P:Program)(w:World)(K:Fg)(mg:SOV)(base:Heap)(CX:CXT)(k:Nat)(x:Str)(n:Nat)(Φ:List D->Res):Prop where
 ex:∃ f fd ps,c8 P w K mg base CX k f fd ps (spV K mg n Φ)/\mg x=some (.ref f)/\PySem.W.keepIn K (.ref f)=true/\fH K fd ps []
def aU(n:Nat)(Φ:List D->Res)(r:aW):Res:=r.thn λxs=>match bZ xs with
 | some ds=>if ds.length=n then (match Φ ds with | .ok .bo _=>.stuck | r=>r) else .stuck
 | none=>.stuck
def XOk(CX:CXT)(C:Cw)(X:Cx):Prop:=∀ (aA:LAO) (σ:L2.St) (H:Hp) (s:Shared) (e:Value) (s':Shared),Inv X aA σ H s->CX X.stack H s (λu _ H'=>∃ c,X.mg c=some u/\C.EE c σ H') e s'->X.xe e s'
section
variable {C:Cw}{X:Cx}{e:Expr}{es:List Expr}{gs:Rho->aW}{p pos:Pos}{x:Str}{k n:Nat}{Φ:List D->Res}{CX:CXT}
theorem uG{f:Addr}{fd:FuncData}{ps:List Str}{aA:LAO}{σ:L2.St}{H:Hp}{s:Shared}{Q:VK}{us:List Value}{vs:List V}{E:XK}(F:c8 X.prog X.w X.K X.mg X.base CX k f fd ps (spV X.K X.mg n Φ))(hr:cK k X.A)(hb:fH X.K fd ps [])(hx:∀ e s',CX X.stack H s E e s'->X.xe e s')(I:Inv X aA σ H s)(r:aN vs us)(h:spV X.K X.mg n Φ vs H Q E):wpAny (model X.prog X.w) X.A (call (.ref f) us) (EP X aA σ Q) X.xe s:=by
 have hl:(us++[]).length=ps.length:=by rw[aPJ,<- r.length];exact F.len _ _ _ _ h
 have hb':=hb s us I.kIn hl;rw[aPJ] at hb';refine wpAny_call (codeAny_mono (F.run X.A X.stack s H ⟨us,[]⟩ us vs Q E hr I.env0 hb' r h) λr s' hq=>?_);cases r with
 | error e=>exact hx e s' hq
 | ok fl =>
  cases fl with
  | ret u=>exact I.after hq
  | next=>exact False.elim hq
  | brk=>exact False.elim hq
  | cont=>exact False.elim hq
theorem aFG(F:FnV X.prog X.w X.K X.mg X.base CX k x n Φ)(hr:cK k X.A)(hx:XOk CX (C.at X) X)(hg:Gl X x)(ha:PAv C X (e::es) gs)(hdb:(x==("__debug__" : Str))=false:=by decide)(he:starEach (e::es) X.env=(false,eval e X.env)::starEach es X.env:=by rfl)(hpl:(backTo pos (starEach es X.env)).any (·.1)=false:=by rfl):PV C X (.Call (.Name x p) (e::es) [] pos) (λρ=>aU n Φ (gs ρ)):=by
 obtain ⟨f,fd,ps,FF,hm,hk,hb⟩:=F.ex;intro aA s σ H Q I h;rw[aV] at h;obtain ⟨ρ,F,R,w⟩:=h;refine aPV (kE I hg hm ?_ hdb);refine PySem.W.callWith_K (h₀:=X.base) I.ok.mod.kin hk (thn (ha pos aA s σ H (λvs H1=>spV X.K X.mg n Φ vs H1 Q λu _ H'=>∃ c,X.mg c=some u/\C.EE c σ H') I ?_) λus s1 ⟨vs,H1,I1,r,q⟩=>⟨I1.kIn,uG FF hr hb (λe s' hc=>hx aA σ H1 s1 e s' I1 hc) I1 r q⟩) he hpl;refine ⟨ρ,F,R,?_⟩;cases er:gs ρ with
 | stuck=>rw[er] at w;exact w
 | exc c=>rw[er] at w;exact w
 | ok xs =>
  rw[er] at w;intro vs F1 H1 s1 r1;have w1:aS (C.at X) F1 H1 σ (aU n Φ (.ok xs)) Q:=aS.step s1 w;unfold aU at w1;rw[aW.thn_ok] at w1;cases ef:bZ xs with
  | none=>rw[ef] at w1;exact w1.elim
  | some ds =>
   rw[ef] at w1;dsimp only at w1;split at w1
   . rename_i hn;have rl:=r1.fz ef;refine ⟨by rw[rl.length];exact hn,F1,ds,s1.sub,rl,?_⟩
     cases ep:Φ ds with
     | stuck=>rw[ep] at w1;exact w1
     | exc c=>rw[ep] at w1;exact λF' H' u st hu=>⟨c,hu,w1 F' H' st⟩
     | ok m d =>
      rw[ep] at w1;cases m with
      | bo=>exact w1.elim
      | fz=>exact ⟨by decide,w1⟩
      | fr=>exact ⟨by decide,w1⟩
   . exact w1.elim
end
def endR:aG->Res
 | .nx _=>.ok .fz .non
 | .rt m d=>.ok m d
 | .exc c _=>.exc c
 | _=>.stuck
def fB(n:Nat)(ds:List D):Rho:=ds.map (λd=>some (false,d))++List.replicate (n-ds.length) none
theorem aFH{K:Fg}{F H:Hp}{N:List Str}{ds:List D}{vs:List V}(s:aH F H)(r:aB K F ds vs):aR K F H F H (eZ N vs) (fB N.length ds):=by
 have low:∀ (i:Nat) (m:Bool) (d:D),(fB N.length ds)[i]? = some (some (m,d))->m=false/\∃ v,(eZ N vs)[i]? = some (some v)/\aF K F d v:=λi m d e=>by
  unfold fB at e;unfold L2.eZ;by_cases hi:i<ds.length
  . rw[aPQ (by simpa using hi),aPR,aQ5 hi] at e
    cases e;obtain ⟨v,ev,rv⟩:=r.get' (aQ5 hi);exact ⟨rfl,v,by rw[aPQ (by simpa[r.length] using hi),aPR,ev];rfl,rv⟩
  . rw[aPO (by simpa using hi),aPP] at e
    split at e <;> cases e
 refine ⟨.refl s,λi m d e=>?_,λi j d d' a _ e1 _ _ _=>?_,by simp[L2.eZ,fB,r.length]⟩
 . obtain ⟨rfl,v,e1,rv⟩:=low i m d e;exact ⟨v,e1,rv,by intro z;cases z⟩
 . have:=(low i true d e1).1;cases this
def m6(ns:List Int):List D:=[.lst (ns.map .int)]
theorem uH{K:Fg}{F:Hp}:∀ ns:List Int,aB K F (ns.map D.int) (ns.map V.int)
 | []=>aB.nil
 | n::ns=>aB.cons (by simp only[aF]) (uH ns)
def noK:Md->D->Md->D->Option (Md×D):=λ_ _ _ _=>none
abbrev fAdd:Md->D->Md->D->Option (Md×D):=orO (fI (λ_ _=>true) λi j=>.int (i+j)) (fS (λi j=>decide (i.length+j.length<=sizeLine)) λi j=>.str (i++j))
abbrev fSub:Md->D->Md->D->Option (Md×D):=fI (λ_ _=>true) λi j=>.int (i-j)
abbrev fMul:Md->D->Md->D->Option (Md×D):=orO (fI (λi j=>(cE i&&cE j)||(w64 i||w64 j)) λi j=>.int (i * j)) iE
abbrev fMod:Md->D->Md->D->Option (Md×D):=fI (λ_ j=>decide (0<j)) λi j=>.int (i % j)
abbrev fDiv:Md->D->Md->D->Option (Md×D):=fI (λ_ j=>decide (0<j)&&cE j) λi j=>.int (i / j)
abbrev fPow:Md->D->Md->D->Option (Md×D):=fI (λi j=>decide (0<=j)&&decide (j<=1000000)&&decide (i.natAbs<2 ^ 64)) λi j=>.int (i ^ j.toNat)
abbrev fLt:Md->D->Md->D->Option (Md×D):=fI (λ_ _=>true) λi j=>.bl (decide (i<j))
abbrev fLe:Md->D->Md->D->Option (Md×D):=fI (λ_ _=>true) λi j=>.bl (decide (i<=j))
abbrev fGt:Md->D->Md->D->Option (Md×D):=fI (λ_ _=>true) λi j=>.bl (decide (j<i))
abbrev fGe:Md->D->Md->D->Option (Md×D):=fI (λ_ _=>true) λi j=>.bl (decide (j<=i))
abbrev fEq:Md->D->Md->D->Option (Md×D):=orO (eqF false) noK
abbrev fNe:Md->D->Md->D->Option (Md×D):=orO (eqF true) noK
abbrev fIn:Md->D->Md->D->Option (Md×D):=fS (λ_ _=>true) λi j=>.bl (i4 i j)
abbrev aFI:Md->D->Md->D->Option (Md×D):=fS (λ_ _=>true) λi j=>.bl (!i4 i j)
def IsB(φ:Md->D->Md->D->Option (Md×D)):Prop:=∀ m x n y k d,φ m x n y=some (k,d)->∃ t,k=.fz/\d=.bl t
theorem m7{c:Int->Int->Bool}{g:Int->Int->Bool}:IsB (fI c λi j=>.bl (g i j)):=λm x n y k d e=>by
 unfold fI at e;split at e
 . split at e
   . cases e;exact ⟨_,rfl,rfl⟩
   . cases e
 . cases e
theorem uI{c:Str->Str->Bool}{g:Str->Str->Bool}:IsB (fS c λi j=>.bl (g i j)):=λm x n y k d e=>by
 unfold fS at e;split at e
 . split at e
   . cases e;exact ⟨_,rfl,rfl⟩
   . cases e
 . cases e
theorem kX{φ ψ}(h:IsB φ)(h':IsB ψ):IsB (orO φ ψ):=λm x n y k d e=>by
 unfold orO at e;cases e1:φ m x n y with
 | none=>rw[e1] at e;exact h' _ _ _ _ _ _ e
 | some p=>rw[e1] at e;cases e;exact h _ _ _ _ _ _ e1
theorem uJ{neg:Bool}:IsB (eqF neg):=λm x n y k d e=>by
 unfold eqF at e;split at e
 . split at e
   . cases e;exact ⟨_,rfl,rfl⟩
   . cases e
 . cases e
section
variable {C:Cw}{X:Cx}
theorem pP{f:Value->Value->Sem Value}:OpD C X f noK:=⟨λ_ _ _ _=>False,λ_ _ _ _ _ _ _ _ _ _ _ _ h=>h.elim,λ_ _ _ _ _ _ _ _ _ _ _ _ _ _ e _=>by cases e⟩
theorem o_add:OpD C X (binaryOp .Add) fAdd:=aDO.or aD0
theorem o_mul:OpD C X (binaryOp .Mult) fMul:=aDR.or aEG
theorem o_eq(hu:X.A.units+64<cLine):OpD C X (compareOp .Eq) fEq:=(aFE hu).or pP
theorem o_ne(hu:X.A.units+64<cLine):OpD C X (compareOp .NotEq) fNe:=(aFF hu).or pP
def phi(n N:Nat)(g:Rho->aG):List D->Res:=λds=>if ds.length=n then endR (g (fB N ds)) else .stuck
end
def jB(scope sc:Scope):List (Str×NameKind):=scope.names.map λ(n,k)=>if (k == .free&&sc.kind == .function&&sc.names.lookup n==some .cell) then (n,.cell) else (n,k)
theorem aFJ:bootBuiltins "len" = some (.builtin "len"):=by decide +kernel
theorem pQ:bootBuiltins "isinstance" = some (.builtin "isinstance"):=by decide +kernel
theorem aFK:bootBuiltins "all" = some (.builtin "all"):=by decide +kernel
theorem aFL:bootBuiltins "int" = some (.type "int"):=by decide +kernel
theorem aFM:bootBuiltins "bool" = some (.type "bool"):=by decide +kernel
theorem aFN:bootBuiltins "str" = some (.type "str"):=by decide +kernel
theorem aFO:bootBuiltins "tuple" = some (.type "tuple"):=by decide +kernel
theorem aFP:bootBuiltins "list" = some (.type "list"):=by decide +kernel
theorem uK:bootBuiltins "dict" = some (.type "dict"):=by decide +kernel
structure CI where
 name:Str
 ups:List Str
 flds:List Str
 meths:List (Str×Str×Nat)
def bJ:Expr->Bool | .Starred ..=>false | _=>true
def aFQ:Expr->Bool | .Call (.Name x _) [] [] _=>x != "super" | _=>true
theorem bO{x:Expr}{es:List Expr}{env:Env}(h:bJ x=true):starEach (x::es) env=(false,eval x env)::starEach es env:=by cases x <;> first | rfl | cases h
theorem fN(pos:Pos)(env:Env):∀ {es:List Expr},(∀ x∈es,bJ x=true)->(backTo pos (starEach es env)).any (·.1)=false
 | [],_=>rfl
 | x::es,h=>by rw[bO (h x mcs)];show ((false||(backTo pos (starEach es env)).any (·.1))=false);rw[fN pos env λy hy=>h y (mcm hy)];rfl
theorem pR(pos:Pos)(env:Env):∀ {es:List Expr},(∀ x∈es,bJ x=true)->(backTo pos (starEach es env)).all (λx=>!x.1)=true
 | [],_=>rfl
 | x::es,h=>by rw[bO (h x mcs)];show ((true&&(backTo pos (starEach es env)).all (λx=>!x.1))=true);rw[pR pos env λy hy=>h y (mcm hy)];rfl
theorem uL{o:Expr}{n:Str}{env:Env}{w:Sem Value}(h:aFQ o=true):attributeBase o n env w=w:=by
 cases o with
 | Call f as ks pos =>
  cases f with
  | Name x p =>
   cases as with
   | nil =>
    cases ks with
    | nil=>show (if x != "super" || n == "__class__" || env.kindOf "super" != some .globalImplicit||env.kindOf "__class__" != some .free then w else _)=w;have:(x != ("super" : Str))=true:=h;rw[if_pos (by rw[this];rfl)]
    | cons _ _=>rfl
   | cons _ _=>rfl
  | _=>rfl
 | _=>rfl
structure MtV(P:Program)(w:World)(K:Fg)(mg:SOV)(base:Heap)(CX:CXT)(k:Nat)(c m:Str)(n:Nat)(Φ:List D->Res):Prop where
 ex:∃ C f fd ps,PySem.W.nsIn K mainGlobals c=some (some (.ref C))/\Cls K C/\pD K C m f/\c8 P w K mg base CX k f fd ps (spV K mg n Φ)/\fH K fd ps []
structure FlV(K:Fg)(c f:Str):Prop where
 ex:∃ C,PySem.W.nsIn K mainGlobals c=some (some (.ref C))/\Cls K C/\pC K C f
def CI.meth(cl:List CI)(c m:Str):Option (Str×Nat):=match cl.find? (λi=>i.name==c) with
 | some i=>i.meths.lookup m
 | none=>none
section
variable {C:Cw}{X:Cx}{o e:Expr}{es:List Expr}{go:Rho->Res}{gs:Rho->aW}{apos pos:Pos}{m f:Str}{k:Nat}{Φ:Str->List D->Res}{CX:CXT}{cl:List CI}
end
theorem aR.mut{K:Fg}{F0 H0 F H:Hp}{σ:L2.St}{ρ:Rho}{i:Nat}{d d':D}{a:Addr}{o:HO}(R:aR K F0 H0 F H σ ρ)(e:ρ[i]? = some (some (true,d)))(ev:σ[i]? = some (some (.ref a)))(t:Top K F (upd H a o) a d'):aR K F0 H0 F (upd H a o) σ (ρ.set i (some (true,d'))):=by
 obtain ⟨v,ev',rp,hn⟩:=R.slot i true d e;rw[ev] at ev';cases ev';have h0:H0 a=none:=hn rfl a rfl;obtain ⟨a',ea,hf,tt⟩:=rp;cases ea;have hl:i<ρ.length:=(aOU.mp e).1;have st:aK F0 H0 F (upd H a o):=⟨λb u q=>by rw[aO (cV q h0)];exact R.st.same b u q,R.st.fsame,λb u q=>by rw[aO (cV q hf)];exact R.st.sub b u q,R.st.new⟩
 refine ⟨st,λj m d2 e2=>?_,λj l d1 d2 b hjl e1 e2 q1 q2=>?_,by rw[aQ7];exact R.len⟩
 . by_cases hj:j=i
   . subst hj;rw[aOW hl] at e2;cases e2;exact ⟨.ref a,ev,⟨a,rfl,hf,t⟩,λ_ b eb=>by cases eb;exact h0⟩
   . rw[aOX (λz=>hj z.symm)] at e2;obtain ⟨u,eu,ru,hu⟩:=R.slot j m d2 e2;refine ⟨u,eu,?_,hu⟩;cases m with
     | false=>exact ru
     | true =>
      obtain ⟨b,eb,hb,tb⟩:=ru;subst eb;have hba:b≠a:=λz=>by subst z;exact R.apart j i d2 d b hj e2 e eu ev
      refine ⟨b,rfl,hb,?_⟩;cases d2 with
      | lst ds=>obtain ⟨xs,q,r⟩:=tb;exact ⟨xs,by rw[aO hba];exact q,r⟩
      | dct ds=>obtain ⟨xs,q,r⟩:=tb;exact ⟨xs,by rw[aO hba];exact q,r⟩
      | ins c fs=>obtain ⟨C,dx,gs,n,q,r⟩:=tb;exact ⟨C,dx,gs,n,by rw[aO hba];exact q,r⟩
      | set ks=>obtain ⟨S,q,r⟩:=tb;exact ⟨S,by rw[aO hba];exact q,r⟩
      | _=>exact tb.elim
 . have back:∀ (l:Nat) (d2:D),(ρ.set i (some (true,d')))[l]? = some (some (true,d2))->∃ d3,ρ[l]? = some (some (true,d3)):=λl d2 q=>by
     by_cases hl':l=i
     . subst hl';exact ⟨d,e⟩
     . rw[aOX (λz=>hl' z.symm)] at q;exact ⟨d2,q⟩
   obtain ⟨d3,q3⟩:=back j d1 e1;obtain ⟨d4,q4⟩:=back l d2 e2;exact R.apart j l d3 d4 b hjl q3 q4 q1 q2
section
variable {C:Cw}{X:Cx}{e:Expr}{g:Rho->Res}{pos p pos':Pos}{f x:Str}{cl:List CI}
end
structure MkV0(K:Fg)(mg:SOV)(c:Str):Prop where
 ex:∃ C,PySem.W.nsIn K mainGlobals c=some (some (.ref C))/\mg c=some (.ref C)/\PySem.W.makesIn K C=true/\PySem.W.findIn K (.ref C) "__init__" = some (some (.builtin "object.__init__"))/\PySem.W.keepIn K (.ref C)=true
def spI(K:Fg)(mg:SOV)(c:Str)(n:Nat)(Φ:List D->Res):Sp:=λvs H Q E=>∃ x us dx C H1 F ds,vs=.ref x::us/\us.length=n/\PySem.W.nsIn K mainGlobals c=some (some (.ref C)) /\
 H=upd (upd H1 dx (.own x)) x (.ins C dx [])/\H1 x=none/\H1 dx=none/\dx≠x/\aH F H1/\aB K F ds us/\match Φ ds with
 | .ok _ d=>∀ F' H',aK F H1 F' H'->Rp K F' H' .fr d (.ref x)->Q .non H'
 | .exc c=>∀ F' H' u,aK F H1 F' H'->mg c=some u->E u none H'
 | .stuck=>False
structure InV(P:Program)(w:World)(K:Fg)(mg:SOV)(base:Heap)(CX:CXT)(k:Nat)(c:Str)(n:Nat)(Φ:List D->Res):Prop where
 ex:∃ C f fd ps,PySem.W.nsIn K mainGlobals c=some (some (.ref C))/\mg c=some (.ref C)/\Mk K C f/\c8 P w K mg base CX k f fd ps (spI K mg c n Φ)/\fH K fd ps []
section
variable {C:Cw}{X:Cx}{e:Expr}{es:List Expr}{gs:Rho->aW}{p pos:Pos}{x c:Str}{k n:Nat}{Φ:List D->Res}{CX:CXT}
end
structure IsV(K:Fg)(mg:SOV)(cl:List CI)(c:Str):Prop where
 ex:∃ C,mg c=some (.ref C)/\(∀ t∈["NoneType", "bool", "int", "str", "tuple", "list", "dict"],PySem.W.kitOne K (.type t) (.ref C)=some false) /\
  ∀ i∈cl,∃ C',PySem.W.nsIn K mainGlobals i.name=some (some (.ref C'))/\Cls K C'/\PySem.W.findIn K (.ref C') "__class__" = some (some (.builtin "object.__class__")) /\
   PySem.W.specialIn K (.builtin "object.__class__") "__get__" = some (some (.builtin "getset_descriptor.__get__"))/\PySem.W.takesIn K (.builtin "object.__class__")=some true/\PySem.W.mroIn K C' (.type "object")=some true /\
   PySem.W.kitOne K (.ref C') (.ref C)=some (i.ups.contains c)
section
variable {C:Cw}{X:Cx}{e:Expr}{g:Rho->Res}{p q pos:Pos}{c:Str}{cl:List CI}
end
section
variable {C:Cw}{X:Cx}{a b c e:Expr}{ga gb gc g:Rho->Res}{gs:Rho->aW}{pos:Pos}
def eM:D->Bool | .non=>true | _=>false
theorem uM{K:Fg}{F H:Hp}{m:Md}{d:D}{v:V}(s:aH F H)(r:Rp K F H m d v):decide (v=.non)=eM d:=by
 cases d with
 | non=>cases r.non;rfl
 | bl _=>cases r.bl;rfl
 | int _=>cases r.int;rfl
 | str _=>cases r.str.1;rfl
 | tup _=>obtain ⟨_,_,rfl,_⟩:=r.seqT s;rfl
 | lst _=>obtain ⟨_,_,rfl,_⟩:=r.seqL s;rfl
 | dct _=>obtain ⟨_,_,rfl,_⟩:=r.dict s;rfl
 | ty _=>cases r.ty;rfl
 | ob _=>cases r.ob;rfl
 | ins _ _=>obtain ⟨_,_,_,_,rfl,_⟩:=r.ins s;rfl
 | fn _ =>
  cases m with
  | fz=>have r:aF K F _ v:=r;simp only[aF] at r;obtain ⟨_,rfl,_⟩:=r;rfl
  | fr=>obtain ⟨_,_,_,q⟩:=r;exact q.elim
  | bo=>obtain ⟨_,_,_,q⟩:=r;exact q.elim
 | exn _ =>
  cases m with
  | fz=>have r:aF K F _ v:=r;simp only[aF] at r;obtain ⟨_,_,rfl,_⟩:=r;rfl
  | fr=>obtain ⟨_,_,_,q⟩:=r;exact q.elim
  | bo=>obtain ⟨_,_,_,q⟩:=r;exact q.elim
 | set _ =>
  cases m with
  | fz=>have r:aF K F _ v:=r;simp only[aF] at r;obtain ⟨_,_,rfl,_⟩:=r;rfl
  | fr=>obtain ⟨_,rfl,_,_⟩:=r;rfl
  | bo=>obtain ⟨_,rfl,_,_⟩:=r;rfl
def fIs(neg:Bool):Md->D->Md->D->Option (Md×D):=λ_ x _ y=>match y with
 | .non=>some (.fz,.bl (if neg then !eM x else eM x))
 | _=>none
theorem aFR:OpD C X (compareOp .Is) (fIs false):=by
 refine ⟨_,aBY,λF H m x n y v u k d Q s rx ry e w=>?_⟩;unfold fIs at e;split at e
 . cases e;cases ry.non;exact ⟨rfl,by rw[uM s rx];exact w _ F H (.refl s) (bY _) (by intro z;cases z)⟩
 . cases e
theorem aFS:OpD C X (compareOp .IsNot) (fIs true):=by
 refine ⟨_,aBZ,λF H m x n y v u k d Q s rx ry e w=>?_⟩;unfold fIs at e;split at e
 . cases e;cases ry.non;exact ⟨rfl,by rw[uM s rx];exact w _ F H (.refl s) (bY _) (by intro z;cases z)⟩
 . cases e
theorem uN{neg:Bool}:IsB (fIs neg):=λm x n y k d e=>by
 unfold fIs at e;split at e
 . cases e;exact ⟨_,rfl,rfl⟩
 . cases e
theorem aFT:OpR X (binaryOp .Add) (λx y H Q=>∃ l b xs ys,x=.ref l/\y=.ref b/\SqL X.K H l xs/\SqL X.K H b ys/\xs.length+ys.length<=sizeLine/\∀ p,H p=none->Q (.ref p) (upd H p (.lst (xs++ys)))):=by
 intro aA s σ H x y v u Q I rx ry h;obtain ⟨l,b,xs,ys,rfl,rfl,hl,hb,hz,q⟩:=h;cases rx;cases ry;obtain ⟨its,r1,p1,_⟩:=I.list hl;obtain ⟨its2,r2,p2,_⟩:=I.list hb;obtain ⟨⟨cls,dd,data,sl⟩,n,ho,hc,hd1,hd⟩:=p1;obtain ⟨⟨cls2,dd2,data2,sl2⟩,n2,ho2,hc2,hd2',hd2⟩:=p2;simp only at hc hd hc2 hd2;subst hc hd hc2 hd2;have e:its.toArray++its2.toArray=(its++its2).toArray:=by simp
 have l1:=r1.length;have l2:=r2.length;refine aPW ⟨_,ho,rfl⟩ ⟨_,ho2,rfl⟩ noFill_list_add seq_list_add PySem.F.slot_list_add PySem.F.entry_list_add (PySem.F.args_list_add_2 _ _) (list_addW l b its.toArray its2.toArray n n2 dd dd2 sl sl2 (by simp;omega)) ⟨ho,ho2,?_⟩
 rw[e];refine ⟨.ref s.heap.objs.size,_,I.laid (t':=s.toks) (o:=.lst (xs++ys)) (λb ob q=>hps q) (aPC _) ?_,rfl,q _ (I.hok.fresh (aPC _))⟩;exact ⟨by rw[aPT];exact hz,_,0,r1.append r2,aOG _ rfl⟩
theorem aFU:OpR X (binaryOp .Add) (λx y H Q=>∃ l b xs ys,x=.ref l/\y=.ref b/\SqT X.K H l xs/\SqT X.K H b ys/\xs.length+ys.length<=sizeLine/\(xs=[]->Q (.ref b) H)/\(xs≠[]->ys=[]->Q (.ref l) H)/\(xs≠[]->ys≠[]->∀ p,H p=none->Q (.ref p) (upd H p (.tup (xs++ys))))):=by
 intro aA s σ H x y v u Q I rx ry h;obtain ⟨l,b,xs,ys,rfl,rfl,hl,hb,hz,q0,q1,q2⟩:=h;cases rx;cases ry;obtain ⟨its,r1,p1,_⟩:=I.tuple hl;obtain ⟨its2,r2,p2,_⟩:=I.tuple hb;have n1:=r1.nil_iff;have n2:=r2.nil_iff;have l1:=r1.length;have l2:=r2.length;by_cases hv:its=[]
 . obtain ⟨⟨cls,dd,data,sl⟩,ho,hc,n,hd⟩:=id p1;obtain ⟨⟨cls2,dd2,data2,sl2⟩,ho2,hc2,n2',hd2⟩:=id p2;simp only at hc hd hc2 hd2;subst hc hd hc2 hd2;exact aPW ⟨_,ho,rfl⟩ ⟨_,ho2,rfl⟩ aPX seq_tuple_add aPY aPZ (aP0 _ _)
     (tuple_addW0 l b its.toArray its2.toArray n n2' dd dd2 sl sl2 (by simp[hv])) ⟨ho,ho2,⟨.ref b,H,I,rfl,q0 (n1.mp hv)⟩⟩
 . refine HT.aCD p1 p2 hv (λz=>⟨.ref l,H,I,rfl,q1 (λw=>hv (n1.mpr w)) (n2.mp z)⟩) (λz=>?_) (by omega)
   refine ⟨.ref s.heap.objs.size,_,I.laid (t':=s.toks) (o:=.tup (xs++ys)) (λb ob q=>hps q) (aPC _) ?_,rfl,q2 (λw=>hv (n1.mpr w)) (λw=>z (n2.mpr w)) _ (I.hok.fresh (aPC _))⟩;exact ⟨by rw[aPT];exact hz,_,r1.append r2,fF.new _ _⟩
def m8:Md->D->Md->D->Option (Md×D):=λm x n y=>match x,y with
 | .lst xs,.lst ys=>if xs.length+ys.length<=sizeLine then some (.fr,.lst (xs++ys)) else none
 | .tup xs,.tup ys=>if xs.length+ys.length<=sizeLine then some (.fz,.tup (xs++ys)) else none
 | _,_=>none
theorem aB.nilIff{K:Fg}{F:Hp}{ds:List D}{xs:List V}(h:aB K F ds xs):xs=[]↔ds=[]:=by
 have:=h.length;constructor
 . intro e;subst e;cases ds with | nil=>rfl | cons _ _=>simp at this
 . intro e;subst e;cases xs with | nil=>rfl | cons _ _=>simp at this
theorem aFV:OpD C X (binaryOp .Add) m8:=by
 refine ⟨_,aFT.or aFU,λF H m x n y v u k d Q s rx ry e w=>?_⟩;unfold m8 at e;split at e
 . rename_i xs ys;split at e
   . rename_i hz;cases e;obtain ⟨a,us,rfl,q1,r1⟩:=rx.seqL s;obtain ⟨b,vs,rfl,q2,r2⟩:=ry.seqL s;refine .inl ⟨a,b,us,vs,rfl,rfl,q1,q2,by rw[r1.length,r2.length];exact hz,λp hp=>?_⟩
     exact w (.ref p) F _ (aK.fresh _ s hp) ⟨p,rfl,s.free hp,_,bN,r1.append r2⟩ λ_ a ea=>by cases ea;exact hp
   . cases e
 . rename_i xs ys;split at e
   . rename_i hz;cases e;have ex:=rx;have ey:=ry;obtain ⟨a,us,rfl,q1,r1⟩:=rx.seqT s;obtain ⟨b,vs,rfl,q2,r2⟩:=ry.seqT s;have fz:∀ {m:Md} {zs:List D} {c:Addr},Rp X.K F H m (.tup zs) (.ref c)->aF X.K F (.tup zs) (.ref c):=λ{m zs c} h=>by
       cases m with
       | fz=>exact h
       | fr=>obtain ⟨_,_,_,q⟩:=h;exact q.elim
       | bo=>obtain ⟨_,_,_,q⟩:=h;exact q.elim
     refine .inr ⟨a,b,us,vs,rfl,rfl,q1,q2,by rw[r1.length,r2.length];exact hz,λz=>?_,λ_ z=>?_,λ_ _ p hp=>?_⟩
     . have:xs=[]:=r1.nilIff.mp z;subst this;exact w (.ref b) F H (.refl s) (fz ey) (by intro z;cases z)
     . have:ys=[]:=r2.nilIff.mp z;subst this;rw[aPJ] at w;exact w (.ref a) F H (.refl s) (fz ex) (by intro z;cases z)
     . exact w (.ref p) _ _ (aK.laid (.tup (us++vs)) s hp) (aF.tup_of (s.free hp) (r1.append r2)) (by intro z;cases z)
   . cases e
 . cases e
def cX:D->Bool | .non | .bl _ | .int _ | .str _=>true | _=>false
def eqD:D->D->Bool
 | .non,.non=>true
 | .bl a,.bl b=>a==b
 | .bl a,.int b=>(if a then 1 else 0)==b
 | .int a,.bl b=>a==(if b then 1 else 0)
 | .int a,.int b=>a==b
 | .str a,.str b=>a==b
 | _,_=>false
def jC(neg:Bool):Md->D->Md->D->Option (Md×D):=λ_ x _ y=>match y with
 | .lst ys=>if (cX x&&ys.all cX)=true then some (.fz,.bl (if neg then !(ys.any λy=>eqD y x) else (ys.any λy=>eqD y x))) else none
 | .tup ys=>if (cX x&&ys.all cX)=true then some (.fz,.bl (if neg then !(ys.any λy=>eqD y x) else (ys.any λy=>eqD y x))) else none
 | _=>none
def vOf:D->V | .non=>.non | .bl b=>.bl b | .int i=>.int i | .str x=>.str x | _=>.non
theorem pS{K:Fg}{F H:Hp}{m:Md}{d:D}{v:V}(h:cX d=true)(r:Rp K F H m d v):v=vOf d:=by
 cases d with
 | non=>exact r.non
 | bl _=>exact r.bl
 | int _=>exact r.int
 | str _=>exact r.str.1
 | _=>cases h
theorem pT{K:Fg}{F:Hp}:∀ {ds:List D} {xs:List V},ds.all cX=true->aB K F ds xs->xs=ds.map vOf
 | [],_,_,r=>by simp only[aB] at r;exact r
 | d::ds,_,h,r=>by simp only[aB] at r;obtain ⟨y,ys,rfl,r1,r2⟩:=r;rw[aQD,aQB] at h;rw[aQK,pS (H:=F) (m:=.fz) h.1 r1,pT h.2 r2]
theorem pU{d:D}(h:cX d=true):fJ (vOf d)=true:=by cases d <;> first | rfl | cases h
theorem aFW{x y:D}(hx:cX x=true)(hy:cX y=true):eqV (vOf x) (vOf y)=eqD x y:=by cases x <;> cases y <;> first | rfl | (cases hx;done) | (cases hy;done)
theorem pV{x:D}(hx:cX x=true):∀ {ds:List D},ds.all cX=true->inV (vOf x) (ds.map vOf)=ds.any λy=>eqD y x
 | [],_=>rfl
 | d::ds,h=>by rw[aQD,aQB] at h;show (eqV (vOf d) (vOf x)||inV (vOf x) (ds.map vOf))=(eqD d x||ds.any _);rw[aFW h.1 hx,pV hx h.2]
theorem pW:∀ {ds:List D},ds.all cX=true->(ds.map vOf).all fJ=true
 | [],_=>rfl
 | d::ds,h=>by rw[aQD,aQB] at h;rw[aQK,aQD,pU h.1,pW h.2];rfl
theorem uO{neg:Bool}{f:Value->Value->Sem Value}(o:OpR X f (rIn X.K neg)):OpD C X f (jC neg):=by
 refine ⟨_,o,λF H m x n y v u k d Q s rx ry e w=>?_⟩;unfold jC at e;split at e
 . rename_i ys;split at e
   . rename_i hf;rw[aQB] at hf;cases e;obtain ⟨b,vs,rfl,q2,r2⟩:=ry.seqL s;have ev:=pS hf.1 rx;have es:=pT hf.2 r2;subst ev;subst es;exact ⟨b,_,rfl,.inl q2,pU hf.1,pW hf.2,by rw[pV hf.1 hf.2];exact w _ F H (.refl s) (bY _) (by intro z;cases z)⟩
   . cases e
 . rename_i ys;split at e
   . rename_i hf;rw[aQB] at hf;cases e;obtain ⟨b,vs,rfl,q2,r2⟩:=ry.seqT s;have ev:=pS hf.1 rx;have es:=pT hf.2 r2;subst ev;subst es;exact ⟨b,_,rfl,.inr q2,pU hf.1,pW hf.2,by rw[pV hf.1 hf.2];exact w _ F H (.refl s) (bY _) (by intro z;cases z)⟩
   . cases e
 . cases e
theorem uP{neg:Bool}:IsB (jC neg):=λm x n y k d e=>by
 unfold jC at e;split at e
 . split at e
   . cases e;exact ⟨_,rfl,rfl⟩
   . cases e
 . split at e
   . cases e;exact ⟨_,rfl,rfl⟩
   . cases e
 . cases e
def jD:List (Md×D)->Option (Md×D)
 | [(_,.lst ds)]=>some (.fz,.tup ds)
 | [(.fz,.tup ds)]=>some (.fz,.tup ds)
 | _=>none
def jE:List (Md×D)->Option (Md×D)
 | [(_,.lst ds)]=>some (.fr,.lst ds)
 | [(_,.tup ds)]=>some (.fr,.lst ds)
 | _=>none
def pX:List (Md×D)->Option (Md×D)
 | [(_,.int i)]=>some (.fz,.int i)
 | [(_,.bl b)]=>some (.fz,.int (if b then 1 else 0))
 | _=>none
def m9(i:Int):Bool:=decide (i.natAbs.log2<1920)
def jF(i:Int):Str:=Str.ofString (toString i)
def kY:List (Md×D)->Option (Md×D)
 | [(_,.int i)]=>if m9 i=true then some (.fz,.str (jF i)) else none
 | _=>none
theorem aFX:dW X (.type "tuple") jD:=by
 refine ⟨_,aC0,λF H xs vs k d Q s rx e w=>?_⟩;unfold jD at e;split at e
 . rename_i m ds;cases e;obtain ⟨v,rfl,r⟩:=rx.one;obtain ⟨a,xs,rfl,q,rl⟩:=r.seqL s;exact ⟨a,xs,rfl,.inl ⟨q,λl hl=>w (.ref l) _ _ (aK.laid (.tup xs) s hl) (aF.tup_of (s.free hl) rl) (by intro z;cases z)⟩⟩
 . rename_i ds;cases e;obtain ⟨v,rfl,r⟩:=rx.one;have r0:=r;obtain ⟨a,xs,rfl,q,rl⟩:=r.seqT s;exact ⟨a,xs,rfl,.inr ⟨q,w (.ref a) F H (.refl s) r0 (by intro z;cases z)⟩⟩
 . cases e
theorem aFY:dW X (.type "list") jE:=by
 refine ⟨_,aCZ,λF H xs vs k d Q s rx e w=>?_⟩;unfold jE at e;split at e
 . rename_i m ds;cases e;obtain ⟨v,rfl,r⟩:=rx.one;obtain ⟨a,xs,rfl,q,rl⟩:=r.seqL s;exact ⟨a,xs,rfl,.inl q,λl hl=>w (.ref l) F _ (aK.fresh _ s hl) ⟨l,rfl,s.free hl,xs,bN,rl⟩ λ_ a ea=>by cases ea;exact hl⟩
 . rename_i m ds;cases e;obtain ⟨v,rfl,r⟩:=rx.one;obtain ⟨a,xs,rfl,q,rl⟩:=r.seqT s;exact ⟨a,xs,rfl,.inr q,λl hl=>w (.ref l) F _ (aK.fresh _ s hl) ⟨l,rfl,s.free hl,xs,bN,rl⟩ λ_ a ea=>by cases ea;exact hl⟩
 . cases e
theorem aFZ:dW X (.type "int") pX:=by
 refine ⟨_,aB7,λF H xs vs k d Q s rx e w=>?_⟩;unfold pX at e;split at e
 . cases e;obtain ⟨v,rfl,r⟩:=rx.one;cases r.int;exact .inl ⟨_,rfl,w _ F H (.refl s) (cL _) (by intro z;cases z)⟩
 . cases e;obtain ⟨v,rfl,r⟩:=rx.one;cases r.bl;exact .inr ⟨_,rfl,w _ F H (.refl s) (cL _) (by intro z;cases z)⟩
 . cases e
end
theorem uQ(i:Int):PyData.strOk (Str.ofString (toString i))=true:=by
 unfold PyData.strOk;rw[aQT];intro c hc;have hc':c∈(Str.ofString (toString i)).cps.toList:=by rw[aQU];exact hc
 have:¬ (c≠45/\(c<48\/57<c)):=λh=>int_text_free' c h i hc';have hb:c<58:=by omega
 simp;omega
section
variable {X:Cx}
theorem aF0:dW X (.type "str") kY:=by
 refine ⟨_,aB8,λF H xs vs k d Q s rx e w=>?_⟩;unfold kY at e;split at e
 . rename_i m i;split at e
   . rename_i hs;cases e;obtain ⟨v,rfl,r⟩:=rx.one;cases r.int;have hl:i.natAbs.log2<1920:=aQR hs;have h1:(jF i).length<=1921:=int_text_len_1921 hl;have hz:sizeLine=16777216:=aPH;exact ⟨i,rfl,hl,w _ F H (.refl s) (fA ⟨by omega,uQ i⟩) (by intro z;cases z)⟩
   . cases e
 . cases e
end
theorem aF1{C:Cw}{X:Cx}{T:String}{φ}{x:Str}{e:Expr}{es:List Expr}{gs:Rho->aW}{p pos:Pos}(o:dW X (.type T) φ)(hg:Gl X x)(hm:X.mg x=none)(hv:bootBuiltins x=some (.type T))(ha:PAv C X (e::es) gs)(hn:x ≠ "__name__")(hdb:(x==("__debug__" : Str))=false)(hst:∀ x∈e::es,bJ x=true):PV C X (.Call (.Name x p) (e::es) [] pos) (λρ=>fW φ (gs ρ)):=by obtain ⟨r,h1,h2⟩:=o;exact PE.imp (aCC h1 hg hm hv ha hn hdb (bO (hst e mcs)) (fN _ _ λy hy=>hst y (mcm hy))) λσ H Q q=>tZ h2 q
section
variable {prog:Program}{w:World}{A:Around}{E:VSP}{s:Shared}
theorem aF2{l:Addr}{items:Array Value}{Q:List Value->Shared->Prop}(hA:A.handled=none)(ht:s.heap.IsList l items)(h:∀ h',Heap.ExtBut s.heap.objs.size s.heap h'->∀ tk,Q items.toList { s with heap:=h',toks:=tk }):wpAny (model prog w) A (unpackItems (.ref l) items.size none) Q E s:=by
 unfold unpackItems notIterableAtAll;refine aO3 (aO3 (aQO ht.typeIs PySem.F.slot_list_iter.lookup ?_));refine aO5 ?_;dsimp only;rw[if_neg aO9];refine aO3 (aP6 (aPB ht ?_));have hlt:l<s.heap.objs.size:=by obtain ⟨o,e,_⟩:=ht;exact aOH e
 have hne:l≠s.heap.objs.size:=aOK hlt;have keep:∀ b o,s.heap.get? b=some o->(s.heap.push { cls:=Value.type "list_iterator", data:=Data.fields #[Value.ref l,Value.int 0 0] }).get? b=some o:=λb o q=>hps q;have ht':(s.heap.push { cls:=Value.type "list_iterator", data:=Data.fields #[Value.ref l,Value.int 0 0] }).IsList l items:=by obtain ⟨o,e,c⟩:=ht;exact ⟨o,keep l o e,c⟩
 have hi':(s.heap.push { cls:=Value.type "list_iterator", data:=Data.fields #[Value.ref l,Value.int 0 0] }).IsListIter s.heap.objs.size l 0:=⟨_,aOG _ rfl,rfl,rfl⟩;refine aO3 (aP6 (PySem.W.kun_draw hne items.size 0 _ _ hi' ht' (by omega) λh' hi hsb=>?_))
 have ei:List.take items.size (List.drop 0 items.toList)=items.toList:=by rw[aRM];exact aRN (by simp)
 rw[ei];rw[if_neg (by simp)]
 have hl2:h'.IsList l items:=by obtain ⟨o,e,c⟩:=ht';exact ⟨o,by rw[hsb.2 l hne];exact e,c⟩
 rw[aRO] at hi;refine aO3 (aP6 ((Walks.list hA s.heap.objs.size l hne items).done _ _ _ ⟨hi,hl2⟩ λh2 tk k2=>?_));rw[if_neg (by simp)]
 refine aO5 (h h2 (λb o hb e=>k2 b o (by simpa using hb) ?_) tk)
 show h'.get? b=some o;rw[hsb.2 b hb];exact keep b o e
theorem aF3{env:Env}{elts:List Expr}{k:Nat}{pos:Pos}{l:Addr}{items:Array Value}{Q:Unit->Shared->Prop}(hA:A.handled=none)(ht:s.heap.IsList l items)(hn:(assignEach elts env).length=items.size)(hst:(assignEach elts env).findIdx? (·.1)=none)(h:∀ h',Heap.ExtBut s.heap.objs.size s.heap h'->∀ tk,wpAny (model prog w) A (assignInOrder ((assignEach elts env).map (·.2)) items.toList) Q E { s with heap:=h',toks:=tk }):wpAny (model prog w) A (assign (.Tuple elts k pos) env (.ref l)) Q E s:=by rw[assign_Tuple];refine aO3 (aO4 ?_);unfold unpack;rw[hst,hn];exact aO3 (aP6 (aF2 hA ht h))
theorem aF4{t sl:Addr}{items:Array Value}{vl vu:Value}{lo hi:Option Int}{Q:VSP}(ht:IsTup s.heap t items)(hs:s.heap.IsSliceOf sl vl vu .none)(pl:IsPart vl lo)(pu:IsPart vu hi)(h0:HT.sIx items.size 0 lo=0)(h1:HT.sIx items.size items.size hi=items.size)(h:Q (.ref t) s):wpAny (model prog w) A (getItem (.ref t) (.ref sl)) Q E s:=by
 obtain ⟨os,hos,hcs,hds⟩:=id hs;have tS:s.TypeIs (.ref sl) "slice" := ⟨os,hos,hcs⟩;unfold getItem
 try with_reducible refine aP6 ?_
 first | refine aO3 (aO5 ?_) | skip
 refine aO3 (wpAny_sequenceKey ht.typeIs (by decide) (aO3 (aP7 (name:=Str.ofString "__getitem__") ht.typeIs aP8 (aP9 aP8 ht.typeIs entry_tuple_getitem ?_ (args_tuple_getitem _ _)))))
 show wpAny _ _ (Builtin.Tuple.tupleItemsOf (.ref t) >>= _) _ _ s;refine aO3 (tupleItemsOf_ ht (aO3 (aQA tS ?_)));rw[if_pos (by decide)]
 refine aO3 (HT.sV hs pl pu ?_);have yes:(((HT.sIx items.size 0 lo:Nat):Int)==0&&(1:Int)==1&&(HT.sIx items.size items.size hi-HT.sIx items.size 0 lo)==items.size)=true:=by rw[h0,h1];simp
 show wpAny _ _ (if (((HT.sIx items.size 0 lo:Nat):Int)==0&&(1:Int)==1&&(HT.sIx items.size items.size hi-HT.sIx items.size 0 lo)==items.size)=true then _ else _) _ _ s;rw[if_pos yes];unfold Builtin.Tuple.tupleIsExact;refine aO3 (aO3 (aQA ht.typeIs (aO5 ?_)));rw[if_pos (by decide)]
 refine aO3 (aO7 ?_)
 first
  | exact aO5 ⟨_,rfl,aO5 h⟩
  | exact ⟨_,rfl,aO5 h⟩
end
section
variable {X:Cx}{pos:Pos}
def rSlW(K:Fg):V->Option Int->Option Int->Hp->VK->Prop:=λx lo hi H Q=>∃ a xs,x=.ref a/\SqT K H a xs/\(HT.sIx xs.length 0 lo=0/\HT.sIx xs.length xs.length hi=xs.length)/\Q x H
theorem aF5:SlR X (rSlW X.K):=by
 intro aA s σ H x v vl vu lo hi sl Q I rx hs pl pu h;obtain ⟨a,xs,rfl,hx,hw,q⟩:=h;cases rx;obtain ⟨its,r,ht,hz⟩:=I.tuple hx;have hlen:its.toArray.size=xs.length:=by rw[aPI];exact r.length.symm
 exact ⟨"tuple", _,PyProof.Rows.slot_tuple_getitem.lookup,ht.typeIs,aF4 ht hs pl pu (by rw[hlen];exact hw.1) (by rw[hlen];exact hw.2) ⟨.ref a,H,I,rfl,q⟩⟩
def gSeq(K:Fg)(n:Nat)(t:TGs):TG:=λv σ H Q=>∃ a xs,v=.ref a/\(SqT K H a xs\/SqL K H a xs)/\xs.length=n/\t xs σ H Q
theorem aF6{es:List Expr}{k:Nat}{t:TGs}{n:Nat}(hc:X.calm=true)(h:PGs X es t)(hn:(assignEach es X.env).length=n)(hst:(assignEach es X.env).findIdx? (·.1)=none):PG X (.Tuple es k pos) (gSeq X.K n t):=by
 intro aA s σ H v u Q I r hw;obtain ⟨a,xs,e1,hq,hl,hw⟩:=hw;rcases hq with hq | hq
 . exact aBA hc h hn hst aA s σ H v u Q I r ⟨a,xs,e1,hq,hl,hw⟩
 . subst e1;cases r;obtain ⟨its,rv,ht,hz⟩:=I.list hq;refine aF3 (I.ok.hd hc) ht.isList (by simp[hn,<- hl,rv.length]) hst λh' hx tk=>?_
   have I1:Inv X aA σ H { s with heap:=h',toks:=tk }:=I.kept (t':=tk) λb o e=>hx b o (aOK (aOH e)) e
   exact h aA _ σ H xs _ Q I1 (by simpa using rv) hw
end
inductive Tg where
 | nm (i:Nat) | tp (ts:List Tg)
mutual
def aJ:Tg->D->Rho->Option Rho
 | .nm i,d,ρ=>some (ρ.set i (some (false,d)))
 | .tp ts,d,ρ=>match d with
  | .tup ds=>dB ts ds ρ
  | .lst ds=>dB ts ds ρ
  | _=>none
def dB:List Tg->List D->Rho->Option Rho
 | [],ds,ρ=>if ds.isEmpty then some ρ else none
 | t::ts,ds,ρ=>match ds with
  | d::ds=>(match aJ t d ρ with | some ρ1=>dB ts ds ρ1 | none=>none)
  | []=>none
end
mutual
def dL:Tg->List Nat
 | .nm i=>[i]
 | .tp ts=>nD ts
def nD:List Tg->List Nat
 | []=>[]
 | t::ts=>dL t++nD ts
end
mutual
def gOf(K:Fg):Tg->TG
 | .nm i=>iW i
 | .tp ts=>gSeq K ts.length (gS K ts)
def gS(K:Fg):List Tg->TGs
 | []=>gNil
 | t::ts=>sH (gOf K t) (gS K ts)
end
def PGw(X:Cx)(tg:Expr)(t:Tg):Prop:=PG X tg (gOf X.K t)
def iG(X:Cx)(tgs:List Expr)(ts:List Tg):Prop:=PGs X tgs (gS X.K ts)
def gT:Expr->Bool | .Starred ..=>false | _=>true
theorem pY{e:Expr}{es:List Expr}{env:Env}(h:gT e=true):assignEach (e::es) env=(false,assign e env)::assignEach es env:=by cases e <;> first | rfl | cases h
theorem pZ:∀ {ts:List Tg} {ds:List D} {ρ ρ':Rho},dB ts ds ρ=some ρ'->ds.length=ts.length
 | [],ds,ρ,ρ',e=>by
  simp only[dB] at e;split at e
  . rename_i h;have:ds=[]:=by simpa using h
    subst this;rfl
  . cases e
 | t::ts,ds,ρ,ρ',e=>by
  simp only[dB] at e;split at e
  . split at e
    . rw[aQJ,aQJ,pZ e]
    . cases e
  . cases e
mutual
theorem kZ{K:Fg}{F0 H0:Hp}:∀ (t:Tg) {F H:Hp} {σ:L2.St} {ρ ρ':Rho} {d:D} {v:V} {Q:L2.St->Hp->Prop},aR K F0 H0 F H σ ρ->aF K F d v->aJ t d ρ=some ρ'->(∀ σ',aR K F0 H0 F H σ' ρ'->σ'.length=σ.length->(∀ j,j∉dL t->σ'[j]? = σ[j]?)->Q σ' H)->gOf K t v σ H Q
 | .nm i,F,H,σ,ρ,ρ',d,v,Q,R,r,e,w=>by
  simp only[aJ] at e;cases e;simp only[gOf];refine w _ (R.set (m:=false) (.refl R.sub) r (by intro z;cases z)) (by rw[aQ7]) λj hj=>?_
  simp only[dL,aRP] at hj;rw[aOX (λz=>hj z.symm)]
 | .tp ts,F,H,σ,ρ,ρ',d,v,Q,R,r,e,w=>by
  simp only[aJ] at e;split at e
  . rename_i ds;simp only[aF] at r;obtain ⟨a,xs,rfl,hq,rl⟩:=r;simp only[gOf];refine ⟨a,xs,rfl,.inl (aH.seqT R.sub hq),by rw[rl.length];exact pZ e,qA ts R rl e ?_⟩
    simp only[dL] at w;exact w
  . rename_i ds;simp only[aF] at r;obtain ⟨a,xs,rfl,hq,rl⟩:=r;simp only[gOf];refine ⟨a,xs,rfl,.inr (R.sub.seq hq),by rw[rl.length];exact pZ e,qA ts R rl e ?_⟩
    simp only[dL] at w;exact w
  . cases e
theorem qA{K:Fg}{F0 H0:Hp}:∀ (ts:List Tg) {F H:Hp} {σ:L2.St} {ρ ρ':Rho} {ds:List D} {vs:List V} {Q:L2.St->Hp->Prop},aR K F0 H0 F H σ ρ->aB K F ds vs->dB ts ds ρ=some ρ'->(∀ σ',aR K F0 H0 F H σ' ρ'->σ'.length=σ.length->(∀ j,j∉nD ts->σ'[j]? = σ[j]?)->Q σ' H)->gS K ts vs σ H Q
 | [],F,H,σ,ρ,ρ',ds,vs,Q,R,r,e,w=>by
  simp only[dB] at e;split at e
  . cases e;rename_i hd;have:ds=[]:=by simpa using hd
    subst this;simp only[aB] at r;simp only[gS];exact ⟨r,w σ R rfl λ_ _=>rfl⟩
  . cases e
 | t::ts,F,H,σ,ρ,ρ',ds,vs,Q,R,r,e,w=>by
  simp only[dB] at e;split at e
  . rename_i d ds';split at e
    . rename_i ρ1 e1;simp only[aB] at r;obtain ⟨y,ys,rfl,r1,r2⟩:=r;simp only[gS];refine ⟨y,ys,rfl,kZ t R r1 e1 λσ1 R1 l1 k1=>qA ts R1 r2 e λσ2 R2 l2 k2=>w σ2 R2 (l2.trans l1) λj hj=>?_⟩;simp only[nD,aOS,not_or] at hj;rw[k2 j hj.2,k1 j hj.1]
    . cases e
  . cases e
end
section
variable {C:Cw}{X:Cx}{pos:Pos}
theorem aF7{x:Str}{i:Nat}(hN:X.N.Nodup)(hi:X.N[i]? = some x)(hx:L2.Loc X.env.scope x)(hf:X.fn x=true\/X.env.scope.names.lookup x=some .local):PGw X (.Name x pos) (.nm i):=by unfold PGw;simp only[gOf];exact aA7 hN hi hx hf
theorem aF8:iG X [] []:=by unfold iG;simp only[gS];exact aA8
theorem aF9{e:Expr}{es:List Expr}{t:Tg}{ts:List Tg}(h1:PGw X e t)(h2:iG X es ts)(hs:gT e=true):iG X (e::es) (t::ts):=by unfold iG;simp only[gS];exact aA9 h1 h2 (by rw[pY hs];rfl)
theorem aGA{es:List Expr}{env:Env}(hs:∀ e∈es,gT e=true):(assignEach es env).length=es.length/\(assignEach es env).findIdx? (·.1)=none:=by
 induction es with
 | nil=>exact ⟨rfl,rfl⟩
 | cons e es ih =>
  obtain ⟨h1,h2⟩:=ih λx hx=>hs x (mcm hx);rw[pY (hs e mcs)];refine ⟨by rw[aQJ,aQJ,h1],?_⟩
  rw[List.findIdx?_cons];simp[h2]
theorem aGB{es:List Expr}{ts:List Tg}{k:Nat}(hc:X.calm=true)(h:iG X es ts)(hs:∀ e∈es,gT e=true)(hl:es.length=ts.length):PGw X (.Tuple es k pos) (.tp ts):=by have st:=aGA (env:=X.env) hs;unfold PGw;simp only[gOf];exact aF6 (n:=ts.length) hc h (by rw[st.1,hl]) st.2
theorem aGC{tg:Expr}{t:Tg}(h:PGw X tg t):PGv C X tg (aJ t) :=
 ⟨_,h,λF H σ ρ ρ' d v Q R r e w=>kZ t R r e λσ' R' _ _=>w σ' F H (aH.refl _) R'⟩
def gU(t:Tg)(ρ:Rho)(r:Res):aG:=(a8 r).thS ρ λm d=>match m with | .fz=>(match aJ t d ρ with | some ρ'=>.nx ρ' | none=>.stuck) | _=>.stuck
theorem aGD{tg e:Expr}{t:Tg}{g:Rho->Res}(he:PV C X e g)(hg:PGw X tg t)(hs:swapsWithSole [tg] e pos.line X.env=pure false)(hw:swappedStores [tg] e X.env=pure none)(hst:gT tg=true):PSv C X (.Assign [tg] e pos) (λρ=>gU t ρ (g ρ)):=by
 refine PS.imp (aBB (fK he) hg hs hw (by rw[pY hst];rfl)) λEn σ H qq=>?_
 obtain ⟨ρ,F,R,w⟩:=qq;unfold gU at w;refine fX R w λm d v F' H' w' s R' rp fr=>?_;cases m with
 | fr=>exact (show False from w').elim
 | bo=>exact (show False from w').elim
 | fz =>
 cases eg:aJ t d ρ with
 | none=>rw[eg] at w';exact (show False from w').elim
 | some ρ'=>rw[eg] at w';have rv:aF X.K F' d v:=rp;exact kZ t R' rv eg λσ' R'' _ _=>w' σ' F' H' (aH.refl _) R''
def dC(t:Rho->Res)(b:Rho->aG):Nat->Rho->aG
 | 0,_=>.stuck
 | n+1,ρ=>(t ρ).thS ρ λ_ d=>match d with
  | .bl true=>(match b ρ with
   | .nx ρ'=>dC t b n ρ'
   | .ct ρ'=>dC t b n ρ'
   | .bk ρ'=>.nx ρ'
   | r=>r)
  | .bl false=>.nx ρ
  | _=>.stuck
theorem aGE{c:Expr}{body:List Stmt}{t:Rho->Res}{b:Rho->aG}(n:Nat)(hp:PassesOwn (model X.prog X.w) X.A X.env X.xe)(hc:PTv C X c t)(hb:PBv C X body b):PSv C X (.While c body [] pos) (dC t b n):=by
 refine PS.imp (aBF hp hc hb) λEn σ H q=>?_;obtain ⟨ρ,F,R,w⟩:=q;refine ⟨λm σ H=>∃ ρ F,aR X.K C.F0 C.H0 F H σ ρ/\bI (C.at X) F (dC t b m ρ) En,⟨n,ρ,F,R,w⟩,?_⟩;rintro m σ H ⟨ρ,F,R,w⟩;refine ⟨ρ,F,R,?_⟩;cases m with
 | zero=>exact w.elim
 | succ m =>
  unfold dC at w;cases et:t ρ with
  | stuck=>rw[et] at w;exact w
  | exc c=>rw[et] at w;exact λF' H' s=>w σ F' H' s.fsame (R.step s)
  | ok md d =>
   rw[et] at w;cases d with
   | bl k =>
    intro F' H' s;cases k with
    | false=>rw[if_neg aO9];exact w σ F' H' s.fsame (R.step s)
    | true =>
     rw[if_pos rfl];have w:bI (C.at X) F (match b ρ with | .nx ρ'=>dC t b m ρ' | .ct ρ'=>dC t b m ρ' | .bk ρ'=>.nx ρ' | r=>r) En:=w
     refine ⟨λσ' H'=>∃ ρ F,aR X.K C.F0 C.H0 F H' σ' ρ/\bI (C.at X) F (dC t b m ρ) En,λσ' H' h=>⟨m,Nat.lt_succ_self _,h⟩,ρ,F',R.step s,?_⟩;cases eb:b ρ with
     | nx ρ'=>rw[eb] at w;exact λσ2 F2 H2 z R2=>⟨ρ',F2,R2,bI.mono (s.fsame.trans z) w⟩
     | ct ρ'=>rw[eb] at w;exact λσ2 F2 H2 z R2=>⟨ρ',F2,R2,bI.mono (s.fsame.trans z) w⟩
     | bk ρ'=>rw[eb] at w;exact λσ2 F2 H2 z R2=>w σ2 F2 H2 (s.fsame.trans z) R2
     | rt md d=>rw[eb] at w;exact w
     | exc c ρ'=>rw[eb] at w;exact λσ2 F2 H2 z R2=>w σ2 F2 H2 (s.fsame.trans z) R2
     | stuck=>rw[eb] at w;exact w.elim
   | _=>exact w.elim
def nE(i j:Nat)(ρ:Rho)(r:aW):aG:=match r with
 | .ok [(.fz,d),(.fz,e)]=>.nx ((ρ.set i (some (false,d))).set j (some (false,e)))
 | .exc c=>.exc c ρ
 | _=>.stuck
theorem aGF{i j:Nat}{x y:Str}{a b:Expr}{gs:Rho->aW}{px py pt:Pos}{kt k2 pt2}(hc:X.calm=true)(hN:X.N.Nodup)(hi:X.N[i]? = some x)(hj:X.N[j]? = some y)(hij:i≠j)(hx:X.env.scope.names.lookup x=some .local)(hy:X.env.scope.names.lookup y=some .local)(ha:PAv C X [a,b] gs)(hw:swappedStores [.Tuple [.Name x px,.Name y py] kt pt] (.Tuple [a,b] k2 pt2) X.env=pure (some [x,y])):PSv C X (.Assign [.Tuple [.Name x px,.Name y py] kt pt] (.Tuple [a,b] k2 pt2) pos) (λρ=>nE i j ρ (gs ρ)):=by
 refine PS.imp (aBD hc hN hi hj hij hx hy ha hw) λEn σ H q=>?_;obtain ⟨ρ,F,R,w⟩:=q;dsimp only at w;refine ⟨ρ,F,R,?_⟩;cases er:gs ρ with
 | stuck=>rw[er] at w;exact w
 | exc c=>rw[er] at w;exact λF' H' s=>w σ F' H' s.fsame (R.step s)
 | ok xs =>
  rw[er] at w;unfold nE at w;split at w
  . rename_i d e hxs;cases hxs;intro vs F' H' s rl;obtain ⟨v,u,rfl,r1,r2⟩:=rl.two;refine ⟨v,u,rfl,w _ F' H' s.fsame ?_⟩;have R1:=R.set (i:=i) (m:=false) s r1 (by intro z;cases z)
    exact R1.set (i:=j) (m:=false) (.refl R1.sub) r2 (by intro z;cases z)
  . rename_i hxs;cases hxs
  . exact w.elim
end
section
variable {C:Cw}{X:Cx}{e:Expr}{g:Rho->Res}{pos p:Pos}
theorem uR{t:Tg}{tgN:List Str}{aD:List Nat}{gi gt ge:Rho->Res}(hsl:∀ j∈dL t,aD.length<=j){σ:L2.St}{H:Hp}{Q:VK}(q:tG (C.at X) (λρ=>dY (gi ρ) ρ aD tgN.length (aJ t) gt ge) σ H Q):fY aD tgN.length (tIv (C.at X) gi) (gOf X.K t) (tT (C.nox.at X) gt) (tG (C.nox.at X) λρ=>a8 (ge ρ)) σ H Q:=by
 rw[aV] at q;obtain ⟨ρ,F,RS,w⟩:=q;unfold fY;refine ⟨ρ,F,RS,?_⟩;cases er:gi ρ with
 | stuck=>rw[er] at w;exact w
 | exc c=>rw[er] at w;exact w
 | ok m d =>
  rw[er] at w;cases d with
  | lst ds =>
   unfold dY at w;rw[Res.thn_ok] at w;dsimp only at w;split at w
   . rename_i hsz;intro J F1 H1 s1 hJ Da hDa;cases et:cP (aJ t) gt ge (cH aD ρ++List.replicate tgN.length none) ds with
     | none=>rw[et] at w;exact w.elim
     | some total =>
      rw[et] at w;have hD0:H Da=none:=s1.same.free hDa;have hF1:F1 Da=none:=s1.sub.free hDa;have R0:=uC aD tgN.length RS;refine ⟨λi m ys H'=>m=ds.length-i/\i<=ds.length/\H' Da=some (.lst ys)/\∃ F' zs,aK F H F' H'/\aH F1 F'/\F' Da=none/\aB X.K F' zs ys/\zs.length<=i /\
       ∃ aY,cP (aJ t) gt ge (cH aD ρ++List.replicate tgN.length none) (ds.drop i)=some aY/\total=zs++aY,
       ⟨ds.length,by simp,aQP _,bN,F1,[],s1.upd hD0 hF1,aH.refl _,hF1,aB.nil,aPC _,total,by simpa using et,rfl⟩,?_⟩
      rintro i m ys H' ⟨rfl,hile,hD,F',zs,st,sF,hFD,rz,hzl,aY,ec,etot⟩;refine ⟨hD,?_⟩;by_cases hlt:i<ds.length
      . refine .inr ⟨hJ.go i H' (sF.trans st.sub) hlt,by rw[rz.length];omega,λv H2 y=>?_⟩
        obtain ⟨F2,d,ed,s2,rd⟩:=hJ.yld i F' H' v H2 sF st.sub hlt y;have hd:ds.drop i=d::ds.drop (i+1):=by rw[aRA hlt];rw[aQ5 hlt] at ed;cases ed;rfl
        rw[hd] at ec;unfold cP at ec;have hD2:H2 Da=some (.lst ys):=s2.same _ _ hD;have hF2:F2 Da=none:=s2.new _ hFD (by rw[hD];exact λz=>nomatch z)
        cases eg:aJ t d (cH aD ρ++List.replicate tgN.length none) with
        | none=>rw[eg] at ec;cases ec
        | some ρ1 =>
        rw[eg] at ec;dsimp only at ec;have R2:=(R0.step st).step s2;refine kZ t R2 rd eg λσ1 R1 len1 keep1=>?_;refine ⟨⟨len1.symm,λj u ej=>?_⟩,ρ1,F2,R1,?_⟩
        . by_cases hj:j∈dL t
          . have:=hsl j hj;rw[aPO (by simpa[cC] using this),aPP] at ej
            split at ej <;> cases ej
          . rw[keep1 j hj];exact ej
        cases ett:gt ρ1 with
        | stuck=>rw[ett] at ec;cases ec
        | exc c=>rw[ett] at ec;cases ec
        | ok mt dt =>
         cases dt with
         | bl b =>
          rw[ett] at ec;intro F3 H3 s3;have hD3:H3 Da=some (.lst ys):=s3.same _ _ hD2;have hF3:F3 Da=none:=s3.new _ hF2 (by rw[hD2];exact λz=>nomatch z)
          cases b with
          | false=>rw[if_neg aO9];exact ⟨ds.length-(i+1),by omega,rfl,hlt,hD3,F3,zs,(st.trans s2).trans s3,(sF.trans s2.fsame).trans s3.fsame,hF3,rz.mono (s2.fsame.trans s3.fsame) _ _,Nat.le_succ_of_le hzl,aY,ec,etot⟩
          | true =>
           rw[if_pos rfl,aV];refine ⟨_,F3,R1.step s3,?_⟩;dsimp only at ec;cases ee:a8 (ge ρ1) with
           | stuck=>rw[ee] at ec;cases ec
           | exc c=>rw[ee] at ec;cases ec
           | ok me ye =>
            rw[ee] at ec;dsimp only at ec;have hme:me=.fz:=by
             cases h:ge ρ1 with
             | ok m' d'=>rw[h] at ee;cases m' <;> cases ee <;> rfl
             | exc c=>rw[h] at ee;cases ee
             | stuck=>rw[h] at ee;cases ee
            subst hme;cases er2:cP (aJ t) gt ge (cH aD ρ++List.replicate tgN.length none) (ds.drop (i+1)) with
            | none=>rw[er2] at ec;cases ec
            | some rest' =>
             rw[er2] at ec;cases ec;intro u F4 H4 s4 ru _;have hD4:H4 Da=some (.lst ys):=s4.same _ _ hD3;have hF4:F4 Da=none:=s4.new _ hF3 (by rw[hD3];exact λz=>nomatch z)
             refine ⟨hD4,ds.length-(i+1),by omega,rfl,hlt,bN,F4,zs++[ye],(((st.trans s2).trans s3).trans s4).upd hD0 hF4,((sF.trans s2.fsame).trans s3.fsame).trans s4.fsame,hF4,?_,by simp;omega,rest',er2,by rw[etot];simp⟩
             exact aB.append (rz.mono ((s2.fsame.trans s3.fsame).trans s4.fsame) _ _) (aB.cons ru aB.nil)
         | _=>rw[ett] at ec;cases ec
      . have ei:i=ds.length:=by omega
        subst ei;rw[aRB] at ec;cases ec;rw[aPJ] at etot;subst etot;exact .inl ⟨hJ.stop _ H' (sF.trans st.sub) (aPC _),w (.ref Da) F' H' st ⟨Da,rfl,hFD,ys,hD,rz⟩ λ_ a ea=>by cases ea;exact hD0⟩
   . exact w.elim
  | _=>exact w.elim
theorem aGG{aI elt tg:Expr}{t:Tg}{tgN:List Str}{ifs:List Expr}{scope:Scope}{aD:List Nat}{aE:List Str}{gi gt ge:Rho->Res}(hc:X.calm=true)(hi:PIv C X tg aI gi)(bW:∀ y∈scope.names,y.2 ≠ .cell)(bX:scope.kind=.function)(cY:∀ y∈scope.names,y.2=.local->scope.names.lookup y.1=some .local)(b0:∀ y∈scope.names,y.2=.free->X.env.kindOf y.1=some .cell\/X.env.kindOf y.1=some .free)(cG:aE.map some=aD.map λi=>X.N[i]?)(c7:∀ y∈aE,(y,NameKind.free)∈scope.names)(cZ:∀ y∈aE,(relabel scope X.env).names.lookup y=some .cell\/(relabel scope X.env).names.lookup y=some .free)(hsl:∀ j∈dL t,aD.length<=j)(hg:∀ cl A fp s3 H3,PGw (aQ X scope (aE++tgN) cl A fp s3 H3) tg t)(hf:∀ cl A fp s3 H3,cO (aQ X scope (aE++tgN) cl A fp s3 H3) ifs (tT (C.nox.at X) gt))(he:∀ cl A fp s3 H3,PV C.nox (aQ X scope (aE++tgN) cl A fp s3 H3) elt ge)(hs:∀ x,foldedSetIterable aI X.env x=pure x:=by intro _;rfl):PV C X (.ListComp elt [⟨tg,aI,ifs,0⟩] scope pos) (λρ=>dY (gi ρ) ρ aD tgN.length (aJ t) gt ge):=by
 have capLen:aE.length=aD.length:=by simpa using congrArg List.length cG
 refine PE.imp (aFA (aE:=aE) (tgN:=tgN) (gt:=gOf X.K t) (tt:=tT (C.nox.at X) gt) (te:=tG (C.nox.at X) λρ=>a8 (ge ρ)) hc hi bW bX cY b0 cG c7 cZ
  hg hf (λcl A fp s3 H3=>fK (he cl A fp s3 H3)) hs) λσ H Q q=>uR hsl q
theorem aGH(fz:Bool){i:Nat}{x:Str}{pos' spos:Pos}{aI elt tg:Expr}{t:Tg}{tgN:List Str}{ifs:List Expr}{scope:Scope}{aD:List Nat}{aE:List Str}{gi gt ge:Rho->Res}(hc:X.calm=true)(hi:PIv C X tg aI gi)(bW:∀ y∈scope.names,y.2 ≠ .cell)(bX:scope.kind=.function)(cY:∀ y∈scope.names,y.2=.local->scope.names.lookup y.1=some .local)(b0:∀ y∈scope.names,y.2=.free->X.env.kindOf y.1=some .cell\/X.env.kindOf y.1=some .free)(cG:aE.map some=aD.map λi=>X.N[i]?)(c7:∀ y∈aE,(y,NameKind.free)∈scope.names)(cZ:∀ y∈aE,(relabel scope X.env).names.lookup y=some .cell\/(relabel scope X.env).names.lookup y=some .free)(hsl:∀ j∈dL t,aD.length<=j)(hg:∀ cl A fp s3 H3,PGw (aQ X scope (aE++tgN) cl A fp s3 H3) tg t)(hf:∀ cl A fp s3 H3,cO (aQ X scope (aE++tgN) cl A fp s3 H3) ifs (tT (C.nox.at X) gt))(he:∀ cl A fp s3 H3,PV C.nox (aQ X scope (aE++tgN) cl A fp s3 H3) elt ge)(hN:X.N.Nodup)(hx:X.N[i]? = some x)(hk:X.env.scope.names.lookup x=some .local)(hsw:swapsWith (.ListComp elt [⟨tg,aI,ifs,0⟩] scope pos) (some (.Name x pos')) spos.line X.env=pure true)(hs:∀ x,foldedSetIterable aI X.env x=pure x:=by intro _;rfl):PSv C X (.Assign [.Name x pos'] (.ListComp elt [⟨tg,aI,ifs,0⟩] scope pos) spos) (λρ=>dX ρ i (if fz=true then a8 (dY (gi ρ) ρ aD tgN.length (aJ t) gt ge) else dY (gi ρ) ρ aD tgN.length (aJ t) gt ge)):=by
 refine PS.imp (aFB (aE:=aE) (tgN:=tgN) (gt:=gOf X.K t) (tt:=tT (C.nox.at X) gt) (te:=tG (C.nox.at X) λρ=>a8 (ge ρ)) hc hi bW bX cY b0 cG c7 cZ
  hg hf (λcl A fp s3 H3=>fK (he cl A fp s3 H3)) hN hx hk hsw hs) λE σ H q=>uR hsl ?_
 cases fz with
 | false=>exact kU q
 | true=>have q:=kU q;unfold hZ at q;rw[aV] at q ⊢;obtain ⟨ρ,F,R,w⟩:=q;exact ⟨ρ,F,R,aS.frz w⟩
end
def qB:D->Option Str
 | .str z=>some z
 | .int i=>if m9 i=true then some (jF i) else none
 | _=>none
def nF(r:Res):Res:=r.thn λ_ d=>match qB d with | some z=>.ok .fz (.str z) | none=>.stuck
section
variable {C:Cw}{X:Cx}{e:Expr}{g:Rho->Res}{pos p:Pos}
theorem aGI(he:PV C X e g):PV C X (.FormattedValue e (-1) none pos) (λρ=>nF (g ρ)):=by
 intro aA s σ H Q I q;rw[aV] at q;obtain ⟨ρ,F,R,w⟩:=q;refine FormattedValue_plain (thn (he aA s σ H (λv H1=>∃ F1 m d,aK F H F1 H1/\Rp X.K F1 H1 m d v/\g ρ=.ok m d) I ?_) λu s1 ⟨v,H1,I1,rv,F1,m,d,st1,rp,eg⟩=>?_)
 . rw[aV];refine ⟨ρ,F,R,?_⟩;cases er:g ρ with
   | stuck=>rw[er] at w;exact w
   | exc c=>rw[er] at w;exact w
   | ok m d=>exact λv F1 H1 s1 r1 _=>⟨F1,m,d,s1,r1,rfl⟩
 . rw[eg] at w;have w1:aS (C.at X) F1 H1 σ (match qB d with | some z=>.ok .fz (.str z) | none=>.stuck) Q:=aS.step st1 w
   cases d with
   | str z=>obtain ⟨rfl,hz,hk⟩:=rp.str;obtain ⟨t,rfl⟩:=rv;exact formatField_str (λt' tk=>⟨.str z,H1,I1.tok _,⟨_,rfl⟩,w1 _ F1 H1 (.refl st1.sub) (fA ⟨hz,hk⟩) (by intro z;cases z)⟩) hz
   | int i =>
    cases rp.int;obtain ⟨t,rfl⟩:=rv;unfold qB at w1;dsimp only at w1;split at w1
    . rename_i z hz;split at hz
      . rename_i hs;cases hz;have hl:i.natAbs.log2<1920:=aQR hs;have h1:(jF i).length<=1921:=int_text_len_1921 hl;have hzz:sizeLine=16777216:=aPH;exact formatField_int_small hl ⟨.str (jF i),H1,I1.tok _,⟨_,rfl⟩,w1 _ F1 H1 (.refl st1.sub) (fA ⟨by omega,uQ i⟩) (by intro z;cases z)⟩
      . cases hz
    . exact w1.elim
   | _=>exact w1.elim
end
def d5(out:Str):List (Rho->Res)->Rho->Res
 | [],_=>if out.length<=sizeLine then .ok .fz (.str out) else .stuck
 | g::gs,ρ=>(g ρ).thn λ_ d=>match d with
  | .str y=>if (out++y).length<=sizeLine then d5 (out++y) gs ρ else .stuck
  | _=>.stuck
inductive PVL(C:Cw)(X:Cx):List Expr->List (Rho->Res)->Prop where
 | nil:PVL C X [] []
 | cons {e:Expr} {g:Rho->Res} {es:List Expr} {gs:List (Rho->Res)} (h:PV C X e g) (r:PVL C X es gs):PVL C X (e::es) (g::gs)
theorem uS{C:Cw}{X:Cx}:∀ {es:List Expr} {gs:List (Rho->Res)},PVL C X es gs->∀ (out:Str) (aA:LAO) (s:Shared) (σ:L2.St) (H F:Hp) (ρ:Rho) (Q:VK),PyData.strOk out=true->Inv X aA σ H s->aR X.K C.F0 C.H0 F H σ ρ->aS (C.at X) F H σ (d5 out gs ρ) Q->wpAny (model X.prog X.w) X.A (joinParts out (evalEach es X.env)) (EP X aA σ Q) X.xe s
 | _,_,.nil,out,aA,s,σ,H,F,ρ,Q,hk,I,R,w=>by
  unfold d5 at w;split at w
  . rename_i hl;exact joinParts_nil ⟨.str out,H,I.tok _,⟨_,rfl⟩,w _ F H (.refl R.sub) (fA ⟨hl,hk⟩) (by intro z;cases z)⟩ hl
  . exact w.elim
 | _,_,.cons (e:=e) (g:=g) (gs:=gs) h r,out,aA,s,σ,H,F,ρ,Q,hk,I,R,w=>by
  refine joinParts_cons (thn (h aA s σ H (λv H1=>∃ F1 m d,aK F H F1 H1/\Rp X.K F1 H1 m d v/\g ρ=.ok m d) I ?_) λu s1 ⟨v,H1,I1,rv,F1,m,d,st1,rp,eg⟩=>?_)
  . rw[aV];refine ⟨ρ,F,R,?_⟩;unfold d5 at w;cases er:g ρ with
    | stuck=>rw[er] at w;exact w
    | exc c=>rw[er] at w;exact w
    | ok m d=>exact λv F1 H1 s1 r1 _=>⟨F1,m,d,s1,r1,rfl⟩
  . unfold d5 at w;rw[eg] at w;cases d with
    | str y =>
     have w1:aS (C.at X) F1 H1 σ (if (out++y).length<=sizeLine then d5 (out++y) gs ρ else .stuck) Q:=aS.step st1 w;split at w1
     . rename_i hl;obtain ⟨rfl,hz,hy⟩:=rp.str;obtain ⟨t,rfl⟩:=rv;exact ⟨hl,uS r (out++y) aA s1 σ H1 F1 ρ Q (tP hk hy) I1 (R.step st1) w1⟩
     . exact w1.elim
    | _=>exact (show False from w).elim
theorem aGJ{C:Cw}{X:Cx}{e1 e2:Expr}{es:List Expr}{gs:List (Rho->Res)}{pos:Pos}(h:PVL C X (e1::e2::es) gs):PV C X (.JoinedStr (e1::e2::es) pos) (d5 Str.empty gs):=by intro aA s σ H Q I q;rw[aV] at q;obtain ⟨ρ,F,R,w⟩:=q;exact JoinedStr_many (uS h Str.empty aA s σ H F ρ Q (by decide +kernel) I R w)
section
open PySem.SeqAt
open PySem.AutoSeq1 (wpAny_loadPart')
open PySem.MeetsSeq PySem.MeetsSeq2 PySem.MeetsSeq3
end
section
variable {prog:Program}{w:World}{A:Around}{E:VSP}{s:Shared}
end
section
variable {C:Cw}{X:Cx}
def jG:List (Md×D)->Option (Md×D):=λxs=>match xs with
 | [(_,.str z)]=>if z.length<=640 then (PySem.intText? z).map λn=>(.fz,.int n) else none
 | _=>pX xs
theorem aGK:dW X (.type "int") jG:=by
 obtain ⟨r,h1,h2⟩:=aFZ (X:=X);refine ⟨λxs H Q=>r xs H Q\/∃ z n,xs=[.str z]/\z.length<=640/\PySem.intText? z=some n/\Q (.int n) H,?_,λF H xs vs k d Q s rx e w=>?_⟩
 . intro aA s σ H xs us Q I rr h;rcases h with h | ⟨z,n,rfl,hl,hn,q⟩
   . exact h1 aA s σ H xs us Q I rr h
   . obtain ⟨u,rfl,t,rfl⟩:=fU rr;exact PySem.W.KIN.call_text hn hl ⟨.int n,H,I.tok _,⟨_,rfl⟩,q⟩
 . unfold jG at e;split at e
   . rename_i m z;split at e
     . rename_i hl;cases en:PySem.intText? z with
       | none=>rw[en] at e;cases e
       | some n=>rw[en] at e;cases e;obtain ⟨v,rfl,r0⟩:=rx.one;obtain ⟨rfl,_⟩:=r0.str;exact .inr ⟨z,n,rfl,hl,en,w _ F H (.refl s) (cL _) (by intro z;cases z)⟩
     . cases e
   . exact .inl (h2 F H xs vs k d Q s rx e w)
def nG:Md->D->Md->D->Option (Md×D):=λ_ x _ y=>match x,y with
 | .str z,.int n=>if (decide (n<1)&&decide (-1000<=n))=true then some (.fz,.str Str.empty) else none
 | _,_=>none
theorem aGL:OpD C X (binaryOp .Mult) nG:=by
 refine ⟨λx y H Q=>∃ z n,x=.str z/\y=.int n/\n<1 /\ -1000<=n/\Q (.str Str.empty) H,?_,?_⟩
 . intro aA s σ H x y v u Q I rx ry h;obtain ⟨z,n,rfl,rfl,h1,h2,q⟩:=h;obtain ⟨t,rfl⟩:=rx;obtain ⟨t',rfl⟩:=ry;exact PySem.P.mul_str_none h1 (by omega) ⟨.str Str.empty,H,I.tok _,⟨_,rfl⟩,q⟩
 . intro F H m x n y v u k d Q s rx ry e w;unfold nG at e;split at e
   . rename_i z i;obtain ⟨rfl,hz,hk⟩:=rx.str;cases ry.int;split at e
     . rename_i hc;simp only[aQB,aQQ] at hc;cases e;exact ⟨z,i,rfl,rfl,hc.1,hc.2,w _ F H (.refl s) (fA ⟨by decide +kernel,by decide +kernel⟩) (by intro z;cases z)⟩
     . cases e
   . cases e
end
section
open PySem.SeqAt
open PySem.AutoSeq1 (wpAny_loadPart')
open PySem.MeetsSeq PySem.MeetsSeq2 PySem.MeetsSeq3
variable {prog:Program}{w:World}{A:Around}{E:VSP}{s:Shared}
theorem iH{it t:Addr}{i:Nat}{xs:Array Value}{x:Value}{Q:VSP}(hi:s.heap.IsTupleIter it t i)(ht:IsTup s.heap t xs)(hx:xs[i]? = some x)(q:∀ h',h'.IsTupleIter it t (i+1)->Heap.SameBut it s.heap h'->Q x { s with heap:=h' }):wpAny (model prog w) A (Builtin.SmallTypes.nextOf (.ref it)) Q E s:=by
 have ty:=hi.typeIs;obtain ⟨o,ho,hc,hd⟩:=hi;obtain ⟨p,hp,_,n,hs⟩:=ht
 delta Builtin.SmallTypes.nextOf
 apply aO3;apply aP7 (name:=Str.ofString "__next__") ty aRQ;refine aP9 aRQ ty aRR ?w (aRS _)
 case w =>
  refine aO3 (m:=field (.ref it) 0) (aP4 ho hd (x:=.ref t) rfl ?_);rw[show (Value.ref t==Value.none)=false from rfl,if_neg aO9]
  refine aO3 (m:=field (.ref it) 1) (aP4 ho hd (x:=.int i 0) rfl ?_);apply aO3;apply aRT hp hs;rw[aP1];simp only[hx];apply aO3;apply aRU ho hd (by simp)
  refine aO5 ⟨x,rfl,aO5 (q _ ⟨_,Heap.get?_update_self _ ho (Obj.isFreed_of_fields (aRV hd _)),?_,?_⟩ (Heap.SameBut.update ..))⟩
  . rw[Obj.cls_mapFields,hc]
  . rw[aRV hd];simp[rawInt]
theorem jH{it t:Addr}{i:Nat}{xs:Array Value}{Q:VSP}(h0:A.handled=none)(hi:s.heap.IsTupleIter it t i)(ht:IsTup s.heap t xs)(hx:xs[i]? = none)(q:∀ h' e,Heap.ExtBut it s.heap h'->(∃ o,h'.get? e=some o/\o.cls=.type "StopIteration")->E (.ref e) { s with heap:=h' }):wpAny (model prog w) A (Builtin.SmallTypes.nextOf (.ref it)) Q E s:=by
 have ty:=hi.typeIs;obtain ⟨o,ho,hc,hd⟩:=hi;obtain ⟨p,hp,_,n,hs⟩:=ht
 delta Builtin.SmallTypes.nextOf
 apply aO3;apply aP7 (name:=Str.ofString "__next__") ty aRQ;refine aP9 aRQ ty aRR ?w (aRS _)
 case w =>
  refine aO3 (m:=field (.ref it) 0) (aP4 ho hd (x:=.ref t) rfl ?_);rw[show (Value.ref t==Value.none)=false from rfl,if_neg aO9]
  refine aO3 (m:=field (.ref it) 1) (aP4 ho hd (x:=.int i 0) rfl ?_);apply aO3;apply aRT hp hs;rw[aP1];simp only[hx];apply aO3;apply aO7;apply aO3;apply aRU ho hd (by simp)
  refine aO3 (m:=newExc (.type "StopIteration") []) ?_;simp only[newExc,newTuple];apply aO3;refine aO6 ?_ (by size_fits)
  apply aO3 (m:=firstArgMember _ _);refine aRW (a:=.none) ?_ ?_
  . first | rfl | (unfold firstArgMember;rfl)
  refine aO6 (hd:=by size_fits) ?_
  simp only[raiseNew];apply aO3;apply wpAny_handled
  first | rw[show A.in1.handled=none from h0] | rw[h0]
  refine wpAny_throw ?_;exact q _ _ ((Heap.SameBut.extBut (Heap.SameBut.update ..)).push _ |>.push _) ⟨_,aOG _ rfl,rfl⟩
theorem cQ{h h':Heap}{a:Addr}{xs:Array Value}(x:IsTup h a xs)(k:∀ o,h.get? a=some o->h'.get? a=some o):IsTup h' a xs:=by obtain ⟨o,ho,r⟩:=x;exact ⟨o,k o ho,r⟩
theorem aGM{z TI TO i j l m:Addr}{ki kj:Nat}{xs ys:Array Value}{x y a b:Value}{Q:VSP}(D:ZipApart z TI TO i j l m)(hz:IsZip s.heap z TI TO .none)(hI:IsPair s.heap TI (.ref i) (.ref j))(hO:IsPair s.heap TO a b)(hi:s.heap.IsTupleIter i l ki)(hj:s.heap.IsTupleIter j m kj)(hl:IsTup s.heap l xs)(hm:IsTup s.heap m ys)(hx:xs[ki]? = some x)(hy:ys[kj]? = some y)(q:∀ h',IsZip h' z TI TO (rawInt s.heap.objs.size)->IsPair h' TO x y->h'.IsTupleIter i l (ki+1)->h'.IsTupleIter j m (kj+1)->IsPair h' s.heap.objs.size x y->h'.objs.size=s.heap.objs.size+1->(∀ c o,c≠z->c≠TO->c≠i->c≠j->s.heap.get? c=some o->h'.get? c=some o)->Q (.ref s.heap.objs.size) { s with heap:=h' }):wpAny (model prog w) A (Builtin.«zip.__next__» ⟨[.ref z],[]⟩) (λf s'=>∃ v,f=.done (.ret v)/\Q v s') E s:=by
 refine aO3 (m:=field (.ref z) 2) (aP4 hz rfl (x:=.bool false) rfl ?_);refine aO3 (m:=field (.ref z) 3) (aP4 hz rfl (x:=.ref TI) rfl ?_);apply aO3;apply aRT hI rfl;refine aO3 (m:=Builtin.SmallTypes.ownedTupleIsFree (.ref z)) ?_
 delta Builtin.SmallTypes.ownedTupleIsFree
 apply aO3;refine aP4 hz rfl (x:=.none) rfl ?_;apply aO5;simp only[aP3];apply aO3;apply aO7;apply aO3;refine aP4 hz rfl (x:=.ref TO) rfl ?_;apply aO3;refine aRX hz (by simp) λH1 z1 s1=>?_
 have z1:IsZip H1 z TI TO .ellipsis:=z1;apply aO3;simp only[List.zipIdx_cons,List.zipIdx_nil,aRD,aRC];apply aO3;apply aO3;apply aRY;refine aO3 (m:=Builtin.SmallTypes.nextOf (.ref i)) ?_;refine iH (hi.extBut s1.extBut D.i1z) (cQ hl λo e=>s1.extBut _ o D.l1z e) hx λH2 i2 s2=>?_;apply aO5;have o2:IsPair H2 TO a b:=s2.extBut _ _ D.TOi1 (s1.extBut _ _ D.TOz hO);apply aO3;apply aRT o2 rfl;apply aO3;refine aRZ o2 λH3 o3 s3=>?_;have o3:IsPair H3 TO x b:=o3;apply aO3;apply wpAny_letGo;apply aO5;apply aO3;apply aO3;apply aRY;refine aO3 (m:=Builtin.SmallTypes.nextOf (.ref j)) ?_;have j3:H3.IsTupleIter j m kj:=((hj.extBut s1.extBut D.i2z).extBut s2.extBut D.i12.symm).extBut s3.extBut D.TOi2.symm;have m3:IsTup H3 m ys:=cQ hm λo e=>s3.extBut _ o D.l2TO (s2.extBut _ o D.l2i1 (s1.extBut _ o D.l2z e));refine iH j3 m3 hy λH4 j4 s4=>?_;apply aO5;have o4:IsPair H4 TO x b:=s4.extBut _ _ D.TOi2 o3;apply aO3;apply aRT o4 rfl;apply aO3;refine aRZ o4 λH5 o5 s5=>?_;have o5:IsPair H5 TO x y:=o5;apply aO3;apply wpAny_letGo;refine aO5 (aO5 ?_);apply aO3;apply aRT o5 rfl;apply aO3;refine wpAny_newTuple ?_;have sz:H5.objs.size=s.heap.objs.size:=by rw[s5.1,s4.1,s3.1,s2.1,s1.1]
 have z5:IsZip H5 z TI TO .ellipsis:=s5.extBut _ _ D.TOz.symm (s4.extBut _ _ D.i2z.symm (s3.extBut _ _ D.TOz.symm (s2.extBut _ _ D.i1z.symm z1)));have k5:∀ c o,c≠z->c≠TO->c≠i->c≠j->s.heap.get? c=some o->H5.get? c=some o:=λc o c1 c2 c3 c4 e =>
  s5.extBut _ _ c2 (s4.extBut _ _ c4 (s3.extBut _ _ c2 (s2.extBut _ _ c3 (s1.extBut _ _ c1 e))))
 have i5:H5.IsTupleIter i l (ki+1):=((i2.extBut s3.extBut D.TOi1.symm).extBut s4.extBut D.i12).extBut s5.extBut D.TOi1.symm;have j5:H5.IsTupleIter j m (kj+1):=j4.extBut s5.extBut D.TOi2.symm;have zl:z<H5.objs.size:=aOH z5;refine aO3 (m:=Builtin.SmallTypes.ownedTupleHandOut (.ref z) (.ref H5.objs.size)) ?_
 delta Builtin.SmallTypes.ownedTupleHandOut
 have z6:IsZip (H5.push { cls:=.type "tuple", data:=.seq #[x,y] }) z TI TO .ellipsis:=hps z5;apply aO3;refine aRX z6 (by simp) λH7 z7 s7=>?_
 have z7:IsZip H7 z TI TO (rawInt H5.objs.size):=z7;refine aRX z7 (by simp) λH8 z8 s8=>?_
 have z8:IsZip H8 z TI TO (rawInt H5.objs.size):=z8;have up:∀ c o,c≠z->H5.get? c=some o->H8.get? c=some o:=λc o c1 e=>s8.extBut _ _ c1 (s7.extBut _ _ c1 (hps e));have t8:IsPair H8 H5.objs.size x y:=s8.extBut _ _ (aPA zl) (s7.extBut _ _ (aPA zl) (aOG _ rfl));have n8:H8.objs.size=H5.objs.size+1:=by rw[s8.1,s7.1,aRI]
 rw[sz] at z8 t8 n8;apply aO5;refine ⟨_,rfl,?_⟩;show Q (.ref H5.objs.size) _;rw[sz];exact q H8 z8 (up _ _ D.TOz o5) (i5.at λo e=>up _ o D.i1z e) (j5.at λo e=>up _ o D.i2z e) t8 n8 λc o c1 c2 c3 c4 e=>up c o c1 (k5 c o c1 c2 c3 c4 e)
theorem aGN{z TI TO i j l m:Addr}{ki kj:Nat}{xs ys:Array Value}{a b:Value}{Q:Fin->Shared->Prop}(h0:A.handled=none)(D:ZipApart z TI TO i j l m)(hz:IsZip s.heap z TI TO .none)(hI:IsPair s.heap TI (.ref i) (.ref j))(hO:IsPair s.heap TO a b)(hi:s.heap.IsTupleIter i l ki)(hj:s.heap.IsTupleIter j m kj)(hl:IsTup s.heap l xs)(hm:IsTup s.heap m ys)(hn:xs[ki]? = none\/ys[kj]? = none)(q:∀ h' e,(∀ c o,c≠z->c≠TO->c≠i->c≠j->s.heap.get? c=some o->h'.get? c=some o)->(∃ o,h'.get? e=some o/\o.cls=.type "StopIteration")->E (.ref e) { s with heap:=h' }):wpAny (model prog w) A (Builtin.«zip.__next__» ⟨[.ref z],[]⟩) Q E s:=by
 refine aO3 (m:=field (.ref z) 2) (aP4 hz rfl (x:=.bool false) rfl ?_);refine aO3 (m:=field (.ref z) 3) (aP4 hz rfl (x:=.ref TI) rfl ?_);apply aO3;apply aRT hI rfl;refine aO3 (m:=Builtin.SmallTypes.ownedTupleIsFree (.ref z)) ?_
 delta Builtin.SmallTypes.ownedTupleIsFree
 apply aO3;refine aP4 hz rfl (x:=.none) rfl ?_;apply aO5;simp only[aP3];apply aO3;apply aO7;apply aO3;refine aP4 hz rfl (x:=.ref TO) rfl ?_;apply aO3;refine aRX hz (by simp) λH1 z1 s1=>?_
 have z1:IsZip H1 z TI TO .ellipsis:=z1;apply aO3;simp only[List.zipIdx_cons,List.zipIdx_nil,aRD,aRC];apply aO3;apply aO3;apply aRY;refine aO3 (m:=Builtin.SmallTypes.nextOf (.ref i)) ?_;have i1:=hi.extBut s1.extBut D.i1z;have l1:IsTup H1 l xs:=cQ hl λo e=>s1.extBut _ o D.l1z e;cases hx:xs[ki]? with
 | none =>
  refine jH h0 i1 l1 hx λH2 e s2 he=>?_;obtain ⟨oe,g,c⟩:=he;have z2:IsZip H2 z TI TO .ellipsis:=s2 _ _ D.i1z.symm z1;have ez:e≠z:=by rintro rfl;rw[z2] at g;cases g;simp at c
  refine aRX z2 (by simp) λH3 _ s3=>?_
  exact q H3 e (λc o c1 _ c3 _ x=>s3.extBut _ _ c1 (s2 _ _ c3 (s1.extBut _ _ c1 x))) ⟨oe,s3.extBut _ _ ez g,c⟩
 | some x =>
  have hy:ys[kj]? = none:=by
   rcases hn with h | h
   . rw[hx] at h;cases h
   . exact h
  refine iH i1 l1 hx λH2 i2 s2=>?_;apply aO5;have o2:IsPair H2 TO a b:=s2.extBut _ _ D.TOi1 (s1.extBut _ _ D.TOz hO);apply aO3;apply aRT o2 rfl;apply aO3;refine aRZ o2 λH3 o3 s3=>?_;apply aO3;apply wpAny_letGo;apply aO5;apply aO3;apply aO3;apply aRY;refine aO3 (m:=Builtin.SmallTypes.nextOf (.ref j)) ?_;have j3:H3.IsTupleIter j m kj:=((hj.extBut s1.extBut D.i2z).extBut s2.extBut D.i12.symm).extBut s3.extBut D.TOi2.symm;have m3:IsTup H3 m ys:=cQ hm λo e=>s3.extBut _ o D.l2TO (s2.extBut _ o D.l2i1 (s1.extBut _ o D.l2z e));refine jH h0 j3 m3 hy λH4 e s4 he=>?_;obtain ⟨oe,g,c⟩:=he;have z4:IsZip H4 z TI TO .ellipsis:=s4 _ _ D.i2z.symm (s3.extBut _ _ D.TOz.symm (s2.extBut _ _ D.i1z.symm z1));have ez:e≠z:=by rintro rfl;rw[z4] at g;cases g;simp at c
  refine aRX z4 (by simp) λH5 _ s5=>?_
  exact q H5 e (λc o c1 c2 c3 c4 x=>s5.extBut _ _ c1 (s4 _ _ c4 (s3.extBut _ _ c2 (s2.extBut _ _ c3 (s1.extBut _ _ c1 x))))) ⟨oe,s5.extBut _ _ ez g,c⟩
theorem aGO{z TI TO i j l m:Addr}{ki kj:Nat}{xs ys:Array Value}{x y a b:Value}{Q:Option Value->Shared->Prop}(D:ZipApart z TI TO i j l m)(hz:IsZip s.heap z TI TO .none)(hI:IsPair s.heap TI (.ref i) (.ref j))(hO:IsPair s.heap TO a b)(hi:s.heap.IsTupleIter i l ki)(hj:s.heap.IsTupleIter j m kj)(hl:IsTup s.heap l xs)(hm:IsTup s.heap m ys)(hx:xs[ki]? = some x)(hy:ys[kj]? = some y)(q:∀ h',IsZip h' z TI TO (rawInt s.heap.objs.size)->IsPair h' TO x y->h'.IsTupleIter i l (ki+1)->h'.IsTupleIter j m (kj+1)->IsPair h' s.heap.objs.size x y->h'.objs.size=s.heap.objs.size+1->(∀ c o,c≠z->c≠TO->c≠i->c≠j->s.heap.get? c=some o->h'.get? c=some o)->Q (some (.ref s.heap.objs.size)) { s with heap:=h' }):wpAny (model prog w) A (pyNext (.ref z)) Q E s:=by
 have ty:s.TypeIs (.ref z) "zip" := ⟨_,hz,rfl⟩
 delta pyNext
 apply aO3;apply aR0;apply aP7 (name:=Str.ofString "__next__") ty aR1;refine aP9 aR1 ty aR2 ?w (aR3 _)
 case w=>exact aGM D hz hI hO hi hj hl hm hx hy λh' a1 a2 a3 a4 a5 a6 a7=>aO5 (q h' a1 a2 a3 a4 a5 a6 a7)
theorem aGP{z TI TO i j l m:Addr}{ki kj:Nat}{xs ys:Array Value}{a b:Value}{Q:Option Value->Shared->Prop}(h0:A.handled=none)(D:ZipApart z TI TO i j l m)(hz:IsZip s.heap z TI TO .none)(hI:IsPair s.heap TI (.ref i) (.ref j))(hO:IsPair s.heap TO a b)(hi:s.heap.IsTupleIter i l ki)(hj:s.heap.IsTupleIter j m kj)(hl:IsTup s.heap l xs)(hm:IsTup s.heap m ys)(hn:xs[ki]? = none\/ys[kj]? = none)(q:∀ h',(∀ c o,c≠z->c≠TO->c≠i->c≠j->s.heap.get? c=some o->h'.get? c=some o)->Q none { s with heap:=h' }):wpAny (model prog w) A (pyNext (.ref z)) Q E s:=by
 have ty:s.TypeIs (.ref z) "zip" := ⟨_,hz,rfl⟩
 delta pyNext
 apply aO3;apply aR0;apply aP7 (name:=Str.ofString "__next__") ty aR1;refine aP9 aR1 ty aR2 ?w (aR3 _)
 case w=>refine aGN h0 D hz hI hO hi hj hl hm hn λh' e k he=>?_;obtain ⟨o,g,c⟩:=he;apply aO3;refine aR4 (T := "StopIteration") (b:=true) ⟨o,g,c⟩ isSubtype_stop ?_;exact aO5 (q _ k)
def tIt(l:Addr):Obj:={ cls:=.type "tuple_iterator", data:=.fields #[.ref l,.int 0 0] }
def zp2(h:Heap)(l m:Addr):Heap:=(h.push (tIt l)).push (tIt m)
def zp3(h:Heap)(l m:Addr):Heap:=(zp2 h l m).push { cls:=.type "tuple", data:=.seq #[.ref h.objs.size,.ref (h.push (tIt l)).objs.size] }
def zp4(h:Heap)(l m:Addr):Heap:=(zp3 h l m).push { cls:=.type "tuple", data:=.seq #[.none,.none] }
def zp5(h:Heap)(l m:Addr):Heap:=(zp4 h l m).push { cls:=.type "zip", data:=.fields #[.none,.bool false,.bool false,.ref (zp2 h l m).objs.size,.ref (zp3 h l m).objs.size] }
theorem zs2(h:Heap)(l m:Addr):(zp2 h l m).objs.size=h.objs.size+2:=by unfold zp2;rw[aRI,aRI]
theorem zs3(h:Heap)(l m:Addr):(zp3 h l m).objs.size=h.objs.size+3:=by unfold zp3;rw[aRI,zs2]
theorem zs4(h:Heap)(l m:Addr):(zp4 h l m).objs.size=h.objs.size+4:=by unfold zp4;rw[aRI,zs3]
theorem zs5(h:Heap)(l m:Addr):(zp5 h l m).objs.size=h.objs.size+5:=by unfold zp5;rw[aRI,zs4]
theorem aGQ(l m:Addr)(xs ys:Array Value):Meets (Builtin.«zip.__new__» ⟨[.type "zip", .ref l,.ref m],[]⟩) (λ_ R s=>s.heap.IsTuple l xs/\s.heap.IsTuple m ys/\R (.ok (.ret (.ref (zp4 s.heap l m).objs.size))) { s with heap:=zp5 s.heap l m }) :=
 .of_wp λprog w A R s h=>by
  obtain ⟨hp,g,d,tk,os⟩:=s;obtain ⟨hl,hm,h⟩:=h;have f:=sub_zip;have e1:Heap.IsTuple (Shared.heap ⟨hp,g,d,tk,os⟩) l xs:=hl;have e2:Heap.IsTuple (Shared.heap ⟨hp.push { cls:=.type "tuple_iterator", data:=.fields #[.ref l,.int 0 0] },g,d,tk,os⟩) m ys:=Heap.IsTuple.push hm _
  wp_walk using aPD e1,aPD e2
  exact ⟨_,rfl,h⟩
theorem aGR{l m:Addr}{xs ys:Array Value}{Q:VSP}(hl:s.heap.IsTuple l xs)(hm:s.heap.IsTuple m ys)(q:∀ h',IsZip h' (s.heap.objs.size+4) (s.heap.objs.size+2) (s.heap.objs.size+3) .none->IsPair h' (s.heap.objs.size+2) (.ref s.heap.objs.size) (.ref (s.heap.objs.size+1))->IsPair h' (s.heap.objs.size+3) .none .none->h'.IsTupleIter s.heap.objs.size l 0->h'.IsTupleIter (s.heap.objs.size+1) m 0->h'.objs.size=s.heap.objs.size+5->(∀ c o,s.heap.get? c=some o->h'.get? c=some o)->Q (.ref (s.heap.objs.size+4)) { s with heap:=h' }):wpAny (model prog w) A (call (.type "zip") [.ref l,.ref m]) Q E s:=by
 have p4:∀ {c:Addr} {o:Obj},(zp4 s.heap l m).get? c=some o->(zp5 s.heap l m).get? c=some o:=λe=>hps e;have p3:∀ {c:Addr} {o:Obj},(zp3 s.heap l m).get? c=some o->(zp5 s.heap l m).get? c=some o:=λe=>p4 (hps e);have p2:∀ {c:Addr} {o:Obj},(zp2 s.heap l m).get? c=some o->(zp5 s.heap l m).get? c=some o:=λe=>p3 (hps e);have p1:∀ {c:Addr} {o:Obj},(s.heap.push (tIt l)).get? c=some o->(zp5 s.heap l m).get? c=some o:=λe=>p2 (hps e);have w1:(s.heap.push (tIt l)).objs.size=s.heap.objs.size+1:=aRI ..;have g5:(zp5 s.heap l m).get? (zp4 s.heap l m).objs.size=some _:=aOG _ rfl;have g4:(zp5 s.heap l m).get? (zp3 s.heap l m).objs.size=some _:=p4 (aOG _ rfl);have g3:(zp5 s.heap l m).get? (zp2 s.heap l m).objs.size=some _:=p3 (aOG _ rfl);have g2:(zp5 s.heap l m).get? (s.heap.push (tIt l)).objs.size=some (tIt m):=p2 (aOG _ rfl);have g1:(zp5 s.heap l m).get? s.heap.objs.size=some (tIt l):=p1 (aOG _ rfl);refine callType_new F.called_zip (by decide) (F.typeCall_zip_2 _ _) (F.newCall_zip_2 _ _) (λobj=>F.args_object_init_3 obj _ _) F.entry_zip_new (aGQ l m xs ys) ⟨hl,hm,?_⟩
 show _/\_;rw[zs2,zs3,zs4] at g5;rw[w1,zs2] at g3;rw[zs3] at g4;rw[w1] at g2;rw[zs4];refine ⟨⟨_,g5,rfl⟩,q _ g5 g3 g4 ⟨_,g1,rfl,rfl⟩ ⟨_,g2,rfl,rfl⟩ (zs5 ..) λc o x=>p1 (hps x)⟩
end
section
variable {X:Cx}{aA:LAO}{σ:L2.St}{H:Hp}{s:Shared}{h':Heap}
theorem aGS{t':Nat}{its:List Addr}{n:Addr}{xs:List V}(I:Inv X aA σ H s)(k:∀ b o,b∉its->s.heap.get? b=some o->h'.get? b=some o)(hf:∀ b∈its,d9 X aA H b)(hn:s.heap.objs.size<=n)(new:∃ us,aN xs us/\fF h' n us.toArray)(hz:xs.length<=sizeLine):Inv X aA σ (upd H n (.tup xs)) { s with heap:=h',toks:=t' }:=by
 have fr:H n=none:=I.hok.fresh hn;have lt:∀ {b o},s.heap.get? b=some o->b≠n:=λe z=>absurd (aOH e) (by rw[z];exact Nat.not_lt.mpr hn)
 have nb:∀ {b u},H b=some u->b≠n:=λe z=>by rw[z,fr] at e;cases e
 have ni:∀ {b u},H b=some u->b∉its:=λe z=>by rw[(hf _ z).1] at e;cases e
 refine I.call (g':=s.gens) (d':=s.drawn) (ch:=its) ⟨λb o e _ _ hx=>k b o hx e,λb o e _ _ hx=>⟨o.slots,k b o hx e⟩,λb o e h0 _=>by rw[aO (lt e)];exact h0,λb o e hx=>⟨o,k b o hx e⟩,
  λb u e=>by rw[aO (nb e)];exact e,λb u v e=>by rw[aO (nb e)];exact e,λb u e=>⟨#[],by rw[aO (nb e),e];simp⟩⟩ (λb u e=>?_) I.bare λb hb=>?_
 . by_cases hb:b=n
   . subst hb;rw[bN] at e;cases e;exact ⟨hz,new⟩
   . rw[aO hb] at e;refine (I.hok b u e).stay (λc v hc q=>k c v ?_ q) (λc q=>?_) λc v q=>?_
     . rcases hc with z | z
       . rw[z];exact ni e
       . exact ni z
     . rw[aO (nb q)];exact q
     . rw[aO (nb q)];exact q
 . obtain ⟨f0,f1,f2,f3,f4,f5⟩:=hf b hb;exact ⟨f3,f1,f4,f5⟩
theorem aGT{t':Nat}{its:List Addr}(I:Inv X aA σ H s)(k:∀ b o,b∉its->s.heap.get? b=some o->h'.get? b=some o)(hf:∀ b∈its,d9 X aA H b):Inv X aA σ H { s with heap:=h',toks:=t' }:=by
 have ni:∀ {b u},H b=some u->b∉its:=λe z=>by rw[(hf _ z).1] at e;cases e
 refine I.call (g':=s.gens) (d':=s.drawn) (ch:=its) ⟨λb o e _ _ hx=>k b o hx e,λb o e _ _ hx=>⟨o.slots,k b o hx e⟩,λb o e h0 _=>h0,λb o e hx=>⟨o,k b o hx e⟩,
  λb u e=>e,λb u v e=>e,λb u e=>⟨#[],by rw[e];simp⟩⟩ (λb u e=>?_) I.bare λb hb=>?_
 . refine (I.hok b u e).stay (λc v hc q=>k c v ?_ q) (λ_ q=>q) λ_ _ q=>q;rcases hc with z | z
   . rw[z];exact ni e
   . exact ni z
 . obtain ⟨f0,f1,f2,f3,f4,f5⟩:=hf b hb;exact ⟨f3,f1,f4,f5⟩
end
section
variable {C:Cw}{X:Cx}{tg e:Expr}{g:Rho->Res}{gs:Rho->aW}{pos p:Pos}
theorem aGU(n l m:Nat)(hl:l<n)(hm:m<n):ZipApart (n+4) (n+2) (n+3) n (n+1) l m:=by constructor <;> (refine λ(q:@Eq Nat _ _)=>?_;omega)
theorem aGV:bootBuiltins ("zip" : Str)=some (.type "zip"):=by first | rfl | decide +kernel | kernel_rfl
end
open PySem.AutoSeq1 (wpAny_loadPart')
theorem aGW{prog:Program}{w:World}{A:Around}(hh:A.handled=none)(it t:Addr)(hne:t≠it)(items:Array Value):Draws prog w A it [it,t] items.size (λi v=>items[i]? = some v) (λi h=>h.IsTupleIter it t i/\IsTup h t items) where
 live:=λ_ _ st=>let ⟨o,ho,_⟩:=st.1;⟨o,ho⟩
 frame:=λ_ _ _ st hk=>⟨st.1.at λo e=>hk it (by simp) o e,cQ st.2 λo e=>hk t (by simp) o e⟩
 item:=λi s Q E hi st hQ=>by
  refine iH st.1 st.2 (x:=items[i]) (by simp[hi]) λh' hit' hs'=>?_
  exact hQ _ h' s.toks (by simp[hi]) ⟨hit',cQ st.2 λo e=>hs'.extBut _ o hne e⟩ hs'
 done:=λs Q E st hE=>jH hh st.1 st.2 (by simp) hE
theorem aGX(l:Addr)(items:Array Value):Meets (Builtin.«enumerate.__new__» ⟨[.type "enumerate", .ref l],[]⟩) (λ_ R s=>s.heap.IsTuple l items/\R (.ok (.ret (.ref (s.heap.push { cls:=.type "tuple_iterator", data:=.fields #[.ref l,.int 0 0] }).objs.size))) { s with heap:=(s.heap.push { cls:=.type "tuple_iterator", data:=.fields #[.ref l,.int 0 0] }).push { cls:=.type "enumerate", data:=.fields #[.none,.bool false,.ref s.heap.objs.size,rawInt 0,.none,.none] } }) :=
 .of_wp λprog w A R s h=>by
  obtain ⟨hp,g,d,tk,os⟩:=s;obtain ⟨hL,h⟩:=h;have hsub:=sub_enumerate;have hL:Heap.IsTuple (Shared.heap ⟨hp,g,d,tk,os⟩) l items:=hL;obtain ⟨o,ho,hc,n,hd⟩:=id hL
  wp_walk using wpAny_loadPart' ho
  refine wpAny_stack_any λst=>aO5 ?_;split
  . rename_i c _ _ _ _ _;cases (c==Value.type "enumerate")
    . wp_walk using wpAny_loadPart' ho,aPD hL
      exact ⟨_,rfl,h⟩
    . wp_walk using wpAny_loadPart' ho,aPD hL
      exact ⟨_,rfl,h⟩
  . wp_walk using wpAny_loadPart' ho,aPD hL
    exact ⟨_,rfl,h⟩
section
variable {prog:Program}{w:World}{A:Around}{E:VSP}{s:Shared}
theorem aGY{a:Addr}{us:Array Value}{Q:VSP}(ha:s.heap.IsTuple a us)(q:∀ g,IsEnum g (s.heap.objs.size+1) s.heap.objs.size 0 .none->g.IsTupleIter s.heap.objs.size a 0->(∀ c u,s.heap.get? c=some u->g.get? c=some u)->Q (.ref (s.heap.objs.size+1)) { s with heap:=g }):wpAny (model prog w) A (call (.type "enumerate") [.ref a]) Q E s:=by
 let i0:Obj:={ cls:=.type "tuple_iterator", data:=.fields #[.ref a,.int 0 0] }
 let e0:Obj:={ cls:=.type "enumerate", data:=.fields #[.none,.bool false,.ref s.heap.objs.size,rawInt 0,.none,.none] }
 have z1:(s.heap.push i0).objs.size=s.heap.objs.size+1:=aRI ..;have g1:((s.heap.push i0).push e0).get? (s.heap.objs.size+1)=some e0:=by rw[<- z1];exact aOG _ rfl
 have g0:((s.heap.push i0).push e0).get? s.heap.objs.size=some i0:=hps (aOG _ rfl);have up:∀ c u,s.heap.get? c=some u->((s.heap.push i0).push e0).get? c=some u:=λc u z=>hps (hps z);have fin:(∃ o,((s.heap.push i0).push e0).get? (s.heap.objs.size+1)=some o/\o.cls=.type "enumerate")/\Q (.ref (s.heap.objs.size+1)) { s with heap:=(s.heap.push i0).push e0 }:=⟨⟨e0,g1,rfl⟩,q _ g1 ⟨i0,g0,rfl,rfl⟩ up⟩
 rw[<- z1] at fin;exact callType_new F.called_enumerate (by decide) (F.typeCall_enumerate_1 _) (F.newCall_enumerate_1 _) (λo=>F.args_object_init_2 o _) F.entry_enumerate_new (aGX a us) ⟨ha,fin⟩
end
def Ite(Sq:Hp->List V->Prop):It :=
 ⟨fun i H => ∃ xs x, Sq H xs ∧ xs[i]? = some x,
  λi H v H'=>∃ p x,v=.ref p/\H p=none/\H'=upd H p (.tup [.int i,x])/\∀ xs,Sq H xs->xs[i]? = some x,
  λi H=>∃ xs,Sq H xs/\xs.length<=i⟩
section
variable {P:Program}{w:World}{K:Fg}{elts:List Expr}{cx:Nat}{pos:Pos}
theorem uT{Sq:Hp->List V->Prop}(e it l:Addr)(hei:e≠it)(hel:e≠l)(hli:l≠it)(It':Nat->Heap->Prop)(At:Heap->Array Value->Prop)(live:∀ i h,It' i h->∃ o,h.get? it=some o/\∀ v,o.data ≠ .cell v)(keep:∀ i h h',It' i h->(∀ o,h.get? it=some o->h'.get? it=some o)->It' i h')(dr:∀ A:Around,A.handled=none->∀ items:Array Value,Draws P w A it [it,l] items.size (λi v=>items[i]? = some v) (λi h=>It' i h/\At h items))(dn:∀ (A:Around) (s:Shared) (items:Array Value) (k:Nat) (Q E:VSP),A.handled=none->It' k s.heap->At s.heap items->items[k]? = none->(∀ h' x,Heap.ExtBut it s.heap h'->(∃ o,h'.get? x=some o/\o.cls=.type "StopIteration")->E (.ref x) { s with heap:=h' })->wpAny (model P w) A (Builtin.SmallTypes.nextOf (.ref it)) Q E s)(look:∀ (X:Cx) (aA:LAO) (s:Shared) (σ:L2.St) (H:Hp) (xs:List V),X.prog=P->X.w=w->X.K=K->Inv X aA σ H s->Sq H xs->∃ us,aN xs us/\At s.heap us.toArray)(inj:∀ (X:Cx) (aA:LAO) (s:Shared) (σ:L2.St) (H:Hp) (xs ys:List V),X.prog=P->X.w=w->X.K=K->Inv X aA σ H s->Sq H xs->Sq H ys->ys=xs):gM P w K (.Tuple elts cx pos) (Ite Sq) [e,it] e (λk h=>(∃ old,IsEnum h e it k old)/\It' k h) where
 mem:=by simp
 obj:=λk h st b hb=>by
  obtain ⟨⟨old,he⟩,hi⟩:=st;simp only[aOR,aR5,aR6] at hb;rcases hb with rfl | rfl
  . exact ⟨_,he,λv e=>by cases e⟩
  . obtain ⟨o,e,d⟩:=live k h hi;exact ⟨o,e,d⟩
 keep:=λk h h' st q=>by obtain ⟨⟨old,he⟩,hi⟩:=st;exact ⟨⟨old,q e (by simp) _ he⟩,keep k h h' hi λo e=>q it (by simp) o e⟩
 item:=by
  intro X hP hw hK hc k aA s σ H E I hf st hg;obtain ⟨⟨old,he⟩,hi⟩:=st;obtain ⟨xs,x,ql,hx⟩:=hg;obtain ⟨us,r1,p1⟩:=look X aA s σ H xs hP hw hK I ql;obtain ⟨u,hu,ru⟩:=r1.get hx;have hlt:k<us.toArray.size:=by rw[aPI];exact (aOU.mp hu).1
  refine wpAny_pyNext_enum_itemD (dr X.A.in1 (I.ok.hd hc) us.toArray) he ⟨hi,p1⟩ hlt hei (by simp[hei,hel]) λx' h' tk hx' a1 a2 a3 a4 a5=>?_
  have:x'=u:=by rw[List.getElem?_toArray] at hx';rw[hu] at hx';exact (aOF hx').symm
  subst this;refine ⟨_,rfl,wpAny_letOwnedTupleGo_enum (s:={ s with heap:=h',toks:=tk+1 }) a1 λh2 b1 b2=>?_⟩
  have en:s.heap.objs.size≠e:=λq=>absurd (aOH he) (by rw[<- q];exact aOJ _)
  have up:∀ b o,b∉[e,it]->s.heap.get? b=some o->h2.get? b=some o:=λb o hb z=>by simp only[aOR,aR5,aR6,not_or] at hb;exact b2.extBut _ _ hb.1 (a5 b o hb.1 hb.2 z)
  have I2:=aGS (t':=tk+1) (xs:=[.int k,x]) I up hf (aPC _) ⟨[.int k tk,x'],.cons ⟨tk,rfl⟩ (.cons ru .nil),⟨_,b2.extBut _ _ en a3,rfl,rfl,_,rfl⟩⟩ (show 2<=sizeLine by decide +kernel)
  refine ⟨.ref s.heap.objs.size,_,I2,rfl,⟨_,x,rfl,I.hok.fresh (aPC _),rfl,λzs q=>by rw[inj X aA s σ H xs zs hP hw hK I ql q];exact hx⟩,?_,λb hb=>?_⟩
  . have ek:((k:Int)+1)=((k+1:Nat):Int):=by omega
    rw[ek] at b1;exact ⟨⟨x',b1⟩,keep _ _ _ a2.1 λo z=>b2.extBut _ o hei.symm z⟩
  . have hb0:=hb;obtain ⟨o,z⟩:∃ o,s.heap.get? b=some o:=by
      simp only[aOR,aR5,aR6] at hb;rcases hb with rfl | rfl
      . exact ⟨_,he⟩
      . obtain ⟨o,z,_⟩:=live _ _ hi;exact ⟨o,z⟩
    rw[aO λq=>absurd (aOH z) (by rw[q];exact aOJ _)]
    exact (hf b hb0).1
 done:=by
  intro X hP hw hK hc k aA s σ H E I hf st hg;obtain ⟨⟨old,he⟩,hi⟩:=st;obtain ⟨xs,ql,hn⟩:=hg;obtain ⟨us,r1,p1⟩:=look X aA s σ H xs hP hw hK I ql;have e1:=r1.length;have te:s.TypeIs (.ref e) "enumerate" := ⟨_,he,rfl⟩
  delta pyNext
  apply aO3;apply aR0;apply aP7 (name:=Str.ofString "__next__") te F.slot_enumerate_next;refine aP9 F.slot_enumerate_next te F.entry_enumerate_next ?nx (F.args_enumerate_next_1 _);refine aO3 (m:=field (.ref e) 2) (aP4 he rfl (x:=.ref it) rfl ?_);refine aO3 (dn X.A.in1 s us.toArray k _ _ (I.ok.hd hc) hi p1 (by simp;omega) λh' x he' hx'=>?_)
  obtain ⟨o,ho,hc'⟩:=hx';refine aO3 (aR4 (T := "StopIteration") (b:=true) ⟨o,ho,hc'⟩ isSubtype_stop ?_);refine aO5 ⟨rfl,aGT (t':=s.toks) I (λb o hb z=>he' b o (by
   simp only[aOR,aR5,aR6,not_or] at hb;exact hb.2) z) hf⟩
 self:=λ_ _ _ _ _ st h=>by obtain ⟨⟨old,he⟩,_⟩:=st;exact aR7 he h
theorem aGZ(e it l:Addr)(hei:e≠it)(hel:e≠l)(hli:l≠it):gM P w K (.Tuple elts cx pos) (Ite λH=>SqL K H l) [e,it] e (λk h=>(∃ old,IsEnum h e it k old)/\h.IsListIter it l k) :=
 uT e it l hei hel hli (fun k h => h.IsListIter it l k) (fun h xs => h.IsList l xs) (fun i h st => by
     obtain ⟨o,e,_,d⟩:=st;exact ⟨o,e,λv q=>by rw[d] at q;cases q⟩) (λi h h' st k=>st.at k) (λA hA items=>Draws.list hA it l hli items)
  (λA s items k Q E hA st ha hx q=>wpAny_nextOf_list_end hA st ha hx q)
  (λX aA s σ H xs hP hw hK I q=>by
   subst hK;obtain ⟨us,r,p,_⟩:=I.list q;exact ⟨us,r,p.isList⟩)
  (λX aA s σ H xs ys hP hw hK I q q'=>by subst hK;exact I.list_inj q' q)
theorem aG0(e it l:Addr)(hei:e≠it)(hel:e≠l)(hli:l≠it):gM P w K (.Tuple elts cx pos) (Ite λH=>SqT K H l) [e,it] e (λk h=>(∃ old,IsEnum h e it k old)/\h.IsTupleIter it l k) :=
 uT e it l hei hel hli (fun k h => h.IsTupleIter it l k) (fun h xs => IsTup h l xs) (fun i h st => by
     obtain ⟨o,e,_,d⟩:=st;exact ⟨o,e,λv q=>by rw[d] at q;cases q⟩) (λi h h' st k=>st.at k) (λA hA items=>aGW hA it l hli items)
  (λA s items k Q E hA st ha hx q=>jH hA st ha hx q)
  (λX aA s σ H xs hP hw hK I q=>by
   subst hK;obtain ⟨us,r,p,_⟩:=I.tuple q;exact ⟨us,r,p⟩)
  (λX aA s σ H xs ys hP hw hK I q q'=>by subst hK;exact I.tuple_inj q' q)
end
section
variable {C:Cw}{X:Cx}{tg e:Expr}{g:Rho->Res}{gs:Rho->aW}{pos p:Pos}
theorem aG1:bootBuiltins ("enumerate" : Str)=some (.type "enumerate"):=by first | rfl | decide +kernel | kernel_rfl
def uU(K:Fg)(ta:TA):TI:=λσ H R=>ta σ H λvs H1=>∃ a xs,vs=[.ref a]/\((SqL K H1 a xs/\R (Ite λH=>SqL K H a) H1)\/(SqT K H1 a xs/\R (Ite λH=>SqT K H a) H1))
theorem aG2{a:Expr}{ta:TA}{elts:List Expr}{cx}{pp:Pos}(hg:Gl X "enumerate")(hm:X.mg "enumerate" = none)(ha:PA X [a] ta)(hs:starEach [a] X.env=[(false,eval a X.env)]:=by rfl):PI X (.Tuple elts cx pp) (.Call (.Name "enumerate" p) [a] [] pos) (uU X.K ta):=by
 intro aA s σ H R I h;refine Call_ (hW I hg hm aG1 (aPE (thn (ha pos aA s σ H _ I h) λus s1 q1=>?_) (by rw[hs];rfl) (by rfl)))
 obtain ⟨vs,H1,I1,r1,l,xs,rfl,q⟩:=q1;cases r1 with
 | cons r rr =>
  cases rr;cases r;have fb:∀ b:Addr,s1.heap.objs.size<=b->d9 X aA H1 b:=λb hb=>I1.fpOk hb (I1.hok.fresh hb);have fin:∀ b:Addr,b∈[s1.heap.objs.size+1,s1.heap.objs.size]->d9 X aA H1 b:=λb hb=>by
   simp only[aOR,aR5,aR6] at hb;rcases hb with rfl | rfl
   . exact fb _ (Nat.le_succ _)
   . exact fb _ (aPC _)
  rcases q with ⟨ql,q⟩ | ⟨ql,q⟩
  . obtain ⟨ls,_,p1,_⟩:=I1.list ql;have ll:l<s1.heap.objs.size:=by obtain ⟨o,n,e,_⟩:=id p1;exact aOH e
    refine call_enumerate_list p1.isList λh' a1 a2 a3 a4=>aR7 (s:={ s1 with heap:=h' }) a1 ?_
    exact ⟨_,[s1.heap.objs.size+1,s1.heap.objs.size],_,_,H1,rfl,I1.kept (t':=s1.toks) a4,aGZ _ _ l (Nat.succ_ne_self _) (aPA (aRJ ll)) (aOK ll),⟨⟨_,a1⟩,a2⟩,fin,q⟩
  . obtain ⟨ls,_,p1,_⟩:=I1.tuple ql;have ll:l<s1.heap.objs.size:=by obtain ⟨o,e,_⟩:=id p1;exact aOH e
    refine aGY (show s1.heap.IsTuple l ls.toArray from p1) λh' a1 a2 a4=>aR7 (s:={ s1 with heap:=h' }) a1 ?_
    exact ⟨_,[s1.heap.objs.size+1,s1.heap.objs.size],_,_,H1,rfl,I1.kept (t':=s1.toks) a4,aG0 _ _ l (Nat.succ_ne_self _) (aPA (aRJ ll)) (aOK ll),⟨⟨_,a1⟩,a2⟩,fin,q⟩
def bK:Nat->List D->List D
 | _,[]=>[]
 | i,d::ds=>.tup [.int i,d]::bK (i+1) ds
theorem nH:∀ {ds:List D} {i:Nat},(bK i ds).length=ds.length
 | [],_=>rfl
 | d::ds,i=>by simp only[bK,aQJ,nH]
theorem uV:∀ {ds:List D} {j i:Nat} {d:D},ds[i]? = some d->(bK j ds)[i]? = some (.tup [.int ((j+i:Nat):Int),d])
 | [],_,_,_,h=>by simp at h
 | x::ds,j,0,d,h=>by simp at h;subst h;rfl
 | x::ds,j,i+1,d,h=>by
  have:=uV (ds:=ds) (j:=j+1) (i:=i) (by simpa using h)
  have e:j+1+i=j+(i+1):=by omega
  rw[e] at this;simpa[bK] using this
theorem uW{K:Fg}{F:Hp}{Sq:Hp->List V->Prop}{ds:List D}{xs:List V}(qa:∀ H,aH F H->Sq H xs)(ra:aB K F ds xs):kW K F (Ite Sq) (bK 0 ds) where
 go:=λi H s hi=>by
  rw[nH] at hi;have h1:i<xs.length:=by rw[ra.length];omega
  exact ⟨xs,xs[i],qa H s,by simp[h1]⟩
 stop:=λi H s hi=>by rw[nH] at hi;exact ⟨xs,qa H s,by rw[ra.length];omega⟩
 yld:=λi Fc H x H' s1 s2 hi y=>by rw[nH] at hi;obtain ⟨p,u,rfl,hp,rfl,hx⟩:=y;have ex:=hx xs (qa H (s1.trans s2));obtain ⟨u',e1,r1⟩:=ra.get' (aQ5 hi);rw[ex] at e1;cases e1;refine ⟨_,_,uV (aQ5 hi),aK.laid (.tup [.int i,u]) s2 hp,?_⟩;refine aF.tup_of (s2.free hp) ?_;simp only[aB];exact ⟨.int i,[u],rfl,by simp only[aF,aRO],u,[],rfl,r1.mono s1 _ _,rfl⟩
def nI(r:aW):Res:=r.thn λxs=>match xs with
 | [(.fz,.lst ds)]=>.ok .fz (.lst (bK 0 ds))
 | [(.fz,.tup ds)]=>.ok .fz (.lst (bK 0 ds))
 | _=>.stuck
theorem aG3{a:Expr}{elts:List Expr}{cx}{pp:Pos}(hg:Gl X "enumerate")(hm:X.mg "enumerate" = none)(ha:PAv C X [a] gs)(hs:starEach [a] X.env=[(false,eval a X.env)]:=by rfl):PIv C X (.Tuple elts cx pp) (.Call (.Name "enumerate" p) [a] [] pos) (λρ=>nI (gs ρ)):=by
 refine PI.imp (aG2 hg hm ha hs) λσ H R q=>?_;obtain ⟨ρ,F,RS,w⟩:=q;dsimp only at w;unfold uU;refine ⟨ρ,F,RS,?_⟩;cases er:gs ρ with
 | stuck=>rw[er] at w;exact w
 | exc c=>rw[er] at w;exact w
 | ok xs =>
  rw[er] at w;intro vs F' H' st rp;unfold nI at w;rw[aW.thn_ok] at w;split at w
  . rename_i ds;obtain ⟨v,rfl,r⟩:=rp.one;have r:aF X.K F' (.lst ds) v:=r;simp only[aF] at r;obtain ⟨a1,x1,rfl,q1,l1⟩:=r;exact ⟨a1,x1,rfl,.inl ⟨st.sub.seq q1,w _ F' H' st (uW (λH s=>s.seq q1) l1)⟩⟩
  . rename_i ds;obtain ⟨v,rfl,r⟩:=rp.one;have r:aF X.K F' (.tup ds) v:=r;simp only[aF] at r;obtain ⟨a1,x1,rfl,q1,l1⟩:=r;exact ⟨a1,x1,rfl,.inr ⟨aH.seqT st.sub q1,w _ F' H' st (uW (λH s=>aH.seqT s q1) l1)⟩⟩
  . exact w.elim
end
end D3
namespace D3
open PySem PySem.Spec PySem.Calls PyProof.Rows L2 PySem.W
section
variable {prog:Program}{w:World}{A:Around}{E:VSP}{s:Shared}{K:Fg}{x D:Addr}{ox:Obj}{od:Option Obj}
def XAt(h:Heap)(x:Addr)(ox:Obj)(D:Addr):Prop:=h.get? x=some ox/\ox.cls=.ref D
theorem XAt.type{M:Model}{h:Heap}(I:XAt h x ox D):Looks M h (typeOf (.ref x)) (.ref D):=I.2 ▸ (Looks.ld I.1).andThen .now
structure fO(K:Fg)(D:Addr):Prop where
 ga:PySem.W.findIn K (.ref D) "__getattribute__" = some (some (.builtin "BaseException.__getattribute__"))
 gn:PySem.W.findIn K (.ref D) "__getattr__" = some none
 ca:PySem.W.findIn K (.ref D) "__class__" = some (some (.builtin "object.__class__"))
 bx:PySem.W.mroIn K D (.type "BaseException")=some true
 ob:PySem.W.mroIn K D (.type "object")=some true
 hn:PySem.W.specialIn K (.builtin "object.__class__") "__get__" = some (some (.builtin "getset_descriptor.__get__"))
 tk:PySem.W.takesIn K (.builtin "object.__class__")=some true
theorem aG4(v:Value):bindSpecial (.builtin "BaseException.__getattribute__") v=pure (.builtin "BaseException.__getattribute__", [v]):=F.excAttr_ValueError.ga.bind v
theorem aG5{nameV:Value}{Q:Unit->Shared->Prop}(X:K.In s.heap)(I:XAt s.heap x ox D)(Z:fO K D)(h:Q () s):wpAny (model prog w) A (checkBuiltinCall "BaseException.__getattribute__" ⟨[.ref x,nameV],[]⟩) Q E s:=by
 have k1:builtinKind "BaseException.__getattribute__" = some .slot/\splitId "BaseException.__getattribute__" = some ("BaseException", "__getattribute__"):=by decide +kernel
 have ha:=F.args_bexc_ga (.ref x) nameV;have L0:=I.type (M:=model prog w);have L1:=aR8 (M:=model prog w) X Z.bx;obtain ⟨hh,g,d,t,os⟩:=s;simp only[checkBuiltinCall,k1.1,k1.2];refine aO3 ?_;unfold isInstance;refine aO3 (L0.at (L1.at ?_))
 repeat (first | wp_step)
 exact h
theorem aG6{M:Model}{h:Heap}(X:K.In h)(Z:fO K D):Looks M h (Builtin.ObjectAttr.find (.ref x) (.ref D) "__class__") (.bind (.builtin "getset_descriptor.__get__") (.builtin "object.__class__")):=by
 have L1:=aR9 (M:=M) X Z.ca;have L2:=PySem.W.looks_specialIn (M:=M) X Z.hn;have L3:=PySem.W.looks_takesIn (M:=M) X Z.tk;unfold Builtin.ObjectAttr.find;refine L1.andThen ?_;refine Looks.andThen (a:=some (.builtin "getset_descriptor.__get__")) (by exact L2) ?_
 have L4:Looks M h (Builtin.ObjectAttr.dataDescriptor? (some (.builtin "object.__class__")) (some (.builtin "getset_descriptor.__get__"))) (some (.builtin "getset_descriptor.__get__", .builtin "object.__class__")):=by unfold Builtin.ObjectAttr.dataDescriptor?;refine L3.andThen ?_;rw[if_pos rfl];exact .now
 refine L4.andThen ?_;exact Looks.tag .now
theorem aG7{R:Result->Shared->Prop}{tp:Value}(X:K.In s.heap)(I:XAt s.heap x ox D)(hm:PySem.W.mroIn K D (.type "object")=some true)(h:R (.ok (.ret (.ref D))) s):codeAny (model prog w) A (.call (.builtin "getset_descriptor.__get__") ⟨[.builtin "object.__class__", .ref x,tp],[]⟩) R s:=by
 obtain ⟨hh,g,dr,t,os⟩:=s;have L0:=I.type (M:=model prog w);have L1:=aR8 (M:=model prog w) X hm;refine codeAny_call_builtin KF.slot_gs.plain KF.entry_gs ?_;refine KF.slot_gs.check _ _ _ _ _ _ _ _ KF.type_class (KF.args_gs _ _ _) ?_;unfold Builtin.«getset_descriptor.__get__» Builtin.Getset_descriptor.descrGet;rw[dga_obj];refine aO3 (aO5 ?_);unfold Builtin.Getset_descriptor.descrGetter Builtin.Getset_descriptor.descrCheckInstance Builtin.Getset_descriptor.descrNameAndClass isInstance;simp only[KF.owner_class]
 repeat lk
 refine ⟨Code.quiet_builtin _ (by decide +kernel),?_⟩
 refine aSA KF.entry_class ?_;unfold Builtin.«object.__class__»;unfold shownTypeOf
 repeat lk
 exact h
theorem aG8{tk:Tok}{Q:Fin->Shared->Prop}(X:K.In s.heap)(I:XAt s.heap x ox D)(Z:fO K D)(h:Q (.done (.ret (.ref D))) s):wpAny (model prog w) A (Builtin.«object.__getattribute__» ⟨[.ref x,.str "__class__" tk],[]⟩) Q E s:=by
 have L0:=I.type (M:=model prog w);have L1:=aG6 (x:=x) (M:=model prog w) X Z;unfold Builtin.«object.__getattribute__»;refine aO3 (m:=slotArgs _ _ _) (aRW (a:=(.ref x,[.str "__class__" tk])) (by first | rfl | kernel_rfl) ?_)
 refine aO3 (m:=Builtin.ObjectAttr.attrName _) (aRW (a:=Str.ofString "__class__") (by first | rfl | kernel_rfl) ?_)
 refine aO3 (L0.at (aO3 (L1.at ?_)));dsimp only;unfold Builtin.ObjectAttr.bindTo;dsimp only;refine aO3 (aP6 (wpAny_call (aG7 X I Z.ob ?_)));exact aO5 h
theorem aG9{fill expr:Bool}{tk:Tok}{Q:VSP}(X:K.In s.heap)(I:XAt s.heap x ox D)(Z:fO K D)(h:Q (.ref D) s):wpAny (model prog w) A (getAttrBy (.ref x) (.str "__class__" tk) fill expr) Q E s:=by
 have L0:=I.type (M:=model prog w);have L1:=aR9 (M:=model prog w) X Z.ga;have L2:=aR9 (M:=model prog w) X Z.gn;have c0:(expr&&onTheHeap (.builtin "BaseException.__getattribute__"))=false:=by cases expr <;> rfl
 have c1:(onTheHeap (.ref D)&&Value.builtin "BaseException.__getattribute__" == .builtin "object.__getattribute__")=false:=by rw[show (Value.builtin "BaseException.__getattribute__" == .builtin "object.__getattribute__")=false by decide +kernel];rfl
 unfold getAttrBy;refine aP6 (aO3 (L0.at (aO3 (L1.at ?_))));dsimp only;rw[if_neg (by rw[c1];exact aO9)]
 unfold getAttrByItsOwn hookBefore;rw[if_pos (by rfl)]
 refine aO3 (L2.at (aO3 (aR0 (aP6 ?_))));unfold callGetattribute;rw[if_neg (by rw[c0];exact aO9)]
 unfold boundAndCalled;rw[aG4];refine aO3 (aO5 (wpAny_call (codeAny_call_builtin F.excAttr_ValueError.ga.plain F.entry_bexc_ga (aG5 X I Z (aG8 X I Z ?_)))));exact aRW (PySem.W.handedOut_of rfl) h
theorem aHA{Q:Option Value->Shared->Prop}(X:K.In s.heap)(I:XAt s.heap x ox D)(Z:fO K D)(h:Q (some (.ref D)) { s with toks:=s.toks+1 }):wpAny (model prog w) A (getAttr? (.ref x) "__class__") Q E s:=by unfold getAttr? getAttrBy?;refine aO3 (wpAny_mkText (aO3 (aR0 (aG9 (s:={ s with toks:=s.toks+1 }) X I Z (aO5 h)))))
theorem uX(Z:fO K D):PySem.W.KitX K (.ref x) (.ref D) (λh=>XAt h x ox D) where
 ty:=λ_ _ _ I=>I.type
 it:=λ_ _ X _=>by
  have:=Z.ob;unfold PySem.W.mroIn at this;obtain ⟨cdD,hcD,_⟩:=aSB.mp this;unfold PySem.W.clsIn at hcD;split at hcD
  . rename_i c' d' cd' sl' ho;intro A' Q' E' s' k q;unfold isType loadHead;exact aO3 (wpAny_loadPart (k _ _ (X _ _ ho)) (aO5 q))
  . cases hcD
 ne:=λh tp dd its n sl X htp=>by
  have:=Z.ob;unfold PySem.W.mroIn at this;obtain ⟨cdD,hcD,_⟩:=aSB.mp this;refine Bool.eq_false_iff.mpr λq=>?_;have e:D=tp:=Value.ref.inj (aQ0.mp q);subst e;unfold PySem.W.clsIn at hcD;split at hcD
  . rename_i c' d' cd' sl' ho;have z:=(X _ _ ho).symm.trans htp;cases z
  . cases hcD
 ca:=λX I k=>aHA X I Z k
theorem aHB{e C2:Addr}{b:Bool}{Q:Bool->Shared->Prop}(X:K.In s.heap)(I:XAt s.heap e ox D)(h2:PySem.W.mroIn K C2 (.type "BaseException")=some true)(hty:PySem.W.typeIn K (.ref C2)=some (.type "type"))(hb:PySem.W.mroIn K D (.ref C2)=some b)(h:Q b s):wpAny (model prog w) A (excMatches (.ref e) (.ref C2)) Q E s:=by
 have L0:=I.type (M:=model prog w);have L1:=PySem.W.looks_typeIn (M:=model prog w) X hty;have L3:=aR8 (M:=model prog w) X h2;have L4:=aR8 (M:=model prog w) X hb;have L5:Looks (model prog w) s.heap (isType (.ref C2)) true:=by
  unfold PySem.W.mroIn at h2;obtain ⟨cdD,hcD,_⟩:=aSB.mp h2;unfold PySem.W.clsIn at hcD;split at hcD
  . rename_i c' d' cd' sl' ho;intro A' Q' E' s' k q;unfold isType loadHead;exact aO3 (wpAny_loadPart (k _ _ (X _ _ ho)) (aO5 q))
  . cases hcD
 unfold excMatches;refine aO3 ?_;unfold isInstance;refine aO3 (L1.at (aRW tc_notTuple ?_));rw[if_neg aO9];refine aO3 (aO5 ?_);dsimp only;rw[aRD];refine aO3 (aO3 (aO3 ?_));unfold isExcClass;refine aO3 (L5.at ?_);rw[if_pos rfl];refine L3.at ?_;rw[Bool.not_true,if_neg aO9];refine aO5 ?_;dsimp only;rw[aRC];refine aO5 (aO3 (L0.at ?_));rw[aRD];refine aO3 (aO3 (aO3 (L4.at ?_)));cases b with
 | true=>rw[if_pos rfl];exact aO5 (aO5 (aO5 h))
 | false=>rw[if_neg aO9];refine aO5 ?_;dsimp only;rw[aRC];exact aO5 (aO5 h)
end
end D3
namespace D3
open PySem PySem.Spec PySem.Calls PyProof.Rows L2
structure Fly(P:Program)(w:World)(outer:List Env)(H:Hp)(s:Shared)(H1:Hp)(B hp:Heap):Prop where
 un:Un (frs outer) [] H H1 s.heap hp
 ok:HOk P w H1 hp
 kb:∀ b o,hp.get? b=some o->s.heap.get? b≠none->b∉frs outer->B.get? b=some o
 kh:∀ b u,H1 b=some u->∃ o,hp.get? b=some o/\B.get? b=some o
 fr:∀ b∈frs outer,H b=none/\∃ o,s.heap.get? b=some o/\∀ vs,o.data ≠ .fields vs
section
variable {P:Program}{w:World}{outer:List Env}{H H1:Hp}{s:Shared}{B hp h':Heap}
theorem dM{b:Addr}:b∉([]:List Addr):=by simp
theorem Fly.slots(f:Fly P w outer H s H1 B hp)(up:hp.UpToSlots h'){b:Addr}(hb:b∈frs outer):∃ o sl sl',s.heap.get? b=some o/\hp.get? b=some { o with slots:=sl }/\h'.get? b=some { o with slots:=sl' }:=by obtain ⟨hn,o,e,nf⟩:=f.fr b hb;obtain ⟨sl,e1⟩:=f.un.slot b o e hn hb dM;obtain ⟨sl',e2⟩:=up b _ e1 nf;exact ⟨o,sl,sl',e,e1,e2⟩
theorem Fly.on(f:Fly P w outer H s H1 B hp)(st:B.StaysIn h')(up:hp.UpToSlots h'):Fly P w outer H s H1 B h' where
 un:={
  keep:=λb o e n hb _=>st b o (f.kb b o (f.un.keep b o e n hb dM) (by rw[e];exact λz=>nomatch z) hb)
  slot:=λb o e n hb _=>by obtain ⟨o',sl,sl',e0,_,e2⟩:=f.slots up hb;rw[e] at e0;cases e0;exact ⟨sl',e2⟩
  free:=f.un.free
  there:=λb o e _=>by
   by_cases hb:b∈frs outer
   . obtain ⟨o',sl,sl',e0,_,e2⟩:=f.slots up hb;exact ⟨_,e2⟩
   . obtain ⟨o',e1⟩:=f.un.there b o e dM;exact ⟨o',st b o' (f.kb b o' e1 (by rw[e];exact λz=>nomatch z) hb)⟩
  tups:=f.un.tups
  frzs:=f.un.frzs
  tbls:=f.un.tbls }
 ok := fun a o e => (f.ok a o e).stay (fun b u hb q => by
     have:∃ u',H1 b=some u':=by
      rcases hb with rfl | hb
      . exact ⟨o,e⟩
      . exact ⟨_,hb⟩
     obtain ⟨u',eu⟩:=this;obtain ⟨o',e1,e2⟩:=f.kh b u' eu;rw[q] at e1;cases e1;exact st b u e2) (λ_ q=>q) λ_ _ q=>q
 kb:=λb o e ns hb=>by
  cases e0:s.heap.get? b with
  | none=>exact absurd e0 ns
  | some o0=>obtain ⟨o',e1⟩:=f.un.there b o0 e0 dM;have e2:=f.kb b o' e1 ns hb;have e3:=st b o' e2;rw[e] at e3;cases e3;exact e2
 kh:=λb u e=>by obtain ⟨o,_,e2⟩:=f.kh b u e;exact ⟨o,st b o e2,e2⟩
 fr:=f.fr
end
def CX1(P:Program)(w:World):CXT:=λouter H s E ev s'=>∃ (e C:Addr) (a0:Value) (H1:Hp) (B:Heap),
 ev=.ref e/\s'.os=s.os/\AllBare s'.gens/\Heap.FlyingW B outer e (.ref C) a0 s'.heap/\Fly P w outer H s H1 B s'.heap/\E (.ref C) none H1
section
variable {X:Cx}{aA:LAO}{σ:L2.St}{H H1:Hp}{s s':Shared}{B hp:Heap}{E:XK}
theorem aHC(I:Inv X aA σ H s):∀ b∈frs X.stack,H b=none/\∃ o,s.heap.get? b=some o/\∀ vs,o.data ≠ .fields vs:=λb hb =>
 ⟨I.stkFree b hb,(I.stack.mem hb).2⟩
theorem Fly.inv(I:Inv X aA σ H s)(f:Fly X.prog X.w X.stack H s H1 B s'.heap)(ho:s'.os=s.os)(hg:AllBare s'.gens):Inv X aA σ H1 s' :=
 Inv.call' (ch:=[]) I ho f.un f.ok hg (λb z=>absurd z dM)
theorem Fly.out(I:Inv X aA σ H s)(f:Fly X.prog X.w X.stack H s H1 B s'.heap)(ho:s'.os=s.os)(hg:AllBare s'.gens)(hx:X.ex=[])(hs:X.stack=X.env::X.outer)(hf:X.env.frame=some X.env.locals){h':Heap}(st:B.StaysIn h')(up:s'.heap.UpToSlots h'):Fly X.prog X.w X.outer X.H₀ X.s₀ H1 B h':=by
 have I1:=f.inv I ho hg;have f1:=f.on st up;have ub:=I1.base;rw[hx] at ub;have old:∀ b o,X.s₀.heap.get? b=some o->∃ o',s.heap.get? b=some o':=λb o e=>I.base.there b o e (by rw[hx];exact dM)
 have nl:∀ b o,X.s₀.heap.get? b=some o->b≠X.env.locals:=λb o e z=>absurd (aOH e) (by rw[z];exact Nat.not_lt.mpr I.ok.above)
 have sub:∀ b,b∉frs X.outer->b≠X.env.locals->b∉frs X.stack:=λb h1 h2 z=>by
  rcases aOR.mp (I.stkSub b z) with q | q
  . exact h2 q
  . exact h1 q
 have sup:∀ b,b∈frs X.outer->b∈frs X.stack:=λb hb=>by rw[hs];unfold frs;rw[aOQ,hf];exact mcm hb
 refine ⟨⟨λb o e n hb _=>?_,λb o e n hb _=>?_,ub.free,λb o e _=>?_,ub.tups,ub.frzs,ub.tbls⟩,f1.ok,λb o e ns hb=>?_,f1.kh,λb hb=>?_⟩
 . have e1:=ub.keep b o e n hb dM;obtain ⟨o',e0⟩:=old b o e;exact st b o (f.kb b o e1 (by rw[e0];exact λz=>nomatch z) (sub b hb (nl b o e)))
 . obtain ⟨sl,e1⟩:=ub.slot b o e n hb dM;obtain ⟨o',sl1,sl2,e0,e1',e2⟩:=f.slots up (sup b hb);have q:=aOF (e1.symm.trans e1');refine ⟨sl2,?_⟩;rw[e2];obtain ⟨c1,d1,t1,l1⟩:=o;obtain ⟨c2,d2,t2,l2⟩:=o';simp only[Obj.mk.injEq] at q;obtain ⟨rfl,rfl,rfl,_⟩:=q;rfl
 . obtain ⟨o',e0⟩:=old b o e;exact f1.un.there b o' e0 dM
 . cases e0:X.s₀.heap.get? b with
   | none=>exact absurd e0 ns
   | some o0=>obtain ⟨o',e1⟩:=old b o0 e0;exact f1.kb b o e (by rw[e1];exact λz=>nomatch z) (sub b hb (nl b o0 e0))
 . exact ⟨I.ok.frf b hb,(I.ok.funs.mem hb).2⟩
def k4(h:Heap)(l:List Env):Heap:=PySem.W.hideAll h (frs l)
theorem Fly.raise(I:Inv X aA σ H s)(hx:X.ex=[])(hs:X.stack=X.env::X.outer)(hf:X.env.frame=some X.env.locals){h':Heap}(st:(k4 s.heap X.stack).StaysIn h')(up:s.heap.UpToSlots h'):Fly X.prog X.w X.outer X.H₀ X.s₀ H (k4 s.heap X.stack) h':=by
 have f:Fly X.prog X.w X.stack H s H (k4 s.heap X.stack) s.heap :=
  ⟨Un.refl,I.hok,λb o e _ hb=>aOL _ e hb,λb u e=>by
   have hn:b∉frs X.stack:=λz=>by rw[I.stkFree b z] at e;cases e
   have:∃ o,s.heap.get? b=some o:=by
    have:=I.hok b u e;cases u with
    | lst xs=>obtain ⟨_,_,_,_,e⟩:=this;exact ⟨_,e⟩
    | tup xs=>obtain ⟨_,_,_,o,e,_⟩:=this;exact ⟨_,e⟩
    | dK kvs=>obtain ⟨_,_,_,_,o,_,_,e,_⟩:=this;exact ⟨_,e⟩
    | dT kvs=>obtain ⟨_,_,_,_,o,_,_,e,_⟩:=this;exact ⟨_,e⟩
    | set S n=>obtain ⟨o,_,_,_,e,_⟩:=this;exact ⟨_,e⟩
    | ins C dx fs=>obtain ⟨_,_,_,e,_⟩:=this;exact ⟨_,e⟩
    | own y=>obtain ⟨_,e⟩:=this;exact ⟨_,e⟩
    | xd fs=>obtain ⟨_,⟨_,_,_,e,_⟩,_⟩:=this;exact ⟨_,e⟩
    | rng lo hi=>obtain ⟨_,_,_,e⟩:=this;exact ⟨_,e⟩
    | frz ob u=>obtain ⟨e,_⟩:=this;exact ⟨_,e⟩
    | tbl ps=>exact ⟨_,this⟩
    | met f y=>exact ⟨_,this⟩
    | ext φ=>obtain ⟨_,⟨_,e⟩,_⟩:=this;exact ⟨_,e⟩
   obtain ⟨o,eo⟩:=this;exact ⟨o,eo,aOL _ eo hn⟩,aHC I⟩
 exact f.out I rfl I.bare hx hs hf st up
end
def qC:List Value:=[.type "ValueError", .type "Exception", .type "BaseException", .type "object"]
def k6(K:Fg)(C:Addr):Prop:=PySem.W.excIn K C qC "ValueError.__new__" = true
def qD(C:Cw)(X:Cx):Prop:=∀ (aA:LAO) (σ:L2.St) (H:Hp) (s:Shared) (c:Str) (Cc:Addr) (vs:List Value) (h':Heap) (e:Addr),Inv X aA σ H s->X.mg c=some (.ref Cc)->C.EE c σ H ->
 Heap.MadeExcOf s.heap h' e (.ref Cc) vs->X.xe (.ref e) { s with heap:=h' }
def rzR(c:Str)(ρ:Rho):aW->aG
 | .ok xs=>if xs.length<=sizeLine then .exc c ρ else .stuck
 | .exc c'=>.exc c' ρ
 | .stuck=>.stuck
theorem aHD{K:Fg}{C:Addr}(q:k6 K C):∃ bm N nm qn bs hd sn sub ab col dd k0 k1 k2 k3 k5,∀ h:Heap,K.In h->h.get? C=some (excClassObj nm qn C N bs bm hd sn sub ab col dd k0 k1 k2 k3 k5 "ValueError.__new__")/\h.Ns N (h.nsMap N)/\h.nsMap N "__init__" = none/\OwnTail h qC bm:=by
 unfold k6 PySem.W.excIn at q;split at q
 . rename_i dd cd sl ho;split at q
   . rename_i C' bm k0 k1 k2 k3 n k5 hm hs;rw[aQB,aQB,aQB,aQB,aQB] at q;obtain ⟨⟨⟨⟨⟨q1,q2⟩,q3⟩,q4⟩,q5⟩,q6⟩:=q;obtain ⟨nm,bs,mro,ns,qn,hd,sn,sub,ab,col,del⟩:=cd;have e1:C'=C:=aQ0.mp q1;have e2:n = "ValueError.__new__" := aQ0.mp q2;have e3:del=false:=by simpa using q3
     have e4:sl = #[k0,k1,k2,k3,some (.builtin n),k5]:=Array.ext' hs;have e5:mro=.ref C'::bm:=hm;subst e1 e2 e3 e4 e5;refine ⟨bm,ns,nm,qn,bs,hd,sn,sub,ab,col,dd,k0,k1,k2,k3,k5,λh X=>⟨X _ _ ho,.of_isNs (PySem.W.isNs_of_in X q5),PySem.W.nsMap_none_of_in X q5 (aQ0.mp q6),PySem.W.tail_of_in X q4⟩⟩
   . cases q
 . cases q
theorem uY{K:Fg}{F H:Hp}:∀ {xs:List (Md×D)} {vs:List V},RpL K F H xs vs->vs.length=xs.length
 | [],_,h=>by rw[show _=[] from h];rfl
 | _::_,_,h=>by obtain ⟨v,us,rfl,_,r⟩:=h;rw[aQJ,aQJ,uY r]
section
variable {C:Cw}{X:Cx}{e:Expr}{es:List Expr}{gs:Rho->aW}{x:Str}{np cpos pos:Pos}
theorem aHE{Cc:Addr}(hm:X.mg x=some (.ref Cc))(Z:k6 X.K Cc)(hh:X.A.handled=none)(hr:qD C X)(hg:Gl X x)(ha:PAv C X (e::es) gs)(hd:(x==("__debug__" : Str))=false)(hst:∀ y∈e::es,bJ y=true):PSv C X (.Raise (some (.Call (.Name x np) (e::es) [] cpos)) none pos) (λρ=>rzR x ρ (gs ρ)):=by
 intro aA s σ H En I q;obtain ⟨ρ,F,R,w⟩:=q;obtain ⟨bm,N,nm,qn,bs,hdc,sn,sub,ab,col,dd,k0,k1,k2,k3,k5,hobj⟩:=aHD Z;have vb:=_root_.PySem.F.excBase_ValueError;have B0:=hobj X.base I.mod.kin;have st:=bO (es:=es) (env:=X.env) (hst e mcs);refine wpAny_Raise_call_subU (C:=Cc) (nm:=nm) (q:=qn) (N:=N) (bs:=bs) (bm:=bm) (hdct:=hdc) (sn:=sn) (sub:=sub) (ab:=ab) (col:=col) (dd:=dd) (k0:=k0) (k1:=k1) (k2:=k2) (k3:=k3) (k5:=k5)
  vb vb.hasB vb (mN:=X.base.nsMap N) (B0.2.2.2.hasType vb.hasBase) hh (fN _ _ hst) B0.2.2.1 (kE I hg hm ⟨rfl,?_⟩ hd)
 rw[st];refine Calls.evalArgs_plain ?_;have main:=ha cpos aA s σ H (λvs H1=>vs.length<=sizeLine/\C.EE x σ H1) I ?_
 . rw[st] at main;refine aOY main (λus s2 h2=>?_) λ_ _ z=>z;obtain ⟨vs,H1,I1,r1,hl,he⟩:=h2;have B1:=hobj s2.heap I1.kIn;exact ⟨rfl,by rw[<- r1.length];exact hl,B1.1,B0.2.1.keeps I1.bk,B1.2.2.2,λh' ex made=>hr aA σ H1 s2 x Cc us h' ex I1 hm he made⟩
 . refine ⟨ρ,F,R,?_⟩;dsimp only at w;cases er:gs ρ with
   | stuck=>rw[er] at w;exact w
   | exc c=>rw[er] at w;exact λF' H' st=>w σ F' H' st.fsame (R.step st)
   | ok xs =>
    rw[er] at w;intro vs F' H' st rp;have w:bI (C.at X) F (if xs.length<=sizeLine then .exc x ρ else .stuck) En:=w;split at w
    . rename_i hl;exact ⟨by rw[uY rp];exact hl,w σ F' H' st.fsame (R.step st)⟩
    . exact w.elim
structure iI(X:Cx):Prop where
 hx:X.ex=[]
 hs:X.stack=X.env::X.outer
 hf:X.env.frame=some X.env.locals
end
section
variable {P:Program}{w:World}{K:Fg}{mg:SOV}{base:Heap}{N:List Str}{aP:Str}{scope:Scope}{f:Addr}{cdv:Value}{A:Around}{outer:List Env}{s:Shared}{H:Hp}{E:XK}
theorem fnCx:iI (dH (CX1 P w) P w K mg base N aP scope f cdv A outer s H E):=⟨rfl,rfl,rfl⟩
def k7(mg:SOV)(E:XK):XE:=λc _ H'=>∀ u,mg c=some u->E u none H'
theorem aHF{C:Cw}(hE:C.EE=k7 mg E):XOk (CX1 P w) C (dH (CX1 P w) P w K mg base N aP scope f cdv A outer s H E):=by intro aA σ H1 s1 ev s' I h;obtain ⟨e,Cc,a0,H2,B,rfl,ho,hg,fl,fy,c,hm,he⟩:=h;rw[hE] at he;have I0:=I.ok.frames;refine wpAny_leaves_onW I0 rfl fl λh' fl' up=>?_;exact ⟨e,Cc,a0,H2,B,rfl,ho.trans I.os,hg,fl',fy.out I ho hg rfl rfl rfl fl'.1 up,he _ hm⟩
theorem aHG{C:Cw}(hE:C.EE=k7 mg E):qD C (dH (CX1 P w) P w K mg base N aP scope f cdv A outer s H E):=by
 intro aA σ H1 s1 c Cc vs h1 e I hm he made;rw[hE] at he;have I0:=I.ok.frames;have hin:∀ env∈(dH (CX1 P w) P w K mg base N aP scope f cdv A outer s H E).stack,∀ a,env.frame=some a->a∈frs (dH (CX1 P w) P w K mg base N aP scope f cdv A outer s H E).stack:=λenv he a ha=>aPF.mpr ⟨env,he,ha⟩;have FF:s1.heap.FunFrames (k4 s1.heap (dH (CX1 P w) P w K mg base N aP scope f cdv A outer s H E).stack) _:=PySem.W.funFrames_hide I.stack hin;have st0:(k4 s1.heap (dH (CX1 P w) P w K mg base N aP scope f cdv A outer s H E).stack).StaysIn s1.heap:=λb o q=>aOM _ q;refine wpAny_leaves_madeW (s:={ s1 with heap:=h1 }) I0 rfl st0 FF made λh' t fl _ _ up=>?_
 have up0:s1.heap.UpToSlots h':=(Heap.UpToSlots.of_keeps made.keeps).trans up;exact ⟨e,Cc,.ref t,H1,_,rfl,I.os,I.bare,fl,Fly.raise I rfl rfl rfl fl.1 up0,he _ hm⟩
end
structure HX where
 cls:Str
 slot:Option Nat
 g:Rho->aG
def unS{α:Type}(i:Option Nat)(ρ:List (Option α)):List (Option α):=match i with | none=>ρ | some i=>ρ.set i none
def inR(i:Option Nat)(c:Str)(ρ:Rho):Rho:=match i with | none=>ρ | some i=>ρ.set i (some (false,.exn c))
def unR(i:Option Nat):aG->aG
 | .nx ρ=>.nx (unS i ρ)
 | .bk ρ=>.bk (unS i ρ)
 | .ct ρ=>.ct (unS i ρ)
 | .rt m d=>.rt m d
 | _=>.stuck
def fZ(xt:Str->Str->Option Bool)(c:Str)(ρ:Rho):List HX->aG
 | []=>.stuck
 | h::r=>match xt c h.cls with
  | some true=>unR h.slot (h.g (inR h.slot c ρ))
  | some false=>fZ xt c ρ r
  | none=>.stuck
def jI(xt:Str->Str->Option Bool)(hs:List HX):aG->aG
 | .exc c ρ=>fZ xt c ρ hs
 | r=>r
def jJ(K:Fg)(mg:SOV)(xt:Str->Str->Option Bool):Prop:=∀ c x b,xt c x=some b->∃ C C2,PySem.W.nsIn K mainGlobals c=some (some (.ref C))/\mg c=some (.ref C)/\mg x=some (.ref C2) /\
 PySem.W.mroIn K C2 (.type "BaseException")=some true/\PySem.W.typeIn K (.ref C2)=some (.type "type")/\PySem.W.mroIn K C (.ref C2)=some b
abbrev mkX(X:Cx)(e:Addr):Cx:={ X with A:=X.A.mark (some (.ref e)),calm:=false,xe:=λ_ _=>False }
section
variable {X:Cx}{aA:LAO}{σ:L2.St}{H:Hp}{s:Shared}{e:Addr}
theorem ok_mk(o:X.Ok):(mkX X e).Ok :=
 ⟨o.mod,o.kind,o.glob,o.blt,o.above,o.inj,o.has,o.cab,λz=>(aO9 z).elim,o.frames,o.stk,o.exf,o.bs,o.bsz,o.noex,o.exfs,o.funs,o.frf⟩
theorem qE(I:Inv X aA σ H s):Inv (mkX X e) aA σ H s:=⟨ok_mk I.ok,I.os,I.bare,I.base,I.loc,I.cell,I.free,I.freeC,I.pin,I.hok,I.len⟩
theorem gW(o:X.Ok)(I:Inv (mkX X e) aA σ H s):Inv X aA σ H s:=⟨o,I.os,I.bare,I.base,I.loc,I.cell,I.free,I.freeC,I.pin,I.hok,I.len⟩
theorem nJ {M : Model} {A : Around} {E : Value → Shared → Prop} {i : Nat} {x : Str} {pos : Pos} {Q : Unit → Shared → Prop} (I : Inv X aA σ H s) (hN : X.N.Nodup) (hi : X.N[i]? = some x) (hx : X.env.scope.names.lookup x = some .local)
    (h:∀ s',Inv X aA (σ.set i none) H s'->Q () s'):wpAny M A (do bindName X.env x .none;unbindBehindTheSuite X.env x pos) Q E s:=by
 refine aO3 (wpAny_bindName (iU (v:=.non) I hN hi (.inl hx) rfl (λs1 I1=>?_) (.inr hx)));unfold unbindBehindTheSuite;refine aRY ?_;obtain ⟨m,hn,hl⟩:=id I1.loc;have hiσ:i<σ.length:=by rw[I.len];exact (aOU.mp hi).1
 have hcls:(X.env.scope.kind == .class||(X.env.scope.kind == .module&&X.env.locals != X.env.globals))=false:=by rw[I.ok.kind];rfl
 obtain ⟨u,ru,lk⟩:=hl i x .non hi (by rw[aOW hiσ]) (.inl hx)
 have hv:m x=some u:=by
  rcases lk with ⟨_,q⟩ | ⟨k,_⟩
  . exact q
  . exfalso;have hx':X.env.kindOf x=some .local:=hx;rcases k with k | k <;> rw[hx'] at k <;> cases k
 refine wpAny_unbindName_local hx hn hv hcls λh' u' hn' hs=>h _ ?_;obtain ⟨oL,_,_,hoL,_⟩:=id hn;have cne:=I1.cne;refine ⟨I1.ok,I1.os,I1.bare,⟨λb o e n hb hx=>?_,λb o e n hb hx=>?_,I1.base.free,λb o e hx=>?_,I1.base.tups,I1.base.frzs,I1.base.tbls⟩,⟨_,hn',λj y v' e1 e2 e3=>?_⟩,λy c e=>?_,I1.free,I1.freeC,λp hp=>?_,λb ob e=>?_,by simpa using I.len⟩
 . exact (hs.2 b (aOK (aOI (aOH e) I1.ok.above))).trans (I1.base.keep b o e n hb hx)
 . obtain ⟨sl,e1⟩:=I1.base.slot b o e n hb hx;exact ⟨sl,(hs.2 b (aOK (aOI (aOH e) I1.ok.above))).trans e1⟩
 . obtain ⟨o',e1⟩:=I1.base.there b o e hx;exact ⟨o',(hs.2 b (aOK (aOI (aOH e) I1.ok.above))).trans e1⟩
 . by_cases hj:j=i
   . subst hj;rw[aOW hiσ] at e2;cases e2
   . rw[aOX (Ne.symm hj)] at e2;obtain ⟨u2,r2,q⟩:=hl j y v' e1 (by rw[aOX (Ne.symm hj)];exact e2) e3
     refine ⟨u2,r2,?_⟩;rcases q with ⟨k,e⟩ | ⟨k,c,e,z⟩
     . refine .inl ⟨k,?_⟩;have:y≠x:=λe=>hj (oU hN e1 (e ▸ hi));simp[this,e]
     . exact .inr ⟨k,c,e,z.sameBut hs (cne y c e)⟩
 . obtain ⟨w',z⟩:=I1.cell y c e;exact ⟨w',z.sameBut hs (cne y c e)⟩
 . obtain ⟨e,n,ne,nf,d⟩:=I1.pin p hp;exact ⟨(hs.2 p.1 ne).trans e,n,ne,nf,d⟩
 . refine (I1.hok b ob e).stay (λc w' hc q=>(hs.2 c ?_).trans q) (λ_ q=>q) λ_ _ q=>q;rintro rfl;have fr:=I1.free;rcases hc with z | hc
   . rw[z] at fr;rw[fr] at e;cases e
   . rw[fr] at hc;cases hc
theorem aHH{K:Fg}{F0 H0 F H:Hp}{σ:L2.St}{ρ:Rho}(i:Nat)(R:aR K F0 H0 F H σ ρ):aR K F0 H0 F H (σ.set i none) (ρ.set i none):=by
 have back:∀ (l:Nat) (m:Bool) (d:D),(ρ.set i none)[l]? = some (some (m,d))->l≠i/\ρ[l]? = some (some (m,d)):=λl m d q=>by
  by_cases hl:l=i
  . subst hl;rw[aQ8] at q;split at q
    . split at q <;> cases q
    . exact absurd rfl (by assumption)
  . rw[aOX (λz=>hl z.symm)] at q;exact ⟨hl,q⟩
 refine ⟨R.st,λl m d e=>?_,λl j d d' a hlj e1 e2 q1 q2=>?_,by simp[R.len]⟩
 . obtain ⟨hl,q⟩:=back l m d e;rw[aOX (λz=>hl z.symm)];exact R.slot l m d q
 . obtain ⟨h1,k1⟩:=back l true d e1;obtain ⟨h2,k2⟩:=back j true d' e2;rw[aOX (λz=>h1 z.symm)] at q1;rw[aOX (λz=>h2 z.symm)] at q2;exact R.apart l j d d' a hlj k1 k2 q1 q2
end
inductive f7(C:Cw)(X:Cx):List ExceptHandler->List HX->Prop
 | nil:f7 C X [] []
 | plain {x : Str} {np hp : Pos} {b : Stmt} {suite : List Stmt} {g : Rho → aG} {r : List ExceptHandler} {r' : List HX} : Gl X x → (x == ("__debug__" : Str)) = false → (∀ e, PBv C.nox (mkX X e) (b :: suite) g) → f7 C X r r' →
     f7 C X (.ExceptHandler (some (.Name x np)) none (b::suite) hp::r) (⟨x,none,g⟩::r')
 | named {x n : Str} {i : Nat} {np hp : Pos} {b : Stmt} {suite : List Stmt} {g : Rho → aG} {r : List ExceptHandler} {r' : List HX} : Gl X x → (x == ("__debug__" : Str)) = false → X.N[i]? = some n → X.env.scope.names.lookup n = some .local →
     (∀ e,PBv C.nox (mkX X e) (b::suite) g)->f7 C X r r'->f7 C X (.ExceptHandler (some (.Name x np)) (some n) (b::suite) hp::r) (⟨x,some i,g⟩::r')
section
variable {C:Cw}{X:Cx}{aA:LAO}{σ:L2.St}{H H1:Hp}{s s0:Shared}{e Cc:Addr}{a0:Value}{B:Heap}
theorem Fly.h1e(fl:Heap.FlyingW B X.stack e (.ref Cc) a0 s.heap)(fy:Fly X.prog X.w X.stack H s0 H1 B s.heap):H1 e=none:=by
 cases q:H1 e with
 | none=>rfl
 | some u=>obtain ⟨o,_,z⟩:=fy.kh e u q;rw[fl.2.1] at z;cases z
theorem Fly.s0e(fl:Heap.FlyingW B X.stack e (.ref Cc) a0 s.heap)(fy:Fly X.prog X.w X.stack H s0 H1 B s.heap):s0.heap.get? e=none:=by
 cases q:s0.heap.get? e with
 | none=>rfl
 | some o =>
  exfalso;by_cases hb:e∈frs X.stack
  . obtain ⟨o',sl,_,e0,e1,_⟩:=fy.slots (Heap.UpToSlots.refl _) hb;obtain ⟨_,o2,e2,nf⟩:=fy.fr e hb;rw[e0] at e2;cases e2;obtain ⟨oe,vs,he,_,hd,_⟩:=fl.first
    rw[e1] at he;cases he;exact nf vs hd
  . obtain ⟨o',e1⟩:=fy.un.there e o q dM;have:=fy.kb e o' e1 (by rw[q];exact λz=>nomatch z) hb
    rw[fl.2.1] at this;cases this
theorem Fly.held(I0:Inv X aA σ H s0)(fl:Heap.FlyingW B X.stack e (.ref Cc) a0 s.heap)(fy:Fly X.prog X.w X.stack H s0 H1 B s.heap)(ho:s.os=s0.os)(hg:AllBare s.gens):Inv X aA σ (upd H1 e (eJ e Cc)) s:=by
 have h1:=Fly.h1e fl fy;have h0:=Fly.s0e fl fy;obtain ⟨oe,he,hc⟩:=fl.there;have nb:∀ {b u},H1 b=some u->b≠e:=λq z=>by rw[z,h1] at q;cases q
 refine Inv.call' (ch:=[]) I0 ho ⟨fy.un.keep,fy.un.slot,λb o q n z=>?_,fy.un.there,λb xs q=>?_,λb o u q=>?_,λb ps q=>?_⟩ (λb u q=>?_) hg (λb z=>absurd z dM)
 . rw[aO λz=>by rw[z,h0] at q;cases q];exact fy.un.free b o q n z
 . have:=fy.un.tups b xs q;rw[aO (nb this)];exact this
 . have:=fy.un.frzs b o u q;rw[aO (nb this)];exact this
 . obtain ⟨more,this⟩:=fy.un.tbls b ps q;exact ⟨more,by rw[aO (nb this)];exact this⟩
 . by_cases hb:b=e
   . subst hb;rw[bN] at q;cases q;exact ⟨⟨oe,he,hc⟩,⟨oe,he⟩,λh1 h2 p k=>by obtain ⟨o,q,z⟩:=p;exact ⟨o,k o q,z⟩⟩
   . rw[aO hb] at q;exact (fy.ok b u q).stay (λ_ _ _ z=>z) (λc z=>by rw[aO (nb z)];exact z) λc xs z=>by rw[aO (nb z)];exact z
def unE(i:Option Nat)(D:cJ):cJ:={ nx:=λσ H=>D.nx (unS i σ) H,rt:=D.rt,bk:=λσ H=>D.bk (unS i σ) H,ct:=λσ H=>D.ct (unS i σ) H }
theorem uZ{F:Hp}{r:aG}{D:cJ}(i:Option Nat)(w:bI C F (unR i r) D):bI C.nox F r (unE i D):=by
 have un:∀ {σ F' H' ρ},aR C.K C.F0 C.H0 F' H' σ ρ->aR C.K C.F0 C.H0 F' H' (unS i σ) (unS i ρ):=λR=>by
  cases i with
  | none=>exact R
  | some i=>exact aHH i R
 cases r with
 | nx ρ=>exact λσ F' H' z R=>w _ F' H' z (un R)
 | bk ρ=>exact λσ F' H' z R=>w _ F' H' z (un R)
 | ct ρ=>exact λσ F' H' z R=>w _ F' H' z (un R)
 | rt m d=>exact w
 | exc c ρ=>exact w.elim
 | stuck=>exact w
theorem aHI{xt:Str->Str->Option Bool}(hxt:jJ X.K X.mg xt)(hN:X.N.Nodup){c:Str}{ρ:Rho}{F:Hp}{D:cJ}(I0:Inv X aA σ H s0)(hm:X.mg c=some (.ref Cc))(R:aR X.K C.F0 C.H0 F H1 σ ρ):∀ {hs:List ExceptHandler} {hx:List HX} {s:Shared},f7 C X hs hx->Heap.FlyingW B X.stack e (.ref Cc) a0 s.heap->Fly X.prog X.w X.stack H s0 H1 B s.heap->s.os=s0.os->AllBare s.gens->bI (C.at X) F (fZ xt c ρ hx) D->wpAny (model X.prog X.w) X.A (handleBy (.ref e) X.env hs) (SP X aA D) X.xe s:=by
 have test : ∀ {x : Str} {np hp : Pos} {s : Shared} {b : Bool} {C2 : Addr} {RR : Result → Shared → Prop}, Gl X x → (x == ("__debug__" : Str)) = false → Heap.FlyingW B X.stack e (.ref Cc) a0 s.heap → Fly X.prog X.w X.stack H s0 H1 B s.heap → s.os = s0.os → AllBare s.gens →
     X.mg x=some (.ref C2)->PySem.W.mroIn X.K C2 (.type "BaseException")=some true->PySem.W.typeIn X.K (.ref C2)=some (.type "type")->PySem.W.mroIn X.K Cc (.ref C2)=some b->RR (.ok (if b then .brk else .next)) s ->
     codeAny (model X.prog X.w) (X.A.mark (some (.ref e))) (.handlers (.ref e) [.ExceptHandler (some (.Name x np)) none [] hp] X.env) RR s:=by
  intro x np hp s b C2 RR hg hd fl fy ho hb m2 x1 x2 x3 q;have I:=fy.inv I0 ho hb;obtain ⟨oe,he,hc⟩:=fl.there;exact codeAny_handlers_test (kE (X:=mkX X e) (qE I) hg m2 (aHB I.kIn ⟨he,hc⟩ x1 x2 x3 q) hd)
 intro hs hx s hk
 induction hk generalizing s with
 | nil=>intro _ _ _ _ w;exact w.elim
 | @plain x np hp b suite g r r' hg hd hsu _ ih =>
  intro fl fy ho hb w;unfold fZ at w;dsimp only at w;cases ex:xt c x with
  | none=>rw[ex] at w;exact w.elim
  | some bb =>
   rw[ex] at w;obtain ⟨C1,C2,_,m1,m2,x1,x2,x3⟩:=hxt c x bb ex;rw[hm] at m1;cases m1;refine wpAny_handleBy_cons (test hg hd fl fy ho hb m2 x1 x2 x3 ?_) (by intro q;cases q)
   cases bb with
   | false=>exact ih fl fy ho hb w
   | true =>
    refine codeAny_handlers_suite (lands_againW fl λh6 fl6 up6=>?_);have fy6:=fy.on fl6.1 up6;have I6:Inv X aA σ H1 { s with heap:=h6 }:=fy6.inv I0 (s':={ s with heap:=h6 }) ho hb
    refine aOY (hsu e aA { s with heap:=h6 } σ H1 (unE none D) (qE I6) ⟨ρ,F,R,uZ none w⟩) (λf s7 h7=>?_) λ_ _ z=>z.elim
    cases f with
    | next=>obtain ⟨σ',H',J,q⟩:=h7;exact ⟨σ',H',gW I0.ok J,q⟩
    | brk=>obtain ⟨σ',H',J,q⟩:=h7;exact ⟨σ',H',gW I0.ok J,q⟩
    | cont=>obtain ⟨σ',H',J,q⟩:=h7;exact ⟨σ',H',gW I0.ok J,q⟩
    | ret u=>obtain ⟨v,σ',H',J,r,q⟩:=h7;exact ⟨v,σ',H',gW I0.ok J,r,q⟩
 | @named x n i np hp b suite g r r' hg hd hi hl hsu _ ih =>
  intro fl fy ho hb w;unfold fZ at w;dsimp only at w;cases ex:xt c x with
  | none=>rw[ex] at w;exact w.elim
  | some bb =>
   rw[ex] at w;obtain ⟨C1,C2,n1,m1,m2,x1,x2,x3⟩:=hxt c x bb ex;rw[hm] at m1;cases m1;refine wpAny_handleBy_cons (test hg hd fl fy ho hb m2 x1 x2 x3 ?_) (by intro q;cases q)
   cases bb with
   | false=>exact ih fl fy ho hb w
   | true =>
    refine codeAny_handlers_suite_as (lands_againW fl λh6 fl6 up6=>?_);have fy6:=fy.on fl6.1 up6;have I6:Inv X aA σ (upd H1 e (eJ e Cc)) { s with heap:=h6 }:=Fly.held (s:={ s with heap:=h6 }) I0 fl6 fy6 ho hb
    have st:aK F H1 (upd F e (eJ e Cc)) (upd H1 e (eJ e Cc)):=aK.laid _ R.sub (Fly.h1e fl fy);have rp:Rp X.K (upd F e (eJ e Cc)) (upd H1 e (eJ e Cc)) .fz (.exn c) (.ref e):=by show aF X.K _ _ _;simp only[aF];exact ⟨e,Cc,rfl,n1,bN⟩
    have R7:=R.set (i:=i) (m:=false) st rp (by intro z;cases z)
    refine iU (v:=.ref e) I6 hN hi (.inl hl) rfl (λs7 I7=>?_) (.inr hl);refine aOY (hsu e aA s7 _ _ (unE (some i) D) (qE I7) ⟨_,_,R7,uZ (some i) (bI.mono st.fsame w)⟩) (λf s8 h8=>?_) λ_ _ z=>z.elim;cases f with
    | next=>obtain ⟨σ',H',J,q⟩:=h8;exact nJ (gW I0.ok J) hN hi hl λs9 J9=>⟨_,H',J9,q⟩
    | brk=>obtain ⟨σ',H',J,q⟩:=h8;exact nJ (gW I0.ok J) hN hi hl λs9 J9=>⟨_,H',J9,q⟩
    | cont=>obtain ⟨σ',H',J,q⟩:=h8;exact nJ (gW I0.ok J) hN hi hl λs9 J9=>⟨_,H',J9,q⟩
    | ret u=>obtain ⟨v,σ',H',J,r,q⟩:=h8;exact nJ (gW I0.ok J) hN hi hl λs9 J9=>⟨v,_,H',J9,r,q⟩
end
abbrev jK(X:Cx)(aA:LAO)(D:cJ)(hs:List ExceptHandler):Cx:={ X with pn:=X.pn++aA,xe:=λe s₁=>wpAny (model X.prog X.w) X.A (noteFrame e X.env) (λ_ s₂ =>
 wpAny (model X.prog X.w) X.A (setFlight e none) (λ_ s₃=>wpAny (model X.prog X.w) X.A (handleBy e X.env hs) (SP X aA D) X.xe s₃) X.xe s₂) X.xe s₁ }
abbrev qF(C:Cw)(X:Cx)(xt:Str->Str->Option Bool)(hx:List HX)(D:cJ):Cw:={ C with EE:=λc σ H=>∃ ρ' F',aR X.K C.F0 C.H0 F' H σ ρ'/\bI (C.at X) F' (fZ xt c ρ' hx) D }
section
variable {C:Cw}{X:Cx}{aA:LAO}{σ:L2.St}{H:Hp}{s:Shared}{D:cJ}{hs:List ExceptHandler}{hx:List HX}{xt:Str->Str->Option Bool}
theorem aHJ(o:X.Ok):(jK X aA D hs).Ok:=⟨o.mod,o.kind,o.glob,o.blt,o.above,o.inj,o.has,o.cab,o.hd,o.frames,o.stk,o.exf,o.bs,o.bsz,o.noex,o.exfs,o.funs,o.frf⟩
theorem aHK(I:Inv X aA σ H s):Inv (jK X aA D hs) [] σ H s:=⟨aHJ I.ok,I.os,I.bare,I.base,I.loc,I.cell,I.free,I.freeC,λp hp=>I.pin p (by rw[aPJ] at hp;exact hp),I.hok,I.len⟩
theorem k8{pins':LAO}(o:X.Ok)(I:Inv (jK X aA D hs) pins' σ H s):Inv X aA σ H s:=⟨o,I.os,I.bare,I.base,I.loc,I.cell,I.free,I.freeC,λp hp=>I.pin p (aOT _ hp),I.hok,I.len⟩
theorem aHL(FX:iI X)(o:X.Ok)(hxt:jJ X.K X.mg xt)(hN:X.N.Nodup)(hk:f7 C X hs hx):XOk (CX1 X.prog X.w) (qF C X xt hx D) (jK X aA D hs):=by
 intro pins' σ H s ev s' I h;obtain ⟨e,Cc,a0,H1,B,rfl,ho,hg,fl,fy,c,hm,ρ',F',R',w'⟩:=h;have J:=k8 o I;have fr:X.A.frames=some (X.env::X.outer):=by rw[<- FX.hs];exact o.frames
 have fl0:Heap.FlyingW B (X.env::X.outer) e (.ref Cc) a0 s'.heap:=by rw[<- FX.hs];exact fl
 refine wpAny_looks_onW fr FX.hf fl0 λh4 held up4=>wpAny_landsW held λh5 fl5 up5=>?_;have fl6:Heap.FlyingW B X.stack e (.ref Cc) a0 h5:=by rw[FX.hs];exact fl5
 exact aHI (C:=C) hxt hN J hm R' hk (s:={ s' with heap:=h5 }) fl6 ((fy.on held.1 up4).on fl5.1 up5) ho hg w'
theorem aHM{h0:ExceptHandler}{hr:List ExceptHandler}{body:List Stmt}{pos:Pos}{gb:Rho->aG}(FX:iI X)(hxt:jJ X.K X.mg xt)(hN:X.N.Nodup)(hk:f7 C X (h0::hr) hx)(hb:∀ (o:X.Ok) (aA:LAO) (D:cJ),PBv (qF C X xt hx D) (jK X aA D (h0::hr)) body gb):PSv C X (.Try body (h0::hr) [] [] pos) (λρ=>jI xt hx (gb ρ)):=by
 intro aA s σ H D I q;obtain ⟨ρ,F,R,w⟩:=q;dsimp only at w;refine wpAny_Try_except ?_;have main:=hb I.ok aA D [] s σ H D (aHK I) ⟨ρ,F,R,?_⟩
 . refine aOY main (λf s1 h1=>?_) λ_ _ z=>z;cases f with
   | next=>obtain ⟨σ',H',J,q⟩:=h1;exact aO1 ⟨σ',H',k8 I.ok J,q⟩
   | brk=>obtain ⟨σ',H',J,q⟩:=h1;exact ⟨σ',H',k8 I.ok J,q⟩
   | cont=>obtain ⟨σ',H',J,q⟩:=h1;exact ⟨σ',H',k8 I.ok J,q⟩
   | ret u=>obtain ⟨v,σ',H',J,r,q⟩:=h1;exact ⟨v,σ',H',k8 I.ok J,r,q⟩
 . cases er:gb ρ with
   | nx ρ'=>rw[er] at w;exact w
   | bk ρ'=>rw[er] at w;exact w
   | ct ρ'=>rw[er] at w;exact w
   | rt m d=>rw[er] at w;exact w
   | stuck=>rw[er] at w;exact w
   | exc c ρ'=>rw[er] at w;exact λσ' F' H' z R'=>⟨ρ',F',R',bI.mono z w⟩
end
def fC(mg:SOV)(n:Str)(cv:V):Prop:=(∃ C,mg n=some (.ref C)/\cv=.ref C)\/(mg n=none/\n ≠ "__name__" /\ ∃ T,bootBuiltins n=some (.type T)/\cv=.ty T)
def nK:V->Value | .ref a=>.ref a | .ty T=>.type T | _=>.none
def iJ(K:Fg)(mg:SOV)(xis:Str->Str->Option Bool):Prop:=∀ c n b,xis c n=some b->∃ C cv,PySem.W.nsIn K mainGlobals c=some (some (.ref C))/\fO K C/\fC mg n cv/\PySem.W.kitOne K (.ref C) (nK cv)=some b
def eC(xis:Str->Str->Option Bool)(c:Str):List Str->Option Bool
 | []=>some false
 | n::r=>match xis c n with
  | some true=>some true
  | some false=>eC xis c r
  | none=>none
def nL(xis:Str->Str->Option Bool)(n:Str)(r:Res):Res:=r.thn λ_ d=>match d with
 | .exn c=>(match xis c n with | some b=>.ok .fz (.bl b) | none=>.stuck)
 | _=>.stuck
def k9(xis:Str->Str->Option Bool)(ns:List Str)(r:Res):Res:=r.thn λ_ d=>match d with
 | .exn c=>(match eC xis c ns with | some b=>.ok .fz (.bl b) | none=>.stuck)
 | _=>.stuck
section
variable {C:Cw}{X:Cx}{e:Expr}{g:Rho->Res}{p q pos tp:Pos}{n:Str}{xis:Str->Str->Option Bool}
theorem u0{cv:V}(h:fC X.mg n cv)(hg:Gl X n)(hd:(n==("__debug__" : Str))=false):PE X (.Name n q) (tC cv):=by
 rcases h with ⟨C',hm,rfl⟩ | ⟨hm,hn,T,hv,rfl⟩
 . exact oW hg hm rfl hd
 . exact r8 hg hm hv rfl hn hd
theorem u3{K:Fg}{F H:Hp}{m:Md}{c:Str}{v:V}(s:aH F H)(h:Rp K F H m (.exn c) v):∃ a C,v=.ref a/\PySem.W.nsIn K mainGlobals c=some (some (.ref C))/\H a=some (eJ a C):=by
 cases m with
 | fz=>have h:aF K F (.exn c) v:=h;simp only[aF] at h;obtain ⟨a,C,e,n,q⟩:=h;exact ⟨a,C,e,n,s _ _ q⟩
 | fr=>obtain ⟨_,_,_,q⟩:=h;exact q.elim
 | bo=>obtain ⟨_,_,_,q⟩:=h;exact q.elim
theorem u4{cv:V}{u:Value}(h:fC X.mg n cv)(r:aM cv u):u=nK cv:=by
 rcases h with ⟨C',hm,rfl⟩ | ⟨hm,hn,T,hv,rfl⟩
 . exact r
 . exact r
theorem u5{cv cv':V}(h:fC X.mg n cv)(h':fC X.mg n cv'):cv=cv':=by
 rcases h with ⟨C1,hm,rfl⟩ | ⟨hm,hn,T,hv,rfl⟩ <;> rcases h' with ⟨C2,hm',rfl⟩ | ⟨hm',hn',T',hv',rfl⟩
 . rw[hm] at hm';cases hm';rfl
 . rw[hm] at hm';cases hm'
 . rw[hm] at hm';cases hm'
 . rw[hv] at hv';cases hv';rfl
theorem aHN(hX:iJ X.K X.mg xis)(hcv:∃ cv,fC X.mg n cv)(hg:Gl X "isinstance")(hn:X.mg "isinstance" = none)(hgc:Gl X n)(hdb:(n==("__debug__" : Str))=false)(he:PV C X e g)(hs:bJ e=true):PV C X (.Call (.Name "isinstance" p) [e,.Name n q] [] pos) (λρ=>nL xis n (g ρ)):=by
 obtain ⟨cv,hcv⟩:=hcv;have ha:PA X [e,.Name n q] (eW (tG (C.at X) g) (eW (tC cv) mH)):=eY he (eY (u0 hcv hgc hdb) iA) (bO hs);have hc:fG X (.builtin "isinstance") (λvs H Q=>∃ a C' b,vs=[.ref a,cv]/\H a=some (eJ a C')/\fO X.K C'/\PySem.W.kitOne X.K (.ref C') (nK cv)=some b/\Q (.bl b) H):=by
  intro aA s σ H vs us Q I r h;obtain ⟨a,C',b,rfl,ho,Z,hb,hq⟩:=h;obtain ⟨u,u',rfl,ru,ru'⟩:=pB r;cases (show u=Value.ref a from ru)
  have eu:=u4 hcv ru';subst eu;obtain ⟨⟨o,h1,h2⟩,_⟩:=(show bS X.prog X.w H s.heap a (eJ a C') from I.hok a _ ho)
  exact aQ1 (uX (ox:=o) Z) I.kIn ⟨h1,h2⟩ hb (λz=>nomatch z) λtk=>⟨.bl b,H,I.tok _,rfl,hq⟩
 refine PE.imp (pE hc hg hn pQ ha (by decide) (by decide) (bO hs) (fN _ _ λy hy=>by simp only[aOR,aR5,aR6] at hy;subst hy;rfl)) λσ H Q q=>?_
 rw[aV] at q;obtain ⟨ρ,F,R,w⟩:=q;unfold tCB eW;rw[aV];refine ⟨ρ,F,R,?_⟩;cases er:g ρ with
 | stuck=>rw[er] at w;exact w
 | exc c=>rw[er] at w;exact w
 | ok m d =>
  rw[er] at w;intro v F1 H1 s1 r1 _;have w1:aS (C.at X) F1 H1 σ (nL xis n (.ok m d)) Q:=aS.step s1 w;cases d with
  | exn c =>
   have w1:aS (C.at X) F1 H1 σ (match xis c n with | some b=>.ok .fz (.bl b) | none=>.stuck) Q:=w1
   cases ex:xis c n with
   | none=>rw[ex] at w1;exact w1.elim
   | some b=>rw[ex] at w1;obtain ⟨C',cv',n1,Z,hcv',kb⟩:=hX c n b ex;cases u5 hcv hcv';obtain ⟨a,C2,rfl,n2,ho⟩:=u3 s1.sub r1;rw[n1] at n2;cases n2;exact ⟨a,C',b,rfl,ho,Z,kb,w1 _ F1 H1 (.refl s1.sub) (bY _) (by intro z;cases z)⟩
  | _=>exact w1.elim
def jL(mg:SOV):List Str->List V->Prop
 | [],vs=>vs=[]
 | n::r,vs=>∃ v us,vs=v::us/\fC mg n v/\jL mg r us
def tCs:List V->TA
 | []=>mH
 | v::vs=>eW (tC v) (tCs vs)
theorem u6:∀ {ns:List Str} {es:List Expr} {vs:List V},jL X.mg ns vs->(∀ n∈ns,Gl X n/\(n==("__debug__" : Str))=false)->es.length=ns.length->(∀ (i:Nat) (n:Str),ns[i]? = some n->∃ q,es[i]? = some (Expr.Name n q))->PA X es (tCs vs)
 | [],[],vs,h,_,_,_=>by rw[show vs=[] from h];exact iA
 | [],_::_,_,_,_,hl,_=>by simp at hl
 | _::_,[],_,_,_,hl,_=>by simp at hl
 | n::ns,e::es,vs,h,hg,hl,hi=>by
  obtain ⟨v,us,rfl,hv,hr⟩:=h;obtain ⟨q,eq⟩:=hi 0 n rfl;have:e=.Name n q:=by simpa using eq
  subst this;obtain ⟨g1,g2⟩:=hg n mcs;exact eY (u0 hv g1 g2) (u6 hr (λm hm=>hg m (mcm hm)) (by simpa using hl) λi m em=>by have:=hi (i+1) m (by simpa using em);simpa using this) (bO rfl)
theorem u7{σ:L2.St}{H:Hp}{Q:List V->Hp->Prop}:∀ {vs:List V} (pre:List V),Q (pre++vs) H->tCs vs σ H (λxs H'=>Q (pre++xs) H')
 | [],pre,h=>h
 | v::vs,pre,h=>by
  show tCs vs σ H (λxs H'=>Q (pre++v::xs) H');have:=u7 (σ:=σ) (vs:=vs) (Q:=Q) (pre++[v]) (by simpa using h)
  simpa using this
theorem aHO{σ:L2.St}{H:Hp}{vs:List V}{Q:List V->Hp->Prop}(h:Q vs H):tCs vs σ H Q:=u7 (Q:=Q) [] h
theorem u8{Cc:Addr}{c:Str}(hX:iJ X.K X.mg xis)(n1:PySem.W.nsIn X.K mainGlobals c=some (some (.ref Cc))):∀ {ns:List Str} {vs:List V} {us:List Value} {b:Bool},jL X.mg ns vs->aN vs us->eC xis c ns=some b->PySem.W.kitAny X.K (.ref Cc) us=some b
 | [],vs,us,b,h,r,e=>by rw[show vs=[] from h] at r;cases r;exact e
 | n::ns,vs,us,b,h,r,e=>by
  obtain ⟨v,vs',rfl,hv,hr⟩:=h;cases r with
  | cons r1 r2 =>
   cases u4 hv r1;unfold eC at e;unfold PySem.W.kitAny;cases ex:xis c n with
   | none=>rw[ex] at e;cases e
   | some bb =>
    rw[ex] at e;obtain ⟨C',cv',n2,Z,hcv',kb⟩:=hX c n bb ex;rw[n1] at n2;cases n2;cases u5 hv hcv';rw[kb];cases bb with
    | true=>exact e
    | false=>exact u8 hX n1 hr r2 e
theorem aHP{c:Str}(hX:iJ X.K X.mg xis):∀ {ns:List Str} {b:Bool},ns≠[]->eC xis c ns=some b->∃ C,PySem.W.nsIn X.K mainGlobals c=some (some (.ref C))/\fO X.K C
 | [],_,h,_=>absurd rfl h
 | n::ns,b,_,e=>by
  unfold eC at e;cases ex:xis c n with
  | none=>rw[ex] at e;cases e
  | some bb=>obtain ⟨C',cv',n2,Z,_⟩:=hX c n bb ex;exact ⟨C',n2,Z⟩
theorem aHQ{ns:List Str}{es:List Expr}{kk}(hX:iJ X.K X.mg xis)(hne:ns≠[])(hcv:∃ vs,jL X.mg ns vs)(hz:ns.length<=100)(hg:Gl X "isinstance")(hn:X.mg "isinstance" = none)(hgc:∀ n∈ns,Gl X n/\(n==("__debug__" : Str))=false)(hl:es.length=ns.length)(hi:∀ (i:Nat) (n:Str),ns[i]? = some n->∃ q,es[i]? = some (Expr.Name n q))(he:PV C X e g)(hs:bJ e=true):PV C X (.Call (.Name "isinstance" p) [e,.Tuple es kk tp] [] pos) (λρ=>k9 xis ns (g ρ)):=by
 obtain ⟨cvs,hcv⟩:=hcv;have hlen:cvs.length=ns.length:=by
  have:∀ {ns:List Str} {vs:List V},jL X.mg ns vs->vs.length=ns.length:=by
   intro ns
   induction ns with
   | nil=>intro vs h;rw[show vs=[] from h];rfl
   | cons n r ih=>intro vs h;obtain ⟨v,us,rfl,_,h⟩:=h;rw[aQJ,aQJ,ih h]
  exact this hcv
 have ha:PA X [e,.Tuple es kk tp] (eW (tG (C.at X) g) (eW (mJ (tCs cvs)) mH)):=eY he (eY (sM (u6 hcv hgc hl hi)) iA (bO rfl)) (bO hs);have hc:fG X (.builtin "isinstance") (λvs H Q=>∃ a t C' c b,vs=[.ref a,.ref t]/\H a=some (eJ a C')/\PySem.W.nsIn X.K mainGlobals c=some (some (.ref C'))/\fO X.K C'/\H t=some (.tup cvs)/\eC xis c ns=some b/\Q (.bl b) H):=by
  intro aA s σ H vs us Q I r h;obtain ⟨a,t,C',c,b,rfl,ho,n1,Z,ht,hb,hq⟩:=h;obtain ⟨u,u',rfl,ru,ru'⟩:=pB r;cases (show u=Value.ref a from ru)
  cases (show u'=Value.ref t from ru')
  obtain ⟨⟨o,h1,h2⟩,_⟩:=(show bS X.prog X.w H s.heap a (eJ a C') from I.hok a _ ho)
  obtain ⟨_,its,rv,ot,e1,e2,_,nn,e3⟩:=(show bS X.prog X.w H s.heap t (.tup cvs) from I.hok t _ ht)
  obtain ⟨oc,od,oda,osl⟩:=ot;have e2:oc=.type "tuple" := e2;have e3:oda=.seq its.toArray nn:=e3;subst e2 e3;exact PySem.W.kia_tup (uX (ox:=o) Z) I.kIn ⟨h1,h2⟩ e1 (u8 hX n1 hcv rv hb) (λz=>nomatch z) λtk=>⟨.bl b,H,I.tok _,rfl,hq⟩
 refine PE.imp (pE hc hg hn pQ ha (by decide) (by decide) (bO hs) (fN _ _ λy hy=>by simp only[aOR,aR5,aR6] at hy;subst hy;rfl)) λσ H Q q=>?_
 rw[aV] at q;obtain ⟨ρ,F,R,w⟩:=q;unfold tCB eW;rw[aV];refine ⟨ρ,F,R,?_⟩;cases er:g ρ with
 | stuck=>rw[er] at w;exact w
 | exc c=>rw[er] at w;exact w
 | ok m d =>
  rw[er] at w;intro v F1 H1 s1 r1 _;have w1:aS (C.at X) F1 H1 σ (k9 xis ns (.ok m d)) Q:=aS.step s1 w;cases d with
  | exn c =>
   have w1:aS (C.at X) F1 H1 σ (match eC xis c ns with | some b=>.ok .fz (.bl b) | none=>.stuck) Q:=w1
   cases ex:eC xis c ns with
   | none=>rw[ex] at w1;exact w1.elim
   | some b =>
    rw[ex] at w1;obtain ⟨C',n1,Z⟩:=aHP hX hne ex;obtain ⟨a,C2,rfl,n2,ho⟩:=u3 s1.sub r1;rw[n1] at n2;cases n2;unfold mJ;refine aHO ⟨?_,λt ht=>?_⟩
    . show cvs.length<=sizeLine;rw[hlen,aPH];omega
    . have hat:a≠t:=λz=>by rw[z,ht] at ho;cases ho
      exact ⟨a,t,C',c,b,rfl,by rw[aO hat];exact ho,n1,Z,bN,ex,w1 _ _ _ (aK.laid (.tup cvs) s1.sub ht) (bY _) (by intro z;cases z)⟩
  | _=>exact w1.elim
end
theorem aHR{P:Program}{w:World}{K:Fg}{mg:SOV}{base:Heap}{x aP:Str}{st:Stmt}{f:Addr}{fd:FuncData}{N ps:List Str}{k:Nat}{g:Rho->aG}(F:Fun K x aP st f fd)(S:mL N ps (e6 st))(hbody:∀ (C:Cw) (cdv:Value) (A:Around) (outer:List Env) (s:Shared) (H:Hp) (E:XK),C.EE=k7 mg E->cK k (A.deeper (envOfC aP (e6 st) s.heap.objs.size f cdv))->PBv C (dH (CX1 P w) P w K mg base N aP (e6 st) f cdv A outer s H E) (iZ st) g):c8 P w K mg base (CX1 P w) (k+1) f fd ps (spV K mg ps.length (phi ps.length N.length g)):=by
 obtain ⟨oc,od,kV,doc,pm,an,cdv,ct,osl,rfl,lk,hcd⟩:=F.ex;refine fn_of lk hcd S (λvs H Q E h=>h.1) λA outer s H vs Q E hr h=>?_;obtain ⟨hl,F0,ds,sF,rl,h⟩:=h;have hl':ds.length=ps.length:=by rw[<- rl.length];exact hl
 let C:Cw:=⟨K,F0,H,k7 mg E⟩
 refine ⟨_,hbody C cdv A outer s H E rfl hr,fB N.length ds,F0,aFH sF rl,?_⟩;unfold phi at h;rw[if_pos hl'] at h;cases er:g (fB N.length ds) with
 | nx ρ=>rw[er] at h;exact λσ' F' H' _ R=>h.2 .non F' H' R.st tM (by intro z;cases z)
 | rt m d=>rw[er] at h;exact λv F' H' s rp fr=>h.2 v F' H' s rp fr
 | bk ρ=>rw[er] at h;exact h.elim
 | ct ρ=>rw[er] at h;exact h.elim
 | exc c ρ=>rw[er] at h;exact λσ' F' H' _ R u hu=>h F' H' u R.st hu
 | stuck=>rw[er] at h;exact h.elim
def f8(ρ:Rho)(i:Nat)(r:Res):aG:=match ρ[i]? with
 | some (some (true,.lst ds))=>(a8 r).thS ρ λm d=>match m with | .fz=>if ds.length<sizeLine then .nx (ρ.set i (some (true,.lst (ds++[d])))) else .stuck | _=>.stuck
 | _=>.stuck
section
variable {C:Cw}{X:Cx}{e:Expr}{g:Rho->Res}{x:Str}{p ap cp pos:Pos}
theorem aHS(i:Nat)(hv:PE X (.Name x p) (hV i))(he:PV C X e g)(hs:bJ e=true)(hline:ap.endLine=cp.line):PSv C X (.Expr (.Call (.Attribute (.Name x p) "append" ap) [e] [] cp) pos) (λρ=>f8 ρ i (g ρ)):=by
 have h1 := tB (X := X) (o := .Name x p) (e := e) (es := []) (apos := ap) (cpos := cp) PySem.F.plainAttrs_list PySem.F.slot_list_append PySem.F.type_list_append pG hv (eY (fK he) iA (bO hs)) (uL rfl) (by
     rw[pR _ _ (λy hy=>by simp only[aOR,aR5,aR6] at hy;subst hy;exact hs)];rfl) (aQ0.mpr hline) (bO hs) rfl
 refine PS.imp (o7 h1) λE σ H q=>?_;obtain ⟨ρ,F,R,w⟩:=q;dsimp only at w;unfold oY tBM;cases e0:ρ[i]? with
 | none=>unfold f8 at w;rw[e0] at w;exact w.elim
 | some o =>
  cases o with
  | none=>unfold f8 at w;rw[e0] at w;exact w.elim
  | some bd =>
   obtain ⟨b,d0⟩:=bd;cases b with
   | false=>unfold f8 at w;rw[e0] at w;exact w.elim
   | true =>
    cases d0 with
    | lst ds =>
     unfold f8 at w;rw[e0] at w;dsimp only at w;obtain ⟨v0,ev0,rp0,hn0⟩:=R.slot i true _ e0;obtain ⟨a,ea,hfa,xs,hh,rl⟩:=rp0;subst ea;refine ⟨.ref a,ev0,.inl ⟨rfl,xs,SqL.of hh⟩,?_⟩;unfold eW;refine fX R w λm d v F' H' w' s R' rp fr=>?_;cases m with
     | fr=>exact (show False from w').elim
     | bo=>exact (show False from w').elim
     | fz =>
     dsimp only at w';split at w'
     . rename_i hl;have hh':H' a=some (.lst xs):=s.same _ _ hh;refine ⟨a,xs,v,rfl,rfl,hh',by rw[rl.length];exact hl,?_⟩
       exact w' σ F' _ (aH.refl _) (R'.mut e0 ev0 ⟨_,bN,aB.append (rl.mono s.fsame _ _) (aB.cons rp aB.nil)⟩)
     . exact w'.elim
    | _=>unfold f8 at w;rw[e0] at w;exact w.elim
end
def Hld(B:Heap)(l:List Env)(e:Addr)(cls a0:Value)(h:Heap):Prop:=B.StaysIn h/\B.get? e=none/\h.FunFrames B l/\∃ fl,h.TracedAtW B e cls a0 fl
section
variable {M:Model}{A:Around}{E:VSP}{s:Shared}{B:Heap}{env:Env}{outer:List Env}{L e:Addr}{cls a0:Value}{Q:Unit->Shared->Prop}
theorem aHT(hfr:A.frames=some (env::outer))(hf:env.frame=some L)(hh:Hld B (env::outer) e cls a0 s.heap)(hQ:∀ h',Heap.HeldW B (env::outer) e cls a0 L h'->s.heap.UpToSlots h'->Q () { s with heap:=h' }):wpAny M A (noteFrame (.ref e) env) Q E s:=by
 obtain ⟨k1,k2,k3,fl,ht⟩:=hh;by_cases hl:fl=rawInt L
 . subst hl;exact wpAny_noteFrame_againW hf ht (hQ s.heap ⟨k1,k2,k3,ht⟩ (Heap.UpToSlots.refl _))
 obtain ⟨oe,xs,T,oT,ys,q1,⟨q2,q3⟩,q4,q5,q6,q7,q8,q9,q10⟩:=ht;subst q2;unfold noteFrame;simp only[hf];refine aO3 (aP4 q1 q4 q5 ?_);have n1:(Value.ref T != Value.none)=true:=by simp
 have n2:¬ ((fl==rawInt L)=true):=by rw[aQ0];exact hl
 rw[if_pos n1];refine aO3 (aP4 q8 q9 q10 ?_);rw[if_neg n2];obtain ⟨lt3,_⟩:=aSC.mp q10;obtain ⟨lt1,_⟩:=aSC.mp q5;refine aO3 (aRU q8 q9 lt3 ?_);generalize hg:s.heap.update T (Obj.mapFields λz=>z.setIfInBounds 3 Value.none)=g;have oth:∀ b,b≠T->g.get? b=s.heap.get? b:=λb hb=>by rw[<- hg];exact aQF _ _ (Ne.symm hb)
 have plain:∀ b o,s.heap.get? b=some o->(∀ z,o.data ≠ .fields z)->g.get? b=some o:=λb o w1 w2=>by rw[oth b (by rintro rfl;rw[q8] at w1;cases w1;exact w2 ys q9)];exact w1
 have inB:∀ b o,B.get? b=some o->g.get? b=some o:=λb o w=>by rw[oth b (by rintro rfl;rw[q6] at w;cases w)];exact k1 b o w
 refine wpAny_entryW (s:={ s with heap:=g }) hfr (k3.of_keeps λb o w1 w2=>⟨o,plain b o w1 w2,rfl⟩) hf (by show g.get? e=_;rw[oth e (Ne.symm q7)];exact q1) inB k2 q4 lt1 q3 λh' hn=>?_
 obtain ⟨m1,m2,m3,m4⟩:=hn;exact hQ h' ⟨m1,k2,m2,m3⟩ λb o w1 w2=>m4 b o (plain b o w1 w2) w2
theorem aHU(hfr:A.frames=some (env::outer))(hf:env.frame=some L)(hh:Hld B (env::outer) e cls a0 s.heap)(hQ:∀ h',Heap.FlyingW B outer e cls a0 h'->s.heap.UpToSlots h'->Q () { s with heap:=h' }):wpAny M A (leaving env (.ref e)) Q E s:=by
 unfold leaving;refine aO3 (aHT hfr hf hh λh4 held up4=>?_);refine wpAny_landsW (s:={ s with heap:=h4 }) held λh5 fl up5=>?_
 obtain ⟨w1,w2,w3,w4⟩:=fl;exact hQ h5 ⟨w1,w2,w3.2.2,w4⟩ (up4.trans up5)
theorem aHV{α:Type}{l:List Env}{what:String}{R:α->Shared->Prop}{cenv:Env}(hh:Hld B l e cls a0 s.heap)(hE:∀ h',Hld B l e cls a0 h'->(∀ b o,s.heap.get? b=some o->(∀ z,o.data ≠ .fields z)->h'.get? b=some o)->(∀ b o,B.get? b=some o->h'.get? b=some o)->E (.ref e) { s with heap:=h' }):wpAny M A (PySem.passOn what (.ref e) cenv:Sem α) R E s:=by
 obtain ⟨k1,k2,k3,fl,ht⟩:=hh;obtain ⟨oe,xs,T,oT,ys,q1,q2,q4,q5,q6,q7,q8,q9,q10⟩:=ht;obtain ⟨lt3,_⟩:=aSC.mp q10;have n1:(Value.ref T != Value.none)=true:=by simp
 have n0:¬ ((Value.ref T==Value.none)=true):=by simp
 unfold PySem.passOn;refine aO3 (aP4 q1 q4 q5 ?_);rw[if_neg n0];show wpAny M A (do setFlight (.ref e) cenv.frame;throw (.ref e)) R E s
 refine aO3 ?_;unfold setFlight;refine aO3 (aP4 q1 q4 q5 ?_);rw[if_pos n1];refine aRU q8 q9 lt3 (wpAny_throw ?_);generalize hv:(cenv.frame.elim Value.none λf=>rawInt f)=v;generalize hg:s.heap.update T (Obj.mapFields λz=>z.setIfInBounds 3 v)=g;have oth:∀ b,b≠T->g.get? b=s.heap.get? b:=λb hb=>by rw[<- hg];exact aQF _ _ (Ne.symm hb)
 have plain:∀ b o,s.heap.get? b=some o->(∀ z,o.data ≠ .fields z)->g.get? b=some o:=λb o w1 w2=>by rw[oth b (by rintro rfl;rw[q8] at w1;cases w1;exact w2 ys q9)];exact w1
 have inB:∀ b o,B.get? b=some o->g.get? b=some o:=λb o w=>by rw[oth b (by rintro rfl;rw[q6] at w;cases w)];exact k1 b o w
 refine hE g ⟨inB,k2,k3.of_keeps λb o w1 w2=>⟨o,plain b o w1 w2,rfl⟩,v,oe,xs,T,Obj.mapFields (λz=>z.setIfInBounds 3 v) oT,ys.setIfInBounds 3 v,?_,q2,q4,q5,q6,q7,?_,aRV q9 _,by simp[lt3]⟩ plain inB
 . rw[oth e (Ne.symm q7)];exact q1
 . rw[<- hg];exact Heap.get?_update_self _ q8 (Obj.isFreed_of_fields (aRV q9 _))
end
def HX1(P:Program)(w:World):CXT:=λouter H s E ev s'=>∃ (e C:Addr) (a0:Value) (H1:Hp) (B:Heap),
 ev=.ref e/\s'.os=s.os/\AllBare s'.gens/\Hld B outer e (.ref C) a0 s'.heap/\Fly P w outer H s H1 B s'.heap/\E (.ref C) none H1
section
variable {P:Program}{w:World}{K:Fg}{mg:SOV}{base:Heap}{N:List Str}{aP:Str}{scope:Scope}{f:Addr}{cdv:Value}{A:Around}{outer:List Env}{s:Shared}{H:Hp}{E:XK}
theorem aHW{C:Cw}(hE:C.EE=k7 mg E):XOk (HX1 P w) C (dH (CX1 P w) P w K mg base N aP scope f cdv A outer s H E):=by intro aA σ H1 s1 ev s' I h;obtain ⟨e,Cc,a0,H2,B,rfl,ho,hg,fl,fy,c,hm,he⟩:=h;rw[hE] at he;refine aHU I.ok.frames rfl fl λh' fl' up=>?_;exact ⟨e,Cc,a0,H2,B,rfl,ho.trans I.os,hg,fl',fy.out I ho hg rfl rfl rfl fl'.1 up,he _ hm⟩
end
section
variable {C:Cw}{X:Cx}{aA:LAO}{D:cJ}{hs:List ExceptHandler}{hx:List HX}{xt:Str->Str->Option Bool}
end
section
variable {P:Program}{w:World}{outer:List Env}{H H1:Hp}{s:Shared}{B hp h':Heap}{Z:Addr}
theorem Fly.hide(f:Fly P w outer H s H1 B hp)(hz:Z∉frs outer)(h1:H1 Z=none):Fly P w outer H { s with heap:=PySem.W.hideAll s.heap [Z] } H1 (PySem.W.hideAll B [Z]) hp where
 un:={
  keep:=λb o e=>f.un.keep b o (aOM _ e)
  slot:=λb o e=>f.un.slot b o (aOM _ e)
  free:=λb o e=>f.un.free b o (aOM _ e)
  there:=λb o e=>f.un.there b o (aOM _ e)
  tups:=f.un.tups
  frzs:=f.un.frzs
  tbls:=f.un.tbls }
 ok:=f.ok
 kb:=λb o e ns hb=>by
  have nz:b∉[Z]:=λz=>ns (aOO _ z);refine aOL _ (f.kb b o e (λz=>ns ?_) hb) nz;cases q:(PySem.W.hideAll s.heap [Z]).get? b with
  | none=>rfl
  | some o'=>rw[aOM _ q] at z;cases z
 kh:=λb u e=>by obtain ⟨o,e1,e2⟩:=f.kh b u e;exact ⟨o,e1,aOL _ e2 λz=>by rw[aRP] at z;subst z;rw[h1] at e;cases e⟩
 fr:=λb hb=>by obtain ⟨e1,o,e2,e3⟩:=f.fr b hb;exact ⟨e1,o,aOL _ e2 λz=>by rw[aRP] at z;subst z;exact hz hb,e3⟩
theorem Fly.on2(f:Fly P w outer H s H1 B hp)(st:B.StaysIn h')(up:∀ b∈frs outer,∀ o,hp.get? b=some o->(∀ vs,o.data ≠ .fields vs)->∃ sl,h'.get? b=some { o with slots:=sl }):Fly P w outer H s H1 B h':=by
 have slots:∀ {b:Addr},b∈frs outer->∃ o sl',s.heap.get? b=some o/\h'.get? b=some { o with slots:=sl' }:=λ{b} hb=>by obtain ⟨hn,o,e,nf⟩:=f.fr b hb;obtain ⟨sl,e1⟩:=f.un.slot b o e hn hb dM;obtain ⟨sl',e2⟩:=up b hb _ e1 nf;exact ⟨o,sl',e,e2⟩
 refine ⟨⟨λb o e n hb _=>st b o (f.kb b o (f.un.keep b o e n hb dM) (by rw[e];exact λz=>nomatch z) hb),λb o e n hb _=>?_,f.un.free,λb o e _=>?_,f.un.tups,f.un.frzs,f.un.tbls⟩,?_,λb o e ns hb=>?_,λb u e=>?_,f.fr⟩
 . obtain ⟨o',sl',e0,e2⟩:=slots hb;rw[e] at e0;cases e0;exact ⟨sl',e2⟩
 . by_cases hb:b∈frs outer
   . obtain ⟨o',sl',e0,e2⟩:=slots hb;exact ⟨_,e2⟩
   . obtain ⟨o',e1⟩:=f.un.there b o e dM;exact ⟨o',st b o' (f.kb b o' e1 (by rw[e];exact λz=>nomatch z) hb)⟩
 . exact λa o e=>(f.ok a o e).stay (λb u hb q=>by
     have:∃ u',H1 b=some u':=by
      rcases hb with rfl | hb
      . exact ⟨o,e⟩
      . exact ⟨_,hb⟩
     obtain ⟨u',eu⟩:=this;obtain ⟨o',e1,e2⟩:=f.kh b u' eu;rw[q] at e1;cases e1;exact st b u e2) (λ_ q=>q) λ_ _ q=>q
 . cases e0:s.heap.get? b with
   | none=>exact absurd e0 ns
   | some o0=>obtain ⟨o',e1⟩:=f.un.there b o0 e0 dM;have e2:=f.kb b o' e1 ns hb;have e3:=st b o' e2;rw[e] at e3;cases e3;exact e2
 . obtain ⟨o,_,e2⟩:=f.kh b u e;exact ⟨o,st b o e2,e2⟩
end
abbrev f9(X:Cx)(scope:Scope)(N:List Str)(cl:List (Str×Addr))(C:Addr)(fp:List Addr)(s3:Shared)(H3:Hp)(XE:VSP):Cx:={ aQ X scope N cl C fp s3 H3 with xe:=XE }
section
variable {X:Cx}{XE:VSP}{aA:LAO}{σ:L2.St}{H:Hp}{s:Shared}
theorem ok_xe(o:X.Ok):({ X with xe:=XE }:Cx).Ok:=⟨o.mod,o.kind,o.glob,o.blt,o.above,o.inj,o.has,o.cab,o.hd,o.frames,o.stk,o.exf,o.bs,o.bsz,o.noex,o.exfs,o.funs,o.frf⟩
theorem aHX(o:({ X with xe:=XE }:Cx).Ok):X.Ok:=⟨o.mod,o.kind,o.glob,o.blt,o.above,o.inj,o.has,o.cab,o.hd,o.frames,o.stk,o.exf,o.bs,o.bsz,o.noex,o.exfs,o.funs,o.frf⟩
theorem aHY(I:Inv X aA σ H s):Inv { X with xe:=XE } aA σ H s:=⟨ok_xe I.ok,I.os,I.bare,I.base,I.loc,I.cell,I.free,I.freeC,I.pin,I.hok,I.len⟩
theorem u9(I:Inv { X with xe:=XE } aA σ H s):Inv X aA σ H s:=⟨aHX I.ok,I.os,I.bare,I.base,I.loc,I.cell,I.free,I.freeC,I.pin,I.hok,I.len⟩
end
theorem aHZ{e:Value}{env env':Env}(h:env.frame=env'.frame):noteFrame e env=noteFrame e env':=by unfold noteFrame PySem.frameOf;rw[h]
theorem aH0(h:Heap)(Z:Addr):Heap.SameBut Z h (PySem.W.hideAll h [Z]):=⟨PySem.W.hideAll_size _ _,λb hb=>by
 have nz:b∉[Z]:=λz=>hb (aRP.mp z);cases e:h.get? b with
 | some o=>exact aOL _ e nz
 | none =>
  cases e':(PySem.W.hideAll h [Z]).get? b with
  | none=>rfl
  | some o=>rw[aOM _ e'] at e;cases e⟩
theorem vA{h h' B B':Heap}:∀ {l:List Env},h.FunFrames B l->(∀ b,B.get? b=none->B'.get? b=none)->(∀ b∈frs l,∀ o,h.get? b=some o->h'.get? b=some o)->h'.FunFrames B' l
 | [],_,_,_=>trivial
 | env::l,f,hb,k=>by
  obtain ⟨k1,⟨L,o,f1,f2,f3,f4⟩,f5⟩:=f;have mem:∀ b∈frs l,b∈frs (env::l):=λb hb=>by unfold frs at hb ⊢;rw[aOQ,f1];exact mcm hb
  refine ⟨k1,⟨L,o,f1,hb L f2,k L ?_ o f3,f4⟩,vA f5 hb λb hb o e=>k b (mem b hb) o e⟩;unfold frs;rw[aOQ,f1];exact mcs
theorem aH1{B h h':Heap}{l:List Env}{e L Z:Addr}{cls a0:Value}(hd:Heap.HeldW B l e cls a0 L h)(hB:∃ o,B.get? Z=some o)(sb:Heap.SameBut Z h h')(hz:Z∉frs l):Hld (PySem.W.hideAll B [Z]) l e cls a0 h':=by
 obtain ⟨k1,k2,k3,oe,xs,T,oT,ys,q1,q2,q4,q5,q6,q7,q8,q9,q10⟩:=hd;obtain ⟨oZ,hB⟩:=hB;have ne:∀ b,B.get? b=none->b≠Z:=λb w z=>by rw[z,hB] at w;cases w
 have none':∀ b,B.get? b=none->(PySem.W.hideAll B [Z]).get? b=none:=λb w=>by
  cases q:(PySem.W.hideAll B [Z]).get? b with
  | none=>rfl
  | some o=>rw[aOM _ q] at w;cases w
 refine ⟨λb o w=>?_,none' e k2,vA k3 none' λb hb o w=>?_,rawInt L,oe,xs,T,oT,ys,?_,q2,q4,q5,none' T q6,q7,?_,q9,q10⟩
 . have nz:b≠Z:=λz=>by rw[z,aOO _ (aRP.mpr rfl)] at w;cases w
   rw[sb.2 b nz];exact k1 b o (aOM _ w)
 . rw[sb.2 b (by rintro rfl;exact hz hb)];exact w
 . rw[sb.2 e (ne e k2)];exact q1
 . rw[sb.2 T (ne T q6)];exact q8
end D3
namespace L2
open PySem PySem.Spec PyProof.Rows D3
section
variable {prog:Program}{w:World}{A:Around}{R:Result->Shared->Prop}{s:Shared}
theorem aH2 {elt target aI : Expr} {ifs : List Expr} {scope : Scope} {pos : Pos} {it acc : Value} {env : Env} (I : Nat → Shared → Prop) (turn : ∀ n s, I n s → wpAny (model prog w) A (pyNext it) (fun r s1 => match r with
      | none=>R (.ok .next) s1
      | some v => wpAny (model prog w) A (letOwnedTupleGo target it v) (fun _ s1' => wpAny (model prog w) A (assign target env v) (fun _ s2 =>
          wpAny (model prog w) A (forIn ifs true λc r=>if r=true then do let ok <- isTrue c env (eval c env);pure (ForInStep.yield ok) else pure (ForInStep.yield r)) (λok s3 =>
           if ok=true then wpAny (model prog w) A (eval elt env) (λx s4 =>
            wpAny (model prog w) A (call (.builtin "list.append") [acc,x]) (λ_ s5=>∃ m,m<n/\I m s5) (λ_ _=>False) s4) (notedBy (model prog w) A env λx s'=>R (.error x) s') s3
           else ∃ m, m < n ∧ I m s3) (fun _ _ => False) s2) (fun _ _ => False) s1') (fun _ _ => False) s1) (fun _ _ => False) s)
    (n:Nat) (h:I n s) :
    codeAny (model prog w) A (.compLoop (.ListComp elt [⟨target,aI,ifs,0⟩] scope pos) 0 it acc env) R s:=by
 refine codeAny_loop rfl I (λn s hI=>?_) n h;show wpAny _ A ((compTurn (.ListComp elt [⟨target,aI,ifs,0⟩] scope pos) 0 it acc env).onRaise (λx=>do noteFrame x env;theTreesLotGoes x)) _ _ s
 refine wpAny_noted ?_;rw[compTurn_list];refine aO3 (aO4 (aO3 (aOY (turn n s hI) (λr s1 h1=>?_) λ_ _ h'=>h'.elim)));cases r with
 | none=>exact aO5 h1
 | some v =>
  refine aO3 (aOY h1 (λ_ s1' h1'=>?_) λ_ _ h'=>h'.elim);refine aO3 (aOY h1' (λ_ s2 h2=>aO3 (aOY h2 (λok s3 h3=>?_) λ_ _ h'=>h'.elim)) λ_ _ h'=>h'.elim);cases ok with
  | false=>exact aO5 ⟨rfl,h3⟩
  | true=>exact aO3 (aO3 (aOY h3 (λx s4 h4=>aO3 (aOY h4 (λ_ s5 h5=>aO5 (aO5 ⟨rfl,h5⟩)) λ_ _ h'=>h'.elim)) λ_ _ h'=>h'))
end
theorem aH3{X:Cx}{C0:Cw}{elt aI tg:Expr}{ifs:List Expr}{scope:Scope}{pos:Pos}{aD:List Nat}{aE tgN:List Str}{wi:TI}{gt:TG}{tt:TT}{te:TE}{use:Option (Value->Sem Unit)}{QQ:VSP}{aA:LAO}{s:Shared}{σ:St}{H:Hp}{Q:VK}(hc:X.calm=true)(hi:PI X tg aI wi)(bW:∀ y∈scope.names,y.2 ≠ .cell)(bX:scope.kind=.function)(cY:∀ y∈scope.names,y.2=.local->scope.names.lookup y.1=some .local)(b0:∀ y∈scope.names,y.2=.free->X.env.kindOf y.1=some .cell\/X.env.kindOf y.1=some .free)(cG:aE.map some=aD.map λi=>X.N[i]?)(c7:∀ y∈aE,(y,NameKind.free)∈scope.names)(cZ:∀ y∈aE,(relabel scope X.env).names.lookup y=some .cell\/(relabel scope X.env).names.lookup y=some .free)(hg:∀ cl C fp s3 H3,PG (aQ X scope (aE++tgN) cl C fp s3 H3) tg gt)(hf:∀ cl C fp s3 H3,cO (aQ X scope (aE++tgN) cl C fp s3 H3) ifs tt)(FX:iI X)(xh:XOk (HX1 X.prog X.w) C0 X)(he:∀ cl C fp s3 H3 XE,XOk (CX1 X.prog X.w) { C0 with EE:=λc _ H'=>C0.EE c σ H' } (f9 X scope (aE++tgN) cl C fp s3 H3 XE)->PE (f9 X scope (aE++tgN) cl C fp s3 H3 XE) elt te)(hs:∀ x,foldedSetIterable aI X.env x=pure x)(I:Inv X aA σ H s)(h:fY aD tgN.length wi gt tt te σ H Q)(hend:∀ (D Z:Addr) (s6:Shared) (H5:Hp),(∃ m,s6.heap.Ns Z m)->(∀ h'',Heap.SameBut Z s6.heap h''->Inv X aA σ H5 { s6 with heap:=h'' })->H5 Z=none->X.s₀.heap.objs.size<=Z->Z≠X.env.locals->(∀ x c,X.env.cells.lookup x=some c->c≠Z)->(∀ p∈X.pn++aA,p.1≠Z)->Q (.ref D) H5->compPost (model X.prog X.w) X.A X.xe use QQ (.ref D) Z (.ok .next) s6):wpAny (model X.prog X.w) X.A (comprehension (.ListComp elt [⟨tg,aI,ifs,0⟩] scope pos) scope X.env (firstIterPos [⟨tg,aI,ifs,0⟩] pos) (newList []) (firstAsync [⟨tg,aI,ifs,0⟩]) (firstIter [⟨tg,aI,ifs,0⟩] X.env) use) QQ X.xe s:=by
 obtain ⟨cl,hclos,clsub,clhas⟩:=t7 (scope:=scope) (env:=X.env) λy hy hk=>I.ok.has y.1 (b0 y hy hk);refine wpAny_comprehension_free (use:=use) rfl hs hclos bX cY (thn (hi aA s σ H _ I h) λv s1 h1=>thn h1 λitv s2 h2=>?_);obtain ⟨it,fp,tn,J,H2,e,I2,T,st2,f2,q⟩:=h2;subst e;refine aO6 ?_;have hn:H2 s2.heap.objs.size=none:=I2.hok.fresh (aPC _);obtain ⟨W,⟨m0,w0⟩,turn⟩:=q s2.heap.objs.size hn;have I3:Inv X aA σ (upd H2 s2.heap.objs.size (.lst [])) { s2 with heap:=s2.heap.push { cls:=.type "list", dict:=none,data:=.seq ([]:List Value).toArray } } :=
  I2.laid (t':=s2.toks) (λb u e=>hps e) (aPC _) ⟨aQP _,[],0,.nil,aOG _ rfl⟩
 generalize hs3:({ s2 with heap:=s2.heap.push { cls:=.type "list", dict:=none,data:=.seq ([]:List Value).toArray } }:Shared)=s3 at I3 ⊢
 generalize hH3:upd H2 s2.heap.objs.size (.lst [])=H3 at I3 w0;have fpl:∀ b∈fp,b<s2.heap.objs.size:=λb hb=>by obtain ⟨o,eo,_⟩:=T.obj 0 _ st2 b hb;exact aOH eo
 have sz3:s3.heap.objs.size=s2.heap.objs.size+1:=by rw[<- hs3];exact aRI _ _
 have keep23:∀ b o,s2.heap.get? b=some o->s3.heap.get? b=some o:=λb o e=>by rw[<- hs3];exact hps e
 have hDf:s2.heap.objs.size∉fp:=λhb=>aOJ _ (fpl _ hb);refine wpAny_newFunctionEnv bW (by intro y hy;simp at hy) (λh4 hns hsb=>?_) bX
 try dsimp only at hns hsb ⊢
 have keep34:∀ b o,s3.heap.get? b=some o->h4.get? b=some o:=λb o e=>hsb.extBut b o (aOK (aOH e)) (hps e);have nostk:∀ b∈fp,b∉frs X.stack:=λb hb z=>by
  obtain ⟨_,f1,f2',_⟩:=f2 b hb;rcases aOR.mp (I2.stkSub b z) with q | q
  . exact f1 q
  . exact f2' q
 have okc:(aQ X scope (aE++tgN) cl s3.heap.objs.size fp s3 H3).Ok :=
  { mod:=I3.ok.mod
    kind:=bX
    glob:=I3.ok.glob
    blt:=I3.ok.blt
    above:=aPC _
    inj:=λx y c h1 h2=>I3.ok.inj x y c (clsub x c h1) (clsub y c h2)
    has:=λx hx=>clhas x (t9 bW hx)
    cab:=λx c z=>by cases z
    hd:=I3.ok.hd
    frames:=I3.ok.frames
    stk:=.inl rfl
    exf:=λb hb=>⟨aOK (by show b<s3.heap.objs.size;rw[sz3];exact aRJ (fpl b hb)),λx c e=>(f2 b hb).2.2.2.2.1 x c (clsub x c e)⟩
    bs:=I3.bs
    bsz:=aOP I3.ok.bsz I3.sz
    noex:=λb o e hb=>by
     obtain ⟨_,_,_,f3,_⟩:=f2 b hb;rcases f3 with z | z
     . exact I2.ok.noex b o e z
     . exact absurd (aOH (I2.ok.bs b o e).1) (Nat.not_lt.mpr z)
    exfs:=nostk
    funs:=I3.stack
    frf:=I3.stkFree }
 have capLen:aE.length=aD.length:=by have:=congrArg List.length cG;simpa using this
 generalize hσ0:cC aD σ++List.replicate tgN.length none=σ0 at turn;have Ic:Inv (aQ X scope (aE++tgN) cl s3.heap.objs.size fp s3 H3) [] σ0 H3 { s3 with heap:=h4,toks:=s3.toks+([]:List (Str×Value)).length }:=by
  refine ⟨okc,rfl,I3.bare,Un.kept keep34,⟨_,hns,λi y v h1 h2 h3=>?_⟩,λx c e=>?_,I3.hok.fresh (aPC _),λx c e=>I3.freeC x c (clsub x c e),λp hp=>absurd (show p∈([]:LAO) from hp) (by simp),I3.hok.kept keep34,?_⟩
  . by_cases hi:i<aD.length
    . have ey:aE[i]? = some y:=by have h1:(aE++tgN)[i]? = some y:=h1;rw[aPQ (by rw[capLen];exact hi)] at h1;exact h1
      have hj:X.N[aD[i]]? = some y:=by
       have e1:(aE.map some)[i]? = (aD.map λi=>X.N[i]?)[i]?:=by rw[cG]
       rw[aPR,aPR,ey,aQ5 hi] at e1;simpa using e1.symm
      have ev:σ[aD[i]]? = some (some v):=by
       rw[<- hσ0,aPQ (by simpa[cC] using hi)] at h2
       unfold cC at h2;rw[aPR,aQ5 hi] at h2;simp only[aQ9,aRK] at h2;cases z:σ[aD[i]]? with
       | none=>rw[z] at h2;cases h2
       | some o=>rw[z] at h2;exact congrArg some h2
      have hyf:=c7 y (aPS ey);have hkX:=b0 _ hyf rfl;obtain ⟨m,_,hl⟩:=I3.loc;obtain ⟨u,ru,lk⟩:=hl aD[i] y v hj ev (by rcases hkX with z | z;exact .inr (.inl z);exact .inr (.inr z))
      refine ⟨u,ru,.inr ⟨cZ y (aPS ey),?_⟩⟩;rcases lk with ⟨hk,_⟩ | ⟨_,c,ec,ic⟩
      . rcases hkX with z | z
        . rw[show X.env.kindOf y=some .cell from z] at hk;cases hk
        . rw[show X.env.kindOf y=some .free from z] at hk;cases hk
      . obtain ⟨c',ec'⟩:=clhas y hyf;have:=clsub y c' ec';rw[ec] at this;cases this;exact ⟨c,ec',ic.keeps keep34⟩
    . rw[<- hσ0,aPO (by simpa[cC] using hi),aPP] at h2
      split at h2 <;> cases h2
  . obtain ⟨v,q⟩:=I3.cell x c (clsub x c e);exact ⟨v,q.keeps keep34⟩
  . rw[<- hσ0];show (cC aD σ++List.replicate tgN.length none).length=(aE++tgN).length;simp[cC,capLen]
 have fpc:∀ {H':Hp},(∀ b∈fp,H' b=none)->∀ b∈fp,d9 (aQ X scope (aE++tgN) cl s3.heap.objs.size fp s3 H3) [] H' b:=λhn b hb =>
  ⟨hn b hb,(okc.exf b hb).1,nostk b hb,.inl hb,(okc.exf b hb).2,λp hp=>absurd (show p∈([]:LAO) from hp) (by simp)⟩
 have outw:∀ {p6:LAO} {σ6:St} {H6:Hp} {s6:Shared},Inv (aQ X scope (aE++tgN) cl s3.heap.objs.size fp s3 H3) p6 σ6 H6 s6->∀ h'',Heap.SameBut s3.heap.objs.size s6.heap h''->Inv X aA σ H6 { s6 with heap:=h'' }:=λ{p6 σ6 H6 s6} J h'' hsb2=>by
  have u:=J.base;have neC:∀ b o,s3.heap.get? b=some o->b≠s3.heap.objs.size:=λb o e=>aOK (aOH e);have un:Un (frs X.stack) fp H3 H6 s3.heap h'':=by
   refine ⟨λb o e n hb hx=>hsb2.extBut b o (neC b o e) (u.keep b o e n hb hx),λb o e n hb hx=>?_,u.free,λb o e hx=>?_,u.tups,u.frzs,u.tbls⟩
   . obtain ⟨sl,q⟩:=u.slot b o e n hb hx;exact ⟨sl,hsb2.extBut b _ (neC b o e) q⟩
   . obtain ⟨o',q⟩:=u.there b o e hx;exact ⟨o',hsb2.extBut b _ (neC b o e) q⟩
  have hok : HOk X.prog X.w H6 h'' := fun a o e => (J.hok a o e).stay (fun b v hb q => hsb2.extBut b v (by
      intro z;have fr:=J.free;rcases hb with hb | hb
      . rw[hb] at z;rw[z] at e;rw[show H6 s3.heap.objs.size=none from fr] at e;cases e
      . rw[z,show H6 s3.heap.objs.size=none from fr] at hb;cases hb) q) (λ_ q=>q) λ_ _ q=>q
  have os6:=J.os;obtain ⟨hh,g6,d6,t6,o6⟩:=s6;obtain rfl:o6=s3.os:=os6;have I8:=I3.call (h':=h'') (g':=g6) (d':=d6) (t':=t6) (ch:=fp) un hok J.bare λb hb=>by obtain ⟨_,f1,_,f3,f4,f5⟩:=f2 b hb;exact ⟨f3,f1,f4,f5⟩
  exact I8
 have stk:s3.heap.objs.size∉frs X.stack:=λz=>by obtain ⟨_,o,eo,_⟩:=I3.stack.mem z;exact aOJ _ (aOH eo)
 have xk:XOk (CX1 X.prog X.w) { C0 with EE:=λc _ H'=>C0.EE c σ H' } (f9 X scope (aE++tgN) cl s3.heap.objs.size fp s3 H3 (notedBy (model X.prog X.w) X.A (compEnvC scope cl s3.heap.objs.size X.env) λx s'=>compPost (model X.prog X.w) X.A X.xe use QQ (.ref s2.heap.objs.size) s3.heap.objs.size (.error x) s')):=by
  intro p6 σ6 H6 s6 ev s' J hh;obtain ⟨e,Cc,a0,H7,B,rfl,ho,hgb,fl,fy,c,hm,hee⟩:=hh;have J0:=u9 J;obtain ⟨L,hL⟩:∃ L,X.env.frame=some L:=⟨_,FX.hf⟩;have fr:X.A.frames=some (X.env::X.outer):=by rw[<- FX.hs];exact I3.ok.frames
  have fl0:Heap.FlyingW B (X.env::X.outer) e (.ref Cc) a0 s'.heap:=by rw[<- FX.hs];exact fl
  show wpAny _ _ (noteFrame (.ref e) (compEnvC scope cl s3.heap.objs.size X.env)) _ _ s';rw[aHZ (env:=compEnvC scope cl s3.heap.objs.size X.env) (env':=X.env) rfl];refine wpAny_looks_onW fr hL fl0 λh4 held up4=>?_;have f4:Fly X.prog X.w X.stack H6 s6 H7 B h4:=Fly.on (fy:Fly X.prog X.w X.stack H6 s6 H7 B s'.heap) held.1 up4;have J4:Inv (aQ X scope (aE++tgN) cl s3.heap.objs.size fp s3 H3) p6 σ6 H7 { s' with heap:=h4 }:=Fly.inv (X:=aQ X scope (aE++tgN) cl s3.heap.objs.size fp s3 H3) (s':={ s' with heap:=h4 }) J0 f4 ho hgb
  have hz:H7 s3.heap.objs.size=none:=J4.free;have held:Heap.HeldW B X.stack e (.ref Cc) a0 L h4:=by rw[FX.hs];exact held
  have post:∃ m,h4.Ns s3.heap.objs.size m/\∀ h',Heap.SameBut s3.heap.objs.size h4 h'->∀ cenv:Env,cenv.locals=s3.heap.objs.size->wpAny (model X.prog X.w) X.A (PySem.passOn "comprehension.variables-let-go" (.ref e) cenv:Sem Value) (λ_ _=>False) X.xe { s' with heap:=h' }:=by
   obtain ⟨m,hm4,_⟩:=J4.loc;refine ⟨m,hm4,λh5 sb cenv _=>?_⟩;have hB:∃ o,B.get? s3.heap.objs.size=some o:=by obtain ⟨_,⟨o,es,ep,e0,_⟩,_⟩:=J4.loc;obtain ⟨_,⟨o',es',ep',e0',_⟩,_⟩:=J0.loc;exact ⟨o,f4.kb _ o e0 (by rw[show s6.heap.get? s3.heap.objs.size=some o' from e0'];exact λz=>nomatch z) stk⟩
   have hne:e≠s3.heap.objs.size:=by rintro rfl;obtain ⟨o,hB⟩:=hB;rw[held.2.1] at hB;cases hB
   have q:Hld (PySem.W.hideAll B [s3.heap.objs.size]) X.stack e (.ref Cc) a0 h5:=aH1 held hB sb stk;refine aHV (s:={ s' with heap:=h5 }) q λh6 q6 pl inB=>?_
   have f6:=(fy:Fly X.prog X.w X.stack H6 s6 H7 B s'.heap).hide stk hz;refine xh aA σ H6 { s6 with heap:=PySem.W.hideAll s6.heap [s3.heap.objs.size] } _ _ (outw J0 _ (aH0 _ _)) ⟨e,Cc,a0,H7,_,rfl,ho,hgb,q6,f6.on2 inB λb hb o e1 e2=>?_,c,hm,hee⟩
   obtain ⟨sl,e4⟩:=up4 b o e1 e2;have nb:b≠s3.heap.objs.size:=by rintro rfl;exact stk hb
   exact ⟨sl,pl b _ (by show h5.get? b=_;rw[sb.2 b nb];exact e4) e2⟩
  cases use <;> exact post
 have loop:codeAny (model X.prog X.w) X.A (.compLoop (.ListComp elt [⟨tg,aI,ifs,0⟩] scope pos) 0 (.ref it) (.ref s2.heap.objs.size) (compEnvC scope cl s3.heap.objs.size X.env)) (compPost (model X.prog X.w) X.A X.xe use QQ (.ref s2.heap.objs.size) s3.heap.objs.size) { s3 with heap:=h4,toks:=s3.toks+([]:List (Str×Value)).length }:=by
  refine aH2 (λn s'=>∃ i ys H',Inv (aQ X scope (aE++tgN) cl s3.heap.objs.size fp s3 H3) [] σ0 H' s'/\tn i s'.heap/\(∀ b∈fp,H' b=none)/\W i n ys H') ?_ m0
   ⟨0,[],H3,Ic,T.keep _ _ _ st2 (λb hb o e=>keep34 b o (keep23 b o e)),λb hb=>by rw[<- hH3,aO (by intro z;rw[z] at hb;exact hDf hb)];exact (f2 b hb).1,w0⟩
  rintro n s5 ⟨i,ys,H5,I5,st5,fr5,w5⟩;obtain ⟨hD,hw⟩:=turn i n ys H5 w5;rcases hw with ⟨stop,qq⟩ | ⟨go,hlen,step⟩
  . refine thn (T.done (aQ X scope (aE++tgN) cl s3.heap.objs.size fp s3 H3) rfl rfl rfl hc i [] s5 σ0 H5 _ I5 (fpc fr5) st5 stop) λr s6 ⟨hr,I6⟩=>?_;subst hr;obtain ⟨m,hm,_⟩:=id I6.loc;refine hend s2.heap.objs.size s3.heap.objs.size s6 H5 ⟨m,hm⟩ (λh'' hsb2=>?_) I6.free I3.sz (λz=>?_) (λx c ec z=>?_) (λp hp z=>?_) qq;rotate_left
    . obtain ⟨m,⟨o,es,ep,ho,_⟩,_⟩:=id I3.loc;rw[<- z] at ho;exact aOJ _ (aOH ho)
    . obtain ⟨v,o,ho,_⟩:=I3.cell x c ec;rw[z] at ho;exact aOJ _ (aOH ho)
    . have:=(I3.pin p hp).1;rw[z] at this;exact aOJ _ (aOH this)
    exact outw I6 h'' hsb2
  . refine thn (T.item (aQ X scope (aE++tgN) cl s3.heap.objs.size fp s3 H3) rfl rfl rfl hc i [] s5 σ0 H5 _ I5 (fpc fr5) st5 go) λr s6 ⟨u,hr,h6⟩=>?_;subst hr;refine thn h6 λ_ s7 ⟨x,H7,I7,r7,y7,st7,fr7⟩=>?_;have I7':=I7.pinned (fpc fr7) (T.obj _ _ st7);refine thn (hg cl s3.heap.objs.size fp s3 H3 _ s7 σ0 H7 x u _ I7' r7 (step x H7 y7)) λ_ s8 ⟨σ8,H8,I8,wk,q8⟩=>?_;have back:∀ {H':Hp} {s':Shared} {m':Nat} {ys':List V},Inv (aQ X scope (aE++tgN) cl s3.heap.objs.size fp s3 H3) ([]++iX fp s7.heap) σ8 H' s'->m'<n->W (i+1) m' ys' H' ->
        ∃ m,m<n/\∃ i ys H',Inv (aQ X scope (aE++tgN) cl s3.heap.objs.size fp s3 H3) [] σ0 H' s'/\tn i s'.heap/\(∀ b∈fp,H' b=none)/\W i m ys H':=λ{H' s' m' ys'} I' hm w'=>by
      have pinned:∀ b∈fp,∀ o,s7.heap.get? b=some o->s'.heap.get? b=some o/\H' b=none:=λb hb o e=>by have:=I'.pin (b,o) (aPG _ (aPG _ (l7 hb e)));exact ⟨this.1,this.2.1⟩
      refine ⟨m',hm,i+1,ys',H',I'.unpinned.weak wk.1 wk.2,T.keep _ _ _ st7 λb hb o e=>(pinned b hb o e).1,λb hb=>?_,w'⟩;obtain ⟨o,e,_⟩:=T.obj _ _ st7 b hb;exact (pinned b hb o e).2
    refine thn (hf cl s3.heap.objs.size fp s3 H3 _ s8 σ8 H8 _ I8 q8) λb s9 ⟨H9,I9,q9⟩=>?_;cases b with
    | false=>rw[if_neg aO9] at q9 ⊢;obtain ⟨m',hm,w9⟩:=q9;exact back I9 hm w9
    | true =>
     rw[if_pos rfl] at q9 ⊢;refine thn (he cl s3.heap.objs.size fp s3 H3 _ xk _ s9 σ8 H9 _ (aHY I9) q9) λy s10 ⟨yv,H10,I10,r10,hD10,m',hm,w10⟩=>?_;have I10:=u9 I10;refine thn (pG (X:=aQ X scope (aE++tgN) cl s3.heap.objs.size fp s3 H3) _ s10 σ8 H10 (.ref s2.heap.objs.size) [yv] (.ref s2.heap.objs.size) [y] (λv H'=>v=.non/\H'=upd H10 s2.heap.objs.size (.lst (ys++[yv]))) I10 rfl (.cons r10 .nil)
      ⟨s2.heap.objs.size,ys,yv,rfl,rfl,hD10,hlen,rfl,rfl⟩) λ_ s11 ⟨v,H11,I11,_,_,e11⟩=>?_
     subst e11;exact back I11 hm w10
 exact codeAny_compStart_list loop (T.self _ 0 _ _ _ (T.keep _ _ _ st2 (λb hb o e=>keep34 b o (keep23 b o e))) loop)
theorem aH4{C0:Cw}{i:Nat}{x:Str}{pos' spos:Pos}{X:Cx}{elt aI tg:Expr}{ifs:List Expr}{scope:Scope}{pos:Pos}{aD:List Nat}{aE tgN:List Str}{wi:TI}{gt:TG}{tt:TT}{te:L2.St->TE}(hc:X.calm=true)(hi:PI X tg aI wi)(bW:∀ y∈scope.names,y.2 ≠ .cell)(bX:scope.kind=.function)(cY:∀ y∈scope.names,y.2=.local->scope.names.lookup y.1=some .local)(b0:∀ y∈scope.names,y.2=.free->X.env.kindOf y.1=some .cell\/X.env.kindOf y.1=some .free)(cG:aE.map some=aD.map λi=>X.N[i]?)(c7:∀ y∈aE,(y,NameKind.free)∈scope.names)(cZ:∀ y∈aE,(relabel scope X.env).names.lookup y=some .cell\/(relabel scope X.env).names.lookup y=some .free)(hg:∀ cl C fp s3 H3,PG (aQ X scope (aE++tgN) cl C fp s3 H3) tg gt)(hf:∀ cl C fp s3 H3,cO (aQ X scope (aE++tgN) cl C fp s3 H3) ifs tt)(FX:iI X)(xh:XOk (HX1 X.prog X.w) C0 X)(he:∀ σ cl C fp s3 H3 XE,XOk (CX1 X.prog X.w) { C0 with EE:=λc _ H'=>C0.EE c σ H' } (f9 X scope (aE++tgN) cl C fp s3 H3 XE)->PE (f9 X scope (aE++tgN) cl C fp s3 H3 XE) elt (te σ))(hN:X.N.Nodup)(hx:X.N[i]? = some x)(hk:X.env.scope.names.lookup x=some .local)(hsw:swapsWith (.ListComp elt [⟨tg,aI,ifs,0⟩] scope pos) (some (.Name x pos')) spos.line X.env=pure true)(hs:∀ x,foldedSetIterable aI X.env x=pure x:=by intro _;rfl):PS X (.Assign [.Name x pos'] (.ListComp elt [⟨tg,aI,ifs,0⟩] scope pos) spos) (λEn σ H=>hZ (fY aD tgN.length wi gt tt (te σ)) (iW i) En σ H):=by
 intro aA s σ H En I h;rw[exec_Assign_Name_used _ _ _ _ hsw];refine aO3 (aO4 (aO3 ?_));show wpAny _ X.A (comprehension (.ListComp elt [⟨tg,aI,ifs,0⟩] scope pos) scope X.env (firstIterPos [⟨tg,aI,ifs,0⟩] pos) (newList []) (firstAsync [⟨tg,aI,ifs,0⟩]) (firstIter [⟨tg,aI,ifs,0⟩] X.env) (some (assign (.Name x pos') X.env)) >>= _) _ _ s;refine aO3 (aH3 (C0:=C0) (use:=some (assign (.Name x pos') X.env)) hc hi bW bX cY b0 cG c7 cZ hg hf FX xh (he σ) hs I h λD Z s6 H5 hm hI hz h0 h1 h2 h3 q=>?_);obtain ⟨m,hm⟩:=hm;have I6:=hI s6.heap (aRL _ _);refine aO2 (oV I6 hN hx (.inl hk) (show aM (.ref D) (.ref D) from rfl) (λs' I' hch=>?_) (.inr hk))
 obtain ⟨a,sb,ha⟩:=hch;have na:Z≠a:=by
  rcases ha with rfl | ha
  . exact h1
  . exact λz=>h2 x a ha z.symm
 exact ⟨m,hm.sameBut sb na,λh'' hs2=>aO5 (aO5 ⟨_,H5,I'.dropped hs2 hz h0 h1 h2 h3,q⟩)⟩
end L2
namespace D3
open PySem PySem.Spec PyProof.Rows L2
inductive dN where
 | ok (ds:List D) | exc (c:Str) | stuck
def dN.glue(zs:List D):dN->dN
 | .ok ys=>.ok (zs++ys)
 | .exc c=>.exc c
 | .stuck=>.stuck
def dP(k:D->Rho->Option Rho)(t e:Rho->Res)(ρ0:Rho):List D->dN
 | []=>.ok []
 | d::ds=>match k d ρ0 with
  | none=>.stuck
  | some ρ1=>match t ρ1 with
   | .ok _ (.bl true)=>(match a8 (e ρ1) with | .ok _ y=>(dP k t e ρ0 ds).glue [y] | .exc c=>.exc c | .stuck=>.stuck)
   | .ok _ (.bl false)=>dP k t e ρ0 ds
   | _=>.stuck
def dN.out:dN->Res
 | .ok ys=>.ok .fr (.lst ys)
 | .exc c=>.exc c
 | .stuck=>.stuck
def jM(src:Res)(ρ:Rho)(aD:List Nat)(n:Nat)(k:D->Rho->Option Rho)(t e:Rho->Res):Res:=src.thn λ_ d=>match d with
 | .lst ds=>if ds.length<sizeLine then (dP k t e (cH aD ρ++List.replicate n none) ds).out else .stuck
 | _=>.stuck
theorem dN.glue_glue(a b:List D)(r:dN):dN.glue a (dN.glue b r)=dN.glue (a++b) r:=by cases r <;> simp[dN.glue]
abbrev Cw.on(C:Cw)(σ:L2.St):Cw:={ C with EE:=λc _ H'=>C.EE c σ H' }
section
variable {C:Cw}{X:Cx}{pos:Pos}
theorem aH5{t:Tg}{tgN:List Str}{aD:List Nat}{gi gt ge:Rho->Res}(hsl:∀ j∈dL t,aD.length<=j){σ:L2.St}{H:Hp}{Q:VK}(q:tG (C.at X) (λρ=>jM (gi ρ) ρ aD tgN.length (aJ t) gt ge) σ H Q):fY aD tgN.length (tIv (C.at X) gi) (gOf X.K t) (tT (C.nox.at X) gt) (tG ((C.at X).on σ) λρ=>a8 (ge ρ)) σ H Q:=by
 rw[aV] at q;obtain ⟨ρ,F,RS,w⟩:=q;unfold fY;refine ⟨ρ,F,RS,?_⟩;cases er:gi ρ with
 | stuck=>rw[er] at w;exact w
 | exc c=>rw[er] at w;exact w
 | ok m d =>
  rw[er] at w;cases d with
  | lst ds =>
   unfold jM at w;rw[Res.thn_ok] at w;dsimp only at w;split at w
   . rename_i hsz;intro J F1 H1 s1 hJ Da hDa;generalize et:dP (aJ t) gt ge (cH aD ρ++List.replicate tgN.length none) ds=total at w;have hD0:H Da=none:=s1.same.free hDa;have hF1:F1 Da=none:=s1.sub.free hDa;have R0:=uC aD tgN.length RS;refine ⟨λi m ys H'=>m=ds.length-i/\i<=ds.length/\H' Da=some (.lst ys)/\∃ F' zs,aK F H F' H'/\aH F1 F'/\F' Da=none/\aB X.K F' zs ys/\zs.length<=i /\
       total=(dP (aJ t) gt ge (cH aD ρ++List.replicate tgN.length none) (ds.drop i)).glue zs,
       ⟨ds.length,by simp,aQP _,bN,F1,[],s1.upd hD0 hF1,aH.refl _,hF1,aB.nil,aPC _,by rw[aRM,et];cases total <;> rfl⟩,?_⟩
     rintro i m ys H' ⟨rfl,hile,hD,F',zs,st,sF,hFD,rz,hzl,ec⟩;refine ⟨hD,?_⟩;by_cases hlt:i<ds.length
     . refine .inr ⟨hJ.go i H' (sF.trans st.sub) hlt,by rw[rz.length];omega,λv H2 y=>?_⟩
       obtain ⟨F2,d,ed,s2,rd⟩:=hJ.yld i F' H' v H2 sF st.sub hlt y;have hd:ds.drop i=d::ds.drop (i+1):=by rw[aRA hlt];rw[aQ5 hlt] at ed;cases ed;rfl
       rw[hd] at ec;unfold dP at ec;have hD2:H2 Da=some (.lst ys):=s2.same _ _ hD;have hF2:F2 Da=none:=s2.new _ hFD (by rw[hD];exact λz=>nomatch z)
       cases eg:aJ t d (cH aD ρ++List.replicate tgN.length none) with
       | none=>rw[eg] at ec;rw[ec] at w;exact w.elim
       | some ρ1 =>
       rw[eg] at ec;dsimp only at ec;have R2:=(R0.step st).step s2;refine kZ t R2 rd eg λσ1 R1 len1 keep1=>?_;refine ⟨⟨len1.symm,λj u ej=>?_⟩,ρ1,F2,R1,?_⟩
       . by_cases hj:j∈dL t
         . have:=hsl j hj;rw[aPO (by simpa[cC] using this),aPP] at ej
           split at ej <;> cases ej
         . rw[keep1 j hj];exact ej
       cases ett:gt ρ1 with
       | stuck=>rw[ett] at ec;rw[ec] at w;exact w.elim
       | exc c=>rw[ett] at ec;rw[ec] at w;exact w.elim
       | ok mt dt =>
        cases dt with
        | bl b =>
         rw[ett] at ec;intro F3 H3 s3;have hD3:H3 Da=some (.lst ys):=s3.same _ _ hD2;have hF3:F3 Da=none:=s3.new _ hF2 (by rw[hD2];exact λz=>nomatch z)
         cases b with
         | false=>rw[if_neg aO9];exact ⟨ds.length-(i+1),by omega,rfl,hlt,hD3,F3,zs,(st.trans s2).trans s3,(sF.trans s2.fsame).trans s3.fsame,hF3,rz.mono (s2.fsame.trans s3.fsame) _ _,Nat.le_succ_of_le hzl,ec⟩
         | true =>
          rw[if_pos rfl,aV];refine ⟨_,F3,R1.step s3,?_⟩;dsimp only at ec;cases ee:a8 (ge ρ1) with
          | stuck=>rw[ee] at ec;rw[ec] at w;exact w.elim
          | exc c=>rw[ee] at ec;rw[ec] at w;exact λF4 H4 s4=>w F4 H4 (((st.trans s2).trans s3).trans s4)
          | ok me ye =>
           rw[ee] at ec;dsimp only at ec;have hme:me=.fz:=by
            cases h:ge ρ1 with
            | ok m' d'=>rw[h] at ee;cases m' <;> cases ee <;> rfl
            | exc c=>rw[h] at ee;cases ee
            | stuck=>rw[h] at ee;cases ee
           subst hme;intro u F4 H4 s4 ru _;have hD4:H4 Da=some (.lst ys):=s4.same _ _ hD3;have hF4:F4 Da=none:=s4.new _ hF3 (by rw[hD3];exact λz=>nomatch z)
           refine ⟨hD4,ds.length-(i+1),by omega,rfl,hlt,bN,F4,zs++[ye],(((st.trans s2).trans s3).trans s4).upd hD0 hF4,((sF.trans s2.fsame).trans s3.fsame).trans s4.fsame,hF4,?_,by simp;omega,by rw[ec,dN.glue_glue]⟩
           exact aB.append (rz.mono ((s2.fsame.trans s3.fsame).trans s4.fsame) _ _) (aB.cons ru aB.nil)
        | _=>rw[ett] at ec;rw[ec] at w;exact w.elim
     . have ei:i=ds.length:=by omega
       subst ei;rw[aRB] at ec;have ec:total=.ok zs:=by rw[ec];show dN.ok (zs++[])=_;rw[aPJ]
       subst ec;exact .inl ⟨hJ.stop _ H' (sF.trans st.sub) (aPC _),w (.ref Da) F' H' st ⟨Da,rfl,hFD,ys,hD,rz⟩ λ_ a ea=>by cases ea;exact hD0⟩
   . exact w.elim
  | _=>exact w.elim
theorem aH6(fz:Bool){i:Nat}{x:Str}{pos' spos:Pos}{aI elt tg:Expr}{t:Tg}{tgN:List Str}{ifs:List Expr}{scope:Scope}{aD:List Nat}{aE:List Str}{gi gt ge:Rho->Res}(hc:X.calm=true)(hi:PIv C X tg aI gi)(bW:∀ y∈scope.names,y.2 ≠ .cell)(bX:scope.kind=.function)(cY:∀ y∈scope.names,y.2=.local->scope.names.lookup y.1=some .local)(b0:∀ y∈scope.names,y.2=.free->X.env.kindOf y.1=some .cell\/X.env.kindOf y.1=some .free)(cG:aE.map some=aD.map λi=>X.N[i]?)(c7:∀ y∈aE,(y,NameKind.free)∈scope.names)(cZ:∀ y∈aE,(relabel scope X.env).names.lookup y=some .cell\/(relabel scope X.env).names.lookup y=some .free)(hsl:∀ j∈dL t,aD.length<=j)(hg:∀ cl A fp s3 H3,PGw (aQ X scope (aE++tgN) cl A fp s3 H3) tg t)(hf:∀ cl A fp s3 H3,cO (aQ X scope (aE++tgN) cl A fp s3 H3) ifs (tT (C.nox.at X) gt))(FX:iI X)(xh:XOk (HX1 X.prog X.w) (C.at X) X)(he:∀ σ cl A fp s3 H3 XE,XOk (CX1 X.prog X.w) ((C.at X).on σ) (f9 X scope (aE++tgN) cl A fp s3 H3 XE)->PV ((C.at X).on σ) (f9 X scope (aE++tgN) cl A fp s3 H3 XE) elt ge)(hN:X.N.Nodup)(hx:X.N[i]? = some x)(hk:X.env.scope.names.lookup x=some .local)(hsw:swapsWith (.ListComp elt [⟨tg,aI,ifs,0⟩] scope pos) (some (.Name x pos')) spos.line X.env=pure true)(hs:∀ x,foldedSetIterable aI X.env x=pure x:=by intro _;rfl):PSv C X (.Assign [.Name x pos'] (.ListComp elt [⟨tg,aI,ifs,0⟩] scope pos) spos) (λρ=>dX ρ i (if fz=true then a8 (jM (gi ρ) ρ aD tgN.length (aJ t) gt ge) else jM (gi ρ) ρ aD tgN.length (aJ t) gt ge)):=by
 refine PS.imp (L2.aH4 (C0:=C.at X) (aE:=aE) (tgN:=tgN) (gt:=gOf X.K t) (tt:=tT (C.nox.at X) gt) (te:=λσ=>tG ((C.at X).on σ) λρ=>a8 (ge ρ)) hc hi bW bX cY b0 cG c7 cZ
  hg hf FX xh (λσ cl A fp s3 H3 XE xo=>fK (he σ cl A fp s3 H3 XE xo)) hN hx hk hsw hs) λE σ H q=>aH5 hsl ?_
 cases fz with
 | false=>exact kU q
 | true=>have q:=kU q;unfold hZ at q;rw[aV] at q ⊢;obtain ⟨ρ,F,R,w⟩:=q;exact ⟨ρ,F,R,aS.frz w⟩
end
end D3
namespace PySem
open Sem (wp)
open Builtin
theorem aH7:fillsNumberSlot (.type "tuple") "mul" = pure false :=
 fillsNumberSlot_seq (id := "tuple.__mul__") (r:=some (.builtin "tuple.__rmul__")) F.slot_tuple_mul.lookup (by decide +kernel) F.slot_tuple_rmul.lookup (by decide +kernel)
theorem aH8:seqRepeat? (.type "tuple")=pure (some (.builtin "tuple.__mul__")):=by
 unfold seqRepeat?;rw[seqSlot_of (T := "tuple") (name := "__mul__") (id := "tuple.__mul__") F.slot_tuple_mul.lookup (by decide +kernel),seqSlot_of (T := "tuple") (name := "__rmul__") (id := "tuple.__rmul__") F.slot_tuple_rmul.lookup (by decide +kernel)]
 rfl
theorem aH9(a:Int)(t:Tok)(l:Addr)(items:Array Value)(n:Nat)(dd:Option Addr)(sl:Array (Option Value)):Meets (Builtin.«int.__rmul__» ⟨[.int a t,.ref l],[]⟩) (λ_ R s=>s.heap.get? l=some { cls:=.type "tuple", dict:=dd,data:=.seq items n,slots:=sl }/\R (.ok (.ret Value.notImplemented)) s) :=
 .of_wp λprog w A R s h=>by obtain ⟨hp,g,d,tk,os⟩:=s;obtain ⟨hl,h⟩:=h;wp_walk;exact ⟨_,rfl,h⟩
theorem aIA(l:Addr)(items:Array Value)(n:Nat)(dd:Option Addr)(sl:Array (Option Value))(u:Tok):Meets (Builtin.«tuple.__mul__» ⟨[.ref l,.int 1 u],[]⟩) (λ_ R s=>s.heap.get? l=some { cls:=.type "tuple", dict:=dd,data:=.seq items n,slots:=sl }/\R (.ok (.ret (.ref l))) s) :=
 .of_wp λprog w A R s h=>by obtain ⟨hp,g,d,tk,os⟩:=s;obtain ⟨hl,h⟩:=h;wp_walk using wpAny_loadPart' hl;exact ⟨_,rfl,h⟩
theorem aIB(l:Addr)(items:Array Value)(n:Nat)(dd:Option Addr)(sl:Array (Option Value))(u:Tok)(he:items.isEmpty=true):Meets (Builtin.«tuple.__mul__» ⟨[.ref l,.int 0 u],[]⟩) (λ_ R s=>s.heap.get? l=some { cls:=.type "tuple", dict:=dd,data:=.seq items n,slots:=sl }/\R (.ok (.ret (.ref l))) s) :=
 .of_wp λprog w A R s h=>by obtain ⟨hp,g,d,tk,os⟩:=s;obtain ⟨hl,h⟩:=h;wp_walk using wpAny_loadPart' hl;exact ⟨_,rfl,h⟩
theorem aIC(l:Addr)(items:Array Value)(n:Nat)(dd:Option Addr)(sl:Array (Option Value))(u:Tok)(he:¬ items.isEmpty=true):Meets (Builtin.«tuple.__mul__» ⟨[.ref l,.int 0 u],[]⟩) (λ_ R s=>s.heap.get? l=some { cls:=.type "tuple", dict:=dd,data:=.seq items n,slots:=sl }/\R (.ok (.ret (.ref s.heap.objs.size))) { s with heap:=s.heap.push { cls:=.type "tuple", data:=.seq #[] } }) :=
 .of_wp λprog w A R s h=>by obtain ⟨hp,g,d,tk,os⟩:=s;obtain ⟨hl,h⟩:=h;wp_walk using wpAny_loadPart' hl;exact ⟨_,rfl,h⟩
end PySem
namespace L2
open PySem PySem.Spec PyProof.Rows
section
variable {X:Cx}
theorem aID:OpR X (binaryOp .Mult) (λx y H Q=>∃ l xs i,x=.ref l/\y=.int i/\SqT X.K H l xs/\(i=0\/i=1)/\(i=1\/xs=[]->Q (.ref l) H)/\(i=0->xs≠[]->∀ p,H p=none->Q (.ref p) (upd H p (.tup [])))):=by
 intro aA s σ H x y v u Q I rx ry h;obtain ⟨l,xs,i,rfl,rfl,hl,hi,q1,q0⟩:=h;cases rx;obtain ⟨t,rfl⟩:=ry;obtain ⟨its,r1,p1,_⟩:=I.tuple hl;have n1:=r1.nil_iff;obtain ⟨⟨cls,dd,data,sl⟩,ho,hc,n,hd⟩:=id p1;simp only at hc hd;subst hc hd;refine wpAny_binaryOp_repeat_ref (T := "tuple") (U := "int") (by decide) ⟨_,ho,rfl⟩ (λs'=>typeIs_int s' _ _) aH7 F.fills_int_mul F.slot_int_rmul aH8 F.slot_int_index.lookup
  (aQG F.slot_int_rmul (typeIs_int s _ _) F.entry_int_rmul (F.args_int_rmul_2 _ _) (aH9 _ _ l its.toArray n dd sl) ⟨ho,rfl,⟨_,ho,rfl⟩,?_⟩)
 rcases hi with rfl | rfl
 . by_cases he:its=[]
   . exact aQG aSD ⟨_,ho,rfl⟩ aSE (aSF _ _) (aIB l its.toArray n dd sl t (by simp[he])) ⟨ho,⟨.ref l,H,I,rfl,q1 (.inr (n1.mp he))⟩⟩
   . refine aQG aSD ⟨_,ho,rfl⟩ aSE (aSF _ _) (aIC l its.toArray n dd sl t (by simpa using he)) ⟨ho,?_⟩
     refine ⟨.ref s.heap.objs.size,_,I.laid (t':=s.toks) (o:=.tup []) (λb ob q=>hps q) (aPC _) ?_,rfl,q0 rfl (λz=>he (n1.mpr z)) _ (I.hok.fresh (aPC _))⟩;exact ⟨aQP _,[],.nil,fF.new _ _⟩
 . exact aQG aSD ⟨_,ho,rfl⟩ aSE (aSF _ _) (aIA l its.toArray n dd sl t) ⟨ho,⟨.ref l,H,I,rfl,q1 (.inl rfl)⟩⟩
def aIE:V->List V->Hp->VK->Prop:=λx vs H Q=>∃ l xs i y,x=.ref l/\vs=[.int i,y]/\H l=some (.lst xs)/\0<=i/\i<=1000000/\xs.length<sizeLine/\Q .non (upd H l (.lst (xs.take i.toNat++y::xs.drop i.toNat)))
theorem aIF:MtM X "list.insert" aIE:=by
 intro aA s σ H x vs v us Q I rx rv h;obtain ⟨l,xs,i,y,rfl,rfl,hH,h0,h1,hz,q⟩:=h;cases rx;obtain ⟨u,w,rfl,ru,rw'⟩:=rv.two;obtain ⟨t,rfl⟩:=ru;obtain ⟨z,its,n,r,hl,e⟩:=I.lstM hH;refine aQG F.slot_list_insert ⟨_,e,rfl⟩ F.entry_list_insert (F.args_list_insert_3 _ _ _) (AutoSeq1.list_insert_list_int_val_1 l its.toArray n i t w (by simp[Builtin.List.listFitsIndex];omega) (by rw[aPI];omega)) ⟨e,?_⟩
 refine ⟨.non,_,I.lset (its':=its.take i.toNat++w::its.drop i.toNat) hH e ?_ ?_ ?_,rfl,q⟩
 . show (its.toArray.extract 0 (if i<0 then (i+(its.toArray.size:Int)).toNat else min i.toNat its.toArray.size)).push w++its.toArray.extract (if i<0 then (i+(its.toArray.size:Int)).toNat else min i.toNat its.toArray.size)=_;rw[if_neg (by omega),PySem.W.kl_ins_eq,aPI]
   congr 1;by_cases hh:i.toNat<=its.length
   . rw[Nat.min_eq_left hh]
   . rw[Nat.min_eq_right (by omega),aRN (aPC _),aRN (by omega),List.drop_of_length_le (aPC _),List.drop_of_length_le (by omega)]
 . exact (r.take _).append (.cons rw' (r.drop _))
 . rw[aPT,aQJ,aPM,aP5];omega
end
end L2
namespace D3
open PySem PySem.Spec PySem.Calls PyProof.Rows L2
def mulT:Md->D->Md->D->Option (Md×D):=λ_ x _ y=>match x,y with
 | .tup xs,.int n=>if n=1 then some (.fz,.tup xs) else if n=0 then some (.fz,.tup []) else none
 | _,_=>none
def gB(ρ:Rho)(i:Nat)(rk rv:Res):aG:=match ρ[i]? with
 | some (some (true,.lst ds))=>rk.thS ρ λ_ kd=>(match kd with
  | .int k=>(a8 rv).thS ρ λm d=>(match m with
   | .fz=>if (decide (0<=k)&&decide (k<=1000000)&&decide (ds.length<sizeLine))=true then .nx (ρ.set i (some (true,.lst (ds.take k.toNat++d::ds.drop k.toNat)))) else .stuck
   | _=>.stuck)
  | _=>.stuck)
 | _=>.stuck
theorem aB.takeX{K:Fg}{F:Hp}:∀ {ds:List D} {xs:List V} (n:Nat),aB K F ds xs->aB K F (ds.take n) (xs.take n)
 | _,_,0,_=>by rw[List.take_zero,List.take_zero];exact aB.nil
 | [],_,n+1,h=>by simp only[aB] at h;subst h;exact aB.nil
 | d::ds,xs,n+1,h=>by simp only[aB] at h;obtain ⟨v,us,rfl,h1,h2⟩:=h;exact aB.cons h1 (aB.takeX n h2)
theorem aB.dropX{K:Fg}{F:Hp}:∀ {ds:List D} {xs:List V} (n:Nat),aB K F ds xs->aB K F (ds.drop n) (xs.drop n)
 | _,_,0,h=>h
 | [],_,n+1,h=>by simp only[aB] at h;subst h;exact aB.nil
 | d::ds,xs,n+1,h=>by simp only[aB] at h;obtain ⟨v,us,rfl,h1,h2⟩:=h;exact aB.dropX n h2
section
variable {C:Cw}{X:Cx}
theorem aIG:OpD C X (binaryOp .Mult) mulT:=by
 refine ⟨_,aID,λF H m x n y v u k d Q s rx ry e w=>?_⟩;unfold mulT at e;split at e
 . rename_i xs i;have ex:=rx;obtain ⟨a,us,rfl,q1,r1⟩:=rx.seqT s;cases ry.int;have fz:∀ {m:Md} {zs:List D} {c:Addr},Rp X.K F H m (.tup zs) (.ref c)->aF X.K F (.tup zs) (.ref c):=λ{m zs c} h=>by
     cases m with
     | fz=>exact h
     | fr=>obtain ⟨_,_,_,q⟩:=h;exact q.elim
     | bo=>obtain ⟨_,_,_,q⟩:=h;exact q.elim
   split at e
   . rename_i hi;subst hi;cases e;exact ⟨a,us,1,rfl,rfl,q1,.inr rfl,λ_=>w (.ref a) F H (.refl s) (fz ex) (by intro z;cases z),λz=>absurd z (by decide)⟩
   . split at e
     . rename_i hi;subst hi;cases e;refine ⟨a,us,0,rfl,rfl,q1,.inl rfl,λz=>?_,λ_ hne p hp=>?_⟩
       . have:us=[]:=by rcases z with z | z;exact absurd z (by decide);exact z
         have:xs=[]:=r1.nilIff.mp this;subst this;exact w (.ref a) F H (.refl s) (fz ex) (by intro z;cases z)
       . exact w (.ref p) _ _ (aK.laid (.tup []) s hp) (aF.tup_of (s.free hp) aB.nil) (by intro z;cases z)
     . cases e
 . cases e
variable {e ke:Expr}{g gk:Rho->Res}{x:Str}{p ap cp pos:Pos}
theorem aIH(i:Nat)(hv:PE X (.Name x p) (hV i))(hk:PV C X ke gk)(he:PV C X e g)(hs0:bJ ke=true)(hs:bJ e=true)(hline:ap.endLine=cp.line):PSv C X (.Expr (.Call (.Attribute (.Name x p) "insert" ap) [ke,e] [] cp) pos) (λρ=>gB ρ i (gk ρ) (g ρ)):=by
 have h1 := tB (X := X) (o := .Name x p) (e := ke) (es := [e]) (apos := ap) (cpos := cp) PySem.F.plainAttrs_list PySem.F.slot_list_insert PySem.F.type_list_insert aIF hv (eY hk (eY (fK he) iA (bO hs)) (bO hs0)) (uL rfl) (by
     rw[pR _ _ (λy hy=>by
      simp only[aOR,aR5,aR6] at hy;rcases hy with rfl | rfl
      . exact hs0
      . exact hs)];rfl) (aQ0.mpr hline) (bO hs0) (fN _ _ λy hy=>by rw[aRP] at hy;subst hy;exact hs)
 refine PS.imp (o7 h1) λE σ H q=>?_;obtain ⟨ρ,F,R,w⟩:=q;dsimp only at w;unfold oY tBM;cases e0:ρ[i]? with
 | none=>unfold gB at w;rw[e0] at w;exact w.elim
 | some o =>
  cases o with
  | none=>unfold gB at w;rw[e0] at w;exact w.elim
  | some bd =>
   obtain ⟨b,d0⟩:=bd;cases b with
   | false=>unfold gB at w;rw[e0] at w;exact w.elim
   | true =>
    cases d0 with
    | lst ds =>
     unfold gB at w;rw[e0] at w;dsimp only at w;obtain ⟨v0,ev0,rp0,hn0⟩:=R.slot i true _ e0;obtain ⟨a,ea,hfa,xs,hh,rl⟩:=rp0;subst ea;refine ⟨.ref a,ev0,.inl ⟨rfl,xs,SqL.of hh⟩,?_⟩;unfold eW;refine fX R w λm0 kd u F1 H1 w1 s1 R1 rp1 _=>?_;cases kd with
     | int k =>
      dsimp only at w1;refine fX R1 w1 λm d v F' H' w' s R' rp fr=>?_;cases m with
      | fr=>exact (show False from w').elim
      | bo=>exact (show False from w').elim
      | fz =>
      dsimp only at w';split at w'
      . rename_i hl;simp only[aQB,aQQ] at hl;have hh':H' a=some (.lst xs):=s.same _ _ (s1.same _ _ hh);cases rp1.int;refine ⟨a,xs,k,v,rfl,rfl,hh',hl.1.1,hl.1.2,by rw[rl.length];exact hl.2,?_⟩
        have rl':=rl.mono (s1.fsame.trans s.fsame);exact w' σ F' _ (aH.refl _) (R'.mut e0 ev0 ⟨_,bN,aB.append (aB.takeX _ rl') (aB.cons rp (aB.dropX _ rl'))⟩)
      . exact w'.elim
     | _=>exact (show False from w1).elim
    | _=>unfold gB at w;rw[e0] at w;exact w.elim
end
end D3
namespace D3
open PySem PySem.Spec PyProof.Rows L2
section
variable {prog:Program}{w:World}{A:Around}{R:Result->Shared->Prop}{J:Addr}{fp wr:List Addr}{n:Nat}{P:Nat->Value->Prop}{St:Nat->Heap->Prop}{ns:List Int}{S:Addr}
end
section
variable {prog:Program}{w:World}{A:Around}{E:VSP}{s:Shared}
end
section
variable {C:Cw}{X:Cx}{e:Expr}{g:Rho->Res}{p q kp pos:Pos}{j}
end
theorem aB.drop{K:Fg}{F:Hp}:∀ (n:Nat) {ds:List D} {xs:List V},aB K F ds xs->aB K F (ds.drop n) (xs.drop n)
 | 0,_,_,h=>h
 | n+1,[],xs,h=>by simp only[aB] at h;subst h;simp[aB]
 | n+1,d::ds,xs,h=>by simp only[aB] at h;obtain ⟨v,vs,rfl,_,t⟩:=h;exact aB.drop n t
theorem aB.take{K:Fg}{F:Hp}:∀ (n:Nat) {ds:List D} {xs:List V},aB K F ds xs->aB K F (ds.take n) (xs.take n)
 | 0,_,_,_=>by simp[aB]
 | n+1,[],xs,h=>by simp only[aB] at h;subst h;simp[aB]
 | n+1,d::ds,xs,h=>by simp only[aB] at h;obtain ⟨v,vs,rfl,r,t⟩:=h;simp only[List.take_succ_cons,aB];exact ⟨v,_,rfl,r,aB.take n t⟩
def cR(xs:List D)(lo hi:Option Int):List D:=(xs.drop (HT.sIx xs.length 0 lo)).take (HT.sIx xs.length xs.length hi-HT.sIx xs.length 0 lo)
theorem aB.cut{K:Fg}{F:Hp}{ds:List D}{xs:List V}(h:aB K F ds xs)(lo hi:Option Int):aB K F (cR ds lo hi) (fV xs lo hi):=by unfold cR fV;rw[h.length];exact (h.drop _).take _
def lA(n:Nat)(lo hi:Option Int):Bool:=HT.sIx n 0 lo==0&&HT.sIx n n hi==n
def slP(x:Res)(lo hi:Option (Rho->Res))(ρ:Rho):Res:=x.thn λm d=>match d with
 | .str z=>cW lo ρ λl=>cW hi ρ λh=>.ok .fz (.str (Txt.slice z l h))
 | .lst ds=>cW lo ρ λl=>cW hi ρ λh=>.ok .fr (.lst (cR ds l h))
 | .tup ds=>cW lo ρ λl=>cW hi ρ λh=>if (lA ds.length l h&&m != .fz)=true then .stuck else .ok .fz (.tup (cR ds l h))
 | _=>.stuck
section
variable {C:Cw}{X:Cx}{a:Expr}{ga:Rho->Res}{pos:Pos}
theorem aII{lo hi:Option Expr}{gl gh:Option (Rho->Res)}{p2:Pos}(ha:PV C X a ga)(hl:POv C X lo gl)(hh:POv C X hi gh):PV C X (.Subscript a (.Slice lo hi none p2) pos) (λρ=>slP (ga ρ) gl gh ρ):=by
 refine PE.imp (aCM (aEC.or (aCV.or (aCN.or aF5))) ha (tW hl) (tW hh)) λσ H Q q=>?_;unfold tSl;rw[aV] at q ⊢;obtain ⟨ρ,F,R,w⟩:=q
 try dsimp only at w
 refine ⟨ρ,F,R,?_⟩;cases er:ga ρ with
 | stuck=>rw[er] at w;exact w
 | exc c=>rw[er] at w;exact w
 | ok m d =>
  rw[er] at w;intro v F1 H1 s1 rp _;cases d with
  | str z=>obtain ⟨rfl,hz,hk⟩:=rp.str;have w1:aS (C.at X) F1 H1 σ (cW gl ρ λl=>cW gh ρ λh=>.ok .fz (.str (Txt.slice z l h))) Q:=aS.step s1 w;refine i6 (R.step s1) w1 λl F2 H2 s2 R2 w2=>i6 R2 w2 λh F3 H3 s3 R3 w3=>.inl ?_;exact ⟨z,rfl,hz,w3 _ F3 H3 (.refl R3.sub) (fA ⟨aOP (aQX z _ _) hz,aED hk⟩) (by intro z;cases z)⟩
  | lst ds=>have w1:aS (C.at X) F1 H1 σ (cW gl ρ λl=>cW gh ρ λh=>.ok .fr (.lst (cR ds l h))) Q:=aS.step s1 w;refine i6 (R.step s1) w1 λl F2 H2 s2 R2 w2=>i6 R2 w2 λh F3 H3 s3 R3 w3=>.inr (.inl ?_);obtain ⟨p,xs,rfl,hq,rl⟩:=((rp.step s2).step s3).seqL R3.sub;exact ⟨p,xs,rfl,hq,λp' hp'=>w3 (.ref p') F3 _ (aK.fresh _ R3.sub hp') ⟨p',rfl,R3.sub.free hp',_,bN,rl.cut l h⟩ λ_ a ea=>by cases ea;exact hp'⟩
  | tup ds =>
   have w1:aS (C.at X) F1 H1 σ (cW gl ρ λl=>cW gh ρ λh=>if (lA ds.length l h&&m != .fz)=true then .stuck else .ok .fz (.tup (cR ds l h))) Q:=aS.step s1 w;refine i6 (R.step s1) w1 λl F2 H2 s2 R2 w2=>i6 R2 w2 λh F3 H3 s3 R3 w3=>.inr (.inr ?_);obtain ⟨p,xs,rfl,hq,rl⟩:=((rp.step s2).step s3).seqT R3.sub;have lw:lA ds.length l h=true↔HT.sIx xs.length 0 l=0/\HT.sIx xs.length xs.length h=xs.length:=by rw[rl.length];unfold lA;simp
   cases hw:lA ds.length l h with
   | true =>
    cases m with
    | fz =>
     rw[hw,if_neg (by decide)] at w3
     have e:=lw.mp hw;have ec:cR ds l h=ds:=by unfold cR;rw[<- rl.length,e.1,e.2,rl.length,aRM,Nat.sub_zero];exact aSG
     rw[ec] at w3;exact .inr ⟨p,xs,rfl,hq,e,w3 (.ref p) F3 H3 (.refl R3.sub) ((rp.step s2).step s3) (by intro z;cases z)⟩
    | fr=>rw[hw,if_pos (by decide)] at w3;exact w3.elim
    | bo=>rw[hw,if_pos (by decide)] at w3;exact w3.elim
   | false =>
    rw[hw,if_neg (by simp)] at w3
    refine .inl ⟨p,xs,rfl,hq,λz=>?_,λp' hp'=>w3 (.ref p') _ _ (aK.laid (.tup (fV xs l h)) R3.sub hp') (aF.tup_of (R3.sub.free hp') (rl.cut l h)) (by intro z;cases z)⟩
    rw[lw.mpr z] at hw;cases hw
  | _=>exact (show False from w).elim
end
section
variable {C:Cw}{X:Cx}{pos:Pos}
theorem aIJ:PV C X (.Dict [] [] pos) (λ_=>.ok .fr (.dct [])):=by refine PE.imp aDB λσ H Q q=>?_;rw[aV] at q;obtain ⟨ρ,F,R,w⟩:=q;intro p hp;exact w (.ref p) F _ (aK.fresh _ R.sub hp) ⟨p,rfl,R.sub.free hp,[],bN,by simp[aL]⟩ λ_ a ea=>by cases ea;exact hp
end
def bE(kvs:List (Key×D))(k:Key):Option D:=(kvs.find? λkv=>decide (kv.1=k)).map (·.2)
theorem aL.val{K:Fg}{F:Hp}:∀ {kvs:List (Key×D)} {xs:List (Key×V)} (k:Key),aL K F kvs xs->match bE kvs k with | some d=>∃ v,c9 xs k=some v/\aF K F d v | none=>c9 xs k=none
 | [],xs,k,h=>by simp only[aL] at h;subst h;rfl
 | (k',d)::kvs,xs,k,h=>by
  simp only[aL] at h;obtain ⟨y,ys,rfl,r,t⟩:=h;by_cases e:k'=k
  . have e1:bE ((k',d)::kvs) k=some d:=by simp[bE,aQH,e]
    rw[e1];exact ⟨y,mQ e,r⟩
  . have e1:bE ((k',d)::kvs) k=bE kvs k:=by simp[bE,aQH,e]
    rw[e1,mR (p:=(k',y)) e];exact aL.val k t
section
variable {X:Cx}
def rIxK:R2:=λx y H Q=>∃ a v,x=.ref a/\gN H a y (some v)/\Q v H
theorem aIK(hu:X.A.units+1<cLine):IxR X rIxK:=by
 intro value slice aA s σ H x y v u Q I rx ry h hsub;obtain ⟨a,w',rfl,g,q⟩:=h;cases (show v=Value.ref a from rx)
 have hT:s.TypeIs (.ref a) "dict" := aC7 I g;unfold subscriptTail;refine aO3 ?_;rw[getitemInPython_of_ne hT.not_modules];refine aO3 (aQO hT PySem.F.slot_dict_getitem.lookup ?_);have fin:wpAny (model X.prog X.w) X.A (subscripted slice false (.ref a) u) (λr s3=>wpAny (model X.prog X.w) X.A (letTemporaryGo value (.ref a) r >>= λ_=>pure r) (EP X aA σ Q) X.xe s3) X.xe s:=by rw[hsub];exact wpAny_operating (aC3 hu I g ry λz s3 I3 rz=>aO3 (wpAny_letTemporaryGo (aO5 ⟨w',H,I3,rz,q⟩)))
 first
  | exact aO5 (aO3 fin)
  | exact aO3 (aO5 (aO3 fin))
  | exact aO3 fin
end
def ixK:Md->D->Md->D->Option (Md×D):=λ_ x _ y=>match x,i7 y with
 | .dct kvs,some k=>(bE kvs k).map λd=>(.fz,d)
 | _,_=>none
theorem qG{K:Fg}{F H:Hp}{m n:Md}{kvs:List (Key×D)}{y:D}{k:Key}{v u:V}(s:aH F H)(rx:Rp K F H m (.dct kvs) v)(ry:Rp K F H n y u)(ek:i7 y=some k):∃ a xs,v=.ref a/\H a=some (.dK xs)/\aL K F kvs xs/\gN H a u (c9 xs k):=by obtain ⟨a,xs,rfl,hh,rk⟩:=rx.dict s;exact ⟨a,xs,rfl,hh,rk,.inl ⟨xs,k,.inl hh,pM ek ry,rfl⟩⟩
section
variable {C:Cw}{X:Cx}{a b:Expr}{ga gb:Rho->Res}{pos:Pos}
def inK(neg:Bool):Md->D->Md->D->Option (Md×D):=λ_ x _ y=>match i7 x,y with
 | some k,.dct kvs=>some (.fz,.bl (if neg then !(bE kvs k).isSome else (bE kvs k).isSome))
 | _,_=>none
theorem vB{K:Fg}{F:Hp}{kvs:List (Key×D)}{xs:List (Key×V)}(k:Key)(h:aL K F kvs xs):(c9 xs k).isSome=(bE kvs k).isSome:=by
 have:=aL.val k h;cases e:bE kvs k with
 | none=>rw[e] at this;have this:c9 xs k=none:=this;rw[this];rfl
 | some d=>rw[e] at this;obtain ⟨v,ev,_⟩:=this;rw[ev];rfl
theorem vC(hu:X.A.units+1<cLine):OpD C X (compareOp .In) (inK false):=by
 refine ⟨λx y H Q=>∃ a o,y=.ref a/\gN H a x o/\Q (.bl o.isSome) H,?_,?_⟩
 . intro aA s σ H x y v u Q I rx ry h;obtain ⟨a,o,rfl,g,q⟩:=h;cases (show u=Value.ref a from ry)
   exact d_in hu I g rx λs3 I3=>⟨.bl o.isSome,H,I3,rfl,q⟩
 . intro F H m x n y v u k d Q s rx ry e w;unfold inK at e;split at e
   . rename_i ky kvs ek;cases e;obtain ⟨p,xs,rfl,hh,rk,g⟩:=qG s ry rx ek;exact ⟨p,_,rfl,g,by rw[vB ky rk];exact w _ F H (.refl s) (bY _) (by intro z;cases z)⟩
   . cases e
theorem vD(hu:X.A.units+1<cLine):OpD C X (compareOp .NotIn) (inK true):=by
 refine ⟨λx y H Q=>∃ a o,y=.ref a/\gN H a x o/\Q (.bl (!o.isSome)) H,?_,?_⟩
 . intro aA s σ H x y v u Q I rx ry h;obtain ⟨a,o,rfl,g,q⟩:=h;cases (show u=Value.ref a from ry)
   exact aC4 hu I g rx λs3 I3=>⟨.bl (!o.isSome),H,I3,rfl,q⟩
 . intro F H m x n y v u k d Q s rx ry e w;unfold inK at e;split at e
   . rename_i ky kvs ek;cases e;obtain ⟨p,xs,rfl,hh,rk,g⟩:=qG s ry rx ek;exact ⟨p,_,rfl,g,by rw[vB ky rk];exact w _ F H (.refl s) (bY _) (by intro z;cases z)⟩
   . cases e
def nM:List (Md×D)->Option (Md×D)
 | [(_,.dct kvs)]=>some (.fr,.dct kvs)
 | _=>none
theorem aIL:dW X (.type "dict") nM:=by
 refine ⟨λvs H Q=>∃ a xs,vs=[.ref a]/\H a=some (.dK xs)/\∀ p,H p=none->Q (.ref p) (upd H p (.dK xs)),?_,?_⟩
 . intro aA s σ H vs us Q I r h;obtain ⟨a,xs,rfl,hh,q⟩:=h;obtain ⟨u,rfl,ru⟩:=fU r;cases (show u=Value.ref a from ru)
   exact aDC I (.inl hh) λp s' hp I'=>⟨.ref p,_,I',rfl,q p hp⟩
 . intro F H xs vs k d Q s rx e w;unfold nM at e;split at e
   . rename_i m kvs;cases e;obtain ⟨v,rfl,r⟩:=rx.one;obtain ⟨a,ys,rfl,hh,rk⟩:=r.dict s;exact ⟨a,ys,rfl,hh,λp hp=>w (.ref p) F _ (aK.fresh _ s hp) ⟨p,rfl,s.free hp,ys,bN,rk⟩ λ_ b eb=>by cases eb;exact hp⟩
   . cases e
end
def eN(kvs:List (Key×D))(k:Key)(d:D):List (Key×D):=if (kvs.any λkv=>decide (kv.1=k))=true then kvs.map (λkv=>if kv.1=k then (kv.1,d) else kv) else kvs++[(k,d)]
theorem aL.keys{K:Fg}{F:Hp}:∀ {kvs:List (Key×D)} {xs:List (Key×V)},aL K F kvs xs->xs.map (·.1)=kvs.map (·.1)
 | [],xs,h=>by simp only[aL] at h;subst h;rfl
 | (k,d)::kvs,xs,h=>by simp only[aL] at h;obtain ⟨y,ys,rfl,_,t⟩:=h;simp[aL.keys t]
theorem aL.snoc{K:Fg}{F:Hp}{k:Key}{d:D}{v:V}(r:aF K F d v):∀ {kvs:List (Key×D)} {xs:List (Key×V)},aL K F kvs xs->aL K F (kvs++[(k,d)]) (xs++[(k,v)])
 | [],xs,h=>by simp only[aL] at h;subst h;simp only[List.nil_append,aL];exact ⟨v,[],rfl,r,rfl⟩
 | (k',d')::kvs,xs,h=>by simp only[aL] at h;obtain ⟨y,ys,rfl,r',t⟩:=h;simp only[List.cons_append,aL];exact ⟨y,_,rfl,r',aL.snoc r t⟩
theorem aL.repl{K:Fg}{F:Hp}{k:Key}{d:D}{v:V}(r:aF K F d v):∀ {kvs:List (Key×D)} {xs:List (Key×V)},aL K F kvs xs->aL K F (kvs.map λkv=>if kv.1=k then (kv.1,d) else kv) (xs.map λkv=>if kv.1=k then (kv.1,v) else kv)
 | [],xs,h=>by simp only[aL] at h;subst h;simp[aL]
 | (k',d')::kvs,xs,h=>by
  simp only[aL] at h;obtain ⟨y,ys,rfl,r',t⟩:=h;have ih:=aL.repl (k:=k) r t;by_cases e:k'=k
  . simp only[aQK,e,aP3,aL];exact ⟨v,_,rfl,r,ih⟩
  . simp only[aQK,e,aP2,aL];exact ⟨y,_,rfl,r',ih⟩
theorem aL.put{K:Fg}{F:Hp}{k:Key}{d:D}{v:V}{kvs:List (Key×D)}{xs:List (Key×V)}(h:aL K F kvs xs)(r:aF K F d v):aL K F (eN kvs k d) (dA xs k v):=by
 have e:(xs.any λkv=>decide (kv.1=k))=(kvs.any λkv=>decide (kv.1=k)):=by
  have:=h.keys;have a1:∀ {β:Type} (l:List (Key×β)),(l.any λkv=>decide (kv.1=k))=(l.map (·.1)).any (λx=>decide (x=k)):=λl=>by rw[List.any_map];rfl
  rw[a1,a1,this]
 unfold eN dA;rw[e];split
 . exact aL.repl r h
 . exact aL.snoc r h
theorem aL.len{K:Fg}{F:Hp}{kvs:List (Key×D)}{xs:List (Key×V)}(h:aL K F kvs xs):xs.length=kvs.length:=by have:=congrArg List.length h.keys;simpa using this
def gC(ρ:Rho)(i:Nat)(rk rv:Res):aG:=match ρ[i]? with
 | some (some (true,.dct kvs))=>(a8 rv).thS ρ λm d=>match m with
  | .fz=>rk.thS ρ λ_ kd=>(match i7 kd with
   | some k=>if kvs.length<sizeLine then .nx (ρ.set i (some (true,.dct (eN kvs k d)))) else .stuck
   | none=>.stuck)
  | _=>.stuck
 | _=>.stuck
section
variable {C:Cw}{X:Cx}{e ke:Expr}{g gk:Rho->Res}{x:Str}{p sp pos:Pos}
theorem aIM(i:Nat)(hu:X.A.units+1<cLine)(hv:PE X (.Name x p) (hV i))(hk:PV C X ke gk)(he:PV C X e g)(hsw:swapsWith e (some (.Subscript (.Name x p) ke sp)) pos.line X.env=pure false):PSv C X (.Assign [.Subscript (.Name x p) ke sp] e pos) (λρ=>gC ρ i (gk ρ) (g ρ)):=by
 refine PS.imp (aC8 hu hv hk (fK he) hsw) λE σ H q=>?_;obtain ⟨ρ,F,R,w⟩:=q;dsimp only at w;unfold tJ;cases e0:ρ[i]? with
 | none=>unfold gC at w;rw[e0] at w;exact w.elim
 | some o =>
  cases o with
  | none=>unfold gC at w;rw[e0] at w;exact w.elim
  | some bd =>
   obtain ⟨b,d0⟩:=bd;cases b with
   | false=>unfold gC at w;rw[e0] at w;exact w.elim
   | true =>
    cases d0 with
    | dct kvs =>
     unfold gC at w;rw[e0] at w;dsimp only at w;obtain ⟨v0,ev0,rp0,hn0⟩:=R.slot i true _ e0;obtain ⟨a,ea,hfa,xs,hh,rk⟩:=rp0;subst ea;refine fX R w λm d v F' H' w' s R' rp fr=>?_;cases m with
     | fr=>exact (show False from w').elim
     | bo=>exact (show False from w').elim
     | fz =>
     dsimp only at w';refine ⟨.ref a,ev0,?_⟩;refine fX R' w' λm2 kd u F2 H2 w2 s2 R2 rp2 _=>?_;cases ek:i7 kd with
     | none=>rw[ek] at w2;exact w2.elim
     | some k =>
      rw[ek] at w2;dsimp only at w2;split at w2
      . rename_i hl;have hh2:H2 a=some (.dK xs):=s2.same _ _ (s.same _ _ hh);refine ⟨a,_,rfl,.inl ⟨xs,k,hh2,pM ek rp2,by rw[rk.len];exact hl,rfl⟩,?_⟩
        exact w2 σ F2 _ (aH.refl _) (R2.mut e0 ev0 ⟨_,bN,aL.put (rk.mono (s.fsame.trans s2.fsame) _ _) (aF.mono s2.fsame _ _ rp)⟩)
      . exact w2.elim
    | _=>unfold gC at w;rw[e0] at w;exact w.elim
end
section
variable {C:Cw}{X:Cx}{a b:Expr}{ga gb:Rho->Res}{pos:Pos}
theorem aIN(hu:X.A.units+1<cLine)(ha:PV C X a ga)(hb:PV C X b gb)(hs:mP b):PV C X (.Subscript a b pos) (λρ=>op2 ixK (ga ρ) (gb ρ)):=by
 refine PE.imp (sY (aIK hu) ha hb hs) λσ H Q q=>kM (λF H m x n y v u k d Q s rx ry e w=>?_) q;unfold ixK at e;split at e
 . rename_i kvs ky ek;obtain ⟨p,xs,rfl,hh,rk,g⟩:=qG s rx ry ek;cases eg:bE kvs ky with
   | none=>rw[eg] at e;cases e
   | some d'=>rw[eg] at e;cases e;have:=aL.val ky rk;rw[eg] at this;obtain ⟨v',ev,rv⟩:=this;rw[ev] at g;exact ⟨p,v',rfl,g,w v' F H (.refl s) rv (by intro z;cases z)⟩
 . cases e
theorem aIO{neg:Bool}{op:CmpOp}(ho:op=if neg then .NotIn else .In)(hu:X.A.units+1<cLine)(ha:PV C X a ga)(hb:PV C X b gb)(hm:behindInMarks op b=false):PV C X (.Compare a [op] [b] pos) (λρ=>op2 (inK neg) (ga ρ) (gb ρ)):=by
 cases neg with
 | false=>subst ho;exact kN (vC hu) ha hb hm
 | true=>subst ho;exact kN (vD hu) ha hb hm
end
end D3
namespace D3
open PySem PySem.Spec PyProof.Rows L2 PySem.SeqAt PySem.MeetsSeq
section
variable {X:Cx}{o e:Expr}{apos cpos:Pos}{td ty:TE}
end
section
variable {C:Cw}{X:Cx}{o e:Expr}{apos cpos:Pos}{go g:Rho->Res}
end
end D3
namespace D3
open PySem PySem.Spec PyProof.Rows L2
def eP(kb:List (Key×D)):List (Key×D)->Option Bool
 | []=>some true
 | (k,d)::r=>match bE kb k with
  | none=>some false
  | some e=>(match bA d,bA e with
   | some p,some q=>if (eL p&&eL q)=true then (eP kb r).map λb=>PyData.eqv p q&&b else none
   | _,_=>none)
def eqN(neg:Bool):Md->D->Md->D->Option (Md×D):=λ_ x _ y=>match x,y with
 | .dct ka,.dct kb=>(eP kb ka).map λr=>(.fz,.bl (if neg then !(ka.length==kb.length&&r) else (ka.length==kb.length&&r)))
 | _,_=>none
section
variable {C:Cw}{X:Cx}
theorem vE{aA:LAO}{σ:L2.St}{F H:Hp}{s:Shared}(hu:X.A.units+64<cLine)(I:L2.Inv X aA σ H s)(sF:aH F H){kb:List (Key×D)}{ys:List (Key×V)}{vb:List (Key×Value)}(rb:aL X.K F kb ys)(kvb:KV ys vb):∀ {ka:List (Key×D)} {xs:List (Key×V)} {va:List (Key×Value)} {r:Bool},aL X.K F ka xs->KV xs va->eP kb ka=some r->PySem.W.KeqHits X.A.in1 s vb va r
 | [],xs,va,r,h,kv,e=>by simp only[aL] at h;subst h;cases kv;cases e;exact .nil
 | (k,d)::ka,xs,va,r,h,kv,e=>by
  simp only[aL] at h;obtain ⟨y,xs',rfl,ry,t⟩:=h;cases kv with
  | cons h1 t1 =>
   rename_i q1 va';obtain ⟨k1,u1⟩:=q1;obtain ⟨e1,r1⟩:=h1;dsimp only at e1 r1;subst e1;unfold eP at e;have hv:=aL.val k rb;have hr:=kvb.val k;cases eg:bE kb k with
   | none=>rw[eg] at e hv;cases e;have hv:c9 ys k=none:=hv;rw[hv] at hr;exact .miss (dS.none_of hr)
   | some ee =>
    rw[eg] at e hv;obtain ⟨v2,ev2,rv2⟩:=hv;rw[ev2] at hr;obtain ⟨u2,eu2,ru2⟩:=dS.some_of hr;dsimp only at e;split at e
    . rename_i p q ep eq;split at e
      . rename_i hs;cases eh:eP kb ka with
        | none=>rw[eh] at e;cases e
        | some b=>rw[eh] at e;cases e;rw[aQB] at hs;have hs1:=aQR hs.1;obtain ⟨⟨as,ra⟩,ca⟩:=mZ I sF d p y u1 ry r1 ep;obtain ⟨⟨bs,rb'⟩,cb⟩:=mZ I sF ee q v2 u2 rv2 ru2 eq;exact .hit eu2 (SeqAt.eqAt_reads p q X.A.in1 s u1 u2 as bs ra rb' ca cb (by show X.A.units+1+min p.depth q.depth<cLine;have:=Nat.min_le_left p.depth q.depth;omega)) (vE hu I sF rb kvb t t1 eh)
      . cases e
    . cases e
theorem vF{f:Value->Value->Sem Value}{neg:Bool}(hu:X.A.units+64<cLine)(rule:∀ (s:Shared) (a b:Addr) (ka kb:List (Key×Value)) (r:Bool) (Q:VSP),(a==sysModules)=false->(b==sysModules)=false->s.heap.DictOf (bV X.prog X.w) a ka->s.heap.DictOf (bV X.prog X.w) b kb->(ka.length=kb.length->PySem.W.KeqHits X.A.in1 s kb ka r)->Q (.bool (if neg then !(ka.length==kb.length&&r) else (ka.length==kb.length&&r))) s->wpAny (model X.prog X.w) X.A (f (.ref a) (.ref b)) Q X.xe s):OpD C X f (eqN neg):=by
 refine ⟨λx y H Q=>∃ F m n ka kb r,aH F H/\Rp X.K F H m (.dct ka) x/\Rp X.K F H n (.dct kb) y/\eP kb ka=some r/\Q (.bl (if neg then !(ka.length==kb.length&&r) else (ka.length==kb.length&&r))) H,?_,?_⟩
 . intro aA s σ H x y v u Q I rx ry h;obtain ⟨F,m,n,ka,kb,r,sF,hd,he,eh,hQ⟩:=h;obtain ⟨a,xs,rfl,ha,ra⟩:=hd.dict sF;obtain ⟨b,ys,rfl,hb,rb⟩:=he.dict sF;cases rx;cases ry;obtain ⟨_,sa,va,rva,da⟩:=pI I.hok ha;obtain ⟨_,sb,vb,rvb,db⟩:=pI I.hok hb;have la:va.length=ka.length:=by rw[<- ra.len];exact (aOE rva).symm
   have lb:vb.length=kb.length:=by rw[<- rb.len];exact (aOE rvb).symm
   refine rule s a b va vb r _ sa sb da db (λ_=>vE hu I sF rb rvb ra rva eh) ⟨.bl _,H,I,rfl,?_⟩;rw[la,lb];exact hQ
 . intro F H m x n y v u k d Q s rx ry e w;unfold eqN at e;split at e
   . rename_i ka kb;cases eh:eP kb ka with
     | none=>rw[eh] at e;cases e
     | some r=>rw[eh] at e;cases e;exact ⟨F,m,n,ka,kb,r,s,rx,ry,eh,w _ F H (.refl s) (bY _) (by intro z;cases z)⟩
   . cases e
theorem vG(hu:X.A.units+64<cLine):OpD C X (compareOp .Eq) (eqN false):=vF hu λs a b ka kb r Q sa sb da db hits q=>PySem.W.keq_eq sa sb da db (by omega) hits q
theorem vH(hu:X.A.units+64<cLine):OpD C X (compareOp .NotEq) (eqN true):=vF hu λs a b ka kb r Q sa sb da db hits q=>PySem.W.keq_ne sa sb da db (by omega) hits q
end
def iK(w:World)(K:Fg):List (Str×Str)->List DictEntry->Prop
 | [],es=>es=[]
 | (z,f)::r,es=>∃ t a es',es=⟨PyData.keyHash w.params z,.str z t,.ref a⟩::es'/\PySem.W.nsIn K mainGlobals f=some (some (.ref a))/\iK w K r es'
structure gX(w:World)(K:Fg)(mg:SOV)(x:Str)(tb:List (Str×Str)):Prop where
 ex:∃ a ob es ep,mg x=some (.ref a)/\K.lookup a=some ob/\ob.ExactDict/\ob.data=.dict es ep/\iK w K tb es.toList
 nd:(tb.map (·.1)).Nodup
theorem iK.pairs{P:Program}{w:World}{K:Fg}:∀ {tb:List (Str×Str)} {es:List DictEntry},iK w K tb es->∃ kvs:List (Key×Value),Pairs (bV P w) es kvs/\kvs.map (·.1)=tb.map (λp=>.inr p.1)/\(∀ e∈es,∃ k,(bV P w).is k e.key=true/\e.hash=(bV P w).hash k)/\∀ z f,tb.lookup z=some f->∃ a,valueAt kvs (.inr z)=some (.ref a)/\PySem.W.nsIn K mainGlobals f=some (some (.ref a))
 | [],es,h=>by
  have h:es=[]:=h;subst h;refine ⟨[],.nil,rfl,λe h=>?_,λz f h=>?_⟩
  . cases h
  . cases h
 | (z,f)::r,es,h=>by
  obtain ⟨t,a,es',rfl,hn,hr⟩:=h;obtain ⟨kvs,p1,p2,p3,p4⟩:=iK.pairs (P:=P) hr;have hi:(bV P w).is (.inr z) (.str z t)=true:=by show Value.isStrOf z (.str z t)=true;simp[Value.isStrOf]
  refine ⟨(.inr z,.ref a)::kvs,.cons hi rfl p1,by simp[p2],λe he=>?_,λz' f' hz=>?_⟩
  . rcases aOR.mp he with rfl | he
    . exact ⟨.inr z,hi,rfl⟩
    . exact p3 e he
  . rw[aRF] at hz;unfold valueAt;by_cases e:z'=z
    . subst e;rw[aRG] at hz;cases hz;exact ⟨a,by simp[aQH],hn⟩
    . have:(z'==z)=false:=aOD.mpr e;rw[this] at hz;obtain ⟨a',q1,q2⟩:=p4 z' f' hz;refine ⟨a',?_,q2⟩;unfold valueAt at q1;simp[aQH];simpa[Ne.symm e] using q1
abbrev Tbl:=List (Str×Str)
abbrev Fns:=List Str
def jN(tb:List (Str×Str))(r:Res):Res:=r.thn λ_ d=>match d with
 | .str z=>(match tb.lookup z with | some f=>.ok .fz (.fn f) | none=>.stuck)
 | _=>.stuck
def lB(Φ:Str->List D->Res)(fs:List Str)(n:Nat)(r:Res)(as:aW):Res:=match r with
 | .ok .fz (.fn f)=>if fs.contains f=true then aU n (Φ f) as else .stuck
 | _=>.stuck
section
variable {C:Cw}{X:Cx}{e b:Expr}{es:List Expr}{gs:Rho->aW}{gb:Rho->Res}{p pos:Pos}{x:Str}{k n:Nat}{tb:List (Str×Str)}
theorem aIP(T:gX X.w X.K X.mg x tb)(hg:Gl X x)(hb:PV C X b gb)(hs:pK b)(hd:(x==("__debug__" : Str))=false):PV C X (.Subscript (.Name x p) b pos) (λρ=>jN tb (gb ρ)):=by
 obtain ⟨a,ob,es,ep,hm,hk,xd,hdt,te⟩:=T.ex;intro aA s σ H Q I h;rw[aV] at h;obtain ⟨ρ,F,R,w⟩:=h;have hb':=hb aA s σ H (λy H2=>∃ z f,y=.str z/\tb.lookup z=some f/\∀ fa,PySem.W.nsIn X.K mainGlobals f=some (some (.ref fa))->Q (.ref fa) H2) I (by
  rw[aV];refine ⟨ρ,F,R,?_⟩;cases er:gb ρ with
  | stuck=>rw[er] at w;exact w
  | exc c=>rw[er] at w;exact w
  | ok m d =>
   rw[er] at w;intro v F1 H1 s1 r1 _;have w1:aS (C.at X) F1 H1 σ (jN tb (.ok m d)) Q:=aS.step s1 w;unfold jN at w1;rw[Res.thn_ok] at w1;cases d with
   | str z =>
    dsimp only at w1;cases el:tb.lookup z with
    | none=>rw[el] at w1;exact w1.elim
    | some f =>
     rw[el] at w1;refine ⟨z,f,?_,el,λfa hf=>w1 (.ref fa) F1 H1 (.refl s1.sub) (by show aF _ _ _ _;simp only[aF];exact ⟨fa,rfl,hf⟩) (by intro z;cases z)⟩
     exact (pM (k:=.inr z) rfl r1)
   | _=>exact w1.elim)
 refine aC6 PySem.F.slot_dict_getitem.lookup hs (kE I hg hm (thn hb' λiv s2 ⟨y,H2,I2,ry,z,f,ey,el,q⟩=>?_) hd);subst ey;obtain ⟨kvs,p1,p2,p3,p4⟩:=iK.pairs (P:=X.prog) te;have hh:s2.heap.get? a=some ob:=I2.kIn a ob hk
 have dd:s2.heap.DictOf (bV X.prog X.w) a kvs:=⟨ob,es,ep,hh,xd,hdt,λe he=>p3 e (by simpa using he),p1,by
  rw[p2];have:=T.nd;unfold List.Nodup at this ⊢;rw[List.pairwise_map] at this ⊢;exact this.imp λh z=>h (Sum.inr.inj z)⟩
 obtain ⟨fa,v1,v2⟩:=p4 z f el;exact ⟨dd.typeIs,wpAny_getItem_of (iB (k:=.inr z) ry) dd.mapOf v1 ⟨.ref fa,H2,I2.tok _,rfl,q fa v2⟩⟩
theorem aIQ{i:Nat}{fs:List Str}{Φ:Str->List D->Res}{CX:CXT}(F:∀ f,fs.contains f=true->FnV X.prog X.w X.K X.mg X.base CX k f n (Φ f))(hr:cK k X.A)(hx:XOk CX (C.at X) X)(hv:PE X (.Name x p) (hV i))(ha:PAv C X (e::es) gs)(he:starEach (e::es) X.env=(false,eval e X.env)::starEach es X.env)(hpl:(backTo pos (starEach es X.env)).any (·.1)=false):PV C X (.Call (.Name x p) (e::es) [] pos) (λρ=>lB Φ fs n (dU ρ i) (gs ρ)):=by
 intro aA s σ H Q I h;rw[aV] at h;obtain ⟨ρ,G,R,w⟩:=h;unfold lB at w;split at w;rotate_left
 . exact w.elim
 rename_i f eg;split at w;rotate_left
 . exact w.elim
 rename_i hf;obtain ⟨fa,fd,ps,FF,hm,hk,hb⟩:=(F f hf).ex;have sl:ρ[i]? = some (some (false,.fn f)):=by
  unfold dU at eg;split at eg
  . rename_i d q;cases eg;exact q
  . cases eg
  . cases eg
 obtain ⟨v,ev,rv,_⟩:=R.slot i false (.fn f) sl;have rv:aF X.K G (.fn f) v:=rv;simp only[aF] at rv;obtain ⟨a,rfl,na⟩:=rv;have ea:a=fa:=by have:=aSH I.ok.mod.kin I.ok.mod.glob na;rw[hm] at this;cases this;rfl
 subst ea;refine aPV (thn (hv aA s σ H (λv' H'=>v'=.ref a/\H'=H) I ⟨.ref a,ev,rfl,rfl⟩) λu s0 ⟨v',H0,I0,ru,e1,e2⟩=>?_);subst e1 e2;obtain rfl:u=Value.ref a:=ru;refine PySem.W.callWith_K (h₀:=X.base) I0.ok.mod.kin hk (thn (ha pos aA s0 σ H0 (λvs H1=>spV X.K X.mg n (Φ f) vs H1 Q λu _ H'=>∃ c,X.mg c=some u/\C.EE c σ H') I0 ?_) λus s1 ⟨vs,H1,I1,r,q⟩=>⟨I1.kIn,uG FF hr hb (λe s' hc=>hx aA σ H1 s1 e s' I1 hc) I1 r q⟩) he hpl;refine ⟨ρ,G,R,?_⟩;cases er:gs ρ with
 | stuck=>rw[er] at w;exact w
 | exc c=>rw[er] at w;exact w
 | ok xs =>
  rw[er] at w;intro vs F1 H1 s1 r1;have w1:aS (C.at X) F1 H1 σ (aU n (Φ f) (.ok xs)) Q:=aS.step s1 w;unfold aU at w1;rw[aW.thn_ok] at w1;cases ef:bZ xs with
  | none=>rw[ef] at w1;exact w1.elim
  | some ds =>
   rw[ef] at w1;dsimp only at w1;split at w1
   . rename_i hn;have rl:=r1.fz ef;refine ⟨by rw[rl.length];exact hn,F1,ds,s1.sub,rl,?_⟩
     cases ep:Φ f ds with
     | stuck=>rw[ep] at w1;exact w1
     | exc c=>rw[ep] at w1;exact λF' H' u st hu=>⟨c,hu,w1 F' H' st⟩
     | ok m d =>
      rw[ep] at w1;cases m with
      | bo=>exact w1.elim
      | fz=>exact ⟨by decide,w1⟩
      | fr=>exact ⟨by decide,w1⟩
   . exact w1.elim
end
section
variable {X:Cx}
end
theorem aR.frz{K:Fg}{F0 H0 F H:Hp}{σ:L2.St}{ρ:Rho}(R:aR K F0 H0 F H σ ρ){i:Nat}{d:D}(e:ρ[i]? = some (some (true,d))):∃ F',aH F F'/\aR K F0 H0 F' H σ (ρ.set i (some (false,d))):=by
 obtain ⟨v,ev,rp,hn⟩:=R.slot i true d e;obtain ⟨x,rfl,nx,t⟩:=rp;obtain ⟨o,ho,r⟩:=t.freeze nx;have sm:aH F (upd F x o):=λb u q=>by rw[aO (cV q nx)];exact q
 have hi:i<ρ.length:=(aOU.mp e).1;refine ⟨upd F x o,sm,R.st.freeze (hn rfl x rfl) nx ho,λj m d' ej=>?_,λj k d1 d2 a hjk e1 e2 q1 q2=>?_,by rw[aQ7];exact R.len⟩
 . by_cases hj:j=i
   . subst hj;rw[aOW hi] at ej;cases ej;exact ⟨.ref x,ev,r,by intro z;cases z⟩
   . rw[aOX (λz=>hj z.symm)] at ej;obtain ⟨v',ev',rp',hn'⟩:=R.slot j m d' ej;refine ⟨v',ev',?_,hn'⟩;cases m with
     | false=>exact aF.mono sm _ _ rp'
     | true =>
      obtain ⟨a,rfl,na,t'⟩:=rp';have ax:a≠x:=λz=>by subst z;exact R.apart j i d' d a hj ej e ev' ev
      refine ⟨a,rfl,by rw[aO ax];exact na,?_⟩
      cases d' with
      | lst ds=>obtain ⟨xs,q,rr⟩:=t';exact ⟨xs,q,rr.mono sm _ _⟩
      | dct ds=>obtain ⟨xs,q,rr⟩:=t';exact ⟨xs,q,rr.mono sm _ _⟩
      | ins c fs=>obtain ⟨C,dx,gs,n,q,rr⟩:=t';exact ⟨C,dx,gs,n,q,rr.mono sm _ _⟩
      | set ks=>obtain ⟨S,q,rr⟩:=t';exact ⟨S,q,rr⟩
      | _=>exact t'.elim
 . have own:∀ {j:Nat} {d1:D},(ρ.set i (some (false,d)))[j]? = some (some (true,d1))->ρ[j]? = some (some (true,d1)):=λ{j d1} z=>by
     by_cases hj:j=i
     . subst hj;rw[aOW hi] at z;cases z
     . rw[aOX (λy=>hj y.symm)] at z;exact z
   exact R.apart j k d1 d2 a hjk (own e1) (own e2) q1 q2
def lC(ρ:Rho)(i:Nat):aG:=match ρ[i]? with
 | some (some (true,d))=>.nx (ρ.set i (some (false,d)))
 | _=>.stuck
theorem aIR{C:Cw}{X:Cx}{sts:List Stmt}{i:Nat}{g:Rho->aG}(h:PBv C X sts g):PBv C X sts (λρ=>(lC ρ i).thn g):=by
 refine PSs.imp h λE σ H q=>?_;obtain ⟨ρ,F,R,w⟩:=q;dsimp only at w;unfold lC at w;split at w
 . rename_i d e;obtain ⟨F',sm,R'⟩:=R.frz e;exact ⟨_,F',R',bI.mono sm w⟩
 . exact w.elim
def Ent(w:World):List Str->List (Int×Value)->Prop
 | [],l=>l=[]
 | x::xs,l=>∃ t r,l=(hashStr w x,.str x t)::r/\Ent w xs r
def vI(w:World):Bool:=w.params.followText "set-order"
def SetX(w:World)(h:Heap)(a:Addr)(xs:List Str):Prop:=∃ o es ep t,h.get? a=some o/\o.ExactSet/\o.data=.set es ep t/\Ent w xs es.toList/\xs.Nodup/\xs.length<scanBound/\t.fits es.size=true/\t.led = !vI w/\(xs=[]\/t.plain=false)
section
variable {prog:Program}{w:World}{A:Around}{E:VSP}{s:Shared}
end
section
variable {prog:Program}{w:World}{A:Around}{E:VSP}{s:Shared}
end
section
variable {prog:Program}{w:World}{A:Around}{E:VSP}{s:Shared}
end
def Small(m:Nat):Prop:=m=7\/m=15\/m=31
section
variable {m:Nat}{ow:Array (Option Nat)}
end
def SetM(w:World)(h:Heap)(a:Addr)(xs:List Str):Prop:=∃ o es ep t,h.get? a=some o/\o.ExactSet/\o.data=.set es ep t/\Ent w xs es.toList/\xs.Nodup/\xs.length<scanBound/\t.fits es.size=true/\t.led = !vI w/\(xs=[]\/t.plain=false)/\Small t.mask/\t.dummies = #[]
section
variable {prog:Program}{w:World}{A:Around}{E:VSP}{s:Shared}
def Wide(h:Heap)(a:Addr)(n:Nat):Prop:=∀ o es ep t,h.get? a=some o->o.data=.set es ep t->n<=t.mask
end
section
variable {prog:Program}{w:World}{A:Around}{E:VSP}{s:Shared}
end
section
variable {prog:Program}{w:World}{A:Around}{E:VSP}{s:Shared}{I a:Addr}{i n ep:Nat}{o:Obj}{es:Array (Int×Value)}{t:SetTable}
end
section
variable {prog:Program}{w:World}{A:Around}{E:VSP}{s:Shared}
variable {I a:Addr}{ep:Nat}{o:Obj}{es:Array (Int×Value)}{t:SetTable}
end
section
variable {prog:Program}{w:World}{A:Around}{E:VSP}{s:Shared}{a:Addr}{xs:List Str}
end
def sx(w:World)(l:Addr)(ys:List Str):HO:=.ext λh=>SetX w h l ys
section
variable {X:Cx}
end
def txD:List D->Option (List Str)
 | []=>some []
 | .str x::ds=>(txD ds).map (x :: ·)
 | _::_=>none
theorem vJ{K:Fg}{F:Hp}:∀ {ds:List D} {xs:List V} {ns:List Str},txD ds=some ns->aB K F ds xs->xs=ns.map V.str/\∀ x∈ns,x.length<=sizeLine/\PyData.strOk x=true
 | [],xs,ns,e,r=>by cases e;simp only[aB] at r;subst r;exact ⟨rfl,λx hx=>by cases hx⟩
 | d::ds,xs,ns,e,r=>by
  cases d with
  | str x =>
   simp only[txD] at e;cases q:txD ds with
   | none=>rw[q] at e;cases e
   | some ms=>rw[q] at e;cases e;simp only[aB] at r;obtain ⟨v,vs,rfl,rv,rr⟩:=r;obtain ⟨rfl,h2⟩:=vJ q rr;simp only[aF] at rv;obtain ⟨rfl,h1⟩:=rv;exact ⟨rfl,λy hy=>(aOR.mp hy).elim (λe=>by subst e;exact h1) (h2 y)⟩
  | _=>cases e
section
variable {C:Cw}{X:Cx}{ga gb:Rho->Res}{ea eb:Expr}
end
section
variable {C:Cw}{X:Cx}{ga gb:Rho->Res}{ea eb:Expr}{p p1 p2 q q1 q2 pos:Pos}
end
section
variable {prog:Program}{w:World}{A:Around}{E:VSP}{s:Shared}{I l:Addr}{items:Array Value}
end
section
variable {C:Cw}{X:Cx}{ga:Rho->Res}{ea:Expr}{p p1 q1 pos:Pos}
end
section
variable {prog:Program}{w:World}{A:Around}{R:Result->Shared->Prop}{s:Shared}{b:Bool}{elt tg aI tg2 r6:Expr}{ifs:List Expr}{scope:Scope}{pos:Pos}{it acc:Value}{env:Env}
end
def AllF(ρ:Rho):Prop:=∀ (i:Nat) (m:Bool) (d:D),ρ[i]? = some (some (m,d))->m=false
def AR(K:Fg)(w:World)(b:Bool)(Da:Addr)(F:Hp)(zs:List D)(o:HO):Prop:=match b with
 | true=>∃ ys,o=.lst ys/\aB K F zs ys
 | false=>∃ (ns ys:List Str),zs=ns.map .str/\o=sx w Da ys/\ys.Nodup/\ys.length<=ns.length/\(∀ x,x∈ys↔x∈ns)/\∀ x∈ns,x.length<=sizeLine/\PyData.strOk x=true
section
variable {C:Cw}{X:Cx}
end
section
variable {C:Cw}{X:Cx}{elt aI tg r6 tg2:Expr}{ifs:List Expr}{scope:Scope}{pos:Pos}{aD:List Nat}{aE tgN:List Str}{gi gt gi2 ge:Rho->Res}
variable (hc : X.calm = true) (hi : PIv C X tg aI gi) (bW : ∀ y ∈ scope.names, y.2 ≠ .cell) (bX : scope.kind = .function) (cY : ∀ y ∈ scope.names, y.2 = .local → scope.names.lookup y.1 = some .local)
    (b0:∀ y∈scope.names,y.2=.free->X.env.kindOf y.1=some .cell\/X.env.kindOf y.1=some .free)
    (cG:aE.map some=aD.map λi=>X.N[i]?) (c7:∀ y∈aE,(y,NameKind.free)∈scope.names)
    (cZ:∀ y∈aE,(relabel scope X.env).names.lookup y=some .cell\/(relabel scope X.env).names.lookup y=some .free)
    (hn:tgN.length=2)
    (hg:∀ cl A fp s3 H3,PGw (aQ X scope (aE++tgN) cl A fp s3 H3) tg (.nm aD.length)) (hf:∀ cl A fp s3 H3,cO (aQ X scope (aE++tgN) cl A fp s3 H3) ifs (tT (C.nox.at X) gt))
    (hi2:∀ cl A fp s3 H3,PIv C.nox (aQ X scope (aE++tgN) cl A fp s3 H3) tg2 r6 gi2) (hg2:∀ cl A fp s3 H3,PGw (aQ X scope (aE++tgN) cl A fp s3 H3) tg2 (.nm (aD.length+1)))
    (he:∀ cl A fp s3 H3,PV C.nox (aQ X scope (aE++tgN) cl A fp s3 H3) elt ge)
    (hs:∀ x,foldedSetIterable aI X.env x=pure x) (hs2:∀ env x,foldedSetIterable r6 env x=pure x)
include hc hi bW bX cY b0 cG c7 cZ hn hg hf hi2 hg2 he hs hs2
end
end D3
namespace D3
open PySem PySem.Spec PyProof.Rows L2 PySem.W
structure StrO(n:Nat)(lt:Nat->Nat->Bool):Prop where
 tr:∀ {i j k},lt i j=true->lt j k=true->lt i k=true
 asy:∀ {i j},lt i j=true->lt j i=false
 tot:∀ {i j},i<n->j<n->i≠j->lt i j=true\/lt j i=true
section
variable {n:Nat}{lt:Nat->Nat->Bool}{cmp:Nat->Nat->(Bool->Shared->Prop)->Shared->Prop}{J:Shared->Prop}
def Upto(lt:Nat->Nat->Bool)(p:Array Nat)(b:Nat):Prop:=∀ i j,i<j->j<b->lt (p.getD i 0) (p.getD j 0)=true
def Dnto(lt:Nat->Nat->Bool)(p:Array Nat)(b:Nat):Prop:=∀ i j,i<j->j<b->lt (p.getD j 0) (p.getD i 0)=true
end
section
variable {prog:Program}{w:World}{A:Around}{E:VSP}{s:Shared}
end
section
variable {prog:Program}{w:World}{A:Around}{E:VSP}{s:Shared}
end
section
variable {X:Cx}
end
end D3
namespace D3
open PySem PySem.Spec PyProof.Rows L2 PySem.SeqAt PySem.MeetsSeq
abbrev vK:Md->D->Md->D->Option (Md×D):=fI (λ_ _=>true) λi j=>.int (Builtin.bitAnd i j)
abbrev fBor:Md->D->Md->D->Option (Md×D):=fI (λ_ _=>true) λi j=>.int (Builtin.bitOr i j)
abbrev fShl:Md->D->Md->D->Option (Md×D):=fI (λi j=>decide (0<=j)&&decide (j<=1000000)&&decide (i.natAbs<2 ^ 64)) λi j=>.int (i * 2 ^ j.toNat)
abbrev fShr:Md->D->Md->D->Option (Md×D):=fI (λ_ j=>decide (0<=j)) λi j=>.int (i / 2 ^ j.toNat)
section
variable {C:Cw}{X:Cx}
theorem aIS:OpD C X (binaryOp .BitAnd) vK:=gO aBW λ_ _ i j=>cL _
theorem aIT:OpD C X (binaryOp .BitOr) fBor:=gO op_or λ_ _ i j=>cL _
theorem aIU:OpD C X (binaryOp .LShift) fShl:=i3 aBU (λi j h=>by
 simp only[aQB,aQQ] at h;exact ⟨h.1.1,h.1.2,h.2⟩) λ_ _ i j=>cL _
theorem aIV:OpD C X (binaryOp .RShift) fShr:=i3 aBV (λi j h=>aQR h) λ_ _ i j=>cL _
end
section
variable {X:Cx}{o e:Expr}{apos cpos:Pos}{td ty:TE}
end
section
variable {C:Cw}{X:Cx}{o e:Expr}{apos cpos:Pos}{go g:Rho->Res}
end
end D3
namespace D3
open PySem PySem.Spec PyProof.Rows L2
section
variable {C:Cw}{X:Cx}{pos:Pos}{scope:Scope}{aD:List Nat}{aE:List Str}{x d m:Str}{p0 p1 p2 p3 p4 p5 p6 p7 p8 p9:Pos}{i j jd jm k0:Nat}
end
end D3
namespace L2
open PySem PySem.Spec PyProof.Rows D3
end L2
namespace D3
open PySem PySem.Spec PyProof.Rows L2
section
variable {C:Cw}{X:Cx}{pos:Pos}
end
def EntI(w:World):List Int->List (Int×Value)->Prop
 | [],l=>l=[]
 | x::xs,l=>∃ t r,l=(hashInt x,.int x t)::r/\EntI w xs r
section
variable {prog:Program}{w:World}{A:Around}{E:VSP}{s:Shared}
end
section
variable {prog:Program}{w:World}{A:Around}{E:VSP}{s:Shared}
end
section
variable {prog:Program}{w:World}{A:Around}{E:VSP}{s:Shared}
end
section
variable {prog:Program}{w:World}{A:Around}{E:VSP}{s:Shared}
variable {I a:Addr}{ep:Nat}{o:Obj}{es:Array (Int×Value)}{t:SetTable}
end
section
variable {prog:Program}{w:World}{A:Around}{E:VSP}{s:Shared}{a:Addr}{xs:List Int}
end
section
variable {X:Cx}
end
section
variable {C:Cw}{X:Cx}{ga:Rho->Res}{ea:Expr}{p p1 q1 pos:Pos}
end
section
variable {C:Cw}{X:Cx}{e:Expr}{es:List Expr}{gs:Rho->aW}{p pos:Pos}{x:Str}{k n:Nat}{Φ:List D->Res}{CX:CXT}
end
section
variable {C:Cw}{X:Cx}{e ke:Expr}{g gk:Rho->Res}{x:Str}{p ap cp sp pos:Pos}
end
abbrev gD(h:Heap)(z TI TO t:Addr)(b:Bool):Prop :=
 h.get? z=some { cls:=.type "zip", dict:=none,data:=.fields #[rawInt t,.bool b,.bool false,.ref TI,.ref TO],slots:=#[] }
section
open PySem.SeqAt
open PySem.AutoSeq1 (wpAny_loadPart')
open PySem.MeetsSeq PySem.MeetsSeq2 PySem.MeetsSeq3
variable {prog:Program}{w:World}{A:Around}{E:VSP}{s:Shared}
theorem vL{z TI TO t:Addr}{b:Bool}{x0 y0:Value}{Q:Bool->Shared->Prop}(hz:gD s.heap z TI TO t b)(ht:IsPair s.heap t x0 y0)(q:∀ h',gD h' z TI TO t true->Heap.SameBut z s.heap h'->Q false { s with heap:=h' }):wpAny (model prog w) A (Builtin.SmallTypes.ownedTupleIsFree (.ref z)) Q E s:=by
 delta Builtin.SmallTypes.ownedTupleIsFree
 refine aO3 (aP4 hz rfl (x:=rawInt t) rfl ?_);show wpAny _ _ (loadIfAlive _ >>= _) _ _ _;rw[show ((t:Int)).toNat=t from aP1 t]
 refine aO3 (PySem.W.kdx_alive ht ?_);rw[show (some ({ cls:=.type "tuple", data:=.seq #[x0,y0] }:Obj)).isNone=false from rfl,if_neg aO9]
 refine aO3 (m:=field (.ref z) 1) (aP4 hz rfl (x:=.bool b) rfl ?_);cases b with
 | true =>
  rw[show ((Value.bool true != Value.bool true))=false from rfl,if_neg aO9]
  exact aO5 (q s.heap hz (aRL ..))
 | false =>
  rw[show ((Value.bool false != Value.bool true))=true from rfl,if_pos rfl]
  refine aO3 (aRX hz (by simp) λH1 z1 s1=>?_)
  exact aO5 (q H1 z1 s1)
theorem aIW{z TI TO t i j l m:Addr}{b:Bool}{ki kj:Nat}{xs ys:Array Value}{x y x0 y0:Value}{Q:VSP}(D:ZipApart z TI TO i j l m)(tz:t≠z)(ti:t≠i)(tj:t≠j)(hz:gD s.heap z TI TO t b)(ht:IsPair s.heap t x0 y0)(hI:IsPair s.heap TI (.ref i) (.ref j))(hi:s.heap.IsTupleIter i l ki)(hj:s.heap.IsTupleIter j m kj)(hl:IsTup s.heap l xs)(hm:IsTup s.heap m ys)(hx:xs[ki]? = some x)(hy:ys[kj]? = some y)(q:∀ h',gD h' z TI TO t true->h'.IsTupleIter i l (ki+1)->h'.IsTupleIter j m (kj+1)->IsPair h' s.heap.objs.size x y->h'.objs.size=s.heap.objs.size+1->(∀ c o,c≠z->c≠i->c≠j->s.heap.get? c=some o->h'.get? c=some o)->Q (.ref s.heap.objs.size) { s with heap:=h' }):wpAny (model prog w) A (Builtin.«zip.__next__» ⟨[.ref z],[]⟩) (λf s'=>∃ v,f=.done (.ret v)/\Q v s') E s:=by
 refine aO3 (m:=field (.ref z) 2) (aP4 hz rfl (x:=.bool false) rfl ?_);refine aO3 (m:=field (.ref z) 3) (aP4 hz rfl (x:=.ref TI) rfl ?_);apply aO3;apply aRT hI rfl;refine aO3 (m:=Builtin.SmallTypes.ownedTupleIsFree (.ref z)) (vL hz ht λH1 z1 s1=>?_);simp only[aP2,aRH];apply aO3;simp only[<- Array.forIn_toList,aRD,aRC];apply aO3;apply aO3;apply aP6;refine aO3 (m:=Builtin.SmallTypes.nextOf (.ref i)) ?_;refine iH (hi.extBut s1.extBut D.i1z) (cQ hl λo e=>s1.extBut _ o D.l1z e) hx λH2 i2 s2=>?_;apply aO5;apply aO5;apply aO3;apply aO3;apply aP6;refine aO3 (m:=Builtin.SmallTypes.nextOf (.ref j)) ?_;have j2:H2.IsTupleIter j m kj:=(hj.extBut s1.extBut D.i2z).extBut s2.extBut D.i12.symm;have m2:IsTup H2 m ys:=cQ hm λo e=>s2.extBut _ o D.l2i1 (s1.extBut _ o D.l2z e);refine iH j2 m2 hy λH3 j3 s3=>?_;apply aO5;apply aO5;apply aO5;have sz:H3.objs.size=s.heap.objs.size:=by rw[s3.1,s2.1,s1.1]
 apply aO3;refine wpAny_newTuple (hsz:=by show 2<=sizeLine;rw[aPH];decide) ?_
 refine aO5 ⟨_,rfl,?_⟩;show Q (.ref H3.objs.size) _;rw[sz];have up:∀ c o,c≠z->c≠i->c≠j->s.heap.get? c=some o->(H3.push { cls:=.type "tuple", data:=.seq #[x,y] }).get? c=some o:=λc o c1 c3 c4 e =>
  hps (s3.extBut _ _ c4 (s2.extBut _ _ c3 (s1.extBut _ _ c1 e)))
 refine q _ (hps (s3.extBut _ _ D.i2z.symm (s2.extBut _ _ D.i1z.symm z1))) ?_ ?_ ?_ ?_ up
 . exact (i2.extBut s3.extBut D.i12).at λo e=>hps e
 . exact j3.at λo e=>hps e
 . rw[<- sz];exact aOG _ rfl
 . rw[aRI,sz]
theorem aIX{z TI TO t i j l m:Addr}{b:Bool}{ki kj:Nat}{xs ys:Array Value}{x0 y0:Value}{Q:Fin->Shared->Prop}(h0:A.handled=none)(D:ZipApart z TI TO i j l m)(tz:t≠z)(ti:t≠i)(tj:t≠j)(hz:gD s.heap z TI TO t b)(ht:IsPair s.heap t x0 y0)(hI:IsPair s.heap TI (.ref i) (.ref j))(hi:s.heap.IsTupleIter i l ki)(hj:s.heap.IsTupleIter j m kj)(hl:IsTup s.heap l xs)(hm:IsTup s.heap m ys)(hn:xs[ki]? = none\/ys[kj]? = none)(q:∀ h' e,(∀ c o,c≠z->c≠i->c≠j->s.heap.get? c=some o->h'.get? c=some o)->(∃ o,h'.get? e=some o/\o.cls=.type "StopIteration")->E (.ref e) { s with heap:=h' }):wpAny (model prog w) A (Builtin.«zip.__next__» ⟨[.ref z],[]⟩) Q E s:=by
 refine aO3 (m:=field (.ref z) 2) (aP4 hz rfl (x:=.bool false) rfl ?_);refine aO3 (m:=field (.ref z) 3) (aP4 hz rfl (x:=.ref TI) rfl ?_);apply aO3;apply aRT hI rfl;refine aO3 (m:=Builtin.SmallTypes.ownedTupleIsFree (.ref z)) (vL hz ht λH1 z1 s1=>?_);simp only[aP2,aRH];apply aO3;simp only[<- Array.forIn_toList,aRD,aRC];apply aO3;apply aO3;apply aP6;refine aO3 (m:=Builtin.SmallTypes.nextOf (.ref i)) ?_;have i1:=hi.extBut s1.extBut D.i1z;have l1:IsTup H1 l xs:=cQ hl λo e=>s1.extBut _ o D.l1z e;cases ex:xs[ki]? with
 | none=>refine jH h0 i1 l1 ex λH2 e s2 he=>?_;exact q H2 e (λc o c1 c3 c4 z=>s2 _ _ c3 (s1.extBut _ _ c1 z)) he
 | some x =>
  have ey:ys[kj]? = none:=hn.resolve_left (by rw[ex];exact λz=>nomatch z)
  refine iH i1 l1 ex λH2 i2 s2=>?_;apply aO5;apply aO5;apply aO3;apply aO3;apply aP6;refine aO3 (m:=Builtin.SmallTypes.nextOf (.ref j)) ?_;have j2:H2.IsTupleIter j m kj:=(hj.extBut s1.extBut D.i2z).extBut s2.extBut D.i12.symm;have m2:IsTup H2 m ys:=cQ hm λo e=>s2.extBut _ o D.l2i1 (s1.extBut _ o D.l2z e);refine jH h0 j2 m2 ey λH3 e s3 he=>?_;exact q H3 e (λc o c1 c3 c4 z=>s3 _ _ c4 (s2.extBut _ _ c3 (s1.extBut _ _ c1 z))) he
theorem aIY{z TI TO t i j l m:Addr}{b:Bool}{ki kj:Nat}{xs ys:Array Value}{x y x0 y0:Value}{Q:Option Value->Shared->Prop}(D:ZipApart z TI TO i j l m)(tz:t≠z)(ti:t≠i)(tj:t≠j)(hz:gD s.heap z TI TO t b)(ht:IsPair s.heap t x0 y0)(hI:IsPair s.heap TI (.ref i) (.ref j))(hi:s.heap.IsTupleIter i l ki)(hj:s.heap.IsTupleIter j m kj)(hl:IsTup s.heap l xs)(hm:IsTup s.heap m ys)(hx:xs[ki]? = some x)(hy:ys[kj]? = some y)(q:∀ h',gD h' z TI TO t true->h'.IsTupleIter i l (ki+1)->h'.IsTupleIter j m (kj+1)->IsPair h' s.heap.objs.size x y->h'.objs.size=s.heap.objs.size+1->(∀ c o,c≠z->c≠i->c≠j->s.heap.get? c=some o->h'.get? c=some o)->Q (some (.ref s.heap.objs.size)) { s with heap:=h' }):wpAny (model prog w) A (pyNext (.ref z)) Q E s:=by
 have ty:s.TypeIs (.ref z) "zip" := ⟨_,hz,rfl⟩
 delta pyNext
 apply aO3;apply aR0;apply aP7 (name:=Str.ofString "__next__") ty aR1;refine aP9 aR1 ty aR2 ?w (aR3 _)
 case w=>exact aIW D tz ti tj hz ht hI hi hj hl hm hx hy λh' a1 a3 a4 a5 a6 a7=>aO5 (q h' a1 a3 a4 a5 a6 a7)
theorem aIZ{z TI TO t i j l m:Addr}{b:Bool}{ki kj:Nat}{xs ys:Array Value}{x0 y0:Value}{Q:Option Value->Shared->Prop}(h0:A.handled=none)(D:ZipApart z TI TO i j l m)(tz:t≠z)(ti:t≠i)(tj:t≠j)(hz:gD s.heap z TI TO t b)(ht:IsPair s.heap t x0 y0)(hI:IsPair s.heap TI (.ref i) (.ref j))(hi:s.heap.IsTupleIter i l ki)(hj:s.heap.IsTupleIter j m kj)(hl:IsTup s.heap l xs)(hm:IsTup s.heap m ys)(hn:xs[ki]? = none\/ys[kj]? = none)(q:∀ h',(∀ c o,c≠z->c≠i->c≠j->s.heap.get? c=some o->h'.get? c=some o)->Q none { s with heap:=h' }):wpAny (model prog w) A (pyNext (.ref z)) Q E s:=by
 have ty:s.TypeIs (.ref z) "zip" := ⟨_,hz,rfl⟩
 delta pyNext
 apply aO3;apply aR0;apply aP7 (name:=Str.ofString "__next__") ty aR1;refine aP9 aR1 ty aR2 ?w (aR3 _)
 case w=>refine aIX h0 D tz ti tj hz ht hI hi hj hl hm hn λh' e k he=>?_;obtain ⟨o,g,c⟩:=he;apply aO3;refine aR4 (T := "StopIteration") (b:=true) ⟨o,g,c⟩ isSubtype_stop ?_;exact aO5 (q _ k)
end
theorem aI0:typeLookup (.type "zip") "__getattr__" = pure none:=by rw[typeLookup_type,builtinLookup_eq_fast];kernel_rfl
theorem aI1:typeLookup (.type "zip") "keys" = pure none:=by rw[typeLookup_type,builtinLookup_eq_fast];kernel_rfl
theorem aI2:entryFor table "zip.__getattribute__" = some Builtin.«object.__getattribute__» :=
 entryFor_alias (id' := "object.__getattribute__") (by kernel_rfl) (by decide +kernel) (by decide +kernel) (by kernel_rfl)
theorem aI3(a:Addr)(fs:Array Value)(u:Tok):Meets (Builtin.«object.__getattribute__» ⟨[.ref a,.str "keys" u],[]⟩) (λA R s=>s.heap.get? a=some { cls:=.type "zip", dict:=none,data:=.fields fs,slots:=#[] }/\raisesAttr (.ref a) "keys" A R s) :=
 Meets.of_wp λprog w A R s hs=>by
  obtain ⟨hp,g,d,tk,os⟩:=s;obtain ⟨hx,hs⟩:=hs;have hT:(⟨hp,g,d,tk,os⟩:Shared).TypeIs (.ref a) "zip" := ⟨_,hx,rfl⟩;have hmiss:=aI1;have hname:(["__module__", "__name__", "__qualname__", "__doc__", "__annotations__"]:List Str).contains "keys" = false:=by decide +kernel
  unfold Builtin.«object.__getattribute__»
  repeat (any_goals (first | assumption | wp_step))
  exact wpAny_raiseAttrError hs.1 hs.2 (attrMsg_fits (by decide +kernel) (by size_fits))
section
variable {prog:Program}{w:World}{A:Around}{E:VSP}{s:Shared}
theorem aI4{a:Addr}{fs:Array Value}{Q:Option Value->Shared->Prop}(hx:s.heap.get? a=some { cls:=.type "zip", dict:=none,data:=.fields fs,slots:=#[] })(hA:A.handled=none)(q:∀ h' tk,(∀ b o,s.heap.get? b=some o->h'.get? b=some o)->Q none { s with heap:=h',toks:=tk }):wpAny (model prog w) A (getAttr? (.ref a) "keys") Q E s:=by
 obtain ⟨hp,g,d,tk,os⟩:=s;have hT:∀ tk',(⟨hp,g,d,tk',os⟩:Shared).TypeIs (.ref a) "zip" := λ_=>⟨_,hx,rfl⟩;have f1:=sub_AttributeError;have f3:=F.slot_zip_getattribute.lookup;have f4:=F.slot_zip_getattribute.bind (.ref a);have f5:=aI0;unfold getAttr? getAttrBy? getAttrBy
 repeat (any_goals (first | assumption | exact hT _ | ((with_reducible show wpAny _ _ (call (Value.builtin "zip.__getattribute__") _ _) _ _ _);refine aQG F.slot_zip_getattribute (hT _) aI2 (F.args_zip_getattribute_2 _ _) (aI3 a fs _) ⟨hx,hA,λh' tk' e hx'=>?_⟩) | wp_step))
 obtain ⟨t',u',he⟩:=hx'.there;show wpAny _ _ (getattributeRaised _ _ _ _ _ _ _) _ _ _;unfold getattributeRaised
 repeat (any_goals (first | assumption | wp_step))
 exact q _ _ hx'.keeps
end
theorem qH:entryFor table "dict.update.loop" = some Builtin.«dict.update.loop»:=entryFor_of_tree (by kernel_rfl)
theorem jO:plainId "dict.update.loop" = true:=by decide +kernel
def jP{K:Type}[DecidableEq K](ks:Nat->K)(vs:Nat->Value):Nat->Nat->List (K×Value)->List (K×Value)
 | 0,_,kvs=>kvs
 | n+1,k,kvs=>jP ks vs n (k+1) (stored kvs (ks k) (vs k))
section
variable {prog:Program}{w:World}{K:Type}[DecidableEq K]{knd:KeyKind prog w K}{A:Around}{E:VSP}{s:Shared}
theorem vM{kvs:List (K×Value)}{k:K}{v:Value}:(stored kvs k v).length<=kvs.length+1:=by unfold stored;split <;> simp
theorem vN {d p : Addr} {x y : Value} {k : K} {kvs : List (K × Value)} {Q : Unit → Shared → Prop} (hp : IsPair s.heap p x y) (hk : knd.is k x = true) (hd : s.heap.DictOf knd d kvs) (hz : kvs.length ≤ sizeLine) (q : ∀ h', h'.DictOf knd d (stored kvs k y) → Heap.SameBut d s.heap h' → Q () { s with heap := h', toks := s.toks + 1 }) (i : Int) :
    wpAny (model prog w) A (holding [.ref p] (do
     let pair <- (Builtin.Dict.pairItems (.ref p)).tryCatch λe=>do
      if !(<- isInstance e (.type "TypeError")) then throw e
      rule "dict.update.element-no-sequence"
      raiseError "TypeError" s!"cannot convert dictionary update sequence element #{i} to a sequence"
     match pair with
     | [k,v]=>holding [k,v] (dictSet d k v)
     | l =>
      rule "dict.update.element-length"
      raiseError "ValueError" s!"dictionary update sequence element #{i} has length {l.length}; 2 is required")) Q E s:=by
 refine aP6 (aO3 ?_);refine wpAny_tryCatch ?_;unfold Builtin.Dict.pairItems;refine aO3 (aQA ⟨_,hp,rfl⟩ ?_);rw[if_pos (by decide)]
 refine aO3 (aRT hp rfl (aO5 ?_));exact aP6 (wpAny_dictSet_pairs hk hd q hz)
theorem loopU{R:Result->Shared->Prop}{z TI TO t i j l m d:Addr}{xs ys:Array Value}{x0 y0:Value}{ks:Nat->K}{vs:Nat->Value}{n0:Nat}(h0:A.handled=none)(D:ZipApart z TI TO i j l m)(tz:t≠z)(ti:t≠i)(tj:t≠j)(dz:d≠z)(di:d≠i)(dj:d≠j)(dI:d≠TI)(dl:d≠l)(dm:d≠m)(dt:d≠t)(zTI:TI≠i)(zTJ:TI≠j)(hn:n0=min xs.size ys.size)(hk:∀ q x,xs[q]? = some x->knd.is (ks q) x=true)(hv:∀ q y,ys[q]? = some y->vs q=y):∀ (n k:Nat) (s:Shared) (b:Bool) (c:Int) (kvs:List (K×Value)),n+k=n0->gD s.heap z TI TO t b->IsPair s.heap t x0 y0->IsPair s.heap TI (.ref i) (.ref j)->s.heap.IsTupleIter i l k->s.heap.IsTupleIter j m k->IsTup s.heap l xs->IsTup s.heap m ys->s.heap.DictOf knd d kvs->kvs.length+n<=sizeLine->(∀ h' tk,(∀ b o,b≠z->b≠i->b≠j->b≠d->s.heap.get? b=some o->h'.get? b=some o)->h'.DictOf knd d (jP ks vs n k kvs)->R (.ok (.ret .none)) { s with heap:=h',toks:=tk })->codeAny (model prog w) A (.builtin "dict.update.loop" ⟨[.ref d,.ref z,rawInt c,.none],[]⟩) R s:=by
 intro n
 induction n with
 | zero =>
  intro k s b c kvs hnk hz ht hI hi hj hl hm hd hsz hR;refine aSA qH ?_;rw[aSI jO _];show wpAny _ A.in1 (pyNext (.ref z) >>= _) _ _ s;have he:xs[k]? = none\/ys[k]? = none:=by rw[aSJ,aSJ];omega
  refine aO3 (aIZ (A:=A.in1) h0 D tz ti tj hz ht hI hi hj hl hm he λh' kp=>?_);have hd':h'.DictOf knd d kvs:=let ⟨o,es,ep,ho,r⟩:=hd;⟨o,es,ep,kp d o dz di dj ho,r⟩
  refine aO3 (m:=Builtin.Dict.addKeywords d []) (aO5 ?_);exact aO5 (hR h' s.toks (λb o b1 b2 b3 _ e=>kp b o b1 b2 b3 e) hd')
 | succ n ih =>
  intro k s b c kvs hnk hz ht hI hi hj hl hm hd hsz hR;have hkx:k<xs.size:=by omega
  have hky:k<ys.size:=by omega
  refine aSA qH ?_;rw[aSI jO _];show wpAny _ A.in1 (pyNext (.ref z) >>= _) _ _ s;refine aO3 (aIY (A:=A.in1) D tz ti tj hz ht hI hi hj hl hm (aSK hkx) (aSK hky) λh1 z1 i1 j1 p1 sz1 kp1=>?_);have hd1:h1.DictOf knd d kvs:=let ⟨o,es,ep,ho,r⟩:=hd;⟨o,es,ep,kp1 d o dz di dj ho,r⟩
  have ld:d<s.heap.objs.size:=let ⟨o,es,ep,ho,r⟩:=hd;aOH ho
  refine aO3 (vN (s:={ s with heap:=h1 }) (knd:=knd) p1 (hk k _ (aSK hkx)) hd1 (by omega) (λh2 hd2 sb=>?_) c)
  have up:∀ b o,b≠z->b≠i->b≠j->b≠d->s.heap.get? b=some o->h2.get? b=some o:=λb o b1 b2 b3 b4 e=>sb.extBut b o b4 (kp1 b o b1 b2 b3 e);have keepL:l≠z/\l≠i/\l≠j:=⟨D.l1z,D.l1i1,D.l1i2⟩;have keepM:m≠z/\m≠i/\m≠j:=⟨D.l2z,D.l2i1,D.l2i2⟩
  refine aO5 ⟨plainId_quiet jO _,ih (k+1) _ true (c+1) _ (by omega) (sb.extBut z _ dz.symm z1) (up t _ tz ti tj dt.symm ht) (up TI _ D.TIz zTI zTJ dI.symm hI) (i1.at λo e=>sb.extBut i o di.symm e) (j1.at λo e=>sb.extBut j o dj.symm e)
   (cQ hl λo e=>up l o keepL.1 keepL.2.1 keepL.2.2 dl.symm e) (cQ hm λo e=>up m o keepM.1 keepM.2.1 keepM.2.2 dm.symm e) hd2 (by have:=vM (kvs:=kvs) (k:=ks k) (v:=ys[k]);omega) λh' tk kp hd'=>?_⟩
  refine hR h' tk (λb o b1 b2 b3 b4 e=>kp b o b1 b2 b3 b4 (up b o b1 b2 b3 b4 e)) ?_;have ev:vs k=ys[k]:=hv k _ (aSK hky);rw[<- ev] at hd';exact hd'
theorem loop0{R:Result->Shared->Prop}{z TI TO i j l m d:Addr}{xs ys:Array Value}{a b:Value}{ks:Nat->K}{vs:Nat->Value}{c:Int}{kvs:List (K×Value)}(h0:A.handled=none)(D:ZipApart z TI TO i j l m)(dz:d≠z)(di:d≠i)(dj:d≠j)(dI:d≠TI)(dO:d≠TO)(dl:d≠l)(dm:d≠m)(hk:∀ q x,xs[q]? = some x->knd.is (ks q) x=true)(hv:∀ q y,ys[q]? = some y->vs q=y)(hz:IsZip s.heap z TI TO .none)(hI:IsPair s.heap TI (.ref i) (.ref j))(hO:IsPair s.heap TO a b)(hi:s.heap.IsTupleIter i l 0)(hj:s.heap.IsTupleIter j m 0)(hl:IsTup s.heap l xs)(hm:IsTup s.heap m ys)(hd:s.heap.DictOf knd d kvs)(hsz:kvs.length+min xs.size ys.size<=sizeLine)(hR:∀ h' tk,(∀ b o,b≠z->b≠TO->b≠i->b≠j->b≠d->s.heap.get? b=some o->h'.get? b=some o)->h'.DictOf knd d (jP ks vs (min xs.size ys.size) 0 kvs)->R (.ok (.ret .none)) { s with heap:=h',toks:=tk }):codeAny (model prog w) A (.builtin "dict.update.loop" ⟨[.ref d,.ref z,rawInt c,.none],[]⟩) R s:=by
 refine aSA qH ?_;rw[aSI jO _];show wpAny _ A.in1 (pyNext (.ref z) >>= _) _ _ s;by_cases he:xs[0]? = none\/ys[0]? = none
 . have e0:min xs.size ys.size=0:=by rw[aSJ,aSJ] at he;omega
   refine aO3 (aGP (A:=A.in1) h0 D hz hI hO hi hj hl hm he λh' kp=>?_);have hd':h'.DictOf knd d kvs:=let ⟨o,es,ep,ho,r⟩:=hd;⟨o,es,ep,kp d o dz dO di dj ho,r⟩
   refine aO3 (m:=Builtin.Dict.addKeywords d []) (aO5 ?_);rw[e0] at hR;exact aO5 (hR h' s.toks (λb o b1 b2 b3 b4 _ e=>kp b o b1 b2 b3 b4 e) hd')
 . rw[not_or,aSJ,aSJ] at he;have hkx:0<xs.size:=by omega
   have hky:0<ys.size:=by omega
   obtain ⟨n,hn⟩:∃ n,min xs.size ys.size=n+1:=⟨min xs.size ys.size-1,by omega⟩
   refine aO3 (aGO (A:=A.in1) D hz hI hO hi hj hl hm (aSK hkx) (aSK hky) λh1 z1 o1 i1 j1 p1 sz1 kp1=>?_);have hd1:h1.DictOf knd d kvs:=let ⟨o,es,ep,ho,r⟩:=hd;⟨o,es,ep,kp1 d o dz dO di dj ho,r⟩
   have lt:∀ {b:Addr} {o:Obj},s.heap.get? b=some o->s.heap.objs.size≠b:=λe=>aPA (aOH e);have lz:=lt hz;have li:s.heap.objs.size≠i:=let ⟨o,ho,_⟩:=hi;lt ho
   have lj:s.heap.objs.size≠j:=let ⟨o,ho,_⟩:=hj;lt ho
   have ld:s.heap.objs.size≠d:=let ⟨o,es,ep,ho,r⟩:=hd;lt ho
   refine aO3 (vN (s:={ s with heap:=h1 }) (knd:=knd) p1 (hk 0 _ (aSK hkx)) hd1 (by omega) (λh2 hd2 sb=>?_) c)
   have up:∀ b o,b≠z->b≠TO->b≠i->b≠j->b≠d->s.heap.get? b=some o->h2.get? b=some o:=λb o b1 b2 b3 b4 b5 e=>sb.extBut b o b5 (kp1 b o b1 b2 b3 b4 e);refine aO5 ⟨plainId_quiet jO _,loopU (t:=s.heap.objs.size) (x0:=xs[0]) (y0:=ys[0]) (n0:=n+1) (ks:=ks) (vs:=vs) h0 D lz li lj dz di dj dI dl dm ld.symm D.TIi1 D.TIi2 hn.symm hk hv n 1 _ false (c+1) _ rfl (sb.extBut z _ dz.symm z1) (sb.extBut _ _ ld p1)
    (up TI _ D.TIz D.TITO D.TIi1 D.TIi2 dI.symm hI) (i1.at λo e=>sb.extBut i o di.symm e) (j1.at λo e=>sb.extBut j o dj.symm e)
    (cQ hl λo e=>up l o D.l1z D.l1TO D.l1i1 D.l1i2 dl.symm e) (cQ hm λo e=>up m o D.l2z D.l2TO D.l2i1 D.l2i2 dm.symm e) hd2 (by have:=vM (kvs:=kvs) (k:=ks 0) (v:=ys[0]);omega) λh' tk kp hd'=>?_⟩
   refine hR h' tk (λb o b1 b2 b3 b4 b5 e=>kp b o b1 b3 b4 b5 (up b o b1 b2 b3 b4 b5 e)) ?_;have ev:vs 0=ys[0]:=hv 0 _ (aSK hky);rw[<- ev] at hd';rw[hn];exact hd'
theorem aI5{z TI TO i j l m:Addr}{xs ys:Array Value}{a b:Value}{ks:Nat->K}{vs:Nat->Value}{Q:VSP}(h0:A.handled=none)(D:ZipApart z TI TO i j l m)(hz:IsZip s.heap z TI TO .none)(hI:IsPair s.heap TI (.ref i) (.ref j))(hO:IsPair s.heap TO a b)(hi:s.heap.IsTupleIter i l 0)(hj:s.heap.IsTupleIter j m 0)(hl:IsTup s.heap l xs)(hm:IsTup s.heap m ys)(hk:∀ q x,xs[q]? = some x->knd.is (ks q) x=true)(hv:∀ q y,ys[q]? = some y->vs q=y)(hsz:xs.size<=sizeLine)(q:∀ h' tk,(∀ b o,b≠z->b≠TO->b≠i->b≠j->s.heap.get? b=some o->h'.get? b=some o)->h'.DictOf knd s.heap.objs.size (jP ks vs (min xs.size ys.size) 0 [])->Q (.ref s.heap.objs.size) { s with heap:=h',toks:=tk }):wpAny (model prog w) A (call (.type "dict") [.ref z]) Q E s:=by
 refine callType_codes (Q₁:=λobj s₁=>obj=.ref s.heap.objs.size/\s₁={ s with heap:=s.heap.push { cls:=.type "dict", data:=.dict #[] } }) F.kt_called_dict (F.kt_typeCall_dict_1 _) F.entry_dict_init (kt_code_dict_new _ ⟨rfl,rfl⟩) ?_
 rintro obj s₁ ⟨rfl,rfl⟩;have hnew:(s.heap.push { cls:=.type "dict", data:=.dict #[] }).DictOf knd s.heap.objs.size []:=Heap.DictOf.new s.heap;refine ⟨hnew.typeIs,F.args_dict_init_2 _ _,?_⟩;unfold Builtin.«dict.__init__»;refine aO3 ?_;unfold Builtin.Dict.selfAndRest;refine aO3 (wpAny_notOrdered_dict hnew.typeIs ?_);show wpAny _ _ (pure (s.heap.objs.size,[Value.ref z])) _ _ _;refine aO5 ?_;show wpAny _ _ (Builtin.Dict.updateFrom "dict.__init__" s.heap.objs.size (.ref z) [] .none) _ _ _;unfold Builtin.Dict.updateFrom;have hz1:IsZip (s.heap.push { cls:=.type "dict", data:=.dict #[] }) z TI TO .none:=hps hz;refine aO3 (aQA ⟨_,hz1,rfl⟩ ?_);rw[if_pos (by decide)]
 refine aO3 (aI4 (A:=A.in1.in1) (s:={ s with heap:=s.heap.push { cls:=.type "dict", data:=.dict #[] } }) hz1 h0 λh1 tk1 kp1=>?_)
 rw[if_pos (show (none:Option Value).isNone=true from rfl)]
 refine aO3 (aO7 (aO3 (wpAny_pyIter_zip (kp1 _ _ hz1) (aO5 ⟨plainId_quiet jO _,?_⟩))));have up:∀ b o,s.heap.get? b=some o->h1.get? b=some o:=λb o e=>kp1 b o (hps e);have lt:∀ {b:Addr} {o:Obj},s.heap.get? b=some o->s.heap.objs.size≠b:=λe=>aPA (aOH e);have hd1:h1.DictOf knd s.heap.objs.size []:=let ⟨o,es,ep,ho,r⟩:=hnew;⟨o,es,ep,kp1 _ o ho,r⟩
 refine loop0 (knd:=knd) (A:=A.in1) (s:={ s with heap:=h1,toks:=tk1 }) (ks:=ks) (vs:=vs) h0 D (lt hz) (let ⟨o,ho,_⟩:=hi;lt ho) (let ⟨o,ho,_⟩:=hj;lt ho) (lt hI) (lt hO) (let ⟨o,ho,_⟩:=hl;lt ho) (let ⟨o,ho,_⟩:=hm;lt ho) hk hv
  (up _ _ hz) (up _ _ hI) (up _ _ hO) (hi.at λo e=>up _ o e) (hj.at λo e=>up _ o e) (cQ hl λo e=>up _ o e) (cQ hm λo e=>up _ o e) hd1 (by simp;omega) λh' tk kp hd'=>?_
 exact ⟨rfl,q h' tk (λb o b1 b2 b3 b4 e=>kp b o b1 b2 b3 b4 (aOK (aOH e)) (up b o e)) hd'⟩
end
def jQ:List Str->List D->List (Key×D)->List (Key×D)
 | x::ns,d::ds,acc=>jQ ns ds (eN acc (.inr x) d)
 | _,_,acc=>acc
def dQ:List Str->List V->List (Key×V)->List (Key×V)
 | x::ns,v::vs,acc=>dQ ns vs (dA acc (.inr x) v)
 | _,_,acc=>acc
def jR:List Str->List Value->List (Key×Value)->List (Key×Value)
 | x::ns,u::us,kvs=>jR ns us (stored kvs (.inr x) u)
 | _,_,kvs=>kvs
theorem vO{K:Fg}{F:Hp}:∀ {ns:List Str} {ds:List D} {vs:List V} {acc:List (Key×D)} {acc':List (Key×V)},aB K F ds vs->aL K F acc acc'->aL K F (jQ ns ds acc) (dQ ns vs acc')
 | [],ds,vs,acc,acc',h,r=>by unfold jQ dQ;exact r
 | x::ns,[],vs,acc,acc',h,r=>by simp only[aB] at h;subst h;unfold jQ dQ;exact r
 | x::ns,d::ds,vs,acc,acc',h,r=>by simp only[aB] at h;obtain ⟨y,ys,rfl,q,t⟩:=h;show aL K F (jQ ns ds (eN acc (.inr x) d)) (dQ ns ys (dA acc' (.inr x) y));exact vO t (aL.put r q)
theorem vP:∀ {ns:List Str} {vs:List V} {us:List Value} {acc:List (Key×V)} {acc':List (Key×Value)},aN vs us->KV acc acc'->KV (dQ ns vs acc) (jR ns us acc')
 | [],vs,us,acc,acc',h,r=>by unfold dQ jR;exact r
 | x::ns,_,_,acc,acc',.nil,r=>by unfold dQ jR;exact r
 | x::ns,_,_,acc,acc',.cons h t,r=>vP (ns:=ns) t (KV.put r (.inr x) h)
theorem vQ:∀ {ns:List Str} {vs:List V} {acc:List (Key×V)},(dQ ns vs acc).length<=acc.length+ns.length
 | [],vs,acc=>by unfold dQ;simp
 | x::ns,[],acc=>by unfold dQ;simp
 | x::ns,v::vs,acc=>by have h1:=vQ (ns:=ns) (vs:=vs) (acc:=dA acc (.inr x) v);have h2:=pH acc (.inr x) v;show (dQ ns vs (dA acc (.inr x) v)).length<=_;rw[aQJ];omega
theorem vR(ns:List Str)(us:List Value):∀ (n k:Nat) (kvs:List (Key×Value)),n+k=min ns.length us.length->jP (λq=>(.inr (ns.getD q Str.empty):Key)) (λq=>us.getD q .none) n k kvs=jR (ns.drop k) (us.drop k) kvs
 | 0,k,kvs,h=>by
  have:ns.drop k=[]\/us.drop k=[]:=by rw[List.drop_eq_nil_iff,List.drop_eq_nil_iff];omega
  show kvs=_;rcases this with e | e
  . rw[e];rfl
  . rw[e];cases ns.drop k <;> rfl
 | n+1,k,kvs,h=>by
  have h1:k<ns.length:=by omega
  have h2:k<us.length:=by omega
  rw[aRA h1,aRA h2];have ih:=vR ns us n (k+1) (stored kvs (.inr ns[k]) us[k]) (by omega)
  have e1:ns.getD k Str.empty=ns[k]:=by rw[aQ4,aQ5 h1];rfl
  have e2:us.getD k .none=us[k]:=by rw[aQ4,aQ5 h2];rfl
  show jP _ _ n (k+1) (stored kvs (.inr (ns.getD k Str.empty)) (us.getD k .none))=_;rw[e1,e2];exact ih
def jS(ra rb:Res):Res:=ra.thn λ_ d=>rb.thn λ_ e=>match d,e with
 | .tup ds,.tup es=>(match txD ds with
  | some ns=>.ok .fr (.dct (jQ ns es []))
  | none=>.stuck)
 | _,_=>.stuck
theorem vS:∀ {vs:List V} {us:List Value} {q:Nat} {u:Value},aN vs us->us[q]? = some u->∃ v,vs[q]? = some v/\L2.aM v u
 | _,_,q,u,.nil,e=>by simp at e
 | _,_,0,u,.cons h t,e=>by cases e;exact ⟨_,rfl,h⟩
 | _,_,q+1,u,.cons h t,e=>vS (q:=q) t e
section
variable {C:Cw}{X:Cx}{ga gb:Rho->Res}{ea eb:Expr}{p p1 q1 pos:Pos}
theorem aI6(hc:X.calm=true)(gd:Gl X "dict")(nd:X.mg "dict" = none)(gz:Gl X "zip")(nz:X.mg "zip" = none)(ha:PV C X ea ga)(hb:PV C X eb gb)(sa:bJ ea=true)(sb:bJ eb=true):PV C X (.Call (.Name "dict" p) [.Call (.Name "zip" p1) [ea,eb] [] q1] [] pos) (λρ=>jS (ga ρ) (gb ρ)):=by
 intro aA s σ H Q I h;refine aPV (hW I gd nd uK ?_ (by decide) (by decide))
 refine aPE ?_ rfl rfl;show wpAny _ _ (spliced ((false,eval (.Call (.Name "zip" p1) [ea,eb] [] q1) X.env)::backTo pos (starEach [] X.env))) _ _ s;refine Calls.spliced_cons (aPV (hW I gz nz aGV ?_ (by decide) (by decide)))
 refine aPE (thn ((eY ha (eY hb iA (bO sb)) (bO sa)) q1 aA s σ H (λvs H1=>∃ (a b:Addr) (ns:List Str) (ys:List V),vs=[.ref a,.ref b]/\SqT X.K H1 a (ns.map V.str)/\SqT X.K H1 b ys/\∀ l,H1 l=none->Q (.ref l) (upd H1 l (.dK (dQ ns ys [])))) I ?_) λus s1 ⟨vs,H1,I1,r1,a,b,ns,ys,ev,hqa,hqb,w⟩=>?_) (bO sa) (fN _ _ λy hy=>by simp only[aOR,aR5,aR6] at hy;subst hy;exact sb)
 . show tG (C.at X) ga σ H λv H1=>tG (C.at X) gb σ H1 λu H2=>∃ (a b:Addr) (ns:List Str) (ys:List V),[v,u]=[V.ref a,V.ref b]/\SqT X.K H2 a (ns.map V.str)/\SqT X.K H2 b ys/\∀ l,H2 l=none->Q (.ref l) (upd H2 l (.dK (dQ ns ys [])));rw[aV] at h ⊢;obtain ⟨ρ,F,R,w⟩:=h;refine ⟨ρ,F,R,?_⟩;cases e1:ga ρ with
   | stuck=>simp only[jS,e1,Res.thn_stuck] at w;exact w
   | exc c=>simp only[jS,e1,Res.thn_exc] at w;exact w
   | ok m d =>
    simp only[jS,e1,Res.thn_ok] at w;intro v F1 H1 s1 r1 _;rw[aV];refine ⟨ρ,F1,R.step s1,?_⟩;cases e2:gb ρ with
    | stuck=>simp only[e2,Res.thn_stuck] at w;exact w.elim
    | exc c=>simp only[e2,Res.thn_exc] at w;exact aS.step s1 w
    | ok n e =>
     simp only[e2,Res.thn_ok] at w;intro u F2 H2 s2 r2 _;cases d with
     | tup ds =>
      cases e with
      | tup es =>
       dsimp only at w;cases t1:txD ds with
       | none=>rw[t1] at w;exact w.elim
       | some ns =>
        rw[t1] at w;obtain ⟨a,xs,rfl,qa,ra⟩:=(r1.step s2).seqT s2.sub;obtain ⟨b,ys,rfl,qb,rb⟩:=r2.seqT s2.sub;obtain ⟨rfl,_⟩:=vJ t1 ra;have s12:=s1.trans s2;refine ⟨a,b,ns,ys,rfl,qa,qb,λl hl=>w (.ref l) F2 _ (s12.trans (aK.fresh _ s2.sub hl)) ⟨l,rfl,s2.sub.free hl,_,bN,vO rb (by simp only[aL])⟩ λ_ a' ea'=>?_⟩
        cases ea';cases q:H l with
        | none=>rfl
        | some o=>rw[s12.same _ _ q] at hl;cases hl
      | _=>exact w.elim
     | _=>exact w.elim
 . subst ev;cases r1 with
   | cons ra rr =>
    cases rr with
    | cons rb rr =>
     cases rr;cases ra;cases rb;obtain ⟨ls,rva,pa,hza⟩:=I1.tuple hqa;obtain ⟨ms,rvb,pb,hzb⟩:=I1.tuple hqb;have la:a<s1.heap.objs.size:=by obtain ⟨o,e,_⟩:=id pa;exact aOH e
     have lb:b<s1.heap.objs.size:=by obtain ⟨o,e,_⟩:=id pb;exact aOH e
     have D:=aGU s1.heap.objs.size a b la lb;refine aGR (show s1.heap.IsTuple a ls.toArray from pa) (show s1.heap.IsTuple b ms.toArray from pb) λh' a1 a2 a3 a4 a5 a6 a7=>Calls.spliced_nil ?_
     have hl:IsTup h' a ls.toArray:=cQ pa λo e=>a7 _ o e;have hm:IsTup h' b ms.toArray:=cQ pb λo e=>a7 _ o e;have len:ls.length=ns.length:=by have:=rva.length;rw[aPU] at this;exact this.symm
     refine aI5 (s:={ s1 with heap:=h' }) (knd:=bV X.prog X.w) (ks:=λq=>(.inr (ns.getD q Str.empty):Key)) (vs:=λq=>ms.getD q .none) (I1.ok.hd hc) D a1 a2 a3 a4 a5 hl hm (λq x hx=>?_) (λq y hy=>?_) ?_ λh2 tk kp dd=>?_
     . have hx:ls[q]? = some x:=by simpa using hx
       obtain ⟨v,ev,rv⟩:=vS rva hx;rw[aPR] at ev;cases en:ns[q]? with
       | none=>rw[en] at ev;cases ev
       | some y=>rw[en] at ev;cases ev;rw[aQ4,en];exact iB (k:=.inr y) rv
     . have hy:ms[q]? = some y:=by simpa using hy
       show ms.getD q .none=y;rw[aQ4,hy];rfl
     . rw[aPI,len];rw[aPU] at hza;exact hza
     . have e0:min ls.toArray.size ms.toArray.size=min ns.length ms.length:=by rw[aPI,aPI,len]
       have dd:h2.DictOf (bV X.prog X.w) h'.objs.size (jR ns ms []):=by
        have:=vR ns ms (min ns.length ms.length) 0 [] (by omega)
        rw[aRM,aRM] at this;rw[e0,this] at dd;exact dd
       have kk:∀ c o,s1.heap.get? c=some o->h2.get? c=some o:=λc o e=>by have lc:=aOH e;have far:∀ k:Nat,c≠s1.heap.objs.size+k:=λk=>aOK (aOI lc (Nat.le_add_right _ k));exact kp c o (far 4) (far 3) (far 0) (far 1) (a7 c o e)
       have nl:s1.heap.objs.size<=h'.objs.size:=by rw[a6];omega
       have zlen:(dQ ns ys []).length<=sizeLine:=by have:=vQ (ns:=ns) (vs:=ys) (acc:=[]);rw[aPU] at hza;simp at this;omega
       refine ⟨.ref h'.objs.size,_,I1.laid (t':=tk) kk nl (pJ zlen (aOD.mpr (Ne.symm (aOK (aOI I1.big nl)))) (vP rvb .nil) dd),rfl,w _ (I1.hok.fresh nl)⟩
end
end D3
namespace D3
open PySem PySem.Spec PySem.Calls PyProof.Rows L2
section
variable {C:Cw}{X:Cx}{o e f:Expr}{go ge gf:Rho->Res}{apos cpos:Pos}
end
end D3
set_option genSizeOfSpec false
set_option genInjectivity false
namespace D3
open PySem PySem.Spec PyProof.Rows L2
inductive KC where | s (y:Str) | i (n:Int) | t (tb:List (Str×Str))
 deriving DecidableEq
def KC.d:KC->D | .s y=>.str y | .i n=>.int n | .t _=>.non
inductive GV where | con (c:KC) | fn (n:Nat) | no | cls
 deriving DecidableEq
inductive Bn where | len | isinstance | all
 deriving DecidableEq
def Bn.name:Bn->Str
 | .len => "len" | .isinstance => "isinstance" | .all => "all"
def Bn.f:Bn->List (Md×D)->Option (Md×D)
 | .len=>gQ | .isinstance=>mX | .all=>mY
def Bn.id:Bn->String
 | .len => "len" | .isinstance => "isinstance" | .all => "all"
inductive Ty where | int | bool | str | tuple | list | dict
 deriving DecidableEq
def Ty.f:Ty->List (Md×D)->Option (Md×D)
 | .tuple=>jD | .list=>jE | .int=>jG | .str=>kY | .dict=>nM | _=>λ_=>none
def Ty.id:Ty->String
 | .int => "int" | .bool => "bool" | .str => "str" | .tuple => "tuple" | .list => "list" | .dict => "dict"
structure WD where
 Φ:Str->List D->Res
 I:Str->Option (List D->Res)
 cl:List CI
 xt:List ((Str×Str)×Bool)
 xi:List ((Str×Str)×Bool)
def WD.xf(W:WD):Str->Str->Option Bool:=λc x=>W.xt.lookup (c,x)
def WD.xg(W:WD):Str->Str->Option Bool:=λc x=>W.xi.lookup (c,x)
inductive E where
 | var (i:Nat) | non | bl (b:Bool) | int (i:Int) | str (x:Str)
 | glob (x:Str) (c:KC) | ty (t:Ty)
 | bin (op:Operator) (a b:E) | cmp (op:CmpOp) (a b:E)
 | andL (es:List E) | orL (es:List E) | not (a:E) | tru (a:E) | frz (a:E)
 | ix (a b:E) | slice (a:E) (lo hi:Option E)
 | tup (es:List E) | lst (es:List E)
 | call (f:Str) (n:Nat) (es:List E) | bcall (b:Bn) (es:List E)
 | items (a:E) | rng1 (a:E) | enum1 (a:E)
 | comp (elt it:E) (ts:List E) (aD:List Nat) (t:Tg) (n:Nat) | fmt (a:E) | fstr (es:List E)
 | tcall (t:Ty) (es:List E)
 | isx1 (a:E) (n:Str) | isxT (a:E) (ns:List Str)
 | deed (x:Str) (tb:Tbl) (a:E) | callv (i:Nat) (fs:Fns) (n:Nat) (es:List E) | dzip (a b:E)
 | dnew | dix (a b:E) | din (neg:Bool) (a b:E) | deq (neg:Bool) (a b:E)
 | compX (elt it:E) (ts:List E) (aD:List Nat) (t:Tg) (n:Nat) | mulT (a b:E)
def noF:Md->D->Md->D->Option (Md×D):=λ_ _ _ _=>none
def bQ:Operator->Md->D->Md->D->Option (Md×D)
 | .Add=>orO fAdd m8 | .Sub=>fSub | .Mult=>orO fMul nG | .Mod=>fMod | .FloorDiv=>fDiv | .Pow=>fPow | .BitAnd=>vK | .BitOr=>fBor | .LShift=>fShl | .RShift=>fShr | _=>noF
def bF:CmpOp->Md->D->Md->D->Option (Md×D)
 | .Lt=>orO fLt noK | .LtE=>fLe | .Gt=>fGt | .GtE=>fGe | .Eq=>fEq | .NotEq=>fNe | .In=>orO fIn (jC false) | .NotIn=>orO aFI (jC true) | .Is=>fIs false | .IsNot=>fIs true
mutual
def evE(W:WD):E->Rho->Res
 | .var i,ρ=>dU ρ i
 | .non,_=>.ok .fz .non
 | .bl b,_=>.ok .fz (.bl b)
 | .int i,_=>.ok .fz (.int i)
 | .str x,_=>.ok .fz (.str x)
 | .glob _ c,_=>.ok .fz c.d
 | .ty t,_=>.ok .fz (.ty t.id)
 | .bin op a b,ρ=>op2 (bQ op) (evE W a ρ) (evE W b ρ)
 | .cmp op a b,ρ=>op2 (bF op) (evE W a ρ) (evE W b ρ)
 | .andL es,ρ=>evA W es ρ
 | .orL es,ρ=>dD W es ρ
 | .not a,ρ=>kQ (evE W a ρ)
 | .tru a,ρ=>gP (evE W a ρ)
 | .frz a,ρ=>a8 (evE W a ρ)
 | .ix a b,ρ=>op2 ixD (evE W a ρ) (evE W b ρ)
 | .slice a lo hi,ρ=>slP (evE W a ρ) (evO W lo) (evO W hi) ρ
 | .tup es,ρ=>eK (aZ W es ρ)
 | .lst es,ρ=>iF (aZ W es ρ)
 | .call f n es,ρ=>aU n (W.Φ f) (aZ W es ρ)
 | .bcall b es,ρ=>fW b.f (aZ W es ρ)
 | .items a,ρ=>gR (a8 (evE W a ρ))
 | .rng1 a,ρ=>jA (eB (evE W a ρ) (.ok []))
 | .enum1 a,ρ=>nI (eB (a8 (evE W a ρ)) (.ok []))
 | .isx1 a n,ρ=>nL W.xg n (evE W a ρ)
 | .isxT a ns,ρ=>k9 W.xg ns (evE W a ρ)
 | .comp elt it ts aD t n,ρ=>dY (evE W it ρ) ρ aD n (aJ t) (λρ=>evF W ts ρ) (λρ=>evE W elt ρ)
 | .fmt a,ρ=>nF (evE W a ρ)
 | .fstr es,ρ=>d5 Str.empty (evL W es) ρ
 | .tcall t es,ρ=>fW t.f (aZ W es ρ)
 | .dnew,_=>.ok .fr (.dct [])
 | .mulT a b,ρ=>op2 mulT (evE W a ρ) (evE W b ρ)
 | .compX elt it ts aD t n,ρ=>jM (evE W it ρ) ρ aD n (aJ t) (λρ=>evF W ts ρ) (λρ=>evE W elt ρ)
 | .deed _ tb a,ρ=>jN tb (evE W a ρ)
 | .callv i fs n es,ρ=>lB W.Φ fs n (dU ρ i) (aZ W es ρ)
 | .dzip a b,ρ=>jS (evE W a ρ) (evE W b ρ)
 | .dix a b,ρ=>op2 ixK (evE W a ρ) (evE W b ρ)
 | .deq neg a b,ρ=>op2 (eqN neg) (evE W a ρ) (evE W b ρ)
 | .din neg a b,ρ=>op2 (inK neg) (evE W a ρ) (evE W b ρ)
def aZ(W:WD):List E->Rho->aW
 | [],_=>.ok []
 | e::es,ρ=>eB (evE W e ρ) (aZ W es ρ)
def evA(W:WD):List E->Rho->Res
 | [],_=>.stuck
 | [e],ρ=>evE W e ρ
 | e::es,ρ=>dJ (evE W e ρ) (evA W es ρ)
def dD(W:WD):List E->Rho->Res
 | [],_=>.stuck
 | [e],ρ=>evE W e ρ
 | e::es,ρ=>orR (evE W e ρ) (dD W es ρ)
def evF(W:WD):List E->Rho->Res
 | [],_=>.ok .fz (.bl true)
 | e::es,ρ=>dJ (evE W e ρ) (evF W es ρ)
def evL(W:WD):List E->List (Rho->Res)
 | []=>[]
 | e::es=>evE W e::evL W es
def evO(W:WD):Option E->Option (Rho->Res)
 | none=>none
 | some e=>some (evE W e)
end
structure MG where
 G:List (Str×GV)
 mk0:List Str
 mki:List (Str×Str×Nat)
 iso:List Str
 xcs:List Str
 xns:List Str
structure MC where
 N:List Str
 sc:Scope
 g:MG
 fn:Bool
 calm:Bool
 rz:Bool
def MC.kind(m:MC)(x:Str):Option NameKind:=m.sc.names.lookup x
def MC.vis(m:MC)(x:Str):Bool:=(m.kind x==some .local||m.kind x==some .cell||m.kind x==some .free)&&x != "__debug__" && x != "__classdict__"
def MC.glob(m:MC)(x:Str)(v:GV):Bool:=m.kind x==some .globalImplicit&&m.g.G.lookup x==some v&&x != "__debug__" && x != "__name__"
def MC.gk(m:MC)(x:Str):Bool:=m.kind x==some .globalImplicit&&x != "__debug__"
def strK(x:Str):Bool:=decide (x.length<=sizeLine)&&PyData.strOk x
def lD:Expr->Bool | .Slice ..=>false | _=>true
def aI7:Expr->Bool | .Tuple ..=>true | _=>false
def eQ:Expr->Bool | .Set ..=>false | _=>true
def vT:Expr->Bool | .UnaryOp .Not _ _=>false | .BoolOp ..=>false | .IfExp ..=>false | .Compare ..=>false | _=>true
def MC.sub(m:MC)(scope:Scope)(aE tgN:List Str):MC:={ m with N:=aE++tgN,sc:={ scope with names:=jB scope m.sc },fn:=false,rz:=false }
def MC.loc(m:MC)(i:Nat)(x:Str):Bool:=m.N[i]?==some x&&(m.kind x==some .local||(m.fn&&m.kind x==some .cell))
mutual
def mG(m:MC):Tg->Expr->Bool
 | .nm i,e=>match e with | .Name x _=>m.loc i x | _=>false
 | .tp ts,e=>match e with | .Tuple es _ _=>m.calm&&es.all gT&&mGs m ts es | _=>false
def mGs(m:MC):List Tg->List Expr->Bool
 | [],es=>es.isEmpty
 | t::ts,l=>match l with | e::es=>mG m t e&&mGs m ts es | _=>false
end
def eD:Nat->Expr->List Str
 | _,.Name x _=>[x]
 | n+1,.Tuple es _ _=>es.flatMap (eD n)
 | _,_=>[]
def jT(scope sc:Scope)(N:List Str)(aD:List Nat)(aE tgN:List Str):Bool :=
 scope.names.all (λy=>y.2 != .cell)&&scope.kind == .function&&scope.names.all (λy=>y.2 != .local||scope.names.lookup y.1==some .local) &&
 scope.names.all (λy=>y.2 != .free||sc.names.lookup y.1==some .cell||sc.names.lookup y.1==some .free)&&(aE.map some==aD.map λi=>N[i]?)&&aE.all (λy=>scope.names.contains (y,.free)) &&
 aE.all (λy=>(jB scope sc).lookup y==some .cell||(jB scope sc).lookup y==some .free)&&decide (aE++tgN).Nodup
def gE:List Str->List Expr->Bool
 | [],es=>es.isEmpty
 | n::ns,l=>match l with | .Name x _::es=>x==n&&gE ns es | _=>false
def strK':KC->Bool | .s y=>strK y | .i _=>true | .t _=>false
structure SX(k:Nat)(W:WD)(m:MC)(C:Cw)(X:Cx):Prop where
 hN:X.N=m.N
 hs:X.env.scope=m.sc
 cm:m.calm=true->X.calm=true
 rm:m.calm=true->cK k X.A
 un:X.A.units+64<cLine
 xo:m.calm=true->XOk (CX1 X.prog X.w) (C.at X) X
 xt:jJ X.K X.mg W.xf
 xi:iJ X.K X.mg W.xg
 xc:∀ c,c∈m.g.xcs->∃ Cc,X.mg c=some (.ref Cc)/\k6 X.K Cc
 xn:∀ n,n∈m.g.xns->∃ cv,fC X.mg n cv
 con:∀ x c,m.g.G.lookup x=some (.con c)->match c with | .s y=>∃ t,X.mg x=some (.str y t) | .i n=>∃ t,X.mg x=some (.int n t) | .t tb=>gX X.w X.K X.mg x tb
 no:∀ x,m.g.G.lookup x=some .no->X.mg x=none
 mk0:∀ c,c∈m.g.mk0->MkV0 X.K X.mg c
 mki:∀ c key n,(c,key,n)∈m.g.mki->∀ Φ,W.I key=some Φ->∃ j,j+1<=k/\InV X.prog X.w X.K X.mg X.base (CX1 X.prog X.w) j c n Φ
 iso:∀ c,c∈m.g.iso->IsV X.K X.mg W.cl c
 fl:∀ i f,i∈W.cl->f∈i.flds->FlV X.K i.name f
 mt:∀ c m key n,CI.meth W.cl c m=some (key,n)->MtV X.prog X.w X.K X.mg X.base (CX1 X.prog X.w) k c m n (W.Φ key)
 fn:∀ x n,m.g.G.lookup x=some (.fn n)->FnV X.prog X.w X.K X.mg X.base (CX1 X.prog X.w) k x n (W.Φ x)
 fnn:m.fn=true->∀ x,X.fn x=true
section
variable {k:Nat}{W:WD}{m:MC}{C:Cw}{X:Cx}{x y:Expr}
theorem SX.gl(S:SX k W m C X){z:Str}{v:GV}(h:m.glob z v=true):Gl X z/\m.g.G.lookup z=some v/\(z==("__debug__" : Str))=false/\z ≠ "__name__" := by
 unfold MC.glob MC.kind at h;simp only[aQB,aQ0,aSL] at h;obtain ⟨⟨⟨h1,h2⟩,h3⟩,h4⟩:=h;refine ⟨?_,h2,by simpa using h3,h4⟩
 show X.env.scope.names.lookup z=_;rw[S.hs];exact h1
theorem SX.gk(S:SX k W m C X){z:Str}(h:m.gk z=true):Gl X z/\(z==("__debug__" : Str))=false:=by
 unfold MC.gk MC.kind at h;simp only[aQB,aQ0,aSL] at h;refine ⟨?_,by simpa using h.2⟩
 show X.env.scope.names.lookup z=_;rw[S.hs];exact h.1
theorem SX.vis(S:SX k W m C X){z:Str}(h:m.vis z=true):Vis X.env.scope z/\(z==("__debug__" : Str))=false/\(z==("__classdict__" : Str))=false:=by
 unfold MC.vis MC.kind at h;simp only[aQB,aQS,aQ0,aSL] at h;obtain ⟨⟨h1,h2⟩,h3⟩:=h;refine ⟨?_,by simpa using h2,by simpa using h3⟩
 unfold Vis;rw[S.hs];rcases h1 with (h1 | h1) | h1
 . exact .inl h1
 . exact .inr (.inl h1)
 . exact .inr (.inr h1)
theorem aI8(b:Bn):bootBuiltins b.name=some (.builtin b.id):=by
 cases b
 . exact aFJ
 . exact pQ
 . exact aFK
theorem aI9(b:Bn){c:Bool}(hc:c=true->X.calm=true)(h:(c||b == .len||b == .isinstance)=true):dW X (.builtin b.id) b.f:=by
 have hc:(b == .len||b == .isinstance)=false->X.calm=true:=λz=>hc (by cases c with | true=>rfl | false=>rw[Bool.false_or] at h;rw[h] at z;cases z)
 cases b
 . exact aEK
 . exact aEM
 . exact aER (hc rfl)
theorem aJA{f:Value}:dW X f (λ_=>none):=⟨λ_ _ _=>False,λ_ _ _ _ _ _ _ _ _ h=>h.elim,λ_ _ _ _ _ _ _ _ _ e _=>by cases e⟩
theorem aJB(t:Ty):dW X (.type t.id) t.f:=by
 cases t
 . exact aGK
 . exact aJA
 . exact aF0
 . exact aFX
 . exact aFY
 . exact aIL
theorem vU(t:Ty):bootBuiltins (t.id:Str)=some (.type t.id):=by
 cases t
 . exact aFL
 . exact aFM
 . exact aFN
 . exact aFO
 . exact aFP
 . exact uK
theorem aJC(op:Operator):(∃ φ,bQ op=φ/\OpD C X (binaryOp op) φ)\/bQ op=noF:=by
 cases op
 case Add=>exact .inl ⟨_,rfl,o_add.or aFV⟩
 case Sub=>exact .inl ⟨_,rfl,aDP⟩
 case Mult=>exact .inl ⟨_,rfl,o_mul.or aGL⟩
 case Mod=>exact .inl ⟨_,rfl,aDS⟩
 case FloorDiv=>exact .inl ⟨_,rfl,aDU⟩
 case Pow=>exact .inl ⟨_,rfl,aDV⟩
 case BitAnd=>exact .inl ⟨_,rfl,aIS⟩
 case BitOr=>exact .inl ⟨_,rfl,aIT⟩
 case LShift=>exact .inl ⟨_,rfl,aIU⟩
 case RShift=>exact .inl ⟨_,rfl,aIV⟩
 all_goals exact .inr rfl
theorem vV{neg:Bool}:IsB (inK neg):=λm x n y k d e=>by
 unfold inK at e;split at e
 . cases e;exact ⟨_,rfl,rfl⟩
 . cases e
theorem vW{neg:Bool}:IsB (eqN neg):=λm x n y k d e=>by
 unfold eqN at e;split at e
 . rename_i ka kb;cases eh:eP kb ka with
   | none=>rw[eh] at e;cases e
   | some r=>rw[eh] at e;cases e;exact ⟨_,rfl,rfl⟩
 . cases e
theorem qI:IsB noK:=λ_ _ _ _ _ _ z=>by cases z
theorem aJD(op:CmpOp)(hu:X.A.units+64<cLine):(OpD C X (compareOp op) (bF op)/\IsB (bF op))\/bF op=noF:=by
 cases op
 case Lt=>exact .inl ⟨aDW.or pP,kX m7 qI⟩
 case LtE=>exact .inl ⟨aDX,m7⟩
 case Gt=>exact .inl ⟨aDY,m7⟩
 case GtE=>exact .inl ⟨aDZ,m7⟩
 case Eq=>exact .inl ⟨o_eq hu,kX uJ qI⟩
 case NotEq=>exact .inl ⟨o_ne hu,kX uJ qI⟩
 case In=>exact .inl ⟨aD1.or (uO aCX),kX uI uP⟩
 case NotIn=>exact .inl ⟨aD2.or (uO aCY),kX uI uP⟩
 case Is=>exact .inl ⟨aFR,uN⟩
 case IsNot=>exact .inl ⟨aFS,uN⟩
theorem vX{f:Value->Value->Sem Value}:OpD C X f noF:=⟨λ_ _ _ _=>False,λ_ _ _ _ _ _ _ _ _ _ _ _ h=>h.elim,λ_ _ _ _ _ _ _ _ _ _ _ _ _ _ e _=>by cases e⟩
theorem aJE(op:Operator):OpD C X (binaryOp op) (bQ op):=by
 rcases aJC (C:=C) (X:=X) op with ⟨φ,e,h⟩ | e
 . rw[e];exact h
 . rw[e];exact vX
theorem qJ(op:CmpOp)(hu:X.A.units+64<cLine):OpD C X (compareOp op) (bF op)/\IsB (bF op):=by
 rcases aJD (C:=C) op hu with h | e
 . exact h
 . rw[e];exact ⟨vX,λ_ _ _ _ _ _ z=>by cases z⟩
theorem gG(op:CmpOp){e:Expr}(h:eQ e=true):behindInMarks op e=false:=by cases e <;> first | rfl | cases h
theorem nN{e:Expr}{env:Env}(h:eQ e=true):∀ v,foldedSetIterable e env v=pure v:=by intro v;cases e <;> first | rfl | cases h
theorem vY{e:Expr}(h:lD e=true):mP e:=by intro o i;cases e <;> first | rfl | cases h
theorem noSl{e:Expr}(h:lD e=true):pK e:=by intro o i;cases e <;> first | rfl | cases h
theorem aJF{e:Expr}{env:Env}(h:vT e=true):∀ whole,isTrue e env whole=(do let v <- whole;standAt e.pos;holding [v] (truthy v)):=by
 intro whole;cases e
 case UnaryOp op _ _=>cases op <;> first | rfl | cases h
 all_goals first | rfl | cases h
theorem SX.sub(S:SX k W m C X){scope:Scope}{aE tgN:List Str}(cl:List (Str×Addr))(A:Addr)(fp:List Addr)(s3:Shared)(H3:Hp):SX k W (m.sub scope aE tgN) C.nox (aQ X scope (aE++tgN) cl A fp s3 H3):=by
 refine ⟨rfl,?_,S.cm,S.rm,S.un,λ_ aA σ H s e s' I h=>?_,S.xt,S.xi,S.xc,S.xn,S.con,S.no,S.mk0,S.mki,S.iso,S.fl,S.mt,S.fn,λz=>by cases z⟩
 rotate_left
 . obtain ⟨_,_,_,_,_,_,_,_,_,_,_,_,z⟩:=h;exact z.elim
 show (compEnvC scope cl A X.env).scope=_;unfold MC.sub;rw[<- S.hs];rfl
theorem SX.subX(S:SX k W m C X){scope:Scope}{aE tgN:List Str}{σ:L2.St}{cl:List (Str×Addr)}{A:Addr}{fp:List Addr}{s3:Shared}{H3:Hp}{XE:VSP}(xo:XOk (CX1 X.prog X.w) ((C.at X).on σ) (f9 X scope (aE++tgN) cl A fp s3 H3 XE)):SX k W (m.sub scope aE tgN) ((C.at X).on σ) (f9 X scope (aE++tgN) cl A fp s3 H3 XE):=by
 refine ⟨rfl,?_,S.cm,S.rm,S.un,λ_=>xo,S.xt,S.xi,S.xc,S.xn,S.con,S.no,S.mk0,S.mki,S.iso,S.fl,S.mt,S.fn,λz=>by cases z⟩
 show (compEnvC scope cl A X.env).scope=_;unfold MC.sub;rw[<- S.hs];rfl
theorem SX.loc(S:SX k W m C X){i:Nat}{z:Str}(h:m.loc i z=true):X.N[i]? = some z/\L2.Loc X.env.scope z/\(X.fn z=true\/X.env.scope.names.lookup z=some .local):=by
 unfold MC.loc MC.kind at h;simp only[aQB,aQS,aQ0] at h;refine ⟨by rw[S.hN];exact h.1,?_,?_⟩
 . unfold L2.Loc;rw[S.hs];rcases h.2 with q | q
   . exact .inl q
   . exact .inr q.2
 . rw[S.hs];rcases h.2 with q | q
   . exact .inr q
   . exact .inl (S.fnn q.1 z)
mutual
theorem sG(S:SX k W m C X)(hN:m.N.Nodup):∀ (t:Tg) {e:Expr},mG m t e=true->PGw X e t
 | .nm i,e,h=>by
  simp only[mG] at h;split at h
  . obtain ⟨a,b,c⟩:=S.loc h;exact aF7 (by rw[S.hN];exact hN) a b c
  . cases h
 | .tp ts,e,h=>by
  simp only[mG] at h;split at h
  . rw[aQB,aQB,aQ3] at h;obtain ⟨p,l⟩:=sGs S hN ts h.2 h.1.2;exact aGB (S.cm h.1.1) p h.1.2 l
  . cases h
theorem sGs(S:SX k W m C X)(hN:m.N.Nodup):∀ (ts:List Tg) {es:List Expr},mGs m ts es=true->(∀ e∈es,gT e=true)->iG X es ts/\es.length=ts.length
 | [],[],h,_=>⟨aF8,rfl⟩
 | [],_::_,h,_=>by simp[mGs] at h
 | t::ts,[],h,_=>by simp[mGs] at h
 | t::ts,e::es,h,hs=>by simp only[mGs,aQB] at h;obtain ⟨p,l⟩:=sGs S hN ts h.2 λx hx=>hs x (mcm hx);exact ⟨aF9 (sG S hN t h.1) p (hs e mcs),by rw[aQJ,aQJ,l]⟩
end
end
theorem vZ{X:Cx}:∀ {ns:List Str},(∀ n∈ns,∃ cv,fC X.mg n cv)->∃ vs,jL X.mg ns vs
 | [],_=>⟨[],rfl⟩
 | n::ns,h=>by obtain ⟨v,hv⟩:=h n mcs;obtain ⟨vs,hr⟩:=vZ λm hm=>h m (mcm hm);exact ⟨v::vs,v,vs,rfl,hv,hr⟩
theorem v5:∀ {ns:List Str} {es:List Expr},gE ns es=true->es.length=ns.length
 | [],[],_=>rfl
 | [],_::_,h=>by simp[gE] at h
 | n::ns,[],h=>by simp[gE] at h
 | n::ns,e::es,h=>by
  unfold gE at h;split at h
  . rename_i q;cases q;rw[aQB] at h;rw[aQJ,aQJ,v5 h.2]
  . cases h
theorem v6:∀ {ns:List Str} {es:List Expr} {i:Nat} {n:Str},gE ns es=true->ns[i]? = some n->∃ q,es[i]? = some (Expr.Name n q)
 | [],_,_,_,_,e=>by simp at e
 | n::ns,[],_,_,h,_=>by simp[gE] at h
 | n::ns,e::es,i,z,h,hi=>by
  unfold gE at h;split at h
  . rename_i x p es' q;cases q;rw[aQB,aQ0] at h;cases i with
    | zero =>
     have:n=z:=by simpa using hi
     exact ⟨p,by simp[h.1,this]⟩
    | succ i =>
     obtain ⟨q,e2⟩:=v6 (i:=i) h.2 (by simpa using hi)
     exact ⟨q,by simpa using e2⟩
  . cases h
abbrev PE(m:MC)(f:E)(e:Expr):Prop:=∀ {k:Nat} {W:WD} {C:Cw} {X:Cx},SX k W m C X->PV C X e (evE W f)
abbrev PTE(m:MC)(f:E)(e:Expr):Prop:=∀ {k:Nat} {W:WD} {C:Cw} {X:Cx},SX k W m C X->PTv C X e (evE W f)
abbrev PIE(m:MC)(tg:Expr)(f:E)(e:Expr):Prop:=∀ {k:Nat} {W:WD} {C:Cw} {X:Cx},SX k W m C X->PIv C X tg e (evE W f)
inductive dE(m:MC):List E->List Expr->Prop
 | nil:dE m [] []
 | cons {f fs x xs}:bJ x=true->PE m f x->dE m fs xs->dE m (f::fs) (x::xs)
inductive eR(m:MC):List E->List Expr->Prop
 | nil:eR m [] []
 | cons {f fs x xs}:PTE m f x->eR m fs xs->eR m (f::fs) (x::xs)
abbrev CkE(m:MC)(f:E)(e:Expr):Type:=Option (PLift (PE m f e))
abbrev CkT(m:MC)(f:E)(e:Expr):Type:=Option (PLift (PTE m f e))
abbrev CkI(m:MC)(tg:Expr)(f:E)(e:Expr):Type:=Option (PLift (PIE m tg f e))
abbrev eE(m:MC)(f:List E)(e:List Expr):Type:=Option (PLift (dE m f e))
abbrev CkF(m:MC)(f:List E)(e:List Expr):Type:=Option (PLift (eR m f e))
abbrev CkO(m:MC)(f:Option E)(e:Option Expr):Type:=Option (PLift (∀ {k:Nat} {W:WD} {C:Cw} {X:Cx},SX k W m C X->POv C X e (evO W f)))
theorem got{P:Prop}:∀ {o:Option (PLift P)},o.isSome=true->P
 | some p,_=>p.down
 | none,h=>nomatch h
section
variable {k:Nat}{W:WD}{m:MC}{C:Cw}{X:Cx}
theorem dE.star:∀ {fs:List E} {es:List Expr},dE m fs es->∀ x∈es,bJ x=true
 | _,_,.nil=>λx hx=>by cases hx
 | _,_,.cons s _ q=>λx hx=>by
  rcases aOR.mp hx with rfl | hx
  . exact s
  . exact q.star x hx
theorem dE.es(S:SX k W m C X):∀ {fs:List E} {es:List Expr},dE m fs es->PAv C X es (aZ W fs)
 | _,_,.nil=>by simp only[aZ];exact mW
 | _,_,.cons s p q=>by simp only[aZ];exact kS (p S) (q.es S) (bO s)
theorem dE.l(S:SX k W m C X):∀ {fs:List E} {es:List Expr},dE m fs es->PVL C X es (evL W fs)
 | _,_,.nil=>by simp only[evL];exact .nil
 | _,_,.cons s p q=>by simp only[evL];exact .cons (p S) (q.l S)
theorem dE.a{pos:Pos}(S:SX k W m C X):∀ {fs:List E} {es:List Expr},dE m fs es->PV C X (.BoolOp .And es pos) (evA W fs)
 | _,_,.nil=>λaA s σ H Q I q=>by rw[aV] at q;obtain ⟨ρ,F,R,w⟩:=q;exact w.elim
 | _,_,.cons s p .nil=>by simp only[evA];exact tU (p S)
 | _,_,.cons s p (.cons s' p' q)=>by simp only[evA];exact aD8 (p S) (dE.a S (.cons s' p' q))
theorem dE.o{pos:Pos}(S:SX k W m C X):∀ {fs:List E} {es:List Expr},dE m fs es->PV C X (.BoolOp .Or es pos) (dD W fs)
 | _,_,.nil=>λaA s σ H Q I q=>by rw[aV] at q;obtain ⟨ρ,F,R,w⟩:=q;exact w.elim
 | _,_,.cons s p .nil=>by simp only[dD];exact tU (p S)
 | _,_,.cons s p (.cons s' p' q)=>by simp only[dD];exact aD9 (p S) (dE.o S (.cons s' p' q))
theorem eR.a{pos:Pos}(S:SX k W m C X):∀ {fs:List E} {es:List Expr},eR m fs es->PWv C X (.BoolOp .And es pos) (evA W fs)
 | _,_,.nil=>λwhole aA s σ H Q I q=>by obtain ⟨ρ,F,R,w⟩:=q;exact w.elim
 | _,_,.cons p .nil=>by simp only[evA];exact tQ (p S)
 | _,_,.cons p (.cons p' q)=>by simp only[evA];exact aD6 (p S) (eR.a S (.cons p' q))
theorem eR.o{pos:Pos}(S:SX k W m C X):∀ {fs:List E} {es:List Expr},eR m fs es->PWv C X (.BoolOp .Or es pos) (dD W fs)
 | _,_,.nil=>λwhole aA s σ H Q I q=>by obtain ⟨ρ,F,R,w⟩:=q;exact w.elim
 | _,_,.cons p .nil=>by simp only[dD];exact tQ (p S)
 | _,_,.cons p (.cons p' q)=>by simp only[dD];exact aD7 (p S) (eR.o S (.cons p' q))
theorem eR.f(S:SX k W m C X):∀ {fs:List E} {es:List Expr},eR m fs es->cO X es (tT (C.at X) (evF W fs))
 | _,_,.nil=>by
  have:evF W []=λ_=>.ok .fz (.bl true):=by funext ρ;simp only[evF]
  rw[this];exact aFC
 | f::fs,_,.cons p q=>by
  have:evF W (f::fs)=λρ=>dJ (evE W f ρ) (evF W fs ρ):=by funext ρ;simp only[evF]
  rw[this];exact aFD (p S) (q.f S)
section
variable {fs:List E}{es:List Expr}{r:eE m fs es}{t:CkF m fs es}{pos:Pos}
theorem gSt(h:r.isSome=true):∀ x∈es,bJ x=true:=(got h).star
theorem gEs(h:r.isSome=true)(S:SX k W m C X):PAv C X es (aZ W fs):=(got h).es S
theorem gL(h:r.isSome=true)(S:SX k W m C X):PVL C X es (evL W fs):=(got h).l S
theorem gA(h:r.isSome=true)(S:SX k W m C X):PV C X (.BoolOp .And es pos) (evA W fs):=(got h).a S
theorem gOr(h:r.isSome=true)(S:SX k W m C X):PV C X (.BoolOp .Or es pos) (dD W fs):=(got h).o S
theorem gWA(h:t.isSome=true)(S:SX k W m C X):PWv C X (.BoolOp .And es pos) (evA W fs):=(got h).a S
theorem gWO(h:t.isSome=true)(S:SX k W m C X):PWv C X (.BoolOp .Or es pos) (dD W fs):=(got h).o S
theorem gF(h:t.isSome=true)(S:SX k W m C X):cO X es (tT (C.at X) (evF W fs)):=(got h).f S
end
end
noncomputable def aJG{m:MC}{a e}(r1:CkE m a e):CkE m (.frz a) e:=if h:r1.isSome=true then some ⟨λS=>fK (got h S)⟩ else none
noncomputable def aJH {m : MC} {a e} (r1 : CkE m a e) : CkT m (.tru a) e := if h : (vT e && r1.isSome) = true then some ⟨fun {k} {W} {C} {X} S => by
    simp only[aQB] at h;exact aD4 (got h.2 S) (aJF h.1)⟩ else none
noncomputable def aJI{m:MC}{tg a e}(r1:CkE m a e):CkI m tg (.items a) e:=if h:r1.isSome=true then some ⟨λS=>aE3 (got h S)⟩ else none
noncomputable def aJJ {m : MC} {i} {x} {p1} : CkE m (.var i) (.Name x p1) := if h : (m.N[i]? == some x && m.vis x) = true then some ⟨fun {k} {W} {C} {X} S => by
    simp only[aQB,aQ0] at h;obtain ⟨h1,h2,h3⟩:=S.vis h.2
    exact aDK i (iV (by rw[S.hN];exact h.1) h1 h2 h3)⟩ else none
noncomputable def aJK {m : MC} {y} {c} {x} {p1} : CkE m (.glob y c) (.Name x p1) := if h : (x == y && m.glob x (.con c) && strK' c) = true then some ⟨fun {k} {W} {C} {X} S => by
    simp only[aQB,aQ0] at h;obtain ⟨⟨rfl,h1⟩,h2⟩:=h;obtain ⟨g,l,hd,hn⟩:=S.gl h1;have:=S.con _ _ l;cases c with
    | s y=>obtain ⟨t,ht⟩:=this;exact aEN g ht h2 hd
    | i n=>obtain ⟨t,ht⟩:=this;exact aEO g ht hd
    | t tb=>cases h2⟩ else none
noncomputable def kE_ty {m : MC} {t} {x} {p1} : CkE m (.ty t) (.Name x p1) := if h : (x == (t.id : Str) && m.glob x .no) = true then some ⟨fun {k} {W} {C} {X} S => by
    simp only[aQB,aQ0] at h;obtain ⟨rfl,h1⟩:=h;obtain ⟨g,l,hd,hn⟩:=S.gl h1;exact pv_ty g (S.no _ l) (vU t) hn hd⟩ else none
noncomputable def aJL {m : MC} {p0} {p1} : CkE m (.non) (.Constant .none p0 p1) := if h : (true) = true then some ⟨fun {k} {W} {C} {X} S => by
    exact aDM⟩ else none
noncomputable def kE_bl {m : MC} {c} {b} {p1} {p2} : CkE m (.bl c) (.Constant (.bool b) p1 p2) := if h : (b == c) = true then some ⟨fun {k} {W} {C} {X} S => by
    simp only[aQ0] at h;subst h;exact pv_bl⟩ else none
noncomputable def aJM {m : MC} {c} {b} {p1} {p2} : CkE m (.int c) (.Constant (.int b) p1 p2) := if h : (b == c) = true then some ⟨fun {k} {W} {C} {X} S => by
    simp only[aQ0] at h;subst h;exact aDL⟩ else none
noncomputable def aJN {m : MC} {c} {b} {p1} {p2} : CkE m (.str c) (.Constant (.str b) p1 p2) := if h : (b == c && strK b) = true then some ⟨fun {k} {W} {C} {X} S => by
    simp only[aQB,aQ0] at h;obtain ⟨rfl,h⟩:=h;exact aDN h⟩ else none
noncomputable def aJO {m : MC} {op} {a} {b} {x} {o} {y} {p3} (r1 : CkE m a x) (r2 : CkE m b y) : CkE m (.bin op a b) (.BinOp x o y p3) := if h : (o == op && (r1.isSome && r2.isSome)) = true then some ⟨fun {k} {W} {C} {X} S => by
    simp only[aQB,aQ0] at h;obtain ⟨rfl,h1,h2⟩:=h;exact tN (aJE _) (got h1 S) (got h2 S)⟩ else none
noncomputable def aJP {m : MC} {op} {a} {b} {x} {o} {y} {p3} (r1 : CkE m a x) (r2 : CkE m b y) : CkE m (.cmp op a b) (.Compare x [o] [y] p3) := if h : (o == op && eQ y && (r1.isSome && r2.isSome)) = true then some ⟨fun {k} {W} {C} {X} S => by
    simp only[aQB,aQ0] at h;obtain ⟨⟨rfl,hs⟩,h1,h2⟩:=h;exact kN (qJ _ S.un).1 (got h1 S) (got h2 S) (gG _ hs)⟩ else none
noncomputable def aJQ {m : MC} {es} {xs} {p1} (r1 : eE m es xs) : CkE m (.andL es) (.BoolOp .And xs p1) := if h : (r1.isSome) = true then some ⟨fun {k} {W} {C} {X} S => by
    exact gA h S⟩ else none
noncomputable def aJR {m : MC} {es} {xs} {p1} (r1 : eE m es xs) : CkE m (.orL es) (.BoolOp .Or xs p1) := if h : (r1.isSome) = true then some ⟨fun {k} {W} {C} {X} S => by
    exact gOr h S⟩ else none
noncomputable def aJS {m : MC} {a} {x} {p1} (r1 : CkE m a x) : CkE m (.not a) (.UnaryOp .Not x p1) := if h : (r1.isSome) = true then some ⟨fun {k} {W} {C} {X} S => by
    exact aEA (got h S)⟩ else none
noncomputable def aJT {m : MC} {a} {l} {u} {x} {lo} {hi} {p3} {p4} (r1 : CkE m a x) (r2 : CkO m l lo) (r3 : CkO m u hi) : CkE m (.slice a l u) (.Subscript x (.Slice lo hi none p3) p4) := if h : (r1.isSome && (r2.isSome && r3.isSome)) = true then some ⟨fun {k} {W} {C} {X} S => by
    simp only[aQB] at h;obtain ⟨h0,h1,h2⟩:=h;exact aII (got h0 S) (got h1 S) (got h2 S)⟩ else none
noncomputable def kE_ix {m : MC} {a} {b} {x} {y} {p2} (r1 : CkE m a x) (r2 : CkE m b y) : CkE m (.ix a b) (.Subscript x y p2) := if h : (lD y && (r1.isSome && r2.isSome)) = true then some ⟨fun {k} {W} {C} {X} S => by
    simp only[aQB] at h;obtain ⟨h0,h1,h2⟩:=h;exact pv_ix (got h1 S) (got h2 S) (vY h0)⟩ else none
noncomputable def aJU {m : MC} {es} {es0} {p1} {p2} (r1 : eE m es es0) : CkE m (.tup es) (.Tuple es0 p1 p2) := if h : (r1.isSome) = true then some ⟨fun {k} {W} {C} {X} S => by
    exact aEH (gEs h S)⟩ else none
noncomputable def aJV {m : MC} {es} {es0} {p1} (r1 : eE m es es0) : CkE m (.lst es) (.List es0 p1) := if h : (r1.isSome) = true then some ⟨fun {k} {W} {C} {X} S => by
    exact aEI (gEs h S)⟩ else none
noncomputable def aJW {m : MC} {g} {n} {es} {f} {p} {x} {xs} {cp} (r1 : eE m es (x :: xs)) : CkE m (.call g n es) (.Call (.Name f p) (x :: xs) [] cp) := if h : (m.calm && f == g && m.glob f (.fn n) && r1.isSome) = true then some ⟨fun {k} {W} {C} {X} S => by
    simp only[aQB,aQ0] at h;obtain ⟨⟨⟨hq,rfl⟩,h1⟩,h2⟩:=h;obtain ⟨gl,l,hd,hn⟩:=S.gl h1;have st:=gSt h2;exact aFG (S.fn _ _ l) (S.rm hq) (S.xo hq) gl (gEs h2 S) hd (bO (st x mcs)) (fN _ _ λy hy=>st y (mcm hy))⟩ else none
noncomputable def aJX {m : MC} {a b} {f} {p1} {g} {p3} {x} {y} {p5} {p6} (r1 : CkE m a x) (r2 : CkE m b y) : CkE m (.dzip a b) (.Call (.Name f p1) [.Call (.Name g p3) [x, y] [] p5] [] p6) := if h : (m.calm && f == "dict" && g == "zip" && m.glob f .no && m.glob g .no && bJ x && bJ y && (r1.isSome && r2.isSome)) = true then some ⟨fun {k} {W} {C} {X} S => by
    simp only[aQB,aQ0] at h;obtain ⟨⟨⟨⟨⟨⟨⟨hq,rfl⟩,rfl⟩,h1⟩,h2⟩,s1⟩,s2⟩,h3,h4⟩:=h;obtain ⟨gl,l,_,_⟩:=S.gl h1;obtain ⟨gl',l',_,_⟩:=S.gl h2;exact aI6 (S.cm hq) gl (S.no _ l) gl' (S.no _ l') (got h3 S) (got h4 S) s1 s2⟩ else none
noncomputable def aJY {m : MC} {b} {es} {f} {p} {x} {xs} {cp} (r1 : eE m es (x :: xs)) : CkE m (.bcall b es) (.Call (.Name f p) (x :: xs) [] cp) := if h : ((m.calm || b == .len || b == .isinstance) && f == b.name && m.glob f .no && r1.isSome) = true then some ⟨fun {k} {W} {C} {X} S => by
    rw[aQB,aQB,aQB] at h;obtain ⟨⟨⟨hq,hz⟩,h1⟩,h2⟩:=h;cases (aQ0.mp hz);obtain ⟨gl,l,hd,hn⟩:=S.gl h1;have st:=gSt h2;exact aEJ (aI9 b S.cm hq) gl (S.no _ l) (aI8 b) (gEs h2 S) hn hd (bO (st x mcs)) (fN _ _ λy hy=>st y (mcm hy))⟩ else none
noncomputable def aJZ {m : MC} {t} {es} {f} {p1} {x} {xs} {p4} (r1 : eE m es (x :: xs)) : CkE m (.tcall t es) (.Call (.Name f p1) (x :: xs) [] p4) := if h : (f == (t.id : Str) && m.glob f .no && r1.isSome) = true then some ⟨fun {k} {W} {C} {X} S => by
    simp only[aQB,aQ0] at h;obtain ⟨⟨rfl,h1⟩,h2⟩:=h;obtain ⟨gl,l,hd,hn⟩:=S.gl h1;exact aF1 (aJB t) gl (S.no _ l) (vU t) (gEs h2 S) hn hd (gSt h2)⟩ else none
noncomputable def aJ0 {m : MC} {p0} : CkE m (.dnew) (.Dict [] [] p0) := if h : (true) = true then some ⟨fun {k} {W} {C} {X} S => by
    exact aIJ⟩ else none
noncomputable def aJ1 {m : MC} {y} {tb} {a} {x} {p1} {b} {p3} (r1 : CkE m a b) : CkE m (.deed y tb a) (.Subscript (.Name x p1) b p3) := if h : (x == y && m.glob x (.con (.t tb)) && lD b && r1.isSome) = true then some ⟨fun {k} {W} {C} {X} S => by
    simp only[aQB,aQ0] at h;obtain ⟨⟨⟨rfl,h1⟩,h2⟩,h3⟩:=h;obtain ⟨gl,l,hd,hn⟩:=S.gl h1;exact aIP (S.con _ _ l) gl (got h3 S) (noSl h2) hd⟩ else none
noncomputable def aJ2 {m : MC} {i} {fs} {n} {es} {f} {p} {x} {xs} {cp} (r1 : eE m es (x :: xs)) : CkE m (.callv i fs n es) (.Call (.Name f p) (x :: xs) [] cp) := if h : (m.calm && m.N[i]? == some f && m.vis f && fs.all (fun g => m.g.G.lookup g == some (.fn n)) && r1.isSome) = true then some ⟨fun {k} {W} {C} {X} S => by
    simp only[aQB,aQ0,aQ3] at h;obtain ⟨⟨⟨⟨hq,h1⟩,h2⟩,h3⟩,h4⟩:=h;obtain ⟨v1,v2,v3⟩:=S.vis h2;have st:=gSt h4
    exact aIQ (λg hg=>S.fn g n (h3 g (aSM.mp hg))) (S.rm hq) (S.xo hq) (iV (by rw[S.hN];exact h1) v1 v2 v3) (gEs h4 S) (bO (st x mcs)) (fN _ _ λy hy=>st y (mcm hy))⟩ else none
noncomputable def aJ3 {m : MC} {neg} {a} {b} {x} {o} {y} {p3} (r1 : CkE m a x) (r2 : CkE m b y) : CkE m (.deq neg a b) (.Compare x [o] [y] p3) := if h : (o == (if neg then .NotEq else .Eq) && eQ y && (r1.isSome && r2.isSome)) = true then some ⟨fun {k} {W} {C} {X} S => by
    simp only[aQB,aQ0] at h;obtain ⟨⟨ho,hs⟩,h1,h2⟩:=h;cases neg with
    | false=>cases (show _=CmpOp.Eq from ho);exact kN (vG S.un) (got h1 S) (got h2 S) (gG _ hs)
    | true=>cases (show _=CmpOp.NotEq from ho);exact kN (vH S.un) (got h1 S) (got h2 S) (gG _ hs)⟩ else none
noncomputable def aJ4 {m : MC} {a} {b} {x} {y} {p2} (r1 : CkE m a x) (r2 : CkE m b y) : CkE m (.dix a b) (.Subscript x y p2) := if h : (lD y && (r1.isSome && r2.isSome)) = true then some ⟨fun {k} {W} {C} {X} S => by
    simp only[aQB] at h;obtain ⟨h0,h1,h2⟩:=h
    exact aIN (aSN (aSO (by decide:1<=64) _) S.un) (got h1 S) (got h2 S) (vY h0)⟩ else none
noncomputable def aJ5 {m : MC} {neg} {a} {b} {x} {o} {y} {p3} (r1 : CkE m a x) (r2 : CkE m b y) : CkE m (.din neg a b) (.Compare x [o] [y] p3) := if h : (o == (if neg then .NotIn else .In) && eQ y && (r1.isSome && r2.isSome)) = true then some ⟨fun {k} {W} {C} {X} S => by
    simp only[aQB,aQ0] at h;obtain ⟨⟨ho,hs⟩,h1,h2⟩:=h
    exact aIO ho (aSN (aSO (by decide:1<=64) _) S.un) (got h1 S) (got h2 S) (gG _ hs)⟩ else none
noncomputable def aJ6 {m : MC} {a} {n} {f} {p1} {x} {d} {p4} {p5} (r1 : CkE m a x) : CkE m (.isx1 a n) (.Call (.Name f p1) [x, .Name d p4] [] p5) := if h : (f == "isinstance" && m.glob f .no && d == n && m.gk d && m.g.xns.contains d && bJ x && r1.isSome) = true then some ⟨fun {k} {W} {C} {X} S => by
    simp only[aQB,aQ0,aSM] at h;obtain ⟨⟨⟨⟨⟨⟨rfl,h1⟩,rfl⟩,h2⟩,h3⟩,h4⟩,h5⟩:=h;obtain ⟨gl,l,hd,hn⟩:=S.gl h1;obtain ⟨gl2,hd2⟩:=S.gk h2;exact aHN S.xi (S.xn _ h3) gl (S.no _ l) gl2 hd2 (got h5 S) h4⟩ else none
noncomputable def aJ7 {m : MC} {a} {ns} {f} {p1} {x} {es} {p4} {p5} {p6} (r1 : CkE m a x) : CkE m (.isxT a ns) (.Call (.Name f p1) [x, .Tuple es p4 p5] [] p6) := if h : (f == "isinstance" && m.glob f .no && !ns.isEmpty && decide (ns.length ≤ 100) && gE ns es && ns.all (fun d => m.gk d && m.g.xns.contains d) && bJ x && r1.isSome) = true then some ⟨fun {k} {W} {C} {X} S => by
    simp only[aQB,aQ0,aQQ,aQ3,aSP] at h;obtain ⟨⟨⟨⟨⟨⟨⟨rfl,h1⟩,h2⟩,h3⟩,h4⟩,h5⟩,h6⟩,h7⟩:=h;obtain ⟨gl,l,hd,hn⟩:=S.gl h1
    refine aHQ S.xi (by intro z;subst z;cases h2) (vZ λn hn=>S.xn n (aSM.mp (h5 n hn).2)) h3 gl (S.no _ l) (λn hn=>S.gk (h5 n hn).1) (v5 h4) (λi n hi=>v6 h4 hi) (got h7 S) h6⟩ else none
noncomputable def aJ8 {m : MC} {el} {it} {ts} {aD} {t} {n} {elt} {tg} {aI} {ifs} {scope} {cp} (r1 : CkI m tg it aI) (r2 : CkE (m.sub scope (aD.filterMap fun i => m.N[i]?) (eD 4 tg)) el elt) (r3 : CkF (m.sub scope (aD.filterMap fun i => m.N[i]?) (eD 4 tg)) ts ifs) : CkE m (.comp el it ts aD t n) (.ListComp elt [⟨tg, aI, ifs, 0⟩] scope cp) := if h : (m.calm && jT scope m.sc m.N aD (aD.filterMap fun i => m.N[i]?) (eD 4 tg) && eQ aI && decide ((eD 4 tg).length = n) && (dL t).all (fun j => decide (aD.length ≤ j)) && mG (m.sub scope (aD.filterMap fun i => m.N[i]?) (eD 4 tg)) t tg && (r1.isSome && (r2.isSome && r3.isSome))) = true then some ⟨fun {k} {W} {C} {X} S => by
    simp only[aQB,aQQ,aQ3] at h;obtain ⟨⟨⟨⟨⟨⟨hq,ho⟩,hn⟩,hl⟩,hs⟩,hg⟩,h1,h2,h3⟩:=h;unfold jT at ho;simp only[aQB,aQ3,aQS,aSL,aQ0,aQQ,aSM] at ho;obtain ⟨⟨⟨⟨⟨⟨⟨g1,g2⟩,g3⟩,g4⟩,g5⟩,g6⟩,g7⟩,g8⟩:=ho;have er:(relabel scope X.env).names=jB scope m.sc:=by rw[<- S.hs];rfl
    have := aGG (pos := cp) (tgN := eD 4 tg) (t := t) (S.cm hq) (got h1 S) g1 g2 (fun y hy e => (g3 y hy).resolve_left fun z => z e) (fun y hy e => by
        have:=g4 y hy;show X.env.scope.names.lookup y.1=_\/X.env.scope.names.lookup y.1=_;rw[S.hs];rcases this with (z | z) | z
        . exact absurd e z
        . exact .inl z
        . exact .inr z) (by rw[S.hN];exact g5) g6 (λy hy=>by rw[er];exact g7 y hy) (λj hj=>hs j hj) (λcl A fp s3 H3=>sG (S.sub cl A fp s3 H3) g8 t hg)
        (λcl A fp s3 H3=>gF h3 (S.sub cl A fp s3 H3)) (λcl A fp s3 H3=>got h2 (S.sub cl A fp s3 H3)) (nN hn)
    rw[hl] at this;exact this⟩ else none
noncomputable def aJ9 {m : MC} {a} {b} {x} {o} {y} {p3} (r1 : CkE m a x) (r2 : CkE m b y) : CkE m (.mulT a b) (.BinOp x o y p3) := if h : (o == .Mult && (r1.isSome && r2.isSome)) = true then some ⟨fun {k} {W} {C} {X} S => by
    simp only[aQB,aQ0] at h;obtain ⟨rfl,h1,h2⟩:=h;exact tN aIG (got h1 S) (got h2 S)⟩ else none
noncomputable def aKA {m : MC} {a} {x} {k} {p2} (r1 : CkE m a x) : CkE m (.fmt a) (.FormattedValue x k none p2) := if h : (k == -1 && r1.isSome) = true then some ⟨fun {k} {W} {C} {X} S => by
    simp only[aQB,aQ0] at h;obtain ⟨rfl,h⟩:=h;exact aGI (got h S)⟩ else none
noncomputable def aKB {m : MC} {es} {x} {y} {xs} {p3} (r1 : eE m es (x :: y :: xs)) : CkE m (.fstr es) (.JoinedStr (x :: y :: xs) p3) := if h : (r1.isSome) = true then some ⟨fun {k} {W} {C} {X} S => by
    exact aGJ (gL h S)⟩ else none
noncomputable def aKC {m : MC} {neg} {a} {b} {x} {o} {y} {p3} (r1 : CkE m a x) (r2 : CkE m b y) : CkT m (.deq neg a b) (.Compare x [o] [y] p3) := if h : (o == (if neg then .NotEq else .Eq) && eQ y && (r1.isSome && r2.isSome)) = true then some ⟨fun {k} {W} {C} {X} S => by
    simp only[aQB,aQ0] at h;obtain ⟨⟨ho,hs⟩,h1,h2⟩:=h;cases neg with
    | false=>cases (show _=CmpOp.Eq from ho);exact kP (vG S.un) vW (got h1 S) (got h2 S) (gG _ hs)
    | true=>cases (show _=CmpOp.NotEq from ho);exact kP (vH S.un) vW (got h1 S) (got h2 S) (gG _ hs)⟩ else none
noncomputable def aKD {m : MC} {neg} {a} {b} {x} {o} {y} {p3} (r1 : CkE m a x) (r2 : CkE m b y) : CkT m (.din neg a b) (.Compare x [o] [y] p3) := if h : (o == (if neg then .NotIn else .In) && eQ y && (r1.isSome && r2.isSome)) = true then some ⟨fun {k} {W} {C} {X} S => by
    simp only[aQB,aQ0] at h;obtain ⟨⟨ho,hs⟩,h1,h2⟩:=h;have hu:X.A.units+1<cLine:=aSN (aSO (by decide:1<=64) _) S.un
    cases neg with
    | false=>cases (show _=CmpOp.In from ho);exact kP (vC hu) vV (got h1 S) (got h2 S) (gG _ hs)
    | true=>cases (show _=CmpOp.NotIn from ho);exact kP (vD hu) vV (got h1 S) (got h2 S) (gG _ hs)⟩ else none
noncomputable def aKE {m : MC} {op} {a} {b} {x} {o} {y} {p3} (r1 : CkE m a x) (r2 : CkE m b y) : CkT m (.cmp op a b) (.Compare x [o] [y] p3) := if h : (o == op && eQ y && (r1.isSome && r2.isSome)) = true then some ⟨fun {k} {W} {C} {X} S => by
    simp only[aQB,aQ0] at h;obtain ⟨⟨rfl,hs⟩,h1,h2⟩:=h;exact kP (qJ _ S.un).1 (qJ (C:=C) _ S.un).2 (got h1 S) (got h2 S) (gG _ hs)⟩ else none
noncomputable def aKF {m : MC} {es} {xs} {p1} (r1 : CkF m es xs) : CkT m (.andL es) (.BoolOp .And xs p1) := if h : (r1.isSome) = true then some ⟨fun {k} {W} {C} {X} S => by
    exact pt_w (gWA h S)⟩ else none
noncomputable def aKG {m : MC} {es} {xs} {p1} (r1 : CkF m es xs) : CkT m (.orL es) (.BoolOp .Or xs p1) := if h : (r1.isSome) = true then some ⟨fun {k} {W} {C} {X} S => by
    exact pt_w (gWO h S)⟩ else none
noncomputable def aKH {m : MC} {a} {x} {p1} (r1 : CkT m a x) : CkT m (.not a) (.UnaryOp .Not x p1) := if h : (r1.isSome) = true then some ⟨fun {k} {W} {C} {X} S => by
    exact aD5 (got h S)⟩ else none
noncomputable def aKI {m : MC} {tg0} {a} {f} {p1} {x} {p3} (r1 : CkE m a x) : CkI m tg0 (.rng1 a) (.Call (.Name f p1) [x] [] p3) := if h : (f == "range" && m.glob f .no && bJ x && r1.isSome) = true then some ⟨fun {k} {W} {C} {X} S => by
    simp only[aQB,aQ0] at h;obtain ⟨⟨⟨rfl,h1⟩,h2⟩,h3⟩:=h;obtain ⟨gl,l,hd,hn⟩:=S.gl h1;exact aE5 gl (S.no _ l) (kS (got h3 S) mW (bO h2)) (bO h2)⟩ else none
noncomputable def aKJ {m : MC} {tg0} {a} {f} {p1} {x} {p3} (r1 : CkE m a x) : CkI m tg0 (.enum1 a) (.Call (.Name f p1) [x] [] p3) := if h : (f == "enumerate" && aI7 tg0 && m.glob f .no && bJ x && r1.isSome) = true then some ⟨fun {k} {W} {C} {X} S => by
    simp only[aQB,aQ0] at h;obtain ⟨⟨⟨⟨rfl,ht⟩,h1⟩,h2⟩,h3⟩:=h;obtain ⟨gl,l,hd,hn⟩:=S.gl h1;cases tg0 <;> first
     | (cases ht;done)
     | exact aG3 gl (S.no _ l) (kS (fK (got h3 S)) mW (bO h2)) (bO h2)⟩ else none
noncomputable def kEs {m : MC} {f fs x xs} (r1 : CkE m f x) (r2 : eE m fs xs) : eE m (f :: fs) (x :: xs) := if h : (bJ x && r1.isSome && r2.isSome) = true then some ⟨by
    simp only[aQB] at h;exact .cons h.1.1 (@got _ r1 h.1.2) (got h.2)⟩ else none
noncomputable def kO{m:MC}{f x}(r1:CkE m f x):CkO m (some f) (some x):=if h:r1.isSome=true then some ⟨λS=>by simp only[evO];exact got h S⟩ else none
noncomputable def kF {m : MC} {f fs x xs} (r1 : CkT m f x) (r2 : CkF m fs xs) : CkF m (f :: fs) (x :: xs) := if h : (r1.isSome && r2.isSome) = true then some ⟨by
    simp only[aQB] at h;exact .cons (@got _ r1 h.1) (got h.2)⟩ else none
set_option maxHeartbeats 4000000 in
mutual
noncomputable def ckE:(m:MC)->(f:E)->(e:Expr)->CkE m f e
 | m,.frz a,e=>aJG (ckE m a e)
 | m,.var i,e=>match e with | .Name x p1=>aJJ | _=>none
 | m,.glob y c,e=>match e with | .Name x p1=>aJK | _=>none
 | m,.ty t,e=>match e with | .Name x p1=>kE_ty | _=>none
 | m,.non,e=>match e with | .Constant .none p0 p1=>aJL | _=>none
 | m,.bl c,e=>match e with | .Constant (.bool b) p1 p2=>kE_bl | _=>none
 | m,.int c,e=>match e with | .Constant (.int b) p1 p2=>aJM | _=>none
 | m,.str c,e=>match e with | .Constant (.str b) p1 p2=>aJN | _=>none
 | m,.bin op a b,e=>match e with | .BinOp x o y p3=>aJO (ckE m a x) (ckE m b y) | _=>none
 | m,.cmp op a b,e=>match e with | .Compare x [o] [y] p3=>aJP (ckE m a x) (ckE m b y) | _=>none
 | m,.andL es,e=>match e with | .BoolOp .And xs p1=>aJQ (fD m es xs) | _=>none
 | m,.orL es,e=>match e with | .BoolOp .Or xs p1=>aJR (fD m es xs) | _=>none
 | m,.not a,e=>match e with | .UnaryOp .Not x p1=>aJS (ckE m a x) | _=>none
 | m,.slice a l u,e=>match e with | .Subscript x (.Slice lo hi none p3) p4=>aJT (ckE m a x) (ckO m l lo) (ckO m u hi) | _=>none
 | m,.ix a b,e=>match e with | .Subscript x y p2=>kE_ix (ckE m a x) (ckE m b y) | _=>none
 | m,.tup es,e=>match e with | .Tuple es0 p1 p2=>aJU (fD m es es0) | _=>none
 | m,.lst es,e=>match e with | .List es0 p1=>aJV (fD m es es0) | _=>none
 | m,.call g n es,e=>match e with | .Call (.Name f p) (x::xs) [] cp=>aJW (fD m es (x::xs)) | _=>none
 | m,.bcall b es,e=>match e with | .Call (.Name f p) (x::xs) [] cp=>aJY (fD m es (x::xs)) | _=>none
 | m,.tcall t es,e=>match e with | .Call (.Name f p1) (x::xs) [] p4=>aJZ (fD m es (x::xs)) | _=>none
 | m,.dnew,e=>match e with | .Dict [] [] p0=>aJ0 | _=>none
 | m,.deed y tb a,e=>match e with | .Subscript (.Name x p1) b p3=>aJ1 (ckE m a b) | _=>none
 | m,.dzip a b,e=>match e with | .Call (.Name f p1) [.Call (.Name g p3) [x,y] [] p5] [] p6=>aJX (ckE m a x) (ckE m b y) | _=>none
 | m,.callv i fs n es,e=>match e with | .Call (.Name f p) (x::xs) [] cp=>aJ2 (fD m es (x::xs)) | _=>none
 | m,.deq neg a b,e=>match e with | .Compare x [o] [y] p3=>aJ3 (ckE m a x) (ckE m b y) | _=>none
 | m,.dix a b,e=>match e with | .Subscript x y p2=>aJ4 (ckE m a x) (ckE m b y) | _=>none
 | m,.din neg a b,e=>match e with | .Compare x [o] [y] p3=>aJ5 (ckE m a x) (ckE m b y) | _=>none
 | m,.isx1 a n,e=>match e with | .Call (.Name f p1) [x,.Name d p4] [] p5=>aJ6 (ckE m a x) | _=>none
 | m,.isxT a ns,e=>match e with | .Call (.Name f p1) [x,.Tuple es p4 p5] [] p6=>aJ7 (ckE m a x) | _=>none
 | m,.comp el it ts aD t n,e=>match e with | .ListComp elt [⟨tg,aI,ifs,0⟩] scope cp=>aJ8 (ckI m tg it aI) (ckE (m.sub scope (aD.filterMap λi=>m.N[i]?) (eD 4 tg)) el elt) (ckF (m.sub scope (aD.filterMap λi=>m.N[i]?) (eD 4 tg)) ts ifs) | _=>none
 | _,.compX _ _ _ _ _ _,_=>none
 | m,.mulT a b,e=>match e with | .BinOp x o y p3=>aJ9 (ckE m a x) (ckE m b y) | _=>none
 | m,.fmt a,e=>match e with | .FormattedValue x k none p2=>aKA (ckE m a x) | _=>none
 | m,.fstr es,e=>match e with | .JoinedStr (x::y::xs) p3=>aKB (fD m es (x::y::xs)) | _=>none
 | _,.tru _,_=>none
 | _,.items _,_=>none
 | _,.rng1 _,_=>none
 | _,.enum1 _,_=>none
noncomputable def ckT:(m:MC)->(f:E)->(e:Expr)->CkT m f e
 | m,.tru a,e=>aJH (ckE m a e)
 | m,.deq neg a b,e=>match e with | .Compare x [o] [y] p3=>aKC (ckE m a x) (ckE m b y) | _=>none
 | m,.din neg a b,e=>match e with | .Compare x [o] [y] p3=>aKD (ckE m a x) (ckE m b y) | _=>none
 | m,.cmp op a b,e=>match e with | .Compare x [o] [y] p3=>aKE (ckE m a x) (ckE m b y) | _=>none
 | m,.andL es,e=>match e with | .BoolOp .And xs p1=>aKF (ckF m es xs) | _=>none
 | m,.orL es,e=>match e with | .BoolOp .Or xs p1=>aKG (ckF m es xs) | _=>none
 | m,.not a,e=>match e with | .UnaryOp .Not x p1=>aKH (ckT m a x) | _=>none
 | _,_,_=>none
noncomputable def ckI:(m:MC)->(tg:Expr)->(f:E)->(e:Expr)->CkI m tg f e
 | m,tg,.items a,e=>aJI (ckE m a e)
 | m,tg0,.rng1 a,e=>match e with | .Call (.Name f p1) [x] [] p3=>aKI (ckE m a x) | _=>none
 | m,tg0,.enum1 a,e=>match e with | .Call (.Name f p1) [x] [] p3=>aKJ (ckE m a x) | _=>none
 | _,_,_,_=>none
noncomputable def fD:(m:MC)->(fs:List E)->(es:List Expr)->eE m fs es
 | m,[],es=>match es with | []=>some ⟨.nil⟩ | _=>none
 | m,f::fs,l=>match l with | x::xs=>kEs (ckE m f x) (fD m fs xs) | _=>none
noncomputable def ckO:(m:MC)->(f:Option E)->(e:Option Expr)->CkO m f e
 | m,none,e=>match e with | none=>some ⟨λ_=>True.intro⟩ | _=>none
 | m,some f,l=>match l with | some x=>kO (ckE m f x) | _=>none
noncomputable def ckF:(m:MC)->(fs:List E)->(es:List Expr)->CkF m fs es
 | m,[],es=>match es with | []=>some ⟨.nil⟩ | _=>none
 | m,f::fs,l=>match l with | x::xs=>kF (ckT m f x) (ckF m fs xs) | _=>none
end
noncomputable def mE(m:MC)(f:E)(e:Expr):Bool:=(ckE m f e).isSome
noncomputable def mT(m:MC)(f:E)(e:Expr):Bool:=(ckT m f e).isSome
noncomputable def mI(m:MC)(tg:Expr)(f:E)(e:Expr):Bool:=(ckI m tg f e).isSome
noncomputable def mEs(m:MC)(f:List E)(e:List Expr):Bool:=(fD m f e).isSome
noncomputable def mF(m:MC)(f:List E)(e:List Expr):Bool:=(ckF m f e).isSome
theorem aKK{m:MC}{fs:List E}{es:List Expr}(h:mEs m fs es=true):∀ x∈es,bJ x=true:=gSt h
section
variable {k:Nat}{W:WD}
theorem sE(f:E){m:MC}{C:Cw}{X:Cx}{e:Expr}(S:SX k W m C X)(h:mE m f e=true):PV C X e (evE W f):=got h S
theorem sT(f:E){m:MC}{C:Cw}{X:Cx}{e:Expr}(S:SX k W m C X)(h:mT m f e=true):PTv C X e (evE W f):=got h S
theorem sI(f:E){m:MC}{C:Cw}{X:Cx}{tg e:Expr}(S:SX k W m C X)(h:mI m tg f e=true):PIv C X tg e (evE W f):=got h S
theorem sEs(fs:List E){m:MC}{C:Cw}{X:Cx}{es:List Expr}(S:SX k W m C X)(h:mEs m fs es=true):PAv C X es (aZ W fs):=gEs h S
theorem sF(fs:List E){m:MC}{C:Cw}{X:Cx}{es:List Expr}(S:SX k W m C X)(h:mF m fs es=true):cO X es (tT (C.at X) (evF W fs)):=gF h S
end
end D3
set_option genSizeOfSpec false
set_option genInjectivity false
namespace D3
open PySem PySem.Spec PyProof.Rows L2
mutual
inductive S where
 | ret (e:E) | retV (i:Nat) | set (i:Nat) (e:E) | ite (c:E) (a b:List S) | for (it:E) (t:Tg) (body:List S)
 | expr (e:E) | asg (t:Tg) (e:E) | whl (n:Nat) (c:E) (body:List S) | par (i j:Nat) (a b:E)
 | rz (c:Str) (es:List E) | tr (b:List S) (hs:List Hn) | app (i:Nat) (e:E) | ins (i:Nat) (k e:E) | setC (i:Nat) (fz:Bool) (e:E) | dput (i:Nat) (k e:E) | frzV (i:Nat)
inductive Hn where
 | mk (c:Str) (i:Option Nat) (b:List S)
end
mutual
noncomputable def evS(W:WD):S->Rho->aG
 | .ret e,ρ=>fL (evE W e ρ) ρ
 | .retV i,ρ=>fM ρ i
 | .set i e,ρ=>dX ρ i (evE W e ρ)
 | .ite c a b,ρ=>ifS (evE W c ρ) ρ (evB W a ρ) (evB W b ρ)
 | .for it t body,ρ=>pN (evE W it ρ) ρ (aJ t) (evB W body)
 | .asg t e,ρ=>gU t ρ (evE W e ρ)
 | .whl n c body,ρ=>dC (evE W c) (evB W body) n ρ
 | .par i j a b,ρ=>nE i j ρ (eB (evE W a ρ) (eB (evE W b ρ) (.ok [])))
 | .expr e,ρ=>(evE W e ρ).thS ρ λ_ _=>.nx ρ
 | .rz c es,ρ=>rzR c ρ (aZ W es ρ)
 | .tr b hs,ρ=>jI W.xf (eS W hs) (evB W b ρ)
 | .app i e,ρ=>f8 ρ i (evE W e ρ)
 | .ins i k e,ρ=>gB ρ i (evE W k ρ) (evE W e ρ)
 | .frzV i,ρ=>lC ρ i
 | .dput i k e,ρ=>gC ρ i (evE W k ρ) (evE W e ρ)
 | .setC i fz e,ρ=>dX ρ i (if fz=true then a8 (evE W e ρ) else evE W e ρ)
noncomputable def evH(W:WD):Hn->HX
 | .mk c i b=>⟨c,i,evB W b⟩
noncomputable def eS(W:WD):List Hn->List HX
 | []=>[]
 | h::r=>evH W h::eS W r
noncomputable def evB(W:WD):List S->Rho->aG
 | [],ρ=>.nx ρ
 | s::r,ρ=>(evS W s ρ).thn (evB W r)
end
noncomputable def jU:Expr->Bool | .ListComp ..=>false | .SetComp ..=>false | .DictComp ..=>false | _=>true
noncomputable def mC(m:MC)(elt:Expr)(scope:Scope):E->List Comprehension->Bool
 | .comp el it ts aD t n,gens=>match gens with
  | [⟨tg,aI,ifs,0⟩] =>
   let aE:=aD.filterMap λi=>m.N[i]?
   let tgN:=eD 4 tg
   m.calm&&jT scope m.sc m.N aD aE tgN&&eQ aI&&decide (tgN.length=n)&&(dL t).all (λj=>decide (aD.length<=j))&&mG (m.sub scope aE tgN) t tg&&(mI m tg it aI&&(mE (m.sub scope aE tgN) el elt&&mF (m.sub scope aE tgN) ts ifs))
  | _=>false
 | .compX el it ts aD t n,gens=>match gens with
  | [⟨tg,aI,ifs,0⟩] =>
   let aE:=aD.filterMap λi=>m.N[i]?
   let tgN:=eD 4 tg
   m.calm&&m.rz&&jT scope m.sc m.N aD aE tgN&&eQ aI&&decide (tgN.length=n)&&(dL t).all (λj=>decide (aD.length<=j))&&mG (m.sub scope aE tgN) t tg&&(mI m tg it aI&&(mE (m.sub scope aE tgN) el elt&&mF (m.sub scope aE tgN) ts ifs))
  | _=>false
 | _,_=>false
noncomputable def v7:Expr->Bool | .Tuple ..=>false | _=>true
noncomputable def qK(m:MC)(x y:Str)(px py:Pos)(a b:Expr):Bool:=m.calm&&m.kind x==some .local&&m.kind y==some .local&&px.line==py.line&&x != y&&bJ a&&bJ b&&!(foldedForSure 8 a&&foldedForSure 8 b)&&!(constantsAlone 8 a&&constantsAlone 8 b)&&m.sc.kind == .function
theorem nO{e:Expr}{t:Option Expr}{n:Nat}{env:Env}(h:jU e=true):swapsWith e t n env=pure false:=by cases e <;> first | rfl | cases h
theorem aKL{m:MC}{e:Expr}{x:Str}{p:Pos}{n:Nat}{env:Env}(hs:env.scope=m.sc)(h:(jU e||m.kind x==some .cell)=true):swapsWith e (some (.Name x p)) n env=pure false:=by
 rw[aQS,aQ0] at h;rcases h with h | h
 . exact nO h
 . have hk:env.kindOf x=some .cell:=by show env.scope.names.lookup x=_;rw[hs];exact h
   unfold swapsWith;have kc:(NameKind.cell==NameKind.local)=false:=by decide
   cases e <;> first | rfl | (simp[hk,kc])
theorem aKM{t:Expr}{e:Expr}{env:Env}(h:v7 e=true):swappedStores [t] e env=pure none:=by
 unfold swappedStores;split
 . rename_i q;split at q
   . cases h
   . cases h
   . cases q
 . rfl
theorem aKN{k:Nat}{W:WD}{m:MC}{C:Cw}{X:Cx}(S:SX k W m C X){x y:Str}{px py:Pos}{a b:Expr}(h:qK m x y px py a b=true):m.calm=true/\X.env.scope.names.lookup x=some .local/\X.env.scope.names.lookup y=some .local/\(∀ kt pt k2 pt2,swappedStores [.Tuple [.Name x px,.Name y py] kt pt] (.Tuple [a,b] k2 pt2) X.env=pure (some [x,y]))/\bJ a=true/\bJ b=true:=by
 unfold qK MC.kind at h;simp only[aQB,aQ0,aSL,aSP] at h;obtain ⟨⟨⟨⟨⟨⟨⟨⟨⟨h0,h1⟩,h2⟩,h3⟩,h4⟩,h5⟩,h6⟩,h7⟩,h8⟩,h9⟩:=h;have k1:X.env.scope.names.lookup x=some .local:=by rw[S.hs];exact h1
 have k2:X.env.scope.names.lookup y=some .local:=by rw[S.hs];exact h2
 refine ⟨h0,k1,k2,λkt pt k2' pt2=>?_,h5,h6⟩;have bk:X.env.blockKind=.function:=by unfold Env.blockKind;rw[S.hs,h9];rfl
 have kx:X.env.kindOf x=some .local:=k1;have ky:X.env.kindOf y=some .local:=k2;unfold swappedStores;simp[bk,kx,ky,h3,h7,h8,Expr.pos];rw[if_neg (by
  intro z;rcases z with z | z
  . cases a <;> first | (cases h5;done) | (cases z;done)
  . cases b <;> first | (cases h6;done) | (cases z;done))]
 have hd:[x,y].eraseDups.length=2:=by have hb:(y==x)=false:=aOD.mpr λz=>h4 z.symm;simp[List.eraseDups_cons,hb]
 rw[if_pos hd]
section
variable {k:Nat}{W:WD}{m:MC}{C:Cw}{X:Cx}
structure SB(k:Nat)(W:WD)(m:MC)(C:Cw)(X:Cx):Prop extends SX k W m C X where
 nd:m.N.Nodup
 hp:PassesOwn (model X.prog X.w) X.A X.env X.xe
 ro:m.rz=true->qD (C.at X) X/\iI X/\XOk (HX1 X.prog X.w) (C.at X) X
end
theorem aKO{k:Nat}{W:WD}{m:MC}{C:Cw}{X:Cx}(S:SB k W m C X)(fz:Bool){i:Nat}{el it:E}{ts:List E}{aD:List Nat}{t:Tg}{n:Nat}{x:Str}{px cp sp:Pos}{elt:Expr}{gens:List Comprehension}{scope:Scope}(h1:m.N[i]? = some x)(h2:m.kind x=some .local)(h3:m.sc.kind=.function)(h4:px.line=cp.line)(h5:(scope.names.any λy=>y.1==x&&(y.2 == .local||y.2 == .cell))=false)(h:mC m elt scope (.comp el it ts aD t n) gens=true):PSv C X (.Assign [.Name x px] (.ListComp elt gens scope cp) sp) (λρ=>dX ρ i (if fz=true then a8 (evE W (.comp el it ts aD t n) ρ) else evE W (.comp el it ts aD t n) ρ)):=by
 have hk:X.env.scope.names.lookup x=some .local:=by rw[S.hs];exact h2
 conv at h=>lhs;whnf
 split at h
 . rename_i tg aI ifs;simp only[aQB,aQQ,aQ3] at h;obtain ⟨⟨⟨⟨⟨⟨hq,ho⟩,hn⟩,hl⟩,hs⟩,hg⟩,k1,k2,k3⟩:=h;unfold jT at ho;simp only[aQB,aQ3,aQS,aSL,aQ0,aQQ,aSM] at ho;obtain ⟨⟨⟨⟨⟨⟨⟨g1,g2⟩,g3⟩,g4⟩,g5⟩,g6⟩,g7⟩,g8⟩:=ho;have er:(relabel scope X.env).names=jB scope m.sc:=by rw[<- S.hs];rfl
   have bk:X.env.blockKind=.function:=by unfold Env.blockKind;rw[S.hs,h3];rfl
   have hsw:swapsWith (.ListComp elt [⟨tg,aI,ifs,0⟩] scope cp) (some (.Name x px)) sp.line X.env=pure true:=by
    have kx:X.env.kindOf x=some .local:=hk;unfold swapsWith;have k1:(ScopeKind.function==ScopeKind.function)=true:=by decide
    have k2:(some NameKind.local==some NameKind.local)=true:=by decide
    simp only[bk,kx,Expr.pos,h4,h5,k1,k2,aRG];rfl
   have := aGH fz (pos := cp) (pos' := px) (spos := sp) (i := i) (x := x) (tgN := eD 4 tg) (t := t) (S.cm hq) (sI it S.toSX k1) g1 g2 (fun y hy e => (g3 y hy).resolve_left fun z => z e) (fun y hy e => by
       have:=g4 y hy;show X.env.scope.names.lookup y.1=_\/X.env.scope.names.lookup y.1=_;rw[S.hs];rcases this with (z | z) | z
       . exact absurd e z
       . exact .inl z
       . exact .inr z) (by rw[S.hN];exact g5) g6 (λy hy=>by rw[er];exact g7 y hy) (λj hj=>hs j hj) (λcl A fp s3 H3=>sG (S.toSX.sub cl A fp s3 H3) g8 t hg)
       (λcl A fp s3 H3=>sF ts (S.toSX.sub cl A fp s3 H3) k3) (λcl A fp s3 H3=>sE el (S.toSX.sub cl A fp s3 H3) k2) (by rw[S.hN];exact S.nd) (by rw[S.hN];exact h1) hk hsw (nN hn)
   rw[hl] at this;exact this
 . cases h
theorem aKP{k:Nat}{W:WD}{m:MC}{C:Cw}{X:Cx}(S:SB k W m C X)(fz:Bool){i:Nat}{el it:E}{ts:List E}{aD:List Nat}{t:Tg}{n:Nat}{x:Str}{px cp sp:Pos}{elt:Expr}{gens:List Comprehension}{scope:Scope}(h1:m.N[i]? = some x)(h2:m.kind x=some .local)(h3:m.sc.kind=.function)(h4:px.line=cp.line)(h5:(scope.names.any λy=>y.1==x&&(y.2 == .local||y.2 == .cell))=false)(h:mC m elt scope (.compX el it ts aD t n) gens=true):PSv C X (.Assign [.Name x px] (.ListComp elt gens scope cp) sp) (λρ=>dX ρ i (if fz=true then a8 (evE W (.compX el it ts aD t n) ρ) else evE W (.compX el it ts aD t n) ρ)):=by
 have hk:X.env.scope.names.lookup x=some .local:=by rw[S.hs];exact h2
 conv at h=>lhs;whnf
 split at h
 . rename_i tg aI ifs;simp only[aQB,aQQ,aQ3] at h;obtain ⟨⟨⟨⟨⟨⟨⟨hq,hr⟩,ho⟩,hn⟩,hl⟩,hs⟩,hg⟩,k1,k2,k3⟩:=h;unfold jT at ho;simp only[aQB,aQ3,aQS,aSL,aQ0,aQQ,aSM] at ho;obtain ⟨⟨⟨⟨⟨⟨⟨g1,g2⟩,g3⟩,g4⟩,g5⟩,g6⟩,g7⟩,g8⟩:=ho;have er:(relabel scope X.env).names=jB scope m.sc:=by rw[<- S.hs];rfl
   have bk:X.env.blockKind=.function:=by unfold Env.blockKind;rw[S.hs,h3];rfl
   have hsw:swapsWith (.ListComp elt [⟨tg,aI,ifs,0⟩] scope cp) (some (.Name x px)) sp.line X.env=pure true:=by
    have kx:X.env.kindOf x=some .local:=hk;unfold swapsWith;have k1:(ScopeKind.function==ScopeKind.function)=true:=by decide
    have k2:(some NameKind.local==some NameKind.local)=true:=by decide
    simp only[bk,kx,Expr.pos,h4,h5,k1,k2,aRG];rfl
   have := aH6 fz (pos := cp) (pos' := px) (spos := sp) (i := i) (x := x) (tgN := eD 4 tg) (t := t) (S.cm hq) (sI it S.toSX k1) g1 g2 (fun y hy e => (g3 y hy).resolve_left fun z => z e) (fun y hy e => by
       have:=g4 y hy;show X.env.scope.names.lookup y.1=_\/X.env.scope.names.lookup y.1=_;rw[S.hs];rcases this with (z | z) | z
       . exact absurd e z
       . exact .inl z
       . exact .inr z) (by rw[S.hN];exact g5) g6 (λy hy=>by rw[er];exact g7 y hy) (λj hj=>hs j hj) (λcl A fp s3 H3=>sG (S.toSX.sub cl A fp s3 H3) g8 t hg)
       (λcl A fp s3 H3=>sF ts (S.toSX.sub cl A fp s3 H3) k3) (S.ro hr).2.1 (S.ro hr).2.2 (λσ cl A fp s3 H3 XE xo=>sE el (S.toSX.subX xo) k2) (by rw[S.hN];exact S.nd) (by rw[S.hN];exact h1) hk hsw (nN hn)
   rw[hl] at this;exact this
 . cases h
abbrev CkS(m:MC)(f:D3.S)(st:Stmt):Type:=Option (PLift (∀ {k:Nat} {W:WD} {C:Cw} {X:Cx},SB k W m C X->PSv C X st (evS W f)))
abbrev CkB(m:MC)(f:List D3.S)(sts:List Stmt):Type:=Option (PLift (∀ {k:Nat} {W:WD} {C:Cw} {X:Cx},SB k W m C X->PBv C X sts (evB W f)))
abbrev CkH(m:MC)(hs:List Hn)(es:List ExceptHandler):Type:=Option (PLift (∀ {k:Nat} {W:WD} {C:Cw} {X:Cx},SB k W m C X->f7 C X es (eS W hs)))
noncomputable def kH {m : MC} {c : Str} {i : Option Nat} {b : List D3.S} {r : List Hn} {x : Str} {np : Pos} {nm : Option Str} {s : Stmt} {su : List Stmt} {hp : Pos} {es : List ExceptHandler} (rb : CkB { m with calm := false, rz := false } b (s :: su)) (rr : CkH m r es) :
    CkH m (.mk c i b::r) (.ExceptHandler (some (.Name x np)) nm (s::su) hp::es) :=
 if h:(x==c&&m.gk x&&(match i,nm with | none,none=>true | some i,some n=>m.N[i]?==some n&&m.kind n==some .local | _,_=>false)&&rb.isSome&&rr.isSome)=true then some ⟨λ{k} {W} {C} {X} S=>by
  simp only[aQB,aQ0] at h;obtain ⟨⟨⟨⟨rfl,hg⟩,hi⟩,hb⟩,hr'⟩:=h;have hr:=got hr' S;simp only[eS,evH];obtain ⟨gl,hd⟩:=S.toSX.gk hg;have hb:=@got _ _ hb;have suite:∀ ex,PBv C.nox (mkX X ex) (s::su) (evB W b):=λex =>
   hb (C:=C.nox) (X:=mkX X ex) ⟨⟨S.hN,S.hs,λz=>(by cases z),λz=>(by cases z),S.un,λz=>(by cases z),S.xt,S.xi,S.xc,S.xn,S.con,S.no,S.mk0,S.mki,S.iso,S.fl,S.mt,S.fn,S.fnn⟩,S.nd,PassesOwn.never,λz=>by cases z⟩
  cases i with
  | none =>
   cases nm with
   | none=>exact .plain gl hd suite hr
   | some n=>cases hi
  | some i =>
   cases nm with
   | none=>cases hi
   | some n =>
    rw[aQB,aQ0,aQ0] at hi
    exact .named gl hd (by rw[S.hN];exact hi.1) (by rw[S.hs];exact hi.2) suite hr⟩ else none
noncomputable def aKQ {m : MC} {f} {e} {p1} : CkS m (.ret f) (.Return (some e) p1) := if h : (mE m f e) = true then some ⟨fun {k} {W} {C} {X} S => by
    exact aEW (sE f S.toSX h)⟩ else none
noncomputable def aKR {m : MC} {i} {x} {p1} {p2} : CkS m (.retV i) (.Return (some (.Name x p1)) p2) := if h : (m.N[i]? == some x && m.vis x) = true then some ⟨fun {k} {W} {C} {X} S => by
    simp only[aQB,aQ0] at h;obtain ⟨h1,h2,h3⟩:=S.toSX.vis h.2
    exact aEX i (iV (by rw[S.hN];exact h.1) h1 h2 h3)⟩ else none
noncomputable def aKS {m : MC} {i} {f} {x} {p1} {e} {p3} : CkS m (.set i f) (.Assign [.Name x p1] e p3) := if h : (m.loc i x && (jU e || m.kind x == some .cell) && mE m f e) = true then some ⟨fun {k} {W} {C} {X} S => by
    simp only[aQB] at h;obtain ⟨⟨h1,h2⟩,h3⟩:=h;obtain ⟨b,c,d⟩:=S.toSX.loc h1
    exact aEZ (by rw[S.hN];exact S.nd) b c (sE f S.toSX h3) (aKL S.hs h2) d⟩ else none
noncomputable def aKT {m : MC} {i} {f} {g} {x} {p1} {k} {p3} {e} {p5} : CkS m (.dput i f g) (.Assign [.Subscript (.Name x p1) k p3] e p5) := if h : (m.N[i]? == some x && m.vis x && jU e && mE m f k && mE m g e) = true then some ⟨fun {k} {W} {C} {X} S => by
    simp only[aQB,aQ0] at h;obtain ⟨⟨⟨⟨h1,h2⟩,h3⟩,h4⟩,h5⟩:=h;obtain ⟨v1,v2,v3⟩:=S.toSX.vis h2
    exact aIM i (aSN (aSO (by decide:1<=64) _) S.un) (iV (by rw[S.hN];exact h1) v1 v2 v3) (sE f S.toSX h4) (sE g S.toSX h5) (nO h3)⟩ else none
noncomputable def aKU {m : MC} {i} {fz} {f} {x} {px} {elt} {gens} {scope} {cp} {p6} : CkS m (.setC i fz f) (.Assign [.Name x px] (.ListComp elt gens scope cp) p6) := if h : (m.N[i]? == some x && m.kind x == some .local && m.sc.kind == .function && px.line == cp.line && !(scope.names.any fun y => y.1 == x && (y.2 == .local || y.2 == .cell)) && mC m elt scope f gens) = true then some ⟨fun {k} {W} {C} {X} S => by
    simp only[aQB,aQ0,aSP] at h;obtain ⟨⟨⟨⟨⟨h1,h2⟩,h3⟩,h4⟩,h5⟩,h7⟩:=h;cases f with
    | comp el it ts aD t n=>exact aKO S fz h1 h2 h3 h4 h5 h7
    | compX el it ts aD t n=>exact aKP S fz h1 h2 h3 h4 h5 h7
    | _=>cases h7⟩ else none
noncomputable def aKV {m : MC} {f} {a} {b} {c} {x} {y} {p3} (r1 : CkB m a x) (r2 : CkB m b y) : CkS m (.ite f a b) (.If c x y p3) := if h : (mT m f c && (r1.isSome && r2.isSome)) = true then some ⟨fun {k} {W} {C} {X} S => by
    simp only[aQB] at h;obtain ⟨h1,h2,h3⟩:=h;exact aEY (sT f S.toSX h1) (got h2 S) (got h3 S)⟩ else none
noncomputable def aKW {m : MC} {f} {t} {b} {tg} {e} {body} {p3} (r1 : CkB m b body) : CkS m (.for f t b) (.For tg e body [] p3) := if h : (m.calm && mG m t tg && eQ e && (mI m tg f e && r1.isSome)) = true then some ⟨fun {k} {W} {C} {X} S => by
    simp only[aQB] at h;obtain ⟨⟨⟨hq,h1⟩,h2⟩,h3,h4⟩:=h;exact aE6 S.hp (S.cm hq) (sI f S.toSX h3) (aGC (sG S.toSX S.nd t h1)) (got h4 S) (nN h2)⟩ else none
noncomputable def aKX {m : MC} {t} {f} {tg} {e} {p2} : CkS m (.asg t f) (.Assign [tg] e p2) := if h : (mG m t tg && gT tg && jU e && v7 e && mE m f e) = true then some ⟨fun {k} {W} {C} {X} S => by
    simp only[aQB] at h;obtain ⟨⟨⟨⟨h1,h2⟩,h3⟩,h4⟩,h5⟩:=h;exact aGD (sE f S.toSX h5) (sG S.toSX S.nd t h1) (nO h3) (aKM h4) h2⟩ else none
noncomputable def aKY {m : MC} {n} {f} {b} {c} {body} {p2} (r1 : CkB m b body) : CkS m (.whl n f b) (.While c body [] p2) := if h : (mT m f c && r1.isSome) = true then some ⟨fun {k} {W} {C} {X} S => by
    simp only[aQB] at h;have:evS W (.whl n f b)=dC (evE W f) (evB W b) n:=by funext ρ;rfl
    rw[this];exact aGE n S.hp (sT f S.toSX h.1) (got h.2 S)⟩ else none
noncomputable def aKZ {m : MC} {i} {j} {a} {b} {x} {px} {y} {py} {p4} {p5} {u} {v} {p8} {p9} {p10} : CkS m (.par i j a b) (.Assign [.Tuple [.Name x px, .Name y py] p4 p5] (.Tuple [u, v] p8 p9) p10) := if h : (m.N[i]? == some x && m.N[j]? == some y && decide (i ≠ j) && qK m x y px py u v && (mE m a u && mE m b v)) = true then some ⟨fun {k} {W} {C} {X} S => by
    simp only[aQB,aQ0,aQQ] at h;obtain ⟨⟨⟨⟨h1,h2⟩,h3⟩,h4⟩,h5,h6⟩:=h;obtain ⟨hq,k1,k2,hw,s1,s2⟩:=aKN S.toSX h4
    exact aGF (S.cm hq) (by rw[S.hN];exact S.nd) (by rw[S.hN];exact h1) (by rw[S.hN];exact h2) h3 k1 k2 (kS (sE a S.toSX h5) (kS (sE b S.toSX h6) mW (bO s2)) (bO s1)) (hw _ _ _ _)⟩ else none
noncomputable def aK0 {m : MC} {f} {e} {p1} : CkS m (.expr f) (.Expr e p1) := if h : (jU e && mE m f e) = true then some ⟨fun {k} {W} {C} {X} S => by
    simp only[aQB] at h;exact aEV (sE f S.toSX h.2) (nO h.1)⟩ else none
noncomputable def kS_rz {m : MC} {c} {es} {f} {p1} {x} {xs} {p4} {p5} : CkS m (.rz c es) (.Raise (some (.Call (.Name f p1) (x :: xs) [] p4)) none p5) := if h : (m.calm && m.rz && f == c && m.gk f && m.g.xcs.contains f && mEs m es (x :: xs)) = true then some ⟨fun {k} {W} {C} {X} S => by
    simp only[aQB,aQ0,aSM] at h;obtain ⟨⟨⟨⟨⟨hq,hr⟩,rfl⟩,h1⟩,h2⟩,h3⟩:=h;obtain ⟨gl,hd⟩:=S.toSX.gk h1;obtain ⟨Cc,hm,Z⟩:=S.xc _ h2;exact aHE hm Z (S.rm hq).hd (S.ro hr).1 gl (sEs es S.toSX h3) hd (aKK h3)⟩ else none
noncomputable def aK1 {m : MC} {i} {f} {x} {p1} {a} {ap} {e} {cp} {p6} : CkS m (.app i f) (.Expr (.Call (.Attribute (.Name x p1) a ap) [e] [] cp) p6) := if h : (m.N[i]? == some x && m.vis x && a == "append" && ap.endLine == cp.line && bJ e && mE m f e) = true then some ⟨fun {k} {W} {C} {X} S => by
    simp only[aQB,aQ0] at h;obtain ⟨⟨⟨⟨⟨h1,h2⟩,rfl⟩,h3⟩,h4⟩,h5⟩:=h;obtain ⟨v1,v2,v3⟩:=S.toSX.vis h2
    exact aHS i (iV (by rw[S.hN];exact h1) v1 v2 v3) (sE f S.toSX h5) h4 h3⟩ else none
noncomputable def aK2 {m : MC} {i} {g} {f} {x} {p1} {a} {ap} {ke} {e} {cp} {p6} : CkS m (.ins i g f) (.Expr (.Call (.Attribute (.Name x p1) a ap) [ke, e] [] cp) p6) := if h : (m.N[i]? == some x && m.vis x && a == "insert" && ap.endLine == cp.line && bJ ke && bJ e && mE m g ke && mE m f e) = true then some ⟨fun {k} {W} {C} {X} S => by
    simp only[aQB,aQ0] at h;obtain ⟨⟨⟨⟨⟨⟨⟨h1,h2⟩,rfl⟩,h3⟩,h4⟩,h5⟩,h6⟩,h7⟩:=h;obtain ⟨v1,v2,v3⟩:=S.toSX.vis h2
    exact aIH i (iV (by rw[S.hN];exact h1) v1 v2 v3) (sE g S.toSX h6) (sE f S.toSX h7) h4 h5 h3⟩ else none
noncomputable def kS_tr {m : MC} {b} {hs} {body} {h0} {hr0} {pos} (r1 : CkB { m with rz := false } b body) (r2 : CkH m hs (h0 :: hr0)) : CkS m (.tr b hs) (.Try body (h0 :: hr0) [] [] pos) := if h : (m.calm && m.rz && r1.isSome && r2.isSome) = true then some ⟨fun {k} {W} {C} {X} S => by
    simp only[aQB] at h;obtain ⟨⟨⟨hq,hr⟩,h1⟩,h2⟩:=h;have hN:X.N.Nodup:=by rw[S.hN];exact S.nd
    have FX:=(S.ro hr).2.1;have hk:=got h2 S;refine aHM FX S.xt hN hk λo aA D=>?_;have hb:=@got _ _ h1;refine hb (C:=qF C X W.xf (eS W hs) D) (X:=jK X aA D (h0::hr0)) ⟨⟨S.hN,S.hs,S.cm,S.rm,S.un,λ_=>?_,S.xt,S.xi,S.xc,S.xn,S.con,S.no,S.mk0,S.mki,S.iso,S.fl,S.mt,S.fn,S.fnn⟩,S.nd,PassesOwn.looking,λz=>by cases z⟩
    exact aHL FX o S.xt hN hk⟩ else none
theorem aK3{k:Nat}{W:WD}{m:MC}{C:Cw}{X:Cx}(S:SB k W m C X):PBv C X [] (evB W []):=by
 have:evB W []=λρ=>.nx ρ:=by funext ρ;simp only[evB]
 rw[this];exact aES
noncomputable def aK4 {m : MC} {i fs sts} (r : CkB m fs sts) : CkB m (.frzV i :: fs) sts := if h : r.isSome = true then some ⟨fun {k} {W} {C} {X} S => by
    have:evB W (.frzV i::fs)=λρ=>(lC ρ i).thn (evB W fs):=by funext ρ;rfl
    rw[this];exact aIR (got h S)⟩ else none
noncomputable def aK5 {m : MC} {f fs st sts} (r : CkS m f st) (r2 : CkB m fs sts) : CkB m (f :: fs) (st :: sts) := if h : (r.isSome && r2.isSome) = true then some ⟨fun {k} {W} {C} {X} S => by
    rw[aQB] at h;have:evB W (f::fs)=λρ=>(evS W f ρ).thn (evB W fs):=by funext ρ;simp only[evB]
    rw[this];exact aEU (got h.1 S) (got h.2 S)⟩ else none
set_option maxHeartbeats 4000000 in
mutual
noncomputable def ckS:(m:MC)->(f:D3.S)->(st:Stmt)->CkS m f st
 | _,.frzV _,_=>none
 | m,.ret f,st=>match st with | .Return (some e) p1=>aKQ | _=>none
 | m,.retV i,st=>match st with | .Return (some (.Name x p1)) p2=>aKR | _=>none
 | m,.set i f,st=>match st with | .Assign [.Name x p1] e p3=>aKS | _=>none
 | m,.dput i f g,st=>match st with | .Assign [.Subscript (.Name x p1) k p3] e p5=>aKT | _=>none
 | m,.setC i fz f,st=>match st with | .Assign [.Name x px] (.ListComp elt gens scope cp) p6=>aKU | _=>none
 | m,.ite f a b,st=>match st with | .If c x y p3=>aKV (ckB m a x) (ckB m b y) | _=>none
 | m,.for f t b,st=>match st with | .For tg e body [] p3=>aKW (ckB m b body) | _=>none
 | m,.asg t f,st=>match st with | .Assign [tg] e p2=>aKX | _=>none
 | m,.whl n f b,st=>match st with | .While c body [] p2=>aKY (ckB m b body) | _=>none
 | m,.par i j a b,st=>match st with | .Assign [.Tuple [.Name x px,.Name y py] p4 p5] (.Tuple [u,v] p8 p9) p10=>aKZ | _=>none
 | m,.expr f,st=>match st with | .Expr e p1=>aK0 | _=>none
 | m,.rz c es,st=>match st with | .Raise (some (.Call (.Name f p1) (x::xs) [] p4)) none p5=>kS_rz | _=>none
 | m,.ins i g f,st=>match st with | .Expr (.Call (.Attribute (.Name x p1) a ap) [ke,e] [] cp) p6=>aK2 | _=>none
 | m,.app i f,st=>match st with | .Expr (.Call (.Attribute (.Name x p1) a ap) [e] [] cp) p6=>aK1 | _=>none
 | m,.tr b hs,st=>match st with | .Try body (h0::hr0) [] [] pos=>kS_tr (ckB { m with rz:=false } b body) (ckHs m hs (h0::hr0)) | _=>none
noncomputable def ckHs:(m:MC)->(hs:List Hn)->(es:List ExceptHandler)->CkH m hs es
 | m,[],es=>match es with | []=>some ⟨λ{k} {W} {C} {X} _=>by simp only[eS];exact .nil⟩ | _=>none
 | m,.mk c i b::r,es=>match es with | .ExceptHandler (some (.Name x np)) nm (s::su) hp::es=>kH (ckB { m with calm:=false,rz:=false } b (s::su)) (ckHs m r es) | _=>none
noncomputable def ckB:(m:MC)->(f:List D3.S)->(sts:List Stmt)->CkB m f sts
 | m,[],sts=>match sts with | []=>some ⟨λS=>aK3 S⟩ | _=>none
 | m,.frzV i::fs,sts=>aK4 (ckB m fs sts)
 | m,f::fs,sts=>match sts with | st::sts=>aK5 (ckS m f st) (ckB m fs sts) | _=>none
end
noncomputable def mB(m:MC)(f:List D3.S)(sts:List Stmt):Bool:=(ckB m f sts).isSome
theorem sB{k:Nat}{W:WD}{m:MC}{C:Cw}{X:Cx}(S:SB k W m C X)(f:List D3.S){sts:List Stmt}(h:mB m f sts=true):PBv C X sts (evB W f):=got h S
abbrev IB:=Unit
structure FD where
 ps:List Str
 N:List Str
 b:List D3.S
structure ID where
 c:Str
 ps:List Str
 N:List Str
 ib:IB
structure TB where
 T:List (Str×FD)
 I:List (Str×ID)
 cl:List CI
 xt:List ((Str×Str)×Bool)
 xi:List ((Str×Str)×Bool)
noncomputable def qL(W:WD)(i:ID):List D->Res:=λ_=>.stuck
noncomputable def lE(t:TB)(W:WD)(f:Str):List D->Res:=match t.T.lookup f with
 | some d=>phi d.ps.length d.N.length (evB W d.b)
 | none=>λ_=>.stuck
noncomputable def WT(t:TB):Nat->WD
 | 0=>⟨λ_ _=>.stuck,λ_=>none,t.cl,t.xt,t.xi⟩
 | 1=>⟨λf=>lE t ⟨λ_ _=>.stuck,λ_=>none,t.cl,t.xt,t.xi⟩ f,λ_=>none,t.cl,t.xt,t.xi⟩
 | k+2=>⟨λf=>lE t (WT t (k+1)) f,λkey=>match t.I.lookup key with | some i=>some (qL (WT t k) i) | none=>none,t.cl,t.xt,t.xi⟩
theorem nP(t:TB):∀ k,(WT t k).cl=t.cl
 | 0=>rfl
 | 1=>rfl
 | k+2=>rfl
theorem v8(t:TB):∀ k,(WT t k).xt=t.xt
 | 0=>rfl
 | 1=>rfl
 | k+2=>rfl
theorem v9(t:TB):∀ k,(WT t k).xi=t.xi
 | 0=>rfl
 | 1=>rfl
 | k+2=>rfl
theorem WT_Φ(t:TB):∀ k f,(WT t (k+1)).Φ f=lE t (WT t k) f
 | 0,f=>rfl
 | k+1,f=>rfl
noncomputable def qM(N ps:List Str)(sc:Scope):Bool:=sc.kind == .function&&!sc.isCoroutine&&!sc.isGenerator&&decide N.Nodup&&(N.take ps.length==ps)&&ps.all (λx=>sc.names.lookup x==some .local||sc.names.lookup x==some .cell)&&sc.names.all (λy=>y.2 != .free)
theorem aK6{N ps:List Str}{sc:Scope}(h:qM N ps sc=true):mL N ps sc:=by unfold qM at h;simp only[aQB,aQ3,aQS,aSL,aQ0,aQQ,aSP] at h;obtain ⟨⟨⟨⟨⟨⟨h1,h2⟩,h3⟩,h4⟩,h5⟩,h6⟩,h7⟩:=h;exact ⟨h1,h2,h3,h4,h5,h6,h7⟩
noncomputable def iL(g:MG)(st:Stmt)(d:FD):Bool:=qM d.N d.ps (e6 st)&&mB ⟨d.N,e6 st,g,true,true,true⟩ d.b (iZ st)
noncomputable def idOk(g:MG)(st:Stmt)(d:ID):Bool:=false
noncomputable def wA(K:Fg)(g:MG)(fa:Str->Addr)(key:Str)(d:FD):Prop :=
 ∃ name st fd,Fun K name key st (fa key) fd/\fH K fd d.ps []/\iL g st d=true
noncomputable def lF(K:Fg)(g:MG)(fa:Str->Addr):List (Str×FD)->Prop
 | []=>True
 | (x,d)::r=>wA K g fa x d/\lF K g fa r
theorem lF.at{K:Fg}{g:MG}{fa:Str->Addr}:∀ {T:List (Str×FD)} {x:Str} {d:FD},lF K g fa T->T.lookup x=some d->wA K g fa x d
 | [],_,_,_,e=>by cases e
 | (y,d')::r,x,d,h,e=>by
  rw[aRF] at e;split at e
  . rename_i hb;cases e;rw[aQ0] at hb;subst hb;exact h.1
  . exact h.2.at e
noncomputable def wB(K:Fg)(mg:SOV)(g:MG)(key:Str)(d:ID):Prop :=
 ∃ name st C f fd,PySem.W.nsIn K mainGlobals d.c=some (some (.ref C))/\mg d.c=some (.ref C)/\Mk K C f/\Fun K name key st f fd/\fH K fd d.ps []/\idOk g st d=true
noncomputable def lG(K:Fg)(mg:SOV)(g:MG):List (Str×ID)->Prop
 | []=>True
 | (x,d)::r=>wB K mg g x d/\lG K mg g r
theorem lG.at{K:Fg}{mg:SOV}{g:MG}:∀ {T:List (Str×ID)} {x:Str} {d:ID},lG K mg g T->T.lookup x=some d->wB K mg g x d
 | [],_,_,_,e=>by cases e
 | (y,d')::r,x,d,h,e=>by
  rw[aRF] at e;split at e
  . rename_i hb;cases e;rw[aQ0] at hb;subst hb;exact h.1
  . exact h.2.at e
noncomputable def GVOk(w:World)(K:Fg)(mg:SOV)(fa:Str->Addr)(x:Str):GV->Prop
 | .con (.s y)=>∃ t,mg x=some (.str y t)
 | .con (.i n)=>∃ t,mg x=some (.int n t)
 | .con (.t tb)=>gX w K mg x tb
 | .no=>mg x=none
 | .fn _=>mg x=some (.ref (fa x))
 | .cls=>True
noncomputable def lH(w:World)(K:Fg)(mg:SOV)(fa:Str->Addr):List (Str×GV)->Prop
 | []=>True
 | (x,v)::r=>GVOk w K mg fa x v/\lH w K mg fa r
theorem lH.at{w:World}{K:Fg}{mg:SOV}{fa:Str->Addr}:∀ {G:List (Str×GV)} {x:Str} {v:GV},lH w K mg fa G->G.lookup x=some v->GVOk w K mg fa x v
 | [],_,_,_,e=>by cases e
 | (y,v')::r,x,v,h,e=>by
  rw[aRF] at e;split at e
  . rename_i hb;cases e;rw[aQ0] at hb;subst hb;exact h.1
  . exact h.2.at e
noncomputable def gOk(G:List (Str×GV))(T:List (Str×FD)):Bool:=G.all λ(x,v)=>match v with | .fn n=>(match T.lookup x with | some d=>d.ps.length==n | none=>false) | _=>true
theorem wC{T:List (Str×FD)}:∀ {G:List (Str×GV)} {x:Str} {n:Nat},gOk G T=true->G.lookup x=some (.fn n)->∃ d,T.lookup x=some d/\d.ps.length=n
 | [],_,_,_,e=>by cases e
 | (y,v')::r,x,n,h,e=>by
  unfold gOk at h;rw[aQD,aQB] at h;rw[aRF] at e;split at e
  . rename_i hb;cases e;rw[aQ0] at hb;subst hb;have h1:=h.1;dsimp only at h1;cases q:T.lookup x with
    | none=>rw[q] at h1;cases h1
    | some d=>rw[q] at h1;exact ⟨d,rfl,by simpa using h1⟩
  . exact wC (G:=r) h.2 e
noncomputable def mtOk(cl:List CI)(T:List (Str×FD)):Bool:=cl.all λi=>i.meths.all λ(_,key,n)=>match T.lookup key with | some d=>d.ps.length==n | none=>false
noncomputable def wD(mki:List (Str×Str×Nat))(I:List (Str×ID)):Bool:=mki.all λ(c,key,n)=>match I.lookup key with | some d=>d.c==c&&d.ps.length==n+1 | none=>false
noncomputable def jV(K:Fg)(fa:Str->Addr)(C:Addr):List (Str×Str×Nat)->Prop
 | []=>True
 | (m,key,_)::r=>pD K C m (fa key)/\jV K fa C r
noncomputable def jW(K:Fg)(C:Addr):List Str->Prop
 | []=>True
 | f::r=>pC K C f/\jW K C r
noncomputable def lI(K:Fg)(fa:Str->Addr):List CI->Prop
 | []=>True
 | i::r=>(∃ C,PySem.W.nsIn K mainGlobals i.name=some (some (.ref C))/\Cls K C/\jV K fa C i.meths/\jW K C i.flds)/\lI K fa r
theorem lI.at{K:Fg}{fa:Str->Addr}:∀ {cl:List CI} {i:CI},lI K fa cl->i∈cl->∃ C,PySem.W.nsIn K mainGlobals i.name=some (some (.ref C))/\Cls K C/\jV K fa C i.meths/\jW K C i.flds
 | [],_,_,h=>by cases h
 | j::r,i,h,hi=>by
  rcases aOR.mp hi with rfl | hi
  . exact h.1
  . exact h.2.at hi
theorem jW.at{K:Fg}{C:Addr}:∀ {l:List Str} {f:Str},jW K C l->f∈l->pC K C f
 | [],_,_,h=>by cases h
 | j::r,i,h,hi=>by
  rcases aOR.mp hi with rfl | hi
  . exact h.1
  . exact h.2.at hi
theorem jV.at{K:Fg}{fa:Str->Addr}{C:Addr}:∀ {l:List (Str×Str×Nat)} {m key:Str} {n:Nat},jV K fa C l->l.lookup m=some (key,n)->pD K C m (fa key)
 | [],_,_,_,_,e=>by cases e
 | (m',key',n')::r,m,key,n,h,e=>by
  rw[aRF] at e;split at e
  . rename_i hb;cases e;rw[aQ0] at hb;subst hb;exact h.1
  . exact h.2.at e
structure GF(w:World)(K:Fg)(mg:SOV)(g:MG)(t:TB)(fa:Str->Addr):Prop where
 con:lH w K mg fa g.G
 gok:gOk g.G t.T=true
 all:lF K g fa t.T
 alli:lG K mg g t.I
 mk0:∀ c,c∈g.mk0->MkV0 K mg c
 mkok:wD g.mki t.I=true
 iso:∀ c,c∈g.iso->IsV K mg t.cl c
 cls:lI K fa t.cl
 mtok:mtOk t.cl t.T=true
 xtok:jJ K mg (λc x=>t.xt.lookup (c,x))
 xiok:iJ K mg (λc x=>t.xi.lookup (c,x))
 xcok:∀ c,c∈g.xcs->∃ Cc,mg c=some (.ref Cc)/\k6 K Cc
 xnok:∀ n,n∈g.xns->∃ cv,fC mg n cv
theorem wE{K:Fg}{mg:SOV}{n:Nat}{Φ:List D->Res}{vs:List V}{H:Hp}{Q:VK}{E:XK}(hz:∀ ds,Φ ds=.stuck)(h:spV K mg n Φ vs H Q E):False:=by obtain ⟨_,F,ds,_,_,h⟩:=h;rw[hz] at h;exact h
section
variable {P:Program}{w:World}{K:Fg}{mg:SOV}{base:Heap}{g:MG}{t:TB}{fa:Str->Addr}
structure jX(P:Program)(w:World)(K:Fg)(mg:SOV)(base:Heap)(t:TB)(fa:Str->Addr)(k:Nat):Prop where
 fn:∀ key d,t.T.lookup key=some d->∃ fd,c8 P w K mg base (CX1 P w) k (fa key) fd d.ps (spV K mg d.ps.length ((WT t k).Φ key))/\fH K fd d.ps []/\PySem.W.keepIn K (.ref (fa key))=true
 ini:∀ key d Φ,t.I.lookup key=some d->(WT t k).I key=some Φ->∃ j,j+1<=k/\InV P w K mg base (CX1 P w) j d.c (d.ps.length-1) Φ
theorem sx_of(f:GF w K mg g t fa){k:Nat}(A:jX P w K mg base t fa k){N:List Str}{sc:Scope}{C:Cw}{X:Cx}(hP:X.prog=P)(hw:X.w=w)(hK:X.K=K)(hmg:X.mg=mg)(hb:X.base=base)(hN:X.N=N)(hs:X.env.scope=sc)(cm:X.calm=true)(rm:cK k X.A)(hfn:∀ x,X.fn x=true)(xo:XOk (CX1 X.prog X.w) (C.at X) X):SX k (WT t k) ⟨N,sc,g,true,true,true⟩ C X:=by
 subst hP hw hK hmg hb;refine ⟨hN,hs,λ_=>cm,λ_=>rm,rm.units,λ_=>xo,?_,?_,f.xcok,f.xnok,λy c l=>?_,λy l=>f.con.at l,λc hc=>f.mk0 c hc,λc key n hm Φ e=>?_,λc hc=>by rw[nP];exact f.iso c hc,λi f' hi hf=>?_,λc m key n e=>?_,λy n l=>?_,λ_=>hfn⟩
 . unfold WD.xf;rw[v8];exact f.xtok
 . unfold WD.xg;rw[v9];exact f.xiok
 . have:=f.con.at l;cases c <;> exact this
 . have h1:=aQ3.mp f.mkok (c,key,n) hm;dsimp only at h1;cases q:t.I.lookup key with
   | none=>rw[q] at h1;cases h1
   | some d=>rw[q] at h1;simp only[aQB,aQ0] at h1;obtain ⟨j,hj,M⟩:=A.ini key d Φ q e;rw[h1.1,h1.2] at M;exact ⟨j,hj,M⟩
 . rw[nP] at hi;obtain ⟨C',h1,h2,_,h4⟩:=f.cls.at hi;exact ⟨C',h1,h2,h4.at hf⟩
 . rw[nP] at e;unfold CI.meth at e;split at e
   . rename_i i ei;have hi:=List.mem_of_find?_eq_some ei;have hn:i.name=c:=by simpa using List.find?_some ei
     obtain ⟨C',h1,h2,h3,_⟩:=f.cls.at hi;have hmo:=aQ3.mp (aQ3.mp f.mtok i hi) (m,key,n) (aPN e);dsimp only at hmo;cases q:t.T.lookup key with
     | none=>rw[q] at hmo;cases hmo
     | some d=>rw[q] at hmo;rw[aQ0] at hmo;obtain ⟨fd,FO,hb,_⟩:=A.fn key d q;rw[hmo] at FO;exact ⟨C',fa key,fd,d.ps,by rw[<- hn];exact h1,h2,h3.at e,FO,hb⟩
   . cases e
 . obtain ⟨d,e,rfl⟩:=wC f.gok l;obtain ⟨fd,FO,hb,hk⟩:=A.fn y d e;exact ⟨fa y,fd,d.ps,FO,f.con.at l,hk,hb⟩
theorem qN(f:GF w K mg g t fa){k:Nat}(A:jX P w K mg base t fa k){key:Str}{d:FD}{name:Str}{st:Stmt}{fd:FuncData}{a:Addr}(F:Fun K name key st a fd)(e:t.T.lookup key=some d)(ok:iL g st d=true):c8 P w K mg base (CX1 P w) (k+1) a fd d.ps (spV K mg d.ps.length ((WT t (k+1)).Φ key)):=by
 unfold iL at ok;rw[aQB] at ok;have sc:=aK6 ok.1;have:(WT t (k+1)).Φ key=phi d.ps.length d.N.length (evB (WT t k) d.b):=by rw[WT_Φ];unfold lE;rw[e]
 rw[this];exact aHR (k:=k) F sc λC cdv A' outer s H En hE hr=>sB (m:=⟨d.N,e6 st,g,true,true,true⟩) (X:=dH (CX1 P w) P w K mg base d.N key (e6 st) a cdv A' outer s H En) ⟨sx_of f A rfl rfl rfl rfl rfl rfl rfl rfl hr (λ_=>rfl) (aHF (K:=K) (H:=H) (outer:=outer) hE),sc.nd,PassesOwn.leaving,λ_=>⟨aHG (K:=K) (H:=H) (outer:=outer) hE,fnCx,aHW (K:=K) (H:=H) (outer:=outer) hE⟩⟩ d.b ok.2
theorem aK7(f:GF w K mg g t fa){k:Nat}(A:jX P w K mg base t fa k){key:Str}{d:ID}(e:t.I.lookup key=some d):InV P w K mg base (CX1 P w) (k+1) d.c (d.ps.length-1) (qL (WT t k) d):=by obtain ⟨name,st,C2,a,fd,ns,hm,M,F,hb,ok⟩:=f.alli.at e;cases ok
theorem wF(f:GF w K mg g t fa):∀ k,jX P w K mg base t fa k/\jX P w K mg base t fa (k+1)
 | 0=>by
  have A0:jX P w K mg base t fa 0:=⟨λkey d e=>by
   obtain ⟨name,st,fd,F,hb,_⟩:=f.all.at e;exact ⟨fd,⟨λvs H Q En h=>(wE (λ_=>rfl) h).elim,λA outer s H args us vs Q En _ _ _ _ h=>(wE (λ_=>rfl) h).elim⟩,hb,F.kp⟩,λkey d Φ _ e=>by cases e⟩
  refine ⟨A0,λkey d e=>?_,λkey d Φ _ e=>by cases e⟩
  obtain ⟨name,st,fd,F,hb,ok⟩:=f.all.at e;exact ⟨fd,qN f A0 F e ok,hb,F.kp⟩
 | k+1=>by
  obtain ⟨A0,A1⟩:=wF f k;refine ⟨A1,λkey d e=>?_,λkey d Φ e ei=>?_⟩
  . obtain ⟨name,st,fd,F,hb,ok⟩:=f.all.at e;exact ⟨fd,qN f A1 F e ok,hb,F.kp⟩
  . have ei:(match t.I.lookup key with | some i=>some (qL (WT t k) i) | none=>none)=some Φ:=ei
    rw[e] at ei;cases ei;exact ⟨k+1,aPC _,aK7 f A0 e⟩
end
noncomputable def qO(K:Fg)(Φ:List D->Res):Sp:=λvs H Q E=>∃ a ns,vs=[.ref a]/\SqL K H a (ns.map V.int)/\Φ (m6 ns)=.ok .fz (.bl true)/\∀ H',Q (.bl true) H'
theorem aK8{P:Program}{w:World}{K:Fg}{mg:SOV}{base:Heap}{CX:CXT}{k:Nat}{f:Addr}{fd:FuncData}{ps:List Str}{Φ:List D->Res}(h:c8 P w K mg base CX k f fd ps (spV K mg 1 Φ)):c8 P w K mg base CX k f fd ps (qO K Φ) :=
 h.imp λvs H Q E ⟨a,ns,e,hq,hp,q⟩=>by
  subst e;refine ⟨rfl,H,m6 ns,aH.refl _,aB.cons ?_ aB.nil,?_⟩
  . simp only[aF];exact ⟨a,_,rfl,hq,uH ns⟩
  . rw[hp];exact ⟨by decide,λv F' H' s rp _=>by rw[rp.bl];exact q H'⟩
theorem aK9{P:Program}{w:World}{K:Fg}{mg:SOV}{base:Heap}{g:MG}{t:TB}{fa:Str->Addr}(f:GF w K mg g t fa)(k:Nat){a:Addr}{fd:FuncData}{d:FD}{st:Stmt}(F:Fun K "law" "law" st a fd)(e:t.T.lookup ("law" : Str)=some d)(ok:iL g st d=true)(hl:d.ps.length=1):c8 P w K mg base (CX1 P w) (k+1) a fd d.ps (qO K ((WT t (k+1)).Φ ("law" : Str))):=by have:=qN (P:=P) (w:=w) (base:=base) f (wF f k).1 F e ok;rw[hl] at this;exact aK8 this
end D3
namespace D3
open PySem L2
section
variable {W:WD}{ρ:Rho}{a b c:E}{es:List E}
@[simp] theorem jY{i}:evE W (.var i) ρ=dU ρ i:=Eq.trans rfl rfl
@[simp] theorem e_non:evE W .non ρ=.ok .fz .non:=Eq.trans rfl rfl
@[simp] theorem e_bl{b}:evE W (.bl b) ρ=.ok .fz (.bl b):=Eq.trans rfl rfl
@[simp] theorem qP{i}:evE W (.int i) ρ=.ok .fz (.int i):=Eq.trans rfl rfl
@[simp] theorem e_str{x}:evE W (.str x) ρ=.ok .fz (.str x):=Eq.trans rfl rfl
@[simp] theorem e_globS{x y}:evE W (.glob x (.s y)) ρ=.ok .fz (.str y):=Eq.trans rfl rfl
@[simp] theorem e_globI{x y}:evE W (.glob x (.i y)) ρ=.ok .fz (.int y):=Eq.trans rfl rfl
@[simp] theorem e_ty{t:Ty}:evE W (.ty t) ρ=.ok .fz (.ty t.id):=Eq.trans rfl rfl
@[simp] theorem gY{op}:evE W (.bin op a b) ρ=op2 (bQ op) (evE W a ρ) (evE W b ρ):=Eq.trans rfl rfl
@[simp] theorem iM{op}:evE W (.cmp op a b) ρ=op2 (bF op) (evE W a ρ) (evE W b ρ):=Eq.trans rfl rfl
@[simp] theorem wG:evE W (.andL es) ρ=evA W es ρ:=Eq.trans rfl rfl
@[simp] theorem wH:evE W (.orL es) ρ=dD W es ρ:=Eq.trans rfl rfl
@[simp] theorem e_not:evE W (.not a) ρ=kQ (evE W a ρ):=Eq.trans rfl rfl
@[simp] theorem qQ:evE W (.tru a) ρ=gP (evE W a ρ):=Eq.trans rfl rfl
@[simp] theorem lJ:evE W (.frz a) ρ=a8 (evE W a ρ):=Eq.trans rfl rfl
@[simp] theorem gZ:evE W (.ix a b) ρ=op2 ixD (evE W a ρ) (evE W b ρ):=Eq.trans rfl rfl
@[simp] theorem qR{l h}:evE W (.slice a l h) ρ=slP (evE W a ρ) (evO W l) (evO W h) ρ:=Eq.trans rfl rfl
@[simp] theorem e_tup:evE W (.tup es) ρ=eK (aZ W es ρ):=Eq.trans rfl rfl
@[simp] theorem e_lst:evE W (.lst es) ρ=iF (aZ W es ρ):=Eq.trans rfl rfl
@[simp] theorem e_call{f n}:evE W (.call f n es) ρ=aU n (W.Φ f) (aZ W es ρ):=Eq.trans rfl rfl
@[simp] theorem e_bcall{f:Bn}:evE W (.bcall f es) ρ=fW f.f (aZ W es ρ):=Eq.trans rfl rfl
@[simp] theorem qS:evE W (.items a) ρ=gR (a8 (evE W a ρ)):=Eq.trans rfl rfl
@[simp] theorem qT:evE W (.rng1 a) ρ=jA (eB (evE W a ρ) (.ok [])):=Eq.trans rfl rfl
@[simp] theorem e_enum1:evE W (.enum1 a) ρ=nI (eB (a8 (evE W a ρ)) (.ok [])):=Eq.trans rfl rfl
@[simp] theorem aLA:evE W .dnew ρ=.ok .fr (.dct []):=Eq.trans rfl rfl
@[simp] theorem wI:evE W (.mulT a b) ρ=op2 mulT (evE W a ρ) (evE W b ρ):=Eq.trans rfl rfl
@[simp] theorem e_deed{x tb}:evE W (.deed x tb a) ρ=jN tb (evE W a ρ):=Eq.trans rfl rfl
@[simp] theorem e_dzip:evE W (.dzip a b) ρ=jS (evE W a ρ) (evE W b ρ):=Eq.trans rfl rfl
@[simp] theorem e_callv{i fs n}:evE W (.callv i fs n es) ρ=lB W.Φ fs n (dU ρ i) (aZ W es ρ):=Eq.trans rfl rfl
@[simp] theorem e_dix:evE W (.dix a b) ρ=op2 ixK (evE W a ρ) (evE W b ρ):=Eq.trans rfl rfl
@[simp] theorem e_deq{neg}:evE W (.deq neg a b) ρ=op2 (eqN neg) (evE W a ρ) (evE W b ρ):=Eq.trans rfl rfl
@[simp] theorem e_din{neg}:evE W (.din neg a b) ρ=op2 (inK neg) (evE W a ρ) (evE W b ρ):=Eq.trans rfl rfl
@[simp] theorem wJ{n}:evE W (.isx1 a n) ρ=nL W.xg n (evE W a ρ):=Eq.trans rfl rfl
@[simp] theorem e_isxT{ns}:evE W (.isxT a ns) ρ=k9 W.xg ns (evE W a ρ):=Eq.trans rfl rfl
@[simp] theorem lK{ts:List E}{aD t n}:evE W (.comp a b ts aD t n) ρ=dY (evE W b ρ) ρ aD n (aJ t) (λρ=>evF W ts ρ) (λρ=>evE W a ρ):=Eq.trans rfl rfl
@[simp] theorem aLB{ts:List E}{aD t n}:evE W (.compX a b ts aD t n) ρ=jM (evE W b ρ) ρ aD n (aJ t) (λρ=>evF W ts ρ) (λρ=>evE W a ρ):=Eq.trans rfl rfl
@[simp] theorem wK:evE W (.fmt a) ρ=nF (evE W a ρ):=Eq.trans rfl rfl
@[simp] theorem wL:evE W (.fstr es) ρ=d5 Str.empty (evL W es) ρ:=Eq.trans rfl rfl
@[simp] theorem el_nil:evL W []=[]:=by simp only[evL]
@[simp] theorem el_cons:evL W (a::es)=evE W a::evL W es:=by simp only[evL]
@[simp] theorem sg_nm{i:Nat}{d:D}:aJ (.nm i) d ρ=some (ρ.set i (some (false,d))):=by simp only[aJ]
@[simp] theorem sg_tp{ts:List Tg}{ds:List D}:aJ (.tp ts) (.tup ds) ρ=dB ts ds ρ:=by simp only[aJ]
@[simp] theorem sg_tpl{ts:List Tg}{ds:List D}:aJ (.tp ts) (.lst ds) ρ=dB ts ds ρ:=by simp only[aJ]
@[simp] theorem sgs_nil:dB [] [] ρ=some ρ:=by simp[dB]
@[simp] theorem sgs_cons{t:Tg}{ts:List Tg}{d:D}{ds:List D}:dB (t::ts) (d::ds) ρ=(aJ t d ρ).bind (dB ts ds):=by simp only[dB];cases aJ t d ρ <;> rfl
@[simp] theorem fmt_s{m:Md}{z:Str}:nF (.ok m (.str z))=.ok .fz (.str z):=rfl
@[simp] theorem qU{t:Ty}:evE W (.tcall t es) ρ=fW t.f (aZ W es ρ):=Eq.trans rfl rfl
@[simp] theorem cS:aZ W [] ρ=.ok []:=by simp only[aZ]
@[simp] theorem aX:aZ W (a::es) ρ=eB (evE W a ρ) (aZ W es ρ):=by simp only[aZ]
@[simp] theorem ea_one:evA W [a] ρ=evE W a ρ:=by simp only[evA]
@[simp] theorem ea_cons:evA W (a::b::es) ρ=dJ (evE W a ρ) (evA W (b::es) ρ):=by simp only[evA]
@[simp] theorem eo_one:dD W [a] ρ=evE W a ρ:=by simp only[dD]
@[simp] theorem eo_cons:dD W (a::b::es) ρ=orR (evE W a ρ) (dD W (b::es) ρ):=by simp only[dD]
@[simp] theorem wM:evF W [] ρ=.ok .fz (.bl true):=by simp only[evF]
@[simp] theorem ef_cons:evF W (a::es) ρ=dJ (evE W a ρ) (evF W es ρ):=by simp only[evF]
@[simp] theorem eo_none:evO W none=none:=by simp only[evO]
@[simp] theorem eo_some:evO W (some a)=some (evE W a):=by simp only[evO]
@[simp] theorem iN:evS W (.ret a) ρ=fL (evE W a ρ) ρ:=Eq.trans rfl rfl
@[simp] theorem aLC{i}:evS W (.retV i) ρ=fM ρ i:=Eq.trans rfl rfl
@[simp] theorem nQ{i}:evS W (.set i a) ρ=dX ρ i (evE W a ρ):=Eq.trans rfl rfl
@[simp] theorem iO{x y:List S}:evS W (.ite a x y) ρ=ifS (evE W a ρ) ρ (evB W x ρ) (evB W y ρ):=Eq.trans rfl rfl
@[simp] theorem lL{t:Tg}{y:List S}:evS W (.for a t y) ρ=pN (evE W a ρ) ρ (aJ t) (evB W y):=Eq.trans rfl rfl
@[simp] theorem s_asg{t:Tg}:evS W (.asg t a) ρ=gU t ρ (evE W a ρ):=Eq.trans rfl rfl
@[simp] theorem s_whl{n}{y:List S}:evS W (.whl n a y) ρ=dC (evE W a) (evB W y) n ρ:=Eq.trans rfl rfl
@[simp] theorem s_par{i j}:evS W (.par i j a b) ρ=nE i j ρ (eB (evE W a ρ) (eB (evE W b ρ) (.ok []))):=Eq.trans rfl rfl
@[simp] theorem iP:evS W (.expr a) ρ=(evE W a ρ).thS ρ λ_ _=>.nx ρ:=Eq.trans rfl rfl
@[simp] theorem s_rz{c}:evS W (.rz c es) ρ=rzR c ρ (aZ W es ρ):=Eq.trans rfl rfl
@[simp] theorem s_tr{x:List S}{hs:List Hn}:evS W (.tr x hs) ρ=jI W.xf (eS W hs) (evB W x ρ):=Eq.trans rfl rfl
@[simp] theorem aLD:eS W []=[]:=by simp only[eS]
@[simp] theorem aLE{c:Str}{i:Option Nat}{x:List S}{hs:List Hn}:eS W (.mk c i x::hs)=⟨c,i,evB W x⟩::eS W hs:=by simp only[eS,evH]
@[simp] theorem s_ins{i k}:evS W (.ins i k a) ρ=gB ρ i (evE W k ρ) (evE W a ρ):=Eq.trans rfl rfl
@[simp] theorem s_app{i}:evS W (.app i a) ρ=f8 ρ i (evE W a ρ):=Eq.trans rfl rfl
@[simp] theorem s_frzV{i}:evS W (.frzV i) ρ=lC ρ i:=Eq.trans rfl rfl
@[simp] theorem aLF{i}:evS W (.dput i a b) ρ=gC ρ i (evE W a ρ) (evE W b ρ):=Eq.trans rfl rfl
@[simp] theorem s_setC{i}:evS W (.setC i false a) ρ=dX ρ i (evE W a ρ):=Eq.trans rfl rfl
@[simp] theorem qV{i}:evS W (.setC i true a) ρ=dX ρ i (a8 (evE W a ρ)):=Eq.trans rfl rfl
@[simp] theorem eF:evB W [] ρ=.nx ρ:=by simp only[evB]
@[simp] theorem aT{s:S}{r:List S}:evB W (s::r) ρ=(evS W s ρ).thn (evB W r):=by simp only[evB]
end
section
variable {m n:Md}{i j:Int}{ρ:Rho}{d:D}
@[simp] theorem x_add:op2 (bQ .Add) (.ok m (.int i)) (.ok n (.int j))=.ok .fz (.int (i+j)):=rfl
@[simp] theorem x_band:op2 (bQ .BitAnd) (.ok m (.int i)) (.ok n (.int j))=.ok .fz (.int (Builtin.bitAnd i j)):=rfl
@[simp] theorem x_bor:op2 (bQ .BitOr) (.ok m (.int i)) (.ok n (.int j))=.ok .fz (.int (Builtin.bitOr i j)):=rfl
@[simp] theorem x_shl(h:0<=j)(h1:j<=1000000)(h2:i.natAbs<2 ^ 64):op2 (bQ .LShift) (.ok m (.int i)) (.ok n (.int j))=.ok .fz (.int (i * 2 ^ j.toNat)):=by
 show (match (if (decide (0<=j)&&decide (j<=1000000)&&decide (i.natAbs<2 ^ 64))=true then some (Md.fz,D.int (i * 2 ^ j.toNat)) else none) with | some (m,d)=>Res.ok m d | none=>.stuck)=_
 rw[aQI h,aQI h1,aQI h2];rfl
@[simp] theorem x_shr(h:0<=j):op2 (bQ .RShift) (.ok m (.int i)) (.ok n (.int j))=.ok .fz (.int (i / 2 ^ j.toNat)):=by
 show (match (if decide (0<=j)=true then some (Md.fz,D.int (i / 2 ^ j.toNat)) else none) with | some (m,d)=>Res.ok m d | none=>.stuck)=_
 rw[aQI h];rfl
@[simp] theorem x_sub:op2 (bQ .Sub) (.ok m (.int i)) (.ok n (.int j))=.ok .fz (.int (i-j)):=rfl
@[simp] theorem x_lt:op2 (bF .Lt) (.ok m (.int i)) (.ok n (.int j))=.ok .fz (.bl (decide (i<j))):=rfl
@[simp] theorem x_le:op2 (bF .LtE) (.ok m (.int i)) (.ok n (.int j))=.ok .fz (.bl (decide (i<=j))):=rfl
@[simp] theorem x_gt:op2 (bF .Gt) (.ok m (.int i)) (.ok n (.int j))=.ok .fz (.bl (decide (j<i))):=rfl
@[simp] theorem x_ge:op2 (bF .GtE) (.ok m (.int i)) (.ok n (.int j))=.ok .fz (.bl (decide (j<=i))):=rfl
@[simp] theorem wN(h:0<j):op2 (bQ .Mod) (.ok m (.int i)) (.ok n (.int j))=.ok .fz (.int (i % j)):=by show Res.of (if decide (0<j)=true then _ else _)=_;rw[if_pos (aQI h)];rfl
theorem x_div(h:0<j)(hb:cE j=true):op2 (bQ .FloorDiv) (.ok m (.int i)) (.ok n (.int j))=.ok .fz (.int (i / j)):=by show Res.of (if (decide (0<j)&&cE j)=true then _ else _)=_;rw[if_pos (by rw[hb,aQI h];rfl)];rfl
theorem aLG(h:i.natAbs<10 ^ 2000):cE i=true:=by
 unfold cE;refine aQI ?_;by_cases h0:i.natAbs=0
 . rw[h0];decide
 . refine (Nat.log2_lt h0).mpr (Nat.lt_trans h ?_);decide +kernel
theorem aLH{N:Nat}(h:i.natAbs<=N)(hN:N<10 ^ 2000:=by decide +kernel):cE i=true:=aLG (aSN h hN)
@[simp] theorem aLI(h:0<j)(hb:j.natAbs<=1000000000):op2 (bQ .FloorDiv) (.ok m (.int i)) (.ok n (.int j))=.ok .fz (.int (i / j)):=x_div h (aLH hb)
theorem wO(h:((cE i&&cE j)||(w64 i||w64 j))=true):op2 (bQ .Mult) (.ok m (.int i)) (.ok n (.int j))=.ok .fz (.int (i * j)):=by show Res.of (((if ((cE i&&cE j)||(w64 i||w64 j))=true then _ else _:Option (Md×D)).orElse _).orElse _)=_;rw[if_pos h];rfl
theorem aLJ(h:j.natAbs<9000000000000000000):op2 (bQ .Mult) (.ok m (.int i)) (.ok n (.int j))=.ok .fz (.int (i * j)):=wO (by
 have:w64 j=true:=aQI (by omega)
 rw[this];simp)
theorem aLK(h:i.natAbs<9000000000000000000):op2 (bQ .Mult) (.ok m (.int i)) (.ok n (.int j))=.ok .fz (.int (i * j)):=wO (by
 have:w64 i=true:=aQI (by omega)
 rw[this];simp)
theorem bP{φ:Md->D->Md->D->Option (Md×D)}{x y d:D}{k:Md}(h:φ m x n y=some (k,d)):op2 φ (.ok m x) (.ok n y)=.ok k d:=by show Res.of (φ m x n y)=_;rw[h];rfl
@[simp] theorem x_eqI:op2 (bF .Eq) (.ok m (.int i)) (.ok n (.int j))=.ok .fz (.bl (i==j)):=bP rfl
@[simp] theorem x_neI:op2 (bF .NotEq) (.ok m (.int i)) (.ok n (.int j))=.ok .fz (.bl (i != j)):=bP rfl
@[simp] theorem x_eqB{a b:Bool}:op2 (bF .Eq) (.ok m (.bl a)) (.ok n (.bl b))=.ok .fz (.bl (a==b)):=bP rfl
@[simp] theorem x_neB{a b:Bool}:op2 (bF .NotEq) (.ok m (.bl a)) (.ok n (.bl b))=.ok .fz (.bl (a != b)):=bP rfl
@[simp] theorem x_eqS{a b:Str}:op2 (bF .Eq) (.ok m (.str a)) (.ok n (.str b))=.ok .fz (.bl (a==b)):=bP (by rfl)
@[simp] theorem x_neS{a b:Str}:op2 (bF .NotEq) (.ok m (.str a)) (.ok n (.str b))=.ok .fz (.bl (a != b)):=bP (by rfl)
@[simp] theorem x_inS{a b:Str}:op2 (bF .In) (.ok m (.str a)) (.ok n (.str b))=.ok .fz (.bl (i4 a b)):=bP rfl
@[simp] theorem x_notinS{a b:Str}:op2 (bF .NotIn) (.ok m (.str a)) (.ok n (.str b))=.ok .fz (.bl (!i4 a b)):=bP rfl
@[simp] theorem aLL{a b:Str}(h:a.length+b.length<=sizeLine):op2 (bQ .Add) (.ok m (.str a)) (.ok n (.str b))=.ok .fz (.str (a++b)) :=
 bP (by
  have:fS (λi j=>decide (i.length+j.length<=sizeLine)) (λi j=>D.str (i++j)) m (.str a) n (.str b)=some (Md.fz,D.str (a++b)):=by show (if decide (a.length+b.length<=sizeLine)=true then some (Md.fz,D.str (a++b)) else none)=_;rw[if_pos (aQI h)]
  show orO (orO (fI (λ_ _=>true) λi j=>.int (i+j)) (fS (λi j=>decide (i.length+j.length<=sizeLine)) λi j=>.str (i++j))) m8 m (.str a) n (.str b)=_;simp only[orO,this];rfl)
@[simp] theorem x_isN{d:D}:op2 (bF .Is) (.ok m d) (.ok n .non)=.ok .fz (.bl (eM d)):=bP rfl
@[simp] theorem aLM{d:D}:op2 (bF .IsNot) (.ok m d) (.ok n .non)=.ok .fz (.bl (!eM d)):=bP rfl
@[simp] theorem wP{x y:List D}(h:x.length+y.length<=sizeLine):op2 (bQ .Add) (.ok m (.lst x)) (.ok n (.lst y))=.ok .fr (.lst (x++y)):=bP (by
 show (if x.length+y.length<=sizeLine then some (Md.fr,D.lst (x++y)) else none)=_;rw[if_pos h])
@[simp] theorem aLN{x y:List D}(h:x.length+y.length<=sizeLine):op2 (bQ .Add) (.ok m (.tup x)) (.ok n (.tup y))=.ok .fz (.tup (x++y)):=bP (by
 show (if x.length+y.length<=sizeLine then some (Md.fz,D.tup (x++y)) else none)=_;rw[if_pos h])
@[simp] theorem isn_n:eM .non=true:=rfl
@[simp] theorem isn_i{i:Int}:eM (.int i)=false:=rfl
@[simp] theorem isn_b{i:Bool}:eM (.bl i)=false:=rfl
@[simp] theorem isn_s{i:Str}:eM (.str i)=false:=rfl
@[simp] theorem isn_t{i:List D}:eM (.tup i)=false:=rfl
@[simp] theorem isn_l{i:List D}:eM (.lst i)=false:=rfl
@[simp] theorem x_andT{y:Res}:dJ (.ok m (.bl true)) y=y:=rfl
@[simp] theorem x_andF{y:Res}:dJ (.ok m (.bl false)) y=.ok .fz (.bl false):=rfl
@[simp] theorem x_orT{y:Res}:orR (.ok m (.bl true)) y=.ok .fz (.bl true):=rfl
@[simp] theorem x_orF{y:Res}:orR (.ok m (.bl false)) y=y:=rfl
@[simp] theorem x_and{a b:Bool}:dJ (.ok m (.bl a)) (.ok .fz (.bl b))=.ok .fz (.bl (a&&b)):=by cases a <;> rfl
@[simp] theorem x_or{a b:Bool}:orR (.ok m (.bl a)) (.ok .fz (.bl b))=.ok .fz (.bl (a||b)):=by cases a <;> rfl
@[simp] theorem x_not{a:Bool}:kQ (.ok m (.bl a))=.ok .fz (.bl (!a)):=rfl
@[simp] theorem x_tru{a:Bool}:gP (.ok m (.bl a))=.ok .fz (.bl a):=rfl
@[simp] theorem x_truI:gP (.ok m (.int i))=.ok .fz (.bl (i != 0)):=rfl
@[simp] theorem nR{x y:aG}:ifS (.ok m (.bl true)) ρ x y=x:=rfl
@[simp] theorem qW{x y:aG}:ifS (.ok m (.bl false)) ρ x y=y:=rfl
@[simp] theorem x_frz:a8 (.ok .fz d)=.ok .fz d:=rfl
@[simp] theorem x_frr:a8 (.ok .fr d)=.ok .fz d:=rfl
@[simp] theorem wQ{k:Nat}:dX ρ k (.ok .fz d)=.nx (ρ.set k (some (false,d))):=rfl
@[simp] theorem aLO{k:Nat}:dX ρ k (.ok .fr d)=.nx (ρ.set k (some (true,d))):=rfl
@[simp] theorem x_ret:fL (.ok .fz d) ρ=.rt .fz d:=rfl
@[simp] theorem x_retr:fL (.ok .fr d) ρ=.rt .fr d:=rfl
@[simp] theorem g_0{r:Rho}:dU (some (false,d)::r) 0=.ok .fz d:=rfl
@[simp] theorem g_0b{r:Rho}:dU (some (true,d)::r) 0=.ok .bo d:=rfl
@[simp] theorem g_s{x:Option (Bool×D)}{r:Rho}{i:Nat}:dU (x::r) (i+1)=dU r i:=rfl
@[simp] theorem g_1{x:Option (Bool×D)}{r:Rho}:dU (x::r) 1=dU r 0:=rfl
@[simp] theorem rs_0{r:Rho}:fM (some (false,d)::r) 0=.rt .fz d:=rfl
@[simp] theorem rs_0b{r:Rho}:fM (some (true,d)::r) 0=.rt .fr d:=rfl
@[simp] theorem rs_1{x:Option (Bool×D)}{r:Rho}:fM (x::r) 1=fM r 0:=rfl
@[simp] theorem rs_s{x:Option (Bool×D)}{r:Rho}{i:Nat}:fM (x::r) (i+1)=fM r i:=rfl
@[simp] theorem r_set0{x y:Option (Bool×D)}{r:Rho}:(x::r).set 0 y=y::r:=rfl
@[simp] theorem x_callR{f:List (Md×D)->Option (Md×D)}{xs:List (Md×D)}:fW f (.ok xs)=Res.of (f xs):=rfl
@[simp] theorem bn_len:Bn.f .len=gQ:=rfl
@[simp] theorem bn_isi:Bn.f .isinstance=mX:=rfl
@[simp] theorem ty_int:Ty.f .int=jG:=rfl
@[simp] theorem ty_str:Ty.f .str=kY:=rfl
@[simp] theorem ty_tuple:Ty.f .tuple=jD:=rfl
@[simp] theorem ty_dict:Ty.f .dict=nM:=rfl
@[simp] theorem ty_list:Ty.f .list=jE:=rfl
@[simp] theorem tci_i{i:Int}:jG [(m,.int i)]=some (.fz,.int i):=rfl
@[simp] theorem tci_b{i:Bool}:jG [(m,.bl i)]=some (.fz,.int (if i then 1 else 0)):=rfl
@[simp] theorem tct_l{i:List D}:jD [(m,.lst i)]=some (.fz,.tup i):=rfl
@[simp] theorem tct_t{i:List D}:jD [(.fz,.tup i)]=some (.fz,.tup i):=rfl
@[simp] theorem tcl_l{i:List D}:jE [(m,.lst i)]=some (.fr,.lst i):=rfl
@[simp] theorem tcl_t{i:List D}:jE [(m,.tup i)]=some (.fr,.lst i):=rfl
@[simp] theorem tcs_i{i:Int}(h:m9 i=true):kY [(m,.int i)]=some (.fz,.str (jF i)):=by show (if m9 i=true then _ else _)=_;rw[if_pos h]
@[simp] theorem bn_all:Bn.f .all=mY:=rfl
@[simp] theorem len_s{z:Str}:gQ [(m,.str z)]=some (.fz,.int z.length):=rfl
@[simp] theorem len_l{z:List D}:gQ [(m,.lst z)]=some (.fz,.int z.length):=rfl
@[simp] theorem len_t{z:List D}:gQ [(m,.tup z)]=some (.fz,.int z.length):=rfl
@[simp] theorem itm_l{z:List D}:gR (.ok m (.lst z))=.ok .fz (.lst z):=rfl
@[simp] theorem itm_t{z:List D}:gR (.ok m (.tup z))=.ok .fz (.lst z):=rfl
@[simp] theorem itm_s{z:Str}:gR (.ok m (.str z))=.ok .fz (.lst (i9 z)):=rfl
end
theorem dR{n N:Nat}{g:Rho->aG}{ds:List D}{c:Str}{ρ:Rho}(hl:ds.length=n)(h:g (fB N ds)=.exc c ρ):phi n N g ds=.exc c:=by unfold phi;rw[if_pos hl,h];rfl
theorem g9{n:Nat}{Φ:List D->Res}{xs:List (Md×D)}{ds:List D}{c:Str}(hl:ds.length=n)(ha:bZ xs=some ds)(h:Φ ds=.exc c):aU n Φ (.ok xs)=.exc c:=by
 show (match bZ xs with | some ds=>if ds.length=n then (match Φ ds with | .ok .bo _=>Res.stuck | r=>r) else .stuck | none=>.stuck)=_
 rw[ha];show (if ds.length=n then _ else _)=_;rw[if_pos hl,h]
@[simp] theorem WT_xf{t:TB}{k:Nat}:(WT t k).xf=λc x=>t.xt.lookup (c,x):=by unfold WD.xf;rw[v8]
@[simp] theorem WT_xg{t:TB}{k:Nat}:(WT t k).xg=λc x=>t.xi.lookup (c,x):=by unfold WD.xg;rw[v9]
@[simp] theorem x_rz{c:Str}{ρ:Rho}{xs:List (Md×D)}(h:xs.length<=sizeLine):rzR c ρ (.ok xs)=.exc c ρ:=by show (if xs.length<=sizeLine then _ else _)=_;rw[if_pos h]
section
variable {c x:Str}{ρ ρ':Rho}{m:Md}{d:D}{xt:Str->Str->Option Bool}{hs:List HX}{g:Rho->aG}
@[simp] theorem x_frx:a8 (.exc c)=.exc c:=rfl
@[simp] theorem x_setx{k:Nat}:dX ρ k (.exc c)=.exc c ρ:=rfl
@[simp] theorem x_retx:fL (.exc c) ρ=.exc c ρ:=rfl
@[simp] theorem tr_nx:jI xt hs (.nx ρ)=.nx ρ:=rfl
@[simp] theorem tr_rt:jI xt hs (.rt m d)=.rt m d:=rfl
@[simp] theorem aLP:jI xt hs (.exc c ρ)=fZ xt c ρ hs:=rfl
theorem hn_t{i:Option Nat}(h:xt c x=some true):fZ xt c ρ (⟨x,i,g⟩::hs)=unR i (g (inR i c ρ)):=by
 show (match xt c x with | some true=>unR i (g (inR i c ρ)) | some false=>fZ xt c ρ hs | none=>.stuck)=_
 rw[h]
end
theorem bL{n N:Nat}{g:Rho->aG}{ds:List D}{m:Md}{d:D}(hl:ds.length=n)(h:g (fB N ds)=.rt m d):phi n N g ds=.ok m d:=by unfold phi;rw[if_pos hl,h];rfl
theorem hC{n:Nat}{Φ:List D->Res}{xs:List (Md×D)}{ds:List D}{d:D}(hl:ds.length=n)(ha:bZ xs=some ds)(h:Φ ds=.ok .fz d):aU n Φ (.ok xs)=.ok .fz d:=by
 show (match bZ xs with | some ds=>if ds.length=n then (match Φ ds with | .ok .bo _=>Res.stuck | r=>r) else .stuck | none=>.stuck)=_
 rw[ha];show (if ds.length=n then _ else _)=_;rw[if_pos hl,h]
@[simp] theorem wR{Φ:List D->Res}{a d:D}(h:Φ [a]=.ok .fz d):aU 1 Φ (.ok [(.fz,a)])=.ok .fz d:=hC (ds:=[a]) rfl rfl h
@[simp] theorem qX{Φ:List D->Res}{a b d:D}(h:Φ [a,b]=.ok .fz d):aU 2 Φ (.ok [(.fz,a),(.fz,b)])=.ok .fz d:=hC (ds:=[a,b]) rfl rfl h
@[simp] theorem call3{Φ:List D->Res}{a b c d:D}(h:Φ [a,b,c]=.ok .fz d):aU 3 Φ (.ok [(.fz,a),(.fz,b),(.fz,c)])=.ok .fz d:=hC (ds:=[a,b,c]) rfl rfl h
@[simp] theorem wt_cl{t:TB}{k:Nat}:(WT t k).cl=t.cl:=nP t k
theorem bM{t:TB}{k:Nat}{f:Str}{d:FD}(h:t.T.lookup f=some d):(WT t (k+1)).Φ f=phi d.ps.length d.N.length (evB (WT t k) d.b):=by rw[WT_Φ];unfold lE;rw[h]
@[simp] theorem call4{Φ:List D->Res}{a b c e d:D}(h:Φ [a,b,c,e]=.ok .fz d):aU 4 Φ (.ok [(.fz,a),(.fz,b),(.fz,c),(.fz,e)])=.ok .fz d:=hC (ds:=[a,b,c,e]) rfl rfl h
theorem fE{W:WD}:∀ {x y:List D3.S} {ρ:Rho},evB W (x++y) ρ=(evB W x ρ).thn (evB W y)
 | [],y,ρ=>by simp
 | s::x,y,ρ=>by
  show evB W (s::(x++y)) ρ=_;rw[aT,aT];cases evS W s ρ with
  | nx ρ'=>exact fE
  | _=>rfl
theorem wS{k:D->Rho->Option Rho}{t e:Rho->Res}{ρ0:Rho}{f:D->D}:∀ {ds:List D},(∀ d∈ds,∃ ρ1 m,k d ρ0=some ρ1/\t ρ1=.ok m (.bl true)/\∃ m',a8 (e ρ1)=.ok m' (f d))->cP k t e ρ0 ds=some (ds.map f)
 | [],_=>rfl
 | d::ds,h=>by obtain ⟨ρ1,m,e1,e2,m',e3⟩:=h d mcs;unfold cP;rw[e1];dsimp only;rw[e2];dsimp only;rw[e3];dsimp only;rw[wS λd hd=>h d (mcm hd)];rfl
theorem qY{ρ:Rho}{aD:List Nat}{n:Nat}{k:D->Rho->Option Rho}{t e:Rho->Res}{m:Md}{ds:List D}(f:D->D)(hl:ds.length<sizeLine)(h:∀ d∈ds,∃ ρ1 m,k d (cH aD ρ++List.replicate n none)=some ρ1/\t ρ1=.ok m (.bl true)/\∃ m',a8 (e ρ1)=.ok m' (f d)):dY (.ok m (.lst ds)) ρ aD n k t e=.ok .fr (.lst (ds.map f)):=by unfold dY;rw[Res.thn_ok];dsimp only;rw[if_pos hl,wS h]
end D3
namespace Tp
open PySem PySem.W PySem.Calls
structure S where
 t:BT
 n:Nat
 k:Nat
 nm:Value
 g:List DictEntry
 tb:List Value
def tupO(vs:List Value):Obj:=⟨.type "tuple", none,.seq vs.toArray 0,#[]⟩
def fldO(c:Value)(vs:List Value):Obj:=⟨c,none,.fields vs.toArray,#[]⟩
def dicO(es:List DictEntry)(e:Nat):Obj:=⟨.type "dict", none,.dict es.toArray e,#[]⟩
def en(P:Params)(x:Str)(k:Nat)(v:Value):DictEntry:=⟨PyData.keyHash P x,.str x k,v⟩
def texts:List Str->Nat->List Value
 | [],_=>[]
 | x::xs,k=>.str x k::texts xs (k+1)
def fileS:Str := "/claim/cut.py"
def codeO(name aP:Str)(k line argc fl:Nat)(isF:Bool)(a:Nat)(ls cs tm:Value)(j:Nat):Obj :=
 fldO (.type "code") [.str name k,.str aP (k+1),.str fileS (k+2),.int line 0,.int argc 0,.int 0 0,.int 0 0,.int fl 0,.ref a,.bool isF,.int 181 0,.ref (a+1),.none,ls,cs,tm,.int j 0,.int line 0,.str fileS (j+1)]
def frmO(code ns:Nat)(nm:Value):Obj:=⟨.type "frame", none,.plain,#[some (.ref code),some (.ref 3),some (.ref ns),none,some nm,none,some (.ref 0)]⟩
def fnD(name aP:Str)(args:Arguments)(body:List Stmt)(sc:Scope)(gl:Nat)(nm cd:Value):FuncData:=⟨name,aP,args,.stmts body,sc,gl,[],.none,.none,.none,nm,none,cd,.none,0⟩
def insL:List Obj->BT->Nat->BT
 | [],t,_=>t
 | o::os,t,n=>insL os (t.ins n o) (n+1)
def layF(name aP:Str)(args:Arguments)(body:List Stmt)(sc:Scope)(line n k:Nat)(nm:Value):List Obj×Nat×Nat :=
 match localNames args sc (.stmts body) with
 | some (ls,cs) =>
  let a:=ls.length
  let b:=cs.length
  ([tupO [],fldO .none [],tupO (texts ls (k+3)),tupO (texts cs (k+3+a)),⟨.none,none,.func (fnD name aP args body sc 0 .none .none),#[]⟩,
   codeO name aP k line args.args.length 3 true n (.ref (n+2)) (.ref (n+3)) (.ref (n+4)) (k+3+a+b),⟨.type "function", none,.func (fnD name aP args body sc 3 nm (.ref (n+5))),#[]⟩],n+5,k+5+a+b)
 | none =>
  ([tupO [],fldO .none [],⟨.none,none,.func (fnD name aP args body sc 0 .none .none),#[]⟩,
   codeO name aP k line args.args.length 3 true n .none .none (.ref (n+2)) (k+3),⟨.type "function", none,.func (fnD name aP args body sc 3 nm (.ref (n+3))),#[]⟩],n+3,k+5)
def look(x:Str):List DictEntry->Option Value
 | []=>none
 | ⟨_,.str y _,v⟩::es=>match decide (x=y) with | true=>some v | false=>look x es
 | _::es=>look x es
structure B where
 t:BT
 n:Nat
 k:Nat
 es:List DictEntry
 tb:List Value
def layB(P:Params)(cn:Str)(nm:Value):List Stmt->B->B
 | .FunctionDef name args body _ _ _ sc _ _ pos::r,⟨t,n,k,es,tb⟩ =>
  match layF name (cn ++ "." ++ name) args body sc pos.line n k nm with
  | (os,c,j)=>layB P cn nm r ⟨insL os t n,n+os.length,j+1,en P name j (.ref (c+1))::es,.ref c :: .int pos.col 0 :: .int pos.line 0::tb⟩
 | _::r,b=>layB P cn nm r b
 | [],b=>b
def mroOf(t:BT)(a:Nat):List Value×Value:=match t.get a with
 | some ⟨_,_,.cls c,sl⟩=>(c.mro,(sl.getD 4 none).getD .none)
 | _=>([],.none)
def subTo(a:Nat):Obj->Obj
 | ⟨c,d,.cls k,sl⟩=>⟨c,d,.cls { k with subclasses:=k.subclasses++[.ref a] },sl⟩
 | o=>o
def layC(P:Params)(name:Str)(bases:List PySem.Expr)(body:List Stmt)(st:List Str)(line:Nat):S->S
 | ⟨t,n,k,nm,g,tb⟩ =>
  let bs:List Value:=match bases with
   | .Name b _::_=>(match look b g with | some v=>[v] | none=>[.type "ValueError"])
   | _=>[]
  let n2:=n+2
  let t1:=insL [tupO bs,fldO (.type "builtin_function_or_method") [.builtin "type.__prepare__", .type "type"],dicO [] 0,tupO [],fldO .none [],codeO name name (k+2) line 0 0 false (n+3) .none .none .none (k+5),frmO (n+5) n2 nm] t n
  match layB P name nm body ⟨t1,n+7,k+12,[en P "__firstlineno__" (k+11) (.int line (k+10)),en P "__qualname__" (k+9) (.str name (k+8)),en P "__module__" (k+7) nm],[]⟩ with
  | ⟨t2,m,j,es,ct⟩ =>
   let es1:=en P "__static_attributes__" (j+st.length) (.ref m)::es
   let j1:=j+st.length+1
   let t3:=(t2.set n2 λ_=>dicO es1.reverse es1.length).set (n+4) λ_=>fldO .none ct.reverse
   let cl:=m+2
   let cp:=(es1.reverse.take 1)++(es1.reverse.drop 2)
   let fin (mro:List Value) (nw:Value) (bv:List Value) (sl0:Option Value) (xs:List DictEntry) (gs:List Obj) (t:BT) (j:Nat):S :=
    let os:=[tupO (texts st (m-m+(j1-1-st.length))),dicO (cp++xs++[en P "__doc__" j .none]) (2+xs.length),⟨.type "type", none,.cls ⟨name,bv,.ref cl::mro,m+1,name,true,[],[],false,none,false⟩,#[sl0,none,some (.str name k),some (.str name (k+8)),some nw,some (.bool true)]⟩]
     ++ gs++[fldO (.type "super") [.ref cl,.ref cl,.ref cl],fldO (.type "builtin_function_or_method") [.builtin "object.__init_subclass__", .ref cl]]
    ⟨insL os t m,m+os.length,j+3,nm,en P name (j+2) (.ref cl)::g,.ref (n+5) :: .int 0 0 :: .int line 0::tb⟩
   let gw (j a:Nat):=fldO (.type "getset_descriptor") [.str "__weakref__" j,.ref cl,.builtin "ExceptionGroup.__weakref__", .none]
   match bs with
   | [] => fin [.type "object"] (.builtin "object.__new__") [.type "object"] none [en P "__dict__" (j1 + 1) (.ref (m + 3)), en P "__weakref__" (j1 + 3) (.ref (m + 4))]
       [fldO (.type "getset_descriptor") [.str "__dict__" j1,.ref cl,.builtin "function.__dict__", .builtin "function.__dict__#set"],gw (j1+2) 0] t3 (j1+4)
   | .ref a::_=>match mroOf t3 a with
    | (mro,nw)=>fin mro nw bs (some (.ref n)) [] [] (t3.set a (subTo cl)) j1
   | _=>fin [.type "ValueError", .type "Exception", .type "BaseException", .type "object"] (.builtin "ValueError.__new__") bs (some (.ref n)) [en P "__weakref__" (j1+1) (.ref (m+3))] [gw j1 0] t3 (j1+2)
def keysD(P:Params)(g:List DictEntry):List (Option PySem.Expr)->List PySem.Expr->Nat->List DictEntry
 | some (.Constant (.str x) _ _)::ks,.Name y _::vs,k=>en P x k ((look y g).getD .none)::keysD P g ks vs (k+1)
 | _,_,_=>[]
def put(P:Params)(x:Str)(v:Value)(t:BT)(n k:Nat)(nm:Value)(g:List DictEntry)(tb:List Value):S:=match decide (x = "__name__") with
 | true=>⟨t,n,k+1,v,g,tb⟩
 | false=>⟨t,n,k+1,nm,en P x k v::g,tb⟩
def lay1(P:Params):Stmt->S->S
 | .FunctionDef name args body _ _ _ sc _ _ pos,⟨t,n,k,nm,g,tb⟩=>match layF name name args body sc pos.line n k nm with
  | (os,c,j)=>⟨insL os t n,n+os.length,j+1,nm,en P name j (.ref (c+1))::g,.ref c :: .int pos.col 0 :: .int pos.line 0::tb⟩
 | .ClassDef name bases _ body _ _ _ _ _ st pos,s=>layC P name bases body st pos.line s
 | .Assign [.Name x _] (.Constant (.str v) _ _) _,⟨t,n,k,nm,g,tb⟩=>put P x (.str v k) t n (k+1) nm g tb
 | .Assign [.Name x _] (.Constant (.int v) _ _) _,⟨t,n,k,nm,g,tb⟩=>put P x (.int v k) t n (k+1) nm g tb
 | .Assign [.Name x _] (.Dict ks vs _) _,⟨t,n,k,nm,g,tb⟩=>put P x (.ref n) (t.ins n (dicO (keysD P g ks vs k) vs.length)) (n+1) (k+2 * vs.length) nm g tb
 | _,s=>s
def lay(P:Params):List Stmt->S->S
 | [],s=>s
 | st::r,s=>lay P r (lay1 P st s)
def s0(os:List Obj):S :=
 ⟨insL [tupO [],fldO .none [],codeO "<module>" "<module>" 182 1 0 0 false 11 .none .none .none 185,frmO 13 3 (.str "__main__" 164)] (insL os .nil 0) 11,15,187,.str "__main__" 164,[],[]⟩
def nameTo(nm:Value):List DictEntry->List DictEntry
 | e::es=>{ e with val:=nm }::es
 | []=>[]
def mainTo(nm:Value)(g:List DictEntry):Obj->Obj
 | ⟨c,d,.dict es e,sl⟩=>⟨c,d,.dict (nameTo nm es.toList++g.reverse).toArray (e+g.length),sl⟩
 | o=>o
def S.bt(s:S):BT:=(s.t.set 3 (mainTo s.nm s.g)).set 12 λ_=>fldO .none s.tb.reverse
open PyProof.Rows
def z0:Pos:=⟨0,0,0,0⟩
def an:Option Value:=some (.ref 6)
def ev(p:Program):Env:={ scope:=p.main.scope,locals:=mainNs,globals:=mainNs,cells:=[],code:=.ref 13,frame:=some 14 }
def cd(p:Program):Code:=.body (behindTheImports p) (ev p)
def go(tb:String->Option Builtin)(p:Program)(w:World)(F:Nat):List Stmt->SharedT->Code->Pos->Option (SharedT×Code×Pos)
 | [],s,c,q=>some (s,c,q)
 | st::l,s,c,q=>match segRunT tb p w 11 an 1 F s (pieceOf st (ev p) c q [topFrame z0]) with
  | some (.next,s',c',q')=>go tb p w F l s' c' q'
  | _=>none
def ns(F N:Nat):List Stmt->Nat
 | []=>N
 | _::l=>F+ns F N l
section
variable {tb:String->Option Builtin}{p:Program}{w:World}
theorem one{n N:Nat}{s s' r:Shared}{st:Stmt}{aY:List Stmt}{c c':Code}{e:Env}{q q':Pos}(h:segRun tb p w 11 an 1 n s (pieceOf st e c q [topFrame z0])=some (.next,s',c',q'))(k:topRun tb p w 11 an N s' (restOf aY e c' q' [topFrame z0])=some r):topRun tb p w 11 an (n+N) s (restOf (st::aY) e c q [topFrame z0])=some r:=by
 obtain ⟨a,ha,hN⟩:=seg_top (B:=[topFrame z0]) (res:=id)
  (K':=λf=>match f with
   | .next=>(execs aY e).wrap doneF (leaveH e) id id
   | f=>doneF f)
  (H':=leaveH e) rfl n s (pieceOf st e c q [topFrame z0])
  ⟨(exec st e).wrap (λf=>match f with
   | .next=>(execs aY e).wrap doneF (leaveH e) id id
   | f=>doneF f) (leaveH e) id id,c,q,[topFrame z0]⟩ _ _ _ _ ⟨rfl,rfl,.inl ⟨rfl,rfl,_,rfl,rfl⟩⟩ h
 cases ha;unfold restOf;rw[execs_cons_wrap];exact hN N r k
theorem go_top'{F:Nat}:∀ (l:List Stmt) {s s':SharedT} {c c':Code} {q q':Pos},go tb p w F l s c q=some (s',c',q')->∀ {N:Nat} {r:Shared} {aY:List Stmt},topRun tb p w 11 an N s'.abs (restOf aY (ev p) c' q' [topFrame z0])=some r->topRun tb p w 11 an (ns F N l) s.abs (restOf (l++aY) (ev p) c q [topFrame z0])=some r
 | [],_,_,_,_,_,_,h,_,_,_,k=>by cases h;exact k
 | st::l,s,s',c,c',q,q',h,N,r,aY,k=>by
  unfold go at h;split at h
  . rename_i x e;exact one (segRun_of e) (go_top' l h k)
  . cases h
theorem fin2(s:Shared)(c:Code)(q:Pos):topRun tb p w 11 an 2 s (restOf [] (ev p) c q [topFrame z0])=some s:=by obtain ⟨h,g,d,k,o⟩:=s;rfl
noncomputable def sh(P:Params)(S:S)(n k:Nat)(os:OsState):SharedT:=⟨S.bt,n,(boot_heap P).life,#[],boot_drawn,k,os⟩
noncomputable def sA(P:Params):S:=s0 (boot_heap P).objs.toList
theorem run_of{l:List Stmt}{n k:Nat}{c':Code}{q':Pos}(hl:behindTheImports p=l)(pre:∀ (w:World) (os:OsState),topGo treeTable p w 11 an 12 ⟨boot_heap w.params,#[],boot_drawn,boot_toks,os⟩ (topStub p)=some ((sh w.params (sA w.params) 15 187 os).abs,⟨denote treeTable (cd p),cd p,z0,[topFrame z0]⟩))(blk:∀ (w:World) (s:Shared),segRun treeTable p w 11 an 1 1 s (blockOf l (ev p) (cd p) z0 [topFrame z0])=some (.next,s,cd p,z0))(run:∀ (w:World) (os:OsState),go treeTable p w 1000 l (sh w.params (sA w.params) 15 187 os) (cd p) z0=some (sh w.params (lay w.params l (sA w.params)) n k os,c',q')):∀ (w:World) (os:OsState),topRun treeTable p w 11 an (12+(1+ns 1000 2 l)) ⟨boot_heap w.params,#[],boot_drawn,boot_toks,os⟩ (topStub p)=some (sh w.params (lay w.params l (sA w.params)) n k os).abs:=by
 intro w os;refine go_top (pre w os) ?_;unfold cd;rw[hl];refine piece_block (n:=1) (by have:=blk w (sh w.params (sA w.params) 15 187 os).abs;unfold cd at this;rw[hl] at this;exact this) ?_
 have:=go_top' l (run w os) (aY:=[]) (fin2 _ _ _);rw[aPJ] at this;unfold cd at this;rw[hl] at this;exact this
end
noncomputable def KK(l:List Stmt)(as:List Addr)(P:Params):Frag:=as.map λa=>(a,((lay P l (sA P)).bt.get a).getD default)
theorem KK_e(l:List Stmt)(as:List Addr)(P:Params):as=(KK l as P).map (·.1):=by unfold KK;rw[List.map_map];exact (List.map_id as).symm
noncomputable def hk(l:List Stmt)(as:List Addr):Hook:=kHook (KK l as) as (KK_e l as)
noncomputable def H1(l:List Stmt)(n:Nat)(P:Params):Heap:=absHeap (lay P l (sA P)).bt n (boot_heap P).life
noncomputable def S1(l:List Stmt)(n k:Nat)(P:Params)(os:OsState):Shared:=⟨H1 l n P,#[],boot_drawn,k,os⟩
def bnd(n:Str):Stmt->List Str
 | .FunctionDef x ..=>if x==n then [] else [x]
 | .ClassDef x ..=>[x]
 | .Assign [.Name x _] _ _=>if x == "__name__" then [] else [x]
 | _=>[]
def los(l:List Stmt):List Str:=l.flatMap (bnd "law")
def vw(p:Program):Program:={ p with main:={ p.main with body:=p.main.body.filter λst=>match st with | .FunctionDef x ..=>x == "law" | _=>false } }
def xt(r:OpenRow)(s:Shared):Bool:=xlAt (vw r.prog) [] s&&recOk r.toRowW.records s
theorem size1(w:World):((boot_heap w.params).isNs mainGlobals&&(#[]:Array GenState).size==0,(boot_heap w.params).objs.size,(boot_heap w.params).nsMap mainGlobals "__annotations__")=(true,11,an):=by kernel_rfl
end Tp
theorem Tp.twA:Prod.fst (true,(@Tp.go,@Tp.lay,@Tp.sh,@Tp.sA,@Tp.cd,@Tp.ev,@Tp.S.bt,@Tp.KK,@Tp.hk,@Tp.H1,@Tp.S1,@Tp.los,@Tp.vw,@Tp.xt))=true:=by k_qdec
namespace D3
open PySem PySem.Spec PySem.Calls PyProof.Rows L2
theorem wT:∀ {ps:List Str} {us:List Value},ps.Nodup->us.length=ps.length->ps.filterMap (λn=>((ps.zip us).lookup n).map (n,·))=ps.zip us/\∀ n∈ps,((ps.zip us).lookup n).isNone=false
 | [],us,_,_=>⟨rfl,λ_ h=>by cases h⟩
 | p::ps,[],_,h=>by cases h
 | p::ps,u::us,nd,h=>by
  obtain ⟨h1,h2⟩:=aPK.mp nd;obtain ⟨i1,i2⟩:=wT (us:=us) h2 (Nat.succ.inj h);have e:∀ n∈ps,((p,u)::ps.zip us).lookup n=(ps.zip us).lookup n:=λn hn=>by rw[aRF];have:(n==p)=false:=aOD.mpr λz=>h1 (z ▸ hn);rw[this]
  refine ⟨?_,λn hn=>?_⟩
  . rw[List.zip_cons_cons,aOQ,aRF,aRG];dsimp only[Option.map];refine congrArg _ (Eq.trans ?_ i1);have c:∀ l:List Str,(∀ n∈l,n∈ps)->l.filterMap (λn=>(((p,u)::ps.zip us).lookup n).map (n,·))=l.filterMap (λn=>((ps.zip us).lookup n).map (n,·)):=by
      intro l hl
      induction l with
      | nil=>rfl
      | cons a l ih=>rw[aOQ,aOQ,e a (hl a mcs),ih λn hn=>hl n (mcm hn)]
    exact c ps λ_ h=>h
  . rw[List.zip_cons_cons];rcases aOR.mp hn with rfl | hn
    . rw[aRF,aRG];rfl
    . rw[e n hn];exact i2 n hn
theorem aLQ{fd:FuncData}{ps:List Str}(h1:fd.params.posonlyargs=[])(h2:fd.params.args.map (·.arg)=ps)(h3:fd.params.vararg=none)(h4:fd.params.kwonlyargs=[])(h5:fd.params.kwarg=none)(hd:fd.defaults=.none)(h6:ps.Nodup)(us:List Value)(hl:us.length=ps.length):bindArgs fd ⟨us,[]⟩=pure (ps.zip us):=by
 obtain ⟨z1,z2⟩:=wT h6 hl;have z3:(ps.take (ps.length-0)).filter (λn=>((ps.zip us).lookup n).isNone)=[]:=by rw[Nat.sub_zero,aSG,List.filter_eq_nil_iff];intro n hn;rw[z2 n hn];decide
 unfold bindArgs;simp only[h1,h2,h3,h4,h5,hd,List.map_nil,List.nil_append,aPJ,aRC,aRE,hl,aOJ,seqItems?];have q:(do notAStandIn Value.none;pure none:Sem (Option (Array Value)))=pure none:=rfl
 rw[q];simp only[aRE,aQC,List.length_nil,Nat.zero_sub,aRM,z3,decide_false,Bool.false_and,aRH,aP2,List.isEmpty_nil,Bool.not_true,List.zip_nil_right,aRC,z1,Array.toList_empty,List.drop_nil]
noncomputable def adB(K:Fg)(x:Str):Option Addr:=match PySem.W.nsIn K mainGlobals x with | some (some (.ref a))=>some a | _=>none
theorem eG{K:Fg}{x:Str}{a:Addr}(h:adB K x=some a):PySem.W.nsIn K mainGlobals x=some (some (.ref a)):=by
 unfold adB at h;split at h
 . rename_i b e;cases h;exact e
 . cases h
noncomputable def isKey(key:Str):Addr×Obj->Bool
 | (_,⟨.type t,_,.func fd,_⟩)=>t == "function" && fd.qualname==key
 | _=>false
noncomputable def faK(K:Fg)(key:Str):Addr:=match K.find? (isKey key) with | some p=>p.1 | none=>0
noncomputable def stOf(fd:FuncData)(b:List Stmt):Stmt:=.FunctionDef fd.name fd.params b [] none [] fd.scope none fd.name ⟨0,0,0,0⟩
noncomputable def parB(p:Arguments)(ps:List Str):Bool:=p.posonlyargs.isEmpty&&(p.args.map (·.arg)==ps)&&p.vararg.isNone&&p.kwonlyargs.isEmpty&&p.kwarg.isNone&&decide ps.Nodup
noncomputable def fdB(K:Fg)(nm:Option Str)(key:Str)(a:Addr)(ps:List Str)(f:Stmt->Bool)(fd:FuncData)(b:List Stmt):Bool :=
 (nm.getD fd.name==fd.name)&&((fd.qualname==key)&&(fd.globals==mainGlobals&&(fd.closure.isEmpty&&((fd.defaults == .none)&&(fd.builtins==builtinsNs&&(PySem.W.codeIn K fd.code key&&(PySem.W.keepIn K (.ref a)&&(parB fd.params ps&&f (stOf fd b)))))))))
noncomputable def jZ(K:Fg)(nm:Option Str)(key:Str)(a:Addr)(ps:List Str)(f:Stmt->Bool):Bool:=match K.lookup a with
 | some ⟨_,_,.func fd,_⟩=>(match fd.body with
  | .stmts b=>fdB K nm key a ps f fd b
  | _=>false)
 | _=>false
theorem qZ{K:Fg}{nm:Option Str}{key:Str}{a:Addr}{ps:List Str}{f:Stmt->Bool}(h:jZ K nm key a ps f=true):∃ name st fd,Fun K name key st a fd/\fH K fd ps []/\f st=true/\nm.getD name=name/\∀ us:List Value,us.length=ps.length->bindArgs fd ⟨us,[]⟩=pure (ps.zip us):=by
 unfold jZ at h;split at h
 . rename_i oc od fd sl el;split at h
   . rename_i b eb;unfold fdB at h;simp only[aQB] at h;obtain ⟨h1,h2,h3,h4,h5,h6,h7,h8,h9,h10⟩:=h;obtain ⟨name,qualname,params,body,scope,globals,closure,defaults,kwdefaults,doc,pm,an,code,ct,bl⟩:=fd;dsimp only at *;obtain rfl:=eb;obtain rfl:=aQ0.mp h2;obtain rfl:=aQ0.mp h3;obtain rfl:=List.isEmpty_iff.mp h4;obtain rfl:=aQ0.mp h5;obtain rfl:=aQ0.mp h6;unfold parB at h9;simp only[aQB,List.isEmpty_iff,aQ0,Option.isNone_iff_eq_none,aQQ] at h9;obtain ⟨⟨⟨⟨⟨p1,p2⟩,p3⟩,p4⟩,p5⟩,p6⟩:=h9;have bp:=aLQ (fd:=PySem.W.fnOf name qualname params b scope .none kwdefaults doc pm an code ct) p1 p2 p3 p4 p5 rfl p6;exact ⟨name,_,_,aDJ (st:=stOf ⟨name,qualname,params,.stmts b,scope,mainGlobals,[],.none,kwdefaults,doc,pm,an,code,ct,builtinsNs⟩ b) el h7 h8,.all bp,h10,aQ0.mp h1,bp⟩
   . cases h
 . cases h
noncomputable def gvB(K:Fg)(x:Str):GV->Bool
 | .con (.s y)=>(match PySem.W.nsIn K mainGlobals x with | some (some (.str z _))=>z==y | _=>false)
 | .con (.i n)=>(match PySem.W.nsIn K mainGlobals x with | some (some (.int z _))=>z==n | _=>false)
 | .con (.t _)=>true
 | .no=>PySem.W.nsIn K mainGlobals x==some none
 | .fn _=>PySem.W.nsIn K mainGlobals x==some (some (.ref (faK K x)))
 | .cls=>true
noncomputable def nS(K:Fg)(C:Addr):Bool:=PySem.W.plainGet K C Str.empty&&(PySem.W.hasDictIn K C&&(PySem.W.plainOver K C&&PySem.W.findIn K (.ref C) "__setattr__" == some (some (.builtin "object.__setattr__"))))
theorem wU{K:Fg}{C:Addr}(h:nS K C=true):Cls K C:=by unfold nS at h;simp only[aQB,aQ0] at h;exact ⟨h.1,h.2.1,h.2.2.1,h.2.2.2⟩
noncomputable def rA(K:Fg)(C:Addr)(x:Str×Str×Nat):Bool:=PySem.W.findIn K (.ref C) x.1==some (some (.ref (faK K x.2.1)))&&(PySem.W.isFn K (.ref (faK K x.2.1))&&PySem.W.keepIn K (.ref (faK K x.2.1)))
noncomputable def ciB(K:Fg)(i:CI):Bool:=match adB K i.name with
 | some C=>nS K C&&(i.meths.all (rA K C)&&i.flds.all λf=>PySem.W.findIn K (.ref C) f==some none)
 | none=>false
noncomputable def mk0B(K:Fg)(c:Str):Bool:=match adB K c with
 | some C=>PySem.W.makesIn K C&&(PySem.W.findIn K (.ref C) "__init__" == some (some (.builtin "object.__init__"))&&PySem.W.keepIn K (.ref C))
 | none=>false
noncomputable def clB(K:Fg)(C:Addr):Bool:=PySem.W.findIn K (.ref C) "__class__" == some (some (.builtin "object.__class__"))&&(PySem.W.specialIn K (.builtin "object.__class__") "__get__" == some (some (.builtin "getset_descriptor.__get__"))&&(PySem.W.takesIn K (.builtin "object.__class__")==some true&&PySem.W.mroIn K C (.type "object")==some true))
noncomputable def isoB(K:Fg)(cl:List CI)(c:Str):Bool:=match adB K c with
 | some C=>["NoneType", "bool", "int", "str", "tuple", "list", "dict"].all (λt=>PySem.W.kitOne K (.type t) (.ref C)==some false)&&cl.all λi=>match adB K i.name with
  | some C'=>nS K C'&&(clB K C'&&PySem.W.kitOne K (.ref C') (.ref C)==some (i.ups.contains c))
  | none=>false
 | none=>false
noncomputable def inB(K:Fg)(g:MG)(x:Str×ID):Bool:=match adB K x.2.c with
 | some C=>PySem.W.makesIn K C&&(PySem.W.findIn K (.ref C) "__init__" == some (some (.ref (faK K x.1)))&&(PySem.W.isFn K (.ref (faK K x.1))&&(PySem.W.keepIn K (.ref C)&&jZ K none x.1 (faK K x.1) x.2.ps (λst=>idOk g st x.2))))
 | none=>false
noncomputable def xtB(K:Fg)(x:(Str×Str)×Bool):Bool:=match adB K x.1.1,adB K x.1.2 with
 | some C,some C2=>PySem.W.mroIn K C2 (.type "BaseException")==some true&&(PySem.W.typeIn K (.ref C2)==some (.type "type")&&PySem.W.mroIn K C (.ref C2)==some x.2)
 | _,_=>false
noncomputable def xcB(K:Fg)(C:Addr):Bool:=PySem.W.findIn K (.ref C) "__getattribute__" == some (some (.builtin "BaseException.__getattribute__"))&&(PySem.W.findIn K (.ref C) "__getattr__" == some none&&(PySem.W.mroIn K C (.type "BaseException")==some true&&clB K C))
noncomputable def cvB(K:Fg)(n:Str):Option V:=match PySem.W.nsIn K mainGlobals n with
 | some (some (.ref C))=>some (.ref C)
 | some none=>if n == "__name__" then none else (match bootBuiltins n with | some (.type T)=>some (.ty T) | _=>none)
 | _=>none
noncomputable def xiB(K:Fg)(x:(Str×Str)×Bool):Bool:=match adB K x.1.1,cvB K x.1.2 with
 | some C,some cv=>xcB K C&&PySem.W.kitOne K (.ref C) (nK cv)==some x.2
 | _,_=>false
noncomputable def rzB(K:Fg)(c:Str):Bool:=match adB K c with
 | some C=>PySem.W.excIn K C qC "ValueError.__new__"
 | none=>false
noncomputable def gfB(K:Fg)(g:MG)(t:TB):Bool :=
 g.G.all (λx=>gvB K x.1 x.2)&&(gOk g.G t.T&&(t.T.all (λx=>jZ K (if x.1 == "law" then some "law" else none) x.1 (faK K x.1) x.2.ps (λst=>iL g st x.2))&&(t.I.all (inB K g)&&(g.mk0.all (mk0B K)&&(wD g.mki t.I&&(g.iso.all (isoB K t.cl)&&(t.cl.all (ciB K)&&(mtOk t.cl t.T&&(t.xt.all (xtB K)&&(t.xi.all (xiB K)&&(g.xcs.all (rzB K)&&g.xns.all (λn=>(cvB K n).isSome))))))))))))
section
variable {w:World}{K:Fg}{mg:SOV}{h:Heap}(X:K.In h)(G:h.Ns mainGlobals mg)
include X G
theorem wV:∀ {l:List (Str×GV)},(∀ x tb,(x,GV.con (.t tb))∈l->gX w K mg x tb)->l.all (λx=>gvB K x.1 x.2)=true->lH w K mg (faK K) l
 | [],_,_=>trivial
 | (x,v)::l,ht,b=>by
  rw[aQD,aQB] at b;refine ⟨?_,wV (λx tb hx=>ht x tb (mcm hx)) b.2⟩;have b:=b.1;dsimp only at b;cases v with
  | con c =>
   cases c with
   | s y =>
    have b:(match PySem.W.nsIn K mainGlobals x with | some (some (.str z _))=>z==y | _=>false)=true:=b
    split at b
    . rename_i z t e;cases aQ0.mp b;exact ⟨t,aSH X G e⟩
    . cases b
   | i y =>
    have b:(match PySem.W.nsIn K mainGlobals x with | some (some (.int z _))=>z==y | _=>false)=true:=b
    split at b
    . rename_i z t e;cases aQ0.mp b;exact ⟨t,aSH X G e⟩
    . cases b
   | t tb=>exact ht x tb mcs
  | fn n=>exact aSH X G (aQ0.mp b)
  | no=>exact PySem.W.mg_none_of X G (aQ0.mp b)
  | cls=>trivial
theorem wW{n:Str}{cv:V}(e:cvB K n=some cv):fC mg n cv:=by
 unfold cvB at e;split at e
 . rename_i C q;cases e;exact .inl ⟨C,aSH X G q,rfl⟩
 . rename_i q;split at e
   . cases e
   . rename_i hn;split at e
     . rename_i T hb;cases e;exact .inr ⟨PySem.W.mg_none_of X G q,by simpa using hn,T,hb,rfl⟩
     . cases e
 . cases e
end
theorem wX{K:Fg}{g:MG}:∀ {l:List (Str×FD)},l.all (λx=>jZ K (if x.1 == "law" then some "law" else none) x.1 (faK K x.1) x.2.ps (λst=>iL g st x.2))=true->lF K g (faK K) l
 | [],_=>trivial
 | (x,d)::l,b=>by rw[aQD,aQB] at b;obtain ⟨name,st,fd,F,hb,ok,_,_⟩:=qZ b.1;exact ⟨⟨name,st,fd,F,hb,ok⟩,wX b.2⟩
theorem wY{K:Fg}{C:Addr}:∀ {l:List (Str×Str×Nat)},l.all (rA K C)=true->jV K (faK K) C l
 | [],_=>trivial
 | (m,key,n)::l,b=>by rw[aQD,aQB] at b;have b1:=b.1;unfold rA at b1;simp only[aQB,aQ0] at b1;exact ⟨⟨b1.1,b1.2.1,b1.2.2⟩,wY b.2⟩
theorem wZ{K:Fg}{C:Addr}:∀ {l:List Str},l.all (λf=>PySem.W.findIn K (.ref C) f==some none)=true->jW K C l
 | [],_=>trivial
 | f::l,b=>by rw[aQD,aQB] at b;exact ⟨aQ0.mp b.1,wZ b.2⟩
theorem w6{K:Fg}:∀ {l:List CI},l.all (ciB K)=true->lI K (faK K) l
 | [],_=>trivial
 | i::l,b=>by
  rw[aQD,aQB] at b;refine ⟨?_,w6 b.2⟩;have b:=b.1;unfold ciB at b;split at b
  . rename_i C e;simp only[aQB] at b;exact ⟨C,eG e,wU b.1,wY b.2.1,wZ b.2.2⟩
  . cases b
section
variable {w:World}{K:Fg}{mg:SOV}{h:Heap}(X:K.In h)(G:h.Ns mainGlobals mg)
include X G
theorem w8{g:MG}:∀ {l:List (Str×ID)},l.all (inB K g)=true->lG K mg g l
 | [],_=>trivial
 | (x,d)::l,b=>by
  rw[aQD,aQB] at b;refine ⟨?_,w8 b.2⟩;have b:=b.1;unfold inB at b;split at b
  . rename_i C e;simp only[aQB,aQ0] at b;obtain ⟨b1,b2,b3,b4,b5⟩:=b;obtain ⟨name,st,fd,F,hb,ok,_,_⟩:=qZ b5;exact ⟨name,st,C,_,fd,eG e,aSH X G (eG e),⟨b1,b2,b3,b4⟩,F,hb,ok⟩
  . cases b
omit X G in
theorem rB{c x:Str}{v:Bool}:∀ {l:List ((Str×Str)×Bool)},l.lookup (c,x)=some v->((c,x),v)∈l
 | [],e=>by cases e
 | (y,b)::l,e=>by
  rw[aRF] at e;split at e
  . rename_i hb;cases e;rw[<- aQ0.mp hb];exact mcs
  . exact mcm (rB e)
theorem xt_of{l:List ((Str×Str)×Bool)}(b:l.all (xtB K)=true):jJ K mg (λc x=>l.lookup (c,x)):=λc x v e=>by
 have b:=aQ3.mp b ((c,x),v) (rB e);unfold xtB at b;split at b
 . rename_i C C2 e1 e2;simp only[aQB,aQ0] at b;exact ⟨C,C2,eG e1,aSH X G (eG e1),aSH X G (eG e2),b.1,b.2.1,b.2.2⟩
 . cases b
theorem xi_of{l:List ((Str×Str)×Bool)}(b:l.all (xiB K)=true):iJ K mg (λc x=>l.lookup (c,x)):=λc x v e=>by
 have b:=aQ3.mp b ((c,x),v) (rB e);unfold xiB at b;split at b
 . rename_i C cv e1 e2;unfold xcB clB at b;simp only[aQB,aQ0] at b;obtain ⟨⟨b1,b2,b3,b4,b5,b6,b7⟩,b8⟩:=b;exact ⟨C,cv,eG e1,⟨b1,b2,b4,b3,b7,b5,b6⟩,wW X G e2,b8⟩
 . cases b
theorem gf_of{g:MG}{t:TB}(b:gfB K g t=true)(ht:∀ x tb,(x,GV.con (.t tb))∈g.G->gX w K mg x tb):GF w K mg g t (faK K):=by
 unfold gfB at b;simp only[aQB] at b;obtain ⟨b1,b2,b3,b4,b5,b6,b7,b8,b9,b10,b11,b12,b13⟩:=b;refine ⟨wV X G ht b1,b2,wX b3,w8 X G b4,λc hc=>?_,b6,λc hc=>?_,w6 b8,b9,xt_of X G b10,xi_of X G b11,λc hc=>?_,λn hn=>?_⟩
 . have b:=aQ3.mp b5 c hc;unfold mk0B at b;split at b
   . rename_i C e;simp only[aQB,aQ0] at b;exact ⟨C,eG e,aSH X G (eG e),b.1,b.2.1,b.2.2⟩
   . cases b
 . have b:=aQ3.mp b7 c hc;unfold isoB at b;split at b
   . rename_i C e;rw[aQB] at b;refine ⟨C,aSH X G (eG e),λt ht=>aQ0.mp (aQ3.mp b.1 t ht),λi hi=>?_⟩;have b:=aQ3.mp b.2 i hi;split at b
     . rename_i C' e';unfold clB at b;simp only[aQB,aQ0] at b;obtain ⟨c1,⟨c2,c3,c4,c5⟩,c6⟩:=b;exact ⟨C',eG e',wU c1,c2,c3,c4,c5,c6⟩
     . cases b
   . cases b
 . have b:=aQ3.mp b12 c hc;unfold rzB at b;split at b
   . rename_i C e;exact ⟨C,aSH X G (eG e),b⟩
   . cases b
 . have b:=aQ3.mp b13 n hn;cases e:cvB K n with
   | none=>rw[e] at b;cases b
   | some cv=>exact ⟨cv,wW X G e⟩
end
noncomputable def rC(K:Fg)(g:MG)(t:TB):Bool:=gfB K g t&&PySem.W.nsIn K mainGlobals "law" == some (some (.ref (faK K "law")))
theorem xC{x:Str}{d:FD}:∀ {l:List (Str×FD)},l.lookup x=some d->(x,d)∈l
 | [],e=>by cases e
 | (y,b)::l,e=>by
  rw[aRF] at e;split at e
  . rename_i hb;cases e;rw[<- aQ0.mp hb];exact mcs
  . exact mcm (xC e)
theorem walkG{l:PySem.W.OpenLaw}{q:Program}{loose:List Str}{XP:(Str->Option Value)->Heap->Prop}{YP:World->Heap->Prop}{d:DefRec}{K:Params->Fg}{g:MG}{t:TB}{kk:Nat}{x:Str}{e:FD}(hn:l.most=some 63)(hdf:d.params.defaults=[])(hdn:d.name = "law")(hY:∀ (w:World) (h:Heap),YP w h->(K w.params).In h)(b:∀ P,rC (K P) g t=true)(ht:∀ (w:World) (mg:SOV) (h:Heap),(K w.params).In h->h.Ns mainGlobals mg->∀ x tb,(x,GV.con (.t tb))∈g.G->gX w (K w.params) mg x tb)(hT:t.T.lookup ("law" : Str)=some e)(hps:e.ps=[x])(hr:cK (kk+1) callerA)(main:∀ ns:List Int,ns.length<=63->(WT t (kk+1)).Φ "law" (m6 ns)=.ok .fz (.bl true)):PySem.W.WalkO q loose XP YP l.row.toRowW d [] (λf vs=>PySem.call f vs):=by
 refine L2.aDI (n:=63) (k:=kk+1) (x:=x) (CX:=λw=>CX1 l.prog w) (sp:=λw=>qO (K w.params) ((WT t (kk+1)).Φ ("law" : Str))) hn (by decide) hdf hr hY (λw mg fa h KX G hmg=>?_)
  (λ_ _ a ns hl _ hS=>⟨a,ns,rfl,hS,main ns hl,λ_=>rfl⟩) λ_ _ _ _ _ z=>by obtain ⟨_,_,_,_,_,_,_,_,_,_,z⟩:=z;exact z
 have b:=b w.params;unfold rC at b;rw[aQB,aQ0] at b;have f:=gf_of (w:=w) KX G b.1 (ht w mg h KX G);have e1:=aSH KX G b.2;rw[hdn,e1] at hmg;cases hmg;have b3:t.T.all (λx=>jZ (K w.params) (if x.1 == "law" then some "law" else none) x.1 (faK (K w.params) x.1) x.2.ps (λst=>iL g st x.2))=true:=by have:=b.1;unfold gfB at this;simp only[aQB] at this;exact this.2.2.1
 obtain ⟨name,st,fd,F,hb,ok,hnm,bp⟩:=qZ (aQ3.mp b3 (("law" : Str),e) (xC hT));have hnm:name = "law" := hnm.symm;subst hnm;refine ⟨fd,λs u=>.of_eq ?_,λbase _ _=>?_⟩
 . have:=bp [u] (by rw[hps];rfl)
   rw[hps] at this;exact this
 . have:=aK9 (P:=l.prog) (base:=base) f kk F hT ok (by rw[hps];rfl)
   rw[hps] at this;exact this
end D3
namespace Tp
open PySem PySem.W PySem.Calls PyProof.Rows
theorem left{p:Program}{r:OpenRow}{l:List Stmt}{n k:Nat}{as:List Addr}{c':Code}{q':Pos}(hl:behindTheImports p=l)(pre:∀ (w:World) (os:OsState),topGo treeTable p w 11 an 12 ⟨boot_heap w.params,#[],boot_drawn,boot_toks,os⟩ (topStub p)=some ((sh w.params (sA w.params) 15 187 os).abs,⟨denote treeTable (cd p),cd p,z0,[topFrame z0]⟩))(blk:∀ (w:World) (s:Shared),segRun treeTable p w 11 an 1 1 s (blockOf l (ev p) (cd p) z0 [topFrame z0])=some (.next,s,cd p,z0))(run:∀ (w:World) (os:OsState),go treeTable p w 1000 l (sh w.params (sA w.params) 15 187 os) (cd p) z0=some (sh w.params (lay w.params l (sA w.params)) n k os,c',q'))(le:Nat.ble (12+(1+ns 1000 2 l)) 1000000=true)(e1:opening p=plainProg p.main.scope.names)(e2:∀ s,fenceModules? p s=some s)(rZ:∀ w:World,(λos=>((staticsOk (importedModules p.main.body) (boot_heap w.params) (H1 l n w.params)&&namesBound p (H1 l n w.params)&&gensDone (S1 l n k w.params os)&&laidKept (boot_heap w.params) (H1 l n w.params)),openSeen (vw p) (los l) (importedModules p.main.body) (xt r) true (S1 l n k w.params os),(hk l as).obs (S1 l n k w.params os)))=λ_=>(true,openGood (vw p) (los l),(hk l as).val w)):LeftO p (vw p) (los l) (xt r) (hk l as).obs (hk l as).val 1000000 :=
 LeftO.of_pieces (H₀:=boot_heap) (H₁:=H1 l n) (m₀:=11) (ann:=an) (boot_open e1 rfl e2) size1 (run_of hl pre blk run) le rZ
theorem head{p:OpenLaw}{l:List Stmt}{as:List Addr}{d:DefRec}(left:LeftO p.prog (vw p.prog) (los l) (xt p.row) (hk l as).obs (hk l as).val 1000000)(said:p.row.wellSaid=true)(h1:defOf (vw p.prog) p.name=some (d,[]))(h2:p.prog.theDef p.name=some (d.params,d.body,d.scope))(h3:kwWritten? d.params.kwonlyargs d.params.kw_defaults=some [])(h4:(!p.row.writes||p.row.records.isEmpty)=true)(ok:(chainsOk (vw p.prog)&&opensWell p.prog&&(frees p.row.toRowW&&p.row.within.isEmpty))=true)(hb:p.prog.bare)(hw:p.row.toRowW.promised)(call:WalkO (vw p.prog) (los l) (XL (vw p.prog) []) (hk l as).says p.row.toRowW d [] λf vs=>PySem.call f vs):p.row.Holds :=
 holds_open (r:=p.row) (XP:=XL (vw p.prog) []) (YP:=(hk l as).says) left (hk l as).of (hk l as).keeps (λs e=>xl_of s (Bool.and_eq_true_iff.mp e).1) XL.keeps h1 h2 h3
  (λs e=>recFacts_of (Bool.and_eq_true_iff.mp e).2) h4 said ok hb hw call
end Tp
namespace D3
open PySem PySem.Spec PySem.Calls PyProof.Rows L2
noncomputable def nT:Obj->List DictEntry
 | ⟨.type t,none,.dict es _,sl⟩=>if t = "dict" /\ sl.size=0 then es.toList else []
 | _=>[]
theorem aLR{o:Obj}(h:nT o≠[]):∃ es ep,o=⟨.type "dict", none,.dict es ep,#[]⟩/\nT o=es.toList:=by
 unfold nT at h ⊢;split at h
 . rename_i t es ep sl;split at h
   . rename_i hc;obtain ⟨rfl,hs⟩:=hc;obtain rfl:=Array.eq_empty_of_size_eq_zero hs;exact ⟨es,ep,rfl,rfl⟩
   . exact absurd rfl h
 . exact absurd rfl h
noncomputable def fP(K:Fg)(x:Str):List DictEntry:=match adB K x with
 | some a=>(match K.lookup a with | some o=>nT o | none=>[])
 | none=>[]
theorem aLS{K:Fg}{x:Str}(h:fP K x≠[]):∃ a es ep,adB K x=some a/\K.lookup a=some ⟨.type "dict", none,.dict es ep,#[]⟩/\fP K x=es.toList:=by
 unfold fP at h ⊢;cases ea:adB K x with
 | none=>rw[ea] at h;exact absurd rfl h
 | some a =>
  rw[ea] at h;dsimp only at h ⊢;cases el:K.lookup a with
  | none=>rw[el] at h;exact absurd rfl h
  | some o=>rw[el] at h;dsimp only at h ⊢;obtain ⟨es,ep,rfl,e⟩:=aLR h;exact ⟨a,es,ep,rfl,el,e⟩
noncomputable def j6(P:Params):List (Str×Str)->List DictEntry->List DictEntry
 | (z,_)::r,⟨_,.str _ t,.ref a⟩::es=>⟨PyData.keyHash P z,.str z t,.ref a⟩::j6 P r es
 | _,_=>[]
noncomputable def okE(K:Fg):List (Str×Str)->List DictEntry->Bool
 | [],[]=>true
 | (_,f)::r,⟨_,.str _ _,.ref a⟩::es=>PySem.W.nsIn K mainGlobals f==some (some (.ref a))&&okE K r es
 | _,_=>false
theorem xD{w:World}{K:Fg}:∀ {tb:List (Str×Str)} {es:List DictEntry},es=j6 w.params tb es->okE K tb es=true->iK w K tb es
 | [],[],_,_=>rfl
 | [],⟨_,.str _ _,.ref _⟩::es,e,_=>by unfold j6 at e;cases e
 | (z,f)::r,es,e,ok=>by
  unfold okE at ok;split at ok
  . rename_i h1 h2;cases h2
  . rename_i f' r' hh y t a es' h1;cases h1;rw[aQB,aQ0] at ok;unfold j6 at e;injection e with e1 e2
    exact ⟨t,a,es',congrArg (·::es') e1,ok.1,xD e2 ok.2⟩
  . cases ok
theorem aLT{K:Fg}:∀ {tb:List (Str×Str)},tb≠[]->okE K tb []=false
 | [],h=>absurd rfl h
 | p::r,_=>by unfold okE;rfl
theorem aLU{w:World}{K:Fg}{mg:SOV}{h:Heap}{x:Str}{tb:List (Str×Str)}(X:K.In h)(G:h.Ns mainGlobals mg)(e:fP K x=j6 w.params tb (fP K x))(ok:okE K tb (fP K x)=true)(ne:tb≠[])(nd:(tb.map (·.1)).Nodup):gX w K mg x tb:=by
 have bad:fP K x≠[]:=λz=>by rw[z,aLT ne] at ok;cases ok
 have t:=xD e ok;obtain ⟨a,es,ep,ea,el,et⟩:=aLS bad;rw[et] at t;exact ⟨⟨a,_,es,ep,aSH X G (eG ea),el,⟨rfl,rfl,rfl⟩,rfl,t⟩,nd⟩
theorem aLV{g:MG}{K:Params->Fg}{y:Str}{t0:List (Str×Str)}(b:(g.G.all λx=>match x.2 with | .con (.t tb)=>x.1==y&&tb==t0 | _=>true)=true)(e:∀ P,fP (K P) y=j6 P t0 (fP (K P) y))(ok:∀ P,okE (K P) t0 (fP (K P) y)=true)(ne:t0≠[])(nd:(t0.map (·.1)).Nodup)(w:World)(mg:SOV)(h:Heap)(X:(K w.params).In h)(G:h.Ns mainGlobals mg)(x:Str)(tb:List (Str×Str))(hm:(x,GV.con (.t tb))∈g.G):gX w (K w.params) mg x tb:=by have:=aQ3.mp b _ hm;dsimp only at this;rw[aQB,aQ0,aQ0] at this;obtain ⟨rfl,rfl⟩:=this;exact aLU X G (e w.params) (ok w.params) ne nd
end D3
namespace K63
open PySem L2 D3
def nU:List D3.S:=[.expr (.call "refuse_missing" 2 [(.var 2),(.ix (.var 1) (.int 0))])]
def nV:List D3.S:=[.expr (.call "refuse_missing" 2 [(.var 3),(.var 1)]),.expr (.call "refuse_twice" 2 [(.var 0),(.var 2)])]
def lM:List D3.S:=[.expr (.call "refuse_twice" 2 [(.var 2),(.var 3)])]
def nW:List D3.S:=[.ite (.cmp .NotIn (.var 4) (.var 2)) [.rz "Unlike" [(.fstr [(.str "the column "),(.fmt (.var 4)),(.str " of what is left out isn't there")])]] []]
def nX:List D3.S:=[.app 2 (.var 3),.set 3 (.frz (.call "stepped" 2 [(.var 3),(.var 1)]))]
def lN:List D3.S:=[.set 2 (.frz (.call "stepped" 2 [(.var 5),(.var 1)])),.ite (.cmp .IsNot (.var 2) .non) [.ret (.call "rebuilt" 2 [(.var 0),(.frz (.bin .Add (.slice (.var 3) none (some (.var 4))) (.tup [(.var 2)])))])] []]
def lO:List D3.S:=[.set 8 (.frz (.call "_law_round" 5 [(.frz (.call "_law_mixed" 2 [(.var 10),(.int 2147483629)])),(.var 8),(.var 6),(.var 4),(.ix (.var 1) (.int 6))]))]
def nY:List D3.S:=[.ite (.cmp .In (.ix (.var 0) (.var 1)) (.slice (.var 0) none (some (.var 1)))) [.rz "Twice" [(.fstr [(.str "the column "),(.fmt (.ix (.var 0) (.var 1))),(.str " was there ahead")])]] []]
def gH:List D3.S:=[.set 1 (.ix (.var 0) (.int 0)),.ite (.cmp .Eq (.var 1) (.str "not")) [.ret (.call "columns_in" 1 [(.ix (.var 0) (.int 1))])] [],.ite (.cmp .In (.var 1) (.tup [(.str "both"),(.str "either")])) [.ret (.bin .Add (.call "columns_in" 1 [(.ix (.var 0) (.int 1))]) (.call "columns_in" 1 [(.ix (.var 0) (.int 2))]))] [],.ret (.comp (.ix (.var 0) (.int 1)) (.items (.slice (.var 0) (some (.int 1)) none)) [(.cmp .Eq (.ix (.var 0) (.int 0)) (.str "of"))] [] (.nm 0) 1)]
def aLW:List D3.S:=[.set 2 (.ix (.var 0) (.int 0)),.ite (.cmp .Eq (.var 2) (.str "not")) [.ret (.tup [(.var 2),(.frz (.call "called" 2 [(.ix (.var 0) (.int 1)),(.var 1)]))])] [],.ite (.cmp .In (.var 2) (.tup [(.str "both"),(.str "either")])) [.ret (.tup [(.var 2),(.frz (.call "called" 2 [(.ix (.var 0) (.int 1)),(.var 1)])),(.frz (.call "called" 2 [(.ix (.var 0) (.int 2)),(.var 1)]))])] [],.ret (.tup [(.var 2),(.frz (.call "called_part" 2 [(.ix (.var 0) (.int 1)),(.var 1)])),(.frz (.call "called_part" 2 [(.ix (.var 0) (.int 2)),(.var 1)]))])]
def aLX:List D3.S:=[.ite (.cmp .Eq (.ix (.var 0) (.int 0)) (.str "of")) [.ret (.tup [(.str "of"),(.dix (.var 1) (.ix (.var 0) (.int 1)))])] [],.retV 0]
def hG:List D3.S:=[.ite (.cmp .Eq (.ix (.var 0) (.int 0)) (.str "table")) [.ret (.tup [])] [],.ite (.cmp .In (.ix (.var 0) (.int 0)) (.tup [(.str "join"),(.str "pour"),(.str "leave")])) [.ret (.tup [(.ix (.var 0) (.int 1)),(.ix (.var 0) (.int 2))])] [],.ret (.tup [(.ix (.var 0) (.int 1))])]
def aLY:List D3.S:=[.ret (.bin .Add (.bin .Add (.slice (.var 0) none (some (.int 1))) (.var 1)) (.slice (.var 0) (some (.bin .Add (.int 1) (.bcall .len [(.var 1)]))) none))]
def nZ:List D3.S:=[.ite (.cmp .NotIn (.var 0) (.var 1)) [.rz "NoColumn" [(.fstr [(.str "there is no column "),(.fmt (.var 0))])]] []]
def xE:List D3.S:=[.for (.items (.call "columns_in" 1 [(.ix (.var 0) (.int 2))])) (.nm 2) nU,.ret (.ix (.var 1) (.int 0))]
def xF:List D3.S:=[.for (.enum1 (.var 0)) (.tp [(.nm 2),(.nm 3)]) nV,.retV 0]
def xG:List D3.S:=[.ret (.call "kept" 2 [(.ix (.var 0) (.int 2)),(.ix (.var 1) (.int 0))])]
def rD:List D3.S:=[.expr (.call "refuse_missing" 2 [(.var 0),(.var 2)]),.ret (.call "kept" 2 [(.var 1),(.var 2)])]
def xH:List D3.S:=[.ret (.call "totalled" 3 [(.ix (.var 0) (.int 2)),(.ix (.var 0) (.int 3)),(.ix (.var 1) (.int 0))])]
def xI:List D3.S:=[.set 2 (.ix (.var 0) (.int 2)),.ite (.cmp .NotEq (.bcall .len [(.var 2)]) (.bcall .len [(.ix (.var 1) (.int 0))])) [.rz "Unlike" [(.str "a call has as many columns as the asking within")]] [],.for (.rng1 (.bcall .len [(.var 2)])) (.nm 3) lM,.retV 2]
def lP:List D3.S:=[.asg (.tp [(.nm 2),(.nm 3)]) (.var 1),.ret (.bin .Add (.var 2) (.tcall .tuple [(.comp (.var 1) (.items (.var 3)) [(.cmp .NotIn (.var 1) (.var 0))] [2] (.nm 1) 1)]))]
def lQ:List D3.S:=[.asg (.tp [(.nm 2),(.nm 3)]) (.var 1),.ite (.cmp .NotEq (.var 2) (.var 3)) [.rz "Unlike" [(.str "both askings of a pour have the same columns in the same order")]] [],.retV 2]
def n9:List D3.S:=[.asg (.tp [(.nm 2),(.nm 3)]) (.var 1),.for (.items (.var 3)) (.nm 4) nW,.retV 2]
def d7:List D3.S:=[.ite (.cmp .Eq (.ix (.var 0) (.int 0)) (.str "table")) [.ret (.call "columns_of_table" 2 [(.ix (.var 0) (.int 1)),(.var 1)])] [],.setC 2 true (.compX (.call "columns_of" 2 [(.var 1),(.var 0)]) (.items (.call "askings_within" 1 [(.var 0)])) [] [1] (.nm 1) 1),.set 3 (.deed "DEEDS" [("pick", "columns_of_pick"),("keep", "columns_of_keep"),("call", "columns_of_call"),("join", "columns_of_join"),("pour", "columns_of_pour"),("total", "columns_of_total"),("leave", "columns_of_leave")] (.ix (.var 0) (.int 0))),.ret (.callv 3 ["columns_of_pick", "columns_of_keep", "columns_of_call", "columns_of_join", "columns_of_pour", "columns_of_total", "columns_of_leave"] 2 [(.var 0),(.var 2)])]
def oA:List D3.S:=[.ite (.din true (.var 0) (.var 1)) [.rz "NoTable" [(.fstr [(.str "there is no table "),(.fmt (.var 0))])]] [],.ret (.dix (.var 1) (.var 0))]
def xJ:List D3.S:=[.expr (.call "columns_of" 2 [(.var 0),(.var 1)]),.ret (.call "stepped" 2 [(.var 0),(.var 1)])]
def xK:List D3.S:=[.expr (.call "columns_of" 2 [(.var 0),(.var 1)]),.set 2 (.lst []),.set 3 (.var 0),.whl 1000000 (.cmp .IsNot (.var 3) .non) nX,.retV 2]
def lR:List D3.S:=[.ite (.cmp .Eq (.ix (.var 0) (.int 0)) (.str "pick")) [.set 2 (.frz (.call "behind_pick" 3 [(.ix (.var 0) (.int 1)),(.ix (.var 0) (.int 2)),(.var 1)])),.ite (.cmp .IsNot (.var 2) .non) [.retV 2] []] [],.set 3 (.frz (.call "askings_within" 1 [(.var 0)])),.for (.enum1 (.var 3)) (.tp [(.nm 4),(.nm 5)]) lN,.ret .non]
def xL:List D3.S:=[.ite (.cmp .Eq (.ix (.var 1) (.int 0)) (.str "both")) [.ret (.tup [(.str "pick"),(.tup [(.str "pick"),(.var 0),(.ix (.var 1) (.int 1))]),(.ix (.var 1) (.int 2))])] [],.ite (.andL [(.cmp .Eq (.ix (.var 1) (.int 0)) (.str "not")),(.cmp .Eq (.ix (.ix (.var 1) (.int 1)) (.int 0)) (.str "not"))]) [.ret (.tup [(.str "pick"),(.var 0),(.ix (.ix (.var 1) (.int 1)) (.int 1))])] [],.ite (.andL [(.cmp .Eq (.ix (.var 1) (.int 0)) (.str "not")),(.cmp .Eq (.ix (.ix (.var 1) (.int 1)) (.int 0)) (.str "either"))]) [.ret (.tup [(.str "pick"),(.var 0),(.tup [(.str "both"),(.tup [(.str "not"),(.ix (.ix (.var 1) (.int 1)) (.int 1))]),(.tup [(.str "not"),(.ix (.ix (.var 1) (.int 1)) (.int 2))])])])] [],.ret (.call "sunk" 3 [(.var 0),(.var 1),(.var 2)])]
def rE:List D3.S:=[.set 3 (.ix (.var 0) (.int 0)),.ite (.cmp .Eq (.var 3) (.str "table")) [.ret .non] [],.ite (.cmp .Eq (.var 3) (.str "pick")) [.set 4 (.frz (.call "sunk" 3 [(.ix (.var 0) (.int 1)),(.var 1),(.var 2)])),.ite (.cmp .Is (.var 4) .non) [.ret .non] [],.ret (.tup [(.str "pick"),(.var 4),(.ix (.var 0) (.int 2))])] [],.ite (.cmp .Eq (.var 3) (.str "join")) [.ret (.call "sunk_into_join" 3 [(.var 0),(.var 1),(.var 2)])] [],.ite (.cmp .Eq (.var 3) (.str "pour")) [.ret (.tup [(.str "pour"),(.tup [(.str "pick"),(.ix (.var 0) (.int 1)),(.var 1)]),(.tup [(.str "pick"),(.ix (.var 0) (.int 2)),(.var 1)])])] [],.ite (.cmp .Eq (.var 3) (.str "call")) [.set 5 (.frz (.dzip (.ix (.var 0) (.int 2)) (.call "columns_of" 2 [(.ix (.var 0) (.int 1)),(.var 2)]))),.ret (.tup [(.str "call"),(.tup [(.str "pick"),(.ix (.var 0) (.int 1)),(.frz (.call "called" 2 [(.var 1),(.var 5)]))]),(.ix (.var 0) (.int 2))])] [],.ret (.call "rebuilt" 2 [(.var 0),(.tup [(.tup [(.str "pick"),(.ix (.var 0) (.int 1)),(.var 1)])])])]
def aLZ:List D3.S:=[.par 3 4 (.ix (.var 0) (.int 1)) (.ix (.var 0) (.int 2)),.ite (.tru (.call "has_all" 2 [(.frz (.call "columns_of" 2 [(.var 3),(.var 2)])),(.var 1)])) [.ret (.tup [(.str "join"),(.tup [(.str "pick"),(.var 3),(.var 1)]),(.var 4)])] [],.ite (.tru (.call "has_all" 2 [(.frz (.call "columns_of" 2 [(.var 4),(.var 2)])),(.var 1)])) [.ret (.tup [(.str "join"),(.var 3),(.tup [(.str "pick"),(.var 4),(.var 1)])])] [],.ret .non]
def aL0:List D3.S:=[.ret (.bcall .all [(.comp (.cmp .In (.var 1) (.var 0)) (.items (.call "columns_in" 1 [(.var 1)])) [] [0] (.nm 1) 1)])]
def lS:List D3.S:=[.ite (.cmp .Lt (.var 1) (.bcall .len [(.var 0)])) [.ret (.ix (.var 0) (.var 1))] [],.ret (.int 0)]
def xM:List D3.S:=[.set 2 (.frz (.bin .Mod (.bin .Mult (.bin .Add (.var 0) (.int 7)) (.int 48271)) (.int 2147483647))),.ret (.bin .Mod (.bin .Mult (.var 2) (.var 2)) (.var 1))]
def hU:List D3.S:=[.set 2 (.frz (.bin .Add (.int 1) (.bin .Mod (.var 0) (.int 6)))),.ite (.cmp .Eq (.bin .Mod (.bin .FloorDiv (.var 0) (.int 6)) (.int 9)) (.int 4)) [.set 2 (.int 40)] [],.ite (.cmp .Eq (.bin .Mod (.bin .FloorDiv (.var 0) (.int 54)) (.int 4)) (.int 1)) [.ret (.comp (.bin .Mult (.str "p") (.bin .Add (.var 0) (.int 1))) (.rng1 (.var 1)) [] [] (.nm 0) 1)] [],.set 3 (.frz (.bin .Mod (.bin .FloorDiv (.var 0) (.int 216)) (.var 2))),.ret (.comp (.bin .Add (.bin .Add (.bin .Mult (.str "r") (.var 0)) (.ix (.str "kmqbzwhvcjxf") (.var 3))) (.bin .Mult (.ix (.str "r7") (.bin .Mod (.var 1) (.int 2))) (.bin .Sub (.bin .Sub (.var 2) (.var 0)) (.int 1)))) (.rng1 (.var 1)) [] [3,0,2] (.nm 3) 1)]
def oB:List D3.S:=[.set 2 .dnew,.dput 2 (.ix (.var 0) (.int 0)) (.tup [(.ix (.var 1) (.int 0)),(.ix (.var 1) (.int 1))]),.dput 2 (.ix (.var 0) (.int 1)) (.tup [(.ix (.var 1) (.int 1)),(.ix (.var 1) (.int 2))]),.dput 2 (.ix (.var 0) (.int 2)) (.tup [(.ix (.var 1) (.int 3)),(.ix (.var 1) (.int 4))]),.retV 2]
def xN:List D3.S:=[.set 1 (.lst [(.isx1 (.var 0) "NoTable"),(.isx1 (.var 0) "NoColumn"),(.isx1 (.var 0) "Twice")]),.app 1 (.isx1 (.var 0) "Unlike"),.ite (.orL [(.tru (.isxT (.var 0) ["NoName", "NoNote", "NoKind"])),(.tru (.isxT (.var 0) ["Misfit", "NotPlain", "NoText"]))]) [.app 1 (.bl true)] [],.ite (.not (.tru (.isx1 (.var 0) "ValueError"))) [.app 1 (.bl false)] [],.retV 1]
def xO:List D3.S:=[.set 3 .non,.tr [.ite (.tru (.var 0)) [.expr (.call "steps" 2 [(.var 1),(.var 2)])] [.expr (.call "step" 2 [(.var 1),(.var 2)])]] [.mk "WhenceError" (some 4) [.set 3 (.var 4)]],.ite (.cmp .Is (.var 3) .non) [.ret (.lst [])] [],.ret (.call "_law_classes" 1 [(.var 3)])]
def dF:List D3.S:=[.set 5 (.frz (.bin .FloorDiv (.var 0) (.int 12))),.set 6 (.lst [(.var 2),(.var 3)]),.ins 6 (.bin .Mod (.var 5) (.int 3)) (.var 4),.set 6 (.tcall .tuple [(.var 6)]),.set 7 (.frz (.tcall .tuple [(.slice (.lst [(.var 2),(.var 3),(.var 2),(.var 3)]) (some (.bin .Mod (.var 5) (.int 2))) (some (.bin .Add (.bin .Mod (.var 5) (.int 2)) (.int 3))))])),.ite (.cmp .Eq (.bin .Mod (.var 0) (.int 12)) (.int 0)) [.set 8 (.frz (.lst [(.tup [(.str "of"),(.var 2)]),(.tup [(.str "of"),(.var 4)])])),.set 9 (.tup [(.str "under"),(.ix (.var 8) (.bin .Mod (.var 5) (.int 2))),(.ix (.var 8) (.bin .Sub (.int 1) (.bin .Mod (.var 5) (.int 2))))]),.ite (.cmp .Eq (.bin .Mod (.bin .FloorDiv (.var 5) (.int 2)) (.int 3)) (.int 1)) [.set 9 (.tup [(.str "either"),(.tup [(.str "same"),(.tup [(.str "of"),(.var 3)]),(.tup [(.str "just"),(.int 0)])]),(.tup [(.str "not"),(.var 9)])])] [],.ret (.tup [(.tup [(.str "pick"),(.var 1),(.var 9)]),(.int 1)])] [],.ite (.cmp .Eq (.bin .Mod (.var 0) (.int 12)) (.int 1)) [.ret (.tup [(.tup [(.str "keep"),(.var 1),(.var 6)]),(.int 1)])] [],.ite (.cmp .Eq (.bin .Mod (.var 0) (.int 12)) (.int 2)) [.ret (.tup [(.tup [(.str "total"),(.var 1),(.var 4),(.ix (.lst [(.tup []),(.tup [(.var 2)]),(.var 7)]) (.bin .Mod (.var 5) (.int 3)))]),(.int 1)])] [],.ite (.cmp .Eq (.bin .Mod (.var 0) (.int 12)) (.int 3)) [.ret (.tup [(.tup [(.str "total"),(.var 1),(.var 3),(.var 6)]),(.int 1)])] [],.ite (.cmp .Eq (.bin .Mod (.var 0) (.int 12)) (.int 4)) [.ret (.tup [(.tup [(.str "keep"),(.var 1),(.frz (.bin .Add (.var 7) (.mulT (.tup [(.var 4)]) (.bin .Mod (.bin .FloorDiv (.var 5) (.int 2)) (.int 2)))))]),(.int 2)])] [],.ite (.cmp .Eq (.bin .Mod (.var 0) (.int 12)) (.int 5)) [.ret (.tup [(.tup [(.str "total"),(.var 1),(.var 2),(.var 7)]),(.int 2)])] [],.ite (.cmp .Eq (.bin .Mod (.var 0) (.int 12)) (.int 6)) [.ret (.tup [(.tup [(.str "call"),(.var 1),(.tup [(.var 4),(.var 4)])]),(.int 2)])] [],.ite (.cmp .Eq (.bin .Mod (.var 0) (.int 12)) (.int 7)) [.ret (.tup [(.tup [(.str "call"),(.var 1),(.ix (.lst [(.tup []),(.tup [(.var 4)]),(.var 7),(.tup [(.var 4),(.var 4),(.var 4)])]) (.bin .Mod (.var 5) (.int 4)))]),(.int 3)])] [],.ite (.cmp .Eq (.bin .Mod (.var 0) (.int 12)) (.int 8)) [.ret (.tup [(.tup [(.str "pour"),(.var 1),(.tup [(.str "keep"),(.var 1),(.ix (.lst [(.tup [(.var 2)]),(.tup [(.var 3),(.var 2)]),(.tup [])]) (.bin .Mod (.var 5) (.int 3)))])]),(.int 3)])] [],.ite (.cmp .Eq (.bin .Mod (.var 0) (.int 12)) (.int 9)) [.ret (.tup [(.tup [(.str "leave"),(.var 1),(.tup [(.str "call"),(.var 1),(.ix (.lst [(.tup [(.var 2),(.var 4)]),(.tup [(.var 4),(.var 3)])]) (.bin .Mod (.var 5) (.int 2)))])]),(.int 3)])] [],.ite (.cmp .Eq (.bin .Mod (.var 0) (.int 12)) (.int 10)) [.ret (.tup [(.tup [(.str "keep"),(.var 1),(.tup [(.var 4),(.var 2),(.var 2)])]),(.int 1)])] [],.ret (.tup [(.tup [(.str "leave"),(.tup [(.str "keep"),(.var 1),(.tup [(.var 2)])]),(.var 1)]),(.int 3)])]
def eT:List D3.S:=[.set 5 (.frz (.bin .Mod (.var 0) (.int 8))),.set 6 (.frz (.bin .FloorDiv (.var 0) (.int 8))),.set 7 (.ix (.lst [(.tup []),(.tup [(.var 3)]),(.tup [(.var 4)]),(.tup [(.var 3),(.var 3)])]) (.bin .Mod (.var 6) (.int 4))),.ite (.cmp .Eq (.var 5) (.int 0)) [.ret (.tup [(.str "keep"),(.var 1),(.var 7)])] [],.ite (.cmp .Eq (.var 5) (.int 1)) [.ret (.tup [(.str "call"),(.var 1),(.var 7)])] [],.ite (.cmp .Eq (.var 5) (.int 2)) [.ret (.tup [(.str "pick"),(.var 1),(.tup [(.str "not"),(.tup [(.str "same"),(.tup [(.str "of"),(.ix (.lst [(.var 3),(.var 4)]) (.bin .Mod (.var 6) (.int 2)))]),(.tup [(.str "just"),(.frz (.bin .Mod (.var 6) (.bin .Pow (.int 10) (.int 9))))])])])])] [],.ite (.cmp .Eq (.var 5) (.int 3)) [.ret (.tup [(.str "total"),(.var 1),(.var 3),(.var 7)])] [],.set 8 (.var 2),.ite (.cmp .Eq (.bin .Mod (.var 6) (.int 2)) (.int 1)) [.set 8 (.tup [(.str "keep"),(.var 2),(.tup [(.var 4),(.var 4)])])] [],.ite (.cmp .Eq (.var 5) (.int 4)) [.ret (.tup [(.str "pour"),(.var 1),(.var 8)])] [],.ite (.cmp .Eq (.var 5) (.int 5)) [.ret (.tup [(.str "leave"),(.var 1),(.var 8)])] [],.ite (.cmp .Eq (.var 5) (.int 6)) [.ret (.tup [(.str "join"),(.var 1),(.var 8)])] [],.ret (.tup [(.ix (.lst [(.str "join"),(.str "pour"),(.str "leave")]) (.bin .Mod (.var 6) (.int 3))),(.var 2),(.var 1)])]
def gI:List D3.S:=[.set 1 (.frz (.tcall .tuple [(.call "_law_names" 2 [(.frz (.call "_law_cell_at" 2 [(.var 0),(.int 0)])),(.int 7)])])),.set 2 (.frz (.call "_law_names" 2 [(.frz (.call "_law_cell_at" 2 [(.var 0),(.int 1)])),(.int 4)])),.set 3 (.frz (.call "_law_shapes" 2 [(.var 2),(.var 1)])),.asg (.tp [(.nm 4),(.nm 5)]) (.dix (.var 3) (.ix (.var 2) (.int 0))),.set 6 (.tup [(.str "table"),(.ix (.var 2) (.int 0))]),.set 7 (.frz (.call "_law_mixed" 2 [(.frz (.call "_law_cell_at" 2 [(.var 0),(.int 2)])),(.int 1000000007)])),.asg (.tp [(.nm 8),(.nm 9)]) (.call "_law_fault" 5 [(.var 7),(.var 6),(.var 4),(.var 5),(.ix (.var 1) (.int 6))]),.ite (.cmp .Eq (.bin .Mod (.call "_law_cell_at" 2 [(.var 0),(.int 3)]) (.int 5)) (.int 1)) [.set 8 (.tup [(.str "table"),(.ix (.var 2) (.int 3))]),.set 9 (.int 0)] [],.ite (.cmp .Eq (.bin .Mod (.call "_law_cell_at" 2 [(.var 0),(.int 3)]) (.int 5)) (.int 2)) [.set 8 (.tup [(.str "join"),(.var 8),(.tup [(.str "table"),(.ix (.var 2) (.int 3))])])] [],.for (.items (.slice (.var 0) (some (.int 4)) (some (.int 16)))) (.nm 10) lO,.set 11 (.frz (.tcall .dict [(.var 3)])),.setC 12 true (.comp (.cmp .Eq (.var 1) (.var 0)) (.rng1 (.int 4)) [] [9] (.nm 1) 1),.set 13 (.cmp .Eq (.bin .Mod (.bin .FloorDiv (.call "_law_cell_at" 2 [(.var 0),(.int 3)]) (.int 5)) (.int 2)) (.int 1)),.ite (.orL [(.cmp .NotEq (.call "_law_refused" 3 [(.var 13),(.var 8),(.var 11)]) (.var 12)),(.cmp .NotEq (.call "_law_refused" 3 [(.not (.var 13)),(.var 8),(.var 11)]) (.var 12))]) [.ret (.bl false)] [],.set 14 (.tup [(.str "keep"),(.tup [(.str "pick"),(.var 6),(.tup [(.str "same"),(.tup [(.str "of"),(.var 4)]),(.tup [(.str "of"),(.var 5)])])]),(.tup [(.var 5)])]),.ret (.andL [(.cmp .Eq (.ix (.call "steps" 2 [(.var 14),(.var 11)]) (.int 0)) (.var 14)),(.cmp .Is (.call "step" 2 [(.var 14),(.var 11)]) .non),(.deq false (.var 11) (.var 3))])]
def xP:FD:=⟨["columns", "at"],["columns", "at"],nY⟩
def xQ:FD:=⟨["test"],["test", "word"],gH⟩
def aL1:FD:=⟨["test", "names"],["test", "names", "word"],aLW⟩
def aL2:FD:=⟨["part", "names"],["part", "names"],aLX⟩
def xR:FD:=⟨["asking"],["asking"],hG⟩
def aL3:FD:=⟨["asking", "within"],["asking", "within"],aLY⟩
def xS:FD:=⟨["column", "columns"],["column", "columns"],nZ⟩
def xT:FD:=⟨["asking", "within"],["asking", "within", "column"],xE⟩
def xU:FD:=⟨["columns", "within"],["columns", "within", "at", "column"],xF⟩
def xV:FD:=⟨["asking", "within"],["asking", "within"],xG⟩
def xW:FD:=⟨["column", "columns", "within"],["column", "columns", "within"],rD⟩
def xX:FD:=⟨["asking", "within"],["asking", "within"],xH⟩
def xY:FD:=⟨["asking", "within"],["asking", "within", "columns", "at"],xI⟩
def xZ:FD:=⟨["asking", "within"],["asking", "within", "one", "other"],lP⟩
def x4:FD:=⟨["asking", "within"],["asking", "within", "one", "other"],lQ⟩
def x5:FD:=⟨["asking", "within"],["asking", "within", "one", "other", "column"],n9⟩
def x6:FD:=⟨["asking", "shapes"],["asking", "shapes", "within", "deed"],d7⟩
def yA:FD:=⟨["name", "shapes"],["name", "shapes"],oA⟩
def yB:FD:=⟨["asking", "shapes"],["asking", "shapes"],xJ⟩
def yC:FD:=⟨["asking", "shapes"],["asking", "shapes", "found", "behind"],xK⟩
def yD:FD:=⟨["asking", "shapes"],["asking", "shapes", "behind", "within", "at", "one"],lR⟩
def yE:FD:=⟨["asking", "test", "shapes"],["asking", "test", "shapes"],xL⟩
def yF:FD:=⟨["asking", "test", "shapes"],["asking", "test", "shapes", "word", "within", "names"],rE⟩
def aL4:FD:=⟨["asking", "test", "shapes"],["asking", "test", "shapes", "one", "other"],aLZ⟩
def aL5:FD:=⟨["columns", "test"],["columns", "test"],aL0⟩
def yG:FD:=⟨["_law_script", "_law_k"],["_law_script", "_law_k"],lS⟩
def yH:FD:=⟨["_law_cell", "_law_prime"],["_law_cell", "_law_prime", "_law_number"],xM⟩
def yI:FD:=⟨["_law_cell", "_law_many"],["_law_cell", "_law_many", "_law_size", "_law_at"],hU⟩
def yJ:FD:=⟨["_law_tables", "_law_pool"],["_law_tables", "_law_pool", "_law_shapes_here"],oB⟩
def yK:FD:=⟨["_law_error"],["_law_error", "_law_found"],xN⟩
def yL:FD:=⟨["_law_many", "_law_asking", "_law_shapes_here"],["_law_many", "_law_asking", "_law_shapes_here", "_law_caught", "e"],xO⟩
def yM:FD:=⟨["_law_cell", "_law_base", "_law_one", "_law_other", "_law_gone"],["_law_cell", "_law_base", "_law_one", "_law_other", "_law_gone", "_law_more", "_law_row", "_law_twice", "_law_part", "_law_test"],dF⟩
def yN:FD:=⟨["_law_cell", "_law_inner", "_law_good", "_law_one", "_law_gone"],["_law_cell", "_law_inner", "_law_good", "_law_one", "_law_gone", "_law_way", "_law_more", "_law_columns", "_law_other"],eT⟩
def rF:FD:=⟨["_law_script"],["_law_script", "_law_pool", "_law_tables", "_law_shapes_here", "_law_one", "_law_other", "_law_base", "_law_number", "_law_asking", "_law_due", "_law_cell", "_law_handed", "_law_wanted", "_law_many", "_law_taken"],gI⟩
def T:List (Str×FD):=[(("refuse_twice" : Str),xP),(("columns_in" : Str),xQ),(("called" : Str),aL1),(("called_part" : Str),aL2),(("askings_within" : Str),xR),(("rebuilt" : Str),aL3),(("refuse_missing" : Str),xS),(("columns_of_pick" : Str),xT),(("kept" : Str),xU),(("columns_of_keep" : Str),xV),(("totalled" : Str),xW),(("columns_of_total" : Str),xX),(("columns_of_call" : Str),xY),(("columns_of_join" : Str),xZ),(("columns_of_pour" : Str),x4),(("columns_of_leave" : Str),x5),(("columns_of" : Str),x6),(("columns_of_table" : Str),yA),(("step" : Str),yB),(("steps" : Str),yC),(("stepped" : Str),yD),(("behind_pick" : Str),yE),(("sunk" : Str),yF),(("sunk_into_join" : Str),aL4),(("has_all" : Str),aL5),(("_law_cell_at" : Str),yG),(("_law_mixed" : Str),yH),(("_law_names" : Str),yI),(("_law_shapes" : Str),yJ),(("_law_classes" : Str),yK),(("_law_refused" : Str),yL),(("_law_fault" : Str),yM),(("_law_round" : Str),yN),(("law" : Str),rF)]
def TT:TB:=⟨T,[],[],[((("Twice" : Str),("WhenceError" : Str)),true),((("NoColumn" : Str),("WhenceError" : Str)),true),((("Unlike" : Str),("WhenceError" : Str)),true),((("NoTable" : Str),("WhenceError" : Str)),true)],[((("Twice" : Str),("NoTable" : Str)),false),((("Twice" : Str),("NoColumn" : Str)),false),((("Twice" : Str),("Twice" : Str)),true),((("Twice" : Str),("Unlike" : Str)),false),((("Twice" : Str),("NoName" : Str)),false),((("Twice" : Str),("NoNote" : Str)),false),((("Twice" : Str),("NoKind" : Str)),false),((("Twice" : Str),("Misfit" : Str)),false),((("Twice" : Str),("NotPlain" : Str)),false),((("Twice" : Str),("NoText" : Str)),false),((("Twice" : Str),("ValueError" : Str)),true),((("NoColumn" : Str),("NoTable" : Str)),false),((("NoColumn" : Str),("NoColumn" : Str)),true),((("NoColumn" : Str),("Twice" : Str)),false),((("NoColumn" : Str),("Unlike" : Str)),false),((("NoColumn" : Str),("NoName" : Str)),false),((("NoColumn" : Str),("NoNote" : Str)),false),((("NoColumn" : Str),("NoKind" : Str)),false),((("NoColumn" : Str),("Misfit" : Str)),false),((("NoColumn" : Str),("NotPlain" : Str)),false),((("NoColumn" : Str),("NoText" : Str)),false),((("NoColumn" : Str),("ValueError" : Str)),true),((("Unlike" : Str),("NoTable" : Str)),false),((("Unlike" : Str),("NoColumn" : Str)),false),((("Unlike" : Str),("Twice" : Str)),false),((("Unlike" : Str),("Unlike" : Str)),true),((("Unlike" : Str),("NoName" : Str)),false),((("Unlike" : Str),("NoNote" : Str)),false),((("Unlike" : Str),("NoKind" : Str)),false),((("Unlike" : Str),("Misfit" : Str)),false),((("Unlike" : Str),("NotPlain" : Str)),false),((("Unlike" : Str),("NoText" : Str)),false),((("Unlike" : Str),("ValueError" : Str)),true),((("NoTable" : Str),("NoTable" : Str)),true),((("NoTable" : Str),("NoColumn" : Str)),false),((("NoTable" : Str),("Twice" : Str)),false),((("NoTable" : Str),("Unlike" : Str)),false),((("NoTable" : Str),("NoName" : Str)),false),((("NoTable" : Str),("NoNote" : Str)),false),((("NoTable" : Str),("NoKind" : Str)),false),((("NoTable" : Str),("Misfit" : Str)),false),((("NoTable" : Str),("NotPlain" : Str)),false),((("NoTable" : Str),("NoText" : Str)),false),((("NoTable" : Str),("ValueError" : Str)),true)]⟩
def GG:MG:=⟨[(("DEEDS" : Str),(GV.con (.t [("pick", "columns_of_pick"),("keep", "columns_of_keep"),("call", "columns_of_call"),("join", "columns_of_join"),("pour", "columns_of_pour"),("total", "columns_of_total"),("leave", "columns_of_leave")]))),(("Misfit" : Str),(GV.cls)),(("NoColumn" : Str),(GV.cls)),(("NoKind" : Str),(GV.cls)),(("NoName" : Str),(GV.cls)),(("NoNote" : Str),(GV.cls)),(("NoTable" : Str),(GV.cls)),(("NoText" : Str),(GV.cls)),(("NotPlain" : Str),(GV.cls)),(("Twice" : Str),(GV.cls)),(("Unlike" : Str),(GV.cls)),(("ValueError" : Str),(GV.no)),(("WhenceError" : Str),(GV.cls)),(("_law_cell_at" : Str),(GV.fn 2)),(("_law_classes" : Str),(GV.fn 1)),(("_law_fault" : Str),(GV.fn 5)),(("_law_mixed" : Str),(GV.fn 2)),(("_law_names" : Str),(GV.fn 2)),(("_law_refused" : Str),(GV.fn 3)),(("_law_round" : Str),(GV.fn 5)),(("_law_shapes" : Str),(GV.fn 2)),(("all" : Str),(GV.no)),(("askings_within" : Str),(GV.fn 1)),(("behind_pick" : Str),(GV.fn 3)),(("called" : Str),(GV.fn 2)),(("called_part" : Str),(GV.fn 2)),(("columns_in" : Str),(GV.fn 1)),(("columns_of" : Str),(GV.fn 2)),(("columns_of_call" : Str),(GV.fn 2)),(("columns_of_join" : Str),(GV.fn 2)),(("columns_of_keep" : Str),(GV.fn 2)),(("columns_of_leave" : Str),(GV.fn 2)),(("columns_of_pick" : Str),(GV.fn 2)),(("columns_of_pour" : Str),(GV.fn 2)),(("columns_of_table" : Str),(GV.fn 2)),(("columns_of_total" : Str),(GV.fn 2)),(("dict" : Str),(GV.no)),(("enumerate" : Str),(GV.no)),(("has_all" : Str),(GV.fn 2)),(("isinstance" : Str),(GV.no)),(("kept" : Str),(GV.fn 2)),(("len" : Str),(GV.no)),(("range" : Str),(GV.no)),(("rebuilt" : Str),(GV.fn 2)),(("refuse_missing" : Str),(GV.fn 2)),(("refuse_twice" : Str),(GV.fn 2)),(("step" : Str),(GV.fn 2)),(("stepped" : Str),(GV.fn 2)),(("steps" : Str),(GV.fn 2)),(("sunk" : Str),(GV.fn 3)),(("sunk_into_join" : Str),(GV.fn 3)),(("totalled" : Str),(GV.fn 3)),(("tuple" : Str),(GV.no)),(("zip" : Str),(GV.no))],[],[],[],["Twice", "NoColumn", "Unlike", "NoTable"],["NoTable", "NoColumn", "Twice", "Unlike", "NoName", "NoNote", "NoKind", "Misfit", "NotPlain", "NoText", "ValueError"]⟩
def top(i:Nat):Stmt:=PySem.Challenge.pw_whencewise_k63_plans_refused.main.body.getD i (.Pass ⟨0,0,0,0⟩)
abbrev rG:Stmt:=top 51
theorem yO(k:Nat):(WT TT (k+1)).Φ "refuse_twice" = phi 2 2 (evB (WT TT k) nY):=bM (d:=xP) rfl
theorem rH(k:Nat):(WT TT (k+1)).Φ "columns_in" = phi 1 2 (evB (WT TT k) gH):=bM (d:=xQ) rfl
theorem rJ(k:Nat):(WT TT (k+1)).Φ "askings_within" = phi 1 1 (evB (WT TT k) hG):=bM (d:=xR) rfl
theorem yP(k:Nat):(WT TT (k+1)).Φ "refuse_missing" = phi 2 2 (evB (WT TT k) nZ):=bM (d:=xS) rfl
theorem aL6(k:Nat):(WT TT (k+1)).Φ "columns_of_pick" = phi 2 3 (evB (WT TT k) xE):=bM (d:=xT) rfl
theorem aL7(k:Nat):(WT TT (k+1)).Φ "kept" = phi 2 4 (evB (WT TT k) xF):=bM (d:=xU) rfl
theorem aL8(k:Nat):(WT TT (k+1)).Φ "columns_of_keep" = phi 2 2 (evB (WT TT k) xG):=bM (d:=xV) rfl
theorem aL9(k:Nat):(WT TT (k+1)).Φ "totalled" = phi 3 3 (evB (WT TT k) rD):=bM (d:=xW) rfl
theorem aMA(k:Nat):(WT TT (k+1)).Φ "columns_of_total" = phi 2 2 (evB (WT TT k) xH):=bM (d:=xX) rfl
theorem aMB(k:Nat):(WT TT (k+1)).Φ "columns_of_call" = phi 2 4 (evB (WT TT k) xI):=bM (d:=xY) rfl
theorem aMC(k:Nat):(WT TT (k+1)).Φ "columns_of_join" = phi 2 4 (evB (WT TT k) lP):=bM (d:=xZ) rfl
theorem aMD(k:Nat):(WT TT (k+1)).Φ "columns_of_pour" = phi 2 4 (evB (WT TT k) lQ):=bM (d:=x4) rfl
theorem aME(k:Nat):(WT TT (k+1)).Φ "columns_of_leave" = phi 2 5 (evB (WT TT k) n9):=bM (d:=x5) rfl
theorem rK(k:Nat):(WT TT (k+1)).Φ "columns_of" = phi 2 4 (evB (WT TT k) d7):=bM (d:=x6) rfl
theorem yQ(k:Nat):(WT TT (k+1)).Φ "columns_of_table" = phi 2 2 (evB (WT TT k) oA):=bM (d:=yA) rfl
theorem yR(k:Nat):(WT TT (k+1)).Φ "step" = phi 2 2 (evB (WT TT k) xJ):=bM (d:=yB) rfl
theorem yS(k:Nat):(WT TT (k+1)).Φ "steps" = phi 2 4 (evB (WT TT k) xK):=bM (d:=yC) rfl
theorem aMF(k:Nat):(WT TT (k+1)).Φ "stepped" = phi 2 6 (evB (WT TT k) lR):=bM (d:=yD) rfl
theorem aMG(k:Nat):(WT TT (k+1)).Φ "behind_pick" = phi 3 3 (evB (WT TT k) xL):=bM (d:=yE) rfl
theorem aMH(k:Nat):(WT TT (k+1)).Φ "sunk" = phi 3 6 (evB (WT TT k) rE):=bM (d:=yF) rfl
theorem aMI(k:Nat):(WT TT (k+1)).Φ "_law_cell_at" = phi 2 2 (evB (WT TT k) lS):=bM (d:=yG) rfl
theorem aMJ(k:Nat):(WT TT (k+1)).Φ "_law_mixed" = phi 2 3 (evB (WT TT k) xM):=bM (d:=yH) rfl
theorem aMK(k:Nat):(WT TT (k+1)).Φ "_law_names" = phi 2 4 (evB (WT TT k) hU):=bM (d:=yI) rfl
theorem aML(k:Nat):(WT TT (k+1)).Φ "_law_shapes" = phi 2 3 (evB (WT TT k) oB):=bM (d:=yJ) rfl
theorem aMM(k:Nat):(WT TT (k+1)).Φ "_law_classes" = phi 1 2 (evB (WT TT k) xN):=bM (d:=yK) rfl
theorem aMN(k:Nat):(WT TT (k+1)).Φ "_law_refused" = phi 3 5 (evB (WT TT k) xO):=bM (d:=yL) rfl
theorem aMO(k:Nat):(WT TT (k+1)).Φ "_law_fault" = phi 5 10 (evB (WT TT k) dF):=bM (d:=yM) rfl
theorem aMP(k:Nat):(WT TT (k+1)).Φ "_law_round" = phi 5 9 (evB (WT TT k) eT):=bM (d:=yN) rfl
theorem u_law(k:Nat):(WT TT (k+1)).Φ "law" = phi 1 15 (evB (WT TT k) gI):=bM (d:=rF) rfl
theorem j7{ds:List D}{m m':Md}{i:Int}{d:D}(h:atI ds i=some d):op2 ixD (.ok m (.lst ds)) (.ok m' (.int i))=.ok .fz d:=bP (by show (atI ds i).map _=_;rw[h];rfl)
theorem eU{ds:List D}{m m':Md}{i:Int}{d:D}(h:atI ds i=some d):op2 ixD (.ok m (.tup ds)) (.ok m' (.int i))=.ok .fz d:=bP (by show (atI ds i).map _=_;rw[h];rfl)
theorem ix_s{z:Str}{m m':Md}{i:Int}{c:Nat}(h:atI z.cps.toList i=some c):op2 ixD (.ok m (.str z)) (.ok m' (.int i))=.ok .fz (.str ⟨#[c]⟩):=bP (by show (atI z.cps.toList i).map _=_;rw[h];rfl)
theorem aMQ{α:Type}(xs:List α)(v:Int)(n:Int)(hn:n=xs.length)(h:0<n):∃ c,c∈xs/\atI xs (v % n)=some c:=by
 have h0:=Int.emod_nonneg v (show n≠0 by omega)
 have h1:=Int.emod_lt_of_pos v h;obtain ⟨j,hj⟩:=Int.eq_ofNat_of_zero_le h0;have hl:j<xs.length:=by omega
 exact ⟨xs[j],aQ6 hl,by rw[hj];exact cD (aQ5 hl)⟩
def ce(ns:List Int)(i:Int):Int:=if 0<=i then (ns[i.toNat]?).getD 0 else 0
theorem cell(k:Nat)(ns:List Int){i:Int}(h0:0<=i):(WT TT (k+1)).Φ "_law_cell_at" [.lst (ns.map .int),.int i]=.ok .fz (.int (ce ns i)):=by
 rw[aMI];refine bL rfl ?_;show evB _ lS [some (false,.lst (ns.map .int)),some (false,.int i)]=_;obtain ⟨j,rfl⟩:=Int.eq_ofNat_of_zero_le h0;unfold ce;rw[if_pos h0];by_cases h:j<ns.length
 . have hx:op2 ixD (.ok .fz (.lst (ns.map .int))) (.ok .fz (.int j))=.ok .fz (.int ns[j]):=j7 (cD (by rw[aPR,aQ5 h];rfl))
   have h':((j:Int)<(ns.length:Int)):=by omega
   simp[lS,h',hx,h]
 . have h':¬ ((j:Int)<(ns.length:Int)):=by omega
   simp[lS,h',List.getElem?_eq_none (Nat.le_of_not_lt h)]
theorem oC{n:Int}(h0:0<=n)(h1:n<=1000){m:Md}:jA (.ok [(m,.int n)])=.ok .fz (.lst (bT 0 n)):=by unfold jA;rw[aW.thn_ok];dsimp only;rw[if_pos];simp only[aQB,aQQ];omega
theorem mem_range{d:D}{n:Int}(h:d∈bT 0 n):∃ i:Nat,(i:Int)<n/\d=.int i:=by simp only[bT,aSQ,aON] at h;obtain ⟨i,hi,rfl⟩:=h;exact ⟨i,by omega,by simp⟩
inductive Pt where | of (k:Str) | just (v:D)
inductive Ts where | atom (s:Bool) (p q:Pt) | no (t:Ts) | two (e:Bool) (a b:Ts)
def ptD(f:List Str):Pt->D
 | .of k=>.tup [.str "of", .str k]
 | .just v=>.tup [.str "just", v]
def tsD(f:List Str):Ts->D
 | .atom s p q=>.tup [.str (if s then "same" else "under"),ptD f p,ptD f q]
 | .no t=>.tup [.str "not", tsD f t]
 | .two e a b=>.tup [.str (if e then "either" else "both"),tsD f a,tsD f b]
def Ts.dep:Ts->Nat
 | .atom ..=>0
 | .no t=>t.dep+1
 | .two _ a b=>max a.dep b.dep+1
theorem i0{a b:D}{m m':Md}:op2 ixD (.ok m (.tup [a,b])) (.ok m' (.int 0))=.ok .fz a:=eU (cD (j:=0) rfl)
theorem i1{a b:D}{m m':Md}:op2 ixD (.ok m (.tup [a,b])) (.ok m' (.int 1))=.ok .fz b:=eU (cD (j:=1) rfl)
theorem j0{a b c:D}{m m':Md}:op2 ixD (.ok m (.tup [a,b,c])) (.ok m' (.int 0))=.ok .fz a:=eU (cD (j:=0) rfl)
theorem j1{a b c:D}{m m':Md}:op2 ixD (.ok m (.tup [a,b,c])) (.ok m' (.int 1))=.ok .fz b:=eU (cD (j:=1) rfl)
theorem j2{a b c:D}{m m':Md}:op2 ixD (.ok m (.tup [a,b,c])) (.ok m' (.int 2))=.ok .fz c:=eU (cD (j:=2) rfl)
theorem wd{a b:String}(h:(Str.ofString a==Str.ofString b)=false:=by decide +kernel):(Str.ofString a==Str.ofString b)=false:=h
def cl(f:List Str):Pt->List D
 | .of k=>[.str k]
 | .just _=>[]
def eV(f:List Str):Ts->List D
 | .atom _ p q=>cl f p++cl f q
 | .no t=>eV f t
 | .two _ a b=>eV f a++eV f b
def j8(w:Str):Bool:=w==Str.ofString "both" || w==Str.ofString "either"
theorem oD{w:Str}{m m':Md}:op2 (bF .In) (.ok m (.str w)) (.ok m' (.tup [.str (Str.ofString "both"),.str (Str.ofString "either")]))=.ok .fz (.bl (j8 w)):=by refine bP ?_;show some (Md.fz,D.bl (eqD (.str (Str.ofString "both")) (.str w)||(eqD (.str (Str.ofString "either")) (.str w)||false)))=_;congr 3;simp only[eqD,j8,Bool.or_false];rw[aQ2];simp only[aQS,aQ0];exact ⟨λh=>h.imp Eq.symm Eq.symm,λh=>h.imp Eq.symm Eq.symm⟩
theorem be:eK (.ok [(.fz,.str (Str.ofString "both")),(.fz,.str (Str.ofString "either"))])=.ok .fz (.tup [.str (Str.ofString "both"),.str (Str.ofString "either")]):=by rfl
theorem w1:j8 (Str.ofString "same")=false:=by decide +kernel
theorem w2:j8 (Str.ofString "under")=false:=by decide +kernel
theorem w3:j8 (Str.ofString "both")=true:=by decide +kernel
theorem w4:j8 (Str.ofString "either")=true:=by decide +kernel
theorem t2{a b:D}:eK (.ok [(.fz,a),(.fz,b)])=.ok .fz (.tup [a,b]):=by rfl
theorem t3{a b c:D}:eK (.ok [(.fz,a),(.fz,b),(.fz,c)])=.ok .fz (.tup [a,b,c]):=by rfl
theorem yT{n:Nat}{Φ:List D->Res}{xs:List (Md×D)}{ds:List D}{d:D}(hl:ds.length=n)(ha:bZ xs=some ds)(h:Φ ds=.ok .fr d):aU n Φ (.ok xs)=.ok .fr d:=by
 show (match bZ xs with | some ds=>if ds.length=n then (match Φ ds with | .ok .bo _=>Res.stuck | r=>r) else .stuck | none=>.stuck)=_
 rw[ha];show (if ds.length=n then (match Φ ds with | .ok .bo _=>Res.stuck | r=>r) else .stuck)=_
 rw[if_pos hl,h]
theorem oE{Φ:List D->Res}{a d:D}(h:Φ [a]=.ok .fr d):aU 1 Φ (.ok [(.fz,a)])=.ok .fr d:=yT (ds:=[a]) rfl rfl h
theorem cn_no(k:Nat){f:List Str}{t:Ts}{c:List D}(h:(WT TT k).Φ "columns_in" [tsD f t]=.ok .fr (.lst c)):(WT TT (k+1)).Φ "columns_in" [tsD f (.no t)]=.ok .fr (.lst c):=by have c1:aU 1 ((WT TT k).Φ "columns_in") (.ok [(.fz,tsD f t)])=.ok .fr (.lst c):=oE h;rw[rH];refine bL rfl ?_;show evB (WT TT k) gH [some (false,.tup [.str "not", tsD f t]),none]=_;generalize tsD f t=d at *;simp[gH,i0,i1,c1]
theorem aMR(k:Nat){f:List Str}{e:Bool}{t u:Ts}{b c:List D}(h:(WT TT k).Φ "columns_in" [tsD f t]=.ok .fr (.lst b))(h':(WT TT k).Φ "columns_in" [tsD f u]=.ok .fr (.lst c))(hs:b.length+c.length<=sizeLine):(WT TT (k+1)).Φ "columns_in" [tsD f (.two e t u)]=.ok .fr (.lst (b++c)):=by
 have c1:aU 1 ((WT TT k).Φ "columns_in") (.ok [(.fz,tsD f t)])=.ok .fr (.lst b):=oE h;have c2:aU 1 ((WT TT k).Φ "columns_in") (.ok [(.fz,tsD f u)])=.ok .fr (.lst c):=oE h';rw[rH];refine bL rfl ?_;show evB (WT TT k) gH [some (false,.tup [.str (if e then "either" else "both"),tsD f t,tsD f u]),none]=_;generalize tsD f t=d at *;generalize tsD f u=d' at *;cases e with
 | true=>simp[gH,j0,j1,j2,wd (a := "either") (b := "not"),be,oD,w4,c1,c2,wP hs]
 | false=>simp[gH,j0,j1,j2,wd (a := "both") (b := "not"),be,oD,w3,c1,c2,wP hs]
theorem cut1{W:WD}{ρ:Rho}{a b c:D}{m:Md}:slP (.ok m (.tup [a,b,c])) (some λρ=>evE W (.int 1) ρ) none ρ=.ok .fz (.tup [b,c]):=by simp only[slP,Res.thn_ok,cW,qP];rfl
def tst(W:WD):Rho->Res:=λρ=>evF W [.cmp .Eq (.ix (.var 0) (.int 0)) (.str "of")] ρ
def elt(W:WD):Rho->Res:=λρ=>evE W (.ix (.var 0) (.int 1)) ρ
theorem yU{W:WD}{f:List Str}(p:Pt){ds ys:List D}(h:cP (aJ (.nm 0)) (tst W) (elt W) [none] ds=some ys):cP (aJ (.nm 0)) (tst W) (elt W) [none] (ptD f p::ds)=some (cl f p++ys):=by
 have k:aJ (.nm 0) (ptD f p) [none]=some [some (false,ptD f p)]:=rfl;rw[cP,k];dsimp only;cases p with
 | of j =>
  have t:tst W [some (false,ptD f (.of j))]=.ok .fz (.bl true):=by simp[tst,ptD,i0]
  have e:elt W [some (false,ptD f (.of j))]=.ok .fz (.str j):=by simp[elt,ptD,i1]
  rw[t,e,h];rfl
 | just v =>
  have t:tst W [some (false,ptD f (.just v))]=.ok .fz (.bl false):=by simp[tst,ptD,i0,wd (a := "just") (b := "of")]
  rw[t,h];rfl
theorem aMS{W:WD}{ρ:Rho}{f:List Str}(p q:Pt){m:Md}:dY (.ok m (.lst [ptD f p,ptD f q])) ρ [] 1 (aJ (.nm 0)) (tst W) (elt W)=.ok .fr (.lst (cl f p++cl f q)):=by
 have h0:cP (aJ (.nm 0)) (tst W) (elt W) [none] []=some []:=rfl;have h:=yU (W:=W) (f:=f) p (yU (W:=W) (f:=f) q h0);rw[aPJ] at h;show (if [ptD f p,ptD f q].length<sizeLine then (match cP (aJ (.nm 0)) (tst W) (elt W) [none] [ptD f p,ptD f q] with | some ys=>Res.ok .fr (.lst ys) | none=>.stuck) else .stuck)=_
 rw[h,if_pos (show [ptD f p,ptD f q].length<sizeLine from (by decide +kernel:2<sizeLine))]
theorem last{W:WD}{f:List Str}{w:Str}{p q:Pt}{x:Option (Bool×D)}:evE W (.comp (.ix (.var 0) (.int 1)) (.items (.slice (.var 0) (some (.int 1)) none)) [(.cmp .Eq (.ix (.var 0) (.int 0)) (.str "of"))] [] (.nm 0) 1) [some (false,.tup [.str w,ptD f p,ptD f q]),x]=.ok .fr (.lst (cl f p++cl f q)):=by
 rw[lK,qS,qR];have e:gR (a8 (slP (evE W (.var 0) [some (false,.tup [.str w,ptD f p,ptD f q]),x]) (evO W (some (.int 1))) (evO W none) [some (false,.tup [.str w,ptD f p,ptD f q]),x]))=.ok .fz (.lst [ptD f p,ptD f q]):=by
  have:=cut1 (W:=W) (ρ:=[some (false,.tup [.str w,ptD f p,ptD f q]),x]) (a:=.str w) (b:=ptD f p) (c:=ptD f q) (m:=.fz);simp only[evO];rw[show evE W (.var 0) [some (false,.tup [.str w,ptD f p,ptD f q]),x]=.ok .fz (.tup [.str w,ptD f p,ptD f q]) by simp]
  rw[this];rfl
 rw[e];exact aMS p q
theorem aMT(k:Nat){f:List Str}{s:Bool}{p q:Pt}:(WT TT (k+1)).Φ "columns_in" [tsD f (.atom s p q)]=.ok .fr (.lst (cl f p++cl f q)):=by
 rw[rH];refine bL rfl ?_;show evB (WT TT k) gH [some (false,.tup [.str (if s then "same" else "under"),ptD f p,ptD f q]),none]=_;have l:=λw x=>last (W:=WT TT k) (f:=f) (w:=w) (p:=p) (q:=q) (x:=x);unfold gH;generalize E.comp (.ix (.var 0) (.int 1)) (.items (.slice (.var 0) (some (.int 1)) none)) [(.cmp .Eq (.ix (.var 0) (.int 0)) (.str "of"))] [] (.nm 0) 1=z at *;cases s with
 | true=>simp[j0,wd (a := "same") (b := "not"),be,oD,w1,l]
 | false=>simp[j0,wd (a := "under") (b := "not"),be,oD,w2,l]
theorem mx1(k n m:Nat):∃ j,k+max n m=j+n:=⟨k+max n m-n,by omega⟩
theorem mx2(k n m:Nat):∃ j,k+max n m=j+m:=⟨k+max n m-m,by omega⟩
theorem oF{f:List Str}:∀ (t:Ts) (k:Nat),(eV f t).length<=sizeLine->(WT TT (k+t.dep+1)).Φ "columns_in" [tsD f t]=.ok .fr (.lst (eV f t))
 | .atom s p q,k,_=>aMT k
 | .no t,k,hl=>cn_no (k+t.dep+1) (oF t k hl)
 | .two e a b,k,hl=>by
  have el:(eV f a).length+(eV f b).length<=sizeLine:=by rw[<- aPT];exact hl
  have q1:(WT TT (k+max a.dep b.dep+1)).Φ "columns_in" [tsD f a]=.ok .fr (.lst (eV f a)):=by obtain ⟨j,e⟩:=mx1 k a.dep b.dep;rw[e];exact oF a j (aOP (Nat.le_add_right _ _) el)
  have q2:(WT TT (k+max a.dep b.dep+1)).Φ "columns_in" [tsD f b]=.ok .fr (.lst (eV f b)):=by obtain ⟨j,e⟩:=mx2 k a.dep b.dep;rw[e];exact oF b j (aOP (Nat.le_add_left _ _) el)
  exact aMR (k+max a.dep b.dep+1) q1 q2 el
theorem aMU{f:List Str}(t:Ts)(K:Nat)(hK:t.dep+1<=K)(hl:(eV f t).length<=sizeLine):(WT TT K).Φ "columns_in" [tsD f t]=.ok .fr (.lst (eV f t)):=by
 have:=oF t (K-t.dep-1) hl;rw[show K-t.dep-1+t.dep+1=K by omega] at this
 exact this
theorem l1{a:D}:iF (.ok [(.fz,a)])=.ok .fr (.lst [a]):=by rfl
theorem yV(n:Nat):(bT 0 (n:Int)).length=n:=by simp[bT]
theorem yW{n N:Nat}{g:Rho->aG}{ds:List D}{ρ:Rho}(hl:ds.length=n)(h:g (fB N ds)=.nx ρ):phi n N g ds=.ok .fz .non:=by unfold phi;rw[if_pos hl,h];rfl
abbrev Tp(C:List Str):D:=.tup (C.map .str)
theorem yX{C:List Str}:(C.map D.str).all cX=true:=by rw[List.all_map];exact aQ3.mpr λ_ _=>rfl
theorem yY{C:List Str}{z:Str}:((C.map D.str).any λy=>eqD y (.str z))=decide (z∈C):=by
 rw[aQ2,List.any_map,List.any_eq_true,aQQ];constructor
 . rintro ⟨y,hy,e⟩;have e:(y==z)=true:=e;rw[aQ0] at e;subst e;exact hy
 . exact λh=>⟨z,h,by show (z==z)=true;exact aRG z⟩
theorem rL{m m':Md}{z:Str}{C:List Str}:op2 (bF .In) (.ok m (.str z)) (.ok m' (Tp C))=.ok .fz (.bl (decide (z∈C))):=by refine bP ?_;show (if (cX (.str z)&&(C.map D.str).all cX)=true then some (Md.fz,D.bl (if false=true then _ else ((C.map D.str).any λy=>eqD y (.str z)))) else none)=_;rw[yX,yY];rfl
theorem oG{m m':Md}{z:Str}{C:List Str}:op2 (bF .NotIn) (.ok m (.str z)) (.ok m' (Tp C))=.ok .fz (.bl (!decide (z∈C))):=by refine bP ?_;show (if (cX (.str z)&&(C.map D.str).all cX)=true then some (Md.fz,D.bl (if true=true then !((C.map D.str).any λy=>eqD y (.str z)) else _)) else none)=_;rw[yX,yY];rfl
theorem rM:∀ C:List Str,dZ (C.map D.str)=some (C.map PyData.str)
 | []=>rfl
 | z::C=>by
  show (match bA (.str z),dZ (C.map D.str) with | some p,some ps=>some (p::ps) | _,_=>none)=_
  rw[rM C];rfl
theorem yZ:∀ C:List Str,PyData.depthAll (C.map PyData.str)=0
 | []=>by simp[PyData.depthAll]
 | z::C=>by simp[PyData.depthAll,PyData.depth,yZ C]
theorem y1{C:List Str}:eL (.tuple (C.map .str))=true:=by unfold eL;simp[PyData.depth,yZ]
theorem y9:∀ C:List Str,PyData.eqvAll (C.map PyData.str) (C.map PyData.str)=true
 | []=>by simp[PyData.eqvAll]
 | z::C=>by simp[PyData.eqvAll,PyData.eqv,y9 C]
section
variable {W:WD}{ρ:Rho}{ds:List D}{e:E}{i:Nat}{m:Md}
theorem aMV:cR ds none (some (i:Int))=ds.take i:=by
 unfold cR;rw[HT.aCE,HT.pF,aRM,Nat.sub_zero];by_cases h:i<=ds.length
 . rw[Nat.min_eq_left h]
 . rw[Nat.min_eq_right (by omega),aSG,aRN (by omega)]
theorem zA(h:evE W e ρ=.ok m (.int (i:Int))):slP (.ok .fz (.tup ds)) (evO W none) (evO W (some e)) ρ=.ok .fz (.tup (ds.take i)):=by simp only[evO,slP,Res.thn_ok,cW,h];rw[if_neg (by simp),aMV]
end
theorem aMW(k:Nat){z:Str}{C:List Str}(h:z∈C):(WT TT (k+1)).Φ "refuse_missing" [.str z,Tp C]=.ok .fz .non:=by rw[yP];refine yW (ρ:=[some (false,.str z),some (false,Tp C)]) rfl ?_;show evB _ nZ [some (false,.str z),some (false,Tp C)]=_;have e:=oG (m:=.fz) (m':=.fz) (z:=z) (C:=C);rw[aQI h] at e;generalize Tp C=t at *;simp[nZ,e]
theorem at_T{C:List Str}{i:Nat}(hi:i<C.length){m m':Md}:op2 ixD (.ok m (Tp C)) (.ok m' (.int (i:Int)))=.ok .fz (.str C[i]):=eU (cD (by rw[aPR,aQ5 hi];rfl))
theorem oH:∀ {ds:List D} {i j:Nat} {d:D},(bK i ds)[j]? = some d->∃ x,ds[j]? = some x/\d=.tup [.int ((i+j:Nat):Int),x]
 | [],i,j,d,h=>by simp[bK] at h
 | x::ds,i,0,d,h=>by simp[bK] at h;exact ⟨x,rfl,h.symm⟩
 | x::ds,i,j+1,d,h=>by simp only[bK,List.getElem?_cons_succ] at h;obtain ⟨y,hy,e⟩:=oH h;exact ⟨y,by rw[List.getElem?_cons_succ];exact hy,by rw[e,show i+1+j=i+(j+1) by omega]⟩
theorem h0{a:D}{m m':Md}:op2 ixD (.ok m (.lst [a])) (.ok m' (.int 0))=.ok .fz a:=j7 (cD (j:=0) rfl)
theorem f0{a b c d:D}{m m':Md}:op2 ixD (.ok m (.tup [a,b,c,d])) (.ok m' (.int 0))=.ok .fz a:=eU (cD (j:=0) rfl)
theorem f1{a b c d:D}{m m':Md}:op2 ixD (.ok m (.tup [a,b,c,d])) (.ok m' (.int 1))=.ok .fz b:=eU (cD (j:=1) rfl)
theorem f2{a b c d:D}{m m':Md}:op2 ixD (.ok m (.tup [a,b,c,d])) (.ok m' (.int 2))=.ok .fz c:=eU (cD (j:=2) rfl)
theorem f3{a b c d:D}{m m':Md}:op2 ixD (.ok m (.tup [a,b,c,d])) (.ok m' (.int 3))=.ok .fz d:=eU (cD (j:=3) rfl)
theorem zB{C:List Str}{m:Md}:gQ [(m,Tp C)]=some (.fz,.int (C.length:Int)):=by show some (Md.fz,D.int ((C.map D.str).length:Int))=_;rw[aPU]
theorem zC{C C':List Str}{m m':Md}(h:C.length+C'.length<=sizeLine):op2 (bQ .Add) (.ok m (Tp C)) (.ok m' (Tp C'))=.ok .fz (Tp (C++C')):=by rw[aLN (by rw[aPU,aPU];exact h),<- aSR]
theorem lT(a b:Str):(a++b).length=a.length+b.length:=by show (a.cps++b.cps).size=_;rw[Array.size_append];rfl
theorem lU{out y:Str}{g:Rho->Res}{gs:List (Rho->Res)}{ρ:Rho}{m:Md}(h:g ρ=.ok m (.str y))(hl:(out++y).length<=sizeLine):d5 out (g::gs) ρ=d5 (out++y) gs ρ:=by show (g ρ).thn _=_;rw[h];show (if (out++y).length<=sizeLine then _ else _)=_;rw[if_pos hl]
theorem zD{out:Str}{ρ:Rho}(hl:out.length<=sizeLine):d5 out [] ρ=.ok .fz (.str out):=by show (if out.length<=sizeLine then _ else _)=_;rw[if_pos hl]
theorem fs2{W:WD}{ρ:Rho}{a z:Str}{e:E}{m:Md}(ha:a.length<=100)(hz:z.length<=40)(h:evE W e ρ=.ok m (.str z)):∃ y,evE W (.fstr [.str a,.fmt e]) ρ=.ok .fz (.str y):=by
 have hs:sizeLine=16777216:=aPH;have q1:(Str.empty++a).length<=100:=by rw[lT];show 0+a.length<=_;omega
 have q2:(Str.empty++a++z).length<=140:=by rw[lT];omega
 refine ⟨Str.empty++a++z,?_⟩;rw[wL];show d5 Str.empty [λρ=>evE W (.str a) ρ,λρ=>evE W (.fmt e) ρ] ρ=_;rw[lU (m:=.fz) (y:=a) rfl (by omega),lU (m:=.fz) (y:=z) (by show evE W (.fmt e) ρ=_;rw[wK,h];rfl) (by omega),zD (by omega)]
theorem fs3{W:WD}{ρ:Rho}{a b z:Str}{e:E}{m:Md}(ha:a.length<=100)(hb:b.length<=100)(hz:z.length<=40)(h:evE W e ρ=.ok m (.str z)):∃ y,evE W (.fstr [.str a,.fmt e,.str b]) ρ=.ok .fz (.str y):=by
 have hs:sizeLine=16777216:=aPH;have q1:(Str.empty++a).length<=100:=by rw[lT];show 0+a.length<=_;omega
 have q2:(Str.empty++a++z).length<=140:=by rw[lT];omega
 have q3:(Str.empty++a++z++b).length<=240:=by rw[lT];omega
 refine ⟨Str.empty++a++z++b,?_⟩;rw[wL];show d5 Str.empty [λρ=>evE W (.str a) ρ,λρ=>evE W (.fmt e) ρ,λρ=>evE W (.str b) ρ] ρ=_;rw[lU (m:=.fz) (y:=a) rfl (by omega),lU (m:=.fz) (y:=z) (by show evE W (.fmt e) ρ=_;rw[wK,h];rfl) (by omega),lU (m:=.fz) (y:=b) rfl (by omega),zD (by omega)]
theorem oI{W:WD}{ρ:Rho}{c:Str}{e:E}{m:Md}{d:D}(h:evE W e ρ=.ok m d):evB W [.rz c [e]] ρ=.exc c ρ:=by have hs:sizeLine=16777216:=aPH;rw[aT,s_rz,aX,cS,h];show (rzR c ρ (.ok [(m,d)])).thn _=_;rw[x_rz (by show 1<=_;omega)];rfl
theorem rN{W:WD}{ρ:Rho}{c:Str}{t e:E}{d:D}{m':Md}(ht:evE W t ρ=.ok .fz (.bl true))(h:evE W e ρ=.ok m' d):evB W [.ite t [.rz c [e]] []] ρ=.exc c ρ:=by rw[aT,iO,ht,nR,oI h];rfl
section
variable {W:WD}{c e:E}{ρ ρ':Rho}{x y r:List D3.S}{m:Md}{d:D}{i:Nat}{cs:Str}
theorem a9(h:evE W c ρ=.ok .fz (.bl false)):evB W (.ite c x []::r) ρ=evB W r ρ:=by rw[aT,iO,h,qW,eF,aG.thn_nx]
theorem cI(h:evE W c ρ=.ok .fz (.bl true))(h':evB W x ρ=.rt m d):evB W (.ite c x y::r) ρ=.rt m d:=by rw[aT,iO,h,nR,h',aG.thn_rt]
theorem lV(h:evE W c ρ=.ok .fz (.bl true))(h':evB W x ρ=.nx ρ'):evB W (.ite c x y::r) ρ=evB W r ρ':=by rw[aT,iO,h,nR,h',aG.thn_nx]
theorem oJ(h:evE W c ρ=.ok .fz (.bl true))(h':evB W x ρ=.exc cs ρ'):evB W (.ite c x y::r) ρ=.exc cs ρ':=by rw[aT,iO,h,nR,h',aG.thn_exc]
theorem bB(h:evE W e ρ=.ok .fz d)(hρ:ρ.set i (some (false,d))=ρ'):evB W (.set i e::r) ρ=evB W r ρ':=by rw[aT,nQ,h,wQ,aG.thn_nx,hρ]
theorem bG(h:evE W e ρ=.ok .fz d):evB W (.ret e::r) ρ=.rt .fz d:=by rw[aT,iN,h,x_ret,aG.thn_rt]
end
def j9:Str:=Str.ofString "NoTable"
def bU:Str:=Str.ofString "NoColumn"
def cF:Str:=Str.ofString "Twice"
def fQ:Str:=Str.ofString "Unlike"
theorem aMX(k:Nat){z:Str}{C:List Str}(hz:z.length<=40)(h:¬ z∈C):(WT TT (k+1)).Φ "refuse_missing" [.str z,Tp C]=.exc bU:=by
 rw[yP];refine dR (ρ:=[some (false,.str z),some (false,Tp C)]) rfl ?_;show evB (WT TT k) [.ite (.cmp .NotIn (.var 0) (.var 1)) [.rz "NoColumn" [(.fstr [(.str "there is no column "),(.fmt (.var 0))])]] []] [some (false,.str z),some (false,Tp C)]=_;have e:=oG (m:=.fz) (m':=.fz) (z:=z) (C:=C);rw[aOC h] at e;obtain ⟨y,ey⟩:=fs2 (W:=WT TT k) (ρ:=[some (false,.str z),some (false,Tp C)]) (a := "there is no column ") (e:=.var 0) (m:=.fz) (by decide +kernel) hz rfl
 exact rN (by
  generalize Tp C=t at *;simp[e]) ey
theorem aMY(k:Nat){K:List Str}{i:Nat}(hi:i<K.length)(hz:K[i].length<=40)(h:K[i]∈K.take i):(WT TT (k+1)).Φ "refuse_twice" [Tp K,.int (i:Int)]=.exc cF:=by
 rw[yO];refine dR (ρ:=[some (false,Tp K),some (false,.int (i:Int))]) rfl ?_;show evB (WT TT k) [.ite (.cmp .In (.ix (.var 0) (.var 1)) (.slice (.var 0) none (some (.var 1)))) [.rz "Twice" [(.fstr [(.str "the column "),(.fmt (.ix (.var 0) (.var 1))),(.str " was there ahead")])]] []] [some (false,Tp K),some (false,.int (i:Int))]=_;have e1:=at_T hi (m:=.fz) (m':=.fz);have e2:slP (.ok .fz (Tp K)) (evO (WT TT k) none) (evO (WT TT k) (some (.var 1))) [some (false,Tp K),some (false,.int (i:Int))]=.ok .fz (Tp (K.take i)):=by rw[zA (m:=.fz) (i:=i) rfl,<- List.map_take]
 have e3:=rL (m:=.fz) (m':=.fz) (z:=K[i]) (C:=K.take i);rw[aQI h] at e3
 obtain ⟨y,ey⟩:=fs3 (W:=WT TT k) (ρ:=[some (false,Tp K),some (false,.int (i:Int))]) (a := "the column ") (b := " was there ahead") (e:=.ix (.var 0) (.var 1)) (m:=.fz) (z:=K[i]) (by decide +kernel) (by decide +kernel) hz (by
  generalize Tp K=t' at *;simp[e1])
 refine rN ?_ ey;generalize hA:evO (WT TT k) none=A at *;generalize hB:evO (WT TT k) (some (.var 1))=B at *;generalize Tp (K.take i)=t at *;generalize Tp K=t' at *;generalize K[i]=z at *;simp[e1,hA,hB,e2,e3]
theorem aMZ(k:Nat){C:List Str}{i:Nat}(hi:i<C.length)(nm:¬ C[i]∈C.take i):(WT TT (k+1)).Φ "refuse_twice" [Tp C,.int (i:Int)]=.ok .fz .non:=by
 rw[yO];refine yW (ρ:=[some (false,Tp C),some (false,.int (i:Int))]) rfl ?_;show evB _ nY [some (false,Tp C),some (false,.int (i:Int))]=_;have e1:=at_T hi (m:=.fz) (m':=.fz);have e2:slP (.ok .fz (Tp C)) (evO (WT TT k) none) (evO (WT TT k) (some (.var 1))) [some (false,Tp C),some (false,.int (i:Int))]=.ok .fz (Tp (C.take i)):=by rw[zA (m:=.fz) (i:=i) rfl,<- List.map_take]
 have e3:=rL (m:=.fz) (m':=.fz) (z:=C[i]) (C:=C.take i);rw[aOC nm] at e3;generalize hA:evO (WT TT k) none=A at *;generalize hB:evO (WT TT k) (some (.var 1))=B at *;generalize Tp (C.take i)=t at *;generalize Tp C=t' at *;generalize C[i]=z at *;simp[nY,e1,hA,hB,e2,e3]
def ans:Option Str->Res
 | none=>.ok .fz .non
 | some c=>.exc c
def out(o:Option Str)(ρ:Rho):aG:=match o with
 | none=>.nx ρ
 | some c=>.exc c ρ
theorem lW{n:Nat}{Φ:List D->Res}{xs:List (Md×D)}{ds:List D}{o:Option Str}(hl:ds.length=n)(ha:bZ xs=some ds)(h:Φ ds=ans o):aU n Φ (.ok xs)=ans o:=by
 cases o with
 | none=>exact hC hl ha h
 | some c=>exact g9 hl ha h
theorem lX{W:WD}{ρ:Rho}{e:E}{o:Option Str}(h:evE W e ρ=ans o):evS W (.expr e) ρ=out o ρ:=by rw[iP,h];cases o <;> rfl
theorem rO(k:Nat){z:Str}{C:List Str}(hz:z.length<=40):(WT TT (k+1)).Φ "refuse_missing" [.str z,Tp C]=ans (if z∈C then none else some bU):=by
 by_cases h:z∈C
 . rw[if_pos h];exact aMW k h
 . rw[if_neg h];exact aMX k hz h
theorem zE(k:Nat){K:List Str}{i:Nat}(hi:i<K.length)(hz:K[i].length<=40):(WT TT (k+1)).Φ "refuse_twice" [Tp K,.int (i:Int)]=ans (if K[i]∈K.take i then some cF else none):=by
 by_cases h:K[i]∈K.take i
 . rw[if_pos h];exact aMY k hi hz h
 . rw[if_neg h];exact aMZ k hi h
theorem kA{k:D->Rho->Option Rho}{body:Rho->aG}(I:Rho->Prop)(cls:D->Option Str):∀ {ds:List D} {ρ:Rho},(∀ d∈ds,∀ ρ,I ρ->∃ ρ1 ρ2,k d ρ=some ρ1/\I ρ2/\body ρ1=out (cls d) ρ2)->I ρ->∃ ρ',I ρ'/\cM k body ds ρ=out (ds.findSome? cls) ρ'
 | [],ρ,_,h=>⟨ρ,h,rfl⟩
 | d::ds,ρ,hs,h=>by
  obtain ⟨ρ1,ρ2,e1,h2,e2⟩:=hs d (by simp) ρ h
  unfold cM;rw[e1];dsimp only;rw[aSS];cases ec:cls d with
  | some c=>rw[ec] at e2;rw[e2];exact ⟨ρ2,h2,rfl⟩
  | none=>rw[ec] at e2;rw[e2];exact kA I cls (λd hd=>hs d (mcm hd)) h2
theorem zF:∀ C C':List Str,PyData.eqvAll (C.map PyData.str) (C'.map PyData.str)=decide (C=C')
 | [],[]=>by rfl
 | [],_::_=>by rfl
 | _::_,[]=>by rfl
 | x::C,y::C'=>by show (PyData.eqv (.str x) (.str y)&&PyData.eqvAll (C.map PyData.str) (C'.map PyData.str))=_;rw[zF C C'];show ((x==y)&&_)=_;rw[aQ2];simp
theorem ne_TT{m m':Md}{C C':List Str}:op2 (bF .NotEq) (.ok m (Tp C)) (.ok m' (Tp C'))=.ok .fz (.bl (!decide (C=C'))):=by refine bP ?_;simp[bF,fNe,orO,eqF,bA,rM,y1,PyData.eqv,zF]
def tpo(o:Option Str)(C:List Str):Res:=match o with
 | none=>.ok .fz (Tp C)
 | some c=>.exc c
theorem oK{n:Nat}{Φ:List D->Res}{xs:List (Md×D)}{ds:List D}{o:Option Str}{C:List Str}(hl:ds.length=n)(ha:bZ xs=some ds)(h:Φ ds=tpo o C):aU n Φ (.ok xs)=tpo o C:=by
 cases o with
 | none=>exact hC hl ha h
 | some c=>exact g9 hl ha h
theorem oM{n N:Nat}{W:WD}{b:List D3.S}{ds:List D}{o:Option Str}{C:List Str}{ρ':Rho}{r:Rho->aG}(hl:ds.length=n)(h:evB W b (fB N ds)=(out o ρ').thn r)(hr:r ρ'=.rt .fz (Tp C)):phi n N (evB W b) ds=tpo o C:=by
 cases o with
 | none=>refine bL hl ?_;rw[h];show r ρ'=_;exact hr
 | some c=>refine dR (ρ:=ρ') hl ?_;rw[h];rfl
def iQ(C K:List Str):D->Option Str
 | .tup [.int i,.str z]=>if z∈C then (if z∈K.take i.toNat then some cF else none) else some bU
 | _=>none
def bad(C K:List Str):Option Str:=(bK 0 (K.map .str)).findSome? (iQ C K)
theorem zG(k:Nat){K C:List Str}(hz:∀ z∈K,z.length<=40):(WT TT (k+2)).Φ "kept" [Tp K,Tp C]=tpo (bad C K) K:=by
 rw[aL7];obtain ⟨ρ',⟨x,y,rfl⟩,e⟩:=kA (k:=aJ (.tp [.nm 2,.nm 3])) (body:=evB (WT TT (k+1)) nV) (λρ=>∃ x y,ρ=[some (false,Tp K),some (false,Tp C),x,y]) (iQ C K) (ds:=bK 0 (K.map .str)) (ρ:=[some (false,Tp K),some (false,Tp C),none,none])
  (λd hd ρ hρ=>by
   obtain ⟨x,y,rfl⟩:=hρ;obtain ⟨j,hj,ed⟩:=aST.mp hd;obtain ⟨v,hv,rfl⟩:=oH (show (bK 0 (K.map .str))[j]? = some d by rw[aQ5 hj,ed])
   rw[aPR] at hv;obtain ⟨z,hz',rfl⟩:=aQM.mp hv;obtain ⟨hj',ez⟩:=aOU.mp hz';have hl:z.length<=40:=hz z (by rw[<- ez];exact aQ6 hj')
   have c1:aU 2 ((WT TT (k+1)).Φ "refuse_missing") (.ok [(.fz,.str z),(.fz,Tp C)])=ans (if z∈C then none else some bU):=lW (ds:=[.str z,Tp C]) rfl rfl (rO k hl);have t0:=zE k hj' (by rw[ez];exact hl)
   rw[ez] at t0;have c2:aU 2 ((WT TT (k+1)).Φ "refuse_twice") (.ok [(.fz,Tp K),(.fz,.int (j:Int))])=ans (if z∈K.take j then some cF else none):=lW (ds:=[Tp K,.int (j:Int)]) rfl rfl t0;rw[aRO];refine ⟨[some (false,Tp K),some (false,Tp C),some (false,.int (j:Int)),some (false,.str z)],[some (false,Tp K),some (false,Tp C),some (false,.int (j:Int)),some (false,.str z)],by simp,⟨_,_,rfl⟩,?_⟩
   have e1:evE (WT TT (k+1)) (.call "refuse_missing" 2 [(.var 3),(.var 1)]) [some (false,Tp K),some (false,Tp C),some (false,.int (j:Int)),some (false,.str z)]=_:=c1;have e2:evE (WT TT (k+1)) (.call "refuse_twice" 2 [(.var 0),(.var 2)]) [some (false,Tp K),some (false,Tp C),some (false,.int (j:Int)),some (false,.str z)]=_:=c2;show evB (WT TT (k+1)) [.expr (.call "refuse_missing" 2 [(.var 3),(.var 1)]),.expr (.call "refuse_twice" 2 [(.var 0),(.var 2)])] _=out (if z∈C then (if z∈K.take (j:Int).toNat then some cF else none) else some bU) _;rw[aT,lX e1,aP1];by_cases h1:z∈C
   . rw[if_pos h1,if_pos h1];show evB (WT TT (k+1)) [.expr (.call "refuse_twice" 2 [(.var 0),(.var 2)])] [some (false,Tp K),some (false,Tp C),some (false,.int (j:Int)),some (false,.str z)]=_;rw[aT,lX e2];split <;> rfl
   . rw[if_neg h1,if_neg h1];rfl) ⟨none,none,rfl⟩
 refine oM (ρ':=[some (false,Tp K),some (false,Tp C),x,y]) (r:=evB (WT TT (k+1)) [.retV 0]) rfl ?_ rfl;show evB (WT TT (k+1)) (.for (.enum1 (.var 0)) (.tp [(.nm 2),(.nm 3)]) nV::[.retV 0]) [some (false,Tp K),some (false,Tp C),none,none]=_;rw[aT];show (cM (aJ (.tp [.nm 2,.nm 3])) (evB (WT TT (k+1)) nV) (bK 0 (K.map .str)) [some (false,Tp K),some (false,Tp C),none,none]).thn _=_;rw[e];rfl
theorem aM0(k:Nat){d:D}{K C:List Str}(hz:∀ z∈K,z.length<=40):(WT TT (k+3)).Φ "columns_of_keep" [.tup [.str "keep", d,Tp K],.lst [Tp C]]=tpo (bad C K) K:=by
 rw[aL8];have c1:aU 2 ((WT TT (k+2)).Φ "kept") (.ok [(.fz,Tp K),(.fz,Tp C)])=tpo (bad C K) K:=oK (ds:=[Tp K,Tp C]) rfl rfl (zG k hz);have e:evE (WT TT (k+2)) (.call "kept" 2 [(.ix (.var 0) (.int 2)),(.ix (.var 1) (.int 0))]) [some (false,.tup [.str "keep", d,Tp K]),some (false,.lst [Tp C])]=tpo (bad C K) K:=c1;generalize bad C K=o at *;cases o with
 | none=>refine bL rfl ?_;show evB (WT TT (k+2)) [.ret (.call "kept" 2 [(.ix (.var 0) (.int 2)),(.ix (.var 1) (.int 0))])] _=_;exact bG e
 | some c=>refine dR (ρ:=[some (false,.tup [.str "keep", d,Tp K]),some (false,.lst [Tp C])]) rfl ?_;show evB (WT TT (k+2)) [.ret (.call "kept" 2 [(.ix (.var 0) (.int 2)),(.ix (.var 1) (.int 0))])] [some (false,.tup [.str "keep", d,Tp K]),some (false,.lst [Tp C])]=_;rw[aT,iN,e];rfl
theorem aM1(k:Nat){d:D}{z:Str}{K C:List Str}(hz0:z.length<=40)(hz:∀ z∈K,z.length<=40):(WT TT (k+4)).Φ "columns_of_total" [.tup [.str "total", d,.str z,Tp K],.lst [Tp C]]=tpo (if z∈C then bad C K else some bU) K:=by
 have a:(WT TT (k+3)).Φ "totalled" [.str z,Tp K,Tp C]=tpo (if z∈C then bad C K else some bU) K:=by
  rw[aL9];have c1:evE (WT TT (k+2)) (.call "kept" 2 [(.var 1),(.var 2)]) [some (false,.str z),some (false,Tp K),some (false,Tp C)]=tpo (bad C K) K:=show aU 2 ((WT TT (k+2)).Φ "kept") (.ok [(.fz,Tp K),(.fz,Tp C)])=_ from oK (ds:=[Tp K,Tp C]) rfl rfl (zG k hz)
  have c2:evE (WT TT (k+2)) (.call "refuse_missing" 2 [(.var 0),(.var 2)]) [some (false,.str z),some (false,Tp K),some (false,Tp C)]=ans (if z∈C then none else some bU):=show aU 2 ((WT TT (k+2)).Φ "refuse_missing") (.ok [(.fz,.str z),(.fz,Tp C)])=_ from lW (ds:=[.str z,Tp C]) rfl rfl (rO (k+1) hz0)
  have q:evB (WT TT (k+2)) rD [some (false,.str z),some (false,Tp K),some (false,Tp C)]=(out (if z∈C then none else some bU) [some (false,.str z),some (false,Tp K),some (false,Tp C)]).thn (evB (WT TT (k+2)) [.ret (.call "kept" 2 [(.var 1),(.var 2)])]):=by show evB (WT TT (k+2)) [.expr (.call "refuse_missing" 2 [(.var 0),(.var 2)]),.ret (.call "kept" 2 [(.var 1),(.var 2)])] _=_;rw[aT,lX c2]
  by_cases h:z∈C
  . rw[if_pos h] at q ⊢;generalize bad C K=o at *;cases o with
    | none=>exact bL rfl (q.trans (bG c1))
    | some c => exact dR (ρ := [some (false, .str z), some (false, Tp K), some (false, Tp C)]) rfl (q.trans (by
        show evB (WT TT (k+2)) [.ret (.call "kept" 2 [(.var 1),(.var 2)])] [some (false,.str z),some (false,Tp K),some (false,Tp C)]=_;rw[aT,iN,c1];rfl))
  . rw[if_neg h] at q ⊢;exact dR (ρ:=[some (false,.str z),some (false,Tp K),some (false,Tp C)]) rfl q
 generalize (if z∈C then bad C K else some bU)=o at *;rw[aMA];have c1:evE (WT TT (k+3)) (.call "totalled" 3 [(.ix (.var 0) (.int 2)),(.ix (.var 0) (.int 3)),(.ix (.var 1) (.int 0))]) [some (false,.tup [.str "total", d,.str z,Tp K]),some (false,.lst [Tp C])]=tpo o K:=show aU 3 ((WT TT (k+3)).Φ "totalled") (.ok [(.fz,.str z),(.fz,Tp K),(.fz,Tp C)])=_ from oK (ds:=[.str z,Tp K,Tp C]) rfl rfl a
 cases o with
 | none=>exact bL rfl (show evB (WT TT (k+3)) [.ret (.call "totalled" 3 [(.ix (.var 0) (.int 2)),(.ix (.var 0) (.int 3)),(.ix (.var 1) (.int 0))])] _=_ from bG c1)
 | some c=>refine dR (ρ:=[some (false,.tup [.str "total", d,.str z,Tp K]),some (false,.lst [Tp C])]) rfl ?_;show evB (WT TT (k+3)) [.ret (.call "totalled" 3 [(.ix (.var 0) (.int 2)),(.ix (.var 0) (.int 3)),(.ix (.var 1) (.int 0))])] [some (false,.tup [.str "total", d,.str z,Tp K]),some (false,.lst [Tp C])]=_;rw[aT,iN,c1];rfl
theorem rP{α:Type}{p:α->Prop}[DecidablePred p]{c:Str}:∀ {ds:List D} {xs:List α} {g:α->D} {cls:D->Option Str},ds=xs.map g->(∀ x∈xs,cls (g x)=if p x then none else some c)->ds.findSome? cls=if ∀ x∈xs,p x then none else some c
 | _,[],g,cls,rfl,h=>by simp
 | _,x::xs,g,cls,rfl,h=>by
  have ih:=rP (p:=p) (c:=c) (g:=g) (cls:=cls) (xs:=xs) rfl λy hy=>h y (mcm hy);rw[aQK,aSS,h x (by simp)]
  by_cases hx:p x
  . rw[if_pos hx];dsimp only;rw[ih];by_cases hr:∀ y∈xs,p y
    . rw[if_pos hr,if_pos (λy hy=>by rcases aOR.mp hy with rfl | hy;exact hx;exact hr y hy)]
    . rw[if_neg hr,if_neg (λq=>hr λy hy=>q y (mcm hy))]
  . rw[if_neg hx,if_neg (λq=>hx (q x (by simp)))]
def rQ(c:Str)(C:List Str):D->Option Str
 | .str z=>if z∈C then none else some c
 | _=>none
theorem zH{c:Str}{C L:List Str}:(L.map D.str).findSome? (rQ c C)=if ∀ z∈L,z∈C then none else some c:=rP (p:=λz=>z∈C) rfl λz _=>rfl
theorem aM2(k:Nat){d t:D}{L C:List Str}(hz:∀ z∈L,z.length<=40)(hc:(WT TT (k+1)).Φ "columns_in" [t]=.ok .fr (.lst (L.map .str))):(WT TT (k+2)).Φ "columns_of_pick" [.tup [.str "pick", d,t],.lst [Tp C]]=tpo (if ∀ z∈L,z∈C then none else some bU) C:=by
 rw[aL6,<- zH];have x2:op2 ixD (.ok .fz (.tup [.str "pick", d,t])) (.ok .fz (.int 2))=.ok .fz t:=j2;generalize D.tup [.str "pick", d,t]=A at *;have c0:aU 1 ((WT TT (k+1)).Φ "columns_in") (.ok [(.fz,t)])=.ok .fr (.lst (L.map .str)):=oE hc;obtain ⟨ρ',⟨x,rfl⟩,e⟩:=kA (k:=aJ (.nm 2)) (body:=evB (WT TT (k+1)) nU) (λρ=>∃ x,ρ=[some (false,A),some (false,.lst [Tp C]),x]) (rQ bU C) (ds:=L.map .str) (ρ:=[some (false,A),some (false,.lst [Tp C]),none])
  (λd hd ρ hρ=>by
   obtain ⟨x,rfl⟩:=hρ;obtain ⟨z,hz',rfl⟩:=aSQ.mp hd;have c1:evE (WT TT (k+1)) (.call "refuse_missing" 2 [(.var 2),(.ix (.var 1) (.int 0))]) [some (false,A),some (false,.lst [Tp C]),some (false,.str z)]=ans (if z∈C then none else some bU):=show aU 2 ((WT TT (k+1)).Φ "refuse_missing") (.ok [(.fz,.str z),(.fz,Tp C)])=_ from lW (ds:=[.str z,Tp C]) rfl rfl (rO k (hz z hz'))
   refine ⟨[some (false,A),some (false,.lst [Tp C]),some (false,.str z)],[some (false,A),some (false,.lst [Tp C]),some (false,.str z)],by simp,⟨_,rfl⟩,?_⟩
   show evB (WT TT (k+1)) [.expr (.call "refuse_missing" 2 [(.var 2),(.ix (.var 1) (.int 0))])] _=out (if z∈C then none else some bU) _;rw[aT,lX c1];split <;> rfl) ⟨none,rfl⟩
 refine oM (ρ':=[some (false,A),some (false,.lst [Tp C]),x]) (r:=evB (WT TT (k+1)) [.ret (.ix (.var 1) (.int 0))]) rfl ?_ rfl;show evB (WT TT (k+1)) (.for (.items (.call "columns_in" 1 [(.ix (.var 0) (.int 2))])) (.nm 2) nU::[.ret (.ix (.var 1) (.int 0))]) [some (false,A),some (false,.lst [Tp C]),none]=_;have ei:evE (WT TT (k+1)) (.items (.call "columns_in" 1 [(.ix (.var 0) (.int 2))])) [some (false,A),some (false,.lst [Tp C]),none]=.ok .fz (.lst (L.map .str)):=by generalize Tp C=tc;generalize L.map D.str=R at *;simp[x2,c0]
 rw[aT,lL,ei];show (cM (aJ (.nm 2)) (evB (WT TT (k+1)) nU) (L.map .str) [some (false,A),some (false,.lst [Tp C]),none]).thn _=_;rw[e]
theorem zI{K:List Str}:(∀ i∈List.range K.length,¬ ∃ h:i<K.length,K[i]∈K.take i)↔K.Nodup:=by
 constructor
 . intro h;rw[List.nodup_iff_pairwise_ne,List.pairwise_iff_getElem];intro i j hi hj hij e;refine h j (aON.mpr hj) ⟨hj,?_⟩;rw[<- e];exact List.mem_take_iff_getElem.mpr ⟨i,by omega,rfl⟩
 . intro hn i hi ⟨h,q⟩;obtain ⟨j,hj,e⟩:=aST.mp q;rw[List.getElem_take] at e;rw[aPM] at hj;have:=(aOV hn).mp e;omega
def clsT(K:List Str):D->Option Str
 | .int i=>if ¬ ∃ h:i.toNat<K.length,K[i.toNat]∈K.take i.toNat then none else some cF
 | _=>none
theorem aM3(n:Nat):bT 0 (n:Int)=(List.range n).map λi=>D.int ((i:Nat):Int):=by simp[bT]
theorem aM4{K:List Str}:(bT 0 (K.length:Int)).findSome? (clsT K)=if K.Nodup then none else some cF:=by
 rw[rP (p:=λi=>¬ ∃ h:i<K.length,K[i]∈K.take i) (c:=cF) (aM3 K.length) λi _=>rfl];by_cases h:K.Nodup
 . rw[if_pos h,if_pos (zI.mpr h)]
 . rw[if_neg h,if_neg (λq=>h (zI.mp q))]
theorem aM5(k:Nat){d:D}{K C:List Str}(hz:∀ z∈K,z.length<=40)(hb:K.length<=900):(WT TT (k+2)).Φ "columns_of_call" [.tup [.str "call", d,Tp K],.lst [Tp C]]=tpo (if K.length=C.length then (if K.Nodup then none else some cF) else some fQ) K:=by
 rw[aMB,<- aM4];have x2:op2 ixD (.ok .fz (.tup [.str "call", d,Tp K])) (.ok .fz (.int 2))=.ok .fz (Tp K):=j2;generalize D.tup [.str "call", d,Tp K]=A at *;have l1:=zB (C:=C) (m:=.fz);have l2:=zB (C:=K) (m:=.fz);have en:evE (WT TT (k+1)) (.cmp .NotEq (.bcall .len [(.var 2)]) (.bcall .len [(.ix (.var 1) (.int 0))])) [some (false,A),some (false,.lst [Tp C]),some (false,Tp K),none]=.ok .fz (.bl (!decide (K.length=C.length))):=by
  have q:((K.length:Int) != (C.length:Int)) = !decide (K.length=C.length):=by rw[aQ2];simp;omega
  generalize Tp C=t at *;generalize Tp K=t' at *;rw[<- q];simp[h0,l1,l2]
 have x2':evE (WT TT (k+1)) (.ix (.var 0) (.int 2)) [some (false,A),some (false,.lst [Tp C]),none,none]=.ok .fz (Tp K):=x2;by_cases hl:K.length=C.length
 . rw[if_pos hl];rw[aQI hl] at en;obtain ⟨ρ',⟨x,rfl⟩,e⟩:=kA (k:=aJ (.nm 3)) (body:=evB (WT TT (k+1)) lM) (λρ=>∃ x,ρ=[some (false,A),some (false,.lst [Tp C]),some (false,Tp K),x]) (clsT K) (ds:=bT 0 (K.length:Int)) (ρ:=[some (false,A),some (false,.lst [Tp C]),some (false,Tp K),none])
     (λd hd ρ hρ=>by
      obtain ⟨x,rfl⟩:=hρ;obtain ⟨i,hi,rfl⟩:=mem_range hd;have hi':i<K.length:=by omega
      have c2:evE (WT TT (k+1)) (.call "refuse_twice" 2 [(.var 2),(.var 3)]) [some (false,A),some (false,.lst [Tp C]),some (false,Tp K),some (false,.int (i:Int))]=ans (if K[i]∈K.take i then some cF else none):=show aU 2 ((WT TT (k+1)).Φ "refuse_twice") (.ok [(.fz,Tp K),(.fz,.int (i:Int))])=_ from lW (ds:=[Tp K,.int (i:Int)]) rfl rfl (zE k hi' (hz _ (aQ6 hi')))
      refine ⟨[some (false,A),some (false,.lst [Tp C]),some (false,Tp K),some (false,.int (i:Int))],[some (false,A),some (false,.lst [Tp C]),some (false,Tp K),some (false,.int (i:Int))],by simp,⟨_,rfl⟩,?_⟩
      show evB (WT TT (k+1)) [.expr (.call "refuse_twice" 2 [(.var 2),(.var 3)])] _=out (if ¬ ∃ h:i<K.length,K[i]∈K.take i then none else some cF) _;rw[aT,lX c2];by_cases q:K[i]∈K.take i
      . rw[if_pos q,if_neg (λz=>z ⟨hi',q⟩)];rfl
      . rw[if_neg q,if_pos (λ⟨_,z⟩=>q z)];rfl) ⟨none,rfl⟩
   refine oM (ρ':=[some (false,A),some (false,.lst [Tp C]),some (false,Tp K),x]) (r:=evB (WT TT (k+1)) [.retV 2]) rfl ?_ rfl;show evB (WT TT (k+1)) (.set 2 (.ix (.var 0) (.int 2)) :: .ite (.cmp .NotEq (.bcall .len [(.var 2)]) (.bcall .len [(.ix (.var 1) (.int 0))])) [.rz "Unlike" [(.str "a call has as many columns as the asking within")]] [] :: .for (.rng1 (.bcall .len [(.var 2)])) (.nm 3) lM::[.retV 2]) [some (false,A),some (false,.lst [Tp C]),none,none]=_;rw[bB (d:=Tp K) (ρ':=[some (false,A),some (false,.lst [Tp C]),some (false,Tp K),none]) x2' rfl,a9 en,aT,lL];have er:=oC (m:=.fz) (n:=(K.length:Int)) (by omega) (by omega)
   have g:evE (WT TT (k+1)) (.rng1 (.bcall .len [(.var 2)])) [some (false,A),some (false,.lst [Tp C]),some (false,Tp K),none]=.ok .fz (.lst (bT 0 (K.length:Int))):=by
    rw[<- er,qT];have:evE (WT TT (k+1)) (.bcall .len [(.var 2)]) [some (false,A),some (false,.lst [Tp C]),some (false,Tp K),none]=.ok .fz (.int (K.length:Int)):=by generalize Tp C=t at *;generalize Tp K=t' at *;simp[l2]
    rw[this];rfl
   rw[g];show (cM (aJ (.nm 3)) (evB (WT TT (k+1)) lM) (bT 0 (K.length:Int)) [some (false,A),some (false,.lst [Tp C]),some (false,Tp K),none]).thn _=_;rw[e]
 . rw[if_neg hl];rw[aOC hl] at en;refine dR (ρ:=[some (false,A),some (false,.lst [Tp C]),some (false,Tp K),none]) rfl ?_;show evB (WT TT (k+1)) (.set 2 (.ix (.var 0) (.int 2)) :: .ite (.cmp .NotEq (.bcall .len [(.var 2)]) (.bcall .len [(.ix (.var 1) (.int 0))])) [.rz "Unlike" [(.str "a call has as many columns as the asking within")]] [] :: .for (.rng1 (.bcall .len [(.var 2)])) (.nm 3) lM::[.retV 2]) [some (false,A),some (false,.lst [Tp C]),none,none]=_;rw[bB (d:=Tp K) (ρ':=[some (false,A),some (false,.lst [Tp C]),some (false,Tp K),none]) x2' rfl];exact oJ en (oI rfl)
def dif(C' C:List Str):List Str:=C'.filter λz=>!decide (z∈C)
theorem zJ{W:WD}{C:List Str}:∀ C':List Str,cP (aJ (.nm 1)) (λρ=>evF W [.cmp .NotIn (.var 1) (.var 0)] ρ) (λρ=>evE W (.var 1) ρ) [some (false,Tp C),none] (C'.map .str)=some ((dif C' C).map .str)
 | []=>rfl
 | z::C'=>by
  have ih:=zJ (W:=W) (C:=C) C';have k:aJ (.nm 1) (.str z) [some (false,Tp C),none]=some [some (false,Tp C),some (false,.str z)]:=rfl;have e:=oG (m:=.fz) (m':=.fz) (z:=z) (C:=C);have t:evF W [.cmp .NotIn (.var 1) (.var 0)] [some (false,Tp C),some (false,.str z)]=.ok .fz (.bl (!decide (z∈C))):=by generalize Tp C=t at *;simp[e]
  rw[aQK,cP,k];dsimp only;rw[t,ih];unfold dif;rw[List.filter_cons];cases decide (z∈C) with
  | true=>rfl
  | false=>rfl
theorem aM6{W:WD}{C C':List Str}{ρ:Rho}{aD:List Nat}{m:Md}(hs:C'.length<sizeLine)(hρ:cH aD ρ=[some (false,Tp C)]):dY (.ok m (.lst (C'.map .str))) ρ aD 1 (aJ (.nm 1)) (λρ=>evF W [.cmp .NotIn (.var 1) (.var 0)] ρ) (λρ=>evE W (.var 1) ρ)=.ok .fr (.lst ((dif C' C).map .str)):=by
 show (if (C'.map D.str).length<sizeLine then (match cP (aJ (.nm 1)) (λρ=>evF W [.cmp .NotIn (.var 1) (.var 0)] ρ) (λρ=>evE W (.var 1) ρ) (cH aD ρ++[none]) (C'.map .str) with | some ys=>Res.ok .fr (.lst ys) | none=>.stuck) else .stuck)=_
 rw[hρ,if_pos (by rw[aPU];exact hs)]
 show (match cP (aJ (.nm 1)) (λρ=>evF W [.cmp .NotIn (.var 1) (.var 0)] ρ) (λρ=>evE W (.var 1) ρ) [some (false,Tp C),none] (C'.map .str) with | some ys=>Res.ok .fr (.lst ys) | none=>.stuck)=_
 rw[zJ]
theorem aM7{C C':List Str}:(dif C' C).length<=C'.length:=List.length_filter_le _ _
theorem aM8(k:Nat){A:D}{C C':List Str}(hs:C.length+C'.length<sizeLine):(WT TT (k+1)).Φ "columns_of_join" [A,.lst [Tp C,Tp C']]=.ok .fz (Tp (C++dif C' C)):=by
 rw[aMC];refine bL rfl ?_;show evB (WT TT k) lP [some (false,A),some (false,.lst [Tp C,Tp C']),none,none]=_;have dl:=aM7 (C:=C) (C':=C');have e1:=aM6 (W:=WT TT k) (C:=C) (C':=C') (m:=.fz) (aD:=[2]) (ρ:=[some (false,A),some (false,.lst [Tp C,Tp C']),some (false,Tp C),some (false,Tp C')]) (by omega) rfl
 have e2:=zC (C:=C) (C':=dif C' C) (m:=.fz) (m':=.fz) (by omega)
 have ea:lP=[.asg (.tp [(.nm 2),(.nm 3)]) (.var 1)]++lP.drop 1:=rfl;have p1:evB (WT TT k) [.asg (.tp [(.nm 2),(.nm 3)]) (.var 1)] [some (false,A),some (false,.lst [Tp C,Tp C']),none,none]=.nx [some (false,A),some (false,.lst [Tp C,Tp C']),some (false,Tp C),some (false,Tp C')]:=by generalize Tp C=t;generalize Tp C'=t';simp[gU]
 rw[ea,fE,p1,aG.thn_nx];show evB (WT TT k) [.ret (.bin .Add (.var 2) (.tcall .tuple [(.comp (.var 1) (.items (.var 3)) [(.cmp .NotIn (.var 1) (.var 0))] [2] (.nm 1) 1)]))] _=_;rw[aT,iN,gY,qU,aX,cS,lK,qS,jY,jY];show (fL (op2 (bQ .Add) (.ok .fz (Tp C)) (fW (Ty.f .tuple) (eB (dY (.ok .fz (.lst (C'.map .str))) _ [2] 1 (aJ (.nm 1)) _ _) (.ok [])))) _).thn _=_;rw[e1];show (fL (op2 (bQ .Add) (.ok .fz (Tp C)) (.ok .fz (Tp (dif C' C)))) _).thn _=_;rw[e2];rfl
theorem aM9(k:Nat){A:D}{C C':List Str}:(WT TT (k+1)).Φ "columns_of_pour" [A,.lst [Tp C,Tp C']]=tpo (if C=C' then none else some fQ) C:=by
 rw[aMD];have e:=ne_TT (C:=C) (C':=C') (m:=.fz) (m':=.fz);have p1:evB (WT TT k) [.asg (.tp [(.nm 2),(.nm 3)]) (.var 1)] [some (false,A),some (false,.lst [Tp C,Tp C']),none,none]=.nx [some (false,A),some (false,.lst [Tp C,Tp C']),some (false,Tp C),some (false,Tp C')]:=by generalize Tp C=t;generalize Tp C'=t';simp[gU]
 have ea:lQ=[.asg (.tp [(.nm 2),(.nm 3)]) (.var 1)]++[.ite (.cmp .NotEq (.var 2) (.var 3)) [.rz "Unlike" [(.str "both askings of a pour have the same columns in the same order")]] [],.retV 2]:=rfl
 by_cases h:C=C'
 . rw[if_pos h];rw[aQI h] at e;refine bL rfl ?_;show evB (WT TT k) lQ [some (false,A),some (false,.lst [Tp C,Tp C']),none,none]=_;rw[ea,fE,p1,aG.thn_nx,a9 (show evE (WT TT k) (.cmp .NotEq (.var 2) (.var 3)) [some (false,A),some (false,.lst [Tp C,Tp C']),some (false,Tp C),some (false,Tp C')]=_ from e)]
   rfl
 . rw[if_neg h];rw[aOC h] at e;refine dR (ρ:=[some (false,A),some (false,.lst [Tp C,Tp C']),some (false,Tp C),some (false,Tp C')]) rfl ?_;show evB (WT TT k) lQ [some (false,A),some (false,.lst [Tp C,Tp C']),none,none]=_;rw[ea,fE,p1,aG.thn_nx];exact oJ (show evE (WT TT k) (.cmp .NotEq (.var 2) (.var 3)) [some (false,A),some (false,.lst [Tp C,Tp C']),some (false,Tp C),some (false,Tp C')]=_ from e) (oI rfl)
theorem aNA(k:Nat){A:D}{C C':List Str}(hz:∀ z∈C',z.length<=40):(WT TT (k+1)).Φ "columns_of_leave" [A,.lst [Tp C,Tp C']]=tpo (if ∀ z∈C',z∈C then none else some fQ) C:=by
 rw[aME,<- zH];have p1:evB (WT TT k) [.asg (.tp [(.nm 2),(.nm 3)]) (.var 1)] [some (false,A),some (false,.lst [Tp C,Tp C']),none,none,none]=.nx [some (false,A),some (false,.lst [Tp C,Tp C']),some (false,Tp C),some (false,Tp C'),none]:=by generalize Tp C=t;generalize Tp C'=t';simp[gU]
 obtain ⟨ρ',⟨x,rfl⟩,e⟩:=kA (k:=aJ (.nm 4)) (body:=evB (WT TT k) nW) (λρ=>∃ x,ρ=[some (false,A),some (false,.lst [Tp C,Tp C']),some (false,Tp C),some (false,Tp C'),x]) (rQ fQ C) (ds:=C'.map .str) (ρ:=[some (false,A),some (false,.lst [Tp C,Tp C']),some (false,Tp C),some (false,Tp C'),none])
  (λd hd ρ hρ=>by
   obtain ⟨x,rfl⟩:=hρ;obtain ⟨z,hz',rfl⟩:=aSQ.mp hd;have e:=oG (m:=.fz) (m':=.fz) (z:=z) (C:=C);refine ⟨[some (false,A),some (false,.lst [Tp C,Tp C']),some (false,Tp C),some (false,Tp C'),some (false,.str z)],[some (false,A),some (false,.lst [Tp C,Tp C']),some (false,Tp C),some (false,Tp C'),some (false,.str z)],by simp,⟨_,rfl⟩,?_⟩
   show evB (WT TT k) [.ite (.cmp .NotIn (.var 4) (.var 2)) [.rz "Unlike" [(.fstr [(.str "the column "),(.fmt (.var 4)),(.str " of what is left out isn't there")])]] []] [some (false,A),some (false,.lst [Tp C,Tp C']),some (false,Tp C),some (false,Tp C'),some (false,.str z)]=out (if z∈C then none else some fQ) _;obtain ⟨y,ey⟩:=fs3 (W:=WT TT k) (ρ:=[some (false,A),some (false,.lst [Tp C,Tp C']),some (false,Tp C),some (false,Tp C'),some (false,.str z)]) (a := "the column ") (b := " of what is left out isn't there") (e:=.var 4) (m:=.fz) (z:=z) (by decide +kernel) (by decide +kernel) (hz z hz') rfl
   by_cases h:z∈C
   . rw[aQI h] at e;rw[if_pos h,a9 (show evE (WT TT k) (.cmp .NotIn (.var 4) (.var 2)) [some (false,A),some (false,.lst [Tp C,Tp C']),some (false,Tp C),some (false,Tp C'),some (false,.str z)]=_ from e)];rfl
   . rw[aOC h] at e;rw[if_neg h];exact rN (show evE (WT TT k) (.cmp .NotIn (.var 4) (.var 2)) [some (false,A),some (false,.lst [Tp C,Tp C']),some (false,Tp C),some (false,Tp C'),some (false,.str z)]=_ from e) ey) ⟨none,rfl⟩
 refine oM (ρ':=[some (false,A),some (false,.lst [Tp C,Tp C']),some (false,Tp C),some (false,Tp C'),x]) (r:=evB (WT TT k) [.retV 2]) rfl ?_ rfl;have ea:n9=[.asg (.tp [(.nm 2),(.nm 3)]) (.var 1)]++[.for (.items (.var 3)) (.nm 4) nW,.retV 2]:=rfl;show evB (WT TT k) n9 [some (false,A),some (false,.lst [Tp C,Tp C']),none,none,none]=_;rw[ea,fE,p1,aG.thn_nx,aT,lL];show (cM (aJ (.nm 4)) (evB (WT TT k) nW) (C'.map .str) [some (false,A),some (false,.lst [Tp C,Tp C']),some (false,Tp C),some (false,Tp C'),none]).thn _=_;rw[e]
def jpl:List Str:=[Str.ofString "join", Str.ofString "pour", Str.ofString "leave"]
theorem in3{m m':Md}{z:Str}:op2 (bF .In) (.ok m (.str z)) (.ok m' (.tup [.str (Str.ofString "join"),.str (Str.ofString "pour"),.str (Str.ofString "leave")]))=.ok .fz (.bl (decide (z∈jpl))):=rL (C:=jpl)
theorem tu0:eK (.ok [])=.ok .fz (.tup []):=by rfl
theorem tu1{a:D}:eK (.ok [(.fz,a)])=.ok .fz (.tup [a]):=by rfl
theorem aNB(k:Nat){x:D}:(WT TT (k+1)).Φ "askings_within" [.tup [.str "table", x]]=.ok .fz (.tup []):=by rw[rJ];refine bL rfl ?_;show evB _ hG [some (false,.tup [.str "table", x])]=_;simp[hG,i0,tu0]
theorem kB(k:Nat){A x:D}{w:Str}(h1:op2 ixD (.ok .fz A) (.ok .fz (.int 0))=.ok .fz (.str w))(h2:op2 ixD (.ok .fz A) (.ok .fz (.int 1))=.ok .fz x)(hw:(w==Str.ofString "table")=false)(hj:decide (w∈jpl)=false):(WT TT (k+1)).Φ "askings_within" [A]=.ok .fz (.tup [x]):=by rw[rJ];refine bL rfl ?_;show evB _ hG [some (false,A)]=_;have e3:=in3 (m:=.fz) (m':=.fz) (z:=w);rw[hj] at e3;simp[hG,h1,h2,hw,t3,e3,tu1]
theorem rR(k:Nat){x y:D}{w:Str}(hw:(w==Str.ofString "table")=false)(hj:decide (w∈jpl)=true):(WT TT (k+1)).Φ "askings_within" [.tup [.str w,x,y]]=.ok .fz (.tup [x,y]):=by rw[rJ];refine bL rfl ?_;show evB _ hG [some (false,.tup [.str w,x,y])]=_;have e3:=in3 (m:=.fz) (m':=.fz) (z:=w);rw[hj] at e3;simp[hG,j0,j1,j2,hw,t3,e3,t2]
theorem zK{M:List (Key×D)}{w:Str}{d:D}(h:bE M (.inr w)=some d){m m':Md}:op2 ixK (.ok m (.dct M)) (.ok m' (.str w))=.ok .fz d:=bP (by
 show (bE M (.inr w)).map _=_;rw[h];rfl)
theorem aNC{M:List (Key×D)}{w:Str}{d:D}(h:bE M (.inr w)=some d){m m':Md}:op2 (inK true) (.ok m (.str w)) (.ok m' (.dct M))=.ok .fz (.bl false):=bP (by
 show some (Md.fz,D.bl (if true=true then !(bE M (.inr w)).isSome else _))=_;rw[h];rfl)
theorem aND(k:Nat){M:List (Key×D)}{w:Str}{d:D}(h:bE M (.inr w)=some d):(WT TT (k+2)).Φ "columns_of" [.tup [.str "table", .str w],.dct M]=.ok .fz d:=by
 have a:(WT TT (k+1)).Φ "columns_of_table" [.str w,.dct M]=.ok .fz d:=by rw[yQ];refine bL rfl ?_;show evB _ oA [some (false,.str w),some (false,.dct M)]=_;simp[oA,aNC h,zK h]
 rw[rK];refine bL rfl ?_;show evB (WT TT (k+1)) d7 [some (false,.tup [.str "table", .str w]),some (false,.dct M),none,none]=_;have c1:aU 2 ((WT TT (k+1)).Φ "columns_of_table") (.ok [(.fz,.str w),(.fz,.dct M)])=.ok .fz d:=qX a;simp[d7,i0,i1,c1]
def kC:List (Str×Str):=[("pick", "columns_of_pick"),("keep", "columns_of_keep"),("call", "columns_of_call"),("join", "columns_of_join"),("pour", "columns_of_pour"),("total", "columns_of_total"),("leave", "columns_of_leave")]
def dfs:List Str:=["columns_of_pick", "columns_of_keep", "columns_of_call", "columns_of_join", "columns_of_pour", "columns_of_total", "columns_of_leave"]
theorem aNE{M:List (Key×D)}{w:Str}(h:bE M (.inr w)=none){m m':Md}:op2 (inK true) (.ok m (.str w)) (.ok m' (.dct M))=.ok .fz (.bl true):=bP (by
 show some (Md.fz,D.bl (if true=true then !(bE M (.inr w)).isSome else _))=_;rw[h];rfl)
theorem aNF(k:Nat){M:List (Key×D)}{w:Str}(hw:w.length<=40)(h:bE M (.inr w)=none):(WT TT (k+2)).Φ "columns_of" [.tup [.str "table", .str w],.dct M]=.exc j9:=by
 have a:(WT TT (k+1)).Φ "columns_of_table" [.str w,.dct M]=.exc j9:=by
  rw[yQ];refine dR (ρ:=[some (false,.str w),some (false,.dct M)]) rfl ?_;show evB (WT TT k) (.ite (.din true (.var 0) (.var 1)) [.rz "NoTable" [(.fstr [(.str "there is no table "),(.fmt (.var 0))])]] []::_) [some (false,.str w),some (false,.dct M)]=_;obtain ⟨y,ey⟩:=fs2 (W:=WT TT k) (ρ:=[some (false,.str w),some (false,.dct M)]) (a := "there is no table ") (e:=.var 0) (m:=.fz) (by decide +kernel) hw rfl
  exact oJ (show evE (WT TT k) (.din true (.var 0) (.var 1)) [some (false,.str w),some (false,.dct M)]=_ from aNE h) (oI ey)
 rw[rK];refine dR (ρ:=[some (false,.tup [.str "table", .str w]),some (false,.dct M),none,none]) rfl ?_;show evB (WT TT (k+1)) d7 [some (false,.tup [.str "table", .str w]),some (false,.dct M),none,none]=_;have c1:aU 2 ((WT TT (k+1)).Φ "columns_of_table") (.ok [(.fz,.str w),(.fz,.dct M)])=.exc j9:=g9 (ds:=[.str w,.dct M]) rfl rfl a;simp[d7,i0,i1,c1]
abbrev ρc(A M:D):Rho:=[some (false,A),some (false,M),none,none]
def lo(o:Option Str)(ys:List D):dN:=match o with
 | none=>.ok ys
 | some c=>.exc c
abbrev eCo:E:=.call "columns_of" 2 [(.var 1),(.var 0)]
theorem zL{W:WD}{M x:D}{xs:List D}{C:List Str}(h:W.Φ "columns_of" [x,M]=.ok .fz (Tp C)):dP (aJ (.nm 1)) (λρ=>evF W [] ρ) (λρ=>evE W eCo ρ) [some (false,M),none] (x::xs)=(dP (aJ (.nm 1)) (λρ=>evF W [] ρ) (λρ=>evE W eCo ρ) [some (false,M),none] xs).glue [Tp C]:=by
 have k:aJ (.nm 1) x [some (false,M),none]=some [some (false,M),some (false,x)]:=rfl;have e:evE W eCo [some (false,M),some (false,x)]=.ok .fz (Tp C):=show aU 2 (W.Φ "columns_of") (.ok [(.fz,x),(.fz,M)])=_ from qX h
 rw[dP,k];dsimp only;rw[wM];dsimp only;rw[e];rfl
theorem zM{W:WD}{M x:D}{xs:List D}{c:Str}(h:W.Φ "columns_of" [x,M]=.exc c):dP (aJ (.nm 1)) (λρ=>evF W [] ρ) (λρ=>evE W eCo ρ) [some (false,M),none] (x::xs)=.exc c:=by
 have k:aJ (.nm 1) x [some (false,M),none]=some [some (false,M),some (false,x)]:=rfl;have e:evE W eCo [some (false,M),some (false,x)]=.exc c:=show aU 2 (W.Φ "columns_of") (.ok [(.fz,x),(.fz,M)])=_ from g9 (ds:=[x,M]) rfl rfl h
 rw[dP,k];dsimp only;rw[wM];dsimp only;rw[e];rfl
theorem lY{W:WD}{M x:D}{o:Option Str}{C:List Str}(h:W.Φ "columns_of" [x,M]=tpo o C):dP (aJ (.nm 1)) (λρ=>evF W [] ρ) (λρ=>evE W eCo ρ) [some (false,M),none] [x]=lo o [Tp C]:=by
 cases o with
 | none=>rw[zL h];rfl
 | some c=>rw[zM h];rfl
theorem rS{W:WD}{M x y:D}{o o':Option Str}{C C':List Str}(h:W.Φ "columns_of" [x,M]=tpo o C)(h':W.Φ "columns_of" [y,M]=tpo o' C'):dP (aJ (.nm 1)) (λρ=>evF W [] ρ) (λρ=>evE W eCo ρ) [some (false,M),none] [x,y]=lo (o.or o') [Tp C,Tp C']:=by
 cases o with
 | none=>rw[zL h,lY h'];cases o' <;> rfl
 | some c=>rw[zM h];rfl
theorem iR(k:Nat){A M:D}{w f:Str}{xs ys:List D}{o o':Option Str}{C:List Str}(h1:op2 ixD (.ok .fz A) (.ok .fz (.int 0))=.ok .fz (.str w))(hw:(w==Str.ofString "table")=false)(hf:kC.lookup w=some f)(hf':dfs.contains f=true)(hx:(WT TT k).Φ "askings_within" [A]=.ok .fz (.tup xs))(hs:xs.length<sizeLine)(hq:dP (aJ (.nm 1)) (λρ=>evF (WT TT k) [] ρ) (λρ=>evE (WT TT k) eCo ρ) [some (false,M),none] xs=lo o ys)(hr:o=none->(WT TT k).Φ f [A,.lst ys]=tpo o' C):(WT TT (k+1)).Φ "columns_of" [A,M]=tpo (o.or o') C:=by
 have cx:aU 1 ((WT TT k).Φ "askings_within") (.ok [(.fz,A)])=.ok .fz (.tup xs):=wR hx;rw[rK];generalize WT TT k=W at *;have ea:d7=d7.take 1++([.setC 2 true (.compX eCo (.items (.call "askings_within" 1 [(.var 0)])) [] [1] (.nm 1) 1)]++[.set 3 (.deed "DEEDS" kC (.ix (.var 0) (.int 0))),.ret (.callv 3 dfs 2 [(.var 0),(.var 2)])]):=rfl;have p1:evB W (d7.take 1) (ρc A M)=.nx (ρc A M):=by simp[d7,h1,hw]
 have ei:evE W (.items (.call "askings_within" 1 [(.var 0)])) (ρc A M)=.ok .fz (.lst xs):=by simp[cx]
 have ec:evE W (.compX eCo (.items (.call "askings_within" 1 [(.var 0)])) [] [1] (.nm 1) 1) (ρc A M)=(lo o ys).out:=by rw[aLB,ei];show (if xs.length<sizeLine then (dP (aJ (.nm 1)) (λρ=>evF W [] ρ) (λρ=>evE W eCo ρ) [some (false,M),none] xs).out else .stuck)=_;rw[if_pos hs,hq]
 cases o with
 | some c=>refine dR (ρ:=ρc A M) rfl ?_;show evB W d7 (ρc A M)=_;rw[ea,fE,p1,aG.thn_nx,fE,aT,qV,ec];rfl
 | none =>
  have p2:evB W [.setC 2 true (.compX eCo (.items (.call "askings_within" 1 [(.var 0)])) [] [1] (.nm 1) 1)] (ρc A M)=.nx [some (false,A),some (false,M),some (false,.lst ys),none]:=by rw[aT,qV,ec];rfl
  have cr:aU 2 (W.Φ f) (.ok [(.fz,A),(.fz,.lst ys)])=tpo o' C:=oK (ds:=[A,.lst ys]) rfl rfl (hr rfl);have d1:jN kC (.ok .fz (.str w))=.ok .fz (.fn f):=by
   show (match kC.lookup w with | some f=>Res.ok .fz (.fn f) | none=>.stuck)=_
   rw[hf]
  have d2:lB W.Φ dfs 2 (.ok .fz (.fn f)) (.ok [(.fz,A),(.fz,.lst ys)])=tpo o' C:=by show (if dfs.contains f=true then aU 2 (W.Φ f) (.ok [(.fz,A),(.fz,.lst ys)]) else .stuck)=_;rw[if_pos hf',cr]
  have tail:evB W [.set 3 (.deed "DEEDS" kC (.ix (.var 0) (.int 0))),.ret (.callv 3 dfs 2 [(.var 0),(.var 2)])] [some (false,A),some (false,M),some (false,.lst ys),none]=(fL (tpo o' C) [some (false,A),some (false,M),some (false,.lst ys),some (false,.fn f)]).thn (evB W []):=by generalize kC=T1 at *;generalize dfs=T2 at *;simp[h1,d1,d2]
  have all:evB W d7 (ρc A M)=(fL (tpo o' C) [some (false,A),some (false,M),some (false,.lst ys),some (false,.fn f)]).thn (evB W []):=by rw[ea,fE,p1,aG.thn_nx,fE,p2,aG.thn_nx,tail]
  cases o' with
  | none=>exact bL rfl (by show evB W d7 (ρc A M)=_;rw[all];rfl)
  | some c=>exact dR (ρ:=[some (false,A),some (false,M),some (false,.lst ys),some (false,.fn f)]) rfl (by show evB W d7 (ρc A M)=_;rw[all];rfl)
theorem wn{w:Str}(h:(w==Str.ofString "table")=false:=by decide +kernel):(w==Str.ofString "table")=false:=h
theorem s1:1<sizeLine:=by have:=aPH;omega
theorem s2:2<sizeLine:=by have:=aPH;omega
theorem dp{d k n:Nat}(h:d<=3):d+1<=k+n+6:=aOP (Nat.succ_le_succ h) (aOP (by decide:4<=6) (Nat.le_add_left 6 (k+n)))
theorem ns{n:Nat}(h:n<=900):n<=sizeLine:=aOP h (by have:=aPH;omega)
def Co(M:List (Key×D))(A:D)(o:Option Str)(C:List Str)(n:Nat):Prop:=∀ k,(WT TT (k+n+7)).Φ "columns_of" [A,.dct M]=tpo o C
section
variable {M:List (Key×D)}{d d':D}{o o':Option Str}{C C' K:List Str}{n n':Nat}
theorem Co.mono(h:Co M d o C n)(hn:n<=n'):Co M d o C n':=λk=>by
 have:=h (k+(n'-n));rw[show k+(n'-n)+n+7=k+n'+7 by omega] at this
 exact this
theorem Co.table{w:Str}(h:bE M (.inr w)=some (Tp C)):Co M (.tup [.str "table", .str w]) none C 0:=λk=>aND (k+5) h
theorem Co.gone{w:Str}(hw:w.length<=40)(h:bE M (.inr w)=none):Co M (.tup [.str "table", .str w]) (some j9) C 0:=λk=>aNF (k+5) hw h
theorem Co.pick{t:Ts}{L:List Str}(h:Co M d o C n)(hd:t.dep<=3)(hL:eV [] t=L.map .str)(hl:L.length<=900)(hz:∀ z∈L,z.length<=40):Co M (.tup [.str "pick", d,tsD [] t]) (o.or (if ∀ z∈L,z∈C then none else some bU)) C (n+1):=λk=>by
 have hc:=aMU (f:=[]) t (k+n+6) (dp hd) (by rw[hL,aPU];exact ns hl)
 rw[hL] at hc;exact iR (k+n+7) (w:=Str.ofString "pick") (f:=Str.ofString "columns_of_pick") (xs:=[d]) (ys:=[Tp C]) j0 wn (by decide +kernel) (by decide +kernel) (kB (k+n+6) (w:=Str.ofString "pick") j0 j1 wn (by decide +kernel)) s1 (lY (h k)) λ_=>aM2 (k+n+5) hz hc
theorem Co.keep(h:Co M d o C n)(hz:∀ z∈K,z.length<=40):Co M (.tup [.str "keep", d,Tp K]) (o.or (bad C K)) K (n+1):=λk =>
 iR (k+n+7) (w:=Str.ofString "keep") (f:=Str.ofString "columns_of_keep") (xs:=[d]) (ys:=[Tp C]) j0 wn (by decide +kernel) (by decide +kernel) (kB (k+n+6) (w:=Str.ofString "keep") j0 j1 wn (by decide +kernel)) s1 (lY (h k)) λ_=>aM0 (k+n+4) hz
theorem Co.call(h:Co M d o C n)(hz:∀ z∈K,z.length<=40)(hb:K.length<=900):Co M (.tup [.str "call", d,Tp K]) (o.or (if K.length=C.length then (if K.Nodup then none else some cF) else some fQ)) K (n+1):=λk =>
 iR (k+n+7) (w:=Str.ofString "call") (f:=Str.ofString "columns_of_call") (xs:=[d]) (ys:=[Tp C]) j0 wn (by decide +kernel) (by decide +kernel) (kB (k+n+6) (w:=Str.ofString "call") j0 j1 wn (by decide +kernel)) s1 (lY (h k)) λ_=>aM5 (k+n+5) hz hb
theorem Co.total{z:Str}(h:Co M d o C n)(hz0:z.length<=40)(hz:∀ z∈K,z.length<=40):Co M (.tup [.str "total", d,.str z,Tp K]) (o.or (if z∈C then bad C K else some bU)) K (n+1):=λk =>
 iR (k+n+7) (w:=Str.ofString "total") (f:=Str.ofString "columns_of_total") (xs:=[d]) (ys:=[Tp C]) f0 wn (by decide +kernel) (by decide +kernel) (kB (k+n+6) (w:=Str.ofString "total") f0 f1 wn (by decide +kernel)) s1 (lY (h k)) λ_=>aM1 (k+n+3) hz0 hz
theorem Co.join(h:Co M d o C n)(h':Co M d' o' C' n)(hs:C.length+C'.length<sizeLine):Co M (.tup [.str "join", d,d']) (o.or o') (C++dif C' C) (n+1):=λk=>by
 have:=iR (k+n+7) (o:=o.or o') (o':=none) (C:=C++dif C' C) (w:=Str.ofString "join") (f:=Str.ofString "columns_of_join") (xs:=[d,d']) (ys:=[Tp C,Tp C']) j0 wn (by decide +kernel) (by decide +kernel) (rR (k+n+6) (w:=Str.ofString "join") wn (by decide +kernel)) s2 (rS (h k) (h' k)) λ_=>aM8 (k+n+6) hs
 rw[Option.or_none] at this;exact this
theorem Co.pour(h:Co M d o C n)(h':Co M d' o' C' n):Co M (.tup [.str "pour", d,d']) ((o.or o').or (if C=C' then none else some fQ)) C (n+1):=λk =>
 iR (k+n+7) (o:=o.or o') (w:=Str.ofString "pour") (f:=Str.ofString "columns_of_pour") (xs:=[d,d']) (ys:=[Tp C,Tp C']) j0 wn (by decide +kernel) (by decide +kernel) (rR (k+n+6) (w:=Str.ofString "pour") wn (by decide +kernel)) s2 (rS (h k) (h' k)) λ_=>aM9 (k+n+6)
theorem Co.leave(h:Co M d o C n)(h':Co M d' o' C' n)(hz:∀ z∈C',z.length<=40):Co M (.tup [.str "leave", d,d']) ((o.or o').or (if ∀ z∈C',z∈C then none else some fQ)) C (n+1):=λk =>
 iR (k+n+7) (o:=o.or o') (w:=Str.ofString "leave") (f:=Str.ofString "columns_of_leave") (xs:=[d,d']) (ys:=[Tp C,Tp C']) j0 wn (by decide +kernel) (by decide +kernel) (rR (k+n+6) (w:=Str.ofString "leave") wn (by decide +kernel)) s2 (rS (h k) (h' k)) λ_=>aNA (k+n+6) hz
end
theorem zN:∀ (a b:List D) (i:Nat),bK i (a++b)=bK i a++bK (i+a.length) b
 | [],b,i=>by rfl
 | x::a,b,i=>by show _::bK (i+1) (a++b)=_::(bK (i+1) a++_);rw[zN a b (i+1),aQJ,show i+1+a.length=i+(a.length+1) by omega]
theorem zO{C K1 r:List Str}(hn:K1.Nodup)(hs:∀ z∈K1,z∈C):∀ d∈bK 0 (K1.map D.str),iQ C (K1++r) d=none:=λd hd=>by
 obtain ⟨j,hj,ed⟩:=aST.mp hd;obtain ⟨v,hv,rfl⟩:=oH (show (bK 0 (K1.map .str))[j]? = some d by rw[aQ5 hj,ed])
 rw[aPR] at hv;obtain ⟨z,hz',rfl⟩:=aQM.mp hv;obtain ⟨hj',ez⟩:=aOU.mp hz';show (if z∈C then (if z∈(K1++r).take ((0+j:Nat):Int).toNat then some cF else none) else some bU)=none;rw[if_pos (hs z (by rw[<- ez];exact aQ6 hj')),aRO,aP1,List.take_append_of_le_length (by omega)]
 rw[if_neg];intro q;obtain ⟨i,hi,e⟩:=aST.mp q;rw[List.getElem_take] at e;rw[aPM] at hi;rw[<- ez] at e;have:=(aOV hn).mp e;omega
theorem lZ{C K:List Str}(hn:K.Nodup)(hs:∀ z∈K,z∈C):bad C K=none:=by unfold bad;rw[aSU];have:=zO (r:=[]) hn hs;rw[aPJ] at this;exact this
theorem zP{C K1 r:List Str}{z:Str}(hn:K1.Nodup)(hs:∀ z∈K1,z∈C):bad C (K1++z::r)=if z∈C then (if z∈K1 then some cF else bad C (K1++z::r)) else some bU:=by
 have e:bad C (K1++z::r)=(iQ C (K1++z::r) (.tup [.int ((K1.length:Nat):Int),.str z])).or ((bK (K1.length+1) (r.map .str)).findSome? (iQ C (K1++z::r))):=by unfold bad;rw[aSR,zN,List.findSome?_append,aSU.mpr (zO hn hs),Option.none_or,aPU,aRO];show List.findSome? _ (D.tup [.int ((K1.length:Nat):Int),.str z]::bK (K1.length+1) (r.map .str))=_;rw[aSS];generalize iQ C (K1++z::r) (.tup [.int ((K1.length:Nat):Int),.str z])=q;cases q <;> rfl
 have ec:iQ C (K1++z::r) (.tup [.int ((K1.length:Nat):Int),.str z])=if z∈C then (if z∈K1 then some cF else none) else some bU:=by show (if z∈C then (if z∈(K1++z::r).take ((K1.length:Nat):Int).toNat then some cF else none) else some bU)=_;rw[aP1,List.take_left]
 by_cases h:z∈C
 . rw[if_pos h];by_cases h2:z∈K1
   . rw[if_pos h2,e,ec,if_pos h,if_pos h2];rfl
   . rw[if_neg h2]
 . rw[if_neg h,e,ec,if_neg h];rfl
theorem zQ{C K1 r:List Str}{z:Str}(hn:K1.Nodup)(hs:∀ z∈K1,z∈C)(h:¬ z∈C):bad C (K1++z::r)=some bU:=by rw[zP hn hs,if_neg h]
theorem zR{C K1 r:List Str}{z:Str}(hn:K1.Nodup)(hs:∀ z∈K1,z∈C)(h:z∈K1):bad C (K1++z::r)=some cF:=by rw[zP hn hs,if_pos (hs z h),if_pos h]
theorem md{c n:Int}(h:0<n):∃ j:Nat,c % n=(j:Int)/\(j:Int)<n:=by
 have h0:=Int.emod_nonneg c (show n≠0 by omega)
 have h1:=Int.emod_lt_of_pos c h;exact ⟨(c % n).toNat,by omega,by omega⟩
theorem zS(x:Nat):∀ (k:Nat) (acc:Array Nat),(List.replicate k #[x]).foldl (· ++ ·) acc=acc++(List.replicate k x).toArray
 | 0,acc=>by simp
 | k+1,acc=>by rw[aQY,aQZ,zS x k,aQY];apply Array.ext';simp
theorem aNG(x k:Nat):Txt.mul ⟨#[x]⟩ ((k+1:Nat):Int)=⟨(List.replicate (k+1) x).toArray⟩:=by
 unfold Txt.mul;rw[if_neg (by omega)]
 cases k with
 | zero=>rfl
 | succ k =>
  have h:((((k+1+1:Nat):Int)==1)||((⟨#[x]⟩:Str).length==0))=false:=by have:(⟨#[x]⟩:Str).length=1:=rfl;rw[this,Bool.or_eq_false_iff];exact ⟨by simpa using (by omega:¬ ((k+1+1:Nat):Int)=1),rfl⟩
  rw[h];rw[if_neg (by decide),aP1,zS]
  simp
theorem rT(x n:Nat)(hn:n<=1000){m m':Md}:op2 (bQ .Mult) (.ok m (.str ⟨#[x]⟩)) (.ok m' (.int (n:Int)))=.ok .fz (.str ⟨(List.replicate n x).toArray⟩):=by
 have hs:sizeLine=16777216:=aPH;have l1:(⟨#[x]⟩:Str).length=1:=rfl;refine bP ?_;show orO (orO _ iE) nG m (.str ⟨#[x]⟩) m' (.int (n:Int))=_;unfold orO;cases n with
 | zero =>
  have e1:iE m (.str ⟨#[x]⟩) m' (.int ((0:Nat):Int))=none:=by simp[iE]
  rw[e1];rfl
 | succ k =>
  have e1:iE m (.str ⟨#[x]⟩) m' (.int ((k+1:Nat):Int))=some (.fz,.str ⟨(List.replicate (k+1) x).toArray⟩):=by show (if (decide ((1:Int)<=((k+1:Nat):Int))&&decide (((k+1:Nat):Int)<=1000000)&&decide ((⟨#[x]⟩:Str).length * (((k+1:Nat):Int)).toNat<=sizeLine))=true then some (Md.fz,D.str (Txt.mul ⟨#[x]⟩ ((k+1:Nat):Int))) else none)=_;rw[if_pos (by rw[l1,aP1];simp only[aQB,aQQ];omega),aNG]
  rw[e1];rfl
theorem app_l(a b:List Nat):(⟨a.toArray⟩:Str)++⟨b.toArray⟩=⟨(a++b).toArray⟩:=by refine PySem.Str.ext' ?_;rw[PySem.Str.cps_append];simp
theorem zT{a b:List Nat}(h:a.length+b.length<=2000){m m':Md}:op2 (bQ .Add) (.ok m (.str ⟨a.toArray⟩)) (.ok m' (.str ⟨b.toArray⟩))=.ok .fz (.str ⟨(a++b).toArray⟩):=by have hs:sizeLine=16777216:=aPH;rw[aLL (by show a.toArray.size+b.toArray.size<=_;simp;omega),app_l]
theorem zU{f:Nat->Str}{n:Nat}(h:∀ i j,i<n->j<n->f i=f j->i=j):((List.range n).map f).Nodup:=by unfold List.Nodup;rw[List.pairwise_map];exact List.Pairwise.imp_of_mem (λ{a b} ha hb hab e=>hab (h a b (aON.mp ha) (aON.mp hb) e)) List.nodup_range
theorem zV{a b:List Nat}(h:(⟨a.toArray⟩:Str)=⟨b.toArray⟩):a=b:=by
 have:a.toArray=b.toArray:=by injection h
 simpa using this
def rU:List Nat:=[107,109,113,98,122,119,104,118,99,106,120,102]
theorem aNH:(Str.ofString "kmqbzwhvcjxf").cps.toList=rU:=by decide +kernel
def lt(k:Nat):Nat:=rU.getD k 0
theorem aNI:∀ i,i<12->∀ j,j<12->lt i=lt j->i=j:=by decide
theorem lt_ix{k:Nat}(hk:k<12){m m':Md}:op2 ixD (.ok m (.str (Str.ofString "kmqbzwhvcjxf"))) (.ok m' (.int (k:Int)))=.ok .fz (.str ⟨[lt k].toArray⟩):=ix_s (cD (by
 rw[aNH];unfold lt;rw[aQ4,aQ5 (show k<rU.length from hk)];rfl))
def nA(k:Nat):Str:=⟨(List.replicate (k+1) 112).toArray⟩
def nB(a e t k:Nat):Str:=⟨((List.replicate a 114++[lt k])++List.replicate t e).toArray⟩
theorem nA_nd{n:Nat}:((List.range n).map nA).Nodup:=zU λi j _ _ h=>by have:=congrArg List.length (zV h);simp at this;exact this
theorem nB_nd{a e t n:Nat}(hn:n<=12):((List.range n).map (nB a e t)).Nodup:=zU λi j hi hj h=>by
 have h:=congrArg (λl=>l[a]?) (zV h);have q:∀ x:Nat,((List.replicate a 114++[x])++List.replicate t e)[a]? = some x:=λx=>by
  rw[aPQ (by simp),aPO (by simp)]
  simp
 simp only[q] at h;exact aNI i (by omega) j (by omega) (aOF h)
def fvI(f:Nat->Str):D->D
 | .int i=>.str (f i.toNat)
 | d=>d
theorem zW(f:Nat->Str)(n:Nat):(bT 0 (n:Int)).map (fvI f)=((List.range n).map f).map D.str:=by unfold bT;rw[List.map_map,List.map_map];simp[Function.comp_def,fvI]
section
variable {W:WD}{c:Int}{n:Nat}
theorem n_pre:∃ s:Nat,0<s/\s<=40/\evB W (hU.take 2) [some (false,.int c),some (false,.int (n:Int)),none,none]=.nx [some (false,.int c),some (false,.int (n:Int)),some (false,.int (s:Int)),none]:=by
 by_cases h:c / 6 % 9=4
 . exact ⟨40,by decide,by decide,by simp[hU,h]⟩
 . obtain ⟨j,ej,hj⟩:=md (c:=c) (n:=6) (by decide)
   refine ⟨1+j,by omega,by omega,?_⟩
   have h':(c / 6 % 9==4)=false:=aOD.mpr h;simp[hU,h',ej]
theorem n_A(hn:n<=12)(ρ:Rho):dY (.ok .fz (.lst (bT 0 (n:Int)))) ρ [] 1 (aJ (.nm 0)) (λρ=>evF W [] ρ) (λρ=>evE W (.bin .Mult (.str "p") (.bin .Add (.var 0) (.int 1))) ρ)=.ok .fr (.lst (((List.range n).map nA).map .str)):=by
 have hs:sizeLine=16777216:=aPH;rw[<- zW];refine qY _ (by rw[yV];omega) λd hd=>?_
 obtain ⟨i,hi,rfl⟩:=mem_range hd;have ml:=rT 112 (i+1) (by omega) (m:=.fz) (m':=.fz)
 rw[show (⟨#[112]⟩:Str) = "p" from rfl] at ml
 refine ⟨[some (false,.int (i:Int))],.fz,rfl,by simp,.fz,?_⟩
 show _=Res.ok Md.fz (.str (nA i));unfold nA;generalize (⟨(List.replicate (i+1) 112).toArray⟩:Str)=Z at *;simp at ml;simp[ml]
theorem n_B(hn:n<=12){a s e:Nat}(ha:a<s)(hs:s<=40)(he:op2 ixD (.ok .fz (.str "r7")) (.ok .fz (.int (c % 2)))=.ok .fz (.str ⟨#[e]⟩))(ρ:Rho)(hρ:cH [3,0,2] ρ=[some (false,.int (a:Int)),some (false,.int c),some (false,.int (s:Int))]):dY (.ok .fz (.lst (bT 0 (n:Int)))) ρ [3,0,2] 1 (aJ (.nm 3)) (λρ=>evF W [] ρ) (λρ=>evE W (.bin .Add (.bin .Add (.bin .Mult (.str "r") (.var 0)) (.ix (.str "kmqbzwhvcjxf") (.var 3))) (.bin .Mult (.ix (.str "r7") (.bin .Mod (.var 1) (.int 2))) (.bin .Sub (.bin .Sub (.var 2) (.var 0)) (.int 1)))) ρ)=.ok .fr (.lst (((List.range n).map (nB a e (s-a-1))).map .str)):=by
 have hsz:sizeLine=16777216:=aPH;rw[<- zW];refine qY _ (by rw[yV];omega) λd hd=>?_
 obtain ⟨i,hi,rfl⟩:=mem_range hd;have m1:=rT 114 a (by omega) (m:=.fz) (m':=.fz)
 rw[show (⟨#[114]⟩:Str) = "r" from rfl] at m1
 have m2:=rT e (s-a-1) (by omega) (m:=.fz) (m':=.fz)
 rw[show ((s-a-1:Nat):Int)=(s:Int)-(a:Int)-1 by omega] at m2
 have l1:=lt_ix (k:=i) (by omega) (m:=.fz) (m':=.fz)
 have a1:=zT (a:=List.replicate a 114) (b:=[lt i]) (m:=.fz) (m':=.fz) (by simp;omega)
 have a2:=zT (a:=List.replicate a 114++[lt i]) (b:=List.replicate (s-a-1) e) (m:=.fz) (m':=.fz) (by simp;omega)
 refine ⟨[some (false,.int (a:Int)),some (false,.int c),some (false,.int (s:Int)),some (false,.int (i:Int))],.fz,by rw[hρ];rfl,by simp,.fz,?_⟩
 show _=Res.ok Md.fz (.str (nB a e (s-a-1) i));unfold nB;generalize (⟨((List.replicate a 114++[lt i])++List.replicate (s-a-1) e).toArray⟩:Str)=Z at *;generalize (⟨(List.replicate a 114++[lt i]).toArray⟩:Str)=Z1 at *;generalize (⟨(List.replicate (s-a-1) e).toArray⟩:Str)=Z2 at *;generalize (⟨(List.replicate a 114).toArray⟩:Str)=Z3 at *;generalize (⟨[lt i].toArray⟩:Str)=Z4 at *;simp[m1,he,m2,l1,a1,a2]
theorem c_A(hn:n<=12){s:Int}:evE W (.comp (.bin .Mult (.str "p") (.bin .Add (.var 0) (.int 1))) (.rng1 (.var 1)) [] [] (.nm 0) 1) [some (false,.int c),some (false,.int (n:Int)),some (false,.int s),none]=.ok .fr (.lst (((List.range n).map nA).map .str)):=by
 have er:=oC (m:=.fz) (n:=(n:Int)) (by omega) (by omega)
 have cA:=n_A (W:=W) hn [some (false,.int c),some (false,.int (n:Int)),some (false,.int s),none];have ei:evE W (.rng1 (.var 1)) [some (false,.int c),some (false,.int (n:Int)),some (false,.int s),none]=.ok .fz (.lst (bT 0 (n:Int))):=by rw[qT,jY,<- er,g_1,g_0];rw[mV]
 rw[lK,ei];exact cA
theorem c_B(hn:n<=12){a s e:Nat}(ha:a<s)(hs:s<=40)(he:op2 ixD (.ok .fz (.str "r7")) (.ok .fz (.int (c % 2)))=.ok .fz (.str ⟨#[e]⟩)):evE W (.comp (.bin .Add (.bin .Add (.bin .Mult (.str "r") (.var 0)) (.ix (.str "kmqbzwhvcjxf") (.var 3))) (.bin .Mult (.ix (.str "r7") (.bin .Mod (.var 1) (.int 2))) (.bin .Sub (.bin .Sub (.var 2) (.var 0)) (.int 1)))) (.rng1 (.var 1)) [] [3,0,2] (.nm 3) 1) [some (false,.int c),some (false,.int (n:Int)),some (false,.int (s:Int)),some (false,.int (a:Int))]=.ok .fr (.lst (((List.range n).map (nB a e (s-a-1))).map .str)):=by
 have er:=oC (m:=.fz) (n:=(n:Int)) (by omega) (by omega)
 have cB:=n_B (W:=W) hn ha hs he [some (false,.int c),some (false,.int (n:Int)),some (false,.int (s:Int)),some (false,.int (a:Int))] rfl;have ei:evE W (.rng1 (.var 1)) [some (false,.int c),some (false,.int (n:Int)),some (false,.int (s:Int)),some (false,.int (a:Int))]=.ok .fz (.lst (bT 0 (n:Int))):=by rw[qT,jY,<- er,g_1,g_0];rw[mV]
 rw[lK,ei];exact cB
def xA:E:=.comp (.bin .Mult (.str "p") (.bin .Add (.var 0) (.int 1))) (.rng1 (.var 1)) [] [] (.nm 0) 1
def xB:E:=.comp (.bin .Add (.bin .Add (.bin .Mult (.str "r") (.var 0)) (.ix (.str "kmqbzwhvcjxf") (.var 3))) (.bin .Mult (.ix (.str "r7") (.bin .Mod (.var 1) (.int 2))) (.bin .Sub (.bin .Sub (.var 2) (.var 0)) (.int 1)))) (.rng1 (.var 1)) [] [3,0,2] (.nm 3) 1
def kD:List D3.S:=[.ite (.cmp .Eq (.bin .Mod (.bin .FloorDiv (.var 0) (.int 54)) (.int 4)) (.int 1)) [.ret xA] [],.set 3 (.frz (.bin .Mod (.bin .FloorDiv (.var 0) (.int 216)) (.var 2))),.ret xB]
theorem aNJ:hU=hU.take 2++kD:=rfl
theorem t_A{d:D}{s:Int}(h:c / 54 % 4=1)(hx:evE W xA [some (false,.int c),some (false,.int (n:Int)),some (false,.int s),none]=.ok .fr d):evB W kD [some (false,.int c),some (false,.int (n:Int)),some (false,.int s),none]=.rt .fr d:=by unfold kD;generalize xA=X at *;generalize xB=Y at *;simp[h,hx]
theorem t_B{d:D}{s a:Int}(h:¬ c / 54 % 4=1)(em:op2 (bQ .Mod) (.ok .fz (.int (c / 216))) (.ok .fz (.int s))=.ok .fz (.int a))(hx:evE W xB [some (false,.int c),some (false,.int (n:Int)),some (false,.int s),some (false,.int a)]=.ok .fr d):evB W kD [some (false,.int c),some (false,.int (n:Int)),some (false,.int s),none]=.rt .fr d:=by
 have h':(c / 54 % 4==1)=false:=aOD.mpr h;have g1:evE W (.cmp .Eq (.bin .Mod (.bin .FloorDiv (.var 0) (.int 54)) (.int 4)) (.int 1)) [some (false,.int c),some (false,.int (n:Int)),some (false,.int s),none]=.ok .fz (.bl false):=by simp[h']
 have g2:evE W (.frz (.bin .Mod (.bin .FloorDiv (.var 0) (.int 216)) (.var 2))) [some (false,.int c),some (false,.int (n:Int)),some (false,.int s),none]=.ok .fz (.int a):=by simp[em]
 unfold kD;rw[aT,iO,g1,qW,eF,aG.thn_nx,aT,nQ,g2,wQ,aG.thn_nx];show evB W [.ret xB] [some (false,.int c),some (false,.int (n:Int)),some (false,.int s),some (false,.int a)]=_;rw[aT,iN,hx];rfl
end
theorem aNK(k:Nat)(hk:k<12):(nA k).length<=40:=by unfold nA Str.length;simp;omega
theorem aNL{a e t k:Nat}(h:a+1+t<=40):(nB a e t k).length<=40:=by unfold nB Str.length;simp;omega
theorem names(k:Nat)(c:Int){n:Nat}(hn:n<=12):∃ N:List Str,N.length=n/\N.Nodup/\(∀ z∈N,z.length<=40)/\(WT TT (k+1)).Φ "_law_names" [.int c,.int (n:Int)]=.ok .fr (.lst (N.map .str)):=by
 obtain ⟨s,s0,s1,pre⟩:=n_pre (W:=WT TT k) (c:=c) (n:=n)
 suffices q:∃ N:List Str,N.length=n/\N.Nodup/\(∀ z∈N,z.length<=40)/\evB (WT TT k) kD [some (false,.int c),some (false,.int (n:Int)),some (false,.int (s:Int)),none]=.rt .fr (.lst (N.map .str)) by obtain ⟨N,h1,h2,h4,h3⟩:=q;refine ⟨N,h1,h2,h4,?_⟩;rw[aMK];refine bL rfl ?_;show evB (WT TT k) hU [some (false,.int c),some (false,.int (n:Int)),none,none]=_;rw[aNJ,fE,pre,aG.thn_nx,h3]
 by_cases h:c / 54 % 4=1
 . exact ⟨(List.range n).map nA,by simp,nA_nd,λz hz=>by
     obtain ⟨i,hi,rfl⟩:=aSQ.mp hz
     exact aNK i (by have:=aON.mp hi;omega),t_A h (c_A hn)⟩
 . obtain ⟨a,ea,ha⟩:=md (c:=c / 216) (n:=(s:Int)) (by omega)
   obtain ⟨e,_,he⟩:=aMQ (Str.ofString "r7").cps.toList c 2 (by decide +kernel) (by decide)
   exact ⟨(List.range n).map (nB a e (s-a-1)),by simp,nB_nd hn,λz hz=>by
    obtain ⟨i,hi,rfl⟩:=aSQ.mp hz
    exact aNL (by omega),t_B h (by rw[wN (by omega),ea]) (c_B hn (by omega) s1 (ix_s he))⟩
section
variable {W:WD}{ρ:Rho}{C C':List Str}{a b e:E}{i j:Nat}{m:Md}{u v:Int}{z:Str}{p q r s:D}
theorem aNM(h:C.length+C'.length<=9000)(ha:evE W a ρ=.ok .fz (Tp C))(hb:evE W b ρ=.ok .fz (Tp C')):evE W (.bin .Add a b) ρ=.ok .fz (Tp (C++C')):=by have hsz:sizeLine=16777216:=aPH;rw[gY,ha,hb,zC (by omega)]
theorem cT(h:evE W a ρ=.ok .fz p):evE W (.frz a) ρ=.ok .fz p:=by rw[lJ,h,x_frz]
theorem gJ(h:evE W a ρ=.ok .fz (.str z)):evE W (.tup [a]) ρ=.ok .fz (Tp [z]):=by show eK (aZ W [a] ρ)=_;rw[aX,cS,h];rfl
theorem bH(ha:evE W a ρ=.ok .fz p)(hb:evE W b ρ=.ok .fz q):evE W (.tup [a,b]) ρ=.ok .fz (.tup [p,q]):=by show eK (aZ W [a,b] ρ)=_;rw[aX,aX,cS,ha,hb];rfl
theorem bD(ha:evE W a ρ=.ok .fz p)(hb:evE W b ρ=.ok .fz q)(he:evE W e ρ=.ok .fz r):evE W (.tup [a,b,e]) ρ=.ok .fz (.tup [p,q,r]):=by show eK (aZ W [a,b,e] ρ)=_;rw[aX,aX,aX,cS,ha,hb,he];rfl
theorem oN{f:E}(ha:evE W a ρ=.ok .fz p)(hb:evE W b ρ=.ok .fz q)(he:evE W e ρ=.ok .fz r)(hf:evE W f ρ=.ok .fz s):evE W (.tup [a,b,e,f]) ρ=.ok .fz (.tup [p,q,r,s]):=by show eK (aZ W [a,b,e,f] ρ)=_;rw[aX,aX,aX,aX,cS,ha,hb,he,hf];rfl
theorem oO(ha:evE W a ρ=.ok .fz p)(hb:evE W b ρ=.ok .fz q)(he:evE W e ρ=.ok .fz r):evE W (.lst [a,b,e]) ρ=.ok .fr (.lst [p,q,r]):=by show iF (aZ W [a,b,e] ρ)=_;rw[aX,aX,aX,cS,ha,hb,he];rfl
theorem cU(hv:0<v)(ha:evE W a ρ=.ok .fz (.int u))(hb:evE W b ρ=.ok .fz (.int v)):evE W (.bin .Mod a b) ρ=.ok .fz (.int (u % v)):=by rw[gY,ha,hb,wN hv]
theorem l0(hv:0<v)(hb':v.natAbs<=1000000000)(ha:evE W a ρ=.ok .fz (.int u))(hb:evE W b ρ=.ok .fz (.int v)):evE W (.bin .FloorDiv a b) ρ=.ok .fz (.int (u / v)):=by rw[gY,ha,hb,aLI hv hb']
theorem zX(ha:evE W a ρ=.ok .fz (.int u))(hb:evE W b ρ=.ok .fz (.int v)):evE W (.bin .Add a b) ρ=.ok .fz (.int (u+v)):=by rw[gY,ha,hb,x_add]
theorem aNN(ha:evE W a ρ=.ok .fz (.int u))(hb:evE W b ρ=.ok .fz (.int v)):evE W (.bin .Sub a b) ρ=.ok .fz (.int (u-v)):=by rw[gY,ha,hb,x_sub]
theorem gK(ha:evE W a ρ=.ok .fz (.int u))(hb:evE W b ρ=.ok .fz (.int v)):evE W (.cmp .Eq a b) ρ=.ok .fz (.bl (u==v)):=by rw[iM,ha,hb];simp
end
section
variable {W:WD}{e e':E}{ρ ρ':Rho}{r:List D3.S}{d:D}{i:Nat}{t:Tg}
theorem zY(h:evE W e ρ=.ok .fz d)(hg:aJ t d ρ=some ρ'):evB W (.asg t e::r) ρ=evB W r ρ':=by
 rw[aT];show (gU t ρ (evE W e ρ)).thn _=_;rw[h];show (match aJ t d ρ with | some ρ'=>aG.nx ρ' | none=>.stuck).thn _=_
 rw[hg];rfl
theorem rV(h:evE W e ρ=.ok .fr d)(hρ:ρ.set i (some (true,d))=ρ'):evB W (.set i e::r) ρ=evB W r ρ':=by rw[aT,nQ,h];show (aG.nx (ρ.set i (some (true,d)))).thn _=_;rw[hρ];rfl
theorem aNO(h:evE W e ρ=.ok .fr d):evB W (.ret e::r) ρ=.rt .fr d:=by rw[aT,iN,h];rfl
theorem aNP{b:Bool}(h:evE W e ρ=.ok .fz (.bl b)):evE W (.tru e) ρ=.ok .fz (.bl b):=by rw[qQ,h,x_tru]
end
theorem eI{W:WD}{ρ:Rho}{f:Str}{a b:E}{p q d:D}(ha:evE W a ρ=.ok .fz p)(hb:evE W b ρ=.ok .fz q)(h:W.Φ f [p,q]=.ok .fz d):evE W (.call f 2 [a,b]) ρ=.ok .fz d:=by show aU 2 (W.Φ f) (aZ W [a,b] ρ)=_;rw[aX,aX,cS,ha,hb];exact qX h
theorem zZ{W:WD}{ρ:Rho}{f:Str}{a b c:E}{p q r d:D}(ha:evE W a ρ=.ok .fz p)(hb:evE W b ρ=.ok .fz q)(hc:evE W c ρ=.ok .fz r)(h:W.Φ f [p,q,r]=.ok .fz d):evE W (.call f 3 [a,b,c]) ρ=.ok .fz d:=by show aU 3 (W.Φ f) (aZ W [a,b,c] ρ)=_;rw[aX,aX,aX,cS,ha,hb,hc];exact call3 h
section
variable {W:WD}{ρ:Rho}{a b e:E}{z y:Str}
theorem l5(ha:evE W a ρ=.ok .fz (.str z))(hb:evE W b ρ=.ok .fz (.str y)):evE W (.cmp .Eq a b) ρ=.ok .fz (.bl (z==y)):=by rw[iM,ha,hb];simp
theorem aNQ{M:List (Key×D)}{d:D}(h:bE M (.inr z)=some d)(ha:evE W a ρ=.ok .fz (.dct M))(hb:evE W b ρ=.ok .fz (.str z)):evE W (.dix a b) ρ=.ok .fz d:=by show op2 ixK (evE W a ρ) (evE W b ρ)=_;rw[ha,hb];exact zK h
end
section
variable {M:List (Key×D)}{C:List Str}{A:D}{o:Option Str}{n:Nat}
theorem Co.any{C':List Str}(h:Co M A o C n)(ho:o≠none):Co M A o C' n:=λk=>by
 rw[h k];cases o with
 | none=>exact absurd rfl ho
 | some c=>rfl
end
theorem iS{W:WD}{ρ:Rho}{f:Str}{m:Nat}{es:List E}{xs:List (Md×D)}{ds:List D}{d:D}(h:aZ W es ρ=.ok xs)(ha:bZ xs=some ds)(hl:ds.length=m)(hf:W.Φ f ds=.ok .fr d):evE W (.call f m es) ρ=.ok .fr d:=by show aU m (W.Φ f) (aZ W es ρ)=_;rw[h];exact yT hl ha hf
theorem z9{W:WD}{e:E}{r:List D3.S}{ρ ρ':Rho}{i:Nat}{ds:List D}{d:D}(h:ρ[i]? = some (some (true,.lst ds)))(hl:ds.length<sizeLine)(he:evE W e ρ=.ok .fz d)(hρ:ρ.set i (some (true,.lst (ds++[d])))=ρ'):evB W (.app i e::r) ρ=evB W r ρ':=by rw[aT,s_app,he];unfold f8;rw[h];show (if ds.length<sizeLine then aG.nx (ρ.set i (some (true,.lst (ds++[d])))) else .stuck).thn _=_;rw[if_pos hl,aG.thn_nx,hρ]
theorem aNR{W:WD}{ρ:Rho}{c n:Str}{b:Bool}{a:E}(ha:evE W a ρ=.ok .fz (.exn c))(h:W.xg c n=some b):evE W (.tru (.isx1 a n)) ρ=.ok .fz (.bl b):=by
 rw[qQ,wJ,ha];show gP (match W.xg c n with | some b=>Res.ok .fz (.bl b) | none=>.stuck)=_
 rw[h];rfl
section
variable {W:WD}{ρ:Rho}{a b c d e:E}{p q r s:D}{ds:List D}{m:Md}{j:Nat}
theorem oP(ha:evE W a ρ=.ok .fz p)(hb:evE W b ρ=.ok .fz q):evE W (.lst [a,b]) ρ=.ok .fr (.lst [p,q]):=by show iF (aZ W [a,b] ρ)=_;rw[aX,aX,cS,ha,hb];rfl
theorem rW(ha:evE W a ρ=.ok .fz p)(hb:evE W b ρ=.ok .fz q)(hc:evE W c ρ=.ok .fz r)(hd:evE W d ρ=.ok .fz s):evE W (.lst [a,b,c,d]) ρ=.ok .fr (.lst [p,q,r,s]):=by show iF (aZ W [a,b,c,d] ρ)=_;rw[aX,aX,aX,aX,cS,ha,hb,hc,hd];rfl
theorem bR(ha:evE W a ρ=.ok m (.lst ds))(he:evE W e ρ=.ok .fz (.int (j:Int)))(h:ds[j]? = some p):evE W (.ix a e) ρ=.ok .fz p:=by rw[gZ,ha,he];exact j7 (cD h)
theorem ins_s{i:Nat}{e':E}{r:List D3.S}{ρ':Rho}(h:ρ[i]? = some (some (true,.lst ds)))(hj:j<=1000)(hl:ds.length<=1000)(hk:evE W e ρ=.ok .fz (.int (j:Int)))(hv:evE W e' ρ=.ok .fz p)(hρ:ρ.set i (some (true,.lst (ds.take j++p::ds.drop j)))=ρ'):evB W (.ins i e e'::r) ρ=evB W r ρ':=by have hsz:sizeLine=16777216:=aPH;rw[aT,s_ins,hk,hv];unfold gB;rw[h];show (if (decide ((0:Int)<=(j:Int))&&decide ((j:Int)<=1000000)&&decide (ds.length<sizeLine))=true then aG.nx (ρ.set i (some (true,.lst (ds.take (j:Int).toNat++p::ds.drop (j:Int).toNat)))) else .stuck).thn _=_;rw[if_pos (by simp only[aQB,aQQ];omega),aG.thn_nx,aP1,hρ]
end
def cN:Nat->Str
 | 0=>j9
 | 1=>bU
 | 2=>cF
 | _=>fQ
structure Th(a b g:Str):Prop where
 ab:a≠b
 ga:g≠a
 gb:g≠b
 la:a.length<=40
 lb:b.length<=40
 lg:g.length<=40
section
variable {M:List (Key×D)}{a b g:Str}{B:D}
theorem Th.nC(h:Th a b g):¬ g∈[a,b]:=by simp[h.ga,h.gb]
theorem Th.nd(h:Th a b g):[a,b].Nodup:=by simp[h.ab]
theorem Th.nd'(h:Th a b g):[b,a].Nodup:=by simp[h.ab.symm]
theorem Th.sz(h:Th a b g){L:List Str}(hL:∀ z∈L,z∈[a,b,g]):∀ z∈L,z.length<=40:=λz hz=>by
 have:=hL z hz;simp only[aOR,List.not_mem_nil,aR6] at this;rcases this with rfl | rfl | rfl
 . exact h.la
 . exact h.lb
 . exact h.lg
def d8(a b g:Str)(i:Nat):List Str:=[a,b].take i++g::[a,b].drop i
def dG(a b:Str)(i:Nat):List Str:=if i=0 then [a,b,a] else [b,a,b]
theorem aNS(h:Th a b g)(i:Nat):bad [a,b] (d8 a b g i)=some bU:=zQ (h.nd.sublist (List.take_sublist _ _)) (λz hz=>aSV hz) h.nC
theorem aNT(h:Th a b g)(i:Nat)(r:List Str):bad [a,b] (dG a b i++r)=some cF:=by
 unfold dG;split
 . exact zR (K1:=[a,b]) (r:=r) h.nd (λz hz=>hz) (by simp)
 . exact zR (K1:=[b,a]) (r:=r) h.nd' (λz hz=>by simpa[or_comm] using hz) (by simp)
theorem aNU(i:Nat):∀ z∈d8 a b g i,z∈[a,b,g]:=λz hz=>by
 rcases aOS.mp hz with hz | hz
 . have:=aSV hz;simp at this ⊢;rcases this with h | h <;> simp[h]
 . rcases aOR.mp hz with rfl | hz
   . simp
   . have:=List.mem_of_mem_drop hz;simp at this ⊢;rcases this with h | h <;> simp[h]
theorem aAA(i:Nat):∀ z∈dG a b i,z∈[a,b,g]:=λz hz=>by unfold dG at hz;split at hz <;> (simp at hz ⊢;rcases hz with h | h | h <;> simp[h])
def Ft(M:List (Key×D))(r:aG):Prop:=∃ (A:D) (due:Nat),r=.rt .fz (.tup [A,.int (due:Int)])/\due<4/\Co M A (some (cN due)) [] 3
theorem Ft.of{A:D}{due n:Nat}{C:List Str}{r:aG}{o:Option Str}(hr:r=.rt .fz (.tup [A,.int (due:Int)]))(hd:due<4)(hc:Co M A o C n)(ho:o=some (cN due))(hn:n<=3):Ft M r:=by subst ho;exact ⟨A,due,hr,hd,(hc.mono hn).any (by simp)⟩
end
section
variable {M:List (Key×D)}{a b g:Str}{B:D}
abbrev ρf(c:Int)(B:D)(a b g:Str)(mo:Int)(i t:Nat)(x8 x9:Option (Bool×D)):Rho:=[some (false,.int c),some (false,B),some (false,.str a),some (false,.str b),some (false,.str g),some (false,.int mo),some (false,Tp (d8 a b g i)),some (false,Tp (dG a b t)),x8,x9]
theorem aNV{W:WD}(c:Int):∃ i t:Nat,i<3/\t<2/\(c / 12 % 2=(t:Int))/\evB W dF [some (false,.int c),some (false,B),some (false,.str a),some (false,.str b),some (false,.str g),none,none,none,none,none]=evB W (dF.drop 5) (ρf c B a b g (c / 12) i t none none):=by
 obtain ⟨i,ei,hi⟩:=md (c:=c / 12) (n:=3) (by omega)
 obtain ⟨t,et,ht⟩:=md (c:=c / 12) (n:=2) (by omega)
 refine ⟨i,t,by omega,by omega,et,?_⟩
 show evB W (.set 5 (.frz (.bin .FloorDiv (.var 0) (.int 12))) :: .set 6 (.lst [(.var 2),(.var 3)]) :: .ins 6 (.bin .Mod (.var 5) (.int 3)) (.var 4) :: .set 6 (.tcall .tuple [(.var 6)]) :: .set 7 (.frz (.tcall .tuple [(.slice (.lst [(.var 2),(.var 3),(.var 2),(.var 3)]) (some (.bin .Mod (.var 5) (.int 2))) (some (.bin .Add (.bin .Mod (.var 5) (.int 2)) (.int 3))))]))::dF.drop 5) _=_
 rw[bB (ρ':=[some (false,.int c),some (false,B),some (false,.str a),some (false,.str b),some (false,.str g),some (false,.int (c / 12)),none,none,none,none]) (cT (l0 (by omega) (by decide) rfl rfl)) rfl,
  rV (ρ':=[some (false,.int c),some (false,B),some (false,.str a),some (false,.str b),some (false,.str g),some (false,.int (c / 12)),some (true,.lst [.str a,.str b]),none,none,none]) (oP rfl rfl) rfl,
  ins_s (ds:=[.str a,.str b]) (p:=.str g) (j:=i) (ρ':=[some (false,.int c),some (false,B),some (false,.str a),some (false,.str b),some (false,.str g),some (false,.int (c / 12)),some (true,.lst ((d8 a b g i).map .str)),none,none,none]) rfl (by omega) (by simp) (by rw[<- ei];exact cU (by omega) rfl rfl) rfl (by
   have:[D.str a,.str b].take i++D.str g::[D.str a,.str b].drop i=(d8 a b g i).map .str:=by unfold d8;rw[aSR,aQK,List.map_take,List.map_drop];rfl
   rw[this];rfl),
  bB (d:=Tp (d8 a b g i)) (ρ':=[some (false,.int c),some (false,B),some (false,.str a),some (false,.str b),some (false,.str g),some (false,.int (c / 12)),some (false,Tp (d8 a b g i)),none,none,none]) rfl rfl]
 have e7:evE W (.frz (.tcall .tuple [(.slice (.lst [(.var 2),(.var 3),(.var 2),(.var 3)]) (some (.bin .Mod (.var 5) (.int 2))) (some (.bin .Add (.bin .Mod (.var 5) (.int 2)) (.int 3))))])) [some (false,.int c),some (false,B),some (false,.str a),some (false,.str b),some (false,.str g),some (false,.int (c / 12)),some (false,Tp (d8 a b g i)),none,none,none]=.ok .fz (Tp (dG a b t)):=by
  have q:evE W (.bin .Mod (.var 5) (.int 2)) [some (false,.int c),some (false,B),some (false,.str a),some (false,.str b),some (false,.str g),some (false,.int (c / 12)),some (false,Tp (d8 a b g i)),none,none,none]=.ok .fz (.int (t:Int)):=by rw[<- et];exact cU (by omega) rfl rfl
  have q3:evE W (.bin .Add (.bin .Mod (.var 5) (.int 2)) (.int 3)) [some (false,.int c),some (false,B),some (false,.str a),some (false,.str b),some (false,.str g),some (false,.int (c / 12)),some (false,Tp (d8 a b g i)),none,none,none]=.ok .fz (.int ((t+3:Nat):Int)):=by rw[Int.natCast_add];exact zX q rfl
  have l4:evE W (.lst [(.var 2),(.var 3),(.var 2),(.var 3)]) [some (false,.int c),some (false,B),some (false,.str a),some (false,.str b),some (false,.str g),some (false,.int (c / 12)),some (false,Tp (d8 a b g i)),none,none,none]=.ok .fr (.lst [.str a,.str b,.str a,.str b]):=rW rfl rfl rfl rfl;have sl:evE W (.slice (.lst [(.var 2),(.var 3),(.var 2),(.var 3)]) (some (.bin .Mod (.var 5) (.int 2))) (some (.bin .Add (.bin .Mod (.var 5) (.int 2)) (.int 3)))) [some (false,.int c),some (false,B),some (false,.str a),some (false,.str b),some (false,.str g),some (false,.int (c / 12)),some (false,Tp (d8 a b g i)),none,none,none]=.ok .fr (.lst ((dG a b t).map .str)):=by
   rw[qR,l4];have:slP (.ok .fr (.lst [D.str a,.str b,.str a,.str b])) (evO W (some (.bin .Mod (.var 5) (.int 2)))) (evO W (some (.bin .Add (.bin .Mod (.var 5) (.int 2)) (.int 3)))) [some (false,.int c),some (false,B),some (false,.str a),some (false,.str b),some (false,.str g),some (false,.int (c / 12)),some (false,Tp (d8 a b g i)),none,none,none]=.ok .fr (.lst (cR [D.str a,.str b,.str a,.str b] (some (t:Int)) (some ((t+3:Nat):Int)))):=by simp only[evO,slP,Res.thn_ok,cW,q,q3]
   rw[this];have ht2:t=0\/t=1:=by omega
   rcases ht2 with rfl | rfl <;> rfl
  refine cT ?_;rw[qU,aX,cS,sl];rfl
 exact bB e7 rfl
theorem aNW{W:WD}(h:Th a b g)(hB:Co M B none [a,b] 0){c mo:Int}{i t:Nat}(ht:t<2)(et:mo % 2=(t:Int))(r:List D3.S):Ft M (evB W (.set 8 (.frz (.lst [(.tup [(.str "of"),(.var 2)]),(.tup [(.str "of"),(.var 4)])])) :: .set 9 (.tup [(.str "under"),(.ix (.var 8) (.bin .Mod (.var 5) (.int 2))),(.ix (.var 8) (.bin .Sub (.int 1) (.bin .Mod (.var 5) (.int 2))))]) :: .ite (.cmp .Eq (.bin .Mod (.bin .FloorDiv (.var 5) (.int 2)) (.int 3)) (.int 1)) [.set 9 (.tup [(.str "either"),(.tup [(.str "same"),(.tup [(.str "of"),(.var 3)]),(.tup [(.str "just"),(.int 0)])]),(.tup [(.str "not"),(.var 9)])])] []::[.ret (.tup [(.tup [(.str "pick"),(.var 1),(.var 9)]),(.int 1)])]) (ρf c B a b g mo i t none none)):=by
 have e8:evE W (.frz (.lst [(.tup [(.str "of"),(.var 2)]),(.tup [(.str "of"),(.var 4)])])) (ρf c B a b g mo i t none none)=.ok .fz (.lst [ptD [] (.of a),ptD [] (.of g)]):=by rw[lJ,oP (bH rfl rfl) (bH rfl rfl)];rfl
 have q:evE W (.bin .Mod (.var 5) (.int 2)) (ρf c B a b g mo i t (some (false,.lst [ptD [] (.of a),ptD [] (.of g)])) none)=.ok .fz (.int (t:Int)):=by rw[<- et];exact cU (by omega) rfl rfl
 have q1:evE W (.bin .Sub (.int 1) (.bin .Mod (.var 5) (.int 2))) (ρf c B a b g mo i t (some (false,.lst [ptD [] (.of a),ptD [] (.of g)])) none)=.ok .fz (.int ((1-t:Nat):Int)):=by rw[show ((1-t:Nat):Int)=1-(t:Int) by omega];exact aNN rfl q
 obtain ⟨x,y,hxy,ex,ey⟩:∃ x y:Str,((x=a/\y=g)\/(x=g/\y=a))/\evE W (.ix (.var 8) (.bin .Mod (.var 5) (.int 2))) (ρf c B a b g mo i t (some (false,.lst [ptD [] (.of a),ptD [] (.of g)])) none)=.ok .fz (ptD [] (.of x))/\evE W (.ix (.var 8) (.bin .Sub (.int 1) (.bin .Mod (.var 5) (.int 2)))) (ρf c B a b g mo i t (some (false,.lst [ptD [] (.of a),ptD [] (.of g)])) none)=.ok .fz (ptD [] (.of y)):=by
  have ht2:t=0\/t=1:=by omega
  rcases ht2 with rfl | rfl
  . exact ⟨a,g,.inl ⟨rfl,rfl⟩,bR rfl q rfl,bR rfl q1 rfl⟩
  . exact ⟨g,a,.inr ⟨rfl,rfl⟩,bR rfl q rfl,bR rfl q1 rfl⟩
 have sz:∀ z∈[b,x,y],z.length<=40:=h.sz (by rcases hxy with ⟨rfl,rfl⟩ | ⟨rfl,rfl⟩ <;> simp)
 have gx:g∈[x,y]:=by rcases hxy with ⟨rfl,rfl⟩ | ⟨rfl,rfl⟩ <;> simp
 rw[bB (ρ':=ρf c B a b g mo i t (some (false,.lst [ptD [] (.of a),ptD [] (.of g)])) none) e8 rfl,bB (ρ':=ρf c B a b g mo i t (some (false,.lst [ptD [] (.of a),ptD [] (.of g)])) (some (false,tsD [] (.atom false (.of x) (.of y))))) (bD rfl ex ey) rfl];have ec:evE W (.cmp .Eq (.bin .Mod (.bin .FloorDiv (.var 5) (.int 2)) (.int 3)) (.int 1)) (ρf c B a b g mo i t (some (false,.lst [ptD [] (.of a),ptD [] (.of g)])) (some (false,tsD [] (.atom false (.of x) (.of y)))))=.ok .fz (.bl (mo / 2 % 3==1)):=gK (cU (by omega) (l0 (by omega) (by decide) rfl rfl) rfl) rfl
 cases hq:(mo / 2 % 3==1) with
 | false =>
  rw[hq] at ec;rw[a9 ec];have co:=hB.pick (t:=.atom false (.of x) (.of y)) (L:=[x,y]) (by show 0<=3;decide) rfl (by simp) λz hz=>sz z (mcm hz)
  rw[if_neg (λz=>h.nC (z g gx))] at co;exact Ft.of (due:=1) (bG (bH (bD rfl rfl rfl) rfl)) (by decide) co rfl (by decide)
 | true =>
  rw[hq] at ec;rw[lV (ρ':=ρf c B a b g mo i t (some (false,.lst [ptD [] (.of a),ptD [] (.of g)])) (some (false,tsD [] (.two true (.atom true (.of b) (.just (.int 0))) (.no (.atom false (.of x) (.of y))))))) ec ?_]
  . have co:=hB.pick (t:=.two true (.atom true (.of b) (.just (.int 0))) (.no (.atom false (.of x) (.of y)))) (L:=[b,x,y]) (by show max 0 (0+1)+1<=3;decide) rfl (by simp) sz
    rw[if_neg (λz=>h.nC (z g (mcm gx)))] at co;exact Ft.of (due:=1) (bG (bH (bD rfl rfl rfl) rfl)) (by decide) co rfl (by decide)
  . rw[bB (ρ':=ρf c B a b g mo i t (some (false,.lst [ptD [] (.of a),ptD [] (.of g)])) (some (false,tsD [] (.two true (.atom true (.of b) (.just (.int 0))) (.no (.atom false (.of x) (.of y))))))) (bD rfl (bD rfl (bH rfl rfl) (bH rfl rfl)) (bH rfl rfl)) rfl,eF]
end
section
variable {M:List (Key×D)}{a b g:Str}{B:D}
theorem fault(k:Nat)(h:Th a b g)(hB:Co M B none [a,b] 0)(c:Int):∃ (A:D) (due:Nat),(WT TT (k+1)).Φ "_law_fault" [.int c,B,.str a,.str b,.str g]=.ok .fz (.tup [A,.int (due:Int)])/\due<4/\Co M A (some (cN due)) [] 3:=by
 rw[aMO]
 suffices q:Ft M (evB (WT TT k) dF [some (false,.int c),some (false,B),some (false,.str a),some (false,.str b),some (false,.str g),none,none,none,none,none]) by obtain ⟨A,due,e,hd,hc⟩:=q;exact ⟨A,due,bL rfl e,hd,hc⟩
 obtain ⟨i,t,hi,ht,et,pre⟩:=aNV (W:=WT TT k) (B:=B) (a:=a) (b:=b) (g:=g) c;rw[pre]
 clear pre
 generalize hmo:c / 12=mo at *;generalize WT TT k=W;have rz:=h.sz (aNU (a:=a) (b:=b) (g:=g) i);have tz:=h.sz (aAA (a:=a) (b:=b) (g:=g) t);have rb:=aNS h i;have tb:=aNT h t;have ec:∀ u:Int,evE W (.cmp .Eq (.bin .Mod (.var 0) (.int 12)) (.int u)) (ρf c B a b g mo i t none none)=.ok .fz (.bl (c % 12==u)):=λu=>gK (cU (by omega) rfl rfl) rfl
 have no:∀ u:Int,c % 12≠u->evE W (.cmp .Eq (.bin .Mod (.var 0) (.int 12)) (.int u)) (ρf c B a b g mo i t none none)=.ok .fz (.bl false):=λu hu=>by rw[ec u,aOD.mpr hu]
 have ys:∀ u:Int,c % 12=u->evE W (.cmp .Eq (.bin .Mod (.var 0) (.int 12)) (.int u)) (ρf c B a b g mo i t none none)=.ok .fz (.bl true):=λu hu=>by rw[ec u,aQ0.mpr hu]
 have m3:∃ j:Nat,j<3/\evE W (.bin .Mod (.var 5) (.int 3)) (ρf c B a b g mo i t none none)=.ok .fz (.int (j:Int)):=by
  obtain ⟨j,ej,hj⟩:=md (c:=mo) (n:=3) (by omega)
  exact ⟨j,by omega,by rw[<- ej];exact cU (by omega) rfl rfl⟩
 have m4:∃ j:Nat,j<4/\evE W (.bin .Mod (.var 5) (.int 4)) (ρf c B a b g mo i t none none)=.ok .fz (.int (j:Int)):=by
  obtain ⟨j,ej,hj⟩:=md (c:=mo) (n:=4) (by omega)
  exact ⟨j,by omega,by rw[<- ej];exact cU (by omega) rfl rfl⟩
 have m2:evE W (.bin .Mod (.var 5) (.int 2)) (ρf c B a b g mo i t none none)=.ok .fz (.int (t:Int)):=by rw[<- et];exact cU (by omega) rfl rfl
 have aC:a∈[a,b]:=by simp
 have bC:b∈[a,b]:=by simp
 show Ft M (evB W (.ite (.cmp .Eq (.bin .Mod (.var 0) (.int 12)) (.int 0)) [.set 8 (.frz (.lst [(.tup [(.str "of"), (.var 2)]), (.tup [(.str "of"), (.var 4)])])), .set 9 (.tup [(.str "under"), (.ix (.var 8) (.bin .Mod (.var 5) (.int 2))), (.ix (.var 8) (.bin .Sub (.int 1) (.bin .Mod (.var 5) (.int 2))))]),
     .ite (.cmp .Eq (.bin .Mod (.bin .FloorDiv (.var 5) (.int 2)) (.int 3)) (.int 1)) [.set 9 (.tup [(.str "either"),(.tup [(.str "same"),(.tup [(.str "of"),(.var 3)]),(.tup [(.str "just"),(.int 0)])]),(.tup [(.str "not"),(.var 9)])])] [],
     .ret (.tup [(.tup [(.str "pick"),(.var 1),(.var 9)]),(.int 1)])] []::dF.drop 6) (ρf c B a b g mo i t none none))
 by_cases h0:c % 12=0
 . obtain ⟨A,due,e,hd,hc⟩:=aNW (W:=W) h hB (c:=c) (mo:=mo) (i:=i) ht et [];exact ⟨A,due,cI (ys 0 h0) e,hd,hc⟩
 rw[a9 (no 0 h0)];show Ft M (evB W (.ite (.cmp .Eq (.bin .Mod (.var 0) (.int 12)) (.int 1)) [.ret (.tup [(.tup [(.str "keep"),(.var 1),(.var 6)]),(.int 1)])] []::dF.drop 7) (ρf c B a b g mo i t none none));by_cases h1:c % 12=1
 . exact Ft.of (due:=1) (cI (ys 1 h1) (bG (bH (bD rfl rfl rfl) rfl))) (by decide) (hB.keep rz) (by rw[rb];rfl) (by decide)
 rw[a9 (no 1 h1)];show Ft M (evB W (.ite (.cmp .Eq (.bin .Mod (.var 0) (.int 12)) (.int 2)) [.ret (.tup [(.tup [(.str "total"),(.var 1),(.var 4),(.ix (.lst [(.tup []),(.tup [(.var 2)]),(.var 7)]) (.bin .Mod (.var 5) (.int 3)))]),(.int 1)])] []::dF.drop 8) (ρf c B a b g mo i t none none));by_cases h2:c % 12=2
 . obtain ⟨j,hj,ej⟩:=m3;have l3:evE W (.lst [(.tup []),(.tup [(.var 2)]),(.var 7)]) (ρf c B a b g mo i t none none)=.ok .fr (.lst [Tp [],Tp [a],Tp (dG a b t)]):=oO rfl (gJ rfl) rfl;obtain ⟨X,hX,eX⟩:∃ X:List Str,(∀ z∈X,z.length<=40)/\evE W (.ix (.lst [(.tup []),(.tup [(.var 2)]),(.var 7)]) (.bin .Mod (.var 5) (.int 3))) (ρf c B a b g mo i t none none)=.ok .fz (Tp X):=by
     have hj3:j=0\/j=1\/j=2:=by omega
     rcases hj3 with rfl | rfl | rfl
     . exact ⟨[],by simp,bR l3 ej rfl⟩
     . exact ⟨[a],h.sz (by simp),bR l3 ej rfl⟩
     . exact ⟨dG a b t,tz,bR l3 ej rfl⟩
   exact Ft.of (due:=1) (cI (ys 2 h2) (bG (bH (oN rfl rfl rfl eX) rfl))) (by decide) (hB.total (z:=g) h.lg hX) (by rw[if_neg h.nC];rfl) (by decide)
 rw[a9 (no 2 h2)];show Ft M (evB W (.ite (.cmp .Eq (.bin .Mod (.var 0) (.int 12)) (.int 3)) [.ret (.tup [(.tup [(.str "total"),(.var 1),(.var 3),(.var 6)]),(.int 1)])] []::dF.drop 9) (ρf c B a b g mo i t none none));by_cases h3:c % 12=3
 . exact Ft.of (due:=1) (cI (ys 3 h3) (bG (bH (oN rfl rfl rfl rfl) rfl))) (by decide) (hB.total (z:=b) h.lb rz) (by rw[if_pos bC,rb];rfl) (by decide)
 rw[a9 (no 3 h3)];show Ft M (evB W (.ite (.cmp .Eq (.bin .Mod (.var 0) (.int 12)) (.int 4)) [.ret (.tup [(.tup [(.str "keep"),(.var 1),(.frz (.bin .Add (.var 7) (.mulT (.tup [(.var 4)]) (.bin .Mod (.bin .FloorDiv (.var 5) (.int 2)) (.int 2)))))]),(.int 2)])] []::dF.drop 10) (ρf c B a b g mo i t none none));by_cases h4:c % 12=4
 . obtain ⟨X,hX,eX⟩:∃ X:List Str,(∀ z∈X,z∈[a,b,g])/\X.length<=1/\evE W (.mulT (.tup [(.var 4)]) (.bin .Mod (.bin .FloorDiv (.var 5) (.int 2)) (.int 2))) (ρf c B a b g mo i t none none)=.ok .fz (Tp X):=by
     obtain ⟨j,ej,hj⟩:=md (c:=mo / 2) (n:=2) (by omega)
     have q:evE W (.bin .Mod (.bin .FloorDiv (.var 5) (.int 2)) (.int 2)) (ρf c B a b g mo i t none none)=.ok .fz (.int (j:Int)):=by rw[<- ej];exact cU (by omega) (l0 (by omega) (by decide) rfl rfl) rfl
     have hj2:j=0\/j=1:=by omega
     rcases hj2 with rfl | rfl
     . exact ⟨[],by simp,by simp,by rw[wI,gJ (z:=g) rfl,q];rfl⟩
     . exact ⟨[g],by simp,by simp,by rw[wI,gJ (z:=g) rfl,q];rfl⟩
   have tl:(dG a b t).length=3:=by unfold dG;split <;> rfl
   refine Ft.of (due:=2) (cI (ys 4 h4) (bG (bH (bD rfl rfl (cT (aNM (by omega) rfl eX.2))) rfl))) (by decide) (hB.keep (K:=dG a b t++X) (h.sz λz hz=>?_)) (by rw[tb X];rfl) (by decide)
   rcases aOS.mp hz with hz | hz
   . exact aAA t z hz
   . exact hX z hz
 rw[a9 (no 4 h4)];show Ft M (evB W (.ite (.cmp .Eq (.bin .Mod (.var 0) (.int 12)) (.int 5)) [.ret (.tup [(.tup [(.str "total"),(.var 1),(.var 2),(.var 7)]),(.int 2)])] []::dF.drop 11) (ρf c B a b g mo i t none none));by_cases h5:c % 12=5
 . have tb0:=tb [];rw[aPJ] at tb0;exact Ft.of (due:=2) (cI (ys 5 h5) (bG (bH (oN rfl rfl rfl rfl) rfl))) (by decide) (hB.total (z:=a) h.la tz) (by rw[if_pos aC,tb0];rfl) (by decide)
 rw[a9 (no 5 h5)];show Ft M (evB W (.ite (.cmp .Eq (.bin .Mod (.var 0) (.int 12)) (.int 6)) [.ret (.tup [(.tup [(.str "call"),(.var 1),(.tup [(.var 4),(.var 4)])]),(.int 2)])] []::dF.drop 12) (ρf c B a b g mo i t none none));by_cases h6:c % 12=6
 . exact Ft.of (due:=2) (cI (ys 6 h6) (bG (bH (bD rfl rfl (bH rfl rfl)) rfl))) (by decide) (hB.call (K:=[g,g]) (h.sz (by simp)) (by simp)) (by rw[if_pos (show [g,g].length=[a,b].length from rfl),if_neg (by simp)];rfl) (by decide)
 rw[a9 (no 6 h6)];show Ft M (evB W (.ite (.cmp .Eq (.bin .Mod (.var 0) (.int 12)) (.int 7)) [.ret (.tup [(.tup [(.str "call"),(.var 1),(.ix (.lst [(.tup []),(.tup [(.var 4)]),(.var 7),(.tup [(.var 4),(.var 4),(.var 4)])]) (.bin .Mod (.var 5) (.int 4)))]),(.int 3)])] []::dF.drop 13) (ρf c B a b g mo i t none none));by_cases h7:c % 12=7
 . obtain ⟨j,hj,ej⟩:=m4;have l4:evE W (.lst [(.tup []),(.tup [(.var 4)]),(.var 7),(.tup [(.var 4),(.var 4),(.var 4)])]) (ρf c B a b g mo i t none none)=.ok .fr (.lst [Tp [],Tp [g],Tp (dG a b t),Tp [g,g,g]]):=rW rfl (gJ rfl) rfl (bD rfl rfl rfl);have tl:(dG a b t).length=3:=by unfold dG;split <;> rfl
   obtain ⟨X,hX,hl,hb,eX⟩:∃ X:List Str,(∀ z∈X,z.length<=40)/\X.length≠2/\X.length<=900/\evE W (.ix (.lst [(.tup []),(.tup [(.var 4)]),(.var 7),(.tup [(.var 4),(.var 4),(.var 4)])]) (.bin .Mod (.var 5) (.int 4))) (ρf c B a b g mo i t none none)=.ok .fz (Tp X):=by
    have hj4:j=0\/j=1\/j=2\/j=3:=by omega
    rcases hj4 with rfl | rfl | rfl | rfl
    . exact ⟨[],by simp,by simp,by simp,bR l4 ej rfl⟩
    . exact ⟨[g],h.sz (by simp),by simp,by simp,bR l4 ej rfl⟩
    . exact ⟨dG a b t,tz,by omega,by omega,bR l4 ej rfl⟩
    . exact ⟨[g,g,g],h.sz (by simp),by simp,by simp,bR l4 ej rfl⟩
   exact Ft.of (due:=3) (cI (ys 7 h7) (bG (bH (bD rfl rfl eX) rfl))) (by decide) (hB.call hX hb) (by rw[if_neg (show ¬ X.length=[a,b].length from hl)];rfl) (by decide)
 rw[a9 (no 7 h7)];show Ft M (evB W (.ite (.cmp .Eq (.bin .Mod (.var 0) (.int 12)) (.int 8)) [.ret (.tup [(.tup [(.str "pour"),(.var 1),(.tup [(.str "keep"),(.var 1),(.ix (.lst [(.tup [(.var 2)]),(.tup [(.var 3),(.var 2)]),(.tup [])]) (.bin .Mod (.var 5) (.int 3)))])]),(.int 3)])] []::dF.drop 14) (ρf c B a b g mo i t none none));by_cases h8:c % 12=8
 . obtain ⟨j,hj,ej⟩:=m3;have l3:evE W (.lst [(.tup [(.var 2)]),(.tup [(.var 3),(.var 2)]),(.tup [])]) (ρf c B a b g mo i t none none)=.ok .fr (.lst [Tp [a],Tp [b,a],Tp []]):=oO (gJ rfl) (bH rfl rfl) rfl;obtain ⟨X,hX,hb,hne,eX⟩:∃ X:List Str,(∀ z∈X,z.length<=40)/\bad [a,b] X=none/\[a,b]≠X/\evE W (.ix (.lst [(.tup [(.var 2)]),(.tup [(.var 3),(.var 2)]),(.tup [])]) (.bin .Mod (.var 5) (.int 3))) (ρf c B a b g mo i t none none)=.ok .fz (Tp X):=by
     have hj3:j=0\/j=1\/j=2:=by omega
     rcases hj3 with rfl | rfl | rfl
     . exact ⟨[a],h.sz (by simp),lZ (by simp) (by simp),by simp,bR l3 ej rfl⟩
     . exact ⟨[b,a],h.sz (by simp),lZ h.nd' (by simp),by simp[h.ab],bR l3 ej rfl⟩
     . exact ⟨[],by simp,lZ (by simp) (by simp),by simp,bR l3 ej rfl⟩
   have k1:=hB.keep hX;rw[hb] at k1;exact Ft.of (due:=3) (cI (ys 8 h8) (bG (bH (bD rfl rfl (bD rfl rfl eX)) rfl))) (by decide) ((hB.mono (n':=1) (by decide)).pour k1) (by rw[if_neg hne];rfl) (by decide)
 rw[a9 (no 8 h8)];show Ft M (evB W (.ite (.cmp .Eq (.bin .Mod (.var 0) (.int 12)) (.int 9)) [.ret (.tup [(.tup [(.str "leave"),(.var 1),(.tup [(.str "call"),(.var 1),(.ix (.lst [(.tup [(.var 2),(.var 4)]),(.tup [(.var 4),(.var 3)])]) (.bin .Mod (.var 5) (.int 2)))])]),(.int 3)])] []::dF.drop 15) (ρf c B a b g mo i t none none));by_cases h9:c % 12=9
 . have l2:evE W (.lst [(.tup [(.var 2),(.var 4)]),(.tup [(.var 4),(.var 3)])]) (ρf c B a b g mo i t none none)=.ok .fr (.lst [Tp [a,g],Tp [g,b]]):=oP (bH rfl rfl) (bH rfl rfl);obtain ⟨X,hX,hl,hn,hne,eX⟩:∃ X:List Str,(∀ z∈X,z.length<=40)/\X.length=2/\X.Nodup/\g∈X/\evE W (.ix (.lst [(.tup [(.var 2),(.var 4)]),(.tup [(.var 4),(.var 3)])]) (.bin .Mod (.var 5) (.int 2))) (ρf c B a b g mo i t none none)=.ok .fz (Tp X):=by
     have ht2:t=0\/t=1:=by omega
     rcases ht2 with rfl | rfl
     . exact ⟨[a,g],h.sz (by simp),rfl,by simp[h.ga.symm],by simp,bR l2 m2 rfl⟩
     . exact ⟨[g,b],h.sz (by simp),rfl,by simp[h.gb],by simp,bR l2 m2 rfl⟩
   have k1:=hB.call hX (by omega)
   rw[if_pos (show X.length=[a,b].length from hl),if_pos hn] at k1
   exact Ft.of (due:=3) (cI (ys 9 h9) (bG (bH (bD rfl rfl (bD rfl rfl eX)) rfl))) (by decide) ((hB.mono (n':=1) (by decide)).leave k1 hX) (by rw[if_neg (λz=>h.nC (z g hne))];rfl) (by decide)
 rw[a9 (no 9 h9)];show Ft M (evB W (.ite (.cmp .Eq (.bin .Mod (.var 0) (.int 12)) (.int 10)) [.ret (.tup [(.tup [(.str "keep"),(.var 1),(.tup [(.var 4),(.var 2),(.var 2)])]),(.int 1)])] []::[.ret (.tup [(.tup [(.str "leave"),(.tup [(.str "keep"),(.var 1),(.tup [(.var 2)])]),(.var 1)]),(.int 3)])]) (ρf c B a b g mo i t none none));by_cases h10:c % 12=10
 . exact Ft.of (due:=1) (cI (ys 10 h10) (bG (bH (bD rfl rfl (bD rfl rfl rfl)) rfl))) (by decide) (hB.keep (K:=[g,a,a]) (h.sz (by simp))) (by rw[show bad [a,b] [g,a,a]=some bU from zQ (K1:=[]) (r:=[a,a]) List.nodup_nil (by simp) h.nC];rfl) (by decide)
 rw[a9 (no 10 h10)];have k1:=hB.keep (K:=[a]) (h.sz (by simp))
 rw[lZ (by simp) (by simp)] at k1
 exact Ft.of (due:=3) (bG (bH (bD rfl (bD rfl rfl (gJ rfl)) rfl) rfl)) (by decide) (k1.leave (hB.mono (n':=1) (by decide)) (h.sz (by simp))) (by rw[if_neg (λz=>h.ab ((aRP.mp (z b (by simp))).symm))];rfl) (by decide)
end
section
variable {M:List (Key×D)}{a b g cz:Str}{A B:D}{n:Nat}
def Rf(M:List (Key×D))(cz:Str)(n:Nat)(A:D):Prop:=Co M A (some cz) [] n
theorem Rf.of{o:Option Str}{C:List Str}(h:Co M A o C n)(ho:o=some cz):Rf M cz n A:=by subst ho;exact Co.any h (by simp)
def oQ:Int:=10 ^ 9
theorem p9:0<oQ:=by decide +kernel
theorem aNX{W:WD}{ρ:Rho}:evE W (.bin .Pow (.int 10) (.int 9)) ρ=.ok .fz (.int oQ):=by rfl
theorem round(k:Nat)(h:Th a b g)(hB:Co M B none [a,b] 0)(hA:Rf M cz n A)(hn:1<=n)(c:Int):∃ A':D,(WT TT (k+1)).Φ "_law_round" [.int c,A,B,.str a,.str g]=.ok .fz A'/\Rf M cz (n+1) A':=by
 have hsz:sizeLine=16777216:=aPH;rw[aMP]
 suffices q:∃ A':D,evB (WT TT k) eT [some (false,.int c),some (false,A),some (false,B),some (false,.str a),some (false,.str g),none,none,none,none]=.rt .fz A'/\Rf M cz (n+1) A' by obtain ⟨A',e,r⟩:=q;exact ⟨A',bL rfl e,r⟩
 generalize WT TT k=W;obtain ⟨j,ej,hj⟩:=md (c:=c / 8) (n:=4) (by omega)
 have l4:evE W (.lst [(.tup []),(.tup [(.var 3)]),(.tup [(.var 4)]),(.tup [(.var 3),(.var 3)])]) [some (false,.int c),some (false,A),some (false,B),some (false,.str a),some (false,.str g),some (false,.int (c % 8)),some (false,.int (c / 8)),none,none]=.ok .fr (.lst [Tp [],Tp [a],Tp [g],Tp [a,a]]):=rW rfl (gJ rfl) (gJ rfl) (bH rfl rfl);have e4:evE W (.bin .Mod (.var 6) (.int 4)) [some (false,.int c),some (false,A),some (false,B),some (false,.str a),some (false,.str g),some (false,.int (c % 8)),some (false,.int (c / 8)),none,none]=.ok .fz (.int (j:Int)):=by rw[<- ej];exact cU (by omega) rfl rfl
 obtain ⟨X,hX,hl,eX⟩:∃ X:List Str,(∀ z∈X,z.length<=40)/\X.length<=2/\evE W (.ix (.lst [(.tup []),(.tup [(.var 3)]),(.tup [(.var 4)]),(.tup [(.var 3),(.var 3)])]) (.bin .Mod (.var 6) (.int 4))) [some (false,.int c),some (false,A),some (false,B),some (false,.str a),some (false,.str g),some (false,.int (c % 8)),some (false,.int (c / 8)),none,none]=.ok .fz (Tp X):=by
  have hj4:j=0\/j=1\/j=2\/j=3:=by omega
  rcases hj4 with rfl | rfl | rfl | rfl
  . exact ⟨[],by simp,by simp,bR l4 e4 rfl⟩
  . exact ⟨[a],h.sz (by simp),by simp,bR l4 e4 rfl⟩
  . exact ⟨[g],h.sz (by simp),by simp,bR l4 e4 rfl⟩
  . exact ⟨[a,a],h.sz (by simp),by simp,bR l4 e4 rfl⟩
 show ∃ A':D,evB W (.set 5 (.frz (.bin .Mod (.var 0) (.int 8))) :: .set 6 (.frz (.bin .FloorDiv (.var 0) (.int 8))) :: .set 7 (.ix (.lst [(.tup []),(.tup [(.var 3)]),(.tup [(.var 4)]),(.tup [(.var 3),(.var 3)])]) (.bin .Mod (.var 6) (.int 4)))::eT.drop 3) _=_/\_
 rw[bB (ρ':=[some (false,.int c),some (false,A),some (false,B),some (false,.str a),some (false,.str g),some (false,.int (c % 8)),none,none,none]) (cT (cU (by omega) rfl rfl)) rfl,
  bB (ρ':=[some (false,.int c),some (false,A),some (false,B),some (false,.str a),some (false,.str g),some (false,.int (c % 8)),some (false,.int (c / 8)),none,none]) (cT (l0 (by omega) (by decide) rfl rfl)) rfl,
  bB (ρ':=[some (false,.int c),some (false,A),some (false,B),some (false,.str a),some (false,.str g),some (false,.int (c % 8)),some (false,.int (c / 8)),some (false,Tp X),none]) eX rfl]
 clear eX l4 e4
 have no:∀ (x8:Option (Bool×D)) (u:Int),c % 8≠u->evE W (.cmp .Eq (.var 5) (.int u)) [some (false,.int c),some (false,A),some (false,B),some (false,.str a),some (false,.str g),some (false,.int (c % 8)),some (false,.int (c / 8)),some (false,Tp X),x8]=.ok .fz (.bl false):=λx8 u hu=>by rw[gK (u:=c % 8) (v:=u) rfl rfl,aOD.mpr hu]
 have ys:∀ (x8:Option (Bool×D)) (u:Int),c % 8=u->evE W (.cmp .Eq (.var 5) (.int u)) [some (false,.int c),some (false,A),some (false,B),some (false,.str a),some (false,.str g),some (false,.int (c % 8)),some (false,.int (c / 8)),some (false,Tp X),x8]=.ok .fz (.bl true):=λx8 u hu=>by rw[gK (u:=c % 8) (v:=u) rfl rfl,aQ0.mpr hu]
 have m2:∀ x8:Option (Bool×D),evE W (.bin .Mod (.var 6) (.int 2)) [some (false,.int c),some (false,A),some (false,B),some (false,.str a),some (false,.str g),some (false,.int (c % 8)),some (false,.int (c / 8)),some (false,Tp X),x8]=.ok .fz (.int (c / 8 % 2)):=λx8=>cU (by omega) rfl rfl
 show ∃ A':D,evB W (.ite (.cmp .Eq (.var 5) (.int 0)) [.ret (.tup [(.str "keep"),(.var 1),(.var 7)])] []::eT.drop 4) _=_/\_;by_cases h0:c % 8=0
 . exact ⟨_,cI (ys _ 0 h0) (bG (bD rfl rfl rfl)),Rf.of (Co.keep hA hX) rfl⟩
 rw[a9 (no _ 0 h0)];show ∃ A':D,evB W (.ite (.cmp .Eq (.var 5) (.int 1)) [.ret (.tup [(.str "call"),(.var 1),(.var 7)])] []::eT.drop 5) _=_/\_;by_cases h1:c % 8=1
 . exact ⟨_,cI (ys _ 1 h1) (bG (bD rfl rfl rfl)),Rf.of (Co.call hA hX (by omega)) rfl⟩
 rw[a9 (no _ 1 h1)];show ∃ A':D,evB W (.ite (.cmp .Eq (.var 5) (.int 2)) [.ret (.tup [(.str "pick"),(.var 1),(.tup [(.str "not"),(.tup [(.str "same"),(.tup [(.str "of"),(.ix (.lst [(.var 3),(.var 4)]) (.bin .Mod (.var 6) (.int 2)))]),(.tup [(.str "just"),(.frz (.bin .Mod (.var 6) (.bin .Pow (.int 10) (.int 9))))])])])])] []::eT.drop 6) _=_/\_;by_cases h2:c % 8=2
 . obtain ⟨t,et,ht⟩:=md (c:=c / 8) (n:=2) (by omega)
   have l2:evE W (.lst [(.var 3),(.var 4)]) [some (false,.int c),some (false,A),some (false,B),some (false,.str a),some (false,.str g),some (false,.int (c % 8)),some (false,.int (c / 8)),some (false,Tp X),none]=.ok .fr (.lst [.str a,.str g]):=oP rfl rfl;have q:=m2 none;rw[et] at q;obtain ⟨x,hx,ex⟩:∃ x:Str,x.length<=40/\evE W (.ix (.lst [(.var 3),(.var 4)]) (.bin .Mod (.var 6) (.int 2))) [some (false,.int c),some (false,A),some (false,B),some (false,.str a),some (false,.str g),some (false,.int (c % 8)),some (false,.int (c / 8)),some (false,Tp X),none]=.ok .fz (.str x):=by
    have ht2:t=0\/t=1:=by omega
    rcases ht2 with rfl | rfl
    . exact ⟨a,h.la,bR l2 q rfl⟩
    . exact ⟨g,h.lg,bR l2 q rfl⟩
   refine ⟨.tup [.str "pick", A,tsD [] (.no (.atom true (.of x) (.just (.int (c / 8 % oQ)))))],cI (ys _ 2 h2) (bG (bD rfl rfl (bH rfl (bD rfl (bH rfl ex) (bH rfl (cT (cU p9 rfl aNX))))))),Rf.of (Co.pick hA (t:=.no (.atom true (.of x) (.just (.int (c / 8 % oQ))))) (L:=[x]) (by show 0+1<=3;decide) rfl (by simp) λz hz=>by rw[aRP.mp hz];exact hx) rfl⟩
 rw[a9 (no _ 2 h2)];show ∃ A':D,evB W (.ite (.cmp .Eq (.var 5) (.int 3)) [.ret (.tup [(.str "total"),(.var 1),(.var 3),(.var 7)])] [] :: .set 8 (.var 2)::eT.drop 8) _=_/\_;by_cases h3:c % 8=3
 . exact ⟨_,cI (ys _ 3 h3) (bG (oN rfl rfl rfl rfl)),Rf.of (Co.total hA (z:=a) h.la hX) rfl⟩
 rw[a9 (no _ 3 h3),bB (d:=B) (ρ':=[some (false,.int c),some (false,A),some (false,B),some (false,.str a),some (false,.str g),some (false,.int (c % 8)),some (false,.int (c / 8)),some (false,Tp X),some (false,B)]) rfl rfl];obtain ⟨O,oo,CO,hO,hCO,hz,eO⟩:∃ (O:D) (oo:Option Str) (CO:List Str),Co M O oo CO n/\CO.length<=2/\(∀ z∈CO,z.length<=40)/\evB W (eT.drop 8) [some (false,.int c),some (false,A),some (false,B),some (false,.str a),some (false,.str g),some (false,.int (c % 8)),some (false,.int (c / 8)),some (false,Tp X),some (false,B)]=evB W (eT.drop 9) [some (false,.int c),some (false,A),some (false,B),some (false,.str a),some (false,.str g),some (false,.int (c % 8)),some (false,.int (c / 8)),some (false,Tp X),some (false,O)]:=by
  have ec:evE W (.cmp .Eq (.bin .Mod (.var 6) (.int 2)) (.int 1)) [some (false,.int c),some (false,A),some (false,B),some (false,.str a),some (false,.str g),some (false,.int (c % 8)),some (false,.int (c / 8)),some (false,Tp X),some (false,B)]=.ok .fz (.bl (c / 8 % 2==1)):=gK (m2 _) rfl;cases hq:(c / 8 % 2==1) with
  | false=>rw[hq] at ec;exact ⟨B,none,[a,b],hB.mono (by omega),by simp,h.sz (by simp),a9 ec⟩
  | true =>
   rw[hq] at ec;refine ⟨.tup [.str "keep", B,Tp [g,g]],_,[g,g],(hB.keep (K:=[g,g]) (h.sz (by simp))).mono hn,by simp,h.sz (by simp),lV (x:=[.set 8 (.tup [(.str "keep"),(.var 2),(.tup [(.var 4),(.var 4)])])]) ec ?_⟩
   rw[bB (d:=.tup [.str "keep", B,Tp [g,g]]) (ρ':=[some (false,.int c),some (false,A),some (false,B),some (false,.str a),some (false,.str g),some (false,.int (c % 8)),some (false,.int (c / 8)),some (false,Tp X),some (false,.tup [.str "keep", B,Tp [g,g]])]) (bD rfl rfl (bH rfl rfl)) rfl,eF]
 rw[eO];show ∃ A':D,evB W (.ite (.cmp .Eq (.var 5) (.int 4)) [.ret (.tup [(.str "pour"),(.var 1),(.var 8)])] []::eT.drop 10) _=_/\_;by_cases h4:c % 8=4
 . exact ⟨_,cI (ys _ 4 h4) (bG (bD rfl rfl rfl)),Rf.of (Co.pour hA hO) rfl⟩
 rw[a9 (no _ 4 h4)];show ∃ A':D,evB W (.ite (.cmp .Eq (.var 5) (.int 5)) [.ret (.tup [(.str "leave"),(.var 1),(.var 8)])] []::eT.drop 11) _=_/\_;by_cases h5:c % 8=5
 . exact ⟨_,cI (ys _ 5 h5) (bG (bD rfl rfl rfl)),Rf.of (Co.leave hA hO hz) rfl⟩
 rw[a9 (no _ 5 h5)];show ∃ A':D,evB W (.ite (.cmp .Eq (.var 5) (.int 6)) [.ret (.tup [(.str "join"),(.var 1),(.var 8)])] []::[.ret (.tup [(.ix (.lst [(.str "join"),(.str "pour"),(.str "leave")]) (.bin .Mod (.var 6) (.int 3))),(.var 2),(.var 1)])]) _=_/\_;by_cases h6:c % 8=6
 . exact ⟨_,cI (ys _ 6 h6) (bG (bD rfl rfl rfl)),Rf.of (Co.join hA hO (by simp;omega)) rfl⟩
 rw[a9 (no _ 6 h6)];obtain ⟨t,et,ht⟩:=md (c:=c / 8) (n:=3) (by omega)
 have l3:evE W (.lst [(.str "join"),(.str "pour"),(.str "leave")]) [some (false,.int c),some (false,A),some (false,B),some (false,.str a),some (false,.str g),some (false,.int (c % 8)),some (false,.int (c / 8)),some (false,Tp X),some (false,O)]=.ok .fr (.lst [.str (Str.ofString "join"),.str (Str.ofString "pour"),.str (Str.ofString "leave")]):=oO rfl rfl rfl;have q:evE W (.bin .Mod (.var 6) (.int 3)) [some (false,.int c),some (false,A),some (false,B),some (false,.str a),some (false,.str g),some (false,.int (c % 8)),some (false,.int (c / 8)),some (false,Tp X),some (false,O)]=.ok .fz (.int (t:Int)):=by rw[<- et];exact cU (by omega) rfl rfl
 have hB':=hB.mono (n':=n) (by omega)
 have ht3:t=0\/t=1\/t=2:=by omega
 rcases ht3 with rfl | rfl | rfl
 . exact ⟨_,bG (bD (bR l3 q rfl) rfl rfl),Rf.of (Co.join hB' hA (by simp;omega)) rfl⟩
 . exact ⟨_,bG (bD (bR l3 q rfl) rfl rfl),Rf.of (Co.pour hB' hA) rfl⟩
 . exact ⟨_,bG (bD (bR l3 q rfl) rfl rfl),Rf.of (Co.leave hB' hA (by simp)) rfl⟩
end
def wt(due:Nat):List D:=(List.range 4).map λk=>.bl (((k:Nat):Int)==(due:Int))
theorem oR{W:WD}{ρ:Rho}{c n:Str}{b:Bool}{a:E}(ha:evE W a ρ=.ok .fz (.exn c))(h:W.xg c n=some b):evE W (.isx1 a n) ρ=.ok .fz (.bl b):=by
 rw[wJ,ha];show (match W.xg c n with | some b=>Res.ok .fz (.bl b) | none=>.stuck)=_
 rw[h]
theorem aAB{W:WD}{ρ:Rho}{c:Str}{ns:List Str}{a:E}(ha:evE W a ρ=.ok .fz (.exn c))(h:eC W.xg c ns=some false):evE W (.tru (.isxT a ns)) ρ=.ok .fz (.bl false):=by
 rw[qQ];show gP (k9 W.xg ns (evE W a ρ))=_;rw[ha];show gP (match eC W.xg c ns with | some b=>Res.ok .fz (.bl b) | none=>.stuck)=_
 rw[h];rfl
theorem oS(k:Nat){c:Str}{b1 b2 b3 b4:Bool}(h1:TT.xi.lookup (c,Str.ofString "NoTable")=some b1)(h2:TT.xi.lookup (c,Str.ofString "NoColumn")=some b2)(h3:TT.xi.lookup (c,Str.ofString "Twice")=some b3)(h4:TT.xi.lookup (c,Str.ofString "Unlike")=some b4)(h5:eC (λc x=>TT.xi.lookup (c,x)) c ["NoName", "NoNote", "NoKind"]=some false)(h6:eC (λc x=>TT.xi.lookup (c,x)) c ["Misfit", "NotPlain", "NoText"]=some false)(hv:TT.xi.lookup (c,Str.ofString "ValueError")=some true):(WT TT (k+1)).Φ "_law_classes" [.exn c]=.ok .fr (.lst [.bl b1,.bl b2,.bl b3,.bl b4]):=by
 have hsz:sizeLine=16777216:=aPH;have xg:(WT TT k).xg=λc x=>TT.xi.lookup (c,x):=WT_xg;rw[aMM];refine bL rfl ?_;generalize WT TT k=W at *;show evB W (.set 1 (.lst [(.isx1 (.var 0) "NoTable"),(.isx1 (.var 0) "NoColumn"),(.isx1 (.var 0) "Twice")]) :: .app 1 (.isx1 (.var 0) "Unlike") :: .ite (.orL [(.tru (.isxT (.var 0) ["NoName", "NoNote", "NoKind"])),(.tru (.isxT (.var 0) ["Misfit", "NotPlain", "NoText"]))]) [.app 1 (.bl true)] [] :: .ite (.not (.tru (.isx1 (.var 0) "ValueError"))) [.app 1 (.bl false)] []::[.retV 1]) [some (false,.exn c),none]=_
 rw[rV (ρ':=[some (false,.exn c),some (true,.lst [.bl b1,.bl b2,.bl b3])]) (oO (oR rfl (by rw[xg];exact h1)) (oR rfl (by rw[xg];exact h2)) (oR rfl (by rw[xg];exact h3))) rfl,
  z9 (ds:=[.bl b1,.bl b2,.bl b3]) (ρ':=[some (false,.exn c),some (true,.lst [.bl b1,.bl b2,.bl b3,.bl b4])]) rfl (by simp;omega) (oR rfl (by rw[xg];exact h4)) rfl]
 have eo:evE W (.orL [(.tru (.isxT (.var 0) ["NoName", "NoNote", "NoKind"])),(.tru (.isxT (.var 0) ["Misfit", "NotPlain", "NoText"]))]) [some (false,.exn c),some (true,.lst [.bl b1,.bl b2,.bl b3,.bl b4])]=.ok .fz (.bl false):=by rw[wH];show orR (evE W (.tru (.isxT (.var 0) ["NoName", "NoNote", "NoKind"])) _) (evE W (.tru (.isxT (.var 0) ["Misfit", "NotPlain", "NoText"])) _)=_;rw[aAB (c:=c) rfl (by rw[xg];exact h5),aAB (c:=c) rfl (by rw[xg];exact h6)];rfl
 rw[a9 eo,a9 (by rw[e_not,aNR (b:=true) rfl (by rw[xg];exact hv)];rfl)]
 rfl
theorem aNY(k:Nat){due:Nat}(hd:due<4):(WT TT (k+1)).Φ "_law_classes" [.exn (cN due)]=.ok .fr (.lst (wt due)):=by
 have h4:due=0\/due=1\/due=2\/due=3:=by omega
 rcases h4 with rfl | rfl | rfl | rfl
 . exact oS k (c:=j9) (b1:=true) (b2:=false) (b3:=false) (b4:=false) (by decide +kernel) (by decide +kernel) (by decide +kernel) (by decide +kernel) (by decide +kernel) (by decide +kernel) (by decide +kernel)
 . exact oS k (c:=bU) (b1:=false) (b2:=true) (b3:=false) (b4:=false) (by decide +kernel) (by decide +kernel) (by decide +kernel) (by decide +kernel) (by decide +kernel) (by decide +kernel) (by decide +kernel)
 . exact oS k (c:=cF) (b1:=false) (b2:=false) (b3:=true) (b4:=false) (by decide +kernel) (by decide +kernel) (by decide +kernel) (by decide +kernel) (by decide +kernel) (by decide +kernel) (by decide +kernel)
 . exact oS k (c:=fQ) (b1:=false) (b2:=false) (b3:=false) (b4:=true) (by decide +kernel) (by decide +kernel) (by decide +kernel) (by decide +kernel) (by decide +kernel) (by decide +kernel) (by decide +kernel)
theorem xt_ok{due:Nat}(hd:due<4):TT.xt.lookup (cN due,Str.ofString "WhenceError")=some true:=by
 have h4:due=0\/due=1\/due=2\/due=3:=by omega
 rcases h4 with rfl | rfl | rfl | rfl <;> decide +kernel
theorem aNZ(k:Nat){A M:D}{due:Nat}(hd:due<4)(h:(WT TT (k+1)).Φ "columns_of" [A,M]=.exc (cN due))(many:Bool):(WT TT (k+3)).Φ "_law_refused" [.bl many,A,M]=.ok .fr (.lst (wt due)):=by
 have cx:∀ (x y:Option (Bool×D)),evE (WT TT (k+1)) (.call "columns_of" 2 [(.var 0),(.var 1)]) [some (false,A),some (false,M)]=.exc (cN due):=λ_ _=>show aU 2 ((WT TT (k+1)).Φ "columns_of") (.ok [(.fz,A),(.fz,M)])=_ from g9 (ds:=[A,M]) rfl rfl h
 have s1:(WT TT (k+2)).Φ "step" [A,M]=.exc (cN due):=by rw[yR];refine dR (ρ:=[some (false,A),some (false,M)]) rfl ?_;show evB (WT TT (k+1)) (.expr (.call "columns_of" 2 [(.var 0),(.var 1)])::_) [some (false,A),some (false,M)]=_;rw[aT,iP,cx none none];rfl
 have s2:(WT TT (k+2)).Φ "steps" [A,M]=.exc (cN due):=by
  rw[yS];refine dR (ρ:=[some (false,A),some (false,M),none,none]) rfl ?_;show evB (WT TT (k+1)) (.expr (.call "columns_of" 2 [(.var 0),(.var 1)])::_) [some (false,A),some (false,M),none,none]=_;have c0:evE (WT TT (k+1)) (.call "columns_of" 2 [(.var 0),(.var 1)]) [some (false,A),some (false,M),none,none]=.exc (cN due):=show aU 2 ((WT TT (k+1)).Φ "columns_of") (.ok [(.fz,A),(.fz,M)])=_ from g9 (ds:=[A,M]) rfl rfl h
  rw[aT,iP,c0];rfl
 rw[aMN];refine bL rfl ?_;show evB (WT TT (k+2)) (.set 3 .non :: .tr [.ite (.tru (.var 0)) [.expr (.call "steps" 2 [(.var 1),(.var 2)])] [.expr (.call "step" 2 [(.var 1),(.var 2)])]] [.mk "WhenceError" (some 4) [.set 3 (.var 4)]] :: .ite (.cmp .Is (.var 3) .non) [.ret (.lst [])] []::[.ret (.call "_law_classes" 1 [(.var 3)])]) [some (false,.bl many),some (false,A),some (false,M),none,none]=_;rw[bB (d:=.non) (ρ':=[some (false,.bl many),some (false,A),some (false,M),some (false,.non),none]) rfl rfl];have body:evB (WT TT (k+2)) [.ite (.tru (.var 0)) [.expr (.call "steps" 2 [(.var 1),(.var 2)])] [.expr (.call "step" 2 [(.var 1),(.var 2)])]] [some (false,.bl many),some (false,A),some (false,M),some (false,.non),none]=.exc (cN due) [some (false,.bl many),some (false,A),some (false,M),some (false,.non),none]:=by
  have et:evE (WT TT (k+2)) (.tru (.var 0)) [some (false,.bl many),some (false,A),some (false,M),some (false,.non),none]=.ok .fz (.bl many):=aNP rfl;have d1:evE (WT TT (k+2)) (.call "steps" 2 [(.var 1),(.var 2)]) [some (false,.bl many),some (false,A),some (false,M),some (false,.non),none]=.exc (cN due):=show aU 2 ((WT TT (k+2)).Φ "steps") (.ok [(.fz,A),(.fz,M)])=_ from g9 (ds:=[A,M]) rfl rfl s2
  have d2:evE (WT TT (k+2)) (.call "step" 2 [(.var 1),(.var 2)]) [some (false,.bl many),some (false,A),some (false,M),some (false,.non),none]=.exc (cN due):=show aU 2 ((WT TT (k+2)).Φ "step") (.ok [(.fz,A),(.fz,M)])=_ from g9 (ds:=[A,M]) rfl rfl s1
  cases many with
  | true=>exact oJ et (by rw[aT,iP,d1];rfl)
  | false=>rw[aT,iO,et,qW,aT,iP,d2];rfl
 have hx:(WT TT (k+2)).xf (cN due) (Str.ofString "WhenceError")=some true:=by rw[WT_xf];exact xt_ok hd
 rw[aT,s_tr,body,aLP,aLE,aLD,hn_t hx];show (unR (some 4) (evB (WT TT (k+2)) [.set 3 (.var 4)] [some (false,.bl many),some (false,A),some (false,M),some (false,.non),some (false,.exn (cN due))])).thn _=_;rw[bB (d:=.exn (cN due)) (ρ':=[some (false,.bl many),some (false,A),some (false,M),some (false,.exn (cN due)),some (false,.exn (cN due))]) rfl rfl,eF];show evB (WT TT (k+2)) (.ite (.cmp .Is (.var 3) .non) [.ret (.lst [])] []::[.ret (.call "_law_classes" 1 [(.var 3)])]) [some (false,.bl many),some (false,A),some (false,M),some (false,.exn (cN due)),none]=_;rw[a9 (show evE (WT TT (k+2)) (.cmp .Is (.var 3) .non) [some (false,.bl many),some (false,A),some (false,M),some (false,.exn (cN due)),none]=_ from rfl)]
 exact aNO (iS (xs:=[(.fz,.exn (cN due))]) (ds:=[.exn (cN due)]) rfl rfl rfl (aNY (k+1) hd))
theorem aAC{M:List (Key×D)}{k:Key}{d:D}(h:∀ kv∈M,kv.1≠k):eN M k d=M++[(k,d)]:=by unfold eN;rw[if_neg];rw[List.any_eq_true];rintro ⟨kv,hkv,e⟩;exact h kv hkv (aQR e)
theorem aAD{kb:List (Key×D)}:∀ r:List (Key×D),(∀ kv∈r,bE kb kv.1=some kv.2/\∃ S,kv.2=Tp S)->eP kb r=some true
 | [],_=>rfl
 | (k,d)::r,h=>by obtain ⟨h1,S,h2⟩:=h (k,d) mcs;have ih:=aAD r λkv hkv=>h kv (mcm hkv);dsimp only at h1 h2;subst h2;unfold eP;rw[h1,ih];simp[bA,rM,y1,PyData.eqv,y9]
def sh3(w0 w1 w2:Str)(S0 S1 S2:List Str):List (Key×D):=[(.inr w0,Tp S0),(.inr w1,Tp S1),(.inr w2,Tp S2)]
theorem aN0{w0 w1 w2:Str}{S0 S1 S2:List Str}(h01:w0≠w1)(h02:w0≠w2)(h12:w1≠w2):bE (sh3 w0 w1 w2 S0 S1 S2) (.inr w0)=some (Tp S0)/\bE (sh3 w0 w1 w2 S0 S1 S2) (.inr w1)=some (Tp S1)/\bE (sh3 w0 w1 w2 S0 S1 S2) (.inr w2)=some (Tp S2):=by refine ⟨?_,?_,?_⟩ <;> simp[bE,sh3,aQH,h01,h02,h12]
theorem rX{W:WD}{i:Nat}{e e':E}{r:List D3.S}{ρ ρ':Rho}{M:List (Key×D)}{z:Str}{d:D}(hi:ρ[i]? = some (some (true,.dct M)))(hk:evE W e ρ=.ok .fz (.str z))(hv:evE W e' ρ=.ok .fz d)(hl:M.length<sizeLine)(hρ:ρ.set i (some (true,.dct (eN M (.inr z) d)))=ρ'):evB W (.dput i e e'::r) ρ=evB W r ρ':=by rw[aT,aLF,hk,hv];unfold gC;rw[hi];show (if M.length<sizeLine then aG.nx (ρ.set i (some (true,.dct (eN M (.inr z) d)))) else .stuck).thn _=_;rw[if_pos hl,aG.thn_nx,hρ]
theorem aN1(k:Nat){w0 w1 w2 w3 n0 n1 n2 n3 n4 n5 n6:Str}(h01:w0≠w1)(h02:w0≠w2)(h12:w1≠w2):(WT TT (k+1)).Φ "_law_shapes" [.lst ([w0,w1,w2,w3].map .str),Tp [n0,n1,n2,n3,n4,n5,n6]]=.ok .fr (.dct (sh3 w0 w1 w2 [n0,n1] [n1,n2] [n3,n4])):=by
 have hsz:sizeLine=16777216:=aPH;rw[aML];refine bL rfl ?_;show evB (WT TT k) oB [some (false,.lst [.str w0,.str w1,.str w2,.str w3]),some (false,.tup [.str n0,.str n1,.str n2,.str n3,.str n4,.str n5,.str n6]),none]=_;generalize WT TT k=W;have kx:∀ (j:Nat) (x:D) (y:Option (Bool×D)),[D.str w0,.str w1,.str w2,.str w3][j]? = some x->evE W (.ix (.var 0) (.int (j:Int))) [some (false,.lst [.str w0,.str w1,.str w2,.str w3]),some (false,.tup [.str n0,.str n1,.str n2,.str n3,.str n4,.str n5,.str n6]),y]=.ok .fz x:=λj x y h=>by rw[gZ,jY,qP,g_0];exact j7 (cD h)
 have px:∀ (j:Nat) (x:D) (y:Option (Bool×D)),[D.str n0,.str n1,.str n2,.str n3,.str n4,.str n5,.str n6][j]? = some x->evE W (.ix (.var 1) (.int (j:Int))) [some (false,.lst [.str w0,.str w1,.str w2,.str w3]),some (false,.tup [.str n0,.str n1,.str n2,.str n3,.str n4,.str n5,.str n6]),y]=.ok .fz x:=λj x y h=>by rw[gZ,jY,qP,g_1,g_0];exact eU (cD h)
 have tx:∀ (i j:Nat) (a b:D) (y:Option (Bool×D)),[D.str n0,.str n1,.str n2,.str n3,.str n4,.str n5,.str n6][i]? = some a->[D.str n0,.str n1,.str n2,.str n3,.str n4,.str n5,.str n6][j]? = some b->evE W (.tup [(.ix (.var 1) (.int (i:Int))),(.ix (.var 1) (.int (j:Int)))]) [some (false,.lst [.str w0,.str w1,.str w2,.str w3]),some (false,.tup [.str n0,.str n1,.str n2,.str n3,.str n4,.str n5,.str n6]),y]=.ok .fz (.tup [a,b]):=λi j a b y h h'=>by rw[e_tup,aX,aX,cS,px i a y h,px j b y h',mV,mV,t2]
 have q1:eN [] (.inr w0) (Tp [n0,n1])=[(.inr w0,Tp [n0,n1])]:=rfl;have q2:eN [(.inr w0,Tp [n0,n1])] (.inr w1) (Tp [n1,n2])=[(.inr w0,Tp [n0,n1]),(.inr w1,Tp [n1,n2])]:=aAC (by simp[h01])
 have q3:eN [(.inr w0,Tp [n0,n1]),(.inr w1,Tp [n1,n2])] (.inr w2) (Tp [n3,n4])=sh3 w0 w1 w2 [n0,n1] [n1,n2] [n3,n4]:=aAC (by simp[h02,h12])
 have st:∀ y:D,([some (false,.lst [.str w0,.str w1,.str w2,.str w3]),some (false,.tup [.str n0,.str n1,.str n2,.str n3,.str n4,.str n5,.str n6]),none]:Rho).set 2 (some (true,y))=[some (false,.lst [.str w0,.str w1,.str w2,.str w3]),some (false,.tup [.str n0,.str n1,.str n2,.str n3,.str n4,.str n5,.str n6]),some (true,y)]:=λ_=>rfl;unfold oB;rw[aT,nQ,aLA,aLO,aG.thn_nx,st];refine (rX (M:=[]) rfl (kx 0 _ _ rfl) (tx 0 1 _ _ _ rfl rfl) (by simp;omega) (ρ':=[some (false,.lst [.str w0,.str w1,.str w2,.str w3]),some (false,.tup [.str n0,.str n1,.str n2,.str n3,.str n4,.str n5,.str n6]),some (true,.dct [(.inr w0,Tp [n0,n1])])]) (by rw[show (D.tup [.str n0,.str n1])=Tp [n0,n1] from rfl,q1];rfl)).trans ?_
 refine (rX (M:=[(.inr w0,Tp [n0,n1])]) rfl (kx 1 _ _ rfl) (tx 1 2 _ _ _ rfl rfl) (by simp;omega) (ρ':=[some (false,.lst [.str w0,.str w1,.str w2,.str w3]),some (false,.tup [.str n0,.str n1,.str n2,.str n3,.str n4,.str n5,.str n6]),some (true,.dct [(.inr w0,Tp [n0,n1]),(.inr w1,Tp [n1,n2])])]) (by rw[show (D.tup [.str n1,.str n2])=Tp [n1,n2] from rfl,q2];rfl)).trans ?_
 refine (rX (M:=[(.inr w0,Tp [n0,n1]),(.inr w1,Tp [n1,n2])]) rfl (kx 2 _ _ rfl) (tx 3 4 _ _ _ rfl rfl) (by simp;omega) (ρ':=[some (false,.lst [.str w0,.str w1,.str w2,.str w3]),some (false,.tup [.str n0,.str n1,.str n2,.str n3,.str n4,.str n5,.str n6]),some (true,.dct (sh3 w0 w1 w2 [n0,n1] [n1,n2] [n3,n4]))]) (by rw[show (D.tup [.str n3,.str n4])=Tp [n3,n4] from rfl,q3];rfl)).trans ?_
 rw[aT,aLC];rfl
theorem whl_t{t:Rho->Res}{b:Rho->aG}{n:Nat}{ρ ρ':Rho}{m:Md}(h:t ρ=.ok m (.bl true))(h':b ρ=.nx ρ'):dC t b (n+1) ρ=dC t b n ρ':=by
 show (t ρ).thS ρ _=_;rw[h];show (match b ρ with | .nx ρ'=>dC t b n ρ' | .ct ρ'=>dC t b n ρ' | .bk ρ'=>.nx ρ' | r=>r)=_
 rw[h']
theorem whl_f{t:Rho->Res}{b:Rho->aG}{n:Nat}{ρ:Rho}{m:Md}(h:t ρ=.ok m (.bl false)):dC t b (n+1) ρ=.nx ρ:=by show (t ρ).thS ρ _=_;rw[h];rfl
theorem rY(k:Nat){A M:D}{xs:List D}{y2:Option (Bool×D)}(p:evB (WT TT k) (lR.take 1) [some (false,A),some (false,M),none,none,none,none]=.nx [some (false,A),some (false,M),y2,none,none,none])(hx:(WT TT k).Φ "askings_within" [A]=.ok .fz (.tup xs))(hq:∀ x∈xs,(WT TT k).Φ "stepped" [x,M]=.ok .fz .non):(WT TT (k+1)).Φ "stepped" [A,M]=.ok .fz .non:=by
 rw[aMF];refine bL rfl ?_;show evB (WT TT k) (lR.take 1++(.set 3 (.frz (.call "askings_within" 1 [(.var 0)])) :: .for (.enum1 (.var 3)) (.tp [(.nm 4),(.nm 5)]) lN::[.ret .non])) [some (false,A),some (false,M),none,none,none,none]=_;have cx:evE (WT TT k) (.frz (.call "askings_within" 1 [(.var 0)])) [some (false,A),some (false,M),y2,none,none,none]=.ok .fz (.tup xs):=cT (show aU 1 ((WT TT k).Φ "askings_within") (.ok [(.fz,A)])=_ from wR hx)
 rw[fE,p,aG.thn_nx,bB (ρ':=[some (false,A),some (false,M),y2,some (false,.tup xs),none,none]) cx rfl];obtain ⟨ρ',⟨z2,z4,z5,rfl⟩,e⟩:=kA (k:=aJ (.tp [.nm 4,.nm 5])) (body:=evB (WT TT k) lN) (λρ=>∃ y2 y4 y5,ρ=[some (false,A),some (false,M),y2,some (false,.tup xs),y4,y5]) (λ_=>none) (ds:=bK 0 xs) (ρ:=[some (false,A),some (false,M),y2,some (false,.tup xs),none,none])
  (λd hd ρ hρ=>by
   obtain ⟨y2,y4,y5,rfl⟩:=hρ;obtain ⟨j,hj,ed⟩:=aST.mp hd;obtain ⟨x,hx',rfl⟩:=oH (show (bK 0 xs)[j]? = some d by rw[aQ5 hj,ed])
   have hm:x∈xs:=aPS hx';refine ⟨[some (false,A),some (false,M),y2,some (false,.tup xs),some (false,.int ((0+j:Nat):Int)),some (false,x)],[some (false,A),some (false,M),some (false,.non),some (false,.tup xs),some (false,.int ((0+j:Nat):Int)),some (false,x)],by simp,⟨_,_,_,rfl⟩,?_⟩
   show evB (WT TT k) (.set 2 (.frz (.call "stepped" 2 [(.var 5),(.var 1)])) :: .ite (.cmp .IsNot (.var 2) .non) [.ret (.call "rebuilt" 2 [(.var 0),(.frz (.bin .Add (.slice (.var 3) none (some (.var 4))) (.tup [(.var 2)])))])] []::[]) _=_;rw[bB (ρ':=[some (false,A),some (false,M),some (false,.non),some (false,.tup xs),some (false,.int ((0+j:Nat):Int)),some (false,x)]) (cT (eI (p:=x) (q:=M) rfl rfl (hq x hm))) rfl,a9 rfl,eF];rfl) ⟨_,_,_,rfl⟩
 rw[aT,lL];show (cM (aJ (.tp [.nm 4,.nm 5])) (evB (WT TT k) lN) (bK 0 xs) [some (false,A),some (false,M),y2,some (false,.tup xs),none,none]).thn _=_;have e':cM (aJ (.tp [.nm 4,.nm 5])) (evB (WT TT k) lN) (bK 0 xs) [some (false,A),some (false,M),y2,some (false,.tup xs),none,none]=.nx [some (false,A),some (false,M),z2,some (false,.tup xs),z4,z5]:=by
  rw[e];have:(bK 0 xs).findSome? (λ_=>(none:Option Str))=none:=by rw[aSU];intros;rfl
  rw[this];rfl
 rw[e',aG.thn_nx];exact bG rfl
theorem aAE{W:WD}{A M:D}{w:Str}(h1:op2 ixD (.ok .fz A) (.ok .fz (.int 0))=.ok .fz (.str w))(hw:(w==Str.ofString "pick")=false):evB W (lR.take 1) [some (false,A),some (false,M),none,none,none,none]=.nx [some (false,A),some (false,M),none,none,none,none]:=by
 have h1':evE W (.ix (.var 0) (.int 0)) [some (false,A),some (false,M),none,none,none,none]=.ok .fz (.str w):=h1;have ec:evE W (.cmp .Eq (.ix (.var 0) (.int 0)) (.str "pick")) [some (false,A),some (false,M),none,none,none,none]=.ok .fz (.bl false):=(l5 (y:=Str.ofString "pick") h1' rfl).trans (by rw[hw])
 exact (a9 (r:=[]) ec).trans eF
section
variable {w a b:Str}{M:D}
abbrev bsD(w:Str):D:=.tup [.str "table", .str w]
abbrev tsT(a b:Str):D:=.tup [.str "same", .tup [.str "of", .str a],.tup [.str "of", .str b]]
abbrev pkD(w a b:Str):D:=.tup [.str "pick", bsD w,tsT a b]
abbrev tkD(w a b:Str):D:=.tup [.str "keep", pkD w a b,Tp [b]]
theorem aN2(k:Nat){t:D}:(WT TT (k+1)).Φ "sunk" [bsD w,t,M]=.ok .fz .non:=by
 rw[aMH];refine bL rfl ?_;show evB (WT TT k) (.set 3 (.ix (.var 0) (.int 0)) :: .ite (.cmp .Eq (.var 3) (.str "table")) [.ret .non] []::rE.drop 2) [some (false,bsD w),some (false,t),some (false,M),none,none,none]=_;have e0:evE (WT TT k) (.ix (.var 0) (.int 0)) [some (false,bsD w),some (false,t),some (false,M),none,none,none]=.ok .fz (.str (Str.ofString "table")):=show op2 ixD (.ok .fz (bsD w)) (.ok .fz (.int 0))=_ from i0
 rw[bB (ρ':=[some (false,bsD w),some (false,t),some (false,M),some (false,.str (Str.ofString "table")),none,none]) e0 rfl];exact cI ((l5 (z:=Str.ofString "table") (y:=Str.ofString "table") rfl rfl).trans (by rw[aRG])) (bG rfl)
theorem aAF{W:WD}{ρ:Rho}{x y:E}(h:evE W x ρ=.ok .fz (.bl false)):evE W (.andL [x,y]) ρ=.ok .fz (.bl false):=by rw[wG];show dJ (evE W x ρ) (evE W y ρ)=_;rw[h];rfl
theorem aN3(k:Nat):(WT TT (k+2)).Φ "behind_pick" [bsD w,tsT a b,M]=.ok .fz .non:=by
 rw[aMG];refine bL rfl ?_;have e0:evE (WT TT (k+1)) (.ix (.var 1) (.int 0)) [some (false,bsD w),some (false,tsT a b),some (false,M)]=.ok .fz (.str (Str.ofString "same")):=show op2 ixD (.ok .fz (tsT a b)) (.ok .fz (.int 0))=_ from j0
 have en:evE (WT TT (k+1)) (.cmp .Eq (.ix (.var 1) (.int 0)) (.str "not")) [some (false,bsD w),some (false,tsT a b),some (false,M)]=.ok .fz (.bl false):=(l5 (y:=Str.ofString "not") e0 rfl).trans (by rw[show (Str.ofString "same" == Str.ofString "not")=false by decide +kernel])
 have eb:evE (WT TT (k+1)) (.cmp .Eq (.ix (.var 1) (.int 0)) (.str "both")) [some (false,bsD w),some (false,tsT a b),some (false,M)]=.ok .fz (.bl false):=(l5 (y:=Str.ofString "both") e0 rfl).trans (by rw[show (Str.ofString "same" == Str.ofString "both")=false by decide +kernel])
 show evB (WT TT (k+1)) (.ite (.cmp .Eq (.ix (.var 1) (.int 0)) (.str "both")) _ [] :: .ite (.andL [(.cmp .Eq (.ix (.var 1) (.int 0)) (.str "not")),_]) _ [] :: .ite (.andL [(.cmp .Eq (.ix (.var 1) (.int 0)) (.str "not")),_]) _ []::[.ret (.call "sunk" 3 [(.var 0),(.var 1),(.var 2)])]) [some (false,bsD w),some (false,tsT a b),some (false,M)]=_;rw[a9 eb,a9 (aAF en),a9 (aAF en)];exact bG (zZ (p:=bsD w) (q:=tsT a b) (r:=M) rfl rfl rfl (aN2 k))
theorem aN4(k:Nat):(WT TT (k+2)).Φ "stepped" [bsD w,M]=.ok .fz .non :=
 rY (k+1) (aAE i0 (by decide +kernel)) (aNB k) (by simp)
theorem aN5(k:Nat):(WT TT (k+3)).Φ "stepped" [pkD w a b,M]=.ok .fz .non:=by
 refine rY (k+2) (y2:=some (false,.non)) ?_ (kB (k+1) (w:=Str.ofString "pick") j0 j1 wn (by decide +kernel)) (λx hx=>by rw[aRP.mp hx];exact aN4 k)
 show evB (WT TT (k+2)) [.ite (.cmp .Eq (.ix (.var 0) (.int 0)) (.str "pick")) [.set 2 (.frz (.call "behind_pick" 3 [(.ix (.var 0) (.int 1)),(.ix (.var 0) (.int 2)),(.var 1)])),.ite (.cmp .IsNot (.var 2) .non) [.retV 2] []] []] [some (false,pkD w a b),some (false,M),none,none,none,none]=_;have q0:evE (WT TT (k+2)) (.ix (.var 0) (.int 0)) [some (false,pkD w a b),some (false,M),none,none,none,none]=.ok .fz (.str (Str.ofString "pick")):=show op2 ixD (.ok .fz (pkD w a b)) (.ok .fz (.int 0))=_ from j0
 have q1:evE (WT TT (k+2)) (.ix (.var 0) (.int 1)) [some (false,pkD w a b),some (false,M),none,none,none,none]=.ok .fz (bsD w):=show op2 ixD (.ok .fz (pkD w a b)) (.ok .fz (.int 1))=_ from j1
 have q2:evE (WT TT (k+2)) (.ix (.var 0) (.int 2)) [some (false,pkD w a b),some (false,M),none,none,none,none]=.ok .fz (tsT a b):=show op2 ixD (.ok .fz (pkD w a b)) (.ok .fz (.int 2))=_ from j2
 have ec:evE (WT TT (k+2)) (.cmp .Eq (.ix (.var 0) (.int 0)) (.str "pick")) [some (false,pkD w a b),some (false,M),none,none,none,none]=.ok .fz (.bl true):=(l5 (y:=Str.ofString "pick") q0 rfl).trans (by rw[aRG])
 rw[lV (ρ':=[some (false,pkD w a b),some (false,M),some (false,.non),none,none,none]) ec ?_,eF];rw[bB (ρ':=[some (false,pkD w a b),some (false,M),some (false,.non),none,none,none]) (cT (zZ q1 q2 rfl (aN3 k))) rfl,a9 rfl,eF]
theorem aAG(k:Nat):(WT TT (k+4)).Φ "stepped" [tkD w a b,M]=.ok .fz .non :=
 rY (k+3) (aAE j0 (by decide +kernel)) (kB (k+2) (w:=Str.ofString "keep") j0 j1 wn (by decide +kernel)) (λx hx=>by rw[aRP.mp hx];exact aN5 k)
theorem aN6(k:Nat){C:List Str}(h:(WT TT (k+4)).Φ "columns_of" [tkD w a b,M]=.ok .fz (Tp C)):(WT TT (k+5)).Φ "step" [tkD w a b,M]=.ok .fz .non:=by rw[yR];refine bL rfl ?_;show evB (WT TT (k+4)) (.expr (.call "columns_of" 2 [(.var 0),(.var 1)])::[.ret (.call "stepped" 2 [(.var 0),(.var 1)])]) [some (false,tkD w a b),some (false,M)]=_;have c0:evE (WT TT (k+4)) (.call "columns_of" 2 [(.var 0),(.var 1)]) [some (false,tkD w a b),some (false,M)]=.ok .fz (Tp C):=eI (p:=tkD w a b) (q:=M) rfl rfl h;rw[aT,iP,c0];show evB (WT TT (k+4)) [.ret (.call "stepped" 2 [(.var 0),(.var 1)])] _=_;exact bG (eI (p:=tkD w a b) (q:=M) rfl rfl (aAG k))
theorem aN7(k:Nat){C:List Str}(h:(WT TT (k+4)).Φ "columns_of" [tkD w a b,M]=.ok .fz (Tp C)):(WT TT (k+5)).Φ "steps" [tkD w a b,M]=.ok .fr (.lst [tkD w a b]):=by
 have hsz:sizeLine=16777216:=aPH;rw[yS];refine bL rfl ?_;generalize hT:tkD w a b=T at *;show evB (WT TT (k+4)) (.expr (.call "columns_of" 2 [(.var 0),(.var 1)]) :: .set 2 (.lst []) :: .set 3 (.var 0) :: .whl 1000000 (.cmp .IsNot (.var 3) .non) nX::[.retV 2]) [some (false,T),some (false,M),none,none]=_;have c0:evE (WT TT (k+4)) (.call "columns_of" 2 [(.var 0),(.var 1)]) [some (false,T),some (false,M),none,none]=.ok .fz (Tp C):=eI (p:=T) (q:=M) rfl rfl h;have tn:eM T=false:=by rw[<- hT];rfl
 rw[aT,iP,c0];show evB (WT TT (k+4)) (.set 2 (.lst []) :: .set 3 (.var 0) :: .whl 1000000 (.cmp .IsNot (.var 3) .non) nX::[.retV 2]) [some (false,T),some (false,M),none,none]=_;rw[rV (d:=.lst []) (ρ':=[some (false,T),some (false,M),some (true,.lst []),none]) rfl rfl,bB (d:=T) (ρ':=[some (false,T),some (false,M),some (true,.lst []),some (false,T)]) rfl rfl,aT,s_whl];have t1:evE (WT TT (k+4)) (.cmp .IsNot (.var 3) .non) [some (false,T),some (false,M),some (true,.lst []),some (false,T)]=.ok .fz (.bl true):=by rw[iM];show op2 (bF .IsNot) (.ok .fz T) (.ok .fz .non)=_;rw[aLM,tn];rfl
 have b1:evB (WT TT (k+4)) nX [some (false,T),some (false,M),some (true,.lst []),some (false,T)]=.nx [some (false,T),some (false,M),some (true,.lst [T]),some (false,.non)]:=by show evB (WT TT (k+4)) (.app 2 (.var 3) :: .set 3 (.frz (.call "stepped" 2 [(.var 3),(.var 1)]))::[]) _=_;rw[z9 (ds:=[]) (d:=T) (ρ':=[some (false,T),some (false,M),some (true,.lst [T]),some (false,T)]) rfl (by simp;omega) rfl rfl,bB (ρ':=[some (false,T),some (false,M),some (true,.lst [T]),some (false,.non)]) (cT (eI (p:=T) (q:=M) rfl rfl (by rw[<- hT];exact aAG k))) rfl,eF]
 rw[whl_t (n:=999999) t1 b1,whl_f (n:=999998) (show evE (WT TT (k+4)) (.cmp .IsNot (.var 3) .non) [some (false,T),some (false,M),some (true,.lst [T]),some (false,.non)]=.ok .fz (.bl false) from rfl),aG.thn_nx]
 rfl
end
theorem aAH(k:Nat)(c p:Int)(hp:0<p):∃ v:Int,(WT TT (k+1)).Φ "_law_mixed" [.int c,.int p]=.ok .fz (.int v):=by
 rw[aMJ];refine ⟨(c+7) * 48271 % 2147483647 * ((c+7) * 48271 % 2147483647) % p,bL rfl ?_⟩;show evB (WT TT k) (.set 2 (.frz (.bin .Mod (.bin .Mult (.bin .Add (.var 0) (.int 7)) (.int 48271)) (.int 2147483647)))::[.ret (.bin .Mod (.bin .Mult (.var 2) (.var 2)) (.var 1))]) [some (false,.int c),some (false,.int p),none]=_;rw[bB (d:=.int ((c+7) * 48271 % 2147483647)) (ρ':=[some (false,.int c),some (false,.int p),some (false,.int ((c+7) * 48271 % 2147483647))]) (cT (cU (by omega) (by rw[gY,zX (u:=c) (v:=7) rfl rfl];exact aLJ (by decide)) rfl)) rfl]
 refine bG (cU hp ?_ rfl);rw[gY];exact aLK (by omega)
theorem sll{W:WD}{ρ:Rho}{ds:List D}{e e':E}{i j:Nat}{m m':Md}(h:evE W e ρ=.ok m (.int (i:Int)))(h':evE W e' ρ=.ok m' (.int (j:Int))){m0:Md}:slP (.ok m0 (.lst ds)) (evO W (some e)) (evO W (some e')) ρ=.ok .fr (.lst (cR ds (some (i:Int)) (some (j:Int)))):=by simp only[evO,slP,Res.thn_ok,cW,h,h']
theorem aAI{k:D->Rho->Option Rho}{body:Rho->aG}(I:Nat->Rho->Prop):∀ {ds:List D} {ρ:Rho},(∀ n,∀ d∈ds,∀ ρ,I (n+1) ρ->∃ ρ1 ρ2,k d ρ=some ρ1/\body ρ1=.nx ρ2/\I n ρ2)->I ds.length ρ->∃ ρ',cM k body ds ρ=.nx ρ'/\I 0 ρ'
 | [],ρ,_,h=>⟨ρ,rfl,h⟩
 | d::ds,ρ,hs,h=>by obtain ⟨ρ1,ρ2,e1,e2,h2⟩:=hs ds.length d mcs ρ h;obtain ⟨ρ',e3,h3⟩:=aAI I (λn d hd=>hs n d (mcm hd)) h2;refine ⟨ρ',?_,h3⟩;unfold cM;rw[e1];dsimp only;rw[e2];exact e3
theorem aN8(xs:List D):(cR xs (some 4) (some 16)).length<=12:=by unfold cR;have e1:HT.sIx xs.length 0 (some 4)=min 4 xs.length:=HT.pF _ _ 4;have e2:HT.sIx xs.length xs.length (some 16)=min 16 xs.length:=HT.pF _ _ 16;rw[e1,e2,aPM];omega
theorem aN9{ns:List Int}{d:D}(h:d∈cR (ns.map D.int) (some 4) (some 16)):∃ c,d=.int c:=by have:=List.mem_of_mem_drop (aSV h);obtain ⟨c,_,rfl⟩:=aSQ.mp this;exact ⟨c,rfl⟩
abbrev ρM(S P ws:D)(M:List (Key×D))(a b:Str)(B v A:D)(x9 x10 x11 x12 x13 x14:Option (Bool×D)):Rho:=[some (false,S),some (false,P),some (false,ws),some (false,.dct M),some (false,.str a),some (false,.str b),some (false,B),some (false,v),some (false,A),x9,x10,x11,x12,x13,x14]
section
variable {M:List (Key×D)}{a b g cz:Str}{A B P ws v:D}{n:Nat}{x9 x10 x11 x12 x13 x14:Option (Bool×D)}
theorem lloop(k:Nat){ns:List Int}{r:List D3.S}(h:Th a b g)(hP:∀ m m',op2 ixD (.ok m P) (.ok m' (.int 6))=.ok .fz (.str g))(hB:Co M B none [a,b] 0)(hA:Rf M cz n A)(hn:1<=n):∃ A' y10,Rf M cz (n+12) A'/\evB (WT TT (k+1)) (.for (.items (.slice (.var 0) (some (.int 4)) (some (.int 16)))) (.nm 10) lO::r) (ρM (.lst (ns.map .int)) P ws M a b B v A x9 x10 x11 x12 x13 x14)=evB (WT TT (k+1)) r (ρM (.lst (ns.map .int)) P ws M a b B v A' x9 y10 x11 x12 x13 x14):=by
 obtain ⟨ρ',e,I⟩:=aAI (k:=aJ (.nm 10)) (body:=evB (WT TT (k+1)) lO) (ds:=cR (ns.map D.int) (some 4) (some 16)) (ρ:=ρM (.lst (ns.map .int)) P ws M a b B v A x9 x10 x11 x12 x13 x14)
  (λr ρ=>∃ A m y10,Rf M cz m A/\1<=m/\m+r<=n+12/\ρ=ρM (.lst (ns.map .int)) P ws M a b B v A x9 y10 x11 x12 x13 x14)
  (λr d hd ρ hρ=>by
   obtain ⟨A,m,y10,h1,h2,h3,rfl⟩:=hρ;obtain ⟨c,rfl⟩:=aN9 hd;obtain ⟨u,eu⟩:=aAH k c 2147483629 (by omega)
   obtain ⟨A',eA,hA'⟩:=round k h hB h1 h2 u;refine ⟨ρM (.lst (ns.map .int)) P ws M a b B v A x9 (some (false,.int c)) x11 x12 x13 x14,ρM (.lst (ns.map .int)) P ws M a b B v A' x9 (some (false,.int c)) x11 x12 x13 x14,by rw[sg_nm];rfl,?_,A',m+1,_,hA',by omega,by omega,rfl⟩
   have e1:evE (WT TT (k+1)) (.frz (.call "_law_mixed" 2 [(.var 10),(.int 2147483629)])) (ρM (.lst (ns.map .int)) P ws M a b B v A x9 (some (false,.int c)) x11 x12 x13 x14)=.ok .fz (.int u):=cT (eI (p:=.int c) (q:=.int 2147483629) rfl rfl eu);have e2:evE (WT TT (k+1)) (.ix (.var 1) (.int 6)) (ρM (.lst (ns.map .int)) P ws M a b B v A x9 (some (false,.int c)) x11 x12 x13 x14)=.ok .fz (.str g):=by rw[gZ];exact hP _ _
   have e3:evE (WT TT (k+1)) (.frz (.call "_law_round" 5 [(.frz (.call "_law_mixed" 2 [(.var 10),(.int 2147483629)])),(.var 8),(.var 6),(.var 4),(.ix (.var 1) (.int 6))])) (ρM (.lst (ns.map .int)) P ws M a b B v A x9 (some (false,.int c)) x11 x12 x13 x14)=.ok .fz A':=by refine cT ?_;show aU 5 ((WT TT (k+1)).Φ "_law_round") (aZ (WT TT (k+1)) _ _)=_;rw[aX,aX,aX,aX,aX,cS,e1,e2];exact hC (ds:=[.int u,A,B,.str a,.str g]) rfl rfl eA
   exact (bB (i:=8) (r:=[]) e3 rfl).trans eF) ⟨A,n,x10,hA,hn,by have:=aN8 (ns.map D.int);omega,rfl⟩
 obtain ⟨A',m,y10,q1,q2,q3,rfl⟩:=I;refine ⟨A',y10,Co.mono q1 (by omega),?_⟩
 have sl:evE (WT TT (k+1)) (.items (.slice (.var 0) (some (.int 4)) (some (.int 16)))) (ρM (.lst (ns.map .int)) P ws M a b B v A x9 x10 x11 x12 x13 x14)=.ok .fz (.lst (cR (ns.map D.int) (some 4) (some 16))):=by rw[qS,qR];show gR (a8 (slP (.ok .fz (.lst (ns.map .int))) _ _ _))=_;rw[sll (m:=.fz) (m':=.fz) (i:=4) (j:=16) rfl rfl];rfl
 rw[aT,lL,sl];show (cM (aJ (.nm 10)) (evB (WT TT (k+1)) lO) (cR (ns.map D.int) (some 4) (some 16)) (ρM (.lst (ns.map .int)) P ws M a b B v A x9 x10 x11 x12 x13 x14)).thn _=_;rw[e,aG.thn_nx]
end
def eqI(due:Nat):D->D
 | .int i=>.bl (i==(due:Int))
 | d=>d
theorem aOA(due:Nat):(bT 0 4).map (eqI due)=wt due:=rfl
theorem aOB(due:Nat):∃ p,bA (.lst (wt due))=some p/\eL p=true/\PyData.eqv p p=true:=by
 generalize e0:(((0:Nat):Int)==(due:Int))=c0;generalize e1:(((1:Nat):Int)==(due:Int))=c1;generalize e2:(((2:Nat):Int)==(due:Int))=c2;generalize e3:(((3:Nat):Int)==(due:Int))=c3;have:wt due=[.bl c0,.bl c1,.bl c2,.bl c3]:=by rw[<- e0,<- e1,<- e2,<- e3];rfl
 rw[this];exact ⟨.list [.bool c0,.bool c1,.bool c2,.bool c3],by simp[bA,dZ],by simp[eL,PyData.depth,PyData.depthAll],by cases c0 <;> cases c1 <;> cases c2 <;> cases c3 <;> decide +kernel⟩
theorem ne_wt{due:Nat}{m m':Md}:op2 (bF .NotEq) (.ok m (.lst (wt due))) (.ok m' (.lst (wt due)))=.ok .fz (.bl false):=by obtain ⟨p,h1,h2,h3⟩:=aOB due;refine bP ?_;generalize D.lst (wt due)=d at *;simp[bF,fNe,orO,eqF,h1,h2,h3]
theorem eq_tk{w a b:Str}{m m':Md}:op2 (bF .Eq) (.ok m (tkD w a b)) (.ok m' (tkD w a b))=.ok .fz (.bl true):=by
 obtain ⟨p,h1,h2,h3⟩:∃ p,bA (tkD w a b)=some p/\eL p=true/\PyData.eqv p p=true :=
  ⟨.tuple [.str "keep", .tuple [.str "pick", .tuple [.str "table", .str w],.tuple [.str "same", .tuple [.str "of", .str a],.tuple [.str "of", .str b]]],.tuple [.str b]],by simp[bA,dZ],by simp[eL,PyData.depth,PyData.depthAll],by simp[PyData.eqv,PyData.eqvAll]⟩
 refine bP ?_;generalize tkD w a b=d at *;simp[bF,fEq,orO,eqF,h1,h2,h3]
theorem Co.tk{M:List (Key×D)}{w a b:Str}(hB:Co M (bsD w) none [a,b] 0)(la:a.length<=40)(lb:b.length<=40):Co M (tkD w a b) none [b] 2:=by
 have k1:=hB.pick (t:=.atom true (.of a) (.of b)) (L:=[a,b]) (by show 0<=3;decide) rfl (by simp) (by intro z hz;simp at hz;rcases hz with rfl | rfl;exact la;exact lb)
 rw[if_pos (λz hz=>hz)] at k1;have k2:=k1.keep (K:=[b]) (by intro z hz;rw[aRP.mp hz];exact lb)
 rw[lZ (by simp) (by simp)] at k2
 exact k2
theorem lend{M:List (Key×D)}{a b g w:Str}{A P ws v:D}{n due:Nat}{ns:List Int}{y10:Option (Bool×D)}(hd:due<4)(hA:Rf M (cN due) n A)(hn:n<=21)(hB:Co M (bsD w) none [a,b] 0)(la:a.length<=40)(lb:b.length<=40)(hq:op2 (eqN false) (.ok .fz (.dct M)) (.ok .fz (.dct M))=.ok .fz (.bl true)):evB (WT TT 30) (gI.drop 10) (ρM (.lst (ns.map .int)) P ws M a b (bsD w) v A (some (false,.int (due:Int))) y10 none none none none)=.rt .fz (.bl true):=by
 have hco:(WT TT 28).Φ "columns_of" [A,.dct M]=.exc (cN due):=by
  have:=hA (21-n);rw[show 21-n+n+7=28 by omega] at this
  exact this
 have r0:=λm=>aNZ 27 hd hco m;have htk:(WT TT 29).Φ "columns_of" [tkD w a b,.dct M]=.ok .fz (Tp [b]):=Co.tk hB la lb 20;have s1:=aN6 25 htk;have s2:=aN7 25 htk;have c3:=cell 29 ns (i:=3) (by decide)
 generalize hS : D.lst (ns.map .int) = S at *; have d10 : gI.drop 10 = .set 11 (.frz (.tcall .dict [(.var 3)])) :: .setC 12 true (.comp (.cmp .Eq (.var 1) (.var 0)) (.rng1 (.int 4)) [] [9] (.nm 1) 1) :: .set 13 (.cmp .Eq (.bin .Mod (.bin .FloorDiv (.call "_law_cell_at" 2 [(.var 0), (.int 3)]) (.int 5)) (.int 2)) (.int 1)) ::
     .ite (.orL [(.cmp .NotEq (.call "_law_refused" 3 [(.var 13),(.var 8),(.var 11)]) (.var 12)),(.cmp .NotEq (.call "_law_refused" 3 [(.not (.var 13)),(.var 8),(.var 11)]) (.var 12))]) [.ret (.bl false)] [] ::
     .set 14 (.tup [(.str "keep"),(.tup [(.str "pick"),(.var 6),(.tup [(.str "same"),(.tup [(.str "of"),(.var 4)]),(.tup [(.str "of"),(.var 5)])])]),(.tup [(.var 5)])]) ::
     [.ret (.andL [(.cmp .Eq (.ix (.call "steps" 2 [(.var 14),(.var 11)]) (.int 0)) (.var 14)),(.cmp .Is (.call "step" 2 [(.var 14),(.var 11)]) .non),(.deq false (.var 11) (.var 3))])]:=rfl
 rw[d10]
 clear d10
 rw[bB (d:=.dct M) (ρ':=ρM S P ws M a b (bsD w) v A (some (false,.int (due:Int))) y10 (some (false,.dct M)) none none none) (by rw[lJ];rfl) rfl]
 have ec:evE (WT TT 30) (.comp (.cmp .Eq (.var 1) (.var 0)) (.rng1 (.int 4)) [] [9] (.nm 1) 1) (ρM S P ws M a b (bsD w) v A (some (false,.int (due:Int))) y10 (some (false,.dct M)) none none none)=.ok .fr (.lst (wt due)):=by
  have er:evE (WT TT 30) (.rng1 (.int 4)) (ρM S P ws M a b (bsD w) v A (some (false,.int (due:Int))) y10 (some (false,.dct M)) none none none)=.ok .fz (.lst (bT 0 4)):=oC (m:=.fz) (n:=4) (by decide) (by decide)
  rw[lK,er,<- aOA];refine qY _ (by show 4<sizeLine;have:=aPH;omega) λd hd=>?_
  obtain ⟨i,hi,rfl⟩:=mem_range hd;refine ⟨[some (false,.int (due:Int)),some (false,.int (i:Int))],.fz,rfl,rfl,.fz,?_⟩;rw[gK (u:=(i:Int)) (v:=(due:Int)) rfl rfl];rfl
 have e12:∀ r,evB (WT TT 30) (.setC 12 true (.comp (.cmp .Eq (.var 1) (.var 0)) (.rng1 (.int 4)) [] [9] (.nm 1) 1)::r) (ρM S P ws M a b (bsD w) v A (some (false,.int (due:Int))) y10 (some (false,.dct M)) none none none)=evB (WT TT 30) r (ρM S P ws M a b (bsD w) v A (some (false,.int (due:Int))) y10 (some (false,.dct M)) (some (false,.lst (wt due))) none none):=λr=>by rw[aT,qV,ec];rfl
 rw[e12];have e13:evE (WT TT 30) (.cmp .Eq (.bin .Mod (.bin .FloorDiv (.call "_law_cell_at" 2 [(.var 0),(.int 3)]) (.int 5)) (.int 2)) (.int 1)) (ρM S P ws M a b (bsD w) v A (some (false,.int (due:Int))) y10 (some (false,.dct M)) (some (false,.lst (wt due))) none none)=.ok .fz (.bl (ce ns 3 / 5 % 2==1)):=gK (cU (by omega) (l0 (by omega) (by decide) (eI (p:=S) (q:=.int 3) rfl rfl c3) rfl) rfl) rfl
 rw[bB (ρ':=ρM S P ws M a b (bsD w) v A (some (false,.int (due:Int))) y10 (some (false,.dct M)) (some (false,.lst (wt due))) (some (false,.bl (ce ns 3 / 5 % 2==1))) none) e13 rfl];generalize (ce ns 3 / 5 % 2==1)=mb;have f1:evE (WT TT 30) (.call "_law_refused" 3 [(.var 13),(.var 8),(.var 11)]) (ρM S P ws M a b (bsD w) v A (some (false,.int (due:Int))) y10 (some (false,.dct M)) (some (false,.lst (wt due))) (some (false,.bl mb)) none)=.ok .fr (.lst (wt due)):=iS (xs:=[(.fz,.bl mb),(.fz,A),(.fz,.dct M)]) (ds:=[.bl mb,A,.dct M]) rfl rfl rfl (r0 mb);have f2:evE (WT TT 30) (.call "_law_refused" 3 [(.not (.var 13)),(.var 8),(.var 11)]) (ρM S P ws M a b (bsD w) v A (some (false,.int (due:Int))) y10 (some (false,.dct M)) (some (false,.lst (wt due))) (some (false,.bl mb)) none)=.ok .fr (.lst (wt due)):=iS (xs:=[(.fz,.bl !mb),(.fz,A),(.fz,.dct M)]) (ds:=[.bl !mb,A,.dct M]) rfl rfl rfl (r0 (!mb));have eo:evE (WT TT 30) (.orL [(.cmp .NotEq (.call "_law_refused" 3 [(.var 13),(.var 8),(.var 11)]) (.var 12)),(.cmp .NotEq (.call "_law_refused" 3 [(.not (.var 13)),(.var 8),(.var 11)]) (.var 12))]) (ρM S P ws M a b (bsD w) v A (some (false,.int (due:Int))) y10 (some (false,.dct M)) (some (false,.lst (wt due))) (some (false,.bl mb)) none)=.ok .fz (.bl false):=by have g12:evE (WT TT 30) (.var 12) (ρM S P ws M a b (bsD w) v A (some (false,.int (due:Int))) y10 (some (false,.dct M)) (some (false,.lst (wt due))) (some (false,.bl mb)) none)=.ok .fz (.lst (wt due)):=rfl;rw[wH];show orR (evE (WT TT 30) (.cmp .NotEq (.call "_law_refused" 3 [(.var 13),(.var 8),(.var 11)]) (.var 12)) _) (evE (WT TT 30) (.cmp .NotEq (.call "_law_refused" 3 [(.not (.var 13)),(.var 8),(.var 11)]) (.var 12)) _)=_;rw[iM,iM,f1,f2,g12,ne_wt];rfl
 rw[a9 eo,bB (d:=tkD w a b) (ρ':=ρM S P ws M a b (bsD w) v A (some (false,.int (due:Int))) y10 (some (false,.dct M)) (some (false,.lst (wt due))) (some (false,.bl mb)) (some (false,tkD w a b))) (bD rfl (bD rfl rfl (bD rfl (bH rfl rfl) (bH rfl rfl))) (gJ rfl)) rfl];refine bG ?_;have g1:evE (WT TT 30) (.call "steps" 2 [(.var 14),(.var 11)]) (ρM S P ws M a b (bsD w) v A (some (false,.int (due:Int))) y10 (some (false,.dct M)) (some (false,.lst (wt due))) (some (false,.bl mb)) (some (false,tkD w a b)))=.ok .fr (.lst [tkD w a b]):=iS (xs:=[(.fz,tkD w a b),(.fz,.dct M)]) (ds:=[tkD w a b,.dct M]) rfl rfl rfl s2;have g2:evE (WT TT 30) (.call "step" 2 [(.var 14),(.var 11)]) (ρM S P ws M a b (bsD w) v A (some (false,.int (due:Int))) y10 (some (false,.dct M)) (some (false,.lst (wt due))) (some (false,.bl mb)) (some (false,tkD w a b)))=.ok .fz .non:=eI (p:=tkD w a b) (q:=.dct M) rfl rfl s1;have g3:evE (WT TT 30) (.deq false (.var 11) (.var 3)) (ρM S P ws M a b (bsD w) v A (some (false,.int (due:Int))) y10 (some (false,.dct M)) (some (false,.lst (wt due))) (some (false,.bl mb)) (some (false,tkD w a b)))=.ok .fz (.bl true):=hq;have g4:evE (WT TT 30) (.cmp .Eq (.ix (.call "steps" 2 [(.var 14),(.var 11)]) (.int 0)) (.var 14)) (ρM S P ws M a b (bsD w) v A (some (false,.int (due:Int))) y10 (some (false,.dct M)) (some (false,.lst (wt due))) (some (false,.bl mb)) (some (false,tkD w a b)))=.ok .fz (.bl true):=by rw[iM,bR (j:=0) (p:=tkD w a b) g1 rfl rfl];exact eq_tk
 have g5:evE (WT TT 30) (.cmp .Is (.call "step" 2 [(.var 14),(.var 11)]) .non) (ρM S P ws M a b (bsD w) v A (some (false,.int (due:Int))) y10 (some (false,.dct M)) (some (false,.lst (wt due))) (some (false,.bl mb)) (some (false,tkD w a b)))=.ok .fz (.bl true):=by rw[iM,g2];rfl
 rw[wG];show dJ (evE (WT TT 30) (.cmp .Eq (.ix (.call "steps" 2 [(.var 14),(.var 11)]) (.int 0)) (.var 14)) _) (dJ (evE (WT TT 30) (.cmp .Is (.call "step" 2 [(.var 14),(.var 11)]) .non) _) (evE (WT TT 30) (.deq false (.var 11) (.var 3)) _))=_;rw[g4,g5,g3];rfl
def kk:Nat:=30
theorem main(ns:List Int)(hn:ns.length<=63):(WT TT (kk+1)).Φ ("law" : Str) (m6 ns)=.ok .fz (.bl true):=by
 rw[u_law];refine bL rfl ?_;show evB (WT TT 30) gI [some (false,.lst (ns.map .int)),none,none,none,none,none,none,none,none,none,none,none,none,none,none]=_;have c0:=cell 29 ns (i:=0) (by decide)
 have c1:=cell 29 ns (i:=1) (by decide)
 have c2:=cell 29 ns (i:=2) (by decide)
 have c3:=cell 29 ns (i:=3) (by decide)
 obtain ⟨N,n1,n2,n3,n4⟩:=names 29 (ce ns 0) (n:=7) (by decide)
 obtain ⟨ws,v1,v2,v3,v4⟩:=names 29 (ce ns 1) (n:=4) (by decide)
 obtain ⟨w0,w1,w2,w3,rfl⟩:∃ w0 w1 w2 w3,ws=[w0,w1,w2,w3]:=by
  match ws,v1 with
  | [a,b,c,d],_=>exact ⟨a,b,c,d,rfl⟩
 obtain ⟨p0,p1,p2,p3,p4,p5,p6,rfl⟩:∃ p0 p1 p2 p3 p4 p5 p6,N=[p0,p1,p2,p3,p4,p5,p6]:=by
  match N,n1 with
  | [a,b,c,d,e,f,g],_=>exact ⟨a,b,c,d,e,f,g,rfl⟩
 have nd:w0≠w1/\w0≠w2/\w1≠w2/\w0≠w3/\w1≠w3/\w2≠w3:=by simp[aPK] at v2;exact ⟨v2.1.1,v2.1.2.1,v2.2.1.1,v2.1.2.2,v2.2.1.2,v2.2.2⟩
 obtain ⟨h01,h02,h12,h03,h13,h23⟩:=nd;have q01:p0≠p1/\p0≠p6/\p1≠p6:=by simp[aPK] at n2;exact ⟨n2.1.1,n2.1.2.2.2.2.2,n2.2.1.2.2.2.2⟩
 have th:Th p0 p1 p6:=⟨q01.1,q01.2.1.symm,q01.2.2.symm,n3 p0 (by simp),n3 p1 (by simp),n3 p6 (by simp)⟩
 have w40:w3.length<=40:=v3 w3 (by simp)
 have sh:=aN1 29 (w3:=w3) (n0:=p0) (n1:=p1) (n2:=p2) (n3:=p3) (n4:=p4) (n5:=p5) (n6:=p6) h01 h02 h12;obtain ⟨g0,g1,g2⟩:=aN0 (S0:=[p0,p1]) (S1:=[p1,p2]) (S2:=[p3,p4]) h01 h02 h12;have gno:bE (sh3 w0 w1 w2 [p0,p1] [p1,p2] [p3,p4]) (.inr w3)=none:=by simp[bE,sh3,aQH,h03,h13,h23]
 have hq:op2 (eqN false) (.ok .fz (.dct (sh3 w0 w1 w2 [p0,p1] [p1,p2] [p3,p4]))) (.ok .fz (.dct (sh3 w0 w1 w2 [p0,p1] [p1,p2] [p3,p4])))=.ok .fz (.bl true):=bP (by
  have:eP (sh3 w0 w1 w2 [p0,p1] [p1,p2] [p3,p4]) (sh3 w0 w1 w2 [p0,p1] [p1,p2] [p3,p4])=some true:=aAD _ λkv hkv=>by
   simp only[sh3,aOR,List.not_mem_nil,aR6] at hkv;rcases hkv with rfl | rfl | rfl
   . exact ⟨g0,_,rfl⟩
   . exact ⟨g1,_,rfl⟩
   . exact ⟨g2,_,rfl⟩
  show (eP _ _).map _=_;rw[this];simp)
 generalize sh3 w0 w1 w2 [p0,p1] [p1,p2] [p3,p4]=M at *;have hB:Co M (bsD w0) none [p0,p1] 0:=Co.table g0;obtain ⟨u,eu⟩:=aAH 29 (ce ns 2) 1000000007 (by omega)
 obtain ⟨A0,due0,ef,hd0,hA0⟩:=fault 29 th hB u;have hP:∀ m m',op2 ixD (.ok m (Tp [p0,p1,p2,p3,p4,p5,p6])) (.ok m' (.int 6))=.ok .fz (.str p6):=λm m'=>eU (cD (j:=6) rfl);have x0:∀ m m',op2 ixD (.ok m (.lst ([w0,w1,w2,w3].map .str))) (.ok m' (.int 0))=.ok .fz (.str w0):=λm m'=>j7 (cD (j:=0) rfl);have x3:∀ m m',op2 ixD (.ok m (.lst ([w0,w1,w2,w3].map .str))) (.ok m' (.int 3))=.ok .fz (.str w3):=λm m'=>j7 (cD (j:=3) rfl);generalize hPd:Tp [p0,p1,p2,p3,p4,p5,p6]=P at *;generalize hwd:D.lst ([w0,w1,w2,w3].map .str)=ws at *;generalize hS:D.lst (ns.map .int)=S at *;have k1:evE (WT TT 30) (.frz (.tcall .tuple [(.call "_law_names" 2 [(.frz (.call "_law_cell_at" 2 [(.var 0),(.int 0)])),(.int 7)])])) [some (false,S),none,none,none,none,none,none,none,none,none,none,none,none,none,none]=.ok .fz P:=by
  have q:evE (WT TT 30) (.call "_law_names" 2 [(.frz (.call "_law_cell_at" 2 [(.var 0),(.int 0)])),(.int 7)]) [some (false,S),none,none,none,none,none,none,none,none,none,none,none,none,none,none]=.ok .fr (.lst ([p0,p1,p2,p3,p4,p5,p6].map .str)) :=
   iS (xs:=[(.fz,.int (ce ns 0)),(.fz,.int 7)]) (ds:=[.int (ce ns 0),.int 7]) (by rw[aX,aX,cS,cT (eI (p:=S) (q:=.int 0) rfl rfl c0)];rfl) rfl rfl n4
  refine cT ?_;rw[qU,aX,cS,q,<- hPd];rfl
 have k2:evE (WT TT 30) (.frz (.call "_law_names" 2 [(.frz (.call "_law_cell_at" 2 [(.var 0),(.int 1)])),(.int 4)])) [some (false,S),some (false,P),none,none,none,none,none,none,none,none,none,none,none,none,none]=.ok .fz ws:=by
  have q:evE (WT TT 30) (.call "_law_names" 2 [(.frz (.call "_law_cell_at" 2 [(.var 0),(.int 1)])),(.int 4)]) [some (false,S),some (false,P),none,none,none,none,none,none,none,none,none,none,none,none,none]=.ok .fr ws :=
   iS (xs:=[(.fz,.int (ce ns 1)),(.fz,.int 4)]) (ds:=[.int (ce ns 1),.int 4]) (by rw[aX,aX,cS,cT (eI (p:=S) (q:=.int 1) rfl rfl c1)];rfl) rfl rfl v4
  rw[lJ,q,<- hwd];rfl
 have k3:evE (WT TT 30) (.frz (.call "_law_shapes" 2 [(.var 2),(.var 1)])) [some (false,S),some (false,P),some (false,ws),none,none,none,none,none,none,none,none,none,none,none,none]=.ok .fz (.dct M):=by have q:evE (WT TT 30) (.call "_law_shapes" 2 [(.var 2),(.var 1)]) [some (false,S),some (false,P),some (false,ws),none,none,none,none,none,none,none,none,none,none,none,none]=.ok .fr (.dct M):=iS (xs:=[(.fz,ws),(.fz,P)]) (ds:=[ws,P]) rfl rfl rfl sh;rw[lJ,q];rfl
 have d0 : gI = .set 1 (.frz (.tcall .tuple [(.call "_law_names" 2 [(.frz (.call "_law_cell_at" 2 [(.var 0), (.int 0)])), (.int 7)])])) :: .set 2 (.frz (.call "_law_names" 2 [(.frz (.call "_law_cell_at" 2 [(.var 0), (.int 1)])), (.int 4)])) :: .set 3 (.frz (.call "_law_shapes" 2 [(.var 2), (.var 1)])) :: .asg (.tp [(.nm 4), (.nm 5)]) (.dix (.var 3) (.ix (.var 2) (.int 0))) :: .set 6 (.tup [(.str "table"), (.ix (.var 2) (.int 0))]) :: .set 7 (.frz (.call "_law_mixed" 2 [(.frz (.call "_law_cell_at" 2 [(.var 0), (.int 2)])), (.int 1000000007)])) ::
     .asg (.tp [(.nm 8),(.nm 9)]) (.call "_law_fault" 5 [(.var 7),(.var 6),(.var 4),(.var 5),(.ix (.var 1) (.int 6))])::gI.drop 7:=rfl
 have y4:evE (WT TT 30) (.ix (.var 2) (.int 0)) [some (false,S),some (false,P),some (false,ws),some (false,.dct M),none,none,none,none,none,none,none,none,none,none,none]=.ok .fz (.str w0):=by rw[gZ];exact x0 _ _
 have y6:evE (WT TT 30) (.ix (.var 2) (.int 0)) [some (false,S),some (false,P),some (false,ws),some (false,.dct M),some (false,.str p0),some (false,.str p1),none,none,none,none,none,none,none,none,none]=.ok .fz (.str w0):=by rw[gZ];exact x0 _ _
 have y7:evE (WT TT 30) (.frz (.call "_law_mixed" 2 [(.frz (.call "_law_cell_at" 2 [(.var 0),(.int 2)])),(.int 1000000007)])) [some (false,S),some (false,P),some (false,ws),some (false,.dct M),some (false,.str p0),some (false,.str p1),some (false,bsD w0),none,none,none,none,none,none,none,none]=.ok .fz (.int u):=cT (eI (p:=.int (ce ns 2)) (q:=.int 1000000007) (cT (eI (p:=S) (q:=.int 2) rfl rfl c2)) rfl eu);have y8:evE (WT TT 30) (.call "_law_fault" 5 [(.var 7),(.var 6),(.var 4),(.var 5),(.ix (.var 1) (.int 6))]) [some (false,S),some (false,P),some (false,ws),some (false,.dct M),some (false,.str p0),some (false,.str p1),some (false,bsD w0),some (false,.int u),none,none,none,none,none,none,none]=.ok .fz (.tup [A0,.int (due0:Int)]):=by
  have q:evE (WT TT 30) (.ix (.var 1) (.int 6)) [some (false,S),some (false,P),some (false,ws),some (false,.dct M),some (false,.str p0),some (false,.str p1),some (false,bsD w0),some (false,.int u),none,none,none,none,none,none,none]=.ok .fz (.str p6):=by rw[gZ];exact hP _ _
  show aU 5 ((WT TT 30).Φ "_law_fault") (aZ (WT TT 30) _ _)=_;rw[aX,aX,aX,aX,aX,cS,q];exact hC (ds:=[.int u,bsD w0,.str p0,.str p1,.str p6]) rfl rfl ef
 rw[d0,bB (ρ':=[some (false,S),some (false,P),none,none,none,none,none,none,none,none,none,none,none,none,none]) k1 rfl,
  bB (ρ':=[some (false,S),some (false,P),some (false,ws),none,none,none,none,none,none,none,none,none,none,none,none]) k2 rfl,
  bB (ρ':=[some (false,S),some (false,P),some (false,ws),some (false,.dct M),none,none,none,none,none,none,none,none,none,none,none]) k3 rfl,
  zY (d:=Tp [p0,p1]) (ρ':=[some (false,S),some (false,P),some (false,ws),some (false,.dct M),some (false,.str p0),some (false,.str p1),none,none,none,none,none,none,none,none,none]) (aNQ g0 rfl y4) rfl,
  bB (d:=bsD w0) (ρ':=[some (false,S),some (false,P),some (false,ws),some (false,.dct M),some (false,.str p0),some (false,.str p1),some (false,bsD w0),none,none,none,none,none,none,none,none]) (bH rfl y6) rfl,
  bB (ρ':=[some (false,S),some (false,P),some (false,ws),some (false,.dct M),some (false,.str p0),some (false,.str p1),some (false,bsD w0),some (false,.int u),none,none,none,none,none,none,none]) y7 rfl,
  zY (ρ':=ρM S P ws M p0 p1 (bsD w0) (.int u) A0 (some (false,.int (due0:Int))) none none none none none) y8 rfl]
 clear d0 k1 k2 k3 y4 y6 y7 y8
 have cc:∀ A x9,evE (WT TT 30) (.bin .Mod (.call "_law_cell_at" 2 [(.var 0),(.int 3)]) (.int 5)) (ρM S P ws M p0 p1 (bsD w0) (.int u) A x9 none none none none none)=.ok .fz (.int (ce ns 3 % 5)):=λA x9=>cU (by omega) (eI (p:=S) (q:=.int 3) rfl rfl c3) rfl
 have y3:∀ A x9,evE (WT TT 30) (.ix (.var 2) (.int 3)) (ρM S P ws M p0 p1 (bsD w0) (.int u) A x9 none none none none none)=.ok .fz (.str w3):=λA x9=>by rw[gZ];exact x3 _ _
 show evB (WT TT 30) (.ite (.cmp .Eq (.bin .Mod (.call "_law_cell_at" 2 [(.var 0),(.int 3)]) (.int 5)) (.int 1)) [.set 8 (.tup [(.str "table"),(.ix (.var 2) (.int 3))]),.set 9 (.int 0)] [] :: .ite (.cmp .Eq (.bin .Mod (.call "_law_cell_at" 2 [(.var 0),(.int 3)]) (.int 5)) (.int 2)) [.set 8 (.tup [(.str "join"),(.var 8),(.tup [(.str "table"),(.ix (.var 2) (.int 3))])])] [] :: .for (.items (.slice (.var 0) (some (.int 4)) (some (.int 16)))) (.nm 10) lO::gI.drop 10) (ρM S P ws M p0 p1 (bsD w0) (.int u) A0 (some (false,.int (due0:Int))) none none none none none)=_;obtain ⟨A1,due,hd,hA1,e1⟩:∃ (A1:D) (due:Nat),due<4/\Rf M (cN due) 3 A1/\∀ r,evB (WT TT 30) (.ite (.cmp .Eq (.bin .Mod (.call "_law_cell_at" 2 [(.var 0),(.int 3)]) (.int 5)) (.int 1)) [.set 8 (.tup [(.str "table"),(.ix (.var 2) (.int 3))]),.set 9 (.int 0)] []::r) (ρM S P ws M p0 p1 (bsD w0) (.int u) A0 (some (false,.int (due0:Int))) none none none none none)=evB (WT TT 30) r (ρM S P ws M p0 p1 (bsD w0) (.int u) A1 (some (false,.int (due:Int))) none none none none none):=by
  have ec:=gK (b:=.int 1) (v:=1) (cc A0 (some (false,.int (due0:Int)))) rfl;cases hb:(ce ns 3 % 5==1) with
  | false=>rw[hb] at ec;exact ⟨A0,due0,hd0,hA0,λr=>a9 ec⟩
  | true =>
   rw[hb] at ec;refine ⟨.tup [.str "table", .str w3],0,by decide,(Co.gone (C:=[]) w40 gno).mono (by decide),λr=>lV ec ?_⟩
   rw[bB (d:=.tup [.str "table", .str w3]) (ρ':=ρM S P ws M p0 p1 (bsD w0) (.int u) (.tup [.str "table", .str w3]) (some (false,.int (due0:Int))) none none none none none) (bH rfl (y3 _ _)) rfl,bB (d:=.int 0) (ρ':=ρM S P ws M p0 p1 (bsD w0) (.int u) (.tup [.str "table", .str w3]) (some (false,.int ((0:Nat):Int))) none none none none none) rfl rfl,eF]
 rw[e1];obtain ⟨A2,hA2,e2⟩:∃ A2:D,Rf M (cN due) 4 A2/\∀ r,evB (WT TT 30) (.ite (.cmp .Eq (.bin .Mod (.call "_law_cell_at" 2 [(.var 0),(.int 3)]) (.int 5)) (.int 2)) [.set 8 (.tup [(.str "join"),(.var 8),(.tup [(.str "table"),(.ix (.var 2) (.int 3))])])] []::r) (ρM S P ws M p0 p1 (bsD w0) (.int u) A1 (some (false,.int (due:Int))) none none none none none)=evB (WT TT 30) r (ρM S P ws M p0 p1 (bsD w0) (.int u) A2 (some (false,.int (due:Int))) none none none none none):=by
  have ec:=gK (b:=.int 2) (v:=2) (cc A1 (some (false,.int (due:Int)))) rfl;cases hb:(ce ns 3 % 5==2) with
  | false=>rw[hb] at ec;exact ⟨A1,Co.mono hA1 (by decide),λr=>a9 ec⟩
  | true =>
   rw[hb] at ec;refine ⟨.tup [.str "join", A1,.tup [.str "table", .str w3]],Rf.of (Co.join hA1 ((Co.gone (C:=[]) w40 gno).mono (by decide)) (by simp[aPH])) rfl,λr=>lV ec ?_⟩
   rw[bB (d:=.tup [.str "join", A1,.tup [.str "table", .str w3]]) (ρ':=ρM S P ws M p0 p1 (bsD w0) (.int u) (.tup [.str "join", A1,.tup [.str "table", .str w3]]) (some (false,.int (due:Int))) none none none none none) (bD rfl rfl (bH rfl (y3 _ _))) rfl,eF]
 rw[e2];subst hS;obtain ⟨A3,y10,hA3,e3⟩:=lloop 29 (ns:=ns) (r:=gI.drop 10) (P:=P) (ws:=ws) (v:=.int u) (x9:=some (false,.int (due:Int))) (x10:=none) (x11:=none) (x12:=none) (x13:=none) (x14:=none) th hP hB hA2 (by decide)
 exact e3.trans (lend (g:=p6) hd hA3 (by decide) hB th.la th.lb hq)
end K63
namespace K63
open PySem PySem.W Tp
theorem tw:Prod.fst (true,PySem.Challenge.pw_whencewise_k63_plans_refused)=true:=by k_qdec
def as:List Addr:=[2,3,15,22,23,24,25,28,35,36,37,40,47,48,49,52,59,60,61,64,71,72,73,76,83,84,85,88,95,96,97,100,107,108,109,112,119,120,121,124,131,132,133,136,143,144,145,148,150,151,153,154,155,158,159,160,162,163,165,166,167,169,170,172,173,174,176,177,179,180,181,183,184,186,187,188,190,191,193,194,195,197,198,200,201,202,204,205,207,208,209,211,212,214,215,216,218,219,221,222,223,225,226,228,229,230,232,233,235,236,237,240,241,242,244,245,247,248,249,251,252,254,255,256,257,260,261,262,264,265,267,268,269,271,272,274,275,276,278,279,281,282,283,285,286,288,289,290,292,293,295,296,297,299,300,302,303,304,306,307,309,310,311,314,315,316,318,319,321,322,323,325,326,328,329,330,333,334,335,337,338,340,341,342,344,345,347,348,349,351,352,354,355,356,358,359,361,362,363,365,366,368,369,370,373,374]
theorem pre(w:World)(os:OsState):topGo treeTable PySem.Challenge.pw_whencewise_k63_plans_refused w 11 an 12 ⟨boot_heap w.params,#[],boot_drawn,boot_toks,os⟩ (topStub PySem.Challenge.pw_whencewise_k63_plans_refused)=some ((sh w.params (sA w.params) 15 187 os).abs,⟨denote treeTable (cd PySem.Challenge.pw_whencewise_k63_plans_refused),cd PySem.Challenge.pw_whencewise_k63_plans_refused,z0,[topFrame z0]⟩):=by
 rw[Fast.te9170567408666364290,Fast.te203182992438928480,Fast.te13144403056285818395,Fast.te15667345088766844465,Fast.te14364793385576792824,Fast.te11892475500146522536]
 kernel_rfl
theorem blk(w:World)(s:Shared):segRun treeTable PySem.Challenge.pw_whencewise_k63_plans_refused w 11 an 1 1 s (blockOf PySem.Challenge.pw_whencewise_k63_plans_refused.main.body (ev PySem.Challenge.pw_whencewise_k63_plans_refused) (cd PySem.Challenge.pw_whencewise_k63_plans_refused) z0 [topFrame z0])=some (.next,s,cd PySem.Challenge.pw_whencewise_k63_plans_refused,z0):=by kernel_rfl
theorem run(w:World)(os:OsState):go treeTable PySem.Challenge.pw_whencewise_k63_plans_refused w 1000 PySem.Challenge.pw_whencewise_k63_plans_refused.main.body (sh w.params (sA w.params) 15 187 os) (cd PySem.Challenge.pw_whencewise_k63_plans_refused) z0=some (sh w.params (lay w.params PySem.Challenge.pw_whencewise_k63_plans_refused.main.body (sA w.params)) 375 697 os,cd PySem.Challenge.pw_whencewise_k63_plans_refused,⟨261,0,282,138⟩) :=
 byRow2 "special-get-raises" (P:=λw=>∀ os:OsState,go treeTable PySem.Challenge.pw_whencewise_k63_plans_refused w 1000 PySem.Challenge.pw_whencewise_k63_plans_refused.main.body (sh w.params (sA w.params) 15 187 os) (cd PySem.Challenge.pw_whencewise_k63_plans_refused) z0=some (sh w.params (lay w.params PySem.Challenge.pw_whencewise_k63_plans_refused.main.body (sA w.params)) 375 697 os,cd PySem.Challenge.pw_whencewise_k63_plans_refused,⟨261,0,282,138⟩))
  (λw os=>by
   rw[Fast.te9170567408666364290,Fast.te203182992438928480,Fast.te13144403056285818395,Fast.te5678740263434597267,Fast.te14364793385576792824,Fast.te10212481707522018265]
   kernel_rfl)
  (λw os=>by
   rw[Fast.te9170567408666364290,Fast.te203182992438928480,Fast.te13144403056285818395,Fast.te5678740263434597267,Fast.te14364793385576792824,Fast.te10212481707522018265]
   kernel_rfl) w os
def tabs:=@D3.aLV K63.GG (KK PySem.Challenge.pw_whencewise_k63_plans_refused.main.body as) "DEEDS" [("pick", "columns_of_pick"),("keep", "columns_of_keep"),("call", "columns_of_call"),("join", "columns_of_join"),("pour", "columns_of_pour"),("total", "columns_of_total"),("leave", "columns_of_leave")] (by decide +kernel) (λP=>by kernel_rfl) (λP=>by kernel_rfl) (by decide) (by decide)
theorem rZ(w:World):(λos=>((staticsOk (importedModules PySem.Challenge.pw_whencewise_k63_plans_refused.main.body) (boot_heap w.params) (H1 PySem.Challenge.pw_whencewise_k63_plans_refused.main.body 375 w.params)&&namesBound PySem.Challenge.pw_whencewise_k63_plans_refused (H1 PySem.Challenge.pw_whencewise_k63_plans_refused.main.body 375 w.params)&&gensDone (S1 PySem.Challenge.pw_whencewise_k63_plans_refused.main.body 375 697 w.params os)&&laidKept (boot_heap w.params) (H1 PySem.Challenge.pw_whencewise_k63_plans_refused.main.body 375 w.params)),openSeen (vw PySem.Challenge.pw_whencewise_k63_plans_refused) (los PySem.Challenge.pw_whencewise_k63_plans_refused.main.body) (importedModules PySem.Challenge.pw_whencewise_k63_plans_refused.main.body) (xt PySem.Challenge.rw_whencewise_k63_plans_refused.row) true (S1 PySem.Challenge.pw_whencewise_k63_plans_refused.main.body 375 697 w.params os),(hk PySem.Challenge.pw_whencewise_k63_plans_refused.main.body as).obs (S1 PySem.Challenge.pw_whencewise_k63_plans_refused.main.body 375 697 w.params os)))=λ_=>(true,openGood (vw PySem.Challenge.pw_whencewise_k63_plans_refused) (los PySem.Challenge.pw_whencewise_k63_plans_refused.main.body),(hk PySem.Challenge.pw_whencewise_k63_plans_refused.main.body as).val w):=by
 rw[Fast.te14387180822208032119,Fast.te9170567408666364290,Fast.te5923862056798008813,Fast.te9407923862454927560,Fast.te15884229538025494872,Fast.te4187177175401517315,Fast.te18076920544200396443,Fast.te9318435048543301240,Fast.te17808466708180730929,Fast.te2368527892694137696]
 kernel_rfl
theorem gf(P:Params):D3.rC (KK PySem.Challenge.pw_whencewise_k63_plans_refused.main.body as P) GG TT=true:=by
 kernel_rfl
abbrev dl:DefRec:=⟨"law", L2.mS rG,L2.iZ rG,L2.e6 rG,⟨261,0,282,138⟩⟩
end K63
open PySem PySem.W PyProof.Rows
set_option maxRecDepth 100000 in
set_option maxHeartbeats 0 in
theorem PySem.Challenge.cw_whencewise_k63_plans_refused_holds : PySem.Challenge.rw_whencewise_k63_plans_refused.Holds := by
 w_on;o_law
 exact Tp.head (p:=PySem.Challenge.rw_whencewise_k63_plans_refused) (d:=K63.dl) (Tp.left (by kernel_rfl) K63.pre K63.blk K63.run (by kernel_rfl) (by kernel_rfl) (λ_=>by kernel_rfl) K63.rZ) (by assumption) (by kernel_rfl) (by kernel_rfl) rfl rfl (by decide +kernel) ⟨rfl,rfl,rfl,rfl,rfl,by decide +kernel⟩ (by w_witness2)
  (D3.walkG (K:=Tp.KK PySem.Challenge.pw_whencewise_k63_plans_refused.main.body K63.as) (kk:=K63.kk) (e:=K63.rF) rfl rfl rfl (λw h Y=>PySem.W.kIn_of Y) K63.gf K63.tabs rfl rfl ⟨rfl,by decide,by decide⟩ K63.main)
