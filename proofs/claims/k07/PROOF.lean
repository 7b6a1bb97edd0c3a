import PyProof.Rows.All
import Wide.All
import OpenK.AllK
import Wide.FinOn
import Lean
import PyProof.EqAt
import PyProof.EqKinds
import PyProof.TupleCall
import PySem.Challenge.RW_whencewise_k07_least
set_option linter.all false
section
open PySem PySem.Spec PyProof.Rows
def aR6:=@decide_eq_false
def aR7:=@beq_eq_false_iff_ne
def aR8:=@PySem.Paired.length
def aR9:=@Option.some.inj
def aSA:=@PySem.Heap.get?_push_size
def aSB:=@PySem.Heap.lt_size
def aSC:=@Nat.lt_of_lt_of_le
def aSD:=@Nat.lt_irrefl
def aSE:=@Nat.ne_of_lt
def aSF:=@PySem.W.hideAll_get
def aSG:=@List.mem_filter
def aSH:=@List.mem_range
def aSI:=@Nat.le_trans
def aSJ:=@Nat.le_of_lt
def aSK:=@List.filterMap_cons
def aSL:=@List.mem_cons
def aSM:=@List.mem_append
def aSN:=@List.mem_append_left
def aSO:=@List.getElem?_eq_some_iff
def aSP:=@List.getElem_inj
def aSQ:=@List.getElem?_set_self
def aSR:=@List.getElem?_set_ne
def aSS:=@PySem.wpAny_mono
def aST:=@PySem.wpAny_truthy_bool
def aSU:=@Array.length_toList
def aSV:=@PySem.wpAny_assign_Name
def aSW:=@Nat.ne_of_gt
def aSX:=@PySem.wpAny_pure
def aSY:=@PySem.wpAny_bind
def aSZ:=@PySem.wpAny_load
def aS0:=@PySem.wpAny_pyIter_list
def aS1:=@Nat.le_refl
def aS2:=@PySem.wpAny_pyIter_tuple
def aS3:=@PyProof.Rows.callWith_type1
def aS4:=@List.mem_filterMap
def aS5:=@List.mem_append_right
def aS6:=@PySem.wpAny_passesOwn
def aS7:=@Bool.eq_iff_iff
def aS8:=@Bool.false_ne_true
def aS9:=@PySem.sizeLine_eq
def aTA:=@List.size_toArray
def aTB:=@Array.mem_toList_iff
def aTC:=@beq_iff_eq
def aTD:=@PySem.Heap.size_push
def aTE:=@Nat.lt_succ_self
def aTF:=@Nat.zero_le
def aTG:=@PySem.W.kia_one
def aTH:=@PySem.W.kitx_none
def aTI:=@PySem.W.kitx_bool
def aTJ:=@PySem.W.kitx_int
def aTK:=@PySem.W.kitx_str
def aTL:=@PySem.W.kitx_list
def aTM:=@PySem.W.kitx_tuple
def aTN:=@PySem.W.kitx_dict
def aTO:=@List.append_nil
def aTP:=@List.nodup_cons
def aTQ:=@List.of_mem_zip
def aTR:=@List.length_take
def aTS:=@PySem.mem_of_lookup
def aTT:=@List.getElem?_append_right
def aTU:=@List.getElem?_replicate
def aTV:=@List.getElem?_append_left
def aTW:=@List.getElem?_map
def aTX:=@List.mem_of_getElem?
def aTY:=@List.length_append
def aTZ:=@List.length_map
def aT0:=@PySem.wpAny_Call_Name_kw
def aT1:=@PySem.concat_meets
def aT2:=@PySem.noFill_tuple_add
def aT3:=@PySem.F.slot_tuple_add
def aT4:=@PySem.F.entry_tuple_add
def aT5:=@PySem.F.args_tuple_add_2
def aT6:=@Int.toNat_natCast
def aT7:=@if_false
def aT8:=@if_true
def aT9:=@PySem.wpAny_field
def aUA:=@List.length_drop
def aUB:=@PySem.wpAny_holding
def aUC:=@PySem.wpAny_callSpecial?_slot
def aUD:=@PyProof.Rows.slot_tuple_getitem
def aUE:=@PySem.wpAny_call_entry
def aUF:=@PySem.wpAny_typeOf
def aUG:=@Bool.and_eq_true
def aUH:=@PySem.wpAny_newObj_type
def aUI:=@Bool.or_false
def aUJ:=@Option.getD_none
def aUK:=@PySem.Heap.get?_update_other
def aUL:=@List.find?_cons
def aUM:=@List.any_cons
def aUN:=@decide_eq_true
def aUO:=@List.length_cons
def aUP:=@List.length_nil
def aUQ:=@List.map_cons
def aUR:=@List.map_nil
def aUS:=@PySem.codeAny_mono
def aUT:=@List.lookup_cons
def aUU:=@decide_eq_true_eq
def aUV:=@of_decide_eq_true
def aUW:=@Bool.or_eq_true
def aUX:=@Array.all_eq_true_iff_forall_mem
def aUY:=@PySem.wpAny_getItem_str_slice
def aUZ:=@PySem.post_val_or_str
def aU0:=@PySem.Txt.slice_le
def aU1:=@Array.mem_of_getElem?
def aU2:=@List.replicate_succ
def aU3:=@List.foldl_cons
def aU4:=@List.all_eq_true
def aU5:=@List.getElem_of_mem
def aU6:=@List.getD_eq_getElem?_getD
def aU7:=@List.getElem?_eq_getElem
def aU8:=@List.getElem_mem
def aU9:=@List.any_eq_true
def aVA:=@List.length_set
def aVB:=@List.getElem?_set
def aVC:=@Option.map_some
def aVD:=@List.drop_eq_getElem_cons
def aVE:=@List.drop_length
def aVF:=@List.forIn_nil
def aVG:=@List.forIn_cons
def aVH:=@LawfulMonad.pure_bind
def aVI:=@beq_self_eq_true
def aVJ:=@Bool.false_eq_true
def aVK:=@PySem.wpAny_standAt
def aVL:=@PySem.wpAny_comprehension_free
def aVM:=@Nat.lt_succ_of_lt
def aVN:=@Nat.not_lt
def aVO:=@Option.some.injEq
def aVP:=@PySem.Heap.SameBut.refl
def aVQ:=@PySem.StrLaws.join_length_le
def aVR:=@PySem.W.callWith_K
def aVS:=@Nat.le_succ
def aVT:=@List.all_cons
def aVU:=@PySem.wpAny_specialOf
def aVV:=@List.drop_zero
def aVW:=@List.take_of_length_le
def aVX:=@Nat.zero_add
def aVY:=@PySem.wpAny_rule
def aVZ:=@List.mem_singleton
def aV0:=@List.zip_cons_cons
def aV1:=@PySem.F.slot_tuple_iterator_next
def aV2:=@PySem.F.entry_tuple_iterator_next
def aV3:=@PySem.F.args_tuple_iterator_next_1
def aV4:=@PySem.wpAny_seqItems
def aV5:=@PySem.wpAny_setField
def aV6:=@PySem.Heap.get?_update_self
def aV7:=@PySem.Obj.isFreed_of_fields
def aV8:=@PySem.Obj.data_mapFields
def aV9:=@PySem.Heap.SameBut.update
def aWA:=@PySem.Obj.cls_mapFields
def aWB:=@PySem.wpAny_of_eq
def aWC:=@List.mem_nil_iff
def aWD:=@or_false
def aWE:=@List.getElem?_toArray
def aWF:=@PySem.wpAny_attempt
def aWG:=@PySem.wpAny_isInstance
def aWH:=@PySem.wpAny_pyIter_enum
def aWI:=@List.take_length
def aWJ:=@List.mem_of_mem_drop
def aWK:=@List.mem_of_mem_take
def aWL:=@List.nil_append
def aWM:=@List.map_map
def aWN:=@Function.comp_def
def aWO:=@PySem.fits_of_scanBound
def aWP:=@PySem.wpAny_storeSet_of
def aWQ:=@PySem.wpAny_setState_of
def aWR:=@List.findIdx?_eq_some_iff_getElem
def aWS:=@Array.toList_push
def aWT:=@List.nodup_append
def aWU:=@List.nodup_nil
def aWV:=@PySem.plainId_quiet
def aWW:=@PySem.codeAny_builtin
def aWX:=@PySem.Around.under_plainId
def aWY:=@PySem.wpAny_askSetting
def aWZ:=@Bool.not_true
def aW0:=@List.append_assoc
def aW1:=@PySem.isSubtype_type
def aW2:=@PySem.wpAny_pyIter_slot
def aW3:=@PySem.wpAny_fieldsOf
def aW4:=@PySem.wpAny_setEntries_of
def aW5:=@bne_self_eq_false
def aW6:=@Array.getElem?_eq_getElem
def aW7:=@Array.getElem?_eq_none
def aW8:=@List.length_range
def aW9:=@List.getElem?_eq_none
def aXA:=@PySem.F.slot_set_iter
def aXB:=@PySem.Heap.get?_push_of_some
def aXC:=@PySem.wpAny_setEpoch_of
def aXD:=@PyProof.Rows.size_push'
def aXE:=@List.ext_getElem
def aXF:=@Array.getD_eq_getD_getElem?
def aXG:=@List.not_mem_nil
def aXH:=@PySem.wpAny_ite_split
def aXI:=@Array.getElem?_toList
def aXJ:=@PySem.F.plain_extend_loop
def aXK:=@PySem.wpAny_updateSeq
def aXL:=@PySem.F.entry_proto_collect
def aXM:=@PySem.F.plain_proto_collect
def aXN:=@PySem.F.plain_list_iadd
def aXO:=@PySem.Calls.call_function_entry
def aXP:=@PySem.wpAny_newList
def aXQ:=@Bool.not_eq_true'
def aXR:=@List.pairwise_cons
def aXS:=@List.pairwise_singleton
def aXT:=@List.mem_erase_of_ne
def aXU:=@List.length_erase_of_mem
def aXV:=@List.length_pos_of_mem
def aXW:=@Nat.lt_of_le_of_lt
def aXX:=@List.pairwise_iff_getElem
def aXY:=@Array.perm_iff_toList_perm
def aXZ:=@Array.Perm.refl
def aX0:=@List.pairwise_map
def aX1:=@List.sum_cons
def aX2:=@List.filter_cons
def aX3:=@Nat.lt_or_ge
def aX4:=@List.take_append_drop
def aX5:=@List.pairwise_append
def aX6:=@List.mem_map
def aX7:=@bne_iff_ne
def aX8:=@List.contains_iff_mem
def aX9:=@PySem.F.plainAttrs_str
def aYA:=@Nat.add_le_add_left
def aYB:=@PySem.W.mg_of
def aYC:=@Nat.testBit_and
def aYD:=@Nat.eq_of_testBit_eq
def aYE:=@List.filter_eq_self
def aYF:=@Nat.mul_add
def aYG:=@Nat.zero_testBit
def aYH:=@List.idxOf_lt_length_iff
def aYI:=@List.getElem_idxOf
def aYJ:=@List.Pairwise.imp_of_mem
def aYK:=@Int.emod_nonneg
def aYL:=@Int.emod_lt_of_pos
def aYM:=@List.map_congr_left
def aYN:=@Classical.byContradiction
def aYO:=@List.map_append
def aYP:=@List.mem_flatMap
def aYQ:=@Int.eq_ofNat_of_zero_le
def aYR:=@PySem.Str.cps_append
def aYS:=@PySem.Str.length_append
def aYT:=@Int.toNat_of_nonneg
end
abbrev VSP := PySem.Value -> PySem.Shared -> Prop
abbrev Fg := PySem.W.Frag
abbrev LAO := List (PySem.Addr × PySem.Obj)
abbrev SOV := PySem.Str -> Option PySem.Value
theorem mcm {α : Type} {a b : α} {l : List α} (h : a ∈ l) : a ∈ b :: l := List.mem_cons_of_mem _ h
theorem mcs {α : Type} {a : α} {l : List α} : a ∈ a :: l := List.mem_cons_self
theorem hps {h : PySem.Heap} {o p : PySem.Obj} {b : PySem.Addr} (e : h.get? b = some o) : (h.push p).get? b = some o := PySem.Heap.get?_push_of_some _ e
set_option Elab.async false
set_option linter.all false
set_option maxRecDepth 100000
namespace L2
open PySem PySem.Spec PyProof.Rows
abbrev Key:=Sum Int Str
def jM:Key->Value->Bool
 | .inl k,v=>Value.isInt k v
 | .inr x,v=>Value.isStrOf x v
def keyH(w:World):Key->Int
 | .inl k=>hashInt k
 | .inr x=>hashStr w x
theorem gC:∀ {k:Key} {v:Value},jM k v=true->(∃ i t,k=Sum.inl i/\v=Value.int i t)\/(∃ x t,k=Sum.inr x/\v=Value.str x t)
 | .inl i,v,h=>by obtain ⟨t,e⟩:=Value.isInt_shape (k:=i) (v:=v) h;exact .inl ⟨i,t,rfl,e⟩
 | .inr x,v,h=>by obtain ⟨t,e⟩:=Value.isStrOf_shape (x:=x) (v:=v) h;exact .inr ⟨x,t,rfl,e⟩
theorem aC8(i:Int)(t:Tok):jM (.inl i) (.int i t)=true:=by simp[jM,Value.isInt]
theorem aC9(x:Str)(t:Tok):jM (.inr x) (.str x t)=true:=by simp[jM,Value.isStrOf]
theorem aDA(a b:Int):decide ((Sum.inl a:Key)=Sum.inl b)=(a==b):=by
 by_cases e:a=b
 . subst e;simp
 . have h:¬ (Sum.inl a:Key)=Sum.inl b:=λq=>e (Sum.inl.inj q);rw[aR6 h];exact (aR7.mpr e).symm
theorem aDB(a b:Str):decide ((Sum.inr a:Key)=Sum.inr b)=decide (a=b):=by
 by_cases e:a=b
 . subst e;simp
 . have h:¬ (Sum.inr a:Key)=Sum.inr b:=λq=>e (Sum.inr.inj q);rw[aR6 h,aR6 e]
theorem aDC(a:Int)(b:Str):decide ((Sum.inl a:Key)=Sum.inr b)=false:=aR6 (λq=>nomatch q)
theorem aDD(a:Str)(b:Int):decide ((Sum.inr a:Key)=Sum.inl b)=false:=aR6 (λq=>nomatch q)
def cO(prog:Program)(w:World):PySem.KeyKind prog w Key where
 is:=jM
 hash:=keyH w
 inj:=λv a b ha hb=>by
  rcases gC ha with ⟨i,t,rfl,rfl⟩ | ⟨x,t,rfl,rfl⟩
  . rcases gC hb with ⟨j,u,rfl,e⟩ | ⟨y,u,rfl,e⟩
    . injection e with e1 _;rw[e1]
    . exact nomatch e
  . rcases gC hb with ⟨j,u,rfl,e⟩ | ⟨y,u,rfl,e⟩
    . exact nomatch e
    . injection e with e1 _;rw[e1]
 byValue:=λk v h=>by rcases gC h with ⟨i,t,rfl,rfl⟩ | ⟨x,t,rfl,rfl⟩ <;> rfl
 pyHash:=λhv h=>by
  rcases gC hv with ⟨i,t,rfl,rfl⟩ | ⟨x,t,rfl,rfl⟩
  . exact wpAny_pyHash_int h
  . exact wpAny_pyHash_str h
 eqBool:=λhu hv h=>by
  rcases gC hu with ⟨i,t,rfl,rfl⟩ | ⟨x,t,rfl,rfl⟩
  . rcases gC hv with ⟨j,u,rfl,rfl⟩ | ⟨y,u,rfl,rfl⟩
    . rw[aDA] at h;exact wpAny_eqBool_int h
    . rw[aDC] at h;exact SeqAt.EqAt.int_str i t y u _ _ _ _ h
  . rcases gC hv with ⟨j,u,rfl,rfl⟩ | ⟨y,u,rfl,rfl⟩
    . rw[aDD] at h;exact SeqAt.EqAt.str_int x t j u _ _ _ _ h
    . rw[aDB] at h;exact wpAny_eqBool_str h
 «strs»:=λk x t v h=>by
  rcases gC h with ⟨i,u,rfl,e⟩ | ⟨y,u,rfl,e⟩
  . exact nomatch e
  . injection e with e1 _
    subst e1;cases v <;> rfl
theorem aDE(prog:Program)(w:World)(i:Int)(t:Tok):(cO prog w).is (.inl i) (.int i t)=true:=aC8 i t
theorem aDF(prog:Program)(w:World)(x:Str)(t:Tok):(cO prog w).is (.inr x) (.str x t)=true:=aC9 x t
inductive V where
 | non | bl (b:Bool) | int (i:Int) | str (x:Str) | byt (b:Array UInt8) | flt (b:UInt64) | ref (a:Addr) | ty (n:String)
 deriving DecidableEq
def aS:V->Value->Prop
 | .non,u=>u=Value.none
 | .bl b,u=>u=Value.bool b
 | .int i,u=>∃ t,u=Value.int i t
 | .str x,u=>∃ t,u=Value.str x t
 | .byt b,u=>∃ t,u=Value.bytes b t
 | .flt b,u=>∃ t,u=Value.float b t
 | .ref a,u=>u=Value.ref a
 | .ty n,u=>u=Value.type n
abbrev aM:List V->List Value->Prop:=Paired aS
theorem aM.length{xs:List V}{us:List Value}(r:aM xs us):xs.length=us.length:=aR8 r
theorem aM.get:∀ {xs:List V} {us:List Value} {i:Nat} {x:V},aM xs us->xs[i]? = some x->∃ u,us[i]? = some u/\aS x u
 | _,_,_,_,.nil,e=>by simp at e
 | _,_,0,_,.cons r _,e=>by simp at e;subst e;exact ⟨_,rfl,r⟩
 | _,_,i+1,x,.cons _ t,e=>by
  obtain ⟨u,h1,h2⟩:=aM.get (i:=i) (x:=x) t (by simpa using e)
  exact ⟨u,by simpa using h1,h2⟩
theorem aM.append:∀ {xs ys:List V} {us ws:List Value},aM xs us->aM ys ws->aM (xs++ys) (us++ws)
 | _,_,_,_,.nil,s=>s
 | _,_,_,_,.cons r t,s=>.cons r (aM.append t s)
theorem aM.take:∀ {xs:List V} {us:List Value} (n:Nat),aM xs us->aM (xs.take n) (us.take n)
 | _,_,0,_=>.nil
 | _,_,_+1,.nil=>.nil
 | _,_,n+1,.cons r t=>.cons r (aM.take n t)
theorem aM.drop:∀ {xs:List V} {us:List Value} (n:Nat),aM xs us->aM (xs.drop n) (us.drop n)
 | _,_,0,r=>r
 | _,_,_+1,.nil=>.nil
 | _,_,n+1,.cons _ t=>aM.drop n t
def dW:Option V->Option Value->Prop
 | some v,some u=>aS v u
 | none,none=>True
 | _,_=>False
def KV{κ:Type}:List (κ×V)->List (κ×Value)->Prop:=Paired λ(p:κ×V) (q:κ×Value)=>p.1=q.1/\aS p.2 q.2
def kV:Key->V
 | .inl i=>.int i
 | .inr x=>.str x
inductive HO where
 /-- a list -/
 | lst (xs:List V)
 /-- a tuple (never changes) -/
 | tup (xs:List V)
 /-- a dict whose keys are ints and texts;one whose keys are tuples of ints and texts (the empty one is both) -/
 | dK (kvs:List (Key×V)) | dT (kvs:List (List Key×V))
 /-- a set of ints: its members,its size -/
 | set (S:Key->Bool) (n:Nat)
 /-- an instance of the class at C,its dict at dx,its attributes -/
 | ins (C dx:Addr) (fs:List (Str×V))
 /-- the dict of the instance at x -/
 | own (x:Addr)
 /-- the dict of an exception -/
 | xd (fs:List (Str×V))
 /-- a bound method,f of x -/
 | met (f x:Addr)
 /-- a range object lo,lo+1,.. below hi -/
 | rng (lo hi:Int)
 /-- a thing that is known to the object (the script;a dict while a loop walks it): read,never written while it is so -/
 | frz (o:Obj) (u:HO)
 /-- a code object's table -/
 | tbl (ps:Array Value)
 /-- any other thing,by what is true of its one object (a def of one's own: SetO a S n:=HO.ext λh=>..) -/
 | ext (φ:Heap->Prop)
abbrev Hp:=Addr->Option HO
def upd(H:Hp)(a:Addr)(o:HO):Hp:=λb=>if b=a then some o else H b
theorem a7{H:Hp}{a:Addr}{o:HO}:upd H a o a=some o:=by unfold upd;rw[if_pos rfl]
theorem aN{H:Hp}{a b:Addr}{o:HO}(h:b≠a):upd H a o b=H b:=by unfold upd;rw[if_neg h]
theorem ne_of{H:Hp}{a b:Addr}{o u:HO}(h:H a=some o)(h':H b=some u)(d:o≠u):a≠b:=by intro e;subst e;rw[h] at h';exact d (aR9 h')
theorem c9{H:Hp}{a b:Addr}{o:HO}(h:H a=some o)(h':H b=none):a≠b:=by intro e;subst e;rw[h] at h';cases h'
def fH(h:Heap)(a:Addr)(items:Array Value):Prop:=∃ o,h.get? a=some o/\o.cls=.type "tuple" /\ o.dict=none/\∃ n,o.data=.seq items n
theorem fH.isTup{h:Heap}{a:Addr}{items:Array Value}(x:fH h a items):IsTup h a items:=by obtain ⟨o,e,c,_,n,d⟩:=x;exact ⟨o,e,c,n,d⟩
theorem fH.new(h:Heap)(items:Array Value):fH (h.push { cls:=.type "tuple", data:=.seq items }) h.objs.size items:=⟨_,aSA _ rfl,rfl,rfl,_,rfl⟩
section
variable (P:Program)(w:World)
def bD(H:Hp)(h:Heap)(a:Addr):HO->Prop
 | .lst xs=>xs.length<=sizeLine/\∃ (its:List Value) (n:Nat),aM xs its/\h.get? a=some { cls:=.type "list", data:=.seq its.toArray n }
 | .tup xs=>xs.length<=sizeLine/\∃ its:List Value,aM xs its/\fH h a its.toArray
 | .dK kvs=>kvs.length<=sizeLine/\(a==sysModules)=false/\∃ vs,KV kvs vs/\h.DictOf (cO P w) a vs
 | .dT kvs => kvs.length ≤ sizeLine ∧ (a == sysModules) = false ∧ ∃ xs : List (List Key × Addr × Value),
     Paired (λ(p:List Key×V) (q:List Key×Addr×Value)=>p.1=q.1/\H q.2.1=some (.tup (p.1.map kV))/\aS p.2 q.2.2) kvs xs /\
     ∃ o es ep,h.get? a=some o/\o.ExactDict/\o.data=.dict es ep/\es.toList=xs.map (entryOfKey (tupleKind (cO P w)))/\(xs.map (·.1)).Nodup
 | .set S n=>h.SetOf (cO P w) a S n
 | .ins C dx fs => H dx = some (.own a) ∧ fs.length ≤ 1000 ∧ dx ≠ a ∧ h.get? a = some (PySem.W.instObj C dx) ∧
     ∃ mA,h.Ns1 dx mA/\(∀ f,dW (fs.lookup f) (mA f))/\PySem.Within mA (fs.map (·.1))
 | .own _=>∃ o,h.get? a=some o
 | .xd fs=>∃ mA,h.Ns1 a mA/\∀ f,dW (fs.lookup f) (mA f)
 | .rng lo hi=>∃ t u v,h.get? a=some { cls:=.type "range", data:=.fields #[.int lo t,.int hi u,.int 1 v] }
 | .frz o u=>h.get? a=some o/\bD H h a u
 | .tbl ps=>h.get? a=some { cls:=.none,data:=.fields ps }
 | .met f x=>h.get? a=some (PySem.W.methodObj (.ref f) (.ref x))
 | .ext φ=>φ h/\(∃ o,h.get? a=some o)/\∀ h1 h2:Heap,φ h1->(∀ o,h1.get? a=some o->h2.get? a=some o)->φ h2
def HOk(H:Hp)(h:Heap):Prop:=∀ a o,H a=some o->bD P w H h a o
end
section
variable {P:Program}{w:World}{H H':Hp}{h h':Heap}{a:Addr}{o:HO}
theorem bD.lt(x:bD P w H h a o):a<h.objs.size:=by
 cases o with
 | lst xs=>obtain ⟨_,_,_,_,e⟩:=x;exact aSB e
 | tup xs=>obtain ⟨_,_,_,p⟩:=x;exact p.isTup.lt
 | dK kvs=>obtain ⟨_,_,_,_,o,_,_,e,_⟩:=x;exact aSB e
 | dT kvs=>obtain ⟨_,_,_,_,o,_,_,e,_⟩:=x;exact aSB e
 | set S n=>obtain ⟨o,_,_,_,e,_⟩:=x;exact aSB e
 | ins C dx fs=>obtain ⟨_,_,_,e,_⟩:=x;exact aSB e
 | own y=>obtain ⟨_,e⟩:=x;exact aSB e
 | xd fs=>obtain ⟨_,⟨_,_,_,e,_⟩,_⟩:=x;exact aSB e
 | rng lo hi=>obtain ⟨_,_,_,e⟩:=x;exact aSB e
 | frz ob u=>obtain ⟨e,_⟩:=x;exact aSB e
 | tbl ps=>exact aSB (show h.get? a=some _ from x)
 | met f y=>exact aSB (show h.get? a=some _ from x)
 | ext φ=>obtain ⟨_,⟨_,e⟩,_⟩:=x;exact aSB e
theorem Paired.mapP{α β:Type}{F G:α->β->Prop}:∀ {l₁:List α} {l₂:List β},Paired F l₁ l₂->(∀ a b,F a b->G a b)->Paired G l₁ l₂
 | _,_,.nil,_=>.nil
 | _,_,.cons r t,f=>.cons (f _ _ r) (Paired.mapP t f)
theorem bD.stay(x:bD P w H h a o)(k:∀ b u,(b=a\/H b=some (.own a))->h.get? b=some u->h'.get? b=some u)(ho:∀ b,H b=some (.own a)->H' b=some (.own a))(ht:∀ b xs,H b=some (.tup xs)->H' b=some (.tup xs)):bD P w H' h' a o:=by
 induction o with
 | lst xs=>obtain ⟨z,its,n,r,e⟩:=x;exact ⟨z,its,n,r,k _ _ (.inl rfl) e⟩
 | tup xs=>obtain ⟨z,its,r,ob,e,c⟩:=x;exact ⟨z,its,r,ob,k _ _ (.inl rfl) e,c⟩
 | dK kvs=>obtain ⟨z,y,vs,r,ob,es,ep,e,c⟩:=x;exact ⟨z,y,vs,r,ob,es,ep,k _ _ (.inl rfl) e,c⟩
 | dT kvs=>obtain ⟨z,y,xs,r,ob,es,ep,e,c⟩:=x;exact ⟨z,y,xs,Paired.mapP r λp q z=>⟨z.1,ht _ _ z.2.1,z.2.2⟩,ob,es,ep,k _ _ (.inl rfl) e,c⟩
 | set S n=>obtain ⟨ob,es,ep,t,e,c⟩:=x;exact ⟨ob,es,ep,t,k _ _ (.inl rfl) e,c⟩
 | ins C dx fs=>obtain ⟨d,z,ne,e,mA,⟨od,es,ep,e2,c⟩,r⟩:=x;exact ⟨ho _ d,z,ne,k _ _ (.inl rfl) e,mA,⟨od,es,ep,k _ _ (.inr d) e2,c⟩,r⟩
 | own y=>obtain ⟨ob,e⟩:=x;exact ⟨ob,k _ _ (.inl rfl) e⟩
 | xd fs=>obtain ⟨mA,⟨od,es,ep,e,c⟩,r⟩:=x;exact ⟨mA,⟨od,es,ep,k _ _ (.inl rfl) e,c⟩,r⟩
 | rng lo hi=>obtain ⟨t,u,v,e⟩:=x;exact ⟨t,u,v,k _ _ (.inl rfl) e⟩
 | frz ob u ih=>obtain ⟨e,q⟩:=x;exact ⟨k _ _ (.inl rfl) e,ih q⟩
 | tbl ps=>have e:h.get? a=some { cls:=.none,data:=.fields ps }:=x;show h'.get? a=some { cls:=.none,data:=.fields ps };exact k a _ (.inl rfl) e
 | met f y=>have e:h.get? a=some (PySem.W.methodObj (.ref f) (.ref y)):=x;show h'.get? a=some (PySem.W.methodObj (.ref f) (.ref y));exact k a _ (.inl rfl) e
 | ext φ=>obtain ⟨p,⟨o,e⟩,st⟩:=x;exact ⟨st _ _ p λo q=>k _ _ (.inl rfl) q,⟨o,k _ _ (.inl rfl) e⟩,st⟩
theorem HOk.lt(x:HOk P w H h)(e:H a=some o):a<h.objs.size:=(x a o e).lt
theorem HOk.fresh(x:HOk P w H h)(e:h.objs.size<=a):H a=none:=by
 cases q:H a with
 | none=>rfl
 | some u=>exact absurd (aSC (x.lt q) e) (aSD _)
theorem HOk.kept(x:HOk P w H h)(k:∀ b u,h.get? b=some u->h'.get? b=some u):HOk P w H h':=λa o e =>
 (x a o e).stay (λb u _ q=>k b u q) (λ_ q=>q) λ_ _ q=>q
theorem HOk.laid(x:HOk P w H h)(k:∀ b u,h.get? b=some u->h'.get? b=some u)(hp:h.objs.size<=a)(new:bD P w (upd H a o) h' a o):HOk P w (upd H a o) h':=λb u e=>by
 have hn:=x.fresh hp;by_cases hb:b=a
 . subst hb;rw[a7] at e;cases e;exact new
 . rw[aN hb] at e;exact (x b u e).stay (λc v _ q=>k c v q) (λc q=>by rw[aN (c9 q hn)];exact q) λc xs q=>by rw[aN (c9 q hn)];exact q
end
def Rd(H:Hp)(a:Addr)(u:HO):Prop:=H a=some u\/∃ o,H a=some (.frz o u)
theorem Rd.ok{P:Program}{w:World}{H:Hp}{h:Heap}{a:Addr}{u:HO}(r:Rd H a u)(x:HOk P w H h):bD P w H h a u:=by
 rcases r with r | ⟨o,r⟩
 . exact x a u r
 . obtain ⟨_,q⟩:=x a _ r;exact q
def Mut:Option HO->Prop
 | some (.lst _)=>True
 | some (.dK _)=>True
 | some (.dT _)=>True
 | some (.set _ _)=>True
 | some (.ins _ _ _)=>True
 | some (.ext _)=>True
 | _=>False
section
variable {P:Program}{w:World}{H:Hp}{h h':Heap}{x e:Addr}{o':HO}
theorem HOk.write(ok:HOk P w H h)(mu:Mut (H x))(he:e=x\/H e=some (.own x))(k:∀ b u,b≠e->h.get? b=some u->h'.get? b=some u)(heo:∃ u,h'.get? e=some u)(new:bD P w (upd H x o') h' x o'):HOk P w (upd H x o') h':=λb u q=>by
 have nown:∀ c y,H c=some (.own y)->c≠x:=λc y r z=>by subst z;rw[r] at mu;exact mu
 have ntup:∀ c xs,H c=some (.tup xs)->c≠x:=λc xs r z=>by subst z;rw[r] at mu;exact mu
 by_cases hb:b=x
 . subst hb;rw[a7] at q;cases q;exact new
 . rw[aN hb] at q;by_cases hbe:b=e
   . have q':H b=some (.own x):=by
       rcases he with z | z
       . exact absurd (hbe.trans z) hb
       . rw[hbe];exact z
     rw[q] at q';cases q';obtain ⟨v,hv⟩:=heo;exact ⟨v,by rw[hbe];exact hv⟩
   . refine (ok b u q).stay (λc v hc r=>k c v ?_ r) (λc r=>by rw[aN (nown c b r)];exact r) λc xs r=>by rw[aN (ntup c xs r)];exact r
     rcases hc with rfl | hc
     . exact hbe
     . rintro rfl;rcases he with z | z
       . exact nown c b hc z
       . rw[hc] at z;cases z;exact hb rfl
end
structure Un(fs ex:List Addr)(H H':Hp)(h h':Heap):Prop where
 keep:∀ b o,h.get? b=some o->H b=none->b∉fs->b∉ex->h'.get? b=some o
 slot:∀ b o,h.get? b=some o->H b=none->b∈fs->b∉ex->∃ sl,h'.get? b=some { o with slots:=sl }
 free:∀ b o,h.get? b=some o->H b=none->b∉ex->H' b=none
 there:∀ b o,h.get? b=some o->b∉ex->∃ o',h'.get? b=some o'
 tups:∀ b xs,H b=some (.tup xs)->H' b=some (.tup xs)
 frzs:∀ b o u,H b=some (.frz o u)->H' b=some (.frz o u)
 tbls:∀ b ps,H b=some (.tbl ps)->∃ more,H' b=some (.tbl (ps++more))
section
variable {fs fs' ex ex':List Addr}{H H1 H2:Hp}{h h1 h2 h':Heap}{a x e:Addr}{o:HO}
theorem Un.any(u:Un fs ex H H1 h h1){b:Addr}{ob:Obj}(q:h.get? b=some ob)(n:H b=none)(hx:b∉ex):∃ sl,h1.get? b=some { ob with slots:=sl }:=by
 by_cases hb:b∈fs
 . exact u.slot b ob q n hb hx
 . exact ⟨ob.slots,u.keep b ob q n hb hx⟩
theorem Un.kept(k:∀ b u,h.get? b=some u->h'.get? b=some u):Un fs ex H H h h' :=
 ⟨λb ob q _ _ _=>k b ob q,λb ob q _ _ _=>⟨ob.slots,k b ob q⟩,λ_ _ _ n _=>n,λb ob q _=>⟨ob,k b ob q⟩,λ_ _ q=>q,λ_ _ _ q=>q,λ_ ps q=>⟨#[],by rw[q];simp⟩⟩
theorem Un.refl:Un fs ex H H h h:=Un.kept λ_ _ q=>q
theorem Un.laid(k:∀ b u,h.get? b=some u->h'.get? b=some u)(hp:h.objs.size<=a)(hn:H a=none):Un fs ex H (upd H a o) h h' where
 keep:=λb u q _ _ _=>k b u q
 slot:=λb u q _ _ _=>⟨u.slots,k b u q⟩
 free:=λb u q n _=>by rw[aN (aSE (aSC (aSB q) hp))];exact n
 there:=λb u q _=>⟨u,k b u q⟩
 tups:=λb xs q=>by rw[aN (c9 q hn)];exact q
 frzs:=λb u xs q=>by rw[aN (c9 q hn)];exact q
 tbls:=λb ps q=>⟨#[],by rw[aN (c9 q hn),q];simp⟩
theorem Un.write(mu:Mut (H x))(he:e=x\/H e=some (.own x))(k:∀ b u,b≠e->h.get? b=some u->h'.get? b=some u)(heo:∃ u,h'.get? e=some u):Un fs ex H (upd H x o) h h':=by
 have hx:∀ b,H b=none->b≠x:=λb n z=>by subst z;rw[n] at mu;exact mu
 have hb:∀ b,H b=none->b≠e:=λb n z=>by
  subst z;rcases he with r | r
  . exact hx b n r
  . rw[n] at r;cases r
 have hm:∀ b u,H b=some u -> ¬ Mut (some u)->b≠x:=λb u q nm z=>by subst z;rw[q] at mu;exact nm mu
 refine ⟨λb u q n _ _=>k b u (hb b n) q,λb u q n _ _=>⟨u.slots,k b u (hb b n) q⟩,λb u q n _=>by rw[aN (hx b n)];exact n,λb u q _=>?_,
  λb xs q=>by rw[aN (hm b _ q λz=>z)];exact q,λb u xs q=>by rw[aN (hm b _ q λz=>z)];exact q,λb ps q=>⟨#[],by rw[aN (hm b _ q λz=>z),q];simp⟩⟩
 by_cases hbe:b=e
 . subst hbe;exact heo
 . exact ⟨u,k b u hbe q⟩
end
def trk(h:Heap)(H:Hp):List Addr:=(List.range h.objs.size).filter λa=>(H a).isSome
def gD(h:Heap)(H:Hp):Heap:=PySem.W.hideAll h (trk h H)
theorem aDG(h:Heap)(H:Hp):(gD h H).objs.size=h.objs.size:=PySem.W.hideAll_size _ _
theorem aDH{h:Heap}{H:Hp}{b:Addr}{o:Obj}(e:h.get? b=some o)(n:H b=none):(gD h H).get? b=some o :=
 aSF _ e λhm=>by have q:(H b).isSome=true:=(aSG.mp hm).2;rw[n] at q;simp at q
theorem aDI{h:Heap}{H:Hp}{b:Addr}{o:Obj}(e:(gD h H).get? b=some o):h.get? b=some o/\H b=none:=by
 have e':h.get? b=some o:=PySem.W.of_hideAll (trk h H) e;refine ⟨e',?_⟩;cases q:H b with
 | none=>rfl
 | some x =>
  have hm:b∈trk h H:=aSG.mpr ⟨aSH.mpr (aSB e'),by simp[q]⟩
  have z:(gD h H).get? b=none:=PySem.W.hideAll_none (trk h H) hm;rw[z] at e;cases e
def aDJ(g h:Heap)(L:Addr):LAO:=(List.range h.objs.size).filterMap λa=>if a=L\/(g.get? a).isSome=true then none else (h.get? a).map λo=>(a,o)
def aU(g h:Heap)(L d:Addr):LAO:=(aDJ g h L).filter λp=>decide (p.1≠d)
structure Mod(K:Fg)(mg:SOV)(base:Heap):Prop where
 kin:K.In base
 glob:base.Ns mainGlobals mg
 blt:∃ mb,base.Ns builtinsNs mb/\∀ x:Str,x ≠ "__name__" -> mb x=bootBuiltins x
 nolimit:base.NoLimit
structure Cx where
 prog:Program
 w:World
 K:Fg
 mg:SOV
 base:Heap
 A:Around
 N:List Str
 s₀:Shared
 H₀:Hp
 env:Env
 outer:List Env
 stack:List Env
 ex:List Addr
 fn:Str->Bool
 calm:Bool
 pn:LAO
 xe:VSP
def frs(l:List Env):List Addr:=l.filterMap (·.frame)
abbrev Cx.fs(X:Cx):List Addr:=frs X.outer
def Vis(sc:Scope)(x:Str):Prop:=sc.names.lookup x=some .local\/sc.names.lookup x=some .cell\/sc.names.lookup x=some .free
def Loc(sc:Scope)(x:Str):Prop:=sc.names.lookup x=some .local\/sc.names.lookup x=some .cell
def Look(env:Env)(h:Heap)(m:SOV)(x:Str)(u:Value):Prop :=
 (env.kindOf x=some .local/\m x=some u)\/((env.kindOf x=some .cell\/env.kindOf x=some .free)/\∃ c,env.cells.lookup x=some c/\h.IsCell c (some u))
structure Cx.Ok(X:Cx):Prop where
 mod:Mod X.K X.mg X.base
 kind:X.env.scope.kind=.function
 glob:X.env.globals=mainGlobals
 blt:X.env.builtins=builtinsNs
 above:X.s₀.heap.objs.size<=X.env.locals
 inj:∀ x y c,X.env.cells.lookup x=some c->X.env.cells.lookup y=some c->x=y
 has:∀ x,(X.env.kindOf x=some .cell\/X.env.kindOf x=some .free)->∃ c,X.env.cells.lookup x=some c
 cab:∀ x c,X.fn x=true->X.env.cells.lookup x=some c->X.s₀.heap.objs.size<=c
 hd:X.calm=true->X.A.handled=none
 frames:X.A.frames=some X.stack
 stk:X.stack=X.outer\/(X.stack=X.env::X.outer/\X.env.frame=some X.env.locals)
 exf:∀ b∈X.ex,b≠X.env.locals/\∀ x c,X.env.cells.lookup x=some c->c≠b
 bs:∀ b o,X.base.get? b=some o->X.s₀.heap.get? b=some o/\X.H₀ b=none
 bsz:X.base.objs.size<=X.s₀.heap.objs.size
 noex:∀ b o,X.base.get? b=some o->b∉X.ex
 exfs:∀ b∈X.ex,b∉X.fs
 funs:X.s₀.heap.FunFrames X.base X.outer
 frf:∀ b∈X.fs,X.H₀ b=none
structure Inv(X:Cx)(aA:LAO)(σ:List (Option V))(H:Hp)(s:Shared):Prop where
 ok:X.Ok
 os:s.os=X.s₀.os
 bare:AllBare s.gens
 base:Un X.fs X.ex X.H₀ H X.s₀.heap s.heap
 loc:∃ m,s.heap.Ns X.env.locals m/\∀ (i:Nat) (x:Str) (v:V),X.N[i]? = some x->σ[i]? = some (some v)->Vis X.env.scope x->∃ u,aS v u/\Look X.env s.heap m x u
 cell:∀ x c,X.env.cells.lookup x=some c->∃ v,s.heap.IsCell c v
 free:H X.env.locals=none
 freeC:∀ x c,X.env.cells.lookup x=some c->H c=none
 pin:∀ p∈X.pn++aA,s.heap.get? p.1=some p.2/\H p.1=none/\p.1≠X.env.locals/\p.1∉X.fs/\∀ v,p.2.data ≠ .cell v
 hok:HOk X.prog X.w H s.heap
 len:σ.length=X.N.length
section
variable {X:Cx}{aA:LAO}{σ:List (Option V)}{H H':Hp}{s:Shared}{h':Heap}
theorem Cx.Ok.nofr(ok:X.Ok){b:Addr}{o:Obj}(e:X.base.get? b=some o):b∉X.fs:=λhb=>by have:=(ok.funs.mem hb).1;rw[e] at this;cases this
theorem Inv.bs(I:Inv X aA σ H s):∀ b o,X.base.get? b=some o->s.heap.get? b=some o/\H b=none:=λb o e =>
 ⟨I.base.keep b o (I.ok.bs b o e).1 (I.ok.bs b o e).2 (I.ok.nofr e) (I.ok.noex b o e),I.base.free b o (I.ok.bs b o e).1 (I.ok.bs b o e).2 (I.ok.noex b o e)⟩
theorem Inv.bk(I:Inv X aA σ H s):∀ b o,X.base.get? b=some o->s.heap.get? b=some o:=λb o e=>(I.bs b o e).1
theorem Inv.mod(I:Inv X aA σ H s):Mod X.K X.mg X.base:=I.ok.mod
theorem Inv.kIn(I:Inv X aA σ H s):X.K.In s.heap:=I.ok.mod.kin.keeps I.bk
theorem Inv.lt(I:Inv X aA σ H s):X.env.locals<s.heap.objs.size:=let ⟨_,hn,_⟩:=I.loc;hn.lt
theorem Inv.sz(I:Inv X aA σ H s):X.s₀.heap.objs.size<=s.heap.objs.size:=aSI I.ok.above (aSJ I.lt)
theorem Inv.nofs(I:Inv X aA σ H s){a:Addr}(h:s.heap.objs.size<=a):a∉X.fs:=λhb=>by obtain ⟨_,o,ho,_⟩:=I.ok.funs.mem hb;exact absurd (aSC (aSB ho) (aSI I.sz h)) (aSD _)
theorem Inv.cne(I:Inv X aA σ H s):∀ x c,X.env.cells.lookup x=some c->c≠X.env.locals:=λx c e z=>by obtain ⟨v,o,ho,hd⟩:=I.cell x c e;obtain ⟨m,⟨o',es,ep,ho',hd',_⟩,_⟩:=I.loc;rw[z,ho'] at ho;cases ho;rw[hd'] at hd;cases hd
theorem Inv.funs(I:Inv X aA σ H s):s.heap.FunFrames X.base X.outer:=by
 have all:∀ (l:List Env),(∀ b∈frs l,b∈X.fs)->X.s₀.heap.FunFrames X.base l->s.heap.FunFrames X.base l:=by
  intro l
  induction l with
  | nil=>intro _ _;trivial
  | cons env r ih =>
   intro hs hl;obtain ⟨hk,⟨L,o,hf,hn,ho,hd⟩,hr⟩:=hl;have hL:L∈X.fs:=hs L (by unfold frs;rw[aSK,hf];exact mcs)
   obtain ⟨sl,e⟩:=I.base.slot L o ho (I.ok.frf L hL) hL λz=>I.ok.exfs L z hL;exact ⟨hk,⟨L,_,hf,hn,e,hd⟩,ih (λb hb=>hs b (by unfold frs;rw[aSK,hf];exact mcm hb)) hr⟩
 exact all X.outer (λ_ hb=>hb) I.ok.funs
theorem Inv.stack(I:Inv X aA σ H s):s.heap.FunFrames X.base X.stack:=by
 rcases I.ok.stk with e | ⟨e,hf⟩
 . rw[e];exact I.funs
 . rw[e];obtain ⟨m,hn,_⟩:=I.loc;refine .cons (by rw[I.ok.kind];decide) hf hn ?_ I.funs
   exact Heap.get?_none_of_le (aSI I.ok.bsz I.ok.above)
theorem Inv.stkSub(I:Inv X aA σ H s):∀ b∈frs X.stack,b∈X.env.locals::X.fs:=λb hb=>by
 rcases I.ok.stk with e | ⟨e,hf⟩
 . rw[e] at hb;exact mcm hb
 . rw[e] at hb;unfold frs at hb;rw[aSK,hf] at hb;exact hb
theorem Inv.stkFree(I:Inv X aA σ H s):∀ b∈frs X.stack,H b=none:=λb hb=>by
 rcases aSL.mp (I.stkSub b hb) with e | hb
 . rw[e];exact I.free
 . obtain ⟨_,o,ho,_⟩:=I.ok.funs.mem hb;exact I.base.free b o ho (I.ok.frf b hb) λz=>I.ok.exfs b z hb
theorem Inv.step{g':Array GenState}{t':Nat}{d':Drawn}{ch:List Addr}(I:Inv X aA σ H s)(hch:∀ b∈ch,(b∈X.ex\/X.s₀.heap.objs.size<=b)/\b≠X.env.locals/\(∀ x c,X.env.cells.lookup x=some c->c≠b)/\∀ p∈X.pn++aA,p.1≠b)(keep:∀ b o,b≠X.env.locals->b∉X.fs->b∉ch->s.heap.get? b=some o->H b=none->h'.get? b=some o)(slot:∀ b o,b≠X.env.locals->b∈X.fs->b∉ch->s.heap.get? b=some o->H b=none->∃ sl,h'.get? b=some { o with slots:=sl })(free:∀ b o,b∉ch->s.heap.get? b=some o->H b=none->H' b=none)(there:∀ b o,b∉ch->s.heap.get? b=some o->∃ o',h'.get? b=some o')(tups:∀ b xs,H b=some (.tup xs)->H' b=some (.tup xs))(frzs:∀ b o u,H b=some (.frz o u)->H' b=some (.frz o u))(tbls:∀ b ps,H b=some (.tbl ps)->∃ more,H' b=some (.tbl (ps++more)))(ns:∀ m,s.heap.Ns X.env.locals m->h'.Ns X.env.locals m)(hok:HOk X.prog X.w H' h')(hg:AllBare g'):Inv X aA σ H' { s with heap:=h',gens:=g',drawn:=d',toks:=t' }:=by
 have neL:∀ b o,X.s₀.heap.get? b=some o->b≠X.env.locals:=λb o e=>aSE (aSC (aSB e) I.ok.above);have neC:∀ b o,X.s₀.heap.get? b=some o->b∉X.ex->b∉ch:=λb o e hx hb=>by
  rcases (hch b hb).1 with z | z
  . exact hx z
  . exact absurd (aSC (aSB e) z) (aSD _)
 have cellK:∀ x c,X.env.cells.lookup x=some c->∀ v,s.heap.IsCell c v->h'.IsCell c v:=λx c e v ⟨o,ho,hd⟩=>by
  have nch:c∉ch:=λz=>(hch c z).2.2.1 x c e rfl;by_cases hc:c∈X.fs
  . obtain ⟨sl,q⟩:=slot c o (I.cne x c e) hc nch ho (I.freeC x c e);exact ⟨_,q,hd⟩
  . exact ⟨o,keep c o (I.cne x c e) hc nch ho (I.freeC x c e),hd⟩
 refine ⟨I.ok,I.os,hg,⟨λb o e n hb hx=>?_,λb o e n hb hx=>?_,λb o e n hx=>?_,λb o e hx=>?_,λb xs e=>tups b xs (I.base.tups b xs e),λb o xs e=>frzs b o xs (I.base.frzs b o xs e),λb ps e=>?_⟩,?_,λx c e=>?_,?_,λx c e=>?_,λp hp=>?_,hok,I.len⟩
 . exact keep b o (neL b o e) hb (neC b o e hx) (I.base.keep b o e n hb hx) (I.base.free b o e n hx)
 . obtain ⟨sl,e1⟩:=I.base.slot b o e n hb hx;obtain ⟨sl',e2⟩:=slot b _ (neL b o e) hb (neC b o e hx) e1 (I.base.free b o e n hx);exact ⟨sl',e2⟩
 . obtain ⟨o',e1⟩:=I.base.there b o e hx;exact free b o' (neC b o e hx) e1 (I.base.free b o e n hx)
 . obtain ⟨o',e1⟩:=I.base.there b o e hx;exact there b o' (neC b o e hx) e1
 . obtain ⟨m1,e1⟩:=I.base.tbls b ps e;obtain ⟨m2,e2⟩:=tbls b _ e1;exact ⟨m1++m2,by rw[e2,Array.append_assoc]⟩
 . obtain ⟨m,hn,hl⟩:=I.loc;refine ⟨m,ns m hn,λi x v e1 e2 e3=>?_⟩;obtain ⟨u,r,l⟩:=hl i x v e1 e2 e3;refine ⟨u,r,?_⟩;rcases l with l | ⟨k,c,e,z⟩
   . exact .inl l
   . exact .inr ⟨k,c,e,cellK x c e _ z⟩
 . obtain ⟨v,z⟩:=I.cell x c e;exact ⟨v,cellK x c e v z⟩
 . obtain ⟨m,⟨o,_,_,ho,_⟩,_⟩:=I.loc;exact free _ o (λz=>(hch _ z).2.1 rfl) ho I.free
 . obtain ⟨v,o,ho,hd⟩:=I.cell x c e;exact free c o (λz=>(hch c z).2.2.1 x c e rfl) ho (I.freeC x c e)
 . obtain ⟨e,n,ne,nf,d⟩:=I.pin p hp;have nch:p.1∉ch:=λz=>(hch p.1 z).2.2.2 p hp rfl;exact ⟨keep p.1 p.2 ne nf nch e n,free p.1 p.2 nch e n,ne,nf,d⟩
theorem Inv.un{t':Nat}(I:Inv X aA σ H s)(u:Un X.fs [] H H' s.heap h')(hok:HOk X.prog X.w H' h'):Inv X aA σ H' { s with heap:=h',toks:=t' }:=by
 obtain ⟨m,⟨o,es,ep,ho,r⟩,_⟩:=id I.loc;obtain ⟨sl,hL⟩:=u.any ho I.free (by simp)
 exact I.step (g':=s.gens) (d':=s.drawn) (ch:=[]) (λ_ z=>nomatch z) (λb o _ hb _ e n=>u.keep b o e n hb (by simp)) (λb o _ hb _ e n=>u.slot b o e n hb (by simp)) (λb o _ e n=>u.free b o e n (by simp)) (λb o _ e=>u.there b o e (by simp)) u.tups u.frzs u.tbls (λm' hm=>by
  obtain ⟨o',es',ep',ho',r'⟩:=hm;rw[ho] at ho';cases ho';exact ⟨_,es',ep',hL,r'⟩) hok I.bare
theorem Inv.call{g':Array GenState}{t':Nat}{d':Drawn}{ch:List Addr}(I:Inv X aA σ H s)(u:Un (frs X.stack) ch H H' s.heap h')(hok:HOk X.prog X.w H' h')(hg:AllBare g')(hch:∀ b∈ch,(b∈X.ex\/X.s₀.heap.objs.size<=b)/\b≠X.env.locals/\(∀ x c,X.env.cells.lookup x=some c->c≠b)/\∀ p∈X.pn++aA,p.1≠b):Inv X aA σ H' { s with heap:=h',gens:=g',drawn:=d',toks:=t' }:=by
 obtain ⟨m,⟨o,es,ep,ho,r⟩,_⟩:=id I.loc;obtain ⟨sl,hL⟩:=u.any ho I.free λz=>(hch _ z).2.1 rfl;exact I.step (ch:=ch) hch (λb o hL hb hc e n=>u.keep b o e n (λz=>(aSL.mp (I.stkSub b z)).elim hL hb) hc) (λb o _ _ hc e n=>u.any e n hc) (λb o hc e n=>u.free b o e n hc) (λb o hc e=>u.there b o e hc) u.tups u.frzs u.tbls (λm' hm=>by
  obtain ⟨o',es',ep',ho',r'⟩:=hm;rw[ho] at ho';cases ho';exact ⟨_,es',ep',hL,r'⟩) hok hg
theorem Inv.turned{t':Nat}{it:Addr}(I:Inv X aA σ H s)(k:∀ b o,b≠it->s.heap.get? b=some o->h'.get? b=some o)(hn:H it=none)(hL:it≠X.env.locals)(h1:it∈X.ex\/X.s₀.heap.objs.size<=it)(h2:∀ x c,X.env.cells.lookup x=some c->c≠it)(h3:∀ p∈X.pn++aA,p.1≠it):Inv X aA σ H { s with heap:=h',toks:=t' }:=by
 have nit:∀ b u,H b=some u->b≠it:=λb u e z=>by rw[z,hn] at e;cases e
 refine I.step (g':=s.gens) (d':=s.drawn) (ch:=[it]) (λb hb=>?_) (λb o _ _ hc e _=>k b o (λz=>hc (by simp[z])) e) (λb o _ _ hc e _=>⟨o.slots,k b o (λz=>hc (by simp[z])) e⟩) (λ_ _ _ _ n=>n)
  (λb o hc e=>⟨o,k b o (λz=>hc (by simp[z])) e⟩) (λ_ _ e=>e) (λ_ _ _ e=>e) (λb ps e=>⟨#[],by rw[e];simp⟩) (λm hm=>?_) (λb u e=>?_) I.bare
 . have e:b=it:=by simpa using hb
   subst e;exact ⟨h1,hL,h2,h3⟩
 . obtain ⟨o,es,ep,ho,r⟩:=hm;exact ⟨o,es,ep,k _ o (Ne.symm hL) ho,r⟩
 . refine (I.hok b u e).stay (λc v hc q=>k c v ?_ q) (λ_ q=>q) λ_ _ q=>q;rcases hc with z | z
   . rw[z];exact nit b u e
   . exact nit c _ z
theorem Inv.tok(I:Inv X aA σ H s)(t:Nat):Inv X aA σ H { s with toks:=t }:=I.un (h':=s.heap) (t':=t) Un.refl I.hok
theorem Inv.kept{t':Nat}(I:Inv X aA σ H s)(k:∀ b u,s.heap.get? b=some u->h'.get? b=some u):Inv X aA σ H { s with heap:=h',toks:=t' }:=I.un (Un.kept k) (I.hok.kept k)
theorem Inv.laid{a:Addr}{o:HO}{t':Nat}(I:Inv X aA σ H s)(k:∀ b u,s.heap.get? b=some u->h'.get? b=some u)(hp:s.heap.objs.size<=a)(new:bD X.prog X.w (upd H a o) h' a o):Inv X aA σ (upd H a o) { s with heap:=h',toks:=t' }:=I.un (Un.laid k hp (I.hok.fresh hp)) (I.hok.laid k hp new)
theorem Inv.write{x e:Addr}{o:HO}{t':Nat}(I:Inv X aA σ H s)(mu:Mut (H x))(he:e=x\/H e=some (.own x))(k:∀ b u,b≠e->s.heap.get? b=some u->h'.get? b=some u)(heo:∃ u,h'.get? e=some u)(new:bD X.prog X.w (upd H x o) h' x o):Inv X aA σ (upd H x o) { s with heap:=h',toks:=t' }:=I.un (Un.write mu he k heo) (I.hok.write mu he k heo new)
theorem Inv.weak{σ':List (Option V)}(I:Inv X aA σ H s)(hl:σ'.length=σ.length)(w:∀ (i:Nat) v,σ'[i]? = some (some v)->σ[i]? = some (some v)):Inv X aA σ' H s :=
 ⟨I.ok,I.os,I.bare,I.base,let ⟨m,hn,hl'⟩:=I.loc;⟨m,hn,λi x v e1 e2 e3=>hl' i x v e1 (w i v e2) e3⟩,I.cell,I.free,I.freeC,I.pin,I.hok,hl.trans I.len⟩
theorem Inv.pins_of{pins':LAO}(I:Inv X aA σ H s)(h:∀ p∈pins',s.heap.get? p.1=some p.2/\H p.1=none/\p.1≠X.env.locals/\p.1∉X.fs/\∀ v,p.2.data ≠ .cell v):Inv X pins' σ H s :=
 ⟨I.ok,I.os,I.bare,I.base,I.loc,I.cell,I.free,I.freeC,λp hp=>(aSM.mp hp).elim (λz=>I.pin p (aSN _ z)) (h p),I.hok,I.len⟩
theorem uQ{N:List Str}(hN:N.Nodup){i j:Nat}{x:Str}(a:N[i]? = some x)(b:N[j]? = some x):i=j:=by obtain ⟨h1,e1⟩:=aSO.mp a;obtain ⟨h2,e2⟩:=aSO.mp b;exact (aSP hN).mp (e1.trans e2.symm)
theorem pW{M:Model}{A:Around}{E:VSP}{i:Nat}{x:Str}{v:V}{u:Value}{Q:Unit->Shared->Prop}(I:Inv X aA σ H s)(hN:X.N.Nodup)(hi:X.N[i]? = some x)(hx:Loc X.env.scope x)(r:aS v u)(h:∀ s',Inv X aA (σ.set i (some v)) H s'->(∃ a,Heap.SameBut a s.heap s'.heap/\(a=X.env.locals\/X.env.cells.lookup x=some a))->Q () s')(hf:X.fn x=true\/X.env.scope.names.lookup x=some .local:=by first | exact .inl rfl | exact .inr rfl | assumption):wpAny M A (storeName X.env x u) Q E s:=by
 obtain ⟨m,hn,hl⟩:=id I.loc;have hcls:(X.env.scope.kind == .class||(X.env.scope.kind == .module&&X.env.locals != X.env.globals))=false:=by rw[I.ok.kind];rfl
 have hiσ:i<σ.length:=by rw[I.len];exact (aSO.mp hi).1
 have cne:=I.cne;have tracked:∀ {a:Addr} {h':Heap},(∃ o,s.heap.get? a=some o/\H a=none)->Heap.SameBut a s.heap h'->HOk X.prog X.w H h':=λ{a h'} ha hs b ob e=>by
  obtain ⟨_,_,bL⟩:=ha;refine (I.hok b ob e).stay (λc w' hc q=>(hs.2 c ?_).trans q) (λ_ q=>q) λ_ _ q=>q;rintro rfl;rcases hc with rfl | hc
  . rw[bL] at e;cases e
  . rw[bL] at hc;cases hc
 rcases hx with hk | hk
 . refine wpAny_storeName_local hk hn (λh' hn' hs=>?_) hcls;obtain ⟨oL,_,_,hoL,_⟩:=id hn;refine h _ ⟨I.ok,I.os,I.bare,⟨λb o e n hb hx=>?_,λb o e n hb hx=>?_,I.base.free,λb o e hx=>?_,I.base.tups,I.base.frzs,I.base.tbls⟩,⟨_,hn',λj y v' e1 e2 e3=>?_⟩,λy c e=>?_,I.free,I.freeC,λp hp=>?_,tracked ⟨oL,hoL,I.free⟩ hs,by simpa using I.len⟩ ⟨_,hs,.inl rfl⟩
   . exact (hs.2 b (aSE (aSC (aSB e) I.ok.above))).trans (I.base.keep b o e n hb hx)
   . obtain ⟨sl,e1⟩:=I.base.slot b o e n hb hx;exact ⟨sl,(hs.2 b (aSE (aSC (aSB e) I.ok.above))).trans e1⟩
   . obtain ⟨o',e1⟩:=I.base.there b o e hx;exact ⟨o',(hs.2 b (aSE (aSC (aSB e) I.ok.above))).trans e1⟩
   . by_cases hj:j=i
     . subst hj;rw[hi] at e1;cases e1;rw[aSQ hiσ] at e2;cases e2;exact ⟨u,r,.inl ⟨hk,by simp⟩⟩
     . rw[aSR (Ne.symm hj)] at e2;obtain ⟨u',r',q⟩:=hl j y v' e1 e2 e3;refine ⟨u',r',?_⟩;rcases q with ⟨k,e⟩ | ⟨k,c,e,z⟩
       . refine .inl ⟨k,?_⟩;have:y≠x:=λe=>hj (uQ hN e1 (e ▸ hi));simp[this,e]
       . exact .inr ⟨k,c,e,z.sameBut hs (cne y c e)⟩
   . obtain ⟨w',z⟩:=I.cell y c e;exact ⟨w',z.sameBut hs (cne y c e)⟩
   . obtain ⟨e,n,ne,nf,d⟩:=I.pin p hp;exact ⟨(hs.2 p.1 ne).trans e,n,ne,nf,d⟩
 . have hfn:X.fn x=true:=by
     rcases hf with z | z
     . exact z
     . rw[z] at hk;cases hk
   obtain ⟨c,hc⟩:=I.ok.has x (.inl hk);obtain ⟨w',z⟩:=I.cell x c hc;refine wpAny_storeName_cell I.ok.kind hk hc z (λh' hc' hs=>?_);obtain ⟨oc,hoc,hocd⟩:=id z;refine h { s with heap:=h' } ⟨I.ok,I.os,I.bare,⟨λb o e n hb hx=>?_,λb o e n hb hx=>?_,I.base.free,λb o e hx=>?_,I.base.tups,I.base.frzs,I.base.tbls⟩,⟨m,hn.sameBut hs (Ne.symm (cne x c hc)),λj y v' e1 e2 e3=>?_⟩,λy c' e=>?_,I.free,I.freeC,λp hp=>?_,tracked ⟨oc,hoc,I.freeC x c hc⟩ hs,by simpa using I.len⟩ ⟨c,hs,.inr hc⟩
   . exact (hs.2 b (aSE (aSC (aSB e) (I.ok.cab x c hfn hc)))).trans (I.base.keep b o e n hb hx)
   . obtain ⟨sl,e1⟩:=I.base.slot b o e n hb hx;exact ⟨sl,(hs.2 b (aSE (aSC (aSB e) (I.ok.cab x c hfn hc)))).trans e1⟩
   . obtain ⟨o',e1⟩:=I.base.there b o e hx;exact ⟨o',(hs.2 b (aSE (aSC (aSB e) (I.ok.cab x c hfn hc)))).trans e1⟩
   . by_cases hj:j=i
     . subst hj;rw[hi] at e1;cases e1;rw[aSQ hiσ] at e2;cases e2;exact ⟨u,r,.inr ⟨.inl hk,c,hc,hc'⟩⟩
     . rw[aSR (Ne.symm hj)] at e2;obtain ⟨u',r',q⟩:=hl j y v' e1 e2 e3;refine ⟨u',r',?_⟩;rcases q with q | ⟨k,c',e,z'⟩
       . exact .inl q
       . refine .inr ⟨k,c',e,z'.sameBut hs ?_⟩;rintro rfl;exact hj (uQ hN e1 (I.ok.inj _ _ _ e hc ▸ hi))
   . by_cases hcc:c'=c
     . subst hcc;exact ⟨_,hc'⟩
     . obtain ⟨w2,z2⟩:=I.cell y c' e;exact ⟨w2,z2.sameBut hs hcc⟩
   . obtain ⟨e,n,ne,nf,d⟩:=I.pin p hp;refine ⟨(hs.2 p.1 ?_).trans e,n,ne,nf,d⟩;intro q;rw[q,hoc] at e;have q':oc=p.2:=aR9 e;exact d w' (by rw[<- q'];exact hocd)
theorem uR{M:Model}{A:Around}{E:VSP}{i:Nat}{x:Str}{v:V}{u:Value}{Q:Unit->Shared->Prop}(I:Inv X aA σ H s)(hN:X.N.Nodup)(hi:X.N[i]? = some x)(hx:Loc X.env.scope x)(r:aS v u)(h:∀ s',Inv X aA (σ.set i (some v)) H s'->Q () s')(hf:X.fn x=true\/X.env.scope.names.lookup x=some .local:=by first | exact .inl rfl | exact .inr rfl | assumption):wpAny M A (storeName X.env x u) Q E s :=
 pW I hN hi hx r (λs' I' _=>h s' I') hf
theorem Inv.call'{s':Shared}{ch:List Addr}(I:Inv X aA σ H s)(ho:s'.os=s.os)(u:Un (frs X.stack) ch H H' s.heap s'.heap)(hok:HOk X.prog X.w H' s'.heap)(hg:AllBare s'.gens)(hch:∀ b∈ch,(b∈X.ex\/X.s₀.heap.objs.size<=b)/\b≠X.env.locals/\(∀ x c,X.env.cells.lookup x=some c->c≠b)/\∀ p∈X.pn++aA,p.1≠b):Inv X aA σ H' s':=by obtain ⟨h',g',d',t',o'⟩:=s';have e:o'=s.os:=ho;subst e;exact I.call (g':=g') (t':=t') (d':=d') u hok hg hch
end
abbrev XK:=Value->Option Addr->Hp->Prop
abbrev St:=List (Option V)
abbrev VK:=V->Hp->Prop
abbrev TE:=St->Hp->VK->Prop
abbrev TT:=St->Hp->(Bool->Hp->Prop)->Prop
abbrev TA:=St->Hp->(List V->Hp->Prop)->Prop
structure fJ where
 nx:St->Hp->Prop
 rt:VK
 bk:St->Hp->Prop:=λ_ _=>False
 ct:St->Hp->Prop:=λ_ _=>False
abbrev TS:=fJ->St->Hp->Prop
def EP(X:Cx)(aA:LAO)(σ:St)(Q:VK)(u:Value)(s':Shared):Prop:=∃ v H',Inv X aA σ H' s'/\aS v u/\Q v H'
def TP(X:Cx)(aA:LAO)(σ:St)(Q:Bool->Hp->Prop)(b:Bool)(s':Shared):Prop:=∃ H',Inv X aA σ H' s'/\Q b H'
def AP(X:Cx)(aA:LAO)(σ:St)(Q:List V->Hp->Prop)(us:List Value)(s':Shared):Prop:=∃ vs H',Inv X aA σ H' s'/\aM vs us/\Q vs H'
def SP(X:Cx)(aA:LAO)(D:fJ)(f:Flow)(s':Shared):Prop :=
 match f with
 | .next=>∃ σ' H',Inv X aA σ' H' s'/\D.nx σ' H'
 | .brk=>∃ σ' H',Inv X aA σ' H' s'/\D.bk σ' H'
 | .cont=>∃ σ' H',Inv X aA σ' H' s'/\D.ct σ' H'
 | .ret u=>∃ v σ' H',Inv X aA σ' H' s'/\aS v u/\D.rt v H'
def PE(X:Cx)(e:Expr)(t:TE):Prop :=
 ∀ (aA:LAO) (s:Shared) (σ:St) (H:Hp) (Q:VK),Inv X aA σ H s->t σ H Q->wpAny (model X.prog X.w) X.A (eval e X.env) (EP X aA σ Q) X.xe s
def PT(X:Cx)(e:Expr)(t:TT):Prop :=
 ∀ (aA:LAO) (s:Shared) (σ:St) (H:Hp) (Q:Bool->Hp->Prop),Inv X aA σ H s->t σ H Q->wpAny (model X.prog X.w) X.A (isTrue e X.env (eval e X.env)) (TP X aA σ Q) X.xe s
def PW(X:Cx)(e:Expr)(t:TT):Prop :=
 ∀ (cD:Sem Value) (aA:LAO) (s:Shared) (σ:St) (H:Hp) (Q:Bool->Hp->Prop),Inv X aA σ H s->t σ H Q->wpAny (model X.prog X.w) X.A (isTrue e X.env cD) (TP X aA σ Q) X.xe s
theorem PW.pt{X:Cx}{e:Expr}{t:TT}(h:PW X e t):PT X e t:=h _
def PA(X:Cx)(es:List Expr)(t:TA):Prop :=
 ∀ (pos:Pos) (aA:LAO) (s:Shared) (σ:St) (H:Hp) (Q:List V->Hp->Prop),Inv X aA σ H s->t σ H Q->wpAny (model X.prog X.w) X.A (spliced (backTo pos (starEach es X.env))) (AP X aA σ Q) X.xe s
def PS(X:Cx)(st:Stmt)(t:TS):Prop :=
 ∀ (aA:LAO) (s:Shared) (σ:St) (H:Hp) (D:fJ),Inv X aA σ H s->t D σ H->wpAny (model X.prog X.w) X.A (exec st X.env) (SP X aA D) X.xe s
def PSs(X:Cx)(st:List Stmt)(t:TS):Prop :=
 ∀ (aA:LAO) (s:Shared) (σ:St) (H:Hp) (D:fJ),Inv X aA σ H s->t D σ H->wpAny (model X.prog X.w) X.A (execs st X.env) (SP X aA D) X.xe s
theorem thn{α:Type}{t:Sem α}{Q Q':α->Shared->Prop}{M:Model}{A:Around}{E:VSP}{s:Shared}(h:wpAny M A t Q E s)(hQ:∀ a s,Q a s->Q' a s):wpAny M A t Q' E s:=aSS h hQ λ_ _ x=>x
section
variable {X:Cx}
def dE(i:Nat):TE:=λσ H Q=>∃ v,σ[i]? = some (some v)/\Q v H
def tC(v:V):TE:=λ_ H Q=>Q v H
theorem gE{i:Nat}{x:Str}{pos:Pos}(hN:X.N[i]? = some x)(hv:Vis X.env.scope x)(hd:(x==("__debug__" : Str))=false:=by decide)(hcd:(x==("__classdict__" : Str))=false:=by decide):PE X (.Name x pos) (dE i):=by
 intro aA s σ H Q I h;obtain ⟨v,e,h⟩:=h;obtain ⟨m,hn,hl⟩:=I.loc;obtain ⟨u,r,l⟩:=hl i x v hN e hv;have fin:EP X aA σ Q u s:=⟨v,H,I,r,h⟩;rcases l with ⟨hk,hm⟩ | ⟨hk,c,hc,bE⟩
 . exact wpAny_Name (wpAny_loadName_local I.ok.kind hk hn hm fin) hd
 . rcases hk with hk | hk
   . exact wpAny_Name (wpAny_loadName_cell I.ok.kind hk hc bE fin) hd
   . exact wpAny_Name (wpAny_loadName_free I.ok.kind hk hc bE fin hcd) hd
theorem uS{i j pos}:PE X (.Constant (.int i) j pos) (tC (.int i)):=λ_ _ _ H _ I h=>wpAny_Constant_int ⟨.int i,H,I.tok _,⟨_,rfl⟩,h⟩
theorem pe_bl{b j pos}:PE X (.Constant (.bool b) j pos) (tC (.bl b)):=λ_ _ _ H _ I h=>Constant_bool ⟨.bl b,H,I,rfl,h⟩
theorem aDK{j pos}:PE X (.Constant .none j pos) (tC .non):=λ_ _ _ H _ I h=>Constant_none ⟨.non,H,I,rfl,h⟩
theorem aDL{x j pos}:PE X (.Constant (.str x) j pos) (tC (.str x)):=λ_ _ _ H _ I h=>Calls.Constant_str ⟨.str x,H,I.tok _,⟨_,rfl⟩,h⟩
def Gl(X:Cx)(x:Str):Prop:=X.env.kindOf x=some .globalImplicit
theorem mU{E:VSP}{aA:LAO}{s:Shared}{σ:St}{H:Hp}{x:Str}{u:Value}{pos:Pos}{Q:VSP}(I:Inv X aA σ H s)(hg:Gl X x)(hm:X.mg x=some u)(h:Q u s)(hd:(x==("__debug__" : Str))=false:=by decide):wpAny (model X.prog X.w) X.A (eval (.Name x pos) X.env) Q E s :=
 Calls.Name_function_global I.ok.kind hg (Calls.loadGlobal_global (by rw[I.ok.glob];exact I.mod.glob.keeps I.bk) hm h) hd
theorem kW{E:VSP}{aA:LAO}{s:Shared}{σ:St}{H:Hp}{x:Str}{u:Value}{pos:Pos}{Q:VSP}(I:Inv X aA σ H s)(hg:Gl X x)(hm:X.mg x=none)(hv:bootBuiltins x=some u)(h:Q u s)(hn:x ≠ "__name__" := by decide)(hd:(x==("__debug__" : Str))=false:=by decide):wpAny (model X.prog X.w) X.A (eval (.Name x pos) X.env) Q E s:=by obtain ⟨mb,h1,h2⟩:=I.mod.blt;exact Calls.Name_function_global I.ok.kind hg (Calls.loadGlobal_builtin (by rw[I.ok.glob];exact I.mod.glob.keeps I.bk) hm (by rw[I.ok.blt];exact h1.keeps I.bk) ((h2 x hn).trans hv) h) hd
theorem pX{x:Str}{v:V}{u:Value}{pos:Pos}(hg:Gl X x)(hm:X.mg x=some u)(r:aS v u)(hd:(x==("__debug__" : Str))=false:=by decide):PE X (.Name x pos) (tC v) :=
 λ_ _ _ H _ I h=>mU I hg hm ⟨v,H,I,r,h⟩ hd
theorem aDM{x:Str}{v:V}{u:Value}{pos:Pos}(hg:Gl X x)(hm:X.mg x=none)(hv:bootBuiltins x=some u)(r:aS v u)(hn:x ≠ "__name__" := by decide)(hd:(x==("__debug__" : Str))=false:=by decide):PE X (.Name x pos) (tC v) :=
 λ_ _ _ H _ I h=>kW I hg hm hv ⟨v,H,I,r,h⟩ hn hd
variable {a b:Expr}{ta tb:TE}{pos:Pos}
variable {tA tB':TT}{aU:List Expr}
def mV(t u:TT):TT:=λσ H Q=>t σ H λc H1=>if c=true then u σ H1 Q else Q false H1
def tOr(t u:TT):TT:=λσ H Q=>t σ H λc H1=>if c=true then Q true H1 else u σ H1 Q
def tNot(t:TT):TT:=λσ H Q=>t σ H λc H1=>Q (!c) H1
theorem aDN(ha:PT X a tA):PW X (.BoolOp .And [a] pos) tA:=by
 intro wh aA s σ H Q I h;refine isTrue_and (thn (ha aA s σ H Q I h) λc s1 e=>?_);cases c with
 | true=>exact isTrue_and_nil e
 | false=>exact e
theorem aDO(ha:PT X a tA):PW X (.BoolOp .Or [a] pos) tA:=by
 intro wh aA s σ H Q I h;refine isTrue_or (thn (ha aA s σ H Q I h) λc s1 e=>?_);cases c with
 | false=>exact isTrue_or_nil e
 | true=>exact e
theorem aDP(ha:PT X a tA)(hb:PW X (.BoolOp .And (b::aU) pos) tB'):PW X (.BoolOp .And (a::b::aU) pos) (mV tA tB'):=by
 intro wh aA s σ H Q I h;refine isTrue_and (thn (ha aA s σ H _ I h) λc s1 ⟨H1,I1,q1⟩=>?_);cases c with
 | true=>exact hb wh aA s1 σ H1 Q I1 q1
 | false=>exact ⟨H1,I1,q1⟩
theorem pw_or(ha:PT X a tA)(hb:PW X (.BoolOp .Or (b::aU) pos) tB'):PW X (.BoolOp .Or (a::b::aU) pos) (tOr tA tB'):=by
 intro wh aA s σ H Q I h;refine isTrue_or (thn (ha aA s σ H _ I h) λc s1 ⟨H1,I1,q1⟩=>?_);cases c with
 | true=>exact ⟨H1,I1,q1⟩
 | false=>exact hb wh aA s1 σ H1 Q I1 q1
theorem aDQ(ha:PT X a tA):PT X (.UnaryOp .Not a pos) (tNot tA):=by intro aA s σ H Q I h;exact isTrue_not (ha aA s σ H (λc H1=>Q (!c) H1) I h)
def uT(ta tb:TE):TE:=λσ H Q=>ta σ H λx H1=>∃ c,x=.bl c/\if c=true then tb σ H1 Q else Q (.bl false) H1
def tOrV(ta tb:TE):TE:=λσ H Q=>ta σ H λx H1=>∃ c,x=.bl c/\if c=true then Q (.bl true) H1 else tb σ H1 Q
def uU(ta:TE):TE:=λσ H Q=>ta σ H λx H1=>∃ c,x=.bl c/\Q (.bl (!c)) H1
theorem aDR{op}{t:TE}(h:PE X a t):PE X (.BoolOp op [a] pos) t:=λaA s σ H Q I hw=>BoolOp_one (h aA s σ H Q I hw)
theorem aDS(ha:PE X a ta)(hb:PE X (.BoolOp .And (b::aU) pos) tb):PE X (.BoolOp .And (a::b::aU) pos) (uT ta tb):=by
 intro aA s σ H Q I h;refine BoolOp_and (thn (ha aA s σ H _ I h) λv s1 ⟨x,H1,I1,r1,q1⟩=>?_);obtain ⟨c,rfl,q1⟩:=q1;cases r1;refine aST ?_;cases c with
 | true=>exact hb aA s1 σ H1 Q I1 q1
 | false=>exact ⟨.bl false,H1,I1,rfl,q1⟩
theorem pe_or(ha:PE X a ta)(hb:PE X (.BoolOp .Or (b::aU) pos) tb):PE X (.BoolOp .Or (a::b::aU) pos) (tOrV ta tb):=by
 intro aA s σ H Q I h;refine BoolOp_or (thn (ha aA s σ H _ I h) λv s1 ⟨x,H1,I1,r1,q1⟩=>?_);obtain ⟨c,rfl,q1⟩:=q1;cases r1;refine aST ?_;cases c with
 | false=>exact hb aA s1 σ H1 Q I1 q1
 | true=>exact ⟨.bl true,H1,I1,rfl,q1⟩
theorem aDT(ha:PE X a ta):PE X (.UnaryOp .Not a pos) (uU ta):=by intro aA s σ H Q I h;refine UnaryOp_ (thn (ha aA s σ H _ I h) λv s1 ⟨x,H1,I1,r1,q1⟩=>?_);obtain ⟨c,rfl,q1⟩:=q1;cases r1;exact not_of (aST ⟨.bl (!c),H1,I1,rfl,q1⟩)
end
def SqL(K:Fg)(H:Hp)(a:Addr)(xs:List V):Prop :=
 Rd H a (.lst xs) \/
  ∃ (o:Obj) (its:Array Value) (n:Nat),K.lookup a=some o/\o.cls=.type "list" /\ o.dict=none/\o.data=.seq its n/\its.size<=sizeLine/\aM xs its.toList
def SqT(K:Fg)(H:Hp)(a:Addr)(xs:List V):Prop :=
 Rd H a (.tup xs) \/
  ∃ (o:Obj) (its:Array Value) (n:Nat),K.lookup a=some o/\o.cls=.type "tuple" /\ o.dict=none/\o.data=.seq its n/\its.size<=sizeLine/\aM xs its.toList
def absV:Value->Option V
 | .none=>some .non
 | .bool b=>some (.bl b)
 | .int i _=>some (.int i)
 | .str x _=>some (.str x)
 | .bytes b _=>some (.byt b)
 | .float b _=>some (.flt b)
 | .ref a=>some (.ref a)
 | .type n=>some (.ty n)
 | _=>none
theorem aS.abs{x:V}{u:Value}(r:aS x u):absV u=some x:=by
 cases x with
 | non=>cases r;rfl
 | bl _=>cases r;rfl
 | int _=>obtain ⟨t,rfl⟩:=r;rfl
 | str _=>obtain ⟨t,rfl⟩:=r;rfl
 | byt _=>obtain ⟨t,rfl⟩:=r;rfl
 | flt _=>obtain ⟨t,rfl⟩:=r;rfl
 | ref _=>cases r;rfl
 | ty _=>cases r;rfl
theorem aS.inj{x y:V}{u:Value}(r:aS x u)(q:aS y u):x=y:=aR9 (r.abs.symm.trans q.abs)
theorem aM.inj:∀ {xs ys:List V} {us:List Value},aM xs us->aM ys us->xs=ys
 | _,_,_,.nil,.nil=>rfl
 | _,_,_,.cons r t,.cons r' t'=>by rw[r.inj r',aM.inj t t']
section
variable {X:Cx}{aA:LAO}{σ:St}{H:Hp}{s:Shared}{a:Addr}{xs ys:List V}
theorem SqL.of{K:Fg}(h:H a=some (.lst xs)):SqL K H a xs:=.inl (.inl h)
theorem SqT.of{K:Fg}(h:H a=some (.tup xs)):SqT K H a xs:=.inl (.inl h)
theorem Inv.list(I:Inv X aA σ H s)(h:SqL X.K H a xs):∃ its:List Value,aM xs its/\PlainL s.heap a its.toArray/\xs.length<=sizeLine:=by
 rcases h with h | ⟨o,its,n,hk,hc,hd,hs,hz,r⟩
 . obtain ⟨z,its,n,r,e⟩:=h.ok I.hok;exact ⟨its,r,⟨_,n,e,rfl,rfl,rfl⟩,z⟩
 . refine ⟨its.toList,r,⟨o,n,I.kIn a o hk,hc,hd,by simpa using hs⟩,?_⟩
   have e:=r.length;simp only[aSU] at e;omega
theorem Inv.tuple(I:Inv X aA σ H s)(h:SqT X.K H a xs):∃ its:List Value,aM xs its/\IsTup s.heap a its.toArray/\xs.length<=sizeLine:=by
 rcases h with h | ⟨o,its,n,hk,hc,hdt,hs,hz,r⟩
 . obtain ⟨z,its,r,p⟩:=h.ok I.hok;exact ⟨its,r,p.isTup,z⟩
 . refine ⟨its.toList,r,⟨o,I.kIn a o hk,hc,n,by simpa using hs⟩,?_⟩
   have e:=r.length;simp only[aSU] at e;omega
theorem Inv.list_inj(I:Inv X aA σ H s)(h:SqL X.K H a xs)(h':SqL X.K H a ys):xs=ys:=by
 obtain ⟨its,r,⟨o,n,e,_,_,d⟩,_⟩:=I.list h;obtain ⟨its',r',⟨o',n',e',_,_,d'⟩,_⟩:=I.list h';rw[e] at e';cases e';rw[d] at d';injection d' with d1 _
 have:its=its':=by simpa using congrArg Array.toList d1
 subst this;exact r.inj r'
theorem Inv.tuple_inj(I:Inv X aA σ H s)(h:SqT X.K H a xs)(h':SqT X.K H a ys):xs=ys:=by
 obtain ⟨its,r,⟨o,e,_,n,d⟩,_⟩:=I.tuple h;obtain ⟨its',r',⟨o',e',_,n',d'⟩,_⟩:=I.tuple h';rw[e] at e';cases e';rw[d] at d';injection d' with d1 _
 have:its=its':=by simpa using congrArg Array.toList d1
 subst this;exact r.inj r'
end
abbrev Cx.wish(X:Cx)(E:VSP):Cx:={ X with xe:=E }
section
variable {X:Cx}{aA:LAO}{σ:St}{H:Hp}{s:Shared}{E:VSP}
end
section
variable {X:Cx}{st:Stmt}{aU:List Stmt}{t u:TS}{e:Expr}{te:TE}{pos:Pos}
def tNext:TS:=λD σ H=>D.nx σ H
def tSeq(t u:TS):TS:=λD σ H=>t { D with nx:=u D } σ H
theorem aDU:PSs X [] tNext:=λ_ _ σ H _ I h=>wpAny_execs_nil ⟨σ,H,I,h⟩
theorem aDV(h1:PS X st t)(h2:PSs X aU u):PSs X (st::aU) (tSeq t u):=by
 intro aA s σ H D I h;refine wpAny_execs_cons (thn (h1 aA s σ H { D with nx:=u D } I h) λf s1 q=>?_)
 cases f with
 | next=>obtain ⟨σ',H',I',q⟩:=q;exact h2 aA s1 σ' H' D I' q
 | ret v=>exact q
 | brk=>exact q
 | cont=>exact q
theorem Inv.quiet{aA:LAO}{σ:St}{H:Hp}{s:Shared}(I:Inv X aA σ H s):interactive X.env=false:=by simp[interactive,I.ok.kind]
def pY(te:TE):TS:=λD σ H=>te σ H λ_ H1=>D.nx σ H1
theorem uV(he:PE X e te)(hs:swapsWith e none pos.line X.env=pure false:=by rfl):PS X (.Expr e pos) (pY te):=by intro aA s σ H D I h;exact wpAny_Expr_any (thn (he aA s σ H _ I h) λv s1 ⟨x,H1,I1,r1,q1⟩=>⟨σ,H1,I1,q1⟩) I.quiet hs
def tRet(te:TE):TS:=λD σ H=>te σ H D.rt
theorem uW(he:PE X e te):PS X (.Return (some e) pos) (tRet te):=by intro aA s σ H D I h;exact wpAny_Return_some (thn (he aA s σ H _ I h) λv s1 ⟨x,H1,I1,r1,q1⟩=>⟨x,σ,H1,I1,r1,q1⟩)
def tIfS(c:TT)(t u:TS):TS:=λD σ H=>c σ H λb H1=>if b=true then t D σ H1 else u D σ H1
theorem ps_if{c:Expr}{a b:List Stmt}{tc:TT}(hc:PT X c tc)(ha:PSs X a t)(hb:PSs X b u):PS X (.If c a b pos) (tIfS tc t u):=by
 intro aA s σ H D I h;refine wpAny_If (thn (hc aA s σ H _ I h) λd s1 ⟨H1,I1,q1⟩=>?_);cases d with
 | true=>exact ha aA s1 σ H1 D I1 q1
 | false=>exact hb aA s1 σ H1 D I1 q1
end
abbrev TG:=V->St->Hp->(St->Hp->Prop)->Prop
abbrev TGs:=List V->St->Hp->(St->Hp->Prop)->Prop
def PG(X:Cx)(target:Expr)(t:TG):Prop :=
 ∀ (aA:LAO) (s:Shared) (σ:St) (H:Hp) (v:V) (u:Value) (Q:St->Hp->Prop),Inv X aA σ H s->aS v u->t v σ H Q ->
  wpAny (model X.prog X.w) X.A (assign target X.env u) (λ_ s'=>∃ σ' H',Inv X aA σ' H' s'/\Q σ' H') X.xe s
def PGs(X:Cx)(ts:List Expr)(t:TGs):Prop :=
 ∀ (aA:LAO) (s:Shared) (σ:St) (H:Hp) (vs:List V) (us:List Value) (Q:St->Hp->Prop),Inv X aA σ H s->aM vs us->t vs σ H Q ->
  wpAny (model X.prog X.w) X.A (assignInOrder ((assignEach ts X.env).map (·.2)) us) (λ_ s'=>∃ σ' H',Inv X aA σ' H' s'/\Q σ' H') X.xe s
section
variable {X:Cx}{pos:Pos}
def gG(i:Nat):TG:=λv σ H Q=>Q (σ.set i (some v)) H
theorem uX{i:Nat}{x:Str}(hN:X.N.Nodup)(hi:X.N[i]? = some x)(hx:Loc X.env.scope x)(hf:X.fn x=true\/X.env.scope.names.lookup x=some .local:=by first | exact .inl rfl | exact .inr rfl | assumption):PG X (.Name x pos) (gG i):=by intro aA s σ H v u Q I r h;exact aSV (uR I hN hi hx r (λs' I'=>⟨_,H,I',h⟩) hf)
def gNil:TGs:=λvs σ H Q=>vs=[]/\Q σ H
def uY(t:TG)(u:TGs):TGs:=λvs σ H Q=>∃ v r,vs=v::r/\t v σ H λσ' H'=>u r σ' H' Q
theorem aDW:PGs X [] gNil:=by intro aA s σ H vs us Q I r h;obtain ⟨e,h⟩:=h;subst e;cases r;exact assignInOrder_nil ⟨σ,H,I,h⟩
theorem aDX{e:Expr}{es:List Expr}{t:TG}{u:TGs}(h1:PG X e t)(h2:PGs X es u)(hs:(assignEach (e::es) X.env).map (·.2)=assign e X.env::(assignEach es X.env).map (·.2):=by rfl):PGs X (e::es) (uY t u):=by
 intro aA s σ H vs us Q I r h;obtain ⟨v,vr,e1,h⟩:=h;subst e1;cases r with
 | cons r rr=>rw[hs];refine assignInOrder_cons (thn (h1 aA s σ H _ _ _ I r h) λ_ s1 ⟨σ1,H1,I1,q1⟩=>?_);exact h2 aA s1 σ1 H1 _ _ Q I1 rr q1
def gTup(K:Fg)(n:Nat)(t:TGs):TG:=λv σ H Q=>∃ a xs,v=.ref a/\SqT K H a xs/\xs.length=n/\t xs σ H Q
theorem aDY{es:List Expr}{k:Nat}{t:TGs}{n:Nat}(hc:X.calm=true)(h:PGs X es t)(hn:(assignEach es X.env).length=n:=by rfl)(hst:(assignEach es X.env).findIdx? (·.1)=none:=by rfl):PG X (.Tuple es k pos) (gTup X.K n t):=by
 intro aA s σ H v u Q I r hw;obtain ⟨a,xs,e1,hq,hl,hw⟩:=hw;subst e1;cases r;obtain ⟨its,rv,ht,hz⟩:=I.tuple hq;refine assign_Tuple_tuple (I.ok.hd hc) ht (by simp[hn,<- hl,rv.length]) hst λh' hx=>?_
 have I1:Inv X aA σ H { s with heap:=h' }:=I.kept (t':=s.toks) λb o e=>hx b o (aSE (aSB e)) e
 exact h aA _ σ H xs _ Q I1 (by simpa using rv) hw
def jN(te:TE)(g:TG):TS:=λD σ H=>te σ H λx H1=>g x σ H1 D.nx
theorem aDZ{i:Nat}{x:Str}{e:Expr}{te:TE}{pos':Pos}(hN:X.N.Nodup)(hi:X.N[i]? = some x)(hx:Loc X.env.scope x)(he:PE X e te)(hs:swapsWith e (some (.Name x pos')) pos.line X.env=pure false:=by rfl)(hf:X.fn x=true\/X.env.scope.names.lookup x=some .local:=by first | exact .inl rfl | exact .inr rfl | assumption):PS X (.Assign [.Name x pos'] e pos) (jN te (gG i)):=by intro aA s σ H D I h;refine wpAny_Assign_Name (thn (he aA s σ H _ I h) λv s1 ⟨y,H1,I1,r1,q1⟩=>?_) hs;exact uR I1 hN hi hx r1 (λs2 I2=>⟨_,H1,I2,q1⟩) hf
end
section
variable {X:Cx}{pos:Pos}
end
structure It where
 go:Nat->Hp->Prop
 yld:Nat->Hp->V->Hp->Prop
 stop:Nat->Hp->Prop
def dQ(X:Cx)(aA:LAO)(H:Hp)(b:Addr):Prop :=
 H b=none/\b≠X.env.locals/\b∉X.fs/\(b∈X.ex\/X.s₀.heap.objs.size<=b)/\(∀ x c,X.env.cells.lookup x=some c->c≠b)/\∀ p∈X.pn++aA,p.1≠b
theorem Inv.fpOk{X:Cx}{aA:LAO}{σ:St}{H H':Hp}{s:Shared}{b:Addr}(I:Inv X aA σ H s)(hb:s.heap.objs.size<=b)(hn:H' b=none):dQ X aA H' b:=by
 refine ⟨hn,aSW (aSC I.lt hb),I.nofs hb,.inr (aSI I.sz hb),λx c e z=>?_,λp hp z=>?_⟩
 . obtain ⟨v,q⟩:=I.cell x c e;exact absurd (aSC q.lt (by rw[z];exact hb)) (aSD _)
 . exact absurd (aSC (aSB (I.pin p hp).1) (by rw[z];exact hb)) (aSD _)
structure gH(P:Program)(w:World)(K:Fg)(tg:Expr)(J:It)(fp:List Addr)(it:Addr)(tn:Nat->Heap->Prop):Prop where
 mem:it∈fp
 obj:∀ i h,tn i h->∀ b∈fp,∃ o,h.get? b=some o/\∀ v,o.data ≠ .cell v
 keep:∀ i h h',tn i h->(∀ b∈fp,∀ o,h.get? b=some o->h'.get? b=some o)->tn i h'
 item:∀ (X:Cx),X.prog=P->X.w=w->X.K=K->X.calm=true->∀ (i:Nat) (aA:LAO) (s:Shared) (σ:St) (H:Hp) (E:VSP),Inv X aA σ H s->(∀ b∈fp,dQ X aA H b)->tn i s.heap->J.go i H ->
  wpAny (model P w) X.A (pyNext (.ref it)) (λr s1=>∃ u,r=some u /\
   wpAny (model P w) X.A (letOwnedTupleGo tg (.ref it) u) (λ_ s2=>∃ x H',Inv X aA σ H' s2/\aS x u/\J.yld i H x H'/\tn (i+1) s2.heap/\∀ b∈fp,H' b=none) E s1) E s
 done:∀ (X:Cx),X.prog=P->X.w=w->X.K=K->X.calm=true->∀ (i:Nat) (aA:LAO) (s:Shared) (σ:St) (H:Hp) (E:VSP),Inv X aA σ H s->(∀ b∈fp,dQ X aA H b)->tn i s.heap->J.stop i H ->
  wpAny (model P w) X.A (pyNext (.ref it)) (λr s1=>r=none/\Inv X aA σ H s1) E s
 self:∀ (A:Around) (i:Nat) (s:Shared) (Q:VSP) (E:VSP),tn i s.heap->Q (.ref it) s->wpAny (model P w) A (pyIter (.ref it)) Q E s
abbrev TI:=St->Hp->(It->Hp->Prop)->Prop
def PIE(X:Cx)(aA:LAO)(σ:St)(tg:Expr)(R:It->Hp->Prop)(itv:Value)(s2:Shared):Prop :=
 ∃ (it:Addr) (fp:List Addr) (tn:Nat->Heap->Prop) (J:It) (H':Hp),itv=.ref it/\Inv X aA σ H' s2/\gH X.prog X.w X.K tg J fp it tn/\tn 0 s2.heap/\(∀ b∈fp,dQ X aA H' b)/\R J H'
def PI(X:Cx)(tg aF:Expr)(wi:TI):Prop :=
 ∀ (aA:LAO) (s:Shared) (σ:St) (H:Hp) (R:It->Hp->Prop),Inv X aA σ H s->wi σ H R ->
  wpAny (model X.prog X.w) X.A (eval aF X.env) (λv s1=>wpAny (model X.prog X.w) X.A (pyIter v) (PIE X aA σ tg R) X.xe s1) X.xe s
theorem kX{M:Model}{A:Around}{E:VSP}{s:Shared}{tg:Expr}{it:Addr}{u:Value}{o:Obj}{n:String}{vs:Array Value}{Q:Unit->Shared->Prop}(ho:s.heap.get? it=some o)(hc:o.cls=.type n)(hd:o.data=.fields vs)(hn:["enumerate", "zip", "dict_itemiterator", "dict_reverseitemiterator", "odict_iterator", "itertools.zip_longest", "itertools.pairwise"].contains n=false)(hQ:Q () s):wpAny M A (letOwnedTupleGo tg (.ref it) u) Q E s:=by
 unfold letOwnedTupleGo;cases tg <;> first
  | exact aSX hQ
  | (cases u <;> first
      | exact aSX hQ
      | (refine aSY (aSZ ho ?_)
         rw[hc,hd];show wpAny M A (if (["enumerate", "zip", "dict_itemiterator", "dict_reverseitemiterator", "odict_iterator", "itertools.zip_longest", "itertools.pairwise"].contains n&&vs[0]?==some (rawInt _))=true then _ else _) Q E s;rw[if_neg (by intro h;rw[hn,Bool.false_and] at h;cases h)]
         exact aSX hQ))
def Itl(K:Fg)(a:Addr):It :=
 ⟨λi H=>∃ xs x,SqL K H a xs/\xs[i]? = some x,λi H x H'=>H'=H/\∀ xs,SqL K H a xs->xs[i]? = some x,λi H=>∃ xs,SqL K H a xs/\xs.length<=i⟩
def Itt(K:Fg)(a:Addr):It :=
 ⟨λi H=>∃ xs x,SqT K H a xs/\xs[i]? = some x,λi H x H'=>H'=H/\∀ xs,SqT K H a xs->xs[i]? = some x,λi H=>∃ xs,SqT K H a xs/\xs.length<=i⟩
def Itr(lo:Int)(n:Nat):It:=⟨λi _=>i<n,λi H x H'=>H'=H/\x=.int (lo+i),λi _=>n<=i⟩
theorem aD0{P:Program}{w:World}{K:Fg}{tg:Expr}(a it:Addr):gH P w K tg (Itl K a) [it] it (λi h=>h.IsListIter it a i) where
 mem:=by simp
 obj:=λi h st b hb=>by
  have e:b=it:=by simpa using hb
  subst e;obtain ⟨o,e,c,d⟩:=st;exact ⟨o,e,λv z=>by rw[d] at z;cases z⟩
 keep:=λi h h' st k=>st.at λo e=>k it (by simp) o e
 item:=by
  intro X hP hw hK hc i aA s σ H E I hf st hg;subst hP hw hK;obtain ⟨xs,x,hq,hx⟩:=hg;obtain ⟨its,rv,p,hz⟩:=I.list hq;obtain ⟨u,hu,ru⟩:=rv.get hx;obtain ⟨f0,f1,f2,f3,f4,f5⟩:=hf it (by simp)
  refine wpAny_pyNext_list_item st p.isList (x:=u) (by simpa using hu) λh' st' sb=>?_
  have I1:Inv X aA σ H { s with heap:=h' }:=I.turned (t':=s.toks) (λb o hb e=>(sb.2 b hb).trans e) f0 f1 f3 f4 f5
  obtain ⟨o,e,c,d⟩:=id st';exact ⟨u,rfl,kX (s:={ s with heap:=h' }) e c d (by decide) ⟨x,H,I1,ru,⟨rfl,λys hy=>by rw[I.list_inj hy hq];exact hx⟩,st',λb hb=>(hf b hb).1⟩⟩
 done:=by
  intro X hP hw hK hc i aA s σ H E I hf st hg;subst hP hw hK;obtain ⟨xs,hq,hx⟩:=hg;obtain ⟨its,rv,p,hz⟩:=I.list hq;obtain ⟨f0,f1,f2,f3,f4,f5⟩:=hf it (by simp)
  have hl:=rv.length;exact wpAny_pyNext_list_end (I.ok.hd hc) st p.isList (by simp;omega) λh' eb=>⟨rfl,I.turned (t':=s.toks) (λb o hb e=>eb b o hb e) f0 f1 f3 f4 f5⟩
 self:=λ_ _ _ _ _ st h=>wpAny_pyIter_listiter st h
theorem aD1{P:Program}{w:World}{K:Fg}{tg:Expr}(a it:Addr):gH P w K tg (Itt K a) [it] it (λi h=>h.IsTupleIter it a i) where
 mem:=by simp
 obj:=λi h st b hb=>by
  have e:b=it:=by simpa using hb
  subst e;obtain ⟨o,e,c,d⟩:=st;exact ⟨o,e,λv z=>by rw[d] at z;cases z⟩
 keep:=λi h h' st k=>st.at λo e=>k it (by simp) o e
 item:=by
  intro X hP hw hK hc i aA s σ H E I hf st hg;subst hP hw hK;obtain ⟨xs,x,hq,hx⟩:=hg;obtain ⟨its,rv,p,hz⟩:=I.tuple hq;obtain ⟨u,hu,ru⟩:=rv.get hx;obtain ⟨f0,f1,f2,f3,f4,f5⟩:=hf it (by simp)
  refine wpAny_pyNext_tuple_item st (show s.heap.IsTuple a its.toArray from p) (x:=u) (by simpa using hu) λh' st' sb=>?_
  have I1:Inv X aA σ H { s with heap:=h' }:=I.turned (t':=s.toks) (λb o hb e=>(sb.2 b hb).trans e) f0 f1 f3 f4 f5
  obtain ⟨o,e,c,d⟩:=id st';exact ⟨u,rfl,kX (s:={ s with heap:=h' }) e c d (by decide) ⟨x,H,I1,ru,⟨rfl,λys hy=>by rw[I.tuple_inj hy hq];exact hx⟩,st',λb hb=>(hf b hb).1⟩⟩
 done:=by
  intro X hP hw hK hc i aA s σ H E I hf st hg;subst hP hw hK;obtain ⟨xs,hq,hx⟩:=hg;obtain ⟨its,rv,p,hz⟩:=I.tuple hq;obtain ⟨f0,f1,f2,f3,f4,f5⟩:=hf it (by simp)
  have hl:=rv.length;exact wpAny_pyNext_tuple_end (I.ok.hd hc) st (show s.heap.IsTuple a its.toArray from p) (by simp;omega) λh' eb=>⟨rfl,I.turned (t':=s.toks) (λb o hb e=>eb b o hb e) f0 f1 f3 f4 f5⟩
 self:=λ_ _ _ _ _ st h=>wpAny_pyIter_tupleiter st h
theorem aD2{P:Program}{w:World}{K:Fg}{tg:Expr}(it:Addr)(lo:Int)(n:Nat):gH P w K tg (Itr lo n) [it] it (λi h=>IsRangeIter h it (lo+(i:Nat) * 1) ((n:Int)-(i:Nat)) 1) where
 mem:=by simp
 obj:=λi h st b hb=>by
  have e:b=it:=by simpa using hb
  subst e;exact ⟨_,st,λv z=>by
   have z':Data.fields _=Data.cell v:=z;cases z'⟩
 keep:=λi h h' st k=>k it (by simp) _ st
 item:=by
  intro X hP hw hK hc i aA s σ H E I hf st hg;subst hP hw hK;obtain ⟨f0,f1,f2,f3,f4,f5⟩:=hf it (by simp)
  have W:=Walks.range (prog:=X.prog) (w:=X.w) (I.ok.hd hc) it lo 1 n;refine W.item i s _ _ hg st λv h' tk hv st' kk=>?_;obtain ⟨t,rfl⟩:=hv;have I1:Inv X aA σ H { s with heap:=h',toks:=tk }:=I.turned (λb o hb e=>kk b o (by simpa using hb) e) f0 f1 f3 f4 f5
  refine ⟨_,rfl,kX (s:={ s with heap:=h',toks:=tk }) (n := "range_iterator") st' rfl rfl (by decide) ⟨.int (lo+i),H,I1,⟨t,?_⟩,⟨rfl,rfl⟩,st',λb hb=>(hf b hb).1⟩⟩
  rw[Int.mul_one]
 done:=by
  intro X hP hw hK hc i aA s σ H E I hf st hg;subst hP hw hK;obtain ⟨f0,f1,f2,f3,f4,f5⟩:=hf it (by simp)
  exact wpAny_pyNext_range_end (I.ok.hd hc) st (by have:n<=i:=hg;omega) λh' eb=>⟨rfl,I.turned (t':=s.toks) (λb o hb e=>eb b o hb e) f0 f1 f3 f4 f5⟩
 self:=λ_ _ _ _ _ st h=>wpAny_pyIter_rangeiter st h
section
variable {X:Cx}{tg:Expr}
def pZ(K:Fg)(tl:TE):TI:=λσ H R=>tl σ H λx H1=>∃ a,x=.ref a/\(∃ xs,SqL K H1 a xs)/\R (Itl K a) H1
def iTup(K:Fg)(tl:TE):TI:=λσ H R=>tl σ H λx H1=>∃ a,x=.ref a/\(∃ xs,SqT K H1 a xs)/\R (Itt K a) H1
theorem aD3{l:Expr}{tl:TE}(hl:PE X l tl):PI X tg l (pZ X.K tl):=by
 intro aA s σ H R I h;refine thn (hl aA s σ H _ I h) λv s1 ⟨x,H1,I1,r1,q1⟩=>?_;obtain ⟨a,e,⟨xs,hq⟩,q⟩:=q1;subst e;cases r1;obtain ⟨its,rv,p,hz⟩:=I1.list hq;refine aS0 p.isList ?_;refine ⟨s1.heap.objs.size,[s1.heap.objs.size],_,_,H1,rfl,I1.kept (t':=s1.toks) λb o e=>hps e,aD0 a _,⟨_,aSA _ rfl,rfl,rfl⟩,λb hb=>?_,q⟩;have e:b=s1.heap.objs.size:=by simpa using hb
 subst e;exact I1.fpOk (aS1 _) (I1.hok.fresh (aS1 _))
theorem aD4{l:Expr}{tl:TE}(hl:PE X l tl):PI X tg l (iTup X.K tl):=by
 intro aA s σ H R I h;refine thn (hl aA s σ H _ I h) λv s1 ⟨x,H1,I1,r1,q1⟩=>?_;obtain ⟨a,e,⟨xs,hq⟩,q⟩:=q1;subst e;cases r1;obtain ⟨its,rv,p,hz⟩:=I1.tuple hq;refine aS2 (show s1.heap.IsTuple a its.toArray from p) ?_
 refine ⟨s1.heap.objs.size,[s1.heap.objs.size],_,_,H1,rfl,I1.kept (t':=s1.toks) λb o e=>hps e,aD1 a _,⟨_,aSA _ rfl,rfl,rfl⟩,λb hb=>?_,q⟩;have e:b=s1.heap.objs.size:=by simpa using hb
 subst e;exact I1.fpOk (aS1 _) (I1.hok.fresh (aS1 _))
theorem aD5{aA:LAO}{σ:St}{H:Hp}{s:Shared}{R:It->Hp->Prop}{E:VSP}{lo hi:Int}{t u v:Tok}{tk:Nat}(I:Inv X aA σ H s)(h1:-(2 ^ 62)<=lo)(h2:lo<2 ^ 62)(h3:-(2 ^ 62)<=hi)(h4:hi<2 ^ 62)(q:R (Itr lo (hi-lo).toNat) H):wpAny (model X.prog X.w) X.A (pyIter (.ref s.heap.objs.size)) (PIE X aA σ tg R) E { s with heap:=s.heap.push { cls:=.type "range", data:=.fields #[.int lo t,.int hi u,.int 1 v] },toks:=tk }:=by
 refine wpAny_pyIter_range (IsRange.new ..) (small_one h1 h2 h3 h4) ?_;have I1:Inv X aA σ H { s with heap:=s.heap.push { cls:=.type "range", data:=.fields #[.int lo t,.int hi u,.int 1 v] },toks:=tk }:=I.kept λb o e=>hps e
 refine ⟨(s.heap.push { cls:=.type "range", data:=.fields #[.int lo t,.int hi u,.int 1 v] }).objs.size,[(s.heap.push { cls:=.type "range", data:=.fields #[.int lo t,.int hi u,.int 1 v] }).objs.size],_,_,H,rfl,
  I1.kept (t':=tk) λb o e=>hps e,aD2 _ lo (hi-lo).toNat,?_,λb hb=>?_,q⟩
 . have e1:lo+((0:Nat):Int) * 1=lo:=by simp
   have e2:(((hi-lo).toNat:Nat):Int)-((0:Nat):Int)=Builtin.Range.rangeSize lo hi 1:=by rw[rangeSize_one];split <;> omega
   show IsRangeIter _ _ (lo+((0:Nat):Int) * 1) ((((hi-lo).toNat:Nat):Int)-((0:Nat):Int)) 1;rw[e1,e2];exact aSA _ rfl
 . have e:b=(s.heap.push { cls:=.type "range", data:=.fields #[.int lo t,.int hi u,.int 1 v] }).objs.size:=by simpa using hb
   subst e;exact I1.fpOk (aS1 _) (I1.hok.fresh (aS1 _))
def uZ(ta:TA):TI:=λσ H R=>ta σ H λvs H1=>∃ j:Int,vs=[.int j] /\ -(2 ^ 62)<=j/\j<2 ^ 62/\R (Itr 0 j.toNat) H1
theorem aD6{a:Expr}{ta:TA}{p pos:Pos}(hg:Gl X "range")(hm:X.mg "range" = none)(ha:PA X [a] ta)(hs:starEach [a] X.env=[(false,eval a X.env)]:=by rfl):PI X tg (.Call (.Name "range" p) [a] [] pos) (uZ ta):=by
 intro aA s σ H R I h;refine Call_ (kW I hg hm boot_range (aS3 (thn (ha pos aA s σ H _ I h) λus s1 ⟨vs,H1,I1,r1,q1⟩=>?_) hs rfl));obtain ⟨j,e,q1,q2,q⟩:=q1;subst e;cases r1 with
 | cons r rr=>cases rr;obtain ⟨t,rfl⟩:=r;exact call_range_1 (aD5 I1 (by omega) (by omega) q1 q2 (by simpa using q))
def tFor(wi:TI)(g:TG)(tb:TS):TS:=λD σ H=>wi σ H λJ H1=>∃ W:Nat->Nat->St->Hp->Prop,(∃ m,W 0 m σ H1)/\∀ i m σ H,W i m σ H ->
 (J.stop i H/\D.nx σ H)\/(J.go i H/\∃ N:St->Hp->Prop,(∀ σ' H',N σ' H'->∃ m',m'<m/\W (i+1) m' σ' H')/\∀ x H',J.yld i H x H'->g x σ H' λσ2 H2=>tb { D with nx:=N,ct:=N,bk:=D.nx } σ2 H2)
def hW(fp:List Addr)(h:Heap):LAO:=fp.filterMap λb=>(h.get? b).map λo=>(b,o)
theorem jO{fp:List Addr}{h:Heap}{b:Addr}{o:Obj}(hb:b∈fp)(e:h.get? b=some o):(b,o)∈hW fp h:=aS4.mpr ⟨b,hb,by rw[e];rfl⟩
theorem aD7{fp:List Addr}{h:Heap}{p:Addr×Obj}(hp:p∈hW fp h):p.1∈fp/\h.get? p.1=some p.2:=by
 obtain ⟨b,hb,e⟩:=aS4.mp hp;cases q:h.get? b with
 | none=>rw[q] at e;cases e
 | some o=>rw[q] at e;have e':(b,o)=p:=aR9 e;subst e';exact ⟨hb,q⟩
theorem Inv.pinned{aA:LAO}{σ:St}{H:Hp}{s:Shared}{fp:List Addr}(I:Inv X aA σ H s)(hf:∀ b∈fp,dQ X aA H b)(ho:∀ b∈fp,∃ o,s.heap.get? b=some o/\∀ v,o.data ≠ .cell v):Inv X (aA++hW fp s.heap) σ H s :=
 I.pins_of λp hp=>(aSM.mp hp).elim (λz=>I.pin p (aS5 _ z)) λz=>by obtain ⟨hb,e⟩:=aD7 z;obtain ⟨f0,f1,f2,_⟩:=hf p.1 hb;obtain ⟨o,e',d⟩:=ho p.1 hb;rw[e] at e';cases e';exact ⟨e,f0,f1,f2,d⟩
theorem Inv.unpinned{aA pl:LAO}{σ:St}{H:Hp}{s:Shared}(I:Inv X (aA++pl) σ H s):Inv X aA σ H s:=I.pins_of λp hp=>I.pin p (aS5 _ (aSN _ hp))
theorem aD8{aF:Expr}{body:List Stmt}{wi:TI}{g:TG}{tb:TS}{pos:Pos}(hp:PassesOwn (model X.prog X.w) X.A X.env X.xe)(hc:X.calm=true)(hi:PI X tg aF wi)(hg:PG X tg g)(hb:PSs X body tb)(hs:∀ x,foldedSetIterable aF X.env x=pure x:=by intro _;rfl):PS X (.For tg aF body [] pos) (tFor wi g tb):=by
 intro aA s σ H D I h;refine wpAny_For (thn (hi aA s σ H _ I h) λv s1 h1=>thn h1 λitv s2 h2=>?_) hs;obtain ⟨it,fp,tn,J,H2,e,I2,T,st2,f2,W,⟨m0,w0⟩,turn⟩:=h2;subst e;have stat:∀ {H':Hp},(∀ b∈fp,H' b=none)->∀ b∈fp,dQ X aA H' b:=λhn b hb=>⟨hn b hb,(f2 b hb).2⟩;refine codeAny_forLoop_any (λn s'=>∃ i σ' H',Inv X aA σ' H' s'/\tn i s'.heap/\(∀ b∈fp,H' b=none)/\W i n σ' H') ?_ m0 ⟨0,σ,H2,I2,st2,λb hb=>(f2 b hb).1,w0⟩;rintro n s3 ⟨i,σ3,H3,I3,st3,fr3,w3⟩;rcases turn i n σ3 H3 w3 with ⟨stop,qn⟩ | ⟨go,N,hN,step⟩
 . refine aS6 hp (thn (T.done X rfl rfl rfl hc i aA s3 σ3 H3 X.xe I3 (stat fr3) st3 stop) λr s4 ⟨hr,I4⟩=>?_);subst hr;exact wpAny_execs_nil ⟨σ3,H3,I4,qn⟩
 . refine aS6 hp (thn (T.item X rfl rfl rfl hc i aA s3 σ3 H3 X.xe I3 (stat fr3) st3 go) λr s4 ⟨u,hr,h4⟩=>?_);subst hr;refine aS6 hp (thn h4 λ_ s5 ⟨x,H5,I5,r5,y5,st5,fr5⟩=>?_);have I5':=I5.pinned (stat fr5) (T.obj _ _ st5);refine aS6 hp (thn (hg _ s5 σ3 H5 x u _ I5' r5 (step x H5 y5)) λ_ s6 ⟨σ6,H6,I6,q6⟩=>?_);refine aS6 hp (thn (hb _ s6 σ6 H6 _ I6 q6) λf s7 q7=>?_);have again:∀ {σ7:St} {H7:Hp},Inv X (aA++hW fp s5.heap) σ7 H7 s7->N σ7 H7->∃ m,m<n/\∃ i σ' H',Inv X aA σ' H' s7/\tn i s7.heap/\(∀ b∈fp,H' b=none)/\W i m σ' H':=λ{σ7 H7} I7 n7=>by obtain ⟨m',hm,w7⟩:=hN σ7 H7 n7;refine ⟨m',hm,i+1,σ7,H7,I7.unpinned,T.keep _ _ _ st5 λb hb o e=>(I7.pin (b,o) (aS5 _ (aS5 _ (jO hb e)))).1,λb hb=>?_,w7⟩;obtain ⟨o,e,d⟩:=T.obj _ _ st5 b hb;exact (I7.pin (b,o) (aS5 _ (aS5 _ (jO hb e)))).2.1
   cases f with
   | next=>obtain ⟨σ7,H7,I7,n7⟩:=q7;exact again I7 n7
   | cont=>obtain ⟨σ7,H7,I7,n7⟩:=q7;exact again I7 n7
   | brk=>obtain ⟨σ7,H7,I7,q7⟩:=q7;exact ⟨σ7,H7,I7.unpinned,q7⟩
   | ret v=>obtain ⟨x7,σ7,H7,I7,r7,q7⟩:=q7;exact ⟨x7,σ7,H7,I7.unpinned,r7,q7⟩
end
abbrev R2:=V->V->Hp->VK->Prop
def OpR(X:Cx)(f:Value->Value->Sem Value)(r:R2):Prop :=
 ∀ (aA:LAO) (s:Shared) (σ:St) (H:Hp) (x y:V) (v u:Value) (Q:VK),Inv X aA σ H s->aS x v->aS y u->r x y H Q ->
  wpAny (model X.prog X.w) X.A (f v u) (EP X aA σ Q) X.xe s
def cG(X:Cx)(f:Value)(r:List V->Hp->VK->Prop):Prop :=
 ∀ (aA:LAO) (s:Shared) (σ:St) (H:Hp) (xs:List V) (us:List Value) (Q:VK),Inv X aA σ H s->aM xs us->r xs H Q ->
  wpAny (model X.prog X.w) X.A (call f us) (EP X aA σ Q) X.xe s
def TruR(X:Cx)(r:V->Hp->(Bool->Hp->Prop)->Prop):Prop :=
 ∀ (aA:LAO) (s:Shared) (σ:St) (H:Hp) (x:V) (v:Value) (Q:Bool->Hp->Prop),Inv X aA σ H s->aS x v->r x H Q ->
  wpAny (model X.prog X.w) X.A (truthy v) (TP X aA σ Q) X.xe s
def tOp(r:R2)(ta tb:TE):TE:=λσ H Q=>ta σ H λx H1=>tb σ H1 λy H2=>r x y H2 Q
def rI(C:Int->Int->Prop)(g:Int->Int->V):R2:=λx y H Q=>∃ i j,x=.int i/\y=.int j/\C i j/\Q (g i j) H
def rI0(g:Int->Int->V):R2:=λx y H Q=>∃ i j,x=.int i/\y=.int j/\Q (g i j) H
section
variable {X:Cx}{a b c:Expr}{ta tb tc:TE}{pos:Pos}
theorem qA(ha:PE X a ta)(hb:PE X b tb){aA:LAO}{s:Shared}{σ:St}{H:Hp}{R:V->V->Hp->Prop}(I:Inv X aA σ H s)(h:ta σ H λx H1=>tb σ H1 λy H2=>R x y H2){Q:VSP}{f:Value->Value->Sem Value}(hf:∀ v u s2 x y H2,Inv X aA σ H2 s2->aS x v->aS y u->R x y H2->wpAny (model X.prog X.w) X.A (f v u) Q X.xe s2):wpAny (model X.prog X.w) X.A (eval a X.env) (λv s₁=>wpAny (model X.prog X.w) X.A (eval b X.env) (λu s₂=>wpAny (model X.prog X.w) X.A (f v u) Q X.xe s₂) X.xe s₁) X.xe s:=by refine thn (ha aA s σ H _ I h) λv s1 ⟨x,H1,I1,r1,q1⟩=>?_;refine thn (hb aA s1 σ H1 _ I1 q1) λu s2 ⟨y,H2,I2,r2,q2⟩=>?_;exact hf v u s2 x y H2 I2 r1 r2 q2
theorem u0{op:Operator}{r:R2}(ho:OpR X (binaryOp op) r)(ha:PE X a ta)(hb:PE X b tb):PE X (.BinOp a op b pos) (tOp r ta tb):=by intro aA s σ H Q I h;exact wpAny_BinOp (qA ha hb I h λv u s2 x y H2 I2 rx ry q=>ho aA s2 σ H2 x y v u Q I2 rx ry q)
theorem opI{f:Value->Value->Sem Value}{C:Int->Int->Prop}{g:Int->Int->Int}(rule:∀ (i j:Int) (t u:Tok) (s:Shared) (Q:VSP) (E:VSP),C i j->Q (.int (g i j) s.toks) { s with toks:=s.toks+1 } -> wpAny (model X.prog X.w) X.A (f (.int i t) (.int j u)) Q E s):OpR X f (rI C λi j=>.int (g i j)):=by intro aA s σ H x y v u Q I rx ry h;obtain ⟨i,j,rfl,rfl,hc,q⟩:=h;obtain ⟨t,rfl⟩:=rx;obtain ⟨t',rfl⟩:=ry;exact rule i j t t' s _ _ hc ⟨.int (g i j),H,I.tok _,⟨_,rfl⟩,q⟩
theorem mW{f:Value->Value->Sem Value}{g:Int->Int->Int}(rule:∀ (i j:Int) (t u:Tok) (s:Shared) (Q:VSP) (E:VSP),Q (.int (g i j) s.toks) { s with toks:=s.toks+1 } -> wpAny (model X.prog X.w) X.A (f (.int i t) (.int j u)) Q E s):OpR X f (rI0 λi j=>.int (g i j)):=by intro aA s σ H x y v u Q I rx ry h;obtain ⟨i,j,rfl,rfl,q⟩:=h;obtain ⟨t,rfl⟩:=rx;obtain ⟨t',rfl⟩:=ry;exact rule i j t t' s _ _ ⟨.int (g i j),H,I.tok _,⟨_,rfl⟩,q⟩
theorem mX{f:Value->Value->Sem Value}{g:Int->Int->Bool}(rule:∀ (i j:Int) (t u:Tok) (s:Shared) (Q:VSP) (E:VSP),Q (.bool (g i j)) s->wpAny (model X.prog X.w) X.A (f (.int i t) (.int j u)) Q E s):OpR X f (rI0 λi j=>.bl (g i j)):=by intro aA s σ H x y v u Q I rx ry h;obtain ⟨i,j,rfl,rfl,q⟩:=h;obtain ⟨t,rfl⟩:=rx;obtain ⟨t',rfl⟩:=ry;exact rule i j t t' s _ _ ⟨.bl (g i j),H,I,rfl,q⟩
def CPow(i j:Int):Prop:=0<=j/\j<=1000000/\i.natAbs<2 ^ 64
theorem aD9(k:Nat):(0:Int)<=2 ^ k:=by rw[two_pow_cast];exact Int.natCast_nonneg _
theorem aEA:OpR X (binaryOp .Add) (rI0 λi j=>.int (i+j)):=mW λ_ _ _ _ _ _ _ q=>add_int q
theorem aEB:OpR X (binaryOp .Sub) (rI0 λi j=>.int (i-j)):=mW λ_ _ _ _ _ _ _ q=>sub_int q
theorem aEC:OpR X (binaryOp .Mod) (rI (λ_ j=>0<j) λi j=>.int (i % j)):=opI λi j _ _ _ _ _ hc q=>by have h1:(0:Int)<j:=hc;exact mod_int' (by omega) (by rw[Int.fmod_eq_emod_of_nonneg i (by omega)];exact q)
theorem aED:OpR X (binaryOp .Pow) (rI CPow λi j=>.int (i ^ j.toNat)):=opI λ_ _ _ _ _ _ _ hc q=>pow_int_small hc.1 hc.2.1 hc.2.2 q
theorem aEE:OpR X (binaryOp .LShift) (rI CPow λi j=>.int (i * 2 ^ j.toNat)):=opI λ_ _ _ _ _ _ _ hc q=>lshift_int_small hc.1 hc.2.1 hc.2.2 q
theorem aEF:OpR X (binaryOp .RShift) (rI (λ_ j=>0<=j) λi j=>.int (i / 2 ^ j.toNat)):=opI λi j _ _ _ _ _ hc q =>
 rshift_int hc (by rw[Int.fdiv_eq_ediv_of_nonneg i (aD9 _)];exact q)
theorem u3:OpR X (binaryOp .BitAnd) (rI0 λi j=>.int (Builtin.bitAnd i j)):=mW λ_ _ _ _ _ _ _ q=>and_int q
theorem op_or:OpR X (binaryOp .BitOr) (rI0 λi j=>.int (Builtin.bitOr i j)):=mW λ_ _ _ _ _ _ _ q=>or_int q
end
def scal:V->V->Bool
 | .non,.non=>true | .non,.int _=>true | .int _,.non=>true | .non,.bl _=>true | .bl _,.non=>true | .non,.str _=>true | .str _,.non=>true
 | .int _,.int _=>true | .bl _,.bl _=>true | .str _,.str _=>true | .byt _,.byt _=>true
 | .int _,.str _=>true | .str _,.int _=>true | .bl _,.str _=>true | .str _,.bl _=>true
 | _,_=>false
def rNe:R2:=λx y H Q=>scal x y=true/\Q (.bl (!decide (x=y))) H
theorem aEG{i j:Int}:decide (V.int i=V.int j)=(i==j):=by rw[aS7];simp
theorem aEH{i j:Bool}:decide (V.bl i=V.bl j)=(i==j):=by rw[aS7];simp
theorem aEI{i j:Str}:decide (V.str i=V.str j)=(i==j):=by rw[aS7];simp
theorem aEJ{i j:Array UInt8}:decide (V.byt i=V.byt j)=(i.toList==j.toList):=by rw[aS7];cases i;cases j;simp
section
variable {X:Cx}{a b c:Expr}{ta tb tc:TE}{pos:Pos}
theorem cJ{aA:LAO}{σ:St}{H:Hp}{s:Shared}{Q:VK}{k k':Bool}(I:Inv X aA σ H s)(q:Q (.bl k) H)(e:k=k'):EP X aA σ Q (.bool k') s:=by subst e;exact ⟨.bl k,H,I,rfl,q⟩
theorem op_ne:OpR X (compareOp .NotEq) rNe:=by
 intro aA s σ H x y v u Q I rx ry h;obtain ⟨hs,q⟩:=h;cases x with
 | non =>
  cases rx;cases y with
  | non=>cases ry;exact PySem.EqNone.ne_none_none (cJ I q (by simp))
  | bl j=>cases ry;exact PySem.EqNone.ne_none_bool (cJ I q (by simp))
  | int j=>obtain ⟨t',rfl⟩:=ry;exact PySem.EqNone.ne_none_int (cJ I q (by simp))
  | str j=>obtain ⟨t',rfl⟩:=ry;exact PySem.EqNone.ne_none_str (cJ I q (by simp))
  | _=>exact absurd (show false=true from hs) aS8
 | bl i =>
  cases rx;cases y with
  | non=>cases ry;exact PySem.EqNone.ne_bool_none (cJ I q (by simp))
  | bl j=>cases ry;exact ne_bool (cJ I q (congrArg not aEH))
  | str j=>obtain ⟨t',rfl⟩:=ry;exact PySem.EqMixed.ne_bool_str (cJ I q (by simp))
  | _=>exact absurd (show false=true from hs) aS8
 | int i =>
  obtain ⟨t,rfl⟩:=rx;cases y with
  | non=>cases ry;exact PySem.EqNone.ne_int_none (cJ I q (by simp))
  | int j=>obtain ⟨t',rfl⟩:=ry;exact ne_int (cJ I q (congrArg not aEG))
  | str j=>obtain ⟨t',rfl⟩:=ry;exact PySem.EqMixed.ne_int_str (cJ I q (by simp))
  | _=>exact absurd (show false=true from hs) aS8
 | str i =>
  obtain ⟨t,rfl⟩:=rx;cases y with
  | non=>cases ry;exact PySem.EqNone.ne_str_none (cJ I q (by simp))
  | bl j=>cases ry;exact PySem.EqMixed.ne_str_bool (cJ I q (by simp))
  | int j=>obtain ⟨t',rfl⟩:=ry;exact PySem.EqMixed.ne_str_int (cJ I q (by simp))
  | str j=>obtain ⟨t',rfl⟩:=ry;exact ne_str (cJ I q (congrArg not aEI))
  | _=>exact absurd (show false=true from hs) aS8
 | byt i =>
  obtain ⟨t,rfl⟩:=rx;cases y with
  | byt j=>obtain ⟨t',rfl⟩:=ry;exact PySem.W.ne_bytes (cJ I q (congrArg not aEJ))
  | _=>exact absurd (show false=true from hs) aS8
 | _=>cases y <;> exact absurd (show false=true from hs) aS8
theorem op_lt:OpR X (compareOp .Lt) (rI0 λi j=>.bl (decide (i<j))):=mX λ_ _ _ _ _ _ _ q=>lt_int q
theorem op_le:OpR X (compareOp .LtE) (rI0 λi j=>.bl (decide (i<=j))):=mX λ_ _ _ _ _ _ _ q=>le_int q
theorem op_gt:OpR X (compareOp .Gt) (rI0 λi j=>.bl (decide (j<i))):=mX λ_ _ _ _ _ _ _ q=>gt_int q
theorem op_ge:OpR X (compareOp .GtE) (rI0 λi j=>.bl (decide (j<=i))):=mX λ_ _ _ _ _ _ _ q=>ge_int q
theorem aEK:OpR X (compareOp .Lt) (λx y H Q=>∃ i j,x=.str i/\y=.str j/\Q (.bl (decide (i.cps.toList<j.cps.toList))) H):=by intro aA s σ H x y v u Q I rx ry h;obtain ⟨i,j,rfl,rfl,q⟩:=h;obtain ⟨t,rfl⟩:=rx;obtain ⟨t',rfl⟩:=ry;exact lt_str (cJ I q rfl)
theorem aEL:OpR X (compareOp .In) (λx y H Q=>∃ i j,x=.str i/\y=.str j/\Q (.bl (!(Builtin.Str.occurrences j i 0 j.length 1).isEmpty)) H):=by intro aA s σ H x y v u Q I rx ry h;obtain ⟨i,j,rfl,rfl,q⟩:=h;obtain ⟨t,rfl⟩:=rx;obtain ⟨t',rfl⟩:=ry;exact in_str (cJ I q rfl)
theorem aEM:OpR X (compareOp .Is) (λx y H Q=>y=.non/\Q (.bl (decide (x=.non))) H):=by
 intro aA s σ H x y v u Q I rx ry h;obtain ⟨rfl,q⟩:=h;cases ry;refine is_none_gen (cJ I q ?_);cases x <;> first
  | (cases rx;rfl)
  | (obtain ⟨t,rfl⟩:=rx;rfl)
theorem aEN:OpR X (compareOp .IsNot) (λx y H Q=>y=.non/\Q (.bl (!decide (x=.non))) H):=by
 intro aA s σ H x y v u Q I rx ry h;obtain ⟨rfl,q⟩:=h;cases ry;refine isnot_none_gen (cJ I q ?_);cases x <;> first
  | (cases rx;rfl)
  | (obtain ⟨t,rfl⟩:=rx;rfl)
theorem aEO:OpR X (compareOp .NotIn) (λx y H Q=>∃ i j,x=.str i/\y=.str j/\Q (.bl (!(!(Builtin.Str.occurrences j i 0 j.length 1).isEmpty))) H):=by intro aA s σ H x y v u Q I rx ry h;obtain ⟨i,j,rfl,rfl,q⟩:=h;obtain ⟨t,rfl⟩:=rx;obtain ⟨t',rfl⟩:=ry;exact notIn_str (cJ I q rfl)
theorem OpR.or{f:Value->Value->Sem Value}{r r':R2}(h:OpR X f r)(h':OpR X f r'):OpR X f (λx y H Q=>r x y H Q\/r' x y H Q):=by
 intro aA s σ H x y v u Q I rx ry q;rcases q with q | q
 . exact h aA s σ H x y v u Q I rx ry q
 . exact h' aA s σ H x y v u Q I rx ry q
theorem aEP{op:CmpOp}{r:R2}(ho:OpR X (compareOp op) r)(ha:PE X a ta)(hb:PE X b tb)(hm:behindInMarks op b=false):PE X (.Compare a [op] [b] pos) (tOp r ta tb):=by intro aA s σ H Q I h;exact wpAny_Compare1 (qA ha hb I h λv u s2 x y H2 I2 rx ry q=>ho aA s2 σ H2 x y v u Q I2 rx ry q) hm
def qB(t:TE):TT:=λσ H Q=>t σ H λx H'=>∃ k,x=.bl k/\Q k H'
theorem u4{op:CmpOp}{r:R2}(ho:OpR X (compareOp op) r)(ha:PE X a ta)(hb:PE X b tb)(hm:behindInMarks op b=false):PT X (.Compare a [op] [b] pos) (qB (tOp r ta tb)):=by
 intro aA s σ H Q I h;refine wpAny_isTrue_Compare1 (thn (ha aA s σ H _ I h) λv s1 ⟨x,H1,I1,r1,q1⟩=>thn (hb aA s1 σ H1 _ I1 q1) λu s2 ⟨y,H2,I2,r2,q2⟩ =>
  thn (ho aA s2 σ H2 x y v u _ I2 r1 r2 q2) λc s3 ⟨z,H3,I3,r3,k,e,q3⟩=>?_) hm
 subst e;cases r3;exact aST ⟨H3,I3,q3⟩
def qC(K:Fg)(x:V)(H:Hp)(k:Bool):Prop :=
 match x with
 | .non=>k=false
 | .bl b=>k=b
 | .int i=>k=(i != 0)
 | .str y=>y.length<=sizeLine/\k=((y.length:Int) != 0)
 | .byt y=>y.size<=sizeLine/\k=((y.size:Int) != 0)
 | .ref p=>(∃ xs,SqL K H p xs/\k = !xs.isEmpty)\/(∃ xs,SqT K H p xs/\k = !xs.isEmpty)\/∃ kvs,H p=some (.dK kvs)/\k = !kvs.isEmpty
 | _=>False
theorem aEQ{κ:Type}{kvs:List (κ×V)}{vs:List (κ×Value)}(r:KV kvs vs):(!vs.isEmpty) = !kvs.isEmpty:=by cases r <;> rfl
theorem u5{xs:List V}{its:List Value}(r:aM xs its):(!its.toArray.isEmpty) = !xs.isEmpty:=by cases r <;> simp
theorem kY:(sizeLine:Nat)<2 ^ 63:=by rw[aS9];decide
theorem aER:TruR X (λx H Q=>∃ k,qC X.K x H k/\Q k H):=by
 intro aA s σ H x v Q I rx h;obtain ⟨k,e,q⟩:=h;have hl:=kY;have hs:sizeLine=16777216:=aS9;cases x with
 | non=>cases rx;have e':k=false:=e;subst e';exact truthy_none ⟨H,I,q⟩
 | bl b=>cases rx;have e':k=b:=e;subst e';exact aST ⟨H,I,q⟩
 | int i=>obtain ⟨t,rfl⟩:=rx;have e':k=(i != 0):=e;subst e';exact PySem.P.truthy_int ⟨H,I,q⟩
 | str y=>obtain ⟨t,rfl⟩:=rx;obtain ⟨hy,e'⟩:y.length<=sizeLine/\k=((y.length:Int) != 0):=e;subst e';exact PySem.P.truthy_str (by omega) ⟨H,I.tok _,q⟩
 | byt y=>obtain ⟨t,rfl⟩:=rx;obtain ⟨hy,e'⟩:y.size<=sizeLine/\k=((y.size:Int) != 0):=e;subst e';exact PySem.W.truthy_bytes (by omega) ⟨H,I.tok _,q⟩
 | ref p =>
  cases rx;have e':(∃ xs,SqL X.K H p xs/\k = !xs.isEmpty)\/(∃ xs,SqT X.K H p xs/\k = !xs.isEmpty)\/∃ kvs,H p=some (.dK kvs)/\k = !kvs.isEmpty:=e;rcases e' with ⟨xs,hx,e'⟩ | ⟨xs,hx,e'⟩ | ⟨kvs,hx,e'⟩
  . subst e';obtain ⟨its,r,pl,hz⟩:=I.list hx;have hlen:=r.length;exact wpAny_truthy_list pl.isList (by simp only[aTA];omega) ⟨H,I.tok _,by rw[u5 r];exact q⟩
  . subst e';obtain ⟨its,r,pl,hz⟩:=I.tuple hx;have hlen:=r.length;exact truthy_tuple pl (by simp only[aTA];omega) ⟨H,I.tok _,by rw[u5 r];exact q⟩
  . subst e';obtain ⟨hz,hS,vs,r,m⟩:kvs.length<=sizeLine/\(p==sysModules)=false/\∃ vs,KV kvs vs/\s.heap.DictOf (cO X.prog X.w) p vs:=I.hok p _ hx;have hlen:kvs.length=vs.length:=aR8 r;exact wpAny_truthy_dict hS m (by omega) ⟨H,I.tok _,by rw[aEQ r];exact q⟩
 | _=>exact (show False from e).elim
theorem aES (ha : PE X a ta) (he : ∀ cD, isTrue a X.env cD = (do let v ← cD; standAt a.pos; holding [v] (truthy v))) :
    PT X a (λσ H Q=>ta σ H λx H'=>∃ k,qC X.K x H' k/\Q k H'):=by
 intro aA s σ H Q I h;exact isTrue_plain (thn (ha aA s σ H _ I h) λv s1 ⟨x,H1,I1,r1,q1⟩=>aER aA s1 σ H1 x v Q I1 r1 q1) (he _)
theorem aET:OpR X (binaryOp .Add) (λx y H Q=>∃ i j,x=.str i/\y=.str j/\i.length+j.length<=sizeLine/\Q (.str (i++j)) H):=by intro aA s σ H x y v u Q I rx ry h;obtain ⟨i,j,rfl,rfl,hz,q⟩:=h;obtain ⟨t,rfl⟩:=rx;obtain ⟨t',rfl⟩:=ry;exact add_str (λt' tk=>⟨.str (i++j),H,I.tok _,⟨_,rfl⟩,q⟩) hz
theorem cH{x:V}{us:List Value}(r:aM [x] us):∃ u,us=[u]/\aS x u:=by
 cases r with
 | cons r1 r2=>cases r2;exact ⟨_,rfl,r1⟩
theorem u6{x y:V}{us:List Value}(r:aM [x,y] us):∃ u w',us=[u,w']/\aS x u/\aS y w':=by
 cases r with
 | cons r1 r2 =>
  cases r2 with
  | cons r3 r4=>cases r4;exact ⟨_,_,rfl,r1,r3⟩
theorem aEU:cG X (.type "int") (λxs H Q=>(∃ i,xs=[.int i]/\Q (.int i) H)\/∃ k,xs=[.bl k]/\Q (.int (if k then 1 else 0)) H):=by
 intro aA s σ H xs us Q I r h;rcases h with ⟨i,rfl,q⟩ | ⟨k,rfl,q⟩
 . obtain ⟨u,rfl,t,rfl⟩:=cH r;exact call_int_int ⟨.int i,H,I,⟨_,rfl⟩,q⟩
 . obtain ⟨u,rfl,r1⟩:=cH r;cases r1;exact call_int_bool ⟨.int (if k then 1 else 0),H,I.tok _,⟨_,rfl⟩,q⟩
theorem aEV:cG X (.type "str") (λxs H Q=>∃ i,xs=[.int i]/\i.natAbs.log2<1920/\Q (.str (toString i)) H):=by intro aA s σ H xs us Q I r h;obtain ⟨i,rfl,hz,q⟩:=h;obtain ⟨u,rfl,t,rfl⟩:=cH r;exact PySem.P.str_of_int hz ⟨.str _,H,I.tok _,⟨_,rfl⟩,q⟩
def LenV(K:Fg)(x:V)(H:Hp)(n:Nat):Prop :=
 match x with
 | .str y=>y.length<=sizeLine/\n=y.length
 | .byt y=>y.size<=sizeLine/\n=y.size
 | .ref p=>(∃ xs,SqL K H p xs/\n=xs.length)\/∃ xs,SqT K H p xs/\n=xs.length
 | _=>False
theorem aEW:cG X (.builtin "len") (λxs H Q=>∃ x n,xs=[x]/\LenV X.K x H n/\Q (.int n) H):=by
 intro aA s σ H xs us Q I r h;obtain ⟨x,n,rfl,e,q⟩:=h;obtain ⟨u,rfl,rx⟩:=cH r;have hl:=kY;have hs:sizeLine=16777216:=aS9;cases x with
 | str y=>obtain ⟨t,rfl⟩:=rx;obtain ⟨hy,e'⟩:y.length<=sizeLine/\n=y.length:=e;subst e';exact len_str (by omega) ⟨.int _,H,I.tok _,⟨_,rfl⟩,q⟩
 | byt y=>obtain ⟨t,rfl⟩:=rx;obtain ⟨hy,e'⟩:y.size<=sizeLine/\n=y.size:=e;subst e';exact PySem.W.len_bytes (by omega) ⟨.int _,H,I.tok _,⟨_,rfl⟩,q⟩
 | ref p =>
  cases rx;have e':(∃ xs,SqL X.K H p xs/\n=xs.length)\/∃ xs,SqT X.K H p xs/\n=xs.length:=e;rcases e' with ⟨xs,hx,e'⟩ | ⟨xs,hx,e'⟩
  . subst e';obtain ⟨its,r',pl,hz⟩:=I.list hx;have hlen:=r'.length;exact Calls.call_len_list pl.isList (by simp only[aTA];omega) ⟨.int xs.length,H,I.tok _,⟨_,by simp only[aTA];rw[hlen]⟩,q⟩
  . subst e';obtain ⟨its,r',pl,hz⟩:=I.tuple hx;have hlen:=r'.length;exact len_tuple pl (by simp only[aTA];omega) ⟨.int xs.length,H,I.tok _,⟨_,by simp only[aTA];rw[hlen]⟩,q⟩
 | _=>exact (show False from e).elim
end
structure mY(h:Heap)(x dx C:Addr)(mA:SOV):Prop where
 obj:h.get? x=some (PySem.W.instObj C dx)
 ns:h.Ns1 dx mA
 ne:dx≠x
theorem aEX{h:Heap}{dx:Addr}{mA:SOV}(n:h.Ns1 dx mA):∃ od,h.get? dx=some od/\∀ name,PySem.W.lookIn name od=some (mA name):=by
 obtain ⟨o,es,ep,ho,hd,hk,_,hm⟩:=n;refine ⟨o,ho,λname=>?_⟩;have e:=hm name;unfold nsFind findBy at e;rw[<- Array.find?_toList] at e;unfold PySem.W.lookIn;rw[hd];dsimp only;split
 . rename_i y q;rw[q] at e;exact congrArg some e
 . rename_i q;rw[q] at e;have a:es.toList.any (·.refKey)=false:=by rw[List.any_eq_false];intro y hy;obtain ⟨z,t,hkey⟩:=hk y (aTB.mp hy);simp[DictEntry.refKey,hkey]
   have a':¬ es.toList.any (·.refKey)=true:=by rw[a];exact aS8
   rw[if_neg a'];exact congrArg some e
theorem mY.look{h:Heap}{x dx C:Addr}{mA:SOV}(I:mY h x dx C mA):∃ od,PySem.W.InstAt h x (PySem.W.instObj C dx) C (some od)/\∀ name,PySem.W.lookIn name od=some (mA name) :=
 let ⟨od,ho,hl⟩:=aEX I.ns
 ⟨od,⟨I.obj,rfl,rfl,ho⟩,hl⟩
section
variable {prog:Program}{w:World}{A:Around}{E:VSP}{s:Shared}{K:Fg}{x dx C f:Addr}{mA:SOV}{name:Str}{v:Value}
theorem aEY{pl:Sem Bool}{Q:Value×List Value->Shared->Prop}(X:K.In s.heap)(I:mY s.heap x dx C mA)(hg:PySem.W.plainGet K C name=true)(hf:PySem.W.findIn K (.ref C) name=some (some (.ref f)))(ht:PySem.W.isFn K (.ref f)=true)(hv:mA name=none)(h:Q (.ref f,[.ref x]) s):wpAny (model prog w) A (getMethod (.ref x) name pl) Q E s:=by obtain ⟨od,J,hl⟩:=I.look;exact PySem.W.method_fn X J (PySem.W.plainGet_of hg).1 (PySem.W.plainGet_of hg).2 hf (aTC.mp ht) (by show (PySem.W.lookIn name od).map (·.isSome)=some false;rw[hl,hv];rfl) h
theorem aEZ{R:Result->Shared->Prop}(X:K.In s.heap)(hm:PySem.W.makesIn K C=true)(hi:PySem.W.findIn K (.ref C) "__init__" = some (some (.builtin "object.__init__")))(hb:∀ self,PySem.W.Looks (model prog w) s.heap (bindSpecial (.builtin "object.__init__") self) (.builtin "object.__init__", [self]))(h:codeAny (model prog w) (A.under (.builtin "type.__call__" ⟨[.ref C],[]⟩)) (.call (.builtin "object.__init__") ⟨[.ref (s.heap.objs.size+1)],[]⟩) (PySem.W.InitBack (s.heap.objs.size+1) R) { s with heap:=(s.heap.push PySem.W.emptyDict).push (PySem.W.instObj C s.heap.objs.size) }):codeAny (model prog w) A (.call (.ref C) ⟨[],[]⟩) R s:=by obtain ⟨hh,g,d,t,os⟩:=s;exact PySem.W.make_core (PySem.W.makes_of X hm) (PySem.W.looks_findIn X hi) hb (.inr ⟨rfl,rfl⟩) h
end
theorem dW.some_of{v:V}{o:Option Value}(r:dW (some v) o):∃ u,o=some u/\aS v u:=by
 cases o with
 | none=>exact (show False from r).elim
 | some u=>exact ⟨u,rfl,r⟩
theorem dW.none_of{o:Option Value}(r:dW none o):o=none:=by
 cases o with
 | none=>rfl
 | some u=>exact (show False from r).elim
section
variable {P:Program}{w:World}{H H':Hp}{h h':Heap}{a C dx:Addr}{fs fs':List (Str×V)}
theorem u7(hok:HOk P w H h)(e:H a=some (.ins C dx fs)):∃ mA,mY h a dx C mA/\(∀ f,dW (fs.lookup f) (mA f))/\PySem.Within mA (fs.map (·.1))/\fs.length<=1000/\H dx=some (.own a):=by
 obtain ⟨d,z,ne,ob,mA,n,r,q⟩:=(show bD P w H h a (.ins C dx fs) from hok a _ e)
 exact ⟨mA,⟨ob,n,ne⟩,r,q,z,d⟩
end
structure Cls(K:Fg)(C:Addr):Prop where
 pg:PySem.W.plainGet K C Str.empty=true
 hd:PySem.W.hasDictIn K C=true
 po:PySem.W.plainOver K C=true
 sa:PySem.W.findIn K (.ref C) "__setattr__" = some (some (.builtin "object.__setattr__"))
theorem Cls.get{K:Fg}{C:Addr}(c:Cls K C)(f:Str):PySem.W.plainGet K C f=true:=c.pg
def qD(K:Fg)(C:Addr)(f:Str):Prop:=PySem.W.findIn K (.ref C) f=some none
structure kZ(K:Fg)(C:Addr)(m:Str)(f:Addr):Prop where
 at_:PySem.W.findIn K (.ref C) m=some (some (.ref f))
 fn:PySem.W.isFn K (.ref f)=true
 kp:PySem.W.keepIn K (.ref f)=true
section
variable {X:Cx}{aA:LAO}{σ:St}{H:Hp}{s:Shared}{a C dx:Addr}{fs:List (Str×V)}{f:Str}{v:V}{A:Around}{E:VSP}
theorem aE0{m:Str}{g:Addr}{pl:Sem Bool}{Q:Value×List Value->Shared->Prop}(I:Inv X aA σ H s)(e:H a=some (.ins C dx fs))(c:Cls X.K C)(k:kZ X.K C m g)(l:fs.lookup m=none)(h:Q (.ref g,[.ref a]) s):wpAny (model X.prog X.w) A (getMethod (.ref a) m pl) Q E s:=by
 obtain ⟨mA,O,r,_,_,_⟩:=u7 I.hok e;have hn:mA m=none:=dW.none_of (by rw[<- l];exact r m)
 exact aEY I.kIn O (c.get m) k.at_ k.fn hn h
theorem Inv.made(I:Inv X aA σ H s):Inv X aA σ (upd (upd H s.heap.objs.size (.own (s.heap.objs.size+1))) (s.heap.objs.size+1) (.ins C s.heap.objs.size [])) { s with heap:=(s.heap.push PySem.W.emptyDict).push (PySem.W.instObj C s.heap.objs.size) }:=by
 have e1:(s.heap.push PySem.W.emptyDict).get? s.heap.objs.size=some PySem.W.emptyDict:=aSA s.heap rfl;have e2:((s.heap.push PySem.W.emptyDict).push (PySem.W.instObj C s.heap.objs.size)).get? (s.heap.objs.size+1)=some (PySem.W.instObj C s.heap.objs.size):=by
  have:=aSA (s.heap.push PySem.W.emptyDict) (o:=PySem.W.instObj C s.heap.objs.size) rfl
  rwa [aTD] at this
 have e3:(s.heap.push PySem.W.emptyDict).Ns s.heap.objs.size (λ_=>none):=⟨PySem.W.emptyDict,#[],_,e1,rfl,(λe he=>absurd he (by simp)),λ_=>rfl⟩
 have I1:=I.laid (a:=s.heap.objs.size) (o:=.own (s.heap.objs.size+1)) (h':=s.heap.push PySem.W.emptyDict) (t':=s.toks) (λb u q=>hps q) (aS1 _) ⟨_,e1⟩;refine I1.laid (a:=s.heap.objs.size+1) (o:=.ins C s.heap.objs.size []) (t':=s.toks) (λb u q=>hps q) (Nat.le_of_eq (aTD _ _)) ?_;have ne:s.heap.objs.size≠s.heap.objs.size+1:=aSE (aTE _);refine ⟨by rw[aN ne,a7],aTF _,ne,e2,λ_=>none,(Heap.Ns1.of_empty e3).at λo q=>hps q,λ_=>True.intro,λy hy=>absurd rfl hy⟩
end
section
variable {X:Cx}{o e value:Expr}{f:Str}{pos pos' tpos:Pos}{ta tv:TE}
theorem aE1 {pl : Sem Bool} {m : Str} {apos : Pos} {args : List Expr} {aA : List (Addr × Obj)} {s : Shared} {σ : St} {H : Hp} {Q : Value → Shared → Prop} {te : TE} (he : PE X e te) (I : Inv X aA σ H s) (h : te σ H fun x H1 => ∃ a C dx fs g, x = .ref a ∧ H1 a = some (.ins C dx fs) ∧ Cls X.K C ∧ kZ X.K C m g ∧ fs.lookup m = none ∧ ∀ s1, Inv X aA σ H1 s1 → wpAny (model X.prog X.w) X.A (callWith pos (.ref g) [.ref a] (backTo pos (starEach args X.env)) (backToKw pos (keywordEach [] X.env))) Q X.xe s1)
    (ht:eval (.Call (.Attribute e m apos) args [] pos) X.env=(do
     let ov <- eval e X.env
     standAt apos.atName
     let (f,first) <- holding [ov] (getMethod ov m pl)
     callWith pos f first (backTo pos (starEach args X.env)) (backToKw pos (keywordEach [] X.env)))) :
    wpAny (model X.prog X.w) X.A (eval (.Call (.Attribute e m apos) args [] pos) X.env) Q X.xe s:=by
 refine PySem.W.methodCall_KW (pl:=pl) (thn (he aA s σ H _ I h) λu s1 ⟨x,H1,I1,rx,a,C,dx,fs,g,ex,ea,c,k,l,q⟩=>?_) ht;subst ex;obtain rfl:u=Value.ref a:=rx;exact aE0 I1 ea c k l (q s1 I1)
end
section
variable {X:Cx}{aA:LAO}{σ:St}{H:Hp}{s:Shared}{A:Around}{E:VSP}{Q:VSP}{c:Value}{b:Bool}
inductive eI(K:Fg)(H:Hp):V->Value->Prop where
 | non:eI K H .non (.type "NoneType")
 | bl (x:Bool):eI K H (.bl x) (.type "bool")
 | int (i:Int):eI K H (.int i) (.type "int")
 | str (x:Str):eI K H (.str x) (.type "str")
 | flt (x:UInt64):eI K H (.flt x) (.type "float")
 | lst {a:Addr} {xs:List V} (e:H a=some (.lst xs)):eI K H (.ref a) (.type "list")
 | frz {a:Addr} {o:Obj} {xs:List V} (e:H a=some (.frz o (.lst xs))):eI K H (.ref a) (.type "list")
 | tup {a:Addr} {xs:List V} (e:H a=some (.tup xs)):eI K H (.ref a) (.type "tuple")
 | dK {a:Addr} {kvs:List (Key×V)} (e:H a=some (.dK kvs)):eI K H (.ref a) (.type "dict")
 | dT {a:Addr} {kvs:List (List Key×V)} (e:H a=some (.dT kvs)):eI K H (.ref a) (.type "dict")
 | ins {a C dx : Addr} {fs : List (Str × V)} (e : H a = some (.ins C dx fs)) (cl : Cls K C) (ha : PySem.W.findIn K (.ref C) "__class__" = some (some (.builtin "object.__class__")))
     (hn:PySem.W.specialIn K (.builtin "object.__class__") "__get__" = some (some (.builtin "getset_descriptor.__get__"))) (htk:PySem.W.takesIn K (.builtin "object.__class__")=some true)
     (hm:PySem.W.mroIn K C (.type "object")=some true):eI K H (.ref a) (.ref C)
theorem aE2{x:V}{u t:Value}(I:Inv X aA σ H s)(rx:aS x u)(ty:eI X.K H x t)(e:PySem.W.kitOne X.K t c=some b)(h:∀ tk,Q (.bool b) { s with toks:=tk }):wpAny (model X.prog X.w) A (call (.builtin "isinstance") [u,c]) Q E s:=by
 cases ty with
 | non=>cases (show u=Value.none from rx);exact aTG aTH I.kIn True.intro e (λz=>nomatch z) h
 | bl y=>cases (show u=Value.bool y from rx);exact aTG aTI I.kIn True.intro e (λz=>nomatch z) h
 | int i=>obtain ⟨t,q⟩:=(show ∃ t,u=Value.int i t from rx);cases q;exact aTG aTJ I.kIn True.intro e (λz=>nomatch z) h
 | str y=>obtain ⟨t,q⟩:=(show ∃ t,u=Value.str y t from rx);cases q;exact aTG aTK I.kIn True.intro e (λz=>nomatch z) h
 | flt y=>obtain ⟨t,q⟩:=(show ∃ t,u=Value.float y t from rx);cases q;exact aTG PySem.W.kitx_float I.kIn True.intro e (λz=>nomatch z) h
 | @lst a xs ea =>
  cases (show u=Value.ref a from rx)
  obtain ⟨_,_,n,_,h1⟩:=(show bD X.prog X.w H s.heap a (.lst xs) from I.hok a _ ea)
  exact aTG aTL I.kIn ⟨_,h1,rfl⟩ e (λz=>nomatch z) h
 | @frz a ob xs ea =>
  cases (show u=Value.ref a from rx)
  obtain ⟨_,_,_,n,_,h1⟩:=(show bD X.prog X.w H s.heap a (.frz ob (.lst xs)) from I.hok a _ ea)
  exact aTG aTL I.kIn ⟨_,h1,rfl⟩ e (λz=>nomatch z) h
 | @tup a xs ea =>
  cases (show u=Value.ref a from rx)
  obtain ⟨_,_,_,p⟩:=(show bD X.prog X.w H s.heap a (.tup xs) from I.hok a _ ea)
  obtain ⟨o,h1,h2,_⟩:=p;exact aTG aTM I.kIn ⟨o,h1,h2⟩ e (λz=>nomatch z) h
 | @dK a kvs ea =>
  cases (show u=Value.ref a from rx)
  obtain ⟨_,_,vs,_,p⟩:=(show bD X.prog X.w H s.heap a (.dK kvs) from I.hok a _ ea)
  obtain ⟨o,es,ep,h1,h2,_⟩:=p;exact aTG aTN I.kIn ⟨o,h1,h2.1⟩ e (λz=>nomatch z) h
 | @dT a kvs ea =>
  cases (show u=Value.ref a from rx)
  obtain ⟨_,_,xs,_,o,es,ep,h1,h2,_⟩:=(show bD X.prog X.w H s.heap a (.dT kvs) from I.hok a _ ea)
  exact aTG aTN I.kIn ⟨o,h1,h2.1⟩ e (λz=>nomatch z) h
 | @ins a C dx fs ea cl ha hn htk hm =>
  cases (show u=Value.ref a from rx)
  obtain ⟨mA,O,_⟩:=u7 I.hok ea;obtain ⟨od,J,_⟩:=O.look;exact aTG (PySem.W.kitx_own (cl.get _) cl.hd ha hn htk hm) I.kIn J e (λz=>nomatch z) h
end
structure cP(k:Nat)(A:Around):Prop where
 hd:A.handled=none
 dp:A.depth+3 * k+5<recursionLimit
 un:A.units+16 * k+200<cLine
theorem cP.deeper{k:Nat}{A:Around}(r:cP (k+1) A)(env:Env):cP k (A.deeper env) :=
 ⟨r.hd,by have:=r.dp;show A.depth+1+3 * k+5<_;omega,by have:=r.un;show A.units+3+16 * k+200<_;omega⟩
theorem cP.depth{k:Nat}{A:Around}(r:cP k A):A.depth<recursionLimit:=by have:=r.dp;omega
theorem cP.units{k:Nat}{A:Around}(r:cP k A):A.units+64<cLine:=by have:=r.un;omega
def k5:TA:=λ_ H Q=>Q [] H
def fK(ta:TE)(tr:TA):TA:=λσ H Q=>ta σ H λx H1=>tr σ H1 λxs H2=>Q (x::xs) H2
section
variable {X:Cx}{e:Expr}{es:List Expr}{te:TE}{t:TA}{pos:Pos}
theorem iW:PA X [] k5:=λ_ _ _ _ H Q I h=>Calls.spliced_nil ⟨[],H,I,.nil,h⟩
theorem hX(ha:PE X e te)(hr:PA X es t)(hs:starEach (e::es) X.env=(false,eval e X.env)::starEach es X.env:=by rfl):PA X (e::es) (fK te t):=by intro pos aA s σ H Q I h;rw[hs];show wpAny _ _ (spliced ((false,eval e X.env)::backTo pos (starEach es X.env))) _ _ s;refine Calls.spliced_cons (thn (ha aA s σ H _ I h) λu s1 ⟨x,H1,I1,r1,q1⟩=>?_);exact thn (hr pos aA s1 σ H1 _ I1 q1) λus s2 ⟨xs,H2,I2,r2,q2⟩=>⟨x::xs,H2,I2,.cons r1 r2,q2⟩
def tTup(t:TA):TE:=λσ H Q=>t σ H λxs H1=>xs.length<=sizeLine/\∀ p,H1 p=none->Q (.ref p) (upd H1 p (.tup xs))
def tLst(t:TA):TE:=λσ H Q=>t σ H λxs H1=>xs.length<=sizeLine/\∀ p,H1 p=none->Q (.ref p) (upd H1 p (.lst xs))
theorem aE3{x1}(h:PA X es t):PE X (.Tuple es x1 pos) (tTup t):=by
 intro aA s σ H Q I hq;refine wpAny_Tuple_spliced (thn (h pos aA s σ H _ I hq) λus s1 ⟨xs,H1,I1,r,z,q⟩=>⟨by rw[<- r.length];exact z,?_⟩)
 have hf:H1 s1.heap.objs.size=none:=I1.hok.fresh (aS1 _);refine ⟨.ref s1.heap.objs.size,upd H1 s1.heap.objs.size (.tup xs),I1.laid (t':=s1.toks) (λb u e=>hps e) (aS1 _) ?_,rfl,q _ hf⟩;exact ⟨z,us,r,⟨_,aSA _ rfl,rfl,rfl,_,rfl⟩⟩
theorem aE4(h:PA X es t):PE X (.List es pos) (tLst t):=by
 intro aA s σ H Q I hq;refine wpAny_List_spliced (thn (h pos aA s σ H _ I hq) λus s1 ⟨xs,H1,I1,r,z,q⟩=>⟨by rw[<- r.length];exact z,?_⟩)
 have hf:H1 s1.heap.objs.size=none:=I1.hok.fresh (aS1 _);refine ⟨.ref s1.heap.objs.size,upd H1 s1.heap.objs.size (.lst xs),I1.laid (t':=s1.toks) (λb u e=>hps e) (aS1 _) ?_,rfl,q _ hf⟩;exact ⟨z,us,0,r,aSA _ rfl⟩
end
abbrev Sp:=List V->Hp->VK->XK->Prop
abbrev CXT:=List Env->Hp->Shared->XK->Value->Shared->Prop
structure mZ(P:Program)(w:World)(K:Fg)(mg:SOV)(base:Heap)(A:Around)(outer:List Env)(s:Shared)(H:Hp):Prop where
 frames:A.frames=some outer
 mod:Mod K mg base
 bs:∀ b o,base.get? b=some o->s.heap.get? b=some o/\H b=none
 bsz:base.objs.size<=s.heap.objs.size
 funs:s.heap.FunFrames base outer
 frf:∀ b∈frs outer,H b=none
 hok:HOk P w H s.heap
 bare:AllBare s.gens
def CE(outer:List Env)(P:Program)(w:World)(H:Hp)(s:Shared)(Q:VK)(u:Value)(s':Shared):Prop :=
 ∃ v H',s'.os=s.os/\AllBare s'.gens/\Un (frs outer) [] H H' s.heap s'.heap/\HOk P w H' s'.heap/\aS v u/\Q v H'
def CR(CX:CXT)(outer:List Env)(P:Program)(w:World)(H:Hp)(s:Shared)(Q:VK)(E:XK)(r:Result)(s':Shared):Prop :=
 match r with
 | .ok (.ret u)=>CE outer P w H s Q u s'
 | .ok _=>False
 | .error e=>CX outer H s E e s'
structure dF(P:Program)(w:World)(K:Fg)(mg:SOV)(base:Heap)(CX:CXT)(k:Nat)(f:Addr)(fd:FuncData)(ps:List Str)(sp:Sp):Prop where
 len:∀ vs H Q E,sp vs H Q E->vs.length=ps.length
 run:∀ (A:Around) (outer:List Env) (s:Shared) (H:Hp) (args:Args) (us:List Value) (vs:List V) (Q:VK) (E:XK),cP k A->mZ P w K mg base A outer s H->BindsTo s fd args (ps.zip us)->aM vs us->sp vs H Q E ->
  codeAny (model P w) A (.call (.ref f) args) (CR CX outer P w H s Q E) s
theorem dF.imp{P:Program}{w:World}{K:Fg}{mg:SOV}{base:Heap}{CX:CXT}{k:Nat}{f:Addr}{fd:FuncData}{ps:List Str}{sp sp':Sp}(F:dF P w K mg base CX k f fd ps sp)(h:∀ vs H Q E,sp' vs H Q E->sp vs H Q E):dF P w K mg base CX k f fd ps sp' :=
 ⟨λvs H Q E q=>F.len vs H Q E (h _ _ _ _ q),λA outer s H args us vs Q E hr he hb hv hs=>F.run A outer s H args us vs Q E hr he hb hv (h _ _ _ _ hs)⟩
section
variable {X:Cx}{aA:LAO}{σ:St}{H:Hp}{s s':Shared}
theorem Inv.env0(I:Inv X aA σ H s):mZ X.prog X.w X.K X.mg X.base X.A X.stack s H :=
 ⟨I.ok.frames,I.ok.mod,I.bs,aSI I.ok.bsz I.sz,I.stack,I.stkFree,I.hok,I.bare⟩
theorem Inv.after{Q:VK}{u:Value}(I:Inv X aA σ H s)(h:CE X.stack X.prog X.w H s Q u s'):EP X aA σ Q u s':=by obtain ⟨v,H',os,bare,un,hok,r,q⟩:=h;obtain ⟨hh,g,d,t,os'⟩:=s';obtain rfl:os'=s.os:=os;exact ⟨v,H',I.call (h':=hh) (g':=g) (d':=d) (t':=t) (ch:=[]) un hok bare (λb z=>absurd z (by simp)),r,q⟩
end
def fL(K:Fg)(fd:FuncData)(ps:List Str)(ds:List Value):Prop :=
 ∀ (s:Shared) (us:List Value),K.In s.heap->(us++ds).length=ps.length->BindsTo s fd ⟨us,[]⟩ (ps.zip (us++ds))
theorem fL.all{K:Fg}{fd:FuncData}{ps:List Str}(h:∀ us:List Value,us.length=ps.length->bindArgs fd ⟨us,[]⟩=pure (ps.zip us)):fL K fd ps []:=λs us _ hl=>by rw[aTO] at hl ⊢;exact .of_eq (h us hl)
section
variable {X:Cx}{CX:CXT}{k:Nat}{f C:Addr}{fd:FuncData}{ps:List Str}{sp:Sp}{dvs:List V}{ds:List Value}{E:XK}{x m:Str}{p pos apos:Pos}{e o:Expr}{es:List Expr}{ta:TE}{t:TA}
structure Mk(K:Fg)(C f:Addr):Prop where
 makes:PySem.W.makesIn K C=true
 init:PySem.W.findIn K (.ref C) "__init__" = some (some (.ref f))
 fn:PySem.W.isFn K (.ref f)=true
 kp:PySem.W.keepIn K (.ref C)=true
end
section
variable {X:Cx}{CX:CXT}{k:Nat}{f C:Addr}{fd:FuncData}{ps ks:List Str}{sp:Sp}{E:XK}{x m:Str}{p pos apos kpos:Pos}{e o:Expr}{es:List Expr}{kws:List Keyword}{te ta:TE}{t tk:TA}{nm:Option Str}
variable {g:List Value->List Value->List Value}{gV:List V->List V->List V}
end
structure m4(N P:List Str)(sc:Scope):Prop where
 kind:sc.kind=.function
 co:sc.isCoroutine=false
 gen:sc.isGenerator=false
 nd:N.Nodup
 pre:N.take P.length=P
 par:∀ x∈P,sc.names.lookup x=some .local\/sc.names.lookup x=some .cell
 nofree:∀ y∈sc.names,y.2 ≠ .free
theorem u8{kindOf:Str->Option NameKind}{x:Str}:∀ {binds:List (Str×Value)} {m:SOV},(∀ v,(x,v)∉binds)->bindL kindOf binds m x=m x
 | [],_,_=>rfl
 | (n,v)::r,m,h=>by
  unfold bindL;rw[u8 λw hw=>h w (mcm hw)];split
  . have:x≠n:=by rintro rfl;exact h v mcs
    simp[this]
  . rfl
theorem u9{kindOf:Str->Option NameKind}{x:Str}:∀ {binds:List (Str×Value)} {m:SOV},(∀ v,(x,v)∉binds)->bindC kindOf binds m x=m x
 | [],_,_=>rfl
 | (n,v)::r,m,h=>by
  unfold bindC;rw[u9 λw hw=>h w (mcm hw)];split
  . rfl
  . have:x≠n:=by rintro rfl;exact h v mcs
    simp[this]
theorem vA{kindOf:Str->Option NameKind}{x:Str}{v:Value}:∀ {P:List Str} {vs:List Value} {i:Nat} {m:SOV},P.Nodup->P[i]? = some x->vs[i]? = some v->kindOf x=some .local->bindL kindOf (P.zip vs) m x=some v
 | [],_,_,_,_,h,_,_=>by simp at h
 | _::_,[],_,_,_,_,h,_=>by simp at h
 | p::P,w::vs,0,m,nd,h1,h2,hk=>by simp at h1 h2;subst h1;subst h2;show bindL kindOf ((p,w)::P.zip vs) m p=_;unfold bindL;rw[u8 λv hv=>(aTP.mp nd).1 (aTQ hv).1,if_pos hk];simp
 | p::P,w::vs,i+1,m,nd,h1,h2,hk=>by show bindL kindOf ((p,w)::P.zip vs) m x=_;unfold bindL;exact vA (i:=i) (aTP.mp nd).2 (by simpa using h1) (by simpa using h2) hk
theorem vB{kindOf:Str->Option NameKind}{x:Str}{v:Value}:∀ {P:List Str} {vs:List Value} {i:Nat} {m:SOV},P.Nodup->P[i]? = some x->vs[i]? = some v->kindOf x≠some .local->bindC kindOf (P.zip vs) m x=some v
 | [],_,_,_,_,h,_,_=>by simp at h
 | _::_,[],_,_,_,_,h,_=>by simp at h
 | p::P,w::vs,0,m,nd,h1,h2,hk=>by simp at h1 h2;subst h1;subst h2;show bindC kindOf ((p,w)::P.zip vs) m p=_;unfold bindC;rw[u9 λv hv=>(aTP.mp nd).1 (aTQ hv).1,if_neg hk];simp
 | p::P,w::vs,i+1,m,nd,h1,h2,hk=>by show bindC kindOf ((p,w)::P.zip vs) m x=_;unfold bindC;exact vB (i:=i) (aTP.mp nd).2 (by simpa using h1) (by simpa using h2) hk
def eY(N:List Str)(vs:List V):St:=vs.map some++List.replicate (N.length-vs.length) none
def dX(CX:CXT)(P:Program)(w:World)(K:Fg)(mg:SOV)(base:Heap)(N:List Str)(aW:Str)(scope:Scope)(f:Addr)(cd:Value)(A:Around)(outer:List Env)(s:Shared)(H:Hp)(E:XK):Cx where
 prog:=P
 w:=w
 K:=K
 mg:=mg
 base:=base
 A:=A.deeper (envOfC aW scope s.heap.objs.size f cd)
 N:=N
 s₀:=s
 H₀:=H
 env:=envOfC aW scope s.heap.objs.size f cd
 outer:=outer
 stack:=envOfC aW scope s.heap.objs.size f cd::outer
 ex:=[]
 calm:=true
 fn:=λ_=>true
 pn:=[]
 xe:=λe s'=>wpAny (model P w) (A.deeper (envOfC aW scope s.heap.objs.size f cd)) (leaving (envOfC aW scope s.heap.objs.size f cd) e) (λ_ s''=>CX outer H s E e s'') (λe' s''=>CX outer H s E e' s'') s'
theorem vC{sc:Scope}{n:Nat}{x:Str}(h:sc.names.lookup x=some .cell):∃ c,(cellsFrom n sc.names []).lookup x=some c:=by have q:=PySem.W.cellsFrom_some sc.names n [] (.inl h);exact Option.isSome_iff_exists.mp q
theorem aE5{CX:CXT}{P:Program}{w:World}{K:Fg}{mg:SOV}{base:Heap}{N ps:List Str}{aW:Str}{scope:Scope}{f:Addr}{cd:Value}{A:Around}{outer:List Env}{s s1:Shared}{H:Hp}{E:XK}{us:List Value}{vs:List V}(S:m4 N ps scope)(hd:A.handled=none)(e0:mZ P w K mg base A outer s H)(hl:vs.length=ps.length)(r:aM vs us)(x:InCallC s s.heap.objs.size (bindL (envOfC aW scope s.heap.objs.size f cd).kindOf (ps.zip us) λ_=>none) (cellsFrom (s.heap.objs.size+1) scope.names []) (bindC (envOfC aW scope s.heap.objs.size f cd).kindOf (ps.zip us) λ_=>none) s1):Inv (dX CX P w K mg base N aW scope f cd A outer s H E) [] (eY N vs) H s1:=by
 have hpl:ps.length<=N.length:=by have:=congrArg List.length S.pre;rw[aTR] at this;omega
 obtain ⟨h1,tk,rfl,hk⟩:=x.done;have noA:∀ b:Addr,b∉(dX CX P w K mg base N aW scope f cd A outer s H E).ex:=λb z=>absurd (show b∈([]:List Addr) from z) (by simp)
 refine ⟨⟨e0.mod,S.kind,rfl,rfl,aS1 _,λy z c h1 h2=>?_,λy hy=>?_,λy c _ h=>?_,λ_=>hd,Around.frames_deeper e0.frames,.inr ⟨rfl,rfl⟩,λb z=>absurd z (noA b),e0.bs,e0.bsz,λb _ _=>noA b,λb z=>absurd z (noA b),e0.funs,e0.frf⟩,
  rfl,e0.bare,Un.kept hk,⟨_,x.toInCall.ns,λi y v h1 h2 h3=>?_⟩,λy c h=>⟨_,x.cell y c h⟩,e0.hok.fresh (aS1 _),λy c h=>?_,λp hp=>absurd (show p∈([]:LAO) from hp) (by simp),e0.hok.kept hk,?_⟩
 . exact name_of_addr x.apart (aTS h1) (aTS h2)
 . have hy:scope.names.lookup y=some .cell\/scope.names.lookup y=some .free:=hy;rcases hy with hy | hy
   . exact vC hy
   . exact absurd rfl (S.nofree _ (aTS hy))
 . exact aSJ (x.above y c (aTS h))
 . have hi:i<vs.length:=by
     unfold eY at h2;by_cases hi:i<vs.length
     . exact hi
     . rw[aTT (by simpa using hi)] at h2
       rw[aTU] at h2;split at h2 <;> cases h2
   have ha:vs[i]? = some v:=by
    unfold eY at h2;rw[aTV (by simpa using hi),aTW] at h2
    cases e:vs[i]? with
    | none=>rw[e] at h2;cases h2
    | some a=>rw[e] at h2;cases h2;rfl
   obtain ⟨u,hu,rv⟩:=r.get ha;have hp:ps[i]? = some y:=by rw[<- S.pre,List.getElem?_take_of_lt (by omega)];exact h1
   have ndP:ps.Nodup:=by rw[<- S.pre];exact S.nd.sublist (List.take_sublist _ _)
   refine ⟨u,rv,?_⟩;rcases S.par y (aTX hp) with k | k
   . exact .inl ⟨k,vA ndP hp hu k⟩
   . obtain ⟨c,e⟩:=vC (n:=s.heap.objs.size+1) k;refine .inr ⟨.inl k,c,e,?_⟩;have q:=x.cell y c e;rw[vB ndP hp hu (by show scope.names.lookup y≠_;rw[k];decide)] at q
     exact q
 . exact e0.hok.fresh (aSJ (x.above y c (aTS h)))
 . unfold eY;show _=N.length;rw[aTY,aTZ,List.length_replicate];omega
theorem fn_of{CX:CXT}{P:Program}{w:World}{K:Fg}{mg:SOV}{base:Heap}{k:Nat}{f:Addr}{name aW:Str}{params:Arguments}{body:List Stmt}{scope:Scope}{dV kV doc pm cdv ct oc:Value}{an od:Option Addr}{osl:Array (Option Value)}{N ps:List Str}{sp:Sp}(lk:K.lookup f=some ⟨oc,od,.func (PySem.W.fnOf name aW params body scope dV kV doc pm an cdv ct),osl⟩)(hcd:PySem.W.codeIn K cdv aW=true)(S:m4 N ps scope)(len:∀ vs H Q E,sp vs H Q E->vs.length=ps.length)(hbody:∀ (A:Around) (outer:List Env) (s:Shared) (H:Hp) (vs:List V) (Q:VK) (E:XK),cP k (A.deeper (envOfC aW scope s.heap.objs.size f cdv))->sp vs H Q E->∃ t,PSs (dX CX P w K mg base N aW scope f cdv A outer s H E) body t/\t { nx:=λ_ H'=>Q .non H',rt:=Q } (eY N vs) H):dF P w K mg base CX (k+1) f (PySem.W.fnOf name aW params body scope dV kV doc pm an cdv ct) ps sp:=by
 refine ⟨len,λA outer s H args us vs Q E hr e0 hb r hsp=>?_⟩;have hl:=len _ _ _ _ hsp;have KX:K.In s.heap:=e0.mod.kin.keeps λb o e=>(e0.bs b o e).1;have lim:s.heap.NoLimit:=e0.mod.nolimit.keeps λb o e=>(e0.bs b o e).1;have bJ:∀ y∈ps.zip us,scope.names.lookup y.1=some .local\/(scope.names.lookup y.1=some .cell/\((cellsFrom (s.heap.objs.size+1) scope.names []).lookup y.1).isSome=true):=λ⟨n,v⟩ hy=>by
  rcases S.par n (aTQ hy).1 with q | q
  . exact .inl q
  . exact .inr ⟨q,PySem.W.cellsFrom_some _ _ _ (.inl q)⟩
 refine codeAny_call_function hr.depth (KX _ _ lk) rfl S.co S.gen rfl (PySem.W.codeRec_of KX hcd) (hb _ _ _ _ ?_);refine wpAny_newFunctionEnv_cells S.kind bJ λenv he s1 x=>?_;subst he;refine ⟨lim.keeps x.toInCall.keep,codeAny_func ?_⟩;obtain ⟨t,ht,hq⟩:=hbody A outer s H vs Q E (hr.deeper _) hsp;have I:Inv (dX CX P w K mg base N aW scope f cdv A outer s H E) [] (eY N vs) H s1:=aE5 S hr.hd e0 hl r x;refine aSS (ht [] s1 (eY N vs) H _ I hq) (λfl s' hs=>?_) λe s' hs=>hs;have fin:∀ {σ':St} {H':Hp} {v:V} {u:Value},Inv (dX CX P w K mg base N aW scope f cdv A outer s H E) [] σ' H' s'->aS v u->Q v H'->CE outer P w H s Q u s' :=
  λ{σ' H' v u} J rv q=>⟨v,H',J.os,J.bare,J.base,J.hok,rv,q⟩
 cases fl with
 | ret u=>obtain ⟨v,σ',H',J,rv,q⟩:=hs;exact fin J rv q
 | next=>obtain ⟨σ',H',J,q⟩:=hs;exact fin (v:=V.non) (u:=Value.none) J rfl q
 | brk=>obtain ⟨_,_,_,q⟩:=hs;exact False.elim q
 | cont=>obtain ⟨_,_,_,q⟩:=hs;exact False.elim q
section
variable {X:Cx}{x:Str}{p pos:Pos}{e:Expr}{es:List Expr}{t:TA}{id T:String}{r:List V->Hp->VK->Prop}
def tCB(r:List V->Hp->VK->Prop)(t:TA):TE:=λσ H Q=>t σ H λvs H1=>r vs H1 Q
theorem nE(hc:cG X (.builtin id) r)(hg:Gl X x)(hm:X.mg x=none)(hv:bootBuiltins x=some (.builtin id))(ha:PA X (e::es) t)(hn:x ≠ "__name__" := by decide)(hdb:(x==("__debug__" : Str))=false:=by decide)(he:starEach (e::es) X.env=(false,eval e X.env)::starEach es X.env:=by rfl)(hpl:(backTo pos (starEach es X.env)).any (·.1)=false:=by rfl):PE X (.Call (.Name x p) (e::es) [] pos) (tCB r t):=by intro aA s σ H Q I h;refine aT0 (kW I hg hm hv ?_ hn hdb);exact PyProof.Rows.callWith_builtin1 (thn (ha pos aA s σ H _ I h) λus s1 ⟨vs,H1,I1,r1,q1⟩=>hc aA s1 σ H1 vs us Q I1 r1 q1) he hpl
theorem vD(hc:cG X (.type T) r)(hg:Gl X x)(hm:X.mg x=none)(hv:bootBuiltins x=some (.type T))(ha:PA X (e::es) t)(hn:x ≠ "__name__" := by decide)(hdb:(x==("__debug__" : Str))=false:=by decide)(he:starEach (e::es) X.env=(false,eval e X.env)::starEach es X.env:=by rfl)(hpl:(backTo pos (starEach es X.env)).any (·.1)=false:=by rfl):PE X (.Call (.Name x p) (e::es) [] pos) (tCB r t):=by intro aA s σ H Q I h;refine aT0 (kW I hg hm hv ?_ hn hdb);exact aS3 (thn (ha pos aA s σ H _ I h) λus s1 ⟨vs,H1,I1,r1,q1⟩=>hc aA s1 σ H1 vs us Q I1 r1 q1) he hpl
end
end L2
namespace HT
open PySem PyProof.Rows
section
open PySem.SeqAt
open PySem.AutoSeq1 (wpAny_loadPart')
open PySem.MeetsSeq PySem.MeetsSeq2 PySem.MeetsSeq3
end
section
variable {prog:Program}{w:World}{A:Around}{E:VSP}{s:Shared}
theorem aE6{t b:Addr}{vs ws:List Value}{Q:VSP}(ht:IsTup s.heap t vs.toArray)(hb:IsTup s.heap b ws.toArray)(hv:vs≠[])(h1:ws=[]->Q (.ref t) s)(h2:ws≠[]->Q (.ref s.heap.objs.size) { s with heap:=s.heap.push { cls:=.type "tuple", data:=.seq (vs++ws).toArray } })(hsz:vs.length+ws.length<=sizeLine):wpAny (model prog w) A (binaryOp .Add (.ref t) (.ref b)) Q E s:=by
 obtain ⟨⟨cls,dd,data,sl⟩,ho,hc,n,hd⟩:=id ht;obtain ⟨⟨cls2,dd2,data2,sl2⟩,ho2,hc2,n2,hd2⟩:=id hb;simp only at hc hd hc2 hd2;subst hc hd hc2 hd2;have e:vs.toArray++ws.toArray=(vs++ws).toArray:=by simp
 by_cases hw:ws=[]
 . exact aT1 ⟨_,ho,rfl⟩ ⟨_,ho2,rfl⟩ aT2 seq_tuple_add aT3 aT4 (aT5 _ _)
     (tuple_addW1 t b vs.toArray ws.toArray n n2 dd dd2 sl sl2 (by simpa using hv) (by simp[hw])) ⟨ho,ho2,h1 hw⟩
 . refine aT1 ⟨_,ho,rfl⟩ ⟨_,ho2,rfl⟩ aT2 seq_tuple_add aT3 aT4 (aT5 _ _)
     (tuple_addW2 t b vs.toArray ws.toArray n n2 dd dd2 sl sl2 (by simpa using hv) (by simpa using hw) (by rw[aTA,aTA];exact hsz)) ⟨ho,ho2,?_⟩
   rw[e];exact h2 hw
def sIx(n d:Nat):Option Int->Nat
 | none=>d
 | some v=>if v<0 then (v+(n:Int)).toNat else min v.toNat n
theorem aE7(n d:Nat):sIx n d none=d:=rfl
theorem aE8(n d k:Nat):sIx n d (some (k:Int))=min k n:=by show (if (k:Int)<0 then ((k:Int)+(n:Int)).toNat else min (k:Int).toNat n)=min k n;rw[if_neg (by omega),aT6]
theorem aE9(n d:Nat)(hd:d<=n)(o:Option Int):sIx n d o<=n:=by
 cases o with
 | none=>exact hd
 | some v =>
  show (if v<0 then (v+(n:Int)).toNat else min v.toNat n)<=n;by_cases hv:v<0
  . rw[if_pos hv];omega
  . rw[if_neg hv];exact Nat.min_le_right _ _
theorem vE(v:Int)(n d:Nat):(if v<0 then max (v+(n:Int)) 0 else min v (n:Int))=((sIx n d (some v):Nat):Int):=by
 show (if v<0 then max (v+(n:Int)) 0 else min v (n:Int))=(((if v<0 then (v+(n:Int)).toNat else min v.toNat n):Nat):Int);by_cases hv:v<0
 . simp only[if_pos hv];omega
 . simp only[if_neg hv];omega
theorem aFA(lo hi:Option Int)(n:Nat):Builtin.Slice.sliceAdjust lo hi 1 (n:Int)=(((sIx n 0 lo:Nat):Int),((sIx n n hi:Nat):Int)):=by
 have h1:¬ ((1:Int)<0):=by omega
 unfold Builtin.Slice.sliceAdjust;simp only[h1,aT7];refine Prod.ext ?_ ?_
 . cases lo with
   | none=>rfl
   | some v=>exact vE v n 0
 . cases hi with
   | none=>rfl
   | some v=>exact vE v n n
theorem aFB(i j:Nat):Builtin.Slice.slicePlaces (i:Int) (j:Int) 1=j-i:=by
 unfold Builtin.Slice.slicePlaces;have h1:(1:Int) > 0:=by omega
 simp only[h1,aT8,Int.ediv_one];split <;> omega
theorem vF{v:Value}{o:Option Int}{Q:Option Int->Shared->Prop}(p:IsPart v o)(h:Q o s):wpAny (model prog w) A (Builtin.Slice.slicePartIndex v) Q E s:=by
 cases p with
 | none=>exact slicePart_none h
 | int i t=>exact slicePart_int h
theorem vG{sl:Addr}{vl vu:Value}{lo hi:Option Int}{n:Nat}{Q:Int×Int×Nat->Shared->Prop}(hs:s.heap.IsSliceOf sl vl vu .none)(pl:IsPart vl lo)(pu:IsPart vu hi)(h:Q (((sIx n 0 lo:Nat):Int),1,sIx n n hi-sIx n 0 lo) s):wpAny (model prog w) A (Builtin.Slice.sliceApplied (.ref sl) (pure (n:Int))) Q E s:=by
 obtain ⟨os,hos,hcs,hds⟩:=id hs;unfold Builtin.Slice.sliceApplied Builtin.Slice.sliceFields;refine aSY (aSY (aT9 hos hds (x:=vl) rfl (aSY (aT9 hos hds (x:=vu) rfl (aSY (aT9 hos hds (x:=.none) rfl (aSX ?_)))))));refine aSY (slicePart_none ?_);show wpAny _ _ (if ((1:Int)==0)=true then _ else _) _ _ s;rw[if_neg (by decide)]
 refine aSY (vF pl (aSY (vF pu (aSY (aSX ?_)))));show wpAny _ _ (match Builtin.Slice.sliceAdjust lo hi 1 (n:Int) with | (lo,hi)=>pure (lo,(1:Int),Builtin.Slice.slicePlaces lo hi 1)) _ _ s
 rw[aFA lo hi n];show wpAny _ _ (pure (((sIx n 0 lo:Nat):Int),(1:Int),Builtin.Slice.slicePlaces ((sIx n 0 lo:Nat):Int) ((sIx n n hi:Nat):Int) 1)) _ _ s;rw[aFB];exact aSX h
theorem aFC(xs:Array Value)(i k:Nat):((List.range k).filterMap λ(m:Nat)=>xs[((i:Int)+(m:Int) * 1).toNat]?).toArray=((xs.toList.drop i).take k).toArray:=by
 have e:(λ(m:Nat)=>xs[((i:Int)+(m:Int) * 1).toNat]?)=λm=>xs[i+m]?:=by
  funext m;have:((i:Int)+(m:Int) * 1).toNat=i+m:=by omega
  rw[this]
 rw[e];have:=pick_run xs i k;rw[List.filterMap_map] at this;have e2:((λx=>xs[x]?) ∘ λx=>i+x)=λm=>xs[i+m]?:=rfl;rw[e2] at this;rw[this]
theorem aFD{t sl:Addr}{items:Array Value}{vl vu:Value}{lo hi:Option Int}{Q:VSP}(ht:IsTup s.heap t items)(hs:s.heap.IsSliceOf sl vl vu .none)(pl:IsPart vl lo)(pu:IsPart vu hi)(hw:¬ (sIx items.size 0 lo=0/\sIx items.size items.size hi=items.size))(h:Q (.ref s.heap.objs.size) { s with heap:=s.heap.push { cls:=.type "tuple", data:=.seq ((items.toList.drop (sIx items.size 0 lo)).take (sIx items.size items.size hi-sIx items.size 0 lo)).toArray } })(hsz:items.size<=sizeLine):wpAny (model prog w) A (getItem (.ref t) (.ref sl)) Q E s:=by
 have htake:sizeOk (.seq ((items.toList.drop (sIx items.size 0 lo)).take (sIx items.size items.size hi-sIx items.size 0 lo)).toArray):=by show ((items.toList.drop (sIx items.size 0 lo)).take (sIx items.size items.size hi-sIx items.size 0 lo)).toArray.size<=sizeLine;rw[aTA,aTR,aUA,aSU];omega
 have hj:sIx items.size items.size hi<=items.size:=aE9 _ _ (aS1 _) hi;obtain ⟨os,hos,hcs,hds⟩:=id hs;have hTs:s.TypeIs (.ref sl) "slice" := ⟨os,hos,hcs⟩;unfold getItem
 try with_reducible refine aUB ?_
 first | refine aSY (aSX ?_) | skip
 refine aSY (wpAny_sequenceKey ht.typeIs (by decide) ?_)
 refine aSY (aUC (name:=Str.ofString "__getitem__") ht.typeIs aUD
  (aUE aUD ht.typeIs entry_tuple_getitem ?_ (args_tuple_getitem _ _)))
 show wpAny _ _ (Builtin.Tuple.tupleItemsOf (.ref t) >>= _) _ _ s;refine aSY (tupleItemsOf_ ht ?_);refine aSY (aUF hTs ?_);rw[if_pos (by decide)]
 refine aSY (vG hs pl pu ?_);have hno:¬ ((((sIx items.size 0 lo:Nat):Int)==0&&(1:Int)==1&&(sIx items.size items.size hi-sIx items.size 0 lo)==items.size)=true):=by intro q;rw[aUG,aUG] at q;have q1:((sIx items.size 0 lo:Nat):Int)=0:=eq_of_beq q.1.1;have q2:sIx items.size items.size hi-sIx items.size 0 lo=items.size:=eq_of_beq q.2;exact hw ⟨by omega,by omega⟩
 show wpAny _ _ (if (((sIx items.size 0 lo:Nat):Int)==0&&(1:Int)==1&&(sIx items.size items.size hi-sIx items.size 0 lo)==items.size)=true then _ else _) _ _ s;rw[if_neg hno,aFC]
 first
  | exact aSY (m:=Builtin.Tuple.tupleExact _) (aUH (aSX ⟨_,rfl,aSX h⟩) htake)
  | exact aSY (m:=Builtin.Tuple.tupleExact _) (aUH (aSY (aSX (aSX ⟨_,rfl,aSX h⟩))) htake)
  | exact aSY (aSY (m:=Builtin.Tuple.tupleExact _) (aUH (aSX (aSX ⟨_,rfl,aSX h⟩)) htake))
  | exact aSY (aSY (m:=Builtin.Tuple.tupleExact _) (aUH (aSX ⟨_,rfl,aSX h⟩) htake))
end
end HT
namespace L2
open PySem PySem.Spec PyProof.Rows
abbrev TO:=St->Hp->(Option Int->Hp->Prop)->Prop
def PO(X:Cx)(e:Option Expr)(t:TO):Prop :=
 ∀ (aA:LAO) (s:Shared) (σ:St) (H:Hp) (Q:Option Int->Hp->Prop),Inv X aA σ H s->t σ H Q ->
  wpAny (model X.prog X.w) X.A (evalPart e X.env) (λu s'=>∃ o H',Inv X aA σ H' s'/\IsPart u o/\Q o H') X.xe s
def vH:TO:=λ_ H Q=>Q none H
def nF(t:TE):TO:=λσ H Q=>t σ H λx H1=>∃ i,x=.int i/\Q (some i) H1
section
variable {X:Cx}{e:Expr}{te:TE}{lo hi:Option Expr}{tl th:TO}{pos p2:Pos}
theorem aFE:PO X none vH:=by intro aA s σ H Q I h;rw[evalPart_none];exact aSX ⟨none,H,I,.none,h⟩
theorem aFF(h:PE X e te):PO X (some e) (nF te):=by intro aA s σ H Q I hw;rw[evalPart_some];refine thn (h aA s σ H _ I hw) λu s1 ⟨x,H1,I1,r1,q1⟩=>?_;obtain ⟨i,rfl,q⟩:=q1;obtain ⟨t,rfl⟩:=r1;exact ⟨some i,H1,I1,.int i t,q⟩
def SlR(X:Cx)(r:V->Option Int->Option Int->Hp->VK->Prop):Prop :=
 ∀ (aA:LAO) (s:Shared) (σ:St) (H:Hp) (x:V) (v vl vu:Value) (lo hi:Option Int) (sl:Addr) (Q:VK),Inv X aA σ H s->aS x v->s.heap.IsSliceOf sl vl vu .none->IsPart vl lo->IsPart vu hi->r x lo hi H Q ->
  ∃ T id,typeLookup (.type T) "__getitem__" = pure (some (.builtin id))/\s.TypeIs v T/\wpAny (model X.prog X.w) X.A (getItem v (.ref sl)) (EP X aA σ Q) X.xe s
theorem SlR.or{r r':V->Option Int->Option Int->Hp->VK->Prop}(h:SlR X r)(h':SlR X r'):SlR X (λx lo hi H Q=>r x lo hi H Q\/r' x lo hi H Q):=by
 intro aA s σ H x v vl vu lo hi sl Q I rx hs pl pu q;rcases q with q | q
 . exact h aA s σ H x v vl vu lo hi sl Q I rx hs pl pu q
 . exact h' aA s σ H x v vl vu lo hi sl Q I rx hs pl pu q
def tSl(r:V->Option Int->Option Int->Hp->VK->Prop)(te:TE)(tl th:TO):TE:=λσ H Q=>te σ H λx H1=>tl σ H1 λl H2=>th σ H2 λu H3=>r x l u H3 Q
theorem aFG{r:V->Option Int->Option Int->Hp->VK->Prop}(hr:SlR X r)(he:PE X e te)(hl:PO X lo tl)(hu:PO X hi th):PE X (.Subscript e (.Slice lo hi none p2) pos) (tSl r te tl th):=by
 intro aA s σ H Q I h;refine Subscript_ (thn (he aA s σ H _ I h) λv s1 ⟨x,H1,I1,r1,q1⟩=>?_);refine wpAny_Slice (thn (hl aA s1 σ H1 _ I1 q1) λvl s2 ⟨l,H2,I2,pl,q2⟩=>thn (hu aA s2 σ H2 _ I2 q2) λvu s3 ⟨u,H3,I3,pu,q3⟩=>?_);rw[evalPart_none];refine aSX ?_;have I4:Inv X aA σ H3 { s3 with heap:=s3.heap.push { cls:=.type "slice", data:=.fields #[vl,vu,.none] } }:=I3.kept (t':=s3.toks) λb ob q=>hps q
 obtain ⟨T,id,hT,ht,hg⟩:=hr aA { s3 with heap:=s3.heap.push { cls:=.type "slice", data:=.fields #[vl,vu,.none] } } σ H3 x v vl vu l u s3.heap.objs.size Q I4 r1 (Heap.IsSliceOf.new ..) pl pu q3
 show wpAny (model X.prog X.w) X.A (subscriptTail e (.Slice lo hi none p2) v (.ref s3.heap.objs.size)) (EP X aA σ Q) X.xe { s3 with heap:=s3.heap.push { cls:=.type "slice", data:=.fields #[vl,vu,.none] } }
 exact tail_any (ops:=[.ref s3.heap.objs.size,v]) ht hT hg (by with_unfolding_all rfl)
def gI(xs:List V)(lo hi:Option Int):List V:=(xs.drop (HT.sIx xs.length 0 lo)).take (HT.sIx xs.length xs.length hi-HT.sIx xs.length 0 lo)
theorem vI(xs:List V)(lo hi:Option Int):(gI xs lo hi).length<=xs.length:=by unfold gI;rw[aTR,aUA];omega
def rSlT(K:Fg):V->Option Int->Option Int->Hp->VK->Prop:=λx lo hi H Q=>∃ a xs,x=.ref a/\SqT K H a xs /\
 ¬ (HT.sIx xs.length 0 lo=0/\HT.sIx xs.length xs.length hi=xs.length)/\∀ p,H p=none->Q (.ref p) (upd H p (.tup (gI xs lo hi)))
theorem aFH:SlR X (rSlT X.K):=by
 intro aA s σ H x v vl vu lo hi sl Q I rx hs pl pu h;obtain ⟨a,xs,rfl,hx,hw,q⟩:=h;cases rx;obtain ⟨its,r,ht,hz⟩:=I.tuple hx;have hlen:its.toArray.size=xs.length:=by rw[aTA];exact r.length.symm
 refine ⟨"tuple", _,PyProof.Rows.slot_tuple_getitem.lookup,ht.typeIs,?_⟩;refine HT.aFD ht hs pl pu (by rw[hlen];exact hw) ?_ (by rw[hlen];exact hz)
 rw[hlen];refine ⟨.ref s.heap.objs.size,_,I.laid (t':=s.toks) (o:=.tup (gI xs lo hi)) (λb ob q=>hps q) (aS1 _) ?_,rfl,q _ (I.hok.fresh (aS1 _))⟩;exact ⟨aSI (vI xs lo hi) hz,_,(r.drop (HT.sIx xs.length 0 lo)).take (HT.sIx xs.length xs.length hi-HT.sIx xs.length 0 lo),fH.new _ _⟩
theorem aM.nil_iff{xs:List V}{us:List Value}(r:aM xs us):us=[]↔xs=[]:=by
 cases r with
 | nil=>simp
 | cons _ _=>simp
end
def ixN(n:Nat)(i:Int):Option Nat:=if 0<=i then (if i<n then some i.toNat else none) else if -(n:Int)<=i then some (i+n).toNat else none
def atI{α:Type}(xs:List α)(i:Int):Option α:=(ixN xs.length i).bind λj=>xs[j]?
theorem aFI{n:Nat}{i:Int}{j:Nat}(h:ixN n i=some j):seqIndex? i n=some j/\j<n /\ -(n:Int)<=i/\i<n:=by
 unfold ixN at h;by_cases h0:0<=i
 . rw[if_pos h0] at h;by_cases h1:i<n
   . rw[if_pos h1] at h;have e:i.toNat=j:=aR9 h;exact ⟨by rw[seqIndex_of h0 h1,e],by omega,by omega,h1⟩
   . rw[if_neg h1] at h;cases h
 . rw[if_neg h0] at h;by_cases h1:-(n:Int)<=i
   . rw[if_pos h1] at h;have e:(i+n).toNat=j:=aR9 h;exact ⟨by rw[seqIndex_neg (by omega) h1,e],by omega,h1,by omega⟩
   . rw[if_neg h1] at h;cases h
theorem nG{α:Type}{xs:List α}{i:Int}{v:α}(h:atI xs i=some v):∃ j,seqIndex? i xs.length=some j/\xs[j]? = some v/\j<xs.length /\ -(xs.length:Int)<=i/\i<xs.length:=by
 unfold atI at h;cases e:ixN xs.length i with
 | none=>rw[e] at h;cases h
 | some j=>rw[e] at h;obtain ⟨h1,h2,h3,h4⟩:=aFI e;exact ⟨j,h1,h,h2,h3,h4⟩
theorem k6{α:Type}{xs:List α}{j:Nat}{v:α}(h:xs[j]? = some v):atI xs (j:Int)=some v:=by
 have hj:j<xs.length:=(aSO.mp h).1;have e:ixN xs.length (j:Int)=some j:=by unfold ixN;rw[if_pos (by omega),if_pos (by omega)];simp
 unfold atI;rw[e];exact h
def nH(b:Expr):Prop:=∀ o i,subscripted b false o i=operate [o,i] (getItem o i)
def IxR(X:Cx)(r:R2):Prop :=
 ∀ (value slice:Expr) (aA:LAO) (s:Shared) (σ:St) (H:Hp) (x y:V) (v u:Value) (Q:VK),Inv X aA σ H s->aS x v->aS y u->r x y H Q ->
  subscripted slice false v u=operate [v,u] (getItem v u)->wpAny (model X.prog X.w) X.A (subscriptTail value slice v u) (EP X aA σ Q) X.xe s
def MtR(X:Cx)(id:String)(r:V->List V->Hp->VK->Prop):Prop :=
 ∀ (aA:LAO) (s:Shared) (σ:St) (H:Hp) (x:V) (xs:List V) (v:Value) (us:List Value) (Q:VK),Inv X aA σ H s->aS x v->aM xs us->r x xs H Q ->
  wpAny (model X.prog X.w) X.A (call (.builtin id) (v::us)) (EP X aA σ Q) X.xe s
section
variable {X:Cx}{a b:Expr}{ta tb:TE}{pos:Pos}
theorem IxR.or{r r':R2}(h:IxR X r)(h':IxR X r'):IxR X (λx y H Q=>r x y H Q\/r' x y H Q):=by
 intro value slice aA s σ H x y v u Q I rx ry q hs;rcases q with q | q
 . exact h value slice aA s σ H x y v u Q I rx ry q hs
 . exact h' value slice aA s σ H x y v u Q I rx ry q hs
theorem qE{r:R2}(hr:IxR X r)(ha:PE X a ta)(hb:PE X b tb)(hs:nH b):PE X (.Subscript a b pos) (tOp r ta tb):=by intro aA s σ H Q I h;exact Subscript_ (qA ha hb I h λv u s2 x y H2 I2 rx ry q=>hr a b aA s2 σ H2 x y v u Q I2 rx ry q (hs _ _))
def rIxL(K:Fg):R2:=λx y H Q=>∃ p xs i v,x=.ref p/\y=.int i/\SqL K H p xs/\atI xs i=some v/\Q v H
def rIxT(K:Fg):R2:=λx y H Q=>∃ p xs i v,x=.ref p/\y=.int i/\SqT K H p xs/\atI xs i=some v/\Q v H
def rIxS:R2:=λx y H Q=>∃ z i c,x=.str z/\y=.int i/\z.length<=sizeLine/\atI z.cps.toList i=some c/\Q (.str ⟨#[c]⟩) H
theorem aFJ:IxR X (rIxL X.K):=by
 intro value slice aA s σ H x y v u Q I rx ry h hs;obtain ⟨p,xs,i,z,rfl,rfl,hq,he,q⟩:=h;cases rx;obtain ⟨t,rfl⟩:=ry;obtain ⟨its,r,pl,hz⟩:=I.list hq;obtain ⟨j,h1,h2,h3,h4,h5⟩:=nG he;obtain ⟨w,ew,rw'⟩:=r.get h2;have hl:=r.length;have hn:=kY;have fin:EP X aA σ Q w s:=⟨z,H,I,rw',q⟩;by_cases h0:0<=i
 . have hj:i.toNat=j:=by rw[seqIndex_of h0 h5] at h1;exact aR9 h1
   exact item_listR pl.isList h0 (by omega) (by rw[hj];simpa using ew) fin hs
 . have hj:(i+(its.toArray.size:Int)).toNat=j:=by
     rw[seqIndex_neg (by omega) h4] at h1
     rw[aTA,<- hl];exact aR9 h1
   exact subscriptTail_builtinR (x:=w) pl.isList.typeIs slot_list_getitem.lookup
    (wpAny_getItem_list_neg (Q:=λr s'=>r=w/\EP X aA σ Q r s') pl.isList (by omega) (by rw[aTA] <;> omega) (by omega) (by rw[hj];simpa using ew) ⟨rfl,fin⟩) hs
theorem aFK:IxR X (rIxT X.K):=by
 intro value slice aA s σ H x y v u Q I rx ry h hs;obtain ⟨p,xs,i,z,rfl,rfl,hq,he,q⟩:=h;cases rx;obtain ⟨t,rfl⟩:=ry;obtain ⟨its,r,pl,hz⟩:=I.tuple hq;obtain ⟨j,h1,h2,h3,h4,h5⟩:=nG he;obtain ⟨w,ew,rw'⟩:=r.get h2;have hl:=r.length;have hn:=kY;have fin:EP X aA σ Q w s:=⟨z,H,I,rw',q⟩;exact subscriptTail_builtinR (x:=w) pl.typeIs slot_tuple_getitem.lookup
  (getItem_tuple (j:=j) (Q:=λr s'=>r=w/\EP X aA σ Q r s') pl (by omega) (by omega) (by rw[aTA,<- hl];exact h1) (by simpa using ew) ⟨rfl,fin⟩) hs
theorem aFL:IxR X rIxS:=by
 intro value slice aA s σ H x y v u Q I rx ry h hs;obtain ⟨z,i,c,rfl,rfl,hz,he,q⟩:=h;obtain ⟨t,rfl⟩:=rx;obtain ⟨t',rfl⟩:=ry;obtain ⟨j,h1,h2,h3,h4,h5⟩:=nG he;have hl:z.cps.toList.length=z.length:=by simp[Str.length]
 rw[hl] at h1 h4 h5;have hn:=kY;exact tail_any (typeIs_str s z t) slot_str_getitem.lookup (getItem_str (c:=c) (by
  have e1:decide (i < -(2 ^ 63:Int))=false:=aR6 (by omega)
  have e2:decide (i ≥ 2 ^ 63)=false:=aR6 (by omega)
  rw[e1,e2,aUI]) (by rw[h1];simpa using h2) ⟨.str ⟨#[c]⟩,H,I.tok _,⟨_,rfl⟩,q⟩) hs
def rIx(K:Fg):R2:=λx y H Q=>rIxL K x y H Q\/rIxT K x y H Q\/rIxS x y H Q
theorem aFM:IxR X (rIx X.K):=aFJ.or (aFK.or aFL)
theorem aFN(lo hi:Option Int)(n:Nat):(sliceBounds lo hi none n).1=((HT.sIx n 0 lo:Nat):Int)/\(sliceBounds lo hi none n).2.1=((HT.sIx n n hi:Nat):Int)/\(sliceBounds lo hi none n).2.2=1:=by
 refine ⟨?_,?_,rfl⟩
 . cases lo with
   | none=>simp[sliceBounds,HT.sIx]
   | some i =>
    simp only[sliceBounds,HT.sIx,aUJ,show (1:Int) > 0 by decide,aT8]
    by_cases h:i<0
    . simp only[h,aT8] <;> omega
    . simp only[h,aT7] <;> omega
 . cases hi with
   | none=>simp[sliceBounds,HT.sIx]
   | some i =>
    simp only[sliceBounds,HT.sIx,aUJ,show (1:Int) > 0 by decide,aT8]
    by_cases h:i<0
    . simp only[h,aT8] <;> omega
    . simp only[h,aT7] <;> omega
theorem aFO(its:List Value)(lo hi:Option Int):slicePick its.toArray lo hi none=((its.drop (HT.sIx its.length 0 lo)).take (HT.sIx its.length its.length hi-HT.sIx its.length 0 lo)).toArray:=by obtain ⟨h1,h2,h3⟩:=aFN lo hi its.toArray.size;unfold slicePick;rw[h1,h2,h3];simp only[sliceRange_one,pick_run,aTA] <;> rfl
def rSlL(K:Fg):V->Option Int->Option Int->Hp->VK->Prop:=λx lo hi H Q=>∃ a xs,x=.ref a/\SqL K H a xs/\∀ p,H p=none->Q (.ref p) (upd H p (.lst (gI xs lo hi)))
theorem aFP:SlR X (rSlL X.K):=by
 intro aA s σ H x v vl vu lo hi sl Q I rx hs pl pu h;obtain ⟨a,xs,rfl,hx,q⟩:=h;cases rx;obtain ⟨its,r,ht,hz⟩:=I.list hx;have hlen:=r.length;refine ⟨"list", _,slot_list_getitem.lookup,ht.isList.typeIs,?_⟩;refine wpAny_getItem_list_slice ht.isList hs pl pu .none (by simp) ?_ (by rw[aTA] <;> omega)
 rw[aFO,<- hlen];refine ⟨.ref s.heap.objs.size,_,I.laid (t':=s.toks) (o:=.lst (gI xs lo hi)) (λb ob q=>hps q) (aS1 _) ?_,rfl,q _ (I.hok.fresh (aS1 _))⟩;exact ⟨aSI (vI xs lo hi) hz,_,0,(r.drop (HT.sIx xs.length 0 lo)).take (HT.sIx xs.length xs.length hi-HT.sIx xs.length 0 lo),aSA _ rfl⟩
def hZ:V->Bool
 | .non=>true
 | .bl _=>true
 | .int _=>true
 | .str _=>true
 | _=>false
def eqV:V->V->Bool
 | .non,.non=>true
 | .bl a,.bl b=>a==b
 | .bl a,.int b=>(if a then 1 else 0)==b
 | .int a,.bl b=>a==(if b then 1 else 0)
 | .int a,.int b=>a==b
 | .str a,.str b=>a==b
 | _,_=>false
theorem vJ{A:Around}{s:Shared}{y x:V}{u v:Value}(ry:aS y u)(rx:aS x v)(fy:hZ y=true)(fx:hZ x=true):SeqAt.EqAt A s u v (eqV y x):=by
 cases y with
 | non =>
  cases ry;cases x with
  | non=>cases rx;exact SeqAt.EqAt.same _
  | bl b=>cases rx;exact SeqAt.EqAt.none_bool b
  | int b=>obtain ⟨t,rfl⟩:=rx;exact SeqAt.EqAt.none_int b t
  | str b=>obtain ⟨t,rfl⟩:=rx;exact SeqAt.EqAt.none_str b t
  | _=>exact absurd (show false=true from fx) aS8
 | bl a =>
  cases ry;cases x with
  | non=>cases rx;exact SeqAt.EqAt.bool_none a
  | bl b=>cases rx;exact SeqAt.EqAt.bool_bool a b
  | int b=>obtain ⟨t,rfl⟩:=rx;exact SeqAt.EqAt.bool_int a b t
  | str b=>obtain ⟨t,rfl⟩:=rx;exact SeqAt.EqAt.bool_str a b t
  | _=>exact absurd (show false=true from fx) aS8
 | int a =>
  obtain ⟨t',rfl⟩:=ry;cases x with
  | non=>cases rx;exact SeqAt.EqAt.int_none a t'
  | bl b=>cases rx;exact SeqAt.EqAt.int_bool a t' b
  | int b=>obtain ⟨t,rfl⟩:=rx;exact SeqAt.EqAt.int_int a t' b t
  | str b=>obtain ⟨t,rfl⟩:=rx;exact SeqAt.EqAt.int_str a t' b t
  | _=>exact absurd (show false=true from fx) aS8
 | str a =>
  obtain ⟨t',rfl⟩:=ry;cases x with
  | non=>cases rx;exact SeqAt.EqAt.str_none a t'
  | bl b=>cases rx;exact SeqAt.EqAt.str_bool a t' b
  | int b=>obtain ⟨t,rfl⟩:=rx;exact SeqAt.EqAt.str_int a t' b t
  | str b=>obtain ⟨t,rfl⟩:=rx;exact SeqAt.EqAt.str_str a t' b t
  | _=>exact absurd (show false=true from fx) aS8
 | _=>exact absurd (show false=true from fy) aS8
theorem cG.or{f:Value}{r r':List V->Hp->VK->Prop}(h:cG X f r)(h':cG X f r'):cG X f (λxs H Q=>r xs H Q\/r' xs H Q):=by
 intro aA s σ H xs us Q I rs q;rcases q with q | q
 . exact h aA s σ H xs us Q I rs q
 . exact h' aA s σ H xs us Q I rs q
theorem aFQ:cG X (.type "list") (λxs H Q=>∃ p ys,xs=[.ref p]/\(SqL X.K H p ys\/SqT X.K H p ys)/\∀ l,H l=none->Q (.ref l) (upd H l (.lst ys))):=by
 intro aA s σ H xs us Q I r h; obtain ⟨p, ys, rfl, hq, q⟩ := h; obtain ⟨u, rfl, rx⟩ := cH r; cases rx; have fin : ∀ (its : List Value), aM ys its → ys.length ≤ sizeLine → ∀ (h' : Heap) (c' : Nat), (∀ b o', s.heap.get? b = some o' → h'.get? b = some o') →
     h'.get? s.heap.objs.size=some { cls:=.type "list", dict:=none,data:=.seq its.toArray c',slots:=#[] } -> EP X aA σ Q (.ref s.heap.objs.size) { s with heap:=h' }:=λits r' hz h' c' kp e =>
  ⟨.ref s.heap.objs.size,_,I.laid (t':=s.toks) kp (aS1 _) (show bD X.prog X.w _ h' _ (.lst ys) from ⟨hz,its,c',r',e⟩),rfl,q _ (I.hok.fresh (aS1 _))⟩
 rcases hq with hq | hq
 . obtain ⟨its,r',pl,hz⟩:=I.list hq;have hlen:=r'.length;obtain ⟨o,ho,hc,n,hd⟩:=pl.isList;exact call_list_seq p (.inl rfl) ho hc hd (λh' c' kp e=>fin its r' hz h' c' kp e) (by simp only[aTA] <;> omega)
 . obtain ⟨its,r',pl,hz⟩:=I.tuple hq;have hlen:=r'.length;obtain ⟨o,ho,hc,n,hd⟩:=pl;exact call_list_seq p (.inr rfl) ho hc hd (λh' c' kp e=>fin its r' hz h' c' kp e) (by simp only[aTA] <;> omega)
theorem aFR:cG X (.type "tuple") (λxs H Q=>∃ p ys,xs=[.ref p]/\((SqL X.K H p ys/\∀ l,H l=none->Q (.ref l) (upd H l (.tup ys)))\/(SqT X.K H p ys/\Q (.ref p) H))):=by
 intro aA s σ H xs us Q I r h;obtain ⟨p,ys,rfl,h⟩:=h;obtain ⟨u,rfl,rx⟩:=cH r;cases rx;rcases h with ⟨hq,q⟩ | ⟨hq,q⟩
 . obtain ⟨its,r',pl,hz⟩:=I.list hq;have hlen:=r'.length;refine call_tuple_list pl.isList (λh' kp=>?_) (by simp only[aTA] <;> omega)
   have I1:Inv X aA σ H { s with heap:=h' }:=I.kept (t':=s.toks) kp
   have I2:Inv X aA σ (upd H h'.objs.size (.tup ys)) { s with heap:=h'.push { cls:=.type "tuple", data:=.seq its.toArray } } :=
    I1.laid (t':=s.toks) (λb o e=>hps e) (aS1 _) (show bD X.prog X.w _ _ _ (.tup ys) from ⟨hz,its,r',fH.new _ _⟩)
   exact ⟨.ref h'.objs.size,_,I2,rfl,q _ (I1.hok.fresh (aS1 _))⟩
 . obtain ⟨its,r',pl,hz⟩:=I.tuple hq;exact call_tuple_same pl ⟨.ref p,H,I,rfl,q⟩
def tyV(K:Fg)(T:String)(x:V)(H:Hp):Prop:=match x with
 | .str _=>T = "str"
 | .int _=>T = "int"
 | .ref p => (T = "list" ∧ ∃ xs, SqL K H p xs) ∨ (T = "tuple" ∧ ∃ o, K.lookup p = some o ∧ o.cls = .type "tuple" ∧ o.dict = none) ∨
     (T = "dict" /\ ((∃ kvs,H p=some (.dK kvs))\/∃ kvs,H p=some (.dT kvs)))\/(T = "set" /\ ∃ S n,H p=some (.set S n))
 | _=>False
theorem aFS{aA:LAO}{σ:St}{H:Hp}{s:Shared}{T:String}{x:V}{v:Value}(I:Inv X aA σ H s)(r:aS x v)(ty:tyV X.K T x H):s.TypeIs v T/\∀ a,v=.ref a->∃ ob,s.heap.get? a=some ob/\ob.dict=none:=by
 cases x with
 | str z =>
  obtain ⟨t,rfl⟩:=r;cases (show T = "str" from ty)
  exact ⟨typeIs_str s z t,λ_ e=>nomatch e⟩
 | int i =>
  obtain ⟨t,rfl⟩:=r;cases (show T = "int" from ty)
  exact ⟨typeIs_int s i t,λ_ e=>nomatch e⟩
 | ref p =>
  cases r;rcases ty with ⟨rfl,xs,hq⟩ | ⟨rfl,o,hk,hc,hd⟩ | ⟨rfl,hk⟩ | ⟨rfl,S,n,hk⟩
  . obtain ⟨its,_,pl,_⟩:=I.list hq;refine ⟨pl.isList.typeIs,λa e=>?_⟩;cases e;obtain ⟨o,n,e,c,hd,_⟩:=pl;exact ⟨o,e,hd⟩
  . refine ⟨⟨o,I.kIn p o hk,hc⟩,λa e=>?_⟩;cases e;exact ⟨o,I.kIn _ o hk,hd⟩
  . have z:∃ o,s.heap.get? p=some o/\o.ExactDict:=by
      rcases hk with ⟨kvs,hk⟩ | ⟨kvs,hk⟩
      . obtain ⟨_,_,_,_,o,_,_,e,ex,_⟩:=I.hok p _ hk;exact ⟨o,e,ex⟩
      . obtain ⟨_,_,_,_,o,_,_,e,ex,_⟩:=I.hok p _ hk;exact ⟨o,e,ex⟩
    obtain ⟨o,e,ex⟩:=z;refine ⟨⟨o,e,ex.1⟩,λa e2=>?_⟩;cases e2;exact ⟨o,e,ex.2.1⟩
  . obtain ⟨o,_,_,_,e,ex,_⟩:=I.hok p _ hk;refine ⟨⟨o,e,ex.1⟩,λa e2=>?_⟩;cases e2;exact ⟨o,e,ex.2.1⟩
 | _=>exact False.elim ty
def tBM(K:Fg)(T:String)(r:V->List V->Hp->VK->Prop)(to:TE)(t:TA):TE:=λσ H Q=>to σ H λx H1=>tyV K T x H1/\t σ H1 λxs H2=>r x xs H2 Q
variable {o e:Expr}{es:List Expr}{to:TE}{t:TA}{name:Str}{apos cpos:Pos}{T id:String}{r:V->List V->Hp->VK->Prop}
theorem qF(pa:PlainAttrs T)(slot:Slot T name id)(hty:typeOf (.builtin id)=pure (.type "method_descriptor"))(hm:MtR X id r)(ho:PE X o to)(ha:PA X (e::es) t)(hbase:attributeBase o name X.env (eval o X.env)=eval o X.env:=by rfl)(hfew:((backTo cpos (starEach (e::es) X.env)).all (λx=>!x.1)&&(backToKw cpos (keywordEach [] X.env)).all (λx=>x.1.isSome)&&decide ((e::es).length+([]:List Keyword).length+(if ([]:List Keyword).isEmpty then 0 else 1)<30))=true:=by rfl)(hline:(apos.endLine==cpos.line)=true:=by rfl)(hs:starEach (e::es) X.env=(false,eval e X.env)::starEach es X.env:=by rfl)(hplain:(backTo cpos (starEach es X.env)).any (·.1)=false:=by rfl):PE X (.Call (.Attribute o name apos) (e::es) [] cpos) (tBM X.K T r to t):=by
 intro aA s σ H Q I h;refine wpAny_Call_method_late hbase hfew hline rfl (thn (ho aA s σ H _ I h) λv s1 ⟨x,H1,I1,r1,ty,q1⟩=>?_);obtain ⟨h1,h2⟩:=aFS I1 r1 ty;refine ⟨T,id,pa,slot,hty,h1,h2,?_⟩;have hA:=ha cpos aA s1 σ H1 _ I1 q1;rw[hs] at hA ⊢;refine Calls.callWith_builtin (by show (false||(backTo cpos (starEach es X.env)).any (·.1))=false;rw[hplain] <;> rfl) (Calls.evalArgs_plain ?_)
 exact thn hA λus s2 ⟨vs,H2,I2,r2,q2⟩=>hm aA s2 σ H2 x vs v us Q I2 r1 r2 q2
end
def MtM(X:Cx)(id:String)(r:V->List V->Hp->VK->Prop):Prop :=
 ∀ (aA:LAO) (s:Shared) (σ:St) (H:Hp) (x:V) (xs:List V) (v:Value) (us:List Value) (Q:VK),Inv X aA σ H s->aS x v->aM xs us->r x xs H Q ->
  wpAny (model X.prog X.w) X.A (call (.builtin id) (v::us)) (EP X aA σ Q) X.xe s
theorem aM.one:∀ {x:V} {us:List Value},aM [x] us->∃ u,us=[u]/\aS x u
 | _,_,.cons r .nil=>⟨_,rfl,r⟩
section
variable {X:Cx}{aA:LAO}{σ:St}{H:Hp}{s:Shared}{l b:Addr}{xs ys zs:List V}
theorem Inv.lset{its its':List Value}{n:Nat}{f:Array Value->Array Value}{t':Nat}(I:Inv X aA σ H s)(hH:H l=some (.lst xs))(e:s.heap.get? l=some { cls:=.type "list", data:=.seq its.toArray n })(hf:f its.toArray=its'.toArray)(hv:aM ys its')(hz:ys.length<=sizeLine):Inv X aA σ (upd H l (.lst ys)) { s with heap:=s.heap.update l (Obj.mapSeq f),toks:=t' }:=by
 have q:=PySem.IsL.update e f;rw[hf] at q;refine I.write (x:=l) (e:=l) (by rw[hH];exact trivial) (.inl rfl) (λb' u hb hu=>(aUK s.heap (Obj.mapSeq f) (Ne.symm hb)).trans hu) ⟨_,q⟩ ?_
 exact ⟨hz,its',_,hv,q⟩
theorem Inv.lstM(I:Inv X aA σ H s)(hH:H l=some (.lst xs)):xs.length<=sizeLine/\∃ (its:List Value) (n:Nat),aM xs its/\xs.length=its.length/\s.heap.get? l=some { cls:=.type "list", data:=.seq its.toArray n }:=by obtain ⟨z,its,n,r,e⟩:=I.hok l _ hH;exact ⟨z,its,n,r,r.length,e⟩
theorem aFT{n:Nat}(h:n<=sizeLine):Builtin.List.listTooLong n=false:=by unfold Builtin.List.listTooLong;exact aR6 (by omega)
end
section
variable {X:Cx}
def aFU:V->List V->Hp->VK->Prop:=λx vs H Q=>∃ l xs y,x=.ref l/\vs=[y]/\H l=some (.lst xs)/\xs.length<sizeLine/\Q .non (upd H l (.lst (xs++[y])))
theorem nI:MtM X "list.append" aFU:=by
 intro aA s σ H x vs v us Q I rx rv h;obtain ⟨l,xs,y,rfl,rfl,hH,hz,q⟩:=h;cases rx;obtain ⟨u,rfl,ru⟩:=rv.one;obtain ⟨z,its,n,r,hl,e⟩:=I.lstM hH;refine call_meets F.slot_list_append ⟨_,e,rfl⟩ F.entry_list_append (F.args_list_append_2 _ _) (PySem.list_append l its.toArray n u (by rw[aTA];omega)) ⟨e,?_⟩
 refine ⟨.non,_,I.lset (its':=its++[u]) hH e (by simp) (r.append (.cons ru .nil)) ?_,rfl,q⟩
 rw[aTY,List.length_singleton];omega
def aFV:V->List V->Hp->VK->Prop:=λx vs H Q=>∃ l b xs zs,x=.ref l/\vs=[.ref b]/\H l=some (.lst xs)/\H b=some (.lst zs)/\xs.length+zs.length<=sizeLine/\Q .non (upd H l (.lst (xs++zs)))
theorem aFW:MtM X "list.extend" aFV:=by
 intro aA s σ H x vs v us Q I rx rv h;obtain ⟨l,b,xs,zs,rfl,rfl,hH,hB,hz,q⟩:=h;cases rx;obtain ⟨u,rfl,ru⟩:=rv.one;cases ru;obtain ⟨z,its,n,r,hl,e⟩:=I.lstM hH;obtain ⟨z2,its2,n2,r2,hl2,e2⟩:=I.lstM hB;have hsz:its.toArray.size+its2.toArray.size<=sizeLine:=by rw[aTA,aTA];omega
 have hlong:¬ (!its.toArray.isEmpty&&Builtin.List.listTooLong (its.toArray.size+its2.toArray.size))=true:=by rw[aFT hsz,Bool.and_false];exact aS8
 refine call_meets F.slot_list_extend ⟨_,e,rfl⟩ F.entry_list_extend (F.args_list_extend_2 _ _)
  (AutoSeq1.list_extend_list_list_0 l its.toArray n b its2.toArray n2 hlong (by rw[aTA];omega) (by omega)) ⟨e,e2,?_⟩
 refine ⟨.non,_,I.lset (its':=its++its2) hH e (by simp) (r.append r2) ?_,rfl,q⟩
 rw[aTY];omega
end
section
variable {prog:Program}{w:World}{A:Around}{E:VSP}{s:Shared}
end
section
variable {X:Cx}
end
section
variable {κ:Type}[DecidableEq κ]
def eB(kvs:List (κ×V))(k:κ):Option V:=(kvs.find? λkv=>decide (kv.1=k)).map (·.2)
def eJ(kvs:List (κ×V))(k:κ)(v:V):List (κ×V) :=
 if (kvs.any λkv=>decide (kv.1=k))=true then kvs.map (λkv=>if kv.1=k then (kv.1,v) else kv) else kvs++[(k,v)]
theorem nJ{p:κ×V}{r:List (κ×V)}{k:κ}(e:p.1=k):eB (p::r) k=some p.2:=by simp[eB,aUL,e]
theorem nK{p:κ×V}{r:List (κ×V)}{k:κ}(e:¬ p.1=k):eB (p::r) k=eB r k:=by simp[eB,aUL,e]
theorem vK(k:κ):∀ kvs:List (κ×V),(kvs.any λkv=>decide (kv.1=k))=(eB kvs k).isSome
 | []=>rfl
 | p::r=>by
  rw[aUM];by_cases e:p.1=k
  . simp only[nJ e,aUN e,Bool.true_or,Option.isSome_some]
  . rw[nK e,aR6 e,Bool.false_or];exact vK k r
theorem vL(kvs:List (κ×V))(k:κ)(v:V):(eJ kvs k v).length<=kvs.length+1:=by
 unfold eJ;split
 . rw[aTZ];omega
 . rw[aTY,aUO,aUP];omega
theorem dW.isSome_eq{o:Option V}{u:Option Value}(r:dW o u):o.isSome=u.isSome:=by
 cases o with
 | none=>cases u with
  | none=>rfl
  | some _=>exact (show False from r).elim
 | some _=>cases u with
  | none=>exact (show False from r).elim
  | some _=>rfl
theorem KV.val{kvs:List (κ×V)}{vs:List (κ×Value)}(r:KV kvs vs)(k:κ):dW (eB kvs k) (valueAt vs k):=by
 unfold KV at r
 induction r with
 | nil=>exact True.intro
 | @cons p q ps qs h t ih =>
  obtain ⟨h1,h2⟩:=h;by_cases e:p.1=k
  . have e':q.1=k:=h1.symm.trans e;have b:valueAt (q::qs) k=some q.2:=by simp[valueAt,aUL,e']
    rw[nJ e,b];exact h2
  . have e':¬ q.1=k:=λz=>e (h1.trans z);have b:valueAt (q::qs) k=valueAt qs k:=by simp[valueAt,aUL,e']
    rw[nK e,b];exact ih
theorem KV.any{kvs:List (κ×V)}{vs:List (κ×Value)}(r:KV kvs vs)(k:κ):(kvs.any λkv=>decide (kv.1=k))=vs.any λkv=>decide (kv.1=k):=by
 unfold KV at r
 induction r with
 | nil=>rfl
 | cons h t ih=>rw[aUM,aUM,ih,h.1]
theorem KV.repl{kvs:List (κ×V)}{vs:List (κ×Value)}(r:KV kvs vs)(k:κ){y:V}{u:Value}(ry:aS y u):KV (kvs.map λkv=>if kv.1=k then (kv.1,y) else kv) (vs.map λkv=>if kv.1=k then (kv.1,u) else kv):=by
 unfold KV at r ⊢
 induction r with
 | nil=>exact .nil
 | @cons p q ps qs h t ih =>
  rw[aUQ,aUQ];refine .cons ?_ ih;obtain ⟨h1,h2⟩:=h;by_cases e:p.1=k
  . rw[if_pos e,if_pos (h1.symm.trans e)];exact ⟨h1,ry⟩
  . rw[if_neg e,if_neg (λz=>e (h1.trans z))];exact ⟨h1,h2⟩
theorem KV.put{kvs:List (κ×V)}{vs:List (κ×Value)}(r:KV kvs vs)(k:κ){y:V}{u:Value}(ry:aS y u):KV (eJ kvs k y) (stored vs k u):=by
 unfold eJ stored;rw[r.any k];by_cases e:(vs.any λkv=>decide (kv.1=k))=true
 . rw[if_pos e,if_pos e];exact r.repl k ry
 . rw[if_neg e,if_neg e];exact Paired.snoc r ⟨rfl,ry⟩
theorem KV.keys{kvs:List (κ×V)}{vs:List (κ×Value)}(r:KV kvs vs):kvs.map (·.1)=vs.map (·.1):=by
 unfold KV at r
 induction r with
 | nil=>rfl
 | cons h t ih=>rw[aUQ,aUQ,ih,h.1]
theorem KV.length{kvs:List (κ×V)}{vs:List (κ×Value)}(r:KV kvs vs):kvs.length=vs.length:=aR8 r
end
theorem qG{P:Program}{w:World}{k:Key}{u:Value}(r:aS (kV k) u):(cO P w).is k u=true:=by
 cases k with
 | inl i=>obtain ⟨t,e⟩:=(show ∃ t,u=Value.int i t from r);subst e;exact aDE P w i t
 | inr x=>obtain ⟨t,e⟩:=(show ∃ t,u=Value.str x t from r);subst e;exact aDF P w x t
theorem vM{P:Program}{w:World}:∀ {ks:List Key} {us:List Value},aM (ks.map kV) us->ItemsAre (cO P w) ks us
 | [],_,r=>by rw[aUR] at r;cases r;exact .nil
 | k::ks,_,r=>by
  rw[aUQ] at r;cases r with
  | cons h t=>exact .cons (qG h) (vM t)
abbrev KT(H:Hp):List (List Key×V)->List (List Key×Addr×Value)->Prop:=Paired λp q=>p.1=q.1/\H q.2.1=some (.tup (p.1.map kV))/\aS p.2 q.2.2
theorem KT.val{H:Hp}{kvs:List (List Key×V)}{xs:List (List Key×Addr×Value)}(r:KT H kvs xs)(k:List Key):dW (eB kvs k) ((atKey xs k).map (·.2)):=by
 induction r with
 | nil=>exact True.intro
 | @cons p q ps qs h t ih =>
  obtain ⟨h1,_,h2⟩:=h;by_cases e:p.1=k
  . have e':q.1=k:=h1.symm.trans e;have b:atKey (q::qs) k=some q.2:=by simp[atKey,aUL,e']
    rw[nJ e,b];exact h2
  . have e':¬ q.1=k:=λz=>e (h1.trans z);have b:atKey (q::qs) k=atKey qs k:=by simp[atKey,aUL,e']
    rw[nK e,b];exact ih
theorem KT.repl{H:Hp}{kvs:List (List Key×V)}{xs:List (List Key×Addr×Value)}(r:KT H kvs xs)(k:List Key){y:V}{u:Value}(ry:aS y u):KT H (kvs.map λkv=>if kv.1=k then (kv.1,y) else kv) (xs.map (putAt k u)):=by
 induction r with
 | nil=>exact .nil
 | @cons p q ps qs h t ih =>
  rw[aUQ,aUQ];refine .cons ?_ ih;obtain ⟨h1,h2,h3⟩:=h;unfold putAt;by_cases e:p.1=k
  . rw[if_pos e,if_pos (h1.symm.trans e)];exact ⟨h1,h2,ry⟩
  . rw[if_neg e,if_neg (λz=>e (h1.trans z))];exact ⟨h1,h2,h3⟩
theorem KT.put{H:Hp}{kvs:List (List Key×V)}{xs:List (List Key×Addr×Value)}(r:KT H kvs xs)(k:List Key){b:Addr}{y:V}{u:Value}(hb:H b=some (.tup (k.map kV)))(ry:aS y u):KT H (eJ kvs k y) (storedH xs k b u):=by
 have e:(kvs.any λkv=>decide (kv.1=k))=(atKey xs k).isSome:=by rw[vK,(r.val k).isSome_eq,Option.isSome_map]
 unfold eJ storedH;rw[e];by_cases q:(atKey xs k).isSome=true
 . rw[if_pos q,if_pos q];exact r.repl k ry
 . rw[if_neg q,if_neg q];exact Paired.snoc r ⟨rfl,hb,ry⟩
theorem KT.keeps{H H':Hp}{kvs:List (List Key×V)}{xs:List (List Key×Addr×Value)}(r:KT H kvs xs)(ht:∀ b ys,H b=some (.tup ys)->H' b=some (.tup ys)):KT H' kvs xs :=
 Paired.mapP r λ_ _ z=>⟨z.1,ht _ _ z.2.1,z.2.2⟩
section
variable {P:Program}{w:World}{H:Hp}{h:Heap}{a:Addr}
theorem vN{u:HO}(ok:HOk P w H h)(e:Rd H a u):bD P w H h a u:=e.ok ok
theorem nL{kvs:List (Key×V)}(ok:HOk P w H h)(e:Rd H a (.dK kvs)):kvs.length<=sizeLine/\(a==sysModules)=false/\∃ vs,KV kvs vs/\h.DictOf (cO P w) a vs :=
 show bD P w H h a (.dK kvs) from vN ok e
theorem qH{kvs:List (Key×V)}(ok:HOk P w H h)(e:H a=some (.dK kvs)):kvs.length<=sizeLine/\(a==sysModules)=false/\∃ vs,KV kvs vs/\h.DictOf (cO P w) a vs:=nL ok (.inl e)
theorem qI{ks:List Key}(ok:HOk P w H h)(e:H a=some (.tup (ks.map kV))):(tupleKind (cO P w)).is h ks a:=by
 obtain ⟨_,its,r,o,h1,h2,_,n,h3⟩:=(show bD P w H h a (.tup (ks.map kV)) from ok a _ e)
 exact ⟨o,its.toArray,n,h1,h2,h3,by simpa using vM r⟩
theorem qJ{kvs:List (List Key×V)}(ok:HOk P w H h)(e:Rd H a (.dT kvs)):kvs.length<=sizeLine/\(a==sysModules)=false/\∃ xs,KT H kvs xs/\h.DictOfH (tupleKind (cO P w)) a xs:=by
 obtain ⟨z,y,xs,r,o,es,ep,h1,h2,h3,h4,h5⟩:=(show bD P w H h a (.dT kvs) from vN ok e)
 refine ⟨z,y,xs,r,o,es,ep,h1,h2,h3,h4,λx hx=>?_,h5⟩;have all:∀ {l:List (List Key×V)} {m:List (List Key×Addr×Value)},KT H l m->∀ x∈m,(tupleKind (cO P w)).is h x.1 x.2.1:=by
  intro l m q
  induction q with
  | nil=>intro x hx;exact nomatch hx
  | @cons p q ps qs hq t ih =>
   intro x hx;rcases aSL.mp hx with e | hx
   . subst e;exact qI ok (by rw[<- hq.1];exact hq.2.1)
   . exact ih x hx
 exact all r x hx
theorem dt_of{kvs:List (List Key×V)}(ok:HOk P w H h)(e:H a=some (.dT kvs)):kvs.length<=sizeLine/\(a==sysModules)=false/\∃ xs,KT H kvs xs/\h.DictOfH (tupleKind (cO P w)) a xs:=qJ ok (.inl e)
end
def k7(H:Hp)(a:Addr)(y:V)(r:Option V):Prop :=
 (∃ kvs k,Rd H a (.dK kvs)/\y=kV k/\r=eB kvs k)\/∃ kvs k b,Rd H a (.dT kvs)/\y=.ref b/\H b=some (.tup (k.map kV))/\r=eB kvs k
def DPut(H:Hp)(a:Addr)(y v:V)(H':Hp):Prop :=
 (∃ kvs k,H a=some (.dK kvs)/\y=kV k/\kvs.length<sizeLine/\H'=upd H a (.dK (eJ kvs k v))) \/
 ∃ kvs k b,H a=some (.dT kvs)/\y=.ref b/\H b=some (.tup (k.map kV))/\kvs.length<sizeLine/\H'=upd H a (.dT (eJ kvs k v))
section
variable {X:Cx}{aA:LAO}{σ:St}{H:Hp}{s:Shared}{a:Addr}{y v:V}{u r:Value}{o:Option V}{A:Around}{E:VSP}
theorem Inv.big(I:Inv X aA σ H s):sysModules<s.heap.objs.size:=by have h:mainGlobals<s.heap.objs.size:=(I.mod.glob.keeps I.bk).lt;exact Nat.lt_trans (by decide) h
theorem aFX{Q:VSP}(hu:A.units+1<cLine)(I:Inv X aA σ H s)(g:k7 H a y (some v))(ry:aS y u)(h:∀ w' s',Inv X aA σ H s'->aS v w'->Q w' s'):wpAny (model X.prog X.w) A (getItem (.ref a) u) Q E s:=by
 rcases g with ⟨kvs,k,e,ey,l⟩ | ⟨kvs,k,b,e,ey,eb,l⟩
 . subst ey;obtain ⟨z,hd,vs,rel,dd⟩:=nL I.hok e;obtain ⟨w',hw,rw'⟩:=dW.some_of (v:=v) (o:=valueAt vs k) (by rw[l];exact rel.val k)
   exact wpAny_getItem_of (qG ry) dd.mapOf hw (h w' _ (I.tok _) rw')
 . subst ey;cases (show u=Value.ref b from ry)
   obtain ⟨z,hd,xs,rel,dd⟩:=qJ I.hok e;obtain ⟨w',hw,rw'⟩:=dW.some_of (v:=v) (o:=(atKey xs k).map (·.2)) (by rw[l];exact rel.val k)
   obtain ⟨p,hp,hp2⟩:=Option.map_eq_some_iff.mp hw;refine wpAny_getItem_heap (tupleKind_room_in1 hu) (qI I.hok eb) dd hp ?_;rw[hp2];exact h w' _ (I.tok _) rw'
theorem vO{h':Heap}{t':Nat}{ob:HO}(I:Inv X aA σ H s)(mu:Mut (H a))(hs:Heap.SameBut a s.heap h')(he:∃ q,h'.get? a=some q)(new:bD X.prog X.w (upd H a ob) h' a ob):Inv X aA σ (upd H a ob) { s with heap:=h',toks:=t' } :=
 I.write (x:=a) (e:=a) mu (.inl rfl) (λb q hb z=>(hs.2 b hb).trans z) he new
theorem vP{P:Program}{w:World}{H':Hp}{h':Heap}{kvs:List (Key×V)}{vs:List (Key×Value)}(z:kvs.length<=sizeLine)(hd:(a==sysModules)=false)(rel:KV kvs vs)(dd:h'.DictOf (cO P w) a vs):bD P w H' h' a (.dK kvs):=⟨z,hd,vs,rel,dd⟩
theorem aFY{H':Hp}{Q:Unit->Shared->Prop}(hu:A.units+1<cLine)(I:Inv X aA σ H s)(g:DPut H a y v H')(ry:aS y u)(rv:aS v r)(h:∀ s',Inv X aA σ H' s'->Q () s'):wpAny (model X.prog X.w) A (setItem (.ref a) u r) Q E s:=by
 rcases g with ⟨kvs,k,e,ey,l,eH⟩ | ⟨kvs,k,b,e,ey,eb,l,eH⟩
 . subst ey eH;obtain ⟨z,hd,vs,rel,dd⟩:=qH I.hok e;have hz:vs.length<=sizeLine:=by rw[<- rel.length];exact z
   have hl:(eJ kvs k v).length<=sizeLine:=by have:=vL kvs k v;omega
   refine wpAny_setItem_pairs (hsz:=hz) (qG ry) dd λh' dd' hs=>h _ ?_;have he:∃ q,h'.get? a=some q:=let ⟨q,_,_,hq,_⟩:=dd';⟨q,hq⟩
   exact vO I (by rw[e];exact True.intro) hs he (vP hl hd (rel.put k rv) dd')
 . subst ey eH;cases (show u=Value.ref b from ry)
   obtain ⟨z,hd,xs,rel,dd⟩:=dt_of I.hok e;have hz:xs.length<=sizeLine:=by rw[<- aR8 rel];exact z
   have hl:(eJ kvs k v).length<=sizeLine:=by have:=vL kvs k v;omega
   refine wpAny_setItem_heap (hsz:=hz) (tupleKind_room_in1 hu) (qI I.hok eb) dd λh' dd' hs=>h _ ?_;obtain ⟨q,es,ep,hq,h2,h3,h4,_,h5⟩:=dd';refine vO I (by rw[e];exact True.intro) hs ⟨q,hq⟩ ⟨hl,hd,_,(rel.put k eb rv).keeps λc ys ec=>?_,q,es,ep,hq,h2,h3,h4,h5⟩
   rw[aN (ne_of ec e (λz=>nomatch z))];exact ec
end
section
variable {X:Cx}{aA:LAO}{σ:St}{H:Hp}{s:Shared}{a:Addr}{kvs:List (Key×V)}{k:Key}{u:Value}{A:Around}{E:VSP}
end
theorem aFZ{X:Cx}{aA:LAO}{σ:St}{H:Hp}{s:Shared}{a:Addr}{y:V}{o:Option V}(I:Inv X aA σ H s)(g:k7 H a y o):s.TypeIs (.ref a) "dict" := by
 rcases g with ⟨kvs,k,e,_,_⟩ | ⟨kvs,k,b,e,_,_,_⟩
 . obtain ⟨_,_,vs,_,dd⟩:=nL I.hok e;exact dd.typeIs
 . obtain ⟨_,_,xs,_,dd⟩:=qJ I.hok e;exact dd.typeIs
def vQ(td ty tv:TE):TS:=λD σ H=>tv σ H λv H1=>td σ H1 λx H2=>ty σ H2 λy H3=>∃ a H4,x=.ref a/\DPut H3 a y v H4/\D.nx σ H4
section
variable {X:Cx}{o i e value:Expr}{pos pos' tpos:Pos}{td ty tv:TE}
theorem aF0(hu:X.A.units+1<cLine)(ho:PE X o td)(hi:PE X i ty)(hv:PE X value tv)(hs:swapsWith value (some (.Subscript o i pos')) pos.line X.env=pure false):PS X (.Assign [.Subscript o i pos'] value pos) (vQ td ty tv):=by intro aA s σ H D I h;refine wpAny_Assign_Subscript (thn (hv aA s σ H _ I h) λr s1 ⟨v,H1,I1,rv,q1⟩=>thn (ho aA s1 σ H1 _ I1 q1) λu s2 ⟨x,H2,I2,rx,q2⟩=>thn (hi aA s2 σ H2 _ I2 q2) λiv s3 ⟨y,H3,I3,ry,a,H4,ex,g,q3⟩=>?_) hs;subst ex;obtain rfl:u=Value.ref a:=rx;exact aFY hu I3 g ry rv λs4 I4=>⟨σ,H4,I4,q3⟩
end
theorem aF1{P:Program}{w:World}{H:Hp}(h:Heap)(hb:sysModules<h.objs.size):bD P w H (h.push { cls:=.type "dict", data:=.dict #[] }) h.objs.size (.dK []) :=
 ⟨aTF _,aR7.mpr (Ne.symm (aSE hb)),[],.nil,Heap.DictOf.new h⟩
def aF2:TE:=λ_ H Q=>∀ p,H p=none->Q (.ref p) (upd H p (.dK []))
section
variable {X:Cx}{pos:Pos}
theorem aF3:PE X (.Dict [] [] pos) aF2:=λaA s σ H Q I h =>
 wpAny_Dict_empty ⟨.ref s.heap.objs.size,_,I.laid (a:=s.heap.objs.size) (o:=.dK []) (t':=s.toks) (λ_ _ q=>hps q) (aS1 _) (aF1 s.heap I.big),rfl,h _ (I.hok.fresh (aS1 _))⟩
end
section
variable {X:Cx}{aA:LAO}{σ:St}{H:Hp}{s:Shared}{a:Addr}{y d:V}{u r:Value}{o:Option V}{A:Around}{E:VSP}
end
section
variable {X:Cx}{o e f:Expr}{apos cpos:Pos}{td ty tx:TE}
end
section
variable {X:Cx}{aA:LAO}{σ:St}{H:Hp}{s:Shared}{a:Addr}{kvs:List (Key×V)}{A:Around}{E:VSP}
theorem aF4{Q:VSP}(I:Inv X aA σ H s)(e:Rd H a (.dK kvs))(h:∀ p s',H p=none->Inv X aA σ (upd H p (.dK kvs)) s'->Q (.ref p) s'):wpAny (model X.prog X.w) A (call (.type "dict") [.ref a]) Q E s:=by
 obtain ⟨z,hd,vs,rel,dd⟩:=nL I.hok e;refine kt_call_dict hd dd (by rw[<- rel.length];exact z) λh' dd' hs=>?_
 refine h _ _ (I.hok.fresh (aS1 _)) (I.laid (a:=s.heap.objs.size) (o:=.dK kvs) (t':=s.toks) (λb q hq=>?_) (aS1 _) (vP z (aR7.mpr (Ne.symm (aSE I.big))) rel dd'));exact (hs.2 b (aSE (aSB hq))).trans (hps hq)
end
section
variable {X:Cx}{aA:LAO}{σ:St}{H:Hp}{s:Shared}{a:Addr}{y:V}{u:Value}{A:Around}{E:VSP}
end
end L2
namespace Att
open PySem PySem.W PySem.Calls PyProof.Rows
theorem aF5{P:Params}{h:Heap}:∀ (ns:List Int) (vs:List Value),WellAll P h vs (ns.map WData.int)->IntsAre vs ns:=by
 intro ns
 induction ns with
 | nil=>intro vs w;rw[aUR] at w;cases w;exact .nil
 | cons n ns ih =>
  intro vs w;rw[aUQ] at w;cases w with
  | cons a b=>cases a;exact .cons _ _ (ih _ b)
theorem aF6{l:OpenLaw}{n:Nat}(hn:l.most=some n){P:Params}{h:Heap}{args:List WData}{vals:List Value}(hpre:l.row.toRowW.claim.pre args=true)(hwl:WellAll P h vals args):∃ a vs ns,vals=[Value.ref a]/\args=[WData.list (ns.map WData.int)]/\h.get? a=some { cls:=.type "list", data:=.seq vs.toArray }/\IntsAre vs ns/\ns.length<=n:=by
 have hsh:WShape.hasAll [] args [.list .int]=true:=(pre_splitW hpre).1;have hc:l.pre.holds [] { args:=args }=true:=(pre_splitW hpre).2;obtain ⟨d,r,rfl,h1,h2⟩:=hasAllW_cons hsh;obtain rfl:=hasAllW_nil h2;obtain ⟨xs,rfl,h3⟩:=hasW_list h1;obtain ⟨ns,rfl⟩:=items_int h3;have hlen:ns.length<=n:=by
  unfold OpenLaw.pre at hc;have h4:(WTm.not (.lt (.lit (.int (n:Int))) (.len (.arg 0)))).holds [] { args:=[.list (ns.map .int)] }=true:=by have h4:=(holds_andW hc).1;rw[hn] at h4;exact h4
  have h5:=condW_of h4 (w_not (w_lt w_lit (w_len_list (w_arg rfl))));rw[aTZ] at h5;refine Nat.le_of_not_lt λq=>?_;have q':(n:Int)<((ns.length:Nat):Int):=by omega
  first
   | (rw[aUN q'] at h5;exact absurd h5 (by decide))
   | (simp at h5;omega)
 cases hwl with
 | cons w1 w2 =>
  cases w2;cases w1 with
  | list ho hall=>exact ⟨_,_,ns,rfl,rfl,ho,aF5 ns _ hall,hlen⟩
theorem aF7(l:OpenLaw)(args:List WData):l.row.toRowW.claim.post args (.bool true) args=true :=
 postW_of (r:=l.row.toRowW) (X:=(true==true))
  (show WShape.has [] (.bool true) .bool=true by first | rfl | decide | simp[WShape.has,WShape.arms,WShape.armsAll])
  (show (WTm.eq .res (.lit (.bool true))).value [] { args:=args,res:=some (.bool true),after:=args }=some (.bool (true==true)) from w_eq_bool (w_res rfl) w_lit) rfl
theorem aF8{l:OpenLaw}{n:Nat}{q:Program}{loose:List Str}{XP:(Str->Option Value)->Heap->Prop}{YP:World->Heap->Prop}{d:DefRec}(hn:l.most=some n)(hdf:d.params.defaults=[])(call:∀ (w:World) (s₀ s₁:Shared) (mg mb:SOV) (fa:Addr) (o:Obj) (pm cd doc:Value) (a:Addr) (vs:List Value) (ns:List Int),Ground q loose [] XP w s₀ mg mb s₁.heap->YP w s₁.heap->s₁.heap.get? fa=some o->o.data=.func (docDef d.name d.params d.body d.scope pm cd doc)->s₁.heap.CodeRec cd d.name->mg d.name=some (.ref fa)->s₁.heap.get? a=some { cls:=.type "list", data:=.seq vs.toArray } -> IntsAre vs ns->ns.length<=n->s₁.gens = #[]->codeAny (model l.prog w) callerA (.call (.ref fa) ⟨[.ref a],[]⟩) (λr s'=>r=.ok (.ret (.bool true))/\OldK s₁.heap s'.heap/\s'.os=s₁.os/\AllBare s'.gens) s₁):WalkO q loose XP YP l.row.toRowW d [] (λf vs=>PySem.call f vs):=by intro w s₀ s₁ mg mb G Y fa o pm cd doc dV kV ho hd hcd hD hmg hg args vals as hpre hlay hrd hwl hlo;obtain rfl:dV=.none:=Dflts.none hD hdf;obtain rfl:kV=.none:=Dflts.noKw hD;obtain ⟨a,vs,ns,rfl,rfl,hobj,hints,hlen⟩:=aF6 hn hpre hwl;refine enter_call (aUS (call w s₀ s₁ mg mb fa o pm cd doc a vs ns G Y ho (fd_plain hd) hcd hmg hobj hints hlen hg) λr s' hq=>?_);obtain ⟨rfl,h2,h3,h4⟩:=hq;exact ⟨.inl ⟨.bool true,.bool true,[],rfl,λ_=>rfl,.bool true,aF7 l _,λ_=>⟨List.Pairwise.nil,λ_ hm=>(nomatch hm)⟩⟩,h2,h3,h4⟩
section
variable {prog:Program}{w:World}{A:Around}{E:VSP}{s:Shared}{K:Frag}
def ledger(h:Heap)(L d:Addr):LAO:=(List.range h.objs.size).filterMap λa=>if a=L\/a=d then none else (h.get? a).map λo=>(a,o)
end
end Att
namespace L2
open PySem PySem.Spec PyProof.Rows
theorem vR:∀ {vs:List Value} {ns:List Int},IntsAre vs ns->aM (ns.map V.int) vs
 | _,_,.nil=>.nil
 | _,_,.cons n t h=>.cons ⟨t,rfl⟩ (vR h)
def qK(H:Hp):Prop:=∀ b,H b=none\/∃ o xs,H b=some (.frz o (.lst xs))
theorem aF9{P:Program}{w:World}{K:Fg}{mg mb:SOV}{CX:CXT}{k:Nat}{fa a:Addr}{fd:FuncData}{x:Str}{sp:Sp}{s₁:Shared}{vs:List Value}{ns:List Int}(KX:K.In s₁.heap)(hns:s₁.heap.Ns mainGlobals mg)(hb:s₁.heap.Ns builtinsNs mb)(hbb:∀ x:Str,x ≠ "__name__" -> mb x=bootBuiltins x)(hlim:s₁.heap.NoLimit)(hg:s₁.gens = #[])(ha:s₁.heap.get? a=some { cls:=.type "list", data:=.seq vs.toArray })(hi:IntsAre vs ns)(hl:ns.length<=sizeLine)(hr:cP k callerA)(F:∀ base:Heap,K.In base->base.Ns mainGlobals mg->dF P w K mg base CX k fa fd [x] sp)(hbind:∀ (s:Shared) (u:Value),BindsTo s fd ⟨[u],[]⟩ [(x,u)])(hsp:∀ H:Hp,qK H->SqL K H a (ns.map V.int)->sp [.ref a] H (λv _=>v=.bl true) λ_ _ _=>False)(hCX:∀ H e s',CX [] H s₁ (λ_ _ _=>False) e s'->False):codeAny (model P w) callerA (.call (.ref fa) ⟨[.ref a],[]⟩) (λr s'=>r=.ok (.ret (.bool true))/\OldK s₁.heap s'.heap/\s'.os=s₁.os/\AllBare s'.gens) s₁:=by
 have rv := vR hi; have lenV := hi.length; have core : ∀ H : Hp, qK H → SqL K H a (ns.map V.int) → HOk P w H s₁.heap → (∀ b, H b ≠ none → b = a) → (H a ≠ none → K.lookup a = none) →
     codeAny (model P w) callerA (.call (.ref fa) ⟨[.ref a],[]⟩) (λr s'=>r=.ok (.ret (.bool true))/\OldK s₁.heap s'.heap/\s'.os=s₁.os/\AllBare s'.gens) s₁:=by
  intro H hO hS hok hA hK;have base_of:∀ {b:Addr} {o:Obj},s₁.heap.get? b=some o->H b=none->(gD s₁.heap H).get? b=some o:=λe n=>aDH e n;have noA:∀ {b:Addr} {o:Obj} {es:Array DictEntry} {ep:Nat},s₁.heap.get? b=some o->o.data=.dict es ep->H b=none:=λ{b o es ep} e d=>by
   cases q:H b with
   | none=>rfl
   | some u =>
    have e':b=a:=hA b (by rw[q];simp)
    subst e';rw[ha] at e;cases e;have d':Data.seq vs.toArray _=Data.dict es ep:=d;cases d'
  have nsK:∀ {b:Addr} {m:SOV},s₁.heap.Ns b m->(gD s₁.heap H).Ns b m:=λ{b m} ⟨o,es,ep,e,d,r⟩=>⟨o,es,ep,base_of e (noA e d),d,r⟩;have hKb:K.In (gD s₁.heap H):=λb o e=>base_of (KX b o e) (by
   cases q:H b with
   | none=>rfl
   | some u =>
    have e':b=a:=hA b (by rw[q];simp)
    subst e'
    rw[hK (by rw[q];simp)] at e;cases e)
  have hM:Mod K mg (gD s₁.heap H):=⟨hKb,nsK hns,⟨mb,nsK hb,hbb⟩,let ⟨mc,h1,h2⟩:=hlim;⟨mc,nsK h1,h2⟩⟩
  have e0:mZ P w K mg (gD s₁.heap H) callerA [] s₁ H:=⟨rfl,hM,λb o e=>aDI e,Nat.le_of_eq (aDG _ _),trivial,λb hb=>absurd (show b∈([]:List Addr) from hb) (by simp),hok,.of_eq hg⟩
  refine aUS ((F _ hKb (nsK hns)).run callerA [] s₁ H ⟨[.ref a],[]⟩ [.ref a] [.ref a] _ _ hr e0 (hbind s₁ (.ref a)) (.cons rfl .nil) (hsp H hO hS)) λr s' h=>?_;cases r with
  | error e=>exact (hCX H e s' h).elim
  | ok fl =>
   cases fl with
   | next=>exact False.elim h
   | brk=>exact False.elim h
   | cont=>exact False.elim h
   | ret u =>
    obtain ⟨v,H',os,bare,un,hok',r',q⟩:=h;have q':v=.bl true:=q;subst q';obtain rfl:u=Value.bool true:=r';refine ⟨rfl,OldK.of_keep λb o e=>?_,os,bare⟩;cases q:H b with
    | none=>exact un.keep b o e q (by intro z;exact absurd (show b∈([]:List Addr) from z) (by simp)) (by simp)
    | some u =>
     rcases hO b with z | ⟨ob,xs,z⟩
     . rw[q] at z;cases z
     . have z2:=un.frzs b ob _ z;obtain ⟨e1,_⟩:=hok b _ z;obtain ⟨e2,_⟩:=hok' b _ z2;rw[e] at e1;cases e1;exact e2
 cases hk:K.lookup a with
 | some o=>have e:=KX a o hk;rw[ha] at e;cases e;refine core (λ_=>none) (λ_=>.inl rfl) (.inr ⟨_,vs.toArray,_,hk,rfl,rfl,rfl,by rw[aTA,lenV];exact hl,by simpa using rv⟩) (λb u z=>by have z':(none:Option HO)=some u:=z;cases z') (λb z=>absurd rfl z) λz=>absurd rfl z
 | none =>
  refine core (λb=>if b=a then some (.frz { cls:=.type "list", data:=.seq vs.toArray } (.lst (ns.map V.int))) else none) (λb=>?_) (.inl (.inr ⟨{ cls:=.type "list", data:=.seq vs.toArray },if_pos rfl⟩)) (λb u z=>?_) (λb z=>?_) λ_=>hk
  . by_cases hb:b=a
    . exact .inr ⟨_,_,if_pos hb⟩
    . exact .inl (if_neg hb)
  . by_cases hb:b=a
    . have z':=(if_pos hb).symm.trans z;cases z';subst hb;exact ⟨ha,by rw[aTZ];exact hl,vs,_,rv,ha⟩
    . have z':=(if_neg hb).symm.trans z;cases z'
  . by_cases hb:b=a
    . exact hb
    . exact absurd (if_neg hb) z
abbrev KOf{K:Fg}{h:Heap}(_:K.In h):Fg:=K
theorem aGA{l:PySem.W.OpenLaw}{n k:Nat}{q:Program}{loose:List Str}{XP:(Str->Option Value)->Heap->Prop}{YP:World->Heap->Prop}{d:DefRec}{K:Params->Fg}{CX:World->CXT}{sp:World->Sp}{x:Str}(hn:l.most=some n)(hn2:n<=sizeLine)(hdf:d.params.defaults=[])(hr:cP k callerA)(hY:∀ (w:World) (h:Heap),YP w h->(K w.params).In h)(F:∀ (w:World) (mg:SOV) (fa:Addr) (h:Heap),(K w.params).In h->h.Ns mainGlobals mg->mg d.name=some (.ref fa)->∃ fd:FuncData,(∀ (s:Shared) (u:Value),BindsTo s fd ⟨[u],[]⟩ [(x,u)])/\∀ base:Heap,(K w.params).In base->base.Ns mainGlobals mg->dF l.prog w (K w.params) mg base (CX w) k fa fd [x] (sp w))(hsp:∀ (w:World) (H:Hp) (a:Addr) (ns:List Int),ns.length<=n->qK H->SqL (K w.params) H a (ns.map V.int)->sp w [.ref a] H (λv _=>v=.bl true) λ_ _ _=>False)(hCX:∀ (w:World) (H:Hp) (s:Shared) (e:Value) (s':Shared),CX w [] H s (λ_ _ _=>False) e s'->False):PySem.W.WalkO q loose XP YP l.row.toRowW d [] (λf vs=>PySem.call f vs):=by refine Att.aF8 hn hdf λw s₀ s₁ mg mb fa o pm cd doc a vs ns G Y ho hd hcd hmg hobj hints hlen hg=>?_;have KX:=hY w _ Y;obtain ⟨fd,hb,hF⟩:=F w mg fa _ KX G.T.g hmg;exact aF9 KX G.T.g G.T.b G.T.builtins G.T.nolimit hg hobj hints (aSI hlen hn2) hr hF hb (λH hO hS=>hsp w H a ns hlen hO hS) λH e s'=>hCX w H s₁ e s'
def nM(s:Stmt):Arguments:=match s with
 | .FunctionDef _ a _ _ _ _ _ _ _ _=>a
 | _=>{ posonlyargs:=[],args:=[],vararg:=none,kwonlyargs:=[],kw_defaults:=[],kwarg:=none,defaults:=[] }
def jP(s:Stmt):List Stmt:=match s with
 | .FunctionDef _ _ b _ _ _ _ _ _ _=>b
 | _=>[]
def eZ(s:Stmt):Scope:=match s with
 | .FunctionDef _ _ _ _ _ _ sc _ _ _=>sc
 | _=>{ kind:=.function,names:=[],isGenerator:=false,isCoroutine:=false }
structure Fun(K:Fg)(x aW:Str)(st:Stmt)(f:Addr)(fd:FuncData):Prop where
 ex:∃ (oc:Value) (od:Option Addr) (kV doc pm:Value) (an:Option Addr) (cdv ct:Value) (osl:Array (Option Value)),
  fd=PySem.W.fnOf x aW (nM st) (jP st) (eZ st) .none kV doc pm an cdv ct/\K.lookup f=some ⟨oc,od,.func fd,osl⟩/\PySem.W.codeIn K cdv aW=true
 kp:PySem.W.keepIn K (.ref f)=true
section
variable {P:Program}{w:World}{K:Fg}{mg:SOV}{base:Heap}
theorem aGB{x aW:Str}{st:Stmt}{f:Addr}{oc:Value}{od an:Option Addr}{osl:Array (Option Value)}{kV doc pm cdv ct:Value}(l:K.lookup f=some ⟨oc,od,.func (PySem.W.fnOf x aW (nM st) (jP st) (eZ st) .none kV doc pm an cdv ct),osl⟩)(c:PySem.W.codeIn K cdv aW=true)(k:PySem.W.keepIn K (.ref f)=true):Fun K x aW st f (PySem.W.fnOf x aW (nM st) (jP st) (eZ st) .none kV doc pm an cdv ct):=⟨⟨oc,od,kV,doc,pm,an,cdv,ct,osl,rfl,l,c⟩,k⟩
end
section
variable {X:Cx}
end
def aH(H H':Hp):Prop:=∀ b o,H b=some o->H' b=some o
theorem aH.refl(H:Hp):aH H H:=λ_ _ h=>h
theorem aH.trans{H H1 H2:Hp}(a:aH H H1)(b:aH H1 H2):aH H H2:=λc o h=>b c o (a c o h)
theorem aH.free{H H':Hp}(e:aH H H'){l:Addr}(h:H' l=Option.none):H l=Option.none:=by
 cases q:H l with
 | none=>rfl
 | some o=>rw[e l o q] at h;cases h
theorem aH.seq{K:Fg}{H H':Hp}{a:Addr}{xs:List V}(e:aH H H')(h:SqL K H a xs):SqL K H' a xs:=by
 rcases h with (h | ⟨o,h⟩) | h
 . exact .inl (.inl (e _ _ h))
 . exact .inl (.inr ⟨o,e _ _ h⟩)
 . exact .inr h
section
variable {κ:Type}[DecidableEq κ]
end
end L2
namespace D3
open PySem PySem.Spec PyProof.Rows L2
inductive D where
 | non | bl (b:Bool) | int (i:Int) | str (x:Str) | tup (xs:List D) | lst (xs:List D) | dct (kvs:List (Key×D)) | ty (n:String) | ob (a:Addr) | ins (c:Str) (fs:List (Str×D)) | fn (x:Str) | exn (c:Str) | set (ks:List Key)
inductive Md where | fz | fr | bo
 deriving DecidableEq
inductive Res where
 | ok (m:Md) (d:D) | exc (c:Str) | stuck
def xobj(a C:Addr):HO:=.ext λh=>∃ o,h.get? a=some o/\o.cls=.ref C
def vS(S:Key->Bool)(ks:List Key):Prop:=ks.Nodup/\∀ k,S k=true↔k∈ks
mutual
def aD(K:Fg)(F:Hp):D->V->Prop
 | .non,v=>v=.non
 | .bl b,v=>v=.bl b
 | .int i,v=>v=.int i
 | .str x,v=>v=.str x/\x.length<=sizeLine/\PyData.strOk x=true
 | .tup ds,v=>∃ a xs,v=.ref a/\SqT K F a xs/\aE K F ds xs
 | .lst ds,v=>∃ a xs,v=.ref a/\SqL K F a xs/\aE K F ds xs
 | .dct kvs,v=>∃ a xs,v=.ref a/\F a=some (.dK xs)/\aO K F kvs xs
 | .ty n,v=>v=.ty n
 | .ob a,v=>v=.ref a
 | .ins c fs,v=>∃ a C dx gs,v=.ref a/\PySem.W.nsIn K mainGlobals c=some (some (.ref C))/\F a=some (.ins C dx gs)/\dA K F fs gs
 | .fn x,v=>∃ a,v=.ref a/\PySem.W.nsIn K mainGlobals x=some (some (.ref a))
 | .exn c,v=>∃ a C,v=.ref a/\PySem.W.nsIn K mainGlobals c=some (some (.ref C))/\F a=some (xobj a C)
 | .set ks,v=>∃ a S,v=.ref a/\F a=some (.set S ks.length)/\vS S ks
def aE(K:Fg)(F:Hp):List D->List V->Prop
 | [],xs=>xs=[]
 | d::ds,xs=>∃ y ys,xs=y::ys/\aD K F d y/\aE K F ds ys
def aO(K:Fg)(F:Hp):List (Key×D)->List (Key×V)->Prop
 | [],xs=>xs=[]
 | (k,d)::ds,xs=>∃ y ys,xs=(k,y)::ys/\aD K F d y/\aO K F ds ys
def dA(K:Fg)(F:Hp):List (Str×D)->List (Str×V)->Prop
 | [],xs=>xs=[]
 | (k,d)::ds,xs=>∃ y ys,xs=(k,y)::ys/\aD K F d y/\dA K F ds ys
end
theorem aH.seqT{K:Fg}{H H':Hp}{a:Addr}{xs:List V}(e:aH H H')(h:SqT K H a xs):SqT K H' a xs:=by
 rcases h with (h | ⟨o,h⟩) | h
 . exact .inl (.inl (e _ _ h))
 . exact .inl (.inr ⟨o,e _ _ h⟩)
 . exact .inr h
section
variable {K:Fg}{F F':Hp}
mutual
theorem aD.mono(s:aH F F'):∀ (d:D) (v:V),aD K F d v->aD K F' d v
 | .non,_,h=>by simpa only [aD] using h
 | .bl _,_,h=>by simpa only [aD] using h
 | .int _,_,h=>by simpa only [aD] using h
 | .str _,_,h=>by simpa only [aD] using h
 | .tup ds,v,h=>by simp only[aD] at h ⊢;obtain ⟨a,xs,e,q,r⟩:=h;exact ⟨a,xs,e,aH.seqT s q,aE.mono s ds xs r⟩
 | .lst ds,v,h=>by simp only[aD] at h ⊢;obtain ⟨a,xs,e,q,r⟩:=h;exact ⟨a,xs,e,s.seq q,aE.mono s ds xs r⟩
 | .dct ds,v,h=>by simp only[aD] at h ⊢;obtain ⟨a,xs,e,q,r⟩:=h;exact ⟨a,xs,e,s _ _ q,aO.mono s ds xs r⟩
 | .ty _,_,h=>by simpa only [aD] using h
 | .ob _,_,h=>by simpa only [aD] using h
 | .fn _,_,h=>by simpa only [aD] using h
 | .exn _,_,h=>by simp only[aD] at h ⊢;obtain ⟨a,C,e,n,q⟩:=h;exact ⟨a,C,e,n,s _ _ q⟩
 | .set _,_,h=>by simp only[aD] at h ⊢;obtain ⟨a,S,e,q,r⟩:=h;exact ⟨a,S,e,s _ _ q,r⟩
 | .ins c fs,v,h=>by simp only[aD] at h ⊢;obtain ⟨a,C,dx,gs,e,n,q,r⟩:=h;exact ⟨a,C,dx,gs,e,n,s _ _ q,dA.mono s fs gs r⟩
theorem aE.mono(s:aH F F'):∀ (ds:List D) (xs:List V),aE K F ds xs->aE K F' ds xs
 | [],_,h=>by simpa only [aE] using h
 | d::ds,xs,h=>by simp only[aE] at h ⊢;obtain ⟨y,ys,e,q,r⟩:=h;exact ⟨y,ys,e,aD.mono s d y q,aE.mono s ds ys r⟩
theorem aO.mono(s:aH F F'):∀ (ds:List (Key×D)) (xs:List (Key×V)),aO K F ds xs->aO K F' ds xs
 | [],_,h=>by simpa only [aO] using h
 | (k,d)::ds,xs,h=>by simp only[aO] at h ⊢;obtain ⟨y,ys,e,q,r⟩:=h;exact ⟨y,ys,e,aD.mono s d y q,aO.mono s ds ys r⟩
theorem dA.mono(s:aH F F'):∀ (ds:List (Str×D)) (xs:List (Str×V)),dA K F ds xs->dA K F' ds xs
 | [],_,h=>by simpa only [dA] using h
 | (k,d)::ds,xs,h=>by simp only[dA] at h ⊢;obtain ⟨y,ys,e,q,r⟩:=h;exact ⟨y,ys,e,aD.mono s d y q,dA.mono s ds ys r⟩
end
theorem dA.lookN:∀ {ds:List (Str×D)} {xs:List (Str×V)} {f:Str},dA K F ds xs->ds.lookup f=none->xs.lookup f=none
 | [],_,_,h,e=>by simp only[dA] at h;subst h;rfl
 | (k,d')::ds,_,f,h,e=>by
  simp only[dA] at h;obtain ⟨y,ys,rfl,q,r⟩:=h;rw[aUT] at e ⊢;split at e
  . cases e
  . exact dA.lookN r e
theorem aE.length:∀ {ds:List D} {xs:List V},aE K F ds xs->xs.length=ds.length
 | [],_,h=>by simp only[aE] at h;subst h;rfl
 | d::ds,_,h=>by simp only[aE] at h;obtain ⟨y,ys,rfl,_,r⟩:=h;rw[aUO,aUO,aE.length r]
theorem aE.get:∀ {ds:List D} {xs:List V} {i:Nat} {x:V},aE K F ds xs->xs[i]? = some x->∃ d,ds[i]? = some d/\aD K F d x
 | [],_,_,_,h,e=>by simp only[aE] at h;subst h;simp at e
 | d::ds,_,0,_,h,e=>by simp only[aE] at h;obtain ⟨y,ys,rfl,r,_⟩:=h;simp at e;subst e;exact ⟨d,rfl,r⟩
 | d::ds,_,i+1,_,h,e=>by
  simp only[aE] at h;obtain ⟨y,ys,rfl,_,r⟩:=h;obtain ⟨d',e',r'⟩:=aE.get (i:=i) r (by simpa using e)
  exact ⟨d',by simpa using e',r'⟩
theorem aE.get':∀ {ds:List D} {xs:List V} {i:Nat} {d:D},aE K F ds xs->ds[i]? = some d->∃ x,xs[i]? = some x/\aD K F d x
 | [],_,_,_,h,e=>by simp at e
 | d::ds,_,0,_,h,e=>by simp only[aE] at h;obtain ⟨y,ys,rfl,r,_⟩:=h;simp at e;subst e;exact ⟨y,rfl,r⟩
 | d::ds,_,i+1,_,h,e=>by
  simp only[aE] at h;obtain ⟨y,ys,rfl,_,r⟩:=h;obtain ⟨d',e',r'⟩:=aE.get' (i:=i) r (by simpa using e)
  exact ⟨d',by simpa using e',r'⟩
theorem aE.append:∀ {ds es:List D} {xs ys:List V},aE K F ds xs->aE K F es ys->aE K F (ds++es) (xs++ys)
 | [],_,_,_,h,r=>by simp only[aE] at h;subst h;exact r
 | d::ds,_,_,_,h,r=>by simp only[aE] at h;obtain ⟨y,ys,rfl,q,t⟩:=h;show aE K F (d::(ds++_)) (y::(ys++_));simp only[aE];exact ⟨y,_,rfl,q,aE.append t r⟩
theorem aE.nil:aE K F [] []:=by simp only[aE]
theorem aE.cons{d:D}{ds:List D}{x:V}{xs:List V}(h:aD K F d x)(r:aE K F ds xs):aE K F (d::ds) (x::xs):=by simp only[aE];exact ⟨x,xs,rfl,h,r⟩
end
def Top(K:Fg)(F H:Hp)(a:Addr):D->Prop
 | .lst ds=>∃ xs,H a=some (.lst xs)/\aE K F ds xs
 | .dct ds=>∃ xs,H a=some (.dK xs)/\aO K F ds xs
 | .ins c fs=>∃ C dx gs,PySem.W.nsIn K mainGlobals c=some (some (.ref C))/\H a=some (.ins C dx gs)/\dA K F fs gs
 | .set ks=>∃ S,H a=some (.set S ks.length)/\vS S ks
 | _=>False
def Rp(K:Fg)(F H:Hp)(m:Md)(d:D)(v:V):Prop :=
 match m with
 | .fz=>aD K F d v
 | _=>∃ a,v=.ref a/\F a=none/\Top K F H a d
structure aJ(F H F' H':Hp):Prop where
 same:aH H H'
 fsame:aH F F'
 sub:aH F' H'
 new:∀ a,F a=none->H a≠none->F' a=none
theorem aJ.refl{F H:Hp}(h:aH F H):aJ F H F H:=⟨aH.refl _,aH.refl _,h,λ_ h _=>h⟩
theorem aJ.trans{F H F1 H1 F2 H2:Hp}(a:aJ F H F1 H1)(b:aJ F1 H1 F2 H2):aJ F H F2 H2 :=
 ⟨a.same.trans b.same,a.fsame.trans b.fsame,b.sub,λx h1 h2=>b.new x (a.new x h1 h2) (by
  cases e:H x with
  | none=>exact absurd e h2
  | some o=>rw[a.same x o e];exact λz=>nomatch z)⟩
theorem aJ.laid{F H:Hp}{p:Addr}(o:HO)(h:aH F H)(hp:H p=none):aJ F H (upd F p o) (upd H p o):=by
 have hf:F p=none:=h.free hp;refine ⟨λb u e=>?_,λb u e=>?_,λb u e=>?_,λa h1 h2=>?_⟩
 . rw[aN (c9 e hp)];exact e
 . rw[aN (c9 e hf)];exact e
 . by_cases hb:b=p
   . subst hb;rw[a7] at e ⊢;exact e
   . rw[aN hb] at e ⊢;exact h b u e
 . have:a≠p:=by rintro rfl;exact h2 hp
   rw[aN this];exact h1
theorem aJ.fresh{F H:Hp}{p:Addr}(o:HO)(h:aH F H)(hp:H p=none):aJ F H F (upd H p o):=by
 refine ⟨λb u e=>?_,aH.refl _,λb u e=>?_,λa h1 _=>h1⟩
 . rw[aN (c9 e hp)];exact e
 . rw[aN (c9 (h b u e) hp)];exact h b u e
theorem Top.step{K:Fg}{F H F' H':Hp}{a:Addr}{d:D}(st:aJ F H F' H')(h:Top K F H a d):Top K F' H' a d:=by
 cases d with
 | lst ds=>obtain ⟨xs,e,r⟩:=h;exact ⟨xs,st.same _ _ e,r.mono st.fsame _ _⟩
 | dct ds=>obtain ⟨xs,e,r⟩:=h;exact ⟨xs,st.same _ _ e,r.mono st.fsame _ _⟩
 | ins c fs=>obtain ⟨C,dx,gs,n,e,r⟩:=h;exact ⟨C,dx,gs,n,st.same _ _ e,r.mono st.fsame _ _⟩
 | set ks=>obtain ⟨S,e,r⟩:=h;exact ⟨S,st.same _ _ e,r⟩
 | _=>exact h.elim
theorem Top.there{K:Fg}{F H:Hp}{a:Addr}{d:D}(h:Top K F H a d):H a≠none:=by
 cases d with
 | lst ds=>obtain ⟨xs,e,r⟩:=h;rw[e];exact λz=>nomatch z
 | dct ds=>obtain ⟨xs,e,r⟩:=h;rw[e];exact λz=>nomatch z
 | ins c fs=>obtain ⟨C,dx,gs,n,e,r⟩:=h;rw[e];exact λz=>nomatch z
 | set ks=>obtain ⟨S,e,r⟩:=h;rw[e];exact λz=>nomatch z
 | _=>exact h.elim
theorem Rp.step{K:Fg}{F H F' H':Hp}{m:Md}{d:D}{v:V}(st:aJ F H F' H')(h:Rp K F H m d v):Rp K F' H' m d v:=by
 cases m with
 | fz=>exact aD.mono st.fsame d v h
 | fr=>obtain ⟨a,e,n,t⟩:=h;exact ⟨a,e,st.new a n t.there,t.step st⟩
 | bo=>obtain ⟨a,e,n,t⟩:=h;exact ⟨a,e,st.new a n t.there,t.step st⟩
theorem Rp.seqL{K:Fg}{F H:Hp}{m:Md}{ds:List D}{v:V}(s:aH F H)(h:Rp K F H m (.lst ds) v):∃ a xs,v=.ref a/\SqL K H a xs/\aE K F ds xs:=by
 cases m with
 | fz=>have h:aD K F (.lst ds) v:=h;simp only[aD] at h;obtain ⟨a,xs,e,q,r⟩:=h;exact ⟨a,xs,e,s.seq q,r⟩
 | fr=>obtain ⟨a,e,n,xs,q,r⟩:=h;exact ⟨a,xs,e,SqL.of q,r⟩
 | bo=>obtain ⟨a,e,n,xs,q,r⟩:=h;exact ⟨a,xs,e,SqL.of q,r⟩
theorem Rp.seqT{K:Fg}{F H:Hp}{m:Md}{ds:List D}{v:V}(s:aH F H)(h:Rp K F H m (.tup ds) v):∃ a xs,v=.ref a/\SqT K H a xs/\aE K F ds xs:=by
 cases m with
 | fz=>have h:aD K F (.tup ds) v:=h;simp only[aD] at h;obtain ⟨a,xs,e,q,r⟩:=h;exact ⟨a,xs,e,aH.seqT s q,r⟩
 | fr=>obtain ⟨a,e,n,q⟩:=h;exact q.elim
 | bo=>obtain ⟨a,e,n,q⟩:=h;exact q.elim
theorem Rp.dict{K:Fg}{F H:Hp}{m:Md}{ds:List (Key×D)}{v:V}(s:aH F H)(h:Rp K F H m (.dct ds) v):∃ a xs,v=.ref a/\H a=some (.dK xs)/\aO K F ds xs:=by
 cases m with
 | fz=>have h:aD K F (.dct ds) v:=h;simp only[aD] at h;obtain ⟨a,xs,e,q,r⟩:=h;exact ⟨a,xs,e,s _ _ q,r⟩
 | fr=>obtain ⟨a,e,n,xs,q,r⟩:=h;exact ⟨a,xs,e,q,r⟩
 | bo=>obtain ⟨a,e,n,xs,q,r⟩:=h;exact ⟨a,xs,e,q,r⟩
theorem Rp.ins{K:Fg}{F H:Hp}{m:Md}{c:Str}{fs:List (Str×D)}{v:V}(s:aH F H)(h:Rp K F H m (.ins c fs) v):∃ a C dx gs,v=.ref a/\PySem.W.nsIn K mainGlobals c=some (some (.ref C))/\H a=some (.ins C dx gs)/\dA K F fs gs:=by
 cases m with
 | fz=>have h:aD K F (.ins c fs) v:=h;simp only[aD] at h;obtain ⟨a,C,dx,gs,e,n,q,r⟩:=h;exact ⟨a,C,dx,gs,e,n,s _ _ q,r⟩
 | fr=>obtain ⟨a,e,n,C,dx,gs,z,q,r⟩:=h;exact ⟨a,C,dx,gs,e,z,q,r⟩
 | bo=>obtain ⟨a,e,n,C,dx,gs,z,q,r⟩:=h;exact ⟨a,C,dx,gs,e,z,q,r⟩
theorem Rp.int{K:Fg}{F H:Hp}{m:Md}{i:Int}{v:V}(h:Rp K F H m (.int i) v):v=.int i:=by
 cases m with
 | fz=>have h:aD K F (.int i) v:=h;simpa only [aD] using h
 | fr=>obtain ⟨a,e,n,q⟩:=h;exact q.elim
 | bo=>obtain ⟨a,e,n,q⟩:=h;exact q.elim
theorem Rp.bl{K:Fg}{F H:Hp}{m:Md}{i:Bool}{v:V}(h:Rp K F H m (.bl i) v):v=.bl i:=by
 cases m with
 | fz=>have h:aD K F (.bl i) v:=h;simpa only [aD] using h
 | fr=>obtain ⟨a,e,n,q⟩:=h;exact q.elim
 | bo=>obtain ⟨a,e,n,q⟩:=h;exact q.elim
theorem Rp.non{K:Fg}{F H:Hp}{m:Md}{v:V}(h:Rp K F H m .non v):v=.non:=by
 cases m with
 | fz=>have h:aD K F .non v:=h;simpa only [aD] using h
 | fr=>obtain ⟨a,e,n,q⟩:=h;exact q.elim
 | bo=>obtain ⟨a,e,n,q⟩:=h;exact q.elim
theorem Rp.str{K:Fg}{F H:Hp}{m:Md}{x:Str}{v:V}(h:Rp K F H m (.str x) v):v=.str x/\x.length<=sizeLine/\PyData.strOk x=true:=by
 cases m with
 | fz=>have h:aD K F (.str x) v:=h;simpa only [aD] using h
 | fr=>obtain ⟨a,e,n,q⟩:=h;exact q.elim
 | bo=>obtain ⟨a,e,n,q⟩:=h;exact q.elim
theorem Rp.ty{K:Fg}{F H:Hp}{m:Md}{n:String}{v:V}(h:Rp K F H m (.ty n) v):v=.ty n:=by
 cases m with
 | fz=>have h:aD K F (.ty n) v:=h;simpa only [aD] using h
 | fr=>obtain ⟨a,e,n,q⟩:=h;exact q.elim
 | bo=>obtain ⟨a,e,n,q⟩:=h;exact q.elim
theorem Rp.ob{K:Fg}{F H:Hp}{m:Md}{n:Addr}{v:V}(h:Rp K F H m (.ob n) v):v=.ref n:=by
 cases m with
 | fz=>have h:aD K F (.ob n) v:=h;simpa only [aD] using h
 | fr=>obtain ⟨a,e,n,q⟩:=h;exact q.elim
 | bo=>obtain ⟨a,e,n,q⟩:=h;exact q.elim
theorem rp_ty{K:Fg}{F H:Hp}(i:String):Rp K F H .fz (.ty i) (.ty i):=by show aD K F _ _;simp only[aD]
theorem cQ{K:Fg}{F H:Hp}(i:Int):Rp K F H .fz (.int i) (.int i):=by show aD K F _ _;simp only[aD]
theorem cK{K:Fg}{F H:Hp}(i:Bool):Rp K F H .fz (.bl i) (.bl i):=by show aD K F _ _;simp only[aD]
theorem vT{K:Fg}{F H:Hp}:Rp K F H .fz .non .non:=by show aD K F _ _;simp only[aD]
theorem e5{K:Fg}{F H:Hp}{x:Str}(h:x.length<=sizeLine/\PyData.strOk x=true):Rp K F H .fz (.str x) (.str x):=by show aD K F _ _;simp only[aD,true_and];exact h
abbrev Rho:=List (Option (Bool×D))
structure aY(K:Fg)(F0 H0 F H:Hp)(σ:L2.St)(ρ:Rho):Prop where
 st:aJ F0 H0 F H
 slot:∀ (i:Nat) (m:Bool) (d:D),ρ[i]? = some (some (m,d))->∃ v,σ[i]? = some (some v)/\Rp K F H (if m then .bo else .fz) d v/\(m=true->∀ a,v=.ref a->H0 a=none)
 apart:∀ (i j:Nat) (d d':D) (a:Addr),i≠j->ρ[i]? = some (some (true,d))->ρ[j]? = some (some (true,d'))->σ[i]? = some (some (.ref a))->σ[j]? = some (some (.ref a))->False
 len:σ.length=ρ.length
theorem aY.step{K:Fg}{F0 H0 F H F' H':Hp}{σ:L2.St}{ρ:Rho}(r:aY K F0 H0 F H σ ρ)(st:aJ F H F' H'):aY K F0 H0 F' H' σ ρ :=
 ⟨r.st.trans st,λi m d e=>by obtain ⟨v,e1,e2,e3⟩:=r.slot i m d e;exact ⟨v,e1,e2.step st,e3⟩,r.apart,r.len⟩
theorem aY.sub{K:Fg}{F0 H0 F H:Hp}{σ:L2.St}{ρ:Rho}(r:aY K F0 H0 F H σ ρ):aH F H:=r.st.sub
abbrev XE:=Str->L2.St->Hp->Prop
structure Cw where
 K:Fg
 F0:Hp
 H0:Hp
 EE:XE
def tG(C:Cw)(g:Rho->Res):TE:=λσ H Q=>∃ ρ F,aY C.K C.F0 C.H0 F H σ ρ/\match g ρ with
 | .ok m d=>∀ v F' H',aJ F H F' H'->Rp C.K F' H' m d v->(m=.fr->∀ a,v=.ref a->H a=none)->Q v H'
 | .exc c=>∀ F' H',aJ F H F' H'->C.EE c σ H'
 | .stuck=>False
abbrev Cw.at(C:Cw)(X:Cx):Cw:={ C with K:=X.K }
def PV(C:Cw)(X:Cx)(e:Expr)(g:Rho->Res):Prop:=PE X e (tG (C.at X) g)
theorem PE.imp{X:Cx}{e:Expr}{t t':TE}(h:PE X e t)(i:∀ σ H Q,t' σ H Q->t σ H Q):PE X e t':=λaA s σ H Q I q=>h aA s σ H Q I (i σ H Q q)
def Res.thn(r:Res)(k:Md->D->Res):Res:=match r with
 | .ok m d=>k m d
 | .exc c=>.exc c
 | .stuck=>.stuck
@[simp] theorem Res.thn_ok(m:Md)(d:D)(k:Md->D->Res):(Res.ok m d).thn k=k m d:=rfl
@[simp] theorem Res.thn_exc(c:Str)(k:Md->D->Res):(Res.exc c).thn k=.exc c:=rfl
@[simp] theorem Res.thn_stuck(k:Md->D->Res):Res.stuck.thn k=.stuck:=rfl
def Res.of:Option (Md×D)->Res
 | some (m,d)=>.ok m d
 | none=>.stuck
@[simp] theorem Res.of_some(m:Md)(d:D):Res.of (some (m,d))=.ok m d:=rfl
@[simp] theorem Res.of_none:Res.of none=.stuck:=rfl
def a6(C:Cw)(F H:Hp)(σ:L2.St)(r:Res)(Q:VK):Prop:=match r with
 | .ok m d=>∀ v F' H',aJ F H F' H'->Rp C.K F' H' m d v->(m=.fr->∀ a,v=.ref a->H a=none)->Q v H'
 | .exc c=>∀ F' H',aJ F H F' H'->C.EE c σ H'
 | .stuck=>False
theorem a8{C:Cw}{g:Rho->Res}{σ:L2.St}{H:Hp}{Q:VK}:tG C g σ H Q=∃ ρ F,aY C.K C.F0 C.H0 F H σ ρ/\a6 C F H σ (g ρ) Q:=by unfold tG a6;rfl
theorem a6.step{C:Cw}{F H F1 H1:Hp}{σ:L2.St}{r:Res}{Q:VK}(st:aJ F H F1 H1)(h:a6 C F H σ r Q):a6 C F1 H1 σ r Q:=by
 cases r with
 | ok m d=>exact λv F' H' s2 rp hf=>h v F' H' (st.trans s2) rp λe a ea=>st.same.free (hf e a ea)
 | exc c=>exact λF' H' s2=>h F' H' (st.trans s2)
 | stuck=>exact h
section
variable {C:Cw}{X:Cx}{a b:Expr}{ga gb:Rho->Res}{pos:Pos}
def fM(ρ:Rho)(i:Nat):Res:=match ρ[i]? with
 | some (some (false,d))=>.ok .fz d
 | some (some (true,d))=>.ok .bo d
 | _=>.stuck
theorem aGC(i:Nat){x:Str}(h:PE X (.Name x pos) (dE i)):PV C X (.Name x pos) (λρ=>fM ρ i):=by
 refine PE.imp h λσ H Q q=>?_;rw[a8] at q;obtain ⟨ρ,F,R,w⟩:=q;unfold fM at w;cases e:ρ[i]? with
 | none=>rw[e] at w;exact w.elim
 | some o =>
  cases o with
  | none=>rw[e] at w;exact w.elim
  | some p =>
   obtain ⟨m,d⟩:=p;obtain ⟨v,e1,r,_⟩:=R.slot i m d e;rw[e] at w;cases m with
   | false=>exact ⟨v,e1,w v F H (.refl R.sub) r (by intro z;cases z)⟩
   | true=>exact ⟨v,e1,w v F H (.refl R.sub) r (by intro z;cases z)⟩
theorem iX{e:Expr}{v:V}(d:D)(h:PE X e (tC v))(r:∀ F H,Rp X.K F H .fz d v):PV C X e (λ_=>.ok .fz d):=by refine PE.imp h λσ H Q q=>?_;rw[a8] at q;obtain ⟨ρ,F,R,w⟩:=q;exact w v F H (.refl R.sub) (r F H) (by intro z;cases z)
theorem aGD{i j}:PV C X (.Constant (.int i) j pos) (λ_=>.ok .fz (.int i)):=iX _ uS λ_ _=>cQ i
theorem pv_bl{i j}:PV C X (.Constant (.bool i) j pos) (λ_=>.ok .fz (.bl i)):=iX _ pe_bl λ_ _=>cK i
theorem aGE{j}:PV C X (.Constant .none j pos) (λ_=>.ok .fz .non):=iX _ aDK λ_ _=>vT
theorem aGF{x:Str}{j}(h:(decide (x.length<=sizeLine)&&PyData.strOk x)=true:=by decide +kernel):PV C X (.Constant (.str x) j pos) (λ_=>.ok .fz (.str x)) :=
 iX _ aDL λ_ _=>e5 (by rw[aUG,aUU] at h;exact h)
def op2(φ:Md->D->Md->D->Option (Md×D))(x y:Res):Res:=x.thn λm d=>y.thn λn e=>Res.of (φ m d n e)
def OpD(C:Cw)(X:Cx)(f:Value->Value->Sem Value)(φ:Md->D->Md->D->Option (Md×D)):Prop :=
 ∃ r:R2,OpR X f r/\∀ F H m x n y v u k d Q,aH F H->Rp X.K F H m x v->Rp X.K F H n y u->φ m x n y=some (k,d) ->
  (∀ v' F' H',aJ F H F' H'->Rp X.K F' H' k d v'->(k=.fr->∀ a,v'=.ref a->H a=none)->Q v' H')->r v u H Q
theorem k8{φ:Md->D->Md->D->Option (Md×D)}{r:R2}(h:∀ F H m x n y v u k d Q,aH F H->Rp C.K F H m x v->Rp C.K F H n y u->φ m x n y=some (k,d)->(∀ v' F' H',aJ F H F' H'->Rp C.K F' H' k d v'->(k=.fr->∀ a,v'=.ref a->H a=none)->Q v' H')->r v u H Q){σ:L2.St}{H:Hp}{Q:VK}(q:tG C (λρ=>op2 φ (ga ρ) (gb ρ)) σ H Q):tOp r (tG C ga) (tG C gb) σ H Q:=by
 unfold tOp;rw[a8] at q ⊢;obtain ⟨ρ,F,R,w⟩:=q;refine ⟨ρ,F,R,?_⟩;cases ea:ga ρ with
 | stuck=>simp only[op2,ea,Res.thn] at w;exact w
 | exc c=>simp only[op2,ea,Res.thn] at w;exact w
 | ok m d =>
  intro v F1 H1 s1 r1 _;rw[a8];refine ⟨ρ,F1,R.step s1,?_⟩;have w1:=w.step s1;simp only[op2,ea,Res.thn] at w1;cases eb:gb ρ with
  | stuck=>rw[eb] at w1;exact w1
  | exc c=>rw[eb] at w1;exact w1
  | ok n e =>
   rw[eb] at w1;intro u F2 H2 s2 r2 _;have w2:a6 C F2 H2 σ (Res.of (φ m d n e)) Q:=a6.step s2 w1;cases ef:φ m d n e with
   | none=>rw[ef] at w2;exact w2.elim
   | some kd=>obtain ⟨k,d'⟩:=kd;rw[ef] at w2;exact h F2 H2 m d n e v u k d' Q s2.sub (r1.step s2) r2 ef w2
theorem pv_op{op:Operator}{φ}(o:OpD C X (binaryOp op) φ)(ha:PV C X a ga)(hb:PV C X b gb):PV C X (.BinOp a op b pos) (λρ=>op2 φ (ga ρ) (gb ρ)):=by obtain ⟨r,h1,h2⟩:=o;exact PE.imp (u0 h1 ha hb) λσ H Q q=>k8 h2 q
theorem aGG{op:CmpOp}{φ}(o:OpD C X (compareOp op) φ)(ha:PV C X a ga)(hb:PV C X b gb)(hm:behindInMarks op b=false):PV C X (.Compare a [op] [b] pos) (λρ=>op2 φ (ga ρ) (gb ρ)):=by obtain ⟨r,h1,h2⟩:=o;exact PE.imp (aEP h1 ha hb hm) λσ H Q q=>k8 h2 q
def orO(φ ψ:Md->D->Md->D->Option (Md×D)):Md->D->Md->D->Option (Md×D):=λm x n y=>(φ m x n y).orElse λ_=>ψ m x n y
theorem OpD.or{f:Value->Value->Sem Value}{φ ψ}(h:OpD C X f φ)(h':OpD C X f ψ):OpD C X f (orO φ ψ):=by
 obtain ⟨r,h1,h2⟩:=h;obtain ⟨r',h1',h2'⟩:=h';refine ⟨_,h1.or h1',λF H m x n y v u k d Q s rx ry e w=>?_⟩;unfold orO at e;cases e1:φ m x n y with
 | none=>rw[e1] at e;exact .inr (h2' F H m x n y v u k d Q s rx ry e w)
 | some p=>rw[e1] at e;cases e;exact .inl (h2 F H m x n y v u k d Q s rx ry e1 w)
def fI(c:Int->Int->Bool)(g:Int->Int->D):Md->D->Md->D->Option (Md×D):=λ_ x _ y=>match x,y with
 | .int i,.int j=>if c i j=true then some (.fz,g i j) else none
 | _,_=>none
theorem jQ{f:Value->Value->Sem Value}{Cc:Int->Int->Prop}{c:Int->Int->Bool}{g:Int->Int->V}{g':Int->Int->D}(o:OpR X f (rI Cc g))(hc:∀ i j,c i j=true->Cc i j)(hg:∀ F H i j,Rp X.K F H .fz (g' i j) (g i j)):OpD C X f (fI c g'):=by
 refine ⟨_,o,λF H m x n y v u k d Q s rx ry e w=>?_⟩;unfold fI at e;split at e
 . rename_i i j;cases rx.int;cases ry.int;split at e
   . rename_i hcc;cases e;exact ⟨i,j,rfl,rfl,hc i j hcc,w _ F H (.refl s) (hg F H i j) (by intro z;cases z)⟩
   . cases e
 . cases e
theorem iA{f:Value->Value->Sem Value}{g:Int->Int->V}{g':Int->Int->D}(o:OpR X f (rI0 g))(hg:∀ F H i j,Rp X.K F H .fz (g' i j) (g i j)):OpD C X f (fI (λ_ _=>true) g'):=by
 refine ⟨_,o,λF H m x n y v u k d Q s rx ry e w=>?_⟩;unfold fI at e;split at e
 . rename_i i j;cases rx.int;cases ry.int;rw[if_pos rfl] at e;cases e;exact ⟨i,j,rfl,rfl,w _ F H (.refl s) (hg F H i j) (by intro z;cases z)⟩
 . cases e
def bU(i:Int):Bool:=decide (i.natAbs.log2<9000)
theorem aGH:OpD C X (binaryOp .Add) (fI (λ_ _=>true) λi j=>.int (i+j)):=iA aEA λ_ _ i j=>cQ _
theorem aGI:OpD C X (binaryOp .Sub) (fI (λ_ _=>true) λi j=>.int (i-j)):=iA aEB λ_ _ i j=>cQ _
theorem aGJ{i j:Int}(h:(bU i&&bU j)=true):IntMulOk i j:=by
 rw[aUG] at h;have b:∀ {i:Int},bU i=true->Builtin.Int.intBits i<=2 ^ 20:=λ{i} h=>by
  unfold bU at h;have:=aUV h;unfold Builtin.Int.intBits;split
  . exact aTF _
  . have e:(2:Nat) ^ 20=1048576:=by decide
    omega
 exact IntMulOk.of_bits (b h.1) (b h.2)
def w64(i:Int):Bool:=decide (i.natAbs<2 ^ 63)
theorem vU{i:Int}(h:w64 i=true):Builtin.Int.intBits i<=64:=by
 have h:=aUV h;unfold Builtin.Int.intBits;split
 . exact aTF _
 . rename_i hz;have:i.natAbs.log2<63:=(Nat.log2_lt (by simpa using hz)).mpr h
   omega
theorem aGK:OpD C X (binaryOp .Mult) (fI (λi j=>(bU i&&bU j)||(w64 i||w64 j)) λi j=>.int (i * j)) :=
 jQ (Cc:=λi j=>IntMulOk i j) (opI λ_ _ _ _ _ _ _ hc q=>mul_int q hc) (λi j h=>by
  rcases (aUW _ _).mp h with h | h
  . exact aGJ h
  . rcases (aUW _ _).mp h with h | h
    . exact IntMulOk.of_left (vU h)
    . exact IntMulOk.of_right (vU h)) λ_ _ i j=>cQ _
theorem aGL:OpD C X (binaryOp .Mod) (fI (λ_ j=>decide (0<j)) λi j=>.int (i % j)):=jQ aEC (λi j h=>aUV h) λ_ _ i j=>cQ _
theorem aGM:OpR X (binaryOp .FloorDiv) (rI (λ_ j=>0<j/\bU j=true) λi j=>.int (i / j)):=opI λi j _ _ _ _ _ hc q=>by
 obtain ⟨h1,h2⟩:=hc;refine floordiv_int (by omega) ?_ (.inl (PyProof.noPylong_of_log2 (aUV h2)))
 rw[Int.fdiv_eq_ediv_of_nonneg i (by omega)]
 exact q
theorem aGN:OpD C X (binaryOp .FloorDiv) (fI (λ_ j=>decide (0<j)&&bU j) λi j=>.int (i / j)):=jQ aGM (λi j h=>by rw[aUG,aUU] at h;exact h) λ_ _ i j=>cQ _
theorem aGO:OpD C X (binaryOp .Pow) (fI (λi j=>decide (0<=j)&&decide (j<=1000000)&&decide (i.natAbs<2 ^ 64)) λi j=>.int (i ^ j.toNat)) :=
 jQ aED (λi j h=>by simp only[aUG,aUU] at h;exact ⟨h.1.1,h.1.2,h.2⟩) λ_ _ i j=>cQ _
theorem aGP:OpD C X (compareOp .Lt) (fI (λ_ _=>true) λi j=>.bl (decide (i<j))):=iA op_lt λ_ _ i j=>cK _
theorem aGQ:OpD C X (compareOp .LtE) (fI (λ_ _=>true) λi j=>.bl (decide (i<=j))):=iA op_le λ_ _ i j=>cK _
theorem aGR:OpD C X (compareOp .Gt) (fI (λ_ _=>true) λi j=>.bl (decide (j<i))):=iA op_gt λ_ _ i j=>cK _
theorem aGS:OpD C X (compareOp .GtE) (fI (λ_ _=>true) λi j=>.bl (decide (j<=i))):=iA op_ge λ_ _ i j=>cK _
def fS(c:Str->Str->Bool)(g:Str->Str->D):Md->D->Md->D->Option (Md×D):=λ_ x _ y=>match x,y with
 | .str i,.str j=>if c i j=true then some (.fz,g i j) else none
 | _,_=>none
theorem qL{x y:Str}(hx:PyData.strOk x=true)(hy:PyData.strOk y=true):PyData.strOk (x++y)=true:=by unfold PyData.strOk at *;show (x.cps++y.cps).all _=true;rw[Array.all_append,hx,hy];rfl
theorem aGT:OpD C X (binaryOp .Add) (fS (λi j=>decide (i.length+j.length<=sizeLine)) λi j=>.str (i++j)):=by
 refine ⟨_,aET,λF H m x n y v u k d Q s rx ry e w=>?_⟩;unfold fS at e;split at e
 . rename_i i j;obtain ⟨rfl,h1⟩:=rx.str;obtain ⟨rfl,h2⟩:=ry.str;split at e
   . rename_i hc;cases e;have hc:=aUV hc;exact ⟨i,j,rfl,rfl,hc,w _ F H (.refl s) (e5 ⟨by rw[strLen_append];exact hc,qL h1.2 h2.2⟩) (by intro z;cases z)⟩
   . cases e
 . cases e
def gJ(i j:Str):Bool:=!(Builtin.Str.occurrences j i 0 j.length 1).isEmpty
theorem aGU:OpD C X (compareOp .In) (fS (λ_ _=>true) λi j=>.bl (gJ i j)):=by
 refine ⟨_,aEL,λF H m x n y v u k d Q s rx ry e w=>?_⟩;unfold fS at e;split at e
 . rename_i i j;obtain ⟨rfl,h1⟩:=rx.str;obtain ⟨rfl,h2⟩:=ry.str;rw[if_pos rfl] at e;cases e;exact ⟨i,j,rfl,rfl,w _ F H (.refl s) (cK _) (by intro z;cases z)⟩
 . cases e
theorem aGV:OpD C X (compareOp .NotIn) (fS (λ_ _=>true) λi j=>.bl (!gJ i j)):=by
 refine ⟨_,aEO,λF H m x n y v u k d Q s rx ry e w=>?_⟩;unfold fS at e;split at e
 . rename_i i j;obtain ⟨rfl,h1⟩:=rx.str;obtain ⟨rfl,h2⟩:=ry.str;rw[if_pos rfl] at e;cases e;exact ⟨i,j,rfl,rfl,w _ F H (.refl s) (cK _) (by intro z;cases z)⟩
 . cases e
end
section
variable {C:Cw}{X:Cx}{a b c e:Expr}{ga gb gc g:Rho->Res}{pos:Pos}
def bB:Res->Res
 | .ok .bo _=>.stuck
 | .ok _ d=>.ok .fz d
 | r=>r
theorem aJ.freeze{F H F' H':Hp}{x:Addr}{o:HO}(st:aJ F H F' H')(hx:H x=none)(hx':F' x=none)(ho:H' x=some o):aJ F H (upd F' x o) H':=by
 refine ⟨st.same,λb u q=>?_,λb u q=>?_,λy h1 h2=>?_⟩
 . rw[aN (c9 (st.fsame b u q) hx')];exact st.fsame b u q
 . by_cases hb:b=x
   . subst hb;rw[a7] at q;rw[<- q];exact ho
   . rw[aN hb] at q;exact st.sub b u q
 . have:y≠x:=by rintro rfl;exact h2 hx
   rw[aN this];exact st.new y h1 h2
theorem Top.freeze{K:Fg}{F H:Hp}{x:Addr}{d:D}(hx:F x=none)(h:Top K F H x d):∃ o,H x=some o/\aD K (upd F x o) d (.ref x):=by
 have s:∀ o,aH F (upd F x o):=λo b u q=>by rw[aN (c9 q hx)];exact q
 cases d with
 | lst ds=>obtain ⟨xs,q,r⟩:=h;refine ⟨_,q,?_⟩;simp only[aD];exact ⟨x,xs,rfl,SqL.of a7,r.mono (s _) _ _⟩
 | dct ds=>obtain ⟨xs,q,r⟩:=h;refine ⟨_,q,?_⟩;simp only[aD];exact ⟨x,xs,rfl,a7,r.mono (s _) _ _⟩
 | ins c fs=>obtain ⟨C,dx,gs,n,q,r⟩:=h;refine ⟨_,q,?_⟩;simp only[aD];exact ⟨x,C,dx,gs,rfl,n,a7,r.mono (s _) _ _⟩
 | set ks=>obtain ⟨S,q,r⟩:=h;refine ⟨_,q,?_⟩;simp only[aD];exact ⟨x,S,rfl,a7,r⟩
 | _=>exact h.elim
theorem a6.frz{F H:Hp}{σ:L2.St}{r:Res}{Q:VK}(w:a6 C F H σ (bB r) Q):a6 C F H σ r Q:=by
 cases r with
 | exc c=>exact w
 | stuck=>exact w
 | ok m d =>
  cases m with
  | fz=>exact w
  | bo=>exact (show False from w).elim
  | fr=>intro v F' H' st rp fr;obtain ⟨x,rfl,n,t⟩:=rp;obtain ⟨o,ho,r⟩:=t.freeze n;exact w (.ref x) (upd F' x o) H' (st.freeze (fr rfl x rfl) n ho) r (by intro z;cases z)
theorem fN(h:PV C X e g):PV C X e (λρ=>bB (g ρ)):=PE.imp h λσ H Q q=>by
 rw[a8] at q ⊢;obtain ⟨ρ,F,R,w⟩:=q
 try dsimp only at w
 exact ⟨ρ,F,R,w.frz⟩
def iY(C:Cw)(F H:Hp)(σ:L2.St)(r:Res)(Q:Bool->Hp->Prop):Prop:=match r with
 | .ok _ (.bl b)=>∀ F' H',aJ F H F' H'->Q b H'
 | .exc c=>∀ F' H',aJ F H F' H'->C.EE c σ H'
 | _=>False
theorem iY.step{F H F1 H1:Hp}{σ:L2.St}{r:Res}{Q:Bool->Hp->Prop}(st:aJ F H F1 H1)(h:iY C F H σ r Q):iY C F1 H1 σ r Q:=by
 cases r with
 | ok m d =>
  cases d with
  | bl b=>exact λF' H' s2=>h F' H' (st.trans s2)
  | _=>exact h
 | exc c=>exact λF' H' s2=>h F' H' (st.trans s2)
 | stuck=>exact h
def tT(C:Cw)(g:Rho->Res):TT:=λσ H Q=>∃ ρ F,aY C.K C.F0 C.H0 F H σ ρ/\iY C F H σ (g ρ) Q
def PTv(C:Cw)(X:Cx)(e:Expr)(g:Rho->Res):Prop:=PT X e (tT (C.at X) g)
def PWv(C:Cw)(X:Cx)(e:Expr)(g:Rho->Res):Prop:=PW X e (tT (C.at X) g)
theorem PT.imp{X:Cx}{e:Expr}{t t':TT}(h:PT X e t)(i:∀ σ H Q,t' σ H Q->t σ H Q):PT X e t':=λaA s σ H Q I q=>h aA s σ H Q I (i σ H Q q)
theorem PW.imp{X:Cx}{e:Expr}{t t':TT}(h:PW X e t)(i:∀ σ H Q,t' σ H Q->t σ H Q):PW X e t':=λcD aA s σ H Q I q=>h cD aA s σ H Q I (i σ H Q q)
def nN:D->Option Bool
 | .non=>some false
 | .bl b=>some b
 | .int i=>some (i != 0)
 | .str x=>some ((x.length:Int) != 0)
 | .tup ds=>some (!ds.isEmpty)
 | .lst ds=>some (!ds.isEmpty)
 | .dct ds=>some (!ds.isEmpty)
 | _=>none
def k9(r:Res):Res:=r.thn λ_ d=>match nN d with | some b=>.ok .fz (.bl b) | none=>.stuck
theorem aE.isEmpty{K:Fg}{F:Hp}{ds:List D}{xs:List V}(h:aE K F ds xs):ds.isEmpty=xs.isEmpty:=by
 cases ds with
 | nil=>simp only[aE] at h;subst h;rfl
 | cons d ds=>simp only[aE] at h;obtain ⟨y,ys,rfl,_⟩:=h;rfl
theorem aO.isEmpty{K:Fg}{F:Hp}{ds:List (Key×D)}{xs:List (Key×V)}(h:aO K F ds xs):ds.isEmpty=xs.isEmpty:=by
 cases ds with
 | nil=>simp only[aO] at h;subst h;rfl
 | cons d ds=>obtain ⟨k,d⟩:=d;simp only[aO] at h;obtain ⟨y,ys,rfl,_⟩:=h;rfl
theorem aGW{K:Fg}{F H:Hp}{m:Md}{d:D}{v:V}{k:Bool}(s:aH F H)(h:Rp K F H m d v)(e:nN d=some k):qC K v H k:=by
 cases d with
 | non=>cases h.non;cases e;rfl
 | bl b=>cases h.bl;cases e;rfl
 | int i=>cases h.int;cases e;rfl
 | str x=>obtain ⟨rfl,hl,_⟩:=h.str;cases e;exact ⟨hl,rfl⟩
 | tup ds=>obtain ⟨a,xs,rfl,q,r⟩:=h.seqT s;cases e;exact .inr (.inl ⟨xs,q,by rw[r.isEmpty]⟩)
 | lst ds=>obtain ⟨a,xs,rfl,q,r⟩:=h.seqL s;cases e;exact .inl ⟨xs,q,by rw[r.isEmpty]⟩
 | dct ds=>obtain ⟨a,xs,rfl,q,r⟩:=h.dict s;cases e;exact .inr (.inr ⟨xs,q,by rw[r.isEmpty]⟩)
 | ty n=>cases e
 | ob n=>cases e
 | ins n=>cases e
 | fn n=>cases e
 | exn n=>cases e
 | set n=>cases e
theorem aGX(h:PV C X e g)(he:∀ cD,isTrue e X.env cD=(do let v <- cD;standAt e.pos;holding [v] (truthy v)):=by intro _;rfl):PTv C X e (λρ=>k9 (g ρ)):=by
 refine PT.imp (aES h he) λσ H Q q=>?_;obtain ⟨ρ,F,R,w⟩:=q
 try dsimp only at w
 rw[a8];refine ⟨ρ,F,R,?_⟩;cases er:g ρ with
 | stuck=>rw[er] at w;exact w
 | exc c=>rw[er] at w;exact w
 | ok m d =>
  rw[er] at w;intro v F' H' st rp _;have w:iY (C.at X) F H σ (match nN d with | some b=>.ok .fz (.bl b) | none=>.stuck) Q:=w
  cases ed:nN d with
  | none=>rw[ed] at w;exact w.elim
  | some k=>rw[ed] at w;exact ⟨k,aGW st.sub rp ed,w F' H' st⟩
theorem aGY{op:CmpOp}{φ}(o:OpD C X (compareOp op) φ)(hb':∀ m x n y k d,φ m x n y=some (k,d)->∃ t,k=.fz/\d=.bl t)(ha:PV C X a ga)(hb:PV C X b gb)(hm:behindInMarks op b=false):PTv C X (.Compare a [op] [b] pos) (λρ=>op2 φ (ga ρ) (gb ρ)):=by
 obtain ⟨r,h1,h2⟩:=o;refine PT.imp (u4 h1 ha hb hm) λσ H Q q=>?_;obtain ⟨ρ,F,R,w⟩:=q
 try dsimp only at w
 unfold qB;refine k8 h2 ?_;rw[a8];refine ⟨ρ,F,R,?_⟩;cases er:op2 φ (ga ρ) (gb ρ) with
 | stuck=>rw[er] at w;exact w
 | exc c=>rw[er] at w;exact w
 | ok m d =>
  rw[er] at w;have:∃ t,m=.fz/\d=.bl t:=by
   unfold op2 at er;cases e1:ga ρ with
   | stuck=>rw[e1] at er;cases er
   | exc c=>rw[e1] at er;cases er
   | ok m1 d1 =>
    cases e2:gb ρ with
    | stuck=>rw[e1,e2] at er;cases er
    | exc c=>rw[e1,e2] at er;cases er
    | ok m2 d2 =>
     rw[e1,e2] at er;have er:Res.of (φ m1 d1 m2 d2)=.ok m d:=er;cases e3:φ m1 d1 m2 d2 with
     | none=>rw[e3] at er;cases er
     | some kd=>rw[e3] at er;obtain ⟨k,d'⟩:=kd;cases er;exact hb' _ _ _ _ _ _ e3
  obtain ⟨t,rfl,rfl⟩:=this;intro v F' H' st rp _;cases rp.bl;exact ⟨t,rfl,w F' H' st⟩
def eK(x:Res)(y:Res):Res:=x.thn λ_ d=>match d with | .bl true=>y | .bl false=>.ok .fz (.bl false) | _=>.stuck
def orR(x:Res)(y:Res):Res:=x.thn λ_ d=>match d with | .bl true=>.ok .fz (.bl true) | .bl false=>y | _=>.stuck
def lA(x:Res):Res:=x.thn λ_ d=>match d with | .bl b=>.ok .fz (.bl (!b)) | _=>.stuck
theorem aGZ(ha:PTv C X a ga):PTv C X (.UnaryOp .Not a pos) (λρ=>lA (ga ρ)):=by
 refine PT.imp (aDQ ha) λσ H Q q=>?_;obtain ⟨ρ,F,R,w⟩:=q
 try dsimp only at w
 refine ⟨ρ,F,R,?_⟩;cases er:ga ρ with
 | stuck=>rw[er] at w;exact w
 | exc c=>rw[er] at w;exact w
 | ok m d =>
  rw[er] at w;cases d with
  | bl b=>exact w
  | _=>exact w
theorem vV{op:BoolOp}(h:PTv C X a ga):PWv C X (.BoolOp op [a] pos) ga:=by
 cases op with
 | And=>exact aDN h
 | Or=>exact aDO h
theorem vW{σ:L2.St}{H:Hp}{Q:Bool->Hp->Prop}(q:tT C (λρ=>eK (ga ρ) (gb ρ)) σ H Q):mV (tT C ga) (tT C gb) σ H Q:=by
 obtain ⟨ρ,F,R,w⟩:=q
 try dsimp only at w
 refine ⟨ρ,F,R,?_⟩;cases er:ga ρ with
 | stuck=>rw[er] at w;exact w
 | exc c=>rw[er] at w;exact w
 | ok m d =>
  rw[er] at w;cases d with
  | bl b =>
   intro F' H' st;cases b with
   | true=>rw[if_pos rfl];exact ⟨ρ,F',R.step st,iY.step st w⟩
   | false=>rw[if_neg aS8];exact w F' H' st
  | _=>exact w
theorem tT_or{σ:L2.St}{H:Hp}{Q:Bool->Hp->Prop}(q:tT C (λρ=>orR (ga ρ) (gb ρ)) σ H Q):tOr (tT C ga) (tT C gb) σ H Q:=by
 obtain ⟨ρ,F,R,w⟩:=q
 try dsimp only at w
 refine ⟨ρ,F,R,?_⟩;cases er:ga ρ with
 | stuck=>rw[er] at w;exact w
 | exc c=>rw[er] at w;exact w
 | ok m d =>
  rw[er] at w;cases d with
  | bl b =>
   intro F' H' st;cases b with
   | true=>rw[if_pos rfl];exact w F' H' st
   | false=>rw[if_neg aS8];exact ⟨ρ,F',R.step st,iY.step st w⟩
  | _=>exact w
theorem aG0{aU:List Expr}(ha:PTv C X a ga)(hb:PWv C X (.BoolOp .And (b::aU) pos) gb):PWv C X (.BoolOp .And (a::b::aU) pos) (λρ=>eK (ga ρ) (gb ρ)):=PW.imp (aDP ha hb) λ_ _ _ q=>vW q
theorem aG1{aU:List Expr}(ha:PTv C X a ga)(hb:PWv C X (.BoolOp .Or (b::aU) pos) gb):PWv C X (.BoolOp .Or (a::b::aU) pos) (λρ=>orR (ga ρ) (gb ρ)):=PW.imp (pw_or ha hb) λ_ _ _ q=>tT_or q
theorem pt_w(h:PWv C X e g):PTv C X e g:=PW.pt h
theorem vX{op}(h:PV C X a ga):PV C X (.BoolOp op [a] pos) ga:=aDR h
theorem aG2{aU:List Expr}(ha:PV C X a ga)(hb:PV C X (.BoolOp .And (b::aU) pos) gb):PV C X (.BoolOp .And (a::b::aU) pos) (λρ=>eK (ga ρ) (gb ρ)):=by
 refine PE.imp (aDS ha hb) λσ H Q q=>?_;unfold uT;rw[a8] at q ⊢;obtain ⟨ρ,F,R,w⟩:=q
 try dsimp only at w
 refine ⟨ρ,F,R,?_⟩;cases er:ga ρ with
 | stuck=>rw[er] at w;exact w
 | exc c=>rw[er] at w;exact w
 | ok m d =>
  rw[er] at w;cases d with
  | bl k =>
   intro v F' H' st rp _;cases rp.bl;refine ⟨k,rfl,?_⟩;cases k with
   | true=>rw[if_pos rfl,a8];exact ⟨ρ,F',R.step st,a6.step st w⟩
   | false=>rw[if_neg aS8];exact w (.bl false) F' H' st (cK _) (by intro z;cases z)
  | _=>exact w.elim
theorem aG3{aU:List Expr}(ha:PV C X a ga)(hb:PV C X (.BoolOp .Or (b::aU) pos) gb):PV C X (.BoolOp .Or (a::b::aU) pos) (λρ=>orR (ga ρ) (gb ρ)):=by
 refine PE.imp (pe_or ha hb) λσ H Q q=>?_;unfold tOrV;rw[a8] at q ⊢;obtain ⟨ρ,F,R,w⟩:=q
 try dsimp only at w
 refine ⟨ρ,F,R,?_⟩;cases er:ga ρ with
 | stuck=>rw[er] at w;exact w
 | exc c=>rw[er] at w;exact w
 | ok m d =>
  rw[er] at w;cases d with
  | bl k =>
   intro v F' H' st rp _;cases rp.bl;refine ⟨k,rfl,?_⟩;cases k with
   | true=>rw[if_pos rfl];exact w (.bl true) F' H' st (cK _) (by intro z;cases z)
   | false=>rw[if_neg aS8,a8];exact ⟨ρ,F',R.step st,a6.step st w⟩
  | _=>exact w.elim
theorem aG4(ha:PV C X a ga):PV C X (.UnaryOp .Not a pos) (λρ=>lA (ga ρ)):=by
 refine PE.imp (aDT ha) λσ H Q q=>?_;unfold uU;rw[a8] at q ⊢;obtain ⟨ρ,F,R,w⟩:=q
 try dsimp only at w
 refine ⟨ρ,F,R,?_⟩;cases er:ga ρ with
 | stuck=>rw[er] at w;exact w
 | exc c=>rw[er] at w;exact w
 | ok m d =>
  rw[er] at w;cases d with
  | bl k=>intro v F' H' st rp _;cases rp.bl;exact ⟨k,rfl,w _ F' H' st (cK _) (by intro z;cases z)⟩
  | _=>exact w.elim
def ixD:Md->D->Md->D->Option (Md×D):=λ_ x _ y=>match x,y with
 | .lst ds,.int i=>(atI ds i).map λd=>(.fz,d)
 | .tup ds,.int i=>(atI ds i).map λd=>(.fz,d)
 | .str z,.int i=>(atI z.cps.toList i).map λc=>(.fz,.str ⟨#[c]⟩)
 | _,_=>none
theorem aE.atI{K:Fg}{F:Hp}{ds:List D}{xs:List V}{i:Int}{d:D}(h:aE K F ds xs)(e:atI ds i=some d):∃ x,L2.atI xs i=some x/\aD K F d x:=by
 unfold L2.atI at *;rw[h.length];cases q:ixN ds.length i with
 | none=>rw[q] at e;cases e
 | some j=>rw[q] at e;exact h.get' e
theorem aG5{F H:Hp}{m n k:Md}{x y d:D}{v u:V}{Q:VK}(s:aH F H)(rx:Rp X.K F H m x v)(ry:Rp X.K F H n y u)(e:ixD m x n y=some (k,d))(w:∀ v' F' H',aJ F H F' H'->Rp X.K F' H' k d v'->(k=.fr->∀ a,v'=.ref a->H a=none)->Q v' H'):rIx X.K v u H Q:=by
 unfold ixD at e;split at e
 . rename_i ds i;cases ry.int;obtain ⟨p,xs,rfl,hq,r⟩:=rx.seqL s;cases ei:atI ds i with
   | none=>rw[ei] at e;cases e
   | some d'=>rw[ei] at e;cases e;obtain ⟨x',ex,rx'⟩:=r.atI ei;exact .inl ⟨p,xs,i,x',rfl,rfl,hq,ex,w x' F H (.refl s) rx' (by intro z;cases z)⟩
 . rename_i ds i;cases ry.int;obtain ⟨p,xs,rfl,hq,r⟩:=rx.seqT s;cases ei:atI ds i with
   | none=>rw[ei] at e;cases e
   | some d'=>rw[ei] at e;cases e;obtain ⟨x',ex,rx'⟩:=r.atI ei;exact .inr (.inl ⟨p,xs,i,x',rfl,rfl,hq,ex,w x' F H (.refl s) rx' (by intro z;cases z)⟩)
 . rename_i z i;cases ry.int;obtain ⟨rfl,hl,hk⟩:=rx.str;cases ei:atI z.cps.toList i with
   | none=>rw[ei] at e;cases e
   | some c =>
    rw[ei] at e;cases e;refine .inr (.inr ⟨z,i,c,rfl,rfl,hl,ei,w _ F H (.refl s) (e5 ⟨?_,?_⟩) (by intro z;cases z)⟩)
    . show 1<=sizeLine;decide
    . obtain ⟨j,_,hj,_⟩:=nG ei;unfold PyData.strOk at hk ⊢;rw[aUX] at hk;have hc:=hk c (by rw[<- aTB];exact aTX hj)
      simpa using hc
 . cases e
theorem pv_ix(ha:PV C X a ga)(hb:PV C X b gb)(hs:nH b:=by intro _ _;rfl):PV C X (.Subscript a b pos) (λρ=>op2 ixD (ga ρ) (gb ρ)):=by exact PE.imp (qE aFM ha hb hs) λσ H Q q=>k8 (λF H m x n y v u k d Q s rx ry e w=>aG5 s rx ry e w) q
theorem aG6:SlR X (λx lo hi H Q=>∃ z,x=.str z/\z.length<=sizeLine/\Q (.str (Txt.slice z lo hi)) H):=by
 intro aA s σ H x v vl vu lo hi sl Q I rx hs pl pu h;obtain ⟨z,rfl,hz,q⟩:=h;obtain ⟨t,rfl⟩:=rx;refine ⟨"str", _,PySem.F.slot_str_getitem.lookup,typeIs_str _ _ _,?_⟩;have fin:∀ t' k,EP X aA σ Q (.str (Txt.slice z lo hi) t') { s with toks:=k }:=λt' k=>⟨.str (Txt.slice z lo hi),H,I.tok _,⟨_,rfl⟩,q⟩
 cases pl with
 | none =>
  cases pu with
  | none=>exact aUY (l:=none) (u:=none) (st:=none) hs rfl (aUZ ⟨aSI (aU0 z _ _) hz,λt' k=>fin t' k⟩)
  | int j tj=>exact aUY (l:=none) (u:=some (j,tj)) (st:=none) hs rfl (aUZ ⟨aSI (aU0 z _ _) hz,λt' k=>fin t' k⟩)
 | int i ti =>
  cases pu with
  | none=>exact aUY (l:=some (i,ti)) (u:=none) (st:=none) hs rfl (aUZ ⟨aSI (aU0 z _ _) hz,λt' k=>fin t' k⟩)
  | int j tj=>exact aUY (l:=some (i,ti)) (u:=some (j,tj)) (st:=none) hs rfl (aUZ ⟨aSI (aU0 z _ _) hz,λt' k=>fin t' k⟩)
theorem aG7{z:Str}{lo hi:Option Int}(h:PyData.strOk z=true):PyData.strOk (Txt.slice z lo hi)=true:=by
 unfold Txt.slice;split
 . exact h
 . unfold PyData.strOk at *;rw[aUX] at h ⊢;intro c hc;rw[<- aTB,List.toList_toArray,aS4] at hc;obtain ⟨j,_,hj⟩:=hc;exact h c (aU1 hj)
def POv(C:Cw)(X:Cx):Option Expr->Option (Rho->Res)->Prop
 | none,none=>True
 | some e,some g=>PV C X e g
 | _,_=>False
def vY(C:Cw):Option (Rho->Res)->TO
 | none=>vH
 | some g=>nF (tG C g)
theorem vZ{e:Option Expr}{g:Option (Rho->Res)}(h:POv C X e g):PO X e (vY (C.at X) g):=by
 cases e with
 | none=>cases g with
  | none=>exact aFE
  | some g=>exact h.elim
 | some e=>cases g with
  | none=>exact h.elim
  | some g=>exact aFF h
def eC(g:Option (Rho->Res))(ρ:Rho)(k:Option Int->Res):Res:=match g with
 | none=>k none
 | some g=>(g ρ).thn λ_ d=>match d with | .int i=>k (some i) | _=>.stuck
theorem jR{F H:Hp}{σ:L2.St}{g:Option (Rho->Res)}{ρ:Rho}{k:Option Int->Res}{Q:VK}{R:Option Int->Hp->Prop}(RS:aY C.K C.F0 C.H0 F H σ ρ)(w:a6 C F H σ (eC g ρ k) Q)(h:∀ i F' H',aJ F H F' H'->aY C.K C.F0 C.H0 F' H' σ ρ->a6 C F' H' σ (k i) Q->R i H'):vY C g σ H R:=by
 cases g with
 | none=>exact h none F H (.refl RS.sub) RS w
 | some g =>
  show nF (tG C g) σ H R;unfold nF;rw[a8];refine ⟨ρ,F,RS,?_⟩;have w:a6 C F H σ ((g ρ).thn λ_ d=>match d with | .int i=>k (some i) | _=>.stuck) Q:=w
  cases er:g ρ with
  | stuck=>rw[er] at w;exact w
  | exc c=>rw[er] at w;exact w
  | ok m d =>
   rw[er] at w;intro v F' H' st rp _;cases d with
   | int i=>cases rp.int;exact ⟨i,rfl,h (some i) F' H' st (RS.step st) (a6.step st w)⟩
   | _=>exact (show False from w).elim
def iZ:Md->D->Md->D->Option (Md×D):=λ_ x _ y=>match x,y with
 | .str z,.int n=>if (decide (1<=n)&&decide (n<=1000000)&&decide (z.length * n.toNat<=sizeLine))=true then some (.fz,.str (Txt.mul z n)) else none
 | _,_=>none
theorem v4{α:Type}(xs:Array α):∀ (k:Nat) (acc:Array α),((List.replicate k xs).foldl (· ++ ·) acc).size=acc.size+k * xs.size
 | 0,acc=>by simp
 | k+1,acc=>by rw[aU2,aU3,v4 xs k,Array.size_append,Nat.succ_mul];omega
theorem v5{α:Type}(p:α->Bool)(xs:Array α)(h:xs.all p=true):∀ (k:Nat) (acc:Array α),acc.all p=true->((List.replicate k xs).foldl (· ++ ·) acc).all p=true
 | 0,acc,q=>q
 | k+1,acc,q=>by rw[aU2,aU3];exact v5 p xs h k _ (by rw[Array.all_append,q,h];rfl)
theorem aG8(z:Str){n:Int}(h:1<=n):(Txt.mul z n).length=z.length * n.toNat:=by
 unfold Txt.mul;rw[if_neg (by omega)]
 split
 . rename_i hc;rcases (aUW _ _).mp hc with hc | hc
   . have:n=1:=by simpa using hc
     subst this;simp
   . have:z.length=0:=by simpa using hc
     rw[this];simp
 . show Array.size (List.foldl (· ++ ·) #[] (List.replicate n.toNat z.cps))=_;rw[v4,Nat.mul_comm];simp[Str.length]
theorem aG9{z:Str}{n:Int}(h:PyData.strOk z=true):PyData.strOk (Txt.mul z n)=true:=by
 unfold Txt.mul;split
 . decide +kernel
 . split
   . exact h
   . unfold PyData.strOk at *;exact v5 _ _ h _ _ (by simp)
theorem aHA:OpD C X (binaryOp .Mult) iZ:=by
 refine ⟨λx y H Q=>∃ z n,x=.str z/\y=.int n/\MulOk z n/\Q (.str (Txt.mul z n)) H,?_,?_⟩
 . intro aA s σ H x y v u Q I rx ry h;obtain ⟨z,n,rfl,rfl,hm,q⟩:=h;obtain ⟨t,rfl⟩:=rx;obtain ⟨t',rfl⟩:=ry;exact SB.mul hm λt' k=>⟨.str (Txt.mul z n),H,I.tok _,⟨_,rfl⟩,q⟩
 . intro F H m x n y v u k d Q s rx ry e w;unfold iZ at e;split at e
   . rename_i z i;obtain ⟨rfl,hz,hk⟩:=rx.str;cases ry.int;split at e
     . rename_i hc;simp only[aUG,aUU] at hc;obtain ⟨⟨h1,h2⟩,h3⟩:=hc;cases e;refine ⟨z,i,rfl,rfl,⟨?_,λ_ _=>?_,λ_ _=>?_⟩,w _ F H (.refl s) (e5 ⟨by rw[aG8 z h1];exact h3,aG9 hk⟩) (by intro z;cases z)⟩
       . rw[Bool.or_eq_false_iff];exact ⟨aR6 (by omega),aR6 (by omega)⟩
       . have hs:sizeLine=16777216:=aS9;have:(2 ^ 63-1:Int) / i ≥ (2 ^ 63-1) / 1000000:=by
           apply Int.le_ediv_of_mul_le (by omega)
           have e1:(2 ^ 63-1:Int) / 1000000=9223372036854:=by decide
           rw[e1];have:(9223372036854:Int) * i<=9223372036854 * 1000000:=Int.mul_le_mul_of_nonneg_left h2 (by decide)
           have e2:(9223372036854:Int) * 1000000<=2 ^ 63-1:=by decide
           omega
         have e1:(2 ^ 63-1:Int) / 1000000=9223372036854:=by decide
         omega
       . unfold Builtin.Str.tooLong;exact aR6 (by omega)
     . cases e
   . cases e
end
inductive aT where
 | ok (xs:List (Md×D)) | exc (c:Str) | stuck
def RpL(K:Fg)(F H:Hp):List (Md×D)->List V->Prop
 | [],vs=>vs=[]
 | (m,d)::r,vs=>∃ v us,vs=v::us/\Rp K F H m d v/\RpL K F H r us
def aT.thn(r:aT)(k:List (Md×D)->Res):Res:=match r with
 | .ok xs=>k xs
 | .exc c=>.exc c
 | .stuck=>.stuck
@[simp] theorem aT.thn_ok(xs:List (Md×D))(k:List (Md×D)->Res):(aT.ok xs).thn k=k xs:=rfl
@[simp] theorem aT.thn_exc(c:Str)(k:List (Md×D)->Res):(aT.exc c).thn k=.exc c:=rfl
@[simp] theorem aT.thn_stuck(k:List (Md×D)->Res):aT.stuck.thn k=.stuck:=rfl
def lC(C:Cw)(F H:Hp)(σ:L2.St)(r:aT)(Q:List V->Hp->Prop):Prop:=match r with
 | .ok xs=>∀ vs F' H',aJ F H F' H'->RpL C.K F' H' xs vs->Q vs H'
 | .exc c=>∀ F' H',aJ F H F' H'->C.EE c σ H'
 | .stuck=>False
theorem lC.step{C:Cw}{F H F1 H1:Hp}{σ:L2.St}{r:aT}{Q:List V->Hp->Prop}(st:aJ F H F1 H1)(h:lC C F H σ r Q):lC C F1 H1 σ r Q:=by
 cases r with
 | ok m=>exact λv F' H' s2 rp=>h v F' H' (st.trans s2) rp
 | exc c=>exact λF' H' s2=>h F' H' (st.trans s2)
 | stuck=>exact h
def tAv(C:Cw)(g:Rho->aT):TA:=λσ H Q=>∃ ρ F,aY C.K C.F0 C.H0 F H σ ρ/\lC C F H σ (g ρ) Q
def PAv(C:Cw)(X:Cx)(es:List Expr)(g:Rho->aT):Prop:=PA X es (tAv (C.at X) g)
theorem PA.imp{X:Cx}{e:List Expr}{t t':TA}(h:PA X e t)(i:∀ σ H Q,t' σ H Q->t σ H Q):PA X e t':=λp aA s σ H Q I q=>h p aA s σ H Q I (i σ H Q q)
def bV(x:Res)(y:aT):aT:=match x with
 | .ok m d=>(match y with | .ok r=>.ok ((m,d)::r) | .exc c=>.exc c | .stuck=>.stuck)
 | .exc c=>.exc c
 | .stuck=>.stuck
@[simp] theorem v6(m:Md)(d:D)(r:List (Md×D)):bV (.ok m d) (.ok r)=.ok ((m,d)::r):=rfl
section
variable {C:Cw}{X:Cx}{a b c e:Expr}{es:List Expr}{ga gb gc g:Rho->Res}{gs:Rho->aT}{pos p:Pos}{x:Str}
theorem jS:PAv C X [] (λ_=>.ok []):=PA.imp iW λσ H Q q=>by obtain ⟨ρ,F,R,w⟩:=q;exact w [] F H (.refl R.sub) rfl
theorem jT(ha:PV C X e g)(hr:PAv C X es gs)(hs:starEach (e::es) X.env=(false,eval e X.env)::starEach es X.env:=by rfl):PAv C X (e::es) (λρ=>bV (g ρ) (gs ρ)):=by
 refine PA.imp (hX ha hr hs) λσ H Q q=>?_;unfold fK;obtain ⟨ρ,F,R,w⟩:=q;dsimp only at w;rw[a8];refine ⟨ρ,F,R,?_⟩;cases er:g ρ with
 | stuck=>rw[er] at w;exact w
 | exc c=>rw[er] at w;exact w
 | ok m d =>
  rw[er] at w;intro v F1 H1 s1 r1 _;refine ⟨ρ,F1,R.step s1,?_⟩;have w1:=lC.step s1 w;cases es':gs ρ with
  | stuck=>rw[es'] at w1;exact w1
  | exc c=>rw[es'] at w1;exact w1
  | ok r=>rw[es'] at w1;intro vs F2 H2 s2 r2;exact w1 (v::vs) F2 H2 s2 ⟨v,vs,rfl,r1.step s2,r2⟩
def cR:List (Md×D)->Option (List D)
 | []=>some []
 | (.fz,d)::r=>(cR r).map (d :: ·)
 | _::_=>none
theorem RpL.fz{K:Fg}{F H:Hp}:∀ {xs:List (Md×D)} {vs:List V} {ds:List D},RpL K F H xs vs->cR xs=some ds->aE K F ds vs
 | [],_,_,h,e=>by cases e;rw[show _=[] from h];exact aE.nil
 | (.fz,d)::r,_,_,h,e=>by
  obtain ⟨v,us,rfl,r1,r2⟩:=h;unfold cR at e;cases q:cR r with
  | none=>rw[q] at e;cases e
  | some ds'=>rw[q] at e;cases e;exact aE.cons r1 (RpL.fz r2 q)
 | (.fr,d)::r,_,_,h,e=>by cases e
 | (.bo,d)::r,_,_,h,e=>by cases e
def eL(r:aT):Res:=r.thn λxs=>match cR xs with | some ds=>if ds.length<=sizeLine then .ok .fz (.tup ds) else .stuck | none=>.stuck
def e6(r:aT):Res:=r.thn λxs=>match cR xs with | some ds=>if ds.length<=sizeLine then .ok .fr (.lst ds) else .stuck | none=>.stuck
theorem aD.tup_of{K:Fg}{F:Hp}{p:Addr}{ds:List D}{xs:List V}(hp:F p=none)(r:aE K F ds xs):aD K (upd F p (.tup xs)) (.tup ds) (.ref p):=by simp only[aD];exact ⟨p,xs,rfl,SqT.of a7,r.mono (λb u q=>by rw[aN (c9 q hp)];exact q) _ _⟩
theorem aHB{x1}(h:PAv C X es gs):PV C X (.Tuple es x1 pos) (λρ=>eL (gs ρ)):=by
 refine PE.imp (aE3 h) λσ H Q q=>?_;unfold tTup;rw[a8] at q;obtain ⟨ρ,F,R,w⟩:=q;refine ⟨ρ,F,R,?_⟩;cases er:gs ρ with
 | stuck=>rw[er] at w;exact w
 | exc c=>rw[er] at w;exact w
 | ok xs =>
  rw[er] at w;intro vs F1 H1 s1 r1;have w1:a6 (C.at X) F1 H1 σ (match cR xs with | some ds=>if ds.length<=sizeLine then .ok .fz (.tup ds) else .stuck | none=>.stuck) Q:=a6.step s1 w
  cases ef:cR xs with
  | none=>rw[ef] at w1;exact w1.elim
  | some ds =>
   rw[ef] at w1;dsimp only at w1;split at w1
   . rename_i hl;have r2:=r1.fz ef;refine ⟨by rw[r2.length];exact hl,λp hp=>?_⟩
     exact w1 (.ref p) _ _ (aJ.laid (.tup vs) s1.sub hp) (aD.tup_of (s1.sub.free hp) r2) (by intro z;cases z)
   . exact w1.elim
theorem aHC(h:PAv C X es gs):PV C X (.List es pos) (λρ=>e6 (gs ρ)):=by
 refine PE.imp (aE4 h) λσ H Q q=>?_;unfold tLst;rw[a8] at q;obtain ⟨ρ,F,R,w⟩:=q;refine ⟨ρ,F,R,?_⟩;cases er:gs ρ with
 | stuck=>rw[er] at w;exact w
 | exc c=>rw[er] at w;exact w
 | ok xs =>
  rw[er] at w;intro vs F1 H1 s1 r1;have w1:a6 (C.at X) F1 H1 σ (match cR xs with | some ds=>if ds.length<=sizeLine then .ok .fr (.lst ds) else .stuck | none=>.stuck) Q:=a6.step s1 w
  cases ef:cR xs with
  | none=>rw[ef] at w1;exact w1.elim
  | some ds =>
   rw[ef] at w1;dsimp only at w1;split at w1
   . rename_i hl;have r2:=r1.fz ef;refine ⟨by rw[r2.length];exact hl,λp hp=>?_⟩
     refine w1 (.ref p) F1 _ (aJ.fresh (.lst vs) s1.sub hp) ⟨p,rfl,s1.sub.free hp,vs,a7,r2⟩ λ_ a ea=>by cases ea;exact hp
   . exact w1.elim
def lD:D->Option Key
 | .int i=>some (.inl i)
 | .str x=>some (.inr x)
 | _=>none
theorem v7{K:Fg}{F H:Hp}{m:Md}{d:D}{k:Key}{v:V}(e:lD d=some k)(r:Rp K F H m d v):v=kV k:=by
 cases d with
 | int i=>cases e;exact r.int
 | str x=>cases e;exact r.str.1
 | _=>cases e
def aZ(X:Cx)(f:Value)(φ:List (Md×D)->Option (Md×D)):Prop :=
 ∃ r:List V->Hp->VK->Prop,cG X f r/\∀ F H xs vs k d Q,aH F H->RpL X.K F H xs vs->φ xs=some (k,d) ->
  (∀ v' F' H',aJ F H F' H'->Rp X.K F' H' k d v'->(k=.fr->∀ a,v'=.ref a->H a=none)->Q v' H')->r vs H Q
def dB(φ:List (Md×D)->Option (Md×D))(r:aT):Res:=r.thn λxs=>Res.of (φ xs)
theorem v8{φ:List (Md×D)->Option (Md×D)}{r:List V->Hp->VK->Prop}(h:∀ F H xs vs k d Q,aH F H->RpL C.K F H xs vs->φ xs=some (k,d)->(∀ v' F' H',aJ F H F' H'->Rp C.K F' H' k d v'->(k=.fr->∀ a,v'=.ref a->H a=none)->Q v' H')->r vs H Q){σ:L2.St}{H:Hp}{Q:VK}(q:tG C (λρ=>dB φ (gs ρ)) σ H Q):tCB r (tAv C gs) σ H Q:=by
 unfold tCB;rw[a8] at q;obtain ⟨ρ,F,R,w⟩:=q;refine ⟨ρ,F,R,?_⟩;cases er:gs ρ with
 | stuck=>rw[er] at w;exact w
 | exc c=>rw[er] at w;exact w
 | ok xs =>
  rw[er] at w;intro vs F1 H1 s1 r1;have w1:a6 C F1 H1 σ (Res.of (φ xs)) Q:=a6.step s1 w;cases ef:φ xs with
  | none=>rw[ef] at w1;exact w1.elim
  | some kd=>obtain ⟨k,d⟩:=kd;rw[ef] at w1;exact h F1 H1 xs vs k d Q s1.sub r1 ef w1
theorem qM{id:String}{φ}(o:aZ X (.builtin id) φ)(hg:Gl X x)(hm:X.mg x=none)(hv:bootBuiltins x=some (.builtin id))(ha:PAv C X (e::es) gs)(hn:x ≠ "__name__" := by decide)(hdb:(x==("__debug__" : Str))=false:=by decide)(he:starEach (e::es) X.env=(false,eval e X.env)::starEach es X.env:=by rfl)(hpl:(backTo pos (starEach es X.env)).any (·.1)=false:=by rfl):PV C X (.Call (.Name x p) (e::es) [] pos) (λρ=>dB φ (gs ρ)):=by obtain ⟨r,h1,h2⟩:=o;exact PE.imp (nE h1 hg hm hv ha hn hdb he hpl) λσ H Q q=>v8 h2 q
def aZ.or'(φ ψ:List (Md×D)->Option (Md×D)):List (Md×D)->Option (Md×D):=λxs=>(φ xs).orElse λ_=>ψ xs
theorem aZ.or{f:Value}{φ ψ}(h:aZ X f φ)(h':aZ X f ψ):aZ X f (aZ.or' φ ψ):=by
 obtain ⟨r,h1,h2⟩:=h;obtain ⟨r',h1',h2'⟩:=h';refine ⟨_,cG.or h1 h1',λF H xs vs k d Q s rx e w=>?_⟩;unfold aZ.or' at e;cases e1:φ xs with
 | none=>rw[e1] at e;exact .inr (h2' F H xs vs k d Q s rx e w)
 | some p=>rw[e1] at e;cases e;exact .inl (h2 F H xs vs k d Q s rx e1 w)
def dG:List (Md×D)->Option (Md×D)
 | [(_,.str z)]=>some (.fz,.int z.length)
 | [(_,.lst ds)]=>some (.fz,.int ds.length)
 | [(_,.tup ds)]=>some (.fz,.int ds.length)
 | _=>none
theorem RpL.one{K:Fg}{F H:Hp}{m:Md}{d:D}{vs:List V}(h:RpL K F H [(m,d)] vs):∃ v,vs=[v]/\Rp K F H m d v:=by obtain ⟨v,us,rfl,r,e⟩:=h;exact ⟨v,by rw[show us=[] from e],r⟩
theorem RpL.two{K:Fg}{F H:Hp}{m n:Md}{d e:D}{vs:List V}(h:RpL K F H [(m,d),(n,e)] vs):∃ v u,vs=[v,u]/\Rp K F H m d v/\Rp K F H n e u:=by obtain ⟨v,us,rfl,r,v',us',rfl,r',e⟩:=h;exact ⟨v,v',by rw[show us'=[] from e],r,r'⟩
theorem aHD:aZ X (.builtin "len") dG:=by
 refine ⟨_,aEW,λF H xs vs k d Q s rx e w=>?_⟩;unfold dG at e;split at e
 . rename_i m z;cases e;obtain ⟨v,rfl,r⟩:=rx.one;obtain ⟨rfl,hz,_⟩:=r.str;exact ⟨_,z.length,rfl,⟨hz,rfl⟩,w _ F H (.refl s) (cQ _) (by intro z;cases z)⟩
 . rename_i m ds;cases e;obtain ⟨v,rfl,r⟩:=rx.one;obtain ⟨a,xs,rfl,q,rl⟩:=r.seqL s;exact ⟨_,xs.length,rfl,.inl ⟨xs,q,rfl⟩,by rw[rl.length];exact w _ F H (.refl s) (cQ _) (by intro z;cases z)⟩
 . rename_i m ds;cases e;obtain ⟨v,rfl,r⟩:=rx.one;obtain ⟨a,xs,rfl,q,rl⟩:=r.seqT s;exact ⟨_,xs.length,rfl,.inr ⟨xs,q,rfl⟩,by rw[rl.length];exact w _ F H (.refl s) (cQ _) (by intro z;cases z)⟩
 . cases e
def tyN:D->Option String
 | .non=>some "NoneType" | .bl _=>some "bool" | .int _=>some "int" | .str _=>some "str" | .tup _=>some "tuple" | .lst _=>some "list" | .dct _=>some "dict" | _=>none
def lE(t c:String):Option Bool:=if ["int", "bool", "str", "list", "tuple", "dict"].contains c=true then some (t==c||(t == "bool" && c == "int")) else none
def dH:List (Md×D)->Option (Md×D)
 | [(_,d),(_,.ty c)]=>match tyN d with | some t=>(lE t c).map λb=>(.fz,.bl b) | none=>none
 | _=>none
theorem aHE{K:Fg}{d:D}{t c:String}{b:Bool}(ht:tyN d=some t)(e:lE t c=some b):PySem.W.kitOne K (.type t) (.type c)=some b:=by
 unfold lE at e;split at e
 . rename_i hc;simp only[List.contains_cons,List.contains_nil,aUI,aUW,aTC] at hc;cases e;have ht':t = "NoneType" \/ t = "bool" \/ t = "int" \/ t = "str" \/ t = "tuple" \/ t = "list" \/ t = "dict" := by cases d <;> cases ht <;> simp
   rcases hc with rfl | rfl | rfl | rfl | rfl | rfl <;> rcases ht' with rfl | rfl | rfl | rfl | rfl | rfl | rfl <;> rfl
 . cases e
theorem aHF:aZ X (.builtin "isinstance") dH:=by
 refine ⟨λvs H Q=>∃ (F:Hp) (m:Md) (d:D) (v:V) (t c:String) (b:Bool),aH F H/\Rp X.K F H m d v/\vs=[v,.ty c]/\tyN d=some t/\lE t c=some b/\Q (.bl b) H,?_,?_⟩
 . intro aA s σ H xs us Q I r h;obtain ⟨F,m,d,v,t,c,b,sF,rp,rfl,ht,hb,q⟩:=h;obtain ⟨u,u',rfl,ru,ru'⟩:=u6 r;cases (show u'=Value.type c from ru')
   have e:=aHE (K:=X.K) ht hb;have fin:∀ tk,EP X aA σ Q (.bool b) { s with toks:=tk }:=λtk=>⟨.bl b,H,I.tok _,rfl,q⟩
   cases d with
   | non=>cases rp.non;cases ht;cases (show u=Value.none from ru);exact aTG aTH I.kIn True.intro e (λz=>nomatch z) fin
   | bl y=>cases rp.bl;cases ht;cases (show u=Value.bool y from ru);exact aTG aTI I.kIn True.intro e (λz=>nomatch z) fin
   | int i=>cases rp.int;cases ht;obtain ⟨t,q⟩:=(show ∃ t,u=Value.int i t from ru);cases q;exact aTG aTJ I.kIn True.intro e (λz=>nomatch z) fin
   | str y=>obtain ⟨rfl,_⟩:=rp.str;cases ht;obtain ⟨t,q⟩:=(show ∃ t,u=Value.str y t from ru);cases q;exact aTG aTK I.kIn True.intro e (λz=>nomatch z) fin
   | tup ds =>
    obtain ⟨a,xs,rfl,hq,_⟩:=rp.seqT sF;cases ht;cases (show u=Value.ref a from ru)
    obtain ⟨its,_,⟨o,h1,h2,_⟩,_⟩:=I.tuple hq;exact aTG aTM I.kIn ⟨o,h1,h2⟩ e (λz=>nomatch z) fin
   | lst ds =>
    obtain ⟨a,xs,rfl,hq,_⟩:=rp.seqL sF;cases ht;cases (show u=Value.ref a from ru)
    obtain ⟨its,_,⟨o,n,h1,h2,_⟩,_⟩:=I.list hq;exact aTG aTL I.kIn ⟨o,h1,h2⟩ e (λz=>nomatch z) fin
   | dct ds =>
    obtain ⟨a,xs,rfl,hq,_⟩:=rp.dict sF;cases ht;cases (show u=Value.ref a from ru)
    obtain ⟨_,_,vs,_,p⟩:=(show bD X.prog X.w H s.heap a (.dK xs) from I.hok a _ hq)
    obtain ⟨o,es,ep,h1,h2,_⟩:=p;exact aTG aTN I.kIn ⟨o,h1,h2.1⟩ e (λz=>nomatch z) fin
   | _=>cases ht
 . intro F H xs vs k d Q s rx e w;unfold dH at e;split at e
   . rename_i m d' n c;obtain ⟨v,u,rfl,r1,r2⟩:=rx.two;cases r2.ty;cases et:tyN d' with
     | none=>rw[et] at e;cases e
     | some t =>
      rw[et] at e;dsimp only at e;cases eb:lE t c with
      | none=>rw[eb] at e;cases e
      | some b=>rw[eb] at e;cases e;exact ⟨F,m,d',v,t,c,b,s,r1,rfl,et,eb,w _ F H (.refl s) (cK _) (by intro z;cases z)⟩
   . cases e
theorem pv_ty{T:String}(hg:Gl X x)(hm:X.mg x=none)(hv:bootBuiltins x=some (.type T))(hn:x ≠ "__name__" := by decide)(hd:(x==("__debug__" : Str))=false:=by decide):PV C X (.Name x pos) (λ_=>.ok .fz (.ty T)) :=
 iX _ (aDM (v:=.ty T) hg hm hv rfl hn hd) λ_ _=>rp_ty T
theorem aHG{y:Str}{t:Tok}(hg:Gl X x)(hm:X.mg x=some (.str y t))(h:(decide (y.length<=sizeLine)&&PyData.strOk y)=true:=by decide +kernel)(hd:(x==("__debug__" : Str))=false:=by decide):PV C X (.Name x pos) (λ_=>.ok .fz (.str y)) :=
 iX _ (pX (v:=.str y) hg hm ⟨t,rfl⟩ hd) λ_ _=>e5 (by rw[aUG,aUU] at h;exact h)
theorem aHH{y:Int}{t:Tok}(hg:Gl X x)(hm:X.mg x=some (.int y t))(hd:(x==("__debug__" : Str))=false:=by decide):PV C X (.Name x pos) (λ_=>.ok .fz (.int y)) :=
 iX _ (pX (v:=.int y) hg hm ⟨t,rfl⟩ hd) λ_ _=>cQ _
def eM:List D->Option (List Bool)
 | []=>some []
 | .bl b::r=>(eM r).map (b :: ·)
 | _=>none
def lF:List (Md×D)->Option (Md×D)
 | [(_,.lst ds)]=>(eM ds).map λbs=>(.fz,.bl (bs.all id))
 | _=>none
def lG:List (Md×D)->Option (Md×D)
 | [(_,.lst ds)]=>(eM ds).map λbs=>(.fz,.bl (bs.any id))
 | _=>none
theorem qN{K:Fg}{F:Hp}:∀ {ds:List D} {xs:List V} {bs:List Bool},aE K F ds xs->eM ds=some bs->xs=bs.map V.bl
 | [],_,_,h,e=>by cases e;simp only[aE] at h;exact h
 | d::ds,_,_,h,e=>by
  simp only[aE] at h;obtain ⟨y,ys,rfl,r,t⟩:=h;cases d with
  | bl b =>
   unfold eM at e;cases q:eM ds with
   | none=>rw[q] at e;cases e
   | some bs=>rw[q] at e;cases e;simp only[aD] at r;subst r;rw[qN t q];rfl
  | _=>cases e
theorem aHI(bs:List Bool):(List.range bs.length).all (λi=>bs.getD i true)=bs.all id:=by
 rw[aS7,aU4,aU4];constructor
 . intro h b hb;obtain ⟨i,hi,e⟩:=aU5 hb;have:=h i (aSH.mpr hi);rw[aU6,aU7 hi] at this;rw[<- e];exact this
 . intro h i hi;have hi:=aSH.mp hi;rw[aU6,aU7 hi];exact h _ (aU8 hi)
theorem aHJ(bs:List Bool):(List.range bs.length).any (λi=>bs.getD i true)=bs.any id:=by
 rw[aS7,aU9,aU9];constructor
 . rintro ⟨i,hi,h⟩;have hi:=aSH.mp hi;rw[aU6,aU7 hi] at h;exact ⟨_,aU8 hi,h⟩
 . rintro ⟨b,hb,h⟩;obtain ⟨i,hi,e⟩:=aU5 hb;refine ⟨i,aSH.mpr hi,?_⟩;rw[aU6,aU7 hi];show bs[i]=true;rw[e];exact h
theorem v9{prog:Program}{w:World}{aA:LAO}{σ:L2.St}{H:Hp}{s:Shared}{a:Addr}{bs:List Bool}(hc:X.calm=true)(I:Inv X aA σ H s)(hq:SqL X.K H a (bs.map V.bl)){E:VSP}{Q:VSP}(h:∀ (it:Value) (s2:Shared),(∃ I' fp wr n P St tr,it=.ref I'/\Walks prog w X.A.in1 I' fp wr n P St/\St 0 s2.heap/\TruthOf prog w X.A.in1 P tr/\n=bs.length/\(∀ i,tr i=bs.getD i true)/\∀ h' tk,(∀ b o,b∉wr->s2.heap.get? b=some o->h'.get? b=some o)->∃ s3:Shared,s3={ s2 with heap:=h',toks:=tk }/\Inv X aA σ H s3)->Q it s2):wpAny (model prog w) X.A.in1 (pyIter (.ref a)) Q E s:=by
 obtain ⟨its,rv,p,hz⟩:=I.list hq;have hlen:=rv.length;rw[aTZ] at hlen;refine aS0 p.isList (h _ _ ⟨s.heap.objs.size,_,_,_,_,_,λi=>bs.getD i true,rfl,Walks.list (by show X.A.handled=none;exact I.ok.hd hc) s.heap.objs.size a ?_ its.toArray,⟨⟨_,aSA _ rfl,rfl,rfl⟩,?_⟩,?_,?_,λ_=>rfl,?_⟩)
 . obtain ⟨o,n,e,_⟩:=p;exact aSE (aSB e)
 . obtain ⟨o,n,e,c,d,dd⟩:=p;exact ⟨o,hps e,c,n,dd⟩
 . intro i v s' Q' E' hP hQ;have hv:its[i]? = some v:=by simpa using hP
   have hi:i<bs.length:=by rw[hlen];exact (aSO.mp hv).1
   have hx:(bs.map V.bl)[i]? = some (V.bl bs[i]):=by rw[aTW,aU7 hi];rfl
   obtain ⟨u,hu,ru⟩:=rv.get hx;rw[hv] at hu;cases hu;cases (show v=Value.bool _ from ru)
   have hQ:Q' (bs.getD i true) s':=hQ;rw[aU6,aU7 hi] at hQ;exact aST hQ
 . rw[aTA,hlen]
 . intro h' tk hk;refine ⟨_,rfl,?_⟩;refine (I.kept (t':=tk) (h':=h') λb o e=>?_)
   refine hk b o (by intro hb; have : b = s.heap.objs.size := by simpa using hb
                     subst this;exact absurd (aSB e) (aSD _)) (hps e)
theorem aHK(hc:X.calm=true):aZ X (.builtin "all") lF:=by
 refine ⟨λvs H Q=>∃ (a:Addr) (bs:List Bool),vs=[.ref a]/\SqL X.K H a (bs.map V.bl)/\Q (.bl (bs.all id)) H,?_,?_⟩
 . intro aA s σ H xs us Q I r h;obtain ⟨a,bs,rfl,hq,q⟩:=h;obtain ⟨u,rfl,ru⟩:=cH r;cases (show u=Value.ref a from ru)
   refine call_all_walk (v9 hc I hq λit s2 hh=>?_);obtain ⟨I',fp,wr,n,P,St,tr,rfl,W,st,T,rfl,htr,fin⟩:=hh;refine ⟨I',fp,wr,_,P,St,tr,rfl,W,st,T,λh' tk hk=>?_⟩;obtain ⟨s3,rfl,I3⟩:=fin h' tk hk;have e:(List.range bs.length).all tr=bs.all id:=by rw[<- aHI];congr 1;funext i;exact htr i
   rw[e];exact ⟨.bl (bs.all id),H,I3,rfl,q⟩
 . intro F H xs vs k d Q s rx e w;unfold lF at e;split at e
   . rename_i m ds;obtain ⟨v,rfl,r⟩:=rx.one;obtain ⟨a,xs,rfl,hq,rl⟩:=r.seqL s;cases eb:eM ds with
     | none=>rw[eb] at e;cases e
     | some bs=>rw[eb] at e;cases e;have:=qN rl eb;subst this;exact ⟨a,bs,rfl,hq,w _ F H (.refl s) (cK _) (by intro z;cases z)⟩
   . cases e
theorem aHL(hc:X.calm=true):aZ X (.builtin "any") lG:=by
 refine ⟨λvs H Q=>∃ (a:Addr) (bs:List Bool),vs=[.ref a]/\SqL X.K H a (bs.map V.bl)/\Q (.bl (bs.any id)) H,?_,?_⟩
 . intro aA s σ H xs us Q I r h;obtain ⟨a,bs,rfl,hq,q⟩:=h;obtain ⟨u,rfl,ru⟩:=cH r;cases (show u=Value.ref a from ru)
   refine call_any_walk (v9 hc I hq λit s2 hh=>?_);obtain ⟨I',fp,wr,n,P,St,tr,rfl,W,st,T,rfl,htr,fin⟩:=hh;refine ⟨I',fp,wr,_,P,St,tr,rfl,W,st,T,λh' tk hk=>?_⟩;obtain ⟨s3,rfl,I3⟩:=fin h' tk hk;have e:(List.range bs.length).any tr=bs.any id:=by rw[<- aHJ];congr 1;funext i;exact htr i
   rw[e];exact ⟨.bl (bs.any id),H,I3,rfl,q⟩
 . intro F H xs vs k d Q s rx e w;unfold lG at e;split at e
   . rename_i m ds;obtain ⟨v,rfl,r⟩:=rx.one;obtain ⟨a,xs,rfl,hq,rl⟩:=r.seqL s;cases eb:eM ds with
     | none=>rw[eb] at e;cases e
     | some bs=>rw[eb] at e;cases e;have:=qN rl eb;subst this;exact ⟨a,bs,rfl,hq,w _ F H (.refl s) (cK _) (by intro z;cases z)⟩
   . cases e
end
inductive aK where
 | nx (ρ:Rho) | rt (m:Md) (d:D) | bk (ρ:Rho) | ct (ρ:Rho) | exc (c:Str) (ρ:Rho) | stuck
def cW(C:Cw)(Fa:Hp)(r:aK)(E:fJ):Prop:=match r with
 | .nx ρ=>∀ σ F H,aH Fa F->aY C.K C.F0 C.H0 F H σ ρ->E.nx σ H
 | .bk ρ=>∀ σ F H,aH Fa F->aY C.K C.F0 C.H0 F H σ ρ->E.bk σ H
 | .ct ρ=>∀ σ F H,aH Fa F->aY C.K C.F0 C.H0 F H σ ρ->E.ct σ H
 | .exc c ρ=>∀ σ F H,aH Fa F->aY C.K C.F0 C.H0 F H σ ρ->C.EE c σ H
 | .rt m d=>∀ v F H,aJ C.F0 C.H0 F H->Rp C.K F H m d v->(m=.fr->∀ a,v=.ref a->C.H0 a=none)->E.rt v H
 | .stuck=>False
theorem cW.mono{C:Cw}{F F1:Hp}{r:aK}{E:fJ}(s:aH F F1)(w:cW C F r E):cW C F1 r E:=by
 cases r with
 | nx ρ=>exact λσ F' H' z R=>w σ F' H' (s.trans z) R
 | bk ρ=>exact λσ F' H' z R=>w σ F' H' (s.trans z) R
 | ct ρ=>exact λσ F' H' z R=>w σ F' H' (s.trans z) R
 | exc c ρ=>exact λσ F' H' z R=>w σ F' H' (s.trans z) R
 | rt m d=>exact w
 | stuck=>exact w
def tH(C:Cw)(g:Rho->aK):TS:=λE σ H=>∃ ρ F,aY C.K C.F0 C.H0 F H σ ρ/\cW C F (g ρ) E
def PSv(C:Cw)(X:Cx)(st:Stmt)(g:Rho->aK):Prop:=PS X st (tH (C.at X) g)
def PBv(C:Cw)(X:Cx)(st:List Stmt)(g:Rho->aK):Prop:=PSs X st (tH (C.at X) g)
theorem PS.imp{X:Cx}{e:Stmt}{t t':TS}(h:PS X e t)(i:∀ E σ H,t' E σ H->t E σ H):PS X e t':=λaA s σ H E I q=>h aA s σ H E I (i E σ H q)
theorem PSs.imp{X:Cx}{e:List Stmt}{t t':TS}(h:PSs X e t)(i:∀ E σ H,t' E σ H->t E σ H):PSs X e t':=λaA s σ H E I q=>h aA s σ H E I (i E σ H q)
def aK.thn(r:aK)(k:Rho->aK):aK:=match r with
 | .nx ρ=>k ρ
 | r=>r
@[simp] theorem aK.thn_nx(ρ:Rho)(k:Rho->aK):(aK.nx ρ).thn k=k ρ:=rfl
@[simp] theorem aK.thn_rt(m:Md)(d:D)(k:Rho->aK):(aK.rt m d).thn k=.rt m d:=rfl
@[simp] theorem aK.thn_bk(ρ:Rho)(k:Rho->aK):(aK.bk ρ).thn k=.bk ρ:=rfl
@[simp] theorem aK.thn_ct(ρ:Rho)(k:Rho->aK):(aK.ct ρ).thn k=.ct ρ:=rfl
@[simp] theorem aK.thn_exc(c:Str)(ρ:Rho)(k:Rho->aK):(aK.exc c ρ).thn k=.exc c ρ:=rfl
@[simp] theorem aK.thn_stuck(k:Rho->aK):aK.stuck.thn k=.stuck:=rfl
section
variable {C:Cw}{X:Cx}{a b c e:Expr}{es:List Expr}{ga gb gc g:Rho->Res}{gs:Rho->aT}{pos p:Pos}{x:Str}{st:Stmt}{sts:List Stmt}{h1 h2:Rho->aK}
theorem aHM:PBv C X [] (λρ=>.nx ρ):=PSs.imp aDU λE σ H q=>by obtain ⟨ρ,F,R,w⟩:=q;exact w σ F H (aH.refl _) R
theorem aHN{E:fJ}{σ:L2.St}{H:Hp}(q:tH C (λρ=>(h1 ρ).thn h2) E σ H):tSeq (tH C h1) (tH C h2) E σ H:=by
 obtain ⟨ρ,F,R,w⟩:=q;refine ⟨ρ,F,R,?_⟩;dsimp only at w;cases er:h1 ρ with
 | nx ρ'=>rw[er] at w;exact λσ' F' H' z R'=>⟨ρ',F',R',cW.mono z w⟩
 | rt m d=>rw[er] at w;exact w
 | bk ρ'=>rw[er] at w;exact w
 | ct ρ'=>rw[er] at w;exact w
 | exc c ρ'=>rw[er] at w;exact w
 | stuck=>rw[er] at w;exact w
theorem aHO(ha:PSv C X st h1)(hb:PBv C X sts h2):PBv C X (st::sts) (λρ=>(h1 ρ).thn h2):=PSs.imp (aDV ha hb) λE σ H q=>aHN q
def Res.thS(r:Res)(ρ:Rho)(k:Md->D->aK):aK:=match r with
 | .ok m d=>k m d
 | .exc c=>.exc c ρ
 | .stuck=>.stuck
@[simp] theorem Res.thS_ok(m:Md)(d:D)(ρ:Rho)(k:Md->D->aK):(Res.ok m d).thS ρ k=k m d:=rfl
@[simp] theorem Res.thS_exc(c:Str)(ρ:Rho)(k:Md->D->aK):(Res.exc c).thS ρ k=.exc c ρ:=rfl
@[simp] theorem Res.thS_stuck(ρ:Rho)(k:Md->D->aK):Res.stuck.thS ρ k=.stuck:=rfl
theorem jU{F:Hp}{σ:L2.St}{H:Hp}{ρ:Rho}{k:Md->D->aK}{E:fJ}{Q:VK}(R:aY C.K C.F0 C.H0 F H σ ρ)(w:cW C F ((g ρ).thS ρ k) E)(h:∀ m d v F' H',cW C F' (k m d) E->aJ F H F' H'->aY C.K C.F0 C.H0 F' H' σ ρ->Rp C.K F' H' m d v->(m=.fr->∀ a,v=.ref a->H a=none)->Q v H'):tG C g σ H Q:=by
 rw[a8];refine ⟨ρ,F,R,?_⟩;cases er:g ρ with
 | stuck=>rw[er] at w;exact w
 | exc c=>rw[er] at w;exact λF' H' s=>w σ F' H' s.fsame (R.step s)
 | ok m d=>rw[er] at w;exact λv F' H' s rp fr=>h m d v F' H' (cW.mono s.fsame w) s (R.step s) rp fr
def jV(r:Res)(ρ:Rho):aK:=r.thS ρ λm d=>match m with | .bo=>.stuck | m=>.rt m d
theorem aHP(he:PV C X e g):PSv C X (.Return (some e) pos) (λρ=>jV (g ρ) ρ):=PS.imp (uW he) λE σ H q=>by
 obtain ⟨ρ,F,R,w⟩:=q;refine jU R w λm d v F' H' w' s R' rp fr=>?_;cases m with
 | bo=>exact (show False from w').elim
 | fz=>exact w' v F' H' R'.st rp (by intro z;cases z)
 | fr=>exact w' v F' H' R'.st rp λ_ a ea=>R.st.same.free (fr rfl a ea)
def eN(ρ:Rho)(i:Nat):aK:=match ρ[i]? with
 | some (some (false,d))=>.rt .fz d
 | some (some (true,d))=>.rt .fr d
 | _=>.stuck
theorem aHQ(i:Nat)(h:PE X (.Name x p) (dE i)):PSv C X (.Return (some (.Name x p)) pos) (λρ=>eN ρ i):=PS.imp (uW h) λE σ H q=>by
 obtain ⟨ρ,F,R,w⟩:=q;dsimp only at w;unfold eN at w;cases e:ρ[i]? with
 | none=>rw[e] at w;exact w.elim
 | some o =>
  cases o with
  | none=>rw[e] at w;exact w.elim
  | some q =>
   obtain ⟨m,d⟩:=q;obtain ⟨v,e1,r,hh⟩:=R.slot i m d e;rw[e] at w;cases m with
   | false=>exact ⟨v,e1,w v F H R.st r (by intro z;cases z)⟩
   | true=>exact ⟨v,e1,w v F H R.st r λ_=>hh rfl⟩
def ifS(t:Res)(ρ:Rho)(x y:aK):aK:=t.thS ρ λ_ d=>match d with | .bl true=>x | .bl false=>y | _=>.stuck
theorem aHR{s1 s2:List Stmt}(hc:PTv C X c gc)(ha:PBv C X s1 h1)(hb:PBv C X s2 h2):PSv C X (.If c s1 s2 pos) (λρ=>ifS (gc ρ) ρ (h1 ρ) (h2 ρ)):=by
 refine PS.imp (ps_if hc ha hb) λE σ H q=>?_;obtain ⟨ρ,F,R,w⟩:=q;dsimp only at w;refine ⟨ρ,F,R,?_⟩;cases er:gc ρ with
 | stuck=>rw[er] at w;exact w
 | exc c=>rw[er] at w;exact λF' H' s=>w σ F' H' s.fsame (R.step s)
 | ok m d =>
  rw[er] at w;cases d with
  | bl k =>
   intro F' H' s;cases k with
   | true=>rw[if_pos rfl];exact ⟨ρ,F',R.step s,cW.mono s.fsame w⟩
   | false=>rw[if_neg aS8];exact ⟨ρ,F',R.step s,cW.mono s.fsame w⟩
  | _=>exact w.elim
def dY(ρ:Rho)(i:Nat)(r:Res):aK:=r.thS ρ λm d=>match m with
 | .fz=>.nx (ρ.set i (some (false,d)))
 | .fr=>.nx (ρ.set i (some (true,d)))
 | .bo=>.stuck
theorem aY.set{K:Fg}{F0 H0 F H F' H':Hp}{σ:L2.St}{ρ:Rho}{i:Nat}{m:Bool}{d:D}{v:V}(R0:aY K F0 H0 F H σ ρ)(s:aJ F H F' H')(rp:Rp K F' H' (if m then .bo else .fz) d v)(fr:m=true->∀ a,v=.ref a->H a=none):aY K F0 H0 F' H' (σ.set i (some v)) (ρ.set i (some (m,d))):=by
 have R:=R0.step s;refine ⟨R.st,λj m' d' e=>?_,λj k d1 d2 a hjk e1 e2 q1 q2=>?_,by rw[aVA,aVA];exact R.len⟩
 . by_cases hj:j=i
   . subst hj;rw[aVB] at e;by_cases hl:j<ρ.length
     . rw[if_pos rfl,if_pos hl] at e;cases e;refine ⟨v,by rw[aVB,if_pos rfl,if_pos (by rw[R.len];exact hl)],rp,λz a ea=>R0.st.same.free (fr z a ea)⟩
     . rw[if_pos rfl,if_neg hl] at e;cases e
   . rw[aSR (λz=>hj z.symm)] at e ⊢;exact R.slot j m' d' e
 . have old:∀ (l:Nat) (d:D) (b:Addr),l≠i->ρ[l]? = some (some (true,d))->σ[l]? = some (some (.ref b))->H b≠none:=λl d b hl e q=>by obtain ⟨u,q',r,_⟩:=R0.slot l true d e;rw[q] at q';cases q';obtain ⟨b',eb,_,t⟩:=r;cases eb;exact t.there
   by_cases hj:j=i
   . subst hj;rw[aSR hjk] at e2 q2;rw[aVB] at e1 q1;by_cases hl:j<ρ.length
     . rw[if_pos rfl,if_pos hl] at e1;rw[if_pos rfl,if_pos (by rw[R.len];exact hl)] at q1
       cases e1;cases q1;exact old k d2 a (λz=>hjk z.symm) e2 q2 (fr rfl a rfl)
     . rw[if_pos rfl,if_neg hl] at e1;cases e1
   . by_cases hk:k=i
     . subst hk;rw[aSR (λz=>hjk z.symm)] at e1 q1;rw[aVB] at e2 q2;by_cases hl:k<ρ.length
       . rw[if_pos rfl,if_pos hl] at e2;rw[if_pos rfl,if_pos (by rw[R.len];exact hl)] at q2
         cases e2;cases q2;exact old j d1 a hjk e1 q1 (fr rfl a rfl)
       . rw[if_pos rfl,if_neg hl] at e2;cases e2
     . rw[aSR (λz=>hj z.symm)] at e1 q1;rw[aSR (λz=>hk z.symm)] at e2 q2;exact R.apart j k d1 d2 a hjk e1 e2 q1 q2
theorem lH{g:Rho->Res}{i:Nat}{E:fJ}{σ:L2.St}{H:Hp}(q:tH (C.at X) (λρ=>dY ρ i (g ρ)) E σ H):jN (tG (C.at X) g) (gG i) E σ H:=by
 obtain ⟨ρ,F,R,w⟩:=q;dsimp only at w;refine jU R w λm d v F' H' w' s R' rp fr=>?_;cases m with
 | bo=>exact (show False from w').elim
 | fz=>exact w' _ F' H' (aH.refl _) (R.set (m:=false) s rp (by intro z;cases z))
 | fr=>exact w' _ F' H' (aH.refl _) (R.set (m:=true) s rp λ_ a ea=>fr rfl a ea)
theorem aHS{i:Nat}{pos':Pos}(hN:X.N.Nodup)(hi:X.N[i]? = some x)(hx:Loc X.env.scope x)(he:PV C X e g)(hs:swapsWith e (some (.Name x pos')) pos.line X.env=pure false:=by rfl)(hf:X.fn x=true\/X.env.scope.names.lookup x=some .local:=by first | exact .inl rfl | exact .inr rfl | assumption):PSv C X (.Assign [.Name x pos'] e pos) (λρ=>dY ρ i (g ρ)):=PS.imp (aDZ hN hi hx he hs hf) λE σ H q=>lH q
end
def Its(x:Str):It:=⟨λi _=>i<x.cps.size,λi H v H'=>H'=H/\∃ c,x.cps[i]? = some c/\v=.str ⟨#[c]⟩,λi _=>x.cps.size<=i⟩
theorem wA{P:Program}{w:World}{K:Fg}{tg:Expr}(it:Addr)(x:Str)(t:Tok)(ty:String)(hty:["enumerate", "zip", "dict_itemiterator", "dict_reverseitemiterator", "odict_iterator", "itertools.zip_longest", "itertools.pairwise"].contains ty=false)(W:∀ A':Around,A'.handled=none->Walks P w A' it [it] [it] x.cps.size (SignAt x) (λi h=>h.IsStrIter it ty x t i))(Sf:∀ (A:Around) (i:Nat) (s:Shared) (Q:VSP) (E:VSP),s.heap.IsStrIter it ty x t i->Q (.ref it) s->wpAny (model P w) A (pyIter (.ref it)) Q E s):gH P w K tg (Its x) [it] it (λi h=>i<=x.cps.size/\h.IsStrIter it ty x t i) where
 mem:=by simp
 obj:=λi h st b hb=>by
  have e:b=it:=by simpa using hb
  subst e;obtain ⟨_,o,e,c,d⟩:=st;exact ⟨o,e,λv z=>by rw[d] at z;cases z⟩
 keep:=λi h h' st k=>⟨st.1,let ⟨o,e,r⟩:=st.2;⟨o,k it (by simp) o e,r⟩⟩
 item:=by
  intro X hP hw hK hc i aA s σ H E I hf st hg;subst hP hw hK;obtain ⟨f0,f1,f2,f3,f4,f5⟩:=hf it (by simp)
  refine (W X.A (I.ok.hd hc)).item i s _ _ hg st.2 λv h' tk hv st' kk=>?_;obtain ⟨c,u,hc',rfl⟩:=hv;have I1:Inv X aA σ H { s with heap:=h',toks:=tk }:=I.turned (λb o hb e=>kk b o (by simpa using hb) e) f0 f1 f3 f4 f5
  obtain ⟨o,e,oc,d⟩:=id st';exact ⟨_,rfl,kX (s:={ s with heap:=h',toks:=tk }) e oc d hty ⟨.str ⟨#[c]⟩,H,I1,⟨u,rfl⟩,⟨rfl,c,hc',rfl⟩,⟨hg,st'⟩,λb hb=>(hf b hb).1⟩⟩
 done:=by
  intro X hP hw hK hc i aA s σ H E I hf st hg;subst hP hw hK;obtain ⟨f0,f1,f2,f3,f4,f5⟩:=hf it (by simp)
  have e:i=x.cps.size:=Nat.le_antisymm st.1 hg;subst e;exact (W X.A (I.ok.hd hc)).done s _ _ st.2 λh' tk kk=>⟨rfl,I.turned (λb o hb e=>kk b o (by simpa using hb) e) f0 f1 f3 f4 f5⟩
 self:=λA i s Q E st h=>Sf A i s Q E st.2 h
def iStr(te:TE):TI:=λσ H R=>te σ H λx H1=>∃ z,x=.str z/\R (Its z) H1
theorem aHT{X:Cx}{tg l:Expr}{tl:TE}(hl:PE X l tl):PI X tg l (iStr tl):=by
 intro aA s σ H R I h;refine thn (hl aA s σ H _ I h) λv s1 ⟨x,H1,I1,r1,q1⟩=>?_;obtain ⟨z,e,q⟩:=q1;subst e;obtain ⟨t,rfl⟩:=r1;have fin:∀ (ty:String) (o:Obj),o={ cls:=.type ty,data:=.fields #[.str z t,.int ((0:Nat):Int) 0] } -> (∀ b:Addr,b∈[s1.heap.objs.size]->dQ X aA H1 b)/\Inv X aA σ H1 { s1 with heap:=s1.heap.push o }/\(s1.heap.push o).IsStrIter s1.heap.objs.size ty z t 0:=λty o eo=>by
  refine ⟨λb hb=>?_,I1.kept (t':=s1.toks) λb o e=>hps e,⟨o,aSA _ (by rw[eo];rfl),by rw[eo],by rw[eo]⟩⟩
  have e:b=s1.heap.objs.size:=by simpa using hb
  subst e;exact I1.fpOk (aS1 _) (I1.hok.fresh (aS1 _))
 cases ha:z.cps.all (· < 128)
 . refine wpAny_pyIter_wide ha ?_;obtain ⟨f1,f2,f3⟩:=fin "str_iterator" _ rfl;exact ⟨s1.heap.objs.size,[s1.heap.objs.size],_,Its z,H1,rfl,f2,wA _ z t "str_iterator" (by decide) (λA' hA=>Walks.strWide hA _ z t) (λA i s Q E st h=>wpAny_pyIter_striter_wide st h),⟨aTF _,f3⟩,f1,q⟩
 . refine wpAny_pyIter_ascii ha ?_;obtain ⟨f1,f2,f3⟩:=fin "str_ascii_iterator" _ rfl;exact ⟨s1.heap.objs.size,[s1.heap.objs.size],_,Its z,H1,rfl,f2,wA _ z t "str_ascii_iterator" (by decide) (λA' hA=>Walks.strAscii hA _ z t) (λA i s Q E st h=>wpAny_pyIter_striter_ascii st h),⟨aTF _,f3⟩,f1,q⟩
theorem PI.imp{X:Cx}{tg e:Expr}{t t':TI}(h:PI X tg e t)(i:∀ σ H R,t' σ H R->t σ H R):PI X tg e t':=λaA s σ H R I q=>h aA s σ H R I (i σ H R q)
theorem PI.or{X:Cx}{tg e:Expr}{t t':TI}(h:PI X tg e t)(h':PI X tg e t'):PI X tg e (λσ H R=>t σ H R\/t' σ H R):=λaA s σ H R I q=>by
 rcases q with q | q
 . exact h aA s σ H R I q
 . exact h' aA s σ H R I q
structure jW(K:Fg)(F:Hp)(J:It)(ds:List D):Prop where
 go:∀ i H,aH F H->i<ds.length->J.go i H
 stop:∀ i H,aH F H->ds.length<=i->J.stop i H
 yld:∀ i Fc H x H',aH F Fc->aH Fc H->i<ds.length->J.yld i H x H'->∃ F' d,ds[i]? = some d/\aJ Fc H F' H'/\aD K F' d x
def WantI(C:Cw)(F H:Hp)(σ:L2.St)(r:Res)(R:It->Hp->Prop):Prop:=match r with
 | .ok _ (.lst ds)=>∀ J F' H',aJ F H F' H'->jW C.K F' J ds->R J H'
 | .exc c=>∀ F' H',aJ F H F' H'->C.EE c σ H'
 | _=>False
def tIv(C:Cw)(g:Rho->Res):TI:=λσ H R=>∃ ρ F,aY C.K C.F0 C.H0 F H σ ρ/\WantI C F H σ (g ρ) R
def PIv(C:Cw)(X:Cx)(tg e:Expr)(g:Rho->Res):Prop:=PI X tg e (tIv (C.at X) g)
def fO(z:Str):List D:=z.cps.toList.map λc=>.str ⟨#[c]⟩
def dI(r:Res):Res:=r.thn λ_ d=>match d with
 | .lst ds=>.ok .fz (.lst ds)
 | .tup ds=>.ok .fz (.lst ds)
 | .str z=>.ok .fz (.lst (fO z))
 | _=>.stuck
section
variable {C:Cw}{X:Cx}{tg e:Expr}{g:Rho->Res}{gs:Rho->aT}{pos p:Pos}
theorem aHU{K:Fg}{F:Hp}{a:Addr}{ds:List D}{xs:List V}(hq:SqT K F a xs)(r:aE K F ds xs):jW K F (Itt K a) ds where
 go:=λi H s hi=>by
  have hl:i<xs.length:=by rw[r.length];exact hi
  exact ⟨xs,xs[i],aH.seqT s hq,by simp[hl]⟩
 stop:=λi H s hi=>⟨xs,aH.seqT s hq,by rw[r.length];exact hi⟩
 yld:=λi Fc H x H' s1 s2 hi y=>by obtain ⟨rfl,y⟩:=y;have hx:=y xs (aH.seqT s2 (aH.seqT s1 hq));obtain ⟨d,e,rd⟩:=r.get hx;exact ⟨Fc,d,e,.refl s2,rd.mono s1 _ _⟩
theorem aHV{K:Fg}{F:Hp}{z:Str}(hk:PyData.strOk z=true):jW K F (Its z) (fO z) where
 go:=λi H s hi=>by simpa[fO,Its] using hi
 stop:=λi H s hi=>by simpa[fO,Its] using hi
 yld:=λi Fc H x H' s1 s2 hi y=>by
  obtain ⟨rfl,c,hc,rfl⟩:=y;refine ⟨Fc,.str ⟨#[c]⟩,by simp[fO,hc],.refl s2,?_⟩
  simp only[aD,true_and];refine ⟨by show 1<=sizeLine;decide,?_⟩
  unfold PyData.strOk at hk ⊢;rw[aUX] at hk;simpa using hk c (aU1 hc)
theorem aHW(h:PV C X e g):PIv C X tg e (λρ=>dI (bB (g ρ))):=by
 have h:=fN h;refine PI.imp (PI.or (aD3 h) (PI.or (aD4 h) (aHT h))) λσ H R q=>?_;obtain ⟨ρ,F,RS,w⟩:=q;dsimp only at w;cases er:bB (g ρ) with
 | stuck=>rw[er] at w;exact w.elim
 | exc c=>refine .inl ?_;unfold pZ;rw[a8];refine ⟨ρ,F,RS,?_⟩;rw[er] at w ⊢;exact w
 | ok m d =>
  rw[er] at w;have hm:m=.fz:=by
   cases h:g ρ with
   | ok m' d'=>rw[h] at er;cases m' <;> cases er <;> rfl
   | exc c=>rw[h] at er;cases er
   | stuck=>rw[h] at er;cases er
  subst hm;cases d with
  | lst ds =>
   refine .inl ?_; unfold pZ; rw [a8]; refine ⟨ρ, F, RS, ?_⟩; rw [er]; intro v F' H' st rp _; have rp : aD X.K F' (.lst ds) v := rp; simp only [aD] at rp; obtain ⟨a, xs, rfl, hq, r⟩ := rp; exact ⟨a, rfl, ⟨xs, st.sub.seq hq⟩, w _ F' H' st ⟨fun i H s hi => by
       have hl:i<xs.length:=by rw[r.length];exact hi
       exact ⟨xs,xs[i],s.seq hq,by simp[hl]⟩,λi H s hi=>⟨xs,s.seq hq,by rw[r.length];exact hi⟩,λi Fc H x H' s1 s2 hi y=>by
       obtain ⟨rfl,y⟩:=y;have hx:=y xs (s2.seq (s1.seq hq));obtain ⟨d,e,rd⟩:=r.get hx;exact ⟨Fc,d,e,.refl s2,rd.mono s1 _ _⟩⟩⟩
  | tup ds=>refine .inr (.inl ?_);unfold iTup;rw[a8];refine ⟨ρ,F,RS,?_⟩;rw[er];intro v F' H' st rp _;have rp:aD X.K F' (.tup ds) v:=rp;simp only[aD] at rp;obtain ⟨a,xs,rfl,hq,r⟩:=rp;exact ⟨a,rfl,⟨xs,aH.seqT st.sub hq⟩,w _ F' H' st (aHU hq r)⟩
  | str z=>refine .inr (.inr ?_);unfold iStr;rw[a8];refine ⟨ρ,F,RS,?_⟩;rw[er];intro v F' H' st rp _;obtain ⟨rfl,hz,hk⟩:=Rp.str rp;exact ⟨z,rfl,w _ F' H' st (aHV hk)⟩
  | _=>exact w.elim
def gK(lo hi:Int):List D:=(List.range (hi-lo).toNat).map λi=>.int (lo+(i:Nat))
def e7(r:aT):Res:=r.thn λxs=>match xs with
 | [(_,.int n)]=>if (decide (-(2 ^ 62)<=n)&&decide (n<2 ^ 62))=true then .ok .fz (.lst (gK 0 n)) else .stuck
 | _=>.stuck
theorem aHX{K:Fg}{F:Hp}{lo hi:Int}:jW K F (Itr lo (hi-lo).toNat) (gK lo hi) where
 go:=λi H s h=>by simpa[gK,Itr] using h
 stop:=λi H s h=>by simpa[gK,Itr] using h
 yld:=λi Fc H x H' s1 s2 h y=>by
  obtain ⟨rfl,rfl⟩:=y;have h':i<(hi-lo).toNat:=by simpa[gK] using h
  refine ⟨Fc,.int (lo+i),?_,.refl s2,by simp only[aD]⟩
  simp only[gK,aTW,List.getElem?_range h',aVC]
theorem aHY{a:Expr}(hg:Gl X "range")(hm:X.mg "range" = none)(ha:PAv C X [a] gs)(hs:starEach [a] X.env=[(false,eval a X.env)]:=by rfl):PIv C X tg (.Call (.Name "range" p) [a] [] pos) (λρ=>e7 (gs ρ)):=by
 refine PI.imp (aD6 hg hm ha hs) λσ H R q=>?_;obtain ⟨ρ,F,RS,w⟩:=q;dsimp only at w;unfold uZ;refine ⟨ρ,F,RS,?_⟩;cases er:gs ρ with
 | stuck=>rw[er] at w;exact w
 | exc c=>rw[er] at w;exact w
 | ok xs =>
  rw[er] at w;intro vs F' H' st rp;unfold e7 at w;rw[aT.thn_ok] at w;split at w
  . rename_i m n;split at w
    . rename_i hc;rw[aUG,aUU,aUU] at hc;obtain ⟨v,rfl,r⟩:=rp.one;cases r.int;have:=aHX (K:=X.K) (F:=F') (lo:=0) (hi:=n);rw[Int.sub_zero] at this;exact ⟨n,rfl,hc.1,hc.2,w _ F' H' st this⟩
    . exact w.elim
  . exact w.elim
def PGv(C:Cw)(X:Cx)(tg:Expr)(k:D->Rho->Option Rho):Prop:=∃ t:TG,PG X tg t/\∀ F H σ ρ ρ' d v Q,aY X.K C.F0 C.H0 F H σ ρ->aD X.K F d v->k d ρ=some ρ' ->
 (∀ σ' F' H',aH F F'->aY X.K C.F0 C.H0 F' H' σ' ρ'->Q σ' H')->t v σ H Q
def i5(i:Nat):D->Rho->Option Rho:=λd ρ=>some (ρ.set i (some (false,d)))
def bI(k:D->Rho->Option Rho)(body:Rho->aK):List D->Rho->aK
 | [],ρ=>.nx ρ
 | d::ds,ρ=>match k d ρ with
  | none=>.stuck
  | some ρ1=>match body ρ1 with
   | .nx ρ2=>bI k body ds ρ2
   | .ct ρ2=>bI k body ds ρ2
   | .bk ρ2=>.nx ρ2
   | r=>r
def eO(r:Res)(ρ:Rho)(k:D->Rho->Option Rho)(body:Rho->aK):aK:=r.thS ρ λ_ d=>match d with | .lst ds=>bI k body ds ρ | _=>.stuck
theorem aHZ{body:List Stmt}{k:D->Rho->Option Rho}{h1:Rho->aK}(hp:PassesOwn (model X.prog X.w) X.A X.env X.xe)(hc:X.calm=true)(hi:PIv C X tg e g)(hg:PGv C X tg k)(hb:PBv C X body h1)(hs:∀ x,foldedSetIterable e X.env x=pure x:=by intro _;rfl):PSv C X (.For tg e body [] pos) (λρ=>eO (g ρ) ρ k h1):=by
 obtain ⟨t,ht,hk⟩:=hg;refine PS.imp (aD8 hp hc hi ht hb hs) λE σ H q=>?_;obtain ⟨ρ,F,RS,w⟩:=q;dsimp only at w;unfold tFor;refine ⟨ρ,F,RS,?_⟩;cases er:g ρ with
 | stuck=>rw[er] at w;exact w
 | exc c=>rw[er] at w;exact λF' H' s=>w σ F' H' s.fsame (RS.step s)
 | ok m d =>
  rw[er] at w;cases d with
  | lst ds =>
   intro J F1 H1 s1 hJ;have w:cW (C.at X) F1 (bI k h1 ds ρ) E:=cW.mono s1.fsame w;refine ⟨λi m σ' H'=>m=ds.length-i/\i<=ds.length/\∃ ρ' F',aH F1 F'/\aY X.K C.F0 C.H0 F' H' σ' ρ'/\cW (C.at X) F' (bI k h1 (ds.drop i) ρ') E,⟨ds.length,by simp,aTF _,ρ,F1,aH.refl _,RS.step s1,by simpa using w⟩,?_⟩
   rintro i m σ' H' ⟨rfl,hi,ρ',F',sF,R',w'⟩;by_cases hlt:i<ds.length
   . refine .inr ⟨hJ.go i H' (sF.trans R'.sub) hlt,λσ2 H2=>∃ ρ2 F2,aH F1 F2/\aY X.K C.F0 C.H0 F2 H2 σ2 ρ2/\cW (C.at X) F2 (bI k h1 (ds.drop (i+1)) ρ2) E,λσ2 H2 ⟨ρ2,F2,a,b,c⟩=>⟨ds.length-(i+1),by omega,rfl,hlt,ρ2,F2,a,b,c⟩,λx H2 y=>?_⟩
     obtain ⟨F2,d,ed,s2,rd⟩:=hJ.yld i F' H' x H2 sF R'.sub hlt y;have hd:ds.drop i=d::ds.drop (i+1):=by rw[aVD hlt];rw[aU7 hlt] at ed;cases ed;rfl
     rw[hd] at w';unfold bI at w';cases ek:k d ρ' with
     | none=>rw[ek] at w';exact w'.elim
     | some ρ1 =>
      rw[ek] at w';dsimp only at w';refine hk F2 H2 σ' ρ' ρ1 d x _ (R'.step s2) rd ek λσ3 F3 H3 z3 R3=>?_;have z13:aH F1 F3:=(sF.trans s2.fsame).trans z3;have w3:=cW.mono (s2.fsame.trans z3) w';refine ⟨ρ1,F3,R3,?_⟩;cases eb:h1 ρ1 with
      | nx ρ2=>rw[eb] at w3;exact λσ4 F4 H4 z4 R4=>⟨ρ2,F4,z13.trans z4,R4,cW.mono z4 w3⟩
      | ct ρ2=>rw[eb] at w3;exact λσ4 F4 H4 z4 R4=>⟨ρ2,F4,z13.trans z4,R4,cW.mono z4 w3⟩
      | bk ρ2=>rw[eb] at w3;exact λσ4 F4 H4 z4 R4=>w3 σ4 F4 H4 z4 R4
      | rt m d=>rw[eb] at w3;exact w3
      | exc c ρ2=>rw[eb] at w3;exact w3
      | stuck=>rw[eb] at w3;exact w3
   . have ei:i=ds.length:=by omega
     subst ei;refine .inl ⟨hJ.stop _ H' (sF.trans R'.sub) (aS1 _),?_⟩;rw[aVE] at w';exact w' σ' F' H' (aH.refl _) R'
  | _=>exact w.elim
end
end D3
namespace L2
open PySem PySem.Spec PyProof.Rows
theorem qO {env : Env} : ∀ (names : List (Str × NameKind)) (acc : List (Str × Addr)), (∀ y ∈ names, y.2 = .free → ∃ c, env.cells.lookup y.1 = some c) → (∀ y c, acc.lookup y = some c → env.cells.lookup y = some c) →
    ∃ cl,(forIn names acc λ(x:Str×NameKind) (cs:List (Str×Addr))=>(if x.2 == .free then (do let c <- cellOf env x.1;pure (ForInStep.yield ((x.1,c)::cs))) else pure (ForInStep.yield cs):Sem (ForInStep (List (Str×Addr)))))=pure cl /\
     (∀ y c,cl.lookup y=some c->env.cells.lookup y=some c)/\(∀ y c,acc.lookup y=some c->cl.lookup y=some c)/\∀ y,(y,NameKind.free)∈names->∃ c,cl.lookup y=some c
 | [],acc,_,ha=>⟨acc,by rw[aVF],ha,λ_ _ h=>h,λ_ h=>by cases h⟩
 | (n,k)::r,acc,h,ha=>by
  rw[aVG];by_cases hk:k=.free
  . subst hk;obtain ⟨c,ec⟩:=h (n,.free) mcs rfl;have hc:cellOf env n=pure c:=by unfold cellOf;rw[ec]
    have e:((if (NameKind.free==NameKind.free)=true then (do let c <- cellOf env n;pure (ForInStep.yield ((n,c)::acc))) else pure (ForInStep.yield acc)):Sem (ForInStep (List (Str×Addr))))=pure (ForInStep.yield ((n,c)::acc)):=by rw[if_pos (by decide),hc,aVH]
    obtain ⟨cl,e1,e2,e3,e4⟩:=qO (env:=env) r ((n,c)::acc) (λy hy=>h y (mcm hy)) (λy c' q=>by
     rw[aUT] at q;cases hyn:y==n with
     | true=>rw[hyn] at q;cases q;rw[aTC.mp hyn];exact ec
     | false=>rw[hyn] at q;exact ha y c' q)
    refine ⟨cl,?_,e2,λy c' q=>?_,λy hy=>?_⟩
    . dsimp only;rw[e,aVH];exact e1
    . cases hyn:y==n with
      | true=>have:=aTC.mp hyn;subst this;have q':=ha y c' q;rw[ec] at q';cases q';exact e3 y c (by rw[aUT,hyn])
      | false=>exact e3 y c' (by rw[aUT,hyn];exact q)
    . rcases aSL.mp hy with z | z
      . cases z;exact ⟨c,e3 n c (by rw[aUT,aVI])⟩
      . exact e4 y z
  . have e:((if (k==NameKind.free)=true then (do let c <- cellOf env n;pure (ForInStep.yield ((n,c)::acc))) else pure (ForInStep.yield acc)):Sem (ForInStep (List (Str×Addr))))=pure (ForInStep.yield acc):=by rw[if_neg (by simpa using hk)]
    obtain ⟨cl,e1,e2,e3,e4⟩:=qO (env:=env) r acc (λy hy=>h y (mcm hy)) ha;refine ⟨cl,?_,e2,e3,λy hy=>?_⟩
    . dsimp only;rw[e,aVH];exact e1
    . rcases aSL.mp hy with z | z
      . cases z;exact absurd rfl hk
      . exact e4 y z
theorem qP{scope:Scope}{env:Env}(h:∀ y∈scope.names,y.2=.free->∃ c,env.cells.lookup y.1=some c):∃ cl,closureFor scope env=pure cl/\(∀ y c,cl.lookup y=some c->env.cells.lookup y=some c)/\∀ y,(y,NameKind.free)∈scope.names->∃ c,cl.lookup y=some c:=by
 obtain ⟨cl,e1,e2,_,e4⟩:=qO (env:=env) scope.names [] h (λy c q=>by simp at q)
 refine ⟨cl,?_,e2,e4⟩;unfold closureFor;rw[bind_pure];exact e1
theorem wB{scope:Scope}{env:Env}(bE:∀ y∈scope.names,y.2 ≠ .cell){x:Str}(h:(relabel scope env).names.lookup x=some .cell\/(relabel scope env).names.lookup x=some .free):(x,NameKind.free)∈scope.names:=by
 unfold relabel at h;dsimp only at h;have go:∀ (l:List (Str×NameKind)),(∀ y∈l,y.2 ≠ .cell)->((l.map λ(n,k)=>if (k==NameKind.free&&env.scope.kind == .function&&env.kindOf n==some .cell) then (n,NameKind.cell) else (n,k)).lookup x=some .cell\/(l.map λ(n,k)=>if (k==NameKind.free&&env.scope.kind == .function&&env.kindOf n==some .cell) then (n,NameKind.cell) else (n,k)).lookup x=some .free)->(x,NameKind.free)∈l:=by
  intro l
  induction l with
  | nil=>intro _ h;simp at h
  | cons y l ih =>
   intro hc h;obtain ⟨n,k⟩:=y;rw[aUQ] at h;by_cases hx:x=n
   . subst hx;have hk:k=.free:=by
       by_cases hk:k=.free
       . exact hk
       . have e:(k==NameKind.free&&env.scope.kind == .function&&env.kindOf x==some .cell)=false:=by
           have:(k==NameKind.free)=false:=by simpa using hk
           rw[this];rfl
         simp only[e,aVJ,aT7,aUT,aVI] at h;rcases h with h | h
         . cases h;exact absurd rfl (hc _ mcs)
         . cases h;exact absurd rfl hk
     subst hk;exact mcs
   . have hb:(x==n)=false:=by simpa using hx
     have hh:∀ (kk:NameKind) (l':List (Str×NameKind)),((n,kk)::l').lookup x=l'.lookup x:=λkk l'=>by rw[aUT,hb]
     by_cases hcond:(k==NameKind.free&&env.scope.kind == .function&&env.kindOf n==some .cell)=true
     . dsimp only at h;rw[if_pos hcond,hh] at h;exact mcm (ih (λy hy=>hc y (mcm hy)) h)
     dsimp only at h;rw[if_neg hcond,hh] at h;exact mcm (ih (λy hy=>hc y (mcm hy)) h)
 exact go scope.names bE h
def aV(X:Cx)(scope:Scope)(N:List Str)(cl:List (Str×Addr))(C:Addr)(fp:List Addr)(s3:Shared)(H3:Hp):Cx where
 prog:=X.prog
 w:=X.w
 K:=X.K
 mg:=X.mg
 base:=X.base
 A:=X.A
 N:=N
 s₀:=s3
 H₀:=H3
 env:=compEnvC scope cl C X.env
 outer:=X.stack
 stack:=X.stack
 ex:=fp
 fn:=λ_=>false
 calm:=X.calm
 pn:=[]
 xe:=λ_ _=>False
def cS(X:Cx)(cs:List Expr)(t:TT):Prop :=
 ∀ (aA:LAO) (s:Shared) (σ:St) (H:Hp) (Q:Bool->Hp->Prop),Inv X aA σ H s->t σ H Q ->
  wpAny (model X.prog X.w) X.A (forIn cs true λc r=>if r=true then do let ok <- isTrue c X.env (eval c X.env);pure (ForInStep.yield ok) else pure (ForInStep.yield r)) (TP X aA σ Q) X.xe s
theorem wC{X:Cx}:cS X [] (λ_ H Q=>Q true H):=λaA s σ H Q I h=>by rw[aVF];exact aSX ⟨H,I,h⟩
theorem wD{X:Cx}:∀ cs:List Expr,(forIn cs false λc r=>if r=true then do let ok <- isTrue c X.env (eval c X.env);pure (ForInStep.yield ok) else pure (ForInStep.yield r):Sem Bool)=pure false
 | []=>by rw[aVF]
 | c::cs=>by rw[aVG,if_neg aS8,aVH];exact wD cs
theorem wE{X:Cx}{c:Expr}{cs:List Expr}{t u:TT}(hc:PT X c t)(hr:cS X cs u):cS X (c::cs) (mV t u):=λaA s σ H Q I h=>by
 rw[aVG,if_pos rfl];refine aSY (aSY (thn (hc aA s σ H _ I h) λb s1 ⟨H1,I1,q1⟩=>aSX ?_));cases b with
 | true=>rw[if_pos rfl] at q1;exact hr aA s1 σ H1 Q I1 q1
 | false=>rw[if_neg aS8] at q1;dsimp only;rw[wD];exact aSX ⟨H1,I1,q1⟩
section
variable {prog:Program}{w:World}{A:Around}{R:Result->Shared->Prop}{s:Shared}
theorem wF {elt target aF : Expr} {ifs : List Expr} {scope : Scope} {pos : Pos} {it acc : Value} {env : Env} (I : Nat → Shared → Prop) (turn : ∀ n s, I n s → wpAny (model prog w) A (pyNext it) (fun r s1 => match r with
      | none=>R (.ok .next) s1
      | some v => wpAny (model prog w) A (letOwnedTupleGo target it v) (fun _ s1' => wpAny (model prog w) A (assign target env v) (fun _ s2 =>
          wpAny (model prog w) A (forIn ifs true λc r=>if r=true then do let ok <- isTrue c env (eval c env);pure (ForInStep.yield ok) else pure (ForInStep.yield r)) (λok s3 =>
           if ok=true then wpAny (model prog w) A (eval elt env) (λx s4 =>
            wpAny (model prog w) A (call (.builtin "list.append") [acc,x]) (λ_ s5=>∃ m,m<n/\I m s5) (λ_ _=>False) s4) (λ_ _=>False) s3
           else ∃ m, m < n ∧ I m s3) (fun _ _ => False) s2) (fun _ _ => False) s1') (fun _ _ => False) s1) (fun _ _ => False) s)
    (n:Nat) (h:I n s) :
    codeAny (model prog w) A (.compLoop (.ListComp elt [⟨target,aF,ifs,0⟩] scope pos) 0 it acc env) R s:=by
 refine codeAny_loop rfl I (λn s hI=>?_) n h;show wpAny _ A ((compTurn (.ListComp elt [⟨target,aF,ifs,0⟩] scope pos) 0 it acc env).onRaise (λx=>do noteFrame x env;theTreesLotGoes x)) _ _ s
 refine wpAny_noted ?_;rw[compTurn_list];refine aSY (aVK (aSY (aSS (turn n s hI) (λr s1 h1=>?_) λ_ _ h'=>h'.elim)));cases r with
 | none=>exact aSX h1
 | some v =>
  refine aSY (aSS h1 (λ_ s1' h1'=>?_) λ_ _ h'=>h'.elim);refine aSY (aSS h1' (λ_ s2 h2=>aSY (aSS h2 (λok s3 h3=>?_) λ_ _ h'=>h'.elim)) λ_ _ h'=>h'.elim);cases ok with
  | false=>exact aSX ⟨rfl,h3⟩
  | true=>exact aSY (aSY (aSS h3 (λx s4 h4=>aSY (aSS h4 (λ_ s5 h5=>aSX (aSX ⟨rfl,h5⟩)) λ_ _ h'=>h'.elim)) λ_ _ h'=>h'.elim))
end
def aX(aB:List Nat)(σ:St):St:=aB.map λi=>(σ[i]?).getD none
def lI(σ σ':St):Prop:=σ.length=σ'.length/\∀ (j:Nat) v,σ[j]? = some (some v)->σ'[j]? = some (some v)
def iB(aB:List Nat)(k:Nat)(wi:TI)(gt:TG)(tt:TT)(te:TE):TE:=λσ H Q=>wi σ H λJ H1=>∀ D,H1 D=none ->
 ∃ W:Nat->Nat->List V->Hp->Prop,(∃ m,W 0 m [] (upd H1 D (.lst [])))/\∀ i m ys H,W i m ys H->H D=some (.lst ys) /\
  ((J.stop i H/\Q (.ref D) H)\/(J.go i H/\ys.length<sizeLine/\∀ x H',J.yld i H x H'->gt x (aX aB σ++List.replicate k none) H' λσ2 H2=>lI (aX aB σ++List.replicate k none) σ2/\tt σ2 H2 λb H3 =>
   if b=true then te σ2 H3 λy H4=>H4 D=some (.lst ys)/\∃ m',m'<m/\W (i+1) m' (ys++[y]) (upd H4 D (.lst (ys++[y]))) else ∃ m',m'<m/\W (i+1) m' ys H3))
theorem wG{X:Cx}{elt aF tg:Expr}{ifs:List Expr}{scope:Scope}{pos:Pos}{aB:List Nat}{aC tgN:List Str}{wi:TI}{gt:TG}{tt:TT}{te:TE}{use:Option (Value->Sem Unit)}{QQ:VSP}{aA:LAO}{s:Shared}{σ:St}{H:Hp}{Q:VK}(hc:X.calm=true)(hi:PI X tg aF wi)(bE:∀ y∈scope.names,y.2 ≠ .cell)(bJ:scope.kind=.function)(bY:∀ y∈scope.names,y.2=.local->scope.names.lookup y.1=some .local)(bL:∀ y∈scope.names,y.2=.free->X.env.kindOf y.1=some .cell\/X.env.kindOf y.1=some .free)(bP:aC.map some=aB.map λi=>X.N[i]?)(cA:∀ y∈aC,(y,NameKind.free)∈scope.names)(bZ:∀ y∈aC,(relabel scope X.env).names.lookup y=some .cell\/(relabel scope X.env).names.lookup y=some .free)(hg:∀ cl C fp s3 H3,PG (aV X scope (aC++tgN) cl C fp s3 H3) tg gt)(hf:∀ cl C fp s3 H3,cS (aV X scope (aC++tgN) cl C fp s3 H3) ifs tt)(he:∀ cl C fp s3 H3,PE (aV X scope (aC++tgN) cl C fp s3 H3) elt te)(hs:∀ x,foldedSetIterable aF X.env x=pure x)(I:Inv X aA σ H s)(h:iB aB tgN.length wi gt tt te σ H Q)(hend:∀ (D Z:Addr) (s6:Shared) (H5:Hp),(∃ m,s6.heap.Ns Z m)->(∀ h'',Heap.SameBut Z s6.heap h''->Inv X aA σ H5 { s6 with heap:=h'' })->H5 Z=none->X.s₀.heap.objs.size<=Z->Z≠X.env.locals->(∀ x c,X.env.cells.lookup x=some c->c≠Z)->(∀ p∈X.pn++aA,p.1≠Z)->Q (.ref D) H5->compPost (model X.prog X.w) X.A X.xe use QQ (.ref D) Z (.ok .next) s6):wpAny (model X.prog X.w) X.A (comprehension (.ListComp elt [⟨tg,aF,ifs,0⟩] scope pos) scope X.env (firstIterPos [⟨tg,aF,ifs,0⟩] pos) (newList []) (firstAsync [⟨tg,aF,ifs,0⟩]) (firstIter [⟨tg,aF,ifs,0⟩] X.env) use) QQ X.xe s:=by
 obtain ⟨cl,hclos,clsub,clhas⟩:=qP (scope:=scope) (env:=X.env) λy hy hk=>I.ok.has y.1 (bL y hy hk);refine aVL (use:=use) rfl hs hclos bJ bY (thn (hi aA s σ H _ I h) λv s1 h1=>thn h1 λitv s2 h2=>?_);obtain ⟨it,fp,tn,J,H2,e,I2,T,st2,f2,q⟩:=h2;subst e;refine aUH ?_;have hn:H2 s2.heap.objs.size=none:=I2.hok.fresh (aS1 _);obtain ⟨W,⟨m0,w0⟩,turn⟩:=q s2.heap.objs.size hn;have I3:Inv X aA σ (upd H2 s2.heap.objs.size (.lst [])) { s2 with heap:=s2.heap.push { cls:=.type "list", dict:=none,data:=.seq ([]:List Value).toArray } } :=
  I2.laid (t':=s2.toks) (λb u e=>hps e) (aS1 _) ⟨aTF _,[],0,.nil,aSA _ rfl⟩
 generalize hs3:({ s2 with heap:=s2.heap.push { cls:=.type "list", dict:=none,data:=.seq ([]:List Value).toArray } }:Shared)=s3 at I3 ⊢
 generalize hH3:upd H2 s2.heap.objs.size (.lst [])=H3 at I3 w0;have fpl:∀ b∈fp,b<s2.heap.objs.size:=λb hb=>by obtain ⟨o,eo,_⟩:=T.obj 0 _ st2 b hb;exact aSB eo
 have sz3:s3.heap.objs.size=s2.heap.objs.size+1:=by rw[<- hs3];exact aTD _ _
 have keep23:∀ b o,s2.heap.get? b=some o->s3.heap.get? b=some o:=λb o e=>by rw[<- hs3];exact hps e
 have hDf:s2.heap.objs.size∉fp:=λhb=>aSD _ (fpl _ hb);refine wpAny_newFunctionEnv bE (by intro y hy;simp at hy) (λh4 hns hsb=>?_) bJ
 try dsimp only at hns hsb ⊢
 have keep34:∀ b o,s3.heap.get? b=some o->h4.get? b=some o:=λb o e=>hsb.extBut b o (aSE (aSB e)) (hps e);have nostk:∀ b∈fp,b∉frs X.stack:=λb hb z=>by
  obtain ⟨_,f1,f2',_⟩:=f2 b hb;rcases aSL.mp (I2.stkSub b z) with q | q
  . exact f1 q
  . exact f2' q
 have okc:(aV X scope (aC++tgN) cl s3.heap.objs.size fp s3 H3).Ok :=
  { mod:=I3.ok.mod
    kind:=bJ
    glob:=I3.ok.glob
    blt:=I3.ok.blt
    above:=aS1 _
    inj:=λx y c h1 h2=>I3.ok.inj x y c (clsub x c h1) (clsub y c h2)
    has:=λx hx=>clhas x (wB bE hx)
    cab:=λx c z=>by cases z
    hd:=I3.ok.hd
    frames:=I3.ok.frames
    stk:=.inl rfl
    exf:=λb hb=>⟨aSE (by show b<s3.heap.objs.size;rw[sz3];exact aVM (fpl b hb)),λx c e=>(f2 b hb).2.2.2.2.1 x c (clsub x c e)⟩
    bs:=I3.bs
    bsz:=aSI I3.ok.bsz I3.sz
    noex:=λb o e hb=>by
     obtain ⟨_,_,_,f3,_⟩:=f2 b hb;rcases f3 with z | z
     . exact I2.ok.noex b o e z
     . exact absurd (aSB (I2.ok.bs b o e).1) (aVN.mpr z)
    exfs:=nostk
    funs:=I3.stack
    frf:=I3.stkFree }
 have capLen:aC.length=aB.length:=by have:=congrArg List.length bP;simpa using this
 generalize hσ0:aX aB σ++List.replicate tgN.length none=σ0 at turn;have Ic:Inv (aV X scope (aC++tgN) cl s3.heap.objs.size fp s3 H3) [] σ0 H3 { s3 with heap:=h4,toks:=s3.toks+([]:List (Str×Value)).length }:=by
  refine ⟨okc,rfl,I3.bare,Un.kept keep34,⟨_,hns,λi y v h1 h2 h3=>?_⟩,λx c e=>?_,I3.hok.fresh (aS1 _),λx c e=>I3.freeC x c (clsub x c e),λp hp=>absurd (show p∈([]:LAO) from hp) (by simp),I3.hok.kept keep34,?_⟩
  . by_cases hi:i<aB.length
    . have ey:aC[i]? = some y:=by have h1:(aC++tgN)[i]? = some y:=h1;rw[aTV (by rw[capLen];exact hi)] at h1;exact h1
      have hj:X.N[aB[i]]? = some y:=by
       have e1:(aC.map some)[i]? = (aB.map λi=>X.N[i]?)[i]?:=by rw[bP]
       rw[aTW,aTW,ey,aU7 hi] at e1;simpa using e1.symm
      have ev:σ[aB[i]]? = some (some v):=by
       rw[<- hσ0,aTV (by simpa[aX] using hi)] at h2
       unfold aX at h2;rw[aTW,aU7 hi] at h2;simp only[aVC,aVO] at h2;cases z:σ[aB[i]]? with
       | none=>rw[z] at h2;cases h2
       | some o=>rw[z] at h2;exact congrArg some h2
      have hyf:=cA y (aTX ey);have hkX:=bL _ hyf rfl;obtain ⟨m,_,hl⟩:=I3.loc;obtain ⟨u,ru,lk⟩:=hl aB[i] y v hj ev (by rcases hkX with z | z;exact .inr (.inl z);exact .inr (.inr z))
      refine ⟨u,ru,.inr ⟨bZ y (aTX ey),?_⟩⟩;rcases lk with ⟨hk,_⟩ | ⟨_,c,ec,ic⟩
      . rcases hkX with z | z
        . rw[show X.env.kindOf y=some .cell from z] at hk;cases hk
        . rw[show X.env.kindOf y=some .free from z] at hk;cases hk
      . obtain ⟨c',ec'⟩:=clhas y hyf;have:=clsub y c' ec';rw[ec] at this;cases this;exact ⟨c,ec',ic.keeps keep34⟩
    . rw[<- hσ0,aTT (by simpa[aX] using hi),aTU] at h2
      split at h2 <;> cases h2
  . obtain ⟨v,q⟩:=I3.cell x c (clsub x c e);exact ⟨v,q.keeps keep34⟩
  . rw[<- hσ0];show (aX aB σ++List.replicate tgN.length none).length=(aC++tgN).length;simp[aX,capLen]
 have fpc:∀ {H':Hp},(∀ b∈fp,H' b=none)->∀ b∈fp,dQ (aV X scope (aC++tgN) cl s3.heap.objs.size fp s3 H3) [] H' b:=λhn b hb =>
  ⟨hn b hb,(okc.exf b hb).1,nostk b hb,.inl hb,(okc.exf b hb).2,λp hp=>absurd (show p∈([]:LAO) from hp) (by simp)⟩
 have loop:codeAny (model X.prog X.w) X.A (.compLoop (.ListComp elt [⟨tg,aF,ifs,0⟩] scope pos) 0 (.ref it) (.ref s2.heap.objs.size) (compEnvC scope cl s3.heap.objs.size X.env)) (compPost (model X.prog X.w) X.A X.xe use QQ (.ref s2.heap.objs.size) s3.heap.objs.size) { s3 with heap:=h4,toks:=s3.toks+([]:List (Str×Value)).length }:=by
  refine wF (λn s'=>∃ i ys H',Inv (aV X scope (aC++tgN) cl s3.heap.objs.size fp s3 H3) [] σ0 H' s'/\tn i s'.heap/\(∀ b∈fp,H' b=none)/\W i n ys H') ?_ m0
   ⟨0,[],H3,Ic,T.keep _ _ _ st2 (λb hb o e=>keep34 b o (keep23 b o e)),λb hb=>by rw[<- hH3,aN (by intro z;rw[z] at hb;exact hDf hb)];exact (f2 b hb).1,w0⟩
  rintro n s5 ⟨i,ys,H5,I5,st5,fr5,w5⟩;obtain ⟨hD,hw⟩:=turn i n ys H5 w5;rcases hw with ⟨stop,qq⟩ | ⟨go,hlen,step⟩
  . refine thn (T.done (aV X scope (aC++tgN) cl s3.heap.objs.size fp s3 H3) rfl rfl rfl hc i [] s5 σ0 H5 _ I5 (fpc fr5) st5 stop) λr s6 ⟨hr,I6⟩=>?_;subst hr;obtain ⟨m,hm,_⟩:=id I6.loc;refine hend s2.heap.objs.size s3.heap.objs.size s6 H5 ⟨m,hm⟩ (λh'' hsb2=>?_) I6.free I3.sz (λz=>?_) (λx c ec z=>?_) (λp hp z=>?_) qq;rotate_left
    . obtain ⟨m,⟨o,es,ep,ho,_⟩,_⟩:=id I3.loc;rw[<- z] at ho;exact aSD _ (aSB ho)
    . obtain ⟨v,o,ho,_⟩:=I3.cell x c ec;rw[z] at ho;exact aSD _ (aSB ho)
    . have:=(I3.pin p hp).1;rw[z] at this;exact aSD _ (aSB this)
    have u:=I6.base;have neC:∀ b o,s3.heap.get? b=some o->b≠s3.heap.objs.size:=λb o e=>aSE (aSB e);have un:Un (frs X.stack) fp H3 H5 s3.heap h'':=by
     refine ⟨λb o e n hb hx=>hsb2.extBut b o (neC b o e) (u.keep b o e n hb hx),λb o e n hb hx=>?_,u.free,λb o e hx=>?_,u.tups,u.frzs,u.tbls⟩
     . obtain ⟨sl,q⟩:=u.slot b o e n hb hx;exact ⟨sl,hsb2.extBut b _ (neC b o e) q⟩
     . obtain ⟨o',q⟩:=u.there b o e hx;exact ⟨o',hsb2.extBut b _ (neC b o e) q⟩
    have hok : HOk X.prog X.w H5 h'' := fun a o e => (I6.hok a o e).stay (fun b v hb q => hsb2.extBut b v (by
        intro z;have fr:=I6.free;rcases hb with hb | hb
        . rw[hb] at z;rw[z] at e;rw[show H5 s3.heap.objs.size=none from fr] at e;cases e
        . rw[z,show H5 s3.heap.objs.size=none from fr] at hb;cases hb) q) (λ_ q=>q) λ_ _ q=>q
    have os6:=I6.os;obtain ⟨hh,g6,d6,t6,o6⟩:=s6;obtain rfl:o6=s3.os:=os6;have I8:=I3.call (h':=h'') (g':=g6) (d':=d6) (t':=t6) (ch:=fp) un hok I6.bare λb hb=>by obtain ⟨_,f1,_,f3,f4,f5⟩:=f2 b hb;exact ⟨f3,f1,f4,f5⟩
    exact I8
  . refine thn (T.item (aV X scope (aC++tgN) cl s3.heap.objs.size fp s3 H3) rfl rfl rfl hc i [] s5 σ0 H5 _ I5 (fpc fr5) st5 go) λr s6 ⟨u,hr,h6⟩=>?_;subst hr;refine thn h6 λ_ s7 ⟨x,H7,I7,r7,y7,st7,fr7⟩=>?_;have I7':=I7.pinned (fpc fr7) (T.obj _ _ st7);refine thn (hg cl s3.heap.objs.size fp s3 H3 _ s7 σ0 H7 x u _ I7' r7 (step x H7 y7)) λ_ s8 ⟨σ8,H8,I8,wk,q8⟩=>?_;have back:∀ {H':Hp} {s':Shared} {m':Nat} {ys':List V},Inv (aV X scope (aC++tgN) cl s3.heap.objs.size fp s3 H3) ([]++hW fp s7.heap) σ8 H' s'->m'<n->W (i+1) m' ys' H' ->
        ∃ m,m<n/\∃ i ys H',Inv (aV X scope (aC++tgN) cl s3.heap.objs.size fp s3 H3) [] σ0 H' s'/\tn i s'.heap/\(∀ b∈fp,H' b=none)/\W i m ys H':=λ{H' s' m' ys'} I' hm w'=>by
      have pinned:∀ b∈fp,∀ o,s7.heap.get? b=some o->s'.heap.get? b=some o/\H' b=none:=λb hb o e=>by have:=I'.pin (b,o) (aS5 _ (aS5 _ (jO hb e)));exact ⟨this.1,this.2.1⟩
      refine ⟨m',hm,i+1,ys',H',I'.unpinned.weak wk.1 wk.2,T.keep _ _ _ st7 λb hb o e=>(pinned b hb o e).1,λb hb=>?_,w'⟩;obtain ⟨o,e,_⟩:=T.obj _ _ st7 b hb;exact (pinned b hb o e).2
    refine thn (hf cl s3.heap.objs.size fp s3 H3 _ s8 σ8 H8 _ I8 q8) λb s9 ⟨H9,I9,q9⟩=>?_;cases b with
    | false=>rw[if_neg aS8] at q9 ⊢;obtain ⟨m',hm,w9⟩:=q9;exact back I9 hm w9
    | true =>
     rw[if_pos rfl] at q9 ⊢;refine thn (he cl s3.heap.objs.size fp s3 H3 _ s9 σ8 H9 _ I9 q9) λy s10 ⟨yv,H10,I10,r10,hD10,m',hm,w10⟩=>?_;refine thn (nI (X:=aV X scope (aC++tgN) cl s3.heap.objs.size fp s3 H3) _ s10 σ8 H10 (.ref s2.heap.objs.size) [yv] (.ref s2.heap.objs.size) [y] (λv H'=>v=.non/\H'=upd H10 s2.heap.objs.size (.lst (ys++[yv]))) I10 rfl (.cons r10 .nil)
      ⟨s2.heap.objs.size,ys,yv,rfl,rfl,hD10,hlen,rfl,rfl⟩) λ_ s11 ⟨v,H11,I11,_,_,e11⟩=>?_
     subst e11;exact back I11 hm w10
 exact codeAny_compStart_list loop (T.self _ 0 _ _ _ (T.keep _ _ _ st2 (λb hb o e=>keep34 b o (keep23 b o e))) loop)
theorem wH{X:Cx}{elt aF tg:Expr}{ifs:List Expr}{scope:Scope}{pos:Pos}{aB:List Nat}{aC tgN:List Str}{wi:TI}{gt:TG}{tt:TT}{te:TE}(hc:X.calm=true)(hi:PI X tg aF wi)(bE:∀ y∈scope.names,y.2 ≠ .cell)(bJ:scope.kind=.function)(bY:∀ y∈scope.names,y.2=.local->scope.names.lookup y.1=some .local)(bL:∀ y∈scope.names,y.2=.free->X.env.kindOf y.1=some .cell\/X.env.kindOf y.1=some .free)(bP:aC.map some=aB.map λi=>X.N[i]?)(cA:∀ y∈aC,(y,NameKind.free)∈scope.names)(bZ:∀ y∈aC,(relabel scope X.env).names.lookup y=some .cell\/(relabel scope X.env).names.lookup y=some .free)(hg:∀ cl C fp s3 H3,PG (aV X scope (aC++tgN) cl C fp s3 H3) tg gt)(hf:∀ cl C fp s3 H3,cS (aV X scope (aC++tgN) cl C fp s3 H3) ifs tt)(he:∀ cl C fp s3 H3,PE (aV X scope (aC++tgN) cl C fp s3 H3) elt te)(hs:∀ x,foldedSetIterable aF X.env x=pure x:=by intro _;rfl):PE X (.ListComp elt [⟨tg,aF,ifs,0⟩] scope pos) (iB aB tgN.length wi gt tt te):=by intro aA s σ H Q I h;rw[eval_ListComp];exact wG (use:=none) hc hi bE bJ bY bL bP cA bZ hg hf he hs I h λD Z s6 H5 hm hI _ _ _ _ _ q=>by obtain ⟨m,hm⟩:=hm;exact ⟨m,hm,λh'' hs=>⟨.ref D,H5,hI h'' hs,rfl,q⟩⟩
theorem Inv.dropped{X:Cx}{aA:LAO}{σ:St}{H:Hp}{s:Shared}{h'':Heap}{Z:Addr}(I:Inv X aA σ H s)(hs:Heap.SameBut Z s.heap h'')(hz:H Z=none)(h0:X.s₀.heap.objs.size<=Z)(h1:Z≠X.env.locals)(h2:∀ x c,X.env.cells.lookup x=some c->c≠Z)(h3:∀ p∈X.pn++aA,p.1≠Z):Inv X aA σ H { s with heap:=h'' }:=by
 have un:Un (frs X.stack) [Z] H H s.heap h'':=by
  have k:∀ b o,s.heap.get? b=some o->b∉[Z]->h''.get? b=some o:=λb o e hb=>hs.extBut b o (λz=>hb (by rw[z];exact mcs)) e
  exact ⟨λb o e _ _ hx=>k b o e hx,λb o e _ _ hx=>⟨o.slots,k b o e hx⟩,λ_ _ _ n _=>n,λb o e hx=>⟨o,k b o e hx⟩,λ_ _ q=>q,λ_ _ _ q=>q,λ_ ps q=>⟨#[],by simpa using q⟩⟩
 have hok:HOk X.prog X.w H h'':=λa o e=>(I.hok a o e).stay (λb v hb q=>hs.extBut b v (by
  rintro rfl;rcases hb with hb | hb
  . rw[hb,e] at hz;cases hz
  . rw[hz] at hb;cases hb) q) (λ_ q=>q) λ_ _ q=>q
 obtain ⟨hh,g,d,t,o⟩:=s;exact I.call (g':=g) (d':=d) (t':=t) (ch:=[Z]) un hok I.bare λb hb=>by
  obtain rfl:b=Z:=by simpa using hb
  exact ⟨.inr h0,h1,h2,h3⟩
theorem aH0{i:Nat}{x:Str}{pos' spos:Pos}{X:Cx}{elt aF tg:Expr}{ifs:List Expr}{scope:Scope}{pos:Pos}{aB:List Nat}{aC tgN:List Str}{wi:TI}{gt:TG}{tt:TT}{te:TE}(hc:X.calm=true)(hi:PI X tg aF wi)(bE:∀ y∈scope.names,y.2 ≠ .cell)(bJ:scope.kind=.function)(bY:∀ y∈scope.names,y.2=.local->scope.names.lookup y.1=some .local)(bL:∀ y∈scope.names,y.2=.free->X.env.kindOf y.1=some .cell\/X.env.kindOf y.1=some .free)(bP:aC.map some=aB.map λi=>X.N[i]?)(cA:∀ y∈aC,(y,NameKind.free)∈scope.names)(bZ:∀ y∈aC,(relabel scope X.env).names.lookup y=some .cell\/(relabel scope X.env).names.lookup y=some .free)(hg:∀ cl C fp s3 H3,PG (aV X scope (aC++tgN) cl C fp s3 H3) tg gt)(hf:∀ cl C fp s3 H3,cS (aV X scope (aC++tgN) cl C fp s3 H3) ifs tt)(he:∀ cl C fp s3 H3,PE (aV X scope (aC++tgN) cl C fp s3 H3) elt te)(hN:X.N.Nodup)(hx:X.N[i]? = some x)(hk:X.env.scope.names.lookup x=some .local)(hsw:swapsWith (.ListComp elt [⟨tg,aF,ifs,0⟩] scope pos) (some (.Name x pos')) spos.line X.env=pure true)(hs:∀ x,foldedSetIterable aF X.env x=pure x:=by intro _;rfl):PS X (.Assign [.Name x pos'] (.ListComp elt [⟨tg,aF,ifs,0⟩] scope pos) spos) (jN (iB aB tgN.length wi gt tt te) (gG i)):=by
 intro aA s σ H En I h;rw[exec_Assign_Name_used _ _ _ _ hsw];refine aSY (aVK (aSY ?_));show wpAny _ X.A (comprehension (.ListComp elt [⟨tg,aF,ifs,0⟩] scope pos) scope X.env (firstIterPos [⟨tg,aF,ifs,0⟩] pos) (newList []) (firstAsync [⟨tg,aF,ifs,0⟩]) (firstIter [⟨tg,aF,ifs,0⟩] X.env) (some (assign (.Name x pos') X.env)) >>= _) _ _ s;refine aSY (wG (use:=some (assign (.Name x pos') X.env)) hc hi bE bJ bY bL bP cA bZ hg hf he hs I h λD Z s6 H5 hm hI hz h0 h1 h2 h3 q=>?_);obtain ⟨m,hm⟩:=hm;have I6:=hI s6.heap (aVP _ _);refine aSV (pW I6 hN hx (.inl hk) (show aS (.ref D) (.ref D) from rfl) (λs' I' hch=>?_) (.inr hk))
 obtain ⟨a,sb,ha⟩:=hch;have na:Z≠a:=by
  rcases ha with rfl | ha
  . exact h1
  . exact λz=>h2 x a ha z.symm
 exact ⟨m,hm.sameBut sb na,λh'' hs2=>aSX (aSX ⟨_,H5,I'.dropped hs2 hz h0 h1 h2 h3,q⟩)⟩
end L2
namespace D3
open PySem PySem.Spec PyProof.Rows L2
def bA(aB:List Nat)(ρ:Rho):Rho:=aB.map λi=>match ρ[i]? with | some (some (false,d))=>some (false,d) | _=>none
def dR(k:D->Rho->Option Rho)(t e:Rho->Res)(ρ0:Rho):List D->Option (List D)
 | []=>some []
 | d::ds=>match k d ρ0 with
  | none=>none
  | some ρ1=>match t ρ1 with
   | .ok _ (.bl true)=>(match bB (e ρ1) with | .ok _ y=>(dR k t e ρ0 ds).map (y :: ·) | _=>none)
   | .ok _ (.bl false)=>dR k t e ρ0 ds
   | _=>none
def bF(src:Res)(ρ:Rho)(aB:List Nat)(n:Nat)(k:D->Rho->Option Rho)(t e:Rho->Res):Res:=src.thn λ_ d=>match d with
 | .lst ds=>if ds.length<sizeLine then (match dR k t e (bA aB ρ++List.replicate n none) ds with | some ys=>.ok .fr (.lst ys) | none=>.stuck) else .stuck
 | _=>.stuck
abbrev Cw.nox(C:Cw):Cw:={ C with EE:=λ_ _ _=>False }
theorem aJ.upd{F H F' H':Hp}{x:Addr}{o:HO}(st:aJ F H F' H')(hx:H x=none)(hx':F' x=none):aJ F H F' (L2.upd H' x o) :=
 ⟨λb u q=>by rw[aN (c9 q hx)];exact st.same b u q,st.fsame,λb u q=>by rw[aN (c9 q hx')];exact st.sub b u q,st.new⟩
section
variable {C:Cw}{X:Cx}{e:Expr}{g:Rho->Res}{pos p:Pos}
theorem aH1:cS X [] (tT (C.at X) λ_=>.ok .fz (.bl true)):=λaA s σ H Q I h=>by obtain ⟨ρ,F,R,w⟩:=h;exact wC aA s σ H Q I (w F H (.refl R.sub))
theorem aH2{c:Expr}{cs:List Expr}{ga gb:Rho->Res}(hc:PTv C X c ga)(hr:cS X cs (tT (C.at X) gb)):cS X (c::cs) (tT (C.at X) λρ=>eK (ga ρ) (gb ρ)):=λaA s σ H Q I h =>
 wE hc hr aA s σ H Q I (vW h)
theorem wI{K:Fg}{F0 H0 F H:Hp}{σ:L2.St}{ρ:Rho}(aB:List Nat)(n:Nat)(R:aY K F0 H0 F H σ ρ):aY K F0 H0 F H (aX aB σ++List.replicate n none) (bA aB ρ++List.replicate n none):=by
 have low:∀ (i:Nat) (m:Bool) (d:D),(bA aB ρ++List.replicate n none)[i]? = some (some (m,d))->m=false/\∃ v,(aX aB σ++List.replicate n none)[i]? = some (some v)/\aD K F d v:=λi m d e=>by
  by_cases hi:i<aB.length
  . rw[aTV (by simpa[bA] using hi)] at e
    rw[aTV (by simpa[aX] using hi)]
    unfold bA at e;unfold aX;rw[aTW,aU7 hi] at e ⊢;simp only[aVC,aVO] at e;cases z:ρ[aB[i]]? with
    | none=>rw[z] at e;cases e
    | some o =>
     rw[z] at e;cases o with
     | none=>cases e
     | some q =>
      obtain ⟨b,d'⟩:=q;cases b with
      | true=>cases e
      | false=>cases e;obtain ⟨v,e1,r,_⟩:=R.slot _ _ _ z;exact ⟨rfl,v,by simp[e1],r⟩
  . rw[aTT (by simpa[bA] using hi),aTU] at e
    split at e <;> cases e
 refine ⟨R.st,λi m d e=>?_,λi j d d' a _ e1 _ _ _=>?_,by simp[aX,bA]⟩
 . obtain ⟨rfl,v,e1,r⟩:=low i m d e;exact ⟨v,e1,r,by intro z;cases z⟩
 . have:=(low i true d e1).1;cases this
end
mutual
def bG:D->Option PyData
 | .non=>some .none
 | .bl b=>some (.bool b)
 | .int i=>some (.int i)
 | .str x=>some (.str x)
 | .tup ds=>(cX ds).map .tuple
 | .lst ds=>(cX ds).map .list
 | _=>none
def cX:List D->Option (List PyData)
 | []=>some []
 | d::ds=>match bG d,cX ds with
  | some p,some ps=>some (p::ps)
  | _,_=>none
end
section
variable {X:Cx}{aA:LAO}{σ:L2.St}{F H:Hp}{s:Shared}
mutual
theorem wJ(I:Inv X aA σ H s)(sF:aH F H):∀ (d:D) (p:PyData) (v:V) (u:Value),aD X.K F d v->aS v u->bG d=some p->(∃ as,Reads s.heap u p as)/\p.canLay0=true
 | .non,p,v,u,h,r,e=>by simp only[aD] at h;subst h;cases r;simp only[bG] at e;cases e;exact ⟨⟨_,.none⟩,rfl⟩
 | .bl b,p,v,u,h,r,e=>by simp only[aD] at h;subst h;cases r;simp only[bG] at e;cases e;exact ⟨⟨_,.bool b⟩,rfl⟩
 | .int i,p,v,u,h,r,e=>by simp only[aD] at h;subst h;obtain ⟨t,rfl⟩:=r;simp only[bG] at e;cases e;exact ⟨⟨_,.int i t⟩,rfl⟩
 | .str x,p,v,u,h,r,e=>by simp only[aD] at h;obtain ⟨rfl,_,hk⟩:=h;obtain ⟨t,rfl⟩:=r;simp only[bG] at e;cases e;exact ⟨⟨_,.str x t⟩,by simpa only [PyData.canLay0] using hk⟩
 | .tup ds,p,v,u,h,r,e=>by
  simp only[aD] at h;obtain ⟨a,xs,rfl,q,rl⟩:=h;cases r;simp only[bG] at e;cases ep:cX ds with
  | none=>rw[ep] at e;cases e
  | some ps=>rw[ep] at e;cases e;obtain ⟨its,rv,⟨o,h1,h2,n,h3⟩,_⟩:=I.tuple (aH.seqT sF q);obtain ⟨⟨as,ra⟩,hc⟩:=nO I sF ds ps xs its rl rv ep;exact ⟨⟨_,.tuple h1 h2 h3 (by simpa using ra)⟩,by simpa only [PyData.canLay0] using hc⟩
 | .lst ds,p,v,u,h,r,e=>by
  simp only[aD] at h;obtain ⟨a,xs,rfl,q,rl⟩:=h;cases r;simp only[bG] at e;cases ep:cX ds with
  | none=>rw[ep] at e;cases e
  | some ps=>rw[ep] at e;cases e;obtain ⟨its,rv,⟨o,n,h1,h2,_,h3⟩,_⟩:=I.list (sF.seq q);obtain ⟨⟨as,ra⟩,hc⟩:=nO I sF ds ps xs its rl rv ep;exact ⟨⟨_,.list h1 h2 h3 (by simpa using ra)⟩,by simpa only [PyData.canLay0] using hc⟩
 | .dct _,p,v,u,h,r,e=>by simp only[bG] at e;cases e
 | .ty _,p,v,u,h,r,e=>by simp only[bG] at e;cases e
 | .ob _,p,v,u,h,r,e=>by simp only[bG] at e;cases e
 | .ins _ _,p,v,u,h,r,e=>by simp only[bG] at e;cases e
 | .fn _,p,v,u,h,r,e=>by simp only[bG] at e;cases e
 | .exn _,p,v,u,h,r,e=>by simp only[bG] at e;cases e
 | .set _,p,v,u,h,r,e=>by simp only[bG] at e;cases e
theorem nO(I:Inv X aA σ H s)(sF:aH F H):∀ (ds:List D) (ps:List PyData) (xs:List V) (us:List Value),aE X.K F ds xs->aM xs us->cX ds=some ps->(∃ as,ReadsAll s.heap us ps as)/\PyData.canLayAll0 ps=true
 | [],ps,xs,us,h,r,e=>by simp only[aE] at h;subst h;cases r;simp only[cX] at e;cases e;exact ⟨⟨_,.nil⟩,rfl⟩
 | d::ds,ps,xs,us,h,r,e=>by
  simp only[aE] at h;obtain ⟨y,ys,rfl,hd,hl⟩:=h;cases r with
  | cons r1 r2 =>
   simp only[cX] at e;cases e1:bG d with
   | none=>rw[e1] at e;cases e
   | some p =>
    cases e2:cX ds with
    | none=>rw[e1,e2] at e;cases e
    | some ps'=>rw[e1,e2] at e;cases e;obtain ⟨⟨as,ra⟩,hc⟩:=wJ I sF d p y _ hd r1 e1;obtain ⟨⟨bs,rb⟩,hc'⟩:=nO I sF ds ps' ys _ hl r2 e2;exact ⟨⟨_,.cons ra rb⟩,by simp only[PyData.canLayAll0,hc,hc',Bool.and_self]⟩
end
theorem wK(I:Inv X aA σ H s)(sF:aH F H){m:Md}{d:D}{p:PyData}{v:V}{u:Value}(h:Rp X.K F H m d v)(r:aS v u)(e:bG d=some p):(∃ as,Reads s.heap u p as)/\p.canLay0=true:=by
 cases m with
 | fz=>exact wJ I sF d p v u h r e
 | _ =>
  obtain ⟨a,rfl,n,t⟩:=h;cases d with
  | lst ds =>
   obtain ⟨xs,q,rl⟩:=t;cases r;simp only[bG] at e;cases ep:cX ds with
   | none=>rw[ep] at e;cases e
   | some ps=>rw[ep] at e;cases e;obtain ⟨its,rv,⟨o,n,h1,h2,_,h3⟩,_⟩:=I.list (SqL.of q);obtain ⟨⟨as,ra⟩,hc⟩:=nO I sF ds ps xs its rl rv ep;exact ⟨⟨_,.list h1 h2 h3 (by simpa using ra)⟩,by simpa only [PyData.canLay0] using hc⟩
  | dct ds=>simp only[bG] at e;cases e
  | ins _ _=>simp only[bG] at e;cases e
  | set _=>simp only[bG] at e;cases e
  | _=>exact t.elim
end
def eP(p:PyData):Bool:=decide (p.depth<=50)
def eqF(neg:Bool):Md->D->Md->D->Option (Md×D):=λ_ x _ y=>match bG x,bG y with
 | some p,some q=>if (eP p&&eP q)=true then some (.fz,.bl (if neg then !PyData.eqv p q else PyData.eqv p q)) else none
 | _,_=>none
section
variable {C:Cw}{X:Cx}
theorem wL{f:Value->Value->Sem Value}{neg:Bool}(hu:X.A.units+64<cLine)(rule:∀ (s:Shared) (a b:Value) (da db:PyData) (as bs:List Addr) (Q:VSP),Reads s.heap a da as->Reads s.heap b db bs->da.canLay0=true->db.canLay0=true->X.A.units+min da.depth db.depth<cLine->Q (.bool (if neg then !PyData.eqv da db else PyData.eqv da db)) s->wpAny (model X.prog X.w) X.A (f a b) Q X.xe s):OpD C X f (eqF neg):=by
 refine ⟨λx y H Q=>∃ F m n d e p q,aH F H/\Rp X.K F H m d x/\Rp X.K F H n e y/\bG d=some p/\bG e=some q/\(eP p&&eP q)=true/\Q (.bl (if neg then !PyData.eqv p q else PyData.eqv p q)) H,?_,?_⟩
 . intro aA s σ H x y v u Q I rx ry h;obtain ⟨F,m,n,d,e,p,q,sF,hd,he,ep,eq,hs,hQ⟩:=h;obtain ⟨⟨as,ra⟩,ca⟩:=wK I sF hd rx ep;obtain ⟨⟨bs,rb⟩,cb⟩:=wK I sF he ry eq;rw[aUG] at hs;have h1:=aUV hs.1;refine rule s v u p q as bs _ ra rb ca cb (by have:=Nat.min_le_left p.depth q.depth;omega) ⟨.bl _,H,I,rfl,hQ⟩
 . intro F H m x n y v u k d Q s rx ry e w;unfold eqF at e;split at e
   . rename_i p q ep eq;split at e
     . rename_i hc;cases e;exact ⟨F,m,n,x,y,p,q,s,rx,ry,ep,eq,hc,w _ F H (.refl s) (cK _) (by intro z;cases z)⟩
     . cases e
   . cases e
theorem aH3(hu:X.A.units+64<cLine):OpD C X (compareOp .Eq) (eqF false):=wL hu λs a b da db as bs Q ra rb ca cb hd q=>SeqAt.compareEq_reads ra rb ca cb hd q
theorem aH4(hu:X.A.units+64<cLine):OpD C X (compareOp .NotEq) (eqF true):=wL hu λs a b da db as bs Q ra rb ca cb hd q=>SeqAt.compareNe_reads ra rb ca cb hd q
def eqK(neg:Bool):Md->D->Md->D->Option (Md×D):=λ_ x _ y=>match x,y with
 | .dct [(k,d)],.dct [(l,e)]=>(match bG d,bG e with
  | some p,some q=>if (eP p&&eP q)=true then some (.fz,.bl (if neg then !(decide (k=l)&&PyData.eqv p q) else (decide (k=l)&&PyData.eqv p q))) else none
  | _,_=>none)
 | _,_=>none
end
def MtD(X:Cx)(id:String)(φ:Md->D->List (Md×D)->Option (Md×D)):Prop :=
 ∃ r:V->List V->Hp->VK->Prop,MtR X id r/\∀ F H m x xs v vs k d Q,aH F H->Rp X.K F H m x v->RpL X.K F H xs vs->φ m x xs=some (k,d) ->
  (∀ v' F' H',aJ F H F' H'->Rp X.K F' H' k d v'->(k=.fr->∀ a,v'=.ref a->H a=none)->Q v' H')->r v vs H Q
def i6(T:String)(d:D):Bool:=tyN d==some T
def jX(T:String)(φ:Md->D->List (Md×D)->Option (Md×D))(o:Res)(r:aT):Res:=o.thn λm x=>if i6 T x=true then r.thn λxs=>Res.of (φ m x xs) else .stuck
section
variable {C:Cw}{X:Cx}{o e:Expr}{es:List Expr}{go:Rho->Res}{gs:Rho->aT}{apos cpos:Pos}{T id:String}{name:Str}
theorem aH5{K:Fg}{F H:Hp}{m:Md}{d:D}{v:V}(s:aH F H)(r:Rp K F H m d v)(h:i6 T d=true):T = "str" \/ T = "list" -> tyV K T v H:=by
 have h:tyN d=some T:=by simpa[i6] using h
 intro hT;cases d with
 | str x=>cases h;obtain ⟨rfl,_⟩:=r.str;exact rfl
 | lst ds=>cases h;obtain ⟨a,xs,rfl,q,_⟩:=r.seqL s;exact .inl ⟨rfl,xs,q⟩
 | tup ds=>cases h;rcases hT with z | z <;> exact absurd z (by decide)
 | non=>cases h;rcases hT with z | z <;> exact absurd z (by decide)
 | bl b=>cases h;rcases hT with z | z <;> exact absurd z (by decide)
 | int b=>cases h;rcases hT with z | z <;> exact absurd z (by decide)
 | dct b=>cases h;rcases hT with z | z <;> exact absurd z (by decide)
 | ty b=>cases h
 | ob b=>cases h
 | ins b _=>cases h
 | fn b=>cases h
 | exn b=>cases h
 | set b=>cases h
theorem nQ{φ}(hT:T = "str" \/ T = "list")(pa:PlainAttrs T)(slot:Slot T name id)(hty:typeOf (.builtin id)=pure (.type "method_descriptor"))(hm:MtD X id φ)(ho:PV C X o go)(ha:PAv C X (e::es) gs)(hbase:attributeBase o name X.env (eval o X.env)=eval o X.env:=by rfl)(hfew:((backTo cpos (starEach (e::es) X.env)).all (λx=>!x.1)&&(backToKw cpos (keywordEach [] X.env)).all (λx=>x.1.isSome)&&decide ((e::es).length+([]:List Keyword).length+(if ([]:List Keyword).isEmpty then 0 else 1)<30))=true:=by rfl)(hline:(apos.endLine==cpos.line)=true:=by rfl)(hs:starEach (e::es) X.env=(false,eval e X.env)::starEach es X.env:=by rfl)(hplain:(backTo cpos (starEach es X.env)).any (·.1)=false:=by rfl):PV C X (.Call (.Attribute o name apos) (e::es) [] cpos) (λρ=>jX T φ (go ρ) (gs ρ)):=by
 obtain ⟨r,h1,h2⟩:=hm;refine PE.imp (qF pa slot hty h1 ho ha hbase hfew hline hs hplain) λσ H Q q=>?_;unfold tBM;rw[a8] at q ⊢;obtain ⟨ρ,F,R,w⟩:=q;refine ⟨ρ,F,R,?_⟩;cases er:go ρ with
 | stuck=>rw[er] at w;exact w
 | exc c=>rw[er] at w;exact w
 | ok m d =>
  rw[er] at w;intro v F1 H1 s1 r1 _;have w1:a6 (C.at X) F1 H1 σ (if i6 T d=true then (gs ρ).thn λxs=>Res.of (φ m d xs) else .stuck) Q:=a6.step s1 w;split at w1
  . rename_i ht;refine ⟨aH5 s1.sub r1 ht hT,ρ,F1,R.step s1,?_⟩;cases es':gs ρ with
    | stuck=>rw[es'] at w1;exact w1
    | exc c=>rw[es'] at w1;exact w1
    | ok xs =>
     rw[es'] at w1;intro vs F2 H2 s2 r2;have w2:a6 (C.at X) F2 H2 σ (Res.of (φ m d xs)) Q:=a6.step s2 w1;cases ef:φ m d xs with
     | none=>rw[ef] at w2;exact w2.elim
     | some kd=>obtain ⟨k,d'⟩:=kd;rw[ef] at w2;exact h2 F2 H2 m d xs v vs k d' Q s2.sub (r1.step s2) r2 ef w2
  . exact w1.elim
def e8:List D->Option (List Str)
 | []=>some []
 | .str x::r=>(e8 r).map (x :: ·)
 | _=>none
def iC:Md->D->List (Md×D)->Option (Md×D):=λ_ x xs=>match x,xs with
 | .str z,[(_,.lst ds)]=>(match e8 ds with
  | some ys=>if (ys.map (·.length)).sum+ys.length * z.length<=sizeLine then some (.fz,.str (Txt.join z ys)) else none
  | none=>none)
 | _,_=>none
theorem wM{K:Fg}{F:Hp}:∀ {ds:List D} {xs:List V} {ys:List Str},aE K F ds xs->e8 ds=some ys->xs=ys.map V.str/\∀ y∈ys,PyData.strOk y=true
 | [],_,_,h,e=>by cases e;simp only[aE] at h;exact ⟨h,λ_ z=>by cases z⟩
 | d::ds,_,_,h,e=>by
  simp only[aE] at h;obtain ⟨y,ys,rfl,r,t⟩:=h;cases d with
  | str b =>
   unfold e8 at e;cases q:e8 ds with
   | none=>rw[q] at e;cases e
   | some bs =>
    rw[q] at e;cases e;simp only[aD] at r;obtain ⟨rfl,_,hk⟩:=r;obtain ⟨rfl,hh⟩:=wM t q;refine ⟨rfl,λy hy=>?_⟩;rcases aSL.mp hy with rfl | hy
    . exact hk
    . exact hh y hy
  | _=>cases e
theorem lJ:∀ {ys:List Str} {us:List Value},aM (ys.map V.str) us->StrsAre us ys
 | [],_,h=>by cases h;exact .nil
 | y::ys,_,h=>by
  cases h with
  | cons r t=>obtain ⟨tk,rfl⟩:=r;exact .cons y tk (lJ t)
theorem qQ{z:Str}(hz:PyData.strOk z=true):∀ {ys:List Str},(∀ y∈ys,PyData.strOk y=true)->PyData.strOk (Str.join z ys)=true
 | [],_=>by show PyData.strOk Str.empty=true;decide +kernel
 | [x],h=>h x mcs
 | x::y::r,h=>by show PyData.strOk (x++z++Str.join z (y::r))=true;exact qL (qL (h x mcs) hz) (qQ hz λw hw=>h w (mcm hw))
theorem i7(z:Str)(ys:List Str):Txt.join z ys=Str.join z ys:=StrLaws.glued_eq_join z ys
theorem aH6:MtD X "str.join" iC:=by
 refine ⟨λv vs H Q=>∃ (z:Str) (a:Addr) (ys:List Str),v=.str z/\vs=[.ref a]/\SqL X.K H a (ys.map V.str)/\(ys.map (·.length)).sum+ys.length * z.length<=sizeLine/\Q (.str (Txt.join z ys)) H,?_,?_⟩
 . intro aA s σ H x xs v us Q I rx r h;obtain ⟨z,a,ys,rfl,rfl,hq,hl,q⟩:=h;obtain ⟨t,rfl⟩:=rx;obtain ⟨u,rfl,ru⟩:=cH r;cases (show u=Value.ref a from ru)
   obtain ⟨its,rv,p,hz⟩:=I.list hq;have hs:sizeLine=16777216:=aS9;exact join_list p.isList (by simpa using lJ rv) (by omega) λt' k=>⟨.str (Txt.join z ys),H,I.tok _,⟨_,rfl⟩,q⟩
 . intro F H m x xs v vs k d Q s rx rl e w;unfold iC at e;split at e
   . rename_i z m' ds;obtain ⟨rfl,hz,hk⟩:=rx.str;obtain ⟨u,rfl,r⟩:=rl.one;obtain ⟨a,ws,rfl,hq,rr⟩:=r.seqL s;split at e
     . rename_i ys ey;split at e
       . rename_i hl;cases e;obtain ⟨rfl,hys⟩:=wM rr ey;refine ⟨z,a,ys,rfl,rfl,hq,hl,w _ F H (.refl s) (e5 ⟨?_,?_⟩) (by intro z;cases z)⟩
         . rw[i7];exact aSI (aVQ z ys) hl
         . rw[i7];exact qQ hk hys
       . cases e
     . cases e
   . cases e
end
def spV(K:Fg)(mg:SOV)(n:Nat)(Φ:List D->Res):Sp:=λvs H Q E=>vs.length=n/\∃ F ds,aH F H/\aE K F ds vs/\match Φ ds with
 | .ok m d=>m ≠ .bo/\∀ v F' H',aJ F H F' H'->Rp K F' H' m d v->(m=.fr->∀ a,v=.ref a->H a=none)->Q v H'
 | .exc c=>∀ F' H' u,aJ F H F' H'->mg c=some u->E u none H'
 | .stuck=>False
structure FnV(P:Program)(w:World)(K:Fg)(mg:SOV)(base:Heap)(CX:CXT)(k:Nat)(x:Str)(n:Nat)(Φ:List D->Res):Prop where
 ex:∃ f fd ps,dF P w K mg base CX k f fd ps (spV K mg n Φ)/\mg x=some (.ref f)/\PySem.W.keepIn K (.ref f)=true/\fL K fd ps []
def aP(n:Nat)(Φ:List D->Res)(r:aT):Res:=r.thn λxs=>match cR xs with
 | some ds=>if ds.length=n then (match Φ ds with | .ok .bo _=>.stuck | r=>r) else .stuck
 | none=>.stuck
def XOk(CX:CXT)(C:Cw)(X:Cx):Prop:=∀ (aA:LAO) (σ:L2.St) (H:Hp) (s:Shared) (e:Value) (s':Shared),Inv X aA σ H s->CX X.stack H s (λu _ H'=>∃ c,X.mg c=some u/\C.EE c σ H') e s'->X.xe e s'
section
variable {C:Cw}{X:Cx}{e:Expr}{es:List Expr}{gs:Rho->aT}{p pos:Pos}{x:Str}{k n:Nat}{Φ:List D->Res}{CX:CXT}
theorem qR{f:Addr}{fd:FuncData}{ps:List Str}{aA:LAO}{σ:L2.St}{H:Hp}{s:Shared}{Q:VK}{us:List Value}{vs:List V}{E:XK}(F:dF X.prog X.w X.K X.mg X.base CX k f fd ps (spV X.K X.mg n Φ))(hr:cP k X.A)(hb:fL X.K fd ps [])(hx:∀ e s',CX X.stack H s E e s'->X.xe e s')(I:Inv X aA σ H s)(r:aM vs us)(h:spV X.K X.mg n Φ vs H Q E):wpAny (model X.prog X.w) X.A (call (.ref f) us) (EP X aA σ Q) X.xe s:=by
 have hl:(us++[]).length=ps.length:=by rw[aTO,<- r.length];exact F.len _ _ _ _ h
 have hb':=hb s us I.kIn hl;rw[aTO] at hb';refine wpAny_call (aUS (F.run X.A X.stack s H ⟨us,[]⟩ us vs Q E hr I.env0 hb' r h) λr s' hq=>?_);cases r with
 | error e=>exact hx e s' hq
 | ok fl =>
  cases fl with
  | ret u=>exact I.after hq
  | next=>exact False.elim hq
  | brk=>exact False.elim hq
  | cont=>exact False.elim hq
theorem aH7(F:FnV X.prog X.w X.K X.mg X.base CX k x n Φ)(hr:cP k X.A)(hx:XOk CX (C.at X) X)(hg:Gl X x)(ha:PAv C X (e::es) gs)(hdb:(x==("__debug__" : Str))=false:=by decide)(he:starEach (e::es) X.env=(false,eval e X.env)::starEach es X.env:=by rfl)(hpl:(backTo pos (starEach es X.env)).any (·.1)=false:=by rfl):PV C X (.Call (.Name x p) (e::es) [] pos) (λρ=>aP n Φ (gs ρ)):=by
 obtain ⟨f,fd,ps,FF,hm,hk,hb⟩:=F.ex;intro aA s σ H Q I h;rw[a8] at h;obtain ⟨ρ,F,R,w⟩:=h;refine aT0 (mU I hg hm ?_ hdb);refine aVR (h₀:=X.base) I.ok.mod.kin hk (thn (ha pos aA s σ H (λvs H1=>spV X.K X.mg n Φ vs H1 Q λu _ H'=>∃ c,X.mg c=some u/\C.EE c σ H') I ?_) λus s1 ⟨vs,H1,I1,r,q⟩=>⟨I1.kIn,qR FF hr hb (λe s' hc=>hx aA σ H1 s1 e s' I1 hc) I1 r q⟩) he hpl;refine ⟨ρ,F,R,?_⟩;cases er:gs ρ with
 | stuck=>rw[er] at w;exact w
 | exc c=>rw[er] at w;exact w
 | ok xs =>
  rw[er] at w;intro vs F1 H1 s1 r1;have w1:a6 (C.at X) F1 H1 σ (aP n Φ (.ok xs)) Q:=a6.step s1 w;unfold aP at w1;rw[aT.thn_ok] at w1;cases ef:cR xs with
  | none=>rw[ef] at w1;exact w1.elim
  | some ds =>
   rw[ef] at w1;dsimp only at w1;split at w1
   . rename_i hn;have rl:=r1.fz ef;refine ⟨by rw[rl.length];exact hn,F1,ds,s1.sub,rl,?_⟩
     cases ep:Φ ds with
     | stuck=>rw[ep] at w1;exact w1
     | exc c=>rw[ep] at w1;exact λF' H' u st hu=>⟨c,hu,w1 F' H' st⟩
     | ok m d =>
      rw[ep] at w1;cases m with
      | bo=>exact w1.elim
      | fz=>exact ⟨by decide,w1⟩
      | fr=>exact ⟨by decide,w1⟩
   . exact w1.elim
end
def endR:aK->Res
 | .nx _=>.ok .fz .non
 | .rt m d=>.ok m d
 | .exc c _=>.exc c
 | _=>.stuck
def iE(n:Nat)(ds:List D):Rho:=ds.map (λd=>some (false,d))++List.replicate (n-ds.length) none
theorem aH8{K:Fg}{F H:Hp}{N:List Str}{ds:List D}{vs:List V}(s:aH F H)(r:aE K F ds vs):aY K F H F H (eY N vs) (iE N.length ds):=by
 have low:∀ (i:Nat) (m:Bool) (d:D),(iE N.length ds)[i]? = some (some (m,d))->m=false/\∃ v,(eY N vs)[i]? = some (some v)/\aD K F d v:=λi m d e=>by
  unfold iE at e;unfold L2.eY;by_cases hi:i<ds.length
  . rw[aTV (by simpa using hi),aTW,aU7 hi] at e
    cases e;obtain ⟨v,ev,rv⟩:=r.get' (aU7 hi);exact ⟨rfl,v,by rw[aTV (by simpa[r.length] using hi),aTW,ev];rfl,rv⟩
  . rw[aTT (by simpa using hi),aTU] at e
    split at e <;> cases e
 refine ⟨.refl s,λi m d e=>?_,λi j d d' a _ e1 _ _ _=>?_,by simp[L2.eY,iE,r.length]⟩
 . obtain ⟨rfl,v,e1,rv⟩:=low i m d e;exact ⟨v,e1,rv,by intro z;cases z⟩
 . have:=(low i true d e1).1;cases this
def nR(ns:List Int):List D:=[.lst (ns.map .int)]
theorem wN{K:Fg}{F:Hp}:∀ ns:List Int,aE K F (ns.map D.int) (ns.map V.int)
 | []=>aE.nil
 | n::ns=>aE.cons (by simp only[aD]) (wN ns)
def noK:Md->D->Md->D->Option (Md×D):=λ_ _ _ _=>none
abbrev fAdd:Md->D->Md->D->Option (Md×D):=orO (fI (λ_ _=>true) λi j=>.int (i+j)) (fS (λi j=>decide (i.length+j.length<=sizeLine)) λi j=>.str (i++j))
abbrev fSub:Md->D->Md->D->Option (Md×D):=fI (λ_ _=>true) λi j=>.int (i-j)
abbrev fMul:Md->D->Md->D->Option (Md×D):=orO (fI (λi j=>(bU i&&bU j)||(w64 i||w64 j)) λi j=>.int (i * j)) iZ
abbrev fMod:Md->D->Md->D->Option (Md×D):=fI (λ_ j=>decide (0<j)) λi j=>.int (i % j)
abbrev fDiv:Md->D->Md->D->Option (Md×D):=fI (λ_ j=>decide (0<j)&&bU j) λi j=>.int (i / j)
abbrev fPow:Md->D->Md->D->Option (Md×D):=fI (λi j=>decide (0<=j)&&decide (j<=1000000)&&decide (i.natAbs<2 ^ 64)) λi j=>.int (i ^ j.toNat)
abbrev fLt:Md->D->Md->D->Option (Md×D):=fI (λ_ _=>true) λi j=>.bl (decide (i<j))
abbrev fLe:Md->D->Md->D->Option (Md×D):=fI (λ_ _=>true) λi j=>.bl (decide (i<=j))
abbrev fGt:Md->D->Md->D->Option (Md×D):=fI (λ_ _=>true) λi j=>.bl (decide (j<i))
abbrev fGe:Md->D->Md->D->Option (Md×D):=fI (λ_ _=>true) λi j=>.bl (decide (j<=i))
abbrev fEq:Md->D->Md->D->Option (Md×D):=orO (eqF false) noK
abbrev fNe:Md->D->Md->D->Option (Md×D):=orO (eqF true) noK
abbrev fIn:Md->D->Md->D->Option (Md×D):=fS (λ_ _=>true) λi j=>.bl (gJ i j)
abbrev aH9:Md->D->Md->D->Option (Md×D):=fS (λ_ _=>true) λi j=>.bl (!gJ i j)
def IsB(φ:Md->D->Md->D->Option (Md×D)):Prop:=∀ m x n y k d,φ m x n y=some (k,d)->∃ t,k=.fz/\d=.bl t
theorem nS{c:Int->Int->Bool}{g:Int->Int->Bool}:IsB (fI c λi j=>.bl (g i j)):=λm x n y k d e=>by
 unfold fI at e;split at e
 . split at e
   . cases e;exact ⟨_,rfl,rfl⟩
   . cases e
 . cases e
theorem wO{c:Str->Str->Bool}{g:Str->Str->Bool}:IsB (fS c λi j=>.bl (g i j)):=λm x n y k d e=>by
 unfold fS at e;split at e
 . split at e
   . cases e;exact ⟨_,rfl,rfl⟩
   . cases e
 . cases e
theorem lK{φ ψ}(h:IsB φ)(h':IsB ψ):IsB (orO φ ψ):=λm x n y k d e=>by
 unfold orO at e;cases e1:φ m x n y with
 | none=>rw[e1] at e;exact h' _ _ _ _ _ _ e
 | some p=>rw[e1] at e;cases e;exact h _ _ _ _ _ _ e1
theorem wP{neg:Bool}:IsB (eqF neg):=λm x n y k d e=>by
 unfold eqF at e;split at e
 . split at e
   . cases e;exact ⟨_,rfl,rfl⟩
   . cases e
 . cases e
section
variable {C:Cw}{X:Cx}
theorem nT{f:Value->Value->Sem Value}:OpD C X f noK:=⟨λ_ _ _ _=>False,λ_ _ _ _ _ _ _ _ _ _ _ _ h=>h.elim,λ_ _ _ _ _ _ _ _ _ _ _ _ _ _ e _=>by cases e⟩
theorem o_add:OpD C X (binaryOp .Add) fAdd:=aGH.or aGT
theorem o_mul:OpD C X (binaryOp .Mult) fMul:=aGK.or aHA
theorem o_eq(hu:X.A.units+64<cLine):OpD C X (compareOp .Eq) fEq:=(aH3 hu).or nT
theorem o_ne(hu:X.A.units+64<cLine):OpD C X (compareOp .NotEq) fNe:=(aH4 hu).or nT
def phi(n N:Nat)(g:Rho->aK):List D->Res:=λds=>if ds.length=n then endR (g (iE N ds)) else .stuck
end
def fP(scope sc:Scope):List (Str×NameKind):=scope.names.map λ(n,k)=>if (k == .free&&sc.kind == .function&&sc.names.lookup n==some .cell) then (n,.cell) else (n,k)
theorem aIA:bootBuiltins "len" = some (.builtin "len"):=by decide +kernel
theorem wQ:bootBuiltins "isinstance" = some (.builtin "isinstance"):=by decide +kernel
theorem aIB:bootBuiltins "all" = some (.builtin "all"):=by decide +kernel
theorem aIC:bootBuiltins "any" = some (.builtin "any"):=by decide +kernel
theorem aID:bootBuiltins "int" = some (.type "int"):=by decide +kernel
theorem aIE:bootBuiltins "bool" = some (.type "bool"):=by decide +kernel
theorem aIF:bootBuiltins "str" = some (.type "str"):=by decide +kernel
theorem aIG:bootBuiltins "tuple" = some (.type "tuple"):=by decide +kernel
theorem wR:bootBuiltins "list" = some (.type "list"):=by decide +kernel
theorem aIH:bootBuiltins "dict" = some (.type "dict"):=by decide +kernel
structure CI where
 name:Str
 ups:List Str
 flds:List Str
 meths:List (Str×Str×Nat)
def cB:Expr->Bool | .Starred ..=>false | _=>true
def lL:Expr->Bool | .Call (.Name x _) [] [] _=>x != "super" | _=>true
theorem bO{x:Expr}{es:List Expr}{env:Env}(h:cB x=true):starEach (x::es) env=(false,eval x env)::starEach es env:=by cases x <;> first | rfl | cases h
theorem fQ(pos:Pos)(env:Env):∀ {es:List Expr},(∀ x∈es,cB x=true)->(backTo pos (starEach es env)).any (·.1)=false
 | [],_=>rfl
 | x::es,h=>by rw[bO (h x mcs)];show ((false||(backTo pos (starEach es env)).any (·.1))=false);rw[fQ pos env λy hy=>h y (mcm hy)];rfl
theorem iF(pos:Pos)(env:Env):∀ {es:List Expr},(∀ x∈es,cB x=true)->(backTo pos (starEach es env)).all (λx=>!x.1)=true
 | [],_=>rfl
 | x::es,h=>by rw[bO (h x mcs)];show ((true&&(backTo pos (starEach es env)).all (λx=>!x.1))=true);rw[iF pos env λy hy=>h y (mcm hy)];rfl
theorem i8{o:Expr}{n:Str}{env:Env}{w:Sem Value}(h:lL o=true):attributeBase o n env w=w:=by
 cases o with
 | Call f as ks pos =>
  cases f with
  | Name x p =>
   cases as with
   | nil =>
    cases ks with
    | nil=>show (if x != "super" || n == "__class__" || env.kindOf "super" != some .globalImplicit||env.kindOf "__class__" != some .free then w else _)=w;have:(x != ("super" : Str))=true:=h;rw[if_pos (by rw[this];rfl)]
    | cons _ _=>rfl
   | cons _ _=>rfl
  | _=>rfl
 | _=>rfl
theorem aII {o : Expr} {m : Str} {apos pos : Pos} {args : List Expr} {env : Env} (hb : lL o = true) (hst : ∀ x ∈ args, cB x = true) (hn : args.length < 30) (hl : apos.endLine = pos.line) :
    eval (.Call (.Attribute o m apos) args [] pos) env=(do
     let ov <- eval o env
     standAt apos.atName
     let (f,first) <- holding [ov] (getMethod ov m (do return (<- importBound o env).getD true))
     callWith pos f first (backTo pos (starEach args env)) (backToKw pos (keywordEach [] env))):=by
 have few:methodCallForm (args.length+([]:List Keyword).length) (backTo pos (starEach args env)) (backToKw pos (keywordEach [] env))=true:=by unfold methodCallForm;rw[iF pos env hst];show (true&&true&&decide (args.length+0+0<30))=true;rw[aUN (by omega)];rfl
 show (do
  let ov <- attributeBase o m env (eval o env)
  standAt apos.atName
  methodCall o m apos pos env ov (args.length+([]:List Keyword).length) (backTo pos (starEach args env)) (backToKw pos (keywordEach [] env)))=_
 rw[i8 hb];unfold methodCall;rw[few];have hp:methodCallPos true o env apos pos=pure pos:=by unfold methodCallPos;rw[if_pos (by rw[hl];simp)]
 rw[hp];show (do
  let ov <- eval o env
  standAt apos.atName
  let (f,first) <- holding [ov] (getMethod ov m (do return (<- importBound o env).getD true))
  let callPos <- pure pos
  callWith callPos f first (backTo pos (starEach args env)) (backToKw pos (keywordEach [] env)))=_
 simp only[aVH]
structure MtV(P:Program)(w:World)(K:Fg)(mg:SOV)(base:Heap)(CX:CXT)(k:Nat)(c m:Str)(n:Nat)(Φ:List D->Res):Prop where
 ex:∃ C f fd ps,PySem.W.nsIn K mainGlobals c=some (some (.ref C))/\Cls K C/\kZ K C m f/\dF P w K mg base CX k f fd ps (spV K mg n Φ)/\fL K fd ps []
structure FlV(K:Fg)(c f:Str):Prop where
 ex:∃ C,PySem.W.nsIn K mainGlobals c=some (some (.ref C))/\Cls K C/\qD K C f
def CI.meth(cl:List CI)(c m:Str):Option (Str×Nat):=match cl.find? (λi=>i.name==c) with
 | some i=>i.meths.lookup m
 | none=>none
def dZ(cl:List CI)(Φ:Str->List D->Res)(m:Str)(o:Res)(as:aT):Res:=o.thn λmd d=>match md,d with
 | .fz,.ins c fs=>(match CI.meth cl c m with
  | some (key,n)=>if fs.lookup m=none then aP n (Φ key) (bV (.ok .fz (.ins c fs)) as) else .stuck
  | none=>.stuck)
 | _,_=>.stuck
section
variable {C:Cw}{X:Cx}{o e:Expr}{es:List Expr}{go:Rho->Res}{gs:Rho->aT}{apos pos:Pos}{m f:Str}{k:Nat}{Φ:Str->List D->Res}{CX:CXT}{cl:List CI}
theorem aIJ(hM:∀ c m key n,CI.meth cl c m=some (key,n)->MtV X.prog X.w X.K X.mg X.base CX k c m n (Φ key))(hr:cP k X.A)(hx:XOk CX (C.at X) X)(ho:PV C X o go)(ha:PAv C X es gs)(hb:lL o=true)(hst:∀ x∈es,cB x=true)(hn:es.length<30)(hl:apos.endLine=pos.line)(hes:es=[]->gs=λ_=>.ok []):PV C X (.Call (.Attribute o m apos) es [] pos) (λρ=>dZ cl Φ m (go ρ) (gs ρ)):=by
 intro aA s σ H Q I q;rw[a8] at q;obtain ⟨ρ,F,R,w⟩:=q;refine aE1 (pl:=(do return (<- importBound o X.env).getD true)) ho I ?_ (aII hb hst hn hl)
 show tG (C.at X) go σ H _;rw[a8];refine ⟨ρ,F,R,?_⟩;cases er:go ρ with
 | stuck=>rw[er] at w;exact w
 | exc c=>rw[er] at w;exact w
 | ok md d =>
  rw[er] at w;intro v F1 H1 s1 r1 _;have w1:a6 (C.at X) F1 H1 σ (dZ cl Φ m (.ok md d) (gs ρ)) Q:=a6.step s1 w;unfold dZ at w1;rw[Res.thn_ok] at w1;cases md with
  | fr=>exact w1.elim
  | bo=>exact w1.elim
  | fz =>
  cases d with
  | ins c fs =>
   dsimp only at w1;cases em:CI.meth cl c m with
   | none=>rw[em] at w1;exact w1.elim
   | some kn =>
    obtain ⟨key,n⟩:=kn;rw[em] at w1;dsimp only at w1;split at w1
    . rename_i hnl;obtain ⟨C',f',fd,ps,n1,cl',me,FO,hbd⟩:=(hM c m key n em).ex;have r1':=r1;obtain ⟨a,C2,dx,gs',ev,n2,ea,rf⟩:=r1.ins s1.sub;rw[n1] at n2;cases n2;subst ev;refine ⟨a,C',dx,gs',f',rfl,ea,cl',me,rf.lookN hnl,λs1' I1=>?_⟩;have fin:∀ (vs:List V) (us:List Value) (s2:Shared) (F2 H2:Hp) (xs:List (Md×D)),aJ F1 H1 F2 H2->RpL X.K F2 H2 xs vs->Inv X aA σ H2 s2->aM vs us->gs ρ=.ok xs->wpAny (model X.prog X.w) X.A (call (.ref f') (.ref a::us)) (EP X aA σ Q) X.xe s2:=by
        intro vs us s2 F2 H2 xs s2' rl I2 rv eg;rw[eg] at w1;have w2:a6 (C.at X) F2 H2 σ (aP n (Φ key) (bV (.ok .fz (.ins c fs)) (.ok xs))) Q:=a6.step s2' w1;rw[v6] at w2;unfold aP at w2;rw[aT.thn_ok] at w2;have rl2:RpL X.K F2 H2 ((.fz,.ins c fs)::xs) (.ref a::vs):=⟨_,_,rfl,r1'.step s2',rl⟩;cases ef:cR ((.fz,.ins c fs)::xs) with
        | none=>rw[ef] at w2;exact w2.elim
        | some ds =>
         rw[ef] at w2;dsimp only at w2;split at w2
         . rename_i hnn;have rl3:=rl2.fz ef;refine qR (E:=λu _ H'=>∃ c,X.mg c=some u/\C.EE c σ H') (vs:=.ref a::vs) (us:=.ref a::us) FO hr hbd (λe s' hc=>hx aA σ H2 s2 e s' I2 hc) I2 (.cons rfl rv) ⟨by rw[rl3.length];exact hnn,F2,ds,s2'.sub,rl3,?_⟩
           cases ep:Φ key ds with
           | stuck=>rw[ep] at w2;exact w2
           | exc c=>rw[ep] at w2;exact λF' H' u st hu=>⟨c,hu,w2 F' H' st⟩
           | ok m d =>
            rw[ep] at w2;cases m with
            | bo=>exact w2.elim
            | fz=>exact ⟨by decide,w2⟩
            | fr=>exact ⟨by decide,w2⟩
         . exact w2.elim
      cases es with
      | nil =>
       refine PySem.W.callWith_K0 (first:=[.ref a]) I1.kIn me.kp ?_
       have eg:gs ρ=.ok []:=by rw[hes rfl]
       exact fin [] [] s1' F1 H1 [] (.refl s1.sub) rfl I1 .nil eg
      | cons e es =>
       refine aVR (first:=[.ref a]) (h₀:=X.base) I.ok.mod.kin me.kp (thn (ha pos aA s1' σ H1 (λvs H2=>∃ F2 xs,aJ F1 H1 F2 H2/\RpL X.K F2 H2 xs vs/\gs ρ=.ok xs) I1 ?_) λus s2 ⟨vs,H2,I2,r,F2,xs,st2,rl,eg⟩=>⟨I2.kIn,?_⟩) (bO (hst e mcs)) (fQ _ _ λy hy=>hst y (mcm hy))
       . refine ⟨ρ,F1,R.step s1,?_⟩;cases eg:gs ρ with
         | stuck=>rw[eg] at w1;exact w1
         | exc c=>rw[eg] at w1;exact w1
         | ok xs=>exact λvs F2 H2 s2 rl=>⟨F2,xs,s2,rl,rfl⟩
       . exact fin vs us s2 F2 H2 xs st2 rl I2 r eg
    . exact w1.elim
  | _=>exact w1.elim
end
theorem aY.mut{K:Fg}{F0 H0 F H:Hp}{σ:L2.St}{ρ:Rho}{i:Nat}{d d':D}{a:Addr}{o:HO}(R:aY K F0 H0 F H σ ρ)(e:ρ[i]? = some (some (true,d)))(ev:σ[i]? = some (some (.ref a)))(t:Top K F (upd H a o) a d'):aY K F0 H0 F (upd H a o) σ (ρ.set i (some (true,d'))):=by
 obtain ⟨v,ev',rp,hn⟩:=R.slot i true d e;rw[ev] at ev';cases ev';have h0:H0 a=none:=hn rfl a rfl;obtain ⟨a',ea,hf,tt⟩:=rp;cases ea;have hl:i<ρ.length:=(aSO.mp e).1;have st:aJ F0 H0 F (upd H a o):=⟨λb u q=>by rw[aN (c9 q h0)];exact R.st.same b u q,R.st.fsame,λb u q=>by rw[aN (c9 q hf)];exact R.st.sub b u q,R.st.new⟩
 refine ⟨st,λj m d2 e2=>?_,λj l d1 d2 b hjl e1 e2 q1 q2=>?_,by rw[aVA];exact R.len⟩
 . by_cases hj:j=i
   . subst hj;rw[aSQ hl] at e2;cases e2;exact ⟨.ref a,ev,⟨a,rfl,hf,t⟩,λ_ b eb=>by cases eb;exact h0⟩
   . rw[aSR (λz=>hj z.symm)] at e2;obtain ⟨u,eu,ru,hu⟩:=R.slot j m d2 e2;refine ⟨u,eu,?_,hu⟩;cases m with
     | false=>exact ru
     | true =>
      obtain ⟨b,eb,hb,tb⟩:=ru;subst eb;have hba:b≠a:=λz=>by subst z;exact R.apart j i d2 d b hj e2 e eu ev
      refine ⟨b,rfl,hb,?_⟩;cases d2 with
      | lst ds=>obtain ⟨xs,q,r⟩:=tb;exact ⟨xs,by rw[aN hba];exact q,r⟩
      | dct ds=>obtain ⟨xs,q,r⟩:=tb;exact ⟨xs,by rw[aN hba];exact q,r⟩
      | ins c fs=>obtain ⟨C,dx,gs,n,q,r⟩:=tb;exact ⟨C,dx,gs,n,by rw[aN hba];exact q,r⟩
      | set ks=>obtain ⟨S,q,r⟩:=tb;exact ⟨S,by rw[aN hba];exact q,r⟩
      | _=>exact tb.elim
 . have back:∀ (l:Nat) (d2:D),(ρ.set i (some (true,d')))[l]? = some (some (true,d2))->∃ d3,ρ[l]? = some (some (true,d3)):=λl d2 q=>by
     by_cases hl':l=i
     . subst hl';exact ⟨d,e⟩
     . rw[aSR (λz=>hl' z.symm)] at q;exact ⟨d2,q⟩
   obtain ⟨d3,q3⟩:=back j d1 e1;obtain ⟨d4,q4⟩:=back l d2 e2;exact R.apart j l d3 d4 b hjl q3 q4 q1 q2
section
variable {C:Cw}{X:Cx}{e:Expr}{g:Rho->Res}{pos p pos':Pos}{f x:Str}{cl:List CI}
end
structure qS(K:Fg)(mg:SOV)(c:Str):Prop where
 ex:∃ C,PySem.W.nsIn K mainGlobals c=some (some (.ref C))/\mg c=some (.ref C)/\PySem.W.makesIn K C=true/\PySem.W.findIn K (.ref C) "__init__" = some (some (.builtin "object.__init__"))/\PySem.W.keepIn K (.ref C)=true
theorem aIK{X:Cx}{C:Addr}{x:Str}{p pos:Pos}(hm:X.mg x=some (.ref C))(h1:PySem.W.makesIn X.K C=true)(h2:PySem.W.findIn X.K (.ref C) "__init__" = some (some (.builtin "object.__init__")))(h3:PySem.W.keepIn X.K (.ref C)=true)(hg:Gl X x)(hdb:(x==("__debug__" : Str))=false):PE X (.Call (.Name x p) [] [] pos) (λσ H Q=>∀ a dx,H a=none->H dx=none->dx≠a->Q (.ref a) (upd (upd H dx (.own a)) a (.ins C dx []))):=by
 intro aA s σ H Q I h;refine aT0 (mU I hg hm ?_ hdb);refine PySem.W.callWith_K0 I.kIn h3 (wpAny_call (aEZ I.kIn h1 h2 (λself=>PySem.W.Looks.of_pure (PySem.W.oi_bind self)) ?_));have I2:=Inv.made (C:=C) I;have Y:=PySem.W.makes_of (M:=model X.prog X.w) I.kIn h1;have hh:((s.heap.push PySem.W.emptyDict).push (PySem.W.instObj C s.heap.objs.size)).get? (s.heap.objs.size+1)=some (PySem.W.instObj C s.heap.objs.size):=by
  have:=aSA (s.heap.push PySem.W.emptyDict) (o:=PySem.W.instObj C s.heap.objs.size) rfl
  rwa [aTD] at this
 have t1:PySem.W.Looks (model X.prog X.w) ((s.heap.push PySem.W.emptyDict).push (PySem.W.instObj C s.heap.objs.size)) (typeOf (.ref (s.heap.objs.size+1))) (.ref C):=(PySem.W.Looks.ld hh).andThen .now;have t2:PySem.W.Looks (model X.prog X.w) ((s.heap.push PySem.W.emptyDict).push (PySem.W.instObj C s.heap.objs.size)) (isInstance (.ref (s.heap.objs.size+1)) (.type "object")) true:=t1.andThen (Y.top.keeps λb o e=>hps (hps e));refine codeAny_call_builtin PySem.W.oi_plain PySem.W.entry_oi (@PySem.W.check_slot (model X.prog X.w) _ _ _ "object.__init__" "object" "__init__" (.ref (s.heap.objs.size+1)) [] [] _ PySem.W.oi_kind PySem.W.oi_split t2 (PySem.W.oi_args (.ref (s.heap.objs.size+1))) ?_);rw[PySem.W.oi_run];refine aSX (And.intro rfl ⟨.ref (s.heap.objs.size+1),_,I2,rfl,?_⟩);exact h (s.heap.objs.size+1) s.heap.objs.size (I.hok.fresh (aVS _)) (I.hok.fresh (aS1 _)) (aSE (aTE _))
theorem aIL{F H:Hp}{a dx C:Addr}(s:aH F H)(ha:H a=none)(hd:H dx=none)(hne:dx≠a):aJ F H F (upd (upd H dx (.own a)) a (.ins C dx [])):=by have s1:=aJ.fresh (.own a) s hd;refine s1.trans (aJ.fresh _ s1.sub ?_);rw[aN (λz=>hne z.symm)];exact ha
theorem aIM{C:Cw}{X:Cx}{c:Str}{p pos:Pos}(M:qS X.K X.mg c)(hg:Gl X c)(hdb:(c==("__debug__" : Str))=false):PV C X (.Call (.Name c p) [] [] pos) (λ_=>.ok .fr (.ins c [])):=by
 obtain ⟨C',n,hm,h1,h2,h3⟩:=M.ex;refine PE.imp (aIK hm h1 h2 h3 hg hdb) λσ H Q q=>?_;rw[a8] at q;obtain ⟨ρ,F,R,w⟩:=q;intro a dx ha hd hne;refine w (.ref a) F _ (aIL R.sub ha hd hne) ⟨a,rfl,R.sub.free ha,C',dx,[],n,a7,?_⟩ λ_ b eb=>by cases eb;exact ha
 simp only[dA]
def spI(K:Fg)(mg:SOV)(c:Str)(n:Nat)(Φ:List D->Res):Sp:=λvs H Q E=>∃ x us dx C H1 F ds,vs=.ref x::us/\us.length=n/\PySem.W.nsIn K mainGlobals c=some (some (.ref C)) /\
 H=upd (upd H1 dx (.own x)) x (.ins C dx [])/\H1 x=none/\H1 dx=none/\dx≠x/\aH F H1/\aE K F ds us/\match Φ ds with
 | .ok _ d=>∀ F' H',aJ F H1 F' H'->Rp K F' H' .fr d (.ref x)->Q .non H'
 | .exc c=>∀ F' H' u,aJ F H1 F' H'->mg c=some u->E u none H'
 | .stuck=>False
structure InV(P:Program)(w:World)(K:Fg)(mg:SOV)(base:Heap)(CX:CXT)(k:Nat)(c:Str)(n:Nat)(Φ:List D->Res):Prop where
 ex:∃ C f fd ps,PySem.W.nsIn K mainGlobals c=some (some (.ref C))/\mg c=some (.ref C)/\Mk K C f/\dF P w K mg base CX k f fd ps (spI K mg c n Φ)/\fL K fd ps []
section
variable {C:Cw}{X:Cx}{e:Expr}{es:List Expr}{gs:Rho->aT}{p pos:Pos}{x c:Str}{k n:Nat}{Φ:List D->Res}{CX:CXT}
end
structure IsV(K:Fg)(mg:SOV)(cl:List CI)(c:Str):Prop where
 ex:∃ C,mg c=some (.ref C)/\(∀ t∈["NoneType", "bool", "int", "str", "tuple", "list", "dict"],PySem.W.kitOne K (.type t) (.ref C)=some false) /\
  ∀ i∈cl,∃ C',PySem.W.nsIn K mainGlobals i.name=some (some (.ref C'))/\Cls K C'/\PySem.W.findIn K (.ref C') "__class__" = some (some (.builtin "object.__class__")) /\
   PySem.W.specialIn K (.builtin "object.__class__") "__get__" = some (some (.builtin "getset_descriptor.__get__"))/\PySem.W.takesIn K (.builtin "object.__class__")=some true/\PySem.W.mroIn K C' (.type "object")=some true /\
   PySem.W.kitOne K (.ref C') (.ref C)=some (i.ups.contains c)
def e9(cl:List CI)(c:Str)(r:Res):Res:=r.thn λ_ d=>match d with
 | .ins x _=>(match cl.find? (λi=>i.name==x) with | some i=>.ok .fz (.bl (i.ups.contains c)) | none=>.stuck)
 | d=>(match tyN d with | some _=>.ok .fz (.bl false) | none=>.stuck)
section
variable {C:Cw}{X:Cx}{e:Expr}{g:Rho->Res}{p q pos:Pos}{c:Str}{cl:List CI}
theorem aIN(hI:IsV X.K X.mg cl c)(hg:Gl X "isinstance")(hn:X.mg "isinstance" = none)(hgc:Gl X c)(hdb:(c==("__debug__" : Str))=false)(he:PV C X e g)(hs:cB e=true):PV C X (.Call (.Name "isinstance" p) [e,.Name c q] [] pos) (λρ=>e9 cl c (g ρ)):=by
 obtain ⟨C',hm,hty,hcl⟩:=hI.ex;have ha:PA X [e,.Name c q] (fK (tG (C.at X) g) (fK (tC (.ref C')) k5)):=hX he (hX (pX (v:=.ref C') hgc hm rfl hdb) iW) (bO hs);have hc:cG X (.builtin "isinstance") (λvs H Q=>∃ v t b,vs=[v,.ref C']/\(∃ (F:Hp) (m:Md) (d:D),aH F H/\Rp X.K F H m d v/\e9 cl c (.ok m d)=.ok .fz (.bl b))/\t=()/\Q (.bl b) H):=by
  intro aA s σ H vs us Q I r h;obtain ⟨v,_,b,rfl,⟨F,m,d,sF,rp,hb⟩,_,hq⟩:=h;obtain ⟨u,u',rfl,ru,ru'⟩:=u6 r;cases (show u'=Value.ref C' from ru')
  have fin:∀ tk,EP X aA σ Q (.bool b) { s with toks:=tk }:=λtk=>⟨.bl b,H,I.tok _,rfl,hq⟩
  unfold e9 at hb;rw[Res.thn_ok] at hb;cases d with
  | non=>cases hb;cases rp.non;cases (show u=Value.none from ru);exact aTG aTH I.kIn True.intro (hty _ (by decide)) (λz=>nomatch z) fin
  | bl y=>cases hb;cases rp.bl;cases (show u=Value.bool y from ru);exact aTG aTI I.kIn True.intro (hty _ (by decide)) (λz=>nomatch z) fin
  | int i=>cases hb;cases rp.int;obtain ⟨t,q⟩:=(show ∃ t,u=Value.int i t from ru);cases q;exact aTG aTJ I.kIn True.intro (hty _ (by decide)) (λz=>nomatch z) fin
  | str y=>cases hb;obtain ⟨rfl,_⟩:=rp.str;obtain ⟨t,q⟩:=(show ∃ t,u=Value.str y t from ru);cases q;exact aTG aTK I.kIn True.intro (hty _ (by decide)) (λz=>nomatch z) fin
  | tup ds =>
   cases hb;obtain ⟨a,xs,rfl,hq',_⟩:=rp.seqT sF;cases (show u=Value.ref a from ru)
   obtain ⟨its,_,⟨o,h1,h2,_⟩,_⟩:=I.tuple hq';exact aTG aTM I.kIn ⟨o,h1,h2⟩ (hty _ (by decide)) (λz=>nomatch z) fin
  | lst ds =>
   cases hb;obtain ⟨a,xs,rfl,hq',_⟩:=rp.seqL sF;cases (show u=Value.ref a from ru)
   obtain ⟨its,_,⟨o,n,h1,h2,_⟩,_⟩:=I.list hq';exact aTG aTL I.kIn ⟨o,h1,h2⟩ (hty _ (by decide)) (λz=>nomatch z) fin
  | dct ds =>
   cases hb;obtain ⟨a,xs,rfl,hq',_⟩:=rp.dict sF;cases (show u=Value.ref a from ru)
   obtain ⟨_,_,vs,_,p⟩:=(show bD X.prog X.w H s.heap a (.dK xs) from I.hok a _ hq')
   obtain ⟨o,es,ep,h1,h2,_⟩:=p;exact aTG aTN I.kIn ⟨o,h1,h2.1⟩ (hty _ (by decide)) (λz=>nomatch z) fin
  | ins x fs =>
   dsimp only at hb;cases ef:cl.find? (λi=>i.name==x) with
   | none=>rw[ef] at hb;cases hb
   | some i =>
    rw[ef] at hb;cases hb;have hi:i.name=x:=by simpa using List.find?_some ef
    obtain ⟨C2,n1,cc,f1,f2,f3,f4,f5⟩:=hcl i (List.mem_of_find?_eq_some ef);rw[hi] at n1;obtain ⟨a,C3,dx,gs,rfl,n2,ea,_⟩:=rp.ins sF;rw[n1] at n2;cases n2;exact aE2 I ru (.ins ea cc f1 f2 f3 f4) f5 fin
  | ty n=>cases hb
  | exn n=>cases hb
  | set n=>cases hb
  | ob a=>cases hb
  | fn a=>cases hb
 refine PE.imp (nE hc hg hn wQ ha (by decide) (by decide) (bO hs) rfl) λσ H Q qq=>?_
 rw[a8] at qq;obtain ⟨ρ,F,R,w⟩:=qq;unfold tCB fK;rw[a8];refine ⟨ρ,F,R,?_⟩;cases er:g ρ with
 | stuck=>rw[er] at w;exact w
 | exc c=>rw[er] at w;exact w
 | ok m d =>
  rw[er] at w;intro v F1 H1 s1 r1 _;have w1:a6 (C.at X) F1 H1 σ (e9 cl c (.ok m d)) Q:=a6.step s1 w;cases eb:e9 cl c (.ok m d) with
  | stuck=>rw[eb] at w1;exact w1.elim
  | exc c' =>
   exfalso;unfold e9 at eb;rw[Res.thn_ok] at eb;cases d with
   | ins x fs=>dsimp only at eb;cases ef:cl.find? (λi=>i.name==x) <;> rw[ef] at eb <;> cases eb
   | _=>cases eb
  | ok m' d' =>
   have:∃ b,m'=.fz/\d'=.bl b:=by
    unfold e9 at eb;rw[Res.thn_ok] at eb;cases d with
    | ins x fs=>dsimp only at eb;cases ef:cl.find? (λi=>i.name==x) with
     | none=>rw[ef] at eb;cases eb
     | some i=>rw[ef] at eb;cases eb;exact ⟨_,rfl,rfl⟩
    | non=>cases eb;exact ⟨_,rfl,rfl⟩
    | bl _=>cases eb;exact ⟨_,rfl,rfl⟩
    | int _=>cases eb;exact ⟨_,rfl,rfl⟩
    | str _=>cases eb;exact ⟨_,rfl,rfl⟩
    | tup _=>cases eb;exact ⟨_,rfl,rfl⟩
    | lst _=>cases eb;exact ⟨_,rfl,rfl⟩
    | dct _=>cases eb;exact ⟨_,rfl,rfl⟩
    | _=>cases eb
   obtain ⟨b,rfl,rfl⟩:=this;rw[eb] at w1;exact ⟨v,(),b,rfl,⟨F1,m,d,s1.sub,r1,eb⟩,rfl,w1 _ F1 H1 (.refl s1.sub) (cK _) (by intro z;cases z)⟩
end
section
variable {C:Cw}{X:Cx}{a b c e:Expr}{ga gb gc g:Rho->Res}{gs:Rho->aT}{pos:Pos}
def fA:D->Bool | .non=>true | _=>false
theorem wS{K:Fg}{F H:Hp}{m:Md}{d:D}{v:V}(s:aH F H)(r:Rp K F H m d v):decide (v=.non)=fA d:=by
 cases d with
 | non=>cases r.non;rfl
 | bl _=>cases r.bl;rfl
 | int _=>cases r.int;rfl
 | str _=>cases r.str.1;rfl
 | tup _=>obtain ⟨_,_,rfl,_⟩:=r.seqT s;rfl
 | lst _=>obtain ⟨_,_,rfl,_⟩:=r.seqL s;rfl
 | dct _=>obtain ⟨_,_,rfl,_⟩:=r.dict s;rfl
 | ty _=>cases r.ty;rfl
 | ob _=>cases r.ob;rfl
 | ins _ _=>obtain ⟨_,_,_,_,rfl,_⟩:=r.ins s;rfl
 | fn _ =>
  cases m with
  | fz=>have r:aD K F _ v:=r;simp only[aD] at r;obtain ⟨_,rfl,_⟩:=r;rfl
  | fr=>obtain ⟨_,_,_,q⟩:=r;exact q.elim
  | bo=>obtain ⟨_,_,_,q⟩:=r;exact q.elim
 | exn _ =>
  cases m with
  | fz=>have r:aD K F _ v:=r;simp only[aD] at r;obtain ⟨_,_,rfl,_⟩:=r;rfl
  | fr=>obtain ⟨_,_,_,q⟩:=r;exact q.elim
  | bo=>obtain ⟨_,_,_,q⟩:=r;exact q.elim
 | set _ =>
  cases m with
  | fz=>have r:aD K F _ v:=r;simp only[aD] at r;obtain ⟨_,_,rfl,_⟩:=r;rfl
  | fr=>obtain ⟨_,rfl,_,_⟩:=r;rfl
  | bo=>obtain ⟨_,rfl,_,_⟩:=r;rfl
def fIs(neg:Bool):Md->D->Md->D->Option (Md×D):=λ_ x _ y=>match y with
 | .non=>some (.fz,.bl (if neg then !fA x else fA x))
 | _=>none
theorem aIO:OpD C X (compareOp .Is) (fIs false):=by
 refine ⟨_,aEM,λF H m x n y v u k d Q s rx ry e w=>?_⟩;unfold fIs at e;split at e
 . cases e;cases ry.non;exact ⟨rfl,by rw[wS s rx];exact w _ F H (.refl s) (cK _) (by intro z;cases z)⟩
 . cases e
theorem aIP:OpD C X (compareOp .IsNot) (fIs true):=by
 refine ⟨_,aEN,λF H m x n y v u k d Q s rx ry e w=>?_⟩;unfold fIs at e;split at e
 . cases e;cases ry.non;exact ⟨rfl,by rw[wS s rx];exact w _ F H (.refl s) (cK _) (by intro z;cases z)⟩
 . cases e
theorem wT{neg:Bool}:IsB (fIs neg):=λm x n y k d e=>by
 unfold fIs at e;split at e
 . cases e;exact ⟨_,rfl,rfl⟩
 . cases e
theorem aIQ:OpR X (binaryOp .Add) (λx y H Q=>∃ l b xs ys,x=.ref l/\y=.ref b/\SqL X.K H l xs/\SqL X.K H b ys/\xs.length+ys.length<=sizeLine/\∀ p,H p=none->Q (.ref p) (upd H p (.lst (xs++ys)))):=by
 intro aA s σ H x y v u Q I rx ry h;obtain ⟨l,b,xs,ys,rfl,rfl,hl,hb,hz,q⟩:=h;cases rx;cases ry;obtain ⟨its,r1,p1,_⟩:=I.list hl;obtain ⟨its2,r2,p2,_⟩:=I.list hb;obtain ⟨⟨cls,dd,data,sl⟩,n,ho,hc,hd1,hd⟩:=p1;obtain ⟨⟨cls2,dd2,data2,sl2⟩,n2,ho2,hc2,hd2',hd2⟩:=p2;simp only at hc hd hc2 hd2;subst hc hd hc2 hd2;have e:its.toArray++its2.toArray=(its++its2).toArray:=by simp
 have l1:=r1.length;have l2:=r2.length;refine aT1 ⟨_,ho,rfl⟩ ⟨_,ho2,rfl⟩ noFill_list_add seq_list_add PySem.F.slot_list_add PySem.F.entry_list_add (PySem.F.args_list_add_2 _ _) (list_addW l b its.toArray its2.toArray n n2 dd dd2 sl sl2 (by simp;omega)) ⟨ho,ho2,?_⟩
 rw[e];refine ⟨.ref s.heap.objs.size,_,I.laid (t':=s.toks) (o:=.lst (xs++ys)) (λb ob q=>hps q) (aS1 _) ?_,rfl,q _ (I.hok.fresh (aS1 _))⟩;exact ⟨by rw[aTY];exact hz,_,0,r1.append r2,aSA _ rfl⟩
theorem aIR:OpR X (binaryOp .Add) (λx y H Q=>∃ l b xs ys,x=.ref l/\y=.ref b/\SqT X.K H l xs/\SqT X.K H b ys/\xs.length+ys.length<=sizeLine/\(xs=[]->Q (.ref b) H)/\(xs≠[]->ys=[]->Q (.ref l) H)/\(xs≠[]->ys≠[]->∀ p,H p=none->Q (.ref p) (upd H p (.tup (xs++ys))))):=by
 intro aA s σ H x y v u Q I rx ry h;obtain ⟨l,b,xs,ys,rfl,rfl,hl,hb,hz,q0,q1,q2⟩:=h;cases rx;cases ry;obtain ⟨its,r1,p1,_⟩:=I.tuple hl;obtain ⟨its2,r2,p2,_⟩:=I.tuple hb;have n1:=r1.nil_iff;have n2:=r2.nil_iff;have l1:=r1.length;have l2:=r2.length;by_cases hv:its=[]
 . obtain ⟨⟨cls,dd,data,sl⟩,ho,hc,n,hd⟩:=id p1;obtain ⟨⟨cls2,dd2,data2,sl2⟩,ho2,hc2,n2',hd2⟩:=id p2;simp only at hc hd hc2 hd2;subst hc hd hc2 hd2;exact aT1 ⟨_,ho,rfl⟩ ⟨_,ho2,rfl⟩ aT2 seq_tuple_add aT3 aT4 (aT5 _ _)
     (tuple_addW0 l b its.toArray its2.toArray n n2' dd dd2 sl sl2 (by simp[hv])) ⟨ho,ho2,⟨.ref b,H,I,rfl,q0 (n1.mp hv)⟩⟩
 . refine HT.aE6 p1 p2 hv (λz=>⟨.ref l,H,I,rfl,q1 (λw=>hv (n1.mpr w)) (n2.mp z)⟩) (λz=>?_) (by omega)
   refine ⟨.ref s.heap.objs.size,_,I.laid (t':=s.toks) (o:=.tup (xs++ys)) (λb ob q=>hps q) (aS1 _) ?_,rfl,q2 (λw=>hv (n1.mpr w)) (λw=>z (n2.mpr w)) _ (I.hok.fresh (aS1 _))⟩;exact ⟨by rw[aTY];exact hz,_,r1.append r2,fH.new _ _⟩
def nU:Md->D->Md->D->Option (Md×D):=λm x n y=>match x,y with
 | .lst xs,.lst ys=>if xs.length+ys.length<=sizeLine then some (.fr,.lst (xs++ys)) else none
 | .tup xs,.tup ys=>if xs.length+ys.length<=sizeLine then some (.fz,.tup (xs++ys)) else none
 | _,_=>none
theorem aE.nilIff{K:Fg}{F:Hp}{ds:List D}{xs:List V}(h:aE K F ds xs):xs=[]↔ds=[]:=by
 have:=h.length;constructor
 . intro e;subst e;cases ds with | nil=>rfl | cons _ _=>simp at this
 . intro e;subst e;cases xs with | nil=>rfl | cons _ _=>simp at this
theorem aIS:OpD C X (binaryOp .Add) nU:=by
 refine ⟨_,aIQ.or aIR,λF H m x n y v u k d Q s rx ry e w=>?_⟩;unfold nU at e;split at e
 . rename_i xs ys;split at e
   . rename_i hz;cases e;obtain ⟨a,us,rfl,q1,r1⟩:=rx.seqL s;obtain ⟨b,vs,rfl,q2,r2⟩:=ry.seqL s;refine .inl ⟨a,b,us,vs,rfl,rfl,q1,q2,by rw[r1.length,r2.length];exact hz,λp hp=>?_⟩
     exact w (.ref p) F _ (aJ.fresh _ s hp) ⟨p,rfl,s.free hp,_,a7,r1.append r2⟩ λ_ a ea=>by cases ea;exact hp
   . cases e
 . rename_i xs ys;split at e
   . rename_i hz;cases e;have ex:=rx;have ey:=ry;obtain ⟨a,us,rfl,q1,r1⟩:=rx.seqT s;obtain ⟨b,vs,rfl,q2,r2⟩:=ry.seqT s;have fz:∀ {m:Md} {zs:List D} {c:Addr},Rp X.K F H m (.tup zs) (.ref c)->aD X.K F (.tup zs) (.ref c):=λ{m zs c} h=>by
       cases m with
       | fz=>exact h
       | fr=>obtain ⟨_,_,_,q⟩:=h;exact q.elim
       | bo=>obtain ⟨_,_,_,q⟩:=h;exact q.elim
     refine .inr ⟨a,b,us,vs,rfl,rfl,q1,q2,by rw[r1.length,r2.length];exact hz,λz=>?_,λ_ z=>?_,λ_ _ p hp=>?_⟩
     . have:xs=[]:=r1.nilIff.mp z;subst this;exact w (.ref b) F H (.refl s) (fz ey) (by intro z;cases z)
     . have:ys=[]:=r2.nilIff.mp z;subst this;rw[aTO] at w;exact w (.ref a) F H (.refl s) (fz ex) (by intro z;cases z)
     . exact w (.ref p) _ _ (aJ.laid (.tup (us++vs)) s hp) (aD.tup_of (s.free hp) (r1.append r2)) (by intro z;cases z)
   . cases e
 . cases e
def fR:D->Bool | .non | .bl _ | .int _ | .str _=>true | _=>false
def eqD:D->D->Bool
 | .non,.non=>true
 | .bl a,.bl b=>a==b
 | .bl a,.int b=>(if a then 1 else 0)==b
 | .int a,.bl b=>a==(if b then 1 else 0)
 | .int a,.int b=>a==b
 | .str a,.str b=>a==b
 | _,_=>false
def vOf:D->V | .non=>.non | .bl b=>.bl b | .int i=>.int i | .str x=>.str x | _=>.non
theorem aIT{K:Fg}{F H:Hp}{m:Md}{d:D}{v:V}(h:fR d=true)(r:Rp K F H m d v):v=vOf d:=by
 cases d with
 | non=>exact r.non
 | bl _=>exact r.bl
 | int _=>exact r.int
 | str _=>exact r.str.1
 | _=>cases h
theorem qT{K:Fg}{F:Hp}:∀ {ds:List D} {xs:List V},ds.all fR=true->aE K F ds xs->xs=ds.map vOf
 | [],_,_,r=>by simp only[aE] at r;exact r
 | d::ds,_,h,r=>by simp only[aE] at r;obtain ⟨y,ys,rfl,r1,r2⟩:=r;rw[aVT,aUG] at h;rw[aUQ,aIT (H:=F) (m:=.fz) h.1 r1,qT h.2 r2]
theorem aIU{d:D}(h:fR d=true):hZ (vOf d)=true:=by cases d <;> first | rfl | cases h
theorem aIV{x y:D}(hx:fR x=true)(hy:fR y=true):eqV (vOf x) (vOf y)=eqD x y:=by cases x <;> cases y <;> first | rfl | (cases hx;done) | (cases hy;done)
theorem qU:∀ {ds:List D},ds.all fR=true->(ds.map vOf).all hZ=true
 | [],_=>rfl
 | d::ds,h=>by rw[aVT,aUG] at h;rw[aUQ,aVT,aIU h.1,qU h.2];rfl
def jY:List (Md×D)->Option (Md×D)
 | [(_,.lst ds)]=>some (.fz,.tup ds)
 | [(.fz,.tup ds)]=>some (.fz,.tup ds)
 | _=>none
def jZ:List (Md×D)->Option (Md×D)
 | [(_,.lst ds)]=>some (.fr,.lst ds)
 | [(_,.tup ds)]=>some (.fr,.lst ds)
 | _=>none
def qV:List (Md×D)->Option (Md×D)
 | [(_,.int i)]=>some (.fz,.int i)
 | [(_,.bl b)]=>some (.fz,.int (if b then 1 else 0))
 | _=>none
def qW(i:Int):Bool:=decide (i.natAbs.log2<1920)
def qX(i:Int):Str:=Str.ofString (toString i)
def lN:List (Md×D)->Option (Md×D)
 | [(_,.int i)]=>if qW i=true then some (.fz,.str (qX i)) else none
 | _=>none
theorem aIW:aZ X (.type "tuple") jY:=by
 refine ⟨_,aFR,λF H xs vs k d Q s rx e w=>?_⟩;unfold jY at e;split at e
 . rename_i m ds;cases e;obtain ⟨v,rfl,r⟩:=rx.one;obtain ⟨a,xs,rfl,q,rl⟩:=r.seqL s;exact ⟨a,xs,rfl,.inl ⟨q,λl hl=>w (.ref l) _ _ (aJ.laid (.tup xs) s hl) (aD.tup_of (s.free hl) rl) (by intro z;cases z)⟩⟩
 . rename_i ds;cases e;obtain ⟨v,rfl,r⟩:=rx.one;have r0:=r;obtain ⟨a,xs,rfl,q,rl⟩:=r.seqT s;exact ⟨a,xs,rfl,.inr ⟨q,w (.ref a) F H (.refl s) r0 (by intro z;cases z)⟩⟩
 . cases e
theorem aIX:aZ X (.type "list") jZ:=by
 refine ⟨_,aFQ,λF H xs vs k d Q s rx e w=>?_⟩;unfold jZ at e;split at e
 . rename_i m ds;cases e;obtain ⟨v,rfl,r⟩:=rx.one;obtain ⟨a,xs,rfl,q,rl⟩:=r.seqL s;exact ⟨a,xs,rfl,.inl q,λl hl=>w (.ref l) F _ (aJ.fresh _ s hl) ⟨l,rfl,s.free hl,xs,a7,rl⟩ λ_ a ea=>by cases ea;exact hl⟩
 . rename_i m ds;cases e;obtain ⟨v,rfl,r⟩:=rx.one;obtain ⟨a,xs,rfl,q,rl⟩:=r.seqT s;exact ⟨a,xs,rfl,.inr q,λl hl=>w (.ref l) F _ (aJ.fresh _ s hl) ⟨l,rfl,s.free hl,xs,a7,rl⟩ λ_ a ea=>by cases ea;exact hl⟩
 . cases e
theorem aIY:aZ X (.type "int") qV:=by
 refine ⟨_,aEU,λF H xs vs k d Q s rx e w=>?_⟩;unfold qV at e;split at e
 . cases e;obtain ⟨v,rfl,r⟩:=rx.one;cases r.int;exact .inl ⟨_,rfl,w _ F H (.refl s) (cQ _) (by intro z;cases z)⟩
 . cases e;obtain ⟨v,rfl,r⟩:=rx.one;cases r.bl;exact .inr ⟨_,rfl,w _ F H (.refl s) (cQ _) (by intro z;cases z)⟩
 . cases e
end
theorem aIZ(i:Int):PyData.strOk (Str.ofString (toString i))=true:=by
 unfold PyData.strOk;rw[aUX];intro c hc;have hc':c∈(Str.ofString (toString i)).cps.toList:=by rw[aTB];exact hc
 have:¬ (c≠45/\(c<48\/57<c)):=λh=>int_text_free' c h i hc';have hb:c<58:=by omega
 simp;omega
section
variable {X:Cx}
theorem aI0:aZ X (.type "str") lN:=by
 refine ⟨_,aEV,λF H xs vs k d Q s rx e w=>?_⟩;unfold lN at e;split at e
 . rename_i m i;split at e
   . rename_i hs;cases e;obtain ⟨v,rfl,r⟩:=rx.one;cases r.int;have hl:i.natAbs.log2<1920:=aUV hs;have h1:(qX i).length<=1921:=int_text_len_1921 hl;have hz:sizeLine=16777216:=aS9;exact ⟨i,rfl,hl,w _ F H (.refl s) (e5 ⟨by omega,aIZ i⟩) (by intro z;cases z)⟩
   . cases e
 . cases e
end
theorem wU{C:Cw}{X:Cx}{T:String}{φ}{x:Str}{e:Expr}{es:List Expr}{gs:Rho->aT}{p pos:Pos}(o:aZ X (.type T) φ)(hg:Gl X x)(hm:X.mg x=none)(hv:bootBuiltins x=some (.type T))(ha:PAv C X (e::es) gs)(hn:x ≠ "__name__")(hdb:(x==("__debug__" : Str))=false)(hst:∀ x∈e::es,cB x=true):PV C X (.Call (.Name x p) (e::es) [] pos) (λρ=>dB φ (gs ρ)):=by obtain ⟨r,h1,h2⟩:=o;exact PE.imp (vD h1 hg hm hv ha hn hdb (bO (hst e mcs)) (fQ _ _ λy hy=>hst y (mcm hy))) λσ H Q q=>v8 h2 q
section
variable {prog:Program}{w:World}{A:Around}{E:VSP}{s:Shared}
theorem aI1{l:Addr}{items:Array Value}{Q:List Value->Shared->Prop}(hA:A.handled=none)(ht:s.heap.IsList l items)(h:∀ h',Heap.ExtBut s.heap.objs.size s.heap h'->∀ tk,Q items.toList { s with heap:=h',toks:=tk }):wpAny (model prog w) A (unpackItems (.ref l) items.size none) Q E s:=by
 unfold unpackItems notIterableAtAll;refine aSY (aSY (aVU ht.typeIs PySem.F.slot_list_iter.lookup ?_));refine aSX ?_;dsimp only;rw[if_neg aS8];refine aSY (aUB (aS0 ht ?_));have hlt:l<s.heap.objs.size:=by obtain ⟨o,e,_⟩:=ht;exact aSB e
 have hne:l≠s.heap.objs.size:=aSE hlt;have keep:∀ b o,s.heap.get? b=some o->(s.heap.push { cls:=Value.type "list_iterator", data:=Data.fields #[Value.ref l,Value.int 0 0] }).get? b=some o:=λb o q=>hps q;have ht':(s.heap.push { cls:=Value.type "list_iterator", data:=Data.fields #[Value.ref l,Value.int 0 0] }).IsList l items:=by obtain ⟨o,e,c⟩:=ht;exact ⟨o,keep l o e,c⟩
 have hi':(s.heap.push { cls:=Value.type "list_iterator", data:=Data.fields #[Value.ref l,Value.int 0 0] }).IsListIter s.heap.objs.size l 0:=⟨_,aSA _ rfl,rfl,rfl⟩;refine aSY (aUB (PySem.W.kun_draw hne items.size 0 _ _ hi' ht' (by omega) λh' hi hsb=>?_))
 have ei:List.take items.size (List.drop 0 items.toList)=items.toList:=by rw[aVV];exact aVW (by simp)
 rw[ei];rw[if_neg (by simp)]
 have hl2:h'.IsList l items:=by obtain ⟨o,e,c⟩:=ht';exact ⟨o,by rw[hsb.2 l hne];exact e,c⟩
 rw[aVX] at hi;refine aSY (aUB ((Walks.list hA s.heap.objs.size l hne items).done _ _ _ ⟨hi,hl2⟩ λh2 tk k2=>?_));rw[if_neg (by simp)]
 refine aSX (h h2 (λb o hb e=>k2 b o (by simpa using hb) ?_) tk)
 show h'.get? b=some o;rw[hsb.2 b hb];exact keep b o e
theorem aI2{env:Env}{elts:List Expr}{k:Nat}{pos:Pos}{l:Addr}{items:Array Value}{Q:Unit->Shared->Prop}(hA:A.handled=none)(ht:s.heap.IsList l items)(hn:(assignEach elts env).length=items.size)(hst:(assignEach elts env).findIdx? (·.1)=none)(h:∀ h',Heap.ExtBut s.heap.objs.size s.heap h'->∀ tk,wpAny (model prog w) A (assignInOrder ((assignEach elts env).map (·.2)) items.toList) Q E { s with heap:=h',toks:=tk }):wpAny (model prog w) A (assign (.Tuple elts k pos) env (.ref l)) Q E s:=by rw[assign_Tuple];refine aSY (aVK ?_);unfold unpack;rw[hst,hn];exact aSY (aUB (aI1 hA ht h))
theorem aI3{t sl:Addr}{items:Array Value}{vl vu:Value}{lo hi:Option Int}{Q:VSP}(ht:IsTup s.heap t items)(hs:s.heap.IsSliceOf sl vl vu .none)(pl:IsPart vl lo)(pu:IsPart vu hi)(h0:HT.sIx items.size 0 lo=0)(h1:HT.sIx items.size items.size hi=items.size)(h:Q (.ref t) s):wpAny (model prog w) A (getItem (.ref t) (.ref sl)) Q E s:=by
 obtain ⟨os,hos,hcs,hds⟩:=id hs;have tS:s.TypeIs (.ref sl) "slice" := ⟨os,hos,hcs⟩;unfold getItem
 try with_reducible refine aUB ?_
 first | refine aSY (aSX ?_) | skip
 refine aSY (wpAny_sequenceKey ht.typeIs (by decide) (aSY (aUC (name:=Str.ofString "__getitem__") ht.typeIs aUD (aUE aUD ht.typeIs entry_tuple_getitem ?_ (args_tuple_getitem _ _)))))
 show wpAny _ _ (Builtin.Tuple.tupleItemsOf (.ref t) >>= _) _ _ s;refine aSY (tupleItemsOf_ ht (aSY (aUF tS ?_)));rw[if_pos (by decide)]
 refine aSY (HT.vG hs pl pu ?_);have yes:(((HT.sIx items.size 0 lo:Nat):Int)==0&&(1:Int)==1&&(HT.sIx items.size items.size hi-HT.sIx items.size 0 lo)==items.size)=true:=by rw[h0,h1];simp
 show wpAny _ _ (if (((HT.sIx items.size 0 lo:Nat):Int)==0&&(1:Int)==1&&(HT.sIx items.size items.size hi-HT.sIx items.size 0 lo)==items.size)=true then _ else _) _ _ s;rw[if_pos yes];unfold Builtin.Tuple.tupleIsExact;refine aSY (aSY (aUF ht.typeIs (aSX ?_)));rw[if_pos (by decide)]
 refine aSY (aVY ?_)
 first
  | exact aSX ⟨_,rfl,aSX h⟩
  | exact ⟨_,rfl,aSX h⟩
end
section
variable {X:Cx}{pos:Pos}
def rSlW(K:Fg):V->Option Int->Option Int->Hp->VK->Prop:=λx lo hi H Q=>∃ a xs,x=.ref a/\SqT K H a xs/\(HT.sIx xs.length 0 lo=0/\HT.sIx xs.length xs.length hi=xs.length)/\Q x H
theorem aI4:SlR X (rSlW X.K):=by
 intro aA s σ H x v vl vu lo hi sl Q I rx hs pl pu h;obtain ⟨a,xs,rfl,hx,hw,q⟩:=h;cases rx;obtain ⟨its,r,ht,hz⟩:=I.tuple hx;have hlen:its.toArray.size=xs.length:=by rw[aTA];exact r.length.symm
 exact ⟨"tuple", _,PyProof.Rows.slot_tuple_getitem.lookup,ht.typeIs,aI3 ht hs pl pu (by rw[hlen];exact hw.1) (by rw[hlen];exact hw.2) ⟨.ref a,H,I,rfl,q⟩⟩
def gSeq(K:Fg)(n:Nat)(t:TGs):TG:=λv σ H Q=>∃ a xs,v=.ref a/\(SqT K H a xs\/SqL K H a xs)/\xs.length=n/\t xs σ H Q
theorem aI5{es:List Expr}{k:Nat}{t:TGs}{n:Nat}(hc:X.calm=true)(h:PGs X es t)(hn:(assignEach es X.env).length=n)(hst:(assignEach es X.env).findIdx? (·.1)=none):PG X (.Tuple es k pos) (gSeq X.K n t):=by
 intro aA s σ H v u Q I r hw;obtain ⟨a,xs,e1,hq,hl,hw⟩:=hw;rcases hq with hq | hq
 . exact aDY hc h hn hst aA s σ H v u Q I r ⟨a,xs,e1,hq,hl,hw⟩
 . subst e1;cases r;obtain ⟨its,rv,ht,hz⟩:=I.list hq;refine aI2 (I.ok.hd hc) ht.isList (by simp[hn,<- hl,rv.length]) hst λh' hx tk=>?_
   have I1:Inv X aA σ H { s with heap:=h',toks:=tk }:=I.kept (t':=tk) λb o e=>hx b o (aSE (aSB e)) e
   exact h aA _ σ H xs _ Q I1 (by simpa using rv) hw
end
inductive Tg where
 | nm (i:Nat) | tp (ts:List Tg)
mutual
def aI:Tg->D->Rho->Option Rho
 | .nm i,d,ρ=>some (ρ.set i (some (false,d)))
 | .tp ts,d,ρ=>match d with
  | .tup ds=>dJ ts ds ρ
  | .lst ds=>dJ ts ds ρ
  | _=>none
def dJ:List Tg->List D->Rho->Option Rho
 | [],ds,ρ=>if ds.isEmpty then some ρ else none
 | t::ts,ds,ρ=>match ds with
  | d::ds=>(match aI t d ρ with | some ρ1=>dJ ts ds ρ1 | none=>none)
  | []=>none
end
mutual
def eQ:Tg->List Nat
 | .nm i=>[i]
 | .tp ts=>nV ts
def nV:List Tg->List Nat
 | []=>[]
 | t::ts=>eQ t++nV ts
end
mutual
def gOf(K:Fg):Tg->TG
 | .nm i=>gG i
 | .tp ts=>gSeq K ts.length (iG K ts)
def iG(K:Fg):List Tg->TGs
 | []=>gNil
 | t::ts=>uY (gOf K t) (iG K ts)
end
def PGw(X:Cx)(tg:Expr)(t:Tg):Prop:=PG X tg (gOf X.K t)
def i9(X:Cx)(tgs:List Expr)(ts:List Tg):Prop:=PGs X tgs (iG X.K ts)
def j0:Expr->Bool | .Starred ..=>false | _=>true
theorem wV{e:Expr}{es:List Expr}{env:Env}(h:j0 e=true):assignEach (e::es) env=(false,assign e env)::assignEach es env:=by cases e <;> first | rfl | cases h
theorem qY:∀ {ts:List Tg} {ds:List D} {ρ ρ':Rho},dJ ts ds ρ=some ρ'->ds.length=ts.length
 | [],ds,ρ,ρ',e=>by
  simp only[dJ] at e;split at e
  . rename_i h;have:ds=[]:=by simpa using h
    subst this;rfl
  . cases e
 | t::ts,ds,ρ,ρ',e=>by
  simp only[dJ] at e;split at e
  . split at e
    . rw[aUO,aUO,qY e]
    . cases e
  . cases e
mutual
theorem qZ{K:Fg}{F0 H0:Hp}:∀ (t:Tg) {F H:Hp} {σ:L2.St} {ρ ρ':Rho} {d:D} {v:V} {Q:L2.St->Hp->Prop},aY K F0 H0 F H σ ρ->aD K F d v->aI t d ρ=some ρ'->(∀ σ',aY K F0 H0 F H σ' ρ'->σ'.length=σ.length->(∀ j,j∉eQ t->σ'[j]? = σ[j]?)->Q σ' H)->gOf K t v σ H Q
 | .nm i,F,H,σ,ρ,ρ',d,v,Q,R,r,e,w=>by
  simp only[aI] at e;cases e;simp only[gOf];refine w _ (R.set (m:=false) (.refl R.sub) r (by intro z;cases z)) (by rw[aVA]) λj hj=>?_
  simp only[eQ,aVZ] at hj;rw[aSR (λz=>hj z.symm)]
 | .tp ts,F,H,σ,ρ,ρ',d,v,Q,R,r,e,w=>by
  simp only[aI] at e;split at e
  . rename_i ds;simp only[aD] at r;obtain ⟨a,xs,rfl,hq,rl⟩:=r;simp only[gOf];refine ⟨a,xs,rfl,.inl (aH.seqT R.sub hq),by rw[rl.length];exact qY e,rA ts R rl e ?_⟩
    simp only[eQ] at w;exact w
  . rename_i ds;simp only[aD] at r;obtain ⟨a,xs,rfl,hq,rl⟩:=r;simp only[gOf];refine ⟨a,xs,rfl,.inr (R.sub.seq hq),by rw[rl.length];exact qY e,rA ts R rl e ?_⟩
    simp only[eQ] at w;exact w
  . cases e
theorem rA{K:Fg}{F0 H0:Hp}:∀ (ts:List Tg) {F H:Hp} {σ:L2.St} {ρ ρ':Rho} {ds:List D} {vs:List V} {Q:L2.St->Hp->Prop},aY K F0 H0 F H σ ρ->aE K F ds vs->dJ ts ds ρ=some ρ'->(∀ σ',aY K F0 H0 F H σ' ρ'->σ'.length=σ.length->(∀ j,j∉nV ts->σ'[j]? = σ[j]?)->Q σ' H)->iG K ts vs σ H Q
 | [],F,H,σ,ρ,ρ',ds,vs,Q,R,r,e,w=>by
  simp only[dJ] at e;split at e
  . cases e;rename_i hd;have:ds=[]:=by simpa using hd
    subst this;simp only[aE] at r;simp only[iG];exact ⟨r,w σ R rfl λ_ _=>rfl⟩
  . cases e
 | t::ts,F,H,σ,ρ,ρ',ds,vs,Q,R,r,e,w=>by
  simp only[dJ] at e;split at e
  . rename_i d ds';split at e
    . rename_i ρ1 e1;simp only[aE] at r;obtain ⟨y,ys,rfl,r1,r2⟩:=r;simp only[iG];refine ⟨y,ys,rfl,qZ t R r1 e1 λσ1 R1 l1 k1=>rA ts R1 r2 e λσ2 R2 l2 k2=>w σ2 R2 (l2.trans l1) λj hj=>?_⟩;simp only[nV,aSM,not_or] at hj;rw[k2 j hj.2,k1 j hj.1]
    . cases e
  . cases e
end
section
variable {C:Cw}{X:Cx}{pos:Pos}
theorem wW{x:Str}{i:Nat}(hN:X.N.Nodup)(hi:X.N[i]? = some x)(hx:L2.Loc X.env.scope x)(hf:X.fn x=true\/X.env.scope.names.lookup x=some .local):PGw X (.Name x pos) (.nm i):=by unfold PGw;simp only[gOf];exact uX hN hi hx hf
theorem aI6:i9 X [] []:=by unfold i9;simp only[iG];exact aDW
theorem aI7{e:Expr}{es:List Expr}{t:Tg}{ts:List Tg}(h1:PGw X e t)(h2:i9 X es ts)(hs:j0 e=true):i9 X (e::es) (t::ts):=by unfold i9;simp only[iG];exact aDX h1 h2 (by rw[wV hs];rfl)
theorem aI8{es:List Expr}{env:Env}(hs:∀ e∈es,j0 e=true):(assignEach es env).length=es.length/\(assignEach es env).findIdx? (·.1)=none:=by
 induction es with
 | nil=>exact ⟨rfl,rfl⟩
 | cons e es ih =>
  obtain ⟨h1,h2⟩:=ih λx hx=>hs x (mcm hx);rw[wV (hs e mcs)];refine ⟨by rw[aUO,aUO,h1],?_⟩
  rw[List.findIdx?_cons];simp[h2]
theorem aI9{es:List Expr}{ts:List Tg}{k:Nat}(hc:X.calm=true)(h:i9 X es ts)(hs:∀ e∈es,j0 e=true)(hl:es.length=ts.length):PGw X (.Tuple es k pos) (.tp ts):=by have st:=aI8 (env:=X.env) hs;unfold PGw;simp only[gOf];exact aI5 (n:=ts.length) hc h (by rw[st.1,hl]) st.2
theorem aJA{tg:Expr}{t:Tg}(h:PGw X tg t):PGv C X tg (aI t) :=
 ⟨_,h,λF H σ ρ ρ' d v Q R r e w=>qZ t R r e λσ' R' _ _=>w σ' F H (aH.refl _) R'⟩
end
section
variable {C:Cw}{X:Cx}{e:Expr}{g:Rho->Res}{pos p:Pos}
theorem rB{t:Tg}{tgN:List Str}{aB:List Nat}{gi gt ge:Rho->Res}(hsl:∀ j∈eQ t,aB.length<=j){σ:L2.St}{H:Hp}{Q:VK}(q:tG (C.at X) (λρ=>bF (gi ρ) ρ aB tgN.length (aI t) gt ge) σ H Q):iB aB tgN.length (tIv (C.at X) gi) (gOf X.K t) (tT (C.nox.at X) gt) (tG (C.nox.at X) λρ=>bB (ge ρ)) σ H Q:=by
 rw[a8] at q;obtain ⟨ρ,F,RS,w⟩:=q;unfold iB;refine ⟨ρ,F,RS,?_⟩;cases er:gi ρ with
 | stuck=>rw[er] at w;exact w
 | exc c=>rw[er] at w;exact w
 | ok m d =>
  rw[er] at w;cases d with
  | lst ds =>
   unfold bF at w;rw[Res.thn_ok] at w;dsimp only at w;split at w
   . rename_i hsz;intro J F1 H1 s1 hJ Da hDa;cases et:dR (aI t) gt ge (bA aB ρ++List.replicate tgN.length none) ds with
     | none=>rw[et] at w;exact w.elim
     | some total =>
      rw[et] at w;have hD0:H Da=none:=s1.same.free hDa;have hF1:F1 Da=none:=s1.sub.free hDa;have R0:=wI aB tgN.length RS;refine ⟨λi m ys H'=>m=ds.length-i/\i<=ds.length/\H' Da=some (.lst ys)/\∃ F' zs,aJ F H F' H'/\aH F1 F'/\F' Da=none/\aE X.K F' zs ys/\zs.length<=i /\
       ∃ aU,dR (aI t) gt ge (bA aB ρ++List.replicate tgN.length none) (ds.drop i)=some aU/\total=zs++aU,
       ⟨ds.length,by simp,aTF _,a7,F1,[],s1.upd hD0 hF1,aH.refl _,hF1,aE.nil,aS1 _,total,by simpa using et,rfl⟩,?_⟩
      rintro i m ys H' ⟨rfl,hile,hD,F',zs,st,sF,hFD,rz,hzl,aU,ec,etot⟩;refine ⟨hD,?_⟩;by_cases hlt:i<ds.length
      . refine .inr ⟨hJ.go i H' (sF.trans st.sub) hlt,by rw[rz.length];omega,λv H2 y=>?_⟩
        obtain ⟨F2,d,ed,s2,rd⟩:=hJ.yld i F' H' v H2 sF st.sub hlt y;have hd:ds.drop i=d::ds.drop (i+1):=by rw[aVD hlt];rw[aU7 hlt] at ed;cases ed;rfl
        rw[hd] at ec;unfold dR at ec;have hD2:H2 Da=some (.lst ys):=s2.same _ _ hD;have hF2:F2 Da=none:=s2.new _ hFD (by rw[hD];exact λz=>nomatch z)
        cases eg:aI t d (bA aB ρ++List.replicate tgN.length none) with
        | none=>rw[eg] at ec;cases ec
        | some ρ1 =>
        rw[eg] at ec;dsimp only at ec;have R2:=(R0.step st).step s2;refine qZ t R2 rd eg λσ1 R1 len1 keep1=>?_;refine ⟨⟨len1.symm,λj u ej=>?_⟩,ρ1,F2,R1,?_⟩
        . by_cases hj:j∈eQ t
          . have:=hsl j hj;rw[aTT (by simpa[aX] using this),aTU] at ej
            split at ej <;> cases ej
          . rw[keep1 j hj];exact ej
        cases ett:gt ρ1 with
        | stuck=>rw[ett] at ec;cases ec
        | exc c=>rw[ett] at ec;cases ec
        | ok mt dt =>
         cases dt with
         | bl b =>
          rw[ett] at ec;intro F3 H3 s3;have hD3:H3 Da=some (.lst ys):=s3.same _ _ hD2;have hF3:F3 Da=none:=s3.new _ hF2 (by rw[hD2];exact λz=>nomatch z)
          cases b with
          | false=>rw[if_neg aS8];exact ⟨ds.length-(i+1),by omega,rfl,hlt,hD3,F3,zs,(st.trans s2).trans s3,(sF.trans s2.fsame).trans s3.fsame,hF3,rz.mono (s2.fsame.trans s3.fsame) _ _,Nat.le_succ_of_le hzl,aU,ec,etot⟩
          | true =>
           rw[if_pos rfl,a8];refine ⟨_,F3,R1.step s3,?_⟩;dsimp only at ec;cases ee:bB (ge ρ1) with
           | stuck=>rw[ee] at ec;cases ec
           | exc c=>rw[ee] at ec;cases ec
           | ok me ye =>
            rw[ee] at ec;dsimp only at ec;have hme:me=.fz:=by
             cases h:ge ρ1 with
             | ok m' d'=>rw[h] at ee;cases m' <;> cases ee <;> rfl
             | exc c=>rw[h] at ee;cases ee
             | stuck=>rw[h] at ee;cases ee
            subst hme;cases er2:dR (aI t) gt ge (bA aB ρ++List.replicate tgN.length none) (ds.drop (i+1)) with
            | none=>rw[er2] at ec;cases ec
            | some rest' =>
             rw[er2] at ec;cases ec;intro u F4 H4 s4 ru _;have hD4:H4 Da=some (.lst ys):=s4.same _ _ hD3;have hF4:F4 Da=none:=s4.new _ hF3 (by rw[hD3];exact λz=>nomatch z)
             refine ⟨hD4,ds.length-(i+1),by omega,rfl,hlt,a7,F4,zs++[ye],(((st.trans s2).trans s3).trans s4).upd hD0 hF4,((sF.trans s2.fsame).trans s3.fsame).trans s4.fsame,hF4,?_,by simp;omega,rest',er2,by rw[etot];simp⟩
             exact aE.append (rz.mono ((s2.fsame.trans s3.fsame).trans s4.fsame) _ _) (aE.cons ru aE.nil)
         | _=>rw[ett] at ec;cases ec
      . have ei:i=ds.length:=by omega
        subst ei;rw[aVE] at ec;cases ec;rw[aTO] at etot;subst etot;exact .inl ⟨hJ.stop _ H' (sF.trans st.sub) (aS1 _),w (.ref Da) F' H' st ⟨Da,rfl,hFD,ys,hD,rz⟩ λ_ a ea=>by cases ea;exact hD0⟩
   . exact w.elim
  | _=>exact w.elim
theorem aJB{aF elt tg:Expr}{t:Tg}{tgN:List Str}{ifs:List Expr}{scope:Scope}{aB:List Nat}{aC:List Str}{gi gt ge:Rho->Res}(hc:X.calm=true)(hi:PIv C X tg aF gi)(bE:∀ y∈scope.names,y.2 ≠ .cell)(bJ:scope.kind=.function)(bY:∀ y∈scope.names,y.2=.local->scope.names.lookup y.1=some .local)(bL:∀ y∈scope.names,y.2=.free->X.env.kindOf y.1=some .cell\/X.env.kindOf y.1=some .free)(bP:aC.map some=aB.map λi=>X.N[i]?)(cA:∀ y∈aC,(y,NameKind.free)∈scope.names)(bZ:∀ y∈aC,(relabel scope X.env).names.lookup y=some .cell\/(relabel scope X.env).names.lookup y=some .free)(hsl:∀ j∈eQ t,aB.length<=j)(hg:∀ cl A fp s3 H3,PGw (aV X scope (aC++tgN) cl A fp s3 H3) tg t)(hf:∀ cl A fp s3 H3,cS (aV X scope (aC++tgN) cl A fp s3 H3) ifs (tT (C.nox.at X) gt))(he:∀ cl A fp s3 H3,PV C.nox (aV X scope (aC++tgN) cl A fp s3 H3) elt ge)(hs:∀ x,foldedSetIterable aF X.env x=pure x:=by intro _;rfl):PV C X (.ListComp elt [⟨tg,aF,ifs,0⟩] scope pos) (λρ=>bF (gi ρ) ρ aB tgN.length (aI t) gt ge):=by
 have capLen:aC.length=aB.length:=by simpa using congrArg List.length bP
 refine PE.imp (wH (aC:=aC) (tgN:=tgN) (gt:=gOf X.K t) (tt:=tT (C.nox.at X) gt) (te:=tG (C.nox.at X) λρ=>bB (ge ρ)) hc hi bE bJ bY bL bP cA bZ
  hg hf (λcl A fp s3 H3=>fN (he cl A fp s3 H3)) hs) λσ H Q q=>rB hsl q
theorem aJC(fz:Bool){i:Nat}{x:Str}{pos' spos:Pos}{aF elt tg:Expr}{t:Tg}{tgN:List Str}{ifs:List Expr}{scope:Scope}{aB:List Nat}{aC:List Str}{gi gt ge:Rho->Res}(hc:X.calm=true)(hi:PIv C X tg aF gi)(bE:∀ y∈scope.names,y.2 ≠ .cell)(bJ:scope.kind=.function)(bY:∀ y∈scope.names,y.2=.local->scope.names.lookup y.1=some .local)(bL:∀ y∈scope.names,y.2=.free->X.env.kindOf y.1=some .cell\/X.env.kindOf y.1=some .free)(bP:aC.map some=aB.map λi=>X.N[i]?)(cA:∀ y∈aC,(y,NameKind.free)∈scope.names)(bZ:∀ y∈aC,(relabel scope X.env).names.lookup y=some .cell\/(relabel scope X.env).names.lookup y=some .free)(hsl:∀ j∈eQ t,aB.length<=j)(hg:∀ cl A fp s3 H3,PGw (aV X scope (aC++tgN) cl A fp s3 H3) tg t)(hf:∀ cl A fp s3 H3,cS (aV X scope (aC++tgN) cl A fp s3 H3) ifs (tT (C.nox.at X) gt))(he:∀ cl A fp s3 H3,PV C.nox (aV X scope (aC++tgN) cl A fp s3 H3) elt ge)(hN:X.N.Nodup)(hx:X.N[i]? = some x)(hk:X.env.scope.names.lookup x=some .local)(hsw:swapsWith (.ListComp elt [⟨tg,aF,ifs,0⟩] scope pos) (some (.Name x pos')) spos.line X.env=pure true)(hs:∀ x,foldedSetIterable aF X.env x=pure x:=by intro _;rfl):PSv C X (.Assign [.Name x pos'] (.ListComp elt [⟨tg,aF,ifs,0⟩] scope pos) spos) (λρ=>dY ρ i (if fz=true then bB (bF (gi ρ) ρ aB tgN.length (aI t) gt ge) else bF (gi ρ) ρ aB tgN.length (aI t) gt ge)):=by
 refine PS.imp (aH0 (aC:=aC) (tgN:=tgN) (gt:=gOf X.K t) (tt:=tT (C.nox.at X) gt) (te:=tG (C.nox.at X) λρ=>bB (ge ρ)) hc hi bE bJ bY bL bP cA bZ
  hg hf (λcl A fp s3 H3=>fN (he cl A fp s3 H3)) hN hx hk hsw hs) λE σ H q=>rB hsl ?_
 cases fz with
 | false=>exact lH q
 | true=>have q:=lH q;unfold jN at q;rw[a8] at q ⊢;obtain ⟨ρ,F,R,w⟩:=q;exact ⟨ρ,F,R,a6.frz w⟩
end
section
variable {C:Cw}{X:Cx}{e:Expr}{g:Rho->Res}{pos p:Pos}
end
inductive PVL(C:Cw)(X:Cx):List Expr->List (Rho->Res)->Prop where
 | nil:PVL C X [] []
 | cons {e:Expr} {g:Rho->Res} {es:List Expr} {gs:List (Rho->Res)} (h:PV C X e g) (r:PVL C X es gs):PVL C X (e::es) (g::gs)
inductive LtI(A:Around)(s:Shared):List Value->List Value->Bool->Prop where
 | nn:LtI A s [] [] false
 | nc {w:Value} {ws:List Value}:LtI A s [] (w::ws) true
 | cn {v:Value} {vs:List Value}:LtI A s (v::vs) [] false
 | eq {v w:Value} {vs ws:List Value} {b:Bool} (h:SeqAt.EqAt A s v w true) (r:LtI A s vs ws b):LtI A s (v::vs) (w::ws) b
 | ne {v w:Value} {vs ws:List Value} {b:Bool} (h:SeqAt.EqAt A s v w false) (l:∀ (prog:Program) (w':World) (E:VSP) (Q:VSP),Q (.bool b) s->wpAny (model prog w') A (richCompare .Lt v w) Q E s):LtI A s (v::vs) (w::ws) b
section
open PySem.SeqAt
open PySem.AutoSeq1 (wpAny_loadPart')
open PySem.MeetsSeq PySem.MeetsSeq2 PySem.MeetsSeq3
theorem aJD(l b:Addr)(items items2:Array Value)(n n2:Nat)(dd dd2:Option Addr)(sl sl2:Array (Option Value))(r:Bool):Meets (Builtin.«tuple.__lt__» ⟨[.ref l,.ref b],[]⟩) (λA R s=>s.heap.get? l=some { cls:=.type "tuple", dict:=dd,data:=.seq items n,slots:=sl }/\s.heap.get? b=some { cls:=.type "tuple", dict:=dd2,data:=.seq items2 n2,slots:=sl2 }/\LtI A.in1 s items.toList items2.toList r/\R (.ok (.ret (.bool r))) s) :=
 .of_wp λprog w A R s h=>by
  obtain ⟨hp,g,d,tk,os⟩:=s;obtain ⟨hl,hb,hi,h⟩:=h;have f2:=AutoSeq1.sub_tuple_tuple
  wp_walk using wpAny_loadPart' hl,wpAny_loadPart' hb,wpAny_forIn_list _ (λaU b s'=>b.1=none/\s'=⟨hp,g,d,tk,os⟩/\∃ (vs ws:List Value),aU=vs.zip ws /\
   LtI A.in1 ⟨hp,g,d,tk,os⟩ vs ws r/\vs.length+items2.size=ws.length+items.size) _
  case turn =>
   rintro ⟨y,x⟩ aU b s' ⟨hb',rfl,vs,ws,hz,hvi,hlen⟩;cases hvi with
   | nn=>rw[List.zip_nil_left] at hz;cases hz
   | nc=>rw[List.zip_nil_left] at hz;cases hz
   | cn=>rw[List.zip_nil_right] at hz;cases hz
   | eq he hr =>
    rw[aV0] at hz;injection hz with hyx hrest
    injection hyx with hy hx
    subst hy hx;simp only[aUO] at hlen;refine aSY (he prog w _ _ ?_)
    wp_walk
    exact ⟨rfl,rfl,_,_,hrest,hr,by omega⟩
   | ne he hr =>
    rw[aV0] at hz;injection hz with hyx hrest
    injection hyx with hy hx
    subst hy hx;refine aSY (he prog w _ _ ?_);have hri:=hr prog w
    wp_walk using hri
    exact ⟨_,rfl,by simpa using h⟩
  case fin =>
   rintro ⟨b1,b2⟩ s' ⟨hb',rfl,vs,ws,hz,hvi,hlen⟩;simp only at hb';subst hb';have hv:r=decide (items.size<items2.size):=by
    cases hvi with
    | nn=>simp only[aUP] at hlen;exact (aR6 (by omega)).symm
    | nc=>simp only[aUP,aUO] at hlen;exact (aUN (by omega)).symm
    | cn=>simp only[aUP,aUO] at hlen;exact (aR6 (by omega)).symm
    | eq he hr=>rw[aV0] at hz;cases hz
    | ne he hr=>rw[aV0] at hz;cases hz
   rw[hv] at h
   wp_walk
   exact ⟨_,rfl,by simpa[Builtin.Tuple.tupleCompareSizes] using h⟩
  case h=>exact ⟨rfl,rfl,items.toList,items2.toList,rfl,hi,by simp[Nat.add_comm]⟩
end
section
variable {prog:Program}{w:World}{A:Around}{E:VSP}{s:Shared}
theorem aJE{l b:Addr}{items items2:Array Value}{r:Bool}{Q:VSP}(hl:IsTup s.heap l items)(hb:IsTup s.heap b items2)(hi:LtI (A.in1) s items.toList items2.toList r)(hu:A.units<cLine)(h:Q (.bool r) s):wpAny (model prog w) A (compareOp .Lt (.ref l) (.ref b)) Q E s:=by
 obtain ⟨⟨cls,dd,data,sl⟩,ho,hc,n,hd⟩:=id hl;obtain ⟨⟨cls2,dd2,data2,sl2⟩,ho2,hc2,n2,hd2⟩:=id hb;simp only at hc hd hc2 hd2;subst hc hd hc2 hd2;exact richCompare_meets_room (op:=.Lt) ⟨_,ho,rfl⟩ ⟨_,ho2,rfl⟩ PySem.F.slot_tuple_lt PySem.F.entry_tuple_lt (PySem.F.args_tuple_lt_2 _ _) (aJD l b items items2 n n2 dd dd2 sl sl2 r)
  ⟨ho,ho2,hi,show Value.bool r≠Value.notImplemented/\Q (.bool r) s from ⟨(λx=>nomatch x),h⟩⟩ hu
end
section
variable {C:Cw}{X:Cx}
def ltS(x y:Str):Bool:=decide (x.cps.toList<y.cps.toList)
def rC:V->V->Option Bool
 | .int i,.int j=>some (decide (i<j))
 | .str i,.str j=>some (ltS i j)
 | _,_=>none
def j2:List V->List V->Option Bool
 | [],[]=>some false
 | [],_::_=>some true
 | _::_,[]=>some false
 | x::xs,y::ys=>if eqV x y=true then j2 xs ys else rC x y
theorem wX{A:Around}{s:Shared}{r:Bool}:∀ {xs ys:List V} {us vs:List Value},aM xs us->aM ys vs->xs.all hZ=true->ys.all hZ=true->j2 xs ys=some r->LtI A s us vs r
 | _,_,_,_,.nil,.nil,_,_,h=>by cases h;exact .nn
 | _,_,_,_,.nil,.cons _ _,_,_,h=>by cases h;exact .nc
 | _,_,_,_,.cons _ _,.nil,_,_,h=>by cases h;exact .cn
 | x::xs,y::ys,u::us,v::vs,.cons r1 t1,.cons r2 t2,f,g,h=>by
  rw[aVT,aUG] at f g;unfold j2 at h;cases e:eqV x y with
  | true=>rw[e,if_pos rfl] at h;exact .eq (by rw[<- e];exact vJ r1 r2 f.1 g.1) (wX t1 t2 f.2 g.2 h)
  | false =>
   rw[e,if_neg aS8] at h;refine .ne (by rw[<- e];exact vJ r1 r2 f.1 g.1) λprog w' E Q q=>?_
   unfold rC at h;split at h
   . cases h;obtain ⟨t,rfl⟩:=r1;obtain ⟨t',rfl⟩:=r2;exact lt_int q
   . cases h;obtain ⟨t,rfl⟩:=r1;obtain ⟨t',rfl⟩:=r2;exact lt_str q
   . cases h
theorem aJF(hu:X.A.units+64<cLine):OpR X (compareOp .Lt) (λx y H Q=>∃ l b xs ys r,x=.ref l/\y=.ref b/\SqT X.K H l xs/\SqT X.K H b ys/\xs.all hZ=true/\ys.all hZ=true/\j2 xs ys=some r/\Q (.bl r) H):=by intro aA s σ H x y v u Q I rx ry h;obtain ⟨l,b,xs,ys,r,rfl,rfl,hl,hb,f,g,e,q⟩:=h;cases rx;cases ry;obtain ⟨us,r1,p1,_⟩:=I.tuple hl;obtain ⟨vs,r2,p2,_⟩:=I.tuple hb;exact aJE p1 p2 (by simpa using wX r1 r2 f g e) (by omega) ⟨.bl r,H,I,rfl,q⟩
def ltD1:D->D->Option Bool
 | .int i,.int j=>some (decide (i<j))
 | .str i,.str j=>some (ltS i j)
 | _,_=>none
def ltL:List D->List D->Option Bool
 | [],[]=>some false
 | [],_::_=>some true
 | _::_,[]=>some false
 | x::xs,y::ys=>if eqD x y=true then ltL xs ys else ltD1 x y
theorem wY:∀ {xs ys:List D},xs.all fR=true->ys.all fR=true->j2 (xs.map vOf) (ys.map vOf)=ltL xs ys
 | [],[],_,_=>rfl
 | [],_::_,_,_=>rfl
 | _::_,[],_,_=>rfl
 | x::xs,y::ys,f,g=>by rw[aVT,aUG] at f g;show (if eqV (vOf x) (vOf y)=true then j2 (xs.map vOf) (ys.map vOf) else rC (vOf x) (vOf y))=if eqD x y=true then ltL xs ys else ltD1 x y;rw[aIV f.1 g.1,wY f.2 g.2];congr 1;cases x <;> cases y <;> first | rfl | (cases f.1;done) | (cases g.1;done)
def ltF:Md->D->Md->D->Option (Md×D):=λ_ x _ y=>match x,y with
 | .str i,.str j=>some (.fz,.bl (ltS i j))
 | .tup xs,.tup ys=>if (xs.all fR&&ys.all fR)=true then (ltL xs ys).map λb=>(.fz,.bl b) else none
 | _,_=>none
theorem aJG(hu:X.A.units+64<cLine):OpD C X (compareOp .Lt) ltF:=by
 refine ⟨_,aEK.or (aJF hu),λF H m x n y v u k d Q s rx ry e w=>?_⟩;unfold ltF at e;split at e
 . rename_i i j;cases e;obtain ⟨rfl,_⟩:=rx.str;obtain ⟨rfl,_⟩:=ry.str;exact .inl ⟨i,j,rfl,rfl,w _ F H (.refl s) (cK _) (by intro z;cases z)⟩
 . rename_i xs ys;split at e
   . rename_i hf;rw[aUG] at hf;obtain ⟨a,us,rfl,q1,r1⟩:=rx.seqT s;obtain ⟨b,vs,rfl,q2,r2⟩:=ry.seqT s;have e1:=qT hf.1 r1;have e2:=qT hf.2 r2;subst e1;subst e2;cases el:ltL xs ys with
     | none=>rw[el] at e;cases e
     | some r=>rw[el] at e;cases e;exact .inr ⟨a,b,_,_,r,rfl,rfl,q1,q2,qU hf.1,qU hf.2,by rw[wY hf.1 hf.2];exact el,w _ F H (.refl s) (cK _) (by intro z;cases z)⟩
   . cases e
 . cases e
theorem aJH:IsB ltF:=λm x n y k d e=>by
 unfold ltF at e;split at e
 . cases e;exact ⟨_,rfl,rfl⟩
 . split at e
   . rename_i xs ys _;cases el:ltL xs ys with
     | none=>rw[el] at e;cases e
     | some r=>rw[el] at e;cases e;exact ⟨_,rfl,rfl⟩
   . cases e
 . cases e
def j3:List (Md×D)->Option (Md×D):=λxs=>match xs with
 | [(_,.str z)]=>if z.length<=640 then (PySem.intText? z).map λn=>(.fz,.int n) else none
 | _=>qV xs
theorem aJI:aZ X (.type "int") j3:=by
 obtain ⟨r,h1,h2⟩:=aIY (X:=X);refine ⟨λxs H Q=>r xs H Q\/∃ z n,xs=[.str z]/\z.length<=640/\PySem.intText? z=some n/\Q (.int n) H,?_,λF H xs vs k d Q s rx e w=>?_⟩
 . intro aA s σ H xs us Q I rr h;rcases h with h | ⟨z,n,rfl,hl,hn,q⟩
   . exact h1 aA s σ H xs us Q I rr h
   . obtain ⟨u,rfl,t,rfl⟩:=cH rr;exact PySem.W.KIN.call_text hn hl ⟨.int n,H,I.tok _,⟨_,rfl⟩,q⟩
 . unfold j3 at e;split at e
   . rename_i m z;split at e
     . rename_i hl;cases en:PySem.intText? z with
       | none=>rw[en] at e;cases e
       | some n=>rw[en] at e;cases e;obtain ⟨v,rfl,r0⟩:=rx.one;obtain ⟨rfl,_⟩:=r0.str;exact .inr ⟨z,n,rfl,hl,en,w _ F H (.refl s) (cQ _) (by intro z;cases z)⟩
     . cases e
   . exact .inl (h2 F H xs vs k d Q s rx e w)
def nW:Md->D->Md->D->Option (Md×D):=λ_ x _ y=>match x,y with
 | .str z,.int n=>if (decide (n<1)&&decide (-1000<=n))=true then some (.fz,.str Str.empty) else none
 | _,_=>none
theorem aJJ:OpD C X (binaryOp .Mult) nW:=by
 refine ⟨λx y H Q=>∃ z n,x=.str z/\y=.int n/\n<1 /\ -1000<=n/\Q (.str Str.empty) H,?_,?_⟩
 . intro aA s σ H x y v u Q I rx ry h;obtain ⟨z,n,rfl,rfl,h1,h2,q⟩:=h;obtain ⟨t,rfl⟩:=rx;obtain ⟨t',rfl⟩:=ry;exact PySem.P.mul_str_none h1 (by omega) ⟨.str Str.empty,H,I.tok _,⟨_,rfl⟩,q⟩
 . intro F H m x n y v u k d Q s rx ry e w;unfold nW at e;split at e
   . rename_i z i;obtain ⟨rfl,hz,hk⟩:=rx.str;cases ry.int;split at e
     . rename_i hc;simp only[aUG,aUU] at hc;cases e;exact ⟨z,i,rfl,rfl,hc.1,hc.2,w _ F H (.refl s) (e5 ⟨by decide +kernel,by decide +kernel⟩) (by intro z;cases z)⟩
     . cases e
   . cases e
end
section
open PySem.SeqAt
open PySem.AutoSeq1 (wpAny_loadPart')
open PySem.MeetsSeq PySem.MeetsSeq2 PySem.MeetsSeq3
variable {prog:Program}{w:World}{A:Around}{E:VSP}{s:Shared}
theorem aJK{it t:Addr}{i:Nat}{xs:Array Value}{x:Value}{Q:VSP}(hi:s.heap.IsTupleIter it t i)(ht:IsTup s.heap t xs)(hx:xs[i]? = some x)(q:∀ h',h'.IsTupleIter it t (i+1)->Heap.SameBut it s.heap h'->Q x { s with heap:=h' }):wpAny (model prog w) A (Builtin.SmallTypes.nextOf (.ref it)) Q E s:=by
 have ty:=hi.typeIs;obtain ⟨o,ho,hc,hd⟩:=hi;obtain ⟨p,hp,_,n,hs⟩:=ht
 delta Builtin.SmallTypes.nextOf
 apply aSY;apply aUC (name:=Str.ofString "__next__") ty aV1;refine aUE aV1 ty aV2 ?w (aV3 _)
 case w =>
  refine aSY (m:=field (.ref it) 0) (aT9 ho hd (x:=.ref t) rfl ?_);rw[show (Value.ref t==Value.none)=false from rfl,if_neg aS8]
  refine aSY (m:=field (.ref it) 1) (aT9 ho hd (x:=.int i 0) rfl ?_);apply aSY;apply aV4 hp hs;rw[aT6];simp only[hx];apply aSY;apply aV5 ho hd (by simp)
  refine aSX ⟨x,rfl,aSX (q _ ⟨_,aV6 _ ho (aV7 (aV8 hd _)),?_,?_⟩ (aV9 ..))⟩
  . rw[aWA,hc]
  . rw[aV8 hd];simp[rawInt]
theorem wZ{it t:Addr}{i:Nat}{xs:Array Value}{Q:VSP}(h0:A.handled=none)(hi:s.heap.IsTupleIter it t i)(ht:IsTup s.heap t xs)(hx:xs[i]? = none)(q:∀ h' e,Heap.ExtBut it s.heap h'->(∃ o,h'.get? e=some o/\o.cls=.type "StopIteration")->E (.ref e) { s with heap:=h' }):wpAny (model prog w) A (Builtin.SmallTypes.nextOf (.ref it)) Q E s:=by
 have ty:=hi.typeIs;obtain ⟨o,ho,hc,hd⟩:=hi;obtain ⟨p,hp,_,n,hs⟩:=ht
 delta Builtin.SmallTypes.nextOf
 apply aSY;apply aUC (name:=Str.ofString "__next__") ty aV1;refine aUE aV1 ty aV2 ?w (aV3 _)
 case w =>
  refine aSY (m:=field (.ref it) 0) (aT9 ho hd (x:=.ref t) rfl ?_);rw[show (Value.ref t==Value.none)=false from rfl,if_neg aS8]
  refine aSY (m:=field (.ref it) 1) (aT9 ho hd (x:=.int i 0) rfl ?_);apply aSY;apply aV4 hp hs;rw[aT6];simp only[hx];apply aSY;apply aVY;apply aSY;apply aV5 ho hd (by simp)
  refine aSY (m:=newExc (.type "StopIteration") []) ?_;simp only[newExc,newTuple];apply aSY;refine aUH ?_ (by size_fits)
  apply aSY (m:=firstArgMember _ _);refine aWB (a:=.none) ?_ ?_
  . first | rfl | (unfold firstArgMember;rfl)
  refine aUH (hd:=by size_fits) ?_
  simp only[raiseNew];apply aSY;apply wpAny_handled
  first | rw[show A.in1.handled=none from h0] | rw[h0]
  refine wpAny_throw ?_;exact q _ _ ((Heap.SameBut.extBut (aV9 ..)).push _ |>.push _) ⟨_,aSA _ rfl,rfl⟩
theorem w4{h h':Heap}{a:Addr}{xs:Array Value}(x:IsTup h a xs)(k:∀ o,h.get? a=some o->h'.get? a=some o):IsTup h' a xs:=by obtain ⟨o,ho,r⟩:=x;exact ⟨o,k o ho,r⟩
def tIt(l:Addr):Obj:={ cls:=.type "tuple_iterator", data:=.fields #[.ref l,.int 0 0] }
def zp2(h:Heap)(l m:Addr):Heap:=(h.push (tIt l)).push (tIt m)
def zp3(h:Heap)(l m:Addr):Heap:=(zp2 h l m).push { cls:=.type "tuple", data:=.seq #[.ref h.objs.size,.ref (h.push (tIt l)).objs.size] }
def zp4(h:Heap)(l m:Addr):Heap:=(zp3 h l m).push { cls:=.type "tuple", data:=.seq #[.none,.none] }
def zp5(h:Heap)(l m:Addr):Heap:=(zp4 h l m).push { cls:=.type "zip", data:=.fields #[.none,.bool false,.bool false,.ref (zp2 h l m).objs.size,.ref (zp3 h l m).objs.size] }
end
section
variable {X:Cx}{aA:LAO}{σ:L2.St}{H:Hp}{s:Shared}{h':Heap}
theorem aJL{t':Nat}{its:List Addr}{n:Addr}{xs:List V}(I:Inv X aA σ H s)(k:∀ b o,b∉its->s.heap.get? b=some o->h'.get? b=some o)(hf:∀ b∈its,dQ X aA H b)(hn:s.heap.objs.size<=n)(new:∃ us,aM xs us/\fH h' n us.toArray)(hz:xs.length<=sizeLine):Inv X aA σ (upd H n (.tup xs)) { s with heap:=h',toks:=t' }:=by
 have fr:H n=none:=I.hok.fresh hn;have lt:∀ {b o},s.heap.get? b=some o->b≠n:=λe z=>absurd (aSB e) (by rw[z];exact aVN.mpr hn)
 have nb:∀ {b u},H b=some u->b≠n:=λe z=>by rw[z,fr] at e;cases e
 have ni:∀ {b u},H b=some u->b∉its:=λe z=>by rw[(hf _ z).1] at e;cases e
 refine I.call (g':=s.gens) (d':=s.drawn) (ch:=its) ⟨λb o e _ _ hx=>k b o hx e,λb o e _ _ hx=>⟨o.slots,k b o hx e⟩,λb o e h0 _=>by rw[aN (lt e)];exact h0,λb o e hx=>⟨o,k b o hx e⟩,
  λb u e=>by rw[aN (nb e)];exact e,λb u v e=>by rw[aN (nb e)];exact e,λb u e=>⟨#[],by rw[aN (nb e),e];simp⟩⟩ (λb u e=>?_) I.bare λb hb=>?_
 . by_cases hb:b=n
   . subst hb;rw[a7] at e;cases e;exact ⟨hz,new⟩
   . rw[aN hb] at e;refine (I.hok b u e).stay (λc v hc q=>k c v ?_ q) (λc q=>?_) λc v q=>?_
     . rcases hc with z | z
       . rw[z];exact ni e
       . exact ni z
     . rw[aN (nb q)];exact q
     . rw[aN (nb q)];exact q
 . obtain ⟨f0,f1,f2,f3,f4,f5⟩:=hf b hb;exact ⟨f3,f1,f4,f5⟩
theorem aJM{t':Nat}{its:List Addr}(I:Inv X aA σ H s)(k:∀ b o,b∉its->s.heap.get? b=some o->h'.get? b=some o)(hf:∀ b∈its,dQ X aA H b):Inv X aA σ H { s with heap:=h',toks:=t' }:=by
 have ni:∀ {b u},H b=some u->b∉its:=λe z=>by rw[(hf _ z).1] at e;cases e
 refine I.call (g':=s.gens) (d':=s.drawn) (ch:=its) ⟨λb o e _ _ hx=>k b o hx e,λb o e _ _ hx=>⟨o.slots,k b o hx e⟩,λb o e h0 _=>h0,λb o e hx=>⟨o,k b o hx e⟩,
  λb u e=>e,λb u v e=>e,λb u e=>⟨#[],by rw[e];simp⟩⟩ (λb u e=>?_) I.bare λb hb=>?_
 . refine (I.hok b u e).stay (λc v hc q=>k c v ?_ q) (λ_ q=>q) λ_ _ q=>q;rcases hc with z | z
   . rw[z];exact ni e
   . exact ni z
 . obtain ⟨f0,f1,f2,f3,f4,f5⟩:=hf b hb;exact ⟨f3,f1,f4,f5⟩
end
section
variable {C:Cw}{X:Cx}{tg e:Expr}{g:Rho->Res}{gs:Rho->aT}{pos p:Pos}
theorem aJN{K:Fg}{F H:Hp}{m:Md}{ds:List D}{v:V}(h:Rp K F H m (.tup ds) v):∃ a xs,v=.ref a/\SqT K F a xs/\aE K F ds xs:=by
 cases m with
 | fz=>exact (show aD K F (.tup ds) v from h) |> λh=>by simp only[aD] at h;exact h
 | fr=>obtain ⟨_,_,_,q⟩:=h;exact q.elim
 | bo=>obtain ⟨_,_,_,q⟩:=h;exact q.elim
end
open PySem.AutoSeq1 (wpAny_loadPart')
theorem aJO{prog:Program}{w:World}{A:Around}(hh:A.handled=none)(it t:Addr)(hne:t≠it)(items:Array Value):Draws prog w A it [it,t] items.size (λi v=>items[i]? = some v) (λi h=>h.IsTupleIter it t i/\IsTup h t items) where
 live:=λ_ _ st=>let ⟨o,ho,_⟩:=st.1;⟨o,ho⟩
 frame:=λ_ _ _ st hk=>⟨st.1.at λo e=>hk it (by simp) o e,w4 st.2 λo e=>hk t (by simp) o e⟩
 item:=λi s Q E hi st hQ=>by
  refine aJK st.1 st.2 (x:=items[i]) (by simp[hi]) λh' hit' hs'=>?_
  exact hQ _ h' s.toks (by simp[hi]) ⟨hit',w4 st.2 λo e=>hs'.extBut _ o hne e⟩ hs'
 done:=λs Q E st hE=>wZ hh st.1 st.2 (by simp) hE
theorem aJP(l:Addr)(items:Array Value):Meets (Builtin.«enumerate.__new__» ⟨[.type "enumerate", .ref l],[]⟩) (λ_ R s=>s.heap.IsTuple l items/\R (.ok (.ret (.ref (s.heap.push { cls:=.type "tuple_iterator", data:=.fields #[.ref l,.int 0 0] }).objs.size))) { s with heap:=(s.heap.push { cls:=.type "tuple_iterator", data:=.fields #[.ref l,.int 0 0] }).push { cls:=.type "enumerate", data:=.fields #[.none,.bool false,.ref s.heap.objs.size,rawInt 0,.none,.none] } }) :=
 .of_wp λprog w A R s h=>by
  obtain ⟨hp,g,d,tk,os⟩:=s;obtain ⟨hL,h⟩:=h;have hsub:=sub_enumerate;have hL:Heap.IsTuple (Shared.heap ⟨hp,g,d,tk,os⟩) l items:=hL;obtain ⟨o,ho,hc,n,hd⟩:=id hL
  wp_walk using wpAny_loadPart' ho
  refine wpAny_stack_any λst=>aSX ?_;split
  . rename_i c _ _ _ _ _;cases (c==Value.type "enumerate")
    . wp_walk using wpAny_loadPart' ho,aS2 hL
      exact ⟨_,rfl,h⟩
    . wp_walk using wpAny_loadPart' ho,aS2 hL
      exact ⟨_,rfl,h⟩
  . wp_walk using wpAny_loadPart' ho,aS2 hL
    exact ⟨_,rfl,h⟩
section
variable {prog:Program}{w:World}{A:Around}{E:VSP}{s:Shared}
theorem aJQ{a:Addr}{us:Array Value}{Q:VSP}(ha:s.heap.IsTuple a us)(q:∀ g,IsEnum g (s.heap.objs.size+1) s.heap.objs.size 0 .none->g.IsTupleIter s.heap.objs.size a 0->(∀ c u,s.heap.get? c=some u->g.get? c=some u)->Q (.ref (s.heap.objs.size+1)) { s with heap:=g }):wpAny (model prog w) A (call (.type "enumerate") [.ref a]) Q E s:=by
 let i0:Obj:={ cls:=.type "tuple_iterator", data:=.fields #[.ref a,.int 0 0] }
 let e0:Obj:={ cls:=.type "enumerate", data:=.fields #[.none,.bool false,.ref s.heap.objs.size,rawInt 0,.none,.none] }
 have z1:(s.heap.push i0).objs.size=s.heap.objs.size+1:=aTD ..;have g1:((s.heap.push i0).push e0).get? (s.heap.objs.size+1)=some e0:=by rw[<- z1];exact aSA _ rfl
 have g0:((s.heap.push i0).push e0).get? s.heap.objs.size=some i0:=hps (aSA _ rfl);have up:∀ c u,s.heap.get? c=some u->((s.heap.push i0).push e0).get? c=some u:=λc u z=>hps (hps z);have fin:(∃ o,((s.heap.push i0).push e0).get? (s.heap.objs.size+1)=some o/\o.cls=.type "enumerate")/\Q (.ref (s.heap.objs.size+1)) { s with heap:=(s.heap.push i0).push e0 }:=⟨⟨e0,g1,rfl⟩,q _ g1 ⟨i0,g0,rfl,rfl⟩ up⟩
 rw[<- z1] at fin;exact callType_new F.called_enumerate (by decide) (F.typeCall_enumerate_1 _) (F.newCall_enumerate_1 _) (λo=>F.args_object_init_2 o _) F.entry_enumerate_new (aJP a us) ⟨ha,fin⟩
end
def Ite(Sq:Hp->List V->Prop):It :=
 ⟨fun i H => ∃ xs x, Sq H xs ∧ xs[i]? = some x,
  λi H v H'=>∃ p x,v=.ref p/\H p=none/\H'=upd H p (.tup [.int i,x])/\∀ xs,Sq H xs->xs[i]? = some x,
  λi H=>∃ xs,Sq H xs/\xs.length<=i⟩
section
variable {P:Program}{w:World}{K:Fg}{elts:List Expr}{cx:Nat}{pos:Pos}
theorem w6{Sq:Hp->List V->Prop}(e it l:Addr)(hei:e≠it)(hel:e≠l)(hli:l≠it)(It':Nat->Heap->Prop)(At:Heap->Array Value->Prop)(live:∀ i h,It' i h->∃ o,h.get? it=some o/\∀ v,o.data ≠ .cell v)(keep:∀ i h h',It' i h->(∀ o,h.get? it=some o->h'.get? it=some o)->It' i h')(dr:∀ A:Around,A.handled=none->∀ items:Array Value,Draws P w A it [it,l] items.size (λi v=>items[i]? = some v) (λi h=>It' i h/\At h items))(dn:∀ (A:Around) (s:Shared) (items:Array Value) (k:Nat) (Q E:VSP),A.handled=none->It' k s.heap->At s.heap items->items[k]? = none->(∀ h' x,Heap.ExtBut it s.heap h'->(∃ o,h'.get? x=some o/\o.cls=.type "StopIteration")->E (.ref x) { s with heap:=h' })->wpAny (model P w) A (Builtin.SmallTypes.nextOf (.ref it)) Q E s)(look:∀ (X:Cx) (aA:LAO) (s:Shared) (σ:L2.St) (H:Hp) (xs:List V),X.prog=P->X.w=w->X.K=K->Inv X aA σ H s->Sq H xs->∃ us,aM xs us/\At s.heap us.toArray)(inj:∀ (X:Cx) (aA:LAO) (s:Shared) (σ:L2.St) (H:Hp) (xs ys:List V),X.prog=P->X.w=w->X.K=K->Inv X aA σ H s->Sq H xs->Sq H ys->ys=xs):gH P w K (.Tuple elts cx pos) (Ite Sq) [e,it] e (λk h=>(∃ old,IsEnum h e it k old)/\It' k h) where
 mem:=by simp
 obj:=λk h st b hb=>by
  obtain ⟨⟨old,he⟩,hi⟩:=st;simp only[aSL,aWC,aWD] at hb;rcases hb with rfl | rfl
  . exact ⟨_,he,λv e=>by cases e⟩
  . obtain ⟨o,e,d⟩:=live k h hi;exact ⟨o,e,d⟩
 keep:=λk h h' st q=>by obtain ⟨⟨old,he⟩,hi⟩:=st;exact ⟨⟨old,q e (by simp) _ he⟩,keep k h h' hi λo e=>q it (by simp) o e⟩
 item:=by
  intro X hP hw hK hc k aA s σ H E I hf st hg;obtain ⟨⟨old,he⟩,hi⟩:=st;obtain ⟨xs,x,ql,hx⟩:=hg;obtain ⟨us,r1,p1⟩:=look X aA s σ H xs hP hw hK I ql;obtain ⟨u,hu,ru⟩:=r1.get hx;have hlt:k<us.toArray.size:=by rw[aTA];exact (aSO.mp hu).1
  refine wpAny_pyNext_enum_itemD (dr X.A.in1 (I.ok.hd hc) us.toArray) he ⟨hi,p1⟩ hlt hei (by simp[hei,hel]) λx' h' tk hx' a1 a2 a3 a4 a5=>?_
  have:x'=u:=by rw[aWE] at hx';rw[hu] at hx';exact (aR9 hx').symm
  subst this;refine ⟨_,rfl,wpAny_letOwnedTupleGo_enum (s:={ s with heap:=h',toks:=tk+1 }) a1 λh2 b1 b2=>?_⟩
  have en:s.heap.objs.size≠e:=λq=>absurd (aSB he) (by rw[<- q];exact aSD _)
  have up:∀ b o,b∉[e,it]->s.heap.get? b=some o->h2.get? b=some o:=λb o hb z=>by simp only[aSL,aWC,aWD,not_or] at hb;exact b2.extBut _ _ hb.1 (a5 b o hb.1 hb.2 z)
  have I2:=aJL (t':=tk+1) (xs:=[.int k,x]) I up hf (aS1 _) ⟨[.int k tk,x'],.cons ⟨tk,rfl⟩ (.cons ru .nil),⟨_,b2.extBut _ _ en a3,rfl,rfl,_,rfl⟩⟩ (show 2<=sizeLine by decide +kernel)
  refine ⟨.ref s.heap.objs.size,_,I2,rfl,⟨_,x,rfl,I.hok.fresh (aS1 _),rfl,λzs q=>by rw[inj X aA s σ H xs zs hP hw hK I ql q];exact hx⟩,?_,λb hb=>?_⟩
  . have ek:((k:Int)+1)=((k+1:Nat):Int):=by omega
    rw[ek] at b1;exact ⟨⟨x',b1⟩,keep _ _ _ a2.1 λo z=>b2.extBut _ o hei.symm z⟩
  . have hb0:=hb;obtain ⟨o,z⟩:∃ o,s.heap.get? b=some o:=by
      simp only[aSL,aWC,aWD] at hb;rcases hb with rfl | rfl
      . exact ⟨_,he⟩
      . obtain ⟨o,z,_⟩:=live _ _ hi;exact ⟨o,z⟩
    rw[aN λq=>absurd (aSB z) (by rw[q];exact aSD _)]
    exact (hf b hb0).1
 done:=by
  intro X hP hw hK hc k aA s σ H E I hf st hg;obtain ⟨⟨old,he⟩,hi⟩:=st;obtain ⟨xs,ql,hn⟩:=hg;obtain ⟨us,r1,p1⟩:=look X aA s σ H xs hP hw hK I ql;have e1:=r1.length;have te:s.TypeIs (.ref e) "enumerate" := ⟨_,he,rfl⟩
  delta pyNext
  apply aSY;apply aWF;apply aUC (name:=Str.ofString "__next__") te F.slot_enumerate_next;refine aUE F.slot_enumerate_next te F.entry_enumerate_next ?nx (F.args_enumerate_next_1 _);refine aSY (m:=field (.ref e) 2) (aT9 he rfl (x:=.ref it) rfl ?_);refine aSY (dn X.A.in1 s us.toArray k _ _ (I.ok.hd hc) hi p1 (by simp;omega) λh' x he' hx'=>?_)
  obtain ⟨o,ho,hc'⟩:=hx';refine aSY (aWG (T := "StopIteration") (b:=true) ⟨o,ho,hc'⟩ isSubtype_stop ?_);refine aSX ⟨rfl,aJM (t':=s.toks) I (λb o hb z=>he' b o (by
   simp only[aSL,aWC,aWD,not_or] at hb;exact hb.2) z) hf⟩
 self:=λ_ _ _ _ _ st h=>by obtain ⟨⟨old,he⟩,_⟩:=st;exact aWH he h
theorem aJR(e it l:Addr)(hei:e≠it)(hel:e≠l)(hli:l≠it):gH P w K (.Tuple elts cx pos) (Ite λH=>SqL K H l) [e,it] e (λk h=>(∃ old,IsEnum h e it k old)/\h.IsListIter it l k) :=
 w6 e it l hei hel hli (fun k h => h.IsListIter it l k) (fun h xs => h.IsList l xs) (fun i h st => by
     obtain ⟨o,e,_,d⟩:=st;exact ⟨o,e,λv q=>by rw[d] at q;cases q⟩) (λi h h' st k=>st.at k) (λA hA items=>Draws.list hA it l hli items)
  (λA s items k Q E hA st ha hx q=>wpAny_nextOf_list_end hA st ha hx q)
  (λX aA s σ H xs hP hw hK I q=>by
   subst hK;obtain ⟨us,r,p,_⟩:=I.list q;exact ⟨us,r,p.isList⟩)
  (λX aA s σ H xs ys hP hw hK I q q'=>by subst hK;exact I.list_inj q' q)
theorem aJS(e it l:Addr)(hei:e≠it)(hel:e≠l)(hli:l≠it):gH P w K (.Tuple elts cx pos) (Ite λH=>SqT K H l) [e,it] e (λk h=>(∃ old,IsEnum h e it k old)/\h.IsTupleIter it l k) :=
 w6 e it l hei hel hli (fun k h => h.IsTupleIter it l k) (fun h xs => IsTup h l xs) (fun i h st => by
     obtain ⟨o,e,_,d⟩:=st;exact ⟨o,e,λv q=>by rw[d] at q;cases q⟩) (λi h h' st k=>st.at k) (λA hA items=>aJO hA it l hli items)
  (λA s items k Q E hA st ha hx q=>wZ hA st ha hx q)
  (λX aA s σ H xs hP hw hK I q=>by
   subst hK;obtain ⟨us,r,p,_⟩:=I.tuple q;exact ⟨us,r,p⟩)
  (λX aA s σ H xs ys hP hw hK I q q'=>by subst hK;exact I.tuple_inj q' q)
end
section
variable {C:Cw}{X:Cx}{tg e:Expr}{g:Rho->Res}{gs:Rho->aT}{pos p:Pos}
theorem aJT:bootBuiltins ("enumerate" : Str)=some (.type "enumerate"):=by first | rfl | decide +kernel | kernel_rfl
def w8(K:Fg)(ta:TA):TI:=λσ H R=>ta σ H λvs H1=>∃ a xs,vs=[.ref a]/\((SqL K H1 a xs/\R (Ite λH=>SqL K H a) H1)\/(SqT K H1 a xs/\R (Ite λH=>SqT K H a) H1))
theorem aJU{a:Expr}{ta:TA}{elts:List Expr}{cx}{pp:Pos}(hg:Gl X "enumerate")(hm:X.mg "enumerate" = none)(ha:PA X [a] ta)(hs:starEach [a] X.env=[(false,eval a X.env)]:=by rfl):PI X (.Tuple elts cx pp) (.Call (.Name "enumerate" p) [a] [] pos) (w8 X.K ta):=by
 intro aA s σ H R I h;refine Call_ (kW I hg hm aJT (aS3 (thn (ha pos aA s σ H _ I h) λus s1 q1=>?_) (by rw[hs];rfl) (by rfl)))
 obtain ⟨vs,H1,I1,r1,l,xs,rfl,q⟩:=q1;cases r1 with
 | cons r rr =>
  cases rr;cases r;have fb:∀ b:Addr,s1.heap.objs.size<=b->dQ X aA H1 b:=λb hb=>I1.fpOk hb (I1.hok.fresh hb);have fin:∀ b:Addr,b∈[s1.heap.objs.size+1,s1.heap.objs.size]->dQ X aA H1 b:=λb hb=>by
   simp only[aSL,aWC,aWD] at hb;rcases hb with rfl | rfl
   . exact fb _ (aVS _)
   . exact fb _ (aS1 _)
  rcases q with ⟨ql,q⟩ | ⟨ql,q⟩
  . obtain ⟨ls,_,p1,_⟩:=I1.list ql;have ll:l<s1.heap.objs.size:=by obtain ⟨o,n,e,_⟩:=id p1;exact aSB e
    refine call_enumerate_list p1.isList λh' a1 a2 a3 a4=>aWH (s:={ s1 with heap:=h' }) a1 ?_
    exact ⟨_,[s1.heap.objs.size+1,s1.heap.objs.size],_,_,H1,rfl,I1.kept (t':=s1.toks) a4,aJR _ _ l (Nat.succ_ne_self _) (aSW (aVM ll)) (aSE ll),⟨⟨_,a1⟩,a2⟩,fin,q⟩
  . obtain ⟨ls,_,p1,_⟩:=I1.tuple ql;have ll:l<s1.heap.objs.size:=by obtain ⟨o,e,_⟩:=id p1;exact aSB e
    refine aJQ (show s1.heap.IsTuple l ls.toArray from p1) λh' a1 a2 a4=>aWH (s:={ s1 with heap:=h' }) a1 ?_
    exact ⟨_,[s1.heap.objs.size+1,s1.heap.objs.size],_,_,H1,rfl,I1.kept (t':=s1.toks) a4,aJS _ _ l (Nat.succ_ne_self _) (aSW (aVM ll)) (aSE ll),⟨⟨_,a1⟩,a2⟩,fin,q⟩
def cT:Nat->List D->List D
 | _,[]=>[]
 | i,d::ds=>.tup [.int i,d]::cT (i+1) ds
theorem nX:∀ {ds:List D} {i:Nat},(cT i ds).length=ds.length
 | [],_=>rfl
 | d::ds,i=>by simp only[cT,aUO,nX]
theorem xA:∀ {ds:List D} {j i:Nat} {d:D},ds[i]? = some d->(cT j ds)[i]? = some (.tup [.int ((j+i:Nat):Int),d])
 | [],_,_,_,h=>by simp at h
 | x::ds,j,0,d,h=>by simp at h;subst h;rfl
 | x::ds,j,i+1,d,h=>by
  have:=xA (ds:=ds) (j:=j+1) (i:=i) (by simpa using h)
  have e:j+1+i=j+(i+1):=by omega
  rw[e] at this;simpa[cT] using this
theorem xB{K:Fg}{F:Hp}{Sq:Hp->List V->Prop}{ds:List D}{xs:List V}(qa:∀ H,aH F H->Sq H xs)(ra:aE K F ds xs):jW K F (Ite Sq) (cT 0 ds) where
 go:=λi H s hi=>by
  rw[nX] at hi;have h1:i<xs.length:=by rw[ra.length];omega
  exact ⟨xs,xs[i],qa H s,by simp[h1]⟩
 stop:=λi H s hi=>by rw[nX] at hi;exact ⟨xs,qa H s,by rw[ra.length];omega⟩
 yld:=λi Fc H x H' s1 s2 hi y=>by rw[nX] at hi;obtain ⟨p,u,rfl,hp,rfl,hx⟩:=y;have ex:=hx xs (qa H (s1.trans s2));obtain ⟨u',e1,r1⟩:=ra.get' (aU7 hi);rw[ex] at e1;cases e1;refine ⟨_,_,xA (aU7 hi),aJ.laid (.tup [.int i,u]) s2 hp,?_⟩;refine aD.tup_of (s2.free hp) ?_;simp only[aE];exact ⟨.int i,[u],rfl,by simp only[aD,aVX],u,[],rfl,r1.mono s1 _ _,rfl⟩
def j4(r:aT):Res:=r.thn λxs=>match xs with
 | [(.fz,.lst ds)]=>.ok .fz (.lst (cT 0 ds))
 | [(.fz,.tup ds)]=>.ok .fz (.lst (cT 0 ds))
 | _=>.stuck
theorem aJV{a:Expr}{elts:List Expr}{cx}{pp:Pos}(hg:Gl X "enumerate")(hm:X.mg "enumerate" = none)(ha:PAv C X [a] gs)(hs:starEach [a] X.env=[(false,eval a X.env)]:=by rfl):PIv C X (.Tuple elts cx pp) (.Call (.Name "enumerate" p) [a] [] pos) (λρ=>j4 (gs ρ)):=by
 refine PI.imp (aJU hg hm ha hs) λσ H R q=>?_;obtain ⟨ρ,F,RS,w⟩:=q;dsimp only at w;unfold w8;refine ⟨ρ,F,RS,?_⟩;cases er:gs ρ with
 | stuck=>rw[er] at w;exact w
 | exc c=>rw[er] at w;exact w
 | ok xs =>
  rw[er] at w;intro vs F' H' st rp;unfold j4 at w;rw[aT.thn_ok] at w;split at w
  . rename_i ds;obtain ⟨v,rfl,r⟩:=rp.one;have r:aD X.K F' (.lst ds) v:=r;simp only[aD] at r;obtain ⟨a1,x1,rfl,q1,l1⟩:=r;exact ⟨a1,x1,rfl,.inl ⟨st.sub.seq q1,w _ F' H' st (xB (λH s=>s.seq q1) l1)⟩⟩
  . rename_i ds;obtain ⟨v,rfl,r⟩:=rp.one;have r:aD X.K F' (.tup ds) v:=r;simp only[aD] at r;obtain ⟨a1,x1,rfl,q1,l1⟩:=r;exact ⟨a1,x1,rfl,.inr ⟨aH.seqT st.sub q1,w _ F' H' st (xB (λH s=>aH.seqT s q1) l1)⟩⟩
  . exact w.elim
end
end D3
namespace D3
open PySem PySem.Spec PySem.Calls PyProof.Rows L2 PySem.W
section
variable {prog:Program}{w:World}{A:Around}{E:VSP}{s:Shared}{K:Fg}{x D:Addr}{ox:Obj}{od:Option Obj}
def XAt(h:Heap)(x:Addr)(ox:Obj)(D:Addr):Prop:=h.get? x=some ox/\ox.cls=.ref D
structure XCls(K:Fg)(D:Addr):Prop where
 ga:PySem.W.findIn K (.ref D) "__getattribute__" = some (some (.builtin "BaseException.__getattribute__"))
 gn:PySem.W.findIn K (.ref D) "__getattr__" = some none
 ca:PySem.W.findIn K (.ref D) "__class__" = some (some (.builtin "object.__class__"))
 bx:PySem.W.mroIn K D (.type "BaseException")=some true
 ob:PySem.W.mroIn K D (.type "object")=some true
 hn:PySem.W.specialIn K (.builtin "object.__class__") "__get__" = some (some (.builtin "getset_descriptor.__get__"))
 tk:PySem.W.takesIn K (.builtin "object.__class__")=some true
end
end D3
namespace D3
open PySem PySem.Spec PySem.Calls PyProof.Rows L2
structure Fly(P:Program)(w:World)(outer:List Env)(H:Hp)(s:Shared)(H1:Hp)(B hp:Heap):Prop where
 un:Un (frs outer) [] H H1 s.heap hp
 ok:HOk P w H1 hp
 kb:∀ b o,hp.get? b=some o->s.heap.get? b≠none->b∉frs outer->B.get? b=some o
 kh:∀ b u,H1 b=some u->∃ o,hp.get? b=some o/\B.get? b=some o
 fr:∀ b∈frs outer,H b=none/\∃ o,s.heap.get? b=some o/\∀ vs,o.data ≠ .fields vs
section
variable {P:Program}{w:World}{outer:List Env}{H H1:Hp}{s:Shared}{B hp h':Heap}
theorem gL{b:Addr}:b∉([]:List Addr):=by simp
theorem Fly.slots(f:Fly P w outer H s H1 B hp)(up:hp.UpToSlots h'){b:Addr}(hb:b∈frs outer):∃ o sl sl',s.heap.get? b=some o/\hp.get? b=some { o with slots:=sl }/\h'.get? b=some { o with slots:=sl' }:=by obtain ⟨hn,o,e,nf⟩:=f.fr b hb;obtain ⟨sl,e1⟩:=f.un.slot b o e hn hb gL;obtain ⟨sl',e2⟩:=up b _ e1 nf;exact ⟨o,sl,sl',e,e1,e2⟩
theorem Fly.on(f:Fly P w outer H s H1 B hp)(st:B.StaysIn h')(up:hp.UpToSlots h'):Fly P w outer H s H1 B h' where
 un:={
  keep:=λb o e n hb _=>st b o (f.kb b o (f.un.keep b o e n hb gL) (by rw[e];exact λz=>nomatch z) hb)
  slot:=λb o e n hb _=>by obtain ⟨o',sl,sl',e0,_,e2⟩:=f.slots up hb;rw[e] at e0;cases e0;exact ⟨sl',e2⟩
  free:=f.un.free
  there:=λb o e _=>by
   by_cases hb:b∈frs outer
   . obtain ⟨o',sl,sl',e0,_,e2⟩:=f.slots up hb;exact ⟨_,e2⟩
   . obtain ⟨o',e1⟩:=f.un.there b o e gL;exact ⟨o',st b o' (f.kb b o' e1 (by rw[e];exact λz=>nomatch z) hb)⟩
  tups:=f.un.tups
  frzs:=f.un.frzs
  tbls:=f.un.tbls }
 ok := fun a o e => (f.ok a o e).stay (fun b u hb q => by
     have:∃ u',H1 b=some u':=by
      rcases hb with rfl | hb
      . exact ⟨o,e⟩
      . exact ⟨_,hb⟩
     obtain ⟨u',eu⟩:=this;obtain ⟨o',e1,e2⟩:=f.kh b u' eu;rw[q] at e1;cases e1;exact st b u e2) (λ_ q=>q) λ_ _ q=>q
 kb:=λb o e ns hb=>by
  cases e0:s.heap.get? b with
  | none=>exact absurd e0 ns
  | some o0=>obtain ⟨o',e1⟩:=f.un.there b o0 e0 gL;have e2:=f.kb b o' e1 ns hb;have e3:=st b o' e2;rw[e] at e3;cases e3;exact e2
 kh:=λb u e=>by obtain ⟨o,_,e2⟩:=f.kh b u e;exact ⟨o,st b o e2,e2⟩
 fr:=f.fr
end
def CX1(P:Program)(w:World):CXT:=λouter H s E ev s'=>∃ (e C:Addr) (a0:Value) (H1:Hp) (B:Heap),
 ev=.ref e/\s'.os=s.os/\AllBare s'.gens/\Heap.FlyingW B outer e (.ref C) a0 s'.heap/\Fly P w outer H s H1 B s'.heap/\E (.ref C) none H1
section
variable {X:Cx}{aA:LAO}{σ:L2.St}{H H1:Hp}{s s':Shared}{B hp:Heap}{E:XK}
theorem aJW(I:Inv X aA σ H s):∀ b∈frs X.stack,H b=none/\∃ o,s.heap.get? b=some o/\∀ vs,o.data ≠ .fields vs:=λb hb =>
 ⟨I.stkFree b hb,(I.stack.mem hb).2⟩
theorem Fly.inv(I:Inv X aA σ H s)(f:Fly X.prog X.w X.stack H s H1 B s'.heap)(ho:s'.os=s.os)(hg:AllBare s'.gens):Inv X aA σ H1 s' :=
 Inv.call' (ch:=[]) I ho f.un f.ok hg (λb z=>absurd z gL)
theorem Fly.out(I:Inv X aA σ H s)(f:Fly X.prog X.w X.stack H s H1 B s'.heap)(ho:s'.os=s.os)(hg:AllBare s'.gens)(hx:X.ex=[])(hs:X.stack=X.env::X.outer)(hf:X.env.frame=some X.env.locals){h':Heap}(st:B.StaysIn h')(up:s'.heap.UpToSlots h'):Fly X.prog X.w X.outer X.H₀ X.s₀ H1 B h':=by
 have I1:=f.inv I ho hg;have f1:=f.on st up;have ub:=I1.base;rw[hx] at ub;have old:∀ b o,X.s₀.heap.get? b=some o->∃ o',s.heap.get? b=some o':=λb o e=>I.base.there b o e (by rw[hx];exact gL)
 have nl:∀ b o,X.s₀.heap.get? b=some o->b≠X.env.locals:=λb o e z=>absurd (aSB e) (by rw[z];exact aVN.mpr I.ok.above)
 have sub:∀ b,b∉frs X.outer->b≠X.env.locals->b∉frs X.stack:=λb h1 h2 z=>by
  rcases aSL.mp (I.stkSub b z) with q | q
  . exact h2 q
  . exact h1 q
 have sup:∀ b,b∈frs X.outer->b∈frs X.stack:=λb hb=>by rw[hs];unfold frs;rw[aSK,hf];exact mcm hb
 refine ⟨⟨λb o e n hb _=>?_,λb o e n hb _=>?_,ub.free,λb o e _=>?_,ub.tups,ub.frzs,ub.tbls⟩,f1.ok,λb o e ns hb=>?_,f1.kh,λb hb=>?_⟩
 . have e1:=ub.keep b o e n hb gL;obtain ⟨o',e0⟩:=old b o e;exact st b o (f.kb b o e1 (by rw[e0];exact λz=>nomatch z) (sub b hb (nl b o e)))
 . obtain ⟨sl,e1⟩:=ub.slot b o e n hb gL;obtain ⟨o',sl1,sl2,e0,e1',e2⟩:=f.slots up (sup b hb);have q:=aR9 (e1.symm.trans e1');refine ⟨sl2,?_⟩;rw[e2];obtain ⟨c1,d1,t1,l1⟩:=o;obtain ⟨c2,d2,t2,l2⟩:=o';simp only[Obj.mk.injEq] at q;obtain ⟨rfl,rfl,rfl,_⟩:=q;rfl
 . obtain ⟨o',e0⟩:=old b o e;exact f1.un.there b o' e0 gL
 . cases e0:X.s₀.heap.get? b with
   | none=>exact absurd e0 ns
   | some o0=>obtain ⟨o',e1⟩:=old b o0 e0;exact f1.kb b o e (by rw[e1];exact λz=>nomatch z) (sub b hb (nl b o0 e0))
 . exact ⟨I.ok.frf b hb,(I.ok.funs.mem hb).2⟩
def lO(h:Heap)(l:List Env):Heap:=PySem.W.hideAll h (frs l)
theorem Fly.raise(I:Inv X aA σ H s)(hx:X.ex=[])(hs:X.stack=X.env::X.outer)(hf:X.env.frame=some X.env.locals){h':Heap}(st:(lO s.heap X.stack).StaysIn h')(up:s.heap.UpToSlots h'):Fly X.prog X.w X.outer X.H₀ X.s₀ H (lO s.heap X.stack) h':=by
 have f:Fly X.prog X.w X.stack H s H (lO s.heap X.stack) s.heap :=
  ⟨Un.refl,I.hok,λb o e _ hb=>aSF _ e hb,λb u e=>by
   have hn:b∉frs X.stack:=λz=>by rw[I.stkFree b z] at e;cases e
   have:∃ o,s.heap.get? b=some o:=by
    have:=I.hok b u e;cases u with
    | lst xs=>obtain ⟨_,_,_,_,e⟩:=this;exact ⟨_,e⟩
    | tup xs=>obtain ⟨_,_,_,o,e,_⟩:=this;exact ⟨_,e⟩
    | dK kvs=>obtain ⟨_,_,_,_,o,_,_,e,_⟩:=this;exact ⟨_,e⟩
    | dT kvs=>obtain ⟨_,_,_,_,o,_,_,e,_⟩:=this;exact ⟨_,e⟩
    | set S n=>obtain ⟨o,_,_,_,e,_⟩:=this;exact ⟨_,e⟩
    | ins C dx fs=>obtain ⟨_,_,_,e,_⟩:=this;exact ⟨_,e⟩
    | own y=>obtain ⟨_,e⟩:=this;exact ⟨_,e⟩
    | xd fs=>obtain ⟨_,⟨_,_,_,e,_⟩,_⟩:=this;exact ⟨_,e⟩
    | rng lo hi=>obtain ⟨_,_,_,e⟩:=this;exact ⟨_,e⟩
    | frz ob u=>obtain ⟨e,_⟩:=this;exact ⟨_,e⟩
    | tbl ps=>exact ⟨_,this⟩
    | met f y=>exact ⟨_,this⟩
    | ext φ=>obtain ⟨_,⟨_,e⟩,_⟩:=this;exact ⟨_,e⟩
   obtain ⟨o,eo⟩:=this;exact ⟨o,eo,aSF _ eo hn⟩,aJW I⟩
 exact f.out I rfl I.bare hx hs hf st up
end
def vErr:List Value:=[.type "ValueError", .type "Exception", .type "BaseException", .type "object"]
def xC(K:Fg)(C:Addr):Prop:=PySem.W.excIn K C vErr "ValueError.__new__" = true
def RzOk(C:Cw)(X:Cx):Prop:=∀ (aA:LAO) (σ:L2.St) (H:Hp) (s:Shared) (c:Str) (Cc:Addr) (vs:List Value) (h':Heap) (e:Addr),Inv X aA σ H s->X.mg c=some (.ref Cc)->C.EE c σ H ->
 Heap.MadeExcOf s.heap h' e (.ref Cc) vs->X.xe (.ref e) { s with heap:=h' }
section
variable {C:Cw}{X:Cx}{e:Expr}{es:List Expr}{gs:Rho->aT}{x:Str}{np cpos pos:Pos}
structure FnCx(X:Cx):Prop where
 hx:X.ex=[]
 hs:X.stack=X.env::X.outer
 hf:X.env.frame=some X.env.locals
end
section
variable {P:Program}{w:World}{K:Fg}{mg:SOV}{base:Heap}{N:List Str}{aW:Str}{scope:Scope}{f:Addr}{cdv:Value}{A:Around}{outer:List Env}{s:Shared}{H:Hp}{E:XK}
theorem fnCx:FnCx (dX (CX1 P w) P w K mg base N aW scope f cdv A outer s H E):=⟨rfl,rfl,rfl⟩
def nY(mg:SOV)(E:XK):XE:=λc _ H'=>∀ u,mg c=some u->E u none H'
theorem aJX{C:Cw}(hE:C.EE=nY mg E):XOk (CX1 P w) C (dX (CX1 P w) P w K mg base N aW scope f cdv A outer s H E):=by intro aA σ H1 s1 ev s' I h;obtain ⟨e,Cc,a0,H2,B,rfl,ho,hg,fl,fy,c,hm,he⟩:=h;rw[hE] at he;have I0:=I.ok.frames;refine wpAny_leaves_onW I0 rfl fl λh' fl' up=>?_;exact ⟨e,Cc,a0,H2,B,rfl,ho.trans I.os,hg,fl',fy.out I ho hg rfl rfl rfl fl'.1 up,he _ hm⟩
theorem aJY{C:Cw}(hE:C.EE=nY mg E):RzOk C (dX (CX1 P w) P w K mg base N aW scope f cdv A outer s H E):=by
 intro aA σ H1 s1 c Cc vs h1 e I hm he made;rw[hE] at he;have I0:=I.ok.frames;have hin:∀ env∈(dX (CX1 P w) P w K mg base N aW scope f cdv A outer s H E).stack,∀ a,env.frame=some a->a∈frs (dX (CX1 P w) P w K mg base N aW scope f cdv A outer s H E).stack:=λenv he a ha=>aS4.mpr ⟨env,he,ha⟩;have FF:s1.heap.FunFrames (lO s1.heap (dX (CX1 P w) P w K mg base N aW scope f cdv A outer s H E).stack) _:=PySem.W.funFrames_hide I.stack hin;have st0:(lO s1.heap (dX (CX1 P w) P w K mg base N aW scope f cdv A outer s H E).stack).StaysIn s1.heap:=λb o q=>PySem.W.of_hideAll _ q;refine wpAny_leaves_madeW (s:={ s1 with heap:=h1 }) I0 rfl st0 FF made λh' t fl _ _ up=>?_
 have up0:s1.heap.UpToSlots h':=(Heap.UpToSlots.of_keeps made.keeps).trans up;exact ⟨e,Cc,.ref t,H1,_,rfl,I.os,I.bare,fl,Fly.raise I rfl rfl rfl fl.1 up0,he _ hm⟩
end
structure HX where
 cls:Str
 slot:Option Nat
 g:Rho->aK
def rD(K:Fg)(mg:SOV)(xt:Str->Str->Option Bool):Prop:=∀ c x b,xt c x=some b->∃ C C2,PySem.W.nsIn K mainGlobals c=some (some (.ref C))/\mg c=some (.ref C)/\mg x=some (.ref C2) /\
 PySem.W.mroIn K C2 (.type "BaseException")=some true/\PySem.W.typeIn K (.ref C2)=some (.type "type")/\PySem.W.mroIn K C (.ref C2)=some b
section
variable {X:Cx}{aA:LAO}{σ:L2.St}{H:Hp}{s:Shared}{e:Addr}
end
section
variable {C:Cw}{X:Cx}{aA:LAO}{σ:L2.St}{H H1:Hp}{s s0:Shared}{e Cc:Addr}{a0:Value}{B:Heap}
end
section
variable {C:Cw}{X:Cx}{aA:LAO}{σ:L2.St}{H:Hp}{s:Shared}{D:fJ}{hs:List ExceptHandler}{hx:List HX}{xt:Str->Str->Option Bool}
end
def nZ(mg:SOV)(n:Str)(cv:V):Prop:=(∃ C,mg n=some (.ref C)/\cv=.ref C)\/(mg n=none/\n ≠ "__name__" /\ ∃ T,bootBuiltins n=some (.type T)/\cv=.ty T)
def xD:V->Value | .ref a=>.ref a | .ty T=>.type T | _=>.none
def rE(K:Fg)(mg:SOV)(xis:Str->Str->Option Bool):Prop:=∀ c n b,xis c n=some b->∃ C cv,PySem.W.nsIn K mainGlobals c=some (some (.ref C))/\XCls K C/\nZ mg n cv/\PySem.W.kitOne K (.ref C) (xD cv)=some b
section
variable {C:Cw}{X:Cx}{e:Expr}{g:Rho->Res}{p q pos tp:Pos}{n:Str}{xis:Str->Str->Option Bool}
end
theorem aJZ{P:Program}{w:World}{K:Fg}{mg:SOV}{base:Heap}{x aW:Str}{st:Stmt}{f:Addr}{fd:FuncData}{N ps:List Str}{k:Nat}{g:Rho->aK}(F:Fun K x aW st f fd)(S:m4 N ps (eZ st))(hbody:∀ (C:Cw) (cdv:Value) (A:Around) (outer:List Env) (s:Shared) (H:Hp) (E:XK),C.EE=nY mg E->cP k (A.deeper (envOfC aW (eZ st) s.heap.objs.size f cdv))->PBv C (dX (CX1 P w) P w K mg base N aW (eZ st) f cdv A outer s H E) (jP st) g):dF P w K mg base (CX1 P w) (k+1) f fd ps (spV K mg ps.length (phi ps.length N.length g)):=by
 obtain ⟨oc,od,kV,doc,pm,an,cdv,ct,osl,rfl,lk,hcd⟩:=F.ex;refine fn_of lk hcd S (λvs H Q E h=>h.1) λA outer s H vs Q E hr h=>?_;obtain ⟨hl,F0,ds,sF,rl,h⟩:=h;have hl':ds.length=ps.length:=by rw[<- rl.length];exact hl
 let C:Cw:=⟨K,F0,H,nY mg E⟩
 refine ⟨_,hbody C cdv A outer s H E rfl hr,iE N.length ds,F0,aH8 sF rl,?_⟩;unfold phi at h;rw[if_pos hl'] at h;cases er:g (iE N.length ds) with
 | nx ρ=>rw[er] at h;exact λσ' F' H' _ R=>h.2 .non F' H' R.st vT (by intro z;cases z)
 | rt m d=>rw[er] at h;exact λv F' H' s rp fr=>h.2 v F' H' s rp fr
 | bk ρ=>rw[er] at h;exact h.elim
 | ct ρ=>rw[er] at h;exact h.elim
 | exc c ρ=>rw[er] at h;exact λσ' F' H' _ R u hu=>h F' H' u R.st hu
 | stuck=>rw[er] at h;exact h.elim
def fT(ρ:Rho)(i:Nat)(r:Res):aK:=match ρ[i]? with
 | some (some (true,.lst ds))=>(bB r).thS ρ λm d=>match m with | .fz=>if ds.length<sizeLine then .nx (ρ.set i (some (true,.lst (ds++[d])))) else .stuck | _=>.stuck
 | _=>.stuck
theorem aJ0{r:Res}{m:Md}{d:D}(h:bB r=.ok m d):m=.fz:=by
 cases r with
 | ok m' d'=>cases m' <;> cases h <;> rfl
 | exc c=>cases h
 | stuck=>cases h
section
variable {C:Cw}{X:Cx}{e:Expr}{g:Rho->Res}{x:Str}{p ap cp pos:Pos}
theorem aJ1(i:Nat)(hv:PE X (.Name x p) (dE i))(he:PV C X e g)(hs:cB e=true)(hline:ap.endLine=cp.line):PSv C X (.Expr (.Call (.Attribute (.Name x p) "append" ap) [e] [] cp) pos) (λρ=>fT ρ i (g ρ)):=by
 have h1 := qF (X := X) (o := .Name x p) (e := e) (es := []) (apos := ap) (cpos := cp) PySem.F.plainAttrs_list PySem.F.slot_list_append PySem.F.type_list_append nI hv (hX (fN he) iW (bO hs)) (i8 rfl) (by
     rw[iF _ _ (λy hy=>by simp only[aSL,aWC,aWD] at hy;subst hy;exact hs)];rfl) (aTC.mpr hline) (bO hs) rfl
 refine PS.imp (uV h1) λE σ H q=>?_;obtain ⟨ρ,F,R,w⟩:=q;dsimp only at w;unfold pY tBM;cases e0:ρ[i]? with
 | none=>unfold fT at w;rw[e0] at w;exact w.elim
 | some o =>
  cases o with
  | none=>unfold fT at w;rw[e0] at w;exact w.elim
  | some bd =>
   obtain ⟨b,d0⟩:=bd;cases b with
   | false=>unfold fT at w;rw[e0] at w;exact w.elim
   | true =>
    cases d0 with
    | lst ds =>
     unfold fT at w;rw[e0] at w;dsimp only at w;obtain ⟨v0,ev0,rp0,hn0⟩:=R.slot i true _ e0;obtain ⟨a,ea,hfa,xs,hh,rl⟩:=rp0;subst ea;refine ⟨.ref a,ev0,.inl ⟨rfl,xs,SqL.of hh⟩,?_⟩;unfold fK;refine jU R w λm d v F' H' w' s R' rp fr=>?_;cases m with
     | fr=>exact (show False from w').elim
     | bo=>exact (show False from w').elim
     | fz =>
     dsimp only at w';split at w'
     . rename_i hl;have hh':H' a=some (.lst xs):=s.same _ _ hh;refine ⟨a,xs,v,rfl,rfl,hh',by rw[rl.length];exact hl,?_⟩
       exact w' σ F' _ (aH.refl _) (R'.mut e0 ev0 ⟨_,a7,aE.append (rl.mono s.fsame _ _) (aE.cons rp aE.nil)⟩)
     . exact w'.elim
    | _=>unfold fT at w;rw[e0] at w;exact w.elim
end
end D3
namespace D3
open PySem PySem.Spec PyProof.Rows L2
section
variable {prog:Program}{w:World}{A:Around}{R:Result->Shared->Prop}{J:Addr}{fp wr:List Addr}{n:Nat}{P:Nat->Value->Prop}{St:Nat->Heap->Prop}{ns:List Int}{S:Addr}
end
section
variable {prog:Program}{w:World}{A:Around}{E:VSP}{s:Shared}
end
def gM:List D->Option (List Int)
 | []=>some []
 | .int i::ds=>(gM ds).map (i :: ·)
 | _=>none
theorem xE{K:Fg}{F:Hp}:∀ {ds:List D} {xs:List V} {ns:List Int},aE K F ds xs->gM ds=some ns->xs=ns.map V.int
 | [],xs,ns,h,e=>by cases e;simp only[aE] at h;exact h
 | .int i::ds,xs,ns,h,e=>by
  simp only[aE] at h;obtain ⟨v,vs,rfl,r,t⟩:=h;cases q:gM ds with
  | none=>simp only[gM,q,Option.map_none] at e;cases e
  | some ms =>
   simp only[gM,q,aVC] at e;cases e;rw[xE t q];have:v=.int i:=by simpa only [aD] using r
   rw[this];rfl
 | .bl _::_,_,_,_,e=>by cases e
 | .non::_,_,_,_,e=>by cases e
 | .str _::_,_,_,_,e=>by cases e
 | .tup _::_,_,_,_,e=>by cases e
 | .lst _::_,_,_,_,e=>by cases e
 | .dct _::_,_,_,_,e=>by cases e
 | .ins _ _::_,_,_,_,e=>by cases e
 | .exn _::_,_,_,_,e=>by cases e
 | .set _::_,_,_,_,e=>by cases e
 | .ty _::_,_,_,_,e=>by cases e
section
variable {C:Cw}{X:Cx}{e:Expr}{g:Rho->Res}{p q kp pos:Pos}{j}
end
theorem aE.drop{K:Fg}{F:Hp}:∀ (n:Nat) {ds:List D} {xs:List V},aE K F ds xs->aE K F (ds.drop n) (xs.drop n)
 | 0,_,_,h=>h
 | n+1,[],xs,h=>by simp only[aE] at h;subst h;simp[aE]
 | n+1,d::ds,xs,h=>by simp only[aE] at h;obtain ⟨v,vs,rfl,_,t⟩:=h;exact aE.drop n t
theorem aE.take{K:Fg}{F:Hp}:∀ (n:Nat) {ds:List D} {xs:List V},aE K F ds xs->aE K F (ds.take n) (xs.take n)
 | 0,_,_,_=>by simp[aE]
 | n+1,[],xs,h=>by simp only[aE] at h;subst h;simp[aE]
 | n+1,d::ds,xs,h=>by simp only[aE] at h;obtain ⟨v,vs,rfl,r,t⟩:=h;simp only[List.take_succ_cons,aE];exact ⟨v,_,rfl,r,aE.take n t⟩
def fB(xs:List D)(lo hi:Option Int):List D:=(xs.drop (HT.sIx xs.length 0 lo)).take (HT.sIx xs.length xs.length hi-HT.sIx xs.length 0 lo)
theorem aE.cut{K:Fg}{F:Hp}{ds:List D}{xs:List V}(h:aE K F ds xs)(lo hi:Option Int):aE K F (fB ds lo hi) (gI xs lo hi):=by unfold fB gI;rw[h.length];exact (h.drop _).take _
def lP(n:Nat)(lo hi:Option Int):Bool:=HT.sIx n 0 lo==0&&HT.sIx n n hi==n
def slP(x:Res)(lo hi:Option (Rho->Res))(ρ:Rho):Res:=x.thn λm d=>match d with
 | .str z=>eC lo ρ λl=>eC hi ρ λh=>.ok .fz (.str (Txt.slice z l h))
 | .lst ds=>eC lo ρ λl=>eC hi ρ λh=>.ok .fr (.lst (fB ds l h))
 | .tup ds=>eC lo ρ λl=>eC hi ρ λh=>if (lP ds.length l h&&m != .fz)=true then .stuck else .ok .fz (.tup (fB ds l h))
 | _=>.stuck
section
variable {C:Cw}{X:Cx}{a:Expr}{ga:Rho->Res}{pos:Pos}
theorem aJ2{lo hi:Option Expr}{gl gh:Option (Rho->Res)}{p2:Pos}(ha:PV C X a ga)(hl:POv C X lo gl)(hh:POv C X hi gh):PV C X (.Subscript a (.Slice lo hi none p2) pos) (λρ=>slP (ga ρ) gl gh ρ):=by
 refine PE.imp (aFG (aG6.or (aFP.or (aFH.or aI4))) ha (vZ hl) (vZ hh)) λσ H Q q=>?_;unfold tSl;rw[a8] at q ⊢;obtain ⟨ρ,F,R,w⟩:=q
 try dsimp only at w
 refine ⟨ρ,F,R,?_⟩;cases er:ga ρ with
 | stuck=>rw[er] at w;exact w
 | exc c=>rw[er] at w;exact w
 | ok m d =>
  rw[er] at w;intro v F1 H1 s1 rp _;cases d with
  | str z=>obtain ⟨rfl,hz,hk⟩:=rp.str;have w1:a6 (C.at X) F1 H1 σ (eC gl ρ λl=>eC gh ρ λh=>.ok .fz (.str (Txt.slice z l h))) Q:=a6.step s1 w;refine jR (R.step s1) w1 λl F2 H2 s2 R2 w2=>jR R2 w2 λh F3 H3 s3 R3 w3=>.inl ?_;exact ⟨z,rfl,hz,w3 _ F3 H3 (.refl R3.sub) (e5 ⟨aSI (aU0 z _ _) hz,aG7 hk⟩) (by intro z;cases z)⟩
  | lst ds=>have w1:a6 (C.at X) F1 H1 σ (eC gl ρ λl=>eC gh ρ λh=>.ok .fr (.lst (fB ds l h))) Q:=a6.step s1 w;refine jR (R.step s1) w1 λl F2 H2 s2 R2 w2=>jR R2 w2 λh F3 H3 s3 R3 w3=>.inr (.inl ?_);obtain ⟨p,xs,rfl,hq,rl⟩:=((rp.step s2).step s3).seqL R3.sub;exact ⟨p,xs,rfl,hq,λp' hp'=>w3 (.ref p') F3 _ (aJ.fresh _ R3.sub hp') ⟨p',rfl,R3.sub.free hp',_,a7,rl.cut l h⟩ λ_ a ea=>by cases ea;exact hp'⟩
  | tup ds =>
   have w1:a6 (C.at X) F1 H1 σ (eC gl ρ λl=>eC gh ρ λh=>if (lP ds.length l h&&m != .fz)=true then .stuck else .ok .fz (.tup (fB ds l h))) Q:=a6.step s1 w;refine jR (R.step s1) w1 λl F2 H2 s2 R2 w2=>jR R2 w2 λh F3 H3 s3 R3 w3=>.inr (.inr ?_);obtain ⟨p,xs,rfl,hq,rl⟩:=((rp.step s2).step s3).seqT R3.sub;have lw:lP ds.length l h=true↔HT.sIx xs.length 0 l=0/\HT.sIx xs.length xs.length h=xs.length:=by rw[rl.length];unfold lP;simp
   cases hw:lP ds.length l h with
   | true =>
    cases m with
    | fz =>
     rw[hw,if_neg (by decide)] at w3
     have e:=lw.mp hw;have ec:fB ds l h=ds:=by unfold fB;rw[<- rl.length,e.1,e.2,rl.length,aVV,Nat.sub_zero];exact aWI
     rw[ec] at w3;exact .inr ⟨p,xs,rfl,hq,e,w3 (.ref p) F3 H3 (.refl R3.sub) ((rp.step s2).step s3) (by intro z;cases z)⟩
    | fr=>rw[hw,if_pos (by decide)] at w3;exact w3.elim
    | bo=>rw[hw,if_pos (by decide)] at w3;exact w3.elim
   | false =>
    rw[hw,if_neg (by simp)] at w3
    refine .inl ⟨p,xs,rfl,hq,λz=>?_,λp' hp'=>w3 (.ref p') _ _ (aJ.laid (.tup (gI xs l h)) R3.sub hp') (aD.tup_of (R3.sub.free hp') (rl.cut l h)) (by intro z;cases z)⟩
    rw[lw.mpr z] at hw;cases hw
  | _=>exact (show False from w).elim
def swD:Md->D->List (Md×D)->Option (Md×D):=λ_ x xs=>match x,xs with
 | .str z,[(_,.str y)]=>some (.fz,.bl (Txt.startswith z y))
 | _,_=>none
theorem aJ3:MtD X "str.startswith" swD:=by
 refine ⟨λv vs H Q=>∃ z y:Str,v=.str z/\vs=[.str y]/\Q (.bl (Txt.startswith z y)) H,?_,?_⟩
 . intro aA s σ H x xs v us Q I rx r h;obtain ⟨z,y,rfl,rfl,q⟩:=h;obtain ⟨t,rfl⟩:=rx;obtain ⟨u,rfl,t',rfl⟩:=cH r;exact SC.startswith ⟨.bl (Txt.startswith z y),H,I,rfl,q⟩
 . intro F H m x xs v vs k d Q s rx rl e w;unfold swD at e;split at e
   . rename_i z m' y;cases e;obtain ⟨rfl,_⟩:=rx.str;obtain ⟨u,rfl,r⟩:=rl.one;obtain ⟨rfl,_⟩:=r.str;exact ⟨z,y,rfl,rfl,w _ F H (.refl s) (cK _) (by intro z;cases z)⟩
   . cases e
def rpD:Md->D->List (Md×D)->Option (Md×D):=λ_ x xs=>match x,xs with
 | .str z,[(_,.str y)]=>some (.fz,.str (Txt.removeprefix z y))
 | _,_=>none
theorem aJ4{z y:Str}(h:PyData.strOk z=true):PyData.strOk (Txt.removeprefix z y)=true:=by
 rw[StrLaws.removeprefix_eq];split
 . unfold PyData.strOk at h ⊢;rw[aUX] at h ⊢;intro c hc;have:c∈z.cps.toList:=aWJ (aWK (by simpa using hc))
   exact h c (by simpa using this)
 . exact h
theorem aJ5:MtD X "str.removeprefix" rpD:=by
 refine ⟨λv vs H Q=>∃ z y:Str,v=.str z/\vs=[.str y]/\z.length<=sizeLine/\Q (.str (Txt.removeprefix z y)) H,?_,?_⟩
 . intro aA s σ H x xs v us Q I rx r h;obtain ⟨z,y,rfl,rfl,hz,q⟩:=h;obtain ⟨t,rfl⟩:=rx;obtain ⟨u,rfl,t',rfl⟩:=cH r;exact SC.removeprefix (λt' k=>⟨.str (Txt.removeprefix z y),H,I.tok _,⟨_,rfl⟩,q⟩) hz
 . intro F H m x xs v vs k d Q s rx rl e w;unfold rpD at e;split at e
   . rename_i z m' y;cases e;obtain ⟨rfl,hz,hk⟩:=rx.str;obtain ⟨u,rfl,r⟩:=rl.one;obtain ⟨rfl,_⟩:=r.str;exact ⟨z,y,rfl,rfl,hz,w _ F H (.refl s) (e5 ⟨aSI (len_removeprefix z y) hz,aJ4 hk⟩) (by intro z;cases z)⟩
   . cases e
end
section
variable {C:Cw}{X:Cx}{pos:Pos}
theorem aJ6:PV C X (.Dict [] [] pos) (λ_=>.ok .fr (.dct [])):=by refine PE.imp aF3 λσ H Q q=>?_;rw[a8] at q;obtain ⟨ρ,F,R,w⟩:=q;intro p hp;exact w (.ref p) F _ (aJ.fresh _ R.sub hp) ⟨p,rfl,R.sub.free hp,[],a7,by simp[aO]⟩ λ_ a ea=>by cases ea;exact hp
end
def dL(kvs:List (Key×D))(k:Key):Option D:=(kvs.find? λkv=>decide (kv.1=k)).map (·.2)
theorem aO.val{K:Fg}{F:Hp}:∀ {kvs:List (Key×D)} {xs:List (Key×V)} (k:Key),aO K F kvs xs->match dL kvs k with | some d=>∃ v,eB xs k=some v/\aD K F d v | none=>eB xs k=none
 | [],xs,k,h=>by simp only[aO] at h;subst h;rfl
 | (k',d)::kvs,xs,k,h=>by
  simp only[aO] at h;obtain ⟨y,ys,rfl,r,t⟩:=h;by_cases e:k'=k
  . have e1:dL ((k',d)::kvs) k=some d:=by simp[dL,aUL,e]
    rw[e1];exact ⟨y,nJ e,r⟩
  . have e1:dL ((k',d)::kvs) k=dL kvs k:=by simp[dL,aUL,e]
    rw[e1,nK (p:=(k',y)) e];exact aO.val k t
section
variable {X:Cx}
def rIxK:R2:=λx y H Q=>∃ a v,x=.ref a/\k7 H a y (some v)/\Q v H
theorem xF(hu:X.A.units+1<cLine):IxR X rIxK:=by
 intro value slice aA s σ H x y v u Q I rx ry h hsub;obtain ⟨a,w',rfl,g,q⟩:=h;cases (show v=Value.ref a from rx)
 have hT:s.TypeIs (.ref a) "dict" := aFZ I g;unfold subscriptTail;refine aSY ?_;rw[getitemInPython_of_ne hT.not_modules];refine aSY (aVU hT PySem.F.slot_dict_getitem.lookup ?_);have fin:wpAny (model X.prog X.w) X.A (subscripted slice false (.ref a) u) (λr s3=>wpAny (model X.prog X.w) X.A (letTemporaryGo value (.ref a) r >>= λ_=>pure r) (EP X aA σ Q) X.xe s3) X.xe s:=by rw[hsub];exact wpAny_operating (aFX hu I g ry λz s3 I3 rz=>aSY (wpAny_letTemporaryGo (aSX ⟨w',H,I3,rz,q⟩)))
 first
  | exact aSX (aSY fin)
  | exact aSY (aSX (aSY fin))
  | exact aSY fin
end
def ixK:Md->D->Md->D->Option (Md×D):=λ_ x _ y=>match x,lD y with
 | .dct kvs,some k=>(dL kvs k).map λd=>(.fz,d)
 | _,_=>none
theorem aJ7{K:Fg}{F H:Hp}{m n:Md}{kvs:List (Key×D)}{y:D}{k:Key}{v u:V}(s:aH F H)(rx:Rp K F H m (.dct kvs) v)(ry:Rp K F H n y u)(ek:lD y=some k):∃ a xs,v=.ref a/\H a=some (.dK xs)/\aO K F kvs xs/\k7 H a u (eB xs k):=by obtain ⟨a,xs,rfl,hh,rk⟩:=rx.dict s;exact ⟨a,xs,rfl,hh,rk,.inl ⟨xs,k,.inl hh,v7 ek ry,rfl⟩⟩
section
variable {C:Cw}{X:Cx}{a b:Expr}{ga gb:Rho->Res}{pos:Pos}
def n5:List (Md×D)->Option (Md×D)
 | [(_,.dct kvs)]=>some (.fr,.dct kvs)
 | _=>none
theorem aJ8:aZ X (.type "dict") n5:=by
 refine ⟨λvs H Q=>∃ a xs,vs=[.ref a]/\H a=some (.dK xs)/\∀ p,H p=none->Q (.ref p) (upd H p (.dK xs)),?_,?_⟩
 . intro aA s σ H vs us Q I r h;obtain ⟨a,xs,rfl,hh,q⟩:=h;obtain ⟨u,rfl,ru⟩:=cH r;cases (show u=Value.ref a from ru)
   exact aF4 I (.inl hh) λp s' hp I'=>⟨.ref p,_,I',rfl,q p hp⟩
 . intro F H xs vs k d Q s rx e w;unfold n5 at e;split at e
   . rename_i m kvs;cases e;obtain ⟨v,rfl,r⟩:=rx.one;obtain ⟨a,ys,rfl,hh,rk⟩:=r.dict s;exact ⟨a,ys,rfl,hh,λp hp=>w (.ref p) F _ (aJ.fresh _ s hp) ⟨p,rfl,s.free hp,ys,a7,rk⟩ λ_ b eb=>by cases eb;exact hp⟩
   . cases e
end
def fC(kvs:List (Key×D))(k:Key)(d:D):List (Key×D):=if (kvs.any λkv=>decide (kv.1=k))=true then kvs.map (λkv=>if kv.1=k then (kv.1,d) else kv) else kvs++[(k,d)]
theorem aO.keys{K:Fg}{F:Hp}:∀ {kvs:List (Key×D)} {xs:List (Key×V)},aO K F kvs xs->xs.map (·.1)=kvs.map (·.1)
 | [],xs,h=>by simp only[aO] at h;subst h;rfl
 | (k,d)::kvs,xs,h=>by simp only[aO] at h;obtain ⟨y,ys,rfl,_,t⟩:=h;simp[aO.keys t]
theorem aO.snoc{K:Fg}{F:Hp}{k:Key}{d:D}{v:V}(r:aD K F d v):∀ {kvs:List (Key×D)} {xs:List (Key×V)},aO K F kvs xs->aO K F (kvs++[(k,d)]) (xs++[(k,v)])
 | [],xs,h=>by simp only[aO] at h;subst h;simp only[aWL,aO];exact ⟨v,[],rfl,r,rfl⟩
 | (k',d')::kvs,xs,h=>by simp only[aO] at h;obtain ⟨y,ys,rfl,r',t⟩:=h;simp only[List.cons_append,aO];exact ⟨y,_,rfl,r',aO.snoc r t⟩
theorem aO.repl{K:Fg}{F:Hp}{k:Key}{d:D}{v:V}(r:aD K F d v):∀ {kvs:List (Key×D)} {xs:List (Key×V)},aO K F kvs xs->aO K F (kvs.map λkv=>if kv.1=k then (kv.1,d) else kv) (xs.map λkv=>if kv.1=k then (kv.1,v) else kv)
 | [],xs,h=>by simp only[aO] at h;subst h;simp[aO]
 | (k',d')::kvs,xs,h=>by
  simp only[aO] at h;obtain ⟨y,ys,rfl,r',t⟩:=h;have ih:=aO.repl (k:=k) r t;by_cases e:k'=k
  . simp only[aUQ,e,aT8,aO];exact ⟨v,_,rfl,r,ih⟩
  . simp only[aUQ,e,aT7,aO];exact ⟨y,_,rfl,r',ih⟩
theorem aO.put{K:Fg}{F:Hp}{k:Key}{d:D}{v:V}{kvs:List (Key×D)}{xs:List (Key×V)}(h:aO K F kvs xs)(r:aD K F d v):aO K F (fC kvs k d) (eJ xs k v):=by
 have e:(xs.any λkv=>decide (kv.1=k))=(kvs.any λkv=>decide (kv.1=k)):=by
  have:=h.keys;have a1:∀ {β:Type} (l:List (Key×β)),(l.any λkv=>decide (kv.1=k))=(l.map (·.1)).any (λx=>decide (x=k)):=λl=>by rw[List.any_map];rfl
  rw[a1,a1,this]
 unfold fC eJ;rw[e];split
 . exact aO.repl r h
 . exact aO.snoc r h
theorem aO.len{K:Fg}{F:Hp}{kvs:List (Key×D)}{xs:List (Key×V)}(h:aO K F kvs xs):xs.length=kvs.length:=by have:=congrArg List.length h.keys;simpa using this
def fU(ρ:Rho)(i:Nat)(rk rv:Res):aK:=match ρ[i]? with
 | some (some (true,.dct kvs))=>(bB rv).thS ρ λm d=>match m with
  | .fz=>rk.thS ρ λ_ kd=>(match lD kd with
   | some k=>if kvs.length<sizeLine then .nx (ρ.set i (some (true,.dct (fC kvs k d)))) else .stuck
   | none=>.stuck)
  | _=>.stuck
 | _=>.stuck
section
variable {C:Cw}{X:Cx}{e ke:Expr}{g gk:Rho->Res}{x:Str}{p sp pos:Pos}
theorem aJ9(i:Nat)(hu:X.A.units+1<cLine)(hv:PE X (.Name x p) (dE i))(hk:PV C X ke gk)(he:PV C X e g)(hsw:swapsWith e (some (.Subscript (.Name x p) ke sp)) pos.line X.env=pure false):PSv C X (.Assign [.Subscript (.Name x p) ke sp] e pos) (λρ=>fU ρ i (gk ρ) (g ρ)):=by
 refine PS.imp (aF0 hu hv hk (fN he) hsw) λE σ H q=>?_;obtain ⟨ρ,F,R,w⟩:=q;dsimp only at w;unfold vQ;cases e0:ρ[i]? with
 | none=>unfold fU at w;rw[e0] at w;exact w.elim
 | some o =>
  cases o with
  | none=>unfold fU at w;rw[e0] at w;exact w.elim
  | some bd =>
   obtain ⟨b,d0⟩:=bd;cases b with
   | false=>unfold fU at w;rw[e0] at w;exact w.elim
   | true =>
    cases d0 with
    | dct kvs =>
     unfold fU at w;rw[e0] at w;dsimp only at w;obtain ⟨v0,ev0,rp0,hn0⟩:=R.slot i true _ e0;obtain ⟨a,ea,hfa,xs,hh,rk⟩:=rp0;subst ea;refine jU R w λm d v F' H' w' s R' rp fr=>?_;cases m with
     | fr=>exact (show False from w').elim
     | bo=>exact (show False from w').elim
     | fz =>
     dsimp only at w';refine ⟨.ref a,ev0,?_⟩;refine jU R' w' λm2 kd u F2 H2 w2 s2 R2 rp2 _=>?_;cases ek:lD kd with
     | none=>rw[ek] at w2;exact w2.elim
     | some k =>
      rw[ek] at w2;dsimp only at w2;split at w2
      . rename_i hl;have hh2:H2 a=some (.dK xs):=s2.same _ _ (s.same _ _ hh);refine ⟨a,_,rfl,.inl ⟨xs,k,hh2,v7 ek rp2,by rw[rk.len];exact hl,rfl⟩,?_⟩
        exact w2 σ F2 _ (aH.refl _) (R2.mut e0 ev0 ⟨_,a7,aO.put (rk.mono (s.fsame.trans s2.fsame) _ _) (aD.mono s2.fsame _ _ rp)⟩)
      . exact w2.elim
    | _=>unfold fU at w;rw[e0] at w;exact w.elim
end
section
variable {C:Cw}{X:Cx}{a b:Expr}{ga gb:Rho->Res}{pos:Pos}
theorem aKA(hu:X.A.units+1<cLine)(ha:PV C X a ga)(hb:PV C X b gb)(hs:nH b):PV C X (.Subscript a b pos) (λρ=>op2 ixK (ga ρ) (gb ρ)):=by
 refine PE.imp (qE (xF hu) ha hb hs) λσ H Q q=>k8 (λF H m x n y v u k d Q s rx ry e w=>?_) q;unfold ixK at e;split at e
 . rename_i kvs ky ek;obtain ⟨p,xs,rfl,hh,rk,g⟩:=aJ7 s rx ry ek;cases eg:dL kvs ky with
   | none=>rw[eg] at e;cases e
   | some d'=>rw[eg] at e;cases e;have:=aO.val ky rk;rw[eg] at this;obtain ⟨v',ev,rv⟩:=this;rw[ev] at g;exact ⟨p,v',rfl,g,w v' F H (.refl s) rv (by intro z;cases z)⟩
 . cases e
end
end D3
namespace D3
open PySem PySem.Spec PyProof.Rows L2 PySem.SeqAt PySem.MeetsSeq
theorem SqT.plain{X:Cx}{aA:LAO}{σ:L2.St}{H:Hp}{s:Shared}{a:Addr}{xs:List V}(I:L2.Inv X aA σ H s)(h:SqT X.K H a xs):∃ its:List Value,aM xs its/\fH s.heap a its.toArray/\xs.length<=sizeLine:=by
 rcases h with h | ⟨o,its,n,hk,hc,hd,hs,hz,r⟩
 . obtain ⟨z,its,r,p⟩:=h.ok I.hok;exact ⟨its,r,p,z⟩
 . exact ⟨its.toList,r,⟨o,I.kIn a o hk,hc,hd,n,by simpa using hs⟩,by rw[r.length,aSU];exact hz⟩
section
variable {X:Cx}{o e:Expr}{apos cpos:Pos}{td ty:TE}
end
section
variable {C:Cw}{X:Cx}{o e:Expr}{apos cpos:Pos}{go g:Rho->Res}
end
end D3
namespace D3
open PySem PySem.Spec PyProof.Rows L2
section
variable {C:Cw}{X:Cx}
end
def TabE(w:World)(K:Fg):List (Str×Str)->List DictEntry->Prop
 | [],es=>es=[]
 | (z,f)::r,es=>∃ t a es',es=⟨PyData.keyHash w.params z,.str z t,.ref a⟩::es'/\PySem.W.nsIn K mainGlobals f=some (some (.ref a))/\TabE w K r es'
structure j5(w:World)(K:Fg)(mg:SOV)(x:Str)(tb:List (Str×Str)):Prop where
 ex:∃ a ob es ep,mg x=some (.ref a)/\K.lookup a=some ob/\ob.ExactDict/\ob.data=.dict es ep/\TabE w K tb es.toList
 nd:(tb.map (·.1)).Nodup
section
variable {C:Cw}{X:Cx}{e b:Expr}{es:List Expr}{gs:Rho->aT}{gb:Rho->Res}{p pos:Pos}{x:Str}{k n:Nat}{tb:List (Str×Str)}
end
def iH:Key->D | .inl i=>.int i | .inr x=>.str x
def j6:Key->Bool | .inl _=>true | .inr x=>decide (x.length<=sizeLine)&&PyData.strOk x
def lQ:List (Md×D)->Option (Md×D)
 | [(_,.dct kvs)]=>if (kvs.all λkv=>j6 kv.1)=true then some (.fr,.lst (kvs.map λkv=>iH kv.1)) else none
 | _=>none
section
variable {X:Cx}
theorem xG{P:Program}{w:World}{k:Key}{u:Value}(h:(cO P w).is k u=true):aS (kV k) u:=by
 cases k with
 | inl i =>
  have h:Value.isInt i u=true:=h;cases u <;> simp[Value.isInt] at h
  subst h;exact ⟨_,rfl⟩
 | inr x =>
  have h:Value.isStrOf x u=true:=h;cases u <;> simp[Value.isStrOf] at h
  subst h;exact ⟨_,rfl⟩
theorem xH{P:Program}{w:World}:∀ {vs:List (Key×Value)} {us:List Value},us.length=vs.length->(∀ (j:Nat) v,us[j]? = some v->∃ k x,vs[j]? = some (k,x)/\(cO P w).is k v=true)->aM (vs.map λkv=>kV kv.1) us
 | [],[],_,_=>.nil
 | [],_::_,h,_=>by simp at h
 | _::_,[],h,_=>by simp at h
 | kv::vs,u::us,h,q=>by obtain ⟨k,x,e1,e2⟩:=q 0 u rfl;cases e1;exact .cons (xG e2) (xH (by simpa using h) λj v hv=>q (j+1) v hv)
theorem aKB(hc:X.calm=true):cG X (.type "list") (λxs H Q=>∃ p kvs,xs=[.ref p]/\H p=some (.dK kvs)/\∀ l,H l=none->Q (.ref l) (upd H l (.lst (kvs.map λkv=>kV kv.1)))):=by
 intro aA s σ H xs us Q I r h;obtain ⟨p,kvs,rfl,hp,q⟩:=h;obtain ⟨u,rfl,rx⟩:=cH r;cases rx;obtain ⟨hz,hd,vs,rel,o,es,ep,dd⟩:=qH I.hok hp;refine PySem.W.kdl_call (PySem.W.kdl_dict (knd:=cO X.prog X.w) (kvs:=vs) (ep:=ep) hd) (I.ok.hd hc) ⟨o,es,dd⟩ (by rw[<- rel.length];exact hz) λh' tk acc c' kp hg it=>?_
 have ek:vs.map (λkv=>kV kv.1)=kvs.map λkv=>kV kv.1:=by have:=congrArg (List.map kV) rel.keys;simpa[aWM,aWN] using this.symm
 have rv:aM (kvs.map λkv=>kV kv.1) acc.toList:=by rw[<- ek];exact xH (P:=X.prog) (w:=X.w) (by rw[aSU];exact it.1) λj v hv=>it.2 j v (by simpa using hv)
 exact ⟨.ref s.heap.objs.size,_,I.laid (t':=tk) kp (aS1 _) (show bD X.prog X.w _ h' _ (.lst (kvs.map λkv=>kV kv.1)) from ⟨by rw[aTZ];exact hz,acc.toList,c',rv,by simpa using hg⟩),rfl,q _ (I.hok.fresh (aS1 _))⟩
theorem xI{K:Fg}{F:Hp}:∀ {kvs:List (Key×D)} {xs:List (Key×V)},aO K F kvs xs->(kvs.all λkv=>j6 kv.1)=true->aE K F (kvs.map λkv=>iH kv.1) (xs.map λkv=>kV kv.1)
 | [],xs,h,_=>by simp only[aO] at h;subst h;simp[aE]
 | (k,d)::kvs,xs,h,a=>by
  simp only[aO] at h;obtain ⟨y,ys,rfl,_,t⟩:=h;rw[aVT,aUG] at a;simp only[aUQ,aE];refine ⟨_,_,rfl,?_,xI t a.2⟩;cases k with
  | inl i=>simp only[iH,aD,kV]
  | inr x=>have a1:(decide (x.length<=sizeLine)&&PyData.strOk x)=true:=a.1;rw[aUG,aUU] at a1;show aD K F (.str x) (.str x);unfold aD;exact ⟨rfl,a1⟩
theorem aKC(hc:X.calm=true):aZ X (.type "list") lQ:=by
 refine ⟨_,aKB hc,λF H xs vs k d Q s rx e w=>?_⟩;unfold lQ at e;split at e
 . rename_i m kvs;split at e
   . rename_i ha;cases e;obtain ⟨v,rfl,r⟩:=rx.one;obtain ⟨a,xs,rfl,hh,rk⟩:=r.dict s;exact ⟨a,xs,rfl,hh,λl hl=>w (.ref l) F _ (aJ.fresh _ s hl) ⟨l,rfl,s.free hl,_,a7,xI rk ha⟩ λ_ a ea=>by cases ea;exact hl⟩
   . cases e
 . cases e
end
theorem aY.frz{K:Fg}{F0 H0 F H:Hp}{σ:L2.St}{ρ:Rho}(R:aY K F0 H0 F H σ ρ){i:Nat}{d:D}(e:ρ[i]? = some (some (true,d))):∃ F',aH F F'/\aY K F0 H0 F' H σ (ρ.set i (some (false,d))):=by
 obtain ⟨v,ev,rp,hn⟩:=R.slot i true d e;obtain ⟨x,rfl,nx,t⟩:=rp;obtain ⟨o,ho,r⟩:=t.freeze nx;have sm:aH F (upd F x o):=λb u q=>by rw[aN (c9 q nx)];exact q
 have hi:i<ρ.length:=(aSO.mp e).1;refine ⟨upd F x o,sm,R.st.freeze (hn rfl x rfl) nx ho,λj m d' ej=>?_,λj k d1 d2 a hjk e1 e2 q1 q2=>?_,by rw[aVA];exact R.len⟩
 . by_cases hj:j=i
   . subst hj;rw[aSQ hi] at ej;cases ej;exact ⟨.ref x,ev,r,by intro z;cases z⟩
   . rw[aSR (λz=>hj z.symm)] at ej;obtain ⟨v',ev',rp',hn'⟩:=R.slot j m d' ej;refine ⟨v',ev',?_,hn'⟩;cases m with
     | false=>exact aD.mono sm _ _ rp'
     | true =>
      obtain ⟨a,rfl,na,t'⟩:=rp';have ax:a≠x:=λz=>by subst z;exact R.apart j i d' d a hj ej e ev' ev
      refine ⟨a,rfl,by rw[aN ax];exact na,?_⟩
      cases d' with
      | lst ds=>obtain ⟨xs,q,rr⟩:=t';exact ⟨xs,q,rr.mono sm _ _⟩
      | dct ds=>obtain ⟨xs,q,rr⟩:=t';exact ⟨xs,q,rr.mono sm _ _⟩
      | ins c fs=>obtain ⟨C,dx,gs,n,q,rr⟩:=t';exact ⟨C,dx,gs,n,q,rr.mono sm _ _⟩
      | set ks=>obtain ⟨S,q,rr⟩:=t';exact ⟨S,q,rr⟩
      | _=>exact t'.elim
 . have own:∀ {j:Nat} {d1:D},(ρ.set i (some (false,d)))[j]? = some (some (true,d1))->ρ[j]? = some (some (true,d1)):=λ{j d1} z=>by
     by_cases hj:j=i
     . subst hj;rw[aSQ hi] at z;cases z
     . rw[aSR (λy=>hj y.symm)] at z;exact z
   exact R.apart j k d1 d2 a hjk (own e1) (own e2) q1 q2
def gN(ρ:Rho)(i:Nat):aK:=match ρ[i]? with
 | some (some (true,d))=>.nx (ρ.set i (some (false,d)))
 | _=>.stuck
theorem aKD{C:Cw}{X:Cx}{sts:List Stmt}{i:Nat}{g:Rho->aK}(h:PBv C X sts g):PBv C X sts (λρ=>(gN ρ i).thn g):=by
 refine PSs.imp h λE σ H q=>?_;obtain ⟨ρ,F,R,w⟩:=q;dsimp only at w;unfold gN at w;split at w
 . rename_i d e;obtain ⟨F',sm,R'⟩:=R.frz e;exact ⟨_,F',R',cW.mono sm w⟩
 . exact w.elim
def Ent(w:World):List Str->List (Int×Value)->Prop
 | [],l=>l=[]
 | x::xs,l=>∃ t r,l=(hashStr w x,.str x t)::r/\Ent w xs r
theorem Ent.mem{w:World}:∀ {xs:List Str} {l:List (Int×Value)},Ent w xs l->∀ e∈l,∃ x t,x∈xs/\e=(hashStr w x,.str x t)
 | [],l,h,e,he=>by have h:l=[]:=h;subst h;cases he
 | x::xs,l,h,e,he=>by
  obtain ⟨t,r,rfl,hr⟩:=h;rcases aSL.mp he with rfl | he
  . exact ⟨x,t,mcs,rfl⟩
  . obtain ⟨y,u,hy,e1⟩:=hr.mem e he;exact ⟨y,u,mcm hy,e1⟩
theorem Ent.mem'{w:World}:∀ {xs:List Str} {l:List (Int×Value)},Ent w xs l->∀ x∈xs,∃ t,(hashStr w x,.str x t)∈l
 | x::xs,l,h,y,hy=>by
  obtain ⟨t,r,rfl,hr⟩:=h;rcases aSL.mp hy with rfl | hy
  . exact ⟨t,mcs⟩
  . obtain ⟨u,hu⟩:=hr.mem' y hy;exact ⟨u,mcm hu⟩
theorem Ent.length{w:World}:∀ {xs:List Str} {l:List (Int×Value)},Ent w xs l->l.length=xs.length
 | [],l,h=>by have h:l=[]:=h;subst h;rfl
 | x::xs,l,h=>by obtain ⟨t,r,rfl,hr⟩:=h;simp[hr.length]
theorem Ent.snoc{w:World}:∀ {xs:List Str} {l:List (Int×Value)} {x:Str} {t:Tok},Ent w xs l->Ent w (xs++[x]) (l++[(hashStr w x,.str x t)])
 | [],l,x,t,h=>by have h:l=[]:=h;subst h;exact ⟨t,[],rfl,rfl⟩
 | y::xs,l,x,t,h=>by obtain ⟨u,r,rfl,hr⟩:=h;exact ⟨u,_,rfl,hr.snoc⟩
theorem Ent.perm{w:World}{l l':List (Int×Value)}(p:l'.Perm l):∀ {xs:List Str},Ent w xs l->∃ ys:List Str,ys.Perm xs/\Ent w ys l':=by
 induction p with
 | nil=>exact λh=>⟨_,.refl _,h⟩
 | cons e _ ih =>
  intro xs h;cases xs with
  | nil=>cases (show _::_=[] from h)
  | cons x xs=>obtain ⟨t,r,e1,hr⟩:=h;cases e1;obtain ⟨ys,p1,h1⟩:=ih hr;exact ⟨x::ys,p1.cons x,t,_,rfl,h1⟩
 | swap a b l =>
  intro xs h;cases xs with
  | nil=>cases (show _::_=[] from h)
  | cons x xs =>
   obtain ⟨t,r,e1,hr⟩:=h;cases e1;cases xs with
   | nil=>cases (show _::_=[] from hr)
   | cons y xs=>obtain ⟨u,r',e2,hr'⟩:=hr;cases e2;exact ⟨y::x::xs,.swap x y xs,u,_,rfl,t,_,rfl,hr'⟩
 | trans _ _ ih1 ih2=>intro xs h;obtain ⟨ys,p1,h1⟩:=ih2 h;obtain ⟨zs,p2,h2⟩:=ih1 h1;exact ⟨zs,p2.trans p1,h2⟩
theorem lR{P:Program}{w:World}{x y:Str}{t:Tok}:(PySem.strKind P w).is x (.str y t)=decide (y=x):=by show Value.isStrOf x (.str y t)=_;rw[aS7];simp[Value.isStrOf]
theorem Ent.elems{P:Program}{w:World}{xs:List Str}{l:List (Int×Value)}(h:Ent w xs l):ElemsOf (PySem.strKind P w) l:=λe he=>by obtain ⟨x,t,_,rfl⟩:=h.mem e he;exact ⟨⟨x,by rw[lR];simp,rfl⟩,rfl⟩
def dC(w:World):Bool:=w.params.followText "set-order"
def bQ(w:World)(h:Heap)(a:Addr)(xs:List Str):Prop:=∃ o es ep t,h.get? a=some o/\o.ExactSet/\o.data=.set es ep t/\Ent w xs es.toList/\xs.Nodup/\xs.length<scanBound/\t.fits es.size=true/\t.led = !dC w/\(xs=[]\/t.plain=false)
theorem aKE{t:SetTable}{n:Nat}:(t.orStandIn n).led=t.led/\((t.orStandIn n).plain=true->t.plain=true):=by
 unfold SetTable.orStandIn;split
 . exact ⟨rfl,id⟩
 . exact ⟨rfl,λh=>by cases h⟩
theorem rF{t:SetTable}{es:Array (Int×Value)}{h:Int}{x:Value}:(layNew t es h x).2.1.led=t.led/\((layNew t es h x).2.1.plain=true->t.plain=true):=by
 unfold layNew;split
 . exact aKE (t:=(t.put _).1)
 . exact ⟨rfl,λh=>by cases h⟩
theorem xJ{t:SetTable}{es:Array (Int×Value)}{n:Nat}:(relayAll t es n).2.1.led=t.led/\((relayAll t es n).2.1.plain=true->t.plain=true):=by
 unfold relayAll;split
 . rename_i t' order e;have e':t'.led=t.led/\t'.plain=t.plain:=by
     unfold SetTable.relaid SetTable.laid at e;cases hl:SetTable.layClean (SetTable.sizeAbove n-1) (es.map (·.1)) with
     | none=>rw[hl] at e;cases e
     | some ow=>rw[hl] at e;cases e;exact ⟨rfl,rfl⟩
   dsimp only;split
   . exact ⟨e'.1,λh=>by rw[<- e'.2];exact h⟩
   . exact ⟨rfl,λh=>by cases h⟩
 . exact ⟨rfl,λh=>by cases h⟩
section
variable {prog:Program}{w:World}{A:Around}{E:VSP}{s:Shared}
theorem xK(b:Bool){s₁:Shared}{Q':Unit->Shared->Prop}(hq:Q' () s₁):wpAny (model prog w) A (match b with | true=>rule "set.scan.the-table-gave-way" | false=>pure ()) Q' E s₁:=by
 cases b with
 | true=>exact aVY hq
 | false=>exact aSX hq
theorem xL(P:Program){h:Heap}{a:Addr}{o:Obj}{es:Array (Int×Value)}{ep:Nat}{t:SetTable}(ho:h.get? a=some o)(hex:o.ExactSet)(hd:o.data=.set es ep t){es':Array (Int×Value)}{t':SetTable}{xs:List Str}(he:Ent w xs es'.toList)(hn:xs.Nodup)(hb:xs.length<scanBound)(hf:t'.fits es'.size=true)(hl:t'.led = !dC w)(hp:xs=[]\/t'.plain=false):(h.update a (Obj.putSet es' t')).get? a=some { o with data:=.set es' (ep+1) t' }/\bQ w (h.update a (Obj.putSet es' t')) a xs:=by
 have hs:es'.size=xs.length:=by rw[<- aSU];exact he.length
 have g:=(SetOf_store (knd:=PySem.strKind P w) (S':=λk=>decide (∃ e∈es'.toList,(PySem.strKind P w).is k e.2=true)) ho hex hd he.elems (λk=>by simp) (by rw[hs];exact hb) hf).1
 exact ⟨g,_,es',ep+1,t',g,hex,rfl,he,hn,hb,hf,hl,hp⟩
theorem xM (g : Bool → Sem Unit) (hg : ∀ (b : Bool) {s₁ : Shared} {Q' : Unit → Shared → Prop}, Q' () s₁ → wpAny (model prog w) A (g b) Q' E s₁) {a : Addr} {o : Obj} {es : Array (Int × Value)} {ep : Nat} {t : SetTable} (ho : s.heap.get? a = some o) (hex : o.ExactSet) (hd : o.data = .set es ep t) {es1 : Array (Int × Value)} {t2 : SetTable} {xs : List Str} (he : Ent w xs es1.toList) (hn : xs.Nodup) (hb : xs.length < scanBound) (hf : t2.fits es1.size = true) (hl : t2.led = !dC w) (hp : t2.plain = false) {wasDummy : Bool} {R : Option Bool → Shared → Prop} (h : ∀ h' ys, Heap.SameBut a s.heap h' → bQ w h' a ys → ys.Perm xs → R (some true) { s with heap := h' }) :
    wpAny (model prog w) A (do
        storeSet a es1 t2
        if (!wasDummy && t2.tooFull) = true then do
            g (relayAll t2 es1 (SetTable.grown es1.size)).2.2
            storeSet a (relayAll t2 es1 (SetTable.grown es1.size)).1 (relayAll t2 es1 (SetTable.grown es1.size)).2.1
            pure (some true)
         else pure (some true)) R E s:=by
 have z:∀ {l:Array (Int×Value)} {ys:List Str},Ent w ys l.toList->ys.length<scanBound->l.size<=sizeLine:=λq1 q2=>aWO (by rw[<- aSU,q1.length];exact q2)
 obtain ⟨g1,X1⟩:=xL prog ho hex hd he hn hb hf hl (.inr hp);refine aSY (aWP ho hd ?_ (z he hb));have sb:=aV9 s.heap a (Obj.putSet es1 t2);split
 . have pm:=relayAll_perm t2 es1 (SetTable.grown es1.size);have ft:=relayAll_fits t2 es1 (SetTable.grown es1.size);have fl:=xJ (t:=t2) (es:=es1) (n:=SetTable.grown es1.size);generalize relayAll t2 es1 (SetTable.grown es1.size)=R1 at *;obtain ⟨es2,t3,gv⟩:=R1;dsimp only at pm ft fl ⊢;obtain ⟨ys,p1,e2⟩:=he.perm pm;have pl:t3.plain=false:=by
     cases q:t3.plain with
     | false=>rfl
     | true=>rw[fl.2 q] at hp;cases hp
   have yb:ys.length<scanBound:=by rw[p1.length_eq];exact hb
   obtain ⟨_,X2⟩:=xL prog g1 hex rfl e2 (p1.symm.nodup hn) yb ft (fl.1.trans hl) (.inr pl);refine aSY (hg gv ?_);exact aSY (aWP g1 rfl (aSX (h _ ys (sb.trans (aV9 _ a _)) X2 p1)) (z e2 yb))
 . exact aSX (h _ xs sb X1 (.refl _))
theorem add_x{a:Addr}{xs:List Str}{x:Str}{tk:Tok}{Q:Bool->Shared->Prop}(h:bQ w s.heap a xs)(hr:xs.length+1<scanBound)(hq:∀ h' ys,Heap.SameBut a s.heap h'->bQ w h' a ys->ys.Perm (if x∈xs then xs else xs++[x])->Q (!decide (x∈xs)) { s with heap:=h' }):wpAny (model prog w) A (setAddHashed a (.str x tk) (hashStr w x)) Q E s:=by
 obtain ⟨o,es,ep,t,ho,hex,hd,he,hn,hb,hf,hl,hp⟩:=id h;have el:ElemsOf (PySem.strKind prog w) es.toList:=he.elems;have hz:es.size=xs.length:=by rw[<- aSU];exact he.length
 have hk:(PySem.strKind prog w).is x (.str x tk)=true:=by rw[lR];simp
 unfold setAddHashed setAddHashedIn;refine aUB (aSY (aWQ ho hd hf ?_));dsimp only;rw[byScan_of (knd:=PySem.strKind prog w) (x:=.str x tk) rfl (by rw[hz];exact hb) el]
 simp only[↓reduceIte];unfold setAddByScan;refine aSY (aSY (aVY (aSY (wpAny_setScan_of (knd:=PySem.strKind prog w) hk ho hd hf el ?_))));cases hf':List.findIdx? (λe=>(PySem.strKind prog w).is x e.2) es.toList with
 | some j =>
  dsimp only;obtain ⟨hj,hpj,_⟩:=aWR.mp hf';obtain ⟨y,u,hy,ey⟩:=he.mem _ (aU8 hj);rw[ey,lR,aUU] at hpj;subst hpj;have:=hq s.heap xs (aVP a s.heap) h (by rw[if_pos hy])
  rw[aUN hy] at this;exact aSX (aSX this)
 | none =>
  dsimp only;have nx:¬ x∈xs:=λhx=>by obtain ⟨u,hu⟩:=he.mem' x hx;have:=List.findIdx?_eq_none_iff.mp hf' _ hu;rw[lR] at this;simp at this
  have pm:=layNew_perm t es (hashStr w x) (.str x tk);have ft:=layNew_fits t es (hashStr w x) (.str x tk);have fl:=rF (t:=t) (es:=es) (h:=hashStr w x) (x:=.str x tk);show wpAny _ _ (match layNew t es (hashStr w x) (.str x tk) with | (es,t,wasDummy,gave)=>_) _ _ _
  generalize layNew t es (hashStr w x) (.str x tk)=L at *;obtain ⟨es1,t1,wd,gv⟩:=L;dsimp only at pm ft fl ⊢;rw[aWS] at pm;obtain ⟨ys,p1,e1⟩:=(he.snoc (x:=x) (t:=tk)).perm pm;have yn:ys.Nodup:=p1.symm.nodup (aWT.mpr ⟨hn,by simp,λa ha b hb e=>by rw[aVZ] at hb;subst hb;subst e;exact nx ha⟩)
  have yb:ys.length<scanBound:=by rw[p1.length_eq,aTY];simpa using hr
  have fin:∀ h' zs,Heap.SameBut a s.heap h'->bQ w h' a zs->zs.Perm ys->Q true { s with heap:=h' }:=λh' zs q1 q2 q3=>by
   have:=hq h' zs q1 q2 (by rw[if_neg nx];exact q3.trans p1)
   rw[aR6 nx] at this;exact this
  refine aSY ?_;have gg:∀ (b:Bool) {s₁:Shared} {Q':Unit->Shared->Prop},Q' () s₁->wpAny (model prog w) A (match b with | true=>rule "set.scan.the-table-gave-way" | false=>pure ()) Q' E s₁:=λb _ _ q=>xK b q
  refine gg _ ?_;split
  . refine aSY ?_;rw[hashByValue_scannable 8 (x:=.str x tk) rfl];refine aSX ?_;refine xM _ gg (t2:={ t1 with plain:=false }) ho hex hd e1 yn yb (SetTable.fits_plain_off ft) (fl.1.trans hl) rfl ?_
    exact λh' zs q1 q2 q3=>aSX (fin h' zs q1 q2 q3)
  . rename_i np;refine aSY (aSX ?_);refine xM _ gg (t2:=t1) ho hex hd e1 yn yb ft (fl.1.trans hl) (by cases q:t1.plain with | true=>exact absurd q np | false=>rfl) ?_
    exact λh' zs q1 q2 q3=>aSX (fin h' zs q1 q2 q3)
end
theorem rG:plainId "set.update.loop" = true:=by decide +kernel
theorem xN:entryFor table "set.update.loop" = some Builtin.«set.update.loop»:=entryFor_of_tree (by kernel_rfl)
theorem aKF(a:Value):checkTypeCall "set" ⟨[a],[]⟩=pure ():=by kernel_rfl
theorem aKG(a:Value):checkBuiltinCall "set.__new__" ⟨[.type "set", a],[]⟩=pure ():=by kernel_rfl
theorem bQ.kept{w:World}{h h':Heap}{a:Addr}{xs:List Str}(x:bQ w h a xs)(k:∀ o,h.get? a=some o->h'.get? a=some o):bQ w h' a xs:=by obtain ⟨o,es,ep,t,ho,r⟩:=x;exact ⟨o,es,ep,t,k o ho,r⟩
theorem bQ.there{w:World}{h:Heap}{a:Addr}{xs:List Str}(x:bQ w h a xs):a<h.objs.size:=by obtain ⟨o,es,ep,t,ho,r⟩:=x;exact aSB ho
section
variable {prog:Program}{w:World}{A:Around}{E:VSP}{s:Shared}
theorem aKH{a:Addr}{xs:List Str}{x:Str}{tk:Tok}{Q:Bool->Shared->Prop}(h:bQ w s.heap a xs)(hr:xs.length+1<scanBound)(hq:∀ h' ys,Heap.SameBut a s.heap h'->bQ w h' a ys->ys.Perm (if x∈xs then xs else xs++[x])->Q (!decide (x∈xs)) { s with heap:=h',toks:=s.toks+1 }):wpAny (model prog w) A (setAdd a (.str x tk)) Q E s:=by
 unfold setAdd;refine aUB (aSY ((PySem.strKind prog w).pyHash (k:=x) (v:=.str x tk) (by rw[lR];simp) ?_))
 exact add_x (s:={ s with toks:=s.toks+1 }) h hr hq
end
def sob(w:World):Obj:={ cls:=.type "set", dict:=none,data:=.set #[] 0 (.fresh 0 0 (!dC w)) }
theorem sob_x{w:World}{h:Heap}{a:Addr}(g:h.get? a=some (sob w)):bQ w h a [] :=
 ⟨_,#[],0,_,g,⟨rfl,rfl,rfl⟩,rfl,rfl,aWU,by decide,rfl,rfl,.inl rfl⟩
section
variable {prog:Program}{w:World}{A:Around}{E:VSP}{s:Shared}
theorem aKI(v:Value){Q1:VSP}(h:Q1 (.ref s.heap.objs.size) { s with heap:=s.heap.push (sob w) }):codeAny (model prog w) A (.call (.builtin "set.__new__") ⟨[.type "set", v],[]⟩) (wants Q1 E) s:=by
 refine codeAny_call_builtin_code (aWV PySem.F.plain_set_new _) (aWB (aKG v) (aWW PySem.F.entry_set_new ?_));rw[aWX PySem.F.plain_set_new _];have sub:=sub_set_self;obtain ⟨hp,g,d,tk,os⟩:=s;unfold Builtin.«set.__new__» Builtin.Frozenset.newClass;dsimp only
 wp_walk
 refine aWY (aSX ?_);dsimp only;simp only[newObj];exact aSY (wpAny_alloc (aSX (aSX h)))
theorem aKJ{M:Model}{self v:Value}{Q:Unit->Shared->Prop}(ty:s.TypeIs self "set")(q:Q () s):wpAny M A (checkBuiltinCall "set.__init__" ⟨[self,v],[]⟩) Q E s:=by
 unfold checkBuiltinCall;simp only[kind_set_init,split_set_init,sig_set_init];refine aSY (aWG ty sub_set_self ?_);simp only[aWZ,aVJ,↓reduceIte];unfold Bind.checkArgs;dsimp only;refine aSY (m:=Bind.printed "set" true _ _) (printed_name (by decide) (aSY (m:=Bind.printed "*" false _ _) (printed_star (self:=self) rfl ty λsh=>?_)))
 have e1:(if (Manifest.Receiver.self==Manifest.Receiver.none)=true then [self,v].length else [self,v].length-1)=1:=rfl;rw[e1,aUR,show Bind.check ⟨.positional, "set", "*", .self,[⟨"iterable", .posOnly,false⟩]⟩ "set" sh 1 []=pure () from by kernel_rfl]
 exact aSX q
end
def Small(m:Nat):Prop:=m=7\/m=15\/m=31
section
variable {m:Nat}{ow:Array (Option Nat)}
end
def SetM(w:World)(h:Heap)(a:Addr)(xs:List Str):Prop:=∃ o es ep t,h.get? a=some o/\o.ExactSet/\o.data=.set es ep t/\Ent w xs es.toList/\xs.Nodup/\xs.length<scanBound/\t.fits es.size=true/\t.led = !dC w/\(xs=[]\/t.plain=false)/\Small t.mask/\t.dummies = #[]
theorem rH{α:Type}:∀ {l:List α} {i:Nat} (h:i<l.length),(l[i]::l.eraseIdx i).Perm l
 | [],i,h=>by simp at h
 | a::l,0,h=>.refl _
 | a::l,i+1,h=>by
  have hi:i<l.length:=by simpa using h
  exact (List.Perm.swap a l[i] _).trans ((rH hi).cons a)
theorem xO{α:Type}{next:Nat->Nat}:∀ {f k:Nat} {left:List α} {out:Array α},left.length=f->(pickOrder.go next f k left out).toList.Perm (out.toList++left)
 | 0,k,left,out,h=>by have:left=[]:=List.length_eq_zero_iff.mp h;subst this;unfold pickOrder.go;simp
 | f+1,k,left,out,h=>by
  have hl:next k % left.length<left.length:=Nat.mod_lt _ (by omega)
  unfold pickOrder.go;rw[aU7 hl];dsimp only;refine (xO (by rw[List.length_eraseIdx,if_pos hl];omega)).trans ?_
  rw[aWS,aW0];exact List.Perm.append_left _ (rH hl)
theorem j7{α:Type}{next:Nat->Nat}{xs:Array α}:(pickOrder next xs).toList.Perm xs.toList:=by unfold pickOrder;simpa using xO (next:=next) (f:=xs.size) (k:=0) (left:=xs.toList) (out:=#[]) rfl
section
variable {prog:Program}{w:World}{A:Around}{E:VSP}{s:Shared}
theorem fD{Q:Bool->Shared->Prop}(q:Q (dC w) s):wpAny (model prog w) A setsByText Q E s:=by unfold setsByText;exact aSY (aWY (aSX q))
def Wide(h:Heap)(a:Addr)(n:Nat):Prop:=∀ o es ep t,h.get? a=some o->o.data=.set es ep t->n<=t.mask
end
theorem bQ.ty{w:World}{s:Shared}{a:Addr}{xs:List Str}(x:bQ w s.heap a xs):s.TypeIs (.ref a) "set" := by obtain ⟨o,es,ep,t,ho,hex,r⟩:=x;exact ⟨o,ho,hex.1⟩
section
variable {prog:Program}{w:World}{A:Around}{E:VSP}{s:Shared}
theorem aKK{Q:VSP}(q:Q (.ref s.heap.objs.size) { s with heap:=s.heap.push (sob w) }):wpAny (model prog w) A (newSet (.type "set")) Q E s:=by unfold newSet;refine aSY (fD ?_);dsimp only;simp only[newObj];exact aSY (wpAny_alloc (aSX q))
end
theorem eD:Slot "set_iterator" "__next__" "set_iterator.__next__" := .of (owner := "set_iterator") (n := "__next__") (by rw[typeLookup_type,builtinLookup_eq_fast];kernel_rfl) (by decide +kernel) (by decide +kernel) (by decide +kernel) (by first | exact .inl (by decide +kernel) | exact .inr (by decide +kernel)) (by rw[aW1];kernel_rfl)
theorem n6:entryFor table "set_iterator.__next__" = some Builtin.«set_iterator.__next__»:=entryFor_of_tree (by kernel_rfl)
theorem xP:Manifest.owners.lookup (String.ofList "rotareti_tes".toList.reverse)=some Manifest.sig_set_iterator:=by kernel_rfl
theorem n8(a:Value):argsOk "set_iterator.__next__" ⟨[a],[]⟩:=by unfold argsOk;rw[signature?_of (id := "set_iterator.__next__") (n := "__txen__".toList) (o := "rotareti_tes".toList) (by kernel_rfl) xP];kernel_rfl
theorem xQ:Slot "set_iterator" "__iter__" "set_iterator.__iter__" := .of (owner := "set_iterator") (n := "__iter__") (by rw[typeLookup_type,builtinLookup_eq_fast];kernel_rfl) (by decide +kernel) (by decide +kernel) (by decide +kernel) (by first | exact .inl (by decide +kernel) | exact .inr (by decide +kernel)) (by rw[aW1];kernel_rfl)
theorem aKL(a:Value):argsOk "set_iterator.__iter__" ⟨[a],[]⟩:=by unfold argsOk;rw[signature?_of (id := "set_iterator.__iter__") (n := "__reti__".toList) (o := "rotareti_tes".toList) (by kernel_rfl) xP];kernel_rfl
theorem xR:entryFor table "set.__iter__" = some Builtin.«frozenset.__iter__»:=entryFor_alias (id' := "frozenset.__iter__") (by kernel_rfl) rfl (by decide +kernel) (by kernel_rfl)
theorem aKM:entryFor table "set_iterator.__iter__" = some Builtin.«dict_keyiterator.__iter__»:=entryFor_alias (id' := "dict_keyiterator.__iter__") (by kernel_rfl) rfl (by decide +kernel) (by kernel_rfl)
def SIt(h:Heap)(I a:Addr)(f:Value)(i n ep:Nat):Prop:=∃ o,h.get? I=some o/\o.cls=.type "set_iterator" /\ o.data=.fields #[f,.int i 0,.ref a,.int n 0,.int ep 0]
theorem SIt.ty{s:Shared}{I a:Addr}{f:Value}{i n ep:Nat}(x:SIt s.heap I a f i n ep):s.TypeIs (.ref I) "set_iterator" := let ⟨o,h1,h2,_⟩:=x;⟨o,h1,h2⟩
theorem SIt.at{h h':Heap}{I a:Addr}{f:Value}{i n ep:Nat}(x:SIt h I a f i n ep)(k:∀ o,h.get? I=some o->h'.get? I=some o):SIt h' I a f i n ep:=let ⟨o,h1,r⟩:=x;⟨o,k o h1,r⟩
section
variable {prog:Program}{w:World}{A:Around}{E:VSP}{s:Shared}{I a:Addr}{i n ep:Nat}{o:Obj}{es:Array (Int×Value)}{t:SetTable}
theorem n9{f:Value}{Q:VSP}(x:SIt s.heap I a f i n ep)(q:Q (.ref I) s):wpAny (model prog w) A (pyIter (.ref I)) Q E s:=by refine aW2 x.ty xQ (aUE xQ x.ty aKM ?_ (aKL _));show wpAny _ _ (ret (.ref I)) _ _ s;exact aSX ⟨_,rfl, "set_iterator", _,x.ty,eD.lookup,q⟩
theorem aKN {β : Type} {m : Sem β} {f f' : Value} {o : Obj} (h0 : s.heap.get? I = some o) (hc : o.cls = .type "set_iterator") (hd : o.data = .fields #[f, .int i 0, .ref a, .int n 0, .int ep 0]) {Q : β → Shared → Prop}
    (q:∀ h',Heap.SameBut I s.heap h'->SIt h' I a f' (i+1) n ep->wpAny (model prog w) A m Q E { s with heap:=h' }):wpAny (model prog w) A (do setField (.ref I) 0 f';setField (.ref I) 1 (rawInt (i+1));m) Q E s:=by
 refine aSY (aV5 h0 hd (by simp) ?_)
 have g1:=aV6 (Obj.mapFields (·.setIfInBounds 0 f')) h0 (aV7 (aV8 hd _));have d1:=aV8 hd (·.setIfInBounds 0 f');refine aSY (aV5 (s:={ s with heap:=s.heap.update I (Obj.mapFields (·.setIfInBounds 0 f')) }) g1 d1 (by simp) (q _ ((aV9 _ I _).trans (aV9 _ I _)) ?_))
 refine ⟨_,aV6 _ g1 (aV7 (aV8 d1 _)),(aWA ..).trans ((aWA ..).trans hc),?_⟩;rw[aV8 d1];simp[rawInt]
theorem aKO{f:Value}{o:Obj}(h0:s.heap.get? I=some o)(hc:o.cls=.type "set_iterator")(hd:o.data=.fields #[f,.int i 0,.ref a,.int n 0,.int ep 0]){Q:Unit->Shared->Prop}(q:∀ h',Heap.SameBut I s.heap h'->SIt h' I a f (i+1) n ep->Q () { s with heap:=h' }):wpAny (model prog w) A (setField (.ref I) 1 (rawInt (i+1))) Q E s:=by
 refine aV5 h0 hd (by simp) (q _ (aV9 _ I _) ⟨_,aV6 _ h0 (aV7 (aV8 hd _)),(aWA ..).trans hc,?_⟩)
 rw[aV8 hd];simp[rawInt]
theorem xS {P : PySem.Fin → Shared → Prop} {Q : Option Value → Shared → Prop} (hh : A.handled = none) (q : ∀ h', (∀ b o, s.heap.get? b = some o → h'.get? b = some o) → Q none { s with heap := h' }) :
    wpAny (model prog w) A.in1 (do let e <- newExc (.type "StopIteration") [];raiseNew e) P (λe s'=>wpAny (model prog w) A (do let c <- isInstance e (.type "StopIteration");if c=true then pure none else throw e) Q E s') s:=by
 refine aSY ?_;simp only[newExc,newTuple];refine aSY (aUH (aSY (m:=firstArgMember _ _) (aWB (a:=Value.none) (by first | rfl | (simp only[firstArgMember];rfl)) (aUH ?_ (by size_fits)))) (by size_fits))
 simp only[raiseNew];refine aSY (wpAny_handled ?_);rw[show A.in1.handled=none from hh]
 refine aSY (aSX (wpAny_throw (aSY ?_)));exact aWG (T := "StopIteration") (b:=true) ⟨_,aSA _ rfl,rfl⟩ isSubtype_stop (aSX (q _ λb o e=>hps (hps e)))
theorem rJ{k k':Nat}{x:Value}{Q:Option Value->Shared->Prop}(X:SIt s.heap I a (.int k 0) i es.size ep)(ho:s.heap.get? a=some o)(hd:o.data=.set es ep t)(hf:t.fits es.size=true)(hn:∀ {A':Around} {E':VSP} {Q':Option (Value×Nat)->Shared->Prop},Q' (some (x,k')) s->wpAny (model prog w) A' (setNext a k i ep) Q' E' s)(q:∀ h',Heap.SameBut I s.heap h'->SIt h' I a (.int k' 0) (i+1) es.size ep->Q (some x) { s with heap:=h' }):wpAny (model prog w) A (pyNext (.ref I)) Q E s:=by obtain ⟨oI,h0,hc,hdI⟩:=id X;unfold pyNext;refine aSY (aWF (aUC (name:=Str.ofString "__next__") X.ty eD (aUE eD X.ty n6 ?_ (n8 _))));unfold Builtin.«set_iterator.__next__»;refine aSY (m:=slotArgs _ _ _) (aSX (aSY (aW3 h0 hdI ?_)));dsimp only;refine aSY (aW4 ho hd hf ?_);simp only[aW5,aVJ,↓reduceIte,aT6];refine aSY (hn ?_);dsimp only;exact aKN h0 hc hdI λh' sb X'=>aSX ⟨_,rfl,aSX (q h' sb X')⟩
theorem rK{k:Nat}{Q:Option Value->Shared->Prop}(hh:A.handled=none)(X:SIt s.heap I a (.int k 0) i es.size ep)(ho:s.heap.get? a=some o)(hd:o.data=.set es ep t)(hf:t.fits es.size=true)(hn:∀ {A':Around} {E':VSP} {Q':Option (Value×Nat)->Shared->Prop},Q' none s->wpAny (model prog w) A' (setNext a k i ep) Q' E' s)(q:∀ h',(∀ b o,b≠I->s.heap.get? b=some o->h'.get? b=some o)->Q none { s with heap:=h' }):wpAny (model prog w) A (pyNext (.ref I)) Q E s:=by
 obtain ⟨oI,h0,hc,hdI⟩:=id X;unfold pyNext;refine aSY (aWF (aUC (name:=Str.ofString "__next__") X.ty eD (aUE eD X.ty n6 ?_ (n8 _))));unfold Builtin.«set_iterator.__next__»;refine aSY (m:=slotArgs _ _ _) (aSX (aSY (aW3 h0 hdI ?_)));dsimp only;refine aSY (aW4 ho hd hf ?_);simp only[aW5,aVJ,↓reduceIte,aT6];refine aSY (hn ?_);dsimp only;refine aSY (aV5 h0 hdI (by simp) (xS hh λh' k'=>q h' λb o' nb e=>k' b o' ?_))
 exact (aV9 s.heap I _).extBut b o' nb e
theorem aKP{tp:Addr}{ps:Array Value}{p:Nat}{u:Tok}{hx:Int}{x:Value}{Q:Option Value->Shared->Prop}(X:SIt s.heap I a (.ref tp) i es.size ep)(ht:s.heap.IsTuple tp ps)(hp:ps[i]? = some (.int p u))(ho:s.heap.get? a=some o)(hd:o.data=.set es ep t)(hf:t.fits es.size=true)(hx:es[p]? = some (hx,x))(q:∀ h',Heap.SameBut I s.heap h'->SIt h' I a (.ref tp) (i+1) es.size ep->Q (some x) { s with heap:=h' }):wpAny (model prog w) A (pyNext (.ref I)) Q E s:=by obtain ⟨oI,h0,hc,hdI⟩:=id X;obtain ⟨ot,hot,hct,nt,hdt⟩:=ht;unfold pyNext;refine aSY (aWF (aUC (name:=Str.ofString "__next__") X.ty eD (aUE eD X.ty n6 ?_ (n8 _))));unfold Builtin.«set_iterator.__next__»;refine aSY (m:=slotArgs _ _ _) (aSX (aSY (aW3 h0 hdI ?_)));dsimp only;refine aSY (aW4 ho hd hf ?_);simp only[aW5,aVJ,↓reduceIte,aT6];refine aSY (aV4 hot hdt ?_);dsimp only;rw[hp];dsimp only;unfold setNextDrawn;refine aSY (aSY (aWQ ho hd hf ?_));simp only[aW5,aVJ,↓reduceIte,aT6,hx];refine aSX (aSY (aKO h0 hc hdI λh' sb X'=>aSX ⟨_,rfl,aSX (q h' sb X')⟩))
theorem aKQ{tp:Addr}{ps:Array Value}{Q:Option Value->Shared->Prop}(hh:A.handled=none)(X:SIt s.heap I a (.ref tp) i es.size ep)(ht:s.heap.IsTuple tp ps)(hp:ps[i]? = none)(ho:s.heap.get? a=some o)(hd:o.data=.set es ep t)(hf:t.fits es.size=true)(q:∀ h',(∀ b o,b≠I->s.heap.get? b=some o->h'.get? b=some o)->Q none { s with heap:=h' }):wpAny (model prog w) A (pyNext (.ref I)) Q E s:=by
 obtain ⟨oI,h0,hc,hdI⟩:=id X;obtain ⟨ot,hot,hct,nt,hdt⟩:=ht;unfold pyNext;refine aSY (aWF (aUC (name:=Str.ofString "__next__") X.ty eD (aUE eD X.ty n6 ?_ (n8 _))));unfold Builtin.«set_iterator.__next__»;refine aSY (m:=slotArgs _ _ _) (aSX (aSY (aW3 h0 hdI ?_)));dsimp only;refine aSY (aW4 ho hd hf ?_);simp only[aW5,aVJ,↓reduceIte,aT6];refine aSY (aV4 hot hdt ?_);dsimp only;rw[hp];dsimp only;refine aSY (aV5 h0 hdI (by simp) ?_)
 have g1:=aV6 (Obj.mapFields (·.setIfInBounds 0 (rawInt 0))) h0 (aV7 (aV8 hdI _));have d1:=aV8 hdI (·.setIfInBounds 0 (rawInt 0));refine aSY (aV5 (s:={ s with heap:=s.heap.update I (Obj.mapFields (·.setIfInBounds 0 (rawInt 0))) }) g1 d1 (by simp) (xS hh λh' k'=>q h' λb o' nb e=>k' b o' ?_))
 exact (aV9 _ I _).extBut b o' nb ((aV9 s.heap I _).extBut b o' nb e)
end
section
variable {prog:Program}{w:World}{A:Around}{E:VSP}{s:Shared}
theorem aKR{M:Model}{src:Source}{n:Nat}{Q:Nat->Shared->Prop}(hn:n≠0)(h:∀ i,i<n->Q i { s with drawn:=s.drawn.bump src }):wpAny M A (choose src n) Q E s :=
 λ_ _ _=>⟨hn,h _ (Nat.mod_lt _ (Nat.pos_of_ne_zero hn))⟩
theorem rL{M:Model}{α:Type}:∀ {n:Nat} {l:List α} {s:Shared} {Q:List α->Shared->Prop},l.length=n->(∀ d l',l'.Perm l->Q l' { s with drawn:=d })->wpAny M A (drawOrder n l) Q E s
 | 0,l,s,Q,hl,h=>by have:l=[]:=List.length_eq_zero_iff.mp hl;subst this;unfold drawOrder;exact aSX (h s.drawn [] (.refl _))
 | n+1,[],s,Q,hl,h=>by cases hl
 | n+1,x::l,s,Q,hl,h=>by
  unfold drawOrder;refine aSY (aKR (by simp) λi hi=>?_)
  rw[aU7 hi];dsimp only;refine aSY (rL (by rw[List.length_eraseIdx,if_pos hi];omega) λd l' p=>aSX (h d _ ?_))
  exact (p.cons _).trans (rH hi)
variable {I a:Addr}{ep:Nat}{o:Obj}{es:Array (Int×Value)}{t:SetTable}
theorem xT(hh:A.handled=none)(hne:a≠I)(hd:o.data=.set es ep t)(hf:t.fits es.size=true)(bt:dC w=true):Walks prog w A I [I,a] [I] es.size (λi v=>((pickOrder (w.params.setOrder a ep) es).map (·.2))[i]? = some v) (λi h=>SIt h I a (.int (0:Nat) 0) i es.size ep/\h.get? a=some o) where
 sub:=λb hb=>by simp at hb;simp[hb]
 frame:=λ_ _ _ st hk=>⟨st.1.at λo e=>hk I (by simp) o e,hk a (by simp) o st.2⟩
 item:=λi s Q E hi st hQ=>by
  have hz:(pickOrder (w.params.setOrder a ep) es).size=es.size:=by rw[<- aSU,j7.length_eq,aSU]
  have hx:(pickOrder (w.params.setOrder a ep) es)[i]? = some (pickOrder (w.params.setOrder a ep) es)[i]:=aW6 (by rw[hz];exact hi)
  refine rJ (k:=0) (k':=0) st.1 st.2 hd hf (x:=((pickOrder (w.params.setOrder a ep) es)[i]).2) (λ{A' E' Q'} q=>?_) λh' sb X'=>?_
  . unfold setNext setWalk;refine aSY (aWQ st.2 hd hf (aSY (fD ?_)));simp only[bt,↓reduceIte,aW5,aVJ];refine aSY (aSY (aWQ st.2 hd hf (aSY (fD ?_))));simp only[bt,↓reduceIte];refine aSY (aWY (aSX (aSX ?_)));show Q' (Option.map _ (pickOrder (w.params.setOrder a ep) es)[i]?) _;rw[hx];exact q
  . exact hQ _ h' s.toks (by rw[Array.getElem?_map,hx];rfl) ⟨X',sb.extBut a o hne st.2⟩ λb o' hb e=>sb.extBut b o' (λh=>hb (by simp[h])) e
 done:=λs Q E st hQ=>by
  have hz:(pickOrder (w.params.setOrder a ep) es).size=es.size:=by rw[<- aSU,j7.length_eq,aSU]
  have hx:(pickOrder (w.params.setOrder a ep) es)[es.size]? = none:=aW7 (by rw[hz];exact aS1 _)
  refine rK (k:=0) hh st.1 st.2 hd hf (λ{A' E' Q'} q=>?_) λh' kp=>hQ h' s.toks λb o' hb e=>kp b o' (λh=>hb (by simp[h])) e
  unfold setNext setWalk;refine aSY (aWQ st.2 hd hf (aSY (fD ?_)));simp only[bt,↓reduceIte,aW5,aVJ];refine aSY (aSY (aWQ st.2 hd hf (aSY (fD ?_))));simp only[bt,↓reduceIte];refine aSY (aWY (aSX (aSX ?_)));show Q' (Option.map _ (pickOrder (w.params.setOrder a ep) es)[es.size]?) _;rw[hx];exact q
 self:=λ_ _ _ _ st hQ=>n9 st.1 hQ
theorem xU{tp:Addr}{ps:Array Value}(hh:A.handled=none)(hne:a≠I)(hnt:tp≠I)(hd:o.data=.set es ep t)(hf:t.fits es.size=true){qs:List Nat}(hq:ps=(qs.map λ(i:Nat)=>rawInt i).toArray)(hp:qs.Perm (List.range es.size)):Walks prog w A I [I,a,tp] [I] es.size (λi v=>∃ p hx,qs[i]? = some p/\es[p]? = some (hx,v)) (λi h=>SIt h I a (.ref tp) i es.size ep/\h.get? a=some o/\h.IsTuple tp ps) where
 sub:=λb hb=>by simp at hb;simp[hb]
 frame:=λ_ _ _ st hk=>⟨st.1.at λo e=>hk I (by simp) o e,hk a (by simp) o st.2.1,st.2.2.at λo e=>hk tp (by simp) o e⟩
 item:=λi s Q E hi st hQ=>by
  have hz:qs.length=es.size:=by rw[hp.length_eq,aW8]
  have hi':i<qs.length:=by rw[hz];exact hi
  have hx:qs[i]? = some qs[i]:=aU7 hi';have hm:qs[i]<es.size:=aSH.mp (hp.mem_iff.mp (aU8 hi'));have he:es[qs[i]]? = some (es[qs[i]].1,es[qs[i]].2):=aW6 hm;refine aKP st.1 st.2.2 (p:=qs[i]) (u:=0) (by rw[hq,aWE,aTW,hx];rfl) st.2.1 hd hf he λh' sb X'=>?_
  exact hQ _ h' s.toks ⟨_,_,hx,he⟩ ⟨X',sb.extBut a o hne st.2.1,st.2.2.extBut sb.extBut hnt⟩ λb o' hb e=>sb.extBut b o' (λh=>hb (by simp[h])) e
 done:=λs Q E st hQ=>by
  have hz:qs.length=es.size:=by rw[hp.length_eq,aW8]
  refine aKQ hh st.1 st.2.2 (by rw[hq,aWE,aTW,aW9 (by rw[hz];exact aS1 _)];rfl) st.2.1 hd hf λh' kp=>hQ h' s.toks λb o' hb e=>kp b o' (λh=>hb (by simp[h])) e
 self:=λ_ _ _ _ st hQ=>n9 st.1 hQ
theorem xV{p j:Nat}:SetTable.below #[p] j=if p<j then 1 else 0:=by
 show SetTable.below.go #[p] j 1 0 1=_;unfold SetTable.below.go;rw[if_pos (by decide)]
 show (if (#[p].getD 0 j)<j then SetTable.below.go #[p] j 0 1 1 else SetTable.below.go #[p] j 0 0 0)=_;rfl
theorem aKS(hh:A.handled=none)(hne:a≠I)(hd:o.data=.set es ep t)(hf:t.fits es.size=true)(bt:dC w=false)(hl:t.led=true)(h1:es.size<=1):Walks prog w A I [I,a] [I] es.size (λi v=>(es.map (·.2))[i]? = some v) (λi h=>SIt h I a (.int ((if i=0 then 0 else t.place.getD 0 0+1:Nat):Int) 0) i es.size ep/\h.get? a=some o) where
 sub:=λb hb=>by simp at hb;simp[hb]
 frame:=λ_ _ _ st hk=>⟨st.1.at λo e=>hk I (by simp) o e,hk a (by simp) o st.2⟩
 item:=λi s Q E hi st hQ=>by
  have i0:i=0:=by omega
  subst i0;have hz:t.place.size=es.size:=by unfold SetTable.fits at hf;rw[aUG,aTC] at hf;exact hf.1
  have e1:es.size=1:=by omega
  obtain ⟨p,hp⟩:∃ p,t.place = #[p]:=⟨t.place[0]'(by omega),by apply Array.ext <;> simp[hz,e1];intro k hk;subst hk;rfl⟩
  obtain ⟨⟨hx,x⟩,hes⟩:∃ e,es = #[e]:=⟨es[0]'(by omega),by apply Array.ext <;> simp[e1];intro k hk;subst hk;rfl⟩
  subst hes;refine rJ (k:=0) (k':=p+1) st.1 st.2 hd hf (x:=x) (λ{A' E' Q'} q=>?_) λh' sb X'=>?_
  . unfold setNext;refine aSY (aWQ st.2 hd hf (aSY (fD ?_)));simp only[bt,↓reduceIte,aVJ];split
    . rename_i hc;have hc:(!t.plain&&decide (#[(hx,x)].size > 1))=true:=hc;simp at hc
    . show wpAny _ _ ((if (!t.led&&!(#[(hx,x)].isEmpty))=true then _ else _) >>= _) _ _ _;rw[hl];refine aSY (aSX ?_);rw[hp,xV];exact aSX q
  . exact hQ _ h' s.toks (by simp) ⟨by simpa[hp] using X',sb.extBut a o hne st.2⟩ λb o' hb e=>sb.extBut b o' (λh=>hb (by simp[h])) e
 done:=λs Q E st hQ=>by
  have hz:t.place.size=es.size:=by unfold SetTable.fits at hf;rw[aUG,aTC] at hf;exact hf.1
  refine rK hh st.1 st.2 hd hf (λ{A' E' Q'} q=>?_) λh' kp=>hQ h' s.toks λb o' hb e=>kp b o' (λh=>hb (by simp[h])) e
  unfold setNext;refine aSY (aWQ st.2 hd hf (aSY (fD ?_)));simp only[bt,↓reduceIte,aVJ];split
  . rename_i hc;have hc:(!t.plain&&decide (es.size > 1))=true:=hc;simp at hc;omega
  . show wpAny _ _ ((if (!t.led&&!(es.isEmpty))=true then _ else _) >>= _) _ _ _;rw[hl];refine aSY (aSX ?_);have hnone:es[SetTable.below t.place (if es.size=0 then 0 else t.place.getD 0 0+1)]? = none:=by
      refine aW7 ?_;by_cases e0:es.size=0
      . rw[e0];exact aTF _
      . have e1:es.size=1:=by omega
        obtain ⟨p,hp⟩:∃ p,t.place = #[p]:=⟨t.place[0]'(by omega),by apply Array.ext <;> simp[hz,e1];intro k hk;subst hk;rfl⟩
        rw[if_neg e0,hp,xV];simp[e1]
    rw[hnone];exact aSX q
 self:=λ_ _ _ _ st hQ=>n9 st.1 hQ
theorem j8{I:Addr}{fp wr:List Addr}{n n':Nat}{P P':Nat->Value->Prop}{St:Nat->Heap->Prop}(W:Walks prog w A I fp wr n P St)(e:n=n')(h:∀ i v,P i v->P' i v):Walks prog w A I fp wr n' P' St:=by subst e;exact ⟨W.sub,W.frame,λi s Q E hi st hQ=>W.item i s Q E hi st λv h' tk p=>hQ v h' tk (h i v p),W.done,W.self⟩
theorem oA:∀ {xs:List Str} {l:List (Int×Value)},Ent w xs l->StrsAre (l.map (·.2)) xs
 | [],l,h=>by have h:l=[]:=h;subst h;exact .nil
 | x::xs,l,h=>by obtain ⟨t,r,rfl,hr⟩:=h;exact .cons x t (oA hr)
theorem aKT{xs:List Str}{Q:VSP}(hh:A.handled=none)(X:bQ w s.heap a xs)(q:∀ (I:Addr) (h':Heap) d (fp:List Addr) (items:List Value) (ys:List Str) (St:Nat->Heap->Prop),Walks prog w A I fp [I] items.length (λi v=>items[i]? = some v) St->St 0 h'->StrsAre items ys->ys.Perm xs->(∀ b o,s.heap.get? b=some o->h'.get? b=some o)->s.heap.objs.size<=I->(∀ b∈fp,b=a\/s.heap.objs.size<=b)->Q (.ref I) { s with heap:=h',drawn:=d }):wpAny (model prog w) A (pyIter (.ref a)) Q E s:=by
 obtain ⟨o,es,ep,t,ho,hex,hd,he,hn,hb,hf,hl,hp⟩:=id X;have la:=X.there;have hz:es.size=xs.length:=by rw[<- aSU];exact he.length
 refine aW2 X.ty aXA (aUE aXA X.ty xR ?_ (PySem.F.args_set_iter_1 _));unfold Builtin.«frozenset.__iter__»;refine aSY (m:=Builtin.Frozenset.slot0 _ _) (aSX (aSY ?_));unfold Builtin.Frozenset.sizeOf;refine aSY (aW4 ho hd hf (aSX (aSY ?_)));unfold setDrawn;refine aSY (aWQ ho hd hf (aSY (fD (aSX ?_))));dsimp only;have sz:es.size<=sizeLine:=by rw[hz];exact aWO hb
 split
 . rename_i hc;refine aSY (rL (by simp) λd l' pl=>aSY (wpAny_newTuple ?_ (by rw[aTZ,pl.length_eq,aW8];exact sz)))
   have ho1:=aXB (seqObj "tuple" (l'.map λ(i:Nat)=>rawInt i).toArray 0) ho;refine aSY (aXC (s:={ s with heap:=s.heap.push (seqObj "tuple" (l'.map λ(i:Nat)=>rawInt i).toArray 0),drawn:=d }) ho1 hd hf (aSY (aUH (aSX ⟨_,rfl, "set_iterator", _,⟨_,aSA _ rfl,rfl⟩,eD.lookup,?_⟩))))
   have ls:(s.heap.push (seqObj "tuple" (l'.map λ(i:Nat)=>rawInt i).toArray 0)).objs.size=s.heap.objs.size+1:=aXD _ _;have pe:(l'.map λp=>es.getD p (0,.none)).Perm es.toList:=by
    refine (pl.map _).trans (.of_eq ?_);apply aXE
    . simp
    . intro k k1 k2;simp at k1 ⊢;rw[aW6 k1];rfl
   obtain ⟨ys,py,ey⟩:=he.perm pe;have W:=xU (prog:=prog) (w:=w) (A:=A) (I:=(s.heap.push (seqObj "tuple" (l'.map λ(i:Nat)=>rawInt i).toArray 0)).objs.size) (tp:=s.heap.objs.size) hh (by rw[ls];exact aSE (aVM la)) (by rw[ls];exact aSE (aTE _)) hd hf rfl pl
   refine q _ _ d _ ((l'.map λp=>es.getD p (0,.none)).map (·.2)) ys _ (j8 W (by simp[pl.length_eq]) λi v hv=>?_) ⟨⟨_,aSA _ rfl,rfl,rfl⟩,hps ho1,⟨_,hps (aSA _ rfl),rfl,_,rfl⟩⟩ (oA ey) py
    (λb o' e=>hps (hps e)) (by rw[ls];exact aVS _) λb hb=>?_
   . obtain ⟨p,hx,e1,e2⟩:=hv;rw[aTW,aTW,e1];simp[aXF,e2]
   . simp only[aSL,aXG,aWD] at hb;rcases hb with rfl | rfl | rfl
     . right;rw[ls];exact aVS _
     . left;rfl
     . right;exact aS1 _
 . rename_i hc;refine aSY (aSX (aSY (aXC ho hd hf (aSY (aUH (aSX ⟨_,rfl, "set_iterator", _,⟨_,aSA _ rfl,rfl⟩,eD.lookup,?_⟩))))));have fpx:∀ b∈[s.heap.objs.size,a],b=a\/s.heap.objs.size<=b:=λb hb=>by
     simp only[aSL,aXG,aWD] at hb;rcases hb with rfl | rfl
     . right;exact aS1 _
     . left;rfl
   cases bt:dC w with
   | true =>
    obtain ⟨ys,py,ey⟩:=he.perm (j7 (next:=w.params.setOrder a ep) (xs:=es));have W:=xT (prog:=prog) (w:=w) (A:=A) (I:=s.heap.objs.size) hh (aSE la) hd hf bt;refine q _ _ s.drawn _ ((pickOrder (w.params.setOrder a ep) es).toList.map (·.2)) ys _ (j8 W (by rw[aTZ,j7.length_eq,aSU]) λi v hv=>?_) ⟨⟨_,aSA _ rfl,rfl,rfl⟩,hps ho⟩ (oA ey) py (λb o' e=>hps e) (aS1 _) fpx
    rw[<- hv];simp
   | false =>
    have h1:es.size<=1:=by
     have hc:¬ (!dC w&&(!t.plain&&decide (es.size > 1)))=true:=hc;rw[bt] at hc;rcases hp with rfl | hp
     . rw[hz];exact aTF _
     . rw[hp] at hc;simp at hc;omega
    have W:=aKS (prog:=prog) (w:=w) (A:=A) (I:=s.heap.objs.size) hh (aSE la) hd hf bt (by rw[hl,bt];rfl) h1
    refine q _ _ s.drawn _ (es.toList.map (·.2)) xs _ (j8 W (by simp) λi v hv=>?_) ⟨⟨_,aSA _ rfl,rfl,rfl⟩,hps ho⟩ (oA he) (.refl _) (λb o' e=>hps e) (aS1 _) fpx
    rw[<- hv];simp
end
section
variable {prog:Program}{w:World}{A:Around}{E:VSP}{s:Shared}{a:Addr}{xs:List Str}
theorem xW{Q:Bool->Shared->Prop}(ty:s.TypeIs (.ref a) "set")(q:Q false s):wpAny (model prog w) A (Builtin.List.listLengthHint (.ref a)) Q E s:=by
 unfold Builtin.List.listLengthHint;refine aSY (aVU ty PySem.F.slot_set_len.lookup ?_);generalize hi:("set.__len__" : String)=j
 wp_delta
 rw[show splitId j=some ("set", "__len__") from by subst hi;decide +kernel]
 subst hi;refine aSY (aWG ty sub_set_self ?_);refine aXH (λx=>absurd x (by decide)) (λ_=>aXH (λ_=>?_) (λx=>absurd (by decide +kernel) x))
 exact aSY (aUF ty (aSX q))
theorem xX{items:List Value}{acc:Array Value}(h:ItemsOf (λi v=>items[i]? = some v) acc items.length):acc.toList=items:=by
 apply List.ext_getElem?;intro j;by_cases hj:j<items.length
 . have e1:acc[j]? = some (acc[j]'(by rw[h.1];exact hj)):=aW6 _
   rw[aXI,e1];exact (h.2 j _ e1).symm
 . have z1:acc.toList.length=items.length:=by rw[aSU];exact h.1
   rw[aW9 (l:=acc.toList) (by omega),aW9 (l:=items) (by omega)]
theorem ext_x{R:Result->Shared->Prop}(hh:A.handled=none)(X:bQ w s.heap a xs)(S:Addr)(hSa:S≠a)(res:Value)(hS:s.heap.get? S=some { cls:=.type "list", data:=.seq #[] })(hR:∀ h' d tk vs ys c,(∀ b o,b≠S->s.heap.get? b=some o->h'.get? b=some o)->h'.get? S=some { cls:=.type "list", dict:=none,data:=.seq vs c,slots:=#[] } -> StrsAre vs.toList ys->ys.Perm xs->R (.ok (.ret res)) { s with heap:=h',drawn:=d,toks:=tk }):wpAny (model prog w) A.in1 (Builtin.List.listExtendWith (.ref S) (.ref a) res) (λfin s'=>match fin with | .done f=>R (.ok f) s' | .again c'=>c'.quiet=true/\codeAny (model prog w) A c' R s') (λe s'=>R (.error e) s') s:=by
 have hb:xs.length<=sizeLine:=by obtain ⟨o,es,ep,t,ho,hex,hd,he,hn,hb,r⟩:=X;exact aWO hb
 unfold Builtin.List.listExtendWith;refine aSY (aUF X.ty ?_);have n1:Builtin.List.listSameRef (.ref S) (.ref a)=false:=by simp[Builtin.List.listSameRef,hSa]
 have n2:(Value.type "set" == Value.type "list")=false:=by decide
 have n3:(Value.type "set" == Value.type "tuple")=false:=by decide
 simp only[n1,n2,n3,aUI,aVJ,↓reduceIte];refine aSY (aKT (A:=A.in1) hh X λI h1 d fp items ys St W st sa py kp hI hfp=>?_);have lS:S<s.heap.objs.size:=aSB hS;have hSf:S∉fp:=λhm=>(hfp S hm).elim hSa λh=>absurd lS (aVN.mpr h);have hSI:S≠I:=λe=>absurd lS (aVN.mpr (e ▸ hI));have hil:items.length<=sizeLine:=by rw[sa.length,py.length_eq];exact hb
 have hS1 := kp S _ hS; have key : ∀ (h : Heap) (c : Nat), St 0 h → (∀ b o, b ≠ S → s.heap.get? b = some o → h.get? b = some o) → h.get? S = some { cls := .type "list", data := .seq #[] c } →
     codeAny (model prog w) A (.builtin "list.extend.loop" ⟨[.ref S,.ref I,res],[]⟩) R { s with heap:=h,drawn:=d }:=by
  intro h c st' k' hS';refine codeAny_extend_loopS W.toS hil S hSf res items.length 0 _ #[] c rfl (aTF _) st' hS' (ItemsOf.nil _) λs' acc c' hm hS2 hacc=>?_;rw[Moved.eq_with hm];refine hR s'.heap d s'.toks acc ys c' (λb o nb e=>hm.heap b o (λhx=>?_) (k' b o nb e)) hS2 (by rw[xX hacc];exact sa) py
  rcases aSL.mp hx with e' | hx
  . exact nb e'
  . exact absurd (aSB e) (by rw[aVZ.mp hx];exact aVN.mpr hI)
 refine aSY (aUB (xW (s:={ s with heap:=h1,drawn:=d }) (bQ.ty (s:={ s with heap:=h1,drawn:=d }) (X.kept λo e=>kp a o e)) ?_))
 refine aXH (λ_=>?_) (λ_=>aSX ⟨aWV aXJ _,key h1 0 st (λb o _ e=>kp b o e) hS1⟩);refine aSY (aVY (aSY ?_));show wpAny _ _ (updateSeq S (·.push Value.none) >>= λ_=>updateSeq S (·.pop)) _ _ { s with heap:=h1,drawn:=d }
 refine aSY (aXK (s:={ s with heap:=h1,drawn:=d }) hS1 rfl ?_)
 have hS2:=aV6 (Obj.mapSeq (·.push Value.none)) hS1 rfl;refine aXK (hz:=by seq_fits) hS2 rfl ?_
 have hS3:=aV6 (Obj.mapSeq (·.pop)) hS2 rfl;have oth:∀ b,b≠S->∀ o,h1.get? b=some o->((h1.update S (Obj.mapSeq (·.push Value.none))).update S (Obj.mapSeq (·.pop))).get? b=some o:=λb nb o e =>
  (aUK _ _ (Ne.symm nb)).trans ((aUK _ _ (Ne.symm nb)).trans e)
 exact aSX ⟨aWV aXJ _,key _ _ (W.frame 0 _ _ st λb hb o e=>oth b (λh=>hSf (h ▸ hb)) o e) (λb o nb e=>oth b nb o (kp b o e)) hS3⟩
theorem aKU{R:List Value->Shared->Prop}(hh:A.handled=none)(X:bQ w s.heap a xs)(h:∀ h' d tk vs ys,(∀ b o,s.heap.get? b=some o->h'.get? b=some o)->s.heap.objs.size<h'.objs.size->StrsAre vs ys->ys.Perm xs->R vs { s with heap:=h',drawn:=d,toks:=tk }):wpAny (model prog w) A (collect (.ref a)) R E s:=by
 have la:=X.there;unfold collect;refine aSY (wpAny_runValue (aWW aXL ?_));rw[aWX aXM _];show wpAny (model prog w) A.in1 (newList [] >>= λl=>again (.builtin "list.__iadd__" ⟨[l,.ref a],[]⟩)) _ _ s;refine aSY (aUH (aSX ⟨aWV aXN _,aWW PySem.F.entry_list_iadd ?_⟩));rw[aWX aXN _];have g0:(s.heap.push { cls:=.type "list", data:=.seq ([]:List Value).toArray }).get? s.heap.objs.size=some { cls:=.type "list", data:=.seq #[] }:=aSA _ rfl;show wpAny (model prog w) A.in1 (Builtin.List.listExtendWith (.ref s.heap.objs.size) (.ref a) (.ref s.heap.objs.size)) _ _ _;have key:=ext_x (A:=A) (prog:=prog) (s:={ s with heap:=s.heap.push { cls:=.type "list", data:=.seq ([]:List Value).toArray } })
  (R:=λq s'=>∃ h' d tk vs ys c,q=.ok (.ret (.ref s.heap.objs.size))/\s'={ s with heap:=h',drawn:=d,toks:=tk }/\(∀ b o,s.heap.get? b=some o->h'.get? b=some o)/\h'.get? s.heap.objs.size=some { cls:=.type "list", dict:=none,data:=.seq vs c,slots:=#[] }/\StrsAre vs.toList ys/\ys.Perm xs)
  hh (X.kept λo e=>hps e) s.heap.objs.size (aSW la) (.ref s.heap.objs.size) g0
  λh' d tk vs ys c kp gS sa py=>⟨h',d,tk,vs,ys,c,rfl,rfl,λb o e=>kp b o (aSE (aSB e)) (hps e),gS,sa,py⟩
 refine aSS key (λf s' x=>?_) λe s' x=>?_
 . cases f with
   | done f=>obtain ⟨h',d,tk,vs,ys,c,e,rfl,kp,gS,sa,py⟩:=x;cases e;show wpAny _ A (load s.heap.objs.size >>= _) _ _ _;exact aSY (aSZ gS (aSX (h h' d tk vs.toList ys kp (aSB gS) sa py)))
   | again c1=>refine ⟨x.1,aUS x.2 λq s2 y=>?_⟩;obtain ⟨h',d,tk,vs,ys,c,rfl,rfl,kp,gS,sa,py⟩:=y;show wpAny _ A (load s.heap.objs.size >>= _) _ _ _;exact aSY (aSZ gS (aSX (h h' d tk vs.toList ys kp (aSB gS) sa py)))
 . obtain ⟨_,_,_,_,_,_,e',_⟩:=x;cases e'
theorem aKV{Q:VSP}(hh:A.handled=none)(X:bQ w s.heap a xs)(h64:xs.length<64)(h:∀ h' d tk D out e ys,(∀ b o,s.heap.get? b=some o->h'.get? b=some o)->s.heap.objs.size<=D->h'.get? D=some (seqObj "list" out e)->StrsAre out.toList ys->ys.Perm xs->PyProof.Rows.sortedS ys=true->Q (.ref D) { s with heap:=h',drawn:=d,toks:=tk }):wpAny (model prog w) A (call (.builtin "sorted") [.ref a]) Q E s:=by
 refine aXO kind_sorted plain_sorted entry_sorted (args_sorted1 (.ref a)) ?_;unfold Builtin.«sorted»;refine aSY (m:=checkCount "sorted" 1 1 [Value.ref a].length) (aSX (aSY (aKU (A:=A.in1) hh X λh1 d tk vs ys kp lh sa py=>?_)));have lv:vs.length=xs.length:=by rw[sa.length,py.length_eq]
 refine aSY (aXP ?_ (by rw[lv,aS9];omega))
 have g1:(h1.push (seqObj "list" vs.toArray 0)).get? h1.objs.size=some (seqObj "list" vs.toArray 0):=aSA _ rfl;have k1:∀ b o,s.heap.get? b=some o->b<h1.objs.size:=λb o e=>aSB (kp b o e);refine aSY (aUB (aUE slot_list_sort ⟨_,g1,rfl⟩ entry_list_sort (list_sort_treeK strKind_oneLt (s:={ s with heap:=h1.push (seqObj "list" vs.toArray 0),drawn:=d,toks:=tk }) g1 sa.keysOf (λv1 v2 r e=>keyKind_strs (by rw[<- e];exact sa)) (by rw[lv];exact h64) λst' p1 p2=>⟨_,rfl,?_⟩) (args_list_sort _)))
 obtain ⟨zs,z1,z2,z3⟩:=sorted_out_str sa p1 p2;obtain ⟨e,he⟩:=sortedHeap_at (out:=(arrOf st').map (·.2)) g1;refine aSX ⟨_,rfl,h _ d tk _ _ e zs (λb o hb=>?_) (aSJ lh) he z1 (z2.trans py) z3⟩;have lb:=k1 b o hb;rw[sortedHeap_old (aSE lb) (by rw[aXD];exact aVM lb)]
 exact hps (kp b o hb)
end
def lts(x y:Str):Bool:=ltCps x.cps.toList y.cps.toList
theorem j9{x y:Str}:lts x y=true↔x.cps.toList<y.cps.toList:=by unfold lts;rw[ltCps_eq,aUU]
theorem fV(x:Str):lts x x=false:=by
 cases h:lts x x with
 | false=>rfl
 | true=>exact absurd (j9.mp h) (List.lt_irrefl _)
theorem kA{x y z:Str}(a:lts x y=true)(b:lts y z=true):lts x z=true:=j9.mpr (List.lt_trans (j9.mp a) (j9.mp b))
theorem oB{x y:Str}(a:lts x y=false)(b:lts y x=false):x=y:=by
 have h1:¬ x.cps.toList<y.cps.toList:=λh=>by rw[j9.mpr h] at a;cases a
 have h2:¬ y.cps.toList<x.cps.toList:=λh=>by rw[j9.mpr h] at b;cases b
 have e:=List.le_antisymm (List.not_lt.mp h2) (List.not_lt.mp h1);cases x;cases y;exact congrArg Str.mk (Array.ext' e)
def bR(l:List Str):Prop:=l.Pairwise λx y=>lts x y=true
theorem xY:∀ {l:List Str} {p:Str},risingS p l=true->∀ x∈l,lts x p=false
 | y::l,p,h,x,hx=>by
  have h:(!lts y p&&risingS y l)=true:=h;rw[aUG,aXQ] at h;rcases aSL.mp hx with rfl | hx
  . exact h.1
  . have h2:=xY h.2 x hx;cases q:lts x p with
    | false=>rfl
    | true =>
     cases q2:lts p y with
     | true=>rw[kA q q2] at h2;cases h2
     | false=>have:=oB q2 h.1;subst this;rw[q] at h2;cases h2
theorem rM:∀ {l:List Str},sortedS l=true->l.Nodup->bR l
 | [],_,_=>.nil
 | x::l,h,n=>by
  obtain ⟨n1,n2⟩:=aTP.mp n;refine aXR.mpr ⟨λy hy=>?_,rM ?_ n2⟩
  . have h1:=xY (show risingS x l=true from h) y hy
    cases q:lts x y with
    | true=>rfl
    | false=>exact absurd (oB q h1 ▸ hy) n1
  . cases l with
    | nil=>rfl
    | cons y l=>have h:(!lts y x&&risingS y l)=true:=h;rw[aUG] at h;exact h.2
theorem lT:∀ {l l':List Str},bR l->bR l'->(∀ y,y∈l↔y∈l')->l=l'
 | [],[],_,_,_=>rfl
 | [],x::l',_,_,h=>absurd ((h x).mpr mcs) (by simp)
 | x::l,[],_,_,h=>absurd ((h x).mp mcs) (by simp)
 | x::l,y::l',s,s',h=>by
  obtain ⟨s1,s2⟩:=aXR.mp s;obtain ⟨t1,t2⟩:=aXR.mp s';have e:x=y:=by
   rcases aSL.mp ((h x).mp mcs) with e | hx
   . exact e
   . rcases aSL.mp ((h y).mpr mcs) with e | hy
     . exact e.symm
     . have:=kA (t1 x hx) (s1 y hy);rw[fV] at this;cases this
  subst e;rw[lT s2 t2 λz=>?_];constructor
  . intro hz;rcases aSL.mp ((h z).mp (mcm hz)) with e | h'
    . subst e;have:=s1 z hz;rw[fV] at this;cases this
    . exact h'
  . intro hz;rcases aSL.mp ((h z).mpr (mcm hz)) with e | h'
    . subst e;have:=t1 z hz;rw[fV] at this;cases this
    . exact h'
def iI(x:Str):List Str->List Str
 | []=>[x]
 | y::l=>if x=y then y::l else if lts x y=true then x::y::l else y::iI x l
theorem rN{x z:Str}:∀ {l:List Str},z∈iI x l↔z=x\/z∈l
 | []=>by simp[iI]
 | y::l=>by
  unfold iI;split
  . rename_i e;subst e;simp
  . split
    . simp
    . rw[aSL,rN,aSL];exact ⟨λh=>h.elim (λe=>.inr (.inl e)) λh=>h.imp id .inr,λh=>h.elim (λe=>.inr (.inl e)) λh=>h.imp id .inr⟩
theorem xZ{x:Str}:∀ {l:List Str},bR l->bR (iI x l)
 | [],_=>aXS _ _
 | y::l,s=>by
  obtain ⟨s1,s2⟩:=aXR.mp s;unfold iI;split
  . exact s
  . rename_i ne;split
    . rename_i lt;exact aXR.mpr ⟨λz hz=>(aSL.mp hz).elim (λe=>e ▸ lt) λh=>kA lt (s1 z h),s⟩
    . rename_i nl;refine aXR.mpr ⟨λz hz=>?_,xZ s2⟩;rcases rN.mp hz with rfl | hz
      . cases q:lts y z with
        | true=>rfl
        | false=>exact absurd (oB (by simpa using nl) q) ne
      . exact s1 z hz
def uni(l:List Str):List Str:=l.foldr iI []
theorem dS{z:Str}:∀ {l:List Str},z∈uni l↔z∈l
 | []=>by simp[uni]
 | x::l=>by show z∈iI x (uni l)↔_;rw[rN,dS,aSL]
theorem gO:∀ (l:List Str),bR (uni l)
 | []=>.nil
 | x::l=>xZ (gO l)
def sx(w:World)(l:Addr)(ys:List Str):HO:=.ext λh=>bQ w h l ys
theorem x2{P:Program}{w:World}{H:Hp}{h:Heap}{l:Addr}{ys:List Str}(x:bQ w h l ys):bD P w H h l (sx w l ys):=by
 refine ⟨x,?_,λh1 h2 x1 k=>bQ.kept (show bQ w h1 l ys from x1) k⟩
 obtain ⟨o,es,ep,t,ho,r⟩:=x;exact ⟨o,ho⟩
theorem bQ.nodup{w:World}{h:Heap}{a:Addr}{xs:List Str}(x:bQ w h a xs):xs.Nodup:=by obtain ⟨o,es,ep,t,ho,hex,hd,he,hn,r⟩:=x;exact hn
theorem rO:∀ {ys:List Str} {us:List Value},StrsAre us ys->aM (ys.map V.str) us
 | [],_,.nil=>.nil
 | _::ys,_,.cons y t h=>.cons ⟨t,rfl⟩ (rO h)
section
variable {X:Cx}
theorem Inv.drew{aA:LAO}{σ:L2.St}{H:Hp}{s:Shared}(I:L2.Inv X aA σ H s)(d:Drawn):L2.Inv X aA σ H { s with drawn:=d } :=
 ⟨I.ok,I.os,I.bare,I.base,I.loc,I.cell,I.free,I.freeC,I.pin,I.hok,I.len⟩
def oC(X:Cx):List V->Hp->VK->Prop:=λxs H Q=>∃ (a:Addr) (zs:List Str),xs=[.ref a]/\H a=some (sx X.w a zs)/\zs.Nodup/\zs.length<64/\∀ l,H l=none->Q (.ref l) (upd H l (.lst ((uni zs).map V.str)))
theorem aKW(hc:X.calm=true):cG X (.builtin "sorted") (oC X):=by
 intro aA s σ H xs us Q I r h;obtain ⟨a,zs,rfl,ha,hn,hz,q⟩:=h;obtain ⟨u,rfl,rx⟩:=cH r;cases rx;have xa:bQ X.w s.heap a zs:=(I.hok a _ ha).1;refine aKV (I.ok.hd hc) xa hz λh' d tk D out e ys kp hD g sa py so=>?_;have e1:uni zs=ys:=lT (gO zs) (rM so (py.symm.nodup hn)) λy=>by rw[dS,py.mem_iff]
 have rv:aM (ys.map V.str) out.toList:=rO sa;have le:((uni zs).map V.str).length<=sizeLine:=by rw[aTZ,e1,py.length_eq,aS9];omega
 exact ⟨.ref D,_,Inv.drew (I.laid (t':=tk) kp hD (show bD X.prog X.w _ h' D (.lst ((uni zs).map V.str)) from ⟨le,out.toList,e,by rw[e1];exact rv,by simpa using g⟩)) d,rfl,q D (I.hok.fresh hD)⟩
end
theorem aKX:bootBuiltins "set" = some (.type "set"):=by decide +kernel
theorem rP:bootBuiltins "sorted" = some (.builtin "sorted"):=by decide +kernel
def txD:List D->Option (List Str)
 | []=>some []
 | .str x::ds=>(txD ds).map (x :: ·)
 | _::_=>none
def txT:D->Option (List Str)
 | .tup ds=>txD ds
 | _=>none
theorem oD{K:Fg}{F:Hp}:∀ {ds:List D} {xs:List V} {ns:List Str},txD ds=some ns->aE K F ds xs->xs=ns.map V.str/\∀ x∈ns,x.length<=sizeLine/\PyData.strOk x=true
 | [],xs,ns,e,r=>by cases e;simp only[aE] at r;subst r;exact ⟨rfl,λx hx=>by cases hx⟩
 | d::ds,xs,ns,e,r=>by
  cases d with
  | str x =>
   simp only[txD] at e;cases q:txD ds with
   | none=>rw[q] at e;cases e
   | some ms=>rw[q] at e;cases e;simp only[aE] at r;obtain ⟨v,vs,rfl,rv,rr⟩:=r;obtain ⟨rfl,h2⟩:=oD q rr;simp only[aD] at rv;obtain ⟨rfl,h1⟩:=rv;exact ⟨rfl,λy hy=>(aSL.mp hy).elim (λe=>by subst e;exact h1) (h2 y)⟩
  | _=>cases e
theorem rQ{K:Fg}{F:Hp}:∀ {ns:List Str},(∀ x∈ns,x.length<=sizeLine/\PyData.strOk x=true)->aE K F (ns.map .str) (ns.map V.str)
 | [],_=>by simp[aE]
 | x::ns,h=>by simp only[aUQ,aE,aD];exact ⟨_,_,rfl,⟨rfl,h x mcs⟩,rQ λy hy=>h y (mcm hy)⟩
theorem oE:∀ {ys ns:List Str},ys.Nodup->(∀ y∈ys,y∈ns)->ys.length<=ns.length
 | [],ns,_,_=>aTF _
 | y::ys,ns,n,h=>by
  obtain ⟨n1,n2⟩:=aTP.mp n;have hy:=h y mcs;have:=oE (ns:=ns.erase y) n2 λz hz=>(aXT (λe:z=y=>n1 (by rw[<- e];exact hz))).mpr (h z (mcm hz))
  rw[aXU hy] at this;have:0<ns.length:=aXV hy;rw[aUO];omega
section
variable {C:Cw}{X:Cx}{ga gb:Rho->Res}{ea eb:Expr}
theorem aKY{K:Fg}{F H:Hp}{m:Md}{d:D}{v:V}{ns:List Str}(s:aH F H)(r:Rp K F H m d v)(e:txT d=some ns):(∃ a,v=.ref a/\SqT K H a (ns.map V.str))/\∀ x∈ns,x.length<=sizeLine/\PyData.strOk x=true:=by
 cases d with
 | tup ds=>obtain ⟨a,xs,rfl,h1,h2⟩:=aJN r;obtain ⟨rfl,h3⟩:=oD e h2;exact ⟨⟨a,rfl,aH.seqT s h1⟩,h3⟩
 | _=>cases e
end
theorem aKZ:bootBuiltins "sum" = some (.builtin "sum"):=by decide +kernel
theorem x3:∀ {ns:List Int} {its:List Value} {i:Nat} {v:Value},aM (ns.map V.int) its->its[i]? = some v->∃ t,v=.int (ns.getD i 0) t
 | [],_,i,v,h,e=>by cases h;simp at e
 | n::ns,_,0,v,h,e=>by
  cases h with
  | cons r t=>obtain ⟨tk,rfl⟩:=r;cases e;exact ⟨tk,rfl⟩
 | n::ns,_,i+1,v,h,e=>by
  cases h with
  | cons r t=>obtain ⟨t',h'⟩:=x3 (ns:=ns) (i:=i) t e;exact ⟨t',h'⟩
section
variable {C:Cw}{X:Cx}{ga gb:Rho->Res}{ea eb:Expr}{p p1 p2 q q1 q2 pos:Pos}
def gP:List (Md×D)->Option (Md×D)
 | [(_,.lst ds)]=>match txD ds with
  | some ns=>if ns.Nodup/\ns.length<64 then some (.fr,.lst ((uni ns).map .str)) else none
  | none=>none
 | _=>none
theorem aK0:cG X (.builtin "sorted") (λxs H Q=>∃ (p:Addr) (ns:List Str),xs=[.ref p]/\SqL X.K H p (ns.map V.str)/\ns.Nodup/\ns.length<64/\∀ l,H l=none->Q (.ref l) (upd H l (.lst ((uni ns).map V.str)))):=by
 intro aA s σ H xs us Q I r h;obtain ⟨p,ns,rfl,hp,hn,hz,q⟩:=h;obtain ⟨u,rfl,rx⟩:=cH r;cases rx;obtain ⟨its,rv,pl,_⟩:=I.list hp;have sa:=lJ rv;have lz:its.length=ns.length:=sa.length;refine sorted_strs pl.isList sa (by rw[lz];exact hz) λout ys oa py so=>?_
 obtain ⟨e,he⟩:=sortedAll_at s.heap its out;have e1:uni ns=ys:=lT (gO ns) (rM so (py.symm.nodup hn)) λy=>by rw[dS,py.mem_iff]
 have le:((uni ns).map V.str).length<=sizeLine:=by rw[aTZ,e1,py.length_eq,aS9];omega
 exact ⟨.ref (s.heap.objs.size+1),_,I.laid (t':=s.toks) (λb o e=>sortedAll_old e) (aVS _) (show bD X.prog X.w _ _ _ (.lst ((uni ns).map V.str)) from ⟨le,out.toList,e,by rw[e1];exact rO oa,by simpa using he⟩),rfl,q _ (I.hok.fresh (aVS _))⟩
theorem aK1:aZ X (.builtin "sorted") gP:=by
 refine ⟨_,aK0,λF H xs vs k d Q s rx e w=>?_⟩;unfold gP at e;split at e
 . rename_i m ds;split at e
   . rename_i ns en;split at e
     . rename_i hc;cases e;obtain ⟨v,rfl,r⟩:=rx.one;obtain ⟨a,xs,rfl,q,rl⟩:=r.seqL s;obtain ⟨rfl,k1⟩:=oD en rl;exact ⟨a,ns,rfl,q,hc.1,hc.2,λl hl=>w (.ref l) F _ (aJ.fresh _ s hl) ⟨l,rfl,s.free hl,_,a7,rQ λx hx=>k1 x (dS.mp hx)⟩ λ_ a ea=>by cases ea;exact hl⟩
     . cases e
   . cases e
 . cases e
def fW:List (Md×D)->Option (Md×D)
 | [(_,.lst [])]=>some (.fz,.int 0)
 | [(_,.lst [.int i])]=>some (.fz,.int i)
 | _=>none
theorem x5(hc:X.calm=true):cG X (.builtin "sum") (λxs H Q=>∃ (p:Addr) (ns:List Int),xs=[.ref p]/\SqL X.K H p (ns.map V.int)/\Q (.int (preSum (λi=>ns.getD i 0) ns.length)) H):=by
 intro aA s σ H xs us Q I r h;obtain ⟨p,ns,rfl,hp,q⟩:=h;obtain ⟨u,rfl,rx⟩:=cH r;cases rx;obtain ⟨its,rv,pl,_⟩:=I.list hp;have hl:=pl.isList;obtain ⟨ol,hol,hr⟩:=id hl;have lp:p<s.heap.objs.size:=aSB hol;have lz:its.length=ns.length:=by have:=rv.length;simpa using this.symm
 refine call_sum_walkG (aS0 hl ⟨s.heap.objs.size,_,_,_,_,_,λi=>ns.getD i 0,rfl,Walks.list (A:=X.A.in1) (I.ok.hd hc) s.heap.objs.size p (aSE lp) its.toArray,⟨⟨_,aSA _ rfl,rfl,rfl⟩,hl.push _⟩,λb hb=>?_,λi v hv=>?_,λh' tk t' kp=>?_⟩)
 . simp only[aSL,aXG,aWD] at hb;show b<(s.heap.push _).objs.size;rw[aXD];rcases hb with rfl | rfl
   . exact aTE _
   . exact aVM lp
 . have hv:its[i]? = some v:=by simpa using hv
   exact x3 rv hv
 . have I1:L2.Inv X aA σ H { s with heap:=h',toks:=tk }:=I.kept λb o e=>kp b o (by simp only[aSL,aXG,aWD];exact aSE (aSB e)) (hps e)
   refine ⟨.int _,H,I1,⟨t',rfl⟩,?_⟩;simpa[lz] using q
theorem aK2(hc:X.calm=true):aZ X (.builtin "sum") fW:=by
 refine ⟨_,x5 hc,λF H xs vs k d Q s rx e w=>?_⟩;unfold fW at e;split at e
 . cases e;obtain ⟨v,rfl,r⟩:=rx.one;obtain ⟨a,xs,rfl,q,rl⟩:=r.seqL s;simp only[aE] at rl;subst rl;exact ⟨a,[],rfl,q,w (.int 0) F H (.refl s) (by show aD X.K F (.int 0) (.int 0);simp only[aD]) (by intro z;cases z)⟩
 . rename_i m i;cases e;obtain ⟨v,rfl,r⟩:=rx.one;obtain ⟨a,xs,rfl,q,rl⟩:=r.seqL s;simp only[aE,aD] at rl;obtain ⟨y,ys,rfl,rfl,rfl⟩:=rl;refine ⟨a,[i],rfl,q,w (.int _) F H (.refl s) (by show aD X.K F (.int i) (.int _);simp[aD,preSum]) (by intro z;cases z)⟩
 . cases e
end
section
variable {prog:Program}{w:World}{A:Around}{E:VSP}{s:Shared}{I l:Addr}{items:Array Value}
end
section
variable {C:Cw}{X:Cx}{ga:Rho->Res}{ea:Expr}{p p1 q1 pos:Pos}
end
def joinT:Md->D->List (Md×D)->Option (Md×D):=λ_ x xs=>match x,xs with
 | .str z,[(_,d)]=>(match txT d with
  | some ys=>if (ys.map (·.length)).sum+ys.length * z.length<=sizeLine then some (.fz,.str (Txt.join z ys)) else none
  | none=>none)
 | _,_=>none
theorem aK3{X:Cx}:MtD X "str.join" joinT:=by
 refine ⟨λv vs H Q=>∃ (z:Str) (a:Addr) (ys:List Str),v=.str z/\vs=[.ref a]/\SqT X.K H a (ys.map V.str)/\(ys.map (·.length)).sum+ys.length * z.length<=sizeLine/\Q (.str (Txt.join z ys)) H,?_,?_⟩
 . intro aA s σ H x xs v us Q I rx r h;obtain ⟨z,a,ys,rfl,rfl,hq,hl,q⟩:=h;obtain ⟨t,rfl⟩:=rx;obtain ⟨u,rfl,ru⟩:=cH r;cases (show u=Value.ref a from ru)
   obtain ⟨its,rv,p,hz⟩:=I.tuple hq;have hs:sizeLine=16777216:=aS9;exact join_tuple p (by simpa using lJ rv) (by omega) λt' k=>⟨.str (Txt.join z ys),H,I.tok _,⟨_,rfl⟩,q⟩
 . intro F H m x xs v vs k d Q s rx rl e w;unfold joinT at e;split at e
   . rename_i z m' dd;obtain ⟨rfl,hz,hk⟩:=rx.str;obtain ⟨u,rfl,r⟩:=rl.one;split at e
     . rename_i ys ey;obtain ⟨⟨a,rfl,hq⟩,hys⟩:=aKY s r ey;split at e
       . rename_i hl;cases e;refine ⟨z,a,ys,rfl,rfl,hq,hl,w _ F H (.refl s) (e5 ⟨?_,?_⟩) (by intro z;cases z)⟩
         . rw[i7];exact aSI (aVQ z ys) hl
         . rw[i7];exact qQ hk λy hy=>(hys y hy).2
       . cases e
     . cases e
   . cases e
def CE:Bool->Expr->List Comprehension->Scope->Pos->Expr
 | true,el,gs,sc,p=>.ListComp el gs sc p
 | false,el,gs,sc,p=>.SetComp el gs sc p
def lU(b:Bool)(elt:Expr)(acc:Value)(env:Env):Sem Unit:=match b with
 | true=>(do let _ <- call (.builtin "list.append") [acc,<- eval elt env])
 | false=>(do let v <- eval elt env;standAt elt.pos;let _ <- call (.builtin "set.add") [acc,v])
def x6(e tg aF:Expr)(ifs:List Expr)(aL:Expr)(it acc:Value)(env:Env):Sem PySem.Fin:=do
 standAt aF.pos
 match <- pyNext it with
 | none=>pure (.done .next)
 | some v =>
  letOwnedTupleGo tg it v
  assign tg env v
  let mut ok:=true
  for c in ifs do
   if ok then ok <- isTrue c env (eval c env)
  if ok then
   let x <- eval aL env
   standAt aL.pos
   let x <- foldedSetIterable aL env x
   let _ <- runOwn (.compStart e 1 (<- holding [x] (pyIter x)) acc env) env
  again (.compLoop e 0 it acc env)
def x8(e tg aF:Expr)(em:Sem Unit)(it acc:Value)(env:Env):Sem PySem.Fin:=do
 standAt aF.pos
 match <- pyNext it with
 | none=>pure (.done .next)
 | some v =>
  letOwnedTupleGo tg it v
  assign tg env v
  em
  again (.compLoop e 1 it acc env)
theorem aK4(b:Bool)(elt tg aF tg2 aL:Expr)(ifs:List Expr)(scope:Scope)(pos:Pos)(it acc:Value)(env:Env):compTurn (CE b elt [⟨tg,aF,ifs,0⟩,⟨tg2,aL,[],0⟩] scope pos) 0 it acc env=x6 (CE b elt [⟨tg,aF,ifs,0⟩,⟨tg2,aL,[],0⟩] scope pos) tg aF ifs aL it acc env:=by cases b <;> rfl
theorem aK5(b:Bool)(elt tg aF tg2 aL:Expr)(ifs:List Expr)(scope:Scope)(pos:Pos)(it acc:Value)(env:Env):compTurn (CE b elt [⟨tg,aF,ifs,0⟩,⟨tg2,aL,[],0⟩] scope pos) 1 it acc env=x8 (CE b elt [⟨tg,aF,ifs,0⟩,⟨tg2,aL,[],0⟩] scope pos) tg2 aL (lU b elt acc env) it acc env:=by cases b <;> rfl
section
variable {prog:Program}{w:World}{A:Around}{R:Result->Shared->Prop}{s:Shared}{b:Bool}{elt tg aF tg2 aL:Expr}{ifs:List Expr}{scope:Scope}{pos:Pos}{it acc:Value}{env:Env}
theorem loopA (hs2 : ∀ x, foldedSetIterable aL env x = pure x) (I : Nat → Shared → Prop) (turn : ∀ n s, I n s → wpAny (model prog w) A (pyNext it) (fun r s1 => match r with
      | none=>R (.ok .next) s1
      | some v => wpAny (model prog w) A (letOwnedTupleGo tg it v) (fun _ s1' => wpAny (model prog w) A (assign tg env v) (fun _ s2 =>
          wpAny (model prog w) A (forIn ifs true λc r=>if r=true then do let ok <- isTrue c env (eval c env);pure (ForInStep.yield ok) else pure (ForInStep.yield r)) (λok s3 =>
           if ok=true then wpAny (model prog w) A (eval aL env) (λx s4=>wpAny (model prog w) A (pyIter x) (λit2 s5 =>
            codeAny (model prog w) A (.compStart (CE b elt [⟨tg,aF,ifs,0⟩,⟨tg2,aL,[],0⟩] scope pos) 1 it2 acc env) (λr s6=>match r with | .ok _=>∃ m,m<n/\I m s6 | .error _=>False) s5) (λ_ _=>False) s4) (λ_ _=>False) s3
           else ∃ m, m < n ∧ I m s3) (fun _ _ => False) s2) (fun _ _ => False) s1') (fun _ _ => False) s1) (fun _ _ => False) s)
    (n:Nat) (h:I n s) :
    codeAny (model prog w) A (.compLoop (CE b elt [⟨tg,aF,ifs,0⟩,⟨tg2,aL,[],0⟩] scope pos) 0 it acc env) R s:=by
 refine codeAny_loop (by cases b <;> rfl) I (λn s hI=>?_) n h
 have e0:A.under (.compLoop (CE b elt [⟨tg,aF,ifs,0⟩,⟨tg2,aL,[],0⟩] scope pos) 0 it acc env)=A:=by cases b <;> rfl
 have e1:(model prog w).den (.compLoop (CE b elt [⟨tg,aF,ifs,0⟩,⟨tg2,aL,[],0⟩] scope pos) 0 it acc env)=((compTurn (CE b elt [⟨tg,aF,ifs,0⟩,⟨tg2,aL,[],0⟩] scope pos) 0 it acc env).onRaise (λx=>do noteFrame x env;theTreesLotGoes x)):=by cases b <;> rfl
 rw[e0,e1];refine wpAny_noted ?_;rw[aK4];unfold x6;refine aSY (aVK (aSY (aSS (turn n s hI) (λr s1 h1=>?_) λ_ _ h'=>h'.elim)));cases r with
 | none=>exact aSX h1
 | some v =>
  refine aSY (aSS h1 (λ_ s1' h1'=>?_) λ_ _ h'=>h'.elim);refine aSY (aSS h1' (λ_ s2 h2=>aSY (aSS h2 (λok s3 h3=>?_) λ_ _ h'=>h'.elim)) λ_ _ h'=>h'.elim);cases ok with
  | false=>exact aSX ⟨rfl,h3⟩
  | true =>
   refine aSY (aSS h3 (λx s4 h4=>aSY (aVK (aSY (aWB (hs2 x) ?_)))) λ_ _ h'=>h'.elim);refine aSY (aUB (aSS h4 (λit2 s5 h5=>?_) λ_ _ h'=>h'.elim));refine aSY (wpAny_runOwn (aUS h5 λr s6 h6=>?_));cases r with
   | ok f=>exact aSX ⟨rfl,h6⟩
   | error e=>exact h6.elim
theorem loopB (I : Nat → Shared → Prop) (turn : ∀ n s, I n s → wpAny (model prog w) A (pyNext it) (fun r s1 => match r with
      | none=>R (.ok .next) s1
      | some v => wpAny (model prog w) A (letOwnedTupleGo tg2 it v) (fun _ s1' => wpAny (model prog w) A (assign tg2 env v) (fun _ s2 =>
          wpAny (model prog w) A (lU b elt acc env) (fun _ s5 => ∃ m, m < n ∧ I m s5) (fun _ _ => False) s2) (fun _ _ => False) s1') (fun _ _ => False) s1) (fun _ _ => False) s)
    (n:Nat) (h:I n s) :
    codeAny (model prog w) A (.compLoop (CE b elt [⟨tg,aF,ifs,0⟩,⟨tg2,aL,[],0⟩] scope pos) 1 it acc env) R s:=by
 refine codeAny_loop (by cases b <;> rfl) I (λn s hI=>?_) n h
 have e0:A.under (.compLoop (CE b elt [⟨tg,aF,ifs,0⟩,⟨tg2,aL,[],0⟩] scope pos) 1 it acc env)=A:=by cases b <;> rfl
 have e1:(model prog w).den (.compLoop (CE b elt [⟨tg,aF,ifs,0⟩,⟨tg2,aL,[],0⟩] scope pos) 1 it acc env)=((compTurn (CE b elt [⟨tg,aF,ifs,0⟩,⟨tg2,aL,[],0⟩] scope pos) 1 it acc env).onRaise (λx=>do noteFrame x env;theTreesLotGoes x)):=by cases b <;> rfl
 rw[e0,e1];refine wpAny_noted ?_;rw[aK5];unfold x8;refine aSY (aVK (aSY (aSS (turn n s hI) (λr s1 h1=>?_) λ_ _ h'=>h'.elim)));cases r with
 | none=>exact aSX h1
 | some v=>refine aSY (aSS h1 (λ_ s1' h1'=>?_) λ_ _ h'=>h'.elim);exact aSY (aSS h1' (λ_ s2 h2=>aSY (aSS h2 (λ_ s3 h3=>aSX ⟨rfl,h3⟩) λ_ _ h'=>h'.elim)) λ_ _ h'=>h'.elim)
theorem x9(d:Nat)(hd:d=0\/d=1)(h0:codeAny (model prog w) A (.compLoop (CE b elt [⟨tg,aF,ifs,0⟩,⟨tg2,aL,[],0⟩] scope pos) d it acc env) R s)(h:wpAny (model prog w) A (pyIter it) (λit' s'=>codeAny (model prog w) A (.compLoop (CE b elt [⟨tg,aF,ifs,0⟩,⟨tg2,aL,[],0⟩] scope pos) d it' acc env) R s') (λ_ _=>False) s):codeAny (model prog w) A (.compStart (CE b elt [⟨tg,aF,ifs,0⟩,⟨tg2,aL,[],0⟩] scope pos) d it acc env) R s:=by
 refine codeAny_of_tree ?_;have e0:A.under (.compStart (CE b elt [⟨tg,aF,ifs,0⟩,⟨tg2,aL,[],0⟩] scope pos) d it acc env)=A:=by cases b <;> rfl
 have e1:(model prog w).den (.compStart (CE b elt [⟨tg,aF,ifs,0⟩,⟨tg2,aL,[],0⟩] scope pos) d it acc env)=((compStart (CE b elt [⟨tg,aF,ifs,0⟩,⟨tg2,aL,[],0⟩] scope pos) d it acc env).onRaise (λx=>do noteFrame x env;standAt theWindowsPlace)):=by cases b <;> rfl
 rw[e0,e1];refine wpAny_notedAt ?_;unfold compStart;have e2:clausesOf (CE b elt [⟨tg,aF,ifs,0⟩,⟨tg2,aL,[],0⟩] scope pos)=[⟨tg,aF,ifs,0⟩,⟨tg2,aL,[],0⟩]:=by cases b <;> rfl
 rw[e2];rcases hd with rfl | rfl
 all_goals
  show wpAny _ _ (ask >>= _) _ _ s;refine aSY (aWY (wpAny_ite ?_));split
  . first
      | exact aSY (aSX (aSX (And.intro rfl h0)))
      | exact aSX (And.intro rfl h0)
  . first
      | exact aSY (aVY (aSY (aVK (aSY (aSS h (λit' s' h'=>aSX (And.intro rfl h')) λ_ _ x=>x.elim)))))
      | (refine aSY (aVY ?_);show wpAny _ _ (standAt _ >>= _) _ _ s;exact aSY (aVK (aSY (aSS h (λit' s' h'=>aSX (And.intro rfl h')) λ_ _ x=>x.elim))))
end
abbrev TEm:=L2.St->Hp->(Hp->Prop)->Prop
def PEm(X:Cx)(b:Bool)(elt:Expr)(D:Addr)(tm:TEm):Prop:=∀ (aA:LAO) (s:Shared) (σ:L2.St) (H:Hp) (R:Hp->Prop),L2.Inv X aA σ H s->tm σ H R ->
 wpAny (model X.prog X.w) X.A (lU b elt (.ref D) X.env) (λ_ s'=>∃ H',L2.Inv X aA σ H' s'/\R H') X.xe s
def lV(w:World)(b:Bool)(D:Addr):HO:=match b with | true=>.lst [] | false=>sx w D []
def kB(b:Bool):Sem Value:=match b with | true=>newList [] | false=>newSet (.type "set")
theorem aK6{X:Cx}{b:Bool}{aA:LAO}{σ:L2.St}{H:Hp}{s:Shared}{E:VSP}{Q:VSP}(I:L2.Inv X aA σ H s)(q:∀ s3:Shared,L2.Inv X aA σ (upd H s.heap.objs.size (lV X.w b s.heap.objs.size)) s3->s3.heap.objs.size=s.heap.objs.size+1->(∀ b o,s.heap.get? b=some o->s3.heap.get? b=some o)->Q (.ref s.heap.objs.size) s3):wpAny (model X.prog X.w) X.A (kB b) Q E s:=by
 cases b with
 | true=>unfold kB;refine aUH (q _ ?_ (aTD _ _) λb o e=>hps e);exact I.laid (t':=s.toks) (λb u e=>hps e) (aS1 _) ⟨aTF _,[],0,.nil,aSA _ rfl⟩
 | false=>unfold kB;refine aKK (q _ ?_ (aTD _ _) λb o e=>hps e);exact I.laid (t':=s.toks) (λb u e=>hps e) (aS1 _) (x2 (sob_x (aSA _ rfl)))
def iJ(w:World)(b:Bool)(aB:List Nat)(k:Nat)(wi:TI)(gt:TG)(tt:TT)(wi2:TI)(gt2:TG)(tm:Addr->TEm):TE:=λσ H Q=>wi σ H λJ H1=>∀ D,H1 D=none ->
 ∃ W:Nat->Nat->Hp->Prop,(∃ m,W 0 m (upd H1 D (lV w b D)))/\∀ i m H,W i m H ->
  ((J.stop i H/\Q (.ref D) H)\/(J.go i H/\∀ x H',J.yld i H x H'->gt x (aX aB σ++List.replicate k none) H' λσ2 H2=>lI (aX aB σ++List.replicate k none) σ2/\tt σ2 H2 λc H3 =>
   if c=true then wi2 σ2 H3 λJ2 H4=>∃ W2:Nat->Nat->Hp->Prop,(∃ m2,W2 0 m2 H4)/\∀ j m2 H,W2 j m2 H ->
    ((J2.stop j H/\∃ m',m'<m/\W (i+1) m' H)\/(J2.go j H/\∀ y H',J2.yld j H y H'->gt2 y σ2 H' λσ3 H5=>lI σ2 σ3/\tm D σ3 H5 λH6=>∃ m2',m2'<m2/\W2 (j+1) m2' H6))
   else ∃ m',m'<m/\W (i+1) m' H3))
theorem yA{X:Cx}{b:Bool}{elt aF tg aL tg2:Expr}{ifs:List Expr}{scope:Scope}{pos:Pos}{aB:List Nat}{aC tgN:List Str}{wi wi2:TI}{gt gt2:TG}{tt:TT}{tm:Addr->TEm}{use:Option (Value->Sem Unit)}{QQ:VSP}{aA:LAO}{s:Shared}{σ:L2.St}{H:Hp}{Q:VK}(hc:X.calm=true)(hi:PI X tg aF wi)(bE:∀ y∈scope.names,y.2 ≠ .cell)(bJ:scope.kind=.function)(bY:∀ y∈scope.names,y.2=.local->scope.names.lookup y.1=some .local)(bL:∀ y∈scope.names,y.2=.free->X.env.kindOf y.1=some .cell\/X.env.kindOf y.1=some .free)(bP:aC.map some=aB.map λi=>X.N[i]?)(cA:∀ y∈aC,(y,NameKind.free)∈scope.names)(bZ:∀ y∈aC,(relabel scope X.env).names.lookup y=some .cell\/(relabel scope X.env).names.lookup y=some .free)(hg:∀ cl C fp s3 H3,PG (aV X scope (aC++tgN) cl C fp s3 H3) tg gt)(hf:∀ cl C fp s3 H3,cS (aV X scope (aC++tgN) cl C fp s3 H3) ifs tt)(hi2:∀ cl C fp s3 H3,PI (aV X scope (aC++tgN) cl C fp s3 H3) tg2 aL wi2)(hg2:∀ cl C fp s3 H3,PG (aV X scope (aC++tgN) cl C fp s3 H3) tg2 gt2)(he:∀ cl C fp s3 H3 D,PEm (aV X scope (aC++tgN) cl C fp s3 H3) b elt D (tm D))(hs:∀ x,foldedSetIterable aF X.env x=pure x)(hs2:∀ env x,foldedSetIterable aL env x=pure x)(I:L2.Inv X aA σ H s)(h:iJ X.w b aB tgN.length wi gt tt wi2 gt2 tm σ H Q)(hend:∀ (D Z:Addr) (s6:Shared) (H5:Hp),(∃ m,s6.heap.Ns Z m)->(∀ h'',Heap.SameBut Z s6.heap h''->L2.Inv X aA σ H5 { s6 with heap:=h'' })->H5 Z=none->X.s₀.heap.objs.size<=Z->Z≠X.env.locals->(∀ x c,X.env.cells.lookup x=some c->c≠Z)->(∀ p∈X.pn++aA,p.1≠Z)->Q (.ref D) H5->compPost (model X.prog X.w) X.A X.xe use QQ (.ref D) Z (.ok .next) s6):wpAny (model X.prog X.w) X.A (comprehension (CE b elt [⟨tg,aF,ifs,0⟩,⟨tg2,aL,[],0⟩] scope pos) scope X.env (firstIterPos [⟨tg,aF,ifs,0⟩,⟨tg2,aL,[],0⟩] pos) (kB b) (firstAsync [⟨tg,aF,ifs,0⟩,⟨tg2,aL,[],0⟩]) (firstIter [⟨tg,aF,ifs,0⟩,⟨tg2,aL,[],0⟩] X.env) use) QQ X.xe s:=by
 obtain ⟨cl,hclos,clsub,clhas⟩:=qP (scope:=scope) (env:=X.env) λy hy hk=>I.ok.has y.1 (bL y hy hk);refine aVL (use:=use) (by cases b <;> rfl) hs hclos bJ bY (thn (hi aA s σ H _ I h) λv s1 h1=>thn h1 λitv s2 h2=>?_)
 obtain ⟨it,fp,tn,J,H2,e,I2,T,st2,f2,q⟩:=h2;subst e;refine aK6 I2 λs3 I3 sz3 keep23=>?_;have hn:H2 s2.heap.objs.size=none:=I2.hok.fresh (aS1 _);obtain ⟨W,⟨m0,w0⟩,turn⟩:=q s2.heap.objs.size hn;generalize hH3:upd H2 s2.heap.objs.size (lV X.w b s2.heap.objs.size)=H3 at I3 w0;have fpl:∀ b∈fp,b<s2.heap.objs.size:=λb hb=>by obtain ⟨o,eo,_⟩:=T.obj 0 _ st2 b hb;exact aSB eo
 have hDf:s2.heap.objs.size∉fp:=λhb=>aSD _ (fpl _ hb);refine wpAny_newFunctionEnv bE (by intro y hy;simp at hy) (λh4 hns hsb=>?_) bJ
 try dsimp only at hns hsb ⊢
 have keep34:∀ b o,s3.heap.get? b=some o->h4.get? b=some o:=λb o e=>hsb.extBut b o (aSE (aSB e)) (hps e);have nostk:∀ b∈fp,b∉frs X.stack:=λb hb z=>by
  obtain ⟨_,f1,f2',_⟩:=f2 b hb;rcases aSL.mp (I2.stkSub b z) with q | q
  . exact f1 q
  . exact f2' q
 have okc:(aV X scope (aC++tgN) cl s3.heap.objs.size fp s3 H3).Ok :=
  { mod:=I3.ok.mod
    kind:=bJ
    glob:=I3.ok.glob
    blt:=I3.ok.blt
    above:=aS1 _
    inj:=λx y c h1 h2=>I3.ok.inj x y c (clsub x c h1) (clsub y c h2)
    has:=λx hx=>clhas x (wB bE hx)
    cab:=λx c z=>by cases z
    hd:=I3.ok.hd
    frames:=I3.ok.frames
    stk:=.inl rfl
    exf:=λb hb=>⟨aSE (by show b<s3.heap.objs.size;rw[sz3];exact aVM (fpl b hb)),λx c e=>(f2 b hb).2.2.2.2.1 x c (clsub x c e)⟩
    bs:=I3.bs
    bsz:=aSI I3.ok.bsz I3.sz
    noex:=λb o e hb=>by
     obtain ⟨_,_,_,f3,_⟩:=f2 b hb;rcases f3 with z | z
     . exact I2.ok.noex b o e z
     . exact absurd (aSB (I2.ok.bs b o e).1) (aVN.mpr z)
    exfs:=nostk
    funs:=I3.stack
    frf:=I3.stkFree }
 have capLen:aC.length=aB.length:=by have:=congrArg List.length bP;simpa using this
 generalize hσ0:aX aB σ++List.replicate tgN.length none=σ0 at turn;have Ic:Inv (aV X scope (aC++tgN) cl s3.heap.objs.size fp s3 H3) [] σ0 H3 { s3 with heap:=h4,toks:=s3.toks+([]:List (Str×Value)).length }:=by
  refine ⟨okc,rfl,I3.bare,Un.kept keep34,⟨_,hns,λi y v h1 h2 h3=>?_⟩,λx c e=>?_,I3.hok.fresh (aS1 _),λx c e=>I3.freeC x c (clsub x c e),λp hp=>absurd (show p∈([]:LAO) from hp) (by simp),I3.hok.kept keep34,?_⟩
  . by_cases hi:i<aB.length
    . have ey:aC[i]? = some y:=by have h1:(aC++tgN)[i]? = some y:=h1;rw[aTV (by rw[capLen];exact hi)] at h1;exact h1
      have hj:X.N[aB[i]]? = some y:=by
       have e1:(aC.map some)[i]? = (aB.map λi=>X.N[i]?)[i]?:=by rw[bP]
       rw[aTW,aTW,ey,aU7 hi] at e1;simpa using e1.symm
      have ev:σ[aB[i]]? = some (some v):=by
       rw[<- hσ0,aTV (by simpa[aX] using hi)] at h2
       unfold aX at h2;rw[aTW,aU7 hi] at h2;simp only[aVC,aVO] at h2;cases z:σ[aB[i]]? with
       | none=>rw[z] at h2;cases h2
       | some o=>rw[z] at h2;exact congrArg some h2
      have hyf:=cA y (aTX ey);have hkX:=bL _ hyf rfl;obtain ⟨m,_,hl⟩:=I3.loc;obtain ⟨u,ru,lk⟩:=hl aB[i] y v hj ev (by rcases hkX with z | z;exact .inr (.inl z);exact .inr (.inr z))
      refine ⟨u,ru,.inr ⟨bZ y (aTX ey),?_⟩⟩;rcases lk with ⟨hk,_⟩ | ⟨_,c,ec,ic⟩
      . rcases hkX with z | z
        . rw[show X.env.kindOf y=some .cell from z] at hk;cases hk
        . rw[show X.env.kindOf y=some .free from z] at hk;cases hk
      . obtain ⟨c',ec'⟩:=clhas y hyf;have:=clsub y c' ec';rw[ec] at this;cases this;exact ⟨c,ec',ic.keeps keep34⟩
    . rw[<- hσ0,aTT (by simpa[aX] using hi),aTU] at h2
      split at h2 <;> cases h2
  . obtain ⟨v,q⟩:=I3.cell x c (clsub x c e);exact ⟨v,q.keeps keep34⟩
  . rw[<- hσ0];show (aX aB σ++List.replicate tgN.length none).length=(aC++tgN).length;simp[aX,capLen]
 have fpc:∀ {H':Hp},(∀ b∈fp,H' b=none)->∀ b∈fp,dQ (aV X scope (aC++tgN) cl s3.heap.objs.size fp s3 H3) [] H' b:=λhn b hb =>
  ⟨hn b hb,(okc.exf b hb).1,nostk b hb,.inl hb,(okc.exf b hb).2,λp hp=>absurd (show p∈([]:LAO) from hp) (by simp)⟩
 have loop:codeAny (model X.prog X.w) X.A (.compLoop (CE b elt [⟨tg,aF,ifs,0⟩,⟨tg2,aL,[],0⟩] scope pos) 0 (.ref it) (.ref s2.heap.objs.size) (compEnvC scope cl s3.heap.objs.size X.env)) (compPost (model X.prog X.w) X.A X.xe use QQ (.ref s2.heap.objs.size) s3.heap.objs.size) { s3 with heap:=h4,toks:=s3.toks+([]:List (Str×Value)).length }:=by
  refine loopA (hs2 _) (λn s'=>∃ i H',Inv (aV X scope (aC++tgN) cl s3.heap.objs.size fp s3 H3) [] σ0 H' s'/\tn i s'.heap/\(∀ b∈fp,H' b=none)/\W i n H') ?_ m0
   ⟨0,H3,Ic,T.keep _ _ _ st2 (λb hb o e=>keep34 b o (keep23 b o e)),λb hb=>by rw[<- hH3,aN (by intro z;rw[z] at hb;exact hDf hb)];exact (f2 b hb).1,w0⟩
  rintro n s5 ⟨i,H5,I5,st5,fr5,w5⟩;rcases turn i n H5 w5 with ⟨stop,qq⟩ | ⟨go,step⟩
  . refine thn (T.done (aV X scope (aC++tgN) cl s3.heap.objs.size fp s3 H3) rfl rfl rfl hc i [] s5 σ0 H5 _ I5 (fpc fr5) st5 stop) λr s6 ⟨hr,I6⟩=>?_;subst hr;obtain ⟨m,hm,_⟩:=id I6.loc;refine hend s2.heap.objs.size s3.heap.objs.size s6 H5 ⟨m,hm⟩ (λh'' hsb2=>?_) I6.free I3.sz (λz=>?_) (λx c ec z=>?_) (λp hp z=>?_) qq;rotate_left
    . obtain ⟨m,⟨o,es,ep,ho,_⟩,_⟩:=id I3.loc;rw[<- z] at ho;exact aSD _ (aSB ho)
    . obtain ⟨v,o,ho,_⟩:=I3.cell x c ec;rw[z] at ho;exact aSD _ (aSB ho)
    . have:=(I3.pin p hp).1;rw[z] at this;exact aSD _ (aSB this)
    have u:=I6.base;have neC:∀ b o,s3.heap.get? b=some o->b≠s3.heap.objs.size:=λb o e=>aSE (aSB e);have un:Un (frs X.stack) fp H3 H5 s3.heap h'':=by
     refine ⟨λb o e n hb hx=>hsb2.extBut b o (neC b o e) (u.keep b o e n hb hx),λb o e n hb hx=>?_,u.free,λb o e hx=>?_,u.tups,u.frzs,u.tbls⟩
     . obtain ⟨sl,q⟩:=u.slot b o e n hb hx;exact ⟨sl,hsb2.extBut b _ (neC b o e) q⟩
     . obtain ⟨o',q⟩:=u.there b o e hx;exact ⟨o',hsb2.extBut b _ (neC b o e) q⟩
    have hok : HOk X.prog X.w H5 h'' := fun a o e => (I6.hok a o e).stay (fun b v hb q => hsb2.extBut b v (by
        intro z;have fr:=I6.free;rcases hb with hb | hb
        . rw[hb] at z;rw[z] at e;rw[show H5 s3.heap.objs.size=none from fr] at e;cases e
        . rw[z,show H5 s3.heap.objs.size=none from fr] at hb;cases hb) q) (λ_ q=>q) λ_ _ q=>q
    have os6:=I6.os;obtain ⟨hh,g6,d6,t6,o6⟩:=s6;obtain rfl:o6=s3.os:=os6;have I8:=I3.call (h':=h'') (g':=g6) (d':=d6) (t':=t6) (ch:=fp) un hok I6.bare λb hb=>by obtain ⟨_,f1,_,f3,f4,f5⟩:=f2 b hb;exact ⟨f3,f1,f4,f5⟩
    exact I8
  . refine thn (T.item (aV X scope (aC++tgN) cl s3.heap.objs.size fp s3 H3) rfl rfl rfl hc i [] s5 σ0 H5 _ I5 (fpc fr5) st5 go) λr s6 ⟨u,hr,h6⟩=>?_;subst hr;refine thn h6 λ_ s7 ⟨x,H7,I7,r7,y7,st7,fr7⟩=>?_;have I7':=I7.pinned (fpc fr7) (T.obj _ _ st7);refine thn (hg cl s3.heap.objs.size fp s3 H3 _ s7 σ0 H7 x u _ I7' r7 (step x H7 y7)) λ_ s8 ⟨σ8,H8,I8,wk,q8⟩=>?_;have back:∀ {H':Hp} {s':Shared} {m':Nat},Inv (aV X scope (aC++tgN) cl s3.heap.objs.size fp s3 H3) ([]++hW fp s7.heap) σ8 H' s'->m'<n->W (i+1) m' H' ->
        ∃ m,m<n/\∃ i H',Inv (aV X scope (aC++tgN) cl s3.heap.objs.size fp s3 H3) [] σ0 H' s'/\tn i s'.heap/\(∀ b∈fp,H' b=none)/\W i m H':=λ{H' s' m'} I' hm w'=>by
      have pinned:∀ b∈fp,∀ o,s7.heap.get? b=some o->s'.heap.get? b=some o/\H' b=none:=λb hb o e=>by have:=I'.pin (b,o) (aS5 _ (aS5 _ (jO hb e)));exact ⟨this.1,this.2.1⟩
      refine ⟨m',hm,i+1,H',I'.unpinned.weak wk.1 wk.2,T.keep _ _ _ st7 λb hb o e=>(pinned b hb o e).1,λb hb=>?_,w'⟩;obtain ⟨o,e,_⟩:=T.obj _ _ st7 b hb;exact (pinned b hb o e).2
    refine thn (hf cl s3.heap.objs.size fp s3 H3 _ s8 σ8 H8 _ I8 q8) λc s9 ⟨H9,I9,q9⟩=>?_;cases c with
    | false=>rw[if_neg aS8] at q9 ⊢;obtain ⟨m',hm,w9⟩:=q9;exact back I9 hm w9
    | true =>
     rw[if_pos rfl] at q9 ⊢;generalize hps:([]:LAO)++hW fp s7.heap=ps at I9 back;refine thn (hi2 cl s3.heap.objs.size fp s3 H3 ps s9 σ8 H9 _ I9 q9) λv2 s10 h10=>thn h10 λitv2 s11 h11=>?_;obtain ⟨it2,fp2,tn2,J2,H11,e2,I11,T2,st11,f11,W2,⟨m20,w20⟩,turn2⟩:=h11;subst e2;have stat:∀ {H':Hp},(∀ b∈fp2,H' b=none)->∀ b∈fp2,dQ (aV X scope (aC++tgN) cl s3.heap.objs.size fp s3 H3) ps H' b:=λhn b hb=>⟨hn b hb,(f11 b hb).2⟩;have loop2:codeAny (model X.prog X.w) X.A (.compLoop (CE b elt [⟨tg,aF,ifs,0⟩,⟨tg2,aL,[],0⟩] scope pos) 1 (.ref it2) (.ref s2.heap.objs.size) (compEnvC scope cl s3.heap.objs.size X.env)) (λr s6=>match r with | .ok _=>∃ m,m<n/\∃ i H',Inv (aV X scope (aC++tgN) cl s3.heap.objs.size fp s3 H3) [] σ0 H' s6/\tn i s6.heap/\(∀ b∈fp,H' b=none)/\W i m H' | .error _=>False) s11:=by
      refine loopB (λn2 s'=>∃ j H',Inv (aV X scope (aC++tgN) cl s3.heap.objs.size fp s3 H3) ps σ8 H' s'/\tn2 j s'.heap/\(∀ b∈fp2,H' b=none)/\W2 j n2 H') ?_ m20 ⟨0,H11,I11,st11,λb hb=>(f11 b hb).1,w20⟩;rintro n2 s12 ⟨j,H12,I12,st12,fr12,w12⟩;rcases turn2 j n2 H12 w12 with ⟨stop2,m',hm,w13⟩ | ⟨go2,step2⟩
      . refine thn (T2.done (aV X scope (aC++tgN) cl s3.heap.objs.size fp s3 H3) rfl rfl rfl hc j ps s12 σ8 H12 _ I12 (stat fr12) st12 stop2) λr s13 ⟨hr,I13⟩=>?_;subst hr;exact back I13 hm w13
      . refine thn (T2.item (aV X scope (aC++tgN) cl s3.heap.objs.size fp s3 H3) rfl rfl rfl hc j ps s12 σ8 H12 _ I12 (stat fr12) st12 go2) λr s13 ⟨u2,hr,h13⟩=>?_;subst hr;refine thn h13 λ_ s14 ⟨y,H14,I14,r14,y14,st14,fr14⟩=>?_;have I14':=I14.pinned (stat fr14) (T2.obj _ _ st14);refine thn (hg2 cl s3.heap.objs.size fp s3 H3 _ s14 σ8 H14 y u2 _ I14' r14 (step2 y H14 y14)) λ_ s15 ⟨σ15,H15,I15,wk2,q15⟩=>?_;refine thn (he cl s3.heap.objs.size fp s3 H3 _ _ s15 σ15 H15 _ I15 q15) λ_ s16 ⟨H16,I16,m2',hm2,w16⟩=>?_;have pinned:∀ b∈fp2,∀ o,s14.heap.get? b=some o->s16.heap.get? b=some o/\H16 b=none:=λb hb o e=>by have:=I16.pin (b,o) (aS5 _ (aS5 _ (jO hb e)));exact ⟨this.1,this.2.1⟩
        refine ⟨m2',hm2,j+1,H16,I16.unpinned.weak wk2.1 wk2.2,T2.keep _ _ _ st14 λb hb o e=>(pinned b hb o e).1,λb hb=>?_,w16⟩;obtain ⟨o,e,_⟩:=T2.obj _ _ st14 b hb;exact (pinned b hb o e).2
     exact x9 1 (.inr rfl) loop2 (T2.self _ 0 _ _ _ st11 loop2)
 exact x9 0 (.inl rfl) loop (T.self _ 0 _ _ _ (T.keep _ _ _ st2 (λb hb o e=>keep34 b o (keep23 b o e))) loop)
def jA:Rho->Res:=λ_=>.ok .fz (.bl true)
def dM(i j:Nat)(t gi2 e:Rho->Res)(ρ0:Rho):List D->Option (List D)
 | []=>some []
 | d::ds=>match t (ρ0.set i (some (false,d))) with
  | .ok _ (.bl true)=>(match gi2 (ρ0.set i (some (false,d))) with
   | .ok _ (.lst es)=>(match dR (i5 j) jA e (ρ0.set i (some (false,d))) es with
    | some ys=>(dM i j t gi2 e ρ0 ds).map (ys ++ ·)
    | none=>none)
   | _=>none)
  | .ok _ (.bl false)=>dM i j t gi2 e ρ0 ds
  | _=>none
def lW(ρ:Rho):Prop:=∀ (i:Nat) (m:Bool) (d:D),ρ[i]? = some (some (m,d))->m=false
theorem aK7(aB:List Nat)(ρ:Rho)(n:Nat):lW (bA aB ρ++List.replicate n none):=λi m d e=>by
 by_cases hi:i<aB.length
 . rw[aTV (by simpa[bA] using hi)] at e
   unfold bA at e;rw[aTW,aU7 hi] at e;simp only[aVC,aVO] at e;split at e
   . cases e;rfl
   . cases e
 . rw[aTT (by simpa[bA] using hi),aTU] at e
   split at e <;> cases e
theorem lW.set{ρ:Rho}(h:lW ρ)(i:Nat)(d:D):lW (ρ.set i (some (false,d))):=λk m d' e=>by
 rw[aVB] at e;split at e
 . split at e <;> cases e;rfl
 . exact h k m d' e
theorem aY.later{K:Fg}{F0 H0 F H F' H':Hp}{σ:L2.St}{ρ:Rho}(R:aY K F0 H0 F H σ ρ)(af:lW ρ)(st:aJ F0 H0 F' H')(sF:aH F F'):aY K F0 H0 F' H' σ ρ :=
 ⟨st,λi m d e=>by
  obtain ⟨v,e1,r,_⟩:=R.slot i m d e;cases af i m d e
  exact ⟨v,e1,aD.mono sF _ _ r,by intro z;cases z⟩,λi j d d' a _ e1 _ _ _=>absurd (af _ _ _ e1) (by decide),R.len⟩
def AR(K:Fg)(w:World)(b:Bool)(Da:Addr)(F:Hp)(zs:List D)(o:HO):Prop:=match b with
 | true=>∃ ys,o=.lst ys/\aE K F zs ys
 | false=>∃ (ns ys:List Str),zs=ns.map .str/\o=sx w Da ys/\ys.Nodup/\ys.length<=ns.length/\(∀ x,x∈ys↔x∈ns)/\∀ x∈ns,x.length<=sizeLine/\PyData.strOk x=true
theorem AR.mono{K:Fg}{w:World}{b:Bool}{Da:Addr}{F F':Hp}{zs:List D}{o:HO}(h:AR K w b Da F zs o)(s:aH F F'):AR K w b Da F' zs o:=by
 cases b with
 | true=>obtain ⟨ys,e,r⟩:=h;exact ⟨ys,e,r.mono s _ _⟩
 | false=>exact h
def oF:D->Bool | .str _=>true | _=>false
def rR(b:Bool):Nat:=match b with | true=>sizeLine | false=>scanBound-1
def emK(w:World)(b:Bool)(Da:Addr)(y:V)(H4:Hp)(R:Hp->Prop):Prop:=match b with
 | true=>∃ ys,H4 Da=some (.lst ys)/\ys.length<sizeLine/\R (upd H4 Da (.lst (ys++[y])))
 | false=>∃ x ys,y=.str x/\H4 Da=some (sx w Da ys)/\ys.length+1<scanBound/\∀ ys',ys'.Nodup->(∀ z,z∈ys'↔z∈ys\/z=x)->ys'.length<=ys.length+1->R (upd H4 Da (sx w Da ys'))
def emT(w:World)(b:Bool)(te:TE)(Da:Addr):TEm:=λσ H R=>te σ H λy H4=>emK w b Da y H4 R
theorem pem{X:Cx}{elt:Expr}{te:TE}(b:Bool)(Da:Addr)(h:PE X elt te):PEm X b elt Da (emT X.w b te Da):=by
 intro aA s σ H R I q;cases b with
 | true=>unfold lU;refine aSY (thn (h aA s σ H _ I q) λv s1 ⟨y,H1,I1,r1,ys,hD,hl,q1⟩=>?_);refine aSY (thn (nI (X:=X) _ s1 σ H1 (.ref Da) [y] (.ref Da) [v] (λv H'=>v=.non/\H'=upd H1 Da (.lst (ys++[y]))) I1 rfl (.cons r1 .nil) ⟨Da,ys,y,rfl,rfl,hD,hl,rfl,rfl⟩) λ_ s2 ⟨v2,H2,I2,_,_,e2⟩=>?_);subst e2;exact aSX ⟨_,I2,q1⟩
 | false =>
  unfold lU;refine aSY (thn (h aA s σ H _ I q) λv s1 ⟨y,H1,I1,r1,x,ys,ey,hD,hl,q1⟩=>?_);subst ey;obtain ⟨tk,rfl⟩:=r1;refine aSY (aVK (aSY ?_));have xa:bQ X.w s1.heap Da ys:=(I1.hok Da _ hD).1;refine aUE F.slot_set_add xa.ty F.entry_set_add ?_ (F.args_set_add_2 _ _);unfold Builtin.«set.add» Builtin.Frozenset.oneOther;simp only[List.isEmpty_nil,bind_assoc];unfold Builtin.Frozenset.addrOf;refine aSY (aSX ?_)
  try dsimp only
  refine aSY (aSX ?_)
  try dsimp only
  refine aSY (aKH xa hl λh' ys' sb X2 pm=>?_);refine aSX ⟨_,rfl,aSX ⟨_,I1.write (x:=Da) (e:=Da) (o:=sx X.w Da ys') (by rw[hD];exact trivial) (.inl rfl) (λb' u hb hu=>sb.extBut b' u hb hu) (by obtain ⟨o,es,ep,t,ho,_⟩:=id X2;exact ⟨o,ho⟩) (x2 X2),q1 ys' X2.nodup (λz=>?_) ?_⟩⟩
  . rw[pm.mem_iff];split
    . rename_i hx;exact ⟨.inl,λh=>h.elim id λe=>e ▸ hx⟩
    . rw[aSM,aVZ]
  . rw[pm.length_eq];split
    . omega
    . rw[aTY];simp
theorem AR.add{K:Fg}{w:World}{b:Bool}{Da:Addr}{F F' H4:Hp}{zs:List D}{o:HO}{ye:D}{yv:V}{R:Hp->Prop}(h:AR K w b Da F zs o)(s:aH F F')(rd:aD K F' ye yv)(hl:zs.length<rR b)(hb:b=false->oF ye=true)(hD:H4 Da=some o)(q:∀ o',AR K w b Da F' (zs++[ye]) o'->R (upd H4 Da o')):emK w b Da yv H4 R:=by
 cases b with
 | true=>obtain ⟨ys,rfl,r⟩:=h;exact ⟨ys,hD,by rw[r.length];exact hl,q _ ⟨_,rfl,aE.append (r.mono s _ _) (aE.cons rd aE.nil)⟩⟩
 | false =>
  obtain ⟨ns,ys,rfl,rfl,nd,ll,me,ok⟩:=h;cases ye with
  | str x =>
   simp only[aD] at rd;obtain ⟨rfl,k1⟩:=rd;have hl:ns.length<scanBound-1:=by rw[aTZ] at hl;exact hl
   refine ⟨x,ys,rfl,hD,by omega,λys' nd' me' ll'=>q _ ⟨ns++[x],ys',by simp,rfl,nd',?_,λz=>?_,λz hz=>?_⟩⟩
   . rw[aTY];simp;omega
   . rw[me',me,aSM,aVZ]
   . rcases aSM.mp hz with hz | hz
     . exact ok z hz
     . rw[aVZ.mp hz];exact k1
  | _=>have:=hb rfl;cases this
section
variable {C:Cw}{X:Cx}
theorem yB {b : Bool} {aB : List Nat} {gt gi2 ge : Rho → Res} {σ : L2.St} {F H : Hp} {ρ : Rho} (RS : aY (C.at X).K (C.at X).F0 (C.at X).H0 F H σ ρ) {ds total : List D} (et : dM aB.length (aB.length + 1) gt gi2 ge (bA aB ρ ++ List.replicate 2 none) ds = some total) (lim : total.length ≤ rR b) (str : b = false → total.all oF = true) {J : It} {F1 H1 : Hp} (s1 : aJ F H F1 H1) (hJ : jW X.K F1 J ds) {Da : Addr} (hDa : H1 Da = none) {Q : VK} (fin : ∀ F' H' o, aJ F H F' H' → F' Da = none → H' Da = some o → AR X.K X.w b Da F' total o → Q (.ref Da) H') : ∃ W : Nat → Nat → Hp → Prop, (∃ m, W 0 m (upd H1 Da (lV X.w b Da))) ∧ ∀ i m H, W i m H → ((J.stop i H ∧ Q (.ref Da) H) ∨ (J.go i H ∧ ∀ x H', J.yld i H x H' → gOf X.K (.nm aB.length) x (aX aB σ ++ List.replicate 2 none) H' fun σ2 H2 => lI (aX aB σ ++ List.replicate 2 none) σ2 ∧ tT (C.nox.at X) gt σ2 H2 fun c H3 =>
      if c=true then tIv (C.nox.at X) gi2 σ2 H3 λJ2 H4=>∃ W2:Nat->Nat->Hp->Prop,(∃ m2,W2 0 m2 H4)/\∀ j m2 H,W2 j m2 H ->
       ((J2.stop j H/\∃ m',m'<m/\W (i+1) m' H)\/(J2.go j H/\∀ y H',J2.yld j H y H'->gOf X.K (.nm (aB.length+1)) y σ2 H' λσ3 H5=>lI σ2 σ3/\emT X.w b (tG (C.nox.at X) λρ=>bB (ge ρ)) Da σ3 H5 λH6=>∃ m2',m2'<m2/\W2 (j+1) m2' H6))
      else ∃ m',m'<m/\W (i+1) m' H3)):=by
 have hD0:H Da=none:=s1.same.free hDa;have hF1:F1 Da=none:=s1.sub.free hDa;have R0:=wI aB 2 RS;have af0:=aK7 aB ρ 2;have ls:(aX aB σ).length=aB.length:=by simp[aX]
 generalize hρ0:bA aB ρ++List.replicate 2 none=ρ0 at et R0 af0;have n0:∀ u,(aX aB σ++List.replicate 2 none)[aB.length]?≠some (some u):=λu z=>by
  rw[aTT (by omega),aTU] at z
  split at z <;> cases z
 have n1:∀ u,(aX aB σ++List.replicate 2 none)[aB.length+1]?≠some (some u):=λu z=>by
  rw[aTT (by omega),aTU] at z
  split at z <;> cases z
 generalize hσ0:aX aB σ++List.replicate 2 none=σ0 at R0 n0 n1;have a0:AR X.K X.w b Da F1 [] (lV X.w b Da):=by
  cases b with
  | true=>exact ⟨[],rfl,aE.nil⟩
  | false=>exact ⟨[],[],rfl,rfl,aWU,aS1 _,λx=>Iff.rfl,λx hx=>nomatch hx⟩
 refine ⟨λi m H'=>m=ds.length-i/\i<=ds.length/\∃ F' zs o,H' Da=some o/\AR X.K X.w b Da F' zs o/\aJ F H F' H'/\aH F1 F'/\F' Da=none /\
  ∃ aU,dM aB.length (aB.length+1) gt gi2 ge ρ0 (ds.drop i)=some aU/\total=zs++aU,
  ⟨ds.length,by simp,aTF _,F1,[],_,a7,a0,s1.upd hD0 hF1,aH.refl _,hF1,total,by simpa using et,rfl⟩,?_⟩
 rintro i m H' ⟨rfl,hile,F',zs,o,hD,ar,st,sF,hFD,aU,ec,etot⟩;by_cases hlt:i<ds.length
 . refine .inr ⟨hJ.go i H' (sF.trans st.sub) hlt,λv H2 y=>?_⟩;obtain ⟨F2,d,ed,s2,rd⟩:=hJ.yld i F' H' v H2 sF st.sub hlt y;have hd:ds.drop i=d::ds.drop (i+1):=by rw[aVD hlt];rw[aU7 hlt] at ed;cases ed;rfl
   rw[hd] at ec;unfold dM at ec;have hD2:H2 Da=some o:=s2.same _ _ hD;have hF2:F2 Da=none:=s2.new _ hFD (by rw[hD];exact λz=>nomatch z)
   have R1:aY (C.at X).K (C.at X).F0 (C.at X).H0 F2 H2 (σ0.set aB.length (some v)) (ρ0.set aB.length (some (false,d))):=((R0.step st).step s2).set (m:=false) (.refl s2.sub) rd (by intro z;cases z)
   have af1:=af0.set aB.length d;generalize hρ1:ρ0.set aB.length (some (false,d))=ρ1 at ec R1 af1;simp only[gOf];refine ⟨⟨by simp,λj u ej=>?_⟩,ρ1,F2,R1,?_⟩
   . have:j≠aB.length:=by rintro rfl;exact n0 u ej
     rw[aSR (λz=>this z.symm)];exact ej
   cases ett:gt ρ1 with
   | stuck=>rw[ett] at ec;cases ec
   | exc c=>rw[ett] at ec;cases ec
   | ok mt dt =>
    cases dt with
    | bl c =>
     rw[ett] at ec;intro F3 H3 s3;have hD3:H3 Da=some o:=s3.same _ _ hD2;have hF3:F3 Da=none:=s3.new _ hF2 (by rw[hD2];exact λz=>nomatch z)
     cases c with
     | false=>rw[if_neg aS8];exact ⟨ds.length-(i+1),by omega,rfl,hlt,F3,zs,o,hD3,ar.mono (s2.fsame.trans s3.fsame),(st.trans s2).trans s3,(sF.trans s2.fsame).trans s3.fsame,hF3,aU,ec,etot⟩
     | true =>
      rw[if_pos rfl];dsimp only at ec;refine ⟨ρ1,F3,R1.step s3,?_⟩;cases ei:gi2 ρ1 with
      | stuck=>rw[ei] at ec;cases ec
      | exc c=>rw[ei] at ec;cases ec
      | ok mi di =>
       cases di with
       | lst es =>
        rw[ei] at ec;dsimp only at ec;cases ei2:dR (i5 (aB.length+1)) jA ge ρ1 es with
        | none=>rw[ei2] at ec;cases ec
        | some mid =>
         rw[ei2] at ec;cases er:dM aB.length (aB.length+1) gt gi2 ge ρ0 (ds.drop (i+1)) with
         | none=>rw[er] at ec;cases ec
         | some rest' =>
          rw[er] at ec;cases ec;intro J2 F4 H4 s4 hJ2;have hD4:H4 Da=some o:=s4.same _ _ hD3;have hF4:F4 Da=none:=s4.new _ hF3 (by rw[hD3];exact λz=>nomatch z)
          have st4:aJ F H F4 H4:=((st.trans s2).trans s3).trans s4;have R4:=(R1.step s3).step s4;refine ⟨λj m2 H'=>m2=es.length-j/\j<=es.length/\∃ F' zs' o,H' Da=some o/\AR X.K X.w b Da F' zs' o/\aJ F H F' H'/\aH F4 F'/\F' Da=none /\
           ∃ rest2,dR (i5 (aB.length+1)) jA ge ρ1 (es.drop j)=some rest2/\total=zs'++rest2++rest',
           ⟨es.length,by simp,aTF _,F4,zs,o,hD4,ar.mono ((s2.fsame.trans s3.fsame).trans s4.fsame),st4,aH.refl _,hF4,mid,by simpa using ei2,by rw[etot,aW0]⟩,?_⟩
          rintro j m2 H5 ⟨rfl,hjle,F5,zs5,o5,hD5,ar5,st5,sF5,hF5,rest2,ec2,etot2⟩;by_cases hjl:j<es.length
          . refine .inr ⟨hJ2.go j H5 (sF5.trans st5.sub) hjl,λv2 H6 y2=>?_⟩;obtain ⟨F6,d2,ed2,s6,rd2⟩:=hJ2.yld j F5 H5 v2 H6 sF5 st5.sub hjl y2;have hd2:es.drop j=d2::es.drop (j+1):=by rw[aVD hjl];rw[aU7 hjl] at ed2;cases ed2;rfl
            rw[hd2] at ec2;unfold dR at ec2;rw[show i5 (aB.length+1) d2 ρ1=some (ρ1.set (aB.length+1) (some (false,d2))) from rfl] at ec2
            dsimp only[jA] at ec2;have hD6:H6 Da=some o5:=s6.same _ _ hD5;have hF6:F6 Da=none:=s6.new _ hF5 (by rw[hD5];exact λz=>nomatch z)
            have R5:aY (C.at X).K (C.at X).F0 (C.at X).H0 F6 H6 (σ0.set aB.length (some v)) ρ1:=R4.later af1 (RS.st.trans (st5.trans s6)) (sF5.trans s6.fsame);have R6:aY (C.at X).K (C.at X).F0 (C.at X).H0 F6 H6 ((σ0.set aB.length (some v)).set (aB.length+1) (some v2)) (ρ1.set (aB.length+1) (some (false,d2))):=R5.set (m:=false) (.refl s6.sub) rd2 (by intro z;cases z)
            simp only[gOf];refine ⟨⟨by simp,λk u ek=>?_⟩,?_⟩
            . have:k≠aB.length+1:=by
                rintro rfl;rw[aSR (by omega)] at ek
                exact n1 u ek
              rw[aSR (λz=>this z.symm)];exact ek
            unfold emT;rw[a8];refine ⟨_,F6,R6,?_⟩;cases ee:bB (ge (ρ1.set (aB.length+1) (some (false,d2)))) with
            | stuck=>rw[ee] at ec2;cases ec2
            | exc c=>rw[ee] at ec2;cases ec2
            | ok me ye =>
             rw[ee] at ec2;dsimp only at ec2;cases aJ0 ee;cases er2:dR (i5 (aB.length+1)) jA ge ρ1 (es.drop (j+1)) with
             | none=>rw[er2] at ec2;cases ec2
             | some rest3 =>
              rw[er2] at ec2;cases ec2;intro u F7 H7 s7 ru _;have hD7:H7 Da=some o5:=s7.same _ _ hD6;have hF7:F7 Da=none:=s7.new _ hF6 (by rw[hD6];exact λz=>nomatch z)
              have hll:zs5.length<rR b:=by have:=congrArg List.length etot2;simp only[aTY,aUO] at this;omega
              have hst:b=false->oF ye=true:=λeb=>aU4.mp (str eb) ye (by rw[etot2];simp)
              refine ar5.add (s6.fsame.trans s7.fsame) ru hll hst hD7 λo' ar'=>?_;exact ⟨es.length-(j+1),by omega,rfl,hjl,F7,zs5++[ye],o',a7,ar',((st5.trans s6).trans s7).upd hD0 hF7,(sF5.trans s6.fsame).trans s7.fsame,hF7,rest3,rfl,by rw[etot2];simp⟩
          . have ej:j=es.length:=by omega
            subst ej;rw[aVE] at ec2;cases ec2;rw[aTO] at etot2;exact .inl ⟨hJ2.stop _ H5 (sF5.trans st5.sub) (aS1 _),ds.length-(i+1),by omega,rfl,hlt,F5,zs5,o5,hD5,ar5,st5,(((sF.trans s2.fsame).trans s3.fsame).trans s4.fsame).trans sF5,hF5,rest',rfl,by simpa using etot2⟩
       | _=>rw[ei] at ec;cases ec
    | _=>rw[ett] at ec;cases ec
 . have ei:i=ds.length:=by omega
   subst ei;rw[aVE] at ec;cases ec;rw[aTO] at etot;subst etot;exact .inl ⟨hJ.stop _ H' (sF.trans st.sub) (aS1 _),fin F' H' o st hFD hD ar⟩
end
def gQ(src:Res)(ρ:Rho)(aB:List Nat)(t gi2 e:Rho->Res):Res:=src.thn λ_ d=>match d with
 | .lst ds=>(match dM aB.length (aB.length+1) t gi2 e (bA aB ρ++List.replicate 2 none) ds with
  | some ys=>if ys.length<=sizeLine then .ok .fr (.lst ys) else .stuck
  | none=>.stuck)
 | _=>.stuck
def jB(src:Res)(ρ:Rho)(aB:List Nat)(t gi2 e:Rho->Res):Res:=src.thn λ_ d=>match d with
 | .lst ds=>(match dM aB.length (aB.length+1) t gi2 e (bA aB ρ++List.replicate 2 none) ds with
  | some ys=>(match txD ys with
   | some ns=>if ns.length<scanBound/\(uni ns).length<64 then .ok .fr (.lst ((uni ns).map .str)) else .stuck
   | none=>.stuck)
  | none=>.stuck)
 | _=>.stuck
theorem rS:∀ {ys:List D} {ns:List Str},txD ys=some ns->ys=ns.map .str/\ys.all oF=true
 | [],ns,e=>by simp[txD] at e;subst e;exact ⟨rfl,rfl⟩
 | d::ds,ns,e=>by
  cases d with
  | str x =>
   unfold txD at e;cases h:txD ds with
   | none=>rw[h] at e;cases e
   | some ms=>rw[h] at e;cases e;obtain ⟨e1,e2⟩:=rS h;exact ⟨by rw[e1];rfl,by rw[aVT,e2];rfl⟩
  | _=>simp[txD] at e
section
variable {C:Cw}{X:Cx}{elt aF tg aL tg2:Expr}{ifs:List Expr}{scope:Scope}{pos:Pos}{aB:List Nat}{aC tgN:List Str}{gi gt gi2 ge:Rho->Res}
theorem yC{σ:L2.St}{H:Hp}{Q:VK}(q:tG (C.at X) (λρ=>gQ (gi ρ) ρ aB gt gi2 ge) σ H Q):iJ X.w true aB 2 (tIv (C.at X) gi) (gOf X.K (.nm aB.length)) (tT (C.nox.at X) gt) (tIv (C.nox.at X) gi2) (gOf X.K (.nm (aB.length+1))) (emT X.w true (tG (C.nox.at X) λρ=>bB (ge ρ))) σ H Q:=by
 rw[a8] at q;obtain ⟨ρ,F,RS,w⟩:=q;unfold iJ;refine ⟨ρ,F,RS,?_⟩;cases er:gi ρ with
 | stuck=>rw[er] at w;exact w
 | exc c=>rw[er] at w;exact w
 | ok m d =>
  rw[er] at w;cases d with
  | lst ds =>
   unfold gQ at w;rw[Res.thn_ok] at w;dsimp only at w;intro J F1 H1 s1 hJ Da hDa;cases et:dM aB.length (aB.length+1) gt gi2 ge (bA aB ρ++List.replicate 2 none) ds with
   | none=>rw[et] at w;exact w.elim
   | some total =>
    rw[et] at w;dsimp only at w;split at w
    . rename_i hsz;refine yB (b:=true) RS et hsz (λz=>nomatch z) s1 hJ hDa λF' H' o st hF hD ar=>?_;obtain ⟨ys,rfl,r⟩:=ar;exact w (.ref Da) F' H' st ⟨Da,rfl,hF,ys,hD,r⟩ λ_ a ea=>by cases ea;exact s1.same.free hDa
    . exact w.elim
  | _=>exact w.elim
theorem aK8{σ:L2.St}{H:Hp}{Q:VK}(q:tG (C.at X) (λρ=>jB (gi ρ) ρ aB gt gi2 ge) σ H Q):tCB (oC X) (fK (iJ X.w false aB 2 (tIv (C.at X) gi) (gOf X.K (.nm aB.length)) (tT (C.nox.at X) gt) (tIv (C.nox.at X) gi2) (gOf X.K (.nm (aB.length+1))) (emT X.w false (tG (C.nox.at X) λρ=>bB (ge ρ)))) k5) σ H Q:=by
 show iJ X.w false aB 2 (tIv (C.at X) gi) (gOf X.K (.nm aB.length)) (tT (C.nox.at X) gt) (tIv (C.nox.at X) gi2) (gOf X.K (.nm (aB.length+1))) (emT X.w false (tG (C.nox.at X) λρ=>bB (ge ρ))) σ H λr H5=>oC X [r] H5 Q;rw[a8] at q;obtain ⟨ρ,F,RS,w⟩:=q;unfold iJ;refine ⟨ρ,F,RS,?_⟩;cases er:gi ρ with
 | stuck=>rw[er] at w;exact w
 | exc c=>rw[er] at w;exact w
 | ok m d =>
  rw[er] at w;cases d with
  | lst ds =>
   unfold jB at w;rw[Res.thn_ok] at w;dsimp only at w;intro J F1 H1 s1 hJ Da hDa;cases et:dM aB.length (aB.length+1) gt gi2 ge (bA aB ρ++List.replicate 2 none) ds with
   | none=>rw[et] at w;exact w.elim
   | some total =>
    rw[et] at w;dsimp only at w;cases ex:txD total with
    | none=>rw[ex] at w;exact w.elim
    | some ns =>
     rw[ex] at w;dsimp only at w;split at w
     . rename_i hsz;obtain ⟨em,ea⟩:=rS ex;refine yB (b:=false) (Q:=λr H5=>oC X [r] H5 Q) RS et (by rw[em,aTZ];exact Nat.le_sub_one_of_lt hsz.1) (λ_=>ea) s1 hJ hDa λF' H' o st hF hD ar=>?_
       obtain ⟨ms,ys,e1,rfl,nd,ll,me,ok⟩:=ar;have e2:ns=ms:=by rw[em] at e1;exact List.map_inj_right (λx y h=>by cases h;rfl) |>.mp e1
       subst e2;have eu:uni ys=uni ns:=lT (gO _) (gO _) λy=>by rw[dS,dS,me]
       have l2:ys.length<=(uni ns).length:=oE nd λy hy=>by rw[dS];exact (me y).mp hy
       refine ⟨Da,ys,rfl,hD,nd,aXW l2 hsz.2,λL hL=>?_⟩;have s6:=st.trans (aJ.fresh (.lst ((uni ys).map V.str)) st.sub hL);refine w (.ref L) F' _ s6 ⟨L,rfl,st.sub.free hL,_,a7,?_⟩ λ_ a' ea'=>?_
       . rw[eu];exact rQ λx hx=>ok x (dS.mp hx)
       . cases ea';exact st.same.free hL
     . exact w.elim
  | _=>exact w.elim
theorem aK9(b:Bool)(gens:List Comprehension)(env:Env):eval (CE b elt gens scope pos) env=comprehension (CE b elt gens scope pos) scope env (firstIterPos gens pos) (kB b) (firstAsync gens) (firstIter gens env):=by cases b <;> rfl
variable (hc : X.calm = true) (hi : PIv C X tg aF gi) (bE : ∀ y ∈ scope.names, y.2 ≠ .cell) (bJ : scope.kind = .function) (bY : ∀ y ∈ scope.names, y.2 = .local → scope.names.lookup y.1 = some .local)
    (bL:∀ y∈scope.names,y.2=.free->X.env.kindOf y.1=some .cell\/X.env.kindOf y.1=some .free)
    (bP:aC.map some=aB.map λi=>X.N[i]?) (cA:∀ y∈aC,(y,NameKind.free)∈scope.names)
    (bZ:∀ y∈aC,(relabel scope X.env).names.lookup y=some .cell\/(relabel scope X.env).names.lookup y=some .free)
    (hn:tgN.length=2)
    (hg:∀ cl A fp s3 H3,PGw (aV X scope (aC++tgN) cl A fp s3 H3) tg (.nm aB.length)) (hf:∀ cl A fp s3 H3,cS (aV X scope (aC++tgN) cl A fp s3 H3) ifs (tT (C.nox.at X) gt))
    (hi2:∀ cl A fp s3 H3,PIv C.nox (aV X scope (aC++tgN) cl A fp s3 H3) tg2 aL gi2) (hg2:∀ cl A fp s3 H3,PGw (aV X scope (aC++tgN) cl A fp s3 H3) tg2 (.nm (aB.length+1)))
    (he:∀ cl A fp s3 H3,PV C.nox (aV X scope (aC++tgN) cl A fp s3 H3) elt ge)
    (hs:∀ x,foldedSetIterable aF X.env x=pure x) (hs2:∀ env x,foldedSetIterable aL env x=pure x)
include hc hi bE bJ bY bL bP cA bZ hn hg hf hi2 hg2 he hs hs2
theorem yD(b:Bool):PE X (CE b elt [⟨tg,aF,ifs,0⟩,⟨tg2,aL,[],0⟩] scope pos) (iJ X.w b aB 2 (tIv (C.at X) gi) (gOf X.K (.nm aB.length)) (tT (C.nox.at X) gt) (tIv (C.nox.at X) gi2) (gOf X.K (.nm (aB.length+1))) (emT X.w b (tG (C.nox.at X) λρ=>bB (ge ρ)))):=by intro aA s σ H Q I h;rw[aK9];rw[<- hn] at h;exact yA (wi2:=tIv (C.nox.at X) gi2) (use:=none) hc hi bE bJ bY bL bP cA bZ hg hf hi2 hg2 (λcl A fp s3 H3 D=>pem b D (fN (he cl A fp s3 H3))) hs hs2 I h λD Z s6 H5 hm hI _ _ _ _ _ q=>by obtain ⟨m,hm⟩:=hm;exact ⟨m,hm,λh'' hs=>⟨.ref D,H5,hI h'' hs,rfl,q⟩⟩
theorem aLA:PV C X (.ListComp elt [⟨tg,aF,ifs,0⟩,⟨tg2,aL,[],0⟩] scope pos) (λρ=>gQ (gi ρ) ρ aB gt gi2 ge) :=
 PE.imp (yD (pos:=pos) hc hi bE bJ bY bL bP cA bZ hn hg hf hi2 hg2 he hs hs2 true) λσ H Q q=>yC q
theorem aLB{p q:Pos}(gs:Gl X "sorted")(ns:X.mg "sorted" = none):PV C X (.Call (.Name "sorted" p) [.SetComp elt [⟨tg,aF,ifs,0⟩,⟨tg2,aL,[],0⟩] scope pos] [] q) (λρ=>jB (gi ρ) ρ aB gt gi2 ge) :=
 PE.imp (nE (aKW hc) gs ns rP (hX (yD (pos:=pos) hc hi bE bJ bY bL bP cA bZ hn hg hf hi2 hg2 he hs hs2 false) iW)) λσ H Q q=>aK8 q
theorem aLC{i:Nat}{x:Str}{pos' spos:Pos}(fz:Bool)(hN:X.N.Nodup)(hx:X.N[i]? = some x)(hk:X.env.scope.names.lookup x=some .local)(hsw:swapsWith (.ListComp elt [⟨tg,aF,ifs,0⟩,⟨tg2,aL,[],0⟩] scope pos) (some (.Name x pos')) spos.line X.env=pure true):PSv C X (.Assign [.Name x pos'] (.ListComp elt [⟨tg,aF,ifs,0⟩,⟨tg2,aL,[],0⟩] scope pos) spos) (λρ=>dY ρ i (if fz=true then bB (gQ (gi ρ) ρ aB gt gi2 ge) else gQ (gi ρ) ρ aB gt gi2 ge)):=by
 have key:PS X (.Assign [.Name x pos'] (.ListComp elt [⟨tg,aF,ifs,0⟩,⟨tg2,aL,[],0⟩] scope pos) spos) (jN (iJ X.w true aB tgN.length (tIv (C.at X) gi) (gOf X.K (.nm aB.length)) (tT (C.nox.at X) gt) (tIv (C.nox.at X) gi2) (gOf X.K (.nm (aB.length+1))) (emT X.w true (tG (C.nox.at X) λρ=>bB (ge ρ)))) (gG i)):=by
  intro aA s σ H En I h;rw[exec_Assign_Name_used _ _ _ _ hsw];refine aSY (aVK (aSY ?_));show wpAny _ X.A (comprehension (CE true elt [⟨tg,aF,ifs,0⟩,⟨tg2,aL,[],0⟩] scope pos) scope X.env (firstIterPos [⟨tg,aF,ifs,0⟩,⟨tg2,aL,[],0⟩] pos) (kB true) (firstAsync [⟨tg,aF,ifs,0⟩,⟨tg2,aL,[],0⟩]) (firstIter [⟨tg,aF,ifs,0⟩,⟨tg2,aL,[],0⟩] X.env) (some (assign (.Name x pos') X.env)) >>= _) _ _ s;refine aSY (yA (wi2:=tIv (C.nox.at X) gi2) (use:=some (assign (.Name x pos') X.env)) hc hi bE bJ bY bL bP cA bZ hg hf hi2 hg2 (λcl A fp s3 H3 D=>pem true D (fN (he cl A fp s3 H3))) hs hs2 I h λD Z s6 H5 hm hI hz h0 h1 h2 h3 q=>?_);obtain ⟨m,hm⟩:=hm;have I6:=hI s6.heap (aVP _ _);refine aSV (pW I6 hN hx (.inl hk) (show aS (.ref D) (.ref D) from rfl) (λs' I' hch=>?_) (.inr hk))
  obtain ⟨a,sb,ha⟩:=hch;have na:Z≠a:=by
   rcases ha with rfl | ha
   . exact h1
   . exact λz=>h2 x a ha z.symm
  exact ⟨m,hm.sameBut sb na,λh'' hs2=>aSX (aSX ⟨_,H5,I'.dropped hs2 hz h0 h1 h2 h3,q⟩)⟩
 rw[hn] at key;refine PS.imp key λE σ H q=>yC ?_;cases fz with
 | false=>exact lH q
 | true=>have q:=lH q;unfold jN at q;rw[a8] at q ⊢;obtain ⟨ρ,F,R,w⟩:=q;exact ⟨ρ,F,R,a6.frz w⟩
end
end D3
namespace D3
open PySem PySem.Spec PyProof.Rows L2 PySem.W
structure fX(n:Nat)(lt:Nat->Nat->Bool):Prop where
 tr:∀ {i j k},lt i j=true->lt j k=true->lt i k=true
 asy:∀ {i j},lt i j=true->lt j i=false
 tot:∀ {i j},i<n->j<n->i≠j->lt i j=true\/lt j i=true
structure PP(n:Nat)(p:Array Nat):Prop where
 size:p.size=n
 below:∀ k,p.getD k 0<n
 inj:∀ i j,i<n->j<n->p.getD i 0=p.getD j 0->i=j
theorem PP.perm{n:Nat}{p q:Array Nat}(h:PP n p)(e:q.Perm p):PP n q:=by
 have sz:q.size=n:=by rw[e.size_eq,h.size]
 have nd:p.toList.Nodup:=by
  refine aXX.mpr λi j hi hj hij e1=>?_;rw[aSU] at hi hj;have a1:p.getD i 0=p.getD j 0:=by
   have e1:p[i]=p[j]:=by simpa using e1
   simp[Array.getD,hi,hj,e1]
  rw[h.size] at hi hj;exact absurd (h.inj i j hi hj a1) (by omega)
 have nd2:q.toList.Nodup:=(aXY.mp e).symm.nodup nd;refine ⟨sz,λk=>?_,λi j hi hj e1=>?_⟩
 . simp only[aXF];cases z:q[k]? with
   | none=>have:=h.below p.size;simp only[aXF,Array.getElem?_size] at this;exact this
   | some v =>
    have hm:v∈p.toList:=(aXY.mp e).mem_iff.mp (by rw[aTB];exact aU1 z)
    obtain ⟨i,hi⟩:=List.getElem?_of_mem hm;have:=h.below i;rw[aXI] at hi;simp only[aXF,hi] at this;exact this
 . have hi':i<q.toList.length:=by rw[aSU,sz];exact hi
   have hj':j<q.toList.length:=by rw[aSU,sz];exact hj
   refine (aSP (h₀:=hi') (h₁:=hj') nd2).mp ?_;have a1:i<q.size:=by omega
   have a2:j<q.size:=by omega
   simpa[Array.getD,a1,a2] using e1
section
variable {n:Nat}{lt:Nat->Nat->Bool}{cmp:Nat->Nat->(Bool->Shared->Prop)->Shared->Prop}{J:Shared->Prop}
def d5(lt:Nat->Nat->Bool)(p:Array Nat)(b:Nat):Prop:=∀ i j,i<j->j<b->lt (p.getD i 0) (p.getD j 0)=true
def jC(lt:Nat->Nat->Bool)(p:Array Nat)(b:Nat):Prop:=∀ i j,i<j->j<b->lt (p.getD j 0) (p.getD i 0)=true
def jD(n:Nat)(lt:Nat->Nat->Bool)(cmp:Nat->Nat->(Bool->Shared->Prop)->Shared->Prop)(J:Shared->Prop):Prop:=∀ i j s C,i<n->j<n->J s->(∀ s',J s'->C (lt i j) s')->cmp i j C s
theorem d5.more(O:fX n lt){p:Array Nat}{m:Nat}(h:d5 lt p m)(hm:1<=m)(e:lt (p.getD (m-1) 0) (p.getD m 0)=true):d5 lt p (m+1):=λi j hij hj=>by
 by_cases hjm:j<m
 . exact h i j hij hjm
 . have:j=m:=by omega
   subst this;by_cases hi:i=j-1
   . rw[hi];exact e
   . exact O.tr (h i (j-1) (by omega) (by omega)) e
theorem jC.more(O:fX n lt){p:Array Nat}{m:Nat}(h:jC lt p m)(hm:1<=m)(e:lt (p.getD m 0) (p.getD (m-1) 0)=true):jC lt p (m+1):=λi j hij hj=>by
 by_cases hjm:j<m
 . exact h i j hij hjm
 . have:j=m:=by omega
   subst this;by_cases hi:i=j-1
   . rw[hi];exact e
   . exact O.tr e (h i (j-1) (by omega) (by omega))
theorem rT(O:fX n lt)(hc:jD n lt cmp J){p:Array Nat}(pp:PP n p):∀ (f m:Nat) (s:Shared) (Q:Nat->Shared->Prop),m+f=n->1<=m->d5 lt p m->J s->(∀ m' s',m<=m'->m'<=n->d5 lt p m'->(m'<n->lt (p.getD m' 0) (p.getD (m'-1) 0)=true)->J s'->Q m' s')->(kas_asc p f m).kasWp cmp Q s
 | 0,m,s,Q,e,h1,u,hJ,q=>q m s (aS1 _) (by omega) u (λz=>by omega) hJ
 | f+1,m,s,Q,e,h1,u,hJ,q=>by
  refine hc _ _ s _ (pp.below m) (pp.below (m-1)) hJ λs' hJ'=>?_;cases ec:lt (p.getD m 0) (p.getD (m-1) 0) with
  | true=>exact q m s' (aS1 _) (by omega) u (λ_=>ec) hJ'
  | false =>
   have ne:p.getD m 0≠p.getD (m-1) 0:=λz=>by
    have:=pp.inj m (m-1) (by omega) (by omega) z
    omega
   have e1:lt (p.getD (m-1) 0) (p.getD m 0)=true:=(O.tot (pp.below (m-1)) (pp.below m) ne.symm).resolve_right (by rw[ec];decide)
   exact rT O hc pp f (m+1) s' Q (by omega) (by omega) (u.more O h1 e1) hJ' λm' s2 a b c d e=>q m' s2 (by omega) b c d e
theorem yE(O:fX n lt)(hc:jD n lt cmp J){p:Array Nat}(pp:PP n p):∀ (f m:Nat) (s:Shared) (Q:Array Nat×Nat×Nat->Shared->Prop),m+f=n->1<=m->jC lt p m->J s->(∀ m' s',m<=m'->m'<=n->jC lt p m'->J s'->Q (p,m',0) s')->(kas_desc f p m 0).kasWp cmp Q s
 | 0,m,s,Q,e,h1,u,hJ,q=>q m s (aS1 _) (by omega) u hJ
 | f+1,m,s,Q,e,h1,u,hJ,q=>by
  refine hc _ _ s _ (pp.below m) (pp.below (m-1)) hJ λs' hJ'=>?_;cases ec:lt (p.getD m 0) (p.getD (m-1) 0) with
  | true=>show (kas_desc f p (m+1) 0).kasWp cmp Q s';exact yE O hc pp f (m+1) s' Q (by omega) (by omega) (u.more O h1 ec) hJ' λm' s2 a b c d=>q m' s2 (by omega) b c d
  | false =>
   have ne:p.getD m 0≠p.getD (m-1) 0:=λz=>by
    have:=pp.inj m (m-1) (by omega) (by omega) z
    omega
   have e1:lt (p.getD (m-1) 0) (p.getD m 0)=true:=(O.tot (pp.below (m-1)) (pp.below m) ne.symm).resolve_right (by rw[ec];decide)
   refine hc _ _ s' _ (pp.below (m-1)) (pp.below m) hJ' λs2 hJ2=>?_;rw[e1];exact q m s2 (aS1 _) (by omega) u hJ2
theorem aLD(O:fX n lt){p:Array Nat}(pp:PP n p){m:Nat}(hm:m<=n)(d:jC lt p m):d5 lt (kas_rev p 0 m) m/\PP n (kas_rev p 0 m):=by
 have pe:(kas_rev p 0 m).Perm p:=mirror_perm _ _ _ _;refine ⟨λi j hij hj=>?_,pp.perm pe⟩;have g:∀ k,k<m->(kas_rev p 0 m).getD k 0=p.getD (m-1-k) 0:=λk hk=>by
  simp only[aXF];unfold kas_rev;rw[getElem?_mirror_all (by rw[pp.size];exact hm),if_pos (by omega)]
  congr 2;omega
 rw[g i (by omega),g j hj]
 exact d _ _ (by omega) (by omega)
theorem aLE(O:fX n lt)(hc:jD n lt cmp J)(hn:2<=n){p:Array Nat}(pp:PP n p){s:Shared}{Q:Nat×Array Nat->Shared->Prop}(hJ:J s)(q:∀ m' p' s',1<=m'->m'<=n->PP n p'->p'.Perm p->d5 lt p' m'->J s'->Q (m',p') s'):(kas_count n p).kasWp cmp Q s:=by
 unfold kas_count;rw[KasT.kasWp_bind];refine rT O hc pp (n-1) 1 s _ (by omega) (aS1 _) (λi j h1 h2=>by omega) hJ λm s1 a b u d hJ1=>?_
 by_cases em:m=n
 . rw[if_pos (by simpa using em)]
   exact q m p s1 a b pp (aXZ _) u hJ1
 . rw[if_neg (by simpa using em)]
   by_cases h1:m > 1
   . rw[if_pos h1];refine hc _ _ s1 _ (pp.below 0) (pp.below (m-1)) hJ1 λs2 hJ2=>?_;rw[u 0 (m-1) (by omega) (by omega)]
     exact q m p s2 a b pp (aXZ _) u hJ2
   . rw[if_neg h1];have e1:m=1:=by omega
     subst e1;unfold kas_descPart;rw[KasT.kasWp_bind];have d2:jC lt p 2:=λi j hij hj=>by
      have:i=0/\j=1:=by omega
      rw[this.1,this.2];exact d (by omega)
     refine yE O hc pp (n-2) 2 s1 _ (by omega) (by omega) d2 hJ1 λm' s2 a' b' d' hJ2=>?_
     rw[if_neg (by simp)]
     unfold kas_tail3;rw[KasT.kasWp_bind];obtain ⟨u',pp'⟩:=aLD O pp b' d';exact rT O hc pp' (n-m') m' s2 _ (by omega) (by omega) u' hJ2 λm2 s3 a2 b2 u2 _ hJ3=>q m2 _ s3 (by omega) b2 pp' (mirror_perm _ _ _ _) u2 hJ3
theorem rU(O:fX n lt)(hc:jD n lt cmp J){p:Array Nat}(pp:PP n p){k:Nat}(hk:k<n)(u:d5 lt p k):∀ (f l r:Nat) (s:Shared) (Q:Nat->Shared->Prop),l<=r->r<=k->r-l<=f->J s->(∀ i,i<l->lt (p.getD i 0) (p.getD k 0)=true)->(∀ i,r<=i->i<k->lt (p.getD k 0) (p.getD i 0)=true)->(∀ l' s',l'<=k->(∀ i,i<l'->lt (p.getD i 0) (p.getD k 0)=true)->(∀ i,l'<=i->i<k->lt (p.getD k 0) (p.getD i 0)=true)->J s'->Q l' s')->(kas_place p k f l r).kasWp cmp Q s
 | 0,l,r,s,Q,h1,h2,h3,hJ,a,b,q=>q l s (by omega) a (λi hi=>b i (by omega)) hJ
 | f+1,l,r,s,Q,h1,h2,h3,hJ,a,b,q=>by
  unfold kas_place;by_cases hlr:l ≥ r
  . rw[if_pos hlr];exact q l s (by omega) a (λi hi=>b i (by omega)) hJ
  . rw[if_neg hlr];refine hc _ _ s _ (pp.below k) (pp.below ((l+r) / 2)) hJ λs' hJ'=>?_;cases ec:lt (p.getD k 0) (p.getD ((l+r) / 2) 0) with
    | true =>
     refine rU O hc pp hk u f l ((l+r) / 2) s' Q (by omega) (by omega) (by omega) hJ' a (λi h4 h5=>?_) q
     by_cases e:i=(l+r) / 2
     . rw[e];exact ec
     . exact O.tr ec (u _ i (by omega) h5)
    | false =>
     have ne:p.getD k 0≠p.getD ((l+r) / 2) 0:=λz=>by
      have:=pp.inj k ((l+r) / 2) hk (by omega) z
      omega
     have e1:lt (p.getD ((l+r) / 2) 0) (p.getD k 0)=true:=(O.tot (pp.below _) (pp.below k) ne.symm).resolve_right (by rw[ec];decide)
     refine rU O hc pp hk u f ((l+r) / 2+1) r s' Q (by omega) h2 (by omega) hJ' (λi h4=>?_) b q
     by_cases e:i=(l+r) / 2
     . rw[e];exact e1
     . exact O.tr (u i _ (by omega) (by omega)) e1
theorem yF(O:fX n lt)(hc:jD n lt cmp J):∀ (f k:Nat) (p:Array Nat) (s:Shared) (Q:Array Nat->Shared->Prop),k+f=n->PP n p->d5 lt p k->J s->(∀ p' s',PP n p'->p'.Perm p->d5 lt p' n->J s'->Q p' s')->(kas_bin f p k).kasWp cmp Q s
 | 0, k, p, s, Q, e, pp, u, hJ, q => q p s pp (aXZ _) (by have : k = n := by omega
                                                          rw[<- this];exact u) hJ
 | f+1,k,p,s,Q,e,pp,u,hJ,q=>by
  unfold kas_bin;rw[KasT.kasWp_bind];refine rU O hc pp (by omega) u k 0 k s _ (aTF _) (aS1 _) (by omega) hJ (λi h=>by omega) (λi h1 h2=>by omega) λl s1 hl a b hJ1=>?_
  have pe:(bubble p k (k-l)).Perm p:=bubble_perm _ _ _;have g:=getElem?_bubble (xs:=p) (src:=k) (by rw[pp.size];omega) (k-l) (by omega)
  refine yF O hc f (k+1) _ s1 Q (by omega) (pp.perm pe) (λi j hij hj=>?_) hJ1 λp' s2 x y z w=>q p' s2 x (y.trans pe) z w
  have el:k-(k-l)=l:=by omega
  rw[el] at g;have gd:∀ i,(bubble p k (k-l)).getD i 0=if i=l then p.getD k 0 else if l<i/\i<=k then p.getD (i-1) 0 else p.getD i 0:=λi=>by
   simp only[aXF];rw[g i];split
   . rfl
   . split <;> rfl
  rw[gd i,gd j];by_cases h1:i<l
  . rw[if_neg (by omega),if_neg (by omega)]
    by_cases h2:j=l
    . rw[if_pos h2];exact a i h1
    . rw[if_neg h2];split
      . exact u i (j-1) (by omega) (by omega)
      . exact u i j hij (by omega)
  . by_cases h2:i=l
    . rw[if_pos h2,if_neg (by omega),if_pos (by omega)]
      exact b (j-1) (by omega) (by omega)
    . rw[if_neg h2,if_pos (by omega),if_neg (by omega),if_pos (by omega)]
      exact u (i-1) (j-1) (by omega) (by omega)
theorem aLF(O:fX n lt)(hc:jD n lt cmp J)(hn:2<=n){s:Shared}{Q:Array Nat->Shared->Prop}(hJ:J s)(q:∀ p s',PP n p->p.Perm (List.toArray (List.range n))->d5 lt p n->J s'->Q p s'):(kas_sort n).kasWp cmp Q s:=by
 unfold kas_sort;rw[KasT.kasWp_bind];have pp:PP n (List.toArray (List.range n)):=by
  refine ⟨by simp,λk=>?_,λi j hi hj e=>?_⟩
  . simp only[aXF,aWE,List.getElem?_range];by_cases hk:k<n
    . simp[hk]
    . simp[hk];omega
  . simpa[Array.getD,hi,hj] using e
 refine aLE O hc hn pp hJ λm p s1 a b pp' pe u hJ1=>?_;by_cases h:m<n
 . rw[if_pos h];have em:max m 1=m:=by omega
   rw[em];exact yF O hc (n-m) m p s1 Q (by omega) pp' u hJ1 λp' s2 x y z w=>q p' s2 x (y.trans pe) z w
 . rw[if_neg h];have em:m=n:=by omega
   subst em;exact q p s1 pp' pe u hJ1
end
def ltT:List Str->List Str->Bool
 | [],[]=>false
 | [],_::_=>true
 | _::_,[]=>false
 | x::xs,y::ys=>if x=y then ltT xs ys else lts x y
theorem kC:∀ a:List Str,ltT a a=false
 | []=>rfl
 | x::xs=>by unfold ltT;rw[if_pos rfl];exact kC xs
theorem oG:∀ {a b c:List Str},ltT a b=true->ltT b c=true->ltT a c=true
 | [],[],_,h,_=>by cases h
 | [],_::_,[],_,h=>by cases h
 | [],_::_,_::_,_,_=>rfl
 | _::_,[],_,h,_=>by cases h
 | _::_,_::_,[],_,h=>by cases h
 | x::xs,y::ys,z::zs,h1,h2=>by
  unfold ltT at h1 h2 ⊢;by_cases e1:x=y
  . subst e1;rw[if_pos rfl] at h1;by_cases e2:x=z
    . rw[if_pos e2] at h2 ⊢;exact oG h1 h2
    . rw[if_neg e2] at h2 ⊢;exact h2
  . rw[if_neg e1] at h1;by_cases e2:y=z
    . subst e2;rw[if_neg e1];exact h1
    . rw[if_neg e2] at h2;have h3:=kA h1 h2;rw[if_neg (λe=>by subst e;rw[fV] at h3;cases h3)]
      exact h3
theorem rV:∀ {a b:List Str},ltT a b=false->ltT b a=false->a=b
 | [],[],_,_=>rfl
 | [],_::_,h,_=>by cases h
 | _::_,[],_,h=>by cases h
 | x::xs,y::ys,h1,h2=>by
  unfold ltT at h1 h2;by_cases e1:x=y
  . subst e1;rw[if_pos rfl] at h1 h2;rw[rV h1 h2]
  . rw[if_neg e1] at h1;rw[if_neg (λe=>e1 e.symm)] at h2;exact absurd (oB h1 h2) e1
theorem yG{a b:List Str}(h:ltT a b=true):ltT b a=false:=by
 cases e:ltT b a with
 | false=>rfl
 | true=>have:=oG h e;rw[kC] at this;cases this
def eR(l:List (List Str)):Prop:=l.Pairwise λx y=>ltT x y=true
theorem rW:∀ {l l':List (List Str)},eR l->eR l'->(∀ y,y∈l↔y∈l')->l=l'
 | [],[],_,_,_=>rfl
 | [],y::_,_,_,m=>nomatch (m y).mpr mcs
 | y::_,[],_,_,m=>nomatch (m y).mp mcs
 | x::l,y::l',h,h',m=>by
  unfold eR at h h';rw[aXR] at h h';have exy:x=y:=by
   rcases aSL.mp ((m x).mp mcs) with e | e
   . exact e
   . rcases aSL.mp ((m y).mpr mcs) with e' | e'
     . exact e'.symm
     . have a:=h.1 y e';have b:=h'.1 x e;rw[yG a] at b;cases b
  subst exy;refine congrArg _ (rW h.2 h'.2 λz=>⟨λhz=>?_,λhz=>?_⟩)
  . rcases aSL.mp ((m z).mp (mcm hz)) with e | e
    . subst e;have:=h.1 z hz;rw[kC] at this;cases this
    . exact e
  . rcases aSL.mp ((m z).mpr (mcm hz)) with e | e
    . subst e;have:=h'.1 z hz;rw[kC] at this;cases this
    . exact e
def iK(x:List Str):List (List Str)->List (List Str)
 | []=>[x]
 | y::l=>if ltT x y=true then x::y::l else if x=y then y::l else y::iK x l
theorem rX{x z:List Str}:∀ {l:List (List Str)},z∈iK x l↔z=x\/z∈l
 | []=>by simp[iK]
 | y::l=>by
  unfold iK;split
  . simp
  . split
    . rename_i e;subst e;simp
    . rw[aSL,rX (l:=l),aSL];constructor
      . rintro (h | h | h)
        . exact .inr (.inl h)
        . exact .inl h
        . exact .inr (.inr h)
      . rintro (h | h | h)
        . exact .inr (.inl h)
        . exact .inl h
        . exact .inr (.inr h)
theorem yH{x:List Str}:∀ {l:List (List Str)},eR l->eR (iK x l)
 | [],_=>aXS _ _
 | y::l,h=>by
  unfold iK;split
  . rename_i e;refine aXR.mpr ⟨λz hz=>?_,h⟩;rcases aSL.mp hz with rfl | hz
    . exact e
    . exact oG e ((aXR.mp h).1 z hz)
  . split
    . exact h
    . rename_i e1 e2;refine aXR.mpr ⟨λz hz=>?_,yH (aXR.mp h).2⟩;rcases rX.mp hz with rfl | hz
      . cases e3:ltT y z with
        | true=>rfl
        | false=>exact absurd (rV (by simpa using e1) e3) e2
      . exact (aXR.mp h).1 z hz
def eE(l:List (List Str)):List (List Str):=l.foldr iK []
theorem oH{z:List Str}:∀ {l:List (List Str)},z∈eE l↔z∈l
 | []=>Iff.rfl
 | x::l=>by show z∈iK x (eE l)↔_;rw[rX,oH (l:=l),aSL]
theorem oJ:∀ (l:List (List Str)),eR (eE l)
 | []=>List.Pairwise.nil
 | x::l=>yH (oJ l)
def kD(h:Heap)(x:Addr)(a:List Str):Prop:=∃ o xs n,h.get? x=some o/\o.cls=.type "tuple" /\ o.data=.seq xs n/\PyProof.Rows.StrsAre xs.toList a
section
variable {prog:Program}{w:World}{A:Around}{E:VSP}{s:Shared}
theorem yI{xs:List Value}{a:Str}{as:List Str}(h:PyProof.Rows.StrsAre xs (a::as)):∃ t xs',xs=.str a t::xs'/\PyProof.Rows.StrsAre xs' as:=by cases h;exact ⟨_,_,rfl,by assumption⟩
theorem yJ{bb fin:Bool}{Q:Bool->Shared->Prop}:∀ {a b:List Str} {xs ys:List Value} {i:Nat},PyProof.Rows.StrsAre xs a->PyProof.Rows.StrsAre ys b->fin=decide (xs.length<ys.length)->Q (ltT a b) s->KatLex prog w A bb fin Q (xs.zip ys) i s
 | [],[],xs,ys,i,h1,h2,e,q=>by cases h1;cases h2;subst e;exact q
 | [],b::bs,xs,ys,i,h1,h2,e,q=>by cases h1;cases h2;subst e;exact q
 | a::as,[],xs,ys,i,h1,h2,e,q=>by cases h1;cases h2;subst e;exact q
 | a::as,b::bs,xs,ys,i,h1,h2,e,q=>by
  obtain ⟨u1,xs,rfl,t1⟩:=yI h1;obtain ⟨u2,ys,rfl,t2⟩:=yI h2;rw[aV0];refine kat_cons (eqBool_str (kat_go (λh=>?_) λh=>?_))
  . have e1:a=b:=by simpa using h
    refine kat_yes (yJ t1 t2 (by subst e;simp) ?_)
    unfold ltT at q;rw[if_pos e1] at q;exact q
  . have e1:¬ a=b:=by simpa using h
    refine kat_no ?_;unfold ltT at q;rw[if_neg e1] at q;unfold lts at q;rw[ltCps_eq] at q;cases (bb&&i==0) with
    | true=>exact oneLt_str q
    | false=>exact kat_one _ _ (lt_str q)
theorem aLG{x y:Addr}{a b:List Str}{bb:Bool}{Q:Bool->Shared->Prop}(hx:kD s.heap x a)(hy:kD s.heap y b)(q:Q (ltT a b) s):wpAny (model prog w) A (keyLt' (tuples' bb) (.ref x) (.ref y)) Q E s:=by obtain ⟨o1,xs,n1,g1,_,d1,r1⟩:=hx;obtain ⟨o2,ys,n2,g2,_,d2,r2⟩:=hy;exact kat_lt g1 d1 g2 d2 (yJ r1 r2 (by simp) q)
def iL(h:Heap)(vs:List Value)(ts:List (List Str)):Prop:=vs.length=ts.length/\∀ i,i<ts.length->∃ x,vs.getD i .none=.ref x/\kD h x (ts.getD i [])
theorem kD.kept{h h':Heap}{x:Addr}{a:List Str}(t:kD h x a)(k:∀ o,h.get? x=some o->h'.get? x=some o):kD h' x a:=by obtain ⟨o,xs,n,g,r⟩:=t;exact ⟨o,xs,n,k o g,r⟩
theorem yK:∀ {vs:List Value} {ts:List (List Str)},iL s.heap vs ts->(∀ t∈ts,t≠[])->∃ fs:List Value,KatTups s.heap vs fs/\fs.length=ts.length/\∀ f∈fs,∃ x t,f=.str x t
 | [],[],_,_=>⟨[],trivial,rfl,λf hf=>nomatch hf⟩
 | [],_::_,h,_=>by have:=h.1;simp at this
 | _::_,[],h,_=>by have:=h.1;simp at this
 | v::vs,t::ts,h,ne=>by
  obtain ⟨x,e,o,xs,n,g,c,d,r⟩:=h.2 0 (by simp)
  have e:v=.ref x:=by simpa using e
  subst e;have tail:iL s.heap vs ts:=⟨by simpa using h.1,λi hi=>by
   have:=h.2 (i+1) (by simpa using hi)
   simpa using this⟩
  obtain ⟨fs,k1,k2,k3⟩:=yK tail λt ht=>ne t (mcm ht);have net:=ne t mcs;have r:PyProof.Rows.StrsAre xs.toList t:=by simpa using r
  obtain ⟨xs⟩:=xs;cases t with
  | nil=>exact absurd rfl net
  | cons a as =>
   simp only at r;cases r with
   | cons r1 =>
    exact ⟨_::fs,⟨⟨x,o,_,n,rfl,g,c,d,rfl⟩,k1⟩,by simp[k2],λf hf=>by
     rcases aSL.mp hf with rfl | hf
     . exact ⟨_,_,rfl⟩
     . exact k3 f hf⟩
theorem aLH{vs:List Value}{ts:List (List Str)}{Q:SortKind->Shared->Prop}(h:iL s.heap vs ts)(ne:∀ t∈ts,t≠[])(h2:0<ts.length)(q:Q (tuples' true) s):wpAny (model prog w) A (keyKind' vs.toArray) Q E s:=by
 obtain ⟨fs,k1,k2,k3⟩:=yK h ne;refine kat_kind (T:=.type "str") k1 (by omega) (λv hv=>?_) rfl q
 obtain ⟨x,t,rfl⟩:=k3 v hv;exact Looks.of_pure rfl
end
structure Way(ts:List (List Str))(p:List Nat):Prop where
 perm:p.Perm (List.range ts.length)
 up:eR (p.map λi=>ts.getD i [])
theorem rY{α:Type}(d:α):∀ (l:List α),(List.range l.length).map (λi=>l.getD i d)=l:=λl=>by
 apply aXE
 . simp
 . intro i h1 h2;simp at h1;simp[h1]
theorem Way.uni{ts:List (List Str)}{p:List Nat}(h:Way ts p):(p.map λi=>ts.getD i [])=eE ts:=by refine rW h.up (oJ ts) λy=>?_;rw[oH];have:=(h.perm.map λi=>ts.getD i []).mem_iff (a:=y);rw[rY] at this;exact this
section
variable {prog:Program}{w:World}{A:Around}{E:VSP}{s:Shared}
theorem aLI{ts:List (List Str)}(nd:ts.Nodup):fX ts.length λi j=>ltT (ts.getD i []) (ts.getD j []) where
 tr:=λa b=>oG a b
 asy:=λa=>yG a
 tot:=λ{i j} hi hj ne=>by
  cases e1:ltT (ts.getD i []) (ts.getD j []) with
  | true=>exact .inl rfl
  | false =>
   cases e2:ltT (ts.getD j []) (ts.getD i []) with
   | true=>exact .inr rfl
   | false =>
    have e:=rV e1 e2;have e:ts[i]=ts[j]:=by simpa[hi,hj] using e
    exact absurd ((aSP nd).mp e) ne
theorem aLJ{ts:List (List Str)}{p:Array Nat}(pp:PP ts.length p)(pe:p.Perm (List.toArray (List.range ts.length)))(u:d5 (λi j=>ltT (ts.getD i []) (ts.getD j [])) p ts.length):Way ts p.toList:=by
 refine ⟨by simpa using aXY.mp pe,?_⟩
 unfold eR;rw[aX0];refine aXX.mpr λi j hi hj hij=>?_;rw[aSU] at hi hj;have:=u i j hij (by rw[<- pp.size];exact hj)
 simpa[Array.getD,hi,hj] using this
theorem aLK{a:Addr}{vs:List Value}{ts:List (List Str)}{n:Nat}{P:PySem.Fin->Shared->Prop}(ho:s.heap.get? a=some (seqObj "list" vs.toArray n))(hv:iL s.heap vs ts)(nd:ts.Nodup)(ne:ts.length<=1\/∀ t∈ts,t≠[])(h64:ts.length<64)(h:∀ p,Way ts p->P (.done (.ret .none)) { s with heap:=sortedHeap s.heap a vs (p.map λi=>vs.getD i .none).toArray }):wpAny (model prog w) A (Builtin.«list.sort» ⟨[.ref a],[]⟩) P E s:=by
 have lv:=hv.1;have la:a<s.heap.objs.size:=aSB ho;rw[list_sort_plain];refine aSY (listItems_at ho rfl (aSY (listUpdate_at ho rfl ?_ (by rw[aTA,aS9];omega) (aTF _))))
 obtain ⟨e1,ho1⟩:∃ c,(s.heap.update a (Obj.mapSeq λ_=>(#[]:Array Value))).get? a=some (seqObj "list" #[] c):=⟨_,get?_update_seq ho λ_=>#[]⟩;refine aSY (seqEpoch_at ho1 rfl (aSY (wpAny_newTuple (aSY (aXP (aUB ?_) (aTF _))) (by show vs.length<=_;rw[aS9];omega))))
 have old:∀ b o,b≠a->s.heap.get? b=some o->(((s.heap.update a (Obj.mapSeq λ_=>(#[]:Array Value))).push (seqObj "tuple" vs.toArray 0)).push (seqObj "list" #[] 0)).get? b=some o:=λb o hb e =>
  hps (hps ((Heap.get?_update_ne _ _ _ _ hb).trans e))
 have ho2:(((s.heap.update a (Obj.mapSeq λ_=>(#[]:Array Value))).push (seqObj "tuple" vs.toArray 0)).push (seqObj "list" #[] 0)).get? a=some (seqObj "list" #[] e1):=hps (hps ho1);have hv2:iL (((s.heap.update a (Obj.mapSeq λ_=>(#[]:Array Value))).push (seqObj "tuple" vs.toArray 0)).push (seqObj "list" #[] 0)) vs ts:=⟨lv,λi hi=>by
  obtain ⟨x,e,t⟩:=hv.2 i hi;refine ⟨x,e,t.kept λo eo=>old x o (λz=>?_) eo⟩;obtain ⟨o,xs,m,g,c,d,_⟩:=t;rw[z,ho] at g;cases g;have c:Value.type "list" = .type "tuple" := c;injection c with c
  exact absurd c (by decide)⟩
 have fin:=h;show wpAny (model prog w) A _ P E { s with heap:=((s.heap.update a (Obj.mapSeq λ_=>(#[]:Array Value))).push (seqObj "tuple" vs.toArray 0)).push (seqObj "list" #[] 0) }
 dsimp only;by_cases hs:vs.toArray.size<2
 . rw[if_pos hs,if_pos hs];rw[aTA] at hs;refine aSY (aSX ?_);rw[StateT.run_pure];refine aSY (aSX ?_);have w0:Way ts (List.range ts.length):=⟨List.Perm.refl _,by
     rw[rY]
     match ts,lv with
     | [],_=>exact List.Pairwise.nil
     | [t],_=>exact aXS _ _
     | _::_::_,lv=>simp at lv;omega⟩
   have ev:((List.range ts.length).map λi=>vs.getD i Value.none).toArray=(arrOf (SortSt.mk' general' (vs.toArray.zip vs.toArray) #[] 7 none)).map (·.2):=by
    rw[<- lv,rY];show vs.toArray=(vs.toArray.zip vs.toArray).map (·.2);apply Array.ext
    . simp
    . intro i h1 h2;simp
   have w1:=fin _ w0;rw[ev] at w1;refine aSY (seqEpoch_at ho2 rfl (aSY (listUpdate_at ho2 rfl ?_ (aTF _) (by rw[<- ev,aTA,aTZ,aW8,aS9];omega))))
   simp only[aW5,aVJ,aT7];exact aSX w1
 . rw[if_neg hs,if_neg hs];rw[aTA] at hs;have ne:∀ t∈ts,t≠[]:=ne.resolve_left (by omega)
   refine aSY (aLH (s:={ s with heap:=((s.heap.update a (Obj.mapSeq λ_=>(#[]:Array Value))).push (seqObj "tuple" vs.toArray 0)).push (seqObj "list" #[] 0) }) hv2 ne (by omega) ?_)
   have ask:jD ts.length (λi j=>ltT (ts.getD i []) (ts.getD j [])) (kas_ask prog w A (tuples' true) vs) (λs'=>s'={ s with heap:=((s.heap.update a (Obj.mapSeq λ_=>(#[]:Array Value))).push (seqObj "tuple" vs.toArray 0)).push (seqObj "list" #[] 0) }):=λi j s' C hi hj hJ q=>by subst hJ;unfold kas_ask;obtain ⟨x,e1,t1⟩:=hv2.2 i hi;obtain ⟨y,e2,t2⟩:=hv2.2 j hj;rw[e1,e2];exact aLG t1 t2 (q _ rfl)
   refine aSY (aSS (kat_run (ks:=vs) (vs:=vs) (κ:=tuples' true) (Q:=λst' s'=>s'=_/\∃ p:Array Nat,PP ts.length p/\p.Perm (List.toArray (List.range ts.length))/\d5 (λi j=>ltT (ts.getD i []) (ts.getD j [])) p ts.length/\arrOf st'=p.map (kas_item (vs.toArray.zip vs.toArray))/\failedOf st'=none)
    (G:=λp s'=>s'=_/\PP ts.length p/\p.Perm (List.toArray (List.range ts.length))/\d5 (λi j=>ltT (ts.getD i []) (ts.getD j [])) p ts.length) rfl (by omega) (by omega)
    (λp st' s' a1 a2 a3 a4=>⟨a4.1,p,a4.2.1,a4.2.2.1,a4.2.2.2,a2,a3⟩) (by rw[lv];exact aLF (aLI nd) ask (by omega) rfl λp s' b1 b2 b3 b4=>⟨b4,b1,b2,b3⟩)) ?_ λ_ _ e=>e)
   rintro ⟨⟨⟩,st'⟩ s' ⟨rfl,p,pp,pe,u,ea,ef⟩;have w1:=fin _ (aLJ pp pe u);have ev:=kat_snds (vs:=vs) rfl ea;rw[<- ev] at w1;refine aSY (seqEpoch_at ho2 rfl (aSY (listUpdate_at ho2 rfl ?_ (aTF _) (by rw[ev,aTA,aTZ,aSU,pp.size,aS9];omega))))
   rw[ef];simp only[aW5,aVJ,aT7];exact aSX w1
theorem aLL{l:Addr}{vs:List Value}{ts:List (List Str)}{Q:VSP}(hl:s.heap.IsList l vs.toArray)(hv:iL s.heap vs ts)(nd:ts.Nodup)(ne:ts.length<=1\/∀ t∈ts,t≠[])(h64:ts.length<64)(h:∀ p,Way ts p->Q (.ref (s.heap.objs.size+1)) { s with heap:=sortedAll s.heap vs (p.map λi=>vs.getD i .none).toArray }):wpAny (model prog w) A (call (.builtin "sorted") [.ref l]) Q E s:=by
 have lv:=hv.1;refine aXO kind_sorted plain_sorted entry_sorted (args_sorted1 (.ref l)) ?_;unfold Builtin.«sorted»;refine aSY (m:=checkCount "sorted" 1 1 [Value.ref l].length) (aSX (aSY (collect_list hl (aSY (aXP ?_ (by rw[aS9];omega))) (by rw[aS9];omega))))
 have z1:((s.heap.push (seqObj "list" #[] 0)).update s.heap.objs.size (Obj.mapSeq (·++vs.toArray))).objs.size=s.heap.objs.size+1:=(Heap.size_update ..).trans (aXD ..);have g1:(((s.heap.push (seqObj "list" #[] 0)).update s.heap.objs.size (Obj.mapSeq (·++vs.toArray))).push (seqObj "list" vs.toArray 0)).get? (s.heap.objs.size+1)=some (seqObj "list" vs.toArray 0):=z1 ▸ aSA _ rfl;have k1:∀ b o,s.heap.get? b=some o->(((s.heap.push (seqObj "list" #[] 0)).update s.heap.objs.size (Obj.mapSeq (·++vs.toArray))).push (seqObj "list" vs.toArray 0)).get? b=some o:=λb o e =>
  hps ((Heap.get?_update_ne _ _ _ _ (aSE (aSB e))).trans (hps e))
 have hv1:iL (((s.heap.push (seqObj "list" #[] 0)).update s.heap.objs.size (Obj.mapSeq (·++vs.toArray))).push (seqObj "list" vs.toArray 0)) vs ts:=⟨lv,λi hi=>by
  obtain ⟨x,e,t⟩:=hv.2 i hi;exact ⟨x,e,t.kept λo eo=>k1 x o eo⟩⟩
 show wpAny _ _ _ _ _ { s with heap:=((s.heap.push (seqObj "list" #[] 0)).update s.heap.objs.size (Obj.mapSeq (·++vs.toArray))).push (seqObj "list" vs.toArray 0) }
 rw[z1];exact aSY (aUB (aUE slot_list_sort ⟨_,g1,rfl⟩ entry_list_sort (aLK (s:={ s with heap:=((s.heap.push (seqObj "list" #[] 0)).update s.heap.objs.size (Obj.mapSeq (·++vs.toArray))).push (seqObj "list" vs.toArray 0) }) g1 hv1 nd ne h64 λp wp=>⟨_,rfl,aSX ⟨_,rfl,h p wp⟩⟩) (args_list_sort _)))
end
def aG(t:List Str):D:=.tup (t.map .str)
def ttD:List D->Option (List (List Str))
 | []=>some []
 | d::ds=>match txT d,ttD ds with
  | some t,some ts=>some (t::ts)
  | _,_=>none
theorem yL:∀ (ts:List (List Str)),ttD (ts.map aG)=some ts
 | []=>rfl
 | t::ts=>by
  have e:txT (aG t)=some t:=by
   show txD (t.map .str)=some t
   induction t with
   | nil=>rfl
   | cons x t ih=>rw[aUQ];unfold txD;rw[ih];rfl
  show (match txT (aG t),ttD (ts.map aG) with | some t,some ts=>some (t::ts) | _,_=>none)=_
  rw[e,yL ts]
def gR(ts:List (List Str)):Bool:=decide ts.Nodup&&(decide (ts.length<=1)||ts.all λt=>!t.isEmpty)&&decide (ts.length<64)
def gT:List (Md×D)->Option (Md×D)
 | [(_,.lst ds)]=>match ttD ds with
  | some ts=>if gR ts=true then some (.fr,.lst ((eE ts).map aG)) else none
  | none=>none
 | _=>none
theorem yM{K:Fg}{F:Hp}:∀ {ds:List D} {xs:List V} {ts:List (List Str)},ttD ds=some ts->aE K F ds xs->xs.length=ts.length/\∀ i,i<ts.length->∃ a,xs.getD i .non=.ref a/\SqT K F a ((ts.getD i []).map V.str)/\aD K F (aG (ts.getD i [])) (xs.getD i .non)
 | [],xs,ts,e,r=>by cases e;simp only[aE] at r;subst r;exact ⟨rfl,λi hi=>by simp at hi⟩
 | d::ds,xs,ts,e,r=>by
  simp only[aE] at r;obtain ⟨y,ys,rfl,r1,r2⟩:=r;unfold ttD at e;cases e1:txT d with
  | none=>rw[e1] at e;cases e
  | some t =>
   cases e2:ttD ds with
   | none=>rw[e1,e2] at e;cases e
   | some us =>
    rw[e1,e2] at e;cases e;obtain ⟨l,h⟩:=yM e2 r2;refine ⟨by simp[l],λi hi=>?_⟩
    cases i with
    | zero =>
     cases d with
     | tup es=>have e1:txD es=some t:=e1;have r3:=r1;simp only[aD] at r3;obtain ⟨a,zs,rfl,q,rl⟩:=r3;obtain ⟨rfl,_⟩:=oD e1 rl;have ee:=(rS e1).1;subst ee;exact ⟨a,rfl,q,r1⟩
     | _=>cases e1
    | succ i =>
     have:=h i (by simpa using hi)
     simpa using this
theorem yN{α:Type}{K:Fg}{F:Hp}{f:α->D}{g:α->V}:∀ {q:List α},(∀ i∈q,aD K F (f i) (g i))->aE K F (q.map f) (q.map g)
 | [],_=>aE.nil
 | i::q,h=>aE.cons (h i mcs) (yN λj hj=>h j (mcm hj))
theorem yO{α:Type}{g:α->V}{u:α->Value}:∀ {q:List α},(∀ i∈q,aS (g i) (u i))->aM (q.map g) (q.map u)
 | [],_=>.nil
 | i::q,h=>.cons (h i mcs) (yO λj hj=>h j (mcm hj))
theorem rZ:∀ {xs:List V} {us:List Value} {i:Nat},aM xs us->i<xs.length->aS (xs.getD i .non) (us.getD i .none)
 | [],_,i,h,e=>by simp at e
 | x::xs,_,0,h,e=>by cases h with | cons r t=>exact r
 | x::xs,_,i+1,h,e=>by
  cases h with
  | cons r t =>
   have:=rZ (i:=i) t (by simpa using e)
   simpa using this
section
variable {X:Cx}
def rSrtT(K:Fg):List V->Hp->VK->Prop:=λxs H Q=>∃ (p:Addr) (vs:List V) (ts:List (List Str)),xs=[.ref p]/\SqL K H p vs/\vs.length=ts.length/\(∀ i,i<ts.length->∃ a,vs.getD i .non=.ref a/\SqT K H a ((ts.getD i []).map V.str)) /\
 gR ts=true/\∀ l q,H l=none->Way ts q->Q (.ref l) (upd H l (.lst (q.map λi=>vs.getD i .non)))
theorem aLM:cG X (.builtin "sorted") (rSrtT X.K):=by
 intro aA s σ H xs us Q I r h;obtain ⟨p,vs,ts,rfl,hp,lv,hv,ok,q⟩:=h;obtain ⟨u,rfl,rx⟩:=cH r;cases rx;obtain ⟨its,rv,pl,_⟩:=I.list hp;unfold gR at ok;simp only[aUG,aUW,aUU,aU4] at ok;obtain ⟨⟨nd,ne⟩,h64⟩:=ok;have lz:its.length=vs.length:=rv.length.symm;have ta:iL s.heap its ts:=⟨by omega,λi hi=>by
  obtain ⟨a,e,sq⟩:=hv i hi;have rr:=rZ rv (i:=i) (by omega)
  rw[e] at rr;have rr:its.getD i .none=.ref a:=rr;obtain ⟨js,rj,⟨o,eo,co,_,n,ed⟩,_⟩:=SqT.plain I sq;exact ⟨a,rr,o,_,n,eo,co,ed,by simpa using lJ rj⟩⟩
 refine aLL pl.isList ta nd (ne.imp id λh t ht e=>by have:=h t ht;rw[e] at this;cases this) h64 λw wp=>?_
 obtain ⟨e,he⟩:=sortedAll_at s.heap its (w.map λi=>its.getD i .none).toArray;have wl:w.length=ts.length:=by rw[wp.perm.length_eq,aW8]
 have le:(w.map λi=>vs.getD i V.non).length<=sizeLine:=by rw[aTZ,wl,aS9];omega
 have rv2:aM (w.map λi=>vs.getD i V.non) (w.map λi=>its.getD i Value.none):=yO λi hi=>rZ rv (by
  have:=wp.perm.mem_iff.mp hi;rw[aSH] at this;omega)
 exact ⟨.ref (s.heap.objs.size+1),_,I.laid (t':=s.toks) (λb o e=>sortedAll_old e) (aVS _) (show bD X.prog X.w _ _ _ (.lst (w.map λi=>vs.getD i V.non)) from ⟨le,_,e,rv2,he⟩),rfl,q _ w (I.hok.fresh (aVS _)) wp⟩
theorem aLN:aZ X (.builtin "sorted") gT:=by
 refine ⟨_,aLM,λF H xs vs k d Q s rx e w=>?_⟩;unfold gT at e;split at e
 . rename_i m ds;split at e
   . rename_i ts en;split at e
     . rename_i hc;cases e;obtain ⟨v,rfl,r⟩:=rx.one;obtain ⟨a,xs,rfl,q,rl⟩:=r.seqL s;obtain ⟨lx,hx⟩:=yM en rl;refine ⟨a,xs,ts,rfl,q,lx,λi hi=>?_,hc,λl p hl wp=>w (.ref l) F _ (aJ.fresh _ s hl) ⟨l,rfl,s.free hl,_,a7,?_⟩ λ_ a ea=>by cases ea;exact hl⟩
       . obtain ⟨a,e1,e2,_⟩:=hx i hi;exact ⟨a,e1,aH.seqT s e2⟩
       . rw[<- wp.uni,aWM];refine yN λi hi=>?_;have:=wp.perm.mem_iff.mp hi;rw[aSH] at this;obtain ⟨_,_,_,e3⟩:=hx i this;exact e3
     . cases e
   . cases e
 . cases e
end
end D3
namespace D3
open PySem PySem.Spec PyProof.Rows L2 PySem.SeqAt PySem.MeetsSeq
abbrev yP:Md->D->Md->D->Option (Md×D):=fI (λ_ _=>true) λi j=>.int (Builtin.bitAnd i j)
abbrev fBor:Md->D->Md->D->Option (Md×D):=fI (λ_ _=>true) λi j=>.int (Builtin.bitOr i j)
abbrev fShl:Md->D->Md->D->Option (Md×D):=fI (λi j=>decide (0<=j)&&decide (j<=1000000)&&decide (i.natAbs<2 ^ 64)) λi j=>.int (i * 2 ^ j.toNat)
abbrev fShr:Md->D->Md->D->Option (Md×D):=fI (λ_ j=>decide (0<=j)) λi j=>.int (i / 2 ^ j.toNat)
section
variable {C:Cw}{X:Cx}
theorem aLO:OpD C X (binaryOp .BitAnd) yP:=iA u3 λ_ _ i j=>cQ _
theorem aLP:OpD C X (binaryOp .BitOr) fBor:=iA op_or λ_ _ i j=>cQ _
theorem aLQ:OpD C X (binaryOp .LShift) fShl:=jQ aEE (λi j h=>by
 simp only[aUG,aUU] at h;exact ⟨h.1.1,h.1.2,h.2⟩) λ_ _ i j=>cQ _
theorem aLR:OpD C X (binaryOp .RShift) fShr:=jQ aEF (λi j h=>aUV h) λ_ _ i j=>cQ _
def inD:List D->Option (List Int)
 | []=>some []
 | .int i::ds=>(inD ds).map (i :: ·)
 | _::_=>none
theorem yQ:∀ (ns:List Int),inD (ns.map .int)=some ns
 | []=>rfl
 | n::ns=>by rw[aUQ];unfold inD;rw[yQ ns];rfl
theorem yR{K:Fg}{F:Hp}:∀ {ds:List D} {xs:List V} {ns:List Int},inD ds=some ns->aE K F ds xs->xs=ns.map V.int
 | [],xs,ns,e,r=>by cases e;simp only[aE] at r;rw[r];rfl
 | d::ds,xs,ns,e,r=>by
  cases d with
  | int i =>
   unfold inD at e;cases h:inD ds with
   | none=>rw[h] at e;cases e
   | some ms=>rw[h] at e;cases e;simp only[aE,aD] at r;obtain ⟨y,ys,rfl,rfl,r⟩:=r;rw[yR h r];rfl
  | _=>simp[inD] at e
theorem yS(g:Nat->Int)(k:Nat):preSum g (k+1)=preSum g k+g k:=rfl
theorem yT{g:Nat->Int}:∀ (k:Nat),preSum g (k+1)=g 0+preSum (λi=>g (i+1)) k
 | 0=>by show preSum g 0+g 0=g 0+0;show (0:Int)+g 0=_;omega
 | k+1=>by rw[yS g (k+1),yT k,yS (λi=>g (i+1)) k];omega
theorem yU:∀ (ns:List Int),preSum (λi=>ns.getD i 0) ns.length=ns.sum
 | []=>rfl
 | n::ns=>by rw[aUO,yT,aX1,<- yU ns];rfl
def fE:List (Md×D)->Option (Md×D)
 | [(_,.lst ds)]=>(inD ds).map λns=>(.fz,.int ns.sum)
 | _=>none
theorem aLS(hc:X.calm=true):aZ X (.builtin "sum") fE:=by
 refine ⟨_,x5 hc,λF H xs vs k d Q s rx e w=>?_⟩;unfold fE at e;split at e
 . rename_i m ds;cases en:inD ds with
   | none=>rw[en] at e;cases e
   | some ns=>rw[en] at e;cases e;obtain ⟨v,rfl,r⟩:=rx.one;obtain ⟨a,xs,rfl,q,rl⟩:=r.seqL s;obtain rfl:=yR en rl;exact ⟨a,ns,rfl,q,by rw[yU];exact w (.int ns.sum) F H (.refl s) (cQ _) (by intro z;cases z)⟩
 . cases e
end
section
variable {X:Cx}{o e:Expr}{apos cpos:Pos}{td ty:TE}
end
section
variable {C:Cw}{X:Cx}{o e:Expr}{apos cpos:Pos}{go g:Rho->Res}
end
end D3
namespace D3
open PySem PySem.Spec PyProof.Rows L2
theorem Inv.thaw{X:Cx}{aA:LAO}{σ:L2.St}{H:Hp}{s:Shared}{d:Addr}{o:Obj}{u:HO}(I:L2.Inv X aA σ H s)(hd:H d=some (.frz o u))(h0:∀ o' u',X.H₀ d≠some (.frz o' u'))(nt:∀ xs,X.H₀ d≠some (.tup xs))(nb:∀ ps,X.H₀ d≠some (.tbl ps)):L2.Inv X aA σ (upd H d u) s:=by
 have nn:∀ b,H b=none->upd H d u b=none:=λb hb=>by rw[aN (λz=>by rw[z,hd] at hb;cases hb)];exact hb
 have e:=I.base;refine ⟨I.ok,I.os,I.bare,⟨e.keep,e.slot,λb o q1 q2 q3=>nn b (e.free b o q1 q2 q3),e.there,λb xs q=>?_,λb o u q=>?_,λb ps q=>?_⟩,I.loc,I.cell,nn _ I.free,λx c ec=>nn c (I.freeC x c ec),λp hp=>?_,λb v q=>?_,I.len⟩
 . rw[aN (λz=>nt xs (by rw[<- z];exact q))];exact e.tups b xs q
 . rw[aN (λz=>h0 o u (by rw[<- z];exact q))];exact e.frzs b o u q
 . obtain ⟨m,em⟩:=e.tbls b ps q;exact ⟨m,by rw[aN (λz=>nb ps (by rw[<- z];exact q))];exact em⟩
 . obtain ⟨a1,a2,a3⟩:=I.pin p hp;exact ⟨a1,nn _ a2,a3⟩
 . have st:∀ {b:Addr} {v:HO},bD X.prog X.w H s.heap b v->bD X.prog X.w (upd H d u) s.heap b v:=λ{b v} x =>
     x.stay (λ_ _ _ q=>q) (λc q=>by rw[aN (λz=>by rw[z,hd] at q;cases q)];exact q) λc xs q=>by rw[aN (λz=>by rw[z,hd] at q;cases q)];exact q
   by_cases hb:b=d
   . subst hb;rw[a7] at q;cases q;exact st (I.hok b _ hd).2
   . rw[aN hb] at q;exact st (I.hok b v q)
def epO(o:Obj):Nat:=match o.data with | .dict _ ep=>ep | _=>0
def Itd(d:Addr)(o:Obj)(xs:List (Key×V)):It :=
 ⟨λi H=>H d=some (.frz o (.dK xs))/\i<xs.length,λi H x H'=>H'=H/\∃ kv,xs[i]? = some kv/\x=kV kv.1,λi H=>H d=some (.frz o (.dK xs))/\xs.length<=i⟩
theorem yV{P:Program}{w:World}{H:Hp}{h:Heap}{d:Addr}{o:Obj}{xs:List (Key×V)}(ok:HOk P w H h)(hd:H d=some (.frz o (.dK xs))):(d==sysModules)=false/\∃ vs,KV xs vs/\h.DictAt (cO P w) d vs (epO o):=by
 obtain ⟨g,z,y,vs,r,dd⟩:=ok d _ hd;obtain ⟨ep,da⟩:=dd.dictAt;refine ⟨y,vs,r,?_⟩;obtain ⟨o',es,g',c,dt,aU⟩:=id da;rw[g] at g';cases g';have:epO o=ep:=by unfold epO;rw[dt]
 rw[this];exact da
theorem aLT{xs:List (Key×V)}{vs:List (Key×Value)}(r:KV xs vs){i:Nat}{k:Key}{x:Value}(h:vs[i]? = some (k,x)):∃ v,xs[i]? = some (k,v):=by
 have e:=r.keys;have:(xs.map (·.1))[i]? = (vs.map (·.1))[i]?:=by rw[e]
 rw[aTW,aTW,h] at this;cases q:xs[i]? with
 | none=>rw[q] at this;cases this
 | some kv=>rw[q] at this;obtain ⟨k',v⟩:=kv;simp at this;subst this;exact ⟨v,rfl⟩
theorem aLU{P:Program}{w:World}{K:Fg}{tg:Expr}(d it:Addr)(o:Obj)(xs:List (Key×V)):gH P w K tg (Itd d o xs) [it] it (λi h=>h.IsKeyIter it d i xs.length (epO o)) where
 mem:=by simp
 obj:=λi h st b hb=>by
  have e:b=it:=by simpa using hb
  subst e;obtain ⟨o,e,c,d⟩:=st;exact ⟨o,e,λv z=>by rw[d] at z;cases z⟩
 keep:=λi h h' st k=>st.at λo e=>k it (by simp) o e
 item:=by
  intro X hP hw hK hc i aA s σ H E I hf st hg;subst hP hw hK;obtain ⟨hd,hi⟩:=hg;obtain ⟨ns,vs,rv,da⟩:=yV I.hok hd;obtain ⟨f0,f1,f2,f3,f4,f5⟩:=hf it (by simp)
  have lv:vs.length=xs.length:=rv.length.symm;have hx:vs[i]? = some (vs[i]'(by omega)):=by simp[lv,hi]
  obtain ⟨v,ev⟩:=aLT rv (k:=(vs[i]'(by omega)).1) (x:=(vs[i]'(by omega)).2) hx
  refine wpAny_pyNext_dict_item (k:=(vs[i]'(by omega)).1) (v:=(vs[i]'(by omega)).2) (by rw[lv];exact st) da hx λkey h' hkey hit' hs'=>?_
  have I1:L2.Inv X aA σ H { s with heap:=h' }:=I.turned (t':=s.toks) (λb o hb e=>hs'.extBut b o hb e) f0 f1 f3 f4 f5
  rw[lv] at hit';obtain ⟨o1,e1,c1,d1⟩:=id hit';exact ⟨key,rfl,kX (s:={ s with heap:=h' }) e1 c1 d1 (by decide) ⟨_,H,I1,xG hkey,⟨rfl,_,ev,rfl⟩,hit',λb hb=>(hf b hb).1⟩⟩
 done:=by
  intro X hP hw hK hc i aA s σ H E I hf st hg;subst hP hw hK;obtain ⟨hd,hi⟩:=hg;obtain ⟨ns,vs,rv,da⟩:=yV I.hok hd;obtain ⟨f0,f1,f2,f3,f4,f5⟩:=hf it (by simp)
  have lv:vs.length=xs.length:=rv.length.symm;exact wpAny_pyNext_dict_end (I.ok.hd hc) (by rw[lv];exact st) da (by simp;omega) λh' eb=>⟨rfl,I.turned (t':=s.toks) (λb o hb e=>eb b o hb e) f0 f1 f3 f4 f5⟩
 self:=λ_ _ _ _ _ st h=>wpAny_pyIter_keyiter st h
def oK(X:Cx)(d:Addr):Prop:=(∀ o' u',X.H₀ d≠some (.frz o' u'))/\(∀ xs,X.H₀ d≠some (.tup xs))/\∀ ps,X.H₀ d≠some (.tbl ps)
def yW(X:Cx)(tl:TE):TI:=λσ H R=>tl σ H λx H1=>∃ d xs,x=.ref d/\H1 d=some (.dK xs)/\∀ o,oK X d->R (Itd d o xs) (upd H1 d (.frz o (.dK xs)))
theorem aLV{X:Cx}{tg l:Expr}{tl:TE}(hl:PE X l tl):PI X tg l (yW X tl):=by
 intro aA s σ H R I h;refine thn (hl aA s σ H _ I h) λv s1 ⟨x,H1,I1,r1,q1⟩=>?_;obtain ⟨d,xs,e,hd,q⟩:=q1;subst e;cases r1;obtain ⟨hz,hm,vs,rv,dd⟩:=qH I1.hok hd;obtain ⟨ep,da⟩:=dd.dictAt;have lv:vs.length=xs.length:=rv.length.symm;have sf:oK X d:=by
  refine ⟨λo u z=>?_,λys z=>?_,λps z=>?_⟩
  . rw[I1.base.frzs d o u z] at hd;cases hd
  . rw[I1.base.tups d ys z] at hd;cases hd
  . obtain ⟨m,em⟩:=I1.base.tbls d ps z;rw[em] at hd;cases hd
 refine wpAny_pyIter_dict hm da ?_;obtain ⟨o,es,go,c,dt,aU⟩:=id da;have eo:epO o=ep:=by unfold epO;rw[dt]
 have I2:L2.Inv X aA σ H1 { s1 with heap:=s1.heap.push { cls:=.type "dict_keyiterator", data:=.fields #[.ref d,.int 0 0,.int vs.length 0,.int ep 0] } }:=I1.kept (t':=s1.toks) λb o e=>hps e
 have g2:=aXB { cls:=.type "dict_keyiterator", data:=.fields #[.ref d,.int 0 0,.int vs.length 0,.int ep 0] } go;have ok2:=I2.hok d _ hd;have I3:=I2.write (x:=d) (e:=d) (o:=.frz o (.dK xs)) (t':=s1.toks) (h':=s1.heap.push { cls:=.type "dict_keyiterator", data:=.fields #[.ref d,.int 0 0,.int vs.length 0,.int ep 0] }) (by rw[hd];exact trivial) (.inl rfl) (λ_ _ _ q=>q) ⟨_,g2⟩ ⟨g2,ok2⟩
 refine ⟨s1.heap.objs.size,[s1.heap.objs.size],_,_,_,rfl,I3,aLU d _ o xs,?_,λb hb=>?_,q o sf⟩
 . rw[eo,<- lv];exact ⟨_,aSA _ rfl,rfl,rfl⟩
 . have e:b=s1.heap.objs.size:=by simpa using hb
   subst e;have fr:=I1.hok.fresh (aS1 s1.heap.objs.size);exact I1.fpOk (aS1 _) (by rw[aN (λz=>by rw[z,hd] at fr;cases fr)];exact fr)
theorem aLW{X:Cx}{e:Expr}{t:TE}(h:PE X e t):PE X e (λσ H Q=>t σ H λv H'=>∃ d o u,H' d=some (.frz o u)/\oK X d/\Q v (upd H' d u)):=λaA s σ H Q I q=>by refine thn (h aA s σ H _ I q) λv s1 ⟨x,H1,I1,r1,d,o,u,hd,sf,q1⟩=>?_;exact ⟨x,_,Inv.thaw I1 hd sf.1 sf.2.1 sf.2.2,r1,q1⟩
def fY(kvs:List (Key×D))(m:Int):List (Key×D)->Option (List D)
 | []=>some []
 | (k,_)::r=>match dL kvs k with
  | some (.int v)=>if j6 k=true then (fY kvs m r).map λys=>if Builtin.bitAnd v m=0 then ys else iH k::ys else none
  | _=>none
def kE(ρ:Rho)(jd jm:Nat):Res:=match ρ[jd]? with
 | some (some (false,.dct kvs))=>(match ρ[jm]? with
  | some (some (false,.int m))=>if kvs.length<sizeLine then (match fY kvs m kvs with | some ys=>.ok .fr (.lst ys) | none=>.stuck) else .stuck
  | _=>.stuck)
 | _=>.stuck
theorem yX{K:Fg}{F:Hp}:∀ {kvs:List (Key×D)} {xs:List (Key×V)} {i:Nat} {kv:Key×V},aO K F kvs xs->xs[i]? = some kv->∃ d,kvs[i]? = some (kv.1,d)
 | [],xs,i,kv,h,e=>by simp only[aO] at h;subst h;simp at e
 | (k,d)::kvs,xs,i,kv,h,e=>by
  simp only[aO] at h;obtain ⟨y,ys,rfl,_,t⟩:=h;cases i with
  | zero=>simp at e;subst e;exact ⟨d,rfl⟩
  | succ i =>
   obtain ⟨d',e'⟩:=yX (i:=i) t (by simpa using e)
   exact ⟨d',by simpa using e'⟩
theorem yY{K:Fg}{F:Hp}:∀ {kvs:List (Key×D)} {xs:List (Key×V)},aO K F kvs xs->xs.length=kvs.length
 | [],xs,h=>by simp only[aO] at h;subst h;rfl
 | (k,d)::kvs,xs,h=>by simp only[aO] at h;obtain ⟨y,ys,rfl,_,t⟩:=h;simp[yY t]
theorem aLX{K:Fg}{F:Hp}{k:Key}(h:j6 k=true):aD K F (iH k) (kV k):=by
 cases k with
 | inl i=>simp only[iH,aD,kV]
 | inr x=>have a1:(decide (x.length<=sizeLine)&&PyData.strOk x)=true:=h;rw[aUG,aUU] at a1;show aD K F (.str x) (.str x);unfold aD;exact ⟨rfl,a1⟩
def r6(i j k:Nat):TT:=mV (qB (tOp rNe (tOp (rI0 λi j=>.int (Builtin.bitAnd i j)) (tOp rIxK (dE i) (dE k)) (dE j)) (tC (.int 0)))) λ_ H Q=>Q true H
theorem aLY{i j k:Nat}{σ:L2.St}{H:Hp}{Q:Bool->Hp->Prop}{d:Addr}{kx:Key}{v m:Int}(h1:σ[i]? = some (some (.ref d)))(h2:σ[k]? = some (some (kV kx)))(h3:σ[j]? = some (some (.int m)))(hg:k7 H d (kV kx) (some (.int v)))(q:Q (!decide (Builtin.bitAnd v m=0)) H):r6 i j k σ H Q:=by
 refine ⟨_,h1,_,h2,d,.int v,rfl,hg,_,h3,v,m,rfl,rfl,rfl,!decide (Builtin.bitAnd v m=0),?_,?_⟩
 . simp
 . cases e:(!decide (Builtin.bitAnd v m=0)) with
   | true=>rw[e] at q;simpa using q
   | false=>rw[e] at q;simpa using q
section
variable {C:Cw}{X:Cx}{pos:Pos}{scope:Scope}{aB:List Nat}{aC:List Str}{x d m:Str}{p0 p1 p2 p3 p4 p5 p6 p7 p8 p9:Pos}{i j jd jm k0:Nat}
theorem aLZ(hi:aB[i]? = some jd)(hj:aB[j]? = some jm){σ:L2.St}{H:Hp}{Q:VK}(q:tG (C.at X) (λρ=>kE ρ jd jm) σ H Q):iB aB 1 (yW X (dE jd)) (gG aB.length) (r6 i j aB.length) (dE aB.length) σ H λv H'=>∃ d o u,H' d=some (.frz o u)/\oK X d/\Q v (upd H' d u):=by
 rw[a8] at q;obtain ⟨ρ,F,RS,w⟩:=q;unfold kE at w;split at w;rotate_left
 . exact w.elim
 rename_i kvs ed;split at w;rotate_left
 . exact w.elim
 rename_i m em;split at w;rotate_left
 . exact w.elim
 rename_i hsz;cases es:fY kvs m kvs with
 | none=>rw[es] at w;exact w.elim
 | some total =>
  rw[es] at w;dsimp only at w;obtain ⟨vd,sd,rd,_⟩:=RS.slot _ _ _ ed;obtain ⟨vm,sm,rm,_⟩:=RS.slot _ _ _ em;have rd:aD X.K F (.dct kvs) vd:=rd;simp only[aD] at rd;obtain ⟨a,xs,rfl,fa,rk⟩:=rd;have rm:aD X.K F (.int m) vm:=rm;simp only[aD] at rm;subst rm;have ha:H a=some (.dK xs):=RS.sub _ _ fa;refine ⟨_,sd,a,xs,rfl,ha,λo sf Da hDa=>?_⟩;have nD:Da≠a:=λz=>by rw[z,a7] at hDa;cases hDa
  have hD0:H Da=none:=by rw[aN nD] at hDa;exact hDa
  have lx:=yY rk;have il:i<aB.length:=(aSO.mp hi).1;have jl:j<aB.length:=(aSO.mp hj).1;have s1:∀ u,(aX aB σ++List.replicate 1 none).set aB.length (some u)=aX aB σ++[some u]:=λu=>by
   have:(aX aB σ).length=aB.length:=by simp[aX]
   rw[List.set_append_right _ _ (by omega),this,Nat.sub_self];rfl
  have g:∀ (n c:Nat) (v u:V),aB[n]? = some c->σ[c]? = some (some v)->(aX aB σ++[some u])[n]? = some (some v):=λn c v u h1 h2=>by
   have hl:n<aB.length:=(aSO.mp h1).1;rw[aTV (by simpa[aX] using hl)]
   unfold aX;rw[aTW,h1];simp[h2]
  refine ⟨λn mm ys H'=>mm=xs.length-n/\n<=xs.length/\H'=upd (upd H a (.frz o (.dK xs))) Da (.lst ys)/\ys.length<=n/\∃ zs aU,aE X.K F zs ys/\fY kvs m (kvs.drop n)=some aU/\total=zs++aU,
   ⟨xs.length,rfl,aTF _,rfl,aS1 _,[],total,aE.nil,by simpa using es,rfl⟩,?_⟩
  rintro n mm ys H' ⟨rfl,hn,rfl,hyl,zs,aU,rz,er,et⟩;have hfa:upd (upd H a (.frz o (.dK xs))) Da (.lst ys) a=some (.frz o (.dK xs)):=by rw[aN (Ne.symm nD),a7]
  refine ⟨a7,?_⟩;by_cases hlt:n<xs.length
  . refine .inr ⟨⟨hfa,hlt⟩,by omega,λv H2 y=>?_⟩
    obtain ⟨rfl,kv,ekv,rfl⟩:=y;obtain ⟨d,ekd⟩:=yX rk ekv;have hd:kvs.drop n=(kv.1,d)::kvs.drop (n+1):=by obtain ⟨h1,h2⟩:=aSO.mp ekd;rw[aVD h1,h2]
    rw[hd] at er;unfold fY at er;have hv:=aO.val kv.1 rk;split at er;rotate_left
    . cases er
    rename_i v eg;rw[eg] at hv;obtain ⟨v',ev,rv⟩:=hv;have rv:v'=.int v:=by simpa only [aD] using rv
    subst rv;split at er;rotate_left
    . cases er
    rename_i kk;cases er2:fY kvs m (kvs.drop (n+1)) with
    | none=>rw[er2] at er;cases er
    | some rest' =>
     rw[er2] at er;simp only[aVC,aVO] at er;show _/\_;rw[s1];refine ⟨⟨by simp,λb u eb=>?_⟩,aLY (i:=i) (j:=j) (k:=aB.length) (d:=a) (kx:=kv.1) (v:=v) (m:=m) (g i jd _ _ hi sd) ?_ (g j jm _ _ hj sm) (.inl ⟨xs,kv.1,.inr ⟨o,hfa⟩,rfl,ev.symm⟩) ?_⟩
     . have:b<aB.length:=by
         by_cases hb:b<aB.length
         . exact hb
         . rw[aTT (by simpa[aX] using hb),aTU] at eb
           split at eb <;> cases eb
       rw[aTV (by simpa[aX] using this)] at eb ⊢
       exact eb
     . rw[aTT (by simp[aX])]
       simp[aX]
     by_cases ez:Builtin.bitAnd v m=0
     . rw[if_pos ez] at er;subst er;simp only[ez,decide_true,aWZ,aVJ,aT7];exact ⟨xs.length-(n+1),by omega,by first | rfl | trivial,hlt,by first | rfl | trivial,by omega,zs,rest',rz,er2,et⟩
     . rw[if_neg ez] at er;subst er;simp only[ez,decide_false,Bool.not_false,aT8];refine ⟨kV kv.1,by rw[aTT (by simp[aX])];simp[aX],a7,xs.length-(n+1),by omega,rfl,hlt,?_,by simp;omega,zs++[iH kv.1],rest',aE.append rz (aE.cons (aLX kk) aE.nil),er2,by rw[et];simp⟩
       funext b;by_cases hb:b=Da
       . rw[hb,a7,a7]
       . rw[aN hb,aN hb,aN hb]
  . have en:n=xs.length:=by omega
    subst en;rw[lx,aVE] at er;cases er;rw[aTO] at et;subst et;refine .inl ⟨⟨hfa,aS1 _⟩,a,o,.dK xs,hfa,sf,?_⟩;have eh:upd (upd (upd H a (.frz o (.dK xs))) Da (.lst ys)) a (.dK xs)=upd H Da (.lst ys):=by
     funext b;by_cases hb:b=a
     . rw[hb,a7,aN (Ne.symm nD),ha]
     . rw[aN hb];by_cases hb2:b=Da
       . rw[hb2,a7,a7]
       . rw[aN hb2,aN hb,aN hb2]
    rw[eh];exact w (.ref Da) F _ (aJ.fresh _ RS.sub hD0) ⟨Da,rfl,RS.sub.free hD0,ys,a7,rz⟩ λ_ b eb=>by cases eb;exact hD0
theorem aL0{kd:Nat}(hi:aB[i]? = some jd)(hj:aB[j]? = some jm)(hu:X.A.units+1<cLine)(hc:X.calm=true)(hd:PE X (.Name d p2) (dE jd))(bE:∀ y∈scope.names,y.2 ≠ .cell)(bJ:scope.kind=.function)(bY:∀ y∈scope.names,y.2=.local->scope.names.lookup y.1=some .local)(bL:∀ y∈scope.names,y.2=.free->X.env.kindOf y.1=some .cell\/X.env.kindOf y.1=some .free)(bP:aC.map some=aB.map λi=>X.N[i]?)(cA:∀ y∈aC,(y,NameKind.free)∈scope.names)(bZ:∀ y∈aC,(relabel scope X.env).names.lookup y=some .cell\/(relabel scope X.env).names.lookup y=some .free)(hg:∀ cl A fp s3 H3,PG (aV X scope (aC++[x]) cl A fp s3 H3) (.Name x p1) (gG aB.length))(h1:∀ cl A fp s3 H3,PE (aV X scope (aC++[x]) cl A fp s3 H3) (.Name d p3) (dE i))(h2:∀ p cl A fp s3 H3,PE (aV X scope (aC++[x]) cl A fp s3 H3) (.Name x p) (dE aB.length))(h3:∀ cl A fp s3 H3,PE (aV X scope (aC++[x]) cl A fp s3 H3) (.Name m p6) (dE j)):PV C X (.ListComp (.Name x p0) [⟨.Name x p1,.Name d p2,[.Compare (.BinOp (.Subscript (.Name d p3) (.Name x p4) p5) .BitAnd (.Name m p6) p7) [.NotEq] [.Constant (.int 0) kd p8] p9],0⟩] scope pos) (λρ=>kE ρ jd jm) :=
 PE.imp (aLW (wH (aC:=aC) (tgN:=[x]) (gt:=gG aB.length) (tt:=r6 i j aB.length) (te:=dE aB.length) hc (aLV hd) bE bJ bY bL bP cA bZ hg
  (λcl A fp s3 H3=>wE (u4 op_ne (u0 u3 (qE (xF hu) (h1 cl A fp s3 H3) (h2 p4 cl A fp s3 H3) (λ_ _=>rfl)) (h3 cl A fp s3 H3)) uS rfl) wC) (h2 p0))) λσ H Q q=>aLZ hi hj q
theorem aL1:aZ X (.builtin "sorted") (aZ.or' gP gT):=aZ.or aK1 aLN
theorem aL2(hc:X.calm=true):aZ X (.builtin "sum") (aZ.or' fW fE):=aZ.or (aK2 hc) (aLS hc)
end
end D3
namespace L2
open PySem PySem.Spec PyProof.Rows D3
def cU(t:Str)(X:Cx)(scope:Scope)(N:List Str)(cl:List (Str×Addr))(C:Addr)(fp:List Addr)(s3:Shared)(H3:Hp):Cx:={ aV X scope N cl C fp s3 H3 with fn:=λy=>y==t }
theorem yZ:∀ (names:List (Str×NameKind)) (n:Nat) (h:Heap) (acc:List (Str×Addr)),names.filter (λy=>y.2 == .cell)=[]->cellsFrom n names acc=acc/\pushCells h names=h
 | [],_,_,_,_=>⟨rfl,rfl⟩
 | (x,k)::r,n,h,acc,e=>by
  unfold cellsFrom pushCells;rw[aX2] at e;split at e
  . cases e
  . rename_i hk;rw[if_neg hk,if_neg hk];exact yZ r n h acc e
theorem y0{t:Str}:∀ (names:List (Str×NameKind)) (n:Nat) (h:Heap) (acc:List (Str×Addr)),names.filter (λy=>y.2 == .cell)=[(t,NameKind.cell)]->cellsFrom n names acc=(t,n)::acc/\pushCells h names=h.push { cls:=.type "cell", data:=.cell none }
 | [],_,_,_,e=>by cases e
 | (x,k)::r,n,h,acc,e=>by
  unfold cellsFrom pushCells;rw[aX2] at e;split at e
  . rename_i hk;rw[if_pos hk,if_pos hk];injection e with e1 e2
    cases e1;exact yZ r _ _ _ e2
  . rename_i hk;rw[if_neg hk,if_neg hk];exact y0 r n h acc e
theorem aL3{M:Model}{A:Around}{E:VSP}{s:Shared}{t:Str}{scope:Scope}{globals:Addr}{cl:List (Str×Addr)}{aW:Str}{outer:Env}{Q:Env->Shared->Prop}(bE:scope.names.filter (λy=>y.2 == .cell)=[(t,NameKind.cell)])(hQ:∀ h4:Heap,h4.Ns s.heap.objs.size (λ_=>none)->(∀ b o,s.heap.get? b=some o->h4.get? b=some o)->h4.IsCell (s.heap.objs.size+1) none->Q (newEnv scope s.heap.objs.size globals ((t,s.heap.objs.size+1)::cl) aW none .none (some outer) builtinsNs) { s with heap:=h4 }):wpAny M A (newFunctionEnv scope globals cl [] aW none .none (some outer)) Q E s:=by
 simp only[newFunctionEnv,Option.isSome_some,aT8];refine aSY (wpAny_alloc ?_);refine aSY (wpAny_layCells _ (λname kind cells=>by cases hkc:kind==NameKind.cell <;> simp[hkc]) _ _ _ _ ?_)
 obtain ⟨e1,e2⟩:=y0 scope.names (s.heap.push { cls:=.type "dict", data:=.dict #[] }).objs.size (s.heap.push { cls:=.type "dict", data:=.dict #[] }) cl bE;show wpAny M A _ Q E { s with heap:=pushCells (s.heap.push { cls:=.type "dict", data:=.dict #[] }) scope.names }
 rw[e2];have e3:cellsFrom ({ s with heap:=s.heap.push { cls:=.type "dict", data:=.dict #[] } }:Shared).heap.objs.size scope.names cl=(t,s.heap.objs.size+1)::cl:=by show cellsFrom (s.heap.push _).objs.size scope.names cl=_;rw[e1,aTD]
 rw[e3];rw[aVF];refine aSY (aSX (aSX (hQ _ ?_ ?_ ?_)))
 . exact (Heap.Ns.new s.heap (.type "dict")).keeps λb o e=>hps e
 . exact λb o e=>hps (hps e)
 . have:=aSA (s.heap.push { cls:=.type "dict", data:=.dict #[] }) (o:={ cls:=.type "cell", data:=.cell none }) rfl;rw[aTD] at this;exact ⟨_,this,rfl⟩
theorem aL4{t:Str}{scope:Scope}{env:Env}(bE:scope.names.filter (λy=>y.2 == .cell)=[(t,NameKind.cell)]){x:Str}(h:(relabel scope env).names.lookup x=some .cell\/(relabel scope env).names.lookup x=some .free):x=t\/(x,NameKind.free)∈scope.names:=by
 have key:∀ names:List (Str×NameKind),(∀ y∈names,y.2=.cell->y.1=t)->((names.map λ(n,k)=>if (k == .free&&env.scope.kind == .function&&env.kindOf n==some .cell) then (n,NameKind.cell) else (n,k)).lookup x=some .cell\/(names.map λ(n,k)=>if (k == .free&&env.scope.kind == .function&&env.kindOf n==some .cell) then (n,NameKind.cell) else (n,k)).lookup x=some .free)->x=t\/(x,NameKind.free)∈names:=by
  intro names
  induction names with
  | nil=>intro _ h;rcases h with h | h <;> cases h
  | cons y r ih =>
   intro hc h;obtain ⟨n,k⟩:=y;rw[aUQ] at h;by_cases ex:x=n
   . subst ex;cases k with
     | free=>exact .inr mcs
     | cell=>exact .inl (hc _ mcs rfl)
     | _ =>
      rcases h with h | h
      . simp[aUT] at h
      . simp[aUT] at h
   . have hb:(x==n)=false:=aR7.mpr ex;have h':(r.map λ(n,k)=>if (k == .free&&env.scope.kind == .function&&env.kindOf n==some .cell) then (n,NameKind.cell) else (n,k)).lookup x=some .cell\/(r.map λ(n,k)=>if (k == .free&&env.scope.kind == .function&&env.kindOf n==some .cell) then (n,NameKind.cell) else (n,k)).lookup x=some .free:=by
       by_cases hcnd:(k == .free&&env.scope.kind == .function&&env.kindOf n==some .cell)=true
       . simpa[aUT,hb,hcnd] using h
       . simpa[aUT,hb,hcnd] using h
     rcases ih (λy hy=>hc y (mcm hy)) h' with z | z
     . exact .inl z
     . exact .inr (mcm z)
 refine key scope.names (λy hy e=>?_) h;have hm:y∈scope.names.filter (λy=>y.2 == .cell):=aSG.mpr ⟨hy,by rw[e];rfl⟩
 rw[bE] at hm;rw[aVZ.mp hm]
theorem aL5{t:Str}{X:Cx}{elt aF tg:Expr}{ifs:List Expr}{scope:Scope}{pos:Pos}{aB:List Nat}{aC tgN:List Str}{wi:TI}{gt:TG}{tt:TT}{te:TE}{use:Option (Value->Sem Unit)}{QQ:VSP}{aA:LAO}{s:Shared}{σ:St}{H:Hp}{Q:VK}(hc:X.calm=true)(hi:PI X tg aF wi)(bE:scope.names.filter (λy=>y.2 == .cell)=[(t,NameKind.cell)])(htc:t∉aC)(bJ:scope.kind=.function)(bY:∀ y∈scope.names,y.2=.local->scope.names.lookup y.1=some .local)(bL:∀ y∈scope.names,y.2=.free->X.env.kindOf y.1=some .cell\/X.env.kindOf y.1=some .free)(bP:aC.map some=aB.map λi=>X.N[i]?)(cA:∀ y∈aC,(y,NameKind.free)∈scope.names)(bZ:∀ y∈aC,(relabel scope X.env).names.lookup y=some .cell\/(relabel scope X.env).names.lookup y=some .free)(hg:∀ cl C fp s3 H3,PG (cU t X scope (aC++tgN) cl C fp s3 H3) tg gt)(hf:∀ cl C fp s3 H3,cS (cU t X scope (aC++tgN) cl C fp s3 H3) ifs tt)(he:∀ cl C fp s3 H3,PE (cU t X scope (aC++tgN) cl C fp s3 H3) elt te)(hs:∀ x,foldedSetIterable aF X.env x=pure x)(I:Inv X aA σ H s)(h:iB aB tgN.length wi gt tt te σ H Q)(hend:∀ (D Z:Addr) (s6:Shared) (H5:Hp),(∃ m,s6.heap.Ns Z m)->(∀ h'',Heap.SameBut Z s6.heap h''->Inv X aA σ H5 { s6 with heap:=h'' })->H5 Z=none->X.s₀.heap.objs.size<=Z->Z≠X.env.locals->(∀ x c,X.env.cells.lookup x=some c->c≠Z)->(∀ p∈X.pn++aA,p.1≠Z)->Q (.ref D) H5->compPost (model X.prog X.w) X.A X.xe use QQ (.ref D) Z (.ok .next) s6):wpAny (model X.prog X.w) X.A (comprehension (.ListComp elt [⟨tg,aF,ifs,0⟩] scope pos) scope X.env (firstIterPos [⟨tg,aF,ifs,0⟩] pos) (newList []) (firstAsync [⟨tg,aF,ifs,0⟩]) (firstIter [⟨tg,aF,ifs,0⟩] X.env) use) QQ X.xe s:=by
 obtain ⟨cl,hclos,clsub,clhas⟩:=qP (scope:=scope) (env:=X.env) λy hy hk=>I.ok.has y.1 (bL y hy hk);refine aVL (use:=use) rfl hs hclos bJ bY (thn (hi aA s σ H _ I h) λv s1 h1=>thn h1 λitv s2 h2=>?_);obtain ⟨it,fp,tn,J,H2,e,I2,T,st2,f2,q⟩:=h2;subst e;refine aUH ?_;have hn:H2 s2.heap.objs.size=none:=I2.hok.fresh (aS1 _);obtain ⟨W,⟨m0,w0⟩,turn⟩:=q s2.heap.objs.size hn;have I3:Inv X aA σ (upd H2 s2.heap.objs.size (.lst [])) { s2 with heap:=s2.heap.push { cls:=.type "list", dict:=none,data:=.seq ([]:List Value).toArray } } :=
  I2.laid (t':=s2.toks) (λb u e=>hps e) (aS1 _) ⟨aTF _,[],0,.nil,aSA _ rfl⟩
 generalize hs3:({ s2 with heap:=s2.heap.push { cls:=.type "list", dict:=none,data:=.seq ([]:List Value).toArray } }:Shared)=s3 at I3 ⊢
 generalize hH3:upd H2 s2.heap.objs.size (.lst [])=H3 at I3 w0;have fpl:∀ b∈fp,b<s2.heap.objs.size:=λb hb=>by obtain ⟨o,eo,_⟩:=T.obj 0 _ st2 b hb;exact aSB eo
 have sz3:s3.heap.objs.size=s2.heap.objs.size+1:=by rw[<- hs3];exact aTD _ _
 have keep23:∀ b o,s2.heap.get? b=some o->s3.heap.get? b=some o:=λb o e=>by rw[<- hs3];exact hps e
 have hDf:s2.heap.objs.size∉fp:=λhb=>aSD _ (fpl _ hb);refine aL3 bE λh4 hns keep34 ic0=>?_;have inC:∀ x c,List.lookup x ((t,s3.heap.objs.size+1)::cl)=some c->(x=t/\c=s3.heap.objs.size+1)\/(x≠t/\cl.lookup x=some c/\c<s3.heap.objs.size):=λx c e=>by
  rw[aUT] at e;split at e
  . rename_i h;cases e;exact .inl ⟨by simpa using h,rfl⟩
  . rename_i h;refine .inr ⟨by simpa using h,e,?_⟩
    obtain ⟨v,q⟩:=I3.cell x c (clsub x c e);exact q.lt
 have nostk:∀ b∈fp,b∉frs X.stack:=λb hb z=>by
  obtain ⟨_,f1,f2',_⟩:=f2 b hb;rcases aSL.mp (I2.stkSub b z) with q | q
  . exact f1 q
  . exact f2' q
 have okc:(cU t X scope (aC++tgN) ((t,s3.heap.objs.size+1)::cl) s3.heap.objs.size fp s3 H3).Ok :=
  { mod:=I3.ok.mod
    kind:=bJ
    glob:=I3.ok.glob
    blt:=I3.ok.blt
    above:=aS1 _
    inj:=λx y c h1 h2=>by
     rcases inC x c h1 with ⟨a1,a2⟩ | ⟨a1,a2,a3⟩ <;> rcases inC y c h2 with ⟨b1,b2⟩ | ⟨b1,b2,b3⟩
     . rw[a1,b1]
     . omega
     . omega
     . exact I3.ok.inj x y c (clsub x c a2) (clsub y c b2)
    has:=λx hx=>by
     by_cases ex:x=t
     . exact ⟨_,by rw[ex];exact List.lookup_cons_self⟩
     . obtain ⟨c,hc⟩:=clhas x ((aL4 bE hx).resolve_left ex);refine ⟨c,?_⟩;show List.lookup x ((t,s3.heap.objs.size+1)::cl)=some c;rw[aUT,aR7.mpr ex];exact hc
    cab:=λx c z h1=>by
     rcases inC x c h1 with ⟨a1,a2⟩ | ⟨a1,a2,a3⟩
     . rw[a2];exact aVS _
     . exact absurd (aTC.mp (show (x==t)=true from z)) a1
    hd:=I3.ok.hd
    frames:=I3.ok.frames
    stk:=.inl rfl
    exf:=λb hb=>⟨aSE (by show b<s3.heap.objs.size;rw[sz3];exact aVM (fpl b hb)),λx c e=>by
     rcases inC x c e with ⟨a1,a2⟩ | ⟨a1,a2,a3⟩
     . intro z;have:=fpl b hb;rw[<- z,a2,sz3] at this;exact aSD _ (aSC this (aSI (aVS _) (aVS _)))
     . exact (f2 b hb).2.2.2.2.1 x c (clsub x c a2)⟩
    bs:=I3.bs
    bsz:=aSI I3.ok.bsz I3.sz
    noex:=λb o e hb=>by
     obtain ⟨_,_,_,f3,_⟩:=f2 b hb;rcases f3 with z | z
     . exact I2.ok.noex b o e z
     . exact absurd (aSB (I2.ok.bs b o e).1) (aVN.mpr z)
    exfs:=nostk
    funs:=I3.stack
    frf:=I3.stkFree }
 have capLen:aC.length=aB.length:=by have:=congrArg List.length bP;simpa using this
 generalize hσ0:aX aB σ++List.replicate tgN.length none=σ0 at turn;have Ic:Inv (cU t X scope (aC++tgN) ((t,s3.heap.objs.size+1)::cl) s3.heap.objs.size fp s3 H3) [] σ0 H3 { s3 with heap:=h4 }:=by
  refine ⟨okc,rfl,I3.bare,Un.kept keep34,⟨_,hns,λi y v h1 h2 h3=>?_⟩,λx c e=>?_,I3.hok.fresh (aS1 _),λx c e=>?_,λp hp=>absurd (show p∈([]:LAO) from hp) (by simp),I3.hok.kept keep34,?_⟩
  . by_cases hi:i<aB.length
    . have ey:aC[i]? = some y:=by have h1:(aC++tgN)[i]? = some y:=h1;rw[aTV (by rw[capLen];exact hi)] at h1;exact h1
      have hj:X.N[aB[i]]? = some y:=by
       have e1:(aC.map some)[i]? = (aB.map λi=>X.N[i]?)[i]?:=by rw[bP]
       rw[aTW,aTW,ey,aU7 hi] at e1;simpa using e1.symm
      have ev:σ[aB[i]]? = some (some v):=by
       rw[<- hσ0,aTV (by simpa[aX] using hi)] at h2
       unfold aX at h2;rw[aTW,aU7 hi] at h2;simp only[aVC,aVO] at h2;cases z:σ[aB[i]]? with
       | none=>rw[z] at h2;cases h2
       | some o=>rw[z] at h2;exact congrArg some h2
      have hyf:=cA y (aTX ey);have hkX:=bL _ hyf rfl;obtain ⟨m,_,hl⟩:=I3.loc;obtain ⟨u,ru,lk⟩:=hl aB[i] y v hj ev (by rcases hkX with z | z;exact .inr (.inl z);exact .inr (.inr z))
      refine ⟨u,ru,.inr ⟨bZ y (aTX ey),?_⟩⟩;rcases lk with ⟨hk,_⟩ | ⟨_,c,ec,ic⟩
      . rcases hkX with z | z
        . rw[show X.env.kindOf y=some .cell from z] at hk;cases hk
        . rw[show X.env.kindOf y=some .free from z] at hk;cases hk
      . obtain ⟨c',ec'⟩:=clhas y hyf;have:=clsub y c' ec';rw[ec] at this;cases this;refine ⟨c,?_,ic.keeps keep34⟩;show List.lookup y ((t,s3.heap.objs.size+1)::cl)=some c;rw[aUT,aR7.mpr (λz=>htc (by rw[<- z];exact aTX ey))];exact ec'
    . rw[<- hσ0,aTT (by simpa[aX] using hi),aTU] at h2
      split at h2 <;> cases h2
  . rcases inC x c e with ⟨a1,a2⟩ | ⟨a1,a2,a3⟩
    . rw[a2];exact ⟨_,ic0⟩
    . obtain ⟨v,q⟩:=I3.cell x c (clsub x c a2);exact ⟨v,q.keeps keep34⟩
  . rcases inC x c e with ⟨a1,a2⟩ | ⟨a1,a2,a3⟩
    . rw[a2];exact I3.hok.fresh (aVS _)
    . exact I3.freeC x c (clsub x c a2)
  . rw[<- hσ0];show (aX aB σ++List.replicate tgN.length none).length=(aC++tgN).length;simp[aX,capLen]
 have fpc:∀ {H':Hp},(∀ b∈fp,H' b=none)->∀ b∈fp,dQ (cU t X scope (aC++tgN) ((t,s3.heap.objs.size+1)::cl) s3.heap.objs.size fp s3 H3) [] H' b:=λhn b hb =>
  ⟨hn b hb,(okc.exf b hb).1,nostk b hb,.inl hb,(okc.exf b hb).2,λp hp=>absurd (show p∈([]:LAO) from hp) (by simp)⟩
 have loop:codeAny (model X.prog X.w) X.A (.compLoop (.ListComp elt [⟨tg,aF,ifs,0⟩] scope pos) 0 (.ref it) (.ref s2.heap.objs.size) (compEnvC scope ((t,s3.heap.objs.size+1)::cl) s3.heap.objs.size X.env)) (compPost (model X.prog X.w) X.A X.xe use QQ (.ref s2.heap.objs.size) s3.heap.objs.size) { s3 with heap:=h4 }:=by
  refine wF (λn s'=>∃ i ys H',Inv (cU t X scope (aC++tgN) ((t,s3.heap.objs.size+1)::cl) s3.heap.objs.size fp s3 H3) [] σ0 H' s'/\tn i s'.heap/\(∀ b∈fp,H' b=none)/\W i n ys H') ?_ m0
   ⟨0,[],H3,Ic,T.keep _ _ _ st2 (λb hb o e=>keep34 b o (keep23 b o e)),λb hb=>by rw[<- hH3,aN (by intro z;rw[z] at hb;exact hDf hb)];exact (f2 b hb).1,w0⟩
  rintro n s5 ⟨i,ys,H5,I5,st5,fr5,w5⟩;obtain ⟨hD,hw⟩:=turn i n ys H5 w5;rcases hw with ⟨stop,qq⟩ | ⟨go,hlen,step⟩
  . refine thn (T.done (cU t X scope (aC++tgN) ((t,s3.heap.objs.size+1)::cl) s3.heap.objs.size fp s3 H3) rfl rfl rfl hc i [] s5 σ0 H5 _ I5 (fpc fr5) st5 stop) λr s6 ⟨hr,I6⟩=>?_;subst hr;obtain ⟨m,hm,_⟩:=id I6.loc;refine hend s2.heap.objs.size s3.heap.objs.size s6 H5 ⟨m,hm⟩ (λh'' hsb2=>?_) I6.free I3.sz (λz=>?_) (λx c ec z=>?_) (λp hp z=>?_) qq;rotate_left
    . obtain ⟨m,⟨o,es,ep,ho,_⟩,_⟩:=id I3.loc;rw[<- z] at ho;exact aSD _ (aSB ho)
    . obtain ⟨v,o,ho,_⟩:=I3.cell x c ec;rw[z] at ho;exact aSD _ (aSB ho)
    . have:=(I3.pin p hp).1;rw[z] at this;exact aSD _ (aSB this)
    have u:=I6.base;have neC:∀ b o,s3.heap.get? b=some o->b≠s3.heap.objs.size:=λb o e=>aSE (aSB e);have un:Un (frs X.stack) fp H3 H5 s3.heap h'':=by
     refine ⟨λb o e n hb hx=>hsb2.extBut b o (neC b o e) (u.keep b o e n hb hx),λb o e n hb hx=>?_,u.free,λb o e hx=>?_,u.tups,u.frzs,u.tbls⟩
     . obtain ⟨sl,q⟩:=u.slot b o e n hb hx;exact ⟨sl,hsb2.extBut b _ (neC b o e) q⟩
     . obtain ⟨o',q⟩:=u.there b o e hx;exact ⟨o',hsb2.extBut b _ (neC b o e) q⟩
    have hok : HOk X.prog X.w H5 h'' := fun a o e => (I6.hok a o e).stay (fun b v hb q => hsb2.extBut b v (by
        intro z;have fr:=I6.free;rcases hb with hb | hb
        . rw[hb] at z;rw[z] at e;rw[show H5 s3.heap.objs.size=none from fr] at e;cases e
        . rw[z,show H5 s3.heap.objs.size=none from fr] at hb;cases hb) q) (λ_ q=>q) λ_ _ q=>q
    have os6:=I6.os;obtain ⟨hh,g6,d6,t6,o6⟩:=s6;obtain rfl:o6=s3.os:=os6;have I8:=I3.call (h':=h'') (g':=g6) (d':=d6) (t':=t6) (ch:=fp) un hok I6.bare λb hb=>by obtain ⟨_,f1,_,f3,f4,f5⟩:=f2 b hb;exact ⟨f3,f1,f4,f5⟩
    exact I8
  . refine thn (T.item (cU t X scope (aC++tgN) ((t,s3.heap.objs.size+1)::cl) s3.heap.objs.size fp s3 H3) rfl rfl rfl hc i [] s5 σ0 H5 _ I5 (fpc fr5) st5 go) λr s6 ⟨u,hr,h6⟩=>?_;subst hr;refine thn h6 λ_ s7 ⟨x,H7,I7,r7,y7,st7,fr7⟩=>?_;have I7':=I7.pinned (fpc fr7) (T.obj _ _ st7);refine thn (hg ((t,s3.heap.objs.size+1)::cl) s3.heap.objs.size fp s3 H3 _ s7 σ0 H7 x u _ I7' r7 (step x H7 y7)) λ_ s8 ⟨σ8,H8,I8,wk,q8⟩=>?_;have back:∀ {H':Hp} {s':Shared} {m':Nat} {ys':List V},Inv (cU t X scope (aC++tgN) ((t,s3.heap.objs.size+1)::cl) s3.heap.objs.size fp s3 H3) ([]++hW fp s7.heap) σ8 H' s'->m'<n->W (i+1) m' ys' H' ->
        ∃ m,m<n/\∃ i ys H',Inv (cU t X scope (aC++tgN) ((t,s3.heap.objs.size+1)::cl) s3.heap.objs.size fp s3 H3) [] σ0 H' s'/\tn i s'.heap/\(∀ b∈fp,H' b=none)/\W i m ys H':=λ{H' s' m' ys'} I' hm w'=>by
      have pinned:∀ b∈fp,∀ o,s7.heap.get? b=some o->s'.heap.get? b=some o/\H' b=none:=λb hb o e=>by have:=I'.pin (b,o) (aS5 _ (aS5 _ (jO hb e)));exact ⟨this.1,this.2.1⟩
      refine ⟨m',hm,i+1,ys',H',I'.unpinned.weak wk.1 wk.2,T.keep _ _ _ st7 λb hb o e=>(pinned b hb o e).1,λb hb=>?_,w'⟩;obtain ⟨o,e,_⟩:=T.obj _ _ st7 b hb;exact (pinned b hb o e).2
    refine thn (hf ((t,s3.heap.objs.size+1)::cl) s3.heap.objs.size fp s3 H3 _ s8 σ8 H8 _ I8 q8) λb s9 ⟨H9,I9,q9⟩=>?_;cases b with
    | false=>rw[if_neg aS8] at q9 ⊢;obtain ⟨m',hm,w9⟩:=q9;exact back I9 hm w9
    | true =>
     rw[if_pos rfl] at q9 ⊢;refine thn (he ((t,s3.heap.objs.size+1)::cl) s3.heap.objs.size fp s3 H3 _ s9 σ8 H9 _ I9 q9) λy s10 ⟨yv,H10,I10,r10,hD10,m',hm,w10⟩=>?_;refine thn (nI (X:=cU t X scope (aC++tgN) ((t,s3.heap.objs.size+1)::cl) s3.heap.objs.size fp s3 H3) _ s10 σ8 H10 (.ref s2.heap.objs.size) [yv] (.ref s2.heap.objs.size) [y] (λv H'=>v=.non/\H'=upd H10 s2.heap.objs.size (.lst (ys++[yv]))) I10 rfl (.cons r10 .nil)
      ⟨s2.heap.objs.size,ys,yv,rfl,rfl,hD10,hlen,rfl,rfl⟩) λ_ s11 ⟨v,H11,I11,_,_,e11⟩=>?_
     subst e11;exact back I11 hm w10
 exact codeAny_compStart_list loop (T.self _ 0 _ _ _ (T.keep _ _ _ st2 (λb hb o e=>keep34 b o (keep23 b o e))) loop)
theorem aL6{t:Str}{X:Cx}{elt aF tg:Expr}{ifs:List Expr}{scope:Scope}{pos:Pos}{aB:List Nat}{aC tgN:List Str}{wi:TI}{gt:TG}{tt:TT}{te:TE}(hc:X.calm=true)(hi:PI X tg aF wi)(bE:scope.names.filter (λy=>y.2 == .cell)=[(t,NameKind.cell)])(htc:t∉aC)(bJ:scope.kind=.function)(bY:∀ y∈scope.names,y.2=.local->scope.names.lookup y.1=some .local)(bL:∀ y∈scope.names,y.2=.free->X.env.kindOf y.1=some .cell\/X.env.kindOf y.1=some .free)(bP:aC.map some=aB.map λi=>X.N[i]?)(cA:∀ y∈aC,(y,NameKind.free)∈scope.names)(bZ:∀ y∈aC,(relabel scope X.env).names.lookup y=some .cell\/(relabel scope X.env).names.lookup y=some .free)(hg:∀ cl C fp s3 H3,PG (cU t X scope (aC++tgN) cl C fp s3 H3) tg gt)(hf:∀ cl C fp s3 H3,cS (cU t X scope (aC++tgN) cl C fp s3 H3) ifs tt)(he:∀ cl C fp s3 H3,PE (cU t X scope (aC++tgN) cl C fp s3 H3) elt te)(hs:∀ x,foldedSetIterable aF X.env x=pure x:=by intro _;rfl):PE X (.ListComp elt [⟨tg,aF,ifs,0⟩] scope pos) (iB aB tgN.length wi gt tt te):=by intro aA s σ H Q I h;rw[eval_ListComp];exact aL5 (use:=none) hc hi bE htc bJ bY bL bP cA bZ hg hf he hs I h λD Z s6 H5 hm hI _ _ _ _ _ q=>by obtain ⟨m,hm⟩:=hm;exact ⟨m,hm,λh'' hs=>⟨.ref D,H5,hI h'' hs,rfl,q⟩⟩
end L2
namespace D3
open PySem PySem.Spec PyProof.Rows L2
section
variable {C:Cw}{X:Cx}{pos:Pos}
theorem aL7{aF elt tg:Expr}{x:Str}{ifs:List Expr}{scope:Scope}{aB:List Nat}{aC:List Str}{gi gt ge:Rho->Res}(hc:X.calm=true)(hi:PIv C X tg aF gi)(bE:scope.names.filter (λy=>y.2 == .cell)=[(x,NameKind.cell)])(htc:x∉aC)(bJ:scope.kind=.function)(bY:∀ y∈scope.names,y.2=.local->scope.names.lookup y.1=some .local)(bL:∀ y∈scope.names,y.2=.free->X.env.kindOf y.1=some .cell\/X.env.kindOf y.1=some .free)(bP:aC.map some=aB.map λi=>X.N[i]?)(cA:∀ y∈aC,(y,NameKind.free)∈scope.names)(bZ:∀ y∈aC,(relabel scope X.env).names.lookup y=some .cell\/(relabel scope X.env).names.lookup y=some .free)(hg:∀ cl A fp s3 H3,PGw (cU x X scope (aC++[x]) cl A fp s3 H3) tg (.nm aB.length))(hf:∀ cl A fp s3 H3,cS (cU x X scope (aC++[x]) cl A fp s3 H3) ifs (tT (C.nox.at X) gt))(he:∀ cl A fp s3 H3,PV C.nox (cU x X scope (aC++[x]) cl A fp s3 H3) elt ge)(hs:∀ x,foldedSetIterable aF X.env x=pure x):PV C X (.ListComp elt [⟨tg,aF,ifs,0⟩] scope pos) (λρ=>bF (gi ρ) ρ aB 1 (aI (.nm aB.length)) gt ge) :=
 PE.imp (aL6 (aC:=aC) (tgN:=[x]) (gt:=gOf X.K (.nm aB.length)) (tt:=tT (C.nox.at X) gt) (te:=tG (C.nox.at X) λρ=>bB (ge ρ)) hc hi bE htc bJ bY bL bP cA bZ
  hg hf (λcl A fp s3 H3=>fN (he cl A fp s3 H3)) hs) λσ H Q q=>rB (tgN:=[x]) (λj hj=>by simp[eQ] at hj;omega) q
end
abbrev eS(xs:Array Nat):Prop:=xs.toList.Pairwise (· < ·)
theorem oM{xs:Array Nat}(h:eS xs){i j v u:Nat}(hi:xs[i]? = some v)(hj:xs[j]? = some u)(hl:i<j):v<u:=by rw[<- aXI] at hi hj;obtain ⟨h1,e1⟩:=aSO.mp hi;obtain ⟨h2,e2⟩:=aSO.mp hj;rw[<- e1,<- e2];exact aXX.mp h i j h1 h2 hl
theorem r8{xs:Array Nat}(h:eS xs)(j:Nat):∀ (f lo hi:Nat),hi<=lo+f->lo<=hi->hi<=xs.size->(∀ k v,k<lo->xs[k]? = some v->v<j)->(∀ k v,hi<=k->xs[k]? = some v->j<=v)->SetTable.below.go xs j f lo hi<=xs.size/\(∀ k v,k<SetTable.below.go xs j f lo hi->xs[k]? = some v->v<j)/\∀ k v,SetTable.below.go xs j f lo hi<=k->xs[k]? = some v->j<=v
 | 0,lo,hi,hf,hl,hs,h1,h2=>by
  have:lo=hi:=by omega
  subst this;exact ⟨hs,h1,h2⟩
 | f+1,lo,hi,hf,hl,hs,h1,h2=>by
  unfold SetTable.below.go;split
  . rename_i hlt;dsimp only;have hm:(lo+hi) / 2<xs.size:=by omega
    have em:xs[(lo+hi) / 2]? = some xs[(lo+hi) / 2]:=aW6 hm;have eg:xs.getD ((lo+hi) / 2) j=xs[(lo+hi) / 2]:=by rw[aXF,em];rfl
    rw[eg];split
    . rename_i hv;refine r8 h j f _ _ (by omega) (by omega) hs (λk v hk e=>?_) h2
      by_cases hk2:k=(lo+hi) / 2
      . subst hk2;rw[em] at e;cases e;exact hv
      . exact Nat.lt_trans (oM h e em (by omega)) hv
    . rename_i hv;refine r8 h j f _ _ (by omega) (by omega) (by omega) h1 λk v hk e=>?_
      by_cases hk2:k=(lo+hi) / 2
      . subst hk2;rw[em] at e;cases e;omega
      . have:=oM h em e (by omega);omega
  . have:lo=hi:=by omega
    subst this;exact ⟨hs,h1,h2⟩
theorem oN{xs:Array Nat}(h:eS xs)(j:Nat):SetTable.below xs j<=xs.size/\(∀ k v,k<SetTable.below xs j->xs[k]? = some v->v<j)/\∀ k v,SetTable.below xs j<=k->xs[k]? = some v->j<=v :=
 r8 h j _ _ _ (by omega) (aTF _) (aS1 _) (λk v hk=>absurd hk (Nat.not_lt_zero _)) λk v hk e=>by rw[aW7 hk] at e;cases e
theorem aL8{xs:Array Nat}(h:eS xs):SetTable.below xs 0=0:=by
 obtain ⟨a,b,c⟩:=oN h 0;by_cases h0:SetTable.below xs 0=0
 . exact h0
 . have:=b 0 (xs[0]'(by omega)) (by omega) (aW6 _)
   omega
theorem aL9{xs:Array Nat}(h:eS xs){i p:Nat}(e:xs[i]? = some p):SetTable.below xs (p+1)=i+1:=by
 obtain ⟨a,b,c⟩:=oN h (p+1);have hi:i<xs.size:=by
  rcases aX3 i xs.size with q | q
  . exact q
  . rw[aW7 q] at e;cases e
 have h1:i<SetTable.below xs (p+1):=by
  rcases aX3 i (SetTable.below xs (p+1)) with q | q
  . exact q
  . have:=c i p q e;omega
 by_cases h2:SetTable.below xs (p+1)=i+1
 . exact h2
 . have hl:i+1<xs.size:=by omega
   have e2:xs[i+1]? = some xs[i+1]:=aW6 hl;have u1:=b (i+1) _ (by omega) e2
   have u2:=oM h e e2 (aTE _);omega
def iM(t:SetTable):Prop:=t.plain=false\/(t.dummies = #[]/\eS t.place)
theorem aMA{xs:Array Nat}(h:eS xs){j:Nat}(hn:xs[SetTable.below xs j]?≠some j):j∉xs.toList:=λhm=>by
 obtain ⟨k,hk,e⟩:=aU5 hm;have ek:xs[k]? = some j:=by rw[<- aXI,aU7 hk,e]
 obtain ⟨a,b,c⟩:=oN h j;have hk':k<xs.size:=by simpa using hk
 rcases aX3 k (SetTable.below xs j) with q | q
 . have:=b k j q ek;omega
 . have hb:SetTable.below xs j<xs.size:=by omega
   have eb:xs[SetTable.below xs j]? = some xs[SetTable.below xs j]:=aW6 hb;have v1:=c _ _ (aS1 _) eb;rcases aX3 (SetTable.below xs j) k with q2 | q2
   . have:=oM h eb ek q2;omega
   . have:SetTable.below xs j=k:=by omega
     rw[this] at hn;exact hn ek
theorem y1(j:Nat):SetTable.has #[] j=false:=rfl
theorem aMB{t:SetTable}{j:Nat}(hd:t.dummies = #[])(h:eS t.place)(hn:t.place[SetTable.below t.place j]?≠some j):(t.put j).1.dummies = #[]/\eS (t.put j).1.place:=by
 unfold SetTable.put;dsimp only;rw[hd,y1];refine ⟨rfl,?_⟩;show (SetTable.insertAt t.place (SetTable.below t.place j) j).toList.Pairwise _;have hj:=aMA h hn;obtain ⟨a,b,c⟩:=oN h j;generalize SetTable.below t.place j=p at *;rw[SetTable.toList_insertAt];have ht:t.place.toList.length=t.place.size:=by simp
 have hlt:∀ x∈t.place.toList.take p,x<j:=λx hx=>by obtain ⟨k,hk,e⟩:=aU5 hx;rw[List.getElem_take] at e;rw[aTR] at hk;exact b k x (by omega) (by rw[<- aXI,aU7 (by omega),e])
 have hgt:∀ x∈t.place.toList.drop p,j<x:=λx hx=>by
  have hne:x≠j:=λe=>hj (e ▸ aWJ hx);obtain ⟨k,hk,e⟩:=aU5 hx;rw[List.getElem_drop] at e;rw[aUA] at hk;have:=c (p+k) x (by omega) (by rw[<- aXI,aU7 (by omega),e])
  omega
 have hs:t.place.toList.Pairwise (· < ·):=h;rw[<- aX4 p t.place.toList,aX5] at hs;rw[aX5,aXR];exact ⟨hs.1,⟨hgt,hs.2.1⟩,λx hx y hy=>by
  rcases aSL.mp hy with rfl | hy
  . exact hlt x hx
  . exact hs.2.2 x hx y hy⟩
theorem y3{t:SetTable}(hd:t.dummies = #[]){j:Nat}:(t.slot j=.empty->t.place[SetTable.below t.place j]?≠some j)/\t.slot j ≠ .dummy:=by
 unfold SetTable.slot;dsimp only;rw[hd,y1];constructor
 . intro h e;rw[e] at h;simp at h
 . split <;> simp
theorem y4{t:SetTable}(hd:t.dummies = #[])(f:Nat->Int)(h:Int):∀ (n:Nat) (p:SetTable.Probe) {j:Nat} {d:Option Nat},p.dummy=none->SetTable.probe.go t f h n p=some (.empty j d)->d=none/\t.slot j=.empty
 | 0,p,j,d,hp,e=>by cases e
 | n+1,p,j,d,hp,e=>by
  unfold SetTable.probe.go at e;split at e
  . rename_i hs;cases e;exact ⟨hp,hs⟩
  . rename_i hs;exact absurd hs (y3 hd).2
  . split at e
    . cases e
    . refine y4 hd f h n _ ?_ e;unfold SetTable.advance;split
      . exact hp
      . exact hp
theorem aMC{t:SetTable}(hd:t.dummies = #[]){h:Int}{j:Nat}{b:Bool}(e:t.freeSlot h=some (j,b)):t.place[SetTable.below t.place j]?≠some j:=by
 unfold SetTable.freeSlot SetTable.probe at e;split at e
 . rename_i j' d q;obtain ⟨rfl,hs⟩:=y4 hd _ _ _ _ rfl q;cases e;exact (y3 hd).1 hs
 . cases e
theorem aMD{t:SetTable}{n:Nat}(h:iM t):iM (t.orStandIn n):=by
 unfold SetTable.orStandIn;split
 . exact h
 . exact .inl rfl
theorem aME{t:SetTable}{es:Array (Int×Value)}{h:Int}{x:Value}(ok:iM t):iM (layNew t es h x).2.1:=by
 rcases ok with hp | ⟨hd,hr⟩
 . left;cases q:(layNew t es h x).2.1.plain with
   | false=>rfl
   | true=>rw[rF.2 q] at hp;cases hp
 . unfold layNew;split
   . rename_i slot wd e;exact aMD (.inr (aMB hd hr (aMC hd e)))
   . exact .inl rfl
theorem aMF{t:SetTable}{es:Array (Int×Value)}{n:Nat}:iM (relayAll t es n).2.1:=by
 unfold relayAll;split
 . rename_i t' order e;dsimp only;split
   . unfold SetTable.relaid SetTable.laid at e;cases hl:SetTable.layClean (SetTable.sizeAbove n-1) (es.map (·.1)) with
     | none=>rw[hl] at e;cases e
     | some ow =>
      rw[hl] at e;cases e;refine .inr ⟨rfl,?_⟩;show ((((List.range (SetTable.sizeAbove n-1+1)).filterMap λj=>(ow.getD j none).map (j,·)).map (·.1)).toArray).toList.Pairwise _;have key:∀ l:List Nat,l.Pairwise (· < ·)->((l.filterMap λj=>(ow.getD j none).map (j,·)).map (·.1)).Pairwise (· < ·):=by
       intro l hl
       induction l with
       | nil=>exact .nil
       | cons a l ih =>
        obtain ⟨h1,h2⟩:=aXR.mp hl;rw[aSK];cases ow.getD a none with
        | none=>exact ih h2
        | some k =>
         show (a::_).Pairwise _;refine aXR.mpr ⟨λy hy=>?_,ih h2⟩;obtain ⟨z,hz,rfl⟩:=aX6.mp hy;obtain ⟨b,hb,e⟩:=aS4.mp hz;cases q:ow.getD b none with
         | none=>rw[q] at e;cases e
         | some u=>rw[q] at e;cases e;exact h1 b hb
      exact key _ List.pairwise_lt_range
   . exact .inl rfl
 . exact .inl rfl
def cL(w:World):List Int->List (Int×Value)->Prop
 | [],l=>l=[]
 | x::xs,l=>∃ t r,l=(hashInt x,.int x t)::r/\cL w xs r
theorem cL.mem{w:World}:∀ {xs:List Int} {l:List (Int×Value)},cL w xs l->∀ e∈l,∃ x t,x∈xs/\e=(hashInt x,.int x t)
 | [],l,h,e,he=>by have h:l=[]:=h;subst h;cases he
 | x::xs,l,h,e,he=>by
  obtain ⟨t,r,rfl,hr⟩:=h;rcases aSL.mp he with rfl | he
  . exact ⟨x,t,mcs,rfl⟩
  . obtain ⟨y,u,hy,e1⟩:=hr.mem e he;exact ⟨y,u,mcm hy,e1⟩
theorem cL.mem'{w:World}:∀ {xs:List Int} {l:List (Int×Value)},cL w xs l->∀ x∈xs,∃ t,(hashInt x,.int x t)∈l
 | x::xs,l,h,y,hy=>by
  obtain ⟨t,r,rfl,hr⟩:=h;rcases aSL.mp hy with rfl | hy
  . exact ⟨t,mcs⟩
  . obtain ⟨u,hu⟩:=hr.mem' y hy;exact ⟨u,mcm hu⟩
theorem cL.length{w:World}:∀ {xs:List Int} {l:List (Int×Value)},cL w xs l->l.length=xs.length
 | [],l,h=>by have h:l=[]:=h;subst h;rfl
 | x::xs,l,h=>by obtain ⟨t,r,rfl,hr⟩:=h;simp[hr.length]
theorem cL.snoc{w:World}:∀ {xs:List Int} {l:List (Int×Value)} {x:Int} {t:Tok},cL w xs l->cL w (xs++[x]) (l++[(hashInt x,.int x t)])
 | [],l,x,t,h=>by have h:l=[]:=h;subst h;exact ⟨t,[],rfl,rfl⟩
 | y::xs,l,x,t,h=>by obtain ⟨u,r,rfl,hr⟩:=h;exact ⟨u,_,rfl,hr.snoc⟩
theorem cL.perm{w:World}{l l':List (Int×Value)}(p:l'.Perm l):∀ {xs:List Int},cL w xs l->∃ ys:List Int,ys.Perm xs/\cL w ys l':=by
 induction p with
 | nil=>exact λh=>⟨_,.refl _,h⟩
 | cons e _ ih =>
  intro xs h;cases xs with
  | nil=>cases (show _::_=[] from h)
  | cons x xs=>obtain ⟨t,r,e1,hr⟩:=h;cases e1;obtain ⟨ys,p1,h1⟩:=ih hr;exact ⟨x::ys,p1.cons x,t,_,rfl,h1⟩
 | swap a b l =>
  intro xs h;cases xs with
  | nil=>cases (show _::_=[] from h)
  | cons x xs =>
   obtain ⟨t,r,e1,hr⟩:=h;cases e1;cases xs with
   | nil=>cases (show _::_=[] from hr)
   | cons y xs=>obtain ⟨u,r',e2,hr'⟩:=hr;cases e2;exact ⟨y::x::xs,.swap x y xs,u,_,rfl,t,_,rfl,hr'⟩
 | trans _ _ ih1 ih2=>intro xs h;obtain ⟨ys,p1,h1⟩:=ih2 h;obtain ⟨zs,p2,h2⟩:=ih1 h1;exact ⟨zs,p2.trans p1,h2⟩
theorem lX{P:Program}{w:World}{x y:Int}{t:Tok}:(PySem.intKind P w).is x (.int y t)=decide (y=x):=by show Value.isInt x (.int y t)=_;rw[aS7];simp[Value.isInt]
theorem cL.elems{P:Program}{w:World}{xs:List Int}{l:List (Int×Value)}(h:cL w xs l):ElemsOf (PySem.intKind P w) l:=λe he=>by obtain ⟨x,t,_,rfl⟩:=h.mem e he;exact ⟨⟨x,by rw[lX];simp,rfl⟩,rfl⟩
def bK(w:World)(h:Heap)(a:Addr)(xs:List Int):Prop:=∃ o es ep t,h.get? a=some o/\o.ExactSet/\o.data=.set es ep t/\cL w xs es.toList/\xs.Nodup/\xs.length<scanBound/\t.fits es.size=true/\t.led = !dC w/\iM t
section
variable {prog:Program}{w:World}{A:Around}{E:VSP}{s:Shared}
theorem y6(P:Program){h:Heap}{a:Addr}{o:Obj}{es:Array (Int×Value)}{ep:Nat}{t:SetTable}(ho:h.get? a=some o)(hex:o.ExactSet)(hd:o.data=.set es ep t){es':Array (Int×Value)}{t':SetTable}{xs:List Int}(he:cL w xs es'.toList)(hn:xs.Nodup)(hb:xs.length<scanBound)(hf:t'.fits es'.size=true)(hl:t'.led = !dC w)(hp:iM t'):(h.update a (Obj.putSet es' t')).get? a=some { o with data:=.set es' (ep+1) t' }/\bK w (h.update a (Obj.putSet es' t')) a xs:=by
 have hs:es'.size=xs.length:=by rw[<- aSU];exact he.length
 have g:=(SetOf_store (knd:=PySem.intKind P w) (S':=λk=>decide (∃ e∈es'.toList,(PySem.intKind P w).is k e.2=true)) ho hex hd he.elems (λk=>by simp) (by rw[hs];exact hb) hf).1
 exact ⟨g,_,es',ep+1,t',g,hex,rfl,he,hn,hb,hf,hl,hp⟩
theorem y8 (g : Bool → Sem Unit) (hg : ∀ (b : Bool) {s₁ : Shared} {Q' : Unit → Shared → Prop}, Q' () s₁ → wpAny (model prog w) A (g b) Q' E s₁) {a : Addr} {o : Obj} {es : Array (Int × Value)} {ep : Nat} {t : SetTable} (ho : s.heap.get? a = some o) (hex : o.ExactSet) (hd : o.data = .set es ep t) {es1 : Array (Int × Value)} {t2 : SetTable} {xs : List Int} (he : cL w xs es1.toList) (hn : xs.Nodup) (hb : xs.length < scanBound) (hf : t2.fits es1.size = true) (hl : t2.led = !dC w) (hp : iM t2) {wasDummy : Bool} {R : Option Bool → Shared → Prop} (h : ∀ h' ys, Heap.SameBut a s.heap h' → bK w h' a ys → ys.Perm xs → R (some true) { s with heap := h' }) :
    wpAny (model prog w) A (do
        storeSet a es1 t2
        if (!wasDummy && t2.tooFull) = true then do
            g (relayAll t2 es1 (SetTable.grown es1.size)).2.2
            storeSet a (relayAll t2 es1 (SetTable.grown es1.size)).1 (relayAll t2 es1 (SetTable.grown es1.size)).2.1
            pure (some true)
         else pure (some true)) R E s:=by
 have z:∀ {l:Array (Int×Value)} {ys:List Int},cL w ys l.toList->ys.length<scanBound->l.size<=sizeLine:=λq1 q2=>aWO (by rw[<- aSU,q1.length];exact q2)
 obtain ⟨g1,X1⟩:=y6 prog ho hex hd he hn hb hf hl hp;refine aSY (aWP ho hd ?_ (z he hb));have sb:=aV9 s.heap a (Obj.putSet es1 t2);split
 . have pm:=relayAll_perm t2 es1 (SetTable.grown es1.size);have ft:=relayAll_fits t2 es1 (SetTable.grown es1.size);have fl:=xJ (t:=t2) (es:=es1) (n:=SetTable.grown es1.size);have pl:=aMF (t:=t2) (es:=es1) (n:=SetTable.grown es1.size);generalize relayAll t2 es1 (SetTable.grown es1.size)=R1 at *;obtain ⟨es2,t3,gv⟩:=R1;dsimp only at pm ft fl pl ⊢;obtain ⟨ys,p1,e2⟩:=he.perm pm;have yb:ys.length<scanBound:=by rw[p1.length_eq];exact hb
   obtain ⟨_,X2⟩:=y6 prog g1 hex rfl e2 (p1.symm.nodup hn) yb ft (fl.1.trans hl) pl;refine aSY (hg gv ?_);exact aSY (aWP g1 rfl (aSX (h _ ys (sb.trans (aV9 _ a _)) X2 p1)) (z e2 yb))
 . exact aSX (h _ xs sb X1 (.refl _))
theorem add_i{a:Addr}{xs:List Int}{x:Int}{tk:Tok}{Q:Bool->Shared->Prop}(h:bK w s.heap a xs)(hr:xs.length+1<scanBound)(hq:∀ h' ys,Heap.SameBut a s.heap h'->bK w h' a ys->ys.Perm (if x∈xs then xs else xs++[x])->Q (!decide (x∈xs)) { s with heap:=h' }):wpAny (model prog w) A (setAddHashed a (.int x tk) (hashInt x)) Q E s:=by
 obtain ⟨o,es,ep,t,ho,hex,hd,he,hn,hb,hf,hl,hp⟩:=id h;have el:ElemsOf (PySem.intKind prog w) es.toList:=he.elems;have hz:es.size=xs.length:=by rw[<- aSU];exact he.length
 have hk:(PySem.intKind prog w).is x (.int x tk)=true:=by rw[lX];simp
 unfold setAddHashed setAddHashedIn;refine aUB (aSY (aWQ ho hd hf ?_));dsimp only;rw[byScan_of (knd:=PySem.intKind prog w) (x:=.int x tk) rfl (by rw[hz];exact hb) el]
 simp only[↓reduceIte];unfold setAddByScan;refine aSY (aSY (aVY (aSY (wpAny_setScan_of (knd:=PySem.intKind prog w) hk ho hd hf el ?_))));cases hf':List.findIdx? (λe=>(PySem.intKind prog w).is x e.2) es.toList with
 | some j =>
  dsimp only;obtain ⟨hj,hpj,_⟩:=aWR.mp hf';obtain ⟨y,u,hy,ey⟩:=he.mem _ (aU8 hj);rw[ey,lX,aUU] at hpj;subst hpj;have:=hq s.heap xs (aVP a s.heap) h (by rw[if_pos hy])
  rw[aUN hy] at this;exact aSX (aSX this)
 | none =>
  dsimp only;have nx:¬ x∈xs:=λhx=>by obtain ⟨u,hu⟩:=he.mem' x hx;have:=List.findIdx?_eq_none_iff.mp hf' _ hu;rw[lX] at this;simp at this
  have pm:=layNew_perm t es (hashInt x) (.int x tk);have ft:=layNew_fits t es (hashInt x) (.int x tk);have fl:=rF (t:=t) (es:=es) (h:=hashInt x) (x:=.int x tk);have po:=aME (es:=es) (h:=hashInt x) (x:=.int x tk) hp;show wpAny _ _ (match layNew t es (hashInt x) (.int x tk) with | (es,t,wasDummy,gave)=>_) _ _ _
  generalize layNew t es (hashInt x) (.int x tk)=L at *;obtain ⟨es1,t1,wd,gv⟩:=L;dsimp only at pm ft fl po ⊢;rw[aWS] at pm;obtain ⟨ys,p1,e1⟩:=(he.snoc (x:=x) (t:=tk)).perm pm;have yn:ys.Nodup:=p1.symm.nodup (aWT.mpr ⟨hn,by simp,λa ha b hb e=>by rw[aVZ] at hb;subst hb;subst e;exact nx ha⟩)
  have yb:ys.length<scanBound:=by rw[p1.length_eq,aTY];simpa using hr
  have fin:∀ h' zs,Heap.SameBut a s.heap h'->bK w h' a zs->zs.Perm ys->Q true { s with heap:=h' }:=λh' zs q1 q2 q3=>by
   have:=hq h' zs q1 q2 (by rw[if_neg nx];exact q3.trans p1)
   rw[aR6 nx] at this;exact this
  refine aSY ?_;have gg:∀ (b:Bool) {s₁:Shared} {Q':Unit->Shared->Prop},Q' () s₁->wpAny (model prog w) A (match b with | true=>rule "set.scan.the-table-gave-way" | false=>pure ()) Q' E s₁:=λb _ _ q=>xK b q
  refine gg _ ?_;split
  . refine aSY ?_;rw[hashByValue_scannable 8 (x:=.int x tk) rfl];refine aSX ?_;refine y8 _ gg (t2:=t1) ho hex hd e1 yn yb ft (fl.1.trans hl) po ?_;exact λh' zs q1 q2 q3=>aSX (fin h' zs q1 q2 q3)
  . rename_i np;refine aSY (aSX ?_);refine y8 _ gg (t2:=t1) ho hex hd e1 yn yb ft (fl.1.trans hl) po ?_;exact λh' zs q1 q2 q3=>aSX (fin h' zs q1 q2 q3)
end
theorem bK.kept{w:World}{h h':Heap}{a:Addr}{xs:List Int}(x:bK w h a xs)(k:∀ o,h.get? a=some o->h'.get? a=some o):bK w h' a xs:=by obtain ⟨o,es,ep,t,ho,r⟩:=x;exact ⟨o,es,ep,t,k o ho,r⟩
theorem bK.there{w:World}{h:Heap}{a:Addr}{xs:List Int}(x:bK w h a xs):a<h.objs.size:=by obtain ⟨o,es,ep,t,ho,r⟩:=x;exact aSB ho
section
variable {prog:Program}{w:World}{A:Around}{E:VSP}{s:Shared}
theorem aMG{a:Addr}{xs:List Int}{x:Int}{tk:Tok}{Q:Bool->Shared->Prop}(h:bK w s.heap a xs)(hr:xs.length+1<scanBound)(hq:∀ h' ys,Heap.SameBut a s.heap h'->bK w h' a ys->ys.Perm (if x∈xs then xs else xs++[x])->Q (!decide (x∈xs)) { s with heap:=h',toks:=s.toks+1 }):wpAny (model prog w) A (setAdd a (.int x tk)) Q E s:=by
 unfold setAdd;refine aUB (aSY ((PySem.intKind prog w).pyHash (k:=x) (v:=.int x tk) (by rw[lX];simp) ?_))
 exact add_i (s:={ s with toks:=s.toks+1 }) h hr hq
theorem aMH{R:Result->Shared->Prop}{I:Addr}{fp wr:List Addr}{n:Nat}{P:Nat->Value->Prop}{St:Nat->Heap->Prop}(W:Walks prog w A.in1 I fp wr n P St){ns:List Int}(hn:ns.length=n)(hb:n<scanBound)(hP:∀ i v,P i v->∃ x t,ns[i]? = some x/\v=.int x t)(S:Addr)(hSf:S∉fp):∀ (k i:Nat) (s:Shared) (xs:List Int),n-i=k->i<=n->St i s.heap->bK w s.heap S xs->xs.length<=i->(∀ y,y∈xs↔y∈ns.take i)->(∀ h' tk ys,(∀ b o,b≠S->b∉wr->s.heap.get? b=some o->h'.get? b=some o)->bK w h' S ys->(∀ y,y∈ys↔y∈ns)->R (.ok (.ret .none)) { s with heap:=h',toks:=tk })->codeAny (model prog w) A (.builtin "set.update.loop" ⟨[.ref S,.ref I],[]⟩) R s:=by
 have hSw:S∉wr:=λh=>hSf (W.sub _ h);intro k
 induction k with
 | zero =>
  intro i s xs hk hi hst hS hl hm hR;have hin:i=n:=by omega
  subst hin;refine aWW xN ?_;rw[aWX rG _];show wpAny _ A.in1 (pyNext (.ref I) >>= _) _ _ s;refine aSY (W.done s _ _ hst λh' tk hk'=>?_);exact aSX (hR h' tk xs (λb o _ hb e=>hk' b o hb e) (hS.kept λo e=>hk' S o hSw e) λy=>by rw[hm,aVW (Nat.le_of_eq hn)])
 | succ k ih =>
  intro i s xs hk hi hst hS hl hm hR;have hlt:i<n:=by omega
  refine aWW xN ?_;rw[aWX rG _];show wpAny _ A.in1 (pyNext (.ref I) >>= _) _ _ s;refine aSY (W.item i s _ _ hlt hst λv h1 tk hP1 hst1 hk1=>?_);obtain ⟨x,t,hx,rfl⟩:=hP i v hP1;have hS1:=hS.kept λo e=>hk1 S o hSw e;show wpAny _ A.in1 (holding [.int x t] (setAdd S (.int x t)) >>= _) _ _ _;refine aSY (aUB (aMG (s:={ s with heap:=h1,toks:=tk }) hS1 (by omega) λh2 ys sb X2 pm=>?_))
  refine aSX ⟨aWV rG _,ih (i+1) _ ys (by omega) hlt (W.frame _ _ _ hst1 λb hb o e=>?_) X2 ?_ ?_ λh3 tk3 zs kp X3 m3=>?_⟩
  . exact sb.extBut b o (λe'=>hSf (e' ▸ hb)) e
  . rw[pm.length_eq];split
    . omega
    . rw[aTY];simp;omega
  . intro y;rw[pm.mem_iff,List.take_add_one,hx,aSM];split
    . rename_i hxx;simp only[Option.toList_some,aVZ];exact ⟨λh=>.inl ((hm y).mp h),λh=>h.elim (hm y).mpr λe=>e ▸ hxx⟩
    . rw[aSM,hm y];simp
  . exact hR h3 tk3 zs (λb o h1' h2' e=>kp b o h1' h2' (sb.extBut b o h1' (hk1 b o h2' e))) X3 m3
end
theorem sob_i{w:World}{h:Heap}{a:Addr}(g:h.get? a=some (sob w)):bK w h a [] :=
 ⟨_,#[],0,_,g,⟨rfl,rfl,rfl⟩,rfl,rfl,aWU,by decide,rfl,rfl,.inr ⟨rfl,.nil⟩⟩
theorem aMI:isSubtype (.type "list") (.type "set")=pure false:=by rw[aW1];kernel_rfl
theorem aMJ:isSubtype (.type "list") (.type "frozenset")=pure false:=by rw[aW1];kernel_rfl
theorem y9:∀ {vs:List Value} {ns:List Int},IntsAre vs ns->∀ {i:Nat} {v:Value},vs[i]? = some v->∃ x t,ns[i]? = some x/\v=.int x t
 | _,_,.nil,i,v,h=>by simp at h
 | _,_,.cons x t r,0,v,h=>by cases h;exact ⟨x,t,rfl,rfl⟩
 | _,_,.cons x t r,i+1,v,h=>y9 r (i:=i) h
section
variable {prog:Program}{w:World}{A:Around}{E:VSP}{s:Shared}
theorem aMK{M:Model}{p:Addr}{Q:Bool->Shared->Prop}(tp:s.TypeIs (.ref p) "list")(q:Q false s):wpAny M A (isInstance (.ref p) (.type "set") <||> isInstance (.ref p) (.type "frozenset")) Q E s:=by unfold orM;exact aSY (aWG tp aMI (aWG tp aMJ q))
theorem aML{a p:Addr}{its:Array Value}{ns:List Int}{K:Fin->Shared->Prop}(hh:A.handled=none)(g0:s.heap.get? a=some (sob w))(hp:s.heap.IsList p its)(ne:a≠p)(hv:PyProof.Rows.IntsAre its.toList ns)(hb:ns.length<scanBound)(h:∀ h' tk ys,(∀ b o,b≠a->s.heap.get? b=some o->h'.get? b=some o)->bK w h' a ys->(∀ y,y∈ys↔y∈ns)->K (.done (.ret .none)) { s with heap:=h',toks:=tk }):wpAny (model prog w) A (Builtin.«set.__init__» ⟨[.ref a,.ref p],[]⟩) K E s:=by
 have ty:s.TypeIs (.ref a) "set" := ⟨_,g0,rfl⟩;have tp:s.TypeIs (.ref p) "list" := hp.typeIs;unfold Builtin.«set.__init__»;refine aSY (m:=noKeywords _ _) (aSX ?_);dsimp only;unfold typeNameOfCut shownTypeOf;refine aSY (aSY (aSY (aUF ty ?_)));have e1:(Value.type "set" == Value.type "builtin_function_or_method")=false:=by decide
 simp only[e1,aVJ,↓reduceIte];refine aSX ?_;refine aSX (aSY (m:=checkCount _ 0 1 _) (aSX (aSY (m:=Builtin.Frozenset.addrOf _) (aSX (aSY ?_)))));unfold setUsed;refine aSY (aWQ g0 rfl rfl (aSX ?_));have e2:((SetTable.fresh 0 0 (!dC w)).fill != 0)=false:=rfl;dsimp only;rw[e2];simp only[aVJ,↓reduceIte];refine aSY ?_;unfold Builtin.Frozenset.updateFrom Builtin.Frozenset.isAnySet;refine aSY (aMK tp ?_);simp only[aVJ,↓reduceIte];refine aSY (aUF tp ?_);have e3:(Value.type "list" == Value.type "dict")=false:=by decide
 simp only[e3,aVJ,↓reduceIte];refine aSY (aS0 hp (aSY (wpAny_runValue ?_)));obtain ⟨op,ho,hrest⟩:=id hp;have lp:p<s.heap.objs.size:=aSB ho;have la:a<s.heap.objs.size:=aSB g0;have hz:its.size=ns.length:=by rw[<- aSU];exact hv.length
 refine aMH (A:=A) (Walks.list (A:=A.in1) hh s.heap.objs.size p (aSE lp) its) (ns:=ns) hz.symm (by rw[hz];exact hb) (λi v q=>y9 hv (by rw[aXI];exact q)) a
  (by simp only[aSL,aXG,aWD,not_or];exact ⟨aSE la,ne⟩) _ 0 _ [] rfl (aTF _) ⟨⟨_,aSA _ rfl,rfl,rfl⟩,hp.push _⟩ (sob_i (hps g0)) (aTF _) (λy=>by simp) λh' tk ys kp X m=>?_
 exact aSX (aSX (h h' tk ys (λb o hb e=>kp b o hb (by simp only[aSL,aXG,aWD];exact aSE (aSB e)) (hps e)) X m))
theorem aMM{p:Addr}{its:Array Value}{ns:List Int}{Q:VSP}(hh:A.handled=none)(hp:s.heap.IsList p its)(hv:PyProof.Rows.IntsAre its.toList ns)(hb:ns.length<scanBound)(h:∀ h' tk ys,(∀ b o,s.heap.get? b=some o->h'.get? b=some o)->bK w h' s.heap.objs.size ys->(∀ y,y∈ys↔y∈ns)->Q (.ref s.heap.objs.size) { s with heap:=h',toks:=tk }):wpAny (model prog w) A (call (.type "set") [.ref p]) Q E s:=by
 obtain ⟨c,tl,hmro⟩:=PySem.F.called_set.mro;have hmade:=PySem.F.called_set.made;have hsub:=PySem.F.called_set.sub;have h1:=PySem.F.called_set.notType;have h2:=PySem.F.called_set.canCreate;have hct:=aKF (.ref p);refine wpAny_call (codeAny_of_tree (show wpAny _ _ (callAny (.type "set") _) _ _ _ from aSX ⟨Code.quiet_builtin _ (by decide +kernel),aWW PySem.F.entry_type_call ?_⟩))
 rw[Around.under_plain (weight_type_call_type "set" [.ref p] []) rfl]
 repeat (any_goals (first | assumption | wp_step))
 refine aUS (aKI (E:=E) (.ref p) (Q1:=λr s1=>r=.ref s.heap.objs.size/\s1={ s with heap:=s.heap.push (sob w) }) ⟨rfl,rfl⟩) λr s1 hr=>?_
 cases r with
 | error e=>exact hr
 | ok fl =>
  cases fl with
  | ret obj =>
   obtain ⟨rfl,rfl⟩:=hr;have g0:(s.heap.push (sob w)).get? s.heap.objs.size=some (sob w):=aSA _ rfl;have ty:Shared.TypeIs { s with heap:=s.heap.push (sob w) } (.ref s.heap.objs.size) "set" := ⟨_,g0,rfl⟩
   have hli:=PySem.F.called_set.init.lookup;have hbi:=PySem.F.called_set.init.bind (.ref s.heap.objs.size)
   repeat (any_goals (first | assumption | wp_step))
   refine aUS (codeAny_call_builtin (R:=wants (λr s2=>r=.none/\Q (.ref s.heap.objs.size) s2) E) PySem.F.called_set.init.plain PySem.F.entry_set_init (aKJ ty ?_)) λr2 s2 hr2=>?_
   . refine aML (A:=A.in1.in1) (s:={ s with heap:=s.heap.push (sob w) }) hh g0 (hp.push _) (aSW (aSB hp.choose_spec.1)) hv hb λh' tk ys kp X m=>⟨rfl,h h' tk ys (λb o e=>kp b o (aSE (aSB e)) (hps e)) X m⟩
   . cases r2 with
     | error e=>exact hr2
     | ok f2 =>
      cases f2 with
      | ret r =>
       obtain ⟨rfl,hq⟩:=hr2
       repeat (any_goals (first | assumption | wp_step))
      | _=>exact hr2.elim
  | _=>exact hr.elim
end
theorem bK.ty{w:World}{s:Shared}{a:Addr}{xs:List Int}(x:bK w s.heap a xs):s.TypeIs (.ref a) "set" := by obtain ⟨o,es,ep,t,ho,hex,r⟩:=x;exact ⟨o,ho,hex.1⟩
section
variable {prog:Program}{w:World}{A:Around}{E:VSP}{s:Shared}
variable {I a:Addr}{ep:Nat}{o:Obj}{es:Array (Int×Value)}{t:SetTable}
def plc(t:SetTable):Nat->Nat
 | 0=>0
 | i+1=>t.place.getD i 0+1
theorem zA(h:eS t.place){i:Nat}(hi:i<=t.place.size):SetTable.below t.place (plc t i)=i:=by
 cases i with
 | zero=>exact aL8 h
 | succ i =>
  have e:t.place[i]? = some (t.place[i]'(by omega)):=aW6 _
  show SetTable.below t.place (t.place.getD i 0+1)=_;rw[aXF,e];exact aL9 h e
theorem aMN(hh:A.handled=none)(hne:a≠I)(hd:o.data=.set es ep t)(hf:t.fits es.size=true)(bt:dC w=false)(hl:t.led=true)(hr:eS t.place)(h1:(!t.plain&&decide (es.size > 1))=false):Walks prog w A I [I,a] [I] es.size (λi v=>(es.map (·.2))[i]? = some v) (λi h=>SIt h I a (.int ((plc t i:Nat):Int) 0) i es.size ep/\h.get? a=some o):=by
 have hz:t.place.size=es.size:=by unfold SetTable.fits at hf;rw[aUG,aTC] at hf;exact hf.1
 refine ⟨λb hb=>by simp at hb;simp[hb],λ_ _ _ st hk=>⟨st.1.at λo e=>hk I (by simp) o e,hk a (by simp) o st.2⟩,λi s Q E hi st hQ=>?_,λs Q E st hQ=>?_,λ_ _ _ _ st hQ=>n9 st.1 hQ⟩
 . have e1:es[i]? = some (es[i].1,es[i].2):=aW6 hi;have e2:t.place[i]? = some (t.place[i]'(by omega)):=aW6 _
   have e3:plc t (i+1)=t.place[i]'(by omega)+1:=by show t.place.getD i 0+1=_;rw[aXF,e2];rfl
   refine rJ (k:=plc t i) (k':=plc t (i+1)) st.1 st.2 hd hf (x:=es[i].2) (λ{A' E' Q'} q=>?_) λh' sb X'=>?_
   . unfold setNext;refine aSY (aWQ st.2 hd hf (aSY (fD ?_)));simp only[bt,↓reduceIte,aVJ];split
     . rename_i hc;have hc:(!t.plain&&decide (es.size > 1))=true:=hc;rw[h1] at hc;cases hc
     . show wpAny _ _ ((if (!t.led&&!(es.isEmpty))=true then _ else _) >>= _) _ _ _;rw[hl];refine aSY (aSX ?_);rw[zA hr (by omega),e1,e2]
       rw[e3] at q;exact aSX q
   . exact hQ _ h' s.toks (by rw[Array.getElem?_map,e1];rfl) ⟨X',sb.extBut a o hne st.2⟩ λb o' hb e=>sb.extBut b o' (λh=>hb (by simp[h])) e
 . refine rK hh st.1 st.2 hd hf (λ{A' E' Q'} q=>?_) λh' kp=>hQ h' s.toks λb o' hb e=>kp b o' (λh=>hb (by simp[h])) e
   unfold setNext;refine aSY (aWQ st.2 hd hf (aSY (fD ?_)));simp only[bt,↓reduceIte,aVJ];split
   . rename_i hc;have hc:(!t.plain&&decide (es.size > 1))=true:=hc;rw[h1] at hc;cases hc
   . show wpAny _ _ ((if (!t.led&&!(es.isEmpty))=true then _ else _) >>= _) _ _ _;rw[hl];refine aSY (aSX ?_);rw[zA hr (by omega),aW7 (aS1 _)]
     exact aSX q
theorem oO:∀ {xs:List Int} {l:List (Int×Value)},cL w xs l->IntsAre (l.map (·.2)) xs
 | [],l,h=>by have h:l=[]:=h;subst h;exact .nil
 | x::xs,l,h=>by obtain ⟨t,r,rfl,hr⟩:=h;exact .cons x t (oO hr)
theorem aMO{xs:List Int}{Q:VSP}(hh:A.handled=none)(X:bK w s.heap a xs)(q:∀ (I:Addr) (h':Heap) d (fp:List Addr) (items:List Value) (ys:List Int) (St:Nat->Heap->Prop),Walks prog w A I fp [I] items.length (λi v=>items[i]? = some v) St->St 0 h'->IntsAre items ys->ys.Perm xs->(∀ b o,s.heap.get? b=some o->h'.get? b=some o)->s.heap.objs.size<=I->(∀ b∈fp,b=a\/s.heap.objs.size<=b)->Q (.ref I) { s with heap:=h',drawn:=d }):wpAny (model prog w) A (pyIter (.ref a)) Q E s:=by
 obtain ⟨o,es,ep,t,ho,hex,hd,he,hn,hb,hf,hl,hp⟩:=id X;have la:=X.there;have hz:es.size=xs.length:=by rw[<- aSU];exact he.length
 refine aW2 X.ty aXA (aUE aXA X.ty xR ?_ (PySem.F.args_set_iter_1 _));unfold Builtin.«frozenset.__iter__»;refine aSY (m:=Builtin.Frozenset.slot0 _ _) (aSX (aSY ?_));unfold Builtin.Frozenset.sizeOf;refine aSY (aW4 ho hd hf (aSX (aSY ?_)));unfold setDrawn;refine aSY (aWQ ho hd hf (aSY (fD (aSX ?_))));dsimp only;have sz:es.size<=sizeLine:=by rw[hz];exact aWO hb
 split
 . rename_i hc;refine aSY (rL (by simp) λd l' pl=>aSY (wpAny_newTuple ?_ (by rw[aTZ,pl.length_eq,aW8];exact sz)))
   have ho1:=aXB (seqObj "tuple" (l'.map λ(i:Nat)=>rawInt i).toArray 0) ho;refine aSY (aXC (s:={ s with heap:=s.heap.push (seqObj "tuple" (l'.map λ(i:Nat)=>rawInt i).toArray 0),drawn:=d }) ho1 hd hf (aSY (aUH (aSX ⟨_,rfl, "set_iterator", _,⟨_,aSA _ rfl,rfl⟩,eD.lookup,?_⟩))))
   have ls:(s.heap.push (seqObj "tuple" (l'.map λ(i:Nat)=>rawInt i).toArray 0)).objs.size=s.heap.objs.size+1:=aXD _ _;have pe:(l'.map λp=>es.getD p (0,.none)).Perm es.toList:=by
    refine (pl.map _).trans (.of_eq ?_);apply aXE
    . simp
    . intro k k1 k2;simp at k1 ⊢;rw[aW6 k1];rfl
   obtain ⟨ys,py,ey⟩:=he.perm pe;have W:=xU (prog:=prog) (w:=w) (A:=A) (I:=(s.heap.push (seqObj "tuple" (l'.map λ(i:Nat)=>rawInt i).toArray 0)).objs.size) (tp:=s.heap.objs.size) hh (by rw[ls];exact aSE (aVM la)) (by rw[ls];exact aSE (aTE _)) hd hf rfl pl
   refine q _ _ d _ ((l'.map λp=>es.getD p (0,.none)).map (·.2)) ys _ (j8 W (by simp[pl.length_eq]) λi v hv=>?_) ⟨⟨_,aSA _ rfl,rfl,rfl⟩,hps ho1,⟨_,hps (aSA _ rfl),rfl,_,rfl⟩⟩ (oO ey) py
    (λb o' e=>hps (hps e)) (by rw[ls];exact aVS _) λb hb=>?_
   . obtain ⟨p,hx,e1,e2⟩:=hv;rw[aTW,aTW,e1];simp[aXF,e2]
   . simp only[aSL,aXG,aWD] at hb;rcases hb with rfl | rfl | rfl
     . right;rw[ls];exact aVS _
     . left;rfl
     . right;exact aS1 _
 . rename_i hc;refine aSY (aSX (aSY (aXC ho hd hf (aSY (aUH (aSX ⟨_,rfl, "set_iterator", _,⟨_,aSA _ rfl,rfl⟩,eD.lookup,?_⟩))))));have fpx:∀ b∈[s.heap.objs.size,a],b=a\/s.heap.objs.size<=b:=λb hb=>by
     simp only[aSL,aXG,aWD] at hb;rcases hb with rfl | rfl
     . right;exact aS1 _
     . left;rfl
   cases bt:dC w with
   | true =>
    obtain ⟨ys,py,ey⟩:=he.perm (j7 (next:=w.params.setOrder a ep) (xs:=es));have W:=xT (prog:=prog) (w:=w) (A:=A) (I:=s.heap.objs.size) hh (aSE la) hd hf bt;refine q _ _ s.drawn _ ((pickOrder (w.params.setOrder a ep) es).toList.map (·.2)) ys _ (j8 W (by rw[aTZ,j7.length_eq,aSU]) λi v hv=>?_) ⟨⟨_,aSA _ rfl,rfl,rfl⟩,hps ho⟩ (oO ey) py (λb o' e=>hps e) (aS1 _) fpx
    rw[<- hv];simp
   | false =>
    have hc':(!t.plain&&decide (es.size > 1))=false:=by have hc:¬ (!dC w&&(!t.plain&&decide (es.size > 1)))=true:=hc;rw[bt] at hc;simpa using hc
    have hzp:t.place.size=es.size:=by unfold SetTable.fits at hf;rw[aUG,aTC] at hf;exact hf.1
    have hr:eS t.place:=by
     rcases hp with hp | hp
     . rw[hp] at hc';have h1:t.place.toList.length<=1:=by rw[aSU,hzp];simpa using hc'
       show t.place.toList.Pairwise _;generalize t.place.toList=l at h1
       match l,h1 with
       | [],_=>exact .nil
       | [x],_=>exact aXS _ _
     . exact hp.2
    have W:=aMN (prog:=prog) (w:=w) (A:=A) (I:=s.heap.objs.size) hh (aSE la) hd hf bt (by rw[hl,bt];rfl) hr hc'
    refine q _ _ s.drawn _ (es.toList.map (·.2)) xs _ (j8 W (by simp) λi v hv=>?_) ⟨⟨_,aSA _ rfl,rfl,rfl⟩,hps ho⟩ (oO he) (.refl _) (λb o' e=>hps e) (aS1 _) fpx
    rw[<- hv];simp
end
section
variable {prog:Program}{w:World}{A:Around}{E:VSP}{s:Shared}{a:Addr}{xs:List Int}
theorem ext_i{R:Result->Shared->Prop}(hh:A.handled=none)(X:bK w s.heap a xs)(S:Addr)(hSa:S≠a)(res:Value)(hS:s.heap.get? S=some { cls:=.type "list", data:=.seq #[] })(hR:∀ h' d tk vs ys c,(∀ b o,b≠S->s.heap.get? b=some o->h'.get? b=some o)->h'.get? S=some { cls:=.type "list", dict:=none,data:=.seq vs c,slots:=#[] } -> IntsAre vs.toList ys->ys.Perm xs->R (.ok (.ret res)) { s with heap:=h',drawn:=d,toks:=tk }):wpAny (model prog w) A.in1 (Builtin.List.listExtendWith (.ref S) (.ref a) res) (λfin s'=>match fin with | .done f=>R (.ok f) s' | .again c'=>c'.quiet=true/\codeAny (model prog w) A c' R s') (λe s'=>R (.error e) s') s:=by
 have hb:xs.length<=sizeLine:=by obtain ⟨o,es,ep,t,ho,hex,hd,he,hn,hb,r⟩:=X;exact aWO hb
 unfold Builtin.List.listExtendWith;refine aSY (aUF X.ty ?_);have n1:Builtin.List.listSameRef (.ref S) (.ref a)=false:=by simp[Builtin.List.listSameRef,hSa]
 have n2:(Value.type "set" == Value.type "list")=false:=by decide
 have n3:(Value.type "set" == Value.type "tuple")=false:=by decide
 simp only[n1,n2,n3,aUI,aVJ,↓reduceIte];refine aSY (aMO (A:=A.in1) hh X λI h1 d fp items ys St W st sa py kp hI hfp=>?_);have lS:S<s.heap.objs.size:=aSB hS;have hSf:S∉fp:=λhm=>(hfp S hm).elim hSa λh=>absurd lS (aVN.mpr h);have hSI:S≠I:=λe=>absurd lS (aVN.mpr (e ▸ hI));have hil:items.length<=sizeLine:=by rw[sa.length,py.length_eq];exact hb
 have hS1 := kp S _ hS; have key : ∀ (h : Heap) (c : Nat), St 0 h → (∀ b o, b ≠ S → s.heap.get? b = some o → h.get? b = some o) → h.get? S = some { cls := .type "list", data := .seq #[] c } →
     codeAny (model prog w) A (.builtin "list.extend.loop" ⟨[.ref S,.ref I,res],[]⟩) R { s with heap:=h,drawn:=d }:=by
  intro h c st' k' hS';refine codeAny_extend_loopS W.toS hil S hSf res items.length 0 _ #[] c rfl (aTF _) st' hS' (ItemsOf.nil _) λs' acc c' hm hS2 hacc=>?_;rw[Moved.eq_with hm];refine hR s'.heap d s'.toks acc ys c' (λb o nb e=>hm.heap b o (λhx=>?_) (k' b o nb e)) hS2 (by rw[xX hacc];exact sa) py
  rcases aSL.mp hx with e' | hx
  . exact nb e'
  . exact absurd (aSB e) (by rw[aVZ.mp hx];exact aVN.mpr hI)
 refine aSY (aUB (xW (s:={ s with heap:=h1,drawn:=d }) (bK.ty (s:={ s with heap:=h1,drawn:=d }) (X.kept λo e=>kp a o e)) ?_))
 refine aXH (λ_=>?_) (λ_=>aSX ⟨aWV aXJ _,key h1 0 st (λb o _ e=>kp b o e) hS1⟩);refine aSY (aVY (aSY ?_));show wpAny _ _ (updateSeq S (·.push Value.none) >>= λ_=>updateSeq S (·.pop)) _ _ { s with heap:=h1,drawn:=d }
 refine aSY (aXK (s:={ s with heap:=h1,drawn:=d }) hS1 rfl ?_)
 have hS2:=aV6 (Obj.mapSeq (·.push Value.none)) hS1 rfl;refine aXK (hz:=by seq_fits) hS2 rfl ?_
 have hS3:=aV6 (Obj.mapSeq (·.pop)) hS2 rfl;have oth:∀ b,b≠S->∀ o,h1.get? b=some o->((h1.update S (Obj.mapSeq (·.push Value.none))).update S (Obj.mapSeq (·.pop))).get? b=some o:=λb nb o e =>
  (aUK _ _ (Ne.symm nb)).trans ((aUK _ _ (Ne.symm nb)).trans e)
 exact aSX ⟨aWV aXJ _,key _ _ (W.frame 0 _ _ st λb hb o e=>oth b (λh=>hSf (h ▸ hb)) o e) (λb o nb e=>oth b nb o (kp b o e)) hS3⟩
theorem aMP{R:List Value->Shared->Prop}(hh:A.handled=none)(X:bK w s.heap a xs)(h:∀ h' d tk vs ys,(∀ b o,s.heap.get? b=some o->h'.get? b=some o)->s.heap.objs.size<h'.objs.size->IntsAre vs ys->ys.Perm xs->R vs { s with heap:=h',drawn:=d,toks:=tk }):wpAny (model prog w) A (collect (.ref a)) R E s:=by
 have la:=X.there;unfold collect;refine aSY (wpAny_runValue (aWW aXL ?_));rw[aWX aXM _];show wpAny (model prog w) A.in1 (newList [] >>= λl=>again (.builtin "list.__iadd__" ⟨[l,.ref a],[]⟩)) _ _ s;refine aSY (aUH (aSX ⟨aWV aXN _,aWW PySem.F.entry_list_iadd ?_⟩));rw[aWX aXN _];have g0:(s.heap.push { cls:=.type "list", data:=.seq ([]:List Value).toArray }).get? s.heap.objs.size=some { cls:=.type "list", data:=.seq #[] }:=aSA _ rfl;show wpAny (model prog w) A.in1 (Builtin.List.listExtendWith (.ref s.heap.objs.size) (.ref a) (.ref s.heap.objs.size)) _ _ _;have key:=ext_i (A:=A) (prog:=prog) (s:={ s with heap:=s.heap.push { cls:=.type "list", data:=.seq ([]:List Value).toArray } })
  (R:=λq s'=>∃ h' d tk vs ys c,q=.ok (.ret (.ref s.heap.objs.size))/\s'={ s with heap:=h',drawn:=d,toks:=tk }/\(∀ b o,s.heap.get? b=some o->h'.get? b=some o)/\h'.get? s.heap.objs.size=some { cls:=.type "list", dict:=none,data:=.seq vs c,slots:=#[] }/\IntsAre vs.toList ys/\ys.Perm xs)
  hh (X.kept λo e=>hps e) s.heap.objs.size (aSW la) (.ref s.heap.objs.size) g0
  λh' d tk vs ys c kp gS sa py=>⟨h',d,tk,vs,ys,c,rfl,rfl,λb o e=>kp b o (aSE (aSB e)) (hps e),gS,sa,py⟩
 refine aSS key (λf s' x=>?_) λe s' x=>?_
 . cases f with
   | done f=>obtain ⟨h',d,tk,vs,ys,c,e,rfl,kp,gS,sa,py⟩:=x;cases e;show wpAny _ A (load s.heap.objs.size >>= _) _ _ _;exact aSY (aSZ gS (aSX (h h' d tk vs.toList ys kp (aSB gS) sa py)))
   | again c1=>refine ⟨x.1,aUS x.2 λq s2 y=>?_⟩;obtain ⟨h',d,tk,vs,ys,c,rfl,rfl,kp,gS,sa,py⟩:=y;show wpAny _ A (load s.heap.objs.size >>= _) _ _ _;exact aSY (aSZ gS (aSX (h h' d tk vs.toList ys kp (aSB gS) sa py)))
 . obtain ⟨_,_,_,_,_,_,e',_⟩:=x;cases e'
theorem aMQ{Q:VSP}(hh:A.handled=none)(X:bK w s.heap a xs)(h64:xs.length<64)(h:∀ h' d tk D out e ys,(∀ b o,s.heap.get? b=some o->h'.get? b=some o)->s.heap.objs.size<=D->h'.get? D=some (seqObj "list" out e)->IntsAre out.toList ys->ys.Perm xs->ys.Pairwise (· <= ·)->Q (.ref D) { s with heap:=h',drawn:=d,toks:=tk }):wpAny (model prog w) A (call (.builtin "sorted") [.ref a]) Q E s:=by
 refine aXO kind_sorted plain_sorted entry_sorted (args_sorted1 (.ref a)) ?_;unfold Builtin.«sorted»;refine aSY (m:=checkCount "sorted" 1 1 [Value.ref a].length) (aSX (aSY (aMP (A:=A.in1) hh X λh1 d tk vs ys kp lh sa py=>?_)));have lv:vs.length=xs.length:=by rw[sa.length,py.length_eq]
 refine aSY (aXP ?_ (by rw[lv,aS9];omega))
 have g1:(h1.push (seqObj "list" vs.toArray 0)).get? h1.objs.size=some (seqObj "list" vs.toArray 0):=aSA _ rfl;have k1:∀ b o,s.heap.get? b=some o->b<h1.objs.size:=λb o e=>aSB (kp b o e);refine aSY (aUB (aUE slot_list_sort ⟨_,g1,rfl⟩ entry_list_sort (list_sort_tree (s:={ s with heap:=h1.push (seqObj "list" vs.toArray 0),drawn:=d,toks:=tk }) g1 sa (by rw[lv];exact h64) λout zs z1 z2 z3=>⟨_,rfl,?_⟩) (args_list_sort _)))
 obtain ⟨e,he⟩:=sortedHeap_at (out:=out) g1;refine aSX ⟨_,rfl,h _ d tk _ _ e zs (λb o hb=>?_) (aSJ lh) he z1 (z2.trans py) z3⟩;have lb:=k1 b o hb;rw[sortedHeap_old (aSE lb) (by rw[aXD];exact aVM lb)]
 exact hps (kp b o hb)
end
def iO(x:Int):List Int->List Int
 | []=>[x]
 | y::r=>if x<y then x::y::r else if x=y then y::r else y::iO x r
def dD(l:List Int):List Int:=l.foldr iO []
abbrev kG(l:List Int):Prop:=l.Pairwise (· < ·)
theorem r9{x z:Int}:∀ {l:List Int},z∈iO x l↔z=x\/z∈l
 | []=>by simp[iO]
 | y::r=>by
  unfold iO;split
  . simp
  . split
    . rename_i h;subst h;simp
    . simp only[aSL,r9 (l:=r)];constructor
      . rintro (h | h | h)
        . exact .inr (.inl h)
        . exact .inl h
        . exact .inr (.inr h)
      . rintro (h | h | h)
        . exact .inr (.inl h)
        . exact .inl h
        . exact .inr (.inr h)
theorem zB{x:Int}:∀ {l:List Int},kG l->kG (iO x l)
 | [],_=>aXS _ _
 | y::r,h=>by
  obtain ⟨h1,h2⟩:=aXR.mp h;unfold iO;split
  . rename_i hx;exact aXR.mpr ⟨λz hz=>(aSL.mp hz).elim (λe=>e ▸ hx) λhz=>Int.lt_trans hx (h1 z hz),h⟩
  . split
    . exact h
    . rename_i h3 h4;refine aXR.mpr ⟨λz hz=>?_,zB h2⟩;rcases r9.mp hz with rfl | hz
      . omega
      . exact h1 z hz
theorem jE{z:Int}:∀ {l:List Int},z∈dD l↔z∈l
 | []=>by simp[dD]
 | x::l=>by show z∈iO x (dD l)↔_;rw[r9,jE,aSL]
theorem lY:∀ (l:List Int),kG (dD l)
 | []=>.nil
 | x::l=>zB (lY l)
theorem sC:∀ {a b:List Int},kG a->kG b->(∀ y,y∈a↔y∈b)->a=b
 | [],[],_,_,_=>rfl
 | [],y::b,_,_,h=>by have:=(h y).mpr mcs;cases this
 | x::a,[],_,_,h=>by have:=(h x).mp mcs;cases this
 | x::a,y::b,ha,hb,h=>by
  obtain ⟨a1,a2⟩:=aXR.mp ha;obtain ⟨b1,b2⟩:=aXR.mp hb;have e:x=y:=by
   rcases aSL.mp ((h x).mp mcs) with e | hx
   . exact e
   . rcases aSL.mp ((h y).mpr mcs) with e | hy
     . exact e.symm
     . have:=b1 x hx;have:=a1 y hy;omega
  subst e;refine congrArg _ (sC a2 b2 λz=>?_);have hz:=h z;simp only[aSL] at hz;constructor
  . intro k;rcases hz.mp (.inr k) with e | e
    . subst e;exact absurd (a1 _ k) (Int.lt_irrefl _)
    . exact e
  . intro k;rcases hz.mpr (.inr k) with e | e
    . subst e;exact absurd (b1 _ k) (Int.lt_irrefl _)
    . exact e
theorem aMR{l:List Int}(h:l.Pairwise (· <= ·))(n:l.Nodup):kG l:=by have:=h.and n;exact this.imp λ{a b} ⟨h1,h2⟩=>by omega
theorem zC:∀ {ys ns:List Int},ys.Nodup->(∀ y∈ys,y∈ns)->ys.length<=ns.length
 | [],ns,_,_=>aTF _
 | y::ys,ns,n,h=>by
  obtain ⟨n1,n2⟩:=aTP.mp n;have hy:=h y mcs;have:=zC (ns:=ns.erase y) n2 λz hz=>(aXT (λe:z=y=>n1 (by rw[<- e];exact hz))).mpr (h z (mcm hz))
  rw[aXU hy] at this;have:0<ns.length:=aXV hy;rw[aUO];omega
def si(w:World)(l:Addr)(ys:List Int):HO:=.ext λh=>bK w h l ys
theorem si_ok{P:Program}{w:World}{H:Hp}{h:Heap}{l:Addr}{ys:List Int}(x:bK w h l ys):bD P w H h l (si w l ys):=by
 refine ⟨x,?_,λh1 h2 x1 k=>bK.kept (show bK w h1 l ys from x1) k⟩
 obtain ⟨o,es,ep,t,ho,r⟩:=x;exact ⟨o,ho⟩
theorem bK.nodup{w:World}{h:Heap}{a:Addr}{xs:List Int}(x:bK w h a xs):xs.Nodup:=by obtain ⟨o,es,ep,t,ho,hex,hd,he,hn,r⟩:=x;exact hn
theorem zD:∀ {ys:List Int} {us:List Value},IntsAre us ys->aM (ys.map V.int) us
 | [],_,.nil=>.nil
 | _::ys,_,.cons y t h=>.cons ⟨t,rfl⟩ (zD h)
theorem zE:∀ {ys:List Int} {us:List Value},aM (ys.map V.int) us->IntsAre us ys
 | [],_,h=>by cases h;exact .nil
 | y::ys,_,h=>by
  cases h with
  | cons r t=>obtain ⟨tk,rfl⟩:=r;exact .cons y tk (zE t)
theorem zF{K:Fg}{F:Hp}:∀ (ns:List Int),aE K F (ns.map .int) (ns.map V.int)
 | []=>by simp[aE]
 | n::ns=>by simp only[aUQ,aE,aD];exact ⟨_,_,rfl,rfl,zF ns⟩
section
variable {X:Cx}
def sD(X:Cx):List V->Hp->VK->Prop:=λxs H Q=>∃ (p:Addr) (ns:List Int),xs=[.ref p]/\SqL X.K H p (ns.map V.int)/\ns.length<scanBound/\∀ (l:Addr) (ys:List Int),H l=none->ys.Nodup->(∀ y,y∈ys↔y∈ns)->Q (.ref l) (upd H l (si X.w l ys))
theorem aMS(hc:X.calm=true):cG X (.type "set") (sD X):=by
 intro aA s σ H xs us Q I r h;obtain ⟨p,ns,rfl,hp,hb,q⟩:=h;obtain ⟨u,rfl,rx⟩:=cH r;cases rx;obtain ⟨its,rv,pl,_⟩:=I.list hp;refine aMM (I.ok.hd hc) pl.isList (by simpa using zE rv) hb λh' tk ys kp SX m=>?_
 exact ⟨.ref s.heap.objs.size,_,I.laid (t':=tk) kp (aS1 _) (si_ok SX),rfl,q _ ys (I.hok.fresh (aS1 _)) SX.nodup m⟩
def sH(X:Cx):List V->Hp->VK->Prop:=λxs H Q=>∃ (a:Addr) (zs:List Int),xs=[.ref a]/\H a=some (si X.w a zs)/\zs.Nodup/\zs.length<64/\∀ l,H l=none->Q (.ref l) (upd H l (.lst ((dD zs).map V.int)))
theorem aMT(hc:X.calm=true):cG X (.builtin "sorted") (sH X):=by
 intro aA s σ H xs us Q I r h;obtain ⟨a,zs,rfl,ha,hn,hz,q⟩:=h;obtain ⟨u,rfl,rx⟩:=cH r;cases rx;have xa:bK X.w s.heap a zs:=(I.hok a _ ha).1;refine aMQ (I.ok.hd hc) xa hz λh' d tk D out e ys kp hD g sa py so=>?_;have e1:dD zs=ys:=sC (lY zs) (aMR so (py.symm.nodup hn)) λy=>by rw[jE,py.mem_iff]
 have rv:aM (ys.map V.int) out.toList:=zD sa;have le:((dD zs).map V.int).length<=sizeLine:=by rw[aTZ,e1,py.length_eq,aS9];omega
 exact ⟨.ref D,_,Inv.drew (I.laid (t':=tk) kp hD (show bD X.prog X.w _ h' D (.lst ((dD zs).map V.int)) from ⟨le,out.toList,e,by rw[e1];exact rv,by simpa using g⟩)) d,rfl,q D (I.hok.fresh hD)⟩
end
def gW(ra:Res):Res:=ra.thn λ_ d=>match d with
 | .lst ds=>(match gM ds with
  | some ns=>if ns.length<scanBound/\(dD ns).length<64 then .ok .fr (.lst ((dD ns).map .int)) else .stuck
  | none=>.stuck)
 | _=>.stuck
section
variable {C:Cw}{X:Cx}{ga:Rho->Res}{ea:Expr}{p p1 q1 pos:Pos}
theorem aMU{σ:L2.St}{H:Hp}{Q:VK}(hK:C.K=X.K)(q:tG C (λρ=>gW (ga ρ)) σ H Q):tCB (sH X) (fK (tCB (sD X) (fK (tG C ga) k5)) k5) σ H Q:=by
 show tG C ga σ H λv H1=>sD X [v] H1 λsv H2=>sH X [sv] H2 Q;rw[a8] at q ⊢;obtain ⟨ρ,F,R,w⟩:=q;refine ⟨ρ,F,R,?_⟩;cases e1:ga ρ with
 | stuck=>simp only[gW,e1,Res.thn_stuck] at w;exact w
 | exc c=>simp only[gW,e1,Res.thn_exc] at w;exact w
 | ok m d =>
  simp only[gW,e1,Res.thn_ok] at w;intro v F1 H1 s1 r1 _;cases d with
  | lst ds =>
   dsimp only at w;cases t1:gM ds with
   | none=>rw[t1] at w;exact w.elim
   | some ns =>
    rw[t1] at w;dsimp only at w;by_cases hl:ns.length<scanBound/\(dD ns).length<64
    . rw[if_pos hl] at w;obtain ⟨a,xs,rfl,sq,rl⟩:=r1.seqL s1.sub;obtain rfl:=xE rl t1;rw[hK] at sq;refine ⟨a,ns,rfl,sq,hl.1,λA1 ys hA1 yn ym=>?_⟩;have eu:dD ys=dD ns:=sC (lY _) (lY _) λy=>by rw[jE,jE,ym]
      have hz:ys.length<64:=aXW (zC yn λy hy=>jE.mpr ((ym y).mp hy)) hl.2;refine ⟨A1,ys,rfl,a7,yn,hz,λL hL=>?_⟩;have s2:aJ F H F1 (upd H1 A1 (si X.w A1 ys)):=s1.trans (aJ.fresh _ s1.sub hA1);have s3:=s2.trans (aJ.fresh (.lst ((dD ys).map V.int)) s2.sub hL);refine w (.ref L) F1 _ s3 ⟨L,rfl,s2.sub.free hL,_,a7,?_⟩ λ_ a' ea'=>?_
      . rw[eu];exact zF _
      . cases ea';cases q:H L with
        | none=>rfl
        | some o=>rw[s2.same _ _ q] at hL;cases hL
    . rw[if_neg hl] at w;exact w.elim
  | _=>exact w.elim
theorem aMV(hc:X.calm=true)(gs:Gl X "sorted")(ns:X.mg "sorted" = none)(gt:Gl X "set")(nt:X.mg "set" = none)(ha:PV C X ea ga)(sa:cB ea=true):PV C X (.Call (.Name "sorted" p) [.Call (.Name "set" p1) [ea] [] q1] [] pos) (λρ=>gW (ga ρ)):=by
 refine PE.imp (nE (aMT hc) gs ns rP (hX (vD (aMS hc) gt nt aKX (hX ha iW (bO sa)) (by decide) (by decide) (bO sa) rfl) iW)) λσ H Q w=>?_
 exact aMU (X:=X) rfl w
end
def sJ:D->Bool
 | .int _=>true | .bl _=>true | .non=>true | .str _=>true | _=>false
def callO(n:Nat)(Φ:List D->Res)(r:aT):Res:=r.thn λxs=>match cR xs with
 | some _=>aP n Φ (.ok xs)
 | none=>if xs.length=n then (match Φ (xs.map (·.2)) with | .ok .fz d=>if sJ d=true then .ok .fz d else .stuck | _=>.stuck) else .stuck
theorem Rp.inH{K:Fg}{F H:Hp}{m:Md}{d:D}{v:V}(s:aH F H)(h:Rp K F H m d v):aD K H d v:=by
 have key:∀ a,v=.ref a->F a=none->Top K F H a d->aD K H d v:=λa e _ t=>by
  subst e;cases d with
  | lst ds=>obtain ⟨xs,e,r⟩:=t;simp only[aD];exact ⟨a,xs,rfl,SqL.of e,r.mono s _ _⟩
  | dct ds=>obtain ⟨xs,e,r⟩:=t;simp only[aD];exact ⟨a,xs,rfl,e,r.mono s _ _⟩
  | ins c fs=>obtain ⟨C,dx,gs,n,e,r⟩:=t;simp only[aD];exact ⟨a,C,dx,gs,rfl,n,e,r.mono s _ _⟩
  | set ks=>obtain ⟨S,e,r⟩:=t;simp only[aD];exact ⟨a,S,rfl,e,r⟩
  | _=>exact t.elim
 cases m with
 | fz=>exact aD.mono s d v h
 | fr=>obtain ⟨a,e,n,t⟩:=h;exact key a e n t
 | bo=>obtain ⟨a,e,n,t⟩:=h;exact key a e n t
theorem RpL.inH{K:Fg}{F H:Hp}(s:aH F H):∀ {xs:List (Md×D)} {vs:List V},RpL K F H xs vs->aE K H (xs.map (·.2)) vs
 | [],_,h=>by rw[show _=[] from h];exact aE.nil
 | (m,d)::r,_,h=>by obtain ⟨v,us,rfl,r1,r2⟩:=h;exact aE.cons (r1.inH s) (RpL.inH s r2)
theorem aMW{K:Fg}{F F' H:Hp}{d:D}{v:V}(h:sJ d=true)(r:aD K F d v):Rp K F' H .fz d v:=by
 show aD K F' d v;cases d with
 | int i=>simpa only [aD] using r
 | bl i=>simpa only [aD] using r
 | non=>simpa only [aD] using r
 | str i=>simpa only [aD] using r
 | _=>cases h
section
variable {C:Cw}{X:Cx}{e:Expr}{es:List Expr}{gs:Rho->aT}{p pos:Pos}{x:Str}{k n:Nat}{Φ:List D->Res}{CX:CXT}
theorem aMX(F:FnV X.prog X.w X.K X.mg X.base CX k x n Φ)(hr:cP k X.A)(hx:XOk CX (C.at X) X)(hg:Gl X x)(ha:PAv C X (e::es) gs)(hdb:(x==("__debug__" : Str))=false:=by decide)(he:starEach (e::es) X.env=(false,eval e X.env)::starEach es X.env:=by rfl)(hpl:(backTo pos (starEach es X.env)).any (·.1)=false:=by rfl):PV C X (.Call (.Name x p) (e::es) [] pos) (λρ=>callO n Φ (gs ρ)):=by
 obtain ⟨f,fd,ps,FF,hm,hk,hb⟩:=F.ex;intro aA s σ H Q I h;rw[a8] at h;obtain ⟨ρ,F,R,w⟩:=h;refine aT0 (mU I hg hm ?_ hdb);refine aVR (h₀:=X.base) I.ok.mod.kin hk (thn (ha pos aA s σ H (λvs H1=>spV X.K X.mg n Φ vs H1 Q λu _ H'=>∃ c,X.mg c=some u/\C.EE c σ H') I ?_) λus s1 ⟨vs,H1,I1,r,q⟩=>⟨I1.kIn,qR FF hr hb (λe s' hc=>hx aA σ H1 s1 e s' I1 hc) I1 r q⟩) he hpl;refine ⟨ρ,F,R,?_⟩;cases er:gs ρ with
 | stuck=>rw[er] at w;exact w
 | exc c=>rw[er] at w;exact w
 | ok xs =>
  rw[er] at w;intro vs F1 H1 s1 r1;have w1:a6 (C.at X) F1 H1 σ (callO n Φ (.ok xs)) Q:=a6.step s1 w;unfold callO at w1;rw[aT.thn_ok] at w1;cases ef:cR xs with
  | none =>
   rw[ef] at w1;dsimp only at w1;split at w1
   . rename_i hn;have rl:=r1.inH s1.sub;refine ⟨by rw[rl.length,aTZ];exact hn,H1,_,aH.refl _,rl,?_⟩
     cases ep:Φ (xs.map (·.2)) with
     | stuck=>rw[ep] at w1;exact w1
     | exc c=>rw[ep] at w1;exact w1.elim
     | ok m d =>
      rw[ep] at w1;cases m with
      | fz =>
       dsimp only at w1;split at w1
       . rename_i hp;refine ⟨by decide,λv F' H' st rp _=>w1 v F1 H' ⟨st.same,aH.refl _,s1.sub.trans st.same,λ_ h _=>h⟩ (aMW hp rp) (by intro z;cases z)⟩
       . exact w1.elim
      | _=>exact w1.elim
   . exact w1.elim
  | some ds =>
   rw[ef] at w1;dsimp only at w1;unfold aP at w1;rw[aT.thn_ok,ef] at w1;dsimp only at w1;split at w1
   . rename_i hn;have rl:=r1.fz ef;refine ⟨by rw[rl.length];exact hn,F1,ds,s1.sub,rl,?_⟩
     cases ep:Φ ds with
     | stuck=>rw[ep] at w1;exact w1
     | exc c=>rw[ep] at w1;exact λF' H' u st hu=>⟨c,hu,w1 F' H' st⟩
     | ok m d =>
      rw[ep] at w1;cases m with
      | bo=>exact w1.elim
      | fz=>exact ⟨by decide,w1⟩
      | fr=>exact ⟨by decide,w1⟩
   . exact w1.elim
end
def gX(ρ:Rho)(i:Nat)(r:Res):aK:=match ρ[i]? with
 | some (some (true,.lst ds))=>r.thS ρ λm d=>match m,d with
  | .fr,.lst es=>if ds.length+es.length<=sizeLine then .nx (ρ.set i (some (true,.lst (ds++es)))) else .stuck
  | _,_=>.stuck
 | _=>.stuck
section
variable {C:Cw}{X:Cx}{e ke:Expr}{g gk:Rho->Res}{x:Str}{p ap cp sp pos:Pos}
theorem aMY(i:Nat)(hv:PE X (.Name x p) (dE i))(he:PV C X e g)(hs:cB e=true)(hline:ap.endLine=cp.line):PSv C X (.Expr (.Call (.Attribute (.Name x p) "extend" ap) [e] [] cp) pos) (λρ=>gX ρ i (g ρ)):=by
 have h1 := qF (X := X) (o := .Name x p) (e := e) (es := []) (apos := ap) (cpos := cp) PySem.F.plainAttrs_list PySem.F.slot_list_extend PySem.F.type_list_extend aFW hv (hX he iW (bO hs)) (i8 rfl) (by
     rw[iF _ _ (λy hy=>by simp only[aSL,aWC,aWD] at hy;subst hy;exact hs)];rfl) (aTC.mpr hline) (bO hs) rfl
 refine PS.imp (uV h1) λE σ H q=>?_;obtain ⟨ρ,F,R,w⟩:=q;dsimp only at w;unfold pY tBM;cases e0:ρ[i]? with
 | none=>unfold gX at w;rw[e0] at w;exact w.elim
 | some o =>
  cases o with
  | none=>unfold gX at w;rw[e0] at w;exact w.elim
  | some bd =>
   obtain ⟨b,d0⟩:=bd;cases b with
   | false=>unfold gX at w;rw[e0] at w;exact w.elim
   | true =>
    cases d0 with
    | lst ds =>
     unfold gX at w;rw[e0] at w;dsimp only at w;obtain ⟨v0,ev0,rp0,hn0⟩:=R.slot i true _ e0;obtain ⟨a,ea,hfa,xs,hh,rl⟩:=rp0;subst ea;refine ⟨.ref a,ev0,.inl ⟨rfl,xs,SqL.of hh⟩,?_⟩;unfold fK;refine jU R w λm d v F' H' w' s R' rp fr=>?_;cases m with
     | fz=>cases d <;> exact (show False from w').elim
     | bo=>cases d <;> exact (show False from w').elim
     | fr =>
     cases d with
     | lst es =>
      dsimp only at w';split at w'
      . rename_i hl;have hh':H' a=some (.lst xs):=s.same _ _ hh;obtain ⟨b,eb,hfb,zs,hb,rz⟩:=rp;subst eb;refine ⟨a,b,xs,zs,rfl,rfl,hh',hb,by rw[rl.length,rz.length];exact hl,?_⟩
        exact w' σ F' _ (aH.refl _) (R'.mut e0 ev0 ⟨_,a7,aE.append (rl.mono s.fsame _ _) rz⟩)
      . exact w'.elim
     | _=>exact (show False from w').elim
    | _=>unfold gX at w;rw[e0] at w;exact w.elim
end
end D3
set_option genSizeOfSpec false
set_option genInjectivity false
namespace D3
open PySem PySem.Spec PyProof.Rows L2
inductive KC where | s (y:Str) | i (n:Int) | t (tb:List (Str×Str))
 deriving DecidableEq
def KC.d:KC->D | .s y=>.str y | .i n=>.int n | .t _=>.non
inductive GV where | con (c:KC) | fn (n:Nat) | no | cls
 deriving DecidableEq
inductive Bn where | len | isinstance | all | any
 deriving DecidableEq
def Bn.name:Bn->Str
 | .len => "len" | .isinstance => "isinstance" | .all => "all" | .any => "any"
def Bn.f:Bn->List (Md×D)->Option (Md×D)
 | .len=>dG | .isinstance=>dH | .all=>lF | .any=>lG
def Bn.id:Bn->String
 | .len => "len" | .isinstance => "isinstance" | .all => "all" | .any => "any"
inductive Ty where | int | bool | str | tuple | list | dict
 deriving DecidableEq
def Ty.f:Ty->List (Md×D)->Option (Md×D)
 | .tuple=>jY | .list=>jZ | .int=>j3 | .str=>lN | .dict=>n5 | _=>λ_=>none
def Ty.id:Ty->String
 | .int => "int" | .bool => "bool" | .str => "str" | .tuple => "tuple" | .list => "list" | .dict => "dict"
inductive Mt where | join | startswith | removeprefix | joinT
 deriving DecidableEq
def Mt.name:Mt->Str | .join => "join" | .startswith => "startswith" | .removeprefix => "removeprefix" | .joinT => "join"
def Mt.ty:Mt->String | .join => "str" | .startswith => "str" | .removeprefix => "str" | .joinT => "str"
def Mt.f:Mt->Md->D->List (Md×D)->Option (Md×D) | .join=>iC | .startswith=>swD | .removeprefix=>rpD | .joinT=>D3.joinT
structure WD where
 Φ:Str->List D->Res
 I:Str->Option (List D->Res)
 cl:List CI
 xt:List ((Str×Str)×Bool)
 xi:List ((Str×Str)×Bool)
def WD.xf(W:WD):Str->Str->Option Bool:=λc x=>W.xt.lookup (c,x)
def WD.xg(W:WD):Str->Str->Option Bool:=λc x=>W.xi.lookup (c,x)
inductive E where
 | var (i:Nat) | non | bl (b:Bool) | int (i:Int) | str (x:Str)
 | glob (x:Str) (c:KC) | ty (t:Ty)
 | bin (op:Operator) (a b:E) | cmp (op:CmpOp) (a b:E)
 | andL (es:List E) | orL (es:List E) | not (a:E) | tru (a:E) | frz (a:E)
 | ix (a b:E) | slice (a:E) (lo hi:Option E)
 | tup (es:List E) | lst (es:List E)
 | call (f:Str) (n:Nat) (es:List E) | bcall (b:Bn) (es:List E) | mt (m:Mt) (o:E) (es:List E)
 | items (a:E) | rng1 (a:E) | enum1 (a:E)
 | comp (elt it:E) (ts:List E) (aB:List Nat) (t:Tg) (n:Nat)
 | tcall (t:Ty) (es:List E)
 | usi (a:E) | srt (a:E) | sum1 (a:E)
 | dlist (a:E) | callO (f:Str) (n:Nat) (es:List E)
 | dnew | dix (a b:E)
 | isi (a:E) (c:Str) | meth (o:E) (m:Str) (es:List E) | mk0 (c:Str)
 | comp2 (elt it it2:E) (ts:List E) (aB:List Nat) | usc (elt it it2:E) (ts:List E) (aB:List Nat) | sel (aB:List Nat) (i j jd jm:Nat) | compC (elt it:E) (ts:List E) (aB:List Nat)
def noF:Md->D->Md->D->Option (Md×D):=λ_ _ _ _=>none
def bM:Operator->Md->D->Md->D->Option (Md×D)
 | .Add=>orO fAdd nU | .Sub=>fSub | .Mult=>orO fMul nW | .Mod=>fMod | .FloorDiv=>fDiv | .Pow=>fPow | .BitAnd=>yP | .BitOr=>fBor | .LShift=>fShl | .RShift=>fShr | _=>noF
def bS:CmpOp->Md->D->Md->D->Option (Md×D)
 | .Lt=>orO fLt ltF | .LtE=>fLe | .Gt=>fGt | .GtE=>fGe | .Eq=>fEq | .NotEq=>fNe | .In=>orO fIn noK | .NotIn=>orO aH9 noK | .Is=>fIs false | .IsNot=>fIs true
mutual
def evE(W:WD):E->Rho->Res
 | .var i,ρ=>fM ρ i
 | .non,_=>.ok .fz .non
 | .bl b,_=>.ok .fz (.bl b)
 | .int i,_=>.ok .fz (.int i)
 | .str x,_=>.ok .fz (.str x)
 | .glob _ c,_=>.ok .fz c.d
 | .ty t,_=>.ok .fz (.ty t.id)
 | .bin op a b,ρ=>op2 (bM op) (evE W a ρ) (evE W b ρ)
 | .cmp op a b,ρ=>op2 (bS op) (evE W a ρ) (evE W b ρ)
 | .andL es,ρ=>evA W es ρ
 | .orL es,ρ=>dN W es ρ
 | .not a,ρ=>lA (evE W a ρ)
 | .tru a,ρ=>k9 (evE W a ρ)
 | .frz a,ρ=>bB (evE W a ρ)
 | .ix a b,ρ=>op2 ixD (evE W a ρ) (evE W b ρ)
 | .slice a lo hi,ρ=>slP (evE W a ρ) (evO W lo) (evO W hi) ρ
 | .tup es,ρ=>eL (bW W es ρ)
 | .lst es,ρ=>e6 (bW W es ρ)
 | .call f n es,ρ=>aP n (W.Φ f) (bW W es ρ)
 | .bcall b es,ρ=>dB b.f (bW W es ρ)
 | .mt m o es,ρ=>jX m.ty m.f (evE W o ρ) (bW W es ρ)
 | .items a,ρ=>dI (bB (evE W a ρ))
 | .rng1 a,ρ=>e7 (bV (evE W a ρ) (.ok []))
 | .enum1 a,ρ=>j4 (bV (bB (evE W a ρ)) (.ok []))
 | .comp elt it ts aB t n,ρ=>bF (evE W it ρ) ρ aB n (aI t) (λρ=>evF W ts ρ) (λρ=>evE W elt ρ)
 | .tcall t es,ρ=>dB t.f (bW W es ρ)
 | .dnew,_=>.ok .fr (.dct [])
 | .usi a,ρ=>gW (evE W a ρ)
 | .srt a,ρ=>dB (aZ.or' gP gT) (bV (evE W a ρ) (.ok []))
 | .sum1 a,ρ=>dB (aZ.or' fW fE) (bV (evE W a ρ) (.ok []))
 | .comp2 elt it it2 ts aB,ρ=>gQ (evE W it ρ) ρ aB (λρ=>evF W ts ρ) (λρ=>evE W it2 ρ) (λρ=>evE W elt ρ)
 | .usc elt it it2 ts aB,ρ=>jB (evE W it ρ) ρ aB (λρ=>evF W ts ρ) (λρ=>evE W it2 ρ) (λρ=>evE W elt ρ)
 | .sel _ _ _ jd jm,ρ=>kE ρ jd jm
 | .compC elt it ts aB,ρ=>bF (evE W it ρ) ρ aB 1 (aI (.nm aB.length)) (λρ=>evF W ts ρ) (λρ=>evE W elt ρ)
 | .dlist a,ρ=>dB lQ (bV (evE W a ρ) (.ok []))
 | .callO f n es,ρ=>callO n (W.Φ f) (bW W es ρ)
 | .dix a b,ρ=>op2 ixK (evE W a ρ) (evE W b ρ)
 | .isi a c,ρ=>e9 W.cl c (evE W a ρ)
 | .meth o m es,ρ=>dZ W.cl W.Φ m (evE W o ρ) (bW W es ρ)
 | .mk0 c,_=>.ok .fr (.ins c [])
def bW(W:WD):List E->Rho->aT
 | [],_=>.ok []
 | e::es,ρ=>bV (evE W e ρ) (bW W es ρ)
def evA(W:WD):List E->Rho->Res
 | [],_=>.stuck
 | [e],ρ=>evE W e ρ
 | e::es,ρ=>eK (evE W e ρ) (evA W es ρ)
def dN(W:WD):List E->Rho->Res
 | [],_=>.stuck
 | [e],ρ=>evE W e ρ
 | e::es,ρ=>orR (evE W e ρ) (dN W es ρ)
def evF(W:WD):List E->Rho->Res
 | [],_=>.ok .fz (.bl true)
 | e::es,ρ=>eK (evE W e ρ) (evF W es ρ)
def evL(W:WD):List E->List (Rho->Res)
 | []=>[]
 | e::es=>evE W e::evL W es
def evO(W:WD):Option E->Option (Rho->Res)
 | none=>none
 | some e=>some (evE W e)
end
structure MG where
 G:List (Str×GV)
 mk0:List Str
 mki:List (Str×Str×Nat)
 iso:List Str
 xcs:List Str
 xns:List Str
structure MC where
 N:List Str
 sc:Scope
 g:MG
 fn:Bool
 calm:Bool
 rz:Bool
def MC.kind(m:MC)(x:Str):Option NameKind:=m.sc.names.lookup x
def MC.vis(m:MC)(x:Str):Bool:=(m.kind x==some .local||m.kind x==some .cell||m.kind x==some .free)&&x != "__debug__" && x != "__classdict__"
def MC.glob(m:MC)(x:Str)(v:GV):Bool:=m.kind x==some .globalImplicit&&m.g.G.lookup x==some v&&x != "__debug__" && x != "__name__"
def MC.gk(m:MC)(x:Str):Bool:=m.kind x==some .globalImplicit&&x != "__debug__"
def strK(x:Str):Bool:=decide (x.length<=sizeLine)&&PyData.strOk x
def sK:Expr->Bool | .Slice ..=>false | _=>true
def aMZ:Expr->Bool | .Tuple ..=>true | _=>false
def d7:Expr->Bool | .Set ..=>false | _=>true
def zG:Expr->Bool | .UnaryOp .Not _ _=>false | .BoolOp ..=>false | .IfExp ..=>false | .Compare ..=>false | _=>true
def MC.sub(m:MC)(scope:Scope)(aC tgN:List Str):MC:={ m with N:=aC++tgN,sc:={ scope with names:=fP scope m.sc },fn:=false,rz:=false }
def MC.loc(m:MC)(i:Nat)(x:Str):Bool:=m.N[i]?==some x&&(m.kind x==some .local||(m.fn&&m.kind x==some .cell))
mutual
def mG(m:MC):Tg->Expr->Bool
 | .nm i,e=>match e with | .Name x _=>m.loc i x | _=>false
 | .tp ts,e=>match e with | .Tuple es _ _=>m.calm&&es.all j0&&mGs m ts es | _=>false
def mGs(m:MC):List Tg->List Expr->Bool
 | [],es=>es.isEmpty
 | t::ts,l=>match l with | e::es=>mG m t e&&mGs m ts es | _=>false
end
def aQ:Nat->Expr->List Str
 | _,.Name x _=>[x]
 | n+1,.Tuple es _ _=>es.flatMap (aQ n)
 | _,_=>[]
def fZ(scope sc:Scope)(N:List Str)(aB:List Nat)(aC tgN:List Str):Bool :=
 scope.names.all (λy=>y.2 != .cell)&&scope.kind == .function&&scope.names.all (λy=>y.2 != .local||scope.names.lookup y.1==some .local) &&
 scope.names.all (λy=>y.2 != .free||sc.names.lookup y.1==some .cell||sc.names.lookup y.1==some .free)&&(aC.map some==aB.map λi=>N[i]?)&&aC.all (λy=>scope.names.contains (y,.free)) &&
 aC.all (λy=>(fP scope sc).lookup y==some .cell||(fP scope sc).lookup y==some .free)&&decide (aC++tgN).Nodup
def sL(scope sc:Scope)(N:List Str)(aB:List Nat)(aC:List Str)(x:Str):Bool :=
 scope.names.filter (λy=>y.2 == .cell)==[(x,NameKind.cell)]&&scope.kind == .function&&scope.names.all (λy=>y.2 != .local||scope.names.lookup y.1==some .local) &&
 scope.names.all (λy=>y.2 != .free||sc.names.lookup y.1==some .cell||sc.names.lookup y.1==some .free)&&(aC.map some==aB.map λi=>N[i]?)&&aC.all (λy=>scope.names.contains (y,.free)) &&
 aC.all (λy=>(fP scope sc).lookup y==some .cell||(fP scope sc).lookup y==some .free)&&decide (aC++[x]).Nodup&&(fP scope sc).lookup x==some .cell
def strK':KC->Bool | .s y=>strK y | .i _=>true | .t _=>false
structure SX(k:Nat)(W:WD)(m:MC)(C:Cw)(X:Cx):Prop where
 hN:X.N=m.N
 hs:X.env.scope=m.sc
 cm:m.calm=true->X.calm=true
 rm:m.calm=true->cP k X.A
 un:X.A.units+64<cLine
 xo:m.calm=true->XOk (CX1 X.prog X.w) (C.at X) X
 xt:rD X.K X.mg W.xf
 xi:rE X.K X.mg W.xg
 xc:∀ c,c∈m.g.xcs->∃ Cc,X.mg c=some (.ref Cc)/\xC X.K Cc
 xn:∀ n,n∈m.g.xns->∃ cv,nZ X.mg n cv
 con:∀ x c,m.g.G.lookup x=some (.con c)->match c with | .s y=>∃ t,X.mg x=some (.str y t) | .i n=>∃ t,X.mg x=some (.int n t) | .t tb=>j5 X.w X.K X.mg x tb
 no:∀ x,m.g.G.lookup x=some .no->X.mg x=none
 mk0:∀ c,c∈m.g.mk0->qS X.K X.mg c
 mki:∀ c key n,(c,key,n)∈m.g.mki->∀ Φ,W.I key=some Φ->∃ j,j+1<=k/\InV X.prog X.w X.K X.mg X.base (CX1 X.prog X.w) j c n Φ
 iso:∀ c,c∈m.g.iso->IsV X.K X.mg W.cl c
 fl:∀ i f,i∈W.cl->f∈i.flds->FlV X.K i.name f
 mt:∀ c m key n,CI.meth W.cl c m=some (key,n)->MtV X.prog X.w X.K X.mg X.base (CX1 X.prog X.w) k c m n (W.Φ key)
 fn:∀ x n,m.g.G.lookup x=some (.fn n)->FnV X.prog X.w X.K X.mg X.base (CX1 X.prog X.w) k x n (W.Φ x)
 fnn:m.fn=true->∀ x,X.fn x=true
section
variable {k:Nat}{W:WD}{m:MC}{C:Cw}{X:Cx}{x y:Expr}
theorem SX.gl(S:SX k W m C X){z:Str}{v:GV}(h:m.glob z v=true):Gl X z/\m.g.G.lookup z=some v/\(z==("__debug__" : Str))=false/\z ≠ "__name__" := by
 unfold MC.glob MC.kind at h;simp only[aUG,aTC,aX7] at h;obtain ⟨⟨⟨h1,h2⟩,h3⟩,h4⟩:=h;refine ⟨?_,h2,by simpa using h3,h4⟩
 show X.env.scope.names.lookup z=_;rw[S.hs];exact h1
theorem SX.vis(S:SX k W m C X){z:Str}(h:m.vis z=true):Vis X.env.scope z/\(z==("__debug__" : Str))=false/\(z==("__classdict__" : Str))=false:=by
 unfold MC.vis MC.kind at h;simp only[aUG,aUW,aTC,aX7] at h;obtain ⟨⟨h1,h2⟩,h3⟩:=h;refine ⟨?_,by simpa using h2,by simpa using h3⟩
 unfold Vis;rw[S.hs];rcases h1 with (h1 | h1) | h1
 . exact .inl h1
 . exact .inr (.inl h1)
 . exact .inr (.inr h1)
theorem aM0(b:Bn):bootBuiltins b.name=some (.builtin b.id):=by
 cases b
 . exact aIA
 . exact wQ
 . exact aIB
 . exact aIC
theorem aM1(b:Bn){c:Bool}(hc:c=true->X.calm=true)(h:(c||b == .len||b == .isinstance)=true):aZ X (.builtin b.id) b.f:=by
 have hc:(b == .len||b == .isinstance)=false->X.calm=true:=λz=>hc (by cases c with | true=>rfl | false=>rw[Bool.false_or] at h;rw[h] at z;cases z)
 cases b
 . exact aHD
 . exact aHF
 . exact aHK (hc rfl)
 . exact aHL (hc rfl)
theorem aM2{f:Value}:aZ X f (λ_=>none):=⟨λ_ _ _=>False,λ_ _ _ _ _ _ _ _ _ h=>h.elim,λ_ _ _ _ _ _ _ _ _ e _=>by cases e⟩
theorem aM3(t:Ty):aZ X (.type t.id) t.f:=by
 cases t
 . exact aJI
 . exact aM2
 . exact aI0
 . exact aIW
 . exact aIX
 . exact aJ8
theorem zH(t:Ty):bootBuiltins (t.id:Str)=some (.type t.id):=by
 cases t
 . exact aID
 . exact aIE
 . exact aIF
 . exact aIG
 . exact wR
 . exact aIH
theorem aM4(op:Operator):(∃ φ,bM op=φ/\OpD C X (binaryOp op) φ)\/bM op=noF:=by
 cases op
 case Add=>exact .inl ⟨_,rfl,o_add.or aIS⟩
 case Sub=>exact .inl ⟨_,rfl,aGI⟩
 case Mult=>exact .inl ⟨_,rfl,o_mul.or aJJ⟩
 case Mod=>exact .inl ⟨_,rfl,aGL⟩
 case FloorDiv=>exact .inl ⟨_,rfl,aGN⟩
 case Pow=>exact .inl ⟨_,rfl,aGO⟩
 case BitAnd=>exact .inl ⟨_,rfl,aLO⟩
 case BitOr=>exact .inl ⟨_,rfl,aLP⟩
 case LShift=>exact .inl ⟨_,rfl,aLQ⟩
 case RShift=>exact .inl ⟨_,rfl,aLR⟩
 all_goals exact .inr rfl
theorem oP:IsB noK:=λ_ _ _ _ _ _ z=>by cases z
theorem aM5(op:CmpOp)(hu:X.A.units+64<cLine):(OpD C X (compareOp op) (bS op)/\IsB (bS op))\/bS op=noF:=by
 cases op
 case Lt=>exact .inl ⟨aGP.or (aJG hu),lK nS aJH⟩
 case LtE=>exact .inl ⟨aGQ,nS⟩
 case Gt=>exact .inl ⟨aGR,nS⟩
 case GtE=>exact .inl ⟨aGS,nS⟩
 case Eq=>exact .inl ⟨o_eq hu,lK wP oP⟩
 case NotEq=>exact .inl ⟨o_ne hu,lK wP oP⟩
 case In=>exact .inl ⟨aGU.or nT,lK wO oP⟩
 case NotIn=>exact .inl ⟨aGV.or nT,lK wO oP⟩
 case Is=>exact .inl ⟨aIO,wT⟩
 case IsNot=>exact .inl ⟨aIP,wT⟩
theorem zI{f:Value->Value->Sem Value}:OpD C X f noF:=⟨λ_ _ _ _=>False,λ_ _ _ _ _ _ _ _ _ _ _ _ h=>h.elim,λ_ _ _ _ _ _ _ _ _ _ _ _ _ _ e _=>by cases e⟩
theorem aM6(op:Operator):OpD C X (binaryOp op) (bM op):=by
 rcases aM4 (C:=C) (X:=X) op with ⟨φ,e,h⟩ | e
 . rw[e];exact h
 . rw[e];exact zI
theorem sM(op:CmpOp)(hu:X.A.units+64<cLine):OpD C X (compareOp op) (bS op)/\IsB (bS op):=by
 rcases aM5 (C:=C) op hu with h | e
 . exact h
 . rw[e];exact ⟨zI,λ_ _ _ _ _ _ z=>by cases z⟩
theorem zJ(op:CmpOp){e:Expr}(h:d7 e=true):behindInMarks op e=false:=by cases e <;> first | rfl | cases h
theorem f6{e:Expr}{env:Env}(h:d7 e=true):∀ v,foldedSetIterable e env v=pure v:=by intro v;cases e <;> first | rfl | cases h
theorem zK{e:Expr}(h:sK e=true):nH e:=by intro o i;cases e <;> first | rfl | cases h
theorem aM7{e:Expr}{env:Env}(h:zG e=true):∀ cD,isTrue e env cD=(do let v <- cD;standAt e.pos;holding [v] (truthy v)):=by
 intro cD;cases e
 case UnaryOp op _ _=>cases op <;> first | rfl | cases h
 all_goals first | rfl | cases h
theorem SX.sub(S:SX k W m C X){scope:Scope}{aC tgN:List Str}(cl:List (Str×Addr))(A:Addr)(fp:List Addr)(s3:Shared)(H3:Hp):SX k W (m.sub scope aC tgN) C.nox (aV X scope (aC++tgN) cl A fp s3 H3):=by
 refine ⟨rfl,?_,S.cm,S.rm,S.un,λ_ aA σ H s e s' I h=>?_,S.xt,S.xi,S.xc,S.xn,S.con,S.no,S.mk0,S.mki,S.iso,S.fl,S.mt,S.fn,λz=>by cases z⟩
 rotate_left
 . obtain ⟨_,_,_,_,_,_,_,_,_,_,_,_,z⟩:=h;exact z.elim
 show (compEnvC scope cl A X.env).scope=_;unfold MC.sub;rw[<- S.hs];rfl
theorem SX.subC(S:SX k W m C X){scope:Scope}{aC tgN:List Str}(t:Str)(cl:List (Str×Addr))(A:Addr)(fp:List Addr)(s3:Shared)(H3:Hp):SX k W (m.sub scope aC tgN) C.nox (cU t X scope (aC++tgN) cl A fp s3 H3):=by
 refine ⟨rfl,?_,S.cm,S.rm,S.un,λ_ aA σ H s e s' I h=>?_,S.xt,S.xi,S.xc,S.xn,S.con,S.no,S.mk0,S.mki,S.iso,S.fl,S.mt,S.fn,λz=>by cases z⟩
 rotate_left
 . obtain ⟨_,_,_,_,_,_,_,_,_,_,_,_,z⟩:=h;exact z.elim
 show (compEnvC scope cl A X.env).scope=_;unfold MC.sub;rw[<- S.hs];rfl
theorem SX.loc(S:SX k W m C X){i:Nat}{z:Str}(h:m.loc i z=true):X.N[i]? = some z/\L2.Loc X.env.scope z/\(X.fn z=true\/X.env.scope.names.lookup z=some .local):=by
 unfold MC.loc MC.kind at h;simp only[aUG,aUW,aTC] at h;refine ⟨by rw[S.hN];exact h.1,?_,?_⟩
 . unfold L2.Loc;rw[S.hs];rcases h.2 with q | q
   . exact .inl q
   . exact .inr q.2
 . rw[S.hs];rcases h.2 with q | q
   . exact .inr q
   . exact .inl (S.fnn q.1 z)
mutual
theorem sG(S:SX k W m C X)(hN:m.N.Nodup):∀ (t:Tg) {e:Expr},mG m t e=true->PGw X e t
 | .nm i,e,h=>by
  simp only[mG] at h;split at h
  . obtain ⟨a,b,c⟩:=S.loc h;exact wW (by rw[S.hN];exact hN) a b c
  . cases h
 | .tp ts,e,h=>by
  simp only[mG] at h;split at h
  . rw[aUG,aUG,aU4] at h;obtain ⟨p,l⟩:=sGs S hN ts h.2 h.1.2;exact aI9 (S.cm h.1.1) p h.1.2 l
  . cases h
theorem sGs(S:SX k W m C X)(hN:m.N.Nodup):∀ (ts:List Tg) {es:List Expr},mGs m ts es=true->(∀ e∈es,j0 e=true)->i9 X es ts/\es.length=ts.length
 | [],[],h,_=>⟨aI6,rfl⟩
 | [],_::_,h,_=>by simp[mGs] at h
 | t::ts,[],h,_=>by simp[mGs] at h
 | t::ts,e::es,h,hs=>by simp only[mGs,aUG] at h;obtain ⟨p,l⟩:=sGs S hN ts h.2 λx hx=>hs x (mcm hx);exact ⟨aI7 (sG S hN t h.1) p (hs e mcs),by rw[aUO,aUO,l]⟩
end
end
theorem oQ{k:Nat}{W:WD}{m:MC}{C:Cw}{X:Cx}(S:SX k W m C X){scope:Scope}{aB:List Nat}{aC tgN:List Str}(ho:fZ scope m.sc m.N aB aC tgN=true):(∀ y∈scope.names,y.2 ≠ .cell)/\scope.kind=.function/\(∀ y∈scope.names,y.2=.local->scope.names.lookup y.1=some .local)/\(∀ y∈scope.names,y.2=.free->X.env.kindOf y.1=some .cell\/X.env.kindOf y.1=some .free)/\(aC.map some=aB.map λi=>X.N[i]?)/\(∀ y∈aC,(y,NameKind.free)∈scope.names)/\(∀ y∈aC,(relabel scope X.env).names.lookup y=some .cell\/(relabel scope X.env).names.lookup y=some .free)/\(aC++tgN).Nodup:=by
 unfold fZ at ho;simp only[aUG,aU4,aUW,aX7,aTC,aUU,aX8] at ho;obtain ⟨⟨⟨⟨⟨⟨⟨g1,g2⟩,g3⟩,g4⟩,g5⟩,g6⟩,g7⟩,g8⟩:=ho;have er:(relabel scope X.env).names=fP scope m.sc:=by rw[<- S.hs];rfl
 refine ⟨g1,g2,λy hy e=>(g3 y hy).resolve_left λz=>z e,λy hy e=>?_,by rw[S.hN];exact g5,g6,λy hy=>by rw[er];exact g7 y hy,g8⟩
 have:=g4 y hy;show X.env.scope.names.lookup y.1=_\/X.env.scope.names.lookup y.1=_;rw[S.hs];rcases this with (z | z) | z
 . exact absurd e z
 . exact .inl z
 . exact .inr z
theorem aM8{k:Nat}{W:WD}{m:MC}{C:Cw}{X:Cx}(S:SX k W m C X){scope:Scope}{aB:List Nat}{aC:List Str}{x:Str}(ho:sL scope m.sc m.N aB aC x=true):scope.names.filter (λy=>y.2 == .cell)=[(x,NameKind.cell)]/\scope.kind=.function/\(∀ y∈scope.names,y.2=.local->scope.names.lookup y.1=some .local)/\(∀ y∈scope.names,y.2=.free->X.env.kindOf y.1=some .cell\/X.env.kindOf y.1=some .free)/\(aC.map some=aB.map λi=>X.N[i]?)/\(∀ y∈aC,(y,NameKind.free)∈scope.names)/\(∀ y∈aC,(relabel scope X.env).names.lookup y=some .cell\/(relabel scope X.env).names.lookup y=some .free)/\(aC++[x]).Nodup/\(relabel scope X.env).names.lookup x=some .cell:=by
 unfold sL at ho;simp only[aUG,aU4,aUW,aX7,aTC,aUU,aX8] at ho;obtain ⟨⟨⟨⟨⟨⟨⟨⟨g1,g2⟩,g3⟩,g4⟩,g5⟩,g6⟩,g7⟩,g8⟩,g9⟩:=ho;have er:(relabel scope X.env).names=fP scope m.sc:=by rw[<- S.hs];rfl
 refine ⟨g1,g2,λy hy e=>(g3 y hy).resolve_left λz=>z e,λy hy e=>?_,by rw[S.hN];exact g5,g6,λy hy=>by rw[er];exact g7 y hy,g8,by rw[er];exact g9⟩
 have:=g4 y hy;show X.env.scope.names.lookup y.1=_\/X.env.scope.names.lookup y.1=_;rw[S.hs];rcases this with (z | z) | z
 . exact absurd e z
 . exact .inl z
 . exact .inr z
abbrev PE(m:MC)(f:E)(e:Expr):Prop:=∀ {k:Nat} {W:WD} {C:Cw} {X:Cx},SX k W m C X->PV C X e (evE W f)
abbrev PTE(m:MC)(f:E)(e:Expr):Prop:=∀ {k:Nat} {W:WD} {C:Cw} {X:Cx},SX k W m C X->PTv C X e (evE W f)
abbrev PIE(m:MC)(tg:Expr)(f:E)(e:Expr):Prop:=∀ {k:Nat} {W:WD} {C:Cw} {X:Cx},SX k W m C X->PIv C X tg e (evE W f)
inductive d8(m:MC):List E->List Expr->Prop
 | nil:d8 m [] []
 | cons {f fs x xs}:cB x=true->PE m f x->d8 m fs xs->d8 m (f::fs) (x::xs)
inductive eT(m:MC):List E->List Expr->Prop
 | nil:eT m [] []
 | cons {f fs x xs}:PTE m f x->eT m fs xs->eT m (f::fs) (x::xs)
abbrev CkE(m:MC)(f:E)(e:Expr):Type:=Option (PLift (PE m f e))
abbrev CkT(m:MC)(f:E)(e:Expr):Type:=Option (PLift (PTE m f e))
abbrev CkI(m:MC)(tg:Expr)(f:E)(e:Expr):Type:=Option (PLift (PIE m tg f e))
abbrev d9(m:MC)(f:List E)(e:List Expr):Type:=Option (PLift (d8 m f e))
abbrev CkF(m:MC)(f:List E)(e:List Expr):Type:=Option (PLift (eT m f e))
abbrev CkO(m:MC)(f:Option E)(e:Option Expr):Type:=Option (PLift (∀ {k:Nat} {W:WD} {C:Cw} {X:Cx},SX k W m C X->POv C X e (evO W f)))
theorem got{P:Prop}:∀ {o:Option (PLift P)},o.isSome=true->P
 | some p,_=>p.down
 | none,h=>nomatch h
section
variable {k:Nat}{W:WD}{m:MC}{C:Cw}{X:Cx}
theorem d8.star:∀ {fs:List E} {es:List Expr},d8 m fs es->∀ x∈es,cB x=true
 | _,_,.nil=>λx hx=>by cases hx
 | _,_,.cons s _ q=>λx hx=>by
  rcases aSL.mp hx with rfl | hx
  . exact s
  . exact q.star x hx
theorem d8.es(S:SX k W m C X):∀ {fs:List E} {es:List Expr},d8 m fs es->PAv C X es (bW W fs)
 | _,_,.nil=>by simp only[bW];exact jS
 | _,_,.cons s p q=>by simp only[bW];exact jT (p S) (q.es S) (bO s)
theorem d8.a{pos:Pos}(S:SX k W m C X):∀ {fs:List E} {es:List Expr},d8 m fs es->PV C X (.BoolOp .And es pos) (evA W fs)
 | _,_,.nil=>λaA s σ H Q I q=>by rw[a8] at q;obtain ⟨ρ,F,R,w⟩:=q;exact w.elim
 | _,_,.cons s p .nil=>by simp only[evA];exact vX (p S)
 | _,_,.cons s p (.cons s' p' q)=>by simp only[evA];exact aG2 (p S) (d8.a S (.cons s' p' q))
theorem d8.o{pos:Pos}(S:SX k W m C X):∀ {fs:List E} {es:List Expr},d8 m fs es->PV C X (.BoolOp .Or es pos) (dN W fs)
 | _,_,.nil=>λaA s σ H Q I q=>by rw[a8] at q;obtain ⟨ρ,F,R,w⟩:=q;exact w.elim
 | _,_,.cons s p .nil=>by simp only[dN];exact vX (p S)
 | _,_,.cons s p (.cons s' p' q)=>by simp only[dN];exact aG3 (p S) (d8.o S (.cons s' p' q))
theorem eT.a{pos:Pos}(S:SX k W m C X):∀ {fs:List E} {es:List Expr},eT m fs es->PWv C X (.BoolOp .And es pos) (evA W fs)
 | _,_,.nil=>λcD aA s σ H Q I q=>by obtain ⟨ρ,F,R,w⟩:=q;exact w.elim
 | _,_,.cons p .nil=>by simp only[evA];exact vV (p S)
 | _,_,.cons p (.cons p' q)=>by simp only[evA];exact aG0 (p S) (eT.a S (.cons p' q))
theorem eT.o{pos:Pos}(S:SX k W m C X):∀ {fs:List E} {es:List Expr},eT m fs es->PWv C X (.BoolOp .Or es pos) (dN W fs)
 | _,_,.nil=>λcD aA s σ H Q I q=>by obtain ⟨ρ,F,R,w⟩:=q;exact w.elim
 | _,_,.cons p .nil=>by simp only[dN];exact vV (p S)
 | _,_,.cons p (.cons p' q)=>by simp only[dN];exact aG1 (p S) (eT.o S (.cons p' q))
theorem eT.f(S:SX k W m C X):∀ {fs:List E} {es:List Expr},eT m fs es->cS X es (tT (C.at X) (evF W fs))
 | _,_,.nil=>by
  have:evF W []=λ_=>.ok .fz (.bl true):=by funext ρ;simp only[evF]
  rw[this];exact aH1
 | f::fs,_,.cons p q=>by
  have:evF W (f::fs)=λρ=>eK (evE W f ρ) (evF W fs ρ):=by funext ρ;simp only[evF]
  rw[this];exact aH2 (p S) (q.f S)
section
variable {fs:List E}{es:List Expr}{r:d9 m fs es}{t:CkF m fs es}{pos:Pos}
theorem gSt(h:r.isSome=true):∀ x∈es,cB x=true:=(got h).star
theorem gEs(h:r.isSome=true)(S:SX k W m C X):PAv C X es (bW W fs):=(got h).es S
theorem gA(h:r.isSome=true)(S:SX k W m C X):PV C X (.BoolOp .And es pos) (evA W fs):=(got h).a S
theorem gOr(h:r.isSome=true)(S:SX k W m C X):PV C X (.BoolOp .Or es pos) (dN W fs):=(got h).o S
theorem gWA(h:t.isSome=true)(S:SX k W m C X):PWv C X (.BoolOp .And es pos) (evA W fs):=(got h).a S
theorem gWO(h:t.isSome=true)(S:SX k W m C X):PWv C X (.BoolOp .Or es pos) (dN W fs):=(got h).o S
theorem gF(h:t.isSome=true)(S:SX k W m C X):cS X es (tT (C.at X) (evF W fs)):=(got h).f S
end
end
noncomputable def aM9{m:MC}{a e}(r1:CkE m a e):CkE m (.frz a) e:=if h:r1.isSome=true then some ⟨λS=>fN (got h S)⟩ else none
noncomputable def aNA {m : MC} {a e} (r1 : CkE m a e) : CkT m (.tru a) e := if h : (zG e && r1.isSome) = true then some ⟨fun {k} {W} {C} {X} S => by
    simp only[aUG] at h;exact aGX (got h.2 S) (aM7 h.1)⟩ else none
noncomputable def aNB{m:MC}{tg a e}(r1:CkE m a e):CkI m tg (.items a) e:=if h:r1.isSome=true then some ⟨λS=>aHW (got h S)⟩ else none
noncomputable def aNC {m : MC} {i} {x} {p1} : CkE m (.var i) (.Name x p1) := if h : (m.N[i]? == some x && m.vis x) = true then some ⟨fun {k} {W} {C} {X} S => by
    simp only[aUG,aTC] at h;obtain ⟨h1,h2,h3⟩:=S.vis h.2
    exact aGC i (gE (by rw[S.hN];exact h.1) h1 h2 h3)⟩ else none
noncomputable def aND {m : MC} {y} {c} {x} {p1} : CkE m (.glob y c) (.Name x p1) := if h : (x == y && m.glob x (.con c) && strK' c) = true then some ⟨fun {k} {W} {C} {X} S => by
    simp only[aUG,aTC] at h;obtain ⟨⟨rfl,h1⟩,h2⟩:=h;obtain ⟨g,l,hd,hn⟩:=S.gl h1;have:=S.con _ _ l;cases c with
    | s y=>obtain ⟨t,ht⟩:=this;exact aHG g ht h2 hd
    | i n=>obtain ⟨t,ht⟩:=this;exact aHH g ht hd
    | t tb=>cases h2⟩ else none
noncomputable def kE_ty {m : MC} {t} {x} {p1} : CkE m (.ty t) (.Name x p1) := if h : (x == (t.id : Str) && m.glob x .no) = true then some ⟨fun {k} {W} {C} {X} S => by
    simp only[aUG,aTC] at h;obtain ⟨rfl,h1⟩:=h;obtain ⟨g,l,hd,hn⟩:=S.gl h1;exact pv_ty g (S.no _ l) (zH t) hn hd⟩ else none
noncomputable def aNE {m : MC} {p0} {p1} : CkE m (.non) (.Constant .none p0 p1) := if h : (true) = true then some ⟨fun {k} {W} {C} {X} S => by
    exact aGE⟩ else none
noncomputable def kE_bl {m : MC} {c} {b} {p1} {p2} : CkE m (.bl c) (.Constant (.bool b) p1 p2) := if h : (b == c) = true then some ⟨fun {k} {W} {C} {X} S => by
    simp only[aTC] at h;subst h;exact pv_bl⟩ else none
noncomputable def aNF {m : MC} {c} {b} {p1} {p2} : CkE m (.int c) (.Constant (.int b) p1 p2) := if h : (b == c) = true then some ⟨fun {k} {W} {C} {X} S => by
    simp only[aTC] at h;subst h;exact aGD⟩ else none
noncomputable def aNG {m : MC} {c} {b} {p1} {p2} : CkE m (.str c) (.Constant (.str b) p1 p2) := if h : (b == c && strK b) = true then some ⟨fun {k} {W} {C} {X} S => by
    simp only[aUG,aTC] at h;obtain ⟨rfl,h⟩:=h;exact aGF h⟩ else none
noncomputable def aNH {m : MC} {op} {a} {b} {x} {o} {y} {p3} (r1 : CkE m a x) (r2 : CkE m b y) : CkE m (.bin op a b) (.BinOp x o y p3) := if h : (o == op && (r1.isSome && r2.isSome)) = true then some ⟨fun {k} {W} {C} {X} S => by
    simp only[aUG,aTC] at h;obtain ⟨rfl,h1,h2⟩:=h;exact pv_op (aM6 _) (got h1 S) (got h2 S)⟩ else none
noncomputable def aNI {m : MC} {op} {a} {b} {x} {o} {y} {p3} (r1 : CkE m a x) (r2 : CkE m b y) : CkE m (.cmp op a b) (.Compare x [o] [y] p3) := if h : (o == op && d7 y && (r1.isSome && r2.isSome)) = true then some ⟨fun {k} {W} {C} {X} S => by
    simp only[aUG,aTC] at h;obtain ⟨⟨rfl,hs⟩,h1,h2⟩:=h;exact aGG (sM _ S.un).1 (got h1 S) (got h2 S) (zJ _ hs)⟩ else none
noncomputable def aNJ {m : MC} {es} {xs} {p1} (r1 : d9 m es xs) : CkE m (.andL es) (.BoolOp .And xs p1) := if h : (r1.isSome) = true then some ⟨fun {k} {W} {C} {X} S => by
    exact gA h S⟩ else none
noncomputable def aNK {m : MC} {es} {xs} {p1} (r1 : d9 m es xs) : CkE m (.orL es) (.BoolOp .Or xs p1) := if h : (r1.isSome) = true then some ⟨fun {k} {W} {C} {X} S => by
    exact gOr h S⟩ else none
noncomputable def aNL {m : MC} {a} {x} {p1} (r1 : CkE m a x) : CkE m (.not a) (.UnaryOp .Not x p1) := if h : (r1.isSome) = true then some ⟨fun {k} {W} {C} {X} S => by
    exact aG4 (got h S)⟩ else none
noncomputable def aNM {m : MC} {a} {l} {u} {x} {lo} {hi} {p3} {p4} (r1 : CkE m a x) (r2 : CkO m l lo) (r3 : CkO m u hi) : CkE m (.slice a l u) (.Subscript x (.Slice lo hi none p3) p4) := if h : (r1.isSome && (r2.isSome && r3.isSome)) = true then some ⟨fun {k} {W} {C} {X} S => by
    simp only[aUG] at h;obtain ⟨h0,h1,h2⟩:=h;exact aJ2 (got h0 S) (got h1 S) (got h2 S)⟩ else none
noncomputable def kE_ix {m : MC} {a} {b} {x} {y} {p2} (r1 : CkE m a x) (r2 : CkE m b y) : CkE m (.ix a b) (.Subscript x y p2) := if h : (sK y && (r1.isSome && r2.isSome)) = true then some ⟨fun {k} {W} {C} {X} S => by
    simp only[aUG] at h;obtain ⟨h0,h1,h2⟩:=h;exact pv_ix (got h1 S) (got h2 S) (zK h0)⟩ else none
noncomputable def aNN {m : MC} {es} {es0} {p1} {p2} (r1 : d9 m es es0) : CkE m (.tup es) (.Tuple es0 p1 p2) := if h : (r1.isSome) = true then some ⟨fun {k} {W} {C} {X} S => by
    exact aHB (gEs h S)⟩ else none
noncomputable def aNO {m : MC} {es} {es0} {p1} (r1 : d9 m es es0) : CkE m (.lst es) (.List es0 p1) := if h : (r1.isSome) = true then some ⟨fun {k} {W} {C} {X} S => by
    exact aHC (gEs h S)⟩ else none
noncomputable def aNP {m : MC} {g} {n} {es} {f} {p} {x} {xs} {cp} (r1 : d9 m es (x :: xs)) : CkE m (.call g n es) (.Call (.Name f p) (x :: xs) [] cp) := if h : (m.calm && f == g && m.glob f (.fn n) && r1.isSome) = true then some ⟨fun {k} {W} {C} {X} S => by
    simp only[aUG,aTC] at h;obtain ⟨⟨⟨hq,rfl⟩,h1⟩,h2⟩:=h;obtain ⟨gl,l,hd,hn⟩:=S.gl h1;have st:=gSt h2;exact aH7 (S.fn _ _ l) (S.rm hq) (S.xo hq) gl (gEs h2 S) hd (bO (st x mcs)) (fQ _ _ λy hy=>st y (mcm hy))⟩ else none
noncomputable def aNQ {m : MC} {g} {n} {es} {f} {p} {x} {xs} {cp} (r1 : d9 m es (x :: xs)) : CkE m (.callO g n es) (.Call (.Name f p) (x :: xs) [] cp) := if h : (m.calm && f == g && m.glob f (.fn n) && r1.isSome) = true then some ⟨fun {k} {W} {C} {X} S => by
    simp only[aUG,aTC] at h;obtain ⟨⟨⟨hq,rfl⟩,h1⟩,h2⟩:=h;obtain ⟨gl,l,hd,hn⟩:=S.gl h1;have st:=gSt h2;exact aMX (S.fn _ _ l) (S.rm hq) (S.xo hq) gl (gEs h2 S) hd (bO (st x mcs)) (fQ _ _ λy hy=>st y (mcm hy))⟩ else none
noncomputable def aNR {m : MC} {b} {es} {f} {p} {x} {xs} {cp} (r1 : d9 m es (x :: xs)) : CkE m (.bcall b es) (.Call (.Name f p) (x :: xs) [] cp) := if h : ((m.calm || b == .len || b == .isinstance) && f == b.name && m.glob f .no && r1.isSome) = true then some ⟨fun {k} {W} {C} {X} S => by
    rw[aUG,aUG,aUG] at h;obtain ⟨⟨⟨hq,hz⟩,h1⟩,h2⟩:=h;cases (aTC.mp hz);obtain ⟨gl,l,hd,hn⟩:=S.gl h1;have st:=gSt h2;exact qM (aM1 b S.cm hq) gl (S.no _ l) (aM0 b) (gEs h2 S) hn hd (bO (st x mcs)) (fQ _ _ λy hy=>st y (mcm hy))⟩ else none
noncomputable def kE_mt {m : MC} {t} {a} {es} {o} {f} {ap} {x} {xs} {cp} (r1 : CkE m a o) (r2 : d9 m es (x :: xs)) : CkE m (.mt t a es) (.Call (.Attribute o f ap) (x :: xs) [] cp) := if h : (f == t.name && ap.endLine == cp.line && decide ((x :: xs).length < 30) && lL o && (r1.isSome && r2.isSome)) = true then some ⟨fun {k} {W} {C} {X} S => by
    simp only[aUG,aTC,aUU] at h;obtain ⟨⟨⟨⟨rfl,hl⟩,h30⟩,hc⟩,h1,h2⟩:=h;have st:=gSt h2;cases t with
    | join => exact nQ (.inl rfl) aX9 PySem.F.slot_str_join PySem.F.type_str_join aH6 (got h1 S) (gEs h2 S) (i8 hc) (by
        rw[iF _ _ st];show (true&&true&&decide ((x::xs).length+0+0<30))=true
        rw[aUN (by simpa using h30)];rfl) (aTC.mpr hl) (bO (st x mcs)) (fQ _ _ λy hy=>st y (mcm hy))
    | joinT => exact nQ (.inl rfl) aX9 PySem.F.slot_str_join PySem.F.type_str_join aK3 (got h1 S) (gEs h2 S) (i8 hc) (by
        rw[iF _ _ st];show (true&&true&&decide ((x::xs).length+0+0<30))=true
        rw[aUN (by simpa using h30)];rfl) (aTC.mpr hl) (bO (st x mcs)) (fQ _ _ λy hy=>st y (mcm hy))
    | startswith => exact nQ (.inl rfl) aX9 PySem.F.slot_str_startswith PySem.F.type_str_startswith aJ3 (got h1 S) (gEs h2 S) (i8 hc) (by
        rw[iF _ _ st];show (true&&true&&decide ((x::xs).length+0+0<30))=true
        rw[aUN (by simpa using h30)];rfl) (aTC.mpr hl) (bO (st x mcs)) (fQ _ _ λy hy=>st y (mcm hy))
    | removeprefix => exact nQ (.inl rfl) aX9 PySem.F.slot_str_removeprefix PySem.F.type_str_removeprefix aJ5 (got h1 S) (gEs h2 S) (i8 hc) (by
        rw[iF _ _ st];show (true&&true&&decide ((x::xs).length+0+0<30))=true
        rw[aUN (by simpa using h30)];rfl) (aTC.mpr hl) (bO (st x mcs)) (fQ _ _ λy hy=>st y (mcm hy))⟩ else none
noncomputable def aNS {m : MC} {t} {es} {f} {p1} {x} {xs} {p4} (r1 : d9 m es (x :: xs)) : CkE m (.tcall t es) (.Call (.Name f p1) (x :: xs) [] p4) := if h : (f == (t.id : Str) && m.glob f .no && r1.isSome) = true then some ⟨fun {k} {W} {C} {X} S => by
    simp only[aUG,aTC] at h;obtain ⟨⟨rfl,h1⟩,h2⟩:=h;obtain ⟨gl,l,hd,hn⟩:=S.gl h1;exact wU (aM3 t) gl (S.no _ l) (zH t) (gEs h2 S) hn hd (gSt h2)⟩ else none
noncomputable def aNT {m : MC} {a} {c} {f} {p1} {x} {d} {p4} {p5} (r1 : CkE m a x) : CkE m (.isi a c) (.Call (.Name f p1) [x, .Name d p4] [] p5) := if h : (f == "isinstance" && m.glob f .no && d == c && m.glob d .cls && m.g.iso.contains d && cB x && r1.isSome) = true then some ⟨fun {k} {W} {C} {X} S => by
    simp only[aUG,aTC,aX8] at h;obtain ⟨⟨⟨⟨⟨⟨rfl,h1⟩,rfl⟩,h2⟩,h3⟩,h4⟩,h5⟩:=h;obtain ⟨gl,l,hd,hn⟩:=S.gl h1;obtain ⟨gl2,l2,hd2,hn2⟩:=S.gl h2;exact aIN (S.iso _ h3) gl (S.no _ l) gl2 hd2 (got h5 S) h4⟩ else none
noncomputable def aNU {m : MC} {a} {f} {es} {o} {g} {ap} {xs} {cp} (r1 : CkE m a o) (r2 : d9 m es xs) : CkE m (.meth a f es) (.Call (.Attribute o g ap) xs [] cp) := if h : (m.calm && g == f && ap.endLine == cp.line && decide (xs.length < 30) && lL o && (r1.isSome && r2.isSome)) = true then some ⟨fun {k} {W} {C} {X} S => by
    simp only[aUG,aTC,aUU] at h;obtain ⟨⟨⟨⟨⟨hq,rfl⟩,h1⟩,h2⟩,h3⟩,h4,h5⟩:=h;exact aIJ S.mt (S.rm hq) (S.xo hq) (got h4 S) (gEs h5 S) h3 (gSt h5) h2 h1 λe0=>by
     subst e0;cases es with
     | nil=>funext ρ;simp only[bW]
     | cons _ _=>cases got h5⟩ else none
noncomputable def aNV {m : MC} {c} {f} {p1} {p2} : CkE m (.mk0 c) (.Call (.Name f p1) [] [] p2) := if h : (f == c && m.glob f .cls && m.g.mk0.contains f) = true then some ⟨fun {k} {W} {C} {X} S => by
    simp only[aUG,aTC,aX8] at h;obtain ⟨⟨rfl,h1⟩,h2⟩:=h;obtain ⟨gl,l,hd,hn⟩:=S.gl h1;exact aIM (S.mk0 _ h2) gl hd⟩ else none
noncomputable def aNW {m : MC} {p0} : CkE m (.dnew) (.Dict [] [] p0) := if h : (true) = true then some ⟨fun {k} {W} {C} {X} S => by
    exact aJ6⟩ else none
noncomputable def aNX {m : MC} {a} {f} {p1} {g} {p3} {x} {p5} {p6} (r1 : CkE m a x) : CkE m (.usi a) (.Call (.Name f p1) [.Call (.Name g p3) [x] [] p5] [] p6) := if h : (m.calm && f == "sorted" && g == "set" && m.glob f .no && m.glob g .no && cB x && r1.isSome) = true then some ⟨fun {k} {W} {C} {X} S => by
    simp only[aUG,aTC] at h;obtain ⟨⟨⟨⟨⟨⟨hq,rfl⟩,rfl⟩,h1⟩,h2⟩,s1⟩,h3⟩:=h;obtain ⟨gl,l,hd,hn⟩:=S.gl h1;obtain ⟨gl',l',hd',hn'⟩:=S.gl h2;exact aMV (S.cm hq) gl (S.no _ l) gl' (S.no _ l') (got h3 S) s1⟩ else none
noncomputable def aNY {m : MC} {a} {f} {p1} {x} {p3} (r1 : CkE m a x) : CkE m (.srt a) (.Call (.Name f p1) [x] [] p3) := if h : (f == "sorted" && m.glob f .no && cB x && r1.isSome) = true then some ⟨fun {k} {W} {C} {X} S => by
    simp only[aUG,aTC] at h;obtain ⟨⟨⟨rfl,h1⟩,hs⟩,h2⟩:=h;obtain ⟨gl,l,hd,hn⟩:=S.gl h1;exact qM aL1 gl (S.no _ l) rP (jT (got h2 S) jS (bO hs)) hn hd (bO hs) rfl⟩ else none
noncomputable def aNZ {m : MC} {a} {f} {p1} {x} {p3} (r1 : CkE m a x) : CkE m (.sum1 a) (.Call (.Name f p1) [x] [] p3) := if h : (m.calm && f == "sum" && m.glob f .no && cB x && r1.isSome) = true then some ⟨fun {k} {W} {C} {X} S => by
    simp only[aUG,aTC] at h;obtain ⟨⟨⟨⟨hq,rfl⟩,h1⟩,hs⟩,h2⟩:=h;obtain ⟨gl,l,hd,hn⟩:=S.gl h1;exact qM (aL2 (S.cm hq)) gl (S.no _ l) aKZ (jT (got h2 S) jS (bO hs)) hn hd (bO hs) rfl⟩ else none
noncomputable def aN0 {m : MC} {a} {f} {p1} {x} {p3} (r1 : CkE m a x) : CkE m (.dlist a) (.Call (.Name f p1) [x] [] p3) := if h : (m.calm && f == "list" && m.glob f .no && cB x && r1.isSome) = true then some ⟨fun {k} {W} {C} {X} S => by
    simp only[aUG,aTC] at h;obtain ⟨⟨⟨⟨hq,rfl⟩,h1⟩,hs⟩,h2⟩:=h;obtain ⟨gl,l,hd,hn⟩:=S.gl h1;exact wU (aKC (S.cm hq)) gl (S.no _ l) wR (jT (got h2 S) jS (bO hs)) hn hd (λy hy=>by rw[aVZ] at hy;subst hy;exact hs)⟩ else none
noncomputable def aN1 {m : MC} {a} {b} {x} {y} {p2} (r1 : CkE m a x) (r2 : CkE m b y) : CkE m (.dix a b) (.Subscript x y p2) := if h : (sK y && (r1.isSome && r2.isSome)) = true then some ⟨fun {k} {W} {C} {X} S => by
    simp only[aUG] at h;obtain ⟨h0,h1,h2⟩:=h
    exact aKA (aXW (aYA (by decide:1<=64) _) S.un) (got h1 S) (got h2 S) (zK h0)⟩ else none
noncomputable def aN2 {m : MC} {el} {it} {ts} {aB} {t} {n} {elt} {tg} {aF} {ifs} {scope} {cp} (r1 : CkI m tg it aF) (r2 : CkE (m.sub scope (aB.filterMap fun i => m.N[i]?) (aQ 4 tg)) el elt) (r3 : CkF (m.sub scope (aB.filterMap fun i => m.N[i]?) (aQ 4 tg)) ts ifs) : CkE m (.comp el it ts aB t n) (.ListComp elt [⟨tg, aF, ifs, 0⟩] scope cp) := if h : (m.calm && fZ scope m.sc m.N aB (aB.filterMap fun i => m.N[i]?) (aQ 4 tg) && d7 aF && decide ((aQ 4 tg).length = n) && (eQ t).all (fun j => decide (aB.length ≤ j)) && mG (m.sub scope (aB.filterMap fun i => m.N[i]?) (aQ 4 tg)) t tg && (r1.isSome && (r2.isSome && r3.isSome))) = true then some ⟨fun {k} {W} {C} {X} S => by
    simp only[aUG,aUU,aU4] at h;obtain ⟨⟨⟨⟨⟨⟨hq,ho⟩,hn⟩,hl⟩,hs⟩,hg⟩,h1,h2,h3⟩:=h;unfold fZ at ho;simp only[aUG,aU4,aUW,aX7,aTC,aUU,aX8] at ho;obtain ⟨⟨⟨⟨⟨⟨⟨g1,g2⟩,g3⟩,g4⟩,g5⟩,g6⟩,g7⟩,g8⟩:=ho;have er:(relabel scope X.env).names=fP scope m.sc:=by rw[<- S.hs];rfl
    have := aJB (pos := cp) (tgN := aQ 4 tg) (t := t) (S.cm hq) (got h1 S) g1 g2 (fun y hy e => (g3 y hy).resolve_left fun z => z e) (fun y hy e => by
        have:=g4 y hy;show X.env.scope.names.lookup y.1=_\/X.env.scope.names.lookup y.1=_;rw[S.hs];rcases this with (z | z) | z
        . exact absurd e z
        . exact .inl z
        . exact .inr z) (by rw[S.hN];exact g5) g6 (λy hy=>by rw[er];exact g7 y hy) (λj hj=>hs j hj) (λcl A fp s3 H3=>sG (S.sub cl A fp s3 H3) g8 t hg)
        (λcl A fp s3 H3=>gF h3 (S.sub cl A fp s3 H3)) (λcl A fp s3 H3=>got h2 (S.sub cl A fp s3 H3)) (f6 hn)
    rw[hl] at this;exact this⟩ else none
noncomputable def aN3 {m : MC} {el} {it} {it2} {ts} {aB} {elt} {tg} {aF} {ifs} {tg2} {aL} {scope} {cp} (r1 : CkI m tg it aF) (r2 : CkI (m.sub scope (aB.filterMap fun i => m.N[i]?) (aQ 4 tg ++ aQ 4 tg2)) tg2 it2 aL) (r3 : CkE (m.sub scope (aB.filterMap fun i => m.N[i]?) (aQ 4 tg ++ aQ 4 tg2)) el elt) (r4 : CkF (m.sub scope (aB.filterMap fun i => m.N[i]?) (aQ 4 tg ++ aQ 4 tg2)) ts ifs) : CkE m (.comp2 el it it2 ts aB) (.ListComp elt [⟨tg, aF, ifs, 0⟩, ⟨tg2, aL, [], 0⟩] scope cp) := if h : (m.calm && fZ scope m.sc m.N aB (aB.filterMap fun i => m.N[i]?) (aQ 4 tg ++ aQ 4 tg2) && d7 aF && d7 aL && decide ((aQ 4 tg ++ aQ 4 tg2).length = 2) && mG (m.sub scope (aB.filterMap fun i => m.N[i]?) (aQ 4 tg ++ aQ 4 tg2)) (.nm aB.length) tg && mG (m.sub scope (aB.filterMap fun i => m.N[i]?) (aQ 4 tg ++ aQ 4 tg2)) (.nm (aB.length + 1)) tg2 && (r1.isSome && (r2.isSome && (r3.isSome && r4.isSome)))) = true then some ⟨fun {k} {W} {C} {X} S => by
    simp only[aUG,aUU] at h;obtain ⟨⟨⟨⟨⟨⟨⟨hq,ho⟩,hn⟩,hn2⟩,hl⟩,hg⟩,hg2⟩,h1,h2,h3,h4⟩:=h;obtain ⟨g1,g2,g3,g4,g5,g6,g7,g8⟩:=oQ S ho;exact aLA (pos:=cp) (tgN:=aQ 4 tg++aQ 4 tg2) (S.cm hq) (got h1 S) g1 g2 g3 g4 g5 g6 g7 hl (λcl A fp s3 H3=>sG (S.sub cl A fp s3 H3) g8 (.nm aB.length) hg) (λcl A fp s3 H3=>gF h4 (S.sub cl A fp s3 H3))
     (λcl A fp s3 H3=>got h2 (S.sub cl A fp s3 H3)) (λcl A fp s3 H3=>sG (S.sub cl A fp s3 H3) g8 (.nm (aB.length+1)) hg2) (λcl A fp s3 H3=>got h3 (S.sub cl A fp s3 H3)) (f6 hn) (λ_=>f6 hn2)⟩ else none
noncomputable def aN4 {m : MC} {el} {it} {it2} {ts} {aB} {f} {p} {elt} {tg} {aF} {ifs} {tg2} {aL} {scope} {cp} {p'} (r1 : CkI m tg it aF) (r2 : CkI (m.sub scope (aB.filterMap fun i => m.N[i]?) (aQ 4 tg ++ aQ 4 tg2)) tg2 it2 aL) (r3 : CkE (m.sub scope (aB.filterMap fun i => m.N[i]?) (aQ 4 tg ++ aQ 4 tg2)) el elt) (r4 : CkF (m.sub scope (aB.filterMap fun i => m.N[i]?) (aQ 4 tg ++ aQ 4 tg2)) ts ifs) : CkE m (.usc el it it2 ts aB) (.Call (.Name f p) [.SetComp elt [⟨tg, aF, ifs, 0⟩, ⟨tg2, aL, [], 0⟩] scope cp] [] p') := if h : (f == "sorted" && m.glob f .no && m.calm && fZ scope m.sc m.N aB (aB.filterMap fun i => m.N[i]?) (aQ 4 tg ++ aQ 4 tg2) && d7 aF && d7 aL && decide ((aQ 4 tg ++ aQ 4 tg2).length = 2) && mG (m.sub scope (aB.filterMap fun i => m.N[i]?) (aQ 4 tg ++ aQ 4 tg2)) (.nm aB.length) tg && mG (m.sub scope (aB.filterMap fun i => m.N[i]?) (aQ 4 tg ++ aQ 4 tg2)) (.nm (aB.length + 1)) tg2 && (r1.isSome && (r2.isSome && (r3.isSome && r4.isSome)))) = true then some ⟨fun {k} {W} {C} {X} S => by
    simp only[aUG,aUU,aTC] at h;obtain ⟨⟨⟨⟨⟨⟨⟨⟨⟨rfl,hf⟩,hq⟩,ho⟩,hn⟩,hn2⟩,hl⟩,hg⟩,hg2⟩,h1,h2,h3,h4⟩:=h;obtain ⟨gl,l,hd,_⟩:=S.gl hf;obtain ⟨g1,g2,g3,g4,g5,g6,g7,g8⟩:=oQ S ho;exact aLB (pos:=cp) (tgN:=aQ 4 tg++aQ 4 tg2) (S.cm hq) (got h1 S) g1 g2 g3 g4 g5 g6 g7 hl (λcl A fp s3 H3=>sG (S.sub cl A fp s3 H3) g8 (.nm aB.length) hg) (λcl A fp s3 H3=>gF h4 (S.sub cl A fp s3 H3))
     (λcl A fp s3 H3=>got h2 (S.sub cl A fp s3 H3)) (λcl A fp s3 H3=>sG (S.sub cl A fp s3 H3) g8 (.nm (aB.length+1)) hg2) (λcl A fp s3 H3=>got h3 (S.sub cl A fp s3 H3)) (f6 hn) (λ_=>f6 hn2) gl (S.no _ l)⟩ else none
noncomputable def aN5 {m : MC} {aB} {i} {j} {jd} {jm} {x0} {q0} {x1} {q1} {d} {q2} {d3} {q3} {x4} {q4} {q5} {mm} {q6} {q7} {z} {kd} {q8} {q9} {scope} {cp} : CkE m (.sel aB i j jd jm) (.ListComp (.Name x0 q0) [⟨.Name x1 q1, .Name d q2, [.Compare (.BinOp (.Subscript (.Name d3 q3) (.Name x4 q4) q5) .BitAnd (.Name mm q6) q7) [.NotEq] [.Constant (.int z) kd q8] q9], 0⟩] scope cp) := if h : (m.calm && fZ scope m.sc m.N aB (aB.filterMap fun i => m.N[i]?) [x1] && x0 == x1 && x4 == x1 && d3 == d && z == 0 && aB[i]? == some jd && aB[j]? == some jm && m.N[jd]? == some d && m.vis d && (m.sub scope (aB.filterMap fun i => m.N[i]?) [x1]).loc aB.length x1 && (m.sub scope (aB.filterMap fun i => m.N[i]?) [x1]).vis x1 && (m.sub scope (aB.filterMap fun i => m.N[i]?) [x1]).N[i]? == some d && (m.sub scope (aB.filterMap fun i => m.N[i]?) [x1]).vis d && (m.sub scope (aB.filterMap fun i => m.N[i]?) [x1]).N[j]? == some mm && (m.sub scope (aB.filterMap fun i => m.N[i]?) [x1]).vis mm) = true then some ⟨fun {k} {W} {C} {X} S => by
    simp only[aUG,aTC] at h;obtain ⟨⟨⟨⟨⟨⟨⟨⟨⟨⟨⟨⟨⟨⟨⟨hq,ho⟩,rfl⟩,rfl⟩,rfl⟩,rfl⟩,ci⟩,cj⟩,nd⟩,vd⟩,lx⟩,vx⟩,ni⟩,vi⟩,nj⟩,vj⟩:=h;obtain ⟨g1,g2,g3,g4,g5,g6,g7,g8⟩:=oQ S ho;obtain ⟨w1,w2,w3⟩:=S.vis vd;refine aL0 (pos:=cp) (i:=i) (j:=j) ci cj (aXW (aYA (by decide:1<=64) _) S.un) (S.cm hq) (gE (by rw[S.hN];exact nd) w1 w2 w3) g1 g2 g3 g4 g5 g6 g7 (λcl A fp s3 H3=>?_) (λcl A fp s3 H3=>?_) (λp cl A fp s3 H3=>?_) (λcl A fp s3 H3=>?_)
    . obtain ⟨a,b,c⟩:=(S.sub cl A fp s3 H3).loc lx;exact uX g8 a b c
    . obtain ⟨a,b,c⟩:=(S.sub cl A fp s3 H3).vis vi;exact gE ni a b c
    . obtain ⟨a,b,c⟩:=(S.sub cl A fp s3 H3).vis vx;exact gE ((S.sub cl A fp s3 H3).loc lx).1 a b c
    . obtain ⟨a,b,c⟩:=(S.sub cl A fp s3 H3).vis vj;exact gE nj a b c⟩ else none
noncomputable def aN6 {m : MC} {el} {it} {ts} {aB} {elt} {x} {p} {aF} {ifs} {scope} {cp} (r1 : CkI m (.Name x p) it aF) (r2 : CkE (m.sub scope (aB.filterMap fun i => m.N[i]?) [x]) el elt) (r3 : CkF (m.sub scope (aB.filterMap fun i => m.N[i]?) [x]) ts ifs) : CkE m (.compC el it ts aB) (.ListComp elt [⟨.Name x p, aF, ifs, 0⟩] scope cp) := if h : (m.calm && sL scope m.sc m.N aB (aB.filterMap fun i => m.N[i]?) x && d7 aF && (r1.isSome && (r2.isSome && r3.isSome))) = true then some ⟨fun {k} {W} {C} {X} S => by
    simp only[aUG,aUU] at h;obtain ⟨⟨⟨hq,ho⟩,hn⟩,h1,h2,h3⟩:=h;obtain ⟨g1,g2,g3,g4,g5,g6,g7,g8,g9⟩:=aM8 S ho;have nd:=g8;rw[aWT] at nd;refine aL7 (pos:=cp) (S.cm hq) (got h1 S) g1 (λz=>nd.2.2 _ z _ (by simp) rfl) g2 g3 g4 g5 g6 g7 (λcl A fp s3 H3=>wW g8 ?_ (.inr g9) (.inl (aVI x))) (λcl A fp s3 H3=>gF h3 (S.subC x cl A fp s3 H3)) (λcl A fp s3 H3=>got h2 (S.subC x cl A fp s3 H3)) (f6 hn)
    have l:(aB.filterMap λi=>m.N[i]?).length=aB.length:=by have:=congrArg List.length g5;simpa using this
    show ((aB.filterMap λi=>m.N[i]?)++[x])[aB.length]? = some x
    rw[aTT (by omega),l];simp⟩ else none
noncomputable def aN7 {m : MC} {op} {a} {b} {x} {o} {y} {p3} (r1 : CkE m a x) (r2 : CkE m b y) : CkT m (.cmp op a b) (.Compare x [o] [y] p3) := if h : (o == op && d7 y && (r1.isSome && r2.isSome)) = true then some ⟨fun {k} {W} {C} {X} S => by
    simp only[aUG,aTC] at h;obtain ⟨⟨rfl,hs⟩,h1,h2⟩:=h;exact aGY (sM _ S.un).1 (sM (C:=C) _ S.un).2 (got h1 S) (got h2 S) (zJ _ hs)⟩ else none
noncomputable def aN8 {m : MC} {es} {xs} {p1} (r1 : CkF m es xs) : CkT m (.andL es) (.BoolOp .And xs p1) := if h : (r1.isSome) = true then some ⟨fun {k} {W} {C} {X} S => by
    exact pt_w (gWA h S)⟩ else none
noncomputable def aN9 {m : MC} {es} {xs} {p1} (r1 : CkF m es xs) : CkT m (.orL es) (.BoolOp .Or xs p1) := if h : (r1.isSome) = true then some ⟨fun {k} {W} {C} {X} S => by
    exact pt_w (gWO h S)⟩ else none
noncomputable def aOA {m : MC} {a} {x} {p1} (r1 : CkT m a x) : CkT m (.not a) (.UnaryOp .Not x p1) := if h : (r1.isSome) = true then some ⟨fun {k} {W} {C} {X} S => by
    exact aGZ (got h S)⟩ else none
noncomputable def aOB {m : MC} {tg0} {a} {f} {p1} {x} {p3} (r1 : CkE m a x) : CkI m tg0 (.rng1 a) (.Call (.Name f p1) [x] [] p3) := if h : (f == "range" && m.glob f .no && cB x && r1.isSome) = true then some ⟨fun {k} {W} {C} {X} S => by
    simp only[aUG,aTC] at h;obtain ⟨⟨⟨rfl,h1⟩,h2⟩,h3⟩:=h;obtain ⟨gl,l,hd,hn⟩:=S.gl h1;exact aHY gl (S.no _ l) (jT (got h3 S) jS (bO h2)) (bO h2)⟩ else none
noncomputable def aOC {m : MC} {tg0} {a} {f} {p1} {x} {p3} (r1 : CkE m a x) : CkI m tg0 (.enum1 a) (.Call (.Name f p1) [x] [] p3) := if h : (f == "enumerate" && aMZ tg0 && m.glob f .no && cB x && r1.isSome) = true then some ⟨fun {k} {W} {C} {X} S => by
    simp only[aUG,aTC] at h;obtain ⟨⟨⟨⟨rfl,ht⟩,h1⟩,h2⟩,h3⟩:=h;obtain ⟨gl,l,hd,hn⟩:=S.gl h1;cases tg0 <;> first
     | (cases ht;done)
     | exact aJV gl (S.no _ l) (jT (fN (got h3 S)) jS (bO h2)) (bO h2)⟩ else none
noncomputable def kEs {m : MC} {f fs x xs} (r1 : CkE m f x) (r2 : d9 m fs xs) : d9 m (f :: fs) (x :: xs) := if h : (cB x && r1.isSome && r2.isSome) = true then some ⟨by
    simp only[aUG] at h;exact .cons h.1.1 (@got _ r1 h.1.2) (got h.2)⟩ else none
noncomputable def kO{m:MC}{f x}(r1:CkE m f x):CkO m (some f) (some x):=if h:r1.isSome=true then some ⟨λS=>by simp only[evO];exact got h S⟩ else none
noncomputable def kF {m : MC} {f fs x xs} (r1 : CkT m f x) (r2 : CkF m fs xs) : CkF m (f :: fs) (x :: xs) := if h : (r1.isSome && r2.isSome) = true then some ⟨by
    simp only[aUG] at h;exact .cons (@got _ r1 h.1) (got h.2)⟩ else none
set_option maxHeartbeats 4000000 in
mutual
noncomputable def ckE:(m:MC)->(f:E)->(e:Expr)->CkE m f e
 | m,.frz a,e=>aM9 (ckE m a e)
 | m,.var i,e=>match e with | .Name x p1=>aNC | _=>none
 | m,.glob y c,e=>match e with | .Name x p1=>aND | _=>none
 | m,.ty t,e=>match e with | .Name x p1=>kE_ty | _=>none
 | m,.non,e=>match e with | .Constant .none p0 p1=>aNE | _=>none
 | m,.bl c,e=>match e with | .Constant (.bool b) p1 p2=>kE_bl | _=>none
 | m,.int c,e=>match e with | .Constant (.int b) p1 p2=>aNF | _=>none
 | m,.str c,e=>match e with | .Constant (.str b) p1 p2=>aNG | _=>none
 | m,.bin op a b,e=>match e with | .BinOp x o y p3=>aNH (ckE m a x) (ckE m b y) | _=>none
 | m,.cmp op a b,e=>match e with | .Compare x [o] [y] p3=>aNI (ckE m a x) (ckE m b y) | _=>none
 | m,.andL es,e=>match e with | .BoolOp .And xs p1=>aNJ (fF m es xs) | _=>none
 | m,.orL es,e=>match e with | .BoolOp .Or xs p1=>aNK (fF m es xs) | _=>none
 | m,.not a,e=>match e with | .UnaryOp .Not x p1=>aNL (ckE m a x) | _=>none
 | m,.slice a l u,e=>match e with | .Subscript x (.Slice lo hi none p3) p4=>aNM (ckE m a x) (ckO m l lo) (ckO m u hi) | _=>none
 | m,.ix a b,e=>match e with | .Subscript x y p2=>kE_ix (ckE m a x) (ckE m b y) | _=>none
 | m,.tup es,e=>match e with | .Tuple es0 p1 p2=>aNN (fF m es es0) | _=>none
 | m,.lst es,e=>match e with | .List es0 p1=>aNO (fF m es es0) | _=>none
 | m,.call g n es,e=>match e with | .Call (.Name f p) (x::xs) [] cp=>aNP (fF m es (x::xs)) | _=>none
 | m,.bcall b es,e=>match e with | .Call (.Name f p) (x::xs) [] cp=>aNR (fF m es (x::xs)) | _=>none
 | m,.mt t a es,e=>match e with | .Call (.Attribute o f ap) (x::xs) [] cp=>kE_mt (ckE m a o) (fF m es (x::xs)) | _=>none
 | m,.tcall t es,e=>match e with | .Call (.Name f p1) (x::xs) [] p4=>aNS (fF m es (x::xs)) | _=>none
 | m,.isi a c,e=>match e with | .Call (.Name f p1) [x,.Name d p4] [] p5=>aNT (ckE m a x) | _=>none
 | m,.meth a f es,e=>match e with | .Call (.Attribute o g ap) xs [] cp=>aNU (ckE m a o) (fF m es xs) | _=>none
 | m,.mk0 c,e=>match e with | .Call (.Name f p1) [] [] p2=>aNV | _=>none
 | m,.dnew,e=>match e with | .Dict [] [] p0=>aNW | _=>none
 | m,.usi a,e=>match e with | .Call (.Name f p1) [.Call (.Name g p3) [x] [] p5] [] p6=>aNX (ckE m a x) | _=>none
 | m,.srt a,e=>match e with | .Call (.Name f p1) [x] [] p3=>aNY (ckE m a x) | _=>none
 | m,.sum1 a,e=>match e with | .Call (.Name f p1) [x] [] p3=>aNZ (ckE m a x) | _=>none
 | m,.dlist a,e=>match e with | .Call (.Name f p1) [x] [] p3=>aN0 (ckE m a x) | _=>none
 | m,.callO g n es,e=>match e with | .Call (.Name f p) (x::xs) [] cp=>aNQ (fF m es (x::xs)) | _=>none
 | m,.dix a b,e=>match e with | .Subscript x y p2=>aN1 (ckE m a x) (ckE m b y) | _=>none
 | m,.comp el it ts aB t n,e=>match e with | .ListComp elt [⟨tg,aF,ifs,0⟩] scope cp=>aN2 (ckI m tg it aF) (ckE (m.sub scope (aB.filterMap λi=>m.N[i]?) (aQ 4 tg)) el elt) (ckF (m.sub scope (aB.filterMap λi=>m.N[i]?) (aQ 4 tg)) ts ifs) | _=>none
 | m,.comp2 el it it2 ts aB,e=>match e with | .ListComp elt [⟨tg,aF,ifs,0⟩,⟨tg2,aL,[],0⟩] scope cp=>aN3 (ckI m tg it aF) (ckI (m.sub scope (aB.filterMap λi=>m.N[i]?) (aQ 4 tg++aQ 4 tg2)) tg2 it2 aL) (ckE (m.sub scope (aB.filterMap λi=>m.N[i]?) (aQ 4 tg++aQ 4 tg2)) el elt) (ckF (m.sub scope (aB.filterMap λi=>m.N[i]?) (aQ 4 tg++aQ 4 tg2)) ts ifs) | _=>none
 | m,.usc el it it2 ts aB,e=>match e with | .Call (.Name f p) [.SetComp elt [⟨tg,aF,ifs,0⟩,⟨tg2,aL,[],0⟩] scope cp] [] p'=>aN4 (ckI m tg it aF) (ckI (m.sub scope (aB.filterMap λi=>m.N[i]?) (aQ 4 tg++aQ 4 tg2)) tg2 it2 aL) (ckE (m.sub scope (aB.filterMap λi=>m.N[i]?) (aQ 4 tg++aQ 4 tg2)) el elt) (ckF (m.sub scope (aB.filterMap λi=>m.N[i]?) (aQ 4 tg++aQ 4 tg2)) ts ifs) | _=>none
 | m,.sel aB i j jd jm,e=>match e with | .ListComp (.Name x0 q0) [⟨.Name x1 q1,.Name d q2,[.Compare (.BinOp (.Subscript (.Name d3 q3) (.Name x4 q4) q5) .BitAnd (.Name mm q6) q7) [.NotEq] [.Constant (.int z) kd q8] q9],0⟩] scope cp=>aN5 | _=>none
 | m,.compC el it ts aB,e=>match e with | .ListComp elt [⟨.Name x p,aF,ifs,0⟩] scope cp=>aN6 (ckI m (.Name x p) it aF) (ckE (m.sub scope (aB.filterMap λi=>m.N[i]?) [x]) el elt) (ckF (m.sub scope (aB.filterMap λi=>m.N[i]?) [x]) ts ifs) | _=>none
 | _,.tru _,_=>none
 | _,.items _,_=>none
 | _,.rng1 _,_=>none
 | _,.enum1 _,_=>none
noncomputable def ckT:(m:MC)->(f:E)->(e:Expr)->CkT m f e
 | m,.tru a,e=>aNA (ckE m a e)
 | m,.cmp op a b,e=>match e with | .Compare x [o] [y] p3=>aN7 (ckE m a x) (ckE m b y) | _=>none
 | m,.andL es,e=>match e with | .BoolOp .And xs p1=>aN8 (ckF m es xs) | _=>none
 | m,.orL es,e=>match e with | .BoolOp .Or xs p1=>aN9 (ckF m es xs) | _=>none
 | m,.not a,e=>match e with | .UnaryOp .Not x p1=>aOA (ckT m a x) | _=>none
 | _,_,_=>none
noncomputable def ckI:(m:MC)->(tg:Expr)->(f:E)->(e:Expr)->CkI m tg f e
 | m,tg,.items a,e=>aNB (ckE m a e)
 | m,tg0,.rng1 a,e=>match e with | .Call (.Name f p1) [x] [] p3=>aOB (ckE m a x) | _=>none
 | m,tg0,.enum1 a,e=>match e with | .Call (.Name f p1) [x] [] p3=>aOC (ckE m a x) | _=>none
 | _,_,_,_=>none
noncomputable def fF:(m:MC)->(fs:List E)->(es:List Expr)->d9 m fs es
 | m,[],es=>match es with | []=>some ⟨.nil⟩ | _=>none
 | m,f::fs,l=>match l with | x::xs=>kEs (ckE m f x) (fF m fs xs) | _=>none
noncomputable def ckO:(m:MC)->(f:Option E)->(e:Option Expr)->CkO m f e
 | m,none,e=>match e with | none=>some ⟨λ_=>True.intro⟩ | _=>none
 | m,some f,l=>match l with | some x=>kO (ckE m f x) | _=>none
noncomputable def ckF:(m:MC)->(fs:List E)->(es:List Expr)->CkF m fs es
 | m,[],es=>match es with | []=>some ⟨.nil⟩ | _=>none
 | m,f::fs,l=>match l with | x::xs=>kF (ckT m f x) (ckF m fs xs) | _=>none
end
noncomputable def mE(m:MC)(f:E)(e:Expr):Bool:=(ckE m f e).isSome
noncomputable def mT(m:MC)(f:E)(e:Expr):Bool:=(ckT m f e).isSome
noncomputable def mI(m:MC)(tg:Expr)(f:E)(e:Expr):Bool:=(ckI m tg f e).isSome
noncomputable def mF(m:MC)(f:List E)(e:List Expr):Bool:=(ckF m f e).isSome
section
variable {k:Nat}{W:WD}
theorem sE(f:E){m:MC}{C:Cw}{X:Cx}{e:Expr}(S:SX k W m C X)(h:mE m f e=true):PV C X e (evE W f):=got h S
theorem sT(f:E){m:MC}{C:Cw}{X:Cx}{e:Expr}(S:SX k W m C X)(h:mT m f e=true):PTv C X e (evE W f):=got h S
theorem sI(f:E){m:MC}{C:Cw}{X:Cx}{tg e:Expr}(S:SX k W m C X)(h:mI m tg f e=true):PIv C X tg e (evE W f):=got h S
theorem sF(fs:List E){m:MC}{C:Cw}{X:Cx}{es:List Expr}(S:SX k W m C X)(h:mF m fs es=true):cS X es (tT (C.at X) (evF W fs)):=gF h S
end
end D3
set_option genSizeOfSpec false
set_option genInjectivity false
namespace D3
open PySem PySem.Spec PyProof.Rows L2
inductive S where
 | ret (e:E) | retV (i:Nat) | set (i:Nat) (e:E) | ite (c:E) (a b:List S) | for (it:E) (t:Tg) (body:List S)
 | app (i:Nat) (e:E) | extn (i:Nat) (e:E) | setC (i:Nat) (fz:Bool) (e:E) | dput (i:Nat) (k e:E) | frzV (i:Nat)
mutual
noncomputable def evS(W:WD):S->Rho->aK
 | .ret e,ρ=>jV (evE W e ρ) ρ
 | .retV i,ρ=>eN ρ i
 | .set i e,ρ=>dY ρ i (evE W e ρ)
 | .ite c a b,ρ=>ifS (evE W c ρ) ρ (evB W a ρ) (evB W b ρ)
 | .for it t body,ρ=>eO (evE W it ρ) ρ (aI t) (evB W body)
 | .app i e,ρ=>fT ρ i (evE W e ρ)
 | .extn i e,ρ=>gX ρ i (evE W e ρ)
 | .frzV i,ρ=>gN ρ i
 | .dput i k e,ρ=>fU ρ i (evE W k ρ) (evE W e ρ)
 | .setC i fz e,ρ=>dY ρ i (if fz=true then bB (evE W e ρ) else evE W e ρ)
noncomputable def evB(W:WD):List S->Rho->aK
 | [],ρ=>.nx ρ
 | s::r,ρ=>(evS W s ρ).thn (evB W r)
end
noncomputable def oR:Expr->Bool | .ListComp ..=>false | .SetComp ..=>false | .DictComp ..=>false | _=>true
noncomputable def mC(m:MC)(elt:Expr)(scope:Scope):E->List Comprehension->Bool
 | .comp el it ts aB t n,gens=>match gens with
  | [⟨tg,aF,ifs,0⟩] =>
   let aC:=aB.filterMap λi=>m.N[i]?
   let tgN:=aQ 4 tg
   m.calm&&fZ scope m.sc m.N aB aC tgN&&d7 aF&&decide (tgN.length=n)&&(eQ t).all (λj=>decide (aB.length<=j))&&mG (m.sub scope aC tgN) t tg&&(mI m tg it aF&&(mE (m.sub scope aC tgN) el elt&&mF (m.sub scope aC tgN) ts ifs))
  | _=>false
 | .comp2 el it it2 ts aB,gens=>match gens with
  | [⟨tg,aF,ifs,0⟩,⟨tg2,aL,[],0⟩] =>
   let aC:=aB.filterMap λi=>m.N[i]?
   let tgN:=aQ 4 tg++aQ 4 tg2
   m.calm&&fZ scope m.sc m.N aB aC tgN&&d7 aF&&d7 aL&&decide (tgN.length=2)&&mG (m.sub scope aC tgN) (.nm aB.length) tg&&mG (m.sub scope aC tgN) (.nm (aB.length+1)) tg2&&(mI m tg it aF&&(mI (m.sub scope aC tgN) tg2 it2 aL&&(mE (m.sub scope aC tgN) el elt&&mF (m.sub scope aC tgN) ts ifs)))
  | _=>false
 | _,_=>false
theorem zL{e:Expr}{t:Option Expr}{n:Nat}{env:Env}(h:oR e=true):swapsWith e t n env=pure false:=by cases e <;> first | rfl | cases h
theorem aOD{m:MC}{e:Expr}{x:Str}{p:Pos}{n:Nat}{env:Env}(hs:env.scope=m.sc)(h:(oR e||m.kind x==some .cell)=true):swapsWith e (some (.Name x p)) n env=pure false:=by
 rw[aUW,aTC] at h;rcases h with h | h
 . exact zL h
 . have hk:env.kindOf x=some .cell:=by show env.scope.names.lookup x=_;rw[hs];exact h
   unfold swapsWith;have kc:(NameKind.cell==NameKind.local)=false:=by decide
   cases e <;> first | rfl | (simp[hk,kc])
section
variable {k:Nat}{W:WD}{m:MC}{C:Cw}{X:Cx}
structure SB(k:Nat)(W:WD)(m:MC)(C:Cw)(X:Cx):Prop extends SX k W m C X where
 nd:m.N.Nodup
 hp:PassesOwn (model X.prog X.w) X.A X.env X.xe
 ro:m.rz=true->RzOk (C.at X) X/\FnCx X
end
theorem aOE{k:Nat}{W:WD}{m:MC}{C:Cw}{X:Cx}(S:SB k W m C X)(fz:Bool){i:Nat}{el it:E}{ts:List E}{aB:List Nat}{t:Tg}{n:Nat}{x:Str}{px cp sp:Pos}{elt:Expr}{gens:List Comprehension}{scope:Scope}(h1:m.N[i]? = some x)(h2:m.kind x=some .local)(h3:m.sc.kind=.function)(h4:px.line=cp.line)(h5:(scope.names.any λy=>y.1==x&&(y.2 == .local||y.2 == .cell))=false)(h:mC m elt scope (.comp el it ts aB t n) gens=true):PSv C X (.Assign [.Name x px] (.ListComp elt gens scope cp) sp) (λρ=>dY ρ i (if fz=true then bB (evE W (.comp el it ts aB t n) ρ) else evE W (.comp el it ts aB t n) ρ)):=by
 have hk:X.env.scope.names.lookup x=some .local:=by rw[S.hs];exact h2
 conv at h=>lhs;whnf
 split at h
 . rename_i tg aF ifs;simp only[aUG,aUU,aU4] at h;obtain ⟨⟨⟨⟨⟨⟨hq,ho⟩,hn⟩,hl⟩,hs⟩,hg⟩,k1,k2,k3⟩:=h;unfold fZ at ho;simp only[aUG,aU4,aUW,aX7,aTC,aUU,aX8] at ho;obtain ⟨⟨⟨⟨⟨⟨⟨g1,g2⟩,g3⟩,g4⟩,g5⟩,g6⟩,g7⟩,g8⟩:=ho;have er:(relabel scope X.env).names=fP scope m.sc:=by rw[<- S.hs];rfl
   have bk:X.env.blockKind=.function:=by unfold Env.blockKind;rw[S.hs,h3];rfl
   have hsw:swapsWith (.ListComp elt [⟨tg,aF,ifs,0⟩] scope cp) (some (.Name x px)) sp.line X.env=pure true:=by
    have kx:X.env.kindOf x=some .local:=hk;unfold swapsWith;have k1:(ScopeKind.function==ScopeKind.function)=true:=by decide
    have k2:(some NameKind.local==some NameKind.local)=true:=by decide
    simp only[bk,kx,Expr.pos,h4,h5,k1,k2,aVI];rfl
   have := aJC fz (pos := cp) (pos' := px) (spos := sp) (i := i) (x := x) (tgN := aQ 4 tg) (t := t) (S.cm hq) (sI it S.toSX k1) g1 g2 (fun y hy e => (g3 y hy).resolve_left fun z => z e) (fun y hy e => by
       have:=g4 y hy;show X.env.scope.names.lookup y.1=_\/X.env.scope.names.lookup y.1=_;rw[S.hs];rcases this with (z | z) | z
       . exact absurd e z
       . exact .inl z
       . exact .inr z) (by rw[S.hN];exact g5) g6 (λy hy=>by rw[er];exact g7 y hy) (λj hj=>hs j hj) (λcl A fp s3 H3=>sG (S.toSX.sub cl A fp s3 H3) g8 t hg)
       (λcl A fp s3 H3=>sF ts (S.toSX.sub cl A fp s3 H3) k3) (λcl A fp s3 H3=>sE el (S.toSX.sub cl A fp s3 H3) k2) (by rw[S.hN];exact S.nd) (by rw[S.hN];exact h1) hk hsw (f6 hn)
   rw[hl] at this;exact this
 . cases h
theorem aOF{k:Nat}{W:WD}{m:MC}{C:Cw}{X:Cx}(S:SB k W m C X)(fz:Bool){i:Nat}{el it it2:E}{ts:List E}{aB:List Nat}{x:Str}{px cp sp:Pos}{elt:Expr}{gens:List Comprehension}{scope:Scope}(h1:m.N[i]? = some x)(h2:m.kind x=some .local)(h3:m.sc.kind=.function)(h4:px.line=cp.line)(h5:(scope.names.any λy=>y.1==x&&(y.2 == .local||y.2 == .cell))=false)(h:mC m elt scope (.comp2 el it it2 ts aB) gens=true):PSv C X (.Assign [.Name x px] (.ListComp elt gens scope cp) sp) (λρ=>dY ρ i (if fz=true then bB (evE W (.comp2 el it it2 ts aB) ρ) else evE W (.comp2 el it it2 ts aB) ρ)):=by
 have hk:X.env.scope.names.lookup x=some .local:=by rw[S.hs];exact h2
 conv at h=>lhs;whnf
 split at h
 . rename_i tg aF ifs tg2 aL;simp only[aUG,aUU] at h;obtain ⟨⟨⟨⟨⟨⟨⟨hq,ho⟩,hn⟩,hn2⟩,hl⟩,hg⟩,hg2⟩,k1,k2,k3,k4⟩:=h;obtain ⟨g1,g2,g3,g4,g5,g6,g7,g8⟩:=oQ S.toSX ho;have bk:X.env.blockKind=.function:=by unfold Env.blockKind;rw[S.hs,h3];rfl
   have hsw:swapsWith (.ListComp elt [⟨tg,aF,ifs,0⟩,⟨tg2,aL,[],0⟩] scope cp) (some (.Name x px)) sp.line X.env=pure true:=by
    have kx:X.env.kindOf x=some .local:=hk;unfold swapsWith;have k1:(ScopeKind.function==ScopeKind.function)=true:=by decide
    have k2:(some NameKind.local==some NameKind.local)=true:=by decide
    simp only[bk,kx,Expr.pos,h4,h5,k1,k2,aVI];rfl
   exact aLC (pos:=cp) (pos':=px) (spos:=sp) (i:=i) (x:=x) (tgN:=aQ 4 tg++aQ 4 tg2) (S.cm hq) (sI it S.toSX k1) g1 g2 g3 g4 g5 g6 g7 hl (λcl A fp s3 H3=>sG (S.toSX.sub cl A fp s3 H3) g8 (.nm aB.length) hg) (λcl A fp s3 H3=>sF ts (S.toSX.sub cl A fp s3 H3) k4)
    (λcl A fp s3 H3=>sI it2 (S.toSX.sub cl A fp s3 H3) k2) (λcl A fp s3 H3=>sG (S.toSX.sub cl A fp s3 H3) g8 (.nm (aB.length+1)) hg2) (λcl A fp s3 H3=>sE el (S.toSX.sub cl A fp s3 H3) k3) (f6 hn) (λ_=>f6 hn2) fz (by rw[S.hN];exact S.nd) (by rw[S.hN];exact h1) hk hsw
 . cases h
abbrev CkS(m:MC)(f:D3.S)(st:Stmt):Type:=Option (PLift (∀ {k:Nat} {W:WD} {C:Cw} {X:Cx},SB k W m C X->PSv C X st (evS W f)))
abbrev CkB(m:MC)(f:List D3.S)(sts:List Stmt):Type:=Option (PLift (∀ {k:Nat} {W:WD} {C:Cw} {X:Cx},SB k W m C X->PBv C X sts (evB W f)))
noncomputable def aOG {m : MC} {f} {e} {p1} : CkS m (.ret f) (.Return (some e) p1) := if h : (mE m f e) = true then some ⟨fun {k} {W} {C} {X} S => by
    exact aHP (sE f S.toSX h)⟩ else none
noncomputable def aOH {m : MC} {i} {x} {p1} {p2} : CkS m (.retV i) (.Return (some (.Name x p1)) p2) := if h : (m.N[i]? == some x && m.vis x) = true then some ⟨fun {k} {W} {C} {X} S => by
    simp only[aUG,aTC] at h;obtain ⟨h1,h2,h3⟩:=S.toSX.vis h.2
    exact aHQ i (gE (by rw[S.hN];exact h.1) h1 h2 h3)⟩ else none
noncomputable def aOI {m : MC} {i} {f} {x} {p1} {e} {p3} : CkS m (.set i f) (.Assign [.Name x p1] e p3) := if h : (m.loc i x && (oR e || m.kind x == some .cell) && mE m f e) = true then some ⟨fun {k} {W} {C} {X} S => by
    simp only[aUG] at h;obtain ⟨⟨h1,h2⟩,h3⟩:=h;obtain ⟨b,c,d⟩:=S.toSX.loc h1
    exact aHS (by rw[S.hN];exact S.nd) b c (sE f S.toSX h3) (aOD S.hs h2) d⟩ else none
noncomputable def aOJ {m : MC} {i} {f} {g} {x} {p1} {k} {p3} {e} {p5} : CkS m (.dput i f g) (.Assign [.Subscript (.Name x p1) k p3] e p5) := if h : (m.N[i]? == some x && m.vis x && oR e && mE m f k && mE m g e) = true then some ⟨fun {k} {W} {C} {X} S => by
    simp only[aUG,aTC] at h;obtain ⟨⟨⟨⟨h1,h2⟩,h3⟩,h4⟩,h5⟩:=h;obtain ⟨v1,v2,v3⟩:=S.toSX.vis h2
    exact aJ9 i (aXW (aYA (by decide:1<=64) _) S.un) (gE (by rw[S.hN];exact h1) v1 v2 v3) (sE f S.toSX h4) (sE g S.toSX h5) (zL h3)⟩ else none
noncomputable def aOK {m : MC} {i} {fz} {f} {x} {px} {elt} {gens} {scope} {cp} {p6} : CkS m (.setC i fz f) (.Assign [.Name x px] (.ListComp elt gens scope cp) p6) := if h : (m.N[i]? == some x && m.kind x == some .local && m.sc.kind == .function && px.line == cp.line && !(scope.names.any fun y => y.1 == x && (y.2 == .local || y.2 == .cell)) && mC m elt scope f gens) = true then some ⟨fun {k} {W} {C} {X} S => by
    simp only[aUG,aTC,aXQ] at h;obtain ⟨⟨⟨⟨⟨h1,h2⟩,h3⟩,h4⟩,h5⟩,h7⟩:=h;cases f with
    | comp el it ts aB t n=>exact aOE S fz h1 h2 h3 h4 h5 h7
    | comp2 el it it2 ts aB=>exact aOF S fz h1 h2 h3 h4 h5 h7
    | _=>cases h7⟩ else none
noncomputable def aOL {m : MC} {f} {a} {b} {c} {x} {y} {p3} (r1 : CkB m a x) (r2 : CkB m b y) : CkS m (.ite f a b) (.If c x y p3) := if h : (mT m f c && (r1.isSome && r2.isSome)) = true then some ⟨fun {k} {W} {C} {X} S => by
    simp only[aUG] at h;obtain ⟨h1,h2,h3⟩:=h;exact aHR (sT f S.toSX h1) (got h2 S) (got h3 S)⟩ else none
noncomputable def aOM {m : MC} {f} {t} {b} {tg} {e} {body} {p3} (r1 : CkB m b body) : CkS m (.for f t b) (.For tg e body [] p3) := if h : (m.calm && mG m t tg && d7 e && (mI m tg f e && r1.isSome)) = true then some ⟨fun {k} {W} {C} {X} S => by
    simp only[aUG] at h;obtain ⟨⟨⟨hq,h1⟩,h2⟩,h3,h4⟩:=h;exact aHZ S.hp (S.cm hq) (sI f S.toSX h3) (aJA (sG S.toSX S.nd t h1)) (got h4 S) (f6 h2)⟩ else none
noncomputable def aON {m : MC} {i} {f} {x} {p1} {a} {ap} {e} {cp} {p6} : CkS m (.app i f) (.Expr (.Call (.Attribute (.Name x p1) a ap) [e] [] cp) p6) := if h : (m.N[i]? == some x && m.vis x && a == "append" && ap.endLine == cp.line && cB e && mE m f e) = true then some ⟨fun {k} {W} {C} {X} S => by
    simp only[aUG,aTC] at h;obtain ⟨⟨⟨⟨⟨h1,h2⟩,rfl⟩,h3⟩,h4⟩,h5⟩:=h;obtain ⟨v1,v2,v3⟩:=S.toSX.vis h2
    exact aJ1 i (gE (by rw[S.hN];exact h1) v1 v2 v3) (sE f S.toSX h5) h4 h3⟩ else none
noncomputable def aOO {m : MC} {i} {f} {x} {p1} {a} {ap} {e} {cp} {p6} : CkS m (.extn i f) (.Expr (.Call (.Attribute (.Name x p1) a ap) [e] [] cp) p6) := if h : (m.N[i]? == some x && m.vis x && a == "extend" && ap.endLine == cp.line && cB e && mE m f e) = true then some ⟨fun {k} {W} {C} {X} S => by
    simp only[aUG,aTC] at h;obtain ⟨⟨⟨⟨⟨h1,h2⟩,rfl⟩,h3⟩,h4⟩,h5⟩:=h;obtain ⟨v1,v2,v3⟩:=S.toSX.vis h2
    exact aMY i (gE (by rw[S.hN];exact h1) v1 v2 v3) (sE f S.toSX h5) h4 h3⟩ else none
theorem aOP{k:Nat}{W:WD}{m:MC}{C:Cw}{X:Cx}(S:SB k W m C X):PBv C X [] (evB W []):=by
 have:evB W []=λρ=>.nx ρ:=by funext ρ;simp only[evB]
 rw[this];exact aHM
noncomputable def aOQ {m : MC} {i fs sts} (r : CkB m fs sts) : CkB m (.frzV i :: fs) sts := if h : r.isSome = true then some ⟨fun {k} {W} {C} {X} S => by
    have:evB W (.frzV i::fs)=λρ=>(gN ρ i).thn (evB W fs):=by funext ρ;rfl
    rw[this];exact aKD (got h S)⟩ else none
noncomputable def aOR {m : MC} {f fs st sts} (r : CkS m f st) (r2 : CkB m fs sts) : CkB m (f :: fs) (st :: sts) := if h : (r.isSome && r2.isSome) = true then some ⟨fun {k} {W} {C} {X} S => by
    rw[aUG] at h;have:evB W (f::fs)=λρ=>(evS W f ρ).thn (evB W fs):=by funext ρ;simp only[evB]
    rw[this];exact aHO (got h.1 S) (got h.2 S)⟩ else none
set_option maxHeartbeats 4000000 in
mutual
noncomputable def ckS:(m:MC)->(f:D3.S)->(st:Stmt)->CkS m f st
 | _,.frzV _,_=>none
 | m,.ret f,st=>match st with | .Return (some e) p1=>aOG | _=>none
 | m,.retV i,st=>match st with | .Return (some (.Name x p1)) p2=>aOH | _=>none
 | m,.set i f,st=>match st with | .Assign [.Name x p1] e p3=>aOI | _=>none
 | m,.dput i f g,st=>match st with | .Assign [.Subscript (.Name x p1) k p3] e p5=>aOJ | _=>none
 | m,.setC i fz f,st=>match st with | .Assign [.Name x px] (.ListComp elt gens scope cp) p6=>aOK | _=>none
 | m,.ite f a b,st=>match st with | .If c x y p3=>aOL (ckB m a x) (ckB m b y) | _=>none
 | m,.for f t b,st=>match st with | .For tg e body [] p3=>aOM (ckB m b body) | _=>none
 | m,.extn i f,st=>match st with | .Expr (.Call (.Attribute (.Name x p1) a ap) [e] [] cp) p6=>aOO | _=>none
 | m,.app i f,st=>match st with | .Expr (.Call (.Attribute (.Name x p1) a ap) [e] [] cp) p6=>aON | _=>none
noncomputable def ckB:(m:MC)->(f:List D3.S)->(sts:List Stmt)->CkB m f sts
 | m,[],sts=>match sts with | []=>some ⟨λS=>aOP S⟩ | _=>none
 | m,.frzV i::fs,sts=>aOQ (ckB m fs sts)
 | m,f::fs,sts=>match sts with | st::sts=>aOR (ckS m f st) (ckB m fs sts) | _=>none
end
noncomputable def mB(m:MC)(f:List D3.S)(sts:List Stmt):Bool:=(ckB m f sts).isSome
theorem sB{k:Nat}{W:WD}{m:MC}{C:Cw}{X:Cx}(S:SB k W m C X)(f:List D3.S){sts:List Stmt}(h:mB m f sts=true):PBv C X sts (evB W f):=got h S
abbrev IB:=Unit
structure FD where
 ps:List Str
 N:List Str
 b:List D3.S
structure ID where
 c:Str
 ps:List Str
 N:List Str
 ib:IB
structure TB where
 T:List (Str×FD)
 I:List (Str×ID)
 cl:List CI
 xt:List ((Str×Str)×Bool)
 xi:List ((Str×Str)×Bool)
noncomputable def sN(W:WD)(i:ID):List D->Res:=λ_=>.stuck
noncomputable def lZ(t:TB)(W:WD)(f:Str):List D->Res:=match t.T.lookup f with
 | some d=>phi d.ps.length d.N.length (evB W d.b)
 | none=>λ_=>.stuck
noncomputable def WT(t:TB):Nat->WD
 | 0=>⟨λ_ _=>.stuck,λ_=>none,t.cl,t.xt,t.xi⟩
 | 1=>⟨λf=>lZ t ⟨λ_ _=>.stuck,λ_=>none,t.cl,t.xt,t.xi⟩ f,λ_=>none,t.cl,t.xt,t.xi⟩
 | k+2=>⟨λf=>lZ t (WT t (k+1)) f,λkey=>match t.I.lookup key with | some i=>some (sN (WT t k) i) | none=>none,t.cl,t.xt,t.xi⟩
theorem oS(t:TB):∀ k,(WT t k).cl=t.cl
 | 0=>rfl
 | 1=>rfl
 | k+2=>rfl
theorem zM(t:TB):∀ k,(WT t k).xt=t.xt
 | 0=>rfl
 | 1=>rfl
 | k+2=>rfl
theorem zN(t:TB):∀ k,(WT t k).xi=t.xi
 | 0=>rfl
 | 1=>rfl
 | k+2=>rfl
theorem WT_Φ(t:TB):∀ k f,(WT t (k+1)).Φ f=lZ t (WT t k) f
 | 0,f=>rfl
 | k+1,f=>rfl
noncomputable def sO(N ps:List Str)(sc:Scope):Bool:=sc.kind == .function&&!sc.isCoroutine&&!sc.isGenerator&&decide N.Nodup&&(N.take ps.length==ps)&&ps.all (λx=>sc.names.lookup x==some .local||sc.names.lookup x==some .cell)&&sc.names.all (λy=>y.2 != .free)
theorem aOS{N ps:List Str}{sc:Scope}(h:sO N ps sc=true):m4 N ps sc:=by unfold sO at h;simp only[aUG,aU4,aUW,aX7,aTC,aUU,aXQ] at h;obtain ⟨⟨⟨⟨⟨⟨h1,h2⟩,h3⟩,h4⟩,h5⟩,h6⟩,h7⟩:=h;exact ⟨h1,h2,h3,h4,h5,h6,h7⟩
noncomputable def jF(g:MG)(st:Stmt)(d:FD):Bool:=sO d.N d.ps (eZ st)&&mB ⟨d.N,eZ st,g,true,true,true⟩ d.b (jP st)
noncomputable def idOk(g:MG)(st:Stmt)(d:ID):Bool:=false
noncomputable def zO(K:Fg)(g:MG)(fa:Str->Addr)(key:Str)(d:FD):Prop :=
 ∃ name st fd,Fun K name key st (fa key) fd/\fL K fd d.ps []/\jF g st d=true
noncomputable def l0(K:Fg)(g:MG)(fa:Str->Addr):List (Str×FD)->Prop
 | []=>True
 | (x,d)::r=>zO K g fa x d/\l0 K g fa r
theorem l0.at{K:Fg}{g:MG}{fa:Str->Addr}:∀ {T:List (Str×FD)} {x:Str} {d:FD},l0 K g fa T->T.lookup x=some d->zO K g fa x d
 | [],_,_,_,e=>by cases e
 | (y,d')::r,x,d,h,e=>by
  rw[aUT] at e;split at e
  . rename_i hb;cases e;rw[aTC] at hb;subst hb;exact h.1
  . exact h.2.at e
noncomputable def zP(K:Fg)(mg:SOV)(g:MG)(key:Str)(d:ID):Prop :=
 ∃ name st C f fd,PySem.W.nsIn K mainGlobals d.c=some (some (.ref C))/\mg d.c=some (.ref C)/\Mk K C f/\Fun K name key st f fd/\fL K fd d.ps []/\idOk g st d=true
noncomputable def l3(K:Fg)(mg:SOV)(g:MG):List (Str×ID)->Prop
 | []=>True
 | (x,d)::r=>zP K mg g x d/\l3 K mg g r
theorem l3.at{K:Fg}{mg:SOV}{g:MG}:∀ {T:List (Str×ID)} {x:Str} {d:ID},l3 K mg g T->T.lookup x=some d->zP K mg g x d
 | [],_,_,_,e=>by cases e
 | (y,d')::r,x,d,h,e=>by
  rw[aUT] at e;split at e
  . rename_i hb;cases e;rw[aTC] at hb;subst hb;exact h.1
  . exact h.2.at e
noncomputable def GVOk(w:World)(K:Fg)(mg:SOV)(fa:Str->Addr)(x:Str):GV->Prop
 | .con (.s y)=>∃ t,mg x=some (.str y t)
 | .con (.i n)=>∃ t,mg x=some (.int n t)
 | .con (.t tb)=>j5 w K mg x tb
 | .no=>mg x=none
 | .fn _=>mg x=some (.ref (fa x))
 | .cls=>True
noncomputable def l5(w:World)(K:Fg)(mg:SOV)(fa:Str->Addr):List (Str×GV)->Prop
 | []=>True
 | (x,v)::r=>GVOk w K mg fa x v/\l5 w K mg fa r
theorem l5.at{w:World}{K:Fg}{mg:SOV}{fa:Str->Addr}:∀ {G:List (Str×GV)} {x:Str} {v:GV},l5 w K mg fa G->G.lookup x=some v->GVOk w K mg fa x v
 | [],_,_,_,e=>by cases e
 | (y,v')::r,x,v,h,e=>by
  rw[aUT] at e;split at e
  . rename_i hb;cases e;rw[aTC] at hb;subst hb;exact h.1
  . exact h.2.at e
noncomputable def gOk(G:List (Str×GV))(T:List (Str×FD)):Bool:=G.all λ(x,v)=>match v with | .fn n=>(match T.lookup x with | some d=>d.ps.length==n | none=>false) | _=>true
theorem zQ{T:List (Str×FD)}:∀ {G:List (Str×GV)} {x:Str} {n:Nat},gOk G T=true->G.lookup x=some (.fn n)->∃ d,T.lookup x=some d/\d.ps.length=n
 | [],_,_,_,e=>by cases e
 | (y,v')::r,x,n,h,e=>by
  unfold gOk at h;rw[aVT,aUG] at h;rw[aUT] at e;split at e
  . rename_i hb;cases e;rw[aTC] at hb;subst hb;have h1:=h.1;dsimp only at h1;cases q:T.lookup x with
    | none=>rw[q] at h1;cases h1
    | some d=>rw[q] at h1;exact ⟨d,rfl,by simpa using h1⟩
  . exact zQ (G:=r) h.2 e
noncomputable def mtOk(cl:List CI)(T:List (Str×FD)):Bool:=cl.all λi=>i.meths.all λ(_,key,n)=>match T.lookup key with | some d=>d.ps.length==n | none=>false
noncomputable def zR(mki:List (Str×Str×Nat))(I:List (Str×ID)):Bool:=mki.all λ(c,key,n)=>match I.lookup key with | some d=>d.c==c&&d.ps.length==n+1 | none=>false
noncomputable def kH(K:Fg)(fa:Str->Addr)(C:Addr):List (Str×Str×Nat)->Prop
 | []=>True
 | (m,key,_)::r=>kZ K C m (fa key)/\kH K fa C r
noncomputable def kI(K:Fg)(C:Addr):List Str->Prop
 | []=>True
 | f::r=>qD K C f/\kI K C r
noncomputable def l6(K:Fg)(fa:Str->Addr):List CI->Prop
 | []=>True
 | i::r=>(∃ C,PySem.W.nsIn K mainGlobals i.name=some (some (.ref C))/\Cls K C/\kH K fa C i.meths/\kI K C i.flds)/\l6 K fa r
theorem l6.at{K:Fg}{fa:Str->Addr}:∀ {cl:List CI} {i:CI},l6 K fa cl->i∈cl->∃ C,PySem.W.nsIn K mainGlobals i.name=some (some (.ref C))/\Cls K C/\kH K fa C i.meths/\kI K C i.flds
 | [],_,_,h=>by cases h
 | j::r,i,h,hi=>by
  rcases aSL.mp hi with rfl | hi
  . exact h.1
  . exact h.2.at hi
theorem kI.at{K:Fg}{C:Addr}:∀ {l:List Str} {f:Str},kI K C l->f∈l->qD K C f
 | [],_,_,h=>by cases h
 | j::r,i,h,hi=>by
  rcases aSL.mp hi with rfl | hi
  . exact h.1
  . exact h.2.at hi
theorem kH.at{K:Fg}{fa:Str->Addr}{C:Addr}:∀ {l:List (Str×Str×Nat)} {m key:Str} {n:Nat},kH K fa C l->l.lookup m=some (key,n)->kZ K C m (fa key)
 | [],_,_,_,_,e=>by cases e
 | (m',key',n')::r,m,key,n,h,e=>by
  rw[aUT] at e;split at e
  . rename_i hb;cases e;rw[aTC] at hb;subst hb;exact h.1
  . exact h.2.at e
structure GF(w:World)(K:Fg)(mg:SOV)(g:MG)(t:TB)(fa:Str->Addr):Prop where
 con:l5 w K mg fa g.G
 gok:gOk g.G t.T=true
 all:l0 K g fa t.T
 alli:l3 K mg g t.I
 mk0:∀ c,c∈g.mk0->qS K mg c
 mkok:zR g.mki t.I=true
 iso:∀ c,c∈g.iso->IsV K mg t.cl c
 cls:l6 K fa t.cl
 mtok:mtOk t.cl t.T=true
 xtok:rD K mg (λc x=>t.xt.lookup (c,x))
 xiok:rE K mg (λc x=>t.xi.lookup (c,x))
 xcok:∀ c,c∈g.xcs->∃ Cc,mg c=some (.ref Cc)/\xC K Cc
 xnok:∀ n,n∈g.xns->∃ cv,nZ mg n cv
theorem zS{K:Fg}{mg:SOV}{n:Nat}{Φ:List D->Res}{vs:List V}{H:Hp}{Q:VK}{E:XK}(hz:∀ ds,Φ ds=.stuck)(h:spV K mg n Φ vs H Q E):False:=by obtain ⟨_,F,ds,_,_,h⟩:=h;rw[hz] at h;exact h
section
variable {P:Program}{w:World}{K:Fg}{mg:SOV}{base:Heap}{g:MG}{t:TB}{fa:Str->Addr}
structure kJ(P:Program)(w:World)(K:Fg)(mg:SOV)(base:Heap)(t:TB)(fa:Str->Addr)(k:Nat):Prop where
 fn:∀ key d,t.T.lookup key=some d->∃ fd,dF P w K mg base (CX1 P w) k (fa key) fd d.ps (spV K mg d.ps.length ((WT t k).Φ key))/\fL K fd d.ps []/\PySem.W.keepIn K (.ref (fa key))=true
 ini:∀ key d Φ,t.I.lookup key=some d->(WT t k).I key=some Φ->∃ j,j+1<=k/\InV P w K mg base (CX1 P w) j d.c (d.ps.length-1) Φ
theorem sx_of(f:GF w K mg g t fa){k:Nat}(A:kJ P w K mg base t fa k){N:List Str}{sc:Scope}{C:Cw}{X:Cx}(hP:X.prog=P)(hw:X.w=w)(hK:X.K=K)(hmg:X.mg=mg)(hb:X.base=base)(hN:X.N=N)(hs:X.env.scope=sc)(cm:X.calm=true)(rm:cP k X.A)(hfn:∀ x,X.fn x=true)(xo:XOk (CX1 X.prog X.w) (C.at X) X):SX k (WT t k) ⟨N,sc,g,true,true,true⟩ C X:=by
 subst hP hw hK hmg hb;refine ⟨hN,hs,λ_=>cm,λ_=>rm,rm.units,λ_=>xo,?_,?_,f.xcok,f.xnok,λy c l=>?_,λy l=>f.con.at l,λc hc=>f.mk0 c hc,λc key n hm Φ e=>?_,λc hc=>by rw[oS];exact f.iso c hc,λi f' hi hf=>?_,λc m key n e=>?_,λy n l=>?_,λ_=>hfn⟩
 . unfold WD.xf;rw[zM];exact f.xtok
 . unfold WD.xg;rw[zN];exact f.xiok
 . have:=f.con.at l;cases c <;> exact this
 . have h1:=aU4.mp f.mkok (c,key,n) hm;dsimp only at h1;cases q:t.I.lookup key with
   | none=>rw[q] at h1;cases h1
   | some d=>rw[q] at h1;simp only[aUG,aTC] at h1;obtain ⟨j,hj,M⟩:=A.ini key d Φ q e;rw[h1.1,h1.2] at M;exact ⟨j,hj,M⟩
 . rw[oS] at hi;obtain ⟨C',h1,h2,_,h4⟩:=f.cls.at hi;exact ⟨C',h1,h2,h4.at hf⟩
 . rw[oS] at e;unfold CI.meth at e;split at e
   . rename_i i ei;have hi:=List.mem_of_find?_eq_some ei;have hn:i.name=c:=by simpa using List.find?_some ei
     obtain ⟨C',h1,h2,h3,_⟩:=f.cls.at hi;have hmo:=aU4.mp (aU4.mp f.mtok i hi) (m,key,n) (aTS e);dsimp only at hmo;cases q:t.T.lookup key with
     | none=>rw[q] at hmo;cases hmo
     | some d=>rw[q] at hmo;rw[aTC] at hmo;obtain ⟨fd,FO,hb,_⟩:=A.fn key d q;rw[hmo] at FO;exact ⟨C',fa key,fd,d.ps,by rw[<- hn];exact h1,h2,h3.at e,FO,hb⟩
   . cases e
 . obtain ⟨d,e,rfl⟩:=zQ f.gok l;obtain ⟨fd,FO,hb,hk⟩:=A.fn y d e;exact ⟨fa y,fd,d.ps,FO,f.con.at l,hk,hb⟩
theorem sP(f:GF w K mg g t fa){k:Nat}(A:kJ P w K mg base t fa k){key:Str}{d:FD}{name:Str}{st:Stmt}{fd:FuncData}{a:Addr}(F:Fun K name key st a fd)(e:t.T.lookup key=some d)(ok:jF g st d=true):dF P w K mg base (CX1 P w) (k+1) a fd d.ps (spV K mg d.ps.length ((WT t (k+1)).Φ key)):=by
 unfold jF at ok;rw[aUG] at ok;have sc:=aOS ok.1;have:(WT t (k+1)).Φ key=phi d.ps.length d.N.length (evB (WT t k) d.b):=by rw[WT_Φ];unfold lZ;rw[e]
 rw[this];exact aJZ (k:=k) F sc λC cdv A' outer s H En hE hr=>sB (m:=⟨d.N,eZ st,g,true,true,true⟩) (X:=dX (CX1 P w) P w K mg base d.N key (eZ st) a cdv A' outer s H En) ⟨sx_of f A rfl rfl rfl rfl rfl rfl rfl rfl hr (λ_=>rfl) (aJX (K:=K) (H:=H) (outer:=outer) hE),sc.nd,PassesOwn.leaving,λ_=>⟨aJY (K:=K) (H:=H) (outer:=outer) hE,fnCx⟩⟩ d.b ok.2
theorem aOT(f:GF w K mg g t fa){k:Nat}(A:kJ P w K mg base t fa k){key:Str}{d:ID}(e:t.I.lookup key=some d):InV P w K mg base (CX1 P w) (k+1) d.c (d.ps.length-1) (sN (WT t k) d):=by obtain ⟨name,st,C2,a,fd,ns,hm,M,F,hb,ok⟩:=f.alli.at e;cases ok
theorem zT(f:GF w K mg g t fa):∀ k,kJ P w K mg base t fa k/\kJ P w K mg base t fa (k+1)
 | 0=>by
  have A0:kJ P w K mg base t fa 0:=⟨λkey d e=>by
   obtain ⟨name,st,fd,F,hb,_⟩:=f.all.at e;exact ⟨fd,⟨λvs H Q En h=>(zS (λ_=>rfl) h).elim,λA outer s H args us vs Q En _ _ _ _ h=>(zS (λ_=>rfl) h).elim⟩,hb,F.kp⟩,λkey d Φ _ e=>by cases e⟩
  refine ⟨A0,λkey d e=>?_,λkey d Φ _ e=>by cases e⟩
  obtain ⟨name,st,fd,F,hb,ok⟩:=f.all.at e;exact ⟨fd,sP f A0 F e ok,hb,F.kp⟩
 | k+1=>by
  obtain ⟨A0,A1⟩:=zT f k;refine ⟨A1,λkey d e=>?_,λkey d Φ e ei=>?_⟩
  . obtain ⟨name,st,fd,F,hb,ok⟩:=f.all.at e;exact ⟨fd,sP f A1 F e ok,hb,F.kp⟩
  . have ei:(match t.I.lookup key with | some i=>some (sN (WT t k) i) | none=>none)=some Φ:=ei
    rw[e] at ei;cases ei;exact ⟨k+1,aS1 _,aOT f A0 e⟩
end
noncomputable def sQ(K:Fg)(Φ:List D->Res):Sp:=λvs H Q E=>∃ a ns,vs=[.ref a]/\SqL K H a (ns.map V.int)/\Φ (nR ns)=.ok .fz (.bl true)/\∀ H',Q (.bl true) H'
theorem aOU{P:Program}{w:World}{K:Fg}{mg:SOV}{base:Heap}{CX:CXT}{k:Nat}{f:Addr}{fd:FuncData}{ps:List Str}{Φ:List D->Res}(h:dF P w K mg base CX k f fd ps (spV K mg 1 Φ)):dF P w K mg base CX k f fd ps (sQ K Φ) :=
 h.imp λvs H Q E ⟨a,ns,e,hq,hp,q⟩=>by
  subst e;refine ⟨rfl,H,nR ns,aH.refl _,aE.cons ?_ aE.nil,?_⟩
  . simp only[aD];exact ⟨a,_,rfl,hq,wN ns⟩
  . rw[hp];exact ⟨by decide,λv F' H' s rp _=>by rw[rp.bl];exact q H'⟩
theorem aOV{P:Program}{w:World}{K:Fg}{mg:SOV}{base:Heap}{g:MG}{t:TB}{fa:Str->Addr}(f:GF w K mg g t fa)(k:Nat){a:Addr}{fd:FuncData}{d:FD}{st:Stmt}(F:Fun K "law" "law" st a fd)(e:t.T.lookup ("law" : Str)=some d)(ok:jF g st d=true)(hl:d.ps.length=1):dF P w K mg base (CX1 P w) (k+1) a fd d.ps (sQ K ((WT t (k+1)).Φ ("law" : Str))):=by have:=sP (P:=P) (w:=w) (base:=base) f (zT f k).1 F e ok;rw[hl] at this;exact aOU this
end D3
namespace D3
open PySem L2
section
variable {W:WD}{ρ:Rho}{a b c:E}{es:List E}
@[simp] theorem e_var{i}:evE W (.var i) ρ=fM ρ i:=Eq.trans rfl rfl
@[simp] theorem e_non:evE W .non ρ=.ok .fz .non:=Eq.trans rfl rfl
@[simp] theorem e_bl{b}:evE W (.bl b) ρ=.ok .fz (.bl b):=Eq.trans rfl rfl
@[simp] theorem e_int{i}:evE W (.int i) ρ=.ok .fz (.int i):=Eq.trans rfl rfl
@[simp] theorem e_str{x}:evE W (.str x) ρ=.ok .fz (.str x):=Eq.trans rfl rfl
@[simp] theorem e_globS{x y}:evE W (.glob x (.s y)) ρ=.ok .fz (.str y):=Eq.trans rfl rfl
@[simp] theorem e_globI{x y}:evE W (.glob x (.i y)) ρ=.ok .fz (.int y):=Eq.trans rfl rfl
@[simp] theorem e_ty{t:Ty}:evE W (.ty t) ρ=.ok .fz (.ty t.id):=Eq.trans rfl rfl
@[simp] theorem e_bin{op}:evE W (.bin op a b) ρ=op2 (bM op) (evE W a ρ) (evE W b ρ):=Eq.trans rfl rfl
@[simp] theorem e_cmp{op}:evE W (.cmp op a b) ρ=op2 (bS op) (evE W a ρ) (evE W b ρ):=Eq.trans rfl rfl
@[simp] theorem e_andL:evE W (.andL es) ρ=evA W es ρ:=Eq.trans rfl rfl
@[simp] theorem e_orL:evE W (.orL es) ρ=dN W es ρ:=Eq.trans rfl rfl
@[simp] theorem e_not:evE W (.not a) ρ=lA (evE W a ρ):=Eq.trans rfl rfl
@[simp] theorem e_tru:evE W (.tru a) ρ=k9 (evE W a ρ):=Eq.trans rfl rfl
@[simp] theorem e_frz:evE W (.frz a) ρ=bB (evE W a ρ):=Eq.trans rfl rfl
@[simp] theorem e_ix:evE W (.ix a b) ρ=op2 ixD (evE W a ρ) (evE W b ρ):=Eq.trans rfl rfl
@[simp] theorem e_slice{l h}:evE W (.slice a l h) ρ=slP (evE W a ρ) (evO W l) (evO W h) ρ:=Eq.trans rfl rfl
@[simp] theorem e_tup:evE W (.tup es) ρ=eL (bW W es ρ):=Eq.trans rfl rfl
@[simp] theorem e_lst:evE W (.lst es) ρ=e6 (bW W es ρ):=Eq.trans rfl rfl
@[simp] theorem e_call{f n}:evE W (.call f n es) ρ=aP n (W.Φ f) (bW W es ρ):=Eq.trans rfl rfl
@[simp] theorem e_bcall{f:Bn}:evE W (.bcall f es) ρ=dB f.f (bW W es ρ):=Eq.trans rfl rfl
@[simp] theorem e_mt{t:Mt}:evE W (.mt t a es) ρ=jX t.ty t.f (evE W a ρ) (bW W es ρ):=Eq.trans rfl rfl
@[simp] theorem e_items:evE W (.items a) ρ=dI (bB (evE W a ρ)):=Eq.trans rfl rfl
@[simp] theorem e_rng1:evE W (.rng1 a) ρ=e7 (bV (evE W a ρ) (.ok [])):=Eq.trans rfl rfl
@[simp] theorem e_enum1:evE W (.enum1 a) ρ=j4 (bV (bB (evE W a ρ)) (.ok [])):=Eq.trans rfl rfl
@[simp] theorem e_dnew:evE W .dnew ρ=.ok .fr (.dct []):=Eq.trans rfl rfl
@[simp] theorem e_usi:evE W (.usi a) ρ=gW (evE W a ρ):=Eq.trans rfl rfl
@[simp] theorem e_srt:evE W (.srt a) ρ=dB (aZ.or' gP gT) (bV (evE W a ρ) (.ok [])):=Eq.trans rfl rfl
@[simp] theorem e_sum1:evE W (.sum1 a) ρ=dB (aZ.or' fW fE) (bV (evE W a ρ) (.ok [])):=Eq.trans rfl rfl
@[simp] theorem e_comp2{b2:E}{ts:List E}{aB}:evE W (.comp2 a b b2 ts aB) ρ=gQ (evE W b ρ) ρ aB (λρ=>evF W ts ρ) (λρ=>evE W b2 ρ) (λρ=>evE W a ρ):=Eq.trans rfl rfl
@[simp] theorem e_usc{b2:E}{ts:List E}{aB}:evE W (.usc a b b2 ts aB) ρ=jB (evE W b ρ) ρ aB (λρ=>evF W ts ρ) (λρ=>evE W b2 ρ) (λρ=>evE W a ρ):=Eq.trans rfl rfl
@[simp] theorem e_sel{aB:List Nat}{i j jd jm:Nat}:evE W (.sel aB i j jd jm) ρ=kE ρ jd jm:=Eq.trans rfl rfl
@[simp] theorem e_compC{ts:List E}{aB}:evE W (.compC a b ts aB) ρ=bF (evE W b ρ) ρ aB 1 (aI (.nm aB.length)) (λρ=>evF W ts ρ) (λρ=>evE W a ρ):=Eq.trans rfl rfl
@[simp] theorem e_dlist:evE W (.dlist a) ρ=dB lQ (bV (evE W a ρ) (.ok [])):=Eq.trans rfl rfl
@[simp] theorem e_callO{f n}:evE W (.callO f n es) ρ=callO n (W.Φ f) (bW W es ρ):=Eq.trans rfl rfl
@[simp] theorem e_dix:evE W (.dix a b) ρ=op2 ixK (evE W a ρ) (evE W b ρ):=Eq.trans rfl rfl
@[simp] theorem e_comp{ts:List E}{aB t n}:evE W (.comp a b ts aB t n) ρ=bF (evE W b ρ) ρ aB n (aI t) (λρ=>evF W ts ρ) (λρ=>evE W a ρ):=Eq.trans rfl rfl
@[simp] theorem el_nil:evL W []=[]:=by simp only[evL]
@[simp] theorem el_cons:evL W (a::es)=evE W a::evL W es:=by simp only[evL]
@[simp] theorem sg_nm{i:Nat}{d:D}:aI (.nm i) d ρ=some (ρ.set i (some (false,d))):=by simp only[aI]
@[simp] theorem sg_tp{ts:List Tg}{ds:List D}:aI (.tp ts) (.tup ds) ρ=dJ ts ds ρ:=by simp only[aI]
@[simp] theorem sg_tpl{ts:List Tg}{ds:List D}:aI (.tp ts) (.lst ds) ρ=dJ ts ds ρ:=by simp only[aI]
@[simp] theorem sgs_nil:dJ [] [] ρ=some ρ:=by simp[dJ]
@[simp] theorem sgs_cons{t:Tg}{ts:List Tg}{d:D}{ds:List D}:dJ (t::ts) (d::ds) ρ=(aI t d ρ).bind (dJ ts ds):=by simp only[dJ];cases aI t d ρ <;> rfl
@[simp] theorem e_tcall{t:Ty}:evE W (.tcall t es) ρ=dB t.f (bW W es ρ):=Eq.trans rfl rfl
@[simp] theorem e_isi{x}:evE W (.isi a x) ρ=e9 W.cl x (evE W a ρ):=Eq.trans rfl rfl
@[simp] theorem e_meth{x}:evE W (.meth a x es) ρ=dZ W.cl W.Φ x (evE W a ρ) (bW W es ρ):=Eq.trans rfl rfl
@[simp] theorem e_mk0{x}:evE W (.mk0 x) ρ=.ok .fr (.ins x []):=Eq.trans rfl rfl
@[simp] theorem es_nil:bW W [] ρ=.ok []:=by simp only[bW]
@[simp] theorem es_cons:bW W (a::es) ρ=bV (evE W a ρ) (bW W es ρ):=by simp only[bW]
@[simp] theorem ea_one:evA W [a] ρ=evE W a ρ:=by simp only[evA]
@[simp] theorem ea_cons:evA W (a::b::es) ρ=eK (evE W a ρ) (evA W (b::es) ρ):=by simp only[evA]
@[simp] theorem eo_one:dN W [a] ρ=evE W a ρ:=by simp only[dN]
@[simp] theorem eo_cons:dN W (a::b::es) ρ=orR (evE W a ρ) (dN W (b::es) ρ):=by simp only[dN]
@[simp] theorem ef_nil:evF W [] ρ=.ok .fz (.bl true):=by simp only[evF]
@[simp] theorem ef_cons:evF W (a::es) ρ=eK (evE W a ρ) (evF W es ρ):=by simp only[evF]
@[simp] theorem eo_none:evO W none=none:=by simp only[evO]
@[simp] theorem eo_some:evO W (some a)=some (evE W a):=by simp only[evO]
@[simp] theorem s_ret:evS W (.ret a) ρ=jV (evE W a ρ) ρ:=Eq.trans rfl rfl
@[simp] theorem s_retV{i}:evS W (.retV i) ρ=eN ρ i:=Eq.trans rfl rfl
@[simp] theorem s_set{i}:evS W (.set i a) ρ=dY ρ i (evE W a ρ):=Eq.trans rfl rfl
@[simp] theorem s_ite{x y:List S}:evS W (.ite a x y) ρ=ifS (evE W a ρ) ρ (evB W x ρ) (evB W y ρ):=Eq.trans rfl rfl
@[simp] theorem s_for{t:Tg}{y:List S}:evS W (.for a t y) ρ=eO (evE W a ρ) ρ (aI t) (evB W y):=Eq.trans rfl rfl
@[simp] theorem s_extn{i}:evS W (.extn i a) ρ=gX ρ i (evE W a ρ):=Eq.trans rfl rfl
@[simp] theorem s_app{i}:evS W (.app i a) ρ=fT ρ i (evE W a ρ):=Eq.trans rfl rfl
@[simp] theorem s_frzV{i}:evS W (.frzV i) ρ=gN ρ i:=Eq.trans rfl rfl
@[simp] theorem s_dput{i}:evS W (.dput i a b) ρ=fU ρ i (evE W a ρ) (evE W b ρ):=Eq.trans rfl rfl
@[simp] theorem s_setC{i}:evS W (.setC i false a) ρ=dY ρ i (evE W a ρ):=Eq.trans rfl rfl
@[simp] theorem s_setCf{i}:evS W (.setC i true a) ρ=dY ρ i (bB (evE W a ρ)):=Eq.trans rfl rfl
@[simp] theorem b_nil:evB W [] ρ=.nx ρ:=by simp only[evB]
@[simp] theorem zU{s:S}{r:List S}:evB W (s::r) ρ=(evS W s ρ).thn (evB W r):=by simp only[evB]
end
section
variable {m n:Md}{i j:Int}{ρ:Rho}{d:D}
@[simp] theorem x_add:op2 (bM .Add) (.ok m (.int i)) (.ok n (.int j))=.ok .fz (.int (i+j)):=rfl
@[simp] theorem x_band:op2 (bM .BitAnd) (.ok m (.int i)) (.ok n (.int j))=.ok .fz (.int (Builtin.bitAnd i j)):=rfl
@[simp] theorem x_bor:op2 (bM .BitOr) (.ok m (.int i)) (.ok n (.int j))=.ok .fz (.int (Builtin.bitOr i j)):=rfl
@[simp] theorem x_shl(h:0<=j)(h1:j<=1000000)(h2:i.natAbs<2 ^ 64):op2 (bM .LShift) (.ok m (.int i)) (.ok n (.int j))=.ok .fz (.int (i * 2 ^ j.toNat)):=by
 show (match (if (decide (0<=j)&&decide (j<=1000000)&&decide (i.natAbs<2 ^ 64))=true then some (Md.fz,D.int (i * 2 ^ j.toNat)) else none) with | some (m,d)=>Res.ok m d | none=>.stuck)=_
 rw[aUN h,aUN h1,aUN h2];rfl
@[simp] theorem x_shr(h:0<=j):op2 (bM .RShift) (.ok m (.int i)) (.ok n (.int j))=.ok .fz (.int (i / 2 ^ j.toNat)):=by
 show (match (if decide (0<=j)=true then some (Md.fz,D.int (i / 2 ^ j.toNat)) else none) with | some (m,d)=>Res.ok m d | none=>.stuck)=_
 rw[aUN h];rfl
@[simp] theorem x_sub:op2 (bM .Sub) (.ok m (.int i)) (.ok n (.int j))=.ok .fz (.int (i-j)):=rfl
@[simp] theorem x_lt:op2 (bS .Lt) (.ok m (.int i)) (.ok n (.int j))=.ok .fz (.bl (decide (i<j))):=rfl
@[simp] theorem x_le:op2 (bS .LtE) (.ok m (.int i)) (.ok n (.int j))=.ok .fz (.bl (decide (i<=j))):=rfl
@[simp] theorem x_gt:op2 (bS .Gt) (.ok m (.int i)) (.ok n (.int j))=.ok .fz (.bl (decide (j<i))):=rfl
@[simp] theorem x_ge:op2 (bS .GtE) (.ok m (.int i)) (.ok n (.int j))=.ok .fz (.bl (decide (j<=i))):=rfl
@[simp] theorem x_mod(h:0<j):op2 (bM .Mod) (.ok m (.int i)) (.ok n (.int j))=.ok .fz (.int (i % j)):=by show Res.of (if decide (0<j)=true then _ else _)=_;rw[if_pos (aUN h)];rfl
theorem x_div(h:0<j)(hb:bU j=true):op2 (bM .FloorDiv) (.ok m (.int i)) (.ok n (.int j))=.ok .fz (.int (i / j)):=by show Res.of (if (decide (0<j)&&bU j)=true then _ else _)=_;rw[if_pos (by rw[hb,aUN h];rfl)];rfl
theorem aOW(h:i.natAbs<10 ^ 2000):bU i=true:=by
 unfold bU;refine aUN ?_;by_cases h0:i.natAbs=0
 . rw[h0];decide
 . refine (Nat.log2_lt h0).mpr (Nat.lt_trans h ?_);decide +kernel
theorem l7{N:Nat}(h:i.natAbs<=N)(hN:N<10 ^ 2000:=by decide +kernel):bU i=true:=aOW (aXW h hN)
@[simp] theorem x_divS(h:0<j)(hb:j.natAbs<=1000000000):op2 (bM .FloorDiv) (.ok m (.int i)) (.ok n (.int j))=.ok .fz (.int (i / j)):=x_div h (l7 hb)
theorem zV(h:((bU i&&bU j)||(w64 i||w64 j))=true):op2 (bM .Mult) (.ok m (.int i)) (.ok n (.int j))=.ok .fz (.int (i * j)):=by show Res.of (((if ((bU i&&bU j)||(w64 i||w64 j))=true then _ else _:Option (Md×D)).orElse _).orElse _)=_;rw[if_pos h];rfl
theorem x_mul(h1:bU i=true)(h2:bU j=true):op2 (bM .Mult) (.ok m (.int i)) (.ok n (.int j))=.ok .fz (.int (i * j)):=zV (by rw[h1,h2];rfl)
theorem sR(h:i.natAbs<9000000000000000000):op2 (bM .Mult) (.ok m (.int i)) (.ok n (.int j))=.ok .fz (.int (i * j)):=zV (by
 have:w64 i=true:=aUN (by omega)
 rw[this];simp)
theorem cC{φ:Md->D->Md->D->Option (Md×D)}{x y d:D}{k:Md}(h:φ m x n y=some (k,d)):op2 φ (.ok m x) (.ok n y)=.ok k d:=by show Res.of (φ m x n y)=_;rw[h];rfl
@[simp] theorem x_eqI:op2 (bS .Eq) (.ok m (.int i)) (.ok n (.int j))=.ok .fz (.bl (i==j)):=cC rfl
@[simp] theorem x_neI:op2 (bS .NotEq) (.ok m (.int i)) (.ok n (.int j))=.ok .fz (.bl (i != j)):=cC rfl
@[simp] theorem x_eqB{a b:Bool}:op2 (bS .Eq) (.ok m (.bl a)) (.ok n (.bl b))=.ok .fz (.bl (a==b)):=cC rfl
@[simp] theorem x_neB{a b:Bool}:op2 (bS .NotEq) (.ok m (.bl a)) (.ok n (.bl b))=.ok .fz (.bl (a != b)):=cC rfl
@[simp] theorem x_eqS{a b:Str}:op2 (bS .Eq) (.ok m (.str a)) (.ok n (.str b))=.ok .fz (.bl (a==b)):=cC (by rfl)
@[simp] theorem x_neS{a b:Str}:op2 (bS .NotEq) (.ok m (.str a)) (.ok n (.str b))=.ok .fz (.bl (a != b)):=cC (by rfl)
@[simp] theorem x_inS{a b:Str}:op2 (bS .In) (.ok m (.str a)) (.ok n (.str b))=.ok .fz (.bl (gJ a b)):=cC rfl
@[simp] theorem x_notinS{a b:Str}:op2 (bS .NotIn) (.ok m (.str a)) (.ok n (.str b))=.ok .fz (.bl (!gJ a b)):=cC rfl
@[simp] theorem zW{a b:Str}(h:a.length+b.length<=sizeLine):op2 (bM .Add) (.ok m (.str a)) (.ok n (.str b))=.ok .fz (.str (a++b)) :=
 cC (by
  have:fS (λi j=>decide (i.length+j.length<=sizeLine)) (λi j=>D.str (i++j)) m (.str a) n (.str b)=some (Md.fz,D.str (a++b)):=by show (if decide (a.length+b.length<=sizeLine)=true then some (Md.fz,D.str (a++b)) else none)=_;rw[if_pos (aUN h)]
  show orO (orO (fI (λ_ _=>true) λi j=>.int (i+j)) (fS (λi j=>decide (i.length+j.length<=sizeLine)) λi j=>.str (i++j))) nU m (.str a) n (.str b)=_;simp only[orO,this];rfl)
@[simp] theorem x_isN{d:D}:op2 (bS .Is) (.ok m d) (.ok n .non)=.ok .fz (.bl (fA d)):=cC rfl
@[simp] theorem x_isnotN{d:D}:op2 (bS .IsNot) (.ok m d) (.ok n .non)=.ok .fz (.bl (!fA d)):=cC rfl
@[simp] theorem sS{x y:List D}(h:x.length+y.length<=sizeLine):op2 (bM .Add) (.ok m (.lst x)) (.ok n (.lst y))=.ok .fr (.lst (x++y)):=cC (by
 show (if x.length+y.length<=sizeLine then some (Md.fr,D.lst (x++y)) else none)=_;rw[if_pos h])
@[simp] theorem zX{x y:List D}(h:x.length+y.length<=sizeLine):op2 (bM .Add) (.ok m (.tup x)) (.ok n (.tup y))=.ok .fz (.tup (x++y)):=cC (by
 show (if x.length+y.length<=sizeLine then some (Md.fz,D.tup (x++y)) else none)=_;rw[if_pos h])
@[simp] theorem isn_n:fA .non=true:=rfl
@[simp] theorem isn_i{i:Int}:fA (.int i)=false:=rfl
@[simp] theorem isn_b{i:Bool}:fA (.bl i)=false:=rfl
@[simp] theorem isn_s{i:Str}:fA (.str i)=false:=rfl
@[simp] theorem isn_t{i:List D}:fA (.tup i)=false:=rfl
@[simp] theorem isn_l{i:List D}:fA (.lst i)=false:=rfl
@[simp] theorem x_andT{y:Res}:eK (.ok m (.bl true)) y=y:=rfl
@[simp] theorem x_andF{y:Res}:eK (.ok m (.bl false)) y=.ok .fz (.bl false):=rfl
@[simp] theorem x_orT{y:Res}:orR (.ok m (.bl true)) y=.ok .fz (.bl true):=rfl
@[simp] theorem x_orF{y:Res}:orR (.ok m (.bl false)) y=y:=rfl
@[simp] theorem x_and{a b:Bool}:eK (.ok m (.bl a)) (.ok .fz (.bl b))=.ok .fz (.bl (a&&b)):=by cases a <;> rfl
@[simp] theorem x_or{a b:Bool}:orR (.ok m (.bl a)) (.ok .fz (.bl b))=.ok .fz (.bl (a||b)):=by cases a <;> rfl
@[simp] theorem x_not{a:Bool}:lA (.ok m (.bl a))=.ok .fz (.bl (!a)):=rfl
@[simp] theorem x_tru{a:Bool}:k9 (.ok m (.bl a))=.ok .fz (.bl a):=rfl
@[simp] theorem x_truI:k9 (.ok m (.int i))=.ok .fz (.bl (i != 0)):=rfl
@[simp] theorem x_ifT{x y:aK}:ifS (.ok m (.bl true)) ρ x y=x:=rfl
@[simp] theorem x_ifF{x y:aK}:ifS (.ok m (.bl false)) ρ x y=y:=rfl
@[simp] theorem x_frz:bB (.ok .fz d)=.ok .fz d:=rfl
@[simp] theorem x_frr:bB (.ok .fr d)=.ok .fz d:=rfl
@[simp] theorem x_set{k:Nat}:dY ρ k (.ok .fz d)=.nx (ρ.set k (some (false,d))):=rfl
@[simp] theorem x_setr{k:Nat}:dY ρ k (.ok .fr d)=.nx (ρ.set k (some (true,d))):=rfl
@[simp] theorem x_ret:jV (.ok .fz d) ρ=.rt .fz d:=rfl
@[simp] theorem x_retr:jV (.ok .fr d) ρ=.rt .fr d:=rfl
@[simp] theorem g_0{r:Rho}:fM (some (false,d)::r) 0=.ok .fz d:=rfl
@[simp] theorem g_0b{r:Rho}:fM (some (true,d)::r) 0=.ok .bo d:=rfl
@[simp] theorem g_s{x:Option (Bool×D)}{r:Rho}{i:Nat}:fM (x::r) (i+1)=fM r i:=rfl
@[simp] theorem g_1{x:Option (Bool×D)}{r:Rho}:fM (x::r) 1=fM r 0:=rfl
@[simp] theorem rs_0{r:Rho}:eN (some (false,d)::r) 0=.rt .fz d:=rfl
@[simp] theorem rs_0b{r:Rho}:eN (some (true,d)::r) 0=.rt .fr d:=rfl
@[simp] theorem rs_1{x:Option (Bool×D)}{r:Rho}:eN (x::r) 1=eN r 0:=rfl
@[simp] theorem rs_s{x:Option (Bool×D)}{r:Rho}{i:Nat}:eN (x::r) (i+1)=eN r i:=rfl
@[simp] theorem r_set0{x y:Option (Bool×D)}{r:Rho}:(x::r).set 0 y=y::r:=rfl
@[simp] theorem x_callR{f:List (Md×D)->Option (Md×D)}{xs:List (Md×D)}:dB f (.ok xs)=Res.of (f xs):=rfl
@[simp] theorem bn_len:Bn.f .len=dG:=rfl
@[simp] theorem bn_isi:Bn.f .isinstance=dH:=rfl
@[simp] theorem ty_int:Ty.f .int=j3:=rfl
@[simp] theorem ty_str:Ty.f .str=lN:=rfl
@[simp] theorem ty_tuple:Ty.f .tuple=jY:=rfl
@[simp] theorem ty_dict:Ty.f .dict=n5:=rfl
@[simp] theorem ty_list:Ty.f .list=jZ:=rfl
@[simp] theorem tci_i{i:Int}:j3 [(m,.int i)]=some (.fz,.int i):=rfl
@[simp] theorem tci_b{i:Bool}:j3 [(m,.bl i)]=some (.fz,.int (if i then 1 else 0)):=rfl
@[simp] theorem tct_l{i:List D}:jY [(m,.lst i)]=some (.fz,.tup i):=rfl
@[simp] theorem tct_t{i:List D}:jY [(.fz,.tup i)]=some (.fz,.tup i):=rfl
@[simp] theorem tcl_l{i:List D}:jZ [(m,.lst i)]=some (.fr,.lst i):=rfl
@[simp] theorem tcl_t{i:List D}:jZ [(m,.tup i)]=some (.fr,.lst i):=rfl
@[simp] theorem tcs_i{i:Int}(h:qW i=true):lN [(m,.int i)]=some (.fz,.str (qX i)):=by show (if qW i=true then _ else _)=_;rw[if_pos h]
@[simp] theorem mt_ty:Mt.ty .join = "str" := rfl
@[simp] theorem mt_f:Mt.f .join=iC:=rfl
@[simp] theorem mt_tyT:Mt.ty .joinT = "str" := rfl
@[simp] theorem mt_fT:Mt.f .joinT=D3.joinT:=rfl
@[simp] theorem mt_tyS:Mt.ty .startswith = "str" := rfl
@[simp] theorem mt_fS:Mt.f .startswith=swD:=rfl
@[simp] theorem mt_tyR:Mt.ty .removeprefix = "str" := rfl
@[simp] theorem mt_fR:Mt.f .removeprefix=rpD:=rfl
@[simp] theorem bn_all:Bn.f .all=lF:=rfl
@[simp] theorem bn_any:Bn.f .any=lG:=rfl
@[simp] theorem len_s{z:Str}:dG [(m,.str z)]=some (.fz,.int z.length):=rfl
@[simp] theorem len_l{z:List D}:dG [(m,.lst z)]=some (.fz,.int z.length):=rfl
@[simp] theorem len_t{z:List D}:dG [(m,.tup z)]=some (.fz,.int z.length):=rfl
@[simp] theorem itm_l{z:List D}:dI (.ok m (.lst z))=.ok .fz (.lst z):=rfl
@[simp] theorem itm_t{z:List D}:dI (.ok m (.tup z))=.ok .fz (.lst z):=rfl
@[simp] theorem itm_s{z:Str}:dI (.ok m (.str z))=.ok .fz (.lst (fO z)):=rfl
end
@[simp] theorem WT_xf{t:TB}{k:Nat}:(WT t k).xf=λc x=>t.xt.lookup (c,x):=by unfold WD.xf;rw[zM]
@[simp] theorem WT_xg{t:TB}{k:Nat}:(WT t k).xg=λc x=>t.xi.lookup (c,x):=by unfold WD.xg;rw[zN]
section
variable {c x:Str}{ρ ρ':Rho}{m:Md}{d:D}{xt:Str->Str->Option Bool}{hs:List HX}{g:Rho->aK}
@[simp] theorem x_frx:bB (.exc c)=.exc c:=rfl
@[simp] theorem x_setx{k:Nat}:dY ρ k (.exc c)=.exc c ρ:=rfl
@[simp] theorem x_retx:jV (.exc c) ρ=.exc c ρ:=rfl
end
theorem bH{n N:Nat}{g:Rho->aK}{ds:List D}{m:Md}{d:D}(hl:ds.length=n)(h:g (iE N ds)=.rt m d):phi n N g ds=.ok m d:=by unfold phi;rw[if_pos hl,h];rfl
theorem oT{n:Nat}{Φ:List D->Res}{xs:List (Md×D)}{ds:List D}{d:D}(hl:ds.length=n)(ha:cR xs=some ds)(h:Φ ds=.ok .fz d):aP n Φ (.ok xs)=.ok .fz d:=by
 show (match cR xs with | some ds=>if ds.length=n then (match Φ ds with | .ok .bo _=>Res.stuck | r=>r) else .stuck | none=>.stuck)=_
 rw[ha];show (if ds.length=n then _ else _)=_;rw[if_pos hl,h]
@[simp] theorem f7{Φ:List D->Res}{a d:D}(h:Φ [a]=.ok .fz d):aP 1 Φ (.ok [(.fz,a)])=.ok .fz d:=oT (ds:=[a]) rfl rfl h
@[simp] theorem dU{Φ:List D->Res}{a b d:D}(h:Φ [a,b]=.ok .fz d):aP 2 Φ (.ok [(.fz,a),(.fz,b)])=.ok .fz d:=oT (ds:=[a,b]) rfl rfl h
@[simp] theorem zY{Φ:List D->Res}{a b c d:D}(h:Φ [a,b,c]=.ok .fz d):aP 3 Φ (.ok [(.fz,a),(.fz,b),(.fz,c)])=.ok .fz d:=oT (ds:=[a,b,c]) rfl rfl h
@[simp] theorem kK{cl:List CI}{Φ:Str->List D->Res}{c m key:Str}{n:Nat}{fs:List (Str×D)}{as:aT}(h:CI.meth cl c m=some (key,n))(hl:fs.lookup m=none):dZ cl Φ m (.ok .fz (.ins c fs)) as=aP n (Φ key) (bV (.ok .fz (.ins c fs)) as):=by
 show (match CI.meth cl c m with | some (key,n)=>if fs.lookup m=none then aP n (Φ key) (bV (.ok .fz (.ins c fs)) as) else .stuck | none=>.stuck)=_
 rw[h];show (if fs.lookup m=none then _ else _)=_;rw[if_pos hl]
@[simp] theorem wt_cl{t:TB}{k:Nat}:(WT t k).cl=t.cl:=oS t k
theorem bN{t:TB}{k:Nat}{f:Str}{d:FD}(h:t.T.lookup f=some d):(WT t (k+1)).Φ f=phi d.ps.length d.N.length (evB (WT t k) d.b):=by rw[WT_Φ];unfold lZ;rw[h]
@[simp] theorem zZ{Φ:List D->Res}{a b c e d:D}(h:Φ [a,b,c,e]=.ok .fz d):aP 4 Φ (.ok [(.fz,a),(.fz,b),(.fz,c),(.fz,e)])=.ok .fz d:=oT (ds:=[a,b,c,e]) rfl rfl h
theorem gY{W:WD}:∀ {x y:List D3.S} {ρ:Rho},evB W (x++y) ρ=(evB W x ρ).thn (evB W y)
 | [],y,ρ=>by simp
 | s::x,y,ρ=>by
  show evB W (s::(x++y)) ρ=_;rw[zU,zU];cases evS W s ρ with
  | nx ρ'=>exact gY
  | _=>rfl
end D3
namespace Tp
open PySem PySem.W PySem.Calls
structure S where
 t:BT
 n:Nat
 k:Nat
 nm:Value
 g:List DictEntry
 tb:List Value
def tupO(vs:List Value):Obj:=⟨.type "tuple", none,.seq vs.toArray 0,#[]⟩
def fldO(c:Value)(vs:List Value):Obj:=⟨c,none,.fields vs.toArray,#[]⟩
def dicO(es:List DictEntry)(e:Nat):Obj:=⟨.type "dict", none,.dict es.toArray e,#[]⟩
def en(P:Params)(x:Str)(k:Nat)(v:Value):DictEntry:=⟨PyData.keyHash P x,.str x k,v⟩
def texts:List Str->Nat->List Value
 | [],_=>[]
 | x::xs,k=>.str x k::texts xs (k+1)
def fileS:Str := "/claim/cut.py"
def codeO(name aW:Str)(k line argc fl:Nat)(isF:Bool)(a:Nat)(ls cs tm:Value)(j:Nat):Obj :=
 fldO (.type "code") [.str name k,.str aW (k+1),.str fileS (k+2),.int line 0,.int argc 0,.int 0 0,.int 0 0,.int fl 0,.ref a,.bool isF,.int 181 0,.ref (a+1),.none,ls,cs,tm,.int j 0,.int line 0,.str fileS (j+1)]
def frmO(code ns:Nat)(nm:Value):Obj:=⟨.type "frame", none,.plain,#[some (.ref code),some (.ref 3),some (.ref ns),none,some nm,none,some (.ref 0)]⟩
def fnD(name aW:Str)(args:Arguments)(body:List Stmt)(sc:Scope)(gl:Nat)(nm cd:Value):FuncData:=⟨name,aW,args,.stmts body,sc,gl,[],.none,.none,.none,nm,none,cd,.none,0⟩
def insL:List Obj->BT->Nat->BT
 | [],t,_=>t
 | o::os,t,n=>insL os (t.ins n o) (n+1)
def layF(name aW:Str)(args:Arguments)(body:List Stmt)(sc:Scope)(line n k:Nat)(nm:Value):List Obj×Nat×Nat :=
 match localNames args sc (.stmts body) with
 | some (ls,cs) =>
  let a:=ls.length
  let b:=cs.length
  ([tupO [],fldO .none [],tupO (texts ls (k+3)),tupO (texts cs (k+3+a)),⟨.none,none,.func (fnD name aW args body sc 0 .none .none),#[]⟩,
   codeO name aW k line args.args.length 3 true n (.ref (n+2)) (.ref (n+3)) (.ref (n+4)) (k+3+a+b),⟨.type "function", none,.func (fnD name aW args body sc 3 nm (.ref (n+5))),#[]⟩],n+5,k+5+a+b)
 | none =>
  ([tupO [],fldO .none [],⟨.none,none,.func (fnD name aW args body sc 0 .none .none),#[]⟩,
   codeO name aW k line args.args.length 3 true n .none .none (.ref (n+2)) (k+3),⟨.type "function", none,.func (fnD name aW args body sc 3 nm (.ref (n+3))),#[]⟩],n+3,k+5)
def look(x:Str):List DictEntry->Option Value
 | []=>none
 | ⟨_,.str y _,v⟩::es=>match decide (x=y) with | true=>some v | false=>look x es
 | _::es=>look x es
structure B where
 t:BT
 n:Nat
 k:Nat
 es:List DictEntry
 tb:List Value
def layB(P:Params)(cn:Str)(nm:Value):List Stmt->B->B
 | .FunctionDef name args body _ _ _ sc _ _ pos::r,⟨t,n,k,es,tb⟩ =>
  match layF name (cn ++ "." ++ name) args body sc pos.line n k nm with
  | (os,c,j)=>layB P cn nm r ⟨insL os t n,n+os.length,j+1,en P name j (.ref (c+1))::es,.ref c :: .int pos.col 0 :: .int pos.line 0::tb⟩
 | _::r,b=>layB P cn nm r b
 | [],b=>b
def mroOf(t:BT)(a:Nat):List Value×Value:=match t.get a with
 | some ⟨_,_,.cls c,sl⟩=>(c.mro,(sl.getD 4 none).getD .none)
 | _=>([],.none)
def subTo(a:Nat):Obj->Obj
 | ⟨c,d,.cls k,sl⟩=>⟨c,d,.cls { k with subclasses:=k.subclasses++[.ref a] },sl⟩
 | o=>o
def layC(P:Params)(name:Str)(bases:List PySem.Expr)(body:List Stmt)(st:List Str)(line:Nat):S->S
 | ⟨t,n,k,nm,g,tb⟩ =>
  let bs:List Value:=match bases with
   | .Name b _::_=>(match look b g with | some v=>[v] | none=>[.type "ValueError"])
   | _=>[]
  let n2:=n+2
  let t1:=insL [tupO bs,fldO (.type "builtin_function_or_method") [.builtin "type.__prepare__", .type "type"],dicO [] 0,tupO [],fldO .none [],codeO name name (k+2) line 0 0 false (n+3) .none .none .none (k+5),frmO (n+5) n2 nm] t n
  match layB P name nm body ⟨t1,n+7,k+12,[en P "__firstlineno__" (k+11) (.int line (k+10)),en P "__qualname__" (k+9) (.str name (k+8)),en P "__module__" (k+7) nm],[]⟩ with
  | ⟨t2,m,j,es,ct⟩ =>
   let es1:=en P "__static_attributes__" (j+st.length) (.ref m)::es
   let j1:=j+st.length+1
   let t3:=(t2.set n2 λ_=>dicO es1.reverse es1.length).set (n+4) λ_=>fldO .none ct.reverse
   let cl:=m+2
   let cp:=(es1.reverse.take 1)++(es1.reverse.drop 2)
   let fin (mro:List Value) (nw:Value) (bv:List Value) (sl0:Option Value) (xs:List DictEntry) (gs:List Obj) (t:BT) (j:Nat):S :=
    let os:=[tupO (texts st (m-m+(j1-1-st.length))),dicO (cp++xs++[en P "__doc__" j .none]) (2+xs.length),⟨.type "type", none,.cls ⟨name,bv,.ref cl::mro,m+1,name,true,[],[],false,none,false⟩,#[sl0,none,some (.str name k),some (.str name (k+8)),some nw,some (.bool true)]⟩]
     ++ gs++[fldO (.type "super") [.ref cl,.ref cl,.ref cl],fldO (.type "builtin_function_or_method") [.builtin "object.__init_subclass__", .ref cl]]
    ⟨insL os t m,m+os.length,j+3,nm,en P name (j+2) (.ref cl)::g,.ref (n+5) :: .int 0 0 :: .int line 0::tb⟩
   let gw (j a:Nat):=fldO (.type "getset_descriptor") [.str "__weakref__" j,.ref cl,.builtin "ExceptionGroup.__weakref__", .none]
   match bs with
   | [] => fin [.type "object"] (.builtin "object.__new__") [.type "object"] none [en P "__dict__" (j1 + 1) (.ref (m + 3)), en P "__weakref__" (j1 + 3) (.ref (m + 4))]
       [fldO (.type "getset_descriptor") [.str "__dict__" j1,.ref cl,.builtin "function.__dict__", .builtin "function.__dict__#set"],gw (j1+2) 0] t3 (j1+4)
   | .ref a::_=>match mroOf t3 a with
    | (mro,nw)=>fin mro nw bs (some (.ref n)) [] [] (t3.set a (subTo cl)) j1
   | _=>fin [.type "ValueError", .type "Exception", .type "BaseException", .type "object"] (.builtin "ValueError.__new__") bs (some (.ref n)) [en P "__weakref__" (j1+1) (.ref (m+3))] [gw j1 0] t3 (j1+2)
def keysD(P:Params)(g:List DictEntry):List (Option PySem.Expr)->List PySem.Expr->Nat->List DictEntry
 | some (.Constant (.str x) _ _)::ks,.Name y _::vs,k=>en P x k ((look y g).getD .none)::keysD P g ks vs (k+1)
 | _,_,_=>[]
def put(P:Params)(x:Str)(v:Value)(t:BT)(n k:Nat)(nm:Value)(g:List DictEntry)(tb:List Value):S:=match decide (x = "__name__") with
 | true=>⟨t,n,k+1,v,g,tb⟩
 | false=>⟨t,n,k+1,nm,en P x k v::g,tb⟩
def lay1(P:Params):Stmt->S->S
 | .FunctionDef name args body _ _ _ sc _ _ pos,⟨t,n,k,nm,g,tb⟩=>match layF name name args body sc pos.line n k nm with
  | (os,c,j)=>⟨insL os t n,n+os.length,j+1,nm,en P name j (.ref (c+1))::g,.ref c :: .int pos.col 0 :: .int pos.line 0::tb⟩
 | .ClassDef name bases _ body _ _ _ _ _ st pos,s=>layC P name bases body st pos.line s
 | .Assign [.Name x _] (.Constant (.str v) _ _) _,⟨t,n,k,nm,g,tb⟩=>put P x (.str v k) t n (k+1) nm g tb
 | .Assign [.Name x _] (.Constant (.int v) _ _) _,⟨t,n,k,nm,g,tb⟩=>put P x (.int v k) t n (k+1) nm g tb
 | .Assign [.Name x _] (.Dict ks vs _) _,⟨t,n,k,nm,g,tb⟩=>put P x (.ref n) (t.ins n (dicO (keysD P g ks vs k) vs.length)) (n+1) (k+2 * vs.length) nm g tb
 | _,s=>s
def lay(P:Params):List Stmt->S->S
 | [],s=>s
 | st::r,s=>lay P r (lay1 P st s)
def s0(os:List Obj):S :=
 ⟨insL [tupO [],fldO .none [],codeO "<module>" "<module>" 182 1 0 0 false 11 .none .none .none 185,frmO 13 3 (.str "__main__" 164)] (insL os .nil 0) 11,15,187,.str "__main__" 164,[],[]⟩
def nameTo(nm:Value):List DictEntry->List DictEntry
 | e::es=>{ e with val:=nm }::es
 | []=>[]
def mainTo(nm:Value)(g:List DictEntry):Obj->Obj
 | ⟨c,d,.dict es e,sl⟩=>⟨c,d,.dict (nameTo nm es.toList++g.reverse).toArray (e+g.length),sl⟩
 | o=>o
def S.bt(s:S):BT:=(s.t.set 3 (mainTo s.nm s.g)).set 12 λ_=>fldO .none s.tb.reverse
open PyProof.Rows
def z0:Pos:=⟨0,0,0,0⟩
def an:Option Value:=some (.ref 6)
def ev(p:Program):Env:={ scope:=p.main.scope,locals:=mainNs,globals:=mainNs,cells:=[],code:=.ref 13,frame:=some 14 }
def cd(p:Program):Code:=.body (behindTheImports p) (ev p)
def go(tb:String->Option Builtin)(p:Program)(w:World)(F:Nat):List Stmt->SharedT->Code->Pos->Option (SharedT×Code×Pos)
 | [],s,c,q=>some (s,c,q)
 | st::l,s,c,q=>match segRunT tb p w 11 an 1 F s (pieceOf st (ev p) c q [topFrame z0]) with
  | some (.next,s',c',q')=>go tb p w F l s' c' q'
  | _=>none
def ns(F N:Nat):List Stmt->Nat
 | []=>N
 | _::l=>F+ns F N l
section
variable {tb:String->Option Builtin}{p:Program}{w:World}
theorem one{n N:Nat}{s s' r:Shared}{st:Stmt}{aU:List Stmt}{c c':Code}{e:Env}{q q':Pos}(h:segRun tb p w 11 an 1 n s (pieceOf st e c q [topFrame z0])=some (.next,s',c',q'))(k:topRun tb p w 11 an N s' (restOf aU e c' q' [topFrame z0])=some r):topRun tb p w 11 an (n+N) s (restOf (st::aU) e c q [topFrame z0])=some r:=by
 obtain ⟨a,ha,hN⟩:=seg_top (B:=[topFrame z0]) (res:=id)
  (K':=λf=>match f with
   | .next=>(execs aU e).wrap doneF (leaveH e) id id
   | f=>doneF f)
  (H':=leaveH e) rfl n s (pieceOf st e c q [topFrame z0])
  ⟨(exec st e).wrap (λf=>match f with
   | .next=>(execs aU e).wrap doneF (leaveH e) id id
   | f=>doneF f) (leaveH e) id id,c,q,[topFrame z0]⟩ _ _ _ _ ⟨rfl,rfl,.inl ⟨rfl,rfl,_,rfl,rfl⟩⟩ h
 cases ha;unfold restOf;rw[execs_cons_wrap];exact hN N r k
theorem go_top'{F:Nat}:∀ (l:List Stmt) {s s':SharedT} {c c':Code} {q q':Pos},go tb p w F l s c q=some (s',c',q')->∀ {N:Nat} {r:Shared} {aU:List Stmt},topRun tb p w 11 an N s'.abs (restOf aU (ev p) c' q' [topFrame z0])=some r->topRun tb p w 11 an (ns F N l) s.abs (restOf (l++aU) (ev p) c q [topFrame z0])=some r
 | [],_,_,_,_,_,_,h,_,_,_,k=>by cases h;exact k
 | st::l,s,s',c,c',q,q',h,N,r,aU,k=>by
  unfold go at h;split at h
  . rename_i x e;exact one (segRun_of e) (go_top' l h k)
  . cases h
theorem fin2(s:Shared)(c:Code)(q:Pos):topRun tb p w 11 an 2 s (restOf [] (ev p) c q [topFrame z0])=some s:=by obtain ⟨h,g,d,k,o⟩:=s;rfl
noncomputable def sh(P:Params)(S:S)(n k:Nat)(os:OsState):SharedT:=⟨S.bt,n,(boot_heap P).life,#[],boot_drawn,k,os⟩
noncomputable def sA(P:Params):S:=s0 (boot_heap P).objs.toList
theorem run_of{l:List Stmt}{n k:Nat}{c':Code}{q':Pos}(hl:behindTheImports p=l)(pre:∀ (w:World) (os:OsState),topGo treeTable p w 11 an 12 ⟨boot_heap w.params,#[],boot_drawn,boot_toks,os⟩ (topStub p)=some ((sh w.params (sA w.params) 15 187 os).abs,⟨denote treeTable (cd p),cd p,z0,[topFrame z0]⟩))(blk:∀ (w:World) (s:Shared),segRun treeTable p w 11 an 1 1 s (blockOf l (ev p) (cd p) z0 [topFrame z0])=some (.next,s,cd p,z0))(run:∀ (w:World) (os:OsState),go treeTable p w 1000 l (sh w.params (sA w.params) 15 187 os) (cd p) z0=some (sh w.params (lay w.params l (sA w.params)) n k os,c',q')):∀ (w:World) (os:OsState),topRun treeTable p w 11 an (12+(1+ns 1000 2 l)) ⟨boot_heap w.params,#[],boot_drawn,boot_toks,os⟩ (topStub p)=some (sh w.params (lay w.params l (sA w.params)) n k os).abs:=by
 intro w os;refine go_top (pre w os) ?_;unfold cd;rw[hl];refine piece_block (n:=1) (by have:=blk w (sh w.params (sA w.params) 15 187 os).abs;unfold cd at this;rw[hl] at this;exact this) ?_
 have:=go_top' l (run w os) (aU:=[]) (fin2 _ _ _);rw[aTO] at this;unfold cd at this;rw[hl] at this;exact this
end
noncomputable def KK(l:List Stmt)(as:List Addr)(P:Params):Frag:=as.map λa=>(a,((lay P l (sA P)).bt.get a).getD default)
theorem KK_e(l:List Stmt)(as:List Addr)(P:Params):as=(KK l as P).map (·.1):=by unfold KK;rw[aWM];exact (List.map_id as).symm
noncomputable def hk(l:List Stmt)(as:List Addr):Hook:=kHook (KK l as) as (KK_e l as)
noncomputable def H1(l:List Stmt)(n:Nat)(P:Params):Heap:=absHeap (lay P l (sA P)).bt n (boot_heap P).life
noncomputable def S1(l:List Stmt)(n k:Nat)(P:Params)(os:OsState):Shared:=⟨H1 l n P,#[],boot_drawn,k,os⟩
def bnd(n:Str):Stmt->List Str
 | .FunctionDef x ..=>if x==n then [] else [x]
 | .ClassDef x ..=>[x]
 | .Assign [.Name x _] _ _=>if x == "__name__" then [] else [x]
 | _=>[]
def los(l:List Stmt):List Str:=l.flatMap (bnd "law")
def vw(p:Program):Program:={ p with main:={ p.main with body:=p.main.body.filter λst=>match st with | .FunctionDef x ..=>x == "law" | _=>false } }
def xt(r:OpenRow)(s:Shared):Bool:=xlAt (vw r.prog) [] s&&recOk r.toRowW.records s
theorem size1(w:World):((boot_heap w.params).isNs mainGlobals&&(#[]:Array GenState).size==0,(boot_heap w.params).objs.size,(boot_heap w.params).nsMap mainGlobals "__annotations__")=(true,11,an):=by kernel_rfl
end Tp
theorem Tp.twA:Prod.fst (true,(@Tp.go,@Tp.lay,@Tp.sh,@Tp.sA,@Tp.cd,@Tp.ev,@Tp.S.bt,@Tp.KK,@Tp.hk,@Tp.H1,@Tp.S1,@Tp.los,@Tp.vw,@Tp.xt))=true:=by k_qdec
namespace D3
open PySem PySem.Spec PySem.Calls PyProof.Rows L2
theorem z5:∀ {ps:List Str} {us:List Value},ps.Nodup->us.length=ps.length->ps.filterMap (λn=>((ps.zip us).lookup n).map (n,·))=ps.zip us/\∀ n∈ps,((ps.zip us).lookup n).isNone=false
 | [],us,_,_=>⟨rfl,λ_ h=>by cases h⟩
 | p::ps,[],_,h=>by cases h
 | p::ps,u::us,nd,h=>by
  obtain ⟨h1,h2⟩:=aTP.mp nd;obtain ⟨i1,i2⟩:=z5 (us:=us) h2 (Nat.succ.inj h);have e:∀ n∈ps,((p,u)::ps.zip us).lookup n=(ps.zip us).lookup n:=λn hn=>by rw[aUT];have:(n==p)=false:=aR7.mpr λz=>h1 (z ▸ hn);rw[this]
  refine ⟨?_,λn hn=>?_⟩
  . rw[aV0,aSK,aUT,aVI];dsimp only[Option.map];refine congrArg _ (Eq.trans ?_ i1);have c:∀ l:List Str,(∀ n∈l,n∈ps)->l.filterMap (λn=>(((p,u)::ps.zip us).lookup n).map (n,·))=l.filterMap (λn=>((ps.zip us).lookup n).map (n,·)):=by
      intro l hl
      induction l with
      | nil=>rfl
      | cons a l ih=>rw[aSK,aSK,e a (hl a mcs),ih λn hn=>hl n (mcm hn)]
    exact c ps λ_ h=>h
  . rw[aV0];rcases aSL.mp hn with rfl | hn
    . rw[aUT,aVI];rfl
    . rw[e n hn];exact i2 n hn
theorem aOX{fd:FuncData}{ps:List Str}(h1:fd.params.posonlyargs=[])(h2:fd.params.args.map (·.arg)=ps)(h3:fd.params.vararg=none)(h4:fd.params.kwonlyargs=[])(h5:fd.params.kwarg=none)(hd:fd.defaults=.none)(h6:ps.Nodup)(us:List Value)(hl:us.length=ps.length):bindArgs fd ⟨us,[]⟩=pure (ps.zip us):=by
 obtain ⟨z1,z2⟩:=z5 h6 hl;have z3:(ps.take (ps.length-0)).filter (λn=>((ps.zip us).lookup n).isNone)=[]:=by rw[Nat.sub_zero,aWI,List.filter_eq_nil_iff];intro n hn;rw[z2 n hn];decide
 unfold bindArgs;simp only[h1,h2,h3,h4,h5,hd,aUR,aWL,aTO,aVF,aVH,hl,aSD,seqItems?];have q:(do notAStandIn Value.none;pure none:Sem (Option (Array Value)))=pure none:=rfl
 rw[q];simp only[aVH,aUJ,aUP,Nat.zero_sub,aVV,z3,decide_false,Bool.false_and,aVJ,aT7,List.isEmpty_nil,aWZ,List.zip_nil_right,aVF,z1,Array.toList_empty,List.drop_nil]
noncomputable def adB(K:Fg)(x:Str):Option Addr:=match PySem.W.nsIn K mainGlobals x with | some (some (.ref a))=>some a | _=>none
theorem eU{K:Fg}{x:Str}{a:Addr}(h:adB K x=some a):PySem.W.nsIn K mainGlobals x=some (some (.ref a)):=by
 unfold adB at h;split at h
 . rename_i b e;cases h;exact e
 . cases h
noncomputable def isKey(key:Str):Addr×Obj->Bool
 | (_,⟨.type t,_,.func fd,_⟩)=>t == "function" && fd.qualname==key
 | _=>false
noncomputable def faK(K:Fg)(key:Str):Addr:=match K.find? (isKey key) with | some p=>p.1 | none=>0
noncomputable def stOf(fd:FuncData)(b:List Stmt):Stmt:=.FunctionDef fd.name fd.params b [] none [] fd.scope none fd.name ⟨0,0,0,0⟩
noncomputable def parB(p:Arguments)(ps:List Str):Bool:=p.posonlyargs.isEmpty&&(p.args.map (·.arg)==ps)&&p.vararg.isNone&&p.kwonlyargs.isEmpty&&p.kwarg.isNone&&decide ps.Nodup
noncomputable def fdB(K:Fg)(nm:Option Str)(key:Str)(a:Addr)(ps:List Str)(f:Stmt->Bool)(fd:FuncData)(b:List Stmt):Bool :=
 (nm.getD fd.name==fd.name)&&((fd.qualname==key)&&(fd.globals==mainGlobals&&(fd.closure.isEmpty&&((fd.defaults == .none)&&(fd.builtins==builtinsNs&&(PySem.W.codeIn K fd.code key&&(PySem.W.keepIn K (.ref a)&&(parB fd.params ps&&f (stOf fd b)))))))))
noncomputable def kL(K:Fg)(nm:Option Str)(key:Str)(a:Addr)(ps:List Str)(f:Stmt->Bool):Bool:=match K.lookup a with
 | some ⟨_,_,.func fd,_⟩=>(match fd.body with
  | .stmts b=>fdB K nm key a ps f fd b
  | _=>false)
 | _=>false
theorem sU{K:Fg}{nm:Option Str}{key:Str}{a:Addr}{ps:List Str}{f:Stmt->Bool}(h:kL K nm key a ps f=true):∃ name st fd,Fun K name key st a fd/\fL K fd ps []/\f st=true/\nm.getD name=name/\∀ us:List Value,us.length=ps.length->bindArgs fd ⟨us,[]⟩=pure (ps.zip us):=by
 unfold kL at h;split at h
 . rename_i oc od fd sl el;split at h
   . rename_i b eb;unfold fdB at h;simp only[aUG] at h;obtain ⟨h1,h2,h3,h4,h5,h6,h7,h8,h9,h10⟩:=h;obtain ⟨name,qualname,params,body,scope,globals,closure,defaults,kwdefaults,doc,pm,an,code,ct,bl⟩:=fd;dsimp only at *;obtain rfl:=eb;obtain rfl:=aTC.mp h2;obtain rfl:=aTC.mp h3;obtain rfl:=List.isEmpty_iff.mp h4;obtain rfl:=aTC.mp h5;obtain rfl:=aTC.mp h6;unfold parB at h9;simp only[aUG,List.isEmpty_iff,aTC,Option.isNone_iff_eq_none,aUU] at h9;obtain ⟨⟨⟨⟨⟨p1,p2⟩,p3⟩,p4⟩,p5⟩,p6⟩:=h9;have bp:=aOX (fd:=PySem.W.fnOf name qualname params b scope .none kwdefaults doc pm an code ct) p1 p2 p3 p4 p5 rfl p6;exact ⟨name,_,_,aGB (st:=stOf ⟨name,qualname,params,.stmts b,scope,mainGlobals,[],.none,kwdefaults,doc,pm,an,code,ct,builtinsNs⟩ b) el h7 h8,.all bp,h10,aTC.mp h1,bp⟩
   . cases h
 . cases h
noncomputable def gvB(K:Fg)(x:Str):GV->Bool
 | .con (.s y)=>(match PySem.W.nsIn K mainGlobals x with | some (some (.str z _))=>z==y | _=>false)
 | .con (.i n)=>(match PySem.W.nsIn K mainGlobals x with | some (some (.int z _))=>z==n | _=>false)
 | .con (.t _)=>true
 | .no=>PySem.W.nsIn K mainGlobals x==some none
 | .fn _=>PySem.W.nsIn K mainGlobals x==some (some (.ref (faK K x)))
 | .cls=>true
noncomputable def oU(K:Fg)(C:Addr):Bool:=PySem.W.plainGet K C Str.empty&&(PySem.W.hasDictIn K C&&(PySem.W.plainOver K C&&PySem.W.findIn K (.ref C) "__setattr__" == some (some (.builtin "object.__setattr__"))))
theorem z6{K:Fg}{C:Addr}(h:oU K C=true):Cls K C:=by unfold oU at h;simp only[aUG,aTC] at h;exact ⟨h.1,h.2.1,h.2.2.1,h.2.2.2⟩
noncomputable def sV(K:Fg)(C:Addr)(x:Str×Str×Nat):Bool:=PySem.W.findIn K (.ref C) x.1==some (some (.ref (faK K x.2.1)))&&(PySem.W.isFn K (.ref (faK K x.2.1))&&PySem.W.keepIn K (.ref (faK K x.2.1)))
noncomputable def ciB(K:Fg)(i:CI):Bool:=match adB K i.name with
 | some C=>oU K C&&(i.meths.all (sV K C)&&i.flds.all λf=>PySem.W.findIn K (.ref C) f==some none)
 | none=>false
noncomputable def mk0B(K:Fg)(c:Str):Bool:=match adB K c with
 | some C=>PySem.W.makesIn K C&&(PySem.W.findIn K (.ref C) "__init__" == some (some (.builtin "object.__init__"))&&PySem.W.keepIn K (.ref C))
 | none=>false
noncomputable def clB(K:Fg)(C:Addr):Bool:=PySem.W.findIn K (.ref C) "__class__" == some (some (.builtin "object.__class__"))&&(PySem.W.specialIn K (.builtin "object.__class__") "__get__" == some (some (.builtin "getset_descriptor.__get__"))&&(PySem.W.takesIn K (.builtin "object.__class__")==some true&&PySem.W.mroIn K C (.type "object")==some true))
noncomputable def isoB(K:Fg)(cl:List CI)(c:Str):Bool:=match adB K c with
 | some C=>["NoneType", "bool", "int", "str", "tuple", "list", "dict"].all (λt=>PySem.W.kitOne K (.type t) (.ref C)==some false)&&cl.all λi=>match adB K i.name with
  | some C'=>oU K C'&&(clB K C'&&PySem.W.kitOne K (.ref C') (.ref C)==some (i.ups.contains c))
  | none=>false
 | none=>false
noncomputable def inB(K:Fg)(g:MG)(x:Str×ID):Bool:=match adB K x.2.c with
 | some C=>PySem.W.makesIn K C&&(PySem.W.findIn K (.ref C) "__init__" == some (some (.ref (faK K x.1)))&&(PySem.W.isFn K (.ref (faK K x.1))&&(PySem.W.keepIn K (.ref C)&&kL K none x.1 (faK K x.1) x.2.ps (λst=>idOk g st x.2))))
 | none=>false
noncomputable def xtB(K:Fg)(x:(Str×Str)×Bool):Bool:=match adB K x.1.1,adB K x.1.2 with
 | some C,some C2=>PySem.W.mroIn K C2 (.type "BaseException")==some true&&(PySem.W.typeIn K (.ref C2)==some (.type "type")&&PySem.W.mroIn K C (.ref C2)==some x.2)
 | _,_=>false
noncomputable def xcB(K:Fg)(C:Addr):Bool:=PySem.W.findIn K (.ref C) "__getattribute__" == some (some (.builtin "BaseException.__getattribute__"))&&(PySem.W.findIn K (.ref C) "__getattr__" == some none&&(PySem.W.mroIn K C (.type "BaseException")==some true&&clB K C))
noncomputable def cvB(K:Fg)(n:Str):Option V:=match PySem.W.nsIn K mainGlobals n with
 | some (some (.ref C))=>some (.ref C)
 | some none=>if n == "__name__" then none else (match bootBuiltins n with | some (.type T)=>some (.ty T) | _=>none)
 | _=>none
noncomputable def xiB(K:Fg)(x:(Str×Str)×Bool):Bool:=match adB K x.1.1,cvB K x.1.2 with
 | some C,some cv=>xcB K C&&PySem.W.kitOne K (.ref C) (xD cv)==some x.2
 | _,_=>false
noncomputable def rzB(K:Fg)(c:Str):Bool:=match adB K c with
 | some C=>PySem.W.excIn K C vErr "ValueError.__new__"
 | none=>false
noncomputable def gfB(K:Fg)(g:MG)(t:TB):Bool :=
 g.G.all (λx=>gvB K x.1 x.2)&&(gOk g.G t.T&&(t.T.all (λx=>kL K (if x.1 == "law" then some "law" else none) x.1 (faK K x.1) x.2.ps (λst=>jF g st x.2))&&(t.I.all (inB K g)&&(g.mk0.all (mk0B K)&&(zR g.mki t.I&&(g.iso.all (isoB K t.cl)&&(t.cl.all (ciB K)&&(mtOk t.cl t.T&&(t.xt.all (xtB K)&&(t.xi.all (xiB K)&&(g.xcs.all (rzB K)&&g.xns.all (λn=>(cvB K n).isSome))))))))))))
section
variable {w:World}{K:Fg}{mg:SOV}{h:Heap}(X:K.In h)(G:h.Ns mainGlobals mg)
include X G
theorem z7:∀ {l:List (Str×GV)},(∀ x tb,(x,GV.con (.t tb))∈l->j5 w K mg x tb)->l.all (λx=>gvB K x.1 x.2)=true->l5 w K mg (faK K) l
 | [],_,_=>trivial
 | (x,v)::l,ht,b=>by
  rw[aVT,aUG] at b;refine ⟨?_,z7 (λx tb hx=>ht x tb (mcm hx)) b.2⟩;have b:=b.1;dsimp only at b;cases v with
  | con c =>
   cases c with
   | s y =>
    have b:(match PySem.W.nsIn K mainGlobals x with | some (some (.str z _))=>z==y | _=>false)=true:=b
    split at b
    . rename_i z t e;cases aTC.mp b;exact ⟨t,aYB X G e⟩
    . cases b
   | i y =>
    have b:(match PySem.W.nsIn K mainGlobals x with | some (some (.int z _))=>z==y | _=>false)=true:=b
    split at b
    . rename_i z t e;cases aTC.mp b;exact ⟨t,aYB X G e⟩
    . cases b
   | t tb=>exact ht x tb mcs
  | fn n=>exact aYB X G (aTC.mp b)
  | no=>exact PySem.W.mg_none_of X G (aTC.mp b)
  | cls=>trivial
theorem z8{n:Str}{cv:V}(e:cvB K n=some cv):nZ mg n cv:=by
 unfold cvB at e;split at e
 . rename_i C q;cases e;exact .inl ⟨C,aYB X G q,rfl⟩
 . rename_i q;split at e
   . cases e
   . rename_i hn;split at e
     . rename_i T hb;cases e;exact .inr ⟨PySem.W.mg_none_of X G q,by simpa using hn,T,hb,rfl⟩
     . cases e
 . cases e
end
theorem z9{K:Fg}{g:MG}:∀ {l:List (Str×FD)},l.all (λx=>kL K (if x.1 == "law" then some "law" else none) x.1 (faK K x.1) x.2.ps (λst=>jF g st x.2))=true->l0 K g (faK K) l
 | [],_=>trivial
 | (x,d)::l,b=>by rw[aVT,aUG] at b;obtain ⟨name,st,fd,F,hb,ok,_,_⟩:=sU b.1;exact ⟨⟨name,st,fd,F,hb,ok⟩,z9 b.2⟩
theorem aAA{K:Fg}{C:Addr}:∀ {l:List (Str×Str×Nat)},l.all (sV K C)=true->kH K (faK K) C l
 | [],_=>trivial
 | (m,key,n)::l,b=>by rw[aVT,aUG] at b;have b1:=b.1;unfold sV at b1;simp only[aUG,aTC] at b1;exact ⟨⟨b1.1,b1.2.1,b1.2.2⟩,aAA b.2⟩
theorem aAB{K:Fg}{C:Addr}:∀ {l:List Str},l.all (λf=>PySem.W.findIn K (.ref C) f==some none)=true->kI K C l
 | [],_=>trivial
 | f::l,b=>by rw[aVT,aUG] at b;exact ⟨aTC.mp b.1,aAB b.2⟩
theorem aAC{K:Fg}:∀ {l:List CI},l.all (ciB K)=true->l6 K (faK K) l
 | [],_=>trivial
 | i::l,b=>by
  rw[aVT,aUG] at b;refine ⟨?_,aAC b.2⟩;have b:=b.1;unfold ciB at b;split at b
  . rename_i C e;simp only[aUG] at b;exact ⟨C,eU e,z6 b.1,aAA b.2.1,aAB b.2.2⟩
  . cases b
section
variable {w:World}{K:Fg}{mg:SOV}{h:Heap}(X:K.In h)(G:h.Ns mainGlobals mg)
include X G
theorem aAD{g:MG}:∀ {l:List (Str×ID)},l.all (inB K g)=true->l3 K mg g l
 | [],_=>trivial
 | (x,d)::l,b=>by
  rw[aVT,aUG] at b;refine ⟨?_,aAD b.2⟩;have b:=b.1;unfold inB at b;split at b
  . rename_i C e;simp only[aUG,aTC] at b;obtain ⟨b1,b2,b3,b4,b5⟩:=b;obtain ⟨name,st,fd,F,hb,ok,_,_⟩:=sU b5;exact ⟨name,st,C,_,fd,eU e,aYB X G (eU e),⟨b1,b2,b3,b4⟩,F,hb,ok⟩
  . cases b
omit X G in
theorem sW{c x:Str}{v:Bool}:∀ {l:List ((Str×Str)×Bool)},l.lookup (c,x)=some v->((c,x),v)∈l
 | [],e=>by cases e
 | (y,b)::l,e=>by
  rw[aUT] at e;split at e
  . rename_i hb;cases e;rw[<- aTC.mp hb];exact mcs
  . exact mcm (sW e)
theorem xt_of{l:List ((Str×Str)×Bool)}(b:l.all (xtB K)=true):rD K mg (λc x=>l.lookup (c,x)):=λc x v e=>by
 have b:=aU4.mp b ((c,x),v) (sW e);unfold xtB at b;split at b
 . rename_i C C2 e1 e2;simp only[aUG,aTC] at b;exact ⟨C,C2,eU e1,aYB X G (eU e1),aYB X G (eU e2),b.1,b.2.1,b.2.2⟩
 . cases b
theorem xi_of{l:List ((Str×Str)×Bool)}(b:l.all (xiB K)=true):rE K mg (λc x=>l.lookup (c,x)):=λc x v e=>by
 have b:=aU4.mp b ((c,x),v) (sW e);unfold xiB at b;split at b
 . rename_i C cv e1 e2;unfold xcB clB at b;simp only[aUG,aTC] at b;obtain ⟨⟨b1,b2,b3,b4,b5,b6,b7⟩,b8⟩:=b;exact ⟨C,cv,eU e1,⟨b1,b2,b4,b3,b7,b5,b6⟩,z8 X G e2,b8⟩
 . cases b
theorem gf_of{g:MG}{t:TB}(b:gfB K g t=true)(ht:∀ x tb,(x,GV.con (.t tb))∈g.G->j5 w K mg x tb):GF w K mg g t (faK K):=by
 unfold gfB at b;simp only[aUG] at b;obtain ⟨b1,b2,b3,b4,b5,b6,b7,b8,b9,b10,b11,b12,b13⟩:=b;refine ⟨z7 X G ht b1,b2,z9 b3,aAD X G b4,λc hc=>?_,b6,λc hc=>?_,aAC b8,b9,xt_of X G b10,xi_of X G b11,λc hc=>?_,λn hn=>?_⟩
 . have b:=aU4.mp b5 c hc;unfold mk0B at b;split at b
   . rename_i C e;simp only[aUG,aTC] at b;exact ⟨C,eU e,aYB X G (eU e),b.1,b.2.1,b.2.2⟩
   . cases b
 . have b:=aU4.mp b7 c hc;unfold isoB at b;split at b
   . rename_i C e;rw[aUG] at b;refine ⟨C,aYB X G (eU e),λt ht=>aTC.mp (aU4.mp b.1 t ht),λi hi=>?_⟩;have b:=aU4.mp b.2 i hi;split at b
     . rename_i C' e';unfold clB at b;simp only[aUG,aTC] at b;obtain ⟨c1,⟨c2,c3,c4,c5⟩,c6⟩:=b;exact ⟨C',eU e',z6 c1,c2,c3,c4,c5,c6⟩
     . cases b
   . cases b
 . have b:=aU4.mp b12 c hc;unfold rzB at b;split at b
   . rename_i C e;exact ⟨C,aYB X G (eU e),b⟩
   . cases b
 . have b:=aU4.mp b13 n hn;cases e:cvB K n with
   | none=>rw[e] at b;cases b
   | some cv=>exact ⟨cv,z8 X G e⟩
end
noncomputable def sX(K:Fg)(g:MG)(t:TB):Bool:=gfB K g t&&PySem.W.nsIn K mainGlobals "law" == some (some (.ref (faK K "law")))
theorem aAE{x:Str}{d:FD}:∀ {l:List (Str×FD)},l.lookup x=some d->(x,d)∈l
 | [],e=>by cases e
 | (y,b)::l,e=>by
  rw[aUT] at e;split at e
  . rename_i hb;cases e;rw[<- aTC.mp hb];exact mcs
  . exact mcm (aAE e)
noncomputable def noT(g:MG):Bool:=g.G.all λx=>match x.2 with | .con (.t _)=>false | _=>true
theorem aOY{g:MG}{K:Params->Fg}(b:noT g=true)(w:World)(mg:SOV)(h:Heap)(_:(K w.params).In h)(_:h.Ns mainGlobals mg)(x:Str)(tb:List (Str×Str))(hm:(x,GV.con (.t tb))∈g.G):j5 w (K w.params) mg x tb:=by have:=aU4.mp b _ hm;cases this
theorem walkG{l:PySem.W.OpenLaw}{q:Program}{loose:List Str}{XP:(Str->Option Value)->Heap->Prop}{YP:World->Heap->Prop}{d:DefRec}{K:Params->Fg}{g:MG}{t:TB}{kk:Nat}{x:Str}{e:FD}(hn:l.most=some 63)(hdf:d.params.defaults=[])(hdn:d.name = "law")(hY:∀ (w:World) (h:Heap),YP w h->(K w.params).In h)(b:∀ P,sX (K P) g t=true)(ht:∀ (w:World) (mg:SOV) (h:Heap),(K w.params).In h->h.Ns mainGlobals mg->∀ x tb,(x,GV.con (.t tb))∈g.G->j5 w (K w.params) mg x tb)(hT:t.T.lookup ("law" : Str)=some e)(hps:e.ps=[x])(hr:cP (kk+1) callerA)(main:∀ ns:List Int,ns.length<=63->(WT t (kk+1)).Φ "law" (nR ns)=.ok .fz (.bl true)):PySem.W.WalkO q loose XP YP l.row.toRowW d [] (λf vs=>PySem.call f vs):=by
 refine L2.aGA (n:=63) (k:=kk+1) (x:=x) (CX:=λw=>CX1 l.prog w) (sp:=λw=>sQ (K w.params) ((WT t (kk+1)).Φ ("law" : Str))) hn (by decide) hdf hr hY (λw mg fa h KX G hmg=>?_)
  (λ_ _ a ns hl _ hS=>⟨a,ns,rfl,hS,main ns hl,λ_=>rfl⟩) λ_ _ _ _ _ z=>by obtain ⟨_,_,_,_,_,_,_,_,_,_,z⟩:=z;exact z
 have b:=b w.params;unfold sX at b;rw[aUG,aTC] at b;have f:=gf_of (w:=w) KX G b.1 (ht w mg h KX G);have e1:=aYB KX G b.2;rw[hdn,e1] at hmg;cases hmg;have b3:t.T.all (λx=>kL (K w.params) (if x.1 == "law" then some "law" else none) x.1 (faK (K w.params) x.1) x.2.ps (λst=>jF g st x.2))=true:=by have:=b.1;unfold gfB at this;simp only[aUG] at this;exact this.2.2.1
 obtain ⟨name,st,fd,F,hb,ok,hnm,bp⟩:=sU (aU4.mp b3 (("law" : Str),e) (aAE hT));have hnm:name = "law" := hnm.symm;subst hnm;refine ⟨fd,λs u=>.of_eq ?_,λbase _ _=>?_⟩
 . have:=bp [u] (by rw[hps];rfl)
   rw[hps] at this;exact this
 . have:=aOV (P:=l.prog) (base:=base) f kk F hT ok (by rw[hps];rfl)
   rw[hps] at this;exact this
end D3
namespace Tp
open PySem PySem.W PySem.Calls PyProof.Rows
theorem left{p:Program}{r:OpenRow}{l:List Stmt}{n k:Nat}{as:List Addr}{c':Code}{q':Pos}(hl:behindTheImports p=l)(pre:∀ (w:World) (os:OsState),topGo treeTable p w 11 an 12 ⟨boot_heap w.params,#[],boot_drawn,boot_toks,os⟩ (topStub p)=some ((sh w.params (sA w.params) 15 187 os).abs,⟨denote treeTable (cd p),cd p,z0,[topFrame z0]⟩))(blk:∀ (w:World) (s:Shared),segRun treeTable p w 11 an 1 1 s (blockOf l (ev p) (cd p) z0 [topFrame z0])=some (.next,s,cd p,z0))(run:∀ (w:World) (os:OsState),go treeTable p w 1000 l (sh w.params (sA w.params) 15 187 os) (cd p) z0=some (sh w.params (lay w.params l (sA w.params)) n k os,c',q'))(le:Nat.ble (12+(1+ns 1000 2 l)) 1000000=true)(e1:opening p=plainProg p.main.scope.names)(e2:∀ s,fenceModules? p s=some s)(uP:∀ w:World,(λos=>((staticsOk (importedModules p.main.body) (boot_heap w.params) (H1 l n w.params)&&namesBound p (H1 l n w.params)&&gensDone (S1 l n k w.params os)&&laidKept (boot_heap w.params) (H1 l n w.params)),openSeen (vw p) (los l) (importedModules p.main.body) (xt r) true (S1 l n k w.params os),(hk l as).obs (S1 l n k w.params os)))=λ_=>(true,openGood (vw p) (los l),(hk l as).val w)):LeftO p (vw p) (los l) (xt r) (hk l as).obs (hk l as).val 1000000 :=
 LeftO.of_pieces (H₀:=boot_heap) (H₁:=H1 l n) (m₀:=11) (ann:=an) (boot_open e1 rfl e2) size1 (run_of hl pre blk run) le uP
theorem head{p:OpenLaw}{l:List Stmt}{as:List Addr}{d:DefRec}(left:LeftO p.prog (vw p.prog) (los l) (xt p.row) (hk l as).obs (hk l as).val 1000000)(said:p.row.wellSaid=true)(h1:defOf (vw p.prog) p.name=some (d,[]))(h2:p.prog.theDef p.name=some (d.params,d.body,d.scope))(h3:kwWritten? d.params.kwonlyargs d.params.kw_defaults=some [])(h4:(!p.row.writes||p.row.records.isEmpty)=true)(ok:(chainsOk (vw p.prog)&&opensWell p.prog&&(frees p.row.toRowW&&p.row.within.isEmpty))=true)(hb:p.prog.bare)(hw:p.row.toRowW.promised)(call:WalkO (vw p.prog) (los l) (XL (vw p.prog) []) (hk l as).says p.row.toRowW d [] λf vs=>PySem.call f vs):p.row.Holds :=
 holds_open (r:=p.row) (XP:=XL (vw p.prog) []) (YP:=(hk l as).says) left (hk l as).of (hk l as).keeps (λs e=>xl_of s (Bool.and_eq_true_iff.mp e).1) XL.keeps h1 h2 h3
  (λs e=>recFacts_of (Bool.and_eq_true_iff.mp e).2) h4 said ok hb hw call
end Tp
namespace K07
open PySem L2 D3
def jG:List D3.S:=[.ite (.not (.tru (.callO "has_one_within" 2 [(.var 2),(.var 1)]))) [.app 1 (.var 2)] []]
def iP:List D3.S:=[.ite (.cmp .Eq (.bin .BitAnd (.var 2) (.var 0)) (.var 2)) [.ret (.bl true)] []]
def l8:List D3.S:=[.dput 1 (.var 3) (.var 2),.set 2 (.frz (.bin .Mult (.int 2) (.var 2)))]
def jH:List D3.S:=[.ite (.not (.tru (.bcall .any [(.comp (.andL [(.cmp .Eq (.bin .BitAnd (.var 1) (.var 0)) (.var 1)),(.cmp .NotEq (.var 1) (.var 0))]) (.items (.var 0)) [] [2] (.nm 1) 1)]))) [.dput 1 (.var 2) (.bl true)] []]
def kM:List D3.S:=[.extn 2 (.comp (.bin .BitOr (.var 0) (.var 1)) (.items (.var 1)) [] [3] (.nm 1) 1)]
def l9:List D3.S:=[.ite (.orL [(.not (.tru (.bcall .isinstance [(.var 2),(.ty .tuple)]))),(.not (.tru (.bcall .all [(.comp (.bcall .isinstance [(.var 0),(.ty .str)]) (.items (.var 2)) [] [] (.nm 0) 1)])))]) [.ret (.bl false)] []]
def jI:List D3.S:=[.set 3 (.ix (.lst [(.var 5),(.frz (.bin .Add (.bin .Add (.var 3) (.str "*")) (.var 5)))]) (.tcall .int [(.cmp .Gt (.var 4) (.int 0))]))]
def mD:List D3.S:=[.set 3 (.str "1"),.for (.enum1 (.var 2)) (.tp [(.nm 4),(.nm 5)]) jI,.app 1 (.var 3)]
def dO:List D3.S:=[.set 5 (.frz (.call "_law_few" 1 [(.var 4)])),.ite (.not (.tru (.call "_law_met" 4 [(.var 1),(.var 3),(.var 2),(.var 5)]))) [.ret (.bl false)] [],.ite (.orL [(.cmp .Gt (.bin .Mod (.call "_law_mix" 2 [(.var 4),(.int 9)]) (.int 3)) (.int 0)),(.cmp .Eq (.bcall .len [(.var 2)]) (.int 0))]) [.set 2 (.frz (.call "_law_least" 1 [(.frz (.bin .Add (.var 2) (.var 5)))]))] [.set 2 (.frz (.call "_law_joined" 2 [(.var 2),(.var 5)]))],.set 6 (.frz (.meth (.var 1) "holds" [(.frz (.call "_law_odd" 2 [(.var 3),(.var 4)]))])),.ite (.orL [(.not (.tru (.bcall .isinstance [(.var 6),(.ty .bool)]))),(.tru (.var 6))]) [.ret (.bl false)] []]
def kN:List D3.S:=[.ite (.not (.tru (.bcall .isinstance [(.var 0),(.ty .str)]))) [.ret (.bl false)] [],.ite (.orL [(.cmp .Lt (.bcall .len [(.var 0)]) (.int 1)),(.cmp .Gt (.bcall .len [(.var 0)]) (.glob "LONGEST" (.i 40)))]) [.ret (.bl false)] [],.ret (.andL [(.cmp .In (.ix (.var 0) (.int 0)) (.glob "LETTERS" (.s "abcdefghijklmnopqrstuvwxyz"))),(.bcall .all [(.comp (.call "is_name_sign" 1 [(.var 0)]) (.items (.var 0)) [] [] (.nm 0) 1)])])]
def oV:List D3.S:=[.ret (.orL [(.cmp .In (.var 0) (.glob "LETTERS" (.s "abcdefghijklmnopqrstuvwxyz"))),(.cmp .In (.var 0) (.glob "FIGURES" (.s "0123456789")))])]
def jJ:List D3.S:=[.ite (.orL [(.not (.tru (.bcall .isinstance [(.var 0),(.ty .tuple)]))),(.not (.tru (.bcall .all [(.comp (.call "is_name" 1 [(.var 0)]) (.items (.var 0)) [] [] (.nm 0) 1)])))]) [.ret (.bl false)] [],.ret (.call "is_rising" 1 [(.var 0)])]
def oW:List D3.S:=[.ret (.bcall .all [(.comp (.cmp .Lt (.ix (.var 0) (.var 1)) (.ix (.var 0) (.bin .Add (.var 1) (.int 1)))) (.rng1 (.bin .Sub (.bcall .len [(.var 0)]) (.int 1))) [] [0] (.nm 1) 1)])]
def mH:List D3.S:=[.ite (.cmp .Eq (.var 0) (.tup [])) [.ret (.str "1")] [],.ret (.mt .joinT (.str "*") [(.var 0)])]
def oX:List D3.S:=[.set 1 (.frz (.call "bits_of" 1 [(.var 0)])),.ret (.call "sets_of" 2 [(.frz (.call "least_masks" 1 [(.frz (.call "masks_of" 2 [(.var 0),(.var 1)]))])),(.var 1)])]
def oY:List D3.S:=[.set 1 (.lst []),.for (.items (.usi (.var 0))) (.nm 2) jG,.retV 1]
def mJ:List D3.S:=[.for (.items (.var 1)) (.nm 2) iP,.ret (.bl false)]
def oZ:List D3.S:=[.set 1 .dnew,.set 2 (.int 1),.for (.items (.usc (.var 1) (.items (.var 0)) (.items (.var 0)) [] [])) (.nm 3) l8,.retV 1]
def o3:List D3.S:=[.ret (.comp (.sum1 (.comp (.dix (.var 0) (.var 1)) (.items (.var 1)) [] [0] (.nm 1) 1)) (.items (.var 0)) [] [1] (.nm 1) 1)]
def o4:List D3.S:=[.ret (.tcall .tuple [(.srt (.compC (.tcall .tuple [(.sel [0,1] 0 1 0 1)]) (.items (.var 0)) [] [1]))])]
def o7:List D3.S:=[.set 2 (.frz (.bin .Mod (.bin .Mult (.bin .Add (.bin .Mod (.var 0) (.bin .Pow (.int 10) (.int 60))) (.int 1)) (.bin .Add (.int 48271) (.bin .Mult (.int 130) (.var 1)))) (.int 2147483647))),.ret (.bin .Mod (.bin .Mult (.var 2) (.var 2)) (.int 2147483629))]
def eV:List D3.S:=[.set 2 (.str "abcdefghijklmnopqrstuvwxyz"),.set 3 (.frz (.mt .join (.str "") [(.comp (.ix (.var 0) (.bin .Mod (.call "_law_mix" 2 [(.var 1),(.var 2)]) (.int 26))) (.rng1 (.int 4)) [] [2,0] (.nm 2) 1)])),.set 4 (.frz (.bin .Mod (.call "_law_mix" 2 [(.var 0),(.int 5)]) (.int 4))),.set 5 (.frz (.bin .Mod (.call "_law_mix" 2 [(.var 0),(.int 6)]) (.int 26))),.setC 6 true (.comp (.bin .Add (.bin .Add (.slice (.var 0) none (some (.var 2))) (.ix (.var 1) (.bin .Mod (.bin .Add (.var 3) (.bin .Mult (.int 7) (.var 4))) (.int 26)))) (.slice (.var 0) (some (.bin .Add (.var 2) (.int 1))) none)) (.rng1 (.var 1)) [] [3,2,4,5] (.nm 4) 1),.ite (.cmp .Eq (.bin .Mod (.call "_law_mix" 2 [(.var 0),(.int 7)]) (.int 4)) (.int 0)) [.setC 6 true (.comp (.bin .Add (.var 0) (.bin .Mult (.str "0") (.var 1))) (.rng1 (.var 1)) [] [3] (.nm 1) 1)] [],.ite (.cmp .Eq (.bin .Mod (.call "_law_mix" 2 [(.var 0),(.int 7)]) (.int 4)) (.int 1)) [.setC 6 true (.comp (.bin .Add (.ix (.var 0) (.bin .Mod (.bin .Add (.var 2) (.bin .Mult (.int 7) (.var 3))) (.int 26))) (.slice (.var 1) none (some (.bin .Mod (.bin .Add (.var 2) (.var 3)) (.int 4))))) (.rng1 (.var 1)) [] [2,3,5] (.nm 3) 1)] [],.ret (.srt (.var 6))]
def o8:List D3.S:=[.set 1 .dnew,.for (.items (.var 0)) (.nm 2) jH,.frzV 1,.ret (.dlist (.var 1))]
def o9:List D3.S:=[.set 2 (.lst []),.for (.items (.var 0)) (.nm 3) kM,.frzV 2,.ret (.call "_law_least" 1 [(.var 2)])]
def pA:List D3.S:=[.ret (.tcall .tuple [(.comp (.var 2) (.enum1 (.var 1)) [(.cmp .Eq (.bin .BitAnd (.bin .RShift (.var 0) (.var 1)) (.int 1)) (.int 1))] [0] (.tp [(.nm 1),(.nm 2)]) 2)])]
def pB:List D3.S:=[.ret (.tcall .tuple [(.srt (.comp (.call "_law_set" 2 [(.var 1),(.var 0)]) (.items (.var 0)) [] [1] (.nm 1) 1))])]
def pC:List D3.S:=[.ret (.call "_law_least" 1 [(.frz (.comp (.bin .Mod (.call "_law_mix" 2 [(.var 0),(.frz (.bin .Add (.int 10) (.var 1)))]) (.int 16)) (.rng1 (.bin .Mod (.call "_law_mix" 2 [(.var 0),(.int 8)]) (.int 3))) [] [0] (.nm 1) 1))])]
def pD:List D3.S:=[.ret (.call "_law_least" 1 [(.frz (.comp (.bin .BitAnd (.bin .Mod (.call "_law_mix" 2 [(.var 0),(.frz (.bin .Add (.int 10) (.var 1)))]) (.int 4096)) (.call "_law_mix" 2 [(.var 0),(.frz (.bin .Add (.int 20) (.var 1)))])) (.rng1 (.int 4)) [] [0] (.nm 1) 1))])]
def pE:List D3.S:=[.ite (.orL [(.not (.tru (.bcall .isinstance [(.var 0),(.ty .tuple)]))),(.cmp .NotEq (.var 0) (.var 1))]) [.ret (.bl false)] [],.for (.items (.var 0)) (.nm 2) l9,.ret (.bl true)]
def mK:List D3.S:=[.set 1 (.lst []),.for (.items (.var 0)) (.nm 2) mD,.frzV 1,.ite (.cmp .Eq (.bcall .len [(.var 1)]) (.int 0)) [.ret (.str "0")] [],.ret (.mt .join (.str " + ") [(.var 1)])]
def eF:List D3.S:=[.set 2 (.ix (.var 0) (.int 0)),.set 3 (.ix (.var 0) (.int 1)),.set 4 (.ix (.var 0) (.int 2)),.set 5 (.frz (.bin .Add (.bin .Add (.var 4) (.ix (.str "A-_ .+*~") (.bin .Mod (.call "_law_mix" 2 [(.var 1),(.int 31)]) (.int 8)))) (.str "a"))),.set 6 (.frz (.lst [(.tup [(.tup [(.var 2)]),(.tup [(.var 2),(.var 3)])]),(.tup [(.tup []),(.tup [(.var 4)])]),(.tup [(.tup [(.var 3)]),(.tup [(.var 2)])]),(.tup [(.tup [(.var 3),(.var 2)])]),(.tup [(.tup [(.var 2),(.var 2)])]),(.tup [(.tup [(.var 2)]),(.tup [(.var 2)])]),(.tup [(.tup [(.var 5)])]),.non])),.set 6 (.frz (.bin .Add (.var 6) (.lst [(.frz (.lst [(.tup [(.var 2)])])),(.tup [(.frz (.lst [(.var 2)]))]),(.tup [(.var 2)]),(.bl true),(.tup [(.tup [(.var 2),(.int 3)])]),(.tup [(.tup [(.var 2),(.var 3)]),(.tup [(.var 3)])]),(.tup [(.tup [(.var 2),(.var 3),(.var 4)]),(.tup [(.var 2),(.ix (.var 0) (.int 3))]),(.tup [(.var 3),(.var 4)])])]))),.ret (.ix (.var 6) (.bin .Mod (.call "_law_mix" 2 [(.var 1),(.int 30)]) (.int 15)))]
def f8:List D3.S:=[.set 4 (.frz (.call "_law_note" 2 [(.var 2),(.var 1)])),.set 5 (.frz (.call "_law_note" 2 [(.var 3),(.var 1)])),.ite (.not (.tru (.call "_law_like" 2 [(.frz (.meth (.var 0) "plus" [(.var 4),(.var 5)])),(.frz (.call "_law_note" 2 [(.frz (.call "_law_least" 1 [(.frz (.bin .Add (.var 2) (.var 3)))])),(.var 1)]))]))) [.ret (.bl false)] [],.ite (.not (.tru (.call "_law_like" 2 [(.frz (.meth (.var 0) "times" [(.var 4),(.var 5)])),(.frz (.call "_law_note" 2 [(.frz (.call "_law_joined" 2 [(.var 2),(.var 3)])),(.var 1)]))]))) [.ret (.bl false)] [],.set 6 (.tup [(.frz (.meth (.var 0) "shown" [(.var 4)])),(.frz (.meth (.var 0) "holds" [(.var 4)]))]),.ret (.andL [(.bcall .isinstance [(.ix (.var 6) (.int 0)),(.ty .str)]),(.bcall .isinstance [(.ix (.var 6) (.int 1)),(.ty .bool)]),(.cmp .Eq (.var 6) (.tup [(.frz (.call "_law_shown" 1 [(.var 4)])),(.bl true)]))])]
def cM:List D3.S:=[.set 1 (.frz (.mk0 "Least")),.ite (.orL [(.not (.tru (.isi (.var 1) "Kind"))),(.not (.tru (.isi (.var 1) "Single")))]) [.ret (.bl false)] [],.ite (.orL [(.not (.tru (.call "_law_like" 2 [(.frz (.meth (.var 1) "nought" [])),(.tup [])]))),(.not (.tru (.call "_law_like" 2 [(.frz (.meth (.var 1) "one" [])),(.tup [(.tup [])])])))]) [.ret (.bl false)] [],.set 2 (.frz (.lst [])),.set 3 (.frz (.call "_law_names" 2 [(.frz (.sum1 (.slice (.var 0) none (some (.int 1))))),(.int 4)])),.for (.items (.var 0)) (.nm 4) dO,.ite (.cmp .Lt (.bcall .len [(.var 0)]) (.int 2)) [.ret (.bl true)] [],.set 7 (.frz (.call "_law_names" 2 [(.ix (.var 0) (.int 1)),(.int 12)])),.ret (.call "_law_met" 4 [(.var 1),(.var 7),(.frz (.call "_law_some" 1 [(.ix (.var 0) (.int 0))])),(.frz (.call "_law_some" 1 [(.ix (.var 0) (.int 1))]))])]
def pF:List D3.S:=[.ret (.tup [])]
def pG:List D3.S:=[.ret (.tup [(.tup [])])]
def pH:List D3.S:=[.ret (.call "least_of" 1 [(.frz (.bin .Add (.var 1) (.var 2)))])]
def pI:List D3.S:=[.set 3 (.frz (.call "bits_of" 1 [(.frz (.bin .Add (.var 1) (.var 2)))])),.set 4 (.frz (.call "masks_of" 2 [(.var 1),(.var 3)])),.set 5 (.frz (.call "masks_of" 2 [(.var 2),(.var 3)])),.ret (.call "sets_of" 2 [(.frz (.call "least_masks" 1 [(.frz (.comp2 (.bin .BitOr (.var 1) (.var 2)) (.items (.var 4)) (.items (.var 0)) [] [5]))])),(.var 3)])]
def jK:List D3.S:=[.ite (.orL [(.not (.tru (.bcall .isinstance [(.var 1),(.ty .tuple)]))),(.not (.tru (.bcall .all [(.comp (.call "is_name_set" 1 [(.var 0)]) (.items (.var 1)) [] [] (.nm 0) 1)])))]) [.ret (.bl false)] [],.ret (.cmp .Eq (.var 1) (.call "least_of" 1 [(.var 1)]))]
def mL:List D3.S:=[.ite (.cmp .Eq (.var 1) (.tup [])) [.ret (.str "0")] [],.ret (.mt .join (.str " + ") [(.comp (.call "shown_set" 1 [(.var 0)]) (.items (.var 1)) [] [] (.nm 0) 1)])]
def aAF:FD:=⟨["thing"],["thing"],kN⟩
def aAG:FD:=⟨["sign"],["sign"],oV⟩
def aAH:FD:=⟨["thing"],["thing"],jJ⟩
def aAI:FD:=⟨["things"],["things"],oW⟩
def aAJ:FD:=⟨["some"],["some"],mH⟩
def aAK:FD:=⟨["sets"],["sets", "bits"],oX⟩
def aAL:FD:=⟨["masks"],["masks", "least", "mask"],oY⟩
def aAM:FD:=⟨["mask", "masks"],["mask", "masks", "one"],mJ⟩
def aAN:FD:=⟨["sets"],["sets", "bits", "bit", "name"],oZ⟩
def aAO:FD:=⟨["sets", "bits"],["sets", "bits"],o3⟩
def aAP:FD:=⟨["masks", "bits"],["masks", "bits"],o4⟩
def aAQ:FD:=⟨["_law_cell", "_law_place"],["_law_cell", "_law_place", "_law_first"],o7⟩
def aAR:FD:=⟨["_law_cell", "_law_many"],["_law_cell", "_law_many", "_law_letters", "_law_stem", "_law_at", "_law_start", "_law_names_here"],eV⟩
def aAS:FD:=⟨["_law_masks"],["_law_masks", "_law_stay", "_law_mask"],o8⟩
def aAT:FD:=⟨["_law_one", "_law_other"],["_law_one", "_law_other", "_law_both", "_law_mask"],o9⟩
def aAU:FD:=⟨["_law_mask", "_law_pool"],["_law_mask", "_law_pool"],pA⟩
def aAV:FD:=⟨["_law_masks", "_law_pool"],["_law_masks", "_law_pool"],pB⟩
def aAW:FD:=⟨["_law_cell"],["_law_cell"],pC⟩
def aAX:FD:=⟨["_law_cell"],["_law_cell"],pD⟩
def aAY:FD:=⟨["_law_found", "_law_due"],["_law_found", "_law_due", "_law_names_here"],pE⟩
def aAZ:FD:=⟨["_law_note_here"],["_law_note_here", "_law_parts", "_law_names_here", "_law_text", "_law_k", "_law_name"],mK⟩
def aA0:FD:=⟨["_law_pool", "_law_cell"],["_law_pool", "_law_cell", "_law_p", "_law_q", "_law_r", "_law_odd_here", "_law_some_here"],eF⟩
def aA1:FD:=⟨["_law_least_here", "_law_pool", "_law_one", "_law_other"],["_law_least_here", "_law_pool", "_law_one", "_law_other", "_law_a", "_law_b", "_law_got"],f8⟩
def sY:FD:=⟨["_law_script"],["_law_script", "_law_least_here", "_law_stay", "_law_pool", "_law_cell", "_law_note_here", "_law_got", "_law_many"],cM⟩
def aA2:FD:=⟨["self"],["self"],pF⟩
def aA3:FD:=⟨["self"],["self"],pG⟩
def aA4:FD:=⟨["self", "a", "b"],["self", "a", "b"],pH⟩
def aA5:FD:=⟨["self", "a", "b"],["self", "a", "b", "bits", "one", "other"],pI⟩
def aA6:FD:=⟨["self", "thing"],["self", "thing"],jK⟩
def aA7:FD:=⟨["self", "a"],["self", "a"],mL⟩
def aOZ:CI:=⟨"Kind", ["Kind"],[],[]⟩
def aO0:CI:=⟨"Single", ["Single", "Kind"],[],[]⟩
def aO1:CI:=⟨"Least", ["Least", "Single", "Kind"],[],[("nought", "Least.nought", 1),("one", "Least.one", 1),("plus", "Least.plus", 3),("times", "Least.times", 3),("holds", "Least.holds", 2),("shown", "Least.shown", 2)]⟩
def T:List (Str×FD):=[(("is_name" : Str),aAF),(("is_name_sign" : Str),aAG),(("is_name_set" : Str),aAH),(("is_rising" : Str),aAI),(("shown_set" : Str),aAJ),(("least_of" : Str),aAK),(("least_masks" : Str),aAL),(("has_one_within" : Str),aAM),(("bits_of" : Str),aAN),(("masks_of" : Str),aAO),(("sets_of" : Str),aAP),(("_law_mix" : Str),aAQ),(("_law_names" : Str),aAR),(("_law_least" : Str),aAS),(("_law_joined" : Str),aAT),(("_law_set" : Str),aAU),(("_law_note" : Str),aAV),(("_law_few" : Str),aAW),(("_law_some" : Str),aAX),(("_law_like" : Str),aAY),(("_law_shown" : Str),aAZ),(("_law_odd" : Str),aA0),(("_law_met" : Str),aA1),(("law" : Str),sY),(("Least.nought" : Str),aA2),(("Least.one" : Str),aA3),(("Least.plus" : Str),aA4),(("Least.times" : Str),aA5),(("Least.holds" : Str),aA6),(("Least.shown" : Str),aA7)]
def TT:TB:=⟨T,[],[aOZ,aO0,aO1],[],[]⟩
def GG:MG:=⟨[(("FIGURES" : Str),(GV.con (.s "0123456789"))),(("Kind" : Str),(GV.cls)),(("LETTERS" : Str),(GV.con (.s "abcdefghijklmnopqrstuvwxyz"))),(("LONGEST" : Str),(GV.con (.i 40))),(("Least" : Str),(GV.cls)),(("Single" : Str),(GV.cls)),(("_law_few" : Str),(GV.fn 1)),(("_law_joined" : Str),(GV.fn 2)),(("_law_least" : Str),(GV.fn 1)),(("_law_like" : Str),(GV.fn 2)),(("_law_met" : Str),(GV.fn 4)),(("_law_mix" : Str),(GV.fn 2)),(("_law_names" : Str),(GV.fn 2)),(("_law_note" : Str),(GV.fn 2)),(("_law_odd" : Str),(GV.fn 2)),(("_law_set" : Str),(GV.fn 2)),(("_law_shown" : Str),(GV.fn 1)),(("_law_some" : Str),(GV.fn 1)),(("all" : Str),(GV.no)),(("any" : Str),(GV.no)),(("bits_of" : Str),(GV.fn 1)),(("bool" : Str),(GV.no)),(("enumerate" : Str),(GV.no)),(("has_one_within" : Str),(GV.fn 2)),(("int" : Str),(GV.no)),(("is_name" : Str),(GV.fn 1)),(("is_name_set" : Str),(GV.fn 1)),(("is_name_sign" : Str),(GV.fn 1)),(("is_rising" : Str),(GV.fn 1)),(("isinstance" : Str),(GV.no)),(("least_masks" : Str),(GV.fn 1)),(("least_of" : Str),(GV.fn 1)),(("len" : Str),(GV.no)),(("list" : Str),(GV.no)),(("masks_of" : Str),(GV.fn 2)),(("range" : Str),(GV.no)),(("set" : Str),(GV.no)),(("sets_of" : Str),(GV.fn 2)),(("shown_set" : Str),(GV.fn 1)),(("sorted" : Str),(GV.no)),(("str" : Str),(GV.no)),(("sum" : Str),(GV.no)),(("tuple" : Str),(GV.no))],["Least"],[],["Kind", "Single"],[],[]⟩
def top(i:Nat):Stmt:=PySem.Challenge.pw_whencewise_k07_least.main.body.getD i (.Pass ⟨0,0,0,0⟩)
abbrev sZ:Stmt:=top 33
theorem aA8(k:Nat):(WT TT (k+1)).Φ "is_name" = phi 1 1 (evB (WT TT k) kN):=bN (d:=aAF) rfl
theorem aO2(k:Nat):(WT TT (k+1)).Φ "is_name_sign" = phi 1 1 (evB (WT TT k) oV):=bN (d:=aAG) rfl
theorem aA9(k:Nat):(WT TT (k+1)).Φ "is_name_set" = phi 1 1 (evB (WT TT k) jJ):=bN (d:=aAH) rfl
theorem aO3(k:Nat):(WT TT (k+1)).Φ "is_rising" = phi 1 1 (evB (WT TT k) oW):=bN (d:=aAI) rfl
theorem aO4(k:Nat):(WT TT (k+1)).Φ "shown_set" = phi 1 1 (evB (WT TT k) mH):=bN (d:=aAJ) rfl
theorem aO5(k:Nat):(WT TT (k+1)).Φ "least_of" = phi 1 2 (evB (WT TT k) oX):=bN (d:=aAK) rfl
theorem aO6(k:Nat):(WT TT (k+1)).Φ "least_masks" = phi 1 3 (evB (WT TT k) oY):=bN (d:=aAL) rfl
theorem aO7(k:Nat):(WT TT (k+1)).Φ "has_one_within" = phi 2 3 (evB (WT TT k) mJ):=bN (d:=aAM) rfl
theorem aO8(k:Nat):(WT TT (k+1)).Φ "bits_of" = phi 1 4 (evB (WT TT k) oZ):=bN (d:=aAN) rfl
theorem aO9(k:Nat):(WT TT (k+1)).Φ "masks_of" = phi 2 2 (evB (WT TT k) o3):=bN (d:=aAO) rfl
theorem aPA(k:Nat):(WT TT (k+1)).Φ "sets_of" = phi 2 2 (evB (WT TT k) o4):=bN (d:=aAP) rfl
theorem aPB(k:Nat):(WT TT (k+1)).Φ "_law_mix" = phi 2 3 (evB (WT TT k) o7):=bN (d:=aAQ) rfl
theorem aPC(k:Nat):(WT TT (k+1)).Φ "_law_names" = phi 2 7 (evB (WT TT k) eV):=bN (d:=aAR) rfl
theorem aPD(k:Nat):(WT TT (k+1)).Φ "_law_least" = phi 1 3 (evB (WT TT k) o8):=bN (d:=aAS) rfl
theorem aPE(k:Nat):(WT TT (k+1)).Φ "_law_joined" = phi 2 4 (evB (WT TT k) o9):=bN (d:=aAT) rfl
theorem aPF(k:Nat):(WT TT (k+1)).Φ "_law_set" = phi 2 2 (evB (WT TT k) pA):=bN (d:=aAU) rfl
theorem aPG(k:Nat):(WT TT (k+1)).Φ "_law_note" = phi 2 2 (evB (WT TT k) pB):=bN (d:=aAV) rfl
theorem aPH(k:Nat):(WT TT (k+1)).Φ "_law_few" = phi 1 1 (evB (WT TT k) pC):=bN (d:=aAW) rfl
theorem aPI(k:Nat):(WT TT (k+1)).Φ "_law_some" = phi 1 1 (evB (WT TT k) pD):=bN (d:=aAX) rfl
theorem aPJ(k:Nat):(WT TT (k+1)).Φ "_law_like" = phi 2 3 (evB (WT TT k) pE):=bN (d:=aAY) rfl
theorem aPK(k:Nat):(WT TT (k+1)).Φ "_law_shown" = phi 1 6 (evB (WT TT k) mK):=bN (d:=aAZ) rfl
theorem aPL(k:Nat):(WT TT (k+1)).Φ "_law_odd" = phi 2 7 (evB (WT TT k) eF):=bN (d:=aA0) rfl
theorem aPM(k:Nat):(WT TT (k+1)).Φ "_law_met" = phi 4 7 (evB (WT TT k) f8):=bN (d:=aA1) rfl
theorem u_law(k:Nat):(WT TT (k+1)).Φ "law" = phi 1 8 (evB (WT TT k) cM):=bN (d:=sY) rfl
theorem aPN(k:Nat):(WT TT (k+1)).Φ "Least.nought" = phi 1 1 (evB (WT TT k) pF):=bN (d:=aA2) rfl
theorem aPO(k:Nat):(WT TT (k+1)).Φ "Least.one" = phi 1 1 (evB (WT TT k) pG):=bN (d:=aA3) rfl
theorem aPP(k:Nat):(WT TT (k+1)).Φ "Least.plus" = phi 3 3 (evB (WT TT k) pH):=bN (d:=aA4) rfl
theorem aPQ(k:Nat):(WT TT (k+1)).Φ "Least.times" = phi 3 6 (evB (WT TT k) pI):=bN (d:=aA5) rfl
theorem aBA(k:Nat):(WT TT (k+1)).Φ "Least.holds" = phi 2 2 (evB (WT TT k) jK):=bN (d:=aA6) rfl
theorem aPR(k:Nat):(WT TT (k+1)).Φ "Least.shown" = phi 2 2 (evB (WT TT k) mL):=bN (d:=aA7) rfl
theorem aPS:CI.meth TT.cl "Least" "nought" = some (("Least.nought" : Str),1):=rfl
theorem aPT{Φ:Str->List D->Res}{as:aT}:dZ TT.cl Φ "nought" (.ok .fz (.ins "Least" [])) as=aP 1 (Φ "Least.nought") (bV (.ok .fz (.ins "Least" [])) as):=kK aPS rfl
theorem aPU:CI.meth TT.cl "Least" "one" = some (("Least.one" : Str),1):=rfl
theorem aPV{Φ:Str->List D->Res}{as:aT}:dZ TT.cl Φ "one" (.ok .fz (.ins "Least" [])) as=aP 1 (Φ "Least.one") (bV (.ok .fz (.ins "Least" [])) as):=kK aPU rfl
theorem aPW:CI.meth TT.cl "Least" "plus" = some (("Least.plus" : Str),3):=rfl
theorem aPX{Φ:Str->List D->Res}{as:aT}:dZ TT.cl Φ "plus" (.ok .fz (.ins "Least" [])) as=aP 3 (Φ "Least.plus") (bV (.ok .fz (.ins "Least" [])) as):=kK aPW rfl
theorem aPY:CI.meth TT.cl "Least" "times" = some (("Least.times" : Str),3):=rfl
theorem aPZ{Φ:Str->List D->Res}{as:aT}:dZ TT.cl Φ "times" (.ok .fz (.ins "Least" [])) as=aP 3 (Φ "Least.times") (bV (.ok .fz (.ins "Least" [])) as):=kK aPY rfl
theorem aP0:CI.meth TT.cl "Least" "holds" = some (("Least.holds" : Str),2):=rfl
theorem aBB{Φ:Str->List D->Res}{as:aT}:dZ TT.cl Φ "holds" (.ok .fz (.ins "Least" [])) as=aP 2 (Φ "Least.holds") (bV (.ok .fz (.ins "Least" [])) as):=kK aP0 rfl
theorem aP1:CI.meth TT.cl "Least" "shown" = some (("Least.shown" : Str),2):=rfl
theorem aP2{Φ:Str->List D->Res}{as:aT}:dZ TT.cl Φ "shown" (.ok .fz (.ins "Least" [])) as=aP 2 (Φ "Least.shown") (bV (.ok .fz (.ins "Least" [])) as):=kK aP1 rfl
theorem aP3{m:Md}{fs:List (Str×D)}:e9 TT.cl "Kind" (.ok m (.ins "Least" fs))=.ok .fz (.bl true):=rfl
theorem aP4{m:Md}{fs:List (Str×D)}:e9 TT.cl "Single" (.ok m (.ins "Least" fs))=.ok .fz (.bl true):=rfl
def sb(f g:Nat):Bool:=decide (f &&& g=f)
theorem iQ{f g:Nat}:sb f g=true↔∀ i,f.testBit i=true->g.testBit i=true:=by
 unfold sb;rw[aUU];constructor
 . intro h i hi;rw[<- h,aYC,aUG] at hi;exact hi.2
 . intro h;apply aYD;intro i;rw[aYC];cases e:f.testBit i with
   | false=>rfl
   | true=>rw[h i e];rfl
theorem aP5{f b i:Nat}:(f ||| 2 ^ b).testBit i=true↔f.testBit i=true\/i=b:=by rw[Nat.testBit_or,aUW,Nat.testBit_two_pow,aUU];exact or_congr_right eq_comm
theorem mM(a b:Nat):Builtin.bitAnd (a:Int) (b:Int)=((a &&& b:Nat):Int):=by rw[PyProof.Rows.bitAnd_pp (by omega) (by omega)];rfl
theorem bor(a b:Nat):Builtin.bitOr (a:Int) (b:Int)=((a ||| b:Nat):Int):=by
 have n:∀ z:Nat,¬ (0:Int)<=Builtin.bitNot (z:Int):=λz=>by unfold Builtin.bitNot;omega
 have nn:∀ z:Nat,Builtin.bitNot (Builtin.bitNot (z:Int))=z:=λz=>by unfold Builtin.bitNot;omega
 unfold Builtin.bitOr;rw[PyProof.Rows.bitAnd_nn (n a) (n b),nn,nn,nn,aT6,aT6]
theorem aBC{n:Nat}{Φ:List D->Res}{xs:List (Md×D)}{ds:List D}{m:Md}{d:D}(hm:m ≠ .bo)(hl:ds.length=n)(ha:cR xs=some ds)(h:Φ ds=.ok m d):aP n Φ (.ok xs)=.ok m d:=by
 unfold aP;simp only[aT.thn_ok,ha,hl,aT8,h];cases m with
 | bo=>exact absurd rfl hm
 | _=>rfl
theorem aBD{α:Type}{enc:α->D}{k:D->Rho->Option Rho}{body:Rho->aK}{p:α->Bool}{m:Md}{r:D}(I:Rho->Prop):∀ (xs:List α) (ρ:Rho),(∀ x∈xs,∀ ρ,I ρ->∃ ρ1,k (enc x) ρ=some ρ1/\((p x=true/\body ρ1=.rt m r)\/(p x=false/\∃ ρ2,body ρ1=.nx ρ2/\I ρ2)))->I ρ->(xs.any p=true/\bI k body (xs.map enc) ρ=.rt m r)\/(xs.any p=false/\∃ ρ',bI k body (xs.map enc) ρ=.nx ρ'/\I ρ')
 | [],ρ,_,h=>.inr ⟨rfl,ρ,rfl,h⟩
 | x::xs,ρ,hs,h=>by
  obtain ⟨ρ1,e1,h1⟩:=hs x mcs ρ h;rcases h1 with ⟨px,e2⟩ | ⟨px,ρ2,e2,h2⟩
  . refine .inl ⟨by rw[aUM,px];rfl,?_⟩
    rw[aUQ];unfold bI;rw[e1];dsimp only;rw[e2]
  . have ih:=aBD I xs ρ2 (λy hy=>hs y (mcm hy)) h2;rw[aUM,px,Bool.false_or,aUQ];unfold bI;rw[e1];dsimp only;rw[e2];exact ih
theorem tB{α:Type}{enc:α->D}{p:α->Bool}{g:α->D}{k:D->Rho->Option Rho}{t e:Rho->Res}{ρ0:Rho}:∀ {xs:List α},(∀ x∈xs,∃ ρ1 m,k (enc x) ρ0=some ρ1/\t ρ1=.ok m (.bl (p x))/\(p x=true->∃ m',bB (e ρ1)=.ok m' (g x)))->dR k t e ρ0 (xs.map enc)=some ((xs.filter p).map g)
 | [],_=>rfl
 | x::xs,h=>by
  obtain ⟨ρ1,m,e1,e2,e3⟩:=h x mcs;have ih:=tB λy hy=>h y (mcm hy);rw[aUQ];unfold dR;rw[e1];dsimp only;rw[e2];cases q:p x with
  | true=>obtain ⟨m',e3⟩:=e3 q;simp[e3,ih,aX2,q]
  | false=>simp[ih,aX2,q]
theorem aBE{α:Type}{enc:α->D}(p:α->Bool)(g:α->D){ρ:Rho}{aB:List Nat}{n:Nat}{k:D->Rho->Option Rho}{t e:Rho->Res}{m:Md}{xs:List α}(hl:xs.length<sizeLine)(h:∀ x∈xs,∃ ρ1 m,k (enc x) (bA aB ρ++List.replicate n none)=some ρ1/\t ρ1=.ok m (.bl (p x))/\(p x=true->∃ m',bB (e ρ1)=.ok m' (g x))):bF (.ok m (.lst (xs.map enc))) ρ aB n k t e=.ok .fr (.lst ((xs.filter p).map g)):=by unfold bF;rw[Res.thn_ok];dsimp only;rw[if_pos (by simpa using hl),tB h]
theorem cY{α:Type}{enc:α->D}(g:α->D){ρ:Rho}{aB:List Nat}{n:Nat}{k:D->Rho->Option Rho}{t e:Rho->Res}{m:Md}{xs:List α}(hl:xs.length<sizeLine)(h:∀ x∈xs,∃ ρ1 m,k (enc x) (bA aB ρ++List.replicate n none)=some ρ1/\t ρ1=.ok m (.bl true)/\∃ m',bB (e ρ1)=.ok m' (g x)):bF (.ok m (.lst (xs.map enc))) ρ aB n k t e=.ok .fr (.lst (xs.map g)):=by
 have:=aBE (enc:=enc) (λ_=>true) g (ρ:=ρ) (aB:=aB) (n:=n) (k:=k) (t:=t) (e:=e) (m:=m) hl λx hx=>by obtain ⟨ρ1,m,e1,e2,e3⟩:=h x hx;exact ⟨ρ1,m,e1,e2,λ_=>e3⟩
 rw[this,aYE.mpr λ_ _=>rfl]
theorem tD{α β:Type}{enc:α->D}{enc2:β->D}{p:α->Bool}{ys:α->List β}{g:α->β->D}{i j:Nat}{t gi2 e:Rho->Res}{ρ0:Rho}:∀ {xs:List α},(∀ x∈xs,∃ m,t (ρ0.set i (some (false,enc x)))=.ok m (.bl (p x))/\(p x=true->(∃ m',gi2 (ρ0.set i (some (false,enc x)))=.ok m' (.lst ((ys x).map enc2)))/\∀ y∈ys x,∃ m',bB (e ((ρ0.set i (some (false,enc x))).set j (some (false,enc2 y))))=.ok m' (g x y)))->dM i j t gi2 e ρ0 (xs.map enc)=some ((xs.filter p).flatMap λx=>(ys x).map (g x))
 | [],_=>rfl
 | x::xs,h=>by
  obtain ⟨m,e1,e2⟩:=h x mcs;have ih:=tD λy hy=>h y (mcm hy);rw[aUQ];unfold dM;rw[e1];cases q:p x with
  | false=>simp[ih,aX2,q]
  | true =>
   obtain ⟨⟨m',e3⟩,e4⟩:=e2 q;dsimp only;rw[e3];dsimp only;have:dR (i5 j) jA e (ρ0.set i (some (false,enc x))) ((ys x).map enc2)=some ((ys x).map (g x)):=by have:=tB (enc:=enc2) (p:=λ_=>true) (g:=g x) (k:=i5 j) (t:=jA) (e:=e) (ρ0:=ρ0.set i (some (false,enc x))) (xs:=ys x) λy hy=>⟨_,.fz,rfl,rfl,λ_=>e4 y hy⟩;rw[this,aYE.mpr λ_ _=>rfl]
   rw[this];simp[ih,aX2,q]
abbrev iD(f:Nat):D:=.int (f:Int)
abbrev iN(F:List Nat):List D:=F.map iD
def cD(a:List Nat):Nat:=(a.map λi=>2 ^ i).sum
theorem aBF:∀ {a:List Nat} {i:Nat},(∀ j∈a,i<j)->∃ q,cD a=2 ^ (i+1) * q
 | [],_,_=>⟨0,rfl⟩
 | j::a,i,h=>by obtain ⟨q,e⟩:=aBF (a:=a) (i:=i) λx hx=>h x (mcm hx);have hj:i+1<=j:=h j mcs;refine ⟨2 ^ (j-(i+1))+q,?_⟩;show 2 ^ j+cD a=_;rw[e,aYF,<- Nat.pow_add,Nat.add_sub_cancel' hj]
theorem aBG:∀ {a:List Nat},a.Pairwise (· < ·)->∀ j,(cD a).testBit j=true↔j∈a
 | [],_,j=>by show (0:Nat).testBit j=true↔_;simp
 | i::a,h,j=>by
  rw[aXR] at h;obtain ⟨q,e⟩:=aBF h.1;have e1:cD (i::a)=cD a ||| 2 ^ i:=by show 2 ^ i+cD a=_;rw[e,Nat.add_comm];exact Nat.two_pow_add_eq_or_of_lt (Nat.pow_lt_pow_right (by decide) (aTE i)) q
  rw[e1,aP5,aBG h.2,aSL];exact or_comm
theorem aBH{m:Md}:∀ (ns:List Int),aZ.or' fW fE [(m,.lst (ns.map .int))]=some (.fz,.int ns.sum)
 | []=>rfl
 | [n]=>by show some (Md.fz,D.int n)=_;simp
 | n::n'::ns=>by show (fE [(m,.lst ((n::n'::ns).map .int))])=_;show (inD ((n::n'::ns).map .int)).map (λns=>(Md.fz,D.int ns.sum))=_;rw[yQ];rfl
theorem aBI:∀ (ns:List Nat),(ns.map λn:Nat=>(n:Int)).sum=((ns.sum:Nat):Int)
 | []=>rfl
 | n::ns=>by simp[aBI ns]
theorem aP6{m:Md}(ns:List Nat):aZ.or' fW fE [(m,.lst (iN ns))]=some (.fz,.int (ns.sum:Nat)):=by have:=aBH (m:=m) (ns.map λn:Nat=>(n:Int));rw[aWM,aBI] at this;exact this
theorem within(k:Nat)(g:Nat)(F:List Nat):(WT TT (k+1)).Φ "has_one_within" [.int g,.lst (iN F)]=.ok .fz (.bl (F.any λo=>sb o g)):=by
 rw[aO7];refine bH rfl ?_;show evB _ mJ [some (false,.int g),some (false,.lst (iN F)),none]=_;have key:=aBD (enc:=iD) (k:=aI (.nm 2)) (body:=evB (WT TT k) iP) (p:=λo=>sb o g) (m:=.fz) (r:=.bl true) (λρ=>∃ x,ρ=[some (false,.int g),some (false,.lst (iN F)),x]) F [some (false,.int g),some (false,.lst (iN F)),none] (λo ho ρ hI=>by
  obtain ⟨x,rfl⟩:=hI;refine ⟨[some (false,.int g),some (false,.lst (iN F)),some (false,iD o)],by simp,?_⟩
  have e:(Builtin.bitAnd (o:Int) (g:Int)==(o:Int))=sb o g:=by rw[mM,aS7];unfold sb;simp;omega
  generalize iN F=L;cases q:sb o g with
  | true=>exact .inl ⟨rfl,by simp[iP,iD,e,q]⟩
  | false=>exact .inr ⟨rfl,_,by simp[iP,iD,e,q];rfl,_,rfl⟩) ⟨none,rfl⟩
 have er:∀ ρ,eO (.ok .fz (.lst (iN F))) ρ (aI (.nm 2)) (evB (WT TT k) iP)=bI (aI (.nm 2)) (evB (WT TT k) iP) (iN F) ρ:=λρ=>rfl;rcases key with ⟨a,e⟩ | ⟨a,ρ',e,x,rfl⟩
 . rw[a];have e:bI (aI (.nm 2)) (evB (WT TT k) iP) (iN F) [some (false,.int g),some (false,.lst (iN F)),none]=.rt .fz (.bl true):=e;generalize iN F=L at *;simp[mJ,er,e]
 . rw[a];have e:bI (aI (.nm 2)) (evB (WT TT k) iP) (iN F) [some (false,.int g),some (false,.lst (iN F)),none]=.nx [some (false,.int g),some (false,.lst (iN F)),x]:=e;generalize iN F=L at *;simp[mJ,er,e]
def kP(a:List Nat):List Nat:=a.map λi=>2 ^ i
def sel:List Str->Nat->List Str
 | [],_=>[]
 | x::L,m=>if m.testBit 0=true then x::sel L (m / 2) else sel L (m / 2)
theorem pJ{x:Str}{L:List Str}{m:Nat}:sel (x::L) m=if m.testBit 0=true then x::sel L (m / 2) else sel L (m / 2):=rfl
theorem aBJ{m i:Nat}:(m / 2).testBit i=m.testBit (i+1):=by rw[Nat.testBit_succ]
theorem iR{x:Str}:∀ {L:List Str} {m:Nat},x∈sel L m↔∃ i,L[i]? = some x/\m.testBit i=true
 | [],m=>by simp[sel]
 | y::L,m=>by
  have ih:=iR (x:=x) (L:=L) (m:=m / 2);have step:(∃ i,(y::L)[i]? = some x/\m.testBit i=true)↔(y=x/\m.testBit 0=true)\/∃ i,L[i]? = some x/\(m / 2).testBit i=true:=by
   constructor
   . rintro ⟨i,h1,h2⟩;cases i with
     | zero=>exact .inl ⟨by simpa using h1,h2⟩
     | succ i=>exact .inr ⟨i,by simpa using h1,by rw[aBJ];exact h2⟩
   . rintro (⟨h1,h2⟩ | ⟨i,h1,h2⟩)
     . exact ⟨0,by simpa using h1,h2⟩
     . exact ⟨i+1,by simpa using h1,by rw[<- aBJ];exact h2⟩
  rw[step,<- ih,pJ];split
  . rename_i h;rw[aSL];constructor
    . rintro (h1 | h1)
      . exact .inl ⟨h1.symm,h⟩
      . exact .inr h1
    . rintro (⟨h1,_⟩ | h1)
      . exact .inl h1.symm
      . exact .inr h1
  . rename_i h;constructor
    . exact .inr
    . rintro (⟨_,h1⟩ | h1)
      . exact absurd h1 h
      . exact h1
theorem pK:∀ {L:List Str} {m:Nat},(sel L m).Sublist L
 | [],_=>.slnil
 | x::L,m=>by
  rw[pJ];split
  . exact pK.cons₂ x
  . exact pK.cons x
def kvs:Nat->List Str->List (Key×D)
 | _,[]=>[]
 | i,x::L=>(.inr x,iD (2 ^ i))::kvs (i+1) L
theorem tE:∀ {i:Nat} {L:List Str},(kvs i L).length=L.length
 | _,[]=>rfl
 | i,x::L=>by simp[kvs,tE]
theorem aBK:∀ {i:Nat} {L:List Str} {x:Str},kvs i (L++[x])=kvs i L++[(.inr x,iD (2 ^ (i+L.length)))]
 | i,[],x=>rfl
 | i,y::L,x=>by show (Sum.inr y,iD (2 ^ i))::kvs (i+1) (L++[x])=_;rw[aBK];show _=(Sum.inr y,iD (2 ^ i))::(kvs (i+1) L++_);rw[show i+1+L.length=i+(y::L).length by simp;omega]
theorem aBL:∀ {i:Nat} {L:List Str} {kv:Key×D},kv∈kvs i L->∃ x∈L,kv.1=.inr x
 | _,[],kv,h=>by cases h
 | i,y::L,kv,h=>by
  rcases aSL.mp h with rfl | h
  . exact ⟨y,mcs,rfl⟩
  . obtain ⟨x,hx,e⟩:=aBL h;exact ⟨x,mcm hx,e⟩
theorem tF:∀ {i:Nat} {L:List Str} {x:Str},x∈L->dL (kvs i L) (.inr x)=some (iD (2 ^ (i+L.idxOf x)))
 | i,y::L,x,h=>by
  by_cases e:y=x
  . subst e;simp[kvs,dL,aUL]
  . have hx:x∈L:=(aSL.mp h).resolve_left λz=>e z.symm;have ih:=tF (i:=i+1) hx;have e1:dL (kvs i (y::L)) (.inr x)=dL (kvs (i+1) L) (.inr x):=by simp[kvs,dL,aUL,e]
    have e2:(y::L).idxOf x=L.idxOf x+1:=by rw[List.idxOf_cons,aR7.mpr e];rfl
    rw[e1,ih,e2,show i+1+L.idxOf x=i+(L.idxOf x+1) by omega]
theorem aP7{M:List (Key×D)}{k:Key}{d:D}(h:∀ kv∈M,kv.1≠k):fC M k d=M++[(k,d)]:=by unfold fC;rw[if_neg];simp only[aU9,aUU,not_exists,not_and];exact λkv hkv=>h kv hkv
def okS(x:Str):Prop:=x.length<=sizeLine/\PyData.strOk x=true
theorem aP8{i m:Nat}:(2 ^ i &&& m=0)↔m.testBit i=false:=by
 constructor
 . intro h;cases e:m.testBit i with
   | false=>rfl
   | true =>
    have:(2 ^ i &&& m).testBit i=true:=by rw[aYC,e,Nat.testBit_two_pow_self];rfl
    rw[h,aYG] at this;cases this
 . intro h;apply aYD;intro j;rw[aYC,aYG,Nat.testBit_two_pow];by_cases e:i=j
   . subst e;rw[h];simp
   . simp[e]
theorem aBM{U:List Str}(hn:U.Nodup)(ok:∀ x∈U,okS x)(m:Nat):∀ (L:List Str) (i:Nat),(∀ x∈L,x∈U)->(∀ j x,L[j]? = some x->U.idxOf x=i+j)->fY (kvs 0 U) m (kvs i L)=some ((sel L (m / 2 ^ i)).map .str)
 | [],i,_,_=>rfl
 | x::L,i,hU,hi=>by
  have hx:x∈U:=hU x mcs;have hix:U.idxOf x=i:=by have:=hi 0 x rfl;simpa using this
  have ih:=aBM hn ok m L (i+1) (λy hy=>hU y (mcm hy)) λj y hj=>by
   have:=hi (j+1) y (by simpa using hj)
   omega
  have kk:j6 (.inr x)=true:=by show (decide (x.length<=sizeLine)&&PyData.strOk x)=true;rw[aUN (ok x hx).1,(ok x hx).2];rfl
  show fY (kvs 0 U) m ((.inr x,iD (2 ^ i))::kvs (i+1) L)=_;unfold fY;rw[tF hx,hix,aVX];dsimp only;rw[if_pos kk,ih];have b:Builtin.bitAnd ((2 ^ i:Nat):Int) (m:Int)=0↔m.testBit i=false:=by rw[mM,<- aP8];omega
  have t0:(m / 2 ^ i).testBit 0=m.testBit i:=by rw[Nat.testBit_div_two_pow];simp
  have t1:m / 2 ^ i / 2=m / 2 ^ (i+1):=by rw[Nat.div_div_eq_div_mul,Nat.pow_succ]
  rw[pJ,t0,t1];cases e:m.testBit i with
  | true =>
   have:¬ Builtin.bitAnd ((2 ^ i:Nat):Int) (m:Int)=0:=λz=>by rw[b,e] at z;cases z
   simp only[aVC,if_neg this,aT8,aUQ];rfl
  | false=>have:Builtin.bitAnd ((2 ^ i:Nat):Int) (m:Int)=0:=b.mpr e;simp only[aVC,if_pos this,aVJ,aT7]
theorem aP9{U:List Str}(hn:U.Nodup)(ok:∀ x∈U,okS x)(hl:U.length<=64)(m:Nat):kE [some (false,.dct (kvs 0 U)),some (false,.int m)] 0 1=.ok .fr (.lst ((sel U m).map .str)):=by
 have:=aBM hn ok m U 0 (λ_ h=>h) λj x h=>by obtain ⟨h1,h2⟩:=aSO.mp h;rw[<- h2,hn.idxOf_getElem];omega
 show (if (kvs 0 U).length<sizeLine then (match fY (kvs 0 U) m (kvs 0 U) with | some ys=>Res.ok .fr (.lst ys) | none=>.stuck) else .stuck)=_
 rw[if_pos (by rw[tE,aS9];omega),this]
 simp
theorem iS{α:Type}{enc:α->D}{k:D->Rho->Option Rho}{body:Rho->aK}(I:List α->Rho->Prop)(all:List α)(hs:∀ pre x post,all=pre++x::post->∀ ρ,I pre ρ->∃ ρ1 ρ2,k (enc x) ρ=some ρ1/\body ρ1=.nx ρ2/\I (pre++[x]) ρ2):∀ (xs pre:List α) (ρ:Rho),all=pre++xs->I pre ρ->∃ ρ',bI k body (xs.map enc) ρ=.nx ρ'/\I all ρ'
 | [],pre,ρ,e,h=>⟨ρ,rfl,by rw[e,aTO];exact h⟩
 | x::xs,pre,ρ,e,h=>by
  obtain ⟨ρ1,ρ2,e1,e2,h2⟩:=hs pre x xs e ρ h;obtain ⟨ρ',e3,h3⟩:=iS I all hs xs (pre++[x]) ρ2 (by rw[e];simp) h2
  refine ⟨ρ',?_,h3⟩;rw[aUQ];unfold bI;rw[e1];dsimp only;rw[e2];exact e3
theorem aQA(NS:List (List Str)):(NS.flatMap λA=>A.map D.str)=NS.flatten.map .str:=by
 induction NS with
 | nil=>rfl
 | cons A NS ih=>simp[ih]
theorem tI(ns:List Str):txD (ns.map .str)=some ns:=by
 induction ns with
 | nil=>rfl
 | cons x ns ih=>show (txD (ns.map .str)).map (x :: ·)=_;rw[ih];rfl
def aR(NS:List (List Str)):List Str:=uni NS.flatten
theorem aQB{W:WD}{ρ:Rho}(NS:List (List Str))(h1:NS.flatten.length<scanBound)(h2:(aR NS).length<64):jB (.ok .fz (.lst (NS.map aG))) ρ [] (λρ=>evF W [] ρ) (λρ=>evE W (.items (.var 0)) ρ) (λρ=>evE W (.var 1) ρ)=.ok .fr (.lst ((aR NS).map .str)):=by
 have c:dM 0 1 (λρ=>evF W [] ρ) (λρ=>evE W (.items (.var 0)) ρ) (λρ=>evE W (.var 1) ρ) [none,none] (NS.map aG)=some ((NS.filter λ_=>true).flatMap λA=>A.map D.str):=by
  refine tD (enc:=aG) (enc2:=D.str) (p:=λ_=>true) (ys:=λA=>A) (g:=λ_ x=>.str x) λA hA=>⟨.fz,by simp,λ_=>⟨⟨.fz,?_⟩,λx hx=>⟨.fz,?_⟩⟩⟩
  . simp[aG]
  . simp[aG]
 rw[aYE.mpr λ_ _=>rfl,aQA] at c;unfold jB;rw[Res.thn_ok];show (match dM 0 1 _ _ _ [none,none] (NS.map aG) with | some ys=>(match txD ys with | some ns=>if ns.length<scanBound/\(uni ns).length<64 then Res.ok .fr (.lst ((uni ns).map .str)) else .stuck | none=>.stuck) | none=>.stuck)=_
 rw[c];dsimp only;rw[tI];dsimp only;rw[if_pos ⟨h1,h2⟩];rfl
theorem iT{L:List Str}(h:bR L):L.Nodup:=h.imp λ{a b} h e=>by subst e;rw[fV] at h;cases h
theorem aBN(k:Nat)(NS:List (List Str))(h1:NS.flatten.length<scanBound)(h2:(aR NS).length<64):(WT TT (k+1)).Φ "bits_of" [.tup (NS.map aG)]=.ok .fr (.dct (kvs 0 (aR NS))):=by
 rw[aO8];refine bH rfl ?_;show evB _ oZ [some (false,.tup (NS.map aG)),none,none,none]=_;have zl:sizeLine=16777216:=aS9;have eu:=aQB (W:=WT TT k) (ρ:=[some (false,.tup (NS.map aG)),some (true,.dct []),some (false,.int 1),none]) NS h1 h2;have nd:(aR NS).Nodup:=iT (gO _);generalize hT:D.tup (NS.map aG)=T at *;have key:=iS (enc:=D.str) (k:=aI (.nm 3)) (body:=evB (WT TT k) l8) (λpre ρ=>∃ x,ρ=[some (false,T),some (true,.dct (kvs 0 pre)),some (false,.int ((2 ^ pre.length:Nat):Int)),x]) (aR NS) (λpre x post e ρ hI=>by
  obtain ⟨y,rfl⟩:=hI;refine ⟨[some (false,T),some (true,.dct (kvs 0 pre)),some (false,.int ((2 ^ pre.length:Nat):Int)),some (false,.str x)],[some (false,T),some (true,.dct (kvs 0 (pre++[x]))),some (false,.int ((2 ^ (pre++[x]).length:Nat):Int)),some (false,.str x)],by simp,?_,_,rfl⟩
  have lp:pre.length<64:=by have:=congrArg List.length e;simp at this;omega
  have ep:fC (kvs 0 pre) (.inr x) (iD (2 ^ pre.length))=kvs 0 (pre++[x]):=by rw[aP7 λkv hkv ek=>?_,aBK,aVX];obtain ⟨z,hz,e2⟩:=aBL hkv;rw[ek] at e2;cases e2;rw[e,aWT] at nd;exact nd.2.2 x hz x mcs rfl
  have ed:fU [some (false,T),some (true,.dct (kvs 0 pre)),some (false,.int ((2 ^ pre.length:Nat):Int)),some (false,.str x)] 1 (.ok .fz (.str x)) (.ok .fz (.int ((2 ^ pre.length:Nat):Int)))=.nx [some (false,T),some (true,.dct (kvs 0 (pre++[x]))),some (false,.int ((2 ^ pre.length:Nat):Int)),some (false,.str x)]:=by show (if (kvs 0 pre).length<sizeLine then aK.nx (List.set _ 1 (some (true,.dct (fC (kvs 0 pre) (.inr x) (iD (2 ^ pre.length)))))) else .stuck)=_;rw[if_pos (by rw[tE];omega),ep];rfl
  have e2:(2:Int) * ((2 ^ pre.length:Nat):Int)=((2 ^ (pre++[x]).length:Nat):Int):=by rw[aTY,List.length_singleton,Nat.pow_succ,Nat.mul_comm];rfl
  have em:=sR (i:=2) (j:=((2 ^ pre.length:Nat):Int)) (m:=.fz) (n:=.fz) (by decide)
  rw[e2] at em;generalize ((2 ^ pre.length:Nat):Int)=z at *;generalize kvs 0 (pre++[x])=M' at *;generalize kvs 0 pre=M at *;simp[l8,ed,em]) (aR NS) [] [some (false,T),some (true,.dct []),some (false,.int 1),none] rfl ⟨none,rfl⟩
 obtain ⟨ρ',e,x,rfl⟩:=key;have er:∀ ρ,eO (.ok .fz (.lst ((aR NS).map D.str))) ρ (aI (.nm 3)) (evB (WT TT k) l8)=bI (aI (.nm 3)) (evB (WT TT k) l8) ((aR NS).map D.str) ρ:=λρ=>rfl;have ei:dI (.ok .fz T)=.ok .fz (.lst (NS.map aG)):=by rw[<- hT];rfl
 generalize (aR NS).map D.str=UU at *;generalize kvs 0 (aR NS)=M at *;generalize NS.map aG=NN at *;simp at eu;simp[oZ,ei,eu,er,e,eN]
theorem eW{Φ:List D->Res}{a d:D}(h:Φ [a]=.ok .fr d):aP 1 Φ (.ok [(.fz,a)])=.ok .fr d:=aBC (xs:=[(.fz,a)]) (ds:=[a]) (by decide) rfl rfl h
theorem jL{Φ:List D->Res}{a b d:D}(h:Φ [a,b]=.ok .fr d):aP 2 Φ (.ok [(.fz,a),(.fz,b)])=.ok .fr d:=aBC (xs:=[(.fz,a),(.fz,b)]) (ds:=[a,b]) (by decide) rfl rfl h
theorem aBO{m:Md}{ts:List (List Str)}(h:gR ts=true):aZ.or' gP gT [(m,.lst (ts.map aG))]=some (.fr,.lst ((eE ts).map aG)):=by
 cases ts with
 | nil=>rfl
 | cons t ts =>
  have e:gT [(m,.lst ((t::ts).map aG))]=some (.fr,.lst ((eE (t::ts)).map aG)):=by
   show (match ttD ((t::ts).map aG) with | some ts=>if gR ts=true then some (Md.fr,D.lst ((eE ts).map aG)) else none | none=>none)=_
   rw[yL];dsimp only;rw[if_pos h]
  exact e
theorem aBP(k:Nat){U:List Str}(nd:U.Nodup)(ok:∀ x∈U,okS x)(hl:U.length<=64){F:List Nat}(hF:F.length<sizeLine)(hs:gR (F.map (sel U))=true):(WT TT (k+1)).Φ "sets_of" [.lst (iN F),.dct (kvs 0 U)]=.ok .fz (.tup ((eE (F.map (sel U))).map aG)):=by
 rw[aPA];refine bH rfl ?_;show evB _ o4 [some (false,.lst (iN F)),some (false,.dct (kvs 0 U))]=_;have e1:bF (.ok .fz (.lst (iN F))) [some (false,.lst (iN F)),some (false,.dct (kvs 0 U))] [1] 1 (aI (.nm 1)) (λρ=>evF (WT TT k) [] ρ) (λρ=>evE (WT TT k) (.tcall .tuple [(.sel [0,1] 0 1 0 1)]) ρ)=.ok .fr (.lst ((F.map (sel U)).map aG)):=by
  rw[aWM];refine cY (enc:=iD) (λf=>aG (sel U f)) hF λf hf=>⟨[some (false,.dct (kvs 0 U)),some (false,iD f)],.fz,by simp[bA],by simp,.fz,?_⟩
  have e:=aP9 nd ok hl f;generalize kvs 0 U=M at *;simp[iD,e,aG]
 have e2:=aBO (m:=.fr) hs;generalize (F.map (sel U)).map aG=ZZ at *;generalize (eE (F.map (sel U))).map aG=YY at *;generalize kvs 0 U=M at *;generalize iN F=FF at *;simp at e1;simp[o4,e1,e2]
theorem aQC{U:List Str}(h:bR U){x y:Str}(hx:x∈U)(hy:y∈U)(e:lts x y=true):U.idxOf x<U.idxOf y:=by
 have h1:=aYH.mpr hx;have h2:=aYH.mpr hy;have e1:U[U.idxOf x]=x:=aYI h1;have e2:U[U.idxOf y]=y:=aYI h2;by_cases hl:U.idxOf x<U.idxOf y
 . exact hl
 . exfalso;by_cases he:U.idxOf y=U.idxOf x
   . have:y=x:=by rw[<- e2,<- e1];simp[he]
     subst this;rw[fV] at e;cases e
   . have:=aXX.mp h (U.idxOf y) (U.idxOf x) h2 h1 (by omega)
     rw[e1,e2] at this;have:=kA e this;rw[fV] at this;cases this
def ixs(U A:List Str):List Nat:=A.map λx=>U.idxOf x
theorem aQD{U A:List Str}(h:bR U)(hA:bR A)(hs:∀ x∈A,x∈U):(ixs U A).Pairwise (· < ·):=by unfold ixs;rw[aX0];exact aYJ (λ{a b} ha hb r=>aQC h (hs a ha) (hs b hb) r) hA
theorem aQE{M:List (Key×D)}{w:Str}{d:D}(h:dL M (.inr w)=some d){m m':Md}:op2 ixK (.ok m (.dct M)) (.ok m' (.str w))=.ok .fz d:=cC (by
 show (dL M (.inr w)).map (λd=>(Md.fz,d))=_;rw[h];rfl)
theorem mN{NS:List (List Str)}{A:List Str}(hA:A∈NS){x:Str}(hx:x∈A):x∈aR NS:=dS.mpr (List.mem_flatten.mpr ⟨A,hA,hx⟩)
def fG:Int:=1000000000000000000000000000000000000000000000000000000000000
theorem pow60:op2 (bM .Pow) (.ok .fz (.int 10)) (.ok .fz (.int 60))=.ok .fz (.int fG):=by rfl
theorem z60:(0:Int)<fG:=by decide
def mx(c p:Int):Int:=((c % fG+1) * (48271+130 * p) % 2147483647) * ((c % fG+1) * (48271+130 * p) % 2147483647) % 2147483629
theorem mx0(c p:Int):0<=mx c p:=aYK _ (by decide)
theorem mix(k:Nat){c p:Int}(h0:0<=p)(h1:p<=100):(WT TT (k+1)).Φ "_law_mix" [.int c,.int p]=.ok .fz (.int (mx c p)):=by
 have hm:=aYK c (show fG≠0 by decide)
 have hM:=aYL c (show 0<fG by decide)
 have b1:bU (c % fG+1)=true:=l7 (N:=1000000000000000000000000000000000000000000000000000000000001) (by unfold fG at *;omega)
 have b2:bU (48271+130 * p)=true:=l7 (N:=1000000) (by omega)
 have b3:bU p=true:=l7 (N:=100) (by omega)
 have b4:bU 130=true:=by decide +kernel
 have f0:=aYK ((c % fG+1) * (48271+130 * p)) (show (2147483647:Int)≠0 by decide)
 have f1:=aYL ((c % fG+1) * (48271+130 * p)) (show (0:Int)<2147483647 by decide)
 have b5:bU ((c % fG+1) * (48271+130 * p) % 2147483647)=true:=l7 (N:=2147483647) (by omega)
 rw[aPB];refine bH rfl ?_;show evB _ o7 [some (false,.int c),some (false,.int p),none]=_;simp[o7,pow60,x_mul,b1,b2,b3,b4,b5,z60,mx]
theorem Mx(k:Nat){c p:Int}(h0:0<=p)(h1:p<=100):aP 2 ((WT TT (k+1)).Φ "_law_mix") (.ok [(.fz,.int c),(.fz,.int p)])=.ok .fz (.int (mx c p)):=dU (mix k h0 h1)
theorem aQF(m j:Nat):(m:Int) / 2 ^ ((j:Int).toNat)=((m / 2 ^ j:Nat):Int):=by rw[aT6];simp
theorem aQG(m j:Nat):((m / 2 ^ j) &&& 1:Nat)=(m.testBit j).toNat:=by rw[Nat.and_one_is_mod,Nat.testBit_eq_decide_div_mod_eq];rcases Nat.mod_two_eq_zero_or_one (m / 2 ^ j) with h | h <;> rw[h] <;> rfl
theorem aQH(m j:Nat):(Builtin.bitAnd ((m:Int) / 2 ^ ((j:Int).toNat)) 1==1)=m.testBit j:=by
 rw[aQF];have:=mM (m / 2 ^ j) 1;rw[show ((1:Nat):Int)=1 from rfl] at this
 rw[this,aQG];cases m.testBit j <;> rfl
theorem aBQ:∀ (L:List Str) (i:Nat),cT i (L.map D.str)=(L.zipIdx i).map λp=>.tup [.int (p.2:Int),.str p.1]
 | [],i=>rfl
 | x::L,i=>by rw[aUQ,List.zipIdx_cons,aUQ];show _::cT (i+1) (L.map D.str)=_;rw[aBQ]
theorem aBR(m:Nat):∀ (L:List Str) (i:Nat),((L.zipIdx i).filter λp=>m.testBit p.2).map (λp=>D.str p.1)=(sel L (m / 2 ^ i)).map .str
 | [],i=>rfl
 | x::L,i=>by
  have ih:=aBR m L (i+1);have t0:(m / 2 ^ i).testBit 0=m.testBit i:=by rw[Nat.testBit_div_two_pow];simp
  have t1:m / 2 ^ i / 2=m / 2 ^ (i+1):=by rw[Nat.div_div_eq_div_mul,Nat.pow_succ]
  rw[List.zipIdx_cons,aX2,pJ,t0,t1];cases e:m.testBit i with
  | true=>simp only[aT8,aUQ,ih]
  | false=>simp only[aVJ,aT7,ih]
abbrev lx(P:List Str):D:=.lst (P.map .str)
theorem aQI(k:Nat)(m:Nat){P:List Str}(hP:P.length<=64):(WT TT (k+1)).Φ "_law_set" [.int m,lx P]=.ok .fz (aG (sel P m)):=by
 rw[aPF];refine bH rfl ?_;show evB _ pA [some (false,.int m),some (false,lx P)]=_;have zl:sizeLine=16777216:=aS9;have en:j4 (.ok [(.fz,lx P)])=.ok .fz (.lst (cT 0 (P.map .str))):=rfl;have ec:bF (.ok .fz (.lst (cT 0 (P.map .str)))) [some (false,.int m),some (false,lx P)] [0] 2 (aI (.tp [.nm 1,.nm 2])) (λρ=>evF (WT TT k) [(.cmp .Eq (.bin .BitAnd (.bin .RShift (.var 0) (.var 1)) (.int 1)) (.int 1))] ρ) (λρ=>evE (WT TT k) (.var 2) ρ)=.ok .fr (.lst ((sel P m).map .str)):=by
  have:=aBR m P 0;rw[Nat.pow_zero,Nat.div_one] at this;rw[<- this,aBQ];refine aBE (enc:=λp:Str×Nat=>D.tup [.int (p.2:Int),.str p.1]) (λp=>m.testBit p.2) (λp=>.str p.1) (by simp;omega) λp hp=>⟨[some (false,.int m),some (false,.int (p.2:Int)),some (false,.str p.1)],.fz,by simp[bA],?_,λ_=>⟨.fz,by simp⟩⟩
  have b:=aQH m p.2;have b0:(0:Int)<=(p.2:Int):=by omega
  generalize (p.2:Int)=z at *;simp[b0,b]
 generalize cT 0 (P.map .str)=Z at *;generalize lx P=L at *;simp at ec;simp[pA,en,ec,aG]
theorem tJ{α:Type}{f:α->Bool}:∀ (xs:List α),eM (xs.map λx=>.bl (f x))=some (xs.map f)
 | []=>rfl
 | x::xs=>by show (eM (xs.map _)).map _=_;rw[tJ];rfl
theorem mO{α:Type}{f:α->Bool}{m:Md}(xs:List α):lF [(m,.lst (xs.map λx=>.bl (f x)))]=some (.fz,.bl (xs.all f)):=by show (eM _).map _=_;rw[tJ];simp[aWN]
theorem aQJ{α:Type}{f:α->Bool}{m:Md}(xs:List α):lG [(m,.lst (xs.map λx=>.bl (f x)))]=some (.fz,.bl (xs.any f)):=by show (eM _).map _=_;rw[tJ];simp[aWN]
theorem aQK(n:Nat):gK 0 (n:Int)=iN (List.range n):=by unfold gK iN;rw[Int.sub_zero,aT6];exact aYM λi _=>by show D.int (0+(i:Int))=_;rw[Int.zero_add]
theorem pL{n:Nat}(h:n<=1000):e7 (.ok [(.fz,.int (n:Int))])=.ok .fz (.lst (iN (List.range n))):=by unfold e7;rw[aT.thn_ok];dsimp only;rw[if_pos,aQK];simp only[aUG,aUU];omega
def gZ(L:List Nat)(x:Nat):Bool:=L.any λo=>sb o x&&o != x
def bX(L:List Nat)(acc:List Nat)(x:Nat):List Nat:=if gZ L x=true then acc else if x∈acc then acc else acc++[x]
def a9(L:List Nat):List Nat:=L.foldl (bX L) []
theorem tK(L:List Nat):∀ (xs acc:List Nat),acc.Nodup->(xs.foldl (bX L) acc).Nodup/\∀ y,y∈xs.foldl (bX L) acc↔y∈acc\/(y∈xs/\gZ L y=false)
 | [],acc,h=>⟨h,λy=>by simp⟩
 | x::xs,acc,h=>by
  have h1:(bX L acc x).Nodup/\∀ y,y∈bX L acc x↔y∈acc\/(y=x/\gZ L y=false):=by
   unfold bX;split
   . rename_i hw;exact ⟨h,λy=>⟨.inl,λz=>z.elim id λ⟨e,w⟩=>by rw[e,hw] at w;cases w⟩⟩
   . rename_i hw;have hw:gZ L x=false:=by simpa using hw
     split
     . rename_i hx;exact ⟨h,λy=>⟨.inl,λz=>z.elim id λ⟨e,_⟩=>e ▸ hx⟩⟩
     . rename_i hx;refine ⟨aWT.mpr ⟨h,by simp,λa ha b hb e=>hx (by rw[<- aVZ.mp hb,<- e];exact ha)⟩,λy=>?_⟩
       rw[aSM,aVZ];exact or_congr_right ⟨λe=>⟨e,e ▸ hw⟩,λe=>e.1⟩
  obtain ⟨a,b⟩:=tK L xs (bX L acc x) h1.1;refine ⟨a,λy=>?_⟩;rw[aU3,b y,h1.2 y,aSL,or_assoc];refine or_congr_right ⟨?_,?_⟩
  . rintro (⟨e,w⟩ | ⟨m,w⟩)
    . exact ⟨.inl e,w⟩
    . exact ⟨.inr m,w⟩
  . rintro ⟨e | m,w⟩
    . exact .inl ⟨e,w⟩
    . exact .inr ⟨m,w⟩
theorem aQL(L:List Nat):(a9 L).Nodup:=(tK L L [] aWU).1
theorem mP{L:List Nat}{y:Nat}:y∈a9 L↔y∈L/\gZ L y=false:=by
 rw[show a9 L=L.foldl (bX L) [] from rfl,(tK L L [] aWU).2]
 simp
theorem aQM{L:List Nat}{x y:Nat}(hx:x∈a9 L)(hy:y∈a9 L)(h:sb x y=true):x=y:=by apply aYN;intro ne;have:=(mP.mp hy).2;unfold gZ at this;rw[List.any_eq_false] at this;exact this x (mP.mp hx).1 (by rw[h];simpa using ne)
theorem tL(L:List Nat):∀ (xs acc:List Nat),(xs.foldl (bX L) acc).length<=acc.length+xs.length
 | [],acc=>by simp
 | x::xs,acc=>by
  rw[aU3];refine aSI (tL L xs _) ?_;have:(bX L acc x).length<=acc.length+1:=by
   unfold bX;split
   . omega
   . split
     . omega
     . simp
  simp;omega
abbrev kvI(acc:List Nat):List (Key×D):=acc.map λm:Nat=>((.inl (m:Int):Key),D.bl true)
theorem put_I(acc:List Nat)(x:Nat):fC (kvI acc) (.inl (x:Int)) (.bl true)=kvI (if x∈acc then acc else acc++[x]):=by
 unfold fC;by_cases hx:x∈acc
 . rw[if_pos hx,if_pos (by rw[aU9];exact ⟨(.inl (x:Int),.bl true),aX6.mpr ⟨x,hx,rfl⟩,by simp⟩)]
   unfold kvI;rw[aWM];refine aYM λm hm=>?_;show (if (Sum.inl (m:Int):Key)=.inl (x:Int) then _ else _)=_;split <;> rfl
 . rw[if_neg hx,if_neg (by
     rw[aU9];rintro ⟨kv,hk,e⟩;obtain ⟨m,hm,rfl⟩:=aX6.mp hk;have e:(Sum.inl (m:Int):Key)=.inl (x:Int):=by simpa using e
     injection e with e
     have:m=x:=by omega
     exact hx (this ▸ hm))]
   unfold kvI;rw[aYO];rfl
theorem mQ(k:Nat){L:List Nat}(hL:L.length<=100):(WT TT (k+1)).Φ "_law_least" [.lst (iN L)]=.ok .fr (.lst (iN (a9 L))):=by
 rw[aPD];refine bH rfl ?_;show evB _ o8 [some (false,.lst (iN L)),none,none]=_;have zl:sizeLine=16777216:=aS9;have key:=iS (enc:=iD) (k:=aI (.nm 2)) (body:=evB (WT TT k) jH) (λpre ρ=>∃ x,ρ=[some (false,.lst (iN L)),some (true,.dct (kvI (pre.foldl (bX L) []))),x]) L (λpre x post e ρ hI=>by
  obtain ⟨y,rfl⟩:=hI;refine ⟨[some (false,.lst (iN L)),some (true,.dct (kvI (pre.foldl (bX L) []))),some (false,iD x)],[some (false,.lst (iN L)),some (true,.dct (kvI ((pre++[x]).foldl (bX L) []))),some (false,iD x)],by simp,?_,_,rfl⟩
  have ec:bF (.ok .fz (.lst (iN L))) [some (false,.lst (iN L)),some (true,.dct (kvI (pre.foldl (bX L) []))),some (false,iD x)] [2] 1 (aI (.nm 1)) (λρ=>evF (WT TT k) [] ρ) (λρ=>evE (WT TT k) (.andL [(.cmp .Eq (.bin .BitAnd (.var 1) (.var 0)) (.var 1)),(.cmp .NotEq (.var 1) (.var 0))]) ρ)=.ok .fr (.lst (L.map λo=>.bl (sb o x&&o != x))):=by
   refine cY (enc:=iD) _ (by omega) λo ho=>⟨[some (false,iD x),some (false,iD o)],.fz,by simp[bA],by simp,.fz,?_⟩
   have e1:(Builtin.bitAnd (o:Int) (x:Int)==(o:Int))=sb o x:=by rw[mM,aS7];unfold sb;simp;omega
   have e2:((o:Int) != (x:Int))=(o != x):=by rw[aS7];simp;omega
   cases q:sb o x with
   | true=>simp[iD,e1,e2,q]
   | false=>simp[iD,e1,e2,q]
  have ea:=aQJ (f:=λo=>sb o x&&o != x) (m:=.fr) L;have ef:(pre++[x]).foldl (bX L) []=bX L (pre.foldl (bX L) []) x:=by rw[List.foldl_append];rfl
  have pu:=put_I (pre.foldl (bX L) []) x;have lc:(kvI (pre.foldl (bX L) [])).length<sizeLine:=by rw[aTZ];have:=tL L pre [];have l2:=congrArg List.length e;simp at this l2;omega
  have ed:fU [some (false,.lst (iN L)),some (true,.dct (kvI (pre.foldl (bX L) []))),some (false,iD x)] 1 (.ok .fz (.int (x:Int))) (.ok .fz (.bl true))=.nx [some (false,.lst (iN L)),some (true,.dct (fC (kvI (pre.foldl (bX L) [])) (.inl (x:Int)) (.bl true))),some (false,iD x)]:=by show (if (kvI (pre.foldl (bX L) [])).length<sizeLine then aK.nx (List.set _ 1 (some (true,.dct (fC (kvI (pre.foldl (bX L) [])) (.inl (x:Int)) (.bl true))))) else .stuck)=_;rw[if_pos lc];rfl
  rw[pu] at ed;rw[ef];have hw:L.any (λo=>sb o x&&o != x)=gZ L x:=rfl;rw[hw] at ea;generalize (L.map λo=>D.bl (sb o x&&o != x))=Z at *;generalize iN L=LL at *;generalize pre.foldl (bX L) []=acc at *;cases w:gZ L x with
  | true =>
   rw[w] at ea;rw[show bX L acc x=acc from if_pos w]
   generalize kvI acc=K at *;simp at ec;simp[jH,ec,ea]
  | false =>
   rw[w] at ea;rw[show bX L acc x=if x∈acc then acc else acc++[x] from if_neg (by rw[w];decide)]
   generalize kvI (if x∈acc then acc else acc++[x])=K' at *;generalize kvI acc=K at *;simp at ec;simp[jH,ec,ea,ed]) L [] [some (false,.lst (iN L)),some (true,.dct []),none] rfl ⟨none,rfl⟩
 obtain ⟨ρ',e,x,rfl⟩:=key;have ef:∀ ρ,eO (.ok .fz (.lst (iN L))) ρ (aI (.nm 2)) (evB (WT TT k) jH)=bI (aI (.nm 2)) (evB (WT TT k) jH) (iN L) ρ:=λρ=>rfl;have ek:lQ [(.fz,.dct (kvI (a9 L)))]=some (.fr,.lst (iN (a9 L))):=by
  show (if ((kvI (a9 L)).all λkv=>j6 kv.1)=true then some (Md.fr,D.lst ((kvI (a9 L)).map λkv=>iH kv.1)) else none)=_;rw[if_pos]
  . unfold kvI iN;rw[aWM];rfl
  . rw[aU4];intro kv hkv;obtain ⟨m,_,rfl⟩:=aX6.mp hkv;rfl
 have e:bI (aI (.nm 2)) (evB (WT TT k) jH) (iN L) [some (false,.lst (iN L)),some (true,.dct []),none]=.nx [some (false,.lst (iN L)),some (true,.dct (kvI (a9 L))),x]:=e;generalize iN (a9 L)=R at *;generalize kvI (a9 L)=K at *;generalize iN L=LL at *;simp[o8,ef,e,gN,ek]
structure cV(P:List Str):Prop where
 str:bR P
 ok:∀ x∈P,okS x
 len:P.length<=12
theorem aBS{P:List Str}{x:Str}(h:x∈P):P[P.idxOf x]? = some x:=by rw[aU7 (aYH.mpr h),aYI]
theorem pM{P:List Str}(hn:P.Nodup){i:Nat}{x:Str}(h:P[i]? = some x):P.idxOf x=i:=by obtain ⟨h1,h2⟩:=aSO.mp h;rw[<- h2,hn.idxOf_getElem]
theorem aQN{L:List Str}(hn:L.Nodup){f g:Nat}(hf:∀ i,f.testBit i=true->i<L.length)(hg:∀ i,g.testBit i=true->i<L.length)(e:sel L f=sel L g):f=g:=by
 have key:∀ {f g:Nat},(∀ i,f.testBit i=true->i<L.length)->sel L f=sel L g->∀ i,f.testBit i=true->g.testBit i=true:=λ{f g} hf e i hi=>by have hl:=hf i hi;have h1:L[i]∈sel L f:=iR.mpr ⟨i,aU7 hl,hi⟩;rw[e] at h1;obtain ⟨j,h2,h3⟩:=iR.mp h1;have:j=i:=(pM hn h2).symm.trans (pM hn (aU7 hl));rw[<- this];exact h3
 apply aYD;intro i;rw[aS7];exact ⟨key hf e i,key hg e.symm i⟩
theorem aBT{α β:Type}{f:α->β}:∀ {l:List α},l.Nodup->(∀ x∈l,∀ y∈l,f x=f y->x=y)->(l.map f).Nodup
 | [],_,_=>aWU
 | a::l,h,i=>by rw[aTP] at h;rw[aUQ,aTP];refine ⟨λhm=>?_,aBT h.2 λx hx y hy=>i x (mcm hx) y (mcm hy)⟩;obtain ⟨b,hb,e⟩:=aX6.mp hm;have:=i b (mcm hb) a mcs e;exact h.1 (this ▸ hb)
theorem aQO{l:List Nat}(h:l.Nodup){a:Nat}(ha:∀ x∈l,x=a):l.length<=1:=by
 match l,h,ha with
 | [],_,_=>simp
 | [_],_,_=>simp
 | x::y::l,h,ha =>
  exfalso;have h1:=ha x (by simp)
  have h2:=ha y (by simp)
  simp[h1,h2] at h
theorem aQP{L:List Str}(hL:L.Nodup){F:List Nat}(nd:F.Nodup)(bel:∀ f∈F,∀ i,f.testBit i=true->i<L.length)(anti:∀ x∈F,∀ y∈F,sb x y=true->x=y)(len:F.length<64):gR (F.map (sel L))=true:=by
 unfold gR;simp only[aUG,aUW,aUU,aU4,aTZ];refine ⟨⟨aBT nd λx hx y hy e=>aQN hL (bel x hx) (bel y hy) e,?_⟩,len⟩;by_cases hz:∃ f∈F,sel L f=[]
 . obtain ⟨f,hf,e⟩:=hz;have f0:f=0:=by
     apply aYD;intro i;rw[aYG];cases q:f.testBit i with
     | false=>rfl
     | true=>have:L[i]'(bel f hf i q)∈sel L f:=iR.mpr ⟨i,aU7 (bel f hf i q),q⟩;rw[e] at this;cases this
   refine .inl (aQO nd (a:=f) λx hx=>(anti f hf x hx (iQ.mpr λi hi=>?_)).symm);rw[f0,aYG] at hi;cases hi
 . refine .inr λt ht=>?_;obtain ⟨f,hf,rfl⟩:=aX6.mp ht;cases q:sel L f with
   | nil=>exact absurd ⟨f,hf,q⟩ hz
   | cons=>rfl
structure Fam(P:List Str)(NS:List (List Str)):Prop where
 str:∀ A∈NS,bR A
 sub:∀ A∈NS,∀ x∈A,x∈P
structure dP(P:List Str)(NS:List (List Str)):Prop extends Fam P NS where
 srt:eR NS
 anti:∀ A∈NS,∀ B∈NS,(∀ x∈A,x∈B)->A=B
def Up(NS:List (List Str))(g:Str->Prop):Prop:=∃ A∈NS,∀ x∈A,g x
theorem aBU{P:List Str}{NS NS':List (List Str)}(a:dP P NS)(b:dP P NS')(h:∀ g,Up NS g↔Up NS' g){A:List Str}(hA:A∈NS):A∈NS':=by obtain ⟨B,hB,sB⟩:=(h (·∈A)).mp ⟨A,hA,λx hx=>hx⟩;obtain ⟨A',hA',sA⟩:=(h (·∈B)).mpr ⟨B,hB,λx hx=>hx⟩;have e:A'=A:=a.anti A' hA' A hA λx hx=>sB x (sA x hx);subst e;have:A'=B:=lT (a.str A' hA') (b.str B hB) λy=>⟨sA y,sB y⟩;rw[this];exact hB
theorem tM{P:List Str}{NS NS':List (List Str)}(a:dP P NS)(b:dP P NS')(h:∀ g,Up NS g↔Up NS' g):NS=NS' :=
 rW a.srt b.srt λy=>⟨aBU a b h,aBU b a λg=>(h g).symm⟩
def gU(U:List Str)(g:Str->Prop)(i:Nat):Prop:=∃ x,U[i]? = some x/\g x
def UpM(F:List Nat)(S:Nat->Prop):Prop:=∃ f∈F,∀ i,f.testBit i=true->S i
theorem aBV{U:List Str}{f:Nat}{g:Str->Prop}(bel:∀ i,f.testBit i=true->i<U.length):(∀ x∈sel U f,g x)↔∀ i,f.testBit i=true->gU U g i:=by
 constructor
 . intro h i hi;have hl:=bel i hi;exact ⟨U[i],aU7 hl,h _ (iR.mpr ⟨i,aU7 hl,hi⟩)⟩
 . intro h x hx;obtain ⟨i,h1,h2⟩:=iR.mp hx;obtain ⟨y,e,gy⟩:=h i h2;rw[h1] at e;cases e;exact gy
def cZ(U:List Str)(F:List Nat):List (List Str):=eE (F.map (sel U))
structure Fm(U:List Str)(F:List Nat):Prop where
 nd:F.Nodup
 bel:∀ f∈F,∀ i,f.testBit i=true->i<U.length
 anti:∀ x∈F,∀ y∈F,sb x y=true->x=y
theorem kQ{U:List Str}{F:List Nat}{A:List Str}:A∈cZ U F↔∃ f∈F,A=sel U f:=by unfold cZ;rw[oH,aX6];exact ⟨λ⟨m,h,e⟩=>⟨m,h,e.symm⟩,λ⟨m,h,e⟩=>⟨m,h,e.symm⟩⟩
theorem tN{P U:List Str}{F:List Nat}(hU:bR U)(sub:∀ x∈U,x∈P)(h:Fm U F):dP P (cZ U F):=by
 refine ⟨⟨λA hA=>?_,λA hA x hx=>?_⟩,oJ _,λA hA B hB hs=>?_⟩
 . obtain ⟨f,_,rfl⟩:=kQ.mp hA;exact hU.sublist pK
 . obtain ⟨f,_,rfl⟩:=kQ.mp hA;exact sub x (pK.subset hx)
 . obtain ⟨f,hf,rfl⟩:=kQ.mp hA;obtain ⟨f',hf',rfl⟩:=kQ.mp hB;have:f=f':=h.anti f hf f' hf' (iQ.mpr λi hi=>by
     have hl:=h.bel f hf i hi;obtain ⟨j,h1,h2⟩:=iR.mp (hs U[i] (iR.mpr ⟨i,aU7 hl,hi⟩));have hn:=iT hU;rw[<- (pM hn h1).symm.trans (pM hn (aU7 hl))];exact h2)
   rw[this]
theorem iU{U:List Str}{F:List Nat}{g:Str->Prop}(bel:∀ f∈F,∀ i,f.testBit i=true->i<U.length):Up (cZ U F) g↔UpM F (gU U g):=by
 constructor
 . rintro ⟨A,hA,h⟩;obtain ⟨f,hf,rfl⟩:=kQ.mp hA;exact ⟨f,hf,(aBV (bel f hf)).mp h⟩
 . rintro ⟨f,hf,h⟩;exact ⟨_,kQ.mpr ⟨f,hf,rfl⟩,(aBV (bel f hf)).mpr h⟩
def mk(U A:List Str):Nat:=cD (ixs U A)
section
variable {U A:List Str}(hU:bR U)(hA:bR A)(sub:∀ x∈A,x∈U)
include hU hA sub
theorem tO{i:Nat}:(mk U A).testBit i=true↔∃ x∈A,U.idxOf x=i:=by unfold mk;rw[aBG (aQD hU hA sub)];unfold ixs;rw[aX6]
theorem aQQ{i:Nat}(h:(mk U A).testBit i=true):i<U.length:=by obtain ⟨x,hx,rfl⟩:=(tO hU hA sub).mp h;exact aYH.mpr (sub x hx)
theorem aBW{g:Str->Prop}:(∀ x∈A,g x)↔∀ i,(mk U A).testBit i=true->gU U g i:=by
 constructor
 . intro h i hi;obtain ⟨x,hx,rfl⟩:=(tO hU hA sub).mp hi;exact ⟨x,aBS (sub x hx),h x hx⟩
 . intro h x hx;obtain ⟨y,e,gy⟩:=h _ ((tO hU hA sub).mpr ⟨x,hx,rfl⟩);rw[aBS (sub x hx)] at e;cases e;exact gy
end
theorem aQR{f n:Nat}(h:∀ i,f.testBit i=true->i<n):f<2 ^ n:=by apply aYN;intro hn;obtain ⟨i,hi,e⟩:=Nat.exists_ge_and_testBit_of_ge_two_pow (aVN.mp hn);have:=h i e;omega
theorem kR{α:Type}[BEq α][LawfulBEq α]:∀ {l l':List α},l.Nodup->(∀ y∈l,y∈l')->l.length<=l'.length
 | [],_,_,_=>aTF _
 | a::l,l',h1,h2=>by
  rw[aTP] at h1;have ha:=h2 a mcs;have:=kR (l':=l'.erase a) h1.2 λy hy=>by have hne:y≠a:=λe=>h1.1 (e ▸ hy);exact (aXT hne).mpr (h2 y (mcm hy))
  rw[aXU ha] at this;have pos:0<l'.length:=aXV ha;rw[aUO];omega
theorem aQS{l:List Nat}{n:Nat}(nd:l.Nodup)(h:∀ x∈l,x<n):l.length<=n:=by have:=kR nd (l':=List.range n) λy hy=>aSH.mpr (h y hy);simpa using this
theorem aQT{l:List (List Str)}(h:eR l):l.Nodup:=h.imp λ{a b} h e=>by subst e;rw[kC] at h;cases h
abbrev tn(NS:List (List Str)):D:=.tup (NS.map aG)
section
variable {P:List Str}{NS:List (List Str)}
theorem eG:bR (aR NS):=gO _
theorem pN(h:Fam P NS):∀ x∈aR NS,x∈P:=λx hx=>by obtain ⟨A,hA,hx⟩:=List.mem_flatten.mp (dS.mp hx);exact h.sub A hA x hx
theorem tP(h:Fam P NS):(aR NS).length<=P.length:=kR (iT eG) (pN h)
theorem f9(h:Fam P NS){A:List Str}(hA:A∈NS):A.length<=P.length:=kR (iT (h.str A hA)) (h.sub A hA)
theorem aBX{n:Nat}:∀ (NS:List (List Str)),(∀ A∈NS,A.length<=n)->NS.flatten.length<=n * NS.length
 | [],_=>by simp
 | A::NS,h=>by have:=aBX NS λB hB=>h B (mcm hB);have h1:=h A mcs;simp only[List.flatten_cons,aTY,aUO,aYF];omega
theorem tQ{U:List Str}{F:List Nat}(hU:bR U)(h:Fm U F)(hl:F.length<64):gR (F.map (sel U))=true:=aQP (iT hU) h.nd h.bel h.anti hl
structure Note(NS:List (List Str)):Prop where
 fl:NS.flatten.length<scanBound
 un:(aR NS).length<64
theorem aBY(hP:cV P)(h:Fam P NS)(hl:NS.length<=64):Note NS:=by
 have h5:=hP.len;refine ⟨?_,?_⟩
 . have:=aBX (n:=12) NS λA hA=>aSI (f9 h hA) h5;show _<4096;omega
 . have:=tP h;omega
end
def lmF(acc:List Nat)(x:Nat):List Nat:=if acc.any (λo=>sb o x)=true then acc else acc++[x]
theorem aBZ{a b:Nat}(h:sb a b=true):a<=b:=by unfold sb at h;rw[aUU] at h;rw[<- h];exact Nat.and_le_right
theorem aB0(a:Nat):sb a a=true:=iQ.mpr λ_ h=>h
structure Lm(L R:List Nat):Prop where
 nd:R.Nodup
 anti:∀ x∈R,∀ y∈R,sb x y=true->x=y
 sub:∀ y∈R,y∈L
 cov:∀ y∈L,∃ o∈R,sb o y=true
theorem aQU{L R:List Nat}{x:Nat}(h:Lm L R)(hx:∀ y∈L,y<x):Lm (L++[x]) (lmF R x):=by
 unfold lmF;split
 . rename_i ha;obtain ⟨o,ho,e⟩:=aU9.mp ha;refine ⟨h.nd,h.anti,λy hy=>aSN _ (h.sub y hy),λy hy=>?_⟩;rcases aSM.mp hy with hy | hy
   . exact h.cov y hy
   . rw[aVZ.mp hy];exact ⟨o,ho,e⟩
 . rename_i ha;have ha:∀ o∈R,sb o x≠true:=λo ho e=>ha (aU9.mpr ⟨o,ho,e⟩);have nx:x∉R:=λhr=>aSD x (hx x (h.sub x hr));refine ⟨aWT.mpr ⟨h.nd,by simp,λa ha b hb e=>nx (by rw[<- aVZ.mp hb,<- e];exact ha)⟩,λa ha' b hb' s=>?_,λy hy=>?_,λy hy=>?_⟩
   . rcases aSM.mp ha' with ha' | ha' <;> rcases aSM.mp hb' with hb' | hb'
     . exact h.anti a ha' b hb' s
     . rw[aVZ.mp hb'] at s;exact absurd s (ha a ha')
     . rw[aVZ.mp ha'] at s;have:=aBZ s;have:=hx b (h.sub b hb');omega
     . rw[aVZ.mp ha',aVZ.mp hb']
   . rcases aSM.mp hy with hy | hy
     . exact aSN _ (h.sub y hy)
     . exact aS5 _ hy
   . rcases aSM.mp hy with hy | hy
     . obtain ⟨o,ho,e⟩:=h.cov y hy;exact ⟨o,aSN _ ho,e⟩
     . rw[aVZ.mp hy];exact ⟨x,aS5 _ (by simp),aB0 x⟩
theorem aB1:∀ (xs L R:List Nat),Lm L R->(L++xs).Pairwise (· < ·)->Lm (L++xs) (xs.foldl lmF R)
 | [],L,R,h,_=>by simpa using h
 | x::xs,L,R,h,p=>by
  have hx:∀ y∈L,y<x:=λy hy=>(aX5.mp p).2.2 y hy x mcs;have:=aB1 xs (L++[x]) (lmF R x) (aQU h hx) (by simpa using p)
  simpa using this
def cE(L:List Nat):List Nat:=(dD (L.map λn:Nat=>(n:Int))).map Int.toNat
theorem pO{L:List Nat}{z:Int}(h:z∈dD (L.map λn:Nat=>(n:Int))):∃ n∈L,z=(n:Int):=by obtain ⟨n,hn,e⟩:=aX6.mp (jE.mp h);exact ⟨n,hn,e.symm⟩
theorem tR{L:List Nat}{y:Nat}:y∈cE L↔y∈L:=by
 unfold cE;rw[aX6];constructor
 . rintro ⟨z,hz,rfl⟩;obtain ⟨n,hn,rfl⟩:=pO hz;rw[aT6];exact hn
 . intro hy;exact ⟨(y:Int),jE.mpr (aX6.mpr ⟨y,hy,rfl⟩),aT6 y⟩
theorem aB2(L:List Nat):(cE L).Pairwise (· < ·):=by unfold cE;rw[aX0];refine aYJ (λ{a b} ha hb r=>?_) (lY _);obtain ⟨n,_,rfl⟩:=pO ha;obtain ⟨m,_,rfl⟩:=pO hb;simp at r ⊢;exact r
theorem aQV(L:List Nat):(dD (L.map λn:Nat=>(n:Int))).map D.int=iN (cE L):=by unfold iN cE;rw[aWM];refine aYM λz hz=>?_;obtain ⟨n,_,rfl⟩:=pO hz;show _=D.int _;rw[aT6]
def lmL(L:List Nat):List Nat:=(cE L).foldl lmF []
theorem aB3(L:List Nat):Lm L (lmL L):=by
 have:=aB1 (cE L) [] [] ⟨aWU,(by intro x hx;cases hx),(by intro x hx;cases hx),(by intro x hx;cases hx)⟩ (aB2 L)
 rw[aWL] at this;exact ⟨this.nd,this.anti,λy hy=>tR.mp (this.sub y hy),λy hy=>this.cov y (tR.mpr hy)⟩
theorem aB4(L:List Nat){S:Nat->Prop}:UpM (lmL L) S↔UpM L S:=by
 have h:=aB3 L;constructor
 . rintro ⟨f,hf,s⟩;exact ⟨f,h.sub f hf,s⟩
 . rintro ⟨f,hf,s⟩;obtain ⟨o,ho,e⟩:=h.cov f hf;exact ⟨o,ho,λi hi=>s i (iQ.mp e i hi)⟩
theorem kS{U:List Str}{L:List Nat}(bel:∀ f∈L,∀ i,f.testBit i=true->i<U.length):Fm U (lmL L):=by have h:=aB3 L;exact ⟨h.nd,λf hf=>bel f (h.sub f hf),h.anti⟩
theorem aQW{n:Nat}{Φ:List D->Res}{xs:List (Md×D)}{d:D}(ha:cR xs=none)(hl:xs.length=n)(h:Φ (xs.map (·.2))=.ok .fz d)(hp:sJ d=true):callO n Φ (.ok xs)=.ok .fz d:=by unfold callO;rw[aT.thn_ok,ha];dsimp only;rw[if_pos hl,h];dsimp only;rw[if_pos hp]
theorem aB5:∀ (L:List Nat),gM (iN L)=some (L.map λn:Nat=>(n:Int))
 | []=>rfl
 | x::L=>by show (gM (iN L)).map _=_;rw[aB5];rfl
theorem aQX{m:Md}{L:List Nat}(h1:L.length<4096)(h2:(cE L).length<64):gW (.ok m (.lst (iN L)))=.ok .fr (.lst (iN (cE L))):=by unfold gW;rw[Res.thn_ok];dsimp only;rw[aB5];dsimp only;rw[if_pos ⟨by rw[aTZ];exact h1,by unfold cE at h2;rw[aTZ] at h2;exact h2⟩,aQV]
theorem tU:∀ (xs acc:List Nat),(xs.foldl lmF acc).length<=acc.length+xs.length
 | [],acc=>by simp
 | x::xs,acc=>by
  rw[aU3];refine aSI (tU xs _) ?_;have:(lmF acc x).length<=acc.length+1:=by
   unfold lmF;split
   . omega
   . simp
  simp;omega
theorem aB6(k:Nat){L:List Nat}(h1:L.length<4096)(h2:(cE L).length<64):(WT TT (k+2)).Φ "least_masks" [.lst (iN L)]=.ok .fr (.lst (iN (lmL L))):=by
 rw[aO6];refine bH rfl ?_;show evB _ oY [some (false,.lst (iN L)),none,none]=_;have zl:sizeLine=16777216:=aS9;have eu:=aQX (m:=.fz) h1 h2;generalize hT:D.lst (iN L)=T at *;have key:=iS (enc:=iD) (k:=aI (.nm 2)) (body:=evB (WT TT (k+1)) jG) (λpre ρ=>∃ x,ρ=[some (false,T),some (true,.lst (iN (pre.foldl lmF []))),x]) (cE L) (λpre x post e ρ hI=>by
  obtain ⟨y,rfl⟩:=hI;refine ⟨[some (false,T),some (true,.lst (iN (pre.foldl lmF []))),some (false,iD x)],[some (false,T),some (true,.lst (iN ((pre++[x]).foldl lmF []))),some (false,iD x)],by simp,?_,_,rfl⟩
  have w:callO 2 ((WT TT (k+1)).Φ "has_one_within") (.ok [(.fz,.int (x:Int)),(.bo,.lst (iN (pre.foldl lmF [])))])=.ok .fz (.bl ((pre.foldl lmF []).any λo=>sb o x)):=aQW rfl rfl (within k x (pre.foldl lmF [])) rfl;have lp:pre.length<64:=by have:=congrArg List.length e;simp at this;omega
  have la:(pre.foldl lmF []).length<sizeLine:=by have:=tU pre [];simp at this;omega
  rw[List.foldl_append,aU3,List.foldl_nil];generalize hacc:pre.foldl lmF []=acc at *;cases q:acc.any λo=>sb o x with
  | true =>
   rw[show lmF acc x=acc from if_pos q]
   rw[q] at w;generalize iN acc=AA at *;simp[jG,iD,w]
  | false =>
   rw[show lmF acc x=acc++[x] from if_neg (by rw[q];decide),show iN (acc++[x])=iN acc++[iD x] from aYO]
   rw[q] at w;have ap:fT [some (false,T),some (true,.lst (iN acc)),some (false,.int (x:Int))] 1 (.ok .fz (.int (x:Int)))=.nx [some (false,T),some (true,.lst (iN acc++[iD x])),some (false,.int (x:Int))]:=by show (if (iN acc).length<sizeLine then aK.nx _ else .stuck)=_;rw[if_pos (by rw[aTZ];exact la)];rfl
   generalize iN acc=AA at *;simp[jG,iD,w,ap]) (cE L) [] [some (false,T),some (true,.lst []),none] rfl ⟨none,rfl⟩
 obtain ⟨ρ',e,x,rfl⟩:=key;have ef:∀ ρ,eO (.ok .fz (.lst (iN (cE L)))) ρ (aI (.nm 2)) (evB (WT TT (k+1)) jG)=bI (aI (.nm 2)) (evB (WT TT (k+1)) jG) (iN (cE L)) ρ:=λρ=>rfl;have e:bI (aI (.nm 2)) (evB (WT TT (k+1)) jG) (iN (cE L)) [some (false,T),some (true,.lst []),none]=.nx [some (false,T),some (true,.lst (iN (lmL L))),x]:=e;have el:e6 (.ok [])=.ok .fr (.lst []):=rfl;generalize iN (lmL L)=R at *;generalize iN (cE L)=LL at *;simp[oY,eu,ef,e,el,eN]
theorem tV(k:Nat){U:List Str}{NS:List (List Str)}(sub:∀ A∈NS,∀ x∈A,x∈U)(ln:∀ A∈NS,A.length<=64)(hl:NS.length<=64):(WT TT (k+1)).Φ "masks_of" [tn NS,.dct (kvs 0 U)]=.ok .fr (.lst (iN (NS.map (mk U)))):=by
 rw[aO9];refine bH rfl ?_;show evB _ o3 [some (false,tn NS),some (false,.dct (kvs 0 U))]=_;have zl:sizeLine=16777216:=aS9;have ec:bF (.ok .fz (.lst (NS.map aG))) [some (false,tn NS),some (false,.dct (kvs 0 U))] [1] 1 (aI (.nm 1)) (λρ=>evF (WT TT k) [] ρ) (λρ=>evE (WT TT k) (.sum1 (.comp (.dix (.var 0) (.var 1)) (.items (.var 1)) [] [0] (.nm 1) 1)) ρ)=.ok .fr (.lst (iN (NS.map (mk U)))):=by
  rw[show iN (NS.map (mk U))=NS.map λA=>iD (mk U A) from aWM]
  refine cY (enc:=aG) _ (by omega) λA hA=>⟨[some (false,.dct (kvs 0 U)),some (false,aG A)],.fz,by simp[bA],by simp,.fz,?_⟩
  have c:bF (.ok .fz (.lst (A.map D.str))) [some (false,.dct (kvs 0 U)),some (false,aG A)] [0] 1 (aI (.nm 1)) (λρ=>evF (WT TT k) [] ρ) (λρ=>evE (WT TT k) (.dix (.var 0) (.var 1)) ρ)=.ok .fr (.lst (iN (kP (ixs U A)))):=by
   have el:iN (kP (ixs U A))=A.map λx=>iD (2 ^ (U.idxOf x)):=by unfold iN kP ixs;rw[aWM,aWM];rfl
   rw[el];refine cY (enc:=D.str) _ (by have:=ln A hA;omega) λx hx=>⟨[some (false,.dct (kvs 0 U)),some (false,.str x)],.fz,by simp[bA],by simp,.fz,?_⟩
   have g:=aQE (m:=.fz) (m':=.fz) (tF (i:=0) (sub A hA x hx));rw[aVX] at g;generalize kvs 0 U=M at *;simp[g]
  have s:aZ.or' fW fE [(.fr,.lst (iN (kP (ixs U A))))]=some (.fz,.int (mk U A:Nat)):=aP6 (kP (ixs U A));have ei:dI (.ok .fz (aG A))=.ok .fz (.lst (A.map D.str)):=rfl;generalize mk U A=W at *;generalize iN (kP (ixs U A))=BB at *;generalize A.map D.str=AA at *;generalize aG A=EA at *;generalize kvs 0 U=M at *;simp at c;simp[ei,c,s,iD]
 have ei:dI (.ok .fz (tn NS))=.ok .fz (.lst (NS.map aG)):=rfl;generalize iN (NS.map (mk U))=R at *;generalize tn NS=T at *;generalize NS.map aG=TT' at *;generalize kvs 0 U=M at *;simp at ec;simp[o3,ei,ec]
def Lst(NS:List (List Str)):List (List Str):=cZ (aR NS) (lmL (NS.map (mk (aR NS))))
section
variable {P:List Str}{NS:List (List Str)}
theorem tW{U:List Str}(hU:bR U)(h:Fam P NS)(sub:∀ A∈NS,∀ x∈A,x∈U):∀ f∈NS.map (mk U),∀ i,f.testBit i=true->i<U.length:=λf hf i hi=>by obtain ⟨A,hA,rfl⟩:=aX6.mp hf;exact aQQ hU (h.str A hA) (sub A hA) hi
theorem tX{U:List Str}(hU:bR U)(h:Fam P NS)(sub:∀ A∈NS,∀ x∈A,x∈U){g:Str->Prop}:UpM (NS.map (mk U)) (gU U g)↔Up NS g:=by
 constructor
 . rintro ⟨f,hf,s⟩;obtain ⟨A,hA,rfl⟩:=aX6.mp hf;exact ⟨A,hA,(aBW hU (h.str A hA) (sub A hA)).mpr s⟩
 . rintro ⟨A,hA,s⟩;exact ⟨_,aX6.mpr ⟨A,hA,rfl⟩,(aBW hU (h.str A hA) (sub A hA)).mp s⟩
theorem tY(h:Fam P NS):∀ f∈NS.map (mk (aR NS)),∀ i,f.testBit i=true->i<(aR NS).length:=tW eG h λA hA x hx=>mN hA hx
theorem tZ(h:Fam P NS):dP P (Lst NS):=tN eG (pN h) (kS (tY h))
theorem aB7(h:Fam P NS){g:Str->Prop}:Up (Lst NS) g↔Up NS g:=by unfold Lst;rw[iU (kS (tY h)).bel,aB4,tX eG h λA hA x hx=>mN hA hx]
theorem aB8(L:List Nat):(cE L).length<=L.length:=kR ((aB2 L).imp λ{a b} h=>aSE h) λy hy=>tR.mp hy
theorem aB9(L:List Nat):(lmL L).length<=(cE L).length:=by have:=tU (cE L) [];unfold lmL;simpa using this
theorem okU(hP:cV P)(h:Fam P NS):∀ x∈aR NS,okS x:=λx hx=>hP.ok x (pN h x hx)
theorem aCA(k:Nat)(hP:cV P)(h:Fam P NS)(hl:NS.length<64):(WT TT (k+3)).Φ "least_of" [tn NS]=.ok .fz (tn (Lst NS)):=by
 rw[aO5];refine bH rfl ?_;show evB _ oX [some (false,tn NS),none]=_;have zl:sizeLine=16777216:=aS9;have N:=aBY hP h (by omega)
 have bel:=tY h;have ul:=tP h;have h12:=hP.len;have hu:=aB8 (NS.map (mk (aR NS)));rw[aTZ] at hu;have hm:=aB9 (NS.map (mk (aR NS)));have e1:aP 1 ((WT TT (k+2)).Φ "bits_of") (.ok [(.fz,tn NS)])=_:=eW (aBN (k+1) NS N.fl N.un);have e2:=jL (tV (k+1) (U:=aR NS) (λA hA x hx=>mN hA hx) (λA hA=>by have:=f9 h hA;omega) (by omega))
 have e3:=eW (aB6 k (L:=NS.map (mk (aR NS))) (by rw[aTZ];omega) (by omega))
 have e4:=dU (aBP (k+1) (iT eG) (okU hP h) (aSJ N.un) (F:=lmL (NS.map (mk (aR NS)))) (by omega) (tQ eG (kS bel) (by omega)))
 have e4:_=Res.ok Md.fz (tn (Lst NS)):=e4;generalize tn (Lst NS)=R at *;generalize iN (lmL (NS.map (mk (aR NS))))=L1 at *;generalize iN (NS.map (mk (aR NS)))=L2 at *;generalize kvs 0 (aR NS)=M at *;generalize tn NS=T at *;simp[oX,e1,e2,e3,e4]
end
def Tms(a b:List (List Str)):List (List Str):=cZ (aR (a++b)) (lmL ((a.map (mk (aR (a++b)))).flatMap λm=>(b.map (mk (aR (a++b)))).map λn=>m ||| n))
theorem iV{m n i:Nat}:(m ||| n).testBit i=true↔m.testBit i=true\/n.testBit i=true:=by rw[Nat.testBit_or,aUW]
section
variable {P:List Str}{a b:List (List Str)}
theorem pP(ha:Fam P a)(hb:Fam P b):Fam P (a++b):=by
 refine ⟨λA hA=>?_,λA hA=>?_⟩ <;> rcases aSM.mp hA with hA | hA
 . exact ha.str A hA
 . exact hb.str A hA
 . exact ha.sub A hA
 . exact hb.sub A hA
theorem aQY{g:Str->Prop}:Up (a++b) g↔Up a g\/Up b g:=by unfold Up;simp only[aSM,or_and_right,exists_or]
theorem t4:∀ A∈a,∀ x∈A,x∈aR (a++b):=λA hA x hx=>mN (aSN _ hA) hx
theorem t5:∀ A∈b,∀ x∈A,x∈aR (a++b):=λA hA x hx=>mN (aS5 _ hA) hx
theorem t7(ha:Fam P a)(hb:Fam P b):∀ f∈((a.map (mk (aR (a++b)))).flatMap λm=>(b.map (mk (aR (a++b)))).map λn=>m ||| n),∀ i,f.testBit i=true->i<(aR (a++b)).length:=λf hf i hi=>by
 obtain ⟨m,hm,hf⟩:=aYP.mp hf;obtain ⟨n,hn,rfl⟩:=aX6.mp hf;rcases iV.mp hi with hi | hi
 . exact tW eG ha t4 m hm i hi
 . exact tW eG hb t5 n hn i hi
theorem aQZ(ha:Fam P a)(hb:Fam P b):dP P (Tms a b):=tN eG (pN (pP ha hb)) (kS (t7 ha hb))
theorem aQ0(ha:Fam P a)(hb:Fam P b){g:Str->Prop}:Up (Tms a b) g↔Up a g/\Up b g:=by
 unfold Tms;rw[iU (kS (t7 ha hb)).bel,aB4,<- tX (U:=aR (a++b)) eG ha t4,<- tX (U:=aR (a++b)) eG hb t5];constructor
 . rintro ⟨f,hf,s⟩;obtain ⟨m,hm,hf⟩:=aYP.mp hf;obtain ⟨n,hn,rfl⟩:=aX6.mp hf;exact ⟨⟨m,hm,λi hi=>s i (iV.mpr (.inl hi))⟩,⟨n,hn,λi hi=>s i (iV.mpr (.inr hi))⟩⟩
 . rintro ⟨⟨m,hm,s⟩,⟨n,hn,t⟩⟩;refine ⟨m ||| n,aYP.mpr ⟨m,hm,aX6.mpr ⟨n,hn,rfl⟩⟩,λi hi=>?_⟩;rcases iV.mp hi with hi | hi
   . exact s i hi
   . exact t i hi
end
abbrev LO:D:=.ins "Least" []
section
variable {P:List Str}{a b:List (List Str)}
theorem aCB:tn (a++b)=.tup (a.map aG++b.map aG):=by show D.tup ((a++b).map aG)=_;rw[aYO]
theorem plus(k:Nat)(hP:cV P)(ha:dP P a)(hb:dP P b)(hl:a.length+b.length<64):(WT TT (k+4)).Φ "Least.plus" [LO,tn a,tn b]=.ok .fz (tn (Lst (a++b))):=by
 rw[aPP];refine bH rfl ?_;show evB _ pH [some (false,LO),some (false,tn a),some (false,tn b)]=_;have zl:sizeLine=16777216:=aS9;have e1:=f7 (aCA k hP (pP ha.toFam hb.toFam) (by rw[aTY];omega))
 have e2:=zX (m:=.fz) (n:=.fz) (x:=a.map aG) (y:=b.map aG) (by simp;omega)
 rw[<- aCB] at e2;have e2:op2 (bM .Add) (.ok .fz (tn a)) (.ok .fz (tn b))=.ok .fz (tn (a++b)):=e2;generalize tn (Lst (a++b))=R at *;generalize tn (a++b)=AB at *;generalize tn a=A at *;generalize tn b=B at *;generalize LO=L at *;simp[pH,e2,e1]
def t8(a b:List (List Str)):List Nat:=(a.map (mk (aR (a++b)))).flatMap λm=>(b.map (mk (aR (a++b)))).map λn=>m ||| n
theorem times(k:Nat)(hP:cV P)(ha:dP P a)(hb:dP P b)(l1:a.length<=32)(l2:b.length<32)(hu:(cE (t8 a b)).length<64):(WT TT (k+3)).Φ "Least.times" [LO,tn a,tn b]=.ok .fz (tn (Tms a b)):=by
 rw[aPQ];refine bH rfl ?_;show evB _ pI [some (false,LO),some (false,tn a),some (false,tn b),none,none,none]=_;have zl:sizeLine=16777216:=aS9;unfold t8 at hu;have hm:=aB9 ((a.map (mk (aR (a++b)))).flatMap λm=>(b.map (mk (aR (a++b)))).map λn=>m ||| n);have fab:=pP ha.toFam hb.toFam;have N:=aBY hP fab (by rw[aTY];omega)
 have bel:=t7 ha.toFam hb.toFam;have ul:=tP fab;have e1:aP 1 ((WT TT (k+2)).Φ "bits_of") (.ok [(.fz,tn (a++b))])=_:=eW (aBN (k+1) (a++b) N.fl N.un);have e2:=zX (m:=.fz) (n:=.fz) (x:=a.map aG) (y:=b.map aG) (by simp;omega)
 rw[<- aCB] at e2;have e2:op2 (bM .Add) (.ok .fz (tn a)) (.ok .fz (tn b))=.ok .fz (tn (a++b)):=e2;have f5:=hP.len;have m1:=jL (tV (k+1) (U:=aR (a++b)) (NS:=a) t4 (λA hA=>by have:=f9 ha.toFam hA;omega) (by omega))
 have m2:=jL (tV (k+1) (U:=aR (a++b)) (NS:=b) t5 (λA hA=>by have:=f9 hb.toFam hA;omega) (by omega))
 have lp:((a.map (mk (aR (a++b)))).flatMap λm=>(b.map (mk (aR (a++b)))).map λn=>m ||| n).length<=1024:=by
  have:∀ l:List Nat,l.length<=32->(l.flatMap λm=>(b.map (mk (aR (a++b)))).map λn=>m ||| n).length<=32 * l.length:=by
   intro l
   induction l with
   | nil=>simp
   | cons x l ih =>
    intro h;have:=ih (by simp at h;omega)
    simp only[List.flatMap_cons,aTY,aTZ,aUO,aYF];omega
  have:=this (a.map (mk (aR (a++b)))) (by rw[aTZ];exact l1)
  rw[aTZ] at this;omega
 have e3:=eW (aB6 k (L:=(a.map (mk (aR (a++b)))).flatMap λm=>(b.map (mk (aR (a++b)))).map λn=>m ||| n) (by omega) hu)
 have e4:=dU (aBP (k+1) (iT eG) (okU hP fab) (aSJ N.un) (F:=lmL ((a.map (mk (aR (a++b)))).flatMap λm=>(b.map (mk (aR (a++b)))).map λn=>m ||| n)) (by omega) (tQ eG (kS bel) (by omega)))
 have e4 : _ = Res.ok Md.fz (tn (Tms a b)) := e4; generalize tn (Tms a b) = R at *; generalize (a.map (mk (aR (a ++ b)))) = MA at *; generalize (b.map (mk (aR (a ++ b)))) = MB at *; have c2 : ∀ x y z, gQ (.ok .fz (.lst (iN MA))) [x, y, z, some (false, .dct (kvs 0 (aR (a ++ b)))), some (false, .lst (iN MA)), some (false, .lst (iN MB))] [5] (fun ρ => evF (WT TT (k + 2)) [] ρ) (fun ρ => evE (WT TT (k + 2)) (.items (.var 0)) ρ) (fun ρ => evE (WT TT (k + 2)) (.bin .BitOr (.var 1) (.var 2)) ρ)
     = .ok .fr (.lst (iN (MA.flatMap λm=>MB.map λn=>m ||| n))):=λx y z=>by
  have c : dM 1 2 (fun ρ => evF (WT TT (k + 2)) [] ρ) (fun ρ => evE (WT TT (k + 2)) (.items (.var 0)) ρ) (fun ρ => evE (WT TT (k + 2)) (.bin .BitOr (.var 1) (.var 2)) ρ) [some (false, .lst (iN MB)), none, none] (iN MA)
      = some ((MA.filter λ_=>true).flatMap λm=>MB.map λn=>iD (m ||| n)):=by
   refine tD (enc:=iD) (enc2:=iD) (p:=λ_=>true) (ys:=λ_=>MB) (g:=λm n=>iD (m ||| n)) λf hf=>⟨.fz,?_,λ_=>⟨⟨.fz,?_⟩,λb hb=>⟨.fz,?_⟩⟩⟩
   . simp
   . simp
   . simp[iD,bor]
  rw[aYE.mpr λ_ _=>rfl] at c;have el:(MA.flatMap λm=>MB.map λn=>iD (m ||| n))=iN (MA.flatMap λm=>MB.map λn=>m ||| n):=by unfold iN;rw[List.map_flatMap];simp only[aWM];rfl
  unfold gQ;rw[Res.thn_ok];show (match dM 1 2 _ _ _ [some (false,.lst (iN MB)),none,none] (iN MA) with | some ys=>if ys.length<=sizeLine then Res.ok .fr (.lst ys) else .stuck | none=>.stuck)=_
  rw[c,el];dsimp only;rw[if_pos (by rw[aTZ];omega)]
 generalize iN (lmL (MA.flatMap λm=>MB.map λn=>m ||| n))=L1 at *;generalize iN (MA.flatMap λm=>MB.map λn=>m ||| n)=L2 at *;generalize iN MA=L3 at *;generalize iN MB=L4 at *;generalize kvs 0 (aR (a++b))=M at *;generalize tn (a++b)=AB at *;generalize tn a=A at *;generalize tn b=B at *;generalize LO=L at *;simp at c2;simp[pI,e1,e2,m1,m2,c2,e3,e4]
end
end K07
namespace K07
open PySem L2 D3 PySem.Builtin.Str
abbrev ab:Str := "abcdefghijklmnopqrstuvwxyz"
def bC:List Nat:=(Str.ofString "abcdefghijklmnopqrstuvwxyz").cps.toList
theorem t9:bC.length=26:=by decide +kernel
def lt(v:Int):Nat:=bC.getD (v % 26).toNat 0
theorem uA{z:Str}{m m':Md}{i:Int}{c:Nat}(h:atI z.cps.toList i=some c):op2 ixD (.ok m (.str z)) (.ok m' (.int i))=.ok .fz (.str ⟨#[c]⟩):=cC (by show (atI z.cps.toList i).map _=_;rw[h];rfl)
theorem aCC(v:Int){m m':Md}:op2 ixD (.ok m (.str ab)) (.ok m' (.int (v % 26)))=.ok .fz (.str ⟨#[lt v]⟩):=by
 have h0:=aYK v (show (26:Int)≠0 by decide)
 have h1:=aYL v (show (0:Int)<26 by decide)
 have hl:=t9;obtain ⟨j,hj⟩:=aYQ h0;refine uA ?_;show atI bC (v % 26)=some (lt v);unfold lt;rw[hj];have h2:j<bC.length:=by omega
 rw[aT6,aU6,aU7 h2];exact k6 (aU7 h2)
theorem let7(v:Nat):bC.getD (v % 26) 0∈bC:=by
 have h2:v % 26<bC.length:=by rw[t9];exact Nat.mod_lt _ (by decide)
 rw[aU6,aU7 h2];exact aU8 h2
theorem aQ1(v:Int):lt v∈bC:=by
 have h0:=aYK v (show (26:Int)≠0 by decide)
 have h1:=aYL v (show (0:Int)<26 by decide)
 have h2:(v % 26).toNat<bC.length:=by rw[t9];omega
 unfold lt;rw[aU6,aU7 h2];exact aU8 h2
theorem aCD:∀ (l:List Nat),Str.join "" (l.map λx=>(⟨#[x]⟩:Str))=⟨l.toArray⟩
 | []=>rfl
 | [x]=>rfl
 | x::y::l=>by
  have ih:=aCD (y::l);show (⟨#[x]⟩:Str) ++ "" ++ Str.join "" ((y::l).map λx=>(⟨#[x]⟩:Str))=_;rw[ih];refine PySem.Str.ext' ?_;rw[aYR,aYR,show (Str.ofString "").cps = #[] from rfl]
  simp
theorem aCE:∀ (l:List Nat),e8 (l.map λx=>D.str ⟨#[x]⟩)=some (l.map λx=>(⟨#[x]⟩:Str))
 | []=>rfl
 | x::l=>by show (e8 (l.map _)).map _=_;rw[aCE l];rfl
theorem aCF:∀ (l:List Nat),((l.map λx=>(⟨#[x]⟩:Str)).map (·.length)).sum=l.length
 | []=>rfl
 | x::l=>by simp only[aUQ,aX1,aCF l,aUO];show 1+_=_;omega
def cN(c:Int):List Nat:=[lt (mx c 0),lt (mx c 1),lt (mx c 2),lt (mx c 3)]
theorem stem(k:Nat)(c:Int)(ρ:Rho)(h0:ρ[0]? = some (some (false,.int c)))(h2:ρ[2]? = some (some (false,.str ab))):jX "str" iC (.ok .fz (.str "")) (bV (bF (.ok .fz (.lst (iN (List.range 4)))) ρ [2,0] 1 (aI (.nm 2)) (λρ=>evF (WT TT (k+1)) [] ρ) (λρ=>evE (WT TT (k+1)) (.ix (.var 0) (.bin .Mod (.call "_law_mix" 2 [(.var 1),(.var 2)]) (.int 26))) ρ)) (.ok []))=.ok .fz (.str ⟨(cN c).toArray⟩):=by
 have ec:bF (.ok .fz (.lst (iN (List.range 4)))) ρ [2,0] 1 (aI (.nm 2)) (λρ=>evF (WT TT (k+1)) [] ρ) (λρ=>evE (WT TT (k+1)) (.ix (.var 0) (.bin .Mod (.call "_law_mix" 2 [(.var 1),(.var 2)]) (.int 26))) ρ)=.ok .fr (.lst ((cN c).map λx=>D.str ⟨#[x]⟩)):=by
  have := cY (enc := iD) (fun i => D.str ⟨#[lt (mx c i)]⟩) (ρ := ρ) (aB := [2, 0]) (n := 1) (k := aI (.nm 2)) (t := fun ρ => evF (WT TT (k + 1)) [] ρ) (e := fun ρ => evE (WT TT (k + 1)) (.ix (.var 0) (.bin .Mod (.call "_law_mix" 2 [(.var 1), (.var 2)]) (.int 26))) ρ) (m := .fz) (xs := List.range 4) (by decide) (fun i hi => by
      have hi:=aSH.mp hi;have m:=Mx k (c:=c) (p:=i) (by omega) (by omega)
      have x:=aCC (mx c i) (m:=.fz) (m':=.fz);refine ⟨[some (false,.str ab),some (false,.int c),some (false,iD i)],.fz,by simp[bA,h0,h2],by simp,.fz,?_⟩
      generalize ab=AB at *;simp[iD,m,x])
  exact this
 rw[ec];show (if i6 "str" (.str "")=true then Res.of (iC .fz (.str "") [(.fr,.lst ((cN c).map λx=>D.str ⟨#[x]⟩))]) else .stuck)=_;rw[if_pos (by decide)]
 show Res.of (match e8 ((cN c).map λx=>D.str ⟨#[x]⟩) with | some ys=>if (ys.map (·.length)).sum+ys.length * (Str.ofString "").length<=sizeLine then some (Md.fz,D.str (Txt.join (Str.ofString "") ys)) else none | none=>none)=_
 rw[aCE];dsimp only;rw[aCF,if_pos (by have:sizeLine=16777216:=aS9;have e:(Str.ofString "").length=0:=rfl;rw[e];simp[cN];omega),i7,show Str.join (Str.ofString "") ((cN c).map λx=>(⟨#[x]⟩:Str))=⟨(cN c).toArray⟩ from aCD _]
 rfl
theorem aQ2(c:Int):∀ x∈cN c,x∈bC:=λx hx=>by simp only[cN,aSL,aXG,aWD] at hx;rcases hx with rfl | rfl | rfl | rfl <;> exact aQ1 _
theorem aQ3:∀ (s:Fin 26) (i j:Fin 12),i≠j->bC.getD ((s.1+7 * i.1) % 26) 0≠bC.getD ((s.1+7 * j.1) % 26) 0:=by decide +kernel
abbrev stN(n:Nat)(f:Nat->List Nat):List Str:=(List.range n).map λj=>⟨(f j).toArray⟩
theorem uB{n:Nat}{f:Nat->List Nat}(h:∀ i j,i<n->j<n->i≠j->f i≠f j):(stN n f).Nodup:=by
 show List.Pairwise (· ≠ ·) _;rw[aX0];refine aYJ (λ{a b} ha hb r e=>?_) (List.nodup_range (n:=n));have e1:(f a).toArray=(f b).toArray:=congrArg Str.cps e;have e2:f a=f b:=by simpa using e1
 exact h a b (aSH.mp ha) (aSH.mp hb) r e2
def nA(s:List Nat)(t st j:Nat):List Nat:=s.take t++[bC.getD ((st+7 * j) % 26) 0]++s.drop (t+1)
def nB(s:List Nat)(j:Nat):List Nat:=s++List.replicate j 48
def nC(s:List Nat)(st j:Nat):List Nat:=[bC.getD ((st+7 * j) % 26) 0]++s.take ((st+j) % 4)
theorem aCG{n st i j:Nat}(hn:n<=12)(hs:st<26)(hi:i<n)(hj:j<n)(h:i≠j):bC.getD ((st+7 * i) % 26) 0≠bC.getD ((st+7 * j) % 26) 0 :=
 aQ3 ⟨st,hs⟩ ⟨i,by omega⟩ ⟨j,by omega⟩ λe=>h (congrArg Fin.val e)
theorem ndA{s:List Nat}{n t st:Nat}(hn:n<=12)(hs:st<26):(stN n (nA s t st)).Nodup:=uB λi j hi hj h e=>by unfold nA at e;rw[aW0,aW0] at e;have e:=List.append_cancel_left e;exact aCG hn hs hi hj h (List.cons.inj e).1
theorem ndB{s:List Nat}{n:Nat}:(stN n (nB s)).Nodup:=uB λi j hi hj h e=>by unfold nB at e;have:=congrArg List.length e;simp at this;exact h this
theorem ndC{s:List Nat}{n st:Nat}(hn:n<=12)(hs:st<26):(stN n (nC s st)).Nodup:=uB λi j hi hj h e=>aCG hn hs hi hj h (List.cons.inj e).1
theorem aQ4:∀ c∈48::bC,PyData.strOk ⟨#[c]⟩=true:=by decide +kernel
theorem ok_of{l:List Nat}(hl:l.length<=100)(h:∀ x∈l,x∈48::bC):okS ⟨l.toArray⟩:=by
 have zl:sizeLine=16777216:=aS9;refine ⟨by show l.toArray.size<=_;rw[aTA];omega,?_⟩
 unfold PyData.strOk;rw[aUX];intro x hx;have hx:x∈l:=by simpa using hx
 have:=aQ4 x (h x hx);unfold PyData.strOk at this;rw[aUX] at this;exact this x (by simp)
theorem aQ5{L:List Str}{n:Nat}(hn:L.Nodup)(hl:L.length=n)(h12:n<=12)(h:∀ x∈L,okS x):cV (uni L)/\(uni L).length=n:=by
 have nu:(uni L).Nodup:=iT (gO L);have e:(uni L).length=n:=Nat.le_antisymm (by rw[<- hl];exact oE nu λy hy=>dS.mp hy) (by rw[<- hl];exact oE hn λy hy=>dS.mpr hy)
 exact ⟨⟨gO L,λx hx=>h x (dS.mp hx),by omega⟩,e⟩
def c7(c:Int)(n:Nat):List Str :=
 if mx c 7 % 4=0 then stN n (nB (cN c)) else if mx c 7 % 4=1 then stN n (nC (cN c) (mx c 6 % 26).toNat) else stN n (nA (cN c) (mx c 5 % 4).toNat (mx c 6 % 26).toNat)
def Nm(x:Str):Prop:=∃ (c:Nat) (l:List Nat),x=⟨(c::l).toArray⟩/\c∈bC/\l.length<=20/\∀ y∈l,y∈48::bC
theorem Nm.okS{x:Str}(h:Nm x):okS x:=by
 obtain ⟨c,l,rfl,hc,hl,ha⟩:=h;refine ok_of (by simp;omega) λy hy=>?_
 rcases aSL.mp hy with rfl | hy
 . exact mcm hc
 . exact ha y hy
theorem uC{l:List Nat}(hne:l≠[])(hl:l.length<=21)(h0:∀ c r,l=c::r->c∈bC)(h:∀ y∈l,y∈48::bC):Nm ⟨l.toArray⟩:=by obtain ⟨c,r,rfl⟩:=List.exists_cons_of_ne_nil hne;exact ⟨c,r,rfl,h0 c r rfl,by simp at hl;omega,λy hy=>h y (mcm hy)⟩
theorem uD(c:Int){n:Nat}(hn:n<=12):(cV (uni (c7 c n))/\(uni (c7 c n)).length=n)/\(c7 c n).Nodup/\(c7 c n).length=n/\∀ x∈c7 c n,Nm x:=by
 have h26:(mx c 6 % 26).toNat<26:=by have:=aYL (mx c 6) (show (0:Int)<26 by decide);omega
 have sl:(cN c).length=4:=rfl;have slt:∀ x∈cN c,x∈bC:=aQ2 c;have up:∀ {y:Nat},y∈bC->y∈48::bC:=λh=>mcm h;have key:(c7 c n).Nodup/\(c7 c n).length=n/\∀ x∈c7 c n,Nm x:=by
  unfold c7;generalize cN c=S at *;split
  . refine ⟨ndB,by simp,λx hx=>?_⟩
    obtain ⟨j,hj,rfl⟩:=aX6.mp hx;have hj:=aSH.mp hj;refine uC (by unfold nB;intro e;have:=congrArg List.length e;rw[aTY,sl,aUP] at this;omega) (by unfold nB;simp;omega) (λd r e=>?_) λx hx=>?_
    . unfold nB at e;cases S with
      | nil=>simp at sl
      | cons a S'=>exact (List.cons.inj e).1 ▸ slt a mcs
    . rcases aSM.mp hx with hx | hx
      . exact up (slt x hx)
      . rw[(List.mem_replicate.mp hx).2];exact mcs
  . split
    . refine ⟨ndC hn h26,by simp,λx hx=>?_⟩
      obtain ⟨j,hj,rfl⟩:=aX6.mp hx;have all:∀ x∈nC S (mx c 6 % 26).toNat j,x∈bC:=λx hx=>by
       rcases aSM.mp hx with hx | hx
       . rw[aVZ.mp hx];exact let7 _
       . exact slt x (aWK hx)
      exact uC (by unfold nC;simp) (by unfold nC;simp;omega) (λd r e=>all d (by rw[e];exact mcs)) λx hx=>up (all x hx)
    . refine ⟨ndA hn h26,by simp,λx hx=>?_⟩
      obtain ⟨j,hj,rfl⟩:=aX6.mp hx;have all:∀ x∈nA S (mx c 5 % 4).toNat (mx c 6 % 26).toNat j,x∈bC:=λx hx=>by
       rcases aSM.mp hx with hx | hx
       . rcases aSM.mp hx with hx | hx
         . exact slt x (aWK hx)
         . rw[aVZ.mp hx];exact let7 _
       . exact slt x (aWJ hx)
      exact uC (by unfold nA;simp) (by unfold nA;simp;omega) (λd r e=>all d (by rw[e];exact mcs)) λx hx=>up (all x hx)
 exact ⟨aQ5 key.1 key.2.1 hn λx hx=>(key.2.2 x hx).okS,key⟩
theorem aCH(x:Nat):∀ (k:Nat) (acc:Array Nat),(List.replicate k #[x]).foldl (· ++ ·) acc=acc++(List.replicate k x).toArray
 | 0,acc=>by simp
 | k+1,acc=>by rw[aU2,aU3,aCH x k,aU2];apply Array.ext';simp
theorem aQ6(x k:Nat):Txt.mul ⟨#[x]⟩ ((k+1:Nat):Int)=⟨(List.replicate (k+1) x).toArray⟩:=by
 unfold Txt.mul;rw[if_neg (by omega)]
 cases k with
 | zero=>rfl
 | succ k =>
  have h:((((k+1+1:Nat):Int)==1)||((⟨#[x]⟩:Str).length==0))=false:=by have:(⟨#[x]⟩:Str).length=1:=rfl;rw[this,Bool.or_eq_false_iff];exact ⟨by simpa using (by omega:¬ ((k+1+1:Nat):Int)=1),rfl⟩
  rw[h];rw[if_neg (by decide),aT6,aCH]
  simp
theorem mul_s(x n:Nat)(hn:n<=1000){m m':Md}:op2 (bM .Mult) (.ok m (.str ⟨#[x]⟩)) (.ok m' (.int (n:Int)))=.ok .fz (.str ⟨(List.replicate n x).toArray⟩):=by
 have hs:sizeLine=16777216:=aS9;have l1:(⟨#[x]⟩:Str).length=1:=rfl;refine cC ?_;show orO (orO _ iZ) nW m (.str ⟨#[x]⟩) m' (.int (n:Int))=_;unfold orO;cases n with
 | zero =>
  have e1:iZ m (.str ⟨#[x]⟩) m' (.int ((0:Nat):Int))=none:=by simp[iZ]
  rw[e1];rfl
 | succ k =>
  have e1:iZ m (.str ⟨#[x]⟩) m' (.int ((k+1:Nat):Int))=some (.fz,.str ⟨(List.replicate (k+1) x).toArray⟩):=by show (if (decide ((1:Int)<=((k+1:Nat):Int))&&decide (((k+1:Nat):Int)<=1000000)&&decide ((⟨#[x]⟩:Str).length * (((k+1:Nat):Int)).toNat<=sizeLine))=true then some (Md.fz,D.str (Txt.mul ⟨#[x]⟩ ((k+1:Nat):Int))) else none)=_;rw[if_pos (by rw[l1,aT6];simp only[aUG,aUU];omega),aQ6]
  rw[e1];rfl
theorem aCI{z:Str}{m m':Md}{g:Rho->Res}{ρ:Rho}{i:Int}(h:g ρ=.ok m' (.int i)):slP (.ok m (.str z)) none (some g) ρ=.ok .fz (.str (Txt.slice z none (some i))):=by
 show ((g ρ).thn λ_ d=>match d with | .int i=>Res.ok .fz (.str (Txt.slice z none (some i))) | _=>.stuck)=_
 rw[h];rfl
theorem aQ7{z:Str}{m m':Md}{g:Rho->Res}{ρ:Rho}{i:Int}(h:g ρ=.ok m' (.int i)):slP (.ok m (.str z)) (some g) none ρ=.ok .fz (.str (Txt.slice z (some i) none)):=by
 show ((g ρ).thn λ_ d=>match d with | .int i=>Res.ok .fz (.str (Txt.slice z (some i) none)) | _=>.stuck)=_
 rw[h];rfl
theorem cut4(a b c d:Nat):∀ n:Nat,n<=4->Txt.slice ⟨[a,b,c,d].toArray⟩ none (some (n:Int))=⟨([a,b,c,d].take n).toArray⟩
 | 0,_=>rfl | 1,_=>rfl | 2,_=>rfl | 3,_=>rfl | 4,_=>rfl
 | n+5,h=>by omega
theorem from4(a b c d:Nat){n:Nat}(h:n<=4):Txt.slice ⟨[a,b,c,d].toArray⟩ (some (n:Int)) none=⟨([a,b,c,d].drop n).toArray⟩:=by
 have hl:(⟨[a,b,c,d].toArray⟩:Str).length=4:=rfl;have i0:strSliceIndices (some 0) none 1 4=[0,1,2,3]:=by decide +kernel
 have i1:strSliceIndices (some 1) none 1 4=[1,2,3]:=by decide +kernel
 have i2:strSliceIndices (some 2) none 1 4=[2,3]:=by decide +kernel
 have i3:strSliceIndices (some 3) none 1 4=[3]:=by decide +kernel
 have i4:strSliceIndices (some 4) none 1 4=[]:=by decide +kernel
 unfold Txt.slice;rw[hl];have:n=0\/n=1\/n=2\/n=3\/n=4:=by omega
 rcases this with rfl | rfl | rfl | rfl | rfl
 . show (if (_&&(strSliceIndices (some 0) none 1 4).length==4)=true then _ else _)=_;rw[i0];rfl
 . show (if (_&&(strSliceIndices (some 1) none 1 4).length==4)=true then _ else (⟨((strSliceIndices (some 1) none 1 4).filterMap _).toArray⟩:Str))=_;rw[i1];rfl
 . show (if (_&&(strSliceIndices (some 2) none 1 4).length==4)=true then _ else (⟨((strSliceIndices (some 2) none 1 4).filterMap _).toArray⟩:Str))=_;rw[i2];rfl
 . show (if (_&&(strSliceIndices (some 3) none 1 4).length==4)=true then _ else (⟨((strSliceIndices (some 3) none 1 4).filterMap _).toArray⟩:Str))=_;rw[i3];rfl
 . show (if (_&&(strSliceIndices (some 4) none 1 4).length==4)=true then _ else (⟨((strSliceIndices (some 4) none 1 4).filterMap _).toArray⟩:Str))=_;rw[i4];rfl
theorem uE(a b:List Nat):(⟨a.toArray⟩:Str)++⟨b.toArray⟩=⟨(a++b).toArray⟩:=by refine PySem.Str.ext' ?_;rw[aYR];simp
theorem pQ{a b:List Nat}(h:a.length+b.length<=2000){m m':Md}:op2 (bM .Add) (.ok m (.str ⟨a.toArray⟩)) (.ok m' (.str ⟨b.toArray⟩))=.ok .fz (.str ⟨(a++b).toArray⟩):=by rw[zW (by have:sizeLine=16777216:=aS9;simp[PySem.Str.length];omega),uE]
theorem aCJ{st:Nat}{j:Nat}{m m':Md}:op2 ixD (.ok m (.str ab)) (.ok m' (.int (((st:Int)+7 * (j:Int)) % 26)))=.ok .fz (.str ⟨[bC.getD ((st+7 * j) % 26) 0].toArray⟩):=by
 rw[aCC];have:(((st:Int)+7 * (j:Int)) % 26).toNat=(st+7 * j) % 26:=by omega
 unfold lt;rw[this]
theorem uF(n:Nat)(f:Nat->List Nat):(stN n f).map D.str=(List.range n).map λj=>.str ⟨(f j).toArray⟩:=by unfold stN;rw[aWM];rfl
section
variable (k:Nat){a b c d:Nat}{n t st:Nat}(hn:n<=12)(ρ:Rho)(h3:ρ[3]? = some (some (false,.str ⟨[a,b,c,d].toArray⟩)))
include hn h3
theorem wayB:bF (.ok .fz (.lst (iN (List.range n)))) ρ [3] 1 (aI (.nm 1)) (λρ=>evF (WT TT k) [] ρ) (λρ=>evE (WT TT k) (.bin .Add (.var 0) (.bin .Mult (.str "0") (.var 1))) ρ)=.ok .fr (lx (stN n (nB [a,b,c,d]))):=by
 show _=Res.ok Md.fr (.lst ((stN n (nB [a,b,c,d])).map D.str));rw[uF];refine cY (enc:=iD) _ (by have:sizeLine=16777216:=aS9;simp;omega) λi hi=>?_
 have hi:=aSH.mp hi;have ml:=mul_s 48 i (by omega) (m:=.fz) (m':=.fz)
 rw[show (⟨#[48]⟩:Str) = "0" from rfl] at ml
 have a1:=pQ (a:=[a,b,c,d]) (b:=List.replicate i 48) (m:=.fz) (m':=.fz) (by simp;omega)
 refine ⟨[some (false,.str ⟨[a,b,c,d].toArray⟩),some (false,iD i)],.fz,by simp[bA,h3],by simp,.fz,?_⟩
 unfold nB;generalize (⟨([a,b,c,d]++List.replicate i 48).toArray⟩:Str)=Z2 at *;generalize (⟨[a,b,c,d].toArray⟩:Str)=Z at *;generalize (⟨(List.replicate i 48).toArray⟩:Str)=Z1 at *;simp[iD,ml,a1]
theorem wayC(h2:ρ[2]? = some (some (false,.str ab)))(h5:ρ[5]? = some (some (false,.int (st:Int)))):bF (.ok .fz (.lst (iN (List.range n)))) ρ [2,3,5] 1 (aI (.nm 3)) (λρ=>evF (WT TT k) [] ρ) (λρ=>evE (WT TT k) (.bin .Add (.ix (.var 0) (.bin .Mod (.bin .Add (.var 2) (.bin .Mult (.int 7) (.var 3))) (.int 26))) (.slice (.var 1) none (some (.bin .Mod (.bin .Add (.var 2) (.var 3)) (.int 4))))) ρ)=.ok .fr (lx (stN n (nC [a,b,c,d] st))):=by
 show _=Res.ok Md.fr (.lst ((stN n (nC [a,b,c,d] st)).map D.str));rw[uF];refine cY (enc:=iD) _ (by have:sizeLine=16777216:=aS9;simp;omega) λi hi=>?_
 have hi:=aSH.mp hi;have x1:=aCJ (st:=st) (j:=i) (m:=.fz) (m':=.fz);have mm:=sR (i:=7) (j:=(i:Int)) (m:=.fz) (n:=.fz) (by decide)
 have em:((st:Int)+(i:Int)) % 4=(((st+i) % 4:Nat):Int):=by omega
 have sl:slP (.ok .fz (.str ⟨[a,b,c,d].toArray⟩)) none (some (evE (WT TT k) (.bin .Mod (.bin .Add (.var 2) (.var 3)) (.int 4)))) [some (false,.str ab),some (false,.str ⟨[a,b,c,d].toArray⟩),some (false,.int (st:Int)),some (false,.int (i:Int))]=.ok .fz (.str ⟨([a,b,c,d].take ((st+i) % 4)).toArray⟩):=by rw[aCI (i:=(((st+i) % 4:Nat):Int)) (m':=.fz) (by rw[<- em];simp),cut4 a b c d _ (by omega)]
 have a1:=pQ (a:=[bC.getD ((st+7 * i) % 26) 0]) (b:=[a,b,c,d].take ((st+i) % 4)) (m:=.fz) (m':=.fz) (by simp;omega)
 refine ⟨[some (false,.str ab),some (false,.str ⟨[a,b,c,d].toArray⟩),some (false,.int (st:Int)),some (false,.int (i:Int))],.fz,by simp[bA,h2,h3,h5,iD],by simp,.fz,?_⟩
 unfold nC;generalize (⟨([bC.getD ((st+7 * i) % 26) 0]++[a,b,c,d].take ((st+i) % 4)).toArray⟩:Str)=Z2 at *;generalize (⟨([a,b,c,d].take ((st+i) % 4)).toArray⟩:Str)=Z1 at *;generalize (⟨[bC.getD ((st+7 * i) % 26) 0].toArray⟩:Str)=Z0 at *;generalize (⟨[a,b,c,d].toArray⟩:Str)=S at *;generalize ab=AB at *;simp[x1,sl,a1,mm]
theorem wayA(ht:t<4)(h2:ρ[2]? = some (some (false,.str ab)))(h4:ρ[4]? = some (some (false,.int (t:Int))))(h5:ρ[5]? = some (some (false,.int (st:Int)))):bF (.ok .fz (.lst (iN (List.range n)))) ρ [3,2,4,5] 1 (aI (.nm 4)) (λρ=>evF (WT TT k) [] ρ) (λρ=>evE (WT TT k) (.bin .Add (.bin .Add (.slice (.var 0) none (some (.var 2))) (.ix (.var 1) (.bin .Mod (.bin .Add (.var 3) (.bin .Mult (.int 7) (.var 4))) (.int 26)))) (.slice (.var 0) (some (.bin .Add (.var 2) (.int 1))) none)) ρ)=.ok .fr (lx (stN n (nA [a,b,c,d] t st))):=by
 show _=Res.ok Md.fr (.lst ((stN n (nA [a,b,c,d] t st)).map D.str));rw[uF];refine cY (enc:=iD) _ (by have:sizeLine=16777216:=aS9;simp;omega) λi hi=>?_
 have hi:=aSH.mp hi;have x1:=aCJ (st:=st) (j:=i) (m:=.fz) (m':=.fz);have mm:=sR (i:=7) (j:=(i:Int)) (m:=.fz) (n:=.fz) (by decide)
 have s1:slP (.ok .fz (.str ⟨[a,b,c,d].toArray⟩)) none (some (evE (WT TT k) (.var 2))) [some (false,.str ⟨[a,b,c,d].toArray⟩),some (false,.str ab),some (false,.int (t:Int)),some (false,.int (st:Int)),some (false,.int (i:Int))]=.ok .fz (.str ⟨([a,b,c,d].take t).toArray⟩):=by rw[aCI (i:=(t:Int)) (m':=.fz) (by simp),cut4 a b c d _ (by omega)]
 have s2:slP (.ok .fz (.str ⟨[a,b,c,d].toArray⟩)) (some (evE (WT TT k) (.bin .Add (.var 2) (.int 1)))) none [some (false,.str ⟨[a,b,c,d].toArray⟩),some (false,.str ab),some (false,.int (t:Int)),some (false,.int (st:Int)),some (false,.int (i:Int))]=.ok .fz (.str ⟨([a,b,c,d].drop (t+1)).toArray⟩):=by rw[aQ7 (i:=((t+1:Nat):Int)) (m':=.fz) (by simp),from4 a b c d (by omega)]
 have a1:=pQ (a:=[a,b,c,d].take t) (b:=[bC.getD ((st+7 * i) % 26) 0]) (m:=.fz) (m':=.fz) (by simp;omega)
 have a2:=pQ (a:=[a,b,c,d].take t++[bC.getD ((st+7 * i) % 26) 0]) (b:=[a,b,c,d].drop (t+1)) (m:=.fz) (m':=.fz) (by simp;omega)
 refine ⟨[some (false,.str ⟨[a,b,c,d].toArray⟩),some (false,.str ab),some (false,.int (t:Int)),some (false,.int (st:Int)),some (false,.int (i:Int))],.fz,by simp[bA,h2,h3,h4,h5,iD],by simp,.fz,?_⟩
 unfold nA;generalize (⟨([a,b,c,d].take t++[bC.getD ((st+7 * i) % 26) 0]++[a,b,c,d].drop (t+1)).toArray⟩:Str)=Z3 at *;generalize (⟨([a,b,c,d].take t++[bC.getD ((st+7 * i) % 26) 0]).toArray⟩:Str)=Z2 at *;generalize (⟨([a,b,c,d].take t).toArray⟩:Str)=Z1 at *;generalize (⟨([a,b,c,d].drop (t+1)).toArray⟩:Str)=Z4 at *;generalize (⟨[bC.getD ((st+7 * i) % 26) 0].toArray⟩:Str)=Z0 at *;generalize (⟨[a,b,c,d].toArray⟩:Str)=S at *;generalize ab=AB at *;simp[x1,s1,s2,a1,a2,mm]
end
end K07
namespace K07
open PySem L2 D3
theorem aQ8{m:Md}{L:List Str}(nd:L.Nodup)(hl:L.length<64):aZ.or' gP gT [(m,lx L)]=some (.fr,lx (uni L)):=by
 have e:gP [(m,lx L)]=some (.fr,lx (uni L)):=by
  show (match txD (L.map .str) with | some ns=>if ns.Nodup/\ns.length<64 then some (Md.fr,D.lst ((uni ns).map .str)) else none | none=>none)=_
  rw[tI];dsimp only;rw[if_pos ⟨nd,hl⟩]
 unfold aZ.or';rw[e];rfl
theorem aQ9(k:Nat)(c:Int){n:Int}:evB (WT TT (k+1)) (eV.take 4) [some (false,.int c),some (false,.int n),none,none,none,none,none]=.nx [some (false,.int c),some (false,.int n),some (false,.str ab),some (false,.str ⟨(cN c).toArray⟩),some (false,.int (mx c 5 % 4)),some (false,.int (mx c 6 % 26)),none]:=by
 have st:=stem k c [some (false,.int c),some (false,.int n),some (false,.str ab),none,none,none,none] rfl rfl;have er:e7 (.ok [(.fz,.int 4)])=.ok .fz (.lst (iN (List.range 4))):=pL (n:=4) (by omega)
 have m5:=Mx k (c:=c) (p:=5) (by decide) (by decide)
 have m6:=Mx k (c:=c) (p:=6) (by decide) (by decide)
 generalize (⟨(cN c).toArray⟩:Str)=S at *;generalize iN (List.range 4)=R at *;simp at st;simp[eV,st,er,m5,m6]
theorem n_end(k:Nat){c n w:Int}{AB S A0 ST:D}{R P1 P2 P3:List D}{G:D}(m7:aP 2 ((WT TT k).Φ "_law_mix") (.ok [(.fz,.int c),(.fz,.int 7)])=.ok .fz (.int w))(er:e7 (.ok [(.fz,.int n)])=.ok .fz (.lst R))(c1:bF (.ok .fz (.lst R)) [some (false,.int c),some (false,.int n),some (false,AB),some (false,S),some (false,A0),some (false,ST),none] [3,2,4,5] 1 (aI (.nm 4)) (λρ=>evF (WT TT k) [] ρ) (λρ=>evE (WT TT k) (.bin .Add (.bin .Add (.slice (.var 0) none (some (.var 2))) (.ix (.var 1) (.bin .Mod (.bin .Add (.var 3) (.bin .Mult (.int 7) (.var 4))) (.int 26)))) (.slice (.var 0) (some (.bin .Add (.var 2) (.int 1))) none)) ρ)=.ok .fr (.lst P1))(c2:∀ x,bF (.ok .fz (.lst R)) [some (false,.int c),some (false,.int n),some (false,AB),some (false,S),some (false,A0),some (false,ST),x] [3] 1 (aI (.nm 1)) (λρ=>evF (WT TT k) [] ρ) (λρ=>evE (WT TT k) (.bin .Add (.var 0) (.bin .Mult (.str "0") (.var 1))) ρ)=.ok .fr (.lst P2))(c3:∀ x,bF (.ok .fz (.lst R)) [some (false,.int c),some (false,.int n),some (false,AB),some (false,S),some (false,A0),some (false,ST),x] [2,3,5] 1 (aI (.nm 3)) (λρ=>evF (WT TT k) [] ρ) (λρ=>evE (WT TT k) (.bin .Add (.ix (.var 0) (.bin .Mod (.bin .Add (.var 2) (.bin .Mult (.int 7) (.var 3))) (.int 26))) (.slice (.var 1) none (some (.bin .Mod (.bin .Add (.var 2) (.var 3)) (.int 4))))) ρ)=.ok .fr (.lst P3))(sr:aZ.or' gP gT [(.fz,.lst (if w % 4=0 then P2 else if w % 4=1 then P3 else P1))]=some (.fr,G)):evB (WT TT k) (eV.drop 4) [some (false,.int c),some (false,.int n),some (false,AB),some (false,S),some (false,A0),some (false,ST),none]=.rt .fr G:=by
 simp at c1 c2 c3;by_cases h0:w % 4=0
 . rw[if_pos h0] at sr;simp[eV,er,c1,c2,c3,m7,h0,sr]
 . have h0':(w % 4==0)=false:=by simpa using h0
   rw[if_neg h0] at sr;by_cases h1:w % 4=1
   . rw[if_pos h1] at sr;simp[eV,er,c1,c2,c3,m7,h0',h1,sr]
   . have h1':(w % 4==1)=false:=by simpa using h1
     rw[if_neg h1] at sr;simp[eV,er,c1,c2,c3,m7,h0',h1',sr]
theorem names(k:Nat)(c:Int){n:Nat}(hn:n<=12):(WT TT (k+2)).Φ "_law_names" [.int c,.int n]=.ok .fr (lx (uni (c7 c n))):=by
 rw[aPC];refine bH rfl ?_;show evB _ eV [some (false,.int c),some (false,.int n),none,none,none,none,none]=_;rw[show eV=eV.take 4++eV.drop 4 from (aX4 4 _).symm,gY,aQ9 k c,aK.thn_nx]
 have h26:=aYL (mx c 6) (show (0:Int)<26 by decide)
 have h260:=aYK (mx c 6) (show (26:Int)≠0 by decide)
 have h4:=aYL (mx c 5) (show (0:Int)<4 by decide)
 have h40:=aYK (mx c 5) (show (4:Int)≠0 by decide)
 obtain ⟨st,hst⟩:=aYQ h260;obtain ⟨t,ht⟩:=aYQ h40;have np:=uD c hn;have m7:=Mx k (c:=c) (p:=7) (by decide) (by decide)
 have er:=pL (n:=n) (by omega)
 have en:c7 c n=if mx c 7 % 4=0 then stN n (nB (cN c)) else if mx c 7 % 4=1 then stN n (nC (cN c) st) else stN n (nA (cN c) t st):=by unfold c7;rw[hst,ht,aT6,aT6]
 rw[hst,ht];refine n_end (k+1) m7 er (wayA (k+1) (a:=lt (mx c 0)) (b:=lt (mx c 1)) (c:=lt (mx c 2)) (d:=lt (mx c 3)) (t:=t) (st:=st) hn _ rfl (by omega) rfl rfl rfl) (λx=>wayB (k+1) (a:=lt (mx c 0)) (b:=lt (mx c 1)) (c:=lt (mx c 2)) (d:=lt (mx c 3)) hn _ rfl)
  (λx=>wayC (k+1) (a:=lt (mx c 0)) (b:=lt (mx c 1)) (c:=lt (mx c 2)) (d:=lt (mx c 3)) (st:=st) hn _ rfl rfl rfl) ?_
 have s:=aQ8 (m:=.fz) np.2.1 (by rw[np.2.2.1];omega)
 have e2:lx (c7 c n)=.lst (if mx c 7 % 4=0 then (stN n (nB [lt (mx c 0),lt (mx c 1),lt (mx c 2),lt (mx c 3)])).map .str else if mx c 7 % 4=1 then (stN n (nC [lt (mx c 0),lt (mx c 1),lt (mx c 2),lt (mx c 3)] st)).map .str else (stN n (nA [lt (mx c 0),lt (mx c 1),lt (mx c 2),lt (mx c 3)] t st)).map .str):=by
  show D.lst ((c7 c n).map .str)=_;rw[en];split
  . rfl
  . split <;> rfl
 rw[<- e2];exact s
def sgn(c:Nat):Bool:=gJ ⟨#[c]⟩ (Str.ofString "abcdefghijklmnopqrstuvwxyz")||gJ ⟨#[c]⟩ (Str.ofString "0123456789")
theorem aRA:∀ c∈bC,gJ ⟨#[c]⟩ (Str.ofString "abcdefghijklmnopqrstuvwxyz")=true:=by decide +kernel
theorem aCK:∀ c∈48::bC,sgn c=true:=by decide +kernel
theorem aRB(k:Nat)(c:Nat):(WT TT (k+1)).Φ "is_name_sign" [.str ⟨#[c]⟩]=.ok .fz (.bl (sgn c)):=by rw[aO2];refine bH rfl ?_;show evB _ oV [some (false,.str ⟨#[c]⟩)]=_;unfold sgn;simp[oV]
theorem aCL(k:Nat){c:Nat}{r:List Nat}(hc:c∈bC)(hl:r.length<=39):(WT TT (k+2)).Φ "is_name" [.str ⟨(c::r).toArray⟩]=.ok .fz (.bl ((c::r).all sgn)):=by
 rw[aA8];refine bH rfl ?_;show evB _ kN [some (false,.str ⟨(c::r).toArray⟩)]=_;have zl:sizeLine=16777216:=aS9;have ei:dH [(.fz,.str ⟨(c::r).toArray⟩),(.fz,.ty "str")]=some (.fz,.bl true):=rfl;have ln:dG [(.fz,.str ⟨(c::r).toArray⟩)]=some (.fz,.int ((r.length:Int)+1)):=by show some (Md.fz,D.int ((c::r).toArray.size:Nat))=_;rw[aTA,aUO];rfl
 have n1:((r.length:Int)+1<1)=False:=by simp;omega
 have n2:((40:Int)<(r.length:Int)+1)=False:=by simp;omega
 have i0:=uA (z:=⟨(c::r).toArray⟩) (m:=.fz) (m':=.fz) (i:=0) (c:=c) (k6 (j:=0) rfl);have ec:bF (.ok .fz (.lst (fO ⟨(c::r).toArray⟩))) [some (false,.str ⟨(c::r).toArray⟩)] [] 1 (aI (.nm 0)) (λρ=>evF (WT TT (k+1)) [] ρ) (λρ=>evE (WT TT (k+1)) (.call "is_name_sign" 1 [(.var 0)]) ρ)=.ok .fr (.lst ((c::r).map λc=>.bl (sgn c))):=by
  have:fO ⟨(c::r).toArray⟩=(c::r).map λc=>D.str ⟨#[c]⟩:=rfl;rw[this];refine cY (enc:=λc=>D.str ⟨#[c]⟩) _ (by simp;omega) λy hy=>⟨[some (false,.str ⟨#[y]⟩)],.fz,by simp[bA],by simp,.fz,?_⟩
  have e:=f7 (aRB k y);simp[e]
 have ea:=mO (f:=sgn) (m:=.fr) (c::r);have lc:=aRA c hc;have eit:dI (.ok .fz (.str ⟨(c::r).toArray⟩))=.ok .fz (.lst (fO ⟨(c::r).toArray⟩)):=rfl;generalize fO ⟨(c::r).toArray⟩=CH at *;generalize (⟨(c::r).toArray⟩:Str)=Z at *;generalize ((c::r).map λc=>D.bl (sgn c))=BB at *;generalize (c::r).all sgn=RR at *;generalize (r.length:Int)=q at *;simp at ec;simp[kN,ei,ln,n1,n2,i0,lc,Ty.id,eit,ec,ea]
theorem aCM(k:Nat){x:Str}(h:Nm x):(WT TT (k+2)).Φ "is_name" [.str x]=.ok .fz (.bl true):=by
 obtain ⟨c,r,rfl,hc,hl,ha⟩:=h;rw[aCL k hc (by omega),aU4.mpr]
 intro y hy;rcases aSL.mp hy with rfl | hy
 . exact aCK _ (mcm hc)
 . exact aCK y (ha y hy)
theorem aRC(k:Nat){d:D}(h:dH [(.fz,d),(.fz,.ty "str")]=some (.fz,.bl false)):(WT TT (k+2)).Φ "is_name" [d]=.ok .fz (.bl false):=by rw[aA8];refine bH rfl ?_;show evB _ kN [some (false,d)]=_;simp[kN,h,Ty.id]
theorem lt_s{x y:Str}{m m':Md}:op2 (bS .Lt) (.ok m (.str x)) (.ok m' (.str y))=.ok .fz (.bl (lts x y)):=by
 refine cC ?_;have e:ltF m (.str x) m' (.str y)=some (.fz,.bl (lts x y)):=by show some (Md.fz,D.bl (ltS x y))=_;rw[show ltS x y=lts x y from by unfold lts;rw[PyProof.Rows.ltCps_eq];rfl]
 show (orO fLt ltF) _ _ _ _=_;unfold orO;rw[e];rfl
theorem pR{ds:List D}{m m':Md}{i:Nat}{d:D}(h:ds[i]? = some d):op2 ixD (.ok m (.tup ds)) (.ok m' (.int i))=.ok .fz d:=cC (by show (atI ds i).map _=_;rw[k6 h];rfl)
def ris(A:List Str):Bool:=(List.range (A.length-1)).all λj=>lts (A.getD j "") (A.getD (j+1) "")
theorem aRD{A:List Str}(h:bR A):ris A=true:=by
 unfold ris;rw[aU4];intro j hj;have hj:=aSH.mp hj;have h1:j<A.length:=by omega
 have h2:j+1<A.length:=by omega
 rw[aU6,aU6,aU7 h1,aU7 h2];exact aXX.mp h j (j+1) h1 h2 (by omega)
theorem aRE(k:Nat){A:List Str}(hl:A.length<=100):(WT TT (k+1)).Φ "is_rising" [aG A]=.ok .fz (.bl (ris A)):=by
 rw[aO3];refine bH rfl ?_;show evB _ oW [some (false,aG A)]=_;have zl:sizeLine=16777216:=aS9;have el:dG [(.fz,aG A)]=some (.fz,.int (A.length:Int)):=by show some (Md.fz,D.int ((A.map D.str).length:Nat))=_;simp
 have er:e7 (.ok [(.fz,.int ((A.length:Int)-1))])=.ok .fz (.lst (iN (List.range (A.length-1)))):=by
  unfold e7;rw[aT.thn_ok];dsimp only;rw[if_pos (by simp only[aUG,aUU];omega)]
  unfold gK iN;rw[show ((A.length:Int)-1-0).toNat=A.length-1 by omega]
  congr 2;exact aYM λi _=>by show D.int (0+(i:Int))=_;rw[Int.zero_add]
 have ec:bF (.ok .fz (.lst (iN (List.range (A.length-1))))) [some (false,aG A)] [0] 1 (aI (.nm 1)) (λρ=>evF (WT TT k) [] ρ) (λρ=>evE (WT TT k) (.cmp .Lt (.ix (.var 0) (.var 1)) (.ix (.var 0) (.bin .Add (.var 1) (.int 1)))) ρ)=.ok .fr (.lst ((List.range (A.length-1)).map λj=>.bl (lts (A.getD j "") (A.getD (j+1) "")))):=by
  refine cY (enc:=iD) _ (by simp;omega) λj hj=>⟨[some (false,aG A),some (false,iD j)],.fz,by simp[bA],by simp,.fz,?_⟩
  have hj:=aSH.mp hj;have h1:j<A.length:=by omega
  have h2:j+1<A.length:=by omega
  have i1:=pR (ds:=A.map D.str) (m:=.fz) (m':=.fz) (i:=j) (d:=.str (A.getD j "")) (by rw[aTW,aU6,aU7 h1];rfl)
  have i2:=pR (ds:=A.map D.str) (m:=.fz) (m':=.fz) (i:=j+1) (d:=.str (A.getD (j+1) "")) (by rw[aTW,aU6,aU7 h2];rfl)
  have l1:=lt_s (x:=A.getD j "") (y:=A.getD (j+1) "") (m:=.fz) (m':=.fz);have ec:(((j+1:Nat):Int))=(j:Int)+1:=by omega
  rw[ec] at i2;have i1:op2 ixD (.ok .fz (aG A)) _=_:=i1;have i2:op2 ixD (.ok .fz (aG A)) _=_:=i2;generalize A.getD j "" = E1 at *;generalize A.getD (j+1) "" = E2 at *;generalize aG A=SS at *;simp[iD,i1,i2,l1]
 have ea:=mO (f:=λj:Nat=>lts (A.getD j "") (A.getD (j+1) "")) (m:=.fr) (List.range (A.length-1));have ea:_=some (Md.fz,D.bl (ris A)):=ea;generalize ris A=RA at *;generalize ((List.range (A.length-1)).map λj=>D.bl (lts (A.getD j "") (A.getD (j+1) "")))=BB at *;generalize iN (List.range (A.length-1))=R at *;generalize aG A=SS at *;simp at ec;simp[oW,el,er,ec,ea]
theorem uG(k:Nat){ds:List D}(hl:ds.length<=100){v:D->Bool}(hv:∀ d∈ds,(WT TT (k+2)).Φ "is_name" [d]=.ok .fz (.bl (v d))){b:Bool}(hb:ds.all v=true->(WT TT (k+2)).Φ "is_rising" [.tup ds]=.ok .fz (.bl b)):(WT TT (k+3)).Φ "is_name_set" [.tup ds]=.ok .fz (.bl (ds.all v&&b)):=by
 rw[aA9];refine bH rfl ?_;show evB _ jJ [some (false,.tup ds)]=_;have zl:sizeLine=16777216:=aS9;have ei:dH [(.fz,.tup ds),(.fz,.ty "tuple")]=some (.fz,.bl true):=rfl;have ec:bF (.ok .fz (.lst (ds.map λd=>d))) [some (false,.tup ds)] [] 1 (aI (.nm 0)) (λρ=>evF (WT TT (k+2)) [] ρ) (λρ=>evE (WT TT (k+2)) (.call "is_name" 1 [(.var 0)]) ρ)=.ok .fr (.lst (ds.map λd=>.bl (v d))):=by
  refine cY (enc:=λd=>d) _ (by omega) λy hy=>⟨[some (false,y)],.fz,by simp[bA],by simp,.fz,?_⟩
  have e:=f7 (hv y hy);simp[e]
 rw[List.map_id'] at ec;have ea:=mO (f:=v) (m:=.fr) ds;have eit:dI (.ok .fz (.tup ds))=.ok .fz (.lst ds):=rfl;generalize (ds.map λd=>D.bl (v d))=BB at *;cases q:ds.all v with
 | false=>rw[q] at ea;generalize D.tup ds=T at *;simp at ec;simp[jJ,ei,Ty.id,eit,ec,ea]
 | true=>have er:=f7 (hb q);rw[q] at ea;generalize D.tup ds=T at *;simp at ec;simp[jJ,ei,Ty.id,eit,ec,ea,er]
theorem uH(k:Nat){A:List Str}(hn:∀ x∈A,Nm x)(hl:A.length<=100):(WT TT (k+3)).Φ "is_name_set" [aG A]=.ok .fz (.bl (ris A)):=by
 have:=uG k (ds:=A.map D.str) (by rw[aTZ];exact hl) (v:=λ_=>true) (λd hd=>by
  obtain ⟨x,hx,rfl⟩:=aX6.mp hd;exact aCM k (hn x hx)) (b:=ris A) λ_=>aRE (k+1) hl
 rw[aU4.mpr λ_ _=>rfl,Bool.true_and] at this;exact this
theorem aCN(k:Nat){d:D}(h:dH [(.fz,d),(.fz,.ty "tuple")]=some (.fz,.bl false)):(WT TT (k+1)).Φ "is_name_set" [d]=.ok .fz (.bl false):=by rw[aA9];refine bH rfl ?_;show evB _ jJ [some (false,d)]=_;simp[jJ,h,Ty.id]
abbrev pyA(A:List Str):PyData:=.tuple (A.map PyData.str)
theorem uI:∀ (l:List Str),cX (l.map D.str)=some (l.map PyData.str)
 | []=>rfl
 | x::l=>by simp[cX,bG,uI l]
theorem aCO:∀ (l:List (List Str)),cX (l.map aG)=some (l.map pyA)
 | []=>rfl
 | A::l=>by
  have e:bG (aG A)=some (pyA A):=by show (cX _).map _=_;rw[uI];rfl
  simp[cX,e,aCO l]
theorem uJ:∀ (l:List Str),PyData.depthAll (l.map PyData.str)=0
 | []=>by simp[PyData.depthAll]
 | x::l=>by simp[PyData.depthAll,PyData.depth,uJ l]
theorem aCP:∀ (l:List (List Str)),PyData.depthAll (l.map pyA)<=1
 | []=>by simp[PyData.depthAll]
 | x::l=>by have:=aCP l;simp[PyData.depthAll,PyData.depth,uJ,this]
theorem uK:∀ (l l':List Str),PyData.eqvAll (l.map PyData.str) (l'.map PyData.str)=decide (l=l')
 | [],[]=>by simp[PyData.eqvAll]
 | [],y::l'=>by simp[PyData.eqvAll]
 | x::l,[]=>by simp[PyData.eqvAll]
 | x::l,y::l'=>by simp only[aUQ,PyData.eqvAll,PyData.eqv,uK l l'];by_cases h1:x=y <;> by_cases h2:l=l' <;> simp[h1,h2]
theorem aCQ:∀ (l l':List (List Str)),PyData.eqvAll (l.map pyA) (l'.map pyA)=decide (l=l')
 | [],[]=>by simp[PyData.eqvAll]
 | [],y::l'=>by simp[PyData.eqvAll]
 | x::l,[]=>by simp[PyData.eqvAll]
 | x::l,y::l'=>by simp only[aUQ,PyData.eqvAll,PyData.eqv,uK,aCQ l l'];by_cases h1:x=y <;> by_cases h2:l=l' <;> simp[h1,h2]
theorem aCR(neg:Bool){A B:List (List Str)}{m m':Md}:eqF neg m (tn A) m' (tn B)=some (.fz,.bl (if neg then !decide (A=B) else decide (A=B))):=by
 have t:∀ NS,bG (tn NS)=some (.tuple (NS.map pyA)):=λNS=>by show (cX _).map _=_;rw[aCO];rfl
 have s:∀ NS:List (List Str),eP (.tuple (NS.map pyA))=true:=λNS=>by unfold eP;have:=aCP NS;simp[PyData.depth];omega
 have q:PyData.eqv (.tuple (A.map pyA)) (.tuple (B.map pyA))=decide (A=B):=by simp only[PyData.eqv];exact aCQ A B
 unfold eqF;rw[t,t];dsimp only;rw[s,s,q];rfl
theorem aCS{A B:List (List Str)}{m m':Md}:op2 (bS .Eq) (.ok m (tn A)) (.ok m' (tn B))=.ok .fz (.bl (decide (A=B))):=by refine cC ?_;show (orO (eqF false) (eqK false)) m _ m' _=_;unfold orO;rw[aCR];rfl
theorem ne_tn{A B:List (List Str)}{m m':Md}:op2 (bS .NotEq) (.ok m (tn A)) (.ok m' (tn B))=.ok .fz (.bl (!decide (A=B))):=by refine cC ?_;show (orO (eqF true) (eqK true)) m _ m' _=_;unfold orO;rw[aCR];rfl
theorem aCT(k:Nat){ds:List D}(hl:ds.length<=100){v:D->Bool}(hv:∀ d∈ds,(WT TT (k+3)).Φ "is_name_set" [d]=.ok .fz (.bl (v d))){b:Bool}(hb:ds.all v=true->∃ e,(WT TT (k+3)).Φ "least_of" [.tup ds]=.ok .fz e/\op2 (bS .Eq) (.ok .fz (.tup ds)) (.ok .fz e)=.ok .fz (.bl b)):(WT TT (k+4)).Φ "Least.holds" [LO,.tup ds]=.ok .fz (.bl (ds.all v&&b)):=by
 rw[aBA];refine bH rfl ?_;show evB _ jK [some (false,LO),some (false,.tup ds)]=_;have zl:sizeLine=16777216:=aS9;have ei:dH [(.fz,.tup ds),(.fz,.ty "tuple")]=some (.fz,.bl true):=rfl;have ec:bF (.ok .fz (.lst (ds.map λd=>d))) [some (false,LO),some (false,.tup ds)] [] 1 (aI (.nm 0)) (λρ=>evF (WT TT (k+3)) [] ρ) (λρ=>evE (WT TT (k+3)) (.call "is_name_set" 1 [(.var 0)]) ρ)=.ok .fr (.lst (ds.map λd=>.bl (v d))):=by
  refine cY (enc:=λd=>d) _ (by omega) λA hA=>⟨[some (false,A)],.fz,by simp[bA],by simp,.fz,?_⟩
  have e:=f7 (hv A hA);simp[e]
 rw[List.map_id'] at ec;have ea:=mO (f:=v) (m:=.fr) ds;have eit:dI (.ok .fz (.tup ds))=.ok .fz (.lst ds):=rfl;generalize (ds.map λd=>D.bl (v d))=BB at *;cases q:ds.all v with
 | false=>rw[q] at ea;generalize D.tup ds=T at *;generalize LO=L at *;simp at ec;simp[jK,ei,Ty.id,eit,ec,ea]
 | true=>obtain ⟨e,el,eq⟩:=hb q;have el:=f7 el;rw[q] at ea;generalize D.tup ds=T at *;generalize LO=L at *;simp at ec;simp[jK,ei,Ty.id,eit,ec,ea,el,eq]
theorem uL(k:Nat){d:D}(h:dH [(.fz,d),(.fz,.ty "tuple")]=some (.fz,.bl false)):(WT TT (k+1)).Φ "Least.holds" [LO,d]=.ok .fz (.bl false):=by rw[aBA];refine bH rfl ?_;show evB _ jK [some (false,LO),some (false,d)]=_;generalize LO=L;simp[jK,h,Ty.id]
section
variable {P:List Str}{NS:List (List Str)}
theorem aCU(k:Nat)(hP:cV P)(hn:∀ x∈P,Nm x)(F:Fam P NS)(hl:NS.length<64):(WT TT (k+4)).Φ "Least.holds" [LO,tn NS]=.ok .fz (.bl (decide (NS=Lst NS))):=by
 have h12:=hP.len
 have:=aCT k (ds:=NS.map aG) (by rw[aTZ];omega) (v:=λ_=>true) (λd hd=>by
  obtain ⟨A,hA,rfl⟩:=aX6.mp hd
  rw[uH k (λx hx=>hn x (F.sub A hA x hx)) (by have:=f9 F hA;omega),aRD (F.str A hA)]) (b:=decide (NS=Lst NS)) λ_=>⟨_,aCA k hP F hl,aCS⟩
 rw[aU4.mpr λ_ _=>rfl,Bool.true_and] at this;exact this
theorem aRF(G:dP P NS):Lst NS=NS:=tM (tZ G.toFam) G λg=>aB7 G.toFam
theorem holds(k:Nat)(hP:cV P)(hn:∀ x∈P,Nm x)(G:dP P NS)(hl:NS.length<64):(WT TT (k+4)).Φ "Least.holds" [LO,tn NS]=.ok .fz (.bl true):=by rw[aCU k hP hn G.toFam hl,aRF G,aUN rfl]
theorem uM(k:Nat)(hl:NS.length<=100)(ha:∀ A∈NS,A.length<=100):(WT TT (k+1)).Φ "_law_like" [tn NS,tn NS]=.ok .fz (.bl true):=by
 rw[aPJ];refine bH rfl ?_;show evB _ pE [some (false,tn NS),some (false,tn NS),none]=_;have zl:sizeLine=16777216:=aS9;have ei:dH [(.fz,tn NS),(.fz,.ty "tuple")]=some (.fz,.bl true):=rfl;have ne:=ne_tn (A:=NS) (B:=NS) (m:=.fz) (m':=.fz);rw[aUN rfl,aWZ] at ne;have eit:dI (.ok .fz (tn NS))=.ok .fz (.lst (NS.map aG)):=rfl;generalize hT:tn NS=T at *;have key:=iS (enc:=aG) (k:=aI (.nm 2)) (body:=evB (WT TT k) l9) (λ_ ρ=>∃ x,ρ=[some (false,T),some (false,T),x]) NS (λpre A post e ρ hI=>by
  obtain ⟨y,rfl⟩:=hI;have hA:A∈NS:=by rw[e];simp
  refine ⟨[some (false,T),some (false,T),some (false,aG A)],[some (false,T),some (false,T),some (false,aG A)],by simp,?_,_,rfl⟩
  have ei:dH [(.fz,aG A),(.fz,.ty "tuple")]=some (.fz,.bl true):=rfl;have ec:bF (.ok .fz (.lst (A.map D.str))) [some (false,T),some (false,T),some (false,aG A)] [] 1 (aI (.nm 0)) (λρ=>evF (WT TT k) [] ρ) (λρ=>evE (WT TT k) (.bcall .isinstance [(.var 0),(.ty .str)]) ρ)=.ok .fr (.lst (A.map λ_=>.bl true)):=by
   refine cY (enc:=D.str) _ (by have:=ha A hA;omega) λy hy=>⟨[some (false,.str y)],.fz,by simp[bA],by simp,.fz,?_⟩
   have e:dH [(.fz,.str y),(.fz,.ty "str")]=some (.fz,.bl true):=rfl;simp[e,Ty.id]
  have ea:=mO (f:=λ_:Str=>true) (m:=.fr) A;rw[aU4.mpr λ_ _=>rfl] at ea;have eit:dI (.ok .fz (aG A))=.ok .fz (.lst (A.map D.str)):=rfl;generalize (A.map λ_=>D.bl true)=BB at *;generalize A.map D.str=AA at *;generalize aG A=SS at *;simp[Ty.id] at ec;simp[l9,ei,Ty.id,eit,ec,ea]) NS [] [some (false,T),some (false,T),none] rfl ⟨none,rfl⟩
 obtain ⟨ρ',e,x,rfl⟩:=key;have ef:∀ ρ,eO (.ok .fz (.lst (NS.map aG))) ρ (aI (.nm 2)) (evB (WT TT k) l9)=bI (aI (.nm 2)) (evB (WT TT k) l9) (NS.map aG) ρ:=λρ=>rfl;generalize NS.map aG=NN at *;simp[pE,ei,Ty.id,ne,eit,ef,e]
theorem aCV(k:Nat)(hP:cV P)(G:dP P NS)(hl:NS.length<64):aP 2 ((WT TT (k+1)).Φ "_law_like") (.ok [(.fz,tn NS),(.fz,tn NS)])=.ok .fz (.bl true):=by have h12:=hP.len;exact dU (uM k (by omega) λA hA=>by have:=f9 G.toFam hA;omega)
end
def shS:List Str->Str
 | [] => "1"
 | l=>Str.join "*" l
def shN:List (List Str)->Str
 | [] => "0"
 | l=>Str.join " + " (l.map shS)
theorem aRG{l:List Str}{m:Md}(h:(l.map (·.length)).sum+l.length<=100000):jX "str" joinT (.ok .fz (.str "*")) (.ok [(m,aG l)])=.ok .fz (.str (Str.join "*" l)):=by
 show (if i6 "str" (.str "*")=true then Res.of (joinT .fz (.str "*") [(m,aG l)]) else .stuck)=_;rw[if_pos (by decide)]
 show Res.of (match txT (aG l) with | some ys=>_ | none=>_)=_
 rw[show txT (aG l)=some l from tI l]
 dsimp only;rw[if_pos (by have:sizeLine=16777216:=aS9;have e:(("*" : Str).length:Nat)=1:=rfl;rw[e];omega),i7]
 rfl
theorem aCW:∀ (l:List Str),e8 (l.map .str)=some l
 | []=>rfl
 | x::l=>by show (e8 (l.map .str)).map _=_;rw[aCW l];rfl
theorem aCX{l:List Str}{m:Md}(h:(l.map (·.length)).sum+3 * l.length<=100000):jX "str" iC (.ok .fz (.str " + ")) (.ok [(m,lx l)])=.ok .fz (.str (Str.join " + " l)):=by
 show (if i6 "str" (.str " + ")=true then Res.of (iC .fz (.str " + ") [(m,lx l)]) else .stuck)=_;rw[if_pos (by decide)]
 show Res.of (match e8 (l.map .str) with | some ys=>if (ys.map (·.length)).sum+ys.length * (Str.ofString " + ").length<=sizeLine then some (Md.fz,D.str (Txt.join (Str.ofString " + ") ys)) else none | none=>none)=_
 rw[aCW];dsimp only;rw[if_pos (by have:sizeLine=16777216:=aS9;have e:((Str.ofString " + ").length:Nat)=3:=rfl;rw[e];omega),i7]
 rfl
theorem kT{n:Nat}:∀ (l:List Str),(∀ x∈l,x.length<=n)->(l.map (·.length)).sum<=n * l.length
 | [],_=>by simp
 | x::l,h=>by have:=kT l λy hy=>h y (mcm hy);have:=h x mcs;simp only[aUQ,aX1,aUO,aYF];omega
theorem aRH{z:Str}:∀ (l:List Str),(Str.join z l).length<=(l.map (·.length)).sum+l.length * z.length:=λl=>aVQ z l
theorem Nm.len{x:Str}(h:Nm x):x.length<=40:=by obtain ⟨c,l,rfl,_,hl,_⟩:=h;show (c::l).toArray.size<=40;simp;omega
theorem aCY{A:List Str}(hn:∀ x∈A,Nm x)(hl:A.length<=12):(shS A).length<=600:=by
 cases A with
 | nil=>show (("1" : Str).length:Nat)<=600;decide
 | cons x A=>show (Str.join "*" (x::A)).length<=600;have h1:=aRH (z := "*") (x::A);have h2:=kT (n:=40) (x::A) λy hy=>(hn y hy).len;have e:(("*" : Str).length:Nat)=1:=rfl;rw[e] at h1;omega
theorem aRI{A:List Str}{m m':Md}:op2 (bS .Eq) (.ok m (aG A)) (.ok m' (.tup []))=.ok .fz (.bl (decide (A=[]))):=by
 refine cC ?_;have t:∀ l:List Str,bG (aG l)=some (.tuple (l.map PyData.str)):=λl=>by show (cX _).map _=_;rw[uI];rfl
 have s:∀ l:List Str,eP (.tuple (l.map PyData.str))=true:=λl=>by unfold eP;simp[PyData.depth,uJ]
 have q:PyData.eqv (.tuple (A.map PyData.str)) (.tuple (([]:List Str).map PyData.str))=decide (A=[]):=by simp only[PyData.eqv];exact uK A []
 have e:eqF false m (aG A) m' (aG [])=some (.fz,.bl (decide (A=[]))):=by unfold eqF;rw[t,t];dsimp only;rw[s,s,q];rfl
 show (orO (eqF false) (eqK false)) m _ m' (aG [])=_;unfold orO;rw[e];rfl
theorem aRJ(k:Nat){A:List Str}(hn:∀ x∈A,Nm x)(hl:A.length<=12):(WT TT (k+1)).Φ "shown_set" [aG A]=.ok .fz (.str (shS A)):=by
 rw[aO4];refine bH rfl ?_;show evB _ mH [some (false,aG A)]=_;have q:=aRI (A:=A) (m:=.fz) (m':=.fz);have t0:eL (.ok [])=.ok .fz (.tup []):=rfl;cases A with
 | nil=>rw[aUN rfl] at q;generalize aG []=E at *;simp[mH,t0,q,shS]
 | cons x A =>
  rw[aR6 (by simp)] at q
  have h2:=kT (n:=40) (x::A) λy hy=>(hn y hy).len;have j:=aRG (l:=x::A) (m:=.fz) (by omega)
  show _=aK.rt Md.fz (.str (Str.join "*" (x::A)));generalize Str.join "*" (x::A)=J at *;generalize aG (x::A)=E at *;simp[mH,t0,q,j]
theorem shown(k:Nat){P:List Str}{NS:List (List Str)}(hP:cV P)(hn:∀ x∈P,Nm x)(F:Fam P NS)(hl:NS.length<64):(WT TT (k+2)).Φ "Least.shown" [LO,tn NS]=.ok .fz (.str (shN NS)):=by
 rw[aPR];refine bH rfl ?_;show evB _ mL [some (false,LO),some (false,tn NS)]=_;have h12:=hP.len;have zl:sizeLine=16777216:=aS9;have q:=aCS (A:=NS) (B:=[]) (m:=.fz) (m':=.fz);have q:op2 (bS .Eq) (.ok .fz (tn NS)) (.ok .fz (.tup []))=_:=q;have t0:eL (.ok [])=.ok .fz (.tup []):=rfl;have ec:bF (.ok .fz (.lst (NS.map aG))) [some (false,LO),some (false,tn NS)] [] 1 (aI (.nm 0)) (λρ=>evF (WT TT (k+1)) [] ρ) (λρ=>evE (WT TT (k+1)) (.call "shown_set" 1 [(.var 0)]) ρ)=.ok .fr (lx (NS.map shS)):=by
  rw[show lx (NS.map shS)=.lst (NS.map λA=>.str (shS A)) from congrArg D.lst aWM]
  refine cY (enc:=aG) _ (by omega) λA hA=>⟨[some (false,aG A)],.fz,by simp[bA],by simp,.fz,?_⟩
  have e:=f7 (aRJ k (λx hx=>hn x (F.sub A hA x hx)) (aSI (f9 F hA) h12));generalize aG A=EA at *;simp[e]
 have eit:dI (.ok .fz (tn NS))=.ok .fz (.lst (NS.map aG)):=rfl;have bd:=kT (n:=600) (NS.map shS) λx hx=>by obtain ⟨A,hA,rfl⟩:=aX6.mp hx;exact aCY (λx hx=>hn x (F.sub A hA x hx)) (aSI (f9 F hA) h12)
 rw[aTZ] at bd;have j:=aCX (l:=NS.map shS) (m:=.fr) (by rw[aTZ];omega)
 cases NS with
 | nil=>rw[aUN rfl] at q;generalize tn []=E at *;generalize LO=L at *;simp[mL,t0,q,shN]
 | cons A NS =>
  rw[aR6 (by simp)] at q
  show _=aK.rt Md.fz (.str (Str.join " + " ((A::NS).map shS)));generalize Str.join " + " ((A::NS).map shS)=J at *;generalize (A::NS).map shS=SS at *;generalize lx SS=LX at *;generalize tn (A::NS)=E at *;generalize (A::NS).map aG=EE at *;generalize LO=L at *;simp at ec;simp[mL,t0,q,eit,ec,j]
def bind:Str->Nat->List Str->Str
 | d,_,[]=>d
 | d,i,x::l=>bind (if i=0 then x else d ++ "*" ++ x) (i+1) l
theorem aCZ:∀ (l:List Str) (d:Str) (i:Nat),bind d (i+1) l=Str.join "*" (d::l)
 | [],d,i=>rfl
 | x::l,d,i=>by
  show bind (if i+1=0 then x else d ++ "*" ++ x) (i+2) l=_;rw[if_neg (by omega),aCZ l]
  cases l with
  | nil=>rfl
  | cons y l=>show (d ++ "*" ++ x) ++ "*" ++ Str.join "*" (y::l)=d ++ "*" ++ (x ++ "*" ++ Str.join "*" (y::l));simp only[PySem.Str.append_assoc]
theorem aRK(l:List Str):bind "1" 0 l=shS l:=by
 cases l with
 | nil=>rfl
 | cons x l=>exact aCZ l x 0
theorem pS{x y:Str}{m m':Md}(h:x.length+y.length<=2000):op2 (bM .Add) (.ok m (.str x)) (.ok m' (.str y))=.ok .fz (.str (x++y)):=by exact zW (by have:sizeLine=16777216:=aS9;omega)
theorem hG{ds:List D}{m m':Md}{i:Nat}{d:D}(h:ds[i]? = some d):op2 ixD (.ok m (.lst ds)) (.ok m' (.int i))=.ok .fz d:=cC (by show (atI ds i).map _=_;rw[k6 h];rfl)
theorem aC0(k:Nat){T A:D}{o:Option (Bool×D)}:∀ (l:List Str) (d:Str) (i:Nat) (u v:Option (Bool×D)),d.length+(l.map (·.length)).sum+l.length<=1500->∃ u' v',bI (aI (.tp [(.nm 4),(.nm 5)])) (evB (WT TT k) jI) (cT i (l.map D.str)) [some (false,T),o,some (false,A),some (false,.str d),u,v]=.nx [some (false,T),o,some (false,A),some (false,.str (bind d i l)),u',v']
 | [],d,i,u,v,_=>⟨u,v,rfl⟩
 | x::l,d,i,u,v,h=>by
  simp only[aUQ,aX1,aUO] at h;have el:(("*" : Str).length:Nat)=1:=rfl;have a1:=pS (x:=d) (y := "*") (m:=.fz) (m':=.fz) (by omega)
  have a2:=pS (x:=d ++ "*") (y:=x) (m:=.fz) (m':=.fz) (by rw[aYS];omega)
  have ll:e6 (.ok [(.fz,.str x),(.fz,.str (d ++ "*" ++ x))])=.ok .fr (.lst [.str x,.str (d ++ "*" ++ x)]):=rfl;have e1:evB (WT TT k) jI [some (false,T),o,some (false,A),some (false,.str d),some (false,.int (i:Int)),some (false,.str x)]=.nx [some (false,T),o,some (false,A),some (false,.str (if i=0 then x else d ++ "*" ++ x)),some (false,.int (i:Int)),some (false,.str x)]:=by
   have i0:op2 ixD (.ok .fr (.lst [.str x,.str (d ++ "*" ++ x)])) (.ok .fz (.int 0))=.ok .fz (.str x):=hG (i:=0) rfl;have i1:op2 ixD (.ok .fr (.lst [.str x,.str (d ++ "*" ++ x)])) (.ok .fz (.int 1))=.ok .fz (.str (d ++ "*" ++ x)):=hG (i:=1) rfl;by_cases h0:i=0
   . subst h0;simp[jI,a1,a2,ll,i0]
   . have h1:0<i:=by omega
     rw[if_neg h0];generalize (d ++ "*" ++ x)=Z at *;simp[jI,h0,h1,a1,a2,ll,i1]
  have hl:(if i=0 then x else d ++ "*" ++ x).length+(l.map (·.length)).sum+l.length<=1500:=by
   split
   . omega
   . rw[aYS,aYS];omega
  obtain ⟨u',v',e2⟩:=aC0 k (T:=T) (A:=A) (o:=o) l (if i=0 then x else d ++ "*" ++ x) (i+1) (some (false,.int (i:Int))) (some (false,.str x)) hl;refine ⟨u',v',?_⟩;show bI _ _ (.tup [.int (i:Int),.str x]::cT (i+1) (l.map D.str)) _=_;unfold bI;rw[show aI (.tp [(.nm 4),(.nm 5)]) (.tup [.int (i:Int),.str x]) [some (false,T),o,some (false,A),some (false,.str d),u,v]=some [some (false,T),o,some (false,A),some (false,.str d),some (false,.int (i:Int)),some (false,.str x)] from rfl]
  dsimp only;rw[e1];exact e2
theorem aRL(k:Nat){P:List Str}{NS:List (List Str)}(hP:cV P)(hn:∀ x∈P,Nm x)(F:Fam P NS)(hl:NS.length<64):(WT TT (k+1)).Φ "_law_shown" [tn NS]=.ok .fz (.str (shN NS)):=by
 rw[aPK];refine bH rfl ?_;show evB _ mK [some (false,tn NS),none,none,none,none,none]=_;have h12:=hP.len;have zl:sizeLine=16777216:=aS9;have eit:dI (.ok .fz (tn NS))=.ok .fz (.lst (NS.map aG)):=rfl;generalize hT:tn NS=T at *;have key:=iS (enc:=aG) (k:=aI (.nm 2)) (body:=evB (WT TT k) mD) (λpre ρ=>∃ x y z w,ρ=[some (false,T),some (true,lx (pre.map shS)),x,y,z,w]) NS (λpre A post e ρ hI=>by
  obtain ⟨x,y,z,w,rfl⟩:=hI;have hA:A∈NS:=by rw[e];simp
  have lp:pre.length<64:=by have:=congrArg List.length e;simp at this;omega
  have hA12:A.length<=12:=aSI (f9 F hA) h12;have bd:=kT (n:=40) A λy hy=>(hn y (F.sub A hA y hy)).len;obtain ⟨u,v,lp1⟩:=aC0 k (T:=T) (A:=aG A) (o:=some (true,lx (pre.map shS))) A "1" 0 z w (by have:(("1" : Str).length:Nat)=1:=rfl;omega)
  rw[aRK] at lp1;refine ⟨[some (false,T),some (true,lx (pre.map shS)),some (false,aG A),y,z,w],[some (false,T),some (true,lx ((pre++[A]).map shS)),some (false,aG A),some (false,.str (shS A)),u,v],by simp,?_,_,_,_,_,rfl⟩
  have en:j4 (.ok [(.fz,aG A)])=.ok .fz (.lst (cT 0 (A.map D.str))):=rfl;have ef:∀ ρ,eO (.ok .fz (.lst (cT 0 (A.map D.str)))) ρ (aI (.tp [(.nm 4),(.nm 5)])) (evB (WT TT k) jI)=bI (aI (.tp [(.nm 4),(.nm 5)])) (evB (WT TT k) jI) (cT 0 (A.map D.str)) ρ:=λρ=>rfl;have ap:fT [some (false,T),some (true,lx (pre.map shS)),some (false,aG A),some (false,.str (shS A)),u,v] 1 (.ok .fz (.str (shS A)))=.nx [some (false,T),some (true,lx ((pre++[A]).map shS)),some (false,aG A),some (false,.str (shS A)),u,v]:=by
   show (if ((pre.map shS).map D.str).length<sizeLine then aK.nx _ else .stuck)=_;rw[if_pos (by rw[aTZ,aTZ];omega)]
   show aK.nx [_,some (true,.lst ((pre.map shS).map D.str++[.str (shS A)])),_,_,_,_]=_;rw[aYO,show lx (pre.map shS++[A].map shS)=.lst ((pre.map shS).map D.str++[.str (shS A)]) from congrArg D.lst aYO]
  generalize lx ((pre++[A]).map shS)=L1 at *;generalize lx (pre.map shS)=L0 at *;generalize cT 0 (A.map D.str)=EN at *;generalize aG A=EA at *;generalize shS A=SA at *;simp[mD,en,ef,lp1,ap]) NS [] [some (false,T),some (true,.lst []),none,none,none,none] rfl ⟨none,none,none,none,rfl⟩
 obtain ⟨ρ',e,x,y,z,w,rfl⟩:=key;have ef:∀ ρ,eO (.ok .fz (.lst (NS.map aG))) ρ (aI (.nm 2)) (evB (WT TT k) mD)=bI (aI (.nm 2)) (evB (WT TT k) mD) (NS.map aG) ρ:=λρ=>rfl;have bd:=kT (n:=600) (NS.map shS) λx hx=>by obtain ⟨A,hA,rfl⟩:=aX6.mp hx;exact aCY (λx hx=>hn x (F.sub A hA x hx)) (aSI (f9 F hA) h12)
 rw[aTZ] at bd;have j:=aCX (l:=NS.map shS) (m:=.fz) (by rw[aTZ];omega)
 have el:e6 (.ok [])=.ok .fr (.lst []):=rfl;have ln:dG [(.fz,lx (NS.map shS))]=some (.fz,.int (NS.length:Int)):=by show some (Md.fz,D.int (((NS.map shS).map D.str).length:Nat))=_;simp
 cases NS with
 | nil=>have ln:dG [(.fz,lx (([]:List (List Str)).map shS))]=some (.fz,.int 0):=ln;generalize lx (([]:List (List Str)).map shS)=L1 at *;generalize ([]:List (List Str)).map aG=NN at *;simp[mK,eit,ef,e,el,gN,ln,shN]
 | cons A NS =>
  have n0:(((A::NS).length:Int)==0)=false:=by simp;omega
  show _=aK.rt Md.fz (.str (Str.join " + " ((A::NS).map shS)));generalize Str.join " + " ((A::NS).map shS)=J at *;generalize lx ((A::NS).map shS)=L1 at *;generalize (A::NS).map aG=NN at *;generalize ((A::NS).length:Int)=q at *;simp[mK,eit,ef,e,el,gN,ln,n0,j]
theorem aRM{a b c:Nat}(h1:sb a b=true)(h2:sb b c=true):sb a c=true:=iQ.mpr λi hi=>iQ.mp h2 i (iQ.mp h1 i hi)
theorem aC1{L:List Nat}:∀ (n x:Nat),x<=n->x∈L->∃ y∈a9 L,sb y x=true
 | n,x,hn,hx=>by
  cases w:gZ L x with
  | false=>exact ⟨x,mP.mpr ⟨hx,w⟩,aB0 x⟩
  | true =>
   obtain ⟨o,ho,e⟩:=aU9.mp w;rw[aUG,aX7] at e;have hlt:o<x:=Nat.lt_of_le_of_ne (aBZ e.1) e.2;cases n with
   | zero=>omega
   | succ n =>
    obtain ⟨y,hy,s⟩:=aC1 n o (by omega) ho
    exact ⟨y,hy,aRM s e.1⟩
theorem aC2(L:List Nat){S:Nat->Prop}:UpM (a9 L) S↔UpM L S:=by
 constructor
 . rintro ⟨f,hf,s⟩;exact ⟨f,(mP.mp hf).1,s⟩
 . rintro ⟨f,hf,s⟩;obtain ⟨y,hy,e⟩:=aC1 f f (aS1 _) hf;exact ⟨y,hy,λi hi=>s i (iQ.mp e i hi)⟩
theorem aRN{A B:List Nat}{S:Nat->Prop}:UpM (A++B) S↔UpM A S\/UpM B S:=by unfold UpM;simp only[aSM,or_and_right,exists_or]
def bT(A B:List Nat):List Nat:=A.flatMap λm=>B.map λn=>m ||| n
theorem aRO{A B:List Nat}{S:Nat->Prop}:UpM (bT A B) S↔UpM A S/\UpM B S:=by
 unfold bT;constructor
 . rintro ⟨f,hf,s⟩;obtain ⟨m,hm,hf⟩:=aYP.mp hf;obtain ⟨n,hn,rfl⟩:=aX6.mp hf;exact ⟨⟨m,hm,λi hi=>s i (iV.mpr (.inl hi))⟩,⟨n,hn,λi hi=>s i (iV.mpr (.inr hi))⟩⟩
 . rintro ⟨⟨m,hm,s⟩,⟨n,hn,t⟩⟩;refine ⟨m ||| n,aYP.mpr ⟨m,hm,aX6.mpr ⟨n,hn,rfl⟩⟩,λi hi=>?_⟩;rcases iV.mp hi with hi | hi
   . exact s i hi
   . exact t i hi
theorem mR:∀ (A B:List Nat),(bT A B).length=A.length * B.length
 | [],B=>by simp[bT]
 | x::A,B=>by have:=mR A B;unfold bT at *;simp only[List.flatMap_cons,aTY,aTZ,aUO,Nat.add_mul,Nat.one_mul,this];omega
theorem hV{P:List Str}{L:List Nat}(hb:∀ f∈L,∀ i,f.testBit i=true->i<P.length):Fm P (a9 L) :=
 ⟨aQL L,λm hm=>hb m (mP.mp hm).1,λx hx y hy h=>aQM hx hy h⟩
theorem uN{n:Nat}{A B:List Nat}(ha:∀ f∈A,∀ i,f.testBit i=true->i<n)(hb:∀ f∈B,∀ i,f.testBit i=true->i<n):∀ f∈A++B,∀ i,f.testBit i=true->i<n:=λf hf=>(aSM.mp hf).elim (ha f) (hb f)
theorem uO{n:Nat}{A B:List Nat}(ha:∀ f∈A,∀ i,f.testBit i=true->i<n)(hb:∀ f∈B,∀ i,f.testBit i=true->i<n):∀ f∈bT A B,∀ i,f.testBit i=true->i<n:=λf hf i hi=>by
 obtain ⟨m,hm,hf⟩:=aYP.mp hf;obtain ⟨n,hn,rfl⟩:=aX6.mp hf;rcases iV.mp hi with hi | hi
 . exact ha m hm i hi
 . exact hb n hn i hi
theorem aC3{n x:Nat}(h:x<2 ^ n):∀ i,x.testBit i=true->i<n:=λi hi=>by
 apply aYN;intro hn;have:=Nat.ge_two_pow_of_testBit hi;have:=Nat.pow_le_pow_right (show 0<2 by decide) (aVN.mp hn)
 omega
theorem mS(L:List Nat):(a9 L).length<=L.length:=by have:=tL L L [];rw[aUP,aVX] at this;exact this
theorem aRP{P:List Str}{M:List Nat}(h:Fm P M):M.length<=2 ^ P.length:=aQS h.nd λf hf=>aQR (h.bel f hf)
theorem pT(k:Nat){P:List Str}(hP:cV P){M:List Nat}(h:Fm P M)(hl:M.length<64):(WT TT (k+2)).Φ "_law_note" [.lst (iN M),lx P]=.ok .fz (tn (cZ P M)):=by
 rw[aPG];refine bH rfl ?_;show evB _ pB [some (false,.lst (iN M)),some (false,lx P)]=_;have zl:sizeLine=16777216:=aS9;have h12:=hP.len;have ec:bF (.ok .fz (.lst (iN M))) [some (false,.lst (iN M)),some (false,lx P)] [1] 1 (aI (.nm 1)) (λρ=>evF (WT TT (k+1)) [] ρ) (λρ=>evE (WT TT (k+1)) (.call "_law_set" 2 [(.var 1),(.var 0)]) ρ)=.ok .fr (.lst ((M.map (sel P)).map aG)):=by
  rw[aWM];refine cY (enc:=iD) (λf=>aG (sel P f)) (by omega) λf hf=>⟨[some (false,lx P),some (false,iD f)],.fz,by simp[bA],by simp,.fz,?_⟩
  have e:=dU (aQI k f (P:=P) (by omega))
  generalize aG (sel P f)=Z at *;generalize lx P=L at *;simp[iD,e]
 have e2:=aBO (m:=.fr) (tQ hP.str h hl);have er:D.tup ((eE (M.map (sel P))).map aG)=tn (cZ P M):=rfl;rw[<- er];generalize (eE (M.map (sel P))).map aG=YY at *;generalize (M.map (sel P)).map aG=ZZ at *;generalize iN M=L0 at *;generalize lx P=PP' at *;simp at ec;simp[pB,ec,e2]
theorem aC4(k:Nat){A B:List Nat}(ha:A.length<=40)(hb:B.length<=40)(hab:A.length * B.length<=100):(WT TT (k+2)).Φ "_law_joined" [.lst (iN A),.lst (iN B)]=.ok .fr (.lst (iN (a9 (bT A B)))):=by
 rw[aPE];refine bH rfl ?_;show evB _ o9 [some (false,.lst (iN A)),some (false,.lst (iN B)),none,none]=_;have zl:sizeLine=16777216:=aS9;have e1:=eW (mQ k (L:=bT A B) (by rw[mR];exact hab))
 have key:=iS (enc:=iD) (k:=aI (.nm 3)) (body:=evB (WT TT (k+1)) kM) (λpre ρ=>∃ x,ρ=[some (false,.lst (iN A)),some (false,.lst (iN B)),some (true,.lst (iN (bT pre B))),x]) A (λpre m post e ρ hI=>by
  obtain ⟨x,rfl⟩:=hI;refine ⟨[some (false,.lst (iN A)),some (false,.lst (iN B)),some (true,.lst (iN (bT pre B))),some (false,iD m)],[some (false,.lst (iN A)),some (false,.lst (iN B)),some (true,.lst (iN (bT (pre++[m]) B))),some (false,iD m)],by simp,?_,_,rfl⟩
  have ec:bF (.ok .fz (.lst (iN B))) [some (false,.lst (iN A)),some (false,.lst (iN B)),some (true,.lst (iN (bT pre B))),some (false,iD m)] [3] 1 (aI (.nm 1)) (λρ=>evF (WT TT (k+1)) [] ρ) (λρ=>evE (WT TT (k+1)) (.bin .BitOr (.var 0) (.var 1)) ρ)=.ok .fr (.lst (iN (B.map λn=>m ||| n))):=by
   rw[show iN (B.map λn=>m ||| n)=B.map λn=>iD (m ||| n) from aWM]
   refine cY (enc:=iD) _ (by omega) λn hn=>⟨[some (false,iD m),some (false,iD n)],.fz,by simp[bA],by simp,.fz,?_⟩
   simp[iD,bor]
  have ea:iN (bT (pre++[m]) B)=iN (bT pre B)++iN (B.map λn=>m ||| n):=by unfold bT iN;rw[List.flatMap_append,aYO];simp
  have lp:(bT pre B).length<=100:=by
   rw[mR];have hp:pre.length<=A.length:=by have:=congrArg List.length e;simp at this;omega
   exact aSI (Nat.mul_le_mul_right _ hp) hab
  have ex:gX [some (false,.lst (iN A)),some (false,.lst (iN B)),some (true,.lst (iN (bT pre B))),some (false,.int (m:Int))] 2 (.ok .fr (.lst (iN (B.map λn=>m ||| n))))=.nx [some (false,.lst (iN A)),some (false,.lst (iN B)),some (true,.lst (iN (bT (pre++[m]) B))),some (false,.int (m:Int))]:=by
   show (if (iN (bT pre B)).length+(iN (B.map λn=>m ||| n)).length<=sizeLine then aK.nx _ else .stuck)=_;rw[if_pos (by rw[aTZ,aTZ,aTZ];omega),ea]
   rfl
  generalize iN (bT (pre++[m]) B)=L1 at *;generalize iN (bT pre B)=L0 at *;generalize iN (B.map λn=>m ||| n)=L2 at *;generalize iN A=AA at *;generalize iN B=BB at *;simp at ec;simp[kM,iD,ec,ex]) A [] [some (false,.lst (iN A)),some (false,.lst (iN B)),some (true,.lst []),none] rfl ⟨none,rfl⟩
 obtain ⟨ρ',e,x,rfl⟩:=key;have ef:∀ ρ,eO (.ok .fz (.lst (iN A))) ρ (aI (.nm 3)) (evB (WT TT (k+1)) kM)=bI (aI (.nm 3)) (evB (WT TT (k+1)) kM) (iN A) ρ:=λρ=>rfl;have e:bI (aI (.nm 3)) (evB (WT TT (k+1)) kM) (iN A) [some (false,.lst (iN A)),some (false,.lst (iN B)),some (true,.lst []),none]=_:=e;have el:e6 (.ok [])=.ok .fr (.lst []):=rfl;generalize iN (a9 (bT A B))=R at *;generalize iN (bT A B)=O at *;generalize iN A=AA at *;generalize iN B=BB at *;simp[o9,ef,e,el,gN,e1]
def cI(c:Int):List Nat:=(List.range (mx c 8 % 3).toNat).map λk:Nat=>(mx c (10+(k:Int)) % 16).toNat
theorem aC5(c:Int):(cI c).length<=2:=by
 unfold cI;have:=aYL (mx c 8) (show (0:Int)<3 by decide)
 simp;omega
theorem aRQ{n:Nat}(hn:n=4)(c:Int):∀ f∈cI c,∀ i,f.testBit i=true->i<n:=λf hf=>by
 obtain ⟨k,_,rfl⟩:=aX6.mp hf;refine aC3 ?_;have:=aYL (mx c (10+(k:Int))) (show (0:Int)<16 by decide)
 subst hn;show _<16;omega
theorem few(k:Nat)(c:Int):(WT TT (k+2)).Φ "_law_few" [.int c]=.ok .fr (.lst (iN (a9 (cI c)))):=by
 rw[aPH];refine bH rfl ?_;show evB _ pC [some (false,.int c)]=_;have zl:sizeLine=16777216:=aS9;have m8:=Mx k (c:=c) (p:=8) (by decide) (by decide)
 have q0:=aYK (mx c 8) (show (3:Int)≠0 by decide)
 have q1:=aYL (mx c 8) (show (0:Int)<3 by decide)
 obtain ⟨q,hq⟩:=aYQ q0;have er:=pL (n:=q) (by omega)
 rw[<- hq] at er;have e1:=eW (mQ k (L:=cI c) (by have:=aC5 c;omega))
 have ec:bF (.ok .fz (.lst (iN (List.range q)))) [some (false,.int c)] [0] 1 (aI (.nm 1)) (λρ=>evF (WT TT (k+1)) [] ρ) (λρ=>evE (WT TT (k+1)) (.bin .Mod (.call "_law_mix" 2 [(.var 0),(.frz (.bin .Add (.int 10) (.var 1)))]) (.int 16)) ρ)=.ok .fr (.lst (iN (cI c))):=by
  have:cI c=(List.range q).map λk:Nat=>(mx c (10+(k:Int)) % 16).toNat:=by unfold cI;rw[hq,aT6]
  rw[this,show iN ((List.range q).map λk:Nat=>(mx c (10+(k:Int)) % 16).toNat)=(List.range q).map λk:Nat=>iD (mx c (10+(k:Int)) % 16).toNat from aWM]
  refine cY (enc:=iD) _ (by simp;omega) λj hj=>⟨[some (false,.int c),some (false,iD j)],.fz,by simp[bA],by simp,.fz,?_⟩
  have hj:=aSH.mp hj;have mj:=Mx k (c:=c) (p:=10+(j:Int)) (by omega) (by omega)
  have c0:(((mx c (10+(j:Int)) % 16).toNat:Nat):Int)=mx c (10+(j:Int)) % 16:=aYT (aYK _ (by decide))
  unfold iD;rw[c0];simp[mj]
 generalize iN (a9 (cI c))=R at *;generalize iN (cI c)=O at *;generalize iN (List.range q)=RR at *;simp at ec;simp[pC,m8,er,ec,e1]
def eA(c:Int):List Nat:=(List.range 4).map λk:Nat=>(mx c (10+(k:Int)) % 4096).toNat &&& (mx c (20+(k:Int))).toNat
theorem aC6{n:Nat}(hn:n=12)(c:Int):∀ f∈eA c,∀ i,f.testBit i=true->i<n:=λf hf=>by
 obtain ⟨k,_,rfl⟩:=aX6.mp hf;refine aC3 (aXW Nat.and_le_left ?_);have:=aYL (mx c (10+(k:Int))) (show (0:Int)<4096 by decide)
 subst hn;show _<4096;omega
theorem aC7(k:Nat)(c:Int):(WT TT (k+2)).Φ "_law_some" [.int c]=.ok .fr (.lst (iN (a9 (eA c)))):=by
 rw[aPI];refine bH rfl ?_;show evB _ pD [some (false,.int c)]=_;have zl:sizeLine=16777216:=aS9;have er:e7 (.ok [(.fz,.int 4)])=.ok .fz (.lst (iN (List.range 4))):=pL (n:=4) (by omega)
 have e1:=eW (mQ k (L:=eA c) (by unfold eA;simp))
 have ec:bF (.ok .fz (.lst (iN (List.range 4)))) [some (false,.int c)] [0] 1 (aI (.nm 1)) (λρ=>evF (WT TT (k+1)) [] ρ) (λρ=>evE (WT TT (k+1)) (.bin .BitAnd (.bin .Mod (.call "_law_mix" 2 [(.var 0),(.frz (.bin .Add (.int 10) (.var 1)))]) (.int 4096)) (.call "_law_mix" 2 [(.var 0),(.frz (.bin .Add (.int 20) (.var 1)))])) ρ)=.ok .fr (.lst (iN (eA c))):=by
  rw[show iN (eA c)=(List.range 4).map λk:Nat=>iD ((mx c (10+(k:Int)) % 4096).toNat &&& (mx c (20+(k:Int))).toNat) from aWM]
  refine cY (enc:=iD) _ (by simp;omega) λj hj=>⟨[some (false,.int c),some (false,iD j)],.fz,by simp[bA],by simp,.fz,?_⟩
  have hj:=aSH.mp hj;have m1:=Mx k (c:=c) (p:=10+(j:Int)) (by omega) (by omega)
  have m2:=Mx k (c:=c) (p:=20+(j:Int)) (by omega) (by omega)
  have c1:(((mx c (10+(j:Int)) % 4096).toNat:Nat):Int)=mx c (10+(j:Int)) % 4096:=aYT (aYK _ (by decide))
  have c2:(((mx c (20+(j:Int))).toNat:Nat):Int)=mx c (20+(j:Int)):=aYT (mx0 _ _);have b:=mM (mx c (10+(j:Int)) % 4096).toNat (mx c (20+(j:Int))).toNat;rw[c1,c2] at b;unfold iD;rw[<- b];simp[m1,m2]
 generalize iN (a9 (eA c))=R at *;generalize iN (eA c)=O at *;generalize iN (List.range 4)=RR at *;simp at ec;simp[pD,er,ec,e1]
theorem eq_sb{x:Str}{m m':Md}:op2 (bS .Eq) (.ok m (.tup [.str x,.bl true])) (.ok m' (.tup [.str x,.bl true]))=.ok .fz (.bl true):=by
 refine cC ?_;have e:eqF false m (.tup [.str x,.bl true]) m' (.tup [.str x,.bl true])=some (.fz,.bl true):=by
  have t:bG (.tup [.str x,.bl true])=some (.tuple [.str x,.bool true]):=by simp[bG,cX]
  have s:eP (.tuple [.str x,.bool true])=true:=by unfold eP;simp[PyData.depth,PyData.depthAll]
  unfold eqF;rw[t];dsimp only;rw[s];simp[PyData.eqv,PyData.eqvAll]
 show (orO (eqF false) (eqK false)) m _ m' _=_;unfold orO;rw[e];rfl
section
variable {P:List Str}
theorem pU{M:List Nat}:(cZ P M).length<=M.length:=by
 have:=kR (aQT (oJ (M.map (sel P)))) (l':=M.map (sel P)) λy hy=>oH.mp hy
 rwa [aTZ] at this
theorem gB(hP:cV P){M:List Nat}(h:Fm P M):dP P (cZ P M):=tN hP.str (λx hx=>hx) h
variable {A B:List Nat}
theorem aRR(hP:cV P)(ha:Fm P A)(hb:Fm P B):Lst (cZ P A++cZ P B)=cZ P (a9 (A++B)):=by have F:=pP (gB hP ha).toFam (gB hP hb).toFam;have L:=hV (uN ha.bel hb.bel);refine tM (tZ F) (gB hP L) λg=>?_;rw[aB7 F,aQY,iU ha.bel,iU hb.bel,iU L.bel,aC2,aRN]
theorem aRS(hP:cV P)(ha:Fm P A)(hb:Fm P B):Tms (cZ P A) (cZ P B)=cZ P (a9 (bT A B)):=by have Fa:=(gB hP ha).toFam;have Fb:=(gB hP hb).toFam;have L:=hV (uO ha.bel hb.bel);refine tM (aQZ Fa Fb) (gB hP L) λg=>?_;rw[aQ0 Fa Fb,iU ha.bel,iU hb.bel,iU L.bel,aC2,aRO]
theorem aRT{a b:List (List Str)}:(t8 a b).length=a.length * b.length:=by have:=mR (a.map (mk (aR (a++b)))) (b.map (mk (aR (a++b))));rw[aTZ,aTZ] at this;exact this
end
theorem m_run(k:Nat){L PP':D}{A B AB LA LJ:List D}{NA NB NP NT:D}{sh:Str}(n1:aP 2 ((WT TT k).Φ "_law_note") (.ok [(.fz,.lst A),(.fz,PP')])=.ok .fz NA)(n2:aP 2 ((WT TT k).Φ "_law_note") (.ok [(.fz,.lst B),(.fz,PP')])=.ok .fz NB)(ct:op2 (bM .Add) (.ok .fz (.lst A)) (.ok .fz (.lst B))=.ok .fr (.lst AB))(ls:aP 1 ((WT TT k).Φ "_law_least") (.ok [(.fz,.lst AB)])=.ok .fr (.lst LA))(n3:aP 2 ((WT TT k).Φ "_law_note") (.ok [(.fz,.lst LA),(.fz,PP')])=.ok .fz NP)(pl:aP 3 ((WT TT k).Φ "Least.plus") (.ok [(.fz,LO),(.fz,NA),(.fz,NB)])=.ok .fz NP)(lk1:aP 2 ((WT TT k).Φ "_law_like") (.ok [(.fz,NP),(.fz,NP)])=.ok .fz (.bl true))(jn:aP 2 ((WT TT k).Φ "_law_joined") (.ok [(.fz,.lst A),(.fz,.lst B)])=.ok .fr (.lst LJ))(n4:aP 2 ((WT TT k).Φ "_law_note") (.ok [(.fz,.lst LJ),(.fz,PP')])=.ok .fz NT)(tm:aP 3 ((WT TT k).Φ "Least.times") (.ok [(.fz,LO),(.fz,NA),(.fz,NB)])=.ok .fz NT)(lk2:aP 2 ((WT TT k).Φ "_law_like") (.ok [(.fz,NT),(.fz,NT)])=.ok .fz (.bl true))(sw:aP 2 ((WT TT k).Φ "Least.shown") (.ok [(.fz,LO),(.fz,NA)])=.ok .fz (.str sh))(hd:aP 2 ((WT TT k).Φ "Least.holds") (.ok [(.fz,LO),(.fz,NA)])=.ok .fz (.bl true))(ws:aP 1 ((WT TT k).Φ "_law_shown") (.ok [(.fz,NA)])=.ok .fz (.str sh)):evB (WT TT k) f8 [some (false,LO),some (false,PP'),some (false,.lst A),some (false,.lst B),none,none,none]=.rt .fz (.bl true):=by
 have t1:eL (.ok [(.fz,.str sh),(.fz,.bl true)])=.ok .fz (.tup [.str sh,.bl true]):=rfl;have i0:op2 ixD (.ok .fz (.tup [.str sh,.bl true])) (.ok .fz (.int 0))=.ok .fz (.str sh):=pR (i:=0) rfl;have i1:op2 ixD (.ok .fz (.tup [.str sh,.bl true])) (.ok .fz (.int 1))=.ok .fz (.bl true):=pR (i:=1) rfl;have s1:dH [(.fz,.str sh),(.fz,.ty "str")]=some (.fz,.bl true):=rfl;have s2:dH [(.fz,.bl true),(.fz,.ty "bool")]=some (.fz,.bl true):=rfl;have eq:=eq_sb (x:=sh) (m:=.fz) (m':=.fz);have e0:f8=f8.take 4++f8.drop 4:=rfl;rw[e0,gY];have h1:evB (WT TT k) (f8.take 4) [some (false,LO),some (false,PP'),some (false,.lst A),some (false,.lst B),none,none,none]=.nx [some (false,LO),some (false,PP'),some (false,.lst A),some (false,.lst B),some (false,NA),some (false,NB),none]:=by simp[f8,n1,n2,ct,ls,n3,pl,lk1,jn,n4,tm,lk2,aPX,aPZ]
 rw[h1,aK.thn_nx];generalize D.tup [.str sh,.bl true]=TU at *;simp[f8,sw,hd,ws,t1,i0,i1,s1,s2,Ty.id,eq,aP2,aBB]
theorem met(k:Nat){P:List Str}(hP:cV P)(hn:∀ x∈P,Nm x){A B:List Nat}(ha:Fm P A)(hb:Fm P B)(l1:A.length<=16)(l2:B.length<=4)(hab:A.length * B.length<64):(WT TT (k+5)).Φ "_law_met" [LO,lx P,.lst (iN A),.lst (iN B)]=.ok .fz (.bl true):=by
 rw[aPM];refine bH rfl ?_;show evB _ f8 [some (false,LO),some (false,lx P),some (false,.lst (iN A)),some (false,.lst (iN B)),none,none,none]=_;have zl:sizeLine=16777216:=aS9;have Ga:=gB hP ha;have Gb:=gB hP hb;have sa:(cZ P A).length<=A.length:=pU;have sb:(cZ P B).length<=B.length:=pU;have Lp:=hV (uN ha.bel hb.bel);have Lt:=hV (uO ha.bel hb.bel);have lp:(a9 (A++B)).length<=20:=by have:=mS (A++B);rw[aTY] at this;omega
 have lt:(a9 (bT A B)).length<64:=by have:=mS (bT A B);rw[mR] at this;omega
 have Gp:=gB hP Lp;have Gt:=gB hP Lt;have pl:=zY (plus k hP Ga Gb (by omega))
 rw[aRR hP ha hb] at pl;have tm:=zY (times (k+1) hP Ga Gb (by omega) (by omega) (aXW (aB8 _) (by rw[aRT];exact aXW (Nat.mul_le_mul sa sb) hab)))
 rw[aRS hP ha hb] at tm;have ct:=sS (m:=.fz) (n:=.fz) (x:=iN A) (y:=iN B) (by rw[aTZ,aTZ];omega)
 rw[show iN A++iN B=iN (A++B) from aYO.symm] at ct
 refine m_run (k+4) (L:=LO) (dU (pT (k+2) hP ha (by omega))) (dU (pT (k+2) hP hb (by omega))) ct (eW (mQ (k+3) (L:=A++B) (by rw[aTY];omega))) (dU (pT (k+2) hP Lp (by omega))) pl
  (aCV (k+3) hP Gp (by have:=pU (P:=P) (M:=a9 (A++B));omega)) (jL (aC4 (k+2) (A:=A) (B:=B) (by omega) (by omega) (by omega))) (dU (pT (k+2) hP Lt lt)) tm
  (aCV (k+3) hP Gt (by have:=pU (P:=P) (M:=a9 (bT A B));omega)) (dU (shown (k+2) hP hn Ga.toFam (by omega))) (dU (holds k hP hn Ga (by omega))) (f7 (aRL (k+3) hP hn Ga.toFam (by omega)))
def cF:List Nat:=(Str.ofString "A-_ .+*~").cps.toList
theorem aRU:cF.length=8:=by decide +kernel
theorem aRV:∀ c∈cF,sgn c=false:=by decide +kernel
def c8(p q r s z:Str):List D :=
 [tn [[p],[p,q]],tn [[],[r]],tn [[q],[p]],tn [[q,p]],tn [[p,p]],tn [[p],[p]],tn [[z]],.non,.lst [aG [p]],.tup [.lst [.str p]],.tup [.str p],.bl true,.tup [.tup [.str p,.int 3]],tn [[p,q],[q]],tn [[p,q,r],[p,s],[q,r]]]
theorem up1{a:D}:eL (.ok [(.fz,a)])=.ok .fz (.tup [a]):=rfl
theorem up2{a b:D}:eL (.ok [(.fz,a),(.fz,b)])=.ok .fz (.tup [a,b]):=rfl
theorem up3{a b c:D}:eL (.ok [(.fz,a),(.fz,b),(.fz,c)])=.ok .fz (.tup [a,b,c]):=rfl
theorem up0:eL (.ok [])=.ok .fz (.tup []):=rfl
theorem ls1{a:D}:e6 (.ok [(.fz,a)])=.ok .fr (.lst [a]):=rfl
theorem ls8{a b c d e f g h:D}:e6 (.ok [(.fz,a),(.fz,b),(.fz,c),(.fz,d),(.fz,e),(.fz,f),(.fz,g),(.fz,h)])=.ok .fr (.lst [a,b,c,d,e,f,g,h]):=rfl
theorem ls7{a b c d e f g:D}:e6 (.ok [(.fz,a),(.fz,b),(.fz,c),(.fz,d),(.fz,e),(.fz,f),(.fz,g)])=.ok .fr (.lst [a,b,c,d,e,f,g]):=rfl
def eX(r:Str)(x:Nat):Str:=r++⟨#[x]⟩ ++ "a"
theorem aRW(k:Nat){p q r s:Str}(hr:r.length<=100)(c:Int):∃ x∈cF,∃ d∈c8 p q r s (eX r x),(WT TT (k+2)).Φ "_law_odd" [lx [p,q,r,s],.int c]=.ok .fz d:=by
 have m31:=Mx k (c:=c) (p:=31) (by decide) (by decide)
 have m30:=Mx k (c:=c) (p:=30) (by decide) (by decide)
 have a0:=aYK (mx c 31) (show (8:Int)≠0 by decide)
 have a1:=aYL (mx c 31) (show (0:Int)<8 by decide)
 have b0:=aYK (mx c 30) (show (15:Int)≠0 by decide)
 have b1:=aYL (mx c 30) (show (0:Int)<15 by decide)
 obtain ⟨i,hi⟩:=aYQ a0;obtain ⟨j,hj⟩:=aYQ b0;have hi8:i<cF.length:=by rw[aRU];omega
 have hx:op2 ixD (.ok .fz (.str "A-_ .+*~")) (.ok .fz (.int (mx c 31 % 8)))=.ok .fz (.str ⟨#[cF[i]]⟩):=by rw[hi];exact uA (k6 (aU7 hi8))
 have s1:r.length+(⟨#[cF[i]]⟩:Str).length<=2000:=by have:(⟨#[cF[i]]⟩:Str).length=1:=rfl;omega
 have ad1:=pS (x:=r) (y:=⟨#[cF[i]]⟩) (m:=.fz) (m':=.fz) s1;have ad2:=pS (x:=r++⟨#[cF[i]]⟩) (y := "a") (m:=.fz) (m':=.fz) (by rw[aYS];have:(⟨#[cF[i]]⟩:Str).length=1:=rfl;have:(("a" : Str).length:Nat)=1:=rfl;omega)
 have ez:r++⟨#[cF[i]]⟩ ++ "a" = eX r cF[i]:=rfl;rw[ez] at ad2;have hj15:j<(c8 p q r s (eX r cF[i])).length:=by show j<15;omega
 refine ⟨cF[i],aU8 hi8,(c8 p q r s (eX r cF[i]))[j],aU8 hj15,?_⟩;rw[aPL];refine bH rfl ?_;show evB _ eF [some (false,lx [p,q,r,s]),some (false,.int c),none,none,none,none,none]=_;have p0:op2 ixD (.ok .fz (lx [p,q,r,s])) (.ok .fz (.int 0))=.ok .fz (.str p):=hG (i:=0) rfl;have p1:op2 ixD (.ok .fz (lx [p,q,r,s])) (.ok .fz (.int 1))=.ok .fz (.str q):=hG (i:=1) rfl;have p2:op2 ixD (.ok .fz (lx [p,q,r,s])) (.ok .fz (.int 2))=.ok .fz (.str r):=hG (i:=2) rfl;have p3:op2 ixD (.ok .fz (lx [p,q,r,s])) (.ok .fz (.int 3))=.ok .fz (.str s):=hG (i:=3) rfl;have fin:op2 ixD (.ok .fz (.lst (c8 p q r s (eX r cF[i])))) (.ok .fz (.int (mx c 30 % 15)))=.ok .fz (c8 p q r s (eX r cF[i]))[j]:=by rw[hj];exact hG (aU7 hj15)
 generalize (c8 p q r s (eX r cF[i]))[j]=RES at *;generalize eX r cF[i]=z at *;generalize cF[i]=x at *;generalize mx c 31=M31 at *;generalize mx c 30=M30 at *;have e1:evB (WT TT (k+1)) (eF.take 4) [some (false,lx [p,q,r,s]),some (false,.int c),none,none,none,none,none]=.nx [some (false,lx [p,q,r,s]),some (false,.int c),some (false,.str p),some (false,.str q),some (false,.str r),some (false,.str z),none]:=by generalize lx [p,q,r,s]=PP' at *;simp[eF,p0,p1,p2,m31,hx,ad1,ad2]
 have e2:∀ S:D,evB (WT TT (k+1)) ((eF.drop 4).take 1) [some (false,S),some (false,.int c),some (false,.str p),some (false,.str q),some (false,.str r),some (false,.str z),none]=.nx [some (false,S),some (false,.int c),some (false,.str p),some (false,.str q),some (false,.str r),some (false,.str z),some (false,.lst ((c8 p q r s z).take 8))]:=λS=>by have:(c8 p q r s z).take 8=[.tup [.tup [.str p],.tup [.str p,.str q]],.tup [.tup [],.tup [.str r]],.tup [.tup [.str q],.tup [.str p]],.tup [.tup [.str q,.str p]],.tup [.tup [.str p,.str p]],.tup [.tup [.str p],.tup [.str p]],.tup [.tup [.str z]],.non]:=rfl;rw[this];simp[eF,up0,up1,up2,ls8]
 have e3:evB (WT TT (k+1)) (eF.drop 5) [some (false,lx [p,q,r,s]),some (false,.int c),some (false,.str p),some (false,.str q),some (false,.str r),some (false,.str z),some (false,.lst ((c8 p q r s z).take 8))]=.rt .fz RES:=by
  have cat:op2 (bM .Add) (.ok .fz (.lst ((c8 p q r s z).take 8))) (.ok .fr (.lst ((c8 p q r s z).drop 8)))=.ok .fr (.lst (c8 p q r s z)):=by
   have:=sS (m:=.fz) (n:=.fr) (x:=(c8 p q r s z).take 8) (y:=(c8 p q r s z).drop 8) (by have:sizeLine=16777216:=aS9;show 8+7<=sizeLine;omega)
   rw[aX4] at this;exact this
  have:(c8 p q r s z).drop 8=[.lst [.tup [.str p]],.tup [.lst [.str p]],.tup [.str p],.bl true,.tup [.tup [.str p,.int 3]],.tup [.tup [.str p,.str q],.tup [.str q]],.tup [.tup [.str p,.str q,.str r],.tup [.str p,.str s],.tup [.str q,.str r]]]:=rfl;rw[this] at cat;generalize c8 p q r s z=OD at *;generalize OD.take 8=O8 at *;generalize lx [p,q,r,s]=PP' at *;simp[eF,up1,up2,up3,ls1,ls7,p3,cat,m30,fin]
 have ee:eF=eF.take 4++((eF.drop 4).take 1++eF.drop 5):=rfl;rw[ee,gY,e1,aK.thn_nx,gY,e2,aK.thn_nx,e3]
theorem ris2{x y:Str}:ris [x,y]=lts x y:=by show ([0]:List Nat).all (λj=>lts ([x,y].getD j "") ([x,y].getD (j+1) ""))=_;simp
theorem aRX(k:Nat){r:Str}(h:Nm r){x:Nat}(hx:x∈cF):(WT TT (k+2)).Φ "is_name" [.str (eX r x)]=.ok .fz (.bl false):=by
 obtain ⟨c,l,rfl,hc,hl,ha⟩:=h;have e:eX ⟨(c::l).toArray⟩ x=⟨(c::(l++[x,97])).toArray⟩:=by have e1:=uE (c::l) [x];have e2:=uE ((c::l)++[x]) [97];show (⟨(c::l).toArray⟩:Str)++⟨[x].toArray⟩++⟨[97].toArray⟩=_;rw[e1,e2];simp
 rw[e,aCL k hc (by simp;omega)]
 have:(c::(l++[x,97])).all sgn=false:=by rw[List.all_eq_false];exact ⟨x,by simp,by rw[aRV x hx];decide⟩
 rw[this]
section
variable {p q r s:Str}(hP:cV [p,q,r,s])(hn:∀ x∈[p,q,r,s],Nm x)
include hP
theorem lt_pq:lts p q=true/\lts p r=true/\lts p s=true/\lts q r=true:=by have h:=hP.str;unfold bR at h;simp only[aXR,aSL,aXG,aWD] at h;exact ⟨h.1 q (.inl rfl),h.1 r (.inr (.inl rfl)),h.1 s (.inr (.inr rfl)),h.2.1 r (.inl rfl)⟩
include hn
theorem kU(k:Nat){NS:List (List Str)}(h1:∀ A∈NS,bR A)(h2:∀ A∈NS,∀ x∈A,x∈[p,q,r,s])(hl:NS.length<64)(no:¬ dP [p,q,r,s] NS):(WT TT (k+4)).Φ "Least.holds" [LO,tn NS]=.ok .fz (.bl false):=by have F:Fam [p,q,r,s] NS:=⟨h1,h2⟩;rw[aCU k hP hn F hl,aR6];intro e;apply no;have:=tZ F;rw[<- e] at this;exact this
theorem pV(k:Nat){d:D}(h:(WT TT (k+3)).Φ "is_name_set" [d]=.ok .fz (.bl false)):(WT TT (k+4)).Φ "Least.holds" [LO,.tup [d]]=.ok .fz (.bl false):=by
 have:=aCT k (ds:=[d]) (by simp) (v:=λ_=>false) (λe he=>by rw[aVZ.mp he];exact h) (b:=false) (λz=>by simp at z)
 exact this
theorem aRY(k:Nat){x:Nat}(hx:x∈cF){d:D}(hd:d∈c8 p q r s (eX r x)):(WT TT (k+4)).Φ "Least.holds" [LO,d]=.ok .fz (.bl false):=by
 obtain ⟨pq,pr,ps,qr⟩:=lt_pq hP;have np:=hn p (by simp)
 have nq:=hn q (by simp)
 have nr:=hn r (by simp)
 have asy:∀ {a b:Str},lts a b=true->lts b a=false:=λ{a b} h=>by
  cases e:lts b a with
  | false=>rfl
  | true=>have:=kA h e;rw[fV] at this;cases this
 have s1:∀ a:Str,bR [a]:=λa=>aXS _ _;have s2:∀ {a b:Str},lts a b=true->bR [a,b]:=λ{a b} h=>by unfold bR;simp[h]
 have s0:bR []:=List.Pairwise.nil;have nst:∀ {z:Str} {A:List Str},(WT TT (k+3)).Φ "is_name_set" [aG A]=.ok .fz (.bl false)->(WT TT (k+4)).Φ "Least.holds" [LO,tn [A]]=.ok .fz (.bl false):=λ{z A} h=>pV hP hn k h;simp only[c8,aSL,aXG,aWD] at hd;rcases hd with rfl | rfl | rfl | rfl | rfl | rfl | rfl | rfl | rfl | rfl | rfl | rfl | rfl | rfl | rfl
 . refine kU hP hn k ?_ ?_ (by simp) λG=>?_
   . simp[s1,s2 pq]
   . simp
   . have:=G.anti [p] (by simp) [p,q] (by simp) (by simp)
     simp at this
 . refine kU hP hn k ?_ ?_ (by simp) λG=>?_
   . simp[s1,s0]
   . simp
   . have:=G.anti [] (by simp) [r] (by simp) (by simp)
     simp at this
 . refine kU hP hn k ?_ ?_ (by simp) λG=>?_
   . simp[s1]
   . simp
   . have h:=G.srt;unfold eR at h;simp only[aXR,aSL,aXG,aWD] at h;have h:=h.1 [p] rfl;unfold ltT at h;split at h
     . rename_i e;subst e;rw[fV] at pq;cases pq
     . rw[asy pq] at h;cases h
 . refine nst (z:=p) ?_;rw[uH k (by simp[np,nq]) (by simp),ris2,asy pq]
 . refine nst (z:=p) ?_;rw[uH k (by simp[np]) (by simp),ris2,fV]
 . refine kU hP hn k ?_ ?_ (by simp) λG=>?_
   . simp[s1]
   . simp
   . have h:=G.srt;unfold eR at h;simp only[aXR,aSL,aXG,aWD] at h;have h:=h.1 [p] rfl;rw[kC] at h;cases h
 . refine nst (z:=p) ?_;have:=uG k (ds:=[.str (eX r x)]) (by simp) (v:=λ_=>false) (λe he=>by rw[aVZ.mp he];exact aRX k nr hx) (b:=false) (λz=>by simp at z)
   exact this
 . exact uL (k+3) rfl
 . exact uL (k+3) rfl
 . exact pV hP hn k (aCN (k+2) rfl)
 . exact pV hP hn k (aCN (k+2) rfl)
 . exact uL (k+3) rfl
 . refine pV hP hn k ?_
   have:=uG k (ds:=[.str p,.int 3]) (by simp) (v:=λd=>match d with | .str _=>true | _=>false) (λe he=>by
    simp only[aSL,aXG,aWD] at he;rcases he with rfl | rfl
    . exact aCM k np
    . exact aRC k rfl) (b:=false) (λz=>by simp at z)
   exact this
 . refine kU hP hn k ?_ ?_ (by simp) λG=>?_
   . simp[s1,s2 pq]
   . simp
   . have:=G.anti [q] (by simp) [p,q] (by simp) (by simp)
     simp at this
 . refine kU hP hn k ?_ ?_ (by simp) λG=>?_
   . have s3:bR [p,q,r]:=by unfold bR;simp[pq,pr,qr]
     simp[s2 ps,s2 qr,s3]
   . simp
   . have:=G.anti [q,r] (by simp) [p,q,r] (by simp) (by simp)
     have:=congrArg List.length this;simp at this
end
theorem aRZ(k:Nat):(WT TT (k+1)).Φ "Least.nought" [LO]=.ok .fz (tn []):=by rw[aPN];refine bH rfl ?_;show evB _ pF [some (false,LO)]=_;have:=up0;generalize LO=L;simp[pF,up0]
theorem one(k:Nat):(WT TT (k+1)).Φ "Least.one" [LO]=.ok .fz (tn [[]]):=by rw[aPO];refine bH rfl ?_;show evB _ pG [some (false,LO)]=.rt .fz (.tup [.tup []]);generalize LO=L;simp[pG,up0,up1]
theorem aR0{ds:List D}{i:Nat}:fB ds none (some (i:Int))=ds.take i:=by
 unfold fB;rw[HT.aE7,HT.aE8,aVV,Nat.sub_zero];by_cases h:i<=ds.length
 . rw[Nat.min_eq_left h]
 . rw[Nat.min_eq_right (by omega),aWI,aVW (by omega)]
def c0(ns:List Int):Int:=(ns.take 1).sum
theorem aR1(W:WD)(ns:List Int)(ρ:Rho){m:Md}:dB (aZ.or' fW fE) (bV (slP (.ok m (.lst (ns.map D.int))) none (some (evE W (.int 1))) ρ) (.ok []))=.ok .fz (.int (c0 ns)):=by
 have e1:slP (.ok m (.lst (ns.map D.int))) none (some (evE W (.int 1))) ρ=.ok .fr (.lst ((ns.take 1).map D.int)):=by show Res.ok Md.fr (.lst (fB (ns.map D.int) none (some ((1:Nat):Int))))=_;rw[aR0,List.map_take]
 rw[e1];show dB _ (.ok [(.fr,.lst ((ns.take 1).map D.int))])=_;have:=aBH (m:=.fr) (ns.take 1);unfold c0;generalize (ns.take 1).map D.int=Z at *;simp[this]
theorem aR2(k:Nat){S PP' O:D}{M B C1 AB:List D}{c w n:Int}{y z u:Option (Bool×D)}(fw:aP 1 ((WT TT k).Φ "_law_few") (.ok [(.fz,.int c)])=.ok .fr (.lst B))(mt:aP 4 ((WT TT k).Φ "_law_met") (.ok [(.fz,LO),(.fz,PP'),(.fz,.lst M),(.fz,.lst B)])=.ok .fz (.bl true))(m9:aP 2 ((WT TT k).Φ "_law_mix") (.ok [(.fz,.int c),(.fz,.int 9)])=.ok .fz (.int w))(ln:dG [(.fz,.lst M)]=some (.fz,.int n))(h:((0<w % 3\/n=0)/\op2 (bM .Add) (.ok .fz (.lst M)) (.ok .fz (.lst B))=.ok .fr (.lst AB)/\aP 1 ((WT TT k).Φ "_law_least") (.ok [(.fz,.lst AB)])=.ok .fr (.lst C1))\/(¬ 0<w % 3/\n≠0/\aP 2 ((WT TT k).Φ "_law_joined") (.ok [(.fz,.lst M),(.fz,.lst B)])=.ok .fr (.lst C1)))(od:aP 2 ((WT TT k).Φ "_law_odd") (.ok [(.fz,PP'),(.fz,.int c)])=.ok .fz O)(ho:aP 2 ((WT TT k).Φ "Least.holds") (.ok [(.fz,LO),(.fz,O)])=.ok .fz (.bl false)):evB (WT TT k) dO [some (false,S),some (false,LO),some (false,.lst M),some (false,PP'),some (false,.int c),y,z,u]=.nx [some (false,S),some (false,LO),some (false,.lst C1),some (false,PP'),some (false,.int c),some (false,.lst B),some (false,.bl false),u]:=by
 have s2:dH [(.fz,.bl false),(.fz,.ty "bool")]=some (.fz,.bl true):=rfl;have e0:dO=dO.take 3++dO.drop 3:=rfl;have h1:evB (WT TT k) (dO.take 3) [some (false,S),some (false,LO),some (false,.lst M),some (false,PP'),some (false,.int c),y,z,u]=.nx [some (false,S),some (false,LO),some (false,.lst C1),some (false,PP'),some (false,.int c),some (false,.lst B),z,u]:=by
  generalize LO=L at *;rcases h with ⟨hc,ct,ls⟩ | ⟨hw,hn,jn⟩
  . rcases hc with hc | hc
    . simp[dO,fw,mt,m9,ln,hc,ct,ls]
    . subst hc;by_cases hw:0<w % 3
      . simp[dO,fw,mt,m9,ln,hw,ct,ls]
      . simp[dO,fw,mt,m9,ln,hw,ct,ls]
  . have hn':(n==0)=false:=by simpa using hn
    simp[dO,fw,mt,m9,ln,hw,hn',jn]
 rw[e0,gY,h1,aK.thn_nx];simp[dO,od,ho,s2,Ty.id,aBB]
theorem aR3(k:Nat){P:List Str}(hP:cV P)(hn:∀ x∈P,Nm x)(h4:P.length=4){S:D}{ns:List Int}:∃ x y z M,bI (aI (.nm 4)) (evB (WT TT (k+6)) dO) (ns.map D.int) [some (false,S),some (false,LO),some (false,.lst []),some (false,lx P),none,none,none,none]=.nx [some (false,S),some (false,LO),M,some (false,lx P),x,y,z,none]:=by
 have zl:sizeLine=16777216:=aS9;obtain ⟨p,q,r,s,rfl⟩:∃ p q r s,P=[p,q,r,s]:=by
  match P,h4 with
  | [p,q,r,s],_=>exact ⟨p,q,r,s,rfl⟩
 have e16:2 ^ ([p,q,r,s]:List Str).length=16:=rfl;have key:=iS (enc:=D.int) (k:=aI (.nm 4)) (body:=evB (WT TT (k+6)) dO) (λ_ ρ=>∃ x y z M,Fm [p,q,r,s] M/\ρ=[some (false,S),some (false,LO),some (false,.lst (iN M)),some (false,lx [p,q,r,s]),x,y,z,none]) ns (λpre c post e ρ hI=>by
  obtain ⟨x,y,z,M,hM,rfl⟩:=hI;have lM:=aRP hM;rw[e16] at lM;have hB:Fm [p,q,r,s] (a9 (cI c)):=hV (aRQ rfl c);have lB:=mS (cI c);have lf:=aC5 c;have hab:M.length * (a9 (cI c)).length<64:=aXW (Nat.mul_le_mul lM (aSI lB lf)) (by decide)
  have fw:=eW (few (k+4) c);have mt:=zZ (met (k+1) hP hn hM hB lM (by omega) hab)
  have m9:=Mx (k+5) (c:=c) (p:=9) (by decide) (by decide)
  have ln:dG [(.fz,.lst (iN M))]=some (.fz,.int (M.length:Int)):=by show some (Md.fz,D.int ((iN M).length:Nat))=_;rw[aTZ]
  obtain ⟨o,ho,d,hd,od⟩:=aRW (k+4) (p:=p) (q:=q) (r:=r) (s:=s) (by have:=(hn r (by simp)).len;omega) c
  have oh:=dU (aRY hP hn (k+2) ho hd);have fin:∃ C1,Fm [p,q,r,s] C1/\∃ AB,((0<mx c 9 % 3\/(M.length:Int)=0)/\op2 (bM .Add) (.ok .fz (.lst (iN M))) (.ok .fz (.lst (iN (a9 (cI c)))))=.ok .fr (.lst AB)/\aP 1 ((WT TT (k+6)).Φ "_law_least") (.ok [(.fz,.lst AB)])=.ok .fr (.lst (iN C1)))\/(¬ 0<mx c 9 % 3/\(M.length:Int)≠0/\aP 2 ((WT TT (k+6)).Φ "_law_joined") (.ok [(.fz,.lst (iN M)),(.fz,.lst (iN (a9 (cI c))))])=.ok .fr (.lst (iN C1))):=by
   by_cases hc:0<mx c 9 % 3\/(M.length:Int)=0
   . refine ⟨a9 (M++a9 (cI c)),hV (uN hM.bel hB.bel),iN (M++a9 (cI c)),.inl ⟨hc,?_,eW (mQ (k+5) (by rw[aTY];omega))⟩⟩
     have ct:=sS (m:=.fz) (n:=.fz) (x:=iN M) (y:=iN (a9 (cI c))) (by rw[aTZ,aTZ];omega)
     rw[show iN M++iN (a9 (cI c))=iN (M++a9 (cI c)) from aYO.symm] at ct
     exact ct
   . rw[not_or] at hc;exact ⟨a9 (bT M (a9 (cI c))),hV (uO hM.bel hB.bel),[],.inr ⟨hc.1,hc.2,jL (aC4 (k+4) (by omega) (by omega) (by omega))⟩⟩
  obtain ⟨C1,hC,AB,hh⟩:=fin
  refine ⟨[some (false,S),some (false,LO),some (false,.lst (iN M)),some (false,lx [p,q,r,s]),some (false,.int c),y,z,none],_,by simp,aR2 (k+6) fw mt m9 ln hh (dU od) oh,_,_,_,C1,hC,rfl⟩) ns [] [some (false,S),some (false,LO),some (false,.lst []),some (false,lx [p,q,r,s]),none,none,none,none] rfl ⟨none,none,none,[],⟨aWU,(by intro f hf;cases hf),(by intro f hf;cases hf)⟩,rfl⟩
 obtain ⟨ρ',e,x,y,z,M,hM,rfl⟩:=key;exact ⟨x,y,z,_,e⟩
theorem l_one(k:Nat){S:List D}{h:Int}{P:List D}(no:aP 1 ((WT TT k).Φ "Least.nought") (.ok [(.fz,LO)])=.ok .fz (tn []))(on:aP 1 ((WT TT k).Φ "Least.one") (.ok [(.fz,LO)])=.ok .fz (tn [[]]))(k0:aP 2 ((WT TT k).Φ "_law_like") (.ok [(.fz,tn []),(.fz,tn [])])=.ok .fz (.bl true))(k1:aP 2 ((WT TT k).Φ "_law_like") (.ok [(.fz,tn [[]]),(.fz,tn [[]])])=.ok .fz (.bl true))(sc:∀ ρ,dB (aZ.or' fW fE) (bV (slP (.ok .fz (.lst S)) none (some (evE (WT TT k) (.int 1))) ρ) (.ok []))=.ok .fz (.int h))(nm:aP 2 ((WT TT k).Φ "_law_names") (.ok [(.fz,.int h),(.fz,.int 4)])=.ok .fr (.lst P)):evB (WT TT k) (cM.take 5) [some (false,.lst S),none,none,none,none,none,none,none]=.nx [some (false,.lst S),some (false,LO),some (false,.lst []),some (false,.lst P),none,none,none,none]:=by
 have t0:eL (.ok [])=.ok .fz (tn []):=rfl;have t1:eL (.ok [(.fz,tn [])])=.ok .fz (tn [[]]):=rfl;have el:e6 (.ok [])=.ok .fr (.lst []):=rfl;have fz:bB (.ok .fr LO)=.ok .fz LO:=rfl;have e0:cM.take 5=cM.take 2++(cM.take 5).drop 2:=rfl;have h1:evB (WT TT k) (cM.take 2) [some (false,.lst S),none,none,none,none,none,none,none]=.nx [some (false,.lst S),some (false,LO),none,none,none,none,none,none]:=by simp[cM,fz,aP3,aP4]
 rw[e0,gY,h1,aK.thn_nx];have mz0:=aPT (Φ:=(WT TT k).Φ) (as:=.ok []);have mz1:=aPV (Φ:=(WT TT k).Φ) (as:=.ok []);rw[v6] at mz0 mz1;have mz0:dZ TT.cl (WT TT k).Φ "nought" (.ok .fz LO) (.ok [])=.ok .fz (tn []):=mz0.trans no;have mz1:dZ TT.cl (WT TT k).Φ "one" (.ok .fz LO) (.ok [])=.ok .fz (tn [[]]):=mz1.trans on;generalize tn [[]]=T1 at *;generalize tn []=T0 at *;generalize LO=L at *;simp[cM,mz0,mz1,t0,t1,k0,k1,el,sc,nm]
theorem l_two(k:Nat){S:List D}{P:D}{M x y z:Option (Bool×D)}(ef:bI (aI (.nm 4)) (evB (WT TT k) dO) S [some (false,.lst S),some (false,LO),some (false,.lst []),some (false,P),none,none,none,none]=.nx [some (false,.lst S),some (false,LO),M,some (false,P),x,y,z,none]):evB (WT TT k) ((cM.drop 5).take 1) [some (false,.lst S),some (false,LO),some (false,.lst []),some (false,P),none,none,none,none]=.nx [some (false,.lst S),some (false,LO),M,some (false,P),x,y,z,none]:=by have er:∀ ρ,eO (.ok .fz (.lst S)) ρ (aI (.nm 4)) (evB (WT TT k) dO)=bI (aI (.nm 4)) (evB (WT TT k) dO) S ρ:=λρ=>rfl;generalize LO=L at *;simp[cM,er,ef]
theorem aR4(k:Nat){S:D}{n:Int}{M P x y z:Option (Bool×D)}(ln:dG [(.fz,S)]=some (.fz,.int n))(hn:n<2):evB (WT TT k) (cM.drop 6) [some (false,S),some (false,LO),M,P,x,y,z,none]=.rt .fz (.bl true):=by generalize LO=L at *;simp[cM,ln,hn]
theorem aR5(k:Nat){S:D}{n a b:Int}{M P x y z:Option (Bool×D)}{Q A B:List D}(ln:dG [(.fz,S)]=some (.fz,.int n))(hn:¬ n<2)(i0:op2 ixD (.ok .fz S) (.ok .fz (.int 0))=.ok .fz (.int a))(i1:op2 ixD (.ok .fz S) (.ok .fz (.int 1))=.ok .fz (.int b))(nm:aP 2 ((WT TT k).Φ "_law_names") (.ok [(.fz,.int b),(.fz,.int 12)])=.ok .fr (.lst Q))(sa:aP 1 ((WT TT k).Φ "_law_some") (.ok [(.fz,.int a)])=.ok .fr (.lst A))(sb:aP 1 ((WT TT k).Φ "_law_some") (.ok [(.fz,.int b)])=.ok .fr (.lst B))(mt:aP 4 ((WT TT k).Φ "_law_met") (.ok [(.fz,LO),(.fz,.lst Q),(.fz,.lst A),(.fz,.lst B)])=.ok .fz (.bl true)):evB (WT TT k) (cM.drop 6) [some (false,S),some (false,LO),M,P,x,y,z,none]=.rt .fz (.bl true):=by generalize LO=L at *;simp[cM,ln,hn,i0,i1,nm,sa,sb,mt]
def kk:Nat:=10
theorem main(ns:List Int)(hn:ns.length<=63):(WT TT (kk+1)).Φ ("law" : Str) (nR ns)=.ok .fz (.bl true):=by
 show (WT TT (10+1)).Φ ("law" : Str) [.lst (ns.map .int)]=_;rw[u_law];refine bH rfl ?_;show evB (WT TT 10) cM [some (false,.lst (ns.map .int)),none,none,none,none,none,none,none]=_;have ee:cM=cM.take 5++((cM.drop 5).take 1++cM.drop 6):=rfl;obtain ⟨⟨p4,l4⟩,_,_,n4⟩:=uD (c0 ns) (n:=4) (by decide)
 have nm4:=jL (names 8 (c0 ns) (n:=4) (by decide))
 have nP:∀ x∈uni (c7 (c0 ns) 4),Nm x:=λx hx=>n4 x (dS.mp hx);obtain ⟨x,y,z,M,lp⟩:=aR3 4 p4 nP l4 (S:=.lst (ns.map .int)) (ns:=ns);have like0:=dU (uM 9 (NS:=[]) (by simp) (by simp))
 have like1:=dU (uM 9 (NS:=[[]]) (by simp) (by simp))
 rw[ee,gY,l_one 10 (f7 (aRZ 9)) (f7 (one 9)) like0 like1 (λρ=>aR1 (WT TT 10) ns ρ) nm4,aK.thn_nx,gY,l_two 10 lp,aK.thn_nx];have ln:dG [(.fz,.lst (ns.map D.int))]=some (.fz,.int (ns.length:Int)):=by show some (Md.fz,D.int ((ns.map D.int).length:Nat))=_;rw[aTZ]
 by_cases h2:ns.length<2
 . exact aR4 10 ln (by omega)
 . have h0:0<ns.length:=by omega
   have h1:1<ns.length:=by omega
   have i0:op2 ixD (.ok .fz (.lst (ns.map D.int))) (.ok .fz (.int 0))=.ok .fz (.int ns[0]):=hG (i:=0) (by rw[aTW,aU7 h0];rfl)
   have i1:op2 ixD (.ok .fz (.lst (ns.map D.int))) (.ok .fz (.int 1))=.ok .fz (.int ns[1]):=hG (i:=1) (by rw[aTW,aU7 h1];rfl)
   obtain ⟨⟨p12,l12⟩,_,_,n12⟩:=uD ns[1] (n:=12) (by decide)
   have nm12:=jL (names 8 ns[1] (n:=12) (by decide))
   have nP12:∀ x∈uni (c7 ns[1] 12),Nm x:=λx hx=>n12 x (dS.mp hx);have fa:Fm (uni (c7 ns[1] 12)) (a9 (eA ns[0])):=hV (aC6 l12 ns[0]);have fb:Fm (uni (c7 ns[1] 12)) (a9 (eA ns[1])):=hV (aC6 l12 ns[1]);have la:=mS (eA ns[0]);have lb:=mS (eA ns[1]);have s4:∀ c,(eA c).length=4:=λc=>by unfold eA;simp
   rw[s4] at la lb;exact aR5 10 ln (by omega) i0 i1 nm12 (eW (aC7 8 ns[0])) (eW (aC7 8 ns[1])) (zZ (met 5 p12 nP12 fa fb (by omega) lb (aXW (Nat.mul_le_mul la lb) (by decide))))
end K07
namespace K07
open PySem PySem.W Tp
theorem tw:Prod.fst (true,PySem.Challenge.pw_whencewise_k07_least)=true:=by k_qdec
def as:List Addr:=[2,3,15,18,19,20,22,23,25,26,34,36,37,39,40,41,42,43,44,45,48,55,57,58,60,61,62,63,64,67,70,71,72,75,76,77,84,86,87,89,90,91,93,94,96,97,98,100,101,103,104,105,108,109,110,113,114,115,118,119,120,121,122,125,127,128,130,131,132,134,135,137,138,139,141,142,144,145,146,148,149,151,152,153,156,157,158,161,162,163,166,167,168,170,171,173,174,175,178,179,180,183,184,185,188,189,190,193,194,195,198,199,200,203,204,205,208,209,210,213,214,215,217,218,220,221,222,224,225,227,228,229,231,232,234,235,236,238,239,241,242]
theorem pre(w:World)(os:OsState):topGo treeTable PySem.Challenge.pw_whencewise_k07_least w 11 an 12 ⟨boot_heap w.params,#[],boot_drawn,boot_toks,os⟩ (topStub PySem.Challenge.pw_whencewise_k07_least)=some ((sh w.params (sA w.params) 15 187 os).abs,⟨denote treeTable (cd PySem.Challenge.pw_whencewise_k07_least),cd PySem.Challenge.pw_whencewise_k07_least,z0,[topFrame z0]⟩):=by
 rw[Fast.te7714205836941179059,Fast.te203182992438928480,Fast.te13144403056285818395,Fast.te15667345088766844465,Fast.te14364793385576792824,Fast.te11892475500146522536]
 kernel_rfl
theorem blk(w:World)(s:Shared):segRun treeTable PySem.Challenge.pw_whencewise_k07_least w 11 an 1 1 s (blockOf PySem.Challenge.pw_whencewise_k07_least.main.body (ev PySem.Challenge.pw_whencewise_k07_least) (cd PySem.Challenge.pw_whencewise_k07_least) z0 [topFrame z0])=some (.next,s,cd PySem.Challenge.pw_whencewise_k07_least,z0):=by kernel_rfl
theorem run(w:World)(os:OsState):go treeTable PySem.Challenge.pw_whencewise_k07_least w 1000 PySem.Challenge.pw_whencewise_k07_least.main.body (sh w.params (sA w.params) 15 187 os) (cd PySem.Challenge.pw_whencewise_k07_least) z0=some (sh w.params (lay w.params PySem.Challenge.pw_whencewise_k07_least.main.body (sA w.params)) 243 496 os,cd PySem.Challenge.pw_whencewise_k07_least,⟨156,0,178,101⟩):=by
 rw[Fast.te7714205836941179059,Fast.te203182992438928480,Fast.te13144403056285818395,Fast.te5678740263434597267,Fast.te14364793385576792824,Fast.te10212481707522018265]
 kernel_rfl
theorem uP(w:World):(λos=>((staticsOk (importedModules PySem.Challenge.pw_whencewise_k07_least.main.body) (boot_heap w.params) (H1 PySem.Challenge.pw_whencewise_k07_least.main.body 243 w.params)&&namesBound PySem.Challenge.pw_whencewise_k07_least (H1 PySem.Challenge.pw_whencewise_k07_least.main.body 243 w.params)&&gensDone (S1 PySem.Challenge.pw_whencewise_k07_least.main.body 243 496 w.params os)&&laidKept (boot_heap w.params) (H1 PySem.Challenge.pw_whencewise_k07_least.main.body 243 w.params)),openSeen (vw PySem.Challenge.pw_whencewise_k07_least) (los PySem.Challenge.pw_whencewise_k07_least.main.body) (importedModules PySem.Challenge.pw_whencewise_k07_least.main.body) (xt PySem.Challenge.rw_whencewise_k07_least.row) true (S1 PySem.Challenge.pw_whencewise_k07_least.main.body 243 496 w.params os),(hk PySem.Challenge.pw_whencewise_k07_least.main.body as).obs (S1 PySem.Challenge.pw_whencewise_k07_least.main.body 243 496 w.params os)))=λ_=>(true,openGood (vw PySem.Challenge.pw_whencewise_k07_least) (los PySem.Challenge.pw_whencewise_k07_least.main.body),(hk PySem.Challenge.pw_whencewise_k07_least.main.body as).val w):=by
 rw[Fast.te14387180822208032119,Fast.te7714205836941179059,Fast.te5923862056798008813,Fast.te9407923862454927560,Fast.te15884229538025494872,Fast.te4187177175401517315,Fast.te18076920544200396443,Fast.te9318435048543301240,Fast.te17808466708180730929,Fast.te2368527892694137696]
 kernel_rfl
theorem gf(P:Params):D3.sX (KK PySem.Challenge.pw_whencewise_k07_least.main.body as P) GG TT=true:=by
 kernel_rfl
abbrev dl:DefRec:=⟨"law", L2.nM sZ,L2.jP sZ,L2.eZ sZ,⟨156,0,178,101⟩⟩
end K07
open PySem PySem.W PyProof.Rows
set_option maxRecDepth 100000 in
set_option maxHeartbeats 0 in
theorem PySem.Challenge.cw_whencewise_k07_least_holds : PySem.Challenge.rw_whencewise_k07_least.Holds := by
 w_on;o_law
 exact Tp.head (p:=PySem.Challenge.rw_whencewise_k07_least) (d:=K07.dl) (Tp.left (by kernel_rfl) K07.pre K07.blk K07.run (by kernel_rfl) (by kernel_rfl) (λ_=>by kernel_rfl) K07.uP) (by assumption) (by kernel_rfl) (by kernel_rfl) rfl rfl (by decide +kernel) ⟨rfl,rfl,rfl,rfl,rfl,by decide +kernel⟩ (by w_witness2)
  (D3.walkG (K:=Tp.KK PySem.Challenge.pw_whencewise_k07_least.main.body K07.as) (kk:=K07.kk) (e:=K07.sY) rfl rfl rfl (λw h Y=>PySem.W.kIn_of Y) K07.gf (D3.aOY (g:=K07.GG) (by decide +kernel)) rfl rfl ⟨rfl,by decide,by decide⟩ K07.main)
