import PyProof.Rows.All
import Wide.All
import OpenK.AllK
import Wide.FinOn
import Lean
import PyProof.EqAt
import PyProof.EqKinds
import PyProof.TupleCall
import PySem.Challenge.RW_whencewise_k22_products_of_reasons
set_option compiler.extract_closed false
set_option bootstrap.genMatcherCode false
set_option maxHeartbeats 0
set_option linter.all false
section
open PySem PySem.Spec PyProof.Rows
def aPK:=@decide_eq_false
def aPL:=@beq_eq_false_iff_ne
def aPM:=@Paired.length
def aPN:=@Heap.get?_push_size
def aPO:=@Heap.lt_size
def aPP:=@Nat.lt_of_lt_of_le
def aPQ:=@Nat.lt_irrefl
def aPR:=@Nat.ne_of_lt
def aPS:=@List.mem_filter
def aPT:=@List.mem_range
def aPU:=@Array.getElem?_eq_some_iff
def aPV:=@Nat.le_trans
def aPW:=@Nat.le_of_lt
def aPX:=@List.filterMap_cons
def aPY:=@List.mem_cons
def aPZ:=@List.mem_append
def aP0:=@List.mem_append_left
def aP1:=@List.getElem?_eq_some_iff
def aP2:=@List.getElem?_set_self
def aP3:=@List.getElem?_set_ne
def aP4:=@Option.some.inj
def aP5:=@wpAny_mono
def aP6:=@wpAny_truthy_bool
def aP7:=@Array.length_toList
def aP8:=@wpAny_assign_Name
def aP9:=@wpAny_pure
def aQA:=@wpAny_bind
def aQB:=@wpAny_load
def aQC:=@wpAny_pyIter_list
def aQD:=@Nat.le_refl
def aQE:=@PyProof.Rows.callWith_type1
def aQF:=@List.mem_filterMap
def aQG:=@List.mem_append_right
def aQH:=@wpAny_passesOwn
def aQI:=@sizeLine_eq
def aQJ:=@List.size_toArray
def aQK:=@Array.mem_toList_iff
def aQL:=@Bool.false_ne_true
def aQM:=@beq_iff_eq
def aQN:=@Heap.size_push
def aQO:=@Nat.lt_succ_self
def aQP:=@Nat.zero_le
def aQQ:=@Calls.spliced_cons
def aQR:=@List.append_nil
def aQS:=@List.nodup_cons
def aQT:=@List.of_mem_zip
def aQU:=@List.length_take
def aQV:=@PySem.mem_of_lookup
def aQW:=@List.getElem?_append_right
def aQX:=@List.getElem?_replicate
def aQY:=@List.getElem?_append_left
def aQZ:=@List.getElem?_map
def aQ0:=@List.mem_of_getElem?
def aQ1:=@List.length_append
def aQ2:=@List.length_map
def aQ3:=@wpAny_Call_Name_kw
def aQ4:=@concat_meets
def aQ5:=@noFill_tuple_add
def aQ6:=@F.slot_tuple_add
def aQ7:=@F.entry_tuple_add
def aQ8:=@F.args_tuple_add_2
def aQ9:=@Int.toNat_natCast
def aRA:=@if_false
def aRB:=@Prod.ext
def aRC:=@wpAny_field
def aRD:=@List.length_drop
def aRE:=@wpAny_holding
def aRF:=@wpAny_callSpecial?_slot
def aRG:=@PyProof.Rows.slot_tuple_getitem
def aRH:=@wpAny_call_entry
def aRI:=@wpAny_typeOf
def aRJ:=@Bool.and_eq_true
def aRK:=@wpAny_newObj_type
def aRL:=@Heap.get?_update_self
def aRM:=@Heap.get?_update_other
def aRN:=@List.length_set
def aRO:=@Option.getD_none
def aRP:=@Nat.lt_trans
def aRQ:=@List.map_nil
def aRR:=@List.map_cons
def aRS:=@decide_eq_true
def aRT:=@codeAny_mono
def aRU:=@List.cons.injEq
def aRV:=@List.cons_append
def aRW:=@Nat.add_assoc
def aRX:=@wpAny_specialOf
def aRY:=@Array.forIn_toList
def aRZ:=@wpAny_forIn_list
def aR0:=@Array.toList_push
def aR1:=@wpAny_rule
def aR2:=@Nat.min_le_left
def aR3:=@wpAny_isInstance
def aR4:=@Bool.not_true
def aR5:=@Bool.false_eq_true
def aR6:=@List.lookup_cons
def aR7:=@List.length_cons
def aR8:=@decide_eq_true_eq
def aR9:=@of_decide_eq_true
def aSA:=@Bool.or_eq_true
def aSB:=@Array.all_eq_true_iff_forall_mem
def aSC:=@wpAny_getItem_str_slice
def aSD:=@post_val_or_str
def aSE:=@Txt.slice_le
def aSF:=@Array.mem_of_getElem?
def aSG:=@W.kia_one
def aSH:=@List.getElem?_set
def aSI:=@Option.map_some
def aSJ:=@List.drop_eq_getElem_cons
def aSK:=@List.getElem?_eq_getElem
def aSL:=@List.drop_length
def aSM:=@List.forIn_nil
def aSN:=@List.forIn_cons
def aSO:=@LawfulMonad.pure_bind
def aSP:=@beq_self_eq_true
def aSQ:=@wpAny_standAt
def aSR:=@Nat.lt_succ_of_lt
def aSS:=@Nat.not_lt
def aST:=@Option.some.injEq
def aSU:=@Heap.SameBut.refl
def aSV:=@Nat.le_succ
def aSW:=@List.drop_zero
def aSX:=@List.take_of_length_le
def aSY:=@Nat.zero_add
def aSZ:=@List.mem_singleton
def aS0:=@List.zip_cons_cons
def aS1:=@List.length_nil
def aS2:=@or_false
def aS3:=@wpAny_setField
def aS4:=@List.take_length
def aS5:=@wpAny_storeSet_of
def aS6:=@Heap.SameBut.update
def aS7:=@wpAny_setState_of
def aS8:=@List.getElem_mem
def aS9:=@List.nodup_append
def aTA:=@List.nodup_nil
def aTB:=@plainId_quiet
def aTC:=@wpAny_of_eq
def aTD:=@codeAny_builtin
def aTE:=@Around.under_plainId
def aTF:=@wpAny_askSetting
def aTG:=@List.append_assoc
def aTH:=@List.Perm.append_left
def aTI:=@isSubtype_type
def aTJ:=@wpAny_pyIter_slot
def aTK:=@Obj.isFreed_of_fields
def aTL:=@Obj.data_mapFields
def aTM:=@Obj.cls_mapFields
def aTN:=@wpAny_attempt
def aTO:=@wpAny_fieldsOf
def aTP:=@wpAny_setEntries_of
def aTQ:=@bne_self_eq_false
def aTR:=@Array.getElem?_eq_getElem
def aTS:=@Array.getElem?_eq_none
def aTT:=@List.length_range
def aTU:=@List.getElem?_toArray
def aTV:=@List.getElem?_eq_none
def aTW:=@wpAny_ite_split
def aTX:=@Array.getElem?_toList
def aTY:=@Bool.not_eq_true'
def aTZ:=@List.all_eq_true
def aT0:=@List.pairwise_iff_getElem
def aT1:=@Array.getD_eq_getD_getElem?
def aT2:=@Nat.lt_or_ge
def aT3:=@List.getElem_of_mem
def aT4:=@SetTable.toList_insertAt
def aT5:=@List.take_append_drop
def aT6:=@List.pairwise_append
def aT7:=@List.pairwise_cons
def aT8:=@List.find?_cons
def aT9:=@List.nil_append
def aUA:=@Array.perm_iff_toList_perm
def aUB:=@PyProof.Rows.wpS_pure
def aUC:=@PyProof.Rows.wpS_bind
def aUD:=@PyProof.Rows.wpS_mono
def aUE:=@PyProof.Rows.wpS_forRange
def aUF:=@List.perm_append_comm
def aUG:=@List.pairwise_singleton
def aUH:=@Array.toList_append
def aUI:=@List.map_append
def aUJ:=@List.map_take
def aUK:=@List.map_drop
def aUL:=@List.drop_eq_nil_of_le
def aUM:=@Array.size_map
def aUN:=@PyProof.Rows.wpS_lift
def aUO:=@PyProof.Rows.wpS_get
def aUP:=@PyProof.Rows.wpS_modify
def aUQ:=@List.pairwise_reverse
def aUR:=@Nat.min_eq_left
def aUS:=@List.mem_reverse
def aUT:=@List.reverse_perm
def aUU:=@List.foldl_cons
def aUV:=@Nat.lt_of_le_of_lt
def aUW:=@Array.Perm.refl
def aUX:=@PyProof.Rows.mirror_perm
def aUY:=@of_decide_eq_false
def aUZ:=@List.Perm.refl
def aU0:=@List.pairwise_map
def aU1:=@wpAny_newList
def aU2:=@Calls.call_function_entry
def aU3:=@List.map_map
def aU4:=@wpAny_dictEntries
def aU5:=@wpAny_dictEpoch
def aU6:=@F.slot_dict_keyiterator_next
def aU7:=@F.entry_dict_keyiterator_next
def aU8:=@F.args_dict_keyiterator_next_1
def aU9:=@wpAny_typeNameOfWhole_keyiter
def aVA:=@wpAny_typeNameOf_keyiter
def aVB:=@wpAny_isOneOf_keyiter
def aVC:=@List.mem_map
def aVD:=@List.not_mem_nil
def aVE:=@List.map_congr_left
def aVF:=@Nat.pow_le_pow_right
def aVG:=@List.mem_map_of_mem
def aVH:=@List.perm_ext_iff_of_nodup
def aVI:=@bne_iff_ne
def aVJ:=@List.contains_iff_mem
def aVK:=@List.all_cons
def aVL:=@Array.eq_empty_of_size_eq_zero
def aVM:=@W.mg_of
def aVN:=@Int.add_zero
def aVO:=@Int.zero_add
def aVP:=@List.reverse_cons
def aVQ:=@List.length_reverse
def aVR:=@Int.eq_ofNat_of_zero_le
def aVS:=@List.flatMap_cons
end
abbrev aVY:=PySem.Challenge.pw_whencewise_k22_products_of_reasons
abbrev aVT:=PySem.Value
abbrev aVU:=PySem.Shared
abbrev aVV:=PySem.Around
abbrev aVW:=PySem.World
abbrev aVX:=PySem.Program
abbrev VSP := PySem.Value -> PySem.Shared -> Prop
abbrev Fg := PySem.W.Frag
abbrev LAO := List (PySem.Addr × PySem.Obj)
abbrev SOV := PySem.Str -> Option PySem.Value
def mcm {α : Type} {a b : α} {l : List α} (h : a ∈ l) : a ∈ b :: l := List.mem_cons_of_mem _ h
def mcs {α : Type} {a : α} {l : List α} : a ∈ a :: l := List.mem_cons_self
def hps {h : PySem.Heap} {o p : PySem.Obj} {b : PySem.Addr} (e : h.get? b = some o) : (h.push p).get? b = some o := PySem.Heap.get?_push_of_some _ e
set_option Elab.async false
set_option maxRecDepth 100000
noncomputable section
open PySem PySem.Spec PyProof.Rows
namespace L2
abbrev Key:=Sum Int Str
noncomputable def t7:Key->aVT->Bool
 |.inl k,v=>Value.isInt k v
 |.inr x,v=>Value.isStrOf x v
noncomputable def keyH(w:aVW):Key->Int
 |.inl k=>hashInt k
 |.inr x=>hashStr w x
def gH:∀{k:Key}{v:aVT},t7 k v=true->(∃i t,k=Sum.inl i/\v=Value.int i t)\/(∃x t,k=Sum.inr x/\v=Value.str x t)
 |.inl i,v,h=>by obtain⟨t,e⟩:=Value.isInt_shape (k:=i) (v:=v) h;exact .inl ⟨i,t,rfl,e⟩
 |.inr x,v,h=>by obtain⟨t,e⟩:=Value.isStrOf_shape (x:=x) (v:=v) h;exact .inr ⟨x,t,rfl,e⟩
def aBR(a b:Int):decide ((Sum.inl a:Key)=Sum.inl b)=(a==b):=by
 by_cases e:a=b
 . subst e;simp
 . have h:¬ (Sum.inl a:Key)=Sum.inl b:=λq=>e (Sum.inl.inj q);rw[aPK h];exact(aPL.mpr e).symm
def aBS(a b:Str):decide ((Sum.inr a:Key)=Sum.inr b)=decide (a=b):=by
 by_cases e:a=b
 . subst e;simp
 . have h:¬ (Sum.inr a:Key)=Sum.inr b:=λq=>e (Sum.inr.inj q);rw[aPK h,aPK e]
def aBT(a:Int)(b:Str):decide ((Sum.inl a:Key)=Sum.inr b)=false:=aPK (λq=>nomatch q)
def aBU(a:Str)(b:Int):decide ((Sum.inr a:Key)=Sum.inl b)=false:=aPK (λq=>nomatch q)
noncomputable def jA(prog:aVX)(w:aVW):PySem.KeyKind prog w Key where
 is:=t7
 hash:=keyH w
 inj:=λv a b ha hb=>by
  rcases gH ha with⟨i,t,rfl,rfl⟩|⟨x,t,rfl,rfl⟩
  . rcases gH hb with⟨j,u,rfl,e⟩|⟨y,u,rfl,e⟩
    . injection e with e1 _;rw[e1]
    . exact nomatch e
  . rcases gH hb with⟨j,u,rfl,e⟩|⟨y,u,rfl,e⟩
    . exact nomatch e
    . injection e with e1 _;rw[e1]
 byValue:=λk v h=>by rcases gH h with⟨i,t,rfl,rfl⟩|⟨x,t,rfl,rfl⟩ <;> rfl
 pyHash:=λhv h=>by
  rcases gH hv with⟨i,t,rfl,rfl⟩|⟨x,t,rfl,rfl⟩
  . exact wpAny_pyHash_int h
  . exact wpAny_pyHash_str h
 eqBool:=λhu hv h=>by
  rcases gH hu with⟨i,t,rfl,rfl⟩|⟨x,t,rfl,rfl⟩
  . rcases gH hv with⟨j,u,rfl,rfl⟩|⟨y,u,rfl,rfl⟩
    . rw[aBR]at h;exact wpAny_eqBool_int h
    . rw[aBT]at h;exact SeqAt.EqAt.int_str i t y u _ _ _ _ h
  . rcases gH hv with⟨j,u,rfl,rfl⟩|⟨y,u,rfl,rfl⟩
    . rw[aBU]at h;exact SeqAt.EqAt.str_int x t j u _ _ _ _ h
    . rw[aBS]at h;exact wpAny_eqBool_str h
 «strs»:=λk x t v h=>by
  rcases gH h with⟨i,u,rfl,e⟩|⟨y,u,rfl,e⟩
  . exact nomatch e
  . injection e with e1 _
    subst e1;cases v <;> rfl
inductive V where
 |non|bl (b:Bool)|int (i:Int)|str (x:Str)|byt (b:Array UInt8)|flt (b:UInt64)|ref (a:Addr)|ty (n:String)
 deriving DecidableEq
def aJ:V->aVT->Prop
 |.non,u=>u=Value.none
 |.bl b,u=>u=Value.bool b
 |.int i,u=>∃t,u=Value.int i t
 |.str x,u=>∃t,u=Value.str x t
 |.byt b,u=>∃t,u=Value.bytes b t
 |.flt b,u=>∃t,u=Value.float b t
 |.ref a,u=>u=Value.ref a
 |.ty n,u=>u=Value.type n
abbrev aL:List V->List aVT->Prop:=Paired aJ
theorem aL.length{xs:List V}{us:List aVT}(r:aL xs us):xs.length=us.length:=aPM r
theorem aL.get:∀{xs:List V}{us:List aVT}{i:Nat}{x:V},aL xs us->xs[i]? = some x->∃u,us[i]? = some u/\aJ x u
 |_,_,_,_,.nil,e=>by simp at e
 |_,_,0,_,.cons r _,e=>by simp at e;subst e;exact⟨_,rfl,r⟩
 |_,_,i+1,x,.cons _ t,e=>by
  obtain⟨u,h1,h2⟩:=aL.get (i:=i) (x:=x) t (by simpa using e)
  exact⟨u,by simpa using h1,h2⟩
theorem aL.set{x:V}{u:aVT}(r:aJ x u):∀{xs:List V}{us:List aVT} (i:Nat),aL xs us->aL (xs.set i x) (us.set i u)
 |_,_,_,.nil=>.nil
 |_,_,0,.cons _ t=>.cons r t
 |_,_,i+1,.cons q t=>.cons q (aL.set r i t)
theorem aL.append:∀{xs ys:List V}{us ws:List aVT},aL xs us->aL ys ws->aL (xs++ys) (us++ws)
 |_,_,_,_,.nil,s=>s
 |_,_,_,_,.cons r t,s=>.cons r (aL.append t s)
theorem aL.take:∀{xs:List V}{us:List aVT} (n:Nat),aL xs us->aL (xs.take n) (us.take n)
 |_,_,0,_=>.nil
 |_,_,_+1,.nil=>.nil
 |_,_,n+1,.cons r t=>.cons r (aL.take n t)
theorem aL.drop:∀{xs:List V}{us:List aVT} (n:Nat),aL xs us->aL (xs.drop n) (us.drop n)
 |_,_,0,r=>r
 |_,_,_+1,.nil=>.nil
 |_,_,n+1,.cons _ t=>aL.drop n t
def dY:Option V->Option aVT->Prop
 |some v,some u=>aJ v u
 |none,none=>True
 |_,_=>False
def KV{κ:Type}:List (κ×V)->List (κ×aVT)->Prop:=Paired λ(p:κ×V) (q:κ×aVT)=>p.1=q.1/\aJ p.2 q.2
noncomputable def kV:Key->V
 |.inl i=>.int i
 |.inr x=>.str x
inductive N where|i (n:Int)|s (x:Str)|t (xs:List N)
mutual
noncomputable def aN(w:aVW):N->Int
 |.i n=>hashInt n
 |.s x=>hashStr w x
 |.t xs=>reduceHash (Builtin.Tuple.tupleHashOf (dZ w xs))
noncomputable def dZ(w:aVW):List N->List Int
 |[]=>[]
 |x::xs=>aN w x::dZ w xs
end
noncomputable def t8(w:aVW)(x:N×Addr×aVT):DictEntry:=⟨aN w x.1,.ref x.2.1,x.2.2⟩
inductive HO where
 /-- a list -/
 |lst (xs:List V)
 /-- a tuple (never changes) -/
 |tup (xs:List V)
 /-- a dict whose keys are ints and texts;one whose keys are tuples of ints and texts (the empty one is both) -/
 |dK (kvs:List (Key×V))|dT (kvs:List (List Key×V))
 |dN (kvs:List (N×Addr×V))
 /-- a set of ints: its members,its size -/
 |set (S:Key->Bool) (n:Nat)
 /-- an instance of the class at C,its dict at dx,its attributes -/
 |ins (C dx:Addr) (fs:List (Str×V))
 /-- the dict of the instance at x -/
 |own (x:Addr)
 /-- the dict of an exception -/
 |xd (fs:List (Str×V))
 /-- a bound method,f of x -/
 |met (f x:Addr)
 /-- a range object lo,lo+1,.. below hi -/
 |rng (lo hi:Int)
 /-- a thing that is known to the object (the script;a dict while a gY walks it): read,never written while it is so -/
 |frz (o:Obj) (u:HO)
 /-- a code object's table -/
 |tbl (ps:Array aVT)
 /-- a code record of that name -/
 |crec (q:Str)
 /-- any other thing,by what is true of its one object (a def of one's own: SetO a S n:=HO.ext λh=>..) -/
 |ext (φ:Heap->Prop)
abbrev Hp:=Addr->Option HO
inductive HT where|tup (xs:List V)|crec (q:Str)
end L2
open L2
variable {α κ:Type}{xs:List L2.V}{us vs its:List aVT}{x q y qual z key:Str}{u cdv:aVT}{H H' F' F1 F0 H0:L2.Hp}{b it l dx tp I:Addr}{h h' base hp:Heap}{items:Array aVT}{P prog:aVX}{w:aVW}{e c tg aF elt ke ea:Expr}{aA:LAO}{s s':aVU}{t' i j k n L ep e':Nat}{ch fp:List Addr}{v:L2.V}{Q:Bool->aVU->Prop}{pos pos' apos p2 cpos spos cp p1 q1 q':Pos}{ys ps loose aE tgN nms:List Str}{st:Stmt}{lo hi:Option Int}{p pa pb:Array Nat}{body sts:List Stmt}{mA mg:SOV}{fd:FuncData}{ks rs:List L2.N}{sc scope:Scope}{outer:List Env}{kvs:List (L2.N×Addr×L2.V)}{XP:(Str->Option aVT)->Heap->Prop}{YP:aVW->Heap->Prop}{env:Env}{ifs:List Expr}{aB:List Nat}{neg:Bool}{qs:List (Nat×L2.N×Addr)}{pend:Array (Nat×Nat×Nat)}{fa:Str->Addr}
namespace L2
noncomputable def HT.ho:HT->HO|.tup xs=>.tup xs|.crec q=>.crec q
noncomputable def upd(H:Hp)(a:Addr)(o:HO):Hp:=λb=>if b=a then some o else H b
def bE{a:Addr}{o:HO}:upd H a o a=some o:=by unfold upd;rw[if_pos rfl]
def aP{a:Addr}{o:HO}(h:b≠a):upd H a o b=H b:=by unfold upd;rw[if_neg h]
def b0{a:Addr}{o:HO}(h:H a=some o)(h':H b=none):a≠b:=by intro e;subst e;rw[h]at h';cases h'
def gI(h:Heap)(a:Addr)(items:Array aVT):Prop:=∃o,h.get? a=some o/\o.cls=.type "tuple" /\ o.dict=none/\∃n,o.data=.seq items n
def gI.isTup{a:Addr}(x:gI h a items):IsTup h a items:=by obtain⟨o,e,c,_,n,d⟩:=x;exact⟨o,e,c,n,d⟩
def gI.new(h:Heap)(items:Array aVT):gI (h.push { cls:=.type "tuple", data:=.seq items }) h.objs.size items:=⟨_,aPN _ rfl,rfl,rfl,_,rfl⟩
section
variable (P:aVX)(w:aVW)
def bL(H:Hp)(h:Heap)(a:Addr):HO->Prop
 |.lst xs=>xs.length<=sizeLine/\∃(its:List aVT) (n:Nat),aL xs its/\h.get? a=some { cls:=.type "list", data:=.seq its.toArray n }
 |.tup xs=>xs.length<=sizeLine/\∃its:List aVT,aL xs its/\gI h a its.toArray
 |.dK kvs=>kvs.length<=sizeLine/\(a==sysModules)=false/\∃vs,KV kvs vs/\h.DictOf (jA P w) a vs
 | .dT kvs => kvs.length ≤ sizeLine ∧ (a == sysModules) = false ∧ ∃ xs : List (List Key × Addr × aVT),
     Paired (λ(p:List Key×V) (q:List Key×Addr×aVT)=>p.1=q.1/\H q.2.1=some (.tup (p.1.map kV))/\aJ p.2 q.2.2) kvs xs /\
     ∃o es ep,h.get? a=some o/\o.ExactDict/\o.data=.dict es ep/\es.toList=xs.map (entryOfKey (tupleKind (jA P w)))/\(xs.map (·.1)).Nodup
 | .dN kvs => kvs.length ≤ sizeLine ∧ (a == sysModules) = false ∧ ∃ xs : List (N × Addr × aVT), Paired (fun (p : N × Addr × V) (q : N × Addr × aVT) => p.1 = q.1 ∧ p.2.1 = q.2.1 ∧ aJ p.2.2 q.2.2) kvs xs ∧
     ∃o es ep,h.get? a=some o/\o.ExactDict/\o.data=.dict es ep/\es.toList=xs.map (t8 w)/\(xs.map (·.1)).Nodup
 |.set S n=>h.SetOf (jA P w) a S n
 | .ins C dx fs => H dx = some (.own a) ∧ fs.length ≤ 1000 ∧ dx ≠ a ∧ h.get? a = some (W.instObj C dx) ∧
     ∃mA,h.Ns1 dx mA/\(∀f,dY (fs.lookup f) (mA f))/\PySem.Within mA (fs.map (·.1))
 |.own _=>∃o,h.get? a=some o
 |.xd fs=>∃mA,h.Ns1 a mA/\∀f,dY (fs.lookup f) (mA f)
 |.rng lo hi=>∃t u v,h.get? a=some { cls:=.type "range", data:=.fields #[.int lo t,.int hi u,.int 1 v] }
 |.frz o u=>h.get? a=some o/\bL H h a u
 |.tbl ps=>∃(q:Str) (m:Array aVT),ps[0]? = some (.str q 0)/\h.get? a=some ⟨.none,none,.fields m,#[]⟩/\TriplesOk m.toList/\∀z cv,codeAmong z m.toList=some cv->∃c,cv=.ref c/\H c=some (.crec q)
 |.crec q=>∃oc vs t,h.get? a=some oc/\oc.data=.fields vs/\vs[1]? = some (.str q t)
 |.met f x=>h.get? a=some (W.methodObj (.ref f) (.ref x))
 |.ext φ=>φ h/\(∃o,h.get? a=some o)/\∀h1 h2:Heap,φ h1->(∀o,h1.get? a=some o->h2.get? a=some o)->φ h2
def HOk(H:Hp)(h:Heap):Prop:=∀a o,H a=some o->bL P w H h a o
end
section
variable {a:Addr}{o:HO}
theorem bL.lt(x:bL P w H h a o):a<h.objs.size:=by
 cases o with
 |lst xs=>obtain⟨_,_,_,_,e⟩:=x;exact aPO e
 |tup xs=>obtain⟨_,_,_,p⟩:=x;exact p.isTup.lt
 |dK kvs=>obtain⟨_,_,_,_,o,_,_,e,_⟩:=x;exact aPO e
 |dT kvs=>obtain⟨_,_,_,_,o,_,_,e,_⟩:=x;exact aPO e
 |dN kvs=>obtain⟨_,_,_,_,o,_,_,e,_⟩:=x;exact aPO e
 |set S n=>obtain⟨o,_,_,_,e,_⟩:=x;exact aPO e
 |ins C dx fs=>obtain⟨_,_,_,e,_⟩:=x;exact aPO e
 |own y=>obtain⟨_,e⟩:=x;exact aPO e
 |xd fs=>obtain⟨_,⟨_,_,_,e,_⟩,_⟩:=x;exact aPO e
 |rng lo hi=>obtain⟨_,_,_,e⟩:=x;exact aPO e
 |frz ob u=>obtain⟨e,_⟩:=x;exact aPO e
 |tbl ps=>obtain⟨_,_,_,e,_⟩:=x;exact aPO e
 |crec q=>obtain⟨_,_,_,e,_⟩:=x;exact aPO e
 |met f y=>exact aPO (show h.get? a=some _ from x)
 |ext φ=>obtain⟨_,⟨_,e⟩,_⟩:=x;exact aPO e
theorem Paired.mapP{α β:Type}{F G:α->β->Prop}:∀{l₁:List α}{l₂:List β},Paired F l₁ l₂->(∀a b,F a b->G a b)->Paired G l₁ l₂
 |_,_,.nil,_=>.nil
 |_,_,.cons r t,f=>.cons (f _ _ r) (Paired.mapP t f)
def bL.stay(x:bL P w H h a o)(k:∀b u,(b=a\/H b=some (.own a))->h.get? b=some u->h'.get? b=some u)(ho:∀b,H b=some (.own a)->H' b=some (.own a))(ht:∀(b:Addr) (u:HT),H b=some u.ho->H' b=some u.ho):bL P w H' h' a o:=by
 induction o with
 |lst xs=>obtain⟨z,its,n,r,e⟩:=x;exact⟨z,its,n,r,k _ _ (.inl rfl) e⟩
 |tup xs=>obtain⟨z,its,r,ob,e,c⟩:=x;exact⟨z,its,r,ob,k _ _ (.inl rfl) e,c⟩
 |dK kvs=>obtain⟨z,y,vs,r,ob,es,ep,e,c⟩:=x;exact⟨z,y,vs,r,ob,es,ep,k _ _ (.inl rfl) e,c⟩
 |dT kvs=>obtain⟨z,y,xs,r,ob,es,ep,e,c⟩:=x;exact⟨z,y,xs,Paired.mapP r λp q z=>⟨z.1,ht _ (.tup _) z.2.1,z.2.2⟩,ob,es,ep,k _ _ (.inl rfl) e,c⟩
 |dN kvs=>obtain⟨z,y,xs,r,ob,es,ep,e,c⟩:=x;exact⟨z,y,xs,r,ob,es,ep,k _ _ (.inl rfl) e,c⟩
 |set S n=>obtain⟨ob,es,ep,t,e,c⟩:=x;exact⟨ob,es,ep,t,k _ _ (.inl rfl) e,c⟩
 |ins C dx fs=>obtain⟨d,z,ne,e,mA,⟨od,es,ep,e2,c⟩,r⟩:=x;exact⟨ho _ d,z,ne,k _ _ (.inl rfl) e,mA,⟨od,es,ep,k _ _ (.inr d) e2,c⟩,r⟩
 |own y=>obtain⟨ob,e⟩:=x;exact⟨ob,k _ _ (.inl rfl) e⟩
 |xd fs=>obtain⟨mA,⟨od,es,ep,e,c⟩,r⟩:=x;exact⟨mA,⟨od,es,ep,k _ _ (.inl rfl) e,c⟩,r⟩
 |rng lo hi=>obtain⟨t,u,v,e⟩:=x;exact⟨t,u,v,k _ _ (.inl rfl) e⟩
 |frz ob u ih=>obtain⟨e,q⟩:=x;exact⟨k _ _ (.inl rfl) e,ih q⟩
 |tbl ps =>
  obtain⟨q,m,e1,e2,e3,e4⟩:=x;exact⟨q,m,e1,k _ _ (.inl rfl) e2,e3,λz cv f=>by
   obtain⟨c,g1,g2⟩:=e4 z cv f;exact⟨c,g1,ht _ (.crec q) g2⟩⟩
 |crec q=>obtain⟨oc,vs,t,e,r⟩:=x;exact⟨oc,vs,t,k _ _ (.inl rfl) e,r⟩
 |met f y=>have e:h.get? a=some (W.methodObj (.ref f) (.ref y)):=x;show h'.get? a=some (W.methodObj (.ref f) (.ref y));exact k a _ (.inl rfl) e
 |ext φ=>obtain⟨p,⟨o,e⟩,st⟩:=x;exact⟨st _ _ p λo q=>k _ _ (.inl rfl) q,⟨o,k _ _ (.inl rfl) e⟩,st⟩
theorem HOk.lt(x:HOk P w H h)(e:H a=some o):a<h.objs.size:=(x a o e).lt
def HOk.fresh(x:HOk P w H h)(e:h.objs.size<=a):H a=none:=by
 cases q:H a with
 |none=>rfl
 |some u=>exact absurd (aPP (x.lt q) e) (aPQ _)
def HOk.kept(x:HOk P w H h)(k:∀b u,h.get? b=some u->h'.get? b=some u):HOk P w H h':=λa o e =>
 (x a o e).stay (λb u _ q=>k b u q) (λ_ q=>q) λ_ _ q=>q
def HOk.laid(x:HOk P w H h)(k:∀b u,h.get? b=some u->h'.get? b=some u)(hp:h.objs.size<=a)(new:bL P w (upd H a o) h' a o):HOk P w (upd H a o) h':=λb u e=>by
 have hn:=x.fresh hp;by_cases hb:b=a
 . subst hb;rw[bE]at e;cases e;exact new
 . rw[aP hb]at e;exact(x b u e).stay (λc v _ q=>k c v q) (λc q=>by rw[aP (b0 q hn)];exact q) λc xs q=>by rw[aP (b0 q hn)];exact q
end
def Rd(H:Hp)(a:Addr)(u:HO):Prop:=H a=some u\/∃o,H a=some (.frz o u)
def Rd.ok{a:Addr}{u:HO}(r:Rd H a u)(x:HOk P w H h):bL P w H h a u:=by
 rcases r with r|⟨o,r⟩
 . exact x a u r
 . obtain⟨_,q⟩:=x a _ r;exact q
def Mut:Option HO->Prop
 |some (.lst _)=>True
 |some (.dK _)=>True
 |some (.dT _)=>True
 |some (.dN _)=>True
 |some (.set _ _)=>True
 |some (.ins _ _ _)=>True
 |some (.ext _)=>True
 |_=>False
section
variable {x e:Addr}{o':HO}
def HOk.write(ok:HOk P w H h)(mu:Mut (H x))(he:e=x\/H e=some (.own x))(k:∀b u,b≠e->h.get? b=some u->h'.get? b=some u)(heo:∃u,h'.get? e=some u)(new:bL P w (upd H x o') h' x o'):HOk P w (upd H x o') h':=λb u q=>by
 have nown:∀c y,H c=some (.own y)->c≠x:=λc y r z=>by subst z;rw[r]at mu;exact mu
 have ntup:∀(c:Addr) (u:HT),H c=some u.ho->c≠x:=λc u r z=>by subst z;rw[r]at mu;cases u <;> exact mu
 by_cases hb:b=x
 . subst hb;rw[bE]at q;cases q;exact new
 . rw[aP hb]at q;by_cases hbe:b=e
   . have q':H b=some (.own x):=by
       rcases he with z|z
       . exact absurd (hbe.trans z) hb
       . rw[hbe];exact z
     rw[q]at q';cases q';obtain⟨v,hv⟩:=heo;exact⟨v,by rw[hbe];exact hv⟩
   . refine(ok b u q).stay (λc v hc r=>k c v ?_ r) (λc r=>by rw[aP (nown c b r)];exact r) λc xs r=>by rw[aP (ntup c xs r)];exact r
     rcases hc with rfl|hc
     . exact hbe
     . rintro rfl;rcases he with z|z
       . exact nown c b hc z
       . rw[hc]at z;cases z;exact hb rfl
end
structure Un(fs ex:List Addr)(H H':Hp)(h h':Heap):Prop where
 keep:∀b o,h.get? b=some o->H b=none->b∉fs->b∉ex->h'.get? b=some o
 slot:∀b o,h.get? b=some o->H b=none->b∈fs->b∉ex->∃sl,h'.get? b=some {o with slots:=sl}
 free:∀b o,h.get? b=some o->H b=none->b∉ex->H' b=none
 there:∀b o,h.get? b=some o->b∉ex->∃o',h'.get? b=some o'
 tups:∀b xs,H b=some (.tup xs)->H' b=some (.tup xs)
 frzs:∀b o u,H b=some (.frz o u)->H' b=some (.frz o u)
 tbls:∀b ps,H b=some (.tbl ps)->∃more,H' b=some (.tbl (ps++more))
section
variable {fs fs' ex ex':List Addr}{H1 H2:Hp}{h1 h2:Heap}{a x e:Addr}{o:HO}
def Un.any(u:Un fs ex H H1 h h1){ob:Obj}(q:h.get? b=some ob)(n:H b=none)(hx:b∉ex):∃sl,h1.get? b=some {ob with slots:=sl}:=by
 by_cases hb:b∈fs
 . exact u.slot b ob q n hb hx
 . exact⟨ob.slots,u.keep b ob q n hb hx⟩
def Un.kept(k:∀b u,h.get? b=some u->h'.get? b=some u):Un fs ex H H h h' :=
 ⟨λb ob q _ _ _=>k b ob q,λb ob q _ _ _=>⟨ob.slots,k b ob q⟩,λ_ _ _ n _=>n,λb ob q _=>⟨ob,k b ob q⟩,λ_ _ q=>q,λ_ _ _ q=>q,λ_ ps q=>⟨#[],by rw[q];simp⟩⟩
def Un.refl:Un fs ex H H h h:=Un.kept λ_ _ q=>q
def Un.laid(k:∀b u,h.get? b=some u->h'.get? b=some u)(hp:h.objs.size<=a)(hn:H a=none):Un fs ex H (upd H a o) h h' where
 keep:=λb u q _ _ _=>k b u q
 slot:=λb u q _ _ _=>⟨u.slots,k b u q⟩
 free:=λb u q n _=>by rw[aP (aPR (aPP (aPO q) hp))];exact n
 there:=λb u q _=>⟨u,k b u q⟩
 tups:=λb xs q=>by rw[aP (b0 q hn)];exact q
 frzs:=λb u xs q=>by rw[aP (b0 q hn)];exact q
 tbls:=λb ps q=>⟨#[],by rw[aP (b0 q hn),q];simp⟩
def Un.write(mu:Mut (H x))(he:e=x\/H e=some (.own x))(k:∀b u,b≠e->h.get? b=some u->h'.get? b=some u)(heo:∃u,h'.get? e=some u):Un fs ex H (upd H x o) h h':=by
 have hx:∀b,H b=none->b≠x:=λb n z=>by subst z;rw[n]at mu;exact mu
 have hb:∀b,H b=none->b≠e:=λb n z=>by
  subst z;rcases he with r|r
  . exact hx b n r
  . rw[n]at r;cases r
 have hm:∀b u,H b=some u -> ¬ Mut (some u)->b≠x:=λb u q nm z=>by subst z;rw[q]at mu;exact nm mu
 refine⟨λb u q n _ _=>k b u (hb b n) q,λb u q n _ _=>⟨u.slots,k b u (hb b n) q⟩,λb u q n _=>by rw[aP (hx b n)];exact n,λb u q _=>?_,
  λb xs q=>by rw[aP (hm b _ q λz=>z)];exact q,λb u xs q=>by rw[aP (hm b _ q λz=>z)];exact q,λb ps q=>⟨#[],by rw[aP (hm b _ q λz=>z),q];simp⟩⟩
 by_cases hbe:b=e
 . subst hbe;exact heo
 . exact⟨u,k b u hbe q⟩
end
noncomputable def trk(h:Heap)(H:Hp):List Addr:=(List.range h.objs.size).filter λa=>(H a).isSome
noncomputable def gJ(h:Heap)(H:Hp):Heap:=W.hideAll h (trk h H)
def aBV(h:Heap)(H:Hp):(gJ h H).objs.size=h.objs.size:=W.hideAll_size _ _
def pN{o:Obj}(e:h.get? b=some o)(n:H b=none):(gJ h H).get? b=some o :=
 W.hideAll_get _ e λhm=>by have q:(H b).isSome=true:=(aPS.mp hm).2;rw[n]at q;simp at q
def aBW{o:Obj}(e:(gJ h H).get? b=some o):h.get? b=some o/\H b=none:=by
 have e':h.get? b=some o:=W.of_hideAll (trk h H) e;refine⟨e',?_⟩;cases q:H b with
 |none=>rfl
 |some x =>
  have hm:b∈trk h H:=aPS.mpr ⟨aPT.mpr (aPO e'),by simp[q]⟩
  have z:(gJ h H).get? b=none:=W.hideAll_none (trk h H) hm;rw[z]at e;cases e
noncomputable def aBX(g h:Heap)(L:Addr):LAO:=(List.range h.objs.size).filterMap λa=>if a=L\/(g.get? a).isSome=true then none else(h.get? a).map λo=>(a,o)
noncomputable def rest(g h:Heap)(L d:Addr):LAO:=(aBX g h L).filter λp=>decide (p.1≠d)
structure Mod(K:Fg)(mg:SOV)(base:Heap):Prop where
 kin:K.In base
 glob:base.Ns mainGlobals mg
 blt:∃mb,base.Ns builtinsNs mb/\∀x:Str,x ≠ "__name__" -> mb x=bootBuiltins x
 nolimit:base.NoLimit
 bmod:∃bm ob,mg "__builtins__" = some (.ref bm)/\bm≠builtinsNs/\base.get? bm=some ob/\ob.cls=.type "module" /\ ob.dict=some builtinsNs/\ob.data=.plain
noncomputable def t9(q:Str):Str:=if q="valued" then "worth" else if q="lifted" then "lift" else "<lambda>"
def CdT(base:Heap)(H:Hp)(q:Str)(cd:aVT):Prop:=∃c T ps,cd=.ref c/\W.CodeHd base c T/\H T=some (.tbl ps)/\ps[0]? = some (.str (q ++ ".<locals>." ++ t9 q) 0)
def CdT.mono{cd:aVT}(x:CdT base H q cd)(t:∀b ps,H b=some (.tbl ps)->∃more,H' b=some (.tbl (ps++more))):CdT base H' q cd:=by
 obtain⟨c,T,ps,e1,e2,e3,e4⟩:=x;obtain⟨m,e5⟩:=t T ps e3;refine⟨c,T,_,e1,e2,e5,?_⟩;rw[Array.getElem?_append_left (by have:=(aPU.mp e4).1;exact this)]
 exact e4
def jB(K:Fg)(base:Heap)(H:Hp):Prop:=∀cd q,W.codeIn K cd q=true->CdT base H q cd
theorem jB.mono{K:Fg}(x:jB K base H)(t:∀b ps,H b=some (.tbl ps)->∃more,H' b=some (.tbl (ps++more))):jB K base H':=λcd q e=>(x cd q e).mono t
structure Cx where
 prog:aVX
 w:aVW
 K:Fg
 mg:SOV
 base:Heap
 A:aVV
 N:List Str
 s₀:aVU
 H₀:Hp
 env:Env
 outer:List Env
 stack:List Env
 ex:List Addr
 fn:Str->Bool
 calm:Bool
 pn:LAO
 xe:VSP
noncomputable def frs(l:List Env):List Addr:=l.filterMap (·.frame)
end L2
variable {X:L2.Cx}
namespace L2
noncomputable abbrev Cx.fs(X:Cx):List Addr:=frs X.outer
def Vis(sc:Scope)(x:Str):Prop:=sc.names.lookup x=some .local\/sc.names.lookup x=some .cell\/sc.names.lookup x=some .free
def Loc(sc:Scope)(x:Str):Prop:=sc.names.lookup x=some .local\/sc.names.lookup x=some .cell
def Look(env:Env)(h:Heap)(m:SOV)(x:Str)(u:aVT):Prop :=
 (env.kindOf x=some .local/\m x=some u)\/((env.kindOf x=some .cell\/env.kindOf x=some .free)/\∃c,env.cells.lookup x=some c/\h.IsCell c (some u))
structure Cx.Ok(X:Cx):Prop where
 mod:Mod X.K X.mg X.base
 kind:X.env.scope.kind=.function
 glob:X.env.globals=mainGlobals
 blt:X.env.builtins=builtinsNs
 above:X.s₀.heap.objs.size<=X.env.locals
 inj:∀x y c,X.env.cells.lookup x=some c->X.env.cells.lookup y=some c->x=y
 has:∀x,(X.env.kindOf x=some .cell\/X.env.kindOf x=some .free)->∃c,X.env.cells.lookup x=some c
 cab:∀x c,X.fn x=true->X.env.cells.lookup x=some c->X.s₀.heap.objs.size<=c
 hd:X.calm=true->X.A.handled=none
 frames:X.A.frames=some X.stack
 stk:X.stack=X.outer\/(X.stack=X.env::X.outer/\X.env.frame=some X.env.locals)
 exf:∀b∈X.ex,b≠X.env.locals/\∀x c,X.env.cells.lookup x=some c->c≠b
 bs:∀b o,X.base.get? b=some o->X.s₀.heap.get? b=some o/\X.H₀ b=none
 bsz:X.base.objs.size<=X.s₀.heap.objs.size
 noex:∀b o,X.base.get? b=some o->b∉X.ex
 exfs:∀b∈X.ex,b∉X.fs
 funs:X.s₀.heap.FunFrames X.base X.outer
 frf:∀b∈X.fs,X.H₀ b=none
 tabs:jB X.K X.base X.H₀
structure Inv(X:Cx)(aA:LAO)(σ:List (Option V))(H:Hp)(s:aVU):Prop where
 ok:X.Ok
 os:s.os=X.s₀.os
 bare:AllBare s.gens
 base:Un X.fs X.ex X.H₀ H X.s₀.heap s.heap
 loc:∃m,s.heap.Ns X.env.locals m/\∀(i:Nat) (x:Str) (v:V),X.N[i]? = some x->σ[i]? = some (some v)->Vis X.env.scope x->∃u,aJ v u/\Look X.env s.heap m x u
 cell:∀x c,X.env.cells.lookup x=some c->∃v,s.heap.IsCell c v
 free:H X.env.locals=none
 freeC:∀x c,X.env.cells.lookup x=some c->H c=none
 pin:∀p∈X.pn++aA,s.heap.get? p.1=some p.2/\H p.1=none/\p.1≠X.env.locals/\p.1∉X.fs/\∀v,p.2.data ≠ .cell v
 hok:HOk X.prog X.w H s.heap
 len:σ.length=X.N.length
section
variable {σ:List (Option V)}
def Cx.Ok.nofr(ok:X.Ok){o:Obj}(e:X.base.get? b=some o):b∉X.fs:=λhb=>by have:=(ok.funs.mem hb).1;rw[e]at this;cases this
theorem Inv.bs(I:Inv X aA σ H s):∀b o,X.base.get? b=some o->s.heap.get? b=some o/\H b=none:=λb o e =>
 ⟨I.base.keep b o (I.ok.bs b o e).1 (I.ok.bs b o e).2 (I.ok.nofr e) (I.ok.noex b o e),I.base.free b o (I.ok.bs b o e).1 (I.ok.bs b o e).2 (I.ok.noex b o e)⟩
def Inv.bk(I:Inv X aA σ H s):∀b o,X.base.get? b=some o->s.heap.get? b=some o:=λb o e=>(I.bs b o e).1
theorem Inv.mod(I:Inv X aA σ H s):Mod X.K X.mg X.base:=I.ok.mod
def Inv.kIn(I:Inv X aA σ H s):X.K.In s.heap:=I.ok.mod.kin.keeps I.bk
theorem Inv.lt(I:Inv X aA σ H s):X.env.locals<s.heap.objs.size:=let⟨_,hn,_⟩:=I.loc;hn.lt
def Inv.sz(I:Inv X aA σ H s):X.s₀.heap.objs.size<=s.heap.objs.size:=aPV I.ok.above (aPW I.lt)
def Inv.nofs(I:Inv X aA σ H s){a:Addr}(h:s.heap.objs.size<=a):a∉X.fs:=λhb=>by obtain⟨_,o,ho,_⟩:=I.ok.funs.mem hb;exact absurd (aPP (aPO ho) (aPV I.sz h)) (aPQ _)
def Inv.cne(I:Inv X aA σ H s):∀x c,X.env.cells.lookup x=some c->c≠X.env.locals:=λx c e z=>by obtain⟨v,o,ho,hd⟩:=I.cell x c e;obtain⟨m,⟨o',es,ep,ho',hd',_⟩,_⟩:=I.loc;rw[z,ho']at ho;cases ho;rw[hd']at hd;cases hd
theorem Inv.funs(I:Inv X aA σ H s):s.heap.FunFrames X.base X.outer:=by
 have all:∀(l:List Env),(∀b∈frs l,b∈X.fs)->X.s₀.heap.FunFrames X.base l->s.heap.FunFrames X.base l:=by
  intro l
  induction l with
  |nil=>intro _ _;trivial
  |cons env r ih =>
   intro hs hl;obtain⟨hk,⟨L,o,hf,hn,ho,hd⟩,hr⟩:=hl;have hL:L∈X.fs:=hs L (by unfold frs;rw[aPX,hf];exact mcs)
   obtain⟨sl,e⟩:=I.base.slot L o ho (I.ok.frf L hL) hL λz=>I.ok.exfs L z hL;exact⟨hk,⟨L,_,hf,hn,e,hd⟩,ih (λb hb=>hs b (by unfold frs;rw[aPX,hf];exact mcm hb)) hr⟩
 exact all X.outer (λ_ hb=>hb) I.ok.funs
theorem Inv.stack(I:Inv X aA σ H s):s.heap.FunFrames X.base X.stack:=by
 rcases I.ok.stk with e|⟨e,hf⟩
 . rw[e];exact I.funs
 . rw[e];obtain⟨m,hn,_⟩:=I.loc;refine .cons (by rw[I.ok.kind];decide) hf hn ?_ I.funs
   exact Heap.get?_none_of_le (aPV I.ok.bsz I.ok.above)
def Inv.stkSub(I:Inv X aA σ H s):∀b∈frs X.stack,b∈X.env.locals::X.fs:=λb hb=>by
 rcases I.ok.stk with e|⟨e,hf⟩
 . rw[e]at hb;exact mcm hb
 . rw[e]at hb;unfold frs at hb;rw[aPX,hf]at hb;exact hb
def Inv.stkFree(I:Inv X aA σ H s):∀b∈frs X.stack,H b=none:=λb hb=>by
 rcases aPY.mp (I.stkSub b hb)with e|hb
 . rw[e];exact I.free
 . obtain⟨_,o,ho,_⟩:=I.ok.funs.mem hb;exact I.base.free b o ho (I.ok.frf b hb) λz=>I.ok.exfs b z hb
def Inv.step{g':Array GenState}{d':Drawn}(I:Inv X aA σ H s)(hch:∀b∈ch,(b∈X.ex\/X.s₀.heap.objs.size<=b)/\b≠X.env.locals/\(∀x c,X.env.cells.lookup x=some c->c≠b)/\∀p∈X.pn++aA,p.1≠b)(keep:∀b o,b≠X.env.locals->b∉X.fs->b∉ch->s.heap.get? b=some o->H b=none->h'.get? b=some o)(slot:∀b o,b≠X.env.locals->b∈X.fs->b∉ch->s.heap.get? b=some o->H b=none->∃sl,h'.get? b=some {o with slots:=sl})(free:∀b o,b∉ch->s.heap.get? b=some o->H b=none->H' b=none)(there:∀b o,b∉ch->s.heap.get? b=some o->∃o',h'.get? b=some o')(tups:∀b xs,H b=some (.tup xs)->H' b=some (.tup xs))(frzs:∀b o u,H b=some (.frz o u)->H' b=some (.frz o u))(tbls:∀b ps,H b=some (.tbl ps)->∃more,H' b=some (.tbl (ps++more)))(ns:∀m,s.heap.Ns X.env.locals m->h'.Ns X.env.locals m)(hok:HOk X.prog X.w H' h')(hg:AllBare g'):Inv X aA σ H' {s with heap:=h',gens:=g',drawn:=d',toks:=t'}:=by
 have neL:∀b o,X.s₀.heap.get? b=some o->b≠X.env.locals:=λb o e=>aPR (aPP (aPO e) I.ok.above);have neC:∀b o,X.s₀.heap.get? b=some o->b∉X.ex->b∉ch:=λb o e hx hb=>by
  rcases(hch b hb).1 with z|z
  . exact hx z
  . exact absurd (aPP (aPO e) z) (aPQ _)
 have cellK:∀x c,X.env.cells.lookup x=some c->∀v,s.heap.IsCell c v->h'.IsCell c v:=λx c e v ⟨o,ho,hd⟩=>by
  have nch:c∉ch:=λz=>(hch c z).2.2.1 x c e rfl;by_cases hc:c∈X.fs
  . obtain⟨sl,q⟩:=slot c o (I.cne x c e) hc nch ho (I.freeC x c e);exact⟨_,q,hd⟩
  . exact⟨o,keep c o (I.cne x c e) hc nch ho (I.freeC x c e),hd⟩
 refine⟨I.ok,I.os,hg,⟨λb o e n hb hx=>?_,λb o e n hb hx=>?_,λb o e n hx=>?_,λb o e hx=>?_,λb xs e=>tups b xs (I.base.tups b xs e),λb o xs e=>frzs b o xs (I.base.frzs b o xs e),λb ps e=>?_⟩,?_,λx c e=>?_,?_,λx c e=>?_,λp hp=>?_,hok,I.len⟩
 . exact keep b o (neL b o e) hb (neC b o e hx) (I.base.keep b o e n hb hx) (I.base.free b o e n hx)
 . obtain⟨sl,e1⟩:=I.base.slot b o e n hb hx;obtain⟨sl',e2⟩:=slot b _ (neL b o e) hb (neC b o e hx) e1 (I.base.free b o e n hx);exact⟨sl',e2⟩
 . obtain⟨o',e1⟩:=I.base.there b o e hx;exact free b o' (neC b o e hx) e1 (I.base.free b o e n hx)
 . obtain⟨o',e1⟩:=I.base.there b o e hx;exact there b o' (neC b o e hx) e1
 . obtain⟨m1,e1⟩:=I.base.tbls b ps e;obtain⟨m2,e2⟩:=tbls b _ e1;exact⟨m1++m2,by rw[e2,Array.append_assoc]⟩
 . obtain⟨m,hn,hl⟩:=I.loc;refine⟨m,ns m hn,λi x v e1 e2 e3=>?_⟩;obtain⟨u,r,l⟩:=hl i x v e1 e2 e3;refine⟨u,r,?_⟩;rcases l with l|⟨k,c,e,z⟩
   . exact .inl l
   . exact .inr ⟨k,c,e,cellK x c e _ z⟩
 . obtain⟨v,z⟩:=I.cell x c e;exact⟨v,cellK x c e v z⟩
 . obtain⟨m,⟨o,_,_,ho,_⟩,_⟩:=I.loc;exact free _ o (λz=>(hch _ z).2.1 rfl) ho I.free
 . obtain⟨v,o,ho,hd⟩:=I.cell x c e;exact free c o (λz=>(hch c z).2.2.1 x c e rfl) ho (I.freeC x c e)
 . obtain⟨e,n,ne,nf,d⟩:=I.pin p hp;have nch:p.1∉ch:=λz=>(hch p.1 z).2.2.2 p hp rfl;exact⟨keep p.1 p.2 ne nf nch e n,free p.1 p.2 nch e n,ne,nf,d⟩
def Inv.un(I:Inv X aA σ H s)(u:Un X.fs [] H H' s.heap h')(hok:HOk X.prog X.w H' h'):Inv X aA σ H' {s with heap:=h',toks:=t'}:=by
 obtain⟨m,⟨o,es,ep,ho,r⟩,_⟩:=id I.loc;obtain⟨sl,hL⟩:=u.any ho I.free (by simp)
 exact I.step (g':=s.gens) (d':=s.drawn) (ch:=[]) (λ_ z=>nomatch z) (λb o _ hb _ e n=>u.keep b o e n hb (by simp)) (λb o _ hb _ e n=>u.slot b o e n hb (by simp)) (λb o _ e n=>u.free b o e n (by simp)) (λb o _ e=>u.there b o e (by simp)) u.tups u.frzs u.tbls (λm' hm=>by
  obtain⟨o',es',ep',ho',r'⟩:=hm;rw[ho]at ho';cases ho';exact⟨_,es',ep',hL,r'⟩) hok I.bare
def Inv.call{g':Array GenState}{d':Drawn}(I:Inv X aA σ H s)(u:Un (frs X.stack) ch H H' s.heap h')(hok:HOk X.prog X.w H' h')(hg:AllBare g')(hch:∀b∈ch,(b∈X.ex\/X.s₀.heap.objs.size<=b)/\b≠X.env.locals/\(∀x c,X.env.cells.lookup x=some c->c≠b)/\∀p∈X.pn++aA,p.1≠b):Inv X aA σ H' {s with heap:=h',gens:=g',drawn:=d',toks:=t'}:=by
 obtain⟨m,⟨o,es,ep,ho,r⟩,_⟩:=id I.loc;obtain⟨sl,hL⟩:=u.any ho I.free λz=>(hch _ z).2.1 rfl;exact I.step (ch:=ch) hch (λb o hL hb hc e n=>u.keep b o e n (λz=>(aPY.mp (I.stkSub b z)).elim hL hb) hc) (λb o _ _ hc e n=>u.any e n hc) (λb o hc e n=>u.free b o e n hc) (λb o hc e=>u.there b o e hc) u.tups u.frzs u.tbls (λm' hm=>by
  obtain⟨o',es',ep',ho',r'⟩:=hm;rw[ho]at ho';cases ho';exact⟨_,es',ep',hL,r'⟩) hok hg
def Inv.turned(I:Inv X aA σ H s)(k:∀b o,b≠it->s.heap.get? b=some o->h'.get? b=some o)(hn:H it=none)(hL:it≠X.env.locals)(h1:it∈X.ex\/X.s₀.heap.objs.size<=it)(h2:∀x c,X.env.cells.lookup x=some c->c≠it)(h3:∀p∈X.pn++aA,p.1≠it):Inv X aA σ H {s with heap:=h',toks:=t'}:=by
 have nit:∀b u,H b=some u->b≠it:=λb u e z=>by rw[z,hn]at e;cases e
 refine I.step (g':=s.gens) (d':=s.drawn) (ch:=[it]) (λb hb=>?_) (λb o _ _ hc e _=>k b o (λz=>hc (by simp[z])) e) (λb o _ _ hc e _=>⟨o.slots,k b o (λz=>hc (by simp[z])) e⟩) (λ_ _ _ _ n=>n)
  (λb o hc e=>⟨o,k b o (λz=>hc (by simp[z])) e⟩) (λ_ _ e=>e) (λ_ _ _ e=>e) (λb ps e=>⟨#[],by rw[e];simp⟩) (λm hm=>?_) (λb u e=>?_) I.bare
 . have e:b=it:=by simpa using hb
   subst e;exact⟨h1,hL,h2,h3⟩
 . obtain⟨o,es,ep,ho,r⟩:=hm;exact⟨o,es,ep,k _ o (Ne.symm hL) ho,r⟩
 . refine(I.hok b u e).stay (λc v hc q=>k c v ?_ q) (λ_ q=>q) λ_ _ q=>q;rcases hc with z|z
   . rw[z];exact nit b u e
   . exact nit c _ z
def Inv.tok(I:Inv X aA σ H s)(t:Nat):Inv X aA σ H {s with toks:=t}:=I.un (h':=s.heap) (t':=t) Un.refl I.hok
theorem Inv.kept(I:Inv X aA σ H s)(k:∀b u,s.heap.get? b=some u->h'.get? b=some u):Inv X aA σ H {s with heap:=h',toks:=t'}:=I.un (Un.kept k) (I.hok.kept k)
theorem Inv.laid{a:Addr}{o:HO}(I:Inv X aA σ H s)(k:∀b u,s.heap.get? b=some u->h'.get? b=some u)(hp:s.heap.objs.size<=a)(new:bL X.prog X.w (upd H a o) h' a o):Inv X aA σ (upd H a o) {s with heap:=h',toks:=t'}:=I.un (Un.laid k hp (I.hok.fresh hp)) (I.hok.laid k hp new)
theorem Inv.write{x e:Addr}{o:HO}(I:Inv X aA σ H s)(mu:Mut (H x))(he:e=x\/H e=some (.own x))(k:∀b u,b≠e->s.heap.get? b=some u->h'.get? b=some u)(heo:∃u,h'.get? e=some u)(new:bL X.prog X.w (upd H x o) h' x o):Inv X aA σ (upd H x o) {s with heap:=h',toks:=t'}:=I.un (Un.write mu he k heo) (I.hok.write mu he k heo new)
def Inv.weak{σ':List (Option V)}(I:Inv X aA σ H s)(hl:σ'.length=σ.length)(w:∀(i:Nat) v,σ'[i]? = some (some v)->σ[i]? = some (some v)):Inv X aA σ' H s :=
 ⟨I.ok,I.os,I.bare,I.base,let⟨m,hn,hl'⟩:=I.loc;⟨m,hn,λi x v e1 e2 e3=>hl' i x v e1 (w i v e2) e3⟩,I.cell,I.free,I.freeC,I.pin,I.hok,hl.trans I.len⟩
def Inv.pins_of{pins':LAO}(I:Inv X aA σ H s)(h:∀p∈pins',s.heap.get? p.1=some p.2/\H p.1=none/\p.1≠X.env.locals/\p.1∉X.fs/\∀v,p.2.data ≠ .cell v):Inv X pins' σ H s :=
 ⟨I.ok,I.os,I.bare,I.base,I.loc,I.cell,I.free,I.freeC,λp hp=>(aPZ.mp hp).elim (λz=>I.pin p (aP0 _ z)) (h p),I.hok,I.len⟩
def uA{N:List Str}(hN:N.Nodup)(a:N[i]? = some x)(b:N[j]? = some x):i=j:=by obtain⟨h1,e1⟩:=aP1.mp a;obtain⟨h2,e2⟩:=aP1.mp b;exact(List.getElem_inj hN).mp (e1.trans e2.symm)
def pO{M:Model}{A:aVV}{E:VSP}{Q:Unit->aVU->Prop}(I:Inv X aA σ H s)(hN:X.N.Nodup)(hi:X.N[i]? = some x)(hx:Loc X.env.scope x)(r:aJ v u)(h:∀s',Inv X aA (σ.set i (some v)) H s'->(∃a,Heap.SameBut a s.heap s'.heap/\(a=X.env.locals\/X.env.cells.lookup x=some a))->Q () s')(hf:X.fn x=true\/X.env.scope.names.lookup x=some .local:=by first|exact .inl rfl|exact .inr rfl|assumption):wpAny M A (storeName X.env x u) Q E s:=by
 obtain⟨m,hn,hl⟩:=id I.loc;have hcls:(X.env.scope.kind == .class||(X.env.scope.kind == .module&&X.env.locals != X.env.globals))=false:=by rw[I.ok.kind];rfl
 have hiσ:i<σ.length:=by rw[I.len];exact(aP1.mp hi).1
 have cne:=I.cne;have tracked:∀{a:Addr}{h':Heap},(∃o,s.heap.get? a=some o/\H a=none)->Heap.SameBut a s.heap h'->HOk X.prog X.w H h':=λ{a h'} ha hs b ob e=>by
  obtain⟨_,_,bZ⟩:=ha;refine(I.hok b ob e).stay (λc w' hc q=>(hs.2 c ?_).trans q) (λ_ q=>q) λ_ _ q=>q;rintro rfl;rcases hc with rfl|hc
  . rw[bZ]at e;cases e
  . rw[bZ]at hc;cases hc
 rcases hx with hk|hk
 . refine wpAny_storeName_local hk hn (λh' hn' hs=>?_) hcls;obtain⟨oL,_,_,hoL,_⟩:=id hn;refine h _ ⟨I.ok,I.os,I.bare,⟨λb o e n hb hx=>?_,λb o e n hb hx=>?_,I.base.free,λb o e hx=>?_,I.base.tups,I.base.frzs,I.base.tbls⟩,⟨_,hn',λj y v' e1 e2 e3=>?_⟩,λy c e=>?_,I.free,I.freeC,λp hp=>?_,tracked ⟨oL,hoL,I.free⟩ hs,by simpa using I.len⟩ ⟨_,hs,.inl rfl⟩
   . exact(hs.2 b (aPR (aPP (aPO e) I.ok.above))).trans (I.base.keep b o e n hb hx)
   . obtain⟨sl,e1⟩:=I.base.slot b o e n hb hx;exact⟨sl,(hs.2 b (aPR (aPP (aPO e) I.ok.above))).trans e1⟩
   . obtain⟨o',e1⟩:=I.base.there b o e hx;exact⟨o',(hs.2 b (aPR (aPP (aPO e) I.ok.above))).trans e1⟩
   . by_cases hj:j=i
     . subst hj;rw[hi]at e1;cases e1;rw[aP2 hiσ]at e2;cases e2;exact⟨u,r,.inl ⟨hk,by simp⟩⟩
     . rw[aP3 (Ne.symm hj)]at e2;obtain⟨u',r',q⟩:=hl j y v' e1 e2 e3;refine⟨u',r',?_⟩;rcases q with⟨k,e⟩|⟨k,c,e,z⟩
       . refine .inl ⟨k,?_⟩;have:y≠x:=λe=>hj (uA hN e1 (e ▸ hi));simp[this,e]
       . exact .inr ⟨k,c,e,z.sameBut hs (cne y c e)⟩
   . obtain⟨w',z⟩:=I.cell y c e;exact⟨w',z.sameBut hs (cne y c e)⟩
   . obtain⟨e,n,ne,nf,d⟩:=I.pin p hp;exact⟨(hs.2 p.1 ne).trans e,n,ne,nf,d⟩
 . have hfn:X.fn x=true:=by
     rcases hf with z|z
     . exact z
     . rw[z]at hk;cases hk
   obtain⟨c,hc⟩:=I.ok.has x (.inl hk);obtain⟨w',z⟩:=I.cell x c hc;refine wpAny_storeName_cell I.ok.kind hk hc z (λh' hc' hs=>?_);obtain⟨oc,hoc,hocd⟩:=id z;refine h {s with heap:=h'} ⟨I.ok,I.os,I.bare,⟨λb o e n hb hx=>?_,λb o e n hb hx=>?_,I.base.free,λb o e hx=>?_,I.base.tups,I.base.frzs,I.base.tbls⟩,⟨m,hn.sameBut hs (Ne.symm (cne x c hc)),λj y v' e1 e2 e3=>?_⟩,λy c' e=>?_,I.free,I.freeC,λp hp=>?_,tracked ⟨oc,hoc,I.freeC x c hc⟩ hs,by simpa using I.len⟩ ⟨c,hs,.inr hc⟩
   . exact(hs.2 b (aPR (aPP (aPO e) (I.ok.cab x c hfn hc)))).trans (I.base.keep b o e n hb hx)
   . obtain⟨sl,e1⟩:=I.base.slot b o e n hb hx;exact⟨sl,(hs.2 b (aPR (aPP (aPO e) (I.ok.cab x c hfn hc)))).trans e1⟩
   . obtain⟨o',e1⟩:=I.base.there b o e hx;exact⟨o',(hs.2 b (aPR (aPP (aPO e) (I.ok.cab x c hfn hc)))).trans e1⟩
   . by_cases hj:j=i
     . subst hj;rw[hi]at e1;cases e1;rw[aP2 hiσ]at e2;cases e2;exact⟨u,r,.inr ⟨.inl hk,c,hc,hc'⟩⟩
     . rw[aP3 (Ne.symm hj)]at e2;obtain⟨u',r',q⟩:=hl j y v' e1 e2 e3;refine⟨u',r',?_⟩;rcases q with q|⟨k,c',e,z'⟩
       . exact .inl q
       . refine .inr ⟨k,c',e,z'.sameBut hs ?_⟩;rintro rfl;exact hj (uA hN e1 (I.ok.inj _ _ _ e hc ▸ hi))
   . by_cases hcc:c'=c
     . subst hcc;exact⟨_,hc'⟩
     . obtain⟨w2,z2⟩:=I.cell y c' e;exact⟨w2,z2.sameBut hs hcc⟩
   . obtain⟨e,n,ne,nf,d⟩:=I.pin p hp;refine⟨(hs.2 p.1 ?_).trans e,n,ne,nf,d⟩;intro q;rw[q,hoc]at e;have q':oc=p.2:=aP4 e;exact d w' (by rw[<- q'];exact hocd)
def uB{M:Model}{A:aVV}{E:VSP}{Q:Unit->aVU->Prop}(I:Inv X aA σ H s)(hN:X.N.Nodup)(hi:X.N[i]? = some x)(hx:Loc X.env.scope x)(r:aJ v u)(h:∀s',Inv X aA (σ.set i (some v)) H s'->Q () s')(hf:X.fn x=true\/X.env.scope.names.lookup x=some .local:=by first|exact .inl rfl|exact .inr rfl|assumption):wpAny M A (storeName X.env x u) Q E s :=
 pO I hN hi hx r (λs' I' _=>h s' I') hf
def Inv.call'(I:Inv X aA σ H s)(ho:s'.os=s.os)(u:Un (frs X.stack) ch H H' s.heap s'.heap)(hok:HOk X.prog X.w H' s'.heap)(hg:AllBare s'.gens)(hch:∀b∈ch,(b∈X.ex\/X.s₀.heap.objs.size<=b)/\b≠X.env.locals/\(∀x c,X.env.cells.lookup x=some c->c≠b)/\∀p∈X.pn++aA,p.1≠b):Inv X aA σ H' s':=by obtain⟨h',g',d',t',o'⟩:=s';have e:o'=s.os:=ho;subst e;exact I.call (g':=g') (t':=t') (d':=d') u hok hg hch
end
abbrev XK:=aVT->Option Addr->Hp->Prop
abbrev St:=List (Option V)
abbrev VK:=V->Hp->Prop
abbrev TE:=St->Hp->VK->Prop
noncomputable abbrev TT:=St->Hp->(Bool->Hp->Prop)->Prop
abbrev TA:=St->Hp->(List V->Hp->Prop)->Prop
end L2
variable {σ:L2.St}{ta te tl td:L2.TE}{tt:L2.TT}
namespace L2
structure fO where
 nx:St->Hp->Prop
 rt:VK
 bk:St->Hp->Prop:=λ_ _=>False
 ct:St->Hp->Prop:=λ_ _=>False
abbrev TS:=fO->St->Hp->Prop
def EP(X:Cx)(aA:LAO)(σ:St)(Q:VK)(u:aVT)(s':aVU):Prop:=∃v H',Inv X aA σ H' s'/\aJ v u/\Q v H'
def TP(X:Cx)(aA:LAO)(σ:St)(Q:Bool->Hp->Prop)(b:Bool)(s':aVU):Prop:=∃H',Inv X aA σ H' s'/\Q b H'
def AP(X:Cx)(aA:LAO)(σ:St)(Q:List V->Hp->Prop)(us:List aVT)(s':aVU):Prop:=∃vs H',Inv X aA σ H' s'/\aL vs us/\Q vs H'
def SP(X:Cx)(aA:LAO)(D:fO)(f:Flow)(s':aVU):Prop :=
 match f with
 |.next=>∃σ' H',Inv X aA σ' H' s'/\D.nx σ' H'
 |.brk=>∃σ' H',Inv X aA σ' H' s'/\D.bk σ' H'
 |.cont=>∃σ' H',Inv X aA σ' H' s'/\D.ct σ' H'
 |.ret u=>∃v σ' H',Inv X aA σ' H' s'/\aJ v u/\D.rt v H'
def PE(X:Cx)(e:Expr)(t:TE):Prop :=
 ∀(aA:LAO) (s:aVU) (σ:St) (H:Hp) (Q:VK),Inv X aA σ H s->t σ H Q->wpAny (model X.prog X.w) X.A (eval e X.env) (EP X aA σ Q) X.xe s
def PT(X:Cx)(e:Expr)(t:TT):Prop :=
 ∀(aA:LAO) (s:aVU) (σ:St) (H:Hp) (Q:Bool->Hp->Prop),Inv X aA σ H s->t σ H Q->wpAny (model X.prog X.w) X.A (isTrue e X.env (eval e X.env)) (TP X aA σ Q) X.xe s
def PW(X:Cx)(e:Expr)(t:TT):Prop :=
 ∀(whole:Sem aVT) (aA:LAO) (s:aVU) (σ:St) (H:Hp) (Q:Bool->Hp->Prop),Inv X aA σ H s->t σ H Q->wpAny (model X.prog X.w) X.A (isTrue e X.env whole) (TP X aA σ Q) X.xe s
def PW.pt{t:TT}(h:PW X e t):PT X e t:=h _
def PA(X:Cx)(es:List Expr)(t:TA):Prop :=
 ∀(pos:Pos) (aA:LAO) (s:aVU) (σ:St) (H:Hp) (Q:List V->Hp->Prop),Inv X aA σ H s->t σ H Q->wpAny (model X.prog X.w) X.A (spliced (backTo pos (starEach es X.env))) (AP X aA σ Q) X.xe s
def PS(X:Cx)(st:Stmt)(t:TS):Prop :=
 ∀(aA:LAO) (s:aVU) (σ:St) (H:Hp) (D:fO),Inv X aA σ H s->t D σ H->wpAny (model X.prog X.w) X.A (exec st X.env) (SP X aA D) X.xe s
def PSs(X:Cx)(st:List Stmt)(t:TS):Prop :=
 ∀(aA:LAO) (s:aVU) (σ:St) (H:Hp) (D:fO),Inv X aA σ H s->t D σ H->wpAny (model X.prog X.w) X.A (execs st X.env) (SP X aA D) X.xe s
def thn{t:Sem α}{Q Q':α->aVU->Prop}{M:Model}{A:aVV}{E:VSP}(h:wpAny M A t Q E s)(hQ:∀a s,Q a s->Q' a s):wpAny M A t Q' E s:=aP5 h hQ λ_ _ x=>x
section
def iE(i:Nat):TE:=λσ H Q=>∃v,σ[i]? = some (some v)/\Q v H
def tC(v:V):TE:=λ_ H Q=>Q v H
def kN(hN:X.N[i]? = some x)(hv:Vis X.env.scope x)(hd:(x==("__debug__":Str))=false:=by decide)(hcd:(x==("__classdict__":Str))=false:=by decide):PE X (.Name x pos) (iE i):=by
 intro aA s σ H Q I h;obtain⟨v,e,h⟩:=h;obtain⟨m,hn,hl⟩:=I.loc;obtain⟨u,r,l⟩:=hl i x v hN e hv;have fin:EP X aA σ Q u s:=⟨v,H,I,r,h⟩;rcases l with⟨hk,hm⟩|⟨hk,c,hc,bT⟩
 . exact wpAny_Name (wpAny_loadName_local I.ok.kind hk hn hm fin) hd
 . rcases hk with hk|hk
   . exact wpAny_Name (wpAny_loadName_cell I.ok.kind hk hc bT fin) hd
   . exact wpAny_Name (wpAny_loadName_free I.ok.kind hk hc bT fin hcd) hd
def aBY{i j pos:_}:PE X (.Constant (.int i) j pos) (tC (.int i)):=λ_ _ _ H _ I h=>wpAny_Constant_int ⟨.int i,H,I.tok _,⟨_,rfl⟩,h⟩
def pe_bl{b j pos:_}:PE X (.Constant (.bool b) j pos) (tC (.bl b)):=λ_ _ _ H _ I h=>Constant_bool ⟨.bl b,H,I,rfl,h⟩
def aBZ{j pos:_}:PE X (.Constant .none j pos) (tC .non):=λ_ _ _ H _ I h=>Constant_none ⟨.non,H,I,rfl,h⟩
def aB0{x j pos:_}:PE X (.Constant (.str x) j pos) (tC (.str x)):=λ_ _ _ H _ I h=>Calls.Constant_str ⟨.str x,H,I.tok _,⟨_,rfl⟩,h⟩
def Gl(X:Cx)(x:Str):Prop:=X.env.kindOf x=some .globalImplicit
def pP{E:VSP}{σ:St}{Q:VSP}(I:Inv X aA σ H s)(hg:Gl X x)(hm:X.mg x=some u)(h:Q u s)(hd:(x==("__debug__":Str))=false:=by decide):wpAny (model X.prog X.w) X.A (eval (.Name x pos) X.env) Q E s :=
 Calls.Name_function_global I.ok.kind hg (Calls.loadGlobal_global (by rw[I.ok.glob];exact I.mod.glob.keeps I.bk) hm h) hd
def m9{E:VSP}{σ:St}{Q:VSP}(I:Inv X aA σ H s)(hg:Gl X x)(hm:X.mg x=none)(hv:bootBuiltins x=some u)(h:Q u s)(hn:x ≠ "__name__" := by decide)(hd:(x==("__debug__":Str))=false:=by decide):wpAny (model X.prog X.w) X.A (eval (.Name x pos) X.env) Q E s:=by obtain⟨mb,h1,h2⟩:=I.mod.blt;exact Calls.Name_function_global I.ok.kind hg (Calls.loadGlobal_builtin (by rw[I.ok.glob];exact I.mod.glob.keeps I.bk) hm (by rw[I.ok.blt];exact h1.keeps I.bk) ((h2 x hn).trans hv) h) hd
def uC(hg:Gl X x)(hm:X.mg x=some u)(r:aJ v u)(hd:(x==("__debug__":Str))=false:=by decide):PE X (.Name x pos) (tC v) :=
 λ_ _ _ H _ I h=>pP I hg hm ⟨v,H,I,r,h⟩ hd
def aB1(hg:Gl X x)(hm:X.mg x=none)(hv:bootBuiltins x=some u)(r:aJ v u)(hn:x ≠ "__name__" := by decide)(hd:(x==("__debug__":Str))=false:=by decide):PE X (.Name x pos) (tC v) :=
 λ_ _ _ H _ I h=>m9 I hg hm hv ⟨v,H,I,r,h⟩ hn hd
variable {a b:Expr}{tb:TE}
variable {tA tB':TT}{rest:List Expr}
def pQ(t u:TT):TT:=λσ H Q=>t σ H λc H1=>if c=true then u σ H1 Q else Q false H1
def tOr(t u:TT):TT:=λσ H Q=>t σ H λc H1=>if c=true then Q true H1 else u σ H1 Q
def tNot(t:TT):TT:=λσ H Q=>t σ H λc H1=>Q (!c) H1
def aB2(ha:PT X a tA):PW X (.BoolOp .And [a] pos) tA:=by
 intro wh aA s σ H Q I h;refine isTrue_and (thn (ha aA s σ H Q I h) λc s1 e=>?_);cases c with
 |true=>exact isTrue_and_nil e
 |false=>exact e
def aB3(ha:PT X a tA):PW X (.BoolOp .Or [a] pos) tA:=by
 intro wh aA s σ H Q I h;refine isTrue_or (thn (ha aA s σ H Q I h) λc s1 e=>?_);cases c with
 |false=>exact isTrue_or_nil e
 |true=>exact e
def aB4(ha:PT X a tA)(hb:PW X (.BoolOp .And (b::rest) pos) tB'):PW X (.BoolOp .And (a::b::rest) pos) (pQ tA tB'):=by
 intro wh aA s σ H Q I h;refine isTrue_and (thn (ha aA s σ H _ I h) λc s1 ⟨H1,I1,q1⟩=>?_);cases c with
 |true=>exact hb wh aA s1 σ H1 Q I1 q1
 |false=>exact⟨H1,I1,q1⟩
def pw_or(ha:PT X a tA)(hb:PW X (.BoolOp .Or (b::rest) pos) tB'):PW X (.BoolOp .Or (a::b::rest) pos) (tOr tA tB'):=by
 intro wh aA s σ H Q I h;refine isTrue_or (thn (ha aA s σ H _ I h) λc s1 ⟨H1,I1,q1⟩=>?_);cases c with
 |true=>exact⟨H1,I1,q1⟩
 |false=>exact hb wh aA s1 σ H1 Q I1 q1
def aB5(ha:PT X a tA):PT X (.UnaryOp .Not a pos) (tNot tA):=by intro aA s σ H Q I h;exact isTrue_not (ha aA s σ H (λc H1=>Q (!c) H1) I h)
def uD(ta tb:TE):TE:=λσ H Q=>ta σ H λx H1=>∃c,x=.bl c/\if c=true then tb σ H1 Q else Q (.bl false) H1
def tOrV(ta tb:TE):TE:=λσ H Q=>ta σ H λx H1=>∃c,x=.bl c/\if c=true then Q (.bl true) H1 else tb σ H1 Q
def uE(ta:TE):TE:=λσ H Q=>ta σ H λx H1=>∃c,x=.bl c/\Q (.bl (!c)) H1
def aB6{op}{t:TE}(h:PE X a t):PE X (.BoolOp op [a] pos) t:=λaA s σ H Q I hw=>BoolOp_one (h aA s σ H Q I hw)
def aB7(ha:PE X a ta)(hb:PE X (.BoolOp .And (b::rest) pos) tb):PE X (.BoolOp .And (a::b::rest) pos) (uD ta tb):=by
 intro aA s σ H Q I h;refine BoolOp_and (thn (ha aA s σ H _ I h) λv s1 ⟨x,H1,I1,r1,q1⟩=>?_);obtain⟨c,rfl,q1⟩:=q1;cases r1;refine aP6 ?_;cases c with
 |true=>exact hb aA s1 σ H1 Q I1 q1
 |false=>exact⟨.bl false,H1,I1,rfl,q1⟩
def pe_or(ha:PE X a ta)(hb:PE X (.BoolOp .Or (b::rest) pos) tb):PE X (.BoolOp .Or (a::b::rest) pos) (tOrV ta tb):=by
 intro aA s σ H Q I h;refine BoolOp_or (thn (ha aA s σ H _ I h) λv s1 ⟨x,H1,I1,r1,q1⟩=>?_);obtain⟨c,rfl,q1⟩:=q1;cases r1;refine aP6 ?_;cases c with
 |false=>exact hb aA s1 σ H1 Q I1 q1
 |true=>exact⟨.bl true,H1,I1,rfl,q1⟩
def aB8(ha:PE X a ta):PE X (.UnaryOp .Not a pos) (uE ta):=by intro aA s σ H Q I h;refine UnaryOp_ (thn (ha aA s σ H _ I h) λv s1 ⟨x,H1,I1,r1,q1⟩=>?_);obtain⟨c,rfl,q1⟩:=q1;cases r1;exact not_of (aP6 ⟨.bl (!c),H1,I1,rfl,q1⟩)
end
def SqL(K:Fg)(H:Hp)(a:Addr)(xs:List V):Prop :=
 Rd H a (.lst xs) \/
  ∃(o:Obj) (its:Array aVT) (n:Nat),K.lookup a=some o/\o.cls=.type "list" /\ o.dict=none/\o.data=.seq its n/\its.size<=sizeLine/\aL xs its.toList
def SqT(K:Fg)(H:Hp)(a:Addr)(xs:List V):Prop :=
 Rd H a (.tup xs) \/
  ∃(o:Obj) (its:Array aVT) (n:Nat),K.lookup a=some o/\o.cls=.type "tuple" /\ o.dict=none/\o.data=.seq its n/\its.size<=sizeLine/\aL xs its.toList
noncomputable def absV:aVT->Option V
 |.none=>some .non
 |.bool b=>some (.bl b)
 |.int i _=>some (.int i)
 |.str x _=>some (.str x)
 |.bytes b _=>some (.byt b)
 |.float b _=>some (.flt b)
 |.ref a=>some (.ref a)
 |.type n=>some (.ty n)
 |_=>none
def aJ.abs{x:V}(r:aJ x u):absV u=some x:=by
 cases x with
 |non=>cases r;rfl
 |bl _=>cases r;rfl
 |int _=>obtain⟨t,rfl⟩:=r;rfl
 |str _=>obtain⟨t,rfl⟩:=r;rfl
 |byt _=>obtain⟨t,rfl⟩:=r;rfl
 |flt _=>obtain⟨t,rfl⟩:=r;rfl
 |ref _=>cases r;rfl
 |ty _=>cases r;rfl
def aJ.inj{x y:V}(r:aJ x u)(q:aJ y u):x=y:=aP4 (r.abs.symm.trans q.abs)
theorem aL.inj:∀{xs ys:List V}{us:List aVT},aL xs us->aL ys us->xs=ys
 |_,_,_,.nil,.nil=>rfl
 |_,_,_,.cons r t,.cons r' t'=>by rw[r.inj r',aL.inj t t']
section
variable {σ:St}{a:Addr}{ys:List V}
def SqL.of{K:Fg}(h:H a=some (.lst xs)):SqL K H a xs:=.inl (.inl h)
def SqT.of{K:Fg}(h:H a=some (.tup xs)):SqT K H a xs:=.inl (.inl h)
theorem Inv.list(I:Inv X aA σ H s)(h:SqL X.K H a xs):∃its:List aVT,aL xs its/\PlainL s.heap a its.toArray/\xs.length<=sizeLine:=by
 rcases h with h|⟨o,its,n,hk,hc,hd,hs,hz,r⟩
 . obtain⟨z,its,n,r,e⟩:=h.ok I.hok;exact⟨its,r,⟨_,n,e,rfl,rfl,rfl⟩,z⟩
 . refine⟨its.toList,r,⟨o,n,I.kIn a o hk,hc,hd,by simpa using hs⟩,?_⟩
   have e:=r.length;simp only[aP7]at e;lia
theorem Inv.tuple(I:Inv X aA σ H s)(h:SqT X.K H a xs):∃its:List aVT,aL xs its/\IsTup s.heap a its.toArray/\xs.length<=sizeLine:=by
 rcases h with h|⟨o,its,n,hk,hc,hdt,hs,hz,r⟩
 . obtain⟨z,its,r,p⟩:=h.ok I.hok;exact⟨its,r,p.isTup,z⟩
 . refine⟨its.toList,r,⟨o,I.kIn a o hk,hc,n,by simpa using hs⟩,?_⟩
   have e:=r.length;simp only[aP7]at e;lia
def Inv.list_inj(I:Inv X aA σ H s)(h:SqL X.K H a xs)(h':SqL X.K H a ys):xs=ys:=by
 obtain⟨its,r,⟨o,n,e,_,_,d⟩,_⟩:=I.list h;obtain⟨its',r',⟨o',n',e',_,_,d'⟩,_⟩:=I.list h';rw[e]at e';cases e';rw[d]at d';injection d' with d1 _
 have:its=its':=by simpa using congrArg Array.toList d1
 subst this;exact r.inj r'
def Inv.tuple_inj(I:Inv X aA σ H s)(h:SqT X.K H a xs)(h':SqT X.K H a ys):xs=ys:=by
 obtain⟨its,r,⟨o,e,_,n,d⟩,_⟩:=I.tuple h;obtain⟨its',r',⟨o',e',_,n',d'⟩,_⟩:=I.tuple h';rw[e]at e';cases e';rw[d]at d';injection d' with d1 _
 have:its=its':=by simpa using congrArg Array.toList d1
 subst this;exact r.inj r'
end
noncomputable abbrev Cx.wish(X:Cx)(E:VSP):Cx:={X with xe:=E}
section
variable {σ:St}{E:VSP}
end
section
variable {rest:List Stmt}{t u:TS}
def tNext:TS:=λD σ H=>D.nx σ H
def tSeq(t u:TS):TS:=λD σ H=>t {D with nx:=u D} σ H
def aB9:PSs X [] tNext:=λ_ _ σ H _ I h=>wpAny_execs_nil ⟨σ,H,I,h⟩
def aCA(h1:PS X st t)(h2:PSs X rest u):PSs X (st::rest) (tSeq t u):=by
 intro aA s σ H D I h;refine wpAny_execs_cons (thn (h1 aA s σ H {D with nx:=u D} I h) λf s1 q=>?_)
 cases f with
 |next=>obtain⟨σ',H',I',q⟩:=q;exact h2 aA s1 σ' H' D I' q
 |ret v=>exact q
 |brk=>exact q
 |cont=>exact q
def Inv.quiet{σ:St}(I:Inv X aA σ H s):interactive X.env=false:=by simp[interactive,I.ok.kind]
def uF(te:TE):TS:=λD σ H=>te σ H λ_ H1=>D.nx σ H1
def aCB(he:PE X e te)(hs:swapsWith e none pos.line X.env=pure false:=by rfl):PS X (.Expr e pos) (uF te):=by intro aA s σ H D I h;exact wpAny_Expr_any (thn (he aA s σ H _ I h) λv s1 ⟨x,H1,I1,r1,q1⟩=>⟨σ,H1,I1,q1⟩) I.quiet hs
def tRet(te:TE):TS:=λD σ H=>te σ H D.rt
def uG(he:PE X e te):PS X (.Return (some e) pos) (tRet te):=by intro aA s σ H D I h;exact wpAny_Return_some (thn (he aA s σ H _ I h) λv s1 ⟨x,H1,I1,r1,q1⟩=>⟨x,σ,H1,I1,r1,q1⟩)
def tIfS(c:TT)(t u:TS):TS:=λD σ H=>c σ H λb H1=>if b=true then t D σ H1 else u D σ H1
def ps_if{a b:List Stmt}{tc:TT}(hc:PT X c tc)(ha:PSs X a t)(hb:PSs X b u):PS X (.If c a b pos) (tIfS tc t u):=by
 intro aA s σ H D I h;refine wpAny_If (thn (hc aA s σ H _ I h) λd s1 ⟨H1,I1,q1⟩=>?_);cases d with
 |true=>exact ha aA s1 σ H1 D I1 q1
 |false=>exact hb aA s1 σ H1 D I1 q1
end
abbrev TG:=V->St->Hp->(St->Hp->Prop)->Prop
abbrev TGs:=List V->St->Hp->(St->Hp->Prop)->Prop
def PG(X:Cx)(target:Expr)(t:TG):Prop :=
 ∀(aA:LAO) (s:aVU) (σ:St) (H:Hp) (v:V) (u:aVT) (Q:St->Hp->Prop),Inv X aA σ H s->aJ v u->t v σ H Q ->
  wpAny (model X.prog X.w) X.A (assign target X.env u) (λ_ s'=>∃σ' H',Inv X aA σ' H' s'/\Q σ' H') X.xe s
def PGs(X:Cx)(ts:List Expr)(t:TGs):Prop :=
 ∀(aA:LAO) (s:aVU) (σ:St) (H:Hp) (vs:List V) (us:List aVT) (Q:St->Hp->Prop),Inv X aA σ H s->aL vs us->t vs σ H Q ->
  wpAny (model X.prog X.w) X.A (assignInOrder ((assignEach ts X.env).map (·.2)) us) (λ_ s'=>∃σ' H',Inv X aA σ' H' s'/\Q σ' H') X.xe s
abbrev TSet:=V->V->V->Hp->(Hp->Prop)->Prop
def PSet(X:Cx)(t:TSet):Prop :=
 ∀(aA:LAO) (s:aVU) (σ:St) (H:Hp) (o i v:V) (ov iv u:aVT) (Q:Hp->Prop),Inv X aA σ H s->aJ o ov->aJ i iv->aJ v u->t o i v H Q ->
  wpAny (model X.prog X.w) X.A (setItem ov iv u) (λ_ s'=>∃H',Inv X aA σ H' s'/\Q H') X.xe s
def jC(i:Nat):TG:=λv σ H Q=>Q (σ.set i (some v)) H
def aCC(hN:X.N.Nodup)(hi:X.N[i]? = some x)(hx:Loc X.env.scope x)(hf:X.fn x=true\/X.env.scope.names.lookup x=some .local:=by first|exact .inl rfl|exact .inr rfl|assumption):PG X (.Name x pos) (jC i):=by intro aA s σ H v u Q I r h;exact aP8 (uB I hN hi hx r (λs' I'=>⟨_,H,I',h⟩) hf)
def gNil:TGs:=λvs σ H Q=>vs=[]/\Q σ H
def uH(t:TG)(u:TGs):TGs:=λvs σ H Q=>∃v r,vs=v::r/\t v σ H λσ' H'=>u r σ' H' Q
def aCD:PGs X [] gNil:=by intro aA s σ H vs us Q I r h;obtain⟨e,h⟩:=h;subst e;cases r;exact assignInOrder_nil ⟨σ,H,I,h⟩
def aCE{es:List Expr}{t:TG}{u:TGs}(h1:PG X e t)(h2:PGs X es u)(hs:(assignEach (e::es) X.env).map (·.2)=assign e X.env::(assignEach es X.env).map (·.2):=by rfl):PGs X (e::es) (uH t u):=by
 intro aA s σ H vs us Q I r h;obtain⟨v,vr,e1,h⟩:=h;subst e1;cases r with
 |cons r rr=>rw[hs];refine assignInOrder_cons (thn (h1 aA s σ H _ _ _ I r h) λ_ s1 ⟨σ1,H1,I1,q1⟩=>?_);exact h2 aA s1 σ1 H1 _ _ Q I1 rr q1
def gTup(K:Fg)(n:Nat)(t:TGs):TG:=λv σ H Q=>∃a xs,v=.ref a/\SqT K H a xs/\xs.length=n/\t xs σ H Q
def aCF{es:List Expr}{t:TGs}(hc:X.calm=true)(h:PGs X es t)(hn:(assignEach es X.env).length=n:=by rfl)(hst:(assignEach es X.env).findIdx? (·.1)=none:=by rfl):PG X (.Tuple es k pos) (gTup X.K n t):=by
 intro aA s σ H v u Q I r hw;obtain⟨a,xs,e1,hq,hl,hw⟩:=hw;subst e1;cases r;obtain⟨its,rv,ht,hz⟩:=I.tuple hq;refine assign_Tuple_tuple (I.ok.hd hc) ht (by simp[hn,<- hl,rv.length]) hst λh' hx=>?_
 have I1:Inv X aA σ H {s with heap:=h'}:=I.kept (t':=s.toks) λb o e=>hx b o (aPR (aPO e)) e
 exact h aA _ σ H xs _ Q I1 (by simpa using rv) hw
def jD(te:TE)(g:TG):TS:=λD σ H=>te σ H λx H1=>g x σ H1 D.nx
def aCG(hN:X.N.Nodup)(hi:X.N[i]? = some x)(hx:Loc X.env.scope x)(he:PE X e te)(hs:swapsWith e (some (.Name x pos')) pos.line X.env=pure false:=by rfl)(hf:X.fn x=true\/X.env.scope.names.lookup x=some .local:=by first|exact .inl rfl|exact .inr rfl|assumption):PS X (.Assign [.Name x pos'] e pos) (jD te (jC i)):=by intro aA s σ H D I h;refine wpAny_Assign_Name (thn (he aA s σ H _ I h) λv s1 ⟨y,H1,I1,r1,q1⟩=>?_) hs;exact uB I1 hN hi hx r1 (λs2 I2=>⟨_,H1,I2,q1⟩) hf
structure It where
 go:Nat->Hp->Prop
 yld:Nat->Hp->V->Hp->Prop
 stop:Nat->Hp->Prop
def f9(X:Cx)(aA:LAO)(H:Hp)(b:Addr):Prop :=
 H b=none/\b≠X.env.locals/\b∉X.fs/\(b∈X.ex\/X.s₀.heap.objs.size<=b)/\(∀x c,X.env.cells.lookup x=some c->c≠b)/\∀p∈X.pn++aA,p.1≠b
def Inv.fpOk{σ:St}(I:Inv X aA σ H s)(hb:s.heap.objs.size<=b)(hn:H' b=none):f9 X aA H' b:=by
 refine⟨hn,Nat.ne_of_gt (aPP I.lt hb),I.nofs hb,.inr (aPV I.sz hb),λx c e z=>?_,λp hp z=>?_⟩
 . obtain⟨v,q⟩:=I.cell x c e;exact absurd (aPP q.lt (by rw[z];exact hb)) (aPQ _)
 . exact absurd (aPP (aPO (I.pin p hp).1) (by rw[z];exact hb)) (aPQ _)
structure jE(P:aVX)(w:aVW)(K:Fg)(tg:Expr)(J:It)(fp:List Addr)(it:Addr)(tn:Nat->Heap->Prop):Prop where
 mem:it∈fp
 obj:∀i h,tn i h->∀b∈fp,∃o,h.get? b=some o/\∀v,o.data ≠ .cell v
 keep:∀i h h',tn i h->(∀b∈fp,∀o,h.get? b=some o->h'.get? b=some o)->tn i h'
 item:∀(X:Cx),X.prog=P->X.w=w->X.K=K->X.calm=true->∀(i:Nat) (aA:LAO) (s:aVU) (σ:St) (H:Hp) (E:VSP),Inv X aA σ H s->(∀b∈fp,f9 X aA H b)->tn i s.heap->J.go i H ->
  wpAny (model P w) X.A (pyNext (.ref it)) (λr s1=>∃u,r=some u /\
   wpAny (model P w) X.A (letOwnedTupleGo tg (.ref it) u) (λ_ s2=>∃x H',Inv X aA σ H' s2/\aJ x u/\J.yld i H x H'/\tn (i+1) s2.heap/\∀b∈fp,H' b=none) E s1) E s
 done:∀(X:Cx),X.prog=P->X.w=w->X.K=K->X.calm=true->∀(i:Nat) (aA:LAO) (s:aVU) (σ:St) (H:Hp) (E:VSP),Inv X aA σ H s->(∀b∈fp,f9 X aA H b)->tn i s.heap->J.stop i H ->
  wpAny (model P w) X.A (pyNext (.ref it)) (λr s1=>r=none/\Inv X aA σ H s1) E s
 self:∀(A:aVV) (i:Nat) (s:aVU) (Q:VSP) (E:VSP),tn i s.heap->Q (.ref it) s->wpAny (model P w) A (pyIter (.ref it)) Q E s
abbrev TI:=St->Hp->(It->Hp->Prop)->Prop
def PIE(X:Cx)(aA:LAO)(σ:St)(tg:Expr)(R:It->Hp->Prop)(itv:aVT)(s2:aVU):Prop :=
 ∃(it:Addr) (fp:List Addr) (tn:Nat->Heap->Prop) (J:It) (H':Hp),itv=.ref it/\Inv X aA σ H' s2/\jE X.prog X.w X.K tg J fp it tn/\tn 0 s2.heap/\(∀b∈fp,f9 X aA H' b)/\R J H'
def PI(X:Cx)(tg aF:Expr)(wi:TI):Prop :=
 ∀(aA:LAO) (s:aVU) (σ:St) (H:Hp) (R:It->Hp->Prop),Inv X aA σ H s->wi σ H R ->
  wpAny (model X.prog X.w) X.A (eval aF X.env) (λv s1=>wpAny (model X.prog X.w) X.A (pyIter v) (PIE X aA σ tg R) X.xe s1) X.xe s
def kP{M:Model}{A:aVV}{E:VSP}{o:Obj}{n:String}{vs:Array aVT}{Q:Unit->aVU->Prop}(ho:s.heap.get? it=some o)(hc:o.cls=.type n)(hd:o.data=.fields vs)(hn:["enumerate", "zip", "dict_itemiterator", "dict_reverseitemiterator", "odict_iterator", "itertools.zip_longest", "itertools.pairwise"].contains n=false)(hQ:Q () s):wpAny M A (letOwnedTupleGo tg (.ref it) u) Q E s:=by
 unfold letOwnedTupleGo;cases tg <;> first
  |exact aP9 hQ
  | (cases u <;> first
      |exact aP9 hQ
      | (refine aQA (aQB ho ?_)
         rw[hc,hd];show wpAny M A (if(["enumerate", "zip", "dict_itemiterator", "dict_reverseitemiterator", "odict_iterator", "itertools.zip_longest", "itertools.pairwise"].contains n&&vs[0]?==some (rawInt _))=true then _ else _) Q E s;rw[if_neg (by intro h;rw[hn,Bool.false_and]at h;cases h)]
         exact aP9 hQ))
noncomputable def Itl(K:Fg)(a:Addr):It :=
 ⟨λi H=>∃xs x,SqL K H a xs/\xs[i]? = some x,λi H x H'=>H'=H/\∀xs,SqL K H a xs->xs[i]? = some x,λi H=>∃xs,SqL K H a xs/\xs.length<=i⟩
noncomputable def Itt(K:Fg)(a:Addr):It :=
 ⟨λi H=>∃xs x,SqT K H a xs/\xs[i]? = some x,λi H x H'=>H'=H/\∀xs,SqT K H a xs->xs[i]? = some x,λi H=>∃xs,SqT K H a xs/\xs.length<=i⟩
noncomputable def Itr(lo:Int)(n:Nat):It:=⟨λi _=>i<n,λi H x H'=>H'=H/\x=.int (lo+i),λi _=>n<=i⟩
end L2
variable {wi:L2.TI}{gt:L2.TG}
namespace L2
theorem aCH{K:Fg}(a it:Addr):jE P w K tg (Itl K a) [it] it (λi h=>h.IsListIter it a i) where
 mem:=by simp
 obj:=λi h st b hb=>by
  have e:b=it:=by simpa using hb
  subst e;obtain⟨o,e,c,d⟩:=st;exact⟨o,e,λv z=>by rw[d]at z;cases z⟩
 keep:=λi h h' st k=>st.at λo e=>k it (by simp) o e
 item:=by
  intro X hP hw hK hc i aA s σ H E I hf st hg;subst hP hw hK;obtain⟨xs,x,hq,hx⟩:=hg;obtain⟨its,rv,p,hz⟩:=I.list hq;obtain⟨u,hu,ru⟩:=rv.get hx;obtain⟨f0,f1,f2,f3,f4,f5⟩:=hf it (by simp)
  refine wpAny_pyNext_list_item st p.isList (x:=u) (by simpa using hu) λh' st' sb=>?_
  have I1:Inv X aA σ H {s with heap:=h'}:=I.turned (t':=s.toks) (λb o hb e=>(sb.2 b hb).trans e) f0 f1 f3 f4 f5
  obtain⟨o,e,c,d⟩:=id st';exact⟨u,rfl,kP (s:={s with heap:=h'}) e c d (by decide) ⟨x,H,I1,ru,⟨rfl,λys hy=>by rw[I.list_inj hy hq];exact hx⟩,st',λb hb=>(hf b hb).1⟩⟩
 done:=by
  intro X hP hw hK hc i aA s σ H E I hf st hg;subst hP hw hK;obtain⟨xs,hq,hx⟩:=hg;obtain⟨its,rv,p,hz⟩:=I.list hq;obtain⟨f0,f1,f2,f3,f4,f5⟩:=hf it (by simp)
  have hl:=rv.length;exact wpAny_pyNext_list_end (I.ok.hd hc) st p.isList (by simp;lia) λh' eb=>⟨rfl,I.turned (t':=s.toks) (λb o hb e=>eb b o hb e) f0 f1 f3 f4 f5⟩
 self:=λ_ _ _ _ _ st h=>wpAny_pyIter_listiter st h
theorem aCI{K:Fg}(a it:Addr):jE P w K tg (Itt K a) [it] it (λi h=>h.IsTupleIter it a i) where
 mem:=by simp
 obj:=λi h st b hb=>by
  have e:b=it:=by simpa using hb
  subst e;obtain⟨o,e,c,d⟩:=st;exact⟨o,e,λv z=>by rw[d]at z;cases z⟩
 keep:=λi h h' st k=>st.at λo e=>k it (by simp) o e
 item:=by
  intro X hP hw hK hc i aA s σ H E I hf st hg;subst hP hw hK;obtain⟨xs,x,hq,hx⟩:=hg;obtain⟨its,rv,p,hz⟩:=I.tuple hq;obtain⟨u,hu,ru⟩:=rv.get hx;obtain⟨f0,f1,f2,f3,f4,f5⟩:=hf it (by simp)
  refine wpAny_pyNext_tuple_item st (show s.heap.IsTuple a its.toArray from p) (x:=u) (by simpa using hu) λh' st' sb=>?_
  have I1:Inv X aA σ H {s with heap:=h'}:=I.turned (t':=s.toks) (λb o hb e=>(sb.2 b hb).trans e) f0 f1 f3 f4 f5
  obtain⟨o,e,c,d⟩:=id st';exact⟨u,rfl,kP (s:={s with heap:=h'}) e c d (by decide) ⟨x,H,I1,ru,⟨rfl,λys hy=>by rw[I.tuple_inj hy hq];exact hx⟩,st',λb hb=>(hf b hb).1⟩⟩
 done:=by
  intro X hP hw hK hc i aA s σ H E I hf st hg;subst hP hw hK;obtain⟨xs,hq,hx⟩:=hg;obtain⟨its,rv,p,hz⟩:=I.tuple hq;obtain⟨f0,f1,f2,f3,f4,f5⟩:=hf it (by simp)
  have hl:=rv.length;exact wpAny_pyNext_tuple_end (I.ok.hd hc) st (show s.heap.IsTuple a its.toArray from p) (by simp;lia) λh' eb=>⟨rfl,I.turned (t':=s.toks) (λb o hb e=>eb b o hb e) f0 f1 f3 f4 f5⟩
 self:=λ_ _ _ _ _ st h=>wpAny_pyIter_tupleiter st h
theorem aCJ{K:Fg}(it:Addr)(lo:Int)(n:Nat):jE P w K tg (Itr lo n) [it] it (λi h=>IsRangeIter h it (lo+(i:Nat) * 1) ((n:Int)-(i:Nat)) 1) where
 mem:=by simp
 obj:=λi h st b hb=>by
  have e:b=it:=by simpa using hb
  subst e;exact⟨_,st,λv z=>by
   have z':Data.fields _=Data.cell v:=z;cases z'⟩
 keep:=λi h h' st k=>k it (by simp) _ st
 item:=by
  intro X hP hw hK hc i aA s σ H E I hf st hg;subst hP hw hK;obtain⟨f0,f1,f2,f3,f4,f5⟩:=hf it (by simp)
  have W:=Walks.range (prog:=X.prog) (w:=X.w) (I.ok.hd hc) it lo 1 n;refine W.item i s _ _ hg st λv h' tk hv st' kk=>?_;obtain⟨t,rfl⟩:=hv;have I1:Inv X aA σ H {s with heap:=h',toks:=tk}:=I.turned (λb o hb e=>kk b o (by simpa using hb) e) f0 f1 f3 f4 f5
  refine⟨_,rfl,kP (s:={s with heap:=h',toks:=tk}) (n := "range_iterator") st' rfl rfl (by decide) ⟨.int (lo+i),H,I1,⟨t,?_⟩,⟨rfl,rfl⟩,st',λb hb=>(hf b hb).1⟩⟩
  rw[Int.mul_one]
 done:=by
  intro X hP hw hK hc i aA s σ H E I hf st hg;subst hP hw hK;obtain⟨f0,f1,f2,f3,f4,f5⟩:=hf it (by simp)
  exact wpAny_pyNext_range_end (I.ok.hd hc) st (by have:n<=i:=hg;lia) λh' eb=>⟨rfl,I.turned (t':=s.toks) (λb o hb e=>eb b o hb e) f0 f1 f3 f4 f5⟩
 self:=λ_ _ _ _ _ st h=>wpAny_pyIter_rangeiter st h
def pS(K:Fg)(tl:TE):TI:=λσ H R=>tl σ H λx H1=>∃a,x=.ref a/\(∃xs,SqL K H1 a xs)/\R (Itl K a) H1
def iTup(K:Fg)(tl:TE):TI:=λσ H R=>tl σ H λx H1=>∃a,x=.ref a/\(∃xs,SqT K H1 a xs)/\R (Itt K a) H1
def aCK{l:Expr}(hl:PE X l tl):PI X tg l (pS X.K tl):=by
 intro aA s σ H R I h;refine thn (hl aA s σ H _ I h) λv s1 ⟨x,H1,I1,r1,q1⟩=>?_;obtain⟨a,e,⟨xs,hq⟩,q⟩:=q1;subst e;cases r1;obtain⟨its,rv,p,hz⟩:=I1.list hq;refine aQC p.isList ?_;refine⟨s1.heap.objs.size,[s1.heap.objs.size],_,_,H1,rfl,I1.kept (t':=s1.toks) λb o e=>hps e,aCH a _,⟨_,aPN _ rfl,rfl,rfl⟩,λb hb=>?_,q⟩;have e:b=s1.heap.objs.size:=by simpa using hb
 subst e;exact I1.fpOk (aQD _) (I1.hok.fresh (aQD _))
def aCL{l:Expr}(hl:PE X l tl):PI X tg l (iTup X.K tl):=by
 intro aA s σ H R I h;refine thn (hl aA s σ H _ I h) λv s1 ⟨x,H1,I1,r1,q1⟩=>?_;obtain⟨a,e,⟨xs,hq⟩,q⟩:=q1;subst e;cases r1;obtain⟨its,rv,p,hz⟩:=I1.tuple hq;refine wpAny_pyIter_tuple (show s1.heap.IsTuple a its.toArray from p) ?_
 refine⟨s1.heap.objs.size,[s1.heap.objs.size],_,_,H1,rfl,I1.kept (t':=s1.toks) λb o e=>hps e,aCI a _,⟨_,aPN _ rfl,rfl,rfl⟩,λb hb=>?_,q⟩;have e:b=s1.heap.objs.size:=by simpa using hb
 subst e;exact I1.fpOk (aQD _) (I1.hok.fresh (aQD _))
theorem aCM{σ:St}{R:It->Hp->Prop}{E:VSP}{lo hi:Int}{t u v:Tok}{tk:Nat}(I:Inv X aA σ H s)(h1:-(2 ^ 62)<=lo)(h2:lo<2 ^ 62)(h3:-(2 ^ 62)<=hi)(h4:hi<2 ^ 62)(q:R (Itr lo (hi-lo).toNat) H):wpAny (model X.prog X.w) X.A (pyIter (.ref s.heap.objs.size)) (PIE X aA σ tg R) E { s with heap:=s.heap.push { cls:=.type "range", data:=.fields #[.int lo t,.int hi u,.int 1 v] },toks:=tk }:=by
 refine wpAny_pyIter_range (IsRange.new ..) (small_one h1 h2 h3 h4) ?_;have I1:Inv X aA σ H { s with heap:=s.heap.push { cls:=.type "range", data:=.fields #[.int lo t,.int hi u,.int 1 v] },toks:=tk }:=I.kept λb o e=>hps e
 refine⟨(s.heap.push { cls:=.type "range", data:=.fields #[.int lo t,.int hi u,.int 1 v] }).objs.size,[(s.heap.push { cls:=.type "range", data:=.fields #[.int lo t,.int hi u,.int 1 v] }).objs.size],_,_,H,rfl,
  I1.kept (t':=tk) λb o e=>hps e,aCJ _ lo (hi-lo).toNat,?_,λb hb=>?_,q⟩
 . have e1:lo+((0:Nat):Int) * 1=lo:=by simp
   have e2:(((hi-lo).toNat:Nat):Int)-((0:Nat):Int)=Builtin.Range.rangeSize lo hi 1:=by rw[rangeSize_one];split <;> lia
   show IsRangeIter _ _ (lo+((0:Nat):Int) * 1) ((((hi-lo).toNat:Nat):Int)-((0:Nat):Int)) 1;rw[e1,e2];exact aPN _ rfl
 . have e:b=(s.heap.push { cls:=.type "range", data:=.fields #[.int lo t,.int hi u,.int 1 v] }).objs.size:=by simpa using hb
   subst e;exact I1.fpOk (aQD _) (I1.hok.fresh (aQD _))
def uI(ta:TA):TI:=λσ H R=>ta σ H λvs H1=>∃j:Int,vs=[.int j] /\ -(2 ^ 62)<=j/\j<2 ^ 62/\R (Itr 0 j.toNat) H1
theorem aCN{a:Expr}{ta:TA}{p:Pos}(hg:Gl X "range")(hm:X.mg "range" = none)(ha:PA X [a] ta)(hs:starEach [a] X.env=[(false,eval a X.env)]:=by rfl):PI X tg (.Call (.Name "range" p) [a] [] pos) (uI ta):=by
 intro aA s σ H R I h;refine Call_ (m9 I hg hm boot_range (aQE (thn (ha pos aA s σ H _ I h) λus s1 ⟨vs,H1,I1,r1,q1⟩=>?_) hs rfl));obtain⟨j,e,q1,q2,q⟩:=q1;subst e;cases r1 with
 |cons r rr=>cases rr;obtain⟨t,rfl⟩:=r;exact call_range_1 (aCM I1 (by lia) (by lia) q1 q2 (by simpa using q))
def tFor(wi:TI)(g:TG)(tb:TS):TS:=λD σ H=>wi σ H λJ H1=>∃W:Nat->Nat->St->Hp->Prop,(∃m,W 0 m σ H1)/\∀i m σ H,W i m σ H ->
 (J.stop i H/\D.nx σ H)\/(J.go i H/\∃N:St->Hp->Prop,(∀σ' H',N σ' H'->∃m',m'<m/\W (i+1) m' σ' H')/\∀x H',J.yld i H x H'->g x σ H' λσ2 H2=>tb {D with nx:=N,ct:=N,bk:=D.nx} σ2 H2)
noncomputable def iF(fp:List Addr)(h:Heap):LAO:=fp.filterMap λb=>(h.get? b).map λo=>(b,o)
def kQ{o:Obj}(hb:b∈fp)(e:h.get? b=some o):(b,o)∈iF fp h:=aQF.mpr ⟨b,hb,by rw[e];rfl⟩
def aCO{p:Addr×Obj}(hp:p∈iF fp h):p.1∈fp/\h.get? p.1=some p.2:=by
 obtain⟨b,hb,e⟩:=aQF.mp hp;cases q:h.get? b with
 |none=>rw[q]at e;cases e
 |some o=>rw[q]at e;have e':(b,o)=p:=aP4 e;subst e';exact⟨hb,q⟩
def Inv.pinned{σ:St}(I:Inv X aA σ H s)(hf:∀b∈fp,f9 X aA H b)(ho:∀b∈fp,∃o,s.heap.get? b=some o/\∀v,o.data ≠ .cell v):Inv X (aA++iF fp s.heap) σ H s :=
 I.pins_of λp hp=>(aPZ.mp hp).elim (λz=>I.pin p (aQG _ z)) λz=>by obtain⟨hb,e⟩:=aCO z;obtain⟨f0,f1,f2,_⟩:=hf p.1 hb;obtain⟨o,e',d⟩:=ho p.1 hb;rw[e]at e';cases e';exact⟨e,f0,f1,f2,d⟩
def Inv.unpinned{pl:LAO}{σ:St}(I:Inv X (aA++pl) σ H s):Inv X aA σ H s:=I.pins_of λp hp=>I.pin p (aQG _ (aP0 _ hp))
def aCP{g:TG}{tb:TS}(hp:PassesOwn (model X.prog X.w) X.A X.env X.xe)(hc:X.calm=true)(hi:PI X tg aF wi)(hg:PG X tg g)(hb:PSs X body tb)(hs:∀x,foldedSetIterable aF X.env x=pure x:=by intro _;rfl):PS X (.For tg aF body [] pos) (tFor wi g tb):=by
 intro aA s σ H D I h;refine wpAny_For (thn (hi aA s σ H _ I h) λv s1 h1=>thn h1 λitv s2 h2=>?_) hs;obtain⟨it,fp,tn,J,H2,e,I2,T,st2,f2,W,⟨m0,w0⟩,turn⟩:=h2;subst e;have stat:∀{H':Hp},(∀b∈fp,H' b=none)->∀b∈fp,f9 X aA H' b:=λhn b hb=>⟨hn b hb,(f2 b hb).2⟩;refine codeAny_forLoop_any (λn s'=>∃i σ' H',Inv X aA σ' H' s'/\tn i s'.heap/\(∀b∈fp,H' b=none)/\W i n σ' H') ?_ m0 ⟨0,σ,H2,I2,st2,λb hb=>(f2 b hb).1,w0⟩;rintro n s3 ⟨i,σ3,H3,I3,st3,fr3,w3⟩;rcases turn i n σ3 H3 w3 with⟨stop,qn⟩|⟨go,N,hN,step⟩
 . refine aQH hp (thn (T.done X rfl rfl rfl hc i aA s3 σ3 H3 X.xe I3 (stat fr3) st3 stop) λr s4 ⟨hr,I4⟩=>?_);subst hr;exact wpAny_execs_nil ⟨σ3,H3,I4,qn⟩
 . refine aQH hp (thn (T.item X rfl rfl rfl hc i aA s3 σ3 H3 X.xe I3 (stat fr3) st3 go) λr s4 ⟨u,hr,h4⟩=>?_);subst hr;refine aQH hp (thn h4 λ_ s5 ⟨x,H5,I5,r5,y5,st5,fr5⟩=>?_);have I5':=I5.pinned (stat fr5) (T.obj _ _ st5);refine aQH hp (thn (hg _ s5 σ3 H5 x u _ I5' r5 (step x H5 y5)) λ_ s6 ⟨σ6,H6,I6,q6⟩=>?_);refine aQH hp (thn (hb _ s6 σ6 H6 _ I6 q6) λf s7 q7=>?_);have again:∀{σ7:St}{H7:Hp},Inv X (aA++iF fp s5.heap) σ7 H7 s7->N σ7 H7->∃m,m<n/\∃i σ' H',Inv X aA σ' H' s7/\tn i s7.heap/\(∀b∈fp,H' b=none)/\W i m σ' H':=λ{σ7 H7} I7 n7=>by obtain⟨m',hm,w7⟩:=hN σ7 H7 n7;refine⟨m',hm,i+1,σ7,H7,I7.unpinned,T.keep _ _ _ st5 λb hb o e=>(I7.pin (b,o) (aQG _ (aQG _ (kQ hb e)))).1,λb hb=>?_,w7⟩;obtain⟨o,e,d⟩:=T.obj _ _ st5 b hb;exact(I7.pin (b,o) (aQG _ (aQG _ (kQ hb e)))).2.1
   cases f with
   |next=>obtain⟨σ7,H7,I7,n7⟩:=q7;exact again I7 n7
   |cont=>obtain⟨σ7,H7,I7,n7⟩:=q7;exact again I7 n7
   |brk=>obtain⟨σ7,H7,I7,q7⟩:=q7;exact⟨σ7,H7,I7.unpinned,q7⟩
   |ret v=>obtain⟨x7,σ7,H7,I7,r7,q7⟩:=q7;exact⟨x7,σ7,H7,I7.unpinned,r7,q7⟩
abbrev R2:=V->V->Hp->VK->Prop
def OpR(X:Cx)(f:aVT->aVT->Sem aVT)(r:R2):Prop :=
 ∀(aA:LAO) (s:aVU) (σ:St) (H:Hp) (x y:V) (v u:aVT) (Q:VK),Inv X aA σ H s->aJ x v->aJ y u->r x y H Q ->
  wpAny (model X.prog X.w) X.A (f v u) (EP X aA σ Q) X.xe s
def UnR(X:Cx)(f:aVT->Sem aVT)(r:V->Hp->VK->Prop):Prop :=
 ∀(aA:LAO) (s:aVU) (σ:St) (H:Hp) (x:V) (v:aVT) (Q:VK),Inv X aA σ H s->aJ x v->r x H Q ->
  wpAny (model X.prog X.w) X.A (f v) (EP X aA σ Q) X.xe s
def cT(X:Cx)(f:aVT)(r:List V->Hp->VK->Prop):Prop :=
 ∀(aA:LAO) (s:aVU) (σ:St) (H:Hp) (xs:List V) (us:List aVT) (Q:VK),Inv X aA σ H s->aL xs us->r xs H Q ->
  wpAny (model X.prog X.w) X.A (call f us) (EP X aA σ Q) X.xe s
def TruR(X:Cx)(r:V->Hp->(Bool->Hp->Prop)->Prop):Prop :=
 ∀(aA:LAO) (s:aVU) (σ:St) (H:Hp) (x:V) (v:aVT) (Q:Bool->Hp->Prop),Inv X aA σ H s->aJ x v->r x H Q ->
  wpAny (model X.prog X.w) X.A (truthy v) (TP X aA σ Q) X.xe s
def tOp(r:R2)(ta tb:TE):TE:=λσ H Q=>ta σ H λx H1=>tb σ H1 λy H2=>r x y H2 Q
def tUn(r:V->Hp->VK->Prop)(ta:TE):TE:=λσ H Q=>ta σ H λx H1=>r x H1 Q
def rI(C:Int->Int->Prop)(g:Int->Int->V):R2:=λx y H Q=>∃i j,x=.int i/\y=.int j/\C i j/\Q (g i j) H
def rI0(g:Int->Int->V):R2:=λx y H Q=>∃i j,x=.int i/\y=.int j/\Q (g i j) H
def rU(g:Int->V):V->Hp->VK->Prop:=λx H Q=>∃i,x=.int i/\Q (g i) H
section
variable  {a b:Expr}{tb tc:TE}
def pT(ha:PE X a ta)(hb:PE X b tb){σ:St}{R:V->V->Hp->Prop}(I:Inv X aA σ H s)(h:ta σ H λx H1=>tb σ H1 λy H2=>R x y H2){Q:VSP}{f:aVT->aVT->Sem aVT}(hf:∀v u s2 x y H2,Inv X aA σ H2 s2->aJ x v->aJ y u->R x y H2->wpAny (model X.prog X.w) X.A (f v u) Q X.xe s2):wpAny (model X.prog X.w) X.A (eval a X.env) (λv s₁=>wpAny (model X.prog X.w) X.A (eval b X.env) (λu s₂=>wpAny (model X.prog X.w) X.A (f v u) Q X.xe s₂) X.xe s₁) X.xe s:=by refine thn (ha aA s σ H _ I h) λv s1 ⟨x,H1,I1,r1,q1⟩=>?_;refine thn (hb aA s1 σ H1 _ I1 q1) λu s2 ⟨y,H2,I2,r2,q2⟩=>?_;exact hf v u s2 x y H2 I2 r1 r2 q2
def pe_op{op:Operator}{r:R2}(ho:OpR X (binaryOp op) r)(ha:PE X a ta)(hb:PE X b tb):PE X (.BinOp a op b pos) (tOp r ta tb):=by intro aA s σ H Q I h;exact wpAny_BinOp (pT ha hb I h λv u s2 x y H2 I2 rx ry q=>ho aA s2 σ H2 x y v u Q I2 rx ry q)
def pe_un{op:UnaryOp}{r:V->Hp->VK->Prop}(ho:UnR X (unaryOp op) r)(ha:PE X a ta):PE X (.UnaryOp op a pos) (tUn r ta):=by intro aA s σ H Q I h;exact UnaryOp_ (thn (ha aA s σ H _ I h) λv s1 ⟨x,H1,I1,r1,q1⟩=>ho aA s1 σ H1 x v Q I1 r1 q1)
def opI{f:aVT->aVT->Sem aVT}{C:Int->Int->Prop}{g:Int->Int->Int}(rule:∀(i j:Int) (t u:Tok) (s:aVU) (Q:VSP) (E:VSP),C i j->Q (.int (g i j) s.toks) {s with toks:=s.toks+1} -> wpAny (model X.prog X.w) X.A (f (.int i t) (.int j u)) Q E s):OpR X f (rI C λi j=>.int (g i j)):=by intro aA s σ H x y v u Q I rx ry h;obtain⟨i,j,rfl,rfl,hc,q⟩:=h;obtain⟨t,rfl⟩:=rx;obtain⟨t',rfl⟩:=ry;exact rule i j t t' s _ _ hc ⟨.int (g i j),H,I.tok _,⟨_,rfl⟩,q⟩
def opI0{f:aVT->aVT->Sem aVT}{g:Int->Int->Int}(rule:∀(i j:Int) (t u:Tok) (s:aVU) (Q:VSP) (E:VSP),Q (.int (g i j) s.toks) {s with toks:=s.toks+1} -> wpAny (model X.prog X.w) X.A (f (.int i t) (.int j u)) Q E s):OpR X f (rI0 λi j=>.int (g i j)):=by intro aA s σ H x y v u Q I rx ry h;obtain⟨i,j,rfl,rfl,q⟩:=h;obtain⟨t,rfl⟩:=rx;obtain⟨t',rfl⟩:=ry;exact rule i j t t' s _ _ ⟨.int (g i j),H,I.tok _,⟨_,rfl⟩,q⟩
def nA{f:aVT->aVT->Sem aVT}{g:Int->Int->Bool}(rule:∀(i j:Int) (t u:Tok) (s:aVU) (Q:VSP) (E:VSP),Q (.bool (g i j)) s->wpAny (model X.prog X.w) X.A (f (.int i t) (.int j u)) Q E s):OpR X f (rI0 λi j=>.bl (g i j)):=by intro aA s σ H x y v u Q I rx ry h;obtain⟨i,j,rfl,rfl,q⟩:=h;obtain⟨t,rfl⟩:=rx;obtain⟨t',rfl⟩:=ry;exact rule i j t t' s _ _ ⟨.bl (g i j),H,I,rfl,q⟩
def CPow(i j:Int):Prop:=0<=j/\j<=1000000/\i.natAbs<2 ^ 64
def aCQ:OpR X (binaryOp .Add) (rI0 λi j=>.int (i+j)):=opI0 λ_ _ _ _ _ _ _ q=>add_int q
def aCR:OpR X (binaryOp .Sub) (rI0 λi j=>.int (i-j)):=opI0 λ_ _ _ _ _ _ _ q=>sub_int q
theorem aCS:OpR X (binaryOp .Mod) (rI (λ_ j=>0<j) λi j=>.int (i % j)):=opI λi j _ _ _ _ _ hc q=>by have h1:(0:Int)<j:=hc;exact mod_int' (by lia) (by rw[Int.fmod_eq_emod_of_nonneg i (by lia)];exact q)
def aCT:OpR X (binaryOp .Pow) (rI CPow λi j=>.int (i ^ j.toNat)):=opI λ_ _ _ _ _ _ _ hc q=>pow_int_small hc.1 hc.2.1 hc.2.2 q
def unI{f:aVT->Sem aVT}{g:Int->Int}(rule:∀(i:Int) (t:Tok) (s:aVU) (Q:VSP) (E:VSP),Q (.int (g i) s.toks) {s with toks:=s.toks+1} -> wpAny (model X.prog X.w) X.A (f (.int i t)) Q E s):UnR X f (rU λi=>.int (g i)):=by intro aA s σ H x v Q I rx h;obtain⟨i,rfl,q⟩:=h;obtain⟨t,rfl⟩:=rx;exact rule i t s _ _ ⟨.int (g i),H,I.tok _,⟨_,rfl⟩,q⟩
def aCU:UnR X (unaryOp .USub) (rU λi=>.int (-i)):=unI λ_ _ _ _ _ q=>neg_int q
end
section
variable  {a b:Expr}{tb tc:TE}
def nB{σ:St}{Q:VK}{k k':Bool}(I:Inv X aA σ H s)(q:Q (.bl k) H)(e:k=k'):EP X aA σ Q (.bool k') s:=by subst e;exact⟨.bl k,H,I,rfl,q⟩
def op_lt:OpR X (compareOp .Lt) (rI0 λi j=>.bl (decide (i<j))):=nA λ_ _ _ _ _ _ _ q=>lt_int q
def op_le:OpR X (compareOp .LtE) (rI0 λi j=>.bl (decide (i<=j))):=nA λ_ _ _ _ _ _ _ q=>le_int q
def op_gt:OpR X (compareOp .Gt) (rI0 λi j=>.bl (decide (j<i))):=nA λ_ _ _ _ _ _ _ q=>gt_int q
def op_ge:OpR X (compareOp .GtE) (rI0 λi j=>.bl (decide (j<=i))):=nA λ_ _ _ _ _ _ _ q=>ge_int q
def aCV:OpR X (compareOp .In) (λx y H Q=>∃i j,x=.str i/\y=.str j/\Q (.bl (!(Builtin.Str.occurrences j i 0 j.length 1).isEmpty)) H):=by intro aA s σ H x y v u Q I rx ry h;obtain⟨i,j,rfl,rfl,q⟩:=h;obtain⟨t,rfl⟩:=rx;obtain⟨t',rfl⟩:=ry;exact in_str (nB I q rfl)
def aCW:OpR X (compareOp .Is) (λx y H Q=>y=.non/\Q (.bl (decide (x=.non))) H):=by
 intro aA s σ H x y v u Q I rx ry h;obtain⟨rfl,q⟩:=h;cases ry;refine is_none_gen (nB I q ?_);cases x <;> first
  |(cases rx;rfl)
  |(obtain⟨t,rfl⟩:=rx;rfl)
def aCX:OpR X (compareOp .IsNot) (λx y H Q=>y=.non/\Q (.bl (!decide (x=.non))) H):=by
 intro aA s σ H x y v u Q I rx ry h;obtain⟨rfl,q⟩:=h;cases ry;refine isnot_none_gen (nB I q ?_);cases x <;> first
  |(cases rx;rfl)
  |(obtain⟨t,rfl⟩:=rx;rfl)
def aCY:OpR X (compareOp .NotIn) (λx y H Q=>∃i j,x=.str i/\y=.str j/\Q (.bl (!(!(Builtin.Str.occurrences j i 0 j.length 1).isEmpty))) H):=by intro aA s σ H x y v u Q I rx ry h;obtain⟨i,j,rfl,rfl,q⟩:=h;obtain⟨t,rfl⟩:=rx;obtain⟨t',rfl⟩:=ry;exact notIn_str (nB I q rfl)
def OpR.or{f:aVT->aVT->Sem aVT}{r r':R2}(h:OpR X f r)(h':OpR X f r'):OpR X f (λx y H Q=>r x y H Q\/r' x y H Q):=by
 intro aA s σ H x y v u Q I rx ry q;rcases q with q|q
 . exact h aA s σ H x y v u Q I rx ry q
 . exact h' aA s σ H x y v u Q I rx ry q
def aCZ{op:CmpOp}{r:R2}(ho:OpR X (compareOp op) r)(ha:PE X a ta)(hb:PE X b tb)(hm:behindInMarks op b=false):PE X (.Compare a [op] [b] pos) (tOp r ta tb):=by intro aA s σ H Q I h;exact wpAny_Compare1 (pT ha hb I h λv u s2 x y H2 I2 rx ry q=>ho aA s2 σ H2 x y v u Q I2 rx ry q) hm
def uJ(t:TE):TT:=λσ H Q=>t σ H λx H'=>∃k,x=.bl k/\Q k H'
def aC0{op:CmpOp}{r:R2}(ho:OpR X (compareOp op) r)(ha:PE X a ta)(hb:PE X b tb)(hm:behindInMarks op b=false):PT X (.Compare a [op] [b] pos) (uJ (tOp r ta tb)):=by
 intro aA s σ H Q I h;refine wpAny_isTrue_Compare1 (thn (ha aA s σ H _ I h) λv s1 ⟨x,H1,I1,r1,q1⟩=>thn (hb aA s1 σ H1 _ I1 q1) λu s2 ⟨y,H2,I2,r2,q2⟩ =>
  thn (ho aA s2 σ H2 x y v u _ I2 r1 r2 q2) λc s3 ⟨z,H3,I3,r3,k,e,q3⟩=>?_) hm
 subst e;cases r3;exact aP6 ⟨H3,I3,q3⟩
def pU(K:Fg)(x:V)(H:Hp)(k:Bool):Prop :=
 match x with
 |.non=>k=false
 |.bl b=>k=b
 |.int i=>k=(i != 0)
 |.str y=>y.length<=sizeLine/\k=((y.length:Int) != 0)
 |.byt y=>y.size<=sizeLine/\k=((y.size:Int) != 0)
 |.ref p=>(∃xs,SqL K H p xs/\k = !xs.isEmpty)\/(∃xs,SqT K H p xs/\k = !xs.isEmpty)\/∃kvs,H p=some (.dK kvs)/\k = !kvs.isEmpty
 |_=>False
def aC1{kvs:List (κ×V)}{vs:List (κ×aVT)}(r:KV kvs vs):(!vs.isEmpty) = !kvs.isEmpty:=by cases r <;> rfl
def uK(r:aL xs its):(!its.toArray.isEmpty) = !xs.isEmpty:=by cases r <;> simp
def jF:(sizeLine:Nat)<2 ^ 63:=by rw[aQI];decide
theorem aC2:TruR X (λx H Q=>∃k,pU X.K x H k/\Q k H):=by
 intro aA s σ H x v Q I rx h;obtain⟨k,e,q⟩:=h;have hl:=jF;have hs:sizeLine=16777216:=aQI;cases x with
 |non=>cases rx;have e':k=false:=e;subst e';exact truthy_none ⟨H,I,q⟩
 |bl b=>cases rx;have e':k=b:=e;subst e';exact aP6 ⟨H,I,q⟩
 |int i=>obtain⟨t,rfl⟩:=rx;have e':k=(i != 0):=e;subst e';exact PySem.P.truthy_int ⟨H,I,q⟩
 |str y=>obtain⟨t,rfl⟩:=rx;obtain⟨hy,e'⟩:y.length<=sizeLine/\k=((y.length:Int) != 0):=e;subst e';exact PySem.P.truthy_str (by lia) ⟨H,I.tok _,q⟩
 |byt y=>obtain⟨t,rfl⟩:=rx;obtain⟨hy,e'⟩:y.size<=sizeLine/\k=((y.size:Int) != 0):=e;subst e';exact W.truthy_bytes (by lia) ⟨H,I.tok _,q⟩
 |ref p =>
  cases rx;have e':(∃xs,SqL X.K H p xs/\k = !xs.isEmpty)\/(∃xs,SqT X.K H p xs/\k = !xs.isEmpty)\/∃kvs,H p=some (.dK kvs)/\k = !kvs.isEmpty:=e;rcases e' with⟨xs,hx,e'⟩|⟨xs,hx,e'⟩|⟨kvs,hx,e'⟩
  . subst e';obtain⟨its,r,pl,hz⟩:=I.list hx;have hlen:=r.length;exact wpAny_truthy_list pl.isList (by simp only[aQJ];lia) ⟨H,I.tok _,by rw[uK r];exact q⟩
  . subst e';obtain⟨its,r,pl,hz⟩:=I.tuple hx;have hlen:=r.length;exact truthy_tuple pl (by simp only[aQJ];lia) ⟨H,I.tok _,by rw[uK r];exact q⟩
  . subst e';obtain⟨hz,hS,vs,r,m⟩:kvs.length<=sizeLine/\(p==sysModules)=false/\∃vs,KV kvs vs/\s.heap.DictOf (jA X.prog X.w) p vs:=I.hok p _ hx;have hlen:kvs.length=vs.length:=aPM r;exact wpAny_truthy_dict hS m (by lia) ⟨H,I.tok _,by rw[aC1 r];exact q⟩
 |_=>exact(show False from e).elim
def aC3 (ha : PE X a ta) (he : ∀ whole, isTrue a X.env whole = (do let v ← whole; standAt a.pos; holding [v] (truthy v))) :
    PT X a (λσ H Q=>ta σ H λx H'=>∃k,pU X.K x H' k/\Q k H'):=by
 intro aA s σ H Q I h;exact isTrue_plain (thn (ha aA s σ H _ I h) λv s1 ⟨x,H1,I1,r1,q1⟩=>aC2 aA s1 σ H1 x v Q I1 r1 q1) (he _)
def aC4:OpR X (binaryOp .Add) (λx y H Q=>∃i j,x=.str i/\y=.str j/\i.length+j.length<=sizeLine/\Q (.str (i++j)) H):=by intro aA s σ H x y v u Q I rx ry h;obtain⟨i,j,rfl,rfl,hz,q⟩:=h;obtain⟨t,rfl⟩:=rx;obtain⟨t',rfl⟩:=ry;exact add_str (λt' tk=>⟨.str (i++j),H,I.tok _,⟨_,rfl⟩,q⟩) hz
def eY{x:V}(r:aL [x] us):∃u,us=[u]/\aJ x u:=by
 cases r with
 |cons r1 r2=>cases r2;exact⟨_,rfl,r1⟩
def vals2{x y:V}(r:aL [x,y] us):∃u w',us=[u,w']/\aJ x u/\aJ y w':=by
 cases r with
 |cons r1 r2 =>
  cases r2 with
  |cons r3 r4=>cases r4;exact⟨_,_,rfl,r1,r3⟩
def aC5:cT X (.type "int") (λxs H Q=>(∃i,xs=[.int i]/\Q (.int i) H)\/∃k,xs=[.bl k]/\Q (.int (if k then 1 else 0)) H):=by
 intro aA s σ H xs us Q I r h;rcases h with⟨i,rfl,q⟩|⟨k,rfl,q⟩
 . obtain⟨u,rfl,t,rfl⟩:=eY r;exact call_int_int ⟨.int i,H,I,⟨_,rfl⟩,q⟩
 . obtain⟨u,rfl,r1⟩:=eY r;cases r1;exact call_int_bool ⟨.int (if k then 1 else 0),H,I.tok _,⟨_,rfl⟩,q⟩
def aC6:cT X (.type "str") (λxs H Q=>∃i,xs=[.int i]/\i.natAbs.log2<1920/\Q (.str (toString i)) H):=by intro aA s σ H xs us Q I r h;obtain⟨i,rfl,hz,q⟩:=h;obtain⟨u,rfl,t,rfl⟩:=eY r;exact PySem.P.str_of_int hz ⟨.str _,H,I.tok _,⟨_,rfl⟩,q⟩
def LenV(K:Fg)(x:V)(H:Hp)(n:Nat):Prop :=
 match x with
 |.str y=>y.length<=sizeLine/\n=y.length
 |.byt y=>y.size<=sizeLine/\n=y.size
 |.ref p=>(∃xs,SqL K H p xs/\n=xs.length)\/∃xs,SqT K H p xs/\n=xs.length
 |_=>False
theorem aC7:cT X (.builtin "len") (λxs H Q=>∃x n,xs=[x]/\LenV X.K x H n/\Q (.int n) H):=by
 intro aA s σ H xs us Q I r h;obtain⟨x,n,rfl,e,q⟩:=h;obtain⟨u,rfl,rx⟩:=eY r;have hl:=jF;have hs:sizeLine=16777216:=aQI;cases x with
 |str y=>obtain⟨t,rfl⟩:=rx;obtain⟨hy,e'⟩:y.length<=sizeLine/\n=y.length:=e;subst e';exact len_str (by lia) ⟨.int _,H,I.tok _,⟨_,rfl⟩,q⟩
 |byt y=>obtain⟨t,rfl⟩:=rx;obtain⟨hy,e'⟩:y.size<=sizeLine/\n=y.size:=e;subst e';exact W.len_bytes (by lia) ⟨.int _,H,I.tok _,⟨_,rfl⟩,q⟩
 |ref p =>
  cases rx;have e':(∃xs,SqL X.K H p xs/\n=xs.length)\/∃xs,SqT X.K H p xs/\n=xs.length:=e;rcases e' with⟨xs,hx,e'⟩|⟨xs,hx,e'⟩
  . subst e';obtain⟨its,r',pl,hz⟩:=I.list hx;have hlen:=r'.length;exact Calls.call_len_list pl.isList (by simp only[aQJ];lia) ⟨.int xs.length,H,I.tok _,⟨_,by simp only[aQJ];rw[hlen]⟩,q⟩
  . subst e';obtain⟨its,r',pl,hz⟩:=I.tuple hx;have hlen:=r'.length;exact len_tuple pl (by simp only[aQJ];lia) ⟨.int xs.length,H,I.tok _,⟨_,by simp only[aQJ];rw[hlen]⟩,q⟩
 |_=>exact(show False from e).elim
end
structure nC(h:Heap)(x dx C:Addr)(mA:SOV):Prop where
 obj:h.get? x=some (W.instObj C dx)
 ns:h.Ns1 dx mA
 ne:dx≠x
def aC8(n:h.Ns1 dx mA):∃od,h.get? dx=some od/\∀name,W.lookIn name od=some (mA name):=by
 obtain⟨o,es,ep,ho,hd,hk,_,hm⟩:=n;refine⟨o,ho,λname=>?_⟩;have e:=hm name;unfold nsFind findBy at e;rw[<- Array.find?_toList]at e;unfold W.lookIn;rw[hd];dsimp only;split
 . rename_i y q;rw[q]at e;exact congrArg some e
 . rename_i q;rw[q]at e;have a:es.toList.any (·.refKey)=false:=by rw[List.any_eq_false];intro y hy;obtain⟨z,t,hkey⟩:=hk y (aQK.mp hy);simp[DictEntry.refKey,hkey]
   have a':¬ es.toList.any (·.refKey)=true:=by rw[a];exact aQL
   rw[if_neg a'];exact congrArg some e
def nC.look{x C:Addr}(I:nC h x dx C mA):∃od,W.InstAt h x (W.instObj C dx) C (some od)/\∀name,W.lookIn name od=some (mA name) :=
 let⟨od,ho,hl⟩:=aC8 I.ns
 ⟨od,⟨I.obj,rfl,rfl,ho⟩,hl⟩
section
variable {A:aVV}{E:VSP}{K:Fg}{x C f:Addr}{name:Str}{v:aVT}
def aC9{pl:Sem Bool}{Q:aVT×List aVT->aVU->Prop}(X:K.In s.heap)(I:nC s.heap x dx C mA)(hg:W.plainGet K C name=true)(hf:W.findIn K (.ref C) name=some (some (.ref f)))(ht:W.isFn K (.ref f)=true)(hv:mA name=none)(h:Q (.ref f,[.ref x]) s):wpAny (model prog w) A (getMethod (.ref x) name pl) Q E s:=by obtain⟨od,J,hl⟩:=I.look;exact W.method_fn X J (W.plainGet_of hg).1 (W.plainGet_of hg).2 hf (aQM.mp ht) (by show(W.lookIn name od).map (·.isSome)=some false;rw[hl,hv];rfl) h
def aDA{R:Result->aVU->Prop}(X:K.In s.heap)(hm:W.makesIn K C=true)(hi:W.findIn K (.ref C) "__init__" = some (some (.builtin "object.__init__")))(hb:∀self,W.Looks (model prog w) s.heap (bindSpecial (.builtin "object.__init__") self) (.builtin "object.__init__", [self]))(h:codeAny (model prog w) (A.under (.builtin "type.__call__" ⟨[.ref C],[]⟩)) (.call (.builtin "object.__init__") ⟨[.ref (s.heap.objs.size+1)],[]⟩) (W.InitBack (s.heap.objs.size+1) R) {s with heap:=(s.heap.push W.emptyDict).push (W.instObj C s.heap.objs.size)}):codeAny (model prog w) A (.call (.ref C) ⟨[],[]⟩) R s:=by obtain⟨hh,g,d,t,os⟩:=s;exact W.make_core (W.makes_of X hm) (W.looks_findIn X hi) hb (.inr ⟨rfl,rfl⟩) h
end
def dY.some_of{o:Option aVT}(r:dY (some v) o):∃u,o=some u/\aJ v u:=by
 cases o with
 |none=>exact(show False from r).elim
 |some u=>exact⟨u,rfl,r⟩
def dY.none_of{o:Option aVT}(r:dY none o):o=none:=by
 cases o with
 |none=>rfl
 |some u=>exact(show False from r).elim
section
variable  {a C:Addr}{fs fs':List (Str×V)}
def aDB(hok:HOk P w H h)(e:H a=some (.ins C dx fs)):∃mA,nC h a dx C mA/\(∀f,dY (fs.lookup f) (mA f))/\PySem.Within mA (fs.map (·.1))/\fs.length<=1000/\H dx=some (.own a):=by
 obtain⟨d,z,ne,ob,mA,n,r,q⟩:=(show bL P w H h a (.ins C dx fs)from hok a _ e)
 exact⟨mA,⟨ob,n,ne⟩,r,q,z,d⟩
end
structure Cls(K:Fg)(C:Addr):Prop where
 pg:W.plainGet K C Str.empty=true
 hd:W.hasDictIn K C=true
 po:W.plainOver K C=true
 sa:W.findIn K (.ref C) "__setattr__" = some (some (.builtin "object.__setattr__"))
def Cls.get{K:Fg}{C:Addr}(c:Cls K C)(f:Str):W.plainGet K C f=true:=c.pg
def pV(K:Fg)(C:Addr)(f:Str):Prop:=W.findIn K (.ref C) f=some none
structure kR(K:Fg)(C:Addr)(m:Str)(f:Addr):Prop where
 at_:W.findIn K (.ref C) m=some (some (.ref f))
 fn:W.isFn K (.ref f)=true
 kp:W.keepIn K (.ref f)=true
section
variable {σ:St}{a C:Addr}{fs:List (Str×V)}{f:Str}{A:aVV}{E:VSP}
def aDC{m:Str}{g:Addr}{pl:Sem Bool}{Q:aVT×List aVT->aVU->Prop}(I:Inv X aA σ H s)(e:H a=some (.ins C dx fs))(c:Cls X.K C)(k:kR X.K C m g)(l:fs.lookup m=none)(h:Q (.ref g,[.ref a]) s):wpAny (model X.prog X.w) A (getMethod (.ref a) m pl) Q E s:=by
 obtain⟨mA,O,r,_,_,_⟩:=aDB I.hok e;have hn:mA m=none:=dY.none_of (by rw[<- l];exact r m)
 exact aC9 I.kIn O (c.get m) k.at_ k.fn hn h
def Inv.made(I:Inv X aA σ H s):Inv X aA σ (upd (upd H s.heap.objs.size (.own (s.heap.objs.size+1))) (s.heap.objs.size+1) (.ins C s.heap.objs.size [])) {s with heap:=(s.heap.push W.emptyDict).push (W.instObj C s.heap.objs.size)}:=by
 have e1:(s.heap.push W.emptyDict).get? s.heap.objs.size=some W.emptyDict:=aPN s.heap rfl;have e2:((s.heap.push W.emptyDict).push (W.instObj C s.heap.objs.size)).get? (s.heap.objs.size+1)=some (W.instObj C s.heap.objs.size):=by
  have:=aPN (s.heap.push W.emptyDict) (o:=W.instObj C s.heap.objs.size) rfl
  rwa [aQN]at this
 have e3:(s.heap.push W.emptyDict).Ns s.heap.objs.size (λ_=>none):=⟨W.emptyDict,#[],_,e1,rfl,(λe he=>absurd he (by simp)),λ_=>rfl⟩
 have I1:=I.laid (a:=s.heap.objs.size) (o:=.own (s.heap.objs.size+1)) (h':=s.heap.push W.emptyDict) (t':=s.toks) (λb u q=>hps q) (aQD _) ⟨_,e1⟩;refine I1.laid (a:=s.heap.objs.size+1) (o:=.ins C s.heap.objs.size []) (t':=s.toks) (λb u q=>hps q) (Nat.le_of_eq (aQN _ _)) ?_;have ne:s.heap.objs.size≠s.heap.objs.size+1:=aPR (aQO _);refine⟨by rw[aP ne,bE],aQP _,ne,e2,λ_=>none,(Heap.Ns1.of_empty e3).at λo q=>hps q,λ_=>True.intro,λy hy=>absurd rfl hy⟩
end
section
variable  {o value:Expr}{f:Str}{tpos:Pos}{tv:TE}
def aDD {pl : Sem Bool} {m : Str} {apos : Pos} {args : List Expr} {aA : List (Addr × Obj)} {s : aVU} {σ : St} {H : Hp} {Q : aVT → aVU → Prop} {te : TE} (he : PE X e te) (I : Inv X aA σ H s) (h : te σ H fun x H1 => ∃ a C dx fs g, x = .ref a ∧ H1 a = some (.ins C dx fs) ∧ Cls X.K C ∧ kR X.K C m g ∧ fs.lookup m = none ∧ ∀ s1, Inv X aA σ H1 s1 → wpAny (model X.prog X.w) X.A (callWith pos (.ref g) [.ref a] (backTo pos (starEach args X.env)) (backToKw pos (keywordEach [] X.env))) Q X.xe s1)
    (ht:eval (.Call (.Attribute e m apos) args [] pos) X.env=(do
     let ov <- eval e X.env
     standAt apos.atName
     let(f,first) <- holding [ov] (getMethod ov m pl)
     callWith pos f first (backTo pos (starEach args X.env)) (backToKw pos (keywordEach [] X.env)))) :
    wpAny (model X.prog X.w) X.A (eval (.Call (.Attribute e m apos) args [] pos) X.env) Q X.xe s:=by
 refine W.methodCall_KW (pl:=pl) (thn (he aA s σ H _ I h) λu s1 ⟨x,H1,I1,rx,a,C,dx,fs,g,ex,ea,c,k,l,q⟩=>?_) ht;subst ex;obtain rfl:u=Value.ref a:=rx;exact aDC I1 ea c k l (q s1 I1)
end
section
variable {σ:St}{A:aVV}{E:VSP}{Q:VSP}{c:aVT}{b:Bool}
end
structure cM(k:Nat)(A:aVV):Prop where
 hd:A.handled=none
 dp:A.depth+3 * k+5<recursionLimit
 un:A.units+16 * k+200<cLine
theorem cM.deeper{A:aVV}(r:cM (k+1) A)(env:Env):cM k (A.deeper env) :=
 ⟨r.hd,by have:=r.dp;show A.depth+1+3 * k+5<_;lia,by have:=r.un;show A.units+3+16 * k+200<_;lia⟩
theorem cM.depth{A:aVV}(r:cM k A):A.depth<recursionLimit:=by have:=r.dp;lia
theorem cM.units{A:aVV}(r:cM k A):A.units+64<cLine:=by have:=r.un;lia
def pW:TA:=λ_ H Q=>Q [] H
def kS(ta:TE)(tr:TA):TA:=λσ H Q=>ta σ H λx H1=>tr σ H1 λxs H2=>Q (x::xs) H2
section
variable {es:List Expr}{t:TA}
def nE:PA X [] pW:=λ_ _ _ _ H Q I h=>Calls.spliced_nil ⟨[],H,I,.nil,h⟩
def nF(ha:PE X e te)(hr:PA X es t)(hs:starEach (e::es) X.env=(false,eval e X.env)::starEach es X.env:=by rfl):PA X (e::es) (kS te t):=by intro pos aA s σ H Q I h;rw[hs];show wpAny _ _ (spliced ((false,eval e X.env)::backTo pos (starEach es X.env))) _ _ s;refine aQQ (thn (ha aA s σ H _ I h) λu s1 ⟨x,H1,I1,r1,q1⟩=>?_);exact thn (hr pos aA s1 σ H1 _ I1 q1) λus s2 ⟨xs,H2,I2,r2,q2⟩=>⟨x::xs,H2,I2,.cons r1 r2,q2⟩
def tTup(t:TA):TE:=λσ H Q=>t σ H λxs H1=>xs.length<=sizeLine/\∀p,H1 p=none->Q (.ref p) (upd H1 p (.tup xs))
def tLst(t:TA):TE:=λσ H Q=>t σ H λxs H1=>xs.length<=sizeLine/\∀p,H1 p=none->Q (.ref p) (upd H1 p (.lst xs))
def aDE{x1}(h:PA X es t):PE X (.Tuple es x1 pos) (tTup t):=by
 intro aA s σ H Q I hq;refine wpAny_Tuple_spliced (thn (h pos aA s σ H _ I hq) λus s1 ⟨xs,H1,I1,r,z,q⟩=>⟨by rw[<- r.length];exact z,?_⟩)
 have hf:H1 s1.heap.objs.size=none:=I1.hok.fresh (aQD _);refine⟨.ref s1.heap.objs.size,upd H1 s1.heap.objs.size (.tup xs),I1.laid (t':=s1.toks) (λb u e=>hps e) (aQD _) ?_,rfl,q _ hf⟩;exact⟨z,us,r,⟨_,aPN _ rfl,rfl,rfl,_,rfl⟩⟩
def aDF(h:PA X es t):PE X (.List es pos) (tLst t):=by
 intro aA s σ H Q I hq;refine wpAny_List_spliced (thn (h pos aA s σ H _ I hq) λus s1 ⟨xs,H1,I1,r,z,q⟩=>⟨by rw[<- r.length];exact z,?_⟩)
 have hf:H1 s1.heap.objs.size=none:=I1.hok.fresh (aQD _);refine⟨.ref s1.heap.objs.size,upd H1 s1.heap.objs.size (.lst xs),I1.laid (t':=s1.toks) (λb u e=>hps e) (aQD _) ?_,rfl,q _ hf⟩;exact⟨z,us,0,r,aPN _ rfl⟩
end
abbrev Sp:=List V->Hp->VK->XK->Prop
abbrev CXT:=List Env->Hp->aVU->XK->aVT->aVU->Prop
structure nG(P:aVX)(w:aVW)(K:Fg)(mg:SOV)(base:Heap)(A:aVV)(outer:List Env)(s:aVU)(H:Hp):Prop where
 frames:A.frames=some outer
 mod:Mod K mg base
 bs:∀b o,base.get? b=some o->s.heap.get? b=some o/\H b=none
 bsz:base.objs.size<=s.heap.objs.size
 funs:s.heap.FunFrames base outer
 frf:∀b∈frs outer,H b=none
 hok:HOk P w H s.heap
 bare:AllBare s.gens
 tabs:jB K base H
noncomputable def CE(outer:List Env)(P:aVX)(w:aVW)(H:Hp)(s:aVU)(Q:VK)(u:aVT)(s':aVU):Prop :=
 ∃v H',s'.os=s.os/\AllBare s'.gens/\Un (frs outer) [] H H' s.heap s'.heap/\HOk P w H' s'.heap/\aJ v u/\Q v H'
def CR(CX:CXT)(outer:List Env)(P:aVX)(w:aVW)(H:Hp)(s:aVU)(Q:VK)(E:XK)(r:Result)(s':aVU):Prop :=
 match r with
 |.ok (.ret u)=>CE outer P w H s Q u s'
 |.ok _=>False
 |.error e=>CX outer H s E e s'
structure cU(P:aVX)(w:aVW)(K:Fg)(mg:SOV)(base:Heap)(CX:CXT)(k:Nat)(f:Addr)(fd:FuncData)(ps:List Str)(sp:Sp):Prop where
 len:∀vs H Q E,sp vs H Q E->vs.length=ps.length
 run:∀(A:aVV) (outer:List Env) (s:aVU) (H:Hp) (args:Args) (us:List aVT) (vs:List V) (Q:VK) (E:XK),cM k A->nG P w K mg base A outer s H->BindsTo s fd args (ps.zip us)->aL vs us->sp vs H Q E ->
  codeAny (model P w) A (.call (.ref f) args) (CR CX outer P w H s Q E) s
def cU.imp{K:Fg}{CX:CXT}{f:Addr}{sp sp':Sp}(F:cU P w K mg base CX k f fd ps sp)(h:∀vs H Q E,sp' vs H Q E->sp vs H Q E):cU P w K mg base CX k f fd ps sp' :=
 ⟨λvs H Q E q=>F.len vs H Q E (h _ _ _ _ q),λA outer s H args us vs Q E hr he hb hv hs=>F.run A outer s H args us vs Q E hr he hb hv (h _ _ _ _ hs)⟩
section
variable {σ:St}
def Inv.env0(I:Inv X aA σ H s):nG X.prog X.w X.K X.mg X.base X.A X.stack s H :=
 ⟨I.ok.frames,I.ok.mod,I.bs,aPV I.ok.bsz I.sz,I.stack,I.stkFree,I.hok,I.bare,I.ok.tabs.mono I.base.tbls⟩
def Inv.after{Q:VK}(I:Inv X aA σ H s)(h:CE X.stack X.prog X.w H s Q u s'):EP X aA σ Q u s':=by obtain⟨v,H',os,bare,un,hok,r,q⟩:=h;obtain⟨hh,g,d,t,os'⟩:=s';obtain rfl:os'=s.os:=os;exact⟨v,H',I.call (h':=hh) (g':=g) (d':=d) (t':=t) (ch:=[]) un hok bare (λb z=>absurd z (by simp)),r,q⟩
end
end L2
variable {CX:L2.CXT}{sp:L2.Sp}
namespace L2
def fP(K:Fg)(fd:FuncData)(ps:List Str)(ds:List aVT):Prop :=
 ∀(s:aVU) (us:List aVT),K.In s.heap->(us++ds).length=ps.length->BindsTo s fd ⟨us,[]⟩ (ps.zip (us++ds))
def fP.all{K:Fg}(h:∀us:List aVT,us.length=ps.length->bindArgs fd ⟨us,[]⟩=pure (ps.zip us)):fP K fd ps []:=λs us _ hl=>by rw[aQR]at hl ⊢;exact .of_eq (h us hl)
section
variable {f C:Addr}{dvs:List V}{ds:List aVT}{E:XK}{m:Str}{p:Pos}{o:Expr}{es:List Expr}{t:TA}
structure Mk(K:Fg)(C f:Addr):Prop where
 makes:W.makesIn K C=true
 init:W.findIn K (.ref C) "__init__" = some (some (.ref f))
 fn:W.isFn K (.ref f)=true
 kp:W.keepIn K (.ref C)=true
end
section
variable {f C:Addr}{ks:List Str}{E:XK}{m:Str}{p kpos:Pos}{o:Expr}{es:List Expr}{kws:List Keyword}{t tk:TA}{nm:Option Str}
variable {g:List aVT->List aVT->List aVT}{gV:List V->List V->List V}
end
structure nH(N P:List Str)(sc:Scope):Prop where
 kind:sc.kind=.function
 co:sc.isCoroutine=false
 gen:sc.isGenerator=false
 nd:N.Nodup
 pre:N.take P.length=P
 par:∀x∈P,sc.names.lookup x=some .local\/sc.names.lookup x=some .cell
 nofree:∀y∈sc.names,y.2 ≠ .free
theorem uL{kindOf:Str->Option NameKind}{x:Str}:∀{binds:List (Str×aVT)}{m:SOV},(∀v,(x,v)∉binds)->bindL kindOf binds m x=m x
 |[],_,_=>rfl
 |(n,v)::r,m,h=>by
  unfold bindL;rw[uL λw hw=>h w (mcm hw)];split
  . have:x≠n:=by rintro rfl;exact h v mcs
    simp[this]
  . rfl
theorem uM{kindOf:Str->Option NameKind}{x:Str}:∀{binds:List (Str×aVT)}{m:SOV},(∀v,(x,v)∉binds)->bindC kindOf binds m x=m x
 |[],_,_=>rfl
 |(n,v)::r,m,h=>by
  unfold bindC;rw[uM λw hw=>h w (mcm hw)];split
  . rfl
  . have:x≠n:=by rintro rfl;exact h v mcs
    simp[this]
theorem uO{kindOf:Str->Option NameKind}{x:Str}{v:aVT}:∀{P:List Str}{vs:List aVT}{i:Nat}{m:SOV},P.Nodup->P[i]? = some x->vs[i]? = some v->kindOf x=some .local->bindL kindOf (P.zip vs) m x=some v
 |[],_,_,_,_,h,_,_=>by simp at h
 |_::_,[],_,_,_,_,h,_=>by simp at h
 |p::P,w::vs,0,m,nd,h1,h2,hk=>by simp at h1 h2;subst h1;subst h2;show bindL kindOf ((p,w)::P.zip vs) m p=_;unfold bindL;rw[uL λv hv=>(aQS.mp nd).1 (aQT hv).1,if_pos hk];simp
 |p::P,w::vs,i+1,m,nd,h1,h2,hk=>by show bindL kindOf ((p,w)::P.zip vs) m x=_;unfold bindL;exact uO (i:=i) (aQS.mp nd).2 (by simpa using h1) (by simpa using h2) hk
theorem uP{kindOf:Str->Option NameKind}{x:Str}{v:aVT}:∀{P:List Str}{vs:List aVT}{i:Nat}{m:SOV},P.Nodup->P[i]? = some x->vs[i]? = some v->kindOf x≠some .local->bindC kindOf (P.zip vs) m x=some v
 |[],_,_,_,_,h,_,_=>by simp at h
 |_::_,[],_,_,_,_,h,_=>by simp at h
 |p::P,w::vs,0,m,nd,h1,h2,hk=>by simp at h1 h2;subst h1;subst h2;show bindC kindOf ((p,w)::P.zip vs) m p=_;unfold bindC;rw[uM λv hv=>(aQS.mp nd).1 (aQT hv).1,if_neg hk];simp
 |p::P,w::vs,i+1,m,nd,h1,h2,hk=>by show bindC kindOf ((p,w)::P.zip vs) m x=_;unfold bindC;exact uP (i:=i) (aQS.mp nd).2 (by simpa using h1) (by simpa using h2) hk
noncomputable def cN(N:List Str)(vs:List V):St:=vs.map some++List.replicate (N.length-vs.length) none
noncomputable def dP(CX:CXT)(P:aVX)(w:aVW)(K:Fg)(mg:SOV)(base:Heap)(N:List Str)(qual:Str)(scope:Scope)(f:Addr)(cd:aVT)(A:aVV)(outer:List Env)(s:aVU)(H:Hp)(E:XK):Cx where
 prog:=P
 w:=w
 K:=K
 mg:=mg
 base:=base
 A:=A.deeper (envOfC qual scope s.heap.objs.size f cd)
 N:=N
 s₀:=s
 H₀:=H
 env:=envOfC qual scope s.heap.objs.size f cd
 outer:=outer
 stack:=envOfC qual scope s.heap.objs.size f cd::outer
 ex:=[]
 calm:=true
 fn:=λ_=>true
 pn:=[]
 xe:=λe s'=>wpAny (model P w) (A.deeper (envOfC qual scope s.heap.objs.size f cd)) (leaving (envOfC qual scope s.heap.objs.size f cd) e) (λ_ s''=>CX outer H s E e s'') (λe' s''=>CX outer H s E e' s'') s'
def uQ(h:sc.names.lookup x=some .cell):∃c,(cellsFrom n sc.names []).lookup x=some c:=by have q:=W.cellsFrom_some sc.names n [] (.inl h);exact Option.isSome_iff_exists.mp q
theorem aDG{K:Fg}{N:List Str}{f:Addr}{cd:aVT}{A:aVV}{s1:aVU}{E:XK}{vs:List V}(S:nH N ps scope)(hd:A.handled=none)(e0:nG P w K mg base A outer s H)(hl:vs.length=ps.length)(r:aL vs us)(x:InCallC s s.heap.objs.size (bindL (envOfC qual scope s.heap.objs.size f cd).kindOf (ps.zip us) λ_=>none) (cellsFrom (s.heap.objs.size+1) scope.names []) (bindC (envOfC qual scope s.heap.objs.size f cd).kindOf (ps.zip us) λ_=>none) s1):Inv (dP CX P w K mg base N qual scope f cd A outer s H E) [] (cN N vs) H s1:=by
 have hpl:ps.length<=N.length:=by have:=congrArg List.length S.pre;rw[aQU]at this;lia
 obtain⟨h1,tk,rfl,hk⟩:=x.done;have noA:∀b:Addr,b∉(dP CX P w K mg base N qual scope f cd A outer s H E).ex:=λb z=>absurd (show b∈([]:List Addr)from z) (by simp)
 refine⟨⟨e0.mod,S.kind,rfl,rfl,aQD _,λy z c h1 h2=>?_,λy hy=>?_,λy c _ h=>?_,λ_=>hd,Around.frames_deeper e0.frames,.inr ⟨rfl,rfl⟩,λb z=>absurd z (noA b),e0.bs,e0.bsz,λb _ _=>noA b,λb z=>absurd z (noA b),e0.funs,e0.frf,e0.tabs⟩,
  rfl,e0.bare,Un.kept hk,⟨_,x.toInCall.ns,λi y v h1 h2 h3=>?_⟩,λy c h=>⟨_,x.cell y c h⟩,e0.hok.fresh (aQD _),λy c h=>?_,λp hp=>absurd (show p∈([]:LAO)from hp) (by simp),e0.hok.kept hk,?_⟩
 . exact name_of_addr x.apart (aQV h1) (aQV h2)
 . have hy:scope.names.lookup y=some .cell\/scope.names.lookup y=some .free:=hy;rcases hy with hy|hy
   . exact uQ hy
   . exact absurd rfl (S.nofree _ (aQV hy))
 . exact aPW (x.above y c (aQV h))
 . have hi:i<vs.length:=by
     unfold cN at h2;by_cases hi:i<vs.length
     . exact hi
     . rw[aQW (by simpa using hi)]at h2
       rw[aQX]at h2;split at h2 <;> cases h2
   have ha:vs[i]? = some v:=by
    unfold cN at h2;rw[aQY (by simpa using hi),aQZ]at h2
    cases e:vs[i]? with
    |none=>rw[e]at h2;cases h2
    |some a=>rw[e]at h2;cases h2;rfl
   obtain⟨u,hu,rv⟩:=r.get ha;have hp:ps[i]? = some y:=by rw[<- S.pre,List.getElem?_take_of_lt (by lia)];exact h1
   have ndP:ps.Nodup:=by rw[<- S.pre];exact S.nd.sublist (List.take_sublist _ _)
   refine⟨u,rv,?_⟩;rcases S.par y (aQ0 hp)with k|k
   . exact .inl ⟨k,uO ndP hp hu k⟩
   . obtain⟨c,e⟩:=uQ (n:=s.heap.objs.size+1) k;refine .inr ⟨.inl k,c,e,?_⟩;have q:=x.cell y c e;rw[uP ndP hp hu (by show scope.names.lookup y≠_;rw[k];decide)]at q
     exact q
 . exact e0.hok.fresh (aPW (x.above y c (aQV h)))
 . unfold cN;show _=N.length;rw[aQ1,aQ2,List.length_replicate];lia
def fn_of{K:Fg}{f:Addr}{name:Str}{params:Arguments}{dV kV doc pm ct oc:aVT}{an od:Option Addr}{osl:Array (Option aVT)}{N:List Str}(lk:K.lookup f=some ⟨oc,od,.func (W.fnOf name qual params body scope dV kV doc pm an cdv ct),osl⟩)(hcd:W.codeIn K cdv qual=true)(S:nH N ps scope)(len:∀vs H Q E,sp vs H Q E->vs.length=ps.length)(hbody:∀(A:aVV) (outer:List Env) (s:aVU) (H:Hp) (vs:List V) (Q:VK) (E:XK),cM k (A.deeper (envOfC qual scope s.heap.objs.size f cdv))->sp vs H Q E->∃t,PSs (dP CX P w K mg base N qual scope f cdv A outer s H E) body t/\t {nx:=λ_ H'=>Q .non H',rt:=Q} (cN N vs) H):cU P w K mg base CX (k+1) f (W.fnOf name qual params body scope dV kV doc pm an cdv ct) ps sp:=by
 refine⟨len,λA outer s H args us vs Q E hr e0 hb r hsp=>?_⟩;have hl:=len _ _ _ _ hsp;have KX:K.In s.heap:=e0.mod.kin.keeps λb o e=>(e0.bs b o e).1;have lim:s.heap.NoLimit:=e0.mod.nolimit.keeps λb o e=>(e0.bs b o e).1;have bX:∀y∈ps.zip us,scope.names.lookup y.1=some .local\/(scope.names.lookup y.1=some .cell/\((cellsFrom (s.heap.objs.size+1) scope.names []).lookup y.1).isSome=true):=λ⟨n,v⟩ hy=>by
  rcases S.par n (aQT hy).1 with q|q
  . exact .inl q
  . exact .inr ⟨q,W.cellsFrom_some _ _ _ (.inl q)⟩
 refine codeAny_call_function hr.depth (KX _ _ lk) rfl S.co S.gen rfl (W.codeRec_of KX hcd) (hb _ _ _ _ ?_);refine wpAny_newFunctionEnv_cells S.kind bX λenv he s1 x=>?_;subst he;refine⟨lim.keeps x.toInCall.keep,codeAny_func ?_⟩;obtain⟨t,ht,hq⟩:=hbody A outer s H vs Q E (hr.deeper _) hsp;have I:Inv (dP CX P w K mg base N qual scope f cdv A outer s H E) [] (cN N vs) H s1:=aDG S hr.hd e0 hl r x;refine aP5 (ht [] s1 (cN N vs) H _ I hq) (λfl s' hs=>?_) λe s' hs=>hs;have fin:∀{σ':St}{H':Hp}{v:V}{u:aVT},Inv (dP CX P w K mg base N qual scope f cdv A outer s H E) [] σ' H' s'->aJ v u->Q v H'->CE outer P w H s Q u s' :=
  λ{σ' H' v u} J rv q=>⟨v,H',J.os,J.bare,J.base,J.hok,rv,q⟩
 cases fl with
 |ret u=>obtain⟨v,σ',H',J,rv,q⟩:=hs;exact fin J rv q
 |next=>obtain⟨σ',H',J,q⟩:=hs;exact fin (v:=V.non) (u:=Value.none) J rfl q
 |brk=>obtain⟨_,_,_,q⟩:=hs;exact False.elim q
 |cont=>obtain⟨_,_,_,q⟩:=hs;exact False.elim q
section
variable  {p:Pos}{es:List Expr}{t:TA}{id T:String}{r:List V->Hp->VK->Prop}
def tCB(r:List V->Hp->VK->Prop)(t:TA):TE:=λσ H Q=>t σ H λvs H1=>r vs H1 Q
def uR(hc:cT X (.builtin id) r)(hg:Gl X x)(hm:X.mg x=none)(hv:bootBuiltins x=some (.builtin id))(ha:PA X (e::es) t)(hn:x ≠ "__name__" := by decide)(hdb:(x==("__debug__":Str))=false:=by decide)(he:starEach (e::es) X.env=(false,eval e X.env)::starEach es X.env:=by rfl)(hpl:(backTo pos (starEach es X.env)).any (·.1)=false:=by rfl):PE X (.Call (.Name x p) (e::es) [] pos) (tCB r t):=by intro aA s σ H Q I h;refine aQ3 (m9 I hg hm hv ?_ hn hdb);exact PyProof.Rows.callWith_builtin1 (thn (ha pos aA s σ H _ I h) λus s1 ⟨vs,H1,I1,r1,q1⟩=>hc aA s1 σ H1 vs us Q I1 r1 q1) he hpl
def uS(hc:cT X (.type T) r)(hg:Gl X x)(hm:X.mg x=none)(hv:bootBuiltins x=some (.type T))(ha:PA X (e::es) t)(hn:x ≠ "__name__" := by decide)(hdb:(x==("__debug__":Str))=false:=by decide)(he:starEach (e::es) X.env=(false,eval e X.env)::starEach es X.env:=by rfl)(hpl:(backTo pos (starEach es X.env)).any (·.1)=false:=by rfl):PE X (.Call (.Name x p) (e::es) [] pos) (tCB r t):=by intro aA s σ H Q I h;refine aQ3 (m9 I hg hm hv ?_ hn hdb);exact aQE (thn (ha pos aA s σ H _ I h) λus s1 ⟨vs,H1,I1,r1,q1⟩=>hc aA s1 σ H1 vs us Q I1 r1 q1) he hpl
end
end L2
namespace HT
section
open PySem.SeqAt
open PySem.AutoSeq1 (wpAny_loadPart')
open PySem.MeetsSeq PySem.MeetsSeq2 PySem.MeetsSeq3
end
section
variable {A:aVV}{E:VSP}
def aDH{t:Addr}{ws:List aVT}{Q:VSP}(ht:IsTup s.heap t vs.toArray)(hb:IsTup s.heap b ws.toArray)(hv:vs≠[])(h1:ws=[]->Q (.ref t) s)(h2:ws≠[]->Q (.ref s.heap.objs.size) { s with heap:=s.heap.push { cls:=.type "tuple", data:=.seq (vs++ws).toArray } })(hsz:vs.length+ws.length<=sizeLine):wpAny (model prog w) A (binaryOp .Add (.ref t) (.ref b)) Q E s:=by
 obtain⟨⟨cls,dd,data,sl⟩,ho,hc,n,hd⟩:=id ht;obtain⟨⟨cls2,dd2,data2,sl2⟩,ho2,hc2,n2,hd2⟩:=id hb;simp only at hc hd hc2 hd2;subst hc hd hc2 hd2;have e:vs.toArray++ws.toArray=(vs++ws).toArray:=by simp
 by_cases hw:ws=[]
 . exact aQ4 ⟨_,ho,rfl⟩ ⟨_,ho2,rfl⟩ aQ5 seq_tuple_add aQ6 aQ7 (aQ8 _ _)
     (tuple_addW1 t b vs.toArray ws.toArray n n2 dd dd2 sl sl2 (by simpa using hv) (by simp[hw])) ⟨ho,ho2,h1 hw⟩
 . refine aQ4 ⟨_,ho,rfl⟩ ⟨_,ho2,rfl⟩ aQ5 seq_tuple_add aQ6 aQ7 (aQ8 _ _)
     (tuple_addW2 t b vs.toArray ws.toArray n n2 dd dd2 sl sl2 (by simpa using hv) (by simpa using hw) (by rw[aQJ,aQJ];exact hsz)) ⟨ho,ho2,?_⟩
   rw[e];exact h2 hw
noncomputable def sIx(n d:Nat):Option Int->Nat
 |none=>d
 |some v=>if v<0 then(v+(n:Int)).toNat else min v.toNat n
def uT(n d:Nat):sIx n d none=d:=rfl
theorem nI(n d k:Nat):sIx n d (some (k:Int))=min k n:=by show(if(k:Int)<0 then((k:Int)+(n:Int)).toNat else min (k:Int).toNat n)=min k n;rw[if_neg (by lia),aQ9]
theorem aDI(n d:Nat)(hd:d<=n)(o:Option Int):sIx n d o<=n:=by
 cases o with
 |none=>exact hd
 |some v =>
  show(if v<0 then(v+(n:Int)).toNat else min v.toNat n)<=n;by_cases hv:v<0
  . rw[if_pos hv];lia
  . rw[if_neg hv];exact Nat.min_le_right _ _
theorem uU(v:Int)(n d:Nat):(if v<0 then max (v+(n:Int)) 0 else min v (n:Int))=((sIx n d (some v):Nat):Int):=by
 show(if v<0 then max (v+(n:Int)) 0 else min v (n:Int))=(((if v<0 then(v+(n:Int)).toNat else min v.toNat n):Nat):Int);by_cases hv:v<0
 . simp only[if_pos hv];lia
 . simp only[if_neg hv];lia
theorem aDJ(lo hi:Option Int)(n:Nat):Builtin.Slice.sliceAdjust lo hi 1 (n:Int)=(((sIx n 0 lo:Nat):Int),((sIx n n hi:Nat):Int)):=by
 have h1:¬ ((1:Int)<0):=by lia
 unfold Builtin.Slice.sliceAdjust;simp only[h1,aRA];refine aRB ?_ ?_
 . cases lo with
   |none=>rfl
   |some v=>exact uU v n 0
 . cases hi with
   |none=>rfl
   |some v=>exact uU v n n
theorem aDK(i j:Nat):Builtin.Slice.slicePlaces (i:Int) (j:Int) 1=j-i:=by
 unfold Builtin.Slice.slicePlaces;have h1:(1:Int) > 0:=by lia
 simp only[h1,if_true,Int.ediv_one];split <;> lia
def uV{v:aVT}{o:Option Int}{Q:Option Int->aVU->Prop}(p:IsPart v o)(h:Q o s):wpAny (model prog w) A (Builtin.Slice.slicePartIndex v) Q E s:=by
 cases p with
 |none=>exact slicePart_none h
 |int i t=>exact slicePart_int h
def uW{sl:Addr}{vl vu:aVT}{Q:Int×Int×Nat->aVU->Prop}(hs:s.heap.IsSliceOf sl vl vu .none)(pl:IsPart vl lo)(pu:IsPart vu hi)(h:Q (((sIx n 0 lo:Nat):Int),1,sIx n n hi-sIx n 0 lo) s):wpAny (model prog w) A (Builtin.Slice.sliceApplied (.ref sl) (pure (n:Int))) Q E s:=by
 obtain⟨os,hos,hcs,hds⟩:=id hs;unfold Builtin.Slice.sliceApplied Builtin.Slice.sliceFields;refine aQA (aQA (aRC hos hds (x:=vl) rfl (aQA (aRC hos hds (x:=vu) rfl (aQA (aRC hos hds (x:=.none) rfl (aP9 ?_)))))));refine aQA (slicePart_none ?_);show wpAny _ _ (if((1:Int)==0)=true then _ else _) _ _ s;rw[if_neg (by decide)]
 refine aQA (uV pl (aQA (uV pu (aQA (aP9 ?_)))));show wpAny _ _ (match Builtin.Slice.sliceAdjust lo hi 1 (n:Int)with|(lo,hi)=>pure (lo,(1:Int),Builtin.Slice.slicePlaces lo hi 1)) _ _ s
 rw[aDJ lo hi n];show wpAny _ _ (pure (((sIx n 0 lo:Nat):Int),(1:Int),Builtin.Slice.slicePlaces ((sIx n 0 lo:Nat):Int) ((sIx n n hi:Nat):Int) 1)) _ _ s;rw[aDK];exact aP9 h
theorem aDL(xs:Array aVT)(i k:Nat):((List.range k).filterMap λ(m:Nat)=>xs[((i:Int)+(m:Int) * 1).toNat]?).toArray=((xs.toList.drop i).take k).toArray:=by
 have e:(λ(m:Nat)=>xs[((i:Int)+(m:Int) * 1).toNat]?)=λm=>xs[i+m]?:=by
  funext m;have:((i:Int)+(m:Int) * 1).toNat=i+m:=by lia
  rw[this]
 rw[e];have:=pick_run xs i k;rw[List.filterMap_map]at this;have e2:((λx=>xs[x]?) ∘ λx=>i+x)=λm=>xs[i+m]?:=rfl;rw[e2]at this;rw[this]
theorem aDM{t sl:Addr}{vl vu:aVT}{Q:VSP}(ht:IsTup s.heap t items)(hs:s.heap.IsSliceOf sl vl vu .none)(pl:IsPart vl lo)(pu:IsPart vu hi)(hw:¬ (sIx items.size 0 lo=0/\sIx items.size items.size hi=items.size))(h:Q (.ref s.heap.objs.size) { s with heap:=s.heap.push { cls:=.type "tuple", data:=.seq ((items.toList.drop (sIx items.size 0 lo)).take (sIx items.size items.size hi-sIx items.size 0 lo)).toArray } })(hsz:items.size<=sizeLine):wpAny (model prog w) A (getItem (.ref t) (.ref sl)) Q E s:=by
 have htake:sizeOk (.seq ((items.toList.drop (sIx items.size 0 lo)).take (sIx items.size items.size hi-sIx items.size 0 lo)).toArray):=by show((items.toList.drop (sIx items.size 0 lo)).take (sIx items.size items.size hi-sIx items.size 0 lo)).toArray.size<=sizeLine;rw[aQJ,aQU,aRD,aP7];lia
 have hj:sIx items.size items.size hi<=items.size:=aDI _ _ (aQD _) hi;obtain⟨os,hos,hcs,hds⟩:=id hs;have hTs:s.TypeIs (.ref sl) "slice" := ⟨os,hos,hcs⟩;unfold getItem
 try with_reducible refine aRE ?_
 first|refine aQA (aP9 ?_)|skip
 refine aQA (wpAny_sequenceKey ht.typeIs (by decide) ?_)
 refine aQA (aRF (name:=Str.ofString "__getitem__") ht.typeIs aRG
  (aRH aRG ht.typeIs entry_tuple_getitem ?_ (args_tuple_getitem _ _)))
 show wpAny _ _ (Builtin.Tuple.tupleItemsOf (.ref t)>>=_) _ _ s;refine aQA (tupleItemsOf_ ht ?_);refine aQA (aRI hTs ?_);rw[if_pos (by decide)]
 refine aQA (uW hs pl pu ?_);have hno:¬ ((((sIx items.size 0 lo:Nat):Int)==0&&(1:Int)==1&&(sIx items.size items.size hi-sIx items.size 0 lo)==items.size)=true):=by intro q;rw[aRJ,aRJ]at q;have q1:((sIx items.size 0 lo:Nat):Int)=0:=eq_of_beq q.1.1;have q2:sIx items.size items.size hi-sIx items.size 0 lo=items.size:=eq_of_beq q.2;exact hw ⟨by lia,by lia⟩
 show wpAny _ _ (if(((sIx items.size 0 lo:Nat):Int)==0&&(1:Int)==1&&(sIx items.size items.size hi-sIx items.size 0 lo)==items.size)=true then _ else _) _ _ s;rw[if_neg hno,aDL]
 first
  |exact aQA (m:=Builtin.Tuple.tupleExact _) (aRK (aP9 ⟨_,rfl,aP9 h⟩) htake)
  |exact aQA (m:=Builtin.Tuple.tupleExact _) (aRK (aQA (aP9 (aP9 ⟨_,rfl,aP9 h⟩))) htake)
  |exact aQA (aQA (m:=Builtin.Tuple.tupleExact _) (aRK (aP9 (aP9 ⟨_,rfl,aP9 h⟩)) htake))
  |exact aQA (aQA (m:=Builtin.Tuple.tupleExact _) (aRK (aP9 ⟨_,rfl,aP9 h⟩) htake))
end
end HT
namespace L2
abbrev TO:=St->Hp->(Option Int->Hp->Prop)->Prop
def PO(X:Cx)(e:Option Expr)(t:TO):Prop :=
 ∀(aA:LAO) (s:aVU) (σ:St) (H:Hp) (Q:Option Int->Hp->Prop),Inv X aA σ H s->t σ H Q ->
  wpAny (model X.prog X.w) X.A (evalPart e X.env) (λu s'=>∃o H',Inv X aA σ H' s'/\IsPart u o/\Q o H') X.xe s
def uX:TO:=λ_ H Q=>Q none H
def nJ(t:TE):TO:=λσ H Q=>t σ H λx H1=>∃i,x=.int i/\Q (some i) H1
section
variable {lo hi:Option Expr}{tl th:TO}
def aDN:PO X none uX:=by intro aA s σ H Q I h;rw[evalPart_none];exact aP9 ⟨none,H,I,.none,h⟩
def aDO(h:PE X e te):PO X (some e) (nJ te):=by intro aA s σ H Q I hw;rw[evalPart_some];refine thn (h aA s σ H _ I hw) λu s1 ⟨x,H1,I1,r1,q1⟩=>?_;obtain⟨i,rfl,q⟩:=q1;obtain⟨t,rfl⟩:=r1;exact⟨some i,H1,I1,.int i t,q⟩
def SlR(X:Cx)(r:V->Option Int->Option Int->Hp->VK->Prop):Prop :=
 ∀(aA:LAO) (s:aVU) (σ:St) (H:Hp) (x:V) (v vl vu:aVT) (lo hi:Option Int) (sl:Addr) (Q:VK),Inv X aA σ H s->aJ x v->s.heap.IsSliceOf sl vl vu .none->IsPart vl lo->IsPart vu hi->r x lo hi H Q ->
  ∃T id,typeLookup (.type T) "__getitem__" = pure (some (.builtin id))/\s.TypeIs v T/\wpAny (model X.prog X.w) X.A (getItem v (.ref sl)) (EP X aA σ Q) X.xe s
def SlR.or{r r':V->Option Int->Option Int->Hp->VK->Prop}(h:SlR X r)(h':SlR X r'):SlR X (λx lo hi H Q=>r x lo hi H Q\/r' x lo hi H Q):=by
 intro aA s σ H x v vl vu lo hi sl Q I rx hs pl pu q;rcases q with q|q
 . exact h aA s σ H x v vl vu lo hi sl Q I rx hs pl pu q
 . exact h' aA s σ H x v vl vu lo hi sl Q I rx hs pl pu q
def tSl(r:V->Option Int->Option Int->Hp->VK->Prop)(te:TE)(tl th:TO):TE:=λσ H Q=>te σ H λx H1=>tl σ H1 λl H2=>th σ H2 λu H3=>r x l u H3 Q
def aDP{r:V->Option Int->Option Int->Hp->VK->Prop}(hr:SlR X r)(he:PE X e te)(hl:PO X lo tl)(hu:PO X hi th):PE X (.Subscript e (.Slice lo hi none p2) pos) (tSl r te tl th):=by
 intro aA s σ H Q I h;refine Subscript_ (thn (he aA s σ H _ I h) λv s1 ⟨x,H1,I1,r1,q1⟩=>?_);refine wpAny_Slice (thn (hl aA s1 σ H1 _ I1 q1) λvl s2 ⟨l,H2,I2,pl,q2⟩=>thn (hu aA s2 σ H2 _ I2 q2) λvu s3 ⟨u,H3,I3,pu,q3⟩=>?_);rw[evalPart_none];refine aP9 ?_;have I4:Inv X aA σ H3 { s3 with heap:=s3.heap.push { cls:=.type "slice", data:=.fields #[vl,vu,.none] } }:=I3.kept (t':=s3.toks) λb ob q=>hps q
 obtain⟨T,id,hT,ht,hg⟩:=hr aA { s3 with heap:=s3.heap.push { cls:=.type "slice", data:=.fields #[vl,vu,.none] } } σ H3 x v vl vu l u s3.heap.objs.size Q I4 r1 (Heap.IsSliceOf.new ..) pl pu q3
 show wpAny (model X.prog X.w) X.A (subscriptTail e (.Slice lo hi none p2) v (.ref s3.heap.objs.size)) (EP X aA σ Q) X.xe { s3 with heap:=s3.heap.push { cls:=.type "slice", data:=.fields #[vl,vu,.none] } }
 exact tail_any (ops:=[.ref s3.heap.objs.size,v]) ht hT hg (by with_unfolding_all rfl)
noncomputable def gK(xs:List V)(lo hi:Option Int):List V:=(xs.drop (HT.sIx xs.length 0 lo)).take (HT.sIx xs.length xs.length hi-HT.sIx xs.length 0 lo)
theorem uY(xs:List V)(lo hi:Option Int):(gK xs lo hi).length<=xs.length:=by unfold gK;rw[aQU,aRD];lia
def rSlT(K:Fg):V->Option Int->Option Int->Hp->VK->Prop:=λx lo hi H Q=>∃a xs,x=.ref a/\SqT K H a xs /\
 ¬ (HT.sIx xs.length 0 lo=0/\HT.sIx xs.length xs.length hi=xs.length)/\∀p,H p=none->Q (.ref p) (upd H p (.tup (gK xs lo hi)))
def aDQ:SlR X (rSlT X.K):=by
 intro aA s σ H x v vl vu lo hi sl Q I rx hs pl pu h;obtain⟨a,xs,rfl,hx,hw,q⟩:=h;cases rx;obtain⟨its,r,ht,hz⟩:=I.tuple hx;have hlen:its.toArray.size=xs.length:=by rw[aQJ];exact r.length.symm
 refine⟨"tuple", _,PyProof.Rows.slot_tuple_getitem.lookup,ht.typeIs,?_⟩;refine HT.aDM ht hs pl pu (by rw[hlen];exact hw) ?_ (by rw[hlen];exact hz)
 rw[hlen];refine⟨.ref s.heap.objs.size,_,I.laid (t':=s.toks) (o:=.tup (gK xs lo hi)) (λb ob q=>hps q) (aQD _) ?_,rfl,q _ (I.hok.fresh (aQD _))⟩;exact⟨aPV (uY xs lo hi) hz,_,(r.drop (HT.sIx xs.length 0 lo)).take (HT.sIx xs.length xs.length hi-HT.sIx xs.length 0 lo),gI.new _ _⟩
def aL.nil_iff(r:aL xs us):us=[]↔xs=[]:=by
 cases r with
 |nil=>simp
 |cons _ _=>simp
end
noncomputable def ixN(n:Nat)(i:Int):Option Nat:=if 0<=i then(if i<n then some i.toNat else none)else if -(n:Int)<=i then some (i+n).toNat else none
noncomputable def atI(xs:List α)(i:Int):Option α:=(ixN xs.length i).bind λj=>xs[j]?
theorem uZ{i:Int}(h:ixN n i=some j):seqIndex? i n=some j/\j<n /\ -(n:Int)<=i/\i<n:=by
 unfold ixN at h;by_cases h0:0<=i
 . rw[if_pos h0]at h;by_cases h1:i<n
   . rw[if_pos h1]at h;have e:i.toNat=j:=aP4 h;exact⟨by rw[seqIndex_of h0 h1,e],by lia,by lia,h1⟩
   . rw[if_neg h1]at h;cases h
 . rw[if_neg h0]at h;by_cases h1:-(n:Int)<=i
   . rw[if_pos h1]at h;have e:(i+n).toNat=j:=aP4 h;exact⟨by rw[seqIndex_neg (by lia) h1,e],by lia,h1,by lia⟩
   . rw[if_neg h1]at h;cases h
def nK{xs:List α}{i:Int}{v:α}(h:atI xs i=some v):∃j,seqIndex? i xs.length=some j/\xs[j]? = some v/\j<xs.length /\ -(xs.length:Int)<=i/\i<xs.length:=by
 unfold atI at h;cases e:ixN xs.length i with
 |none=>rw[e]at h;cases h
 |some j=>rw[e]at h;obtain⟨h1,h2,h3,h4⟩:=uZ e;exact⟨j,h1,h,h2,h3,h4⟩
theorem nL{xs:List α}{v:α}(h:xs[j]? = some v):atI xs (j:Int)=some v:=by
 have hj:j<xs.length:=(aP1.mp h).1;have e:ixN xs.length (j:Int)=some j:=by unfold ixN;rw[if_pos (by lia),if_pos (by lia)];simp
 unfold atI;rw[e];exact h
def nM(b:Expr):Prop:=∀o i,subscripted b false o i=operate [o,i] (getItem o i)
def IxR(X:Cx)(r:R2):Prop :=
 ∀(value slice:Expr) (aA:LAO) (s:aVU) (σ:St) (H:Hp) (x y:V) (v u:aVT) (Q:VK),Inv X aA σ H s->aJ x v->aJ y u->r x y H Q ->
  subscripted slice false v u=operate [v,u] (getItem v u)->wpAny (model X.prog X.w) X.A (subscriptTail value slice v u) (EP X aA σ Q) X.xe s
def MtR(X:Cx)(id:String)(r:V->List V->Hp->VK->Prop):Prop :=
 ∀(aA:LAO) (s:aVU) (σ:St) (H:Hp) (x:V) (xs:List V) (v:aVT) (us:List aVT) (Q:VK),Inv X aA σ H s->aJ x v->aL xs us->r x xs H Q ->
  wpAny (model X.prog X.w) X.A (call (.builtin id) (v::us)) (EP X aA σ Q) X.xe s
section
variable {a b:Expr}{tb:TE}
def IxR.or{r r':R2}(h:IxR X r)(h':IxR X r'):IxR X (λx y H Q=>r x y H Q\/r' x y H Q):=by
 intro value slice aA s σ H x y v u Q I rx ry q hs;rcases q with q|q
 . exact h value slice aA s σ H x y v u Q I rx ry q hs
 . exact h' value slice aA s σ H x y v u Q I rx ry q hs
def u0{r:R2}(hr:IxR X r)(ha:PE X a ta)(hb:PE X b tb)(hs:nM b):PE X (.Subscript a b pos) (tOp r ta tb):=by intro aA s σ H Q I h;exact Subscript_ (pT ha hb I h λv u s2 x y H2 I2 rx ry q=>hr a b aA s2 σ H2 x y v u Q I2 rx ry q (hs _ _))
def rIxL(K:Fg):R2:=λx y H Q=>∃p xs i v,x=.ref p/\y=.int i/\SqL K H p xs/\atI xs i=some v/\Q v H
def rIxT(K:Fg):R2:=λx y H Q=>∃p xs i v,x=.ref p/\y=.int i/\SqT K H p xs/\atI xs i=some v/\Q v H
def rIxS:R2:=λx y H Q=>∃z i c,x=.str z/\y=.int i/\z.length<=sizeLine/\atI z.cps.toList i=some c/\Q (.str ⟨#[c]⟩) H
theorem aDR:IxR X (rIxL X.K):=by
 intro value slice aA s σ H x y v u Q I rx ry h hs;obtain⟨p,xs,i,z,rfl,rfl,hq,he,q⟩:=h;cases rx;obtain⟨t,rfl⟩:=ry;obtain⟨its,r,pl,hz⟩:=I.list hq;obtain⟨j,h1,h2,h3,h4,h5⟩:=nK he;obtain⟨w,ew,rw'⟩:=r.get h2;have hl:=r.length;have hn:=jF;have fin:EP X aA σ Q w s:=⟨z,H,I,rw',q⟩;by_cases h0:0<=i
 . have hj:i.toNat=j:=by rw[seqIndex_of h0 h5]at h1;exact aP4 h1
   exact item_listR pl.isList h0 (by lia) (by rw[hj];simpa using ew) fin hs
 . have hj:(i+(its.toArray.size:Int)).toNat=j:=by
     rw[seqIndex_neg (by lia) h4]at h1
     rw[aQJ,<- hl];exact aP4 h1
   exact subscriptTail_builtinR (x:=w) pl.isList.typeIs slot_list_getitem.lookup
    (wpAny_getItem_list_neg (Q:=λr s'=>r=w/\EP X aA σ Q r s') pl.isList (by lia) (by rw[aQJ] <;> lia) (by lia) (by rw[hj];simpa using ew) ⟨rfl,fin⟩) hs
theorem aDS:IxR X (rIxT X.K):=by
 intro value slice aA s σ H x y v u Q I rx ry h hs;obtain⟨p,xs,i,z,rfl,rfl,hq,he,q⟩:=h;cases rx;obtain⟨t,rfl⟩:=ry;obtain⟨its,r,pl,hz⟩:=I.tuple hq;obtain⟨j,h1,h2,h3,h4,h5⟩:=nK he;obtain⟨w,ew,rw'⟩:=r.get h2;have hl:=r.length;have hn:=jF;have fin:EP X aA σ Q w s:=⟨z,H,I,rw',q⟩;exact subscriptTail_builtinR (x:=w) pl.typeIs slot_tuple_getitem.lookup
  (getItem_tuple (j:=j) (Q:=λr s'=>r=w/\EP X aA σ Q r s') pl (by lia) (by lia) (by rw[aQJ,<- hl];exact h1) (by simpa using ew) ⟨rfl,fin⟩) hs
theorem aDT:IxR X rIxS:=by
 intro value slice aA s σ H x y v u Q I rx ry h hs;obtain⟨z,i,c,rfl,rfl,hz,he,q⟩:=h;obtain⟨t,rfl⟩:=rx;obtain⟨t',rfl⟩:=ry;obtain⟨j,h1,h2,h3,h4,h5⟩:=nK he;have hl:z.cps.toList.length=z.length:=by simp[Str.length]
 rw[hl]at h1 h4 h5;have hn:=jF;exact tail_any (typeIs_str s z t) slot_str_getitem.lookup (getItem_str (c:=c) (by
  have e1:decide (i < -(2 ^ 63:Int))=false:=aPK (by lia)
  have e2:decide (i ≥ 2 ^ 63)=false:=aPK (by lia)
  rw[e1,e2,Bool.or_false]) (by rw[h1];simpa using h2) ⟨.str ⟨#[c]⟩,H,I.tok _,⟨_,rfl⟩,q⟩) hs
def rIx(K:Fg):R2:=λx y H Q=>rIxL K x y H Q\/rIxT K x y H Q\/rIxS x y H Q
def aDU:IxR X (rIx X.K):=aDR.or (aDS.or aDT)
def aDV(its:List aVT)(n j:Nat)(u:aVT):Obj.mapSeq (·.setIfInBounds j u) { cls:=.type "list", data:=.seq its.toArray n }={ cls:=.type "list", data:=.seq (its.set j u).toArray n }:=by simp[Obj.mapSeq]
theorem Inv.lst{σ:St}{p:Addr}(I:Inv X aA σ H s)(h:H p=some (.lst xs)):∃(its:List aVT) (n:Nat),aL xs its/\s.heap.get? p=some { cls:=.type "list", data:=.seq its.toArray n }/\xs.length<=sizeLine:=by obtain⟨z,its,n,r,e⟩:=I.hok p _ h;exact⟨its,n,r,e,z⟩
def Inv.lstUpd{σ:St}{p:Addr}{ys:List V}{its':List aVT}{n':Nat}{f:Obj->Obj}(I:Inv X aA σ H s)(h:H p=some (.lst xs))(ho:s.heap.get? p=some { cls:=.type "list", data:=.seq its.toArray n })(hf:f { cls:=.type "list", data:=.seq its.toArray n }={ cls:=.type "list", data:=.seq its'.toArray n' })(r:aL ys its')(hz:ys.length<=sizeLine)(t:Nat):Inv X aA σ (upd H p (.lst ys)) {s with heap:=s.heap.update p f,toks:=t}:=by
 have e:(s.heap.update p f).get? p=some { cls:=.type "list", data:=.seq its'.toArray n' }:=by rw[aRL f ho (by rw[hf] <;> rfl),hf]
 refine I.write (x:=p) (e:=p) (by rw[h];trivial) (.inl rfl) (λb u hb q=>(aRM _ _ (Ne.symm hb)).trans q) ⟨_,e⟩ ?_
 exact⟨hz,its',n',r,e⟩
def u5:V->V->V->Hp->(Hp->Prop)->Prop:=λo i v H Q=>∃p xs k j,o=.ref p/\i=.int k/\H p=some (.lst xs)/\ixN xs.length k=some j/\Q (upd H p (.lst (xs.set j v)))
theorem aDW:PSet X u5:=by
 intro aA s σ H o i v ov iv u Q I ro ri rv h;obtain⟨p,xs,k,j,rfl,rfl,hp,hj,q⟩:=h;cases ro;obtain⟨t,rfl⟩:=ri;obtain⟨its,n,r,ho,hz⟩:=I.lst hp;obtain⟨h1,h2,h3,h4⟩:=uZ hj;have hl:=r.length;have hn:=jF;have I':Inv X aA σ (upd H p (.lst (xs.set j v))) {s with heap:=s.heap.update p (Obj.mapSeq (·.setIfInBounds j u))} :=
  I.lstUpd hp ho (aDV its n j u) (r.set rv j) (by rw[aRN];exact hz) s.toks
 by_cases h0:0<=k
 . have hk:k.toNat=j:=by rw[seqIndex_of h0 h4]at h1;exact aP4 h1
   exact W.ki_setAt ho h0 (by lia) (by rw[aQJ,<- hl];exact h4) (by rw[hk];exact⟨_,I',q⟩)
 . have hk:(k+(its.toArray.size:Int)).toNat=j:=by
     rw[seqIndex_neg (by lia) h3]at h1
     rw[aQJ,<- hl];exact aP4 h1
   exact W.ki_setBack ho (by lia) (by rw[aQJ,<- hl];exact h3) (by lia) (by rw[hk];exact⟨_,I',q⟩)
theorem aDX(lo hi:Option Int)(n:Nat):(sliceBounds lo hi none n).1=((HT.sIx n 0 lo:Nat):Int)/\(sliceBounds lo hi none n).2.1=((HT.sIx n n hi:Nat):Int)/\(sliceBounds lo hi none n).2.2=1:=by
 refine⟨?_,?_,rfl⟩
 . cases lo with
   |none=>simp[sliceBounds,HT.sIx]
   |some i =>
    simp only[sliceBounds,HT.sIx,aRO,show(1:Int) > 0 by decide,if_true]
    by_cases h:i<0
    . simp only[h,if_true] <;> lia
    . simp only[h,aRA] <;> lia
 . cases hi with
   |none=>simp[sliceBounds,HT.sIx]
   |some i =>
    simp only[sliceBounds,HT.sIx,aRO,show(1:Int) > 0 by decide,if_true]
    by_cases h:i<0
    . simp only[h,if_true] <;> lia
    . simp only[h,aRA] <;> lia
def aDY(its:List aVT)(lo hi:Option Int):slicePick its.toArray lo hi none=((its.drop (HT.sIx its.length 0 lo)).take (HT.sIx its.length its.length hi-HT.sIx its.length 0 lo)).toArray:=by obtain⟨h1,h2,h3⟩:=aDX lo hi its.toArray.size;unfold slicePick;rw[h1,h2,h3];simp only[sliceRange_one,pick_run,aQJ] <;> rfl
def rSlL(K:Fg):V->Option Int->Option Int->Hp->VK->Prop:=λx lo hi H Q=>∃a xs,x=.ref a/\SqL K H a xs/\∀p,H p=none->Q (.ref p) (upd H p (.lst (gK xs lo hi)))
theorem aDZ:SlR X (rSlL X.K):=by
 intro aA s σ H x v vl vu lo hi sl Q I rx hs pl pu h;obtain⟨a,xs,rfl,hx,q⟩:=h;cases rx;obtain⟨its,r,ht,hz⟩:=I.list hx;have hlen:=r.length;refine⟨"list", _,slot_list_getitem.lookup,ht.isList.typeIs,?_⟩;refine wpAny_getItem_list_slice ht.isList hs pl pu .none (by simp) ?_ (by rw[aQJ] <;> lia)
 rw[aDY,<- hlen];refine⟨.ref s.heap.objs.size,_,I.laid (t':=s.toks) (o:=.lst (gK xs lo hi)) (λb ob q=>hps q) (aQD _) ?_,rfl,q _ (I.hok.fresh (aQD _))⟩;exact⟨aPV (uY xs lo hi) hz,_,0,(r.drop (HT.sIx xs.length 0 lo)).take (HT.sIx xs.length xs.length hi-HT.sIx xs.length 0 lo),aPN _ rfl⟩
theorem aD0:cT X (.type "list") (λxs H Q=>∃p ys,xs=[.ref p]/\(SqL X.K H p ys\/SqT X.K H p ys)/\∀l,H l=none->Q (.ref l) (upd H l (.lst ys))):=by
 intro aA s σ H xs us Q I r h; obtain ⟨p, ys, rfl, hq, q⟩ := h; obtain ⟨u, rfl, rx⟩ := eY r; cases rx; have fin : ∀ (its : List aVT), aL ys its → ys.length ≤ sizeLine → ∀ (h' : Heap) (c' : Nat), (∀ b o', s.heap.get? b = some o' → h'.get? b = some o') →
     h'.get? s.heap.objs.size=some { cls:=.type "list", dict:=none,data:=.seq its.toArray c',slots:=#[] } -> EP X aA σ Q (.ref s.heap.objs.size) {s with heap:=h'}:=λits r' hz h' c' kp e =>
  ⟨.ref s.heap.objs.size,_,I.laid (t':=s.toks) kp (aQD _) (show bL X.prog X.w _ h' _ (.lst ys)from⟨hz,its,c',r',e⟩),rfl,q _ (I.hok.fresh (aQD _))⟩
 rcases hq with hq|hq
 . obtain⟨its,r',pl,hz⟩:=I.list hq;have hlen:=r'.length;obtain⟨o,ho,hc,n,hd⟩:=pl.isList;exact call_list_seq p (.inl rfl) ho hc hd (λh' c' kp e=>fin its r' hz h' c' kp e) (by simp only[aQJ] <;> lia)
 . obtain⟨its,r',pl,hz⟩:=I.tuple hq;have hlen:=r'.length;obtain⟨o,ho,hc,n,hd⟩:=pl;exact call_list_seq p (.inr rfl) ho hc hd (λh' c' kp e=>fin its r' hz h' c' kp e) (by simp only[aQJ] <;> lia)
theorem aD1:cT X (.type "tuple") (λxs H Q=>∃p ys,xs=[.ref p]/\((SqL X.K H p ys/\∀l,H l=none->Q (.ref l) (upd H l (.tup ys)))\/(SqT X.K H p ys/\Q (.ref p) H))):=by
 intro aA s σ H xs us Q I r h;obtain⟨p,ys,rfl,h⟩:=h;obtain⟨u,rfl,rx⟩:=eY r;cases rx;rcases h with⟨hq,q⟩|⟨hq,q⟩
 . obtain⟨its,r',pl,hz⟩:=I.list hq;have hlen:=r'.length;refine call_tuple_list pl.isList (λh' kp=>?_) (by simp only[aQJ] <;> lia)
   have I1:Inv X aA σ H {s with heap:=h'}:=I.kept (t':=s.toks) kp
   have I2:Inv X aA σ (upd H h'.objs.size (.tup ys)) { s with heap:=h'.push { cls:=.type "tuple", data:=.seq its.toArray } } :=
    I1.laid (t':=s.toks) (λb o e=>hps e) (aQD _) (show bL X.prog X.w _ _ _ (.tup ys)from⟨hz,its,r',gI.new _ _⟩)
   exact⟨.ref h'.objs.size,_,I2,rfl,q _ (I1.hok.fresh (aQD _))⟩
 . obtain⟨its,r',pl,hz⟩:=I.tuple hq;exact call_tuple_same pl ⟨.ref p,H,I,rfl,q⟩
def tyV(K:Fg)(T:String)(x:V)(H:Hp):Prop:=match x with
 |.str _=>T="str"
 |.int _=>T="int"
 | .ref p => (T = "list" ∧ ∃ xs, SqL K H p xs) ∨ (T = "tuple" ∧ ∃ o, K.lookup p = some o ∧ o.cls = .type "tuple" ∧ o.dict = none) ∨
     (T="dict" /\ ((∃kvs,H p=some (.dK kvs))\/∃kvs,H p=some (.dT kvs)))\/(T="set" /\ ∃S n,H p=some (.set S n))
 |_=>False
def aD2{σ:St}{T:String}{x:V}{v:aVT}(I:Inv X aA σ H s)(r:aJ x v)(ty:tyV X.K T x H):s.TypeIs v T/\∀a,v=.ref a->∃ob,s.heap.get? a=some ob/\ob.dict=none:=by
 cases x with
 |str z =>
  obtain⟨t,rfl⟩:=r;cases(show T="str" from ty)
  exact⟨typeIs_str s z t,λ_ e=>nomatch e⟩
 |int i =>
  obtain⟨t,rfl⟩:=r;cases(show T="int" from ty)
  exact⟨typeIs_int s i t,λ_ e=>nomatch e⟩
 |ref p =>
  cases r;rcases ty with⟨rfl,xs,hq⟩|⟨rfl,o,hk,hc,hd⟩|⟨rfl,hk⟩|⟨rfl,S,n,hk⟩
  . obtain⟨its,_,pl,_⟩:=I.list hq;refine⟨pl.isList.typeIs,λa e=>?_⟩;cases e;obtain⟨o,n,e,c,hd,_⟩:=pl;exact⟨o,e,hd⟩
  . refine⟨⟨o,I.kIn p o hk,hc⟩,λa e=>?_⟩;cases e;exact⟨o,I.kIn _ o hk,hd⟩
  . have z:∃o,s.heap.get? p=some o/\o.ExactDict:=by
      rcases hk with⟨kvs,hk⟩|⟨kvs,hk⟩
      . obtain⟨_,_,_,_,o,_,_,e,ex,_⟩:=I.hok p _ hk;exact⟨o,e,ex⟩
      . obtain⟨_,_,_,_,o,_,_,e,ex,_⟩:=I.hok p _ hk;exact⟨o,e,ex⟩
    obtain⟨o,e,ex⟩:=z;refine⟨⟨o,e,ex.1⟩,λa e2=>?_⟩;cases e2;exact⟨o,e,ex.2.1⟩
  . obtain⟨o,_,_,_,e,ex,_⟩:=I.hok p _ hk;refine⟨⟨o,e,ex.1⟩,λa e2=>?_⟩;cases e2;exact⟨o,e,ex.2.1⟩
 |_=>exact False.elim ty
def tBM(K:Fg)(T:String)(r:V->List V->Hp->VK->Prop)(to:TE)(t:TA):TE:=λσ H Q=>to σ H λx H1=>tyV K T x H1/\t σ H1 λxs H2=>r x xs H2 Q
variable  {o:Expr}{es:List Expr}{to:TE}{t:TA}{name:Str}{T id:String}{r:V->List V->Hp->VK->Prop}
noncomputable def pe_bm(pa:PlainAttrs T)(slot:Slot T name id)(hty:typeOf (.builtin id)=pure (.type "method_descriptor"))(hm:MtR X id r)(ho:PE X o to)(ha:PA X (e::es) t)(hbase:attributeBase o name X.env (eval o X.env)=eval o X.env:=by rfl)(hfew:((backTo cpos (starEach (e::es) X.env)).all (λx=>!x.1)&&(backToKw cpos (keywordEach [] X.env)).all (λx=>x.1.isSome)&&decide ((e::es).length+([]:List Keyword).length+(if([]:List Keyword).isEmpty then 0 else 1)<30))=true:=by rfl)(hline:(apos.endLine==cpos.line)=true:=by rfl)(hs:starEach (e::es) X.env=(false,eval e X.env)::starEach es X.env:=by rfl)(hplain:(backTo cpos (starEach es X.env)).any (·.1)=false:=by rfl):PE X (.Call (.Attribute o name apos) (e::es) [] cpos) (tBM X.K T r to t):=by
 intro aA s σ H Q I h;refine wpAny_Call_method_late hbase hfew hline rfl (thn (ho aA s σ H _ I h) λv s1 ⟨x,H1,I1,r1,ty,q1⟩=>?_);obtain⟨h1,h2⟩:=aD2 I1 r1 ty;refine⟨T,id,pa,slot,hty,h1,h2,?_⟩;have hA:=ha cpos aA s1 σ H1 _ I1 q1;rw[hs]at hA ⊢;refine Calls.callWith_builtin (by show(false||(backTo cpos (starEach es X.env)).any (·.1))=false;rw[hplain] <;> rfl) (Calls.evalArgs_plain ?_)
 exact thn hA λus s2 ⟨vs,H2,I2,r2,q2⟩=>hm aA s2 σ H2 x vs v us Q I2 r1 r2 q2
end
def MtM(X:Cx)(id:String)(r:V->List V->Hp->VK->Prop):Prop :=
 ∀(aA:LAO) (s:aVU) (σ:St) (H:Hp) (x:V) (xs:List V) (v:aVT) (us:List aVT) (Q:VK),Inv X aA σ H s->aJ x v->aL xs us->r x xs H Q ->
  wpAny (model X.prog X.w) X.A (call (.builtin id) (v::us)) (EP X aA σ Q) X.xe s
def aL.one:∀{x:V}{us:List aVT},aL [x] us->∃u,us=[u]/\aJ x u
 |_,_,.cons r .nil=>⟨_,rfl,r⟩
section
variable {σ:St}{ys zs:List V}
def Inv.lset{its':List aVT}{f:Array aVT->Array aVT}(I:Inv X aA σ H s)(hH:H l=some (.lst xs))(e:s.heap.get? l=some { cls:=.type "list", data:=.seq its.toArray n })(hf:f its.toArray=its'.toArray)(hv:aL ys its')(hz:ys.length<=sizeLine):Inv X aA σ (upd H l (.lst ys)) {s with heap:=s.heap.update l (Obj.mapSeq f),toks:=t'}:=by
 have q:=PySem.IsL.update e f;rw[hf]at q;refine I.write (x:=l) (e:=l) (by rw[hH];exact trivial) (.inl rfl) (λb' u hb hu=>(aRM s.heap (Obj.mapSeq f) (Ne.symm hb)).trans hu) ⟨_,q⟩ ?_
 exact⟨hz,its',_,hv,q⟩
def Inv.lstM(I:Inv X aA σ H s)(hH:H l=some (.lst xs)):xs.length<=sizeLine/\∃(its:List aVT) (n:Nat),aL xs its/\xs.length=its.length/\s.heap.get? l=some { cls:=.type "list", data:=.seq its.toArray n }:=by obtain⟨z,its,n,r,e⟩:=I.hok l _ hH;exact⟨z,its,n,r,r.length,e⟩
end
def aD3:V->List V->Hp->VK->Prop:=λx vs H Q=>∃l xs y,x=.ref l/\vs=[y]/\H l=some (.lst xs)/\xs.length<sizeLine/\Q .non (upd H l (.lst (xs++[y])))
theorem pX:MtM X "list.append" aD3:=by
 intro aA s σ H x vs v us Q I rx rv h;obtain⟨l,xs,y,rfl,rfl,hH,hz,q⟩:=h;cases rx;obtain⟨u,rfl,ru⟩:=rv.one;obtain⟨z,its,n,r,hl,e⟩:=I.lstM hH;refine call_meets F.slot_list_append ⟨_,e,rfl⟩ F.entry_list_append (F.args_list_append_2 _ _) (PySem.list_append l its.toArray n u (by rw[aQJ];lia)) ⟨e,?_⟩
 refine⟨.non,_,I.lset (its':=its++[u]) hH e (by simp) (r.append (.cons ru .nil)) ?_,rfl,q⟩
 rw[aQ1,List.length_singleton];lia
section
variable {A:aVV}{E:VSP}
end
section
variable [DecidableEq κ]
noncomputable def valV(kvs:List (κ×V))(k:κ):Option V:=(kvs.find? λkv=>decide (kv.1=k)).map (·.2)
noncomputable def putK(kvs:List (κ×V))(k:κ)(v:V):List (κ×V) :=
 if(kvs.any λkv=>decide (kv.1=k))=true then kvs.map (λkv=>if kv.1=k then(kv.1,v)else kv)else kvs++[(k,v)]
def dY.isSome_eq{o:Option V}{u:Option aVT}(r:dY o u):o.isSome=u.isSome:=by
 cases o with
 |none=>cases u with
  |none=>rfl
  |some _=>exact(show False from r).elim
 |some _=>cases u with
  |none=>exact(show False from r).elim
  |some _=>rfl
theorem dY.getD{o:Option V}{u:Option aVT}{d:V}{d':aVT}(r:dY o u)(rd:aJ d d'):aJ (o.getD d) (u.getD d'):=by
 cases o with
 |none=>cases u with
  |none=>exact rd
  |some _=>exact(show False from r).elim
 |some _=>cases u with
  |none=>exact(show False from r).elim
  |some _=>exact r
theorem KV.length{kvs:List (κ×V)}{vs:List (κ×aVT)}(r:KV kvs vs):kvs.length=vs.length:=aPM r
end
section
variable {a:Addr}
def rd_of{u:HO}(ok:HOk P w H h)(e:Rd H a u):bL P w H h a u:=e.ok ok
def dk_rd{kvs:List (Key×V)}(ok:HOk P w H h)(e:Rd H a (.dK kvs)):kvs.length<=sizeLine/\(a==sysModules)=false/\∃vs,KV kvs vs/\h.DictOf (jA P w) a vs :=
 show bL P w H h a (.dK kvs)from rd_of ok e
end
def DGet(H:Hp)(a:Addr)(y:V)(r:Option V):Prop :=
 (∃kvs k,Rd H a (.dK kvs)/\y=kV k/\r=valV kvs k)\/∃kvs k b,Rd H a (.dT kvs)/\y=.ref b/\H b=some (.tup (k.map kV))/\r=valV kvs k
def DPut(H:Hp)(a:Addr)(y v:V)(H':Hp):Prop :=
 (∃kvs k,H a=some (.dK kvs)/\y=kV k/\kvs.length<sizeLine/\H'=upd H a (.dK (putK kvs k v))) \/
 ∃kvs k b,H a=some (.dT kvs)/\y=.ref b/\H b=some (.tup (k.map kV))/\kvs.length<sizeLine/\H'=upd H a (.dT (putK kvs k v))
section
variable {σ:St}{a:Addr}{y:V}{r:aVT}{o:Option V}{A:aVV}{E:VSP}
def Inv.big(I:Inv X aA σ H s):sysModules<s.heap.objs.size:=by have h:mainGlobals<s.heap.objs.size:=(I.mod.glob.keeps I.bk).lt;exact aRP (by decide) h
def aD4{ob:HO}(I:Inv X aA σ H s)(mu:Mut (H a))(hs:Heap.SameBut a s.heap h')(he:∃q,h'.get? a=some q)(new:bL X.prog X.w (upd H a ob) h' a ob):Inv X aA σ (upd H a ob) {s with heap:=h',toks:=t'} :=
 I.write (x:=a) (e:=a) mu (.inl rfl) (λb q hb z=>(hs.2 b hb).trans z) he new
def aD5{kvs:List (Key×V)}{vs:List (Key×aVT)}(z:kvs.length<=sizeLine)(hd:(a==sysModules)=false)(rel:KV kvs vs)(dd:h'.DictOf (jA P w) a vs):bL P w H' h' a (.dK kvs):=⟨z,hd,vs,rel,dd⟩
end
section
variable {σ:St}{a:Addr}{kvs:List (Key×V)}{k:Key}{A:aVV}{E:VSP}
end
section
variable  {o i value:Expr}{tpos:Pos}{ty tv:TE}
end
abbrev VV:List (V×V)->List (aVT×aVT)->Prop:=Paired λp q=>aJ p.1 q.1/\aJ p.2 q.2
structure M2(X:Cx)(o:Expr)(m:Str)(apos:Pos)(e f:Expr)(cpos:Pos):Prop where
 base:attributeBase o m X.env (eval o X.env)=eval o X.env
 few:((backTo cpos (starEach [e,f] X.env)).all (λx=>!x.1)&&(backToKw cpos (keywordEach [] X.env)).all (λx=>x.1.isSome)
  && decide (([e,f]:List Expr).length+([]:List Keyword).length+(if([]:List Keyword).isEmpty then 0 else 1)<30))=true
 line:(apos.endLine==cpos.line)=true
 trees:backTo cpos (starEach [e,f] X.env)=[(false,eval e X.env),(false,eval f X.env)]
section
variable {σ:St}{a:Addr}{y d:V}{r:aVT}{o:Option V}{A:aVV}{E:VSP}
end
section
variable  {o f:Expr}{ty tx:TE}
end
section
variable {σ:St}{a:Addr}{kvs:List (Key×V)}{A:aVV}{E:VSP}
def aD6{Q:VSP}(I:Inv X aA σ H s)(e:Rd H a (.dK kvs))(h:∀p s',H p=none->Inv X aA σ (upd H p (.dK kvs)) s'->Q (.ref p) s'):wpAny (model X.prog X.w) A (call (.type "dict") [.ref a]) Q E s:=by
 obtain⟨z,hd,vs,rel,dd⟩:=dk_rd I.hok e;refine kt_call_dict hd dd (by rw[<- rel.length];exact z) λh' dd' hs=>?_
 refine h _ _ (I.hok.fresh (aQD _)) (I.laid (a:=s.heap.objs.size) (o:=.dK kvs) (t':=s.toks) (λb q hq=>?_) (aQD _) (aD5 z (aPL.mpr (Ne.symm (aPR I.big))) rel dd'));exact(hs.2 b (aPR (aPO hq))).trans (hps hq)
end
section
variable {σ:St}{a:Addr}{y:V}{A:aVV}{E:VSP}
end
end L2
namespace Att
open PySem.W PySem.Calls
def aD7{P:Params}:∀(ns:List Int) (vs:List aVT),WellAll P h vs (ns.map WData.int)->IntsAre vs ns:=by
 intro ns
 induction ns with
 |nil=>intro vs w;rw[aRQ]at w;cases w;exact .nil
 |cons n ns ih =>
  intro vs w;rw[aRR]at w;cases w with
  |cons a b=>cases a;exact .cons _ _ (ih _ b)
theorem aD8{l:OpenLaw}(hn:l.most=some n){P:Params}{args:List WData}{vals:List aVT}(hpre:l.row.toRowW.claim.pre args=true)(hwl:WellAll P h vals args):∃a vs ns,vals=[Value.ref a]/\args=[WData.list (ns.map WData.int)]/\h.get? a=some { cls:=.type "list", data:=.seq vs.toArray }/\IntsAre vs ns/\ns.length<=n:=by
 have hsh:WShape.hasAll [] args [.list .int]=true:=(pre_splitW hpre).1;have hc:l.pre.holds [] {args:=args}=true:=(pre_splitW hpre).2;obtain⟨d,r,rfl,h1,h2⟩:=hasAllW_cons hsh;obtain rfl:=hasAllW_nil h2;obtain⟨xs,rfl,h3⟩:=hasW_list h1;obtain⟨ns,rfl⟩:=items_int h3;have hlen:ns.length<=n:=by
  unfold OpenLaw.pre at hc;have h4:(WTm.not (.lt (.lit (.int (n:Int))) (.len (.arg 0)))).holds [] {args:=[.list (ns.map .int)]}=true:=by have h4:=(holds_andW hc).1;rw[hn]at h4;exact h4
  have h5:=condW_of h4 (w_not (w_lt w_lit (w_len_list (w_arg rfl))));rw[aQ2]at h5;refine Nat.le_of_not_lt λq=>?_;have q':(n:Int)<((ns.length:Nat):Int):=by lia
  first
   |(rw[aRS q']at h5;exact absurd h5 (by decide))
   |(simp at h5;lia)
 cases hwl with
 |cons w1 w2 =>
  cases w2;cases w1 with
  |list ho hall=>exact⟨_,_,ns,rfl,rfl,ho,aD7 ns _ hall,hlen⟩
def aD9(l:OpenLaw)(args:List WData):l.row.toRowW.claim.post args (.bool true) args=true :=
 postW_of (r:=l.row.toRowW) (X:=(true==true))
  (show WShape.has [] (.bool true) .bool=true by first|rfl|decide|simp[WShape.has,WShape.arms,WShape.armsAll])
  (show(WTm.eq .res (.lit (.bool true))).value [] {args:=args,res:=some (.bool true),after:=args}=some (.bool (true==true))from w_eq_bool (w_res rfl) w_lit) rfl
def aEA{l:OpenLaw}{q:aVX}{d:DefRec}(hn:l.most=some n)(hdf:d.params.defaults=[])(call:∀(w:aVW) (s₀ s₁:aVU) (mg mb:SOV) (fa:Addr) (o:Obj) (pm cd doc:aVT) (a:Addr) (vs:List aVT) (ns:List Int),Ground q loose [] XP w s₀ mg mb s₁.heap->YP w s₁.heap->s₁.heap.get? fa=some o->o.data=.func (docDef d.name d.params d.body d.scope pm cd doc)->s₁.heap.CodeRec cd d.name->mg d.name=some (.ref fa)->s₁.heap.get? a=some { cls:=.type "list", data:=.seq vs.toArray } -> IntsAre vs ns->ns.length<=n->s₁.gens = #[]->codeAny (model l.prog w) callerA (.call (.ref fa) ⟨[.ref a],[]⟩) (λr s'=>r=.ok (.ret (.bool true))/\OldK s₁.heap s'.heap/\s'.os=s₁.os/\AllBare s'.gens) s₁):WalkO q loose XP YP l.row.toRowW d [] (λf vs=>PySem.call f vs):=by intro w s₀ s₁ mg mb G Y fa o pm cd doc dV kV ho hd hcd hD hmg hg args vals as hpre hlay hrd hwl hlo;obtain rfl:dV=.none:=Dflts.none hD hdf;obtain rfl:kV=.none:=Dflts.noKw hD;obtain⟨a,vs,ns,rfl,rfl,hobj,hints,hlen⟩:=aD8 hn hpre hwl;refine enter_call (aRT (call w s₀ s₁ mg mb fa o pm cd doc a vs ns G Y ho (fd_plain hd) hcd hmg hobj hints hlen hg) λr s' hq=>?_);obtain⟨rfl,h2,h3,h4⟩:=hq;exact⟨.inl ⟨.bool true,.bool true,[],rfl,λ_=>rfl,.bool true,aD9 l _,λ_=>⟨List.Pairwise.nil,λ_ hm=>(nomatch hm)⟩⟩,h2,h3,h4⟩
section
variable {A:aVV}{E:VSP}{K:Frag}
noncomputable def ledger(h:Heap)(L d:Addr):LAO:=(List.range h.objs.size).filterMap λa=>if a=L\/a=d then none else(h.get? a).map λo=>(a,o)
end
end Att
namespace L2
theorem u6:∀{vs:List aVT}{ns:List Int},IntsAre vs ns->aL (ns.map V.int) vs
 |_,_,.nil=>.nil
 |_,_,.cons n t h=>.cons ⟨t,rfl⟩ (u6 h)
noncomputable abbrev KOf{K:Fg}(_:K.In h):Fg:=K
noncomputable def nN(s:Stmt):Arguments:=match s with
 |.FunctionDef _ a _ _ _ _ _ _ _ _=>a
 |_=>{posonlyargs:=[],args:=[],vararg:=none,kwonlyargs:=[],kw_defaults:=[],kwarg:=none,defaults:=[]}
noncomputable def jG(s:Stmt):List Stmt:=match s with
 |.FunctionDef _ _ b _ _ _ _ _ _ _=>b
 |_=>[]
noncomputable def fQ(s:Stmt):Scope:=match s with
 |.FunctionDef _ _ _ _ _ _ sc _ _ _=>sc
 |_=>{kind:=.function,names:=[],isGenerator:=false,isCoroutine:=false}
abbrev E0:XK:=λ_ _ _=>False
structure Fun(K:Fg)(x qual:Str)(st:Stmt)(f:Addr)(fd:FuncData):Prop where
 ex:∃(oc:aVT) (od:Option Addr) (kV doc pm:aVT) (an:Option Addr) (cdv ct:aVT) (osl:Array (Option aVT)),
  fd=W.fnOf x qual (nN st) (jG st) (fQ st) .none kV doc pm an cdv ct/\K.lookup f=some ⟨oc,od,.func fd,osl⟩/\W.codeIn K cdv qual=true
 kp:W.keepIn K (.ref f)=true
section
variable {K:Fg}
def aEB{f:Addr}{oc:aVT}{od an:Option Addr}{osl:Array (Option aVT)}{kV doc pm ct:aVT}(l:K.lookup f=some ⟨oc,od,.func (W.fnOf x qual (nN st) (jG st) (fQ st) .none kV doc pm an cdv ct),osl⟩)(c:W.codeIn K cdv qual=true)(k:W.keepIn K (.ref f)=true):Fun K x qual st f (W.fnOf x qual (nN st) (jG st) (fQ st) .none kV doc pm an cdv ct):=⟨⟨oc,od,kV,doc,pm,an,cdv,ct,osl,rfl,l,c⟩,k⟩
end
def aG(H H':Hp):Prop:=∀b o,H b=some o->H' b=some o
def aG.refl(H:Hp):aG H H:=λ_ _ h=>h
def aG.trans{H1 H2:Hp}(a:aG H H1)(b:aG H1 H2):aG H H2:=λc o h=>b c o (a c o h)
def aG.free(e:aG H H')(h:H' l=Option.none):H l=Option.none:=by
 cases q:H l with
 |none=>rfl
 |some o=>rw[e l o q]at h;cases h
def aG.seq{K:Fg}{a:Addr}(e:aG H H')(h:SqL K H a xs):SqL K H' a xs:=by
 rcases h with(h|⟨o,h⟩)|h
 . exact .inl (.inl (e _ _ h))
 . exact .inl (.inr ⟨o,e _ _ h⟩)
 . exact .inr h
section
variable [DecidableEq κ]
end
def N.ind{P:N->Prop}(hi:∀n,P (.i n))(hs:∀x,P (.s x))(ht:∀xs,(∀x∈xs,P x)->P (.t xs))(k:N):P k :=
 N.rec (motive_1:=P) (motive_2:=λxs=>∀x∈xs,P x) hi hs ht (λ_ h=>nomatch h) (λa l h1 h2 x hx=>by
  rcases aPY.mp hx with rfl|hx
  . exact h1
  . exact h2 x hx) k
mutual
noncomputable def N.eq:N->N->Bool
 |.i n,.i m=>n==m
 |.s x,.s y=>x==y
 |.t xs,.t ys=>N.eqL xs ys
 |_,_=>false
noncomputable def N.eqL:List N->List N->Bool
 |[],[]=>true
 |x::xs,y::ys=>N.eq x y&&N.eqL xs ys
 |_,_=>false
end
theorem N.eqL_iff:∀{xs ys:List N},(∀x∈xs,∀y,N.eq x y=true↔x=y)->(N.eqL xs ys=true↔xs=ys)
 |[],[],_=>by simp[N.eqL]
 |[],_::_,_=>by simp[N.eqL]
 |_::_,[],_=>by simp[N.eqL]
 |x::xs,y::ys,h=>by rw[N.eqL,aRJ,h x mcs y,N.eqL_iff λz hz=>h z (mcm hz),aRU]
def N.eq_iff(k:N):∀y,N.eq k y=true↔k=y:=by
 induction k using N.ind with
 |hi n=>intro y;cases y <;> simp[N.eq]
 |hs x=>intro y;cases y <;> simp[N.eq]
 |ht xs ih =>
  intro y;cases y with
  |t ys=>rw[N.eq,N.eqL_iff ih];simp
  |_=>simp[N.eq]
instance:DecidableEq N:=λa b=>decidable_of_iff _ (N.eq_iff a b)
mutual
noncomputable def N.py:N->PyData
 |.i n=>.int n
 |.s x=>.str x
 |.t xs=>.tuple (N.pyL xs)
noncomputable def N.pyL:List N->List PyData
 |[]=>[]
 |x::xs=>N.py x::N.pyL xs
end
mutual
noncomputable def N.dp:N->Nat
 |.i _=>0
 |.s _=>0
 |.t xs=>N.dpL xs+1
noncomputable def N.dpL:List N->Nat
 |[]=>0
 |x::xs=>max (N.dp x) (N.dpL xs)
end
theorem N.dp_mem:∀{xs:List N}{x:N},x∈xs->x.dp<=N.dpL xs
 |y::ys,x,h=>by
  rw[N.dpL];rcases aPY.mp h with rfl|h
  . lia
  . have:=N.dp_mem h;lia
theorem N.py_depthL:∀{xs:List N},(∀x∈xs,x.py.depth=x.dp)->PyData.depthAll (N.pyL xs)=N.dpL xs
 |[],_=>by simp[N.pyL,N.dpL,PyData.depthAll]
 |x::xs,h=>by simp only[N.pyL,N.dpL,PyData.depthAll];rw[h x mcs,N.py_depthL λz hz=>h z (mcm hz)]
def N.py_depth(k:N):k.py.depth=k.dp:=by
 induction k using N.ind with
 |hi n=>simp[N.py,N.dp,PyData.depth]
 |hs x=>simp[N.py,N.dp,PyData.depth]
 |ht xs ih=>simp only[N.py,N.dp,PyData.depth];rw[N.py_depthL ih]
theorem N.py_eqvL:∀{xs ys:List N},(∀x∈xs,∀y:N,PyData.eqv x.py y.py=decide (x=y))->PyData.eqvAll (N.pyL xs) (N.pyL ys)=decide (xs=ys)
 |[],[],_=>by simp[N.pyL,PyData.eqvAll]
 |[],_::_,_=>by simp[N.pyL,PyData.eqvAll]
 |_::_,[],_=>by simp[N.pyL,PyData.eqvAll]
 |x::xs,y::ys,h=>by simp only[N.pyL,PyData.eqvAll];rw[h x mcs y,N.py_eqvL λz hz=>h z (mcm hz)];by_cases e1:x=y <;> by_cases e2:xs=ys <;> simp[e1,e2]
def N.py_eqv(k:N):∀y:N,PyData.eqv k.py y.py=decide (k=y):=by
 induction k using N.ind with
 |hi n =>
  intro y;cases y with
  |i m=>simp only[N.py,PyData.eqv];by_cases e:n=m <;> simp[e]
  |s x=>simp[N.py,PyData.eqv]
  |t xs=>simp[N.py,PyData.eqv]
 |hs x =>
  intro y;cases y with
  |i m=>simp[N.py,PyData.eqv]
  |s z=>simp only[N.py,PyData.eqv];by_cases e:x=z <;> simp[e]
  |t xs=>simp[N.py,PyData.eqv]
 |ht xs ih =>
  intro y;cases y with
  |i m=>simp[N.py,PyData.eqv]
  |s z=>simp[N.py,PyData.eqv]
  |t ys=>simp only[N.py,PyData.eqv];rw[N.py_eqvL ih];by_cases e:xs=ys <;> simp[e]
mutual
def IsN(h:Heap):N->aVT->Prop
 |.i n,v=>∃t,v=.int n t
 |.s x,v=>(∃t,v=.str x t)/\PyData.strOk x=true
 |.t xs,v=>∃a o items n,v=.ref a/\h.get? a=some o/\o.cls=.type "tuple" /\ o.data=.seq items n/\aQ h xs items.toList
def aQ(h:Heap):List N->List aVT->Prop
 |[],vs=>vs=[]
 |x::xs,vs=>∃v us,vs=v::us/\IsN h x v/\aQ h xs us
end
theorem aQ.mem:∀{h:Heap}{xs:List N}{vs:List aVT},aQ h xs vs->∀v∈vs,∃x∈xs,IsN h x v
 |h,[],vs,q,v,hv=>by rw[aQ]at q;subst q;cases hv
 |h,x::xs,vs,q,v,hv=>by
  rw[aQ]at q;obtain⟨u,us,rfl,q1,q2⟩:=q;rcases aPY.mp hv with rfl|hv
  . exact⟨x,mcs,q1⟩
  . obtain⟨y,hy,e⟩:=q2.mem v hv;exact⟨y,mcm hy,e⟩
theorem aQ.map:∀{h h':Heap}{xs:List N}{vs:List aVT},aQ h xs vs->(∀x∈xs,∀v,IsN h x v->IsN h' x v)->aQ h' xs vs
 |h,h',[],vs,q,k=>by rw[aQ]at q ⊢;exact q
 |h,h',x::xs,vs,q,k=>by rw[aQ]at q ⊢;obtain⟨u,us,e,q1,q2⟩:=q;exact⟨u,us,e,k x mcs u q1,q2.map λy hy=>k y (mcm hy)⟩
def IsN.keeps{d:Addr}{o:Obj}{es ep:_}(ho:h.get? d=some o)(hd:o.data=.dict es ep)(hs:Heap.SameBut d h h')(k:N):∀v,IsN h k v->IsN h' k v:=by
 induction k using N.ind with
 |hi n=>intro v q;rw[IsN]at q ⊢;exact q
 |hs x=>intro v q;rw[IsN]at q ⊢;exact q
 |ht xs ih =>
  intro v q;rw[IsN]at q ⊢;obtain⟨a,o',items,n,e,ha,hc,hd',hi⟩:=q;have hne:a≠d:=by rintro rfl;obtain rfl:o'=o:=aP4 (ha.symm.trans ho);rw[hd]at hd';exact nomatch hd'
  exact⟨a,o',items,n,e,(hs.2 a hne).trans ha,hc,hd',hi.map ih⟩
theorem aQ.readsL:∀{h:Heap}{xs:List N}{vs:List aVT},aQ h xs vs->(∀x∈xs,∀v,IsN h x v->(∃as,Reads h v x.py as)/\x.py.canLay0=true)->(∃as,ReadsAll h vs (N.pyL xs) as)/\PyData.canLayAll0 (N.pyL xs)=true
 |h,[],vs,q,k=>by rw[aQ]at q;subst q;exact⟨⟨_,.nil⟩,by simp[N.pyL,PyData.canLayAll0]⟩
 |h,x::xs,vs,q,k=>by rw[aQ]at q;obtain⟨u,us,rfl,q1,q2⟩:=q;obtain⟨⟨as,ra⟩,ca⟩:=k x mcs u q1;obtain⟨⟨bs,rb⟩,cb⟩:=q2.readsL λy hy=>k y (mcm hy);exact⟨⟨_,.cons ra rb⟩,by simp only[N.pyL,PyData.canLayAll0,ca,cb,Bool.and_self]⟩
def IsN.reads(k:N):∀v,IsN h k v->(∃as,Reads h v k.py as)/\k.py.canLay0=true:=by
 induction k using N.ind with
 |hi n=>intro v q;rw[IsN]at q;obtain⟨t,rfl⟩:=q;exact⟨⟨_,.int n t⟩,rfl⟩
 |hs x=>intro v q;rw[IsN]at q;obtain⟨⟨t,rfl⟩,hk⟩:=q;exact⟨⟨_,.str x t⟩,by simpa only [N.py,PyData.canLay0]using hk⟩
 |ht xs ih=>intro v q;rw[IsN]at q;obtain⟨a,o',items,n,rfl,ha,hc,hd',hi⟩:=q;obtain⟨⟨as,ra⟩,ca⟩:=hi.readsL ih;exact⟨⟨_,.tuple ha hc hd' ra⟩,by simpa only [N.py,PyData.canLay0]using ca⟩
theorem aQ.inj:∀{h:Heap}{xs ys:List N}{vs:List aVT},(∀x∈xs,∀y v,IsN h x v->IsN h y v->x=y)->aQ h xs vs->aQ h ys vs->xs=ys
 |h,[],[],vs,_,_,_=>rfl
 |h,[],y::ys,vs,_,p,q=>by rw[aQ]at p;subst p;rw[aQ]at q;obtain⟨_,_,e,_⟩:=q;cases e
 |h,x::xs,[],vs,_,p,q=>by rw[aQ]at q;subst q;rw[aQ]at p;obtain⟨_,_,e,_⟩:=p;cases e
 |h,x::xs,y::ys,vs,k,p,q=>by rw[aQ]at p q;obtain⟨u,us,rfl,p1,p2⟩:=p;obtain⟨_,_,e,q1,q2⟩:=q;cases e;rw[k x mcs y _ p1 q1,aQ.inj (λz hz=>k z (mcm hz)) p2 q2]
theorem IsN.inj(k:N):∀y v,IsN h k v->IsN h y v->k=y:=by
 induction k using N.ind with
 |hi n =>
  intro y v p q;rw[IsN]at p;obtain⟨t,rfl⟩:=p;cases y with
  |i m=>rw[IsN]at q;obtain⟨u,e⟩:=q;cases e;rfl
  |s x=>rw[IsN]at q;obtain⟨⟨u,e⟩,_⟩:=q;cases e
  |t xs=>rw[IsN]at q;obtain⟨_,_,_,_,e,_⟩:=q;cases e
 |hs x =>
  intro y v p q;rw[IsN]at p;obtain⟨⟨t,rfl⟩,_⟩:=p;cases y with
  |i m=>rw[IsN]at q;obtain⟨u,e⟩:=q;cases e
  |s x=>rw[IsN]at q;obtain⟨⟨u,e⟩,_⟩:=q;cases e;rfl
  |t xs=>rw[IsN]at q;obtain⟨_,_,_,_,e,_⟩:=q;cases e
 |ht xs ih =>
  intro y v p q;rw[IsN]at p;obtain⟨a,o,items,n,rfl,ha,hc,hd,hi⟩:=p;cases y with
  |i m=>rw[IsN]at q;obtain⟨u,e⟩:=q;cases e
  |s x=>rw[IsN]at q;obtain⟨⟨u,e⟩,_⟩:=q;cases e
  |t ys =>
   rw[IsN]at q;obtain⟨a',o',items',n',e,ha',_,hd',hi'⟩:=q;cases e;obtain rfl:o=o':=aP4 (ha.symm.trans ha');rw[hd]at hd';injection hd' with h1 _
   subst h1;rw[aQ.inj ih hi hi']
mutual
noncomputable def N.dr:N->Nat
 |.i _=>1
 |.s _=>1
 |.t xs=>N.drL xs+1
noncomputable def N.drL:List N->Nat
 |[]=>0
 |x::xs=>N.dr x+N.drL xs
end
section
variable {A:aVV}{E:VSP}
theorem u7:∀(xs:List N) (y:N),N.drL (xs++[y])=N.drL xs+N.dr y
 |[],y=>by simp[N.drL]
 |x::xs,y=>by rw[aRV,N.drL,u7 xs y,N.drL,aRW]
theorem u8:∀(xs:List N) (y:N),dZ w (xs++[y])=dZ w xs++[aN w y]
 |[],y=>by simp[dZ]
 |x::xs,y=>by rw[aRV,dZ,u8 xs y,dZ,aRV]
theorem u9(k:N):∀{A:aVV}{E:VSP}{s:aVU}{v:aVT}{Q:Int->aVU->Prop},A.units+k.dp<cLine->IsN s.heap k v->Q (aN w k) {s with toks:=s.toks+k.dr} -> wpAny (model prog w) A (pyHash v) Q E s:=by
 induction k using N.ind with
 |hi n=>intro A E s v Q hu hk h;rw[IsN]at hk;obtain⟨t,rfl⟩:=hk;rw[aN,N.dr]at h;exact wpAny_pyHash_int h
 |hs x=>intro A E s v Q hu hk h;rw[IsN]at hk;obtain⟨⟨t,rfl⟩,_⟩:=hk;rw[aN,N.dr]at h;exact wpAny_pyHash_str h
 |ht xs ih =>
  intro A E s v Q hu hk h;rw[IsN]at hk;obtain⟨a,o,items,n,rfl,ho,hc,hd,hi⟩:=hk;rw[N.dp]at hu;have hT:s.TypeIs (.ref a) "tuple" := ⟨o,ho,hc⟩;unfold pyHash
  first|unfold pyHashByItsType|skip
  first|refine aQA (wpAny_cRoomFor_or (.inr (by lia)) ?_)|skip
  refine aQA (aRX hT F.slot_tuple_hash.lookup ?_);show wpAny _ _ (if(some (Value.builtin "tuple.__hash__")==some Value.none)=true then _ else _) Q E s;rw[if_neg (by rw[beq_builtin_none];exact aQL)]
  refine aQA (aRX hT F.slot_tuple_hash.lookup ?_);show wpAny _ _ (callSpecialIfBoundUnlessNone? (.ref a) "__hash__" _>>=_) Q E s;refine aQA (wpAny_callSpecialIfBoundUnlessNone?_slot hT F.slot_tuple_hash (aRH F.slot_tuple_hash hT F.entry_tuple_hash ?_ (F.args_tuple_hash_1 _)));show wpAny _ _ (Builtin.Tuple.tupleItemsOf (.ref a)>>=_) _ _ s;refine aQA (wpAny_tupleItemsOf ho hd ?_);refine aQA ?_;rw[<- aRY];refine aRZ _
   (λrest (b:Array Int) s'=>∃done left,xs=done++left/\aQ s.heap left rest/\b.toList=dZ w done/\s'={s with toks:=s.toks+N.drL done})
   _ ?_ ?_ _ _ ⟨[],xs,rfl,hi,by simp[dZ],by simp[N.drL]⟩
  . rintro x rest b s' ⟨done,left,e,hl,hb,rfl⟩;cases left with
    |nil=>rw[aQ]at hl;cases hl
    |cons k ks =>
     rw[aQ]at hl;obtain⟨_,_,e',h1,hl'⟩:=hl;cases e';have hm:k∈xs:=by rw[e];simp
     refine aQA (ih k hm (A:=A.in1) (by have:=N.dp_mem hm;show A.units+1+_<_;lia) h1 ?_)
     have fin:∃done' left',xs=done'++left'/\aQ s.heap left' rest/\(b.push (aN w k)).toList=dZ w done'/\({s with toks:=s.toks+N.drL done+k.dr}:aVU)={s with toks:=s.toks+N.drL done'} :=
      ⟨done++[k],ks,by rw[e];simp,hl',by rw[u8,aR0,hb],by rw[u7,aRW]⟩
     first
      |exact aP9 fin
      |exact aQA (aP9 (aP9 fin))
  . rintro b s' ⟨done,left,e,hl,hb,rfl⟩;cases left with
    |cons k ks=>rw[aQ]at hl;obtain⟨_,_,e',_⟩:=hl;cases e'
    |nil =>
    rw[aQR]at e;subst e;show wpAny _ _ (retInt (Builtin.Tuple.tupleHashOf b.toList)) _ _ _;rw[hb];refine wpAny_ret_mkInt ?_;show wpAny _ _ (if(decide (-(2:Int) ^ 63<=Builtin.Tuple.tupleHashOf (dZ w xs))&&decide (Builtin.Tuple.tupleHashOf (dZ w xs)<2 ^ 63))=true then _ else _) Q E _;rw[aN,N.dr]at h;unfold reduceHash at h;by_cases hr:(decide (-(2:Int) ^ 63<=Builtin.Tuple.tupleHashOf (dZ w xs))&&decide (Builtin.Tuple.tupleHashOf (dZ w xs)<2 ^ 63))=true
    . rw[if_pos hr];rw[if_pos hr]at h;exact aP9 (by simpa[aRW]using h)
    . rw[if_neg hr];rw[if_neg hr]at h;exact aQA (aR1 (aP9 (by simpa[aRW]using h)))
theorem pY{x y:N}{v:aVT}(hu:A.units+x.dp<cLine)(hx:IsN s.heap x u)(hy:IsN s.heap y v)(h:Q (decide (x=y)) s):wpAny (model prog w) A (eqBool u v) Q E s:=by
 obtain⟨⟨as,ra⟩,ca⟩:=IsN.reads x u hx;obtain⟨⟨bs,rb⟩,cb⟩:=IsN.reads y v hy;refine SeqAt.eqAt_reads x.py y.py A s u v as bs ra rb ca cb (by rw[N.py_depth];have:=aR2 x.dp y.py.depth;lia) prog w E Q ?_
 rw[N.py_eqv];exact h
theorem pZ(k:N):∀{n:Nat}{v:aVT}{Q:Bool->aVU->Prop},k.dp<=n->IsN s.heap k v->Q true s->wpAny (model prog w) A (eqIsQuiet n v) Q E s:=by
 induction k using N.ind with
 |hi m=>intro n v Q hn hk h;rw[IsN]at hk;obtain⟨t,rfl⟩:=hk;rw[eqIsQuiet_byValue n rfl];exact aP9 h
 |hs x=>intro n v Q hn hk h;rw[IsN]at hk;obtain⟨⟨t,rfl⟩,_⟩:=hk;rw[eqIsQuiet_byValue n rfl];exact aP9 h
 |ht xs ih =>
  intro n v Q hn hk h;rw[IsN]at hk;obtain⟨a,o,items,c,rfl,ho,hc,hd,hi⟩:=hk;rw[N.dp]at hn;cases n with
  |zero=>lia
  |succ n =>
   have hT:s.TypeIs (.ref a) "tuple" := ⟨o,ho,hc⟩;unfold eqIsQuiet;refine aQA (aRX hT F.slot_tuple_eq.lookup ?_);show wpAny _ _ (isInstance (.ref a) (.type "tuple")>>=_) _ _ s;refine aQA (aR3 hT isSubtype_tuple_tuple ?_);simp only[aR4,aR5,aRA];refine aQA (wpAny_seqItems ho hd ?_);refine aQA ?_;show wpAny _ _ (forIn items _ _) _ _ s;rw[<- aRY];refine aRZ _ (λrest r s'=>r.1=none/\s'=s/\∀v∈rest,∃x∈xs,IsN s.heap x v) _ ?_ ?_ _ _ ⟨rfl,rfl,hi.mem⟩
   . rintro v rest r s' ⟨hr,rfl,hall⟩;obtain⟨x,hx,hv⟩:=hall v mcs;refine aQA (ih x hx (n:=n) (by have:=N.dp_mem hx;lia) hv ?_)
     simp only[aR4,aR5,aRA];exact aP9 ⟨rfl,rfl,λu hu'=>hall u (mcm hu')⟩
   . rintro⟨r1,r2⟩ s' ⟨hr,rfl,_⟩;simp only at hr;subst hr;exact aP9 h
end
noncomputable def nO(prog:aVX)(w:aVW):HeapKind prog w N where
 is:=λh k a=>IsN h k (.ref a)/\k.dp<=8
 hash:=aN w
 draws:=N.dr
 room:=λA=>A.units+8<cLine
 inj:=λhx hy=>IsN.inj _ _ _ hx.1 hy.1
 keeps:=λx ho hd hs=>⟨IsN.keeps ho hd hs _ _ x.1,x.2⟩
 pyHash:=λhu hk h=>u9 _ (by have:=hk.2;omega) hk.1 h
 eqBool:=λhu hx hy h=>pY (by have:=hx.2;omega) hx.1 hy.1 h
 quiet:=λhk h=>pZ _ hk.2 hk.1 h
end L2
namespace D3
inductive D where
 |non|bl (b:Bool)|int (i:Int)|str (x:Str)|tup (xs:List D)|lst (xs:List D)|dct (kvs:List (Key×D))|ty (n:String)|ob (a:Addr)|ins (c:Str) (fs:List (Str×D))|fn (x:Str)|exn (c:Str)|set (ks:List Key)|dtn (kvs:List (N×D))|dtf (kvs:List (N×D))
inductive Md where|fz|fr|bo
 deriving DecidableEq
inductive Res where
 |ok (m:Md) (d:D)|exc (c:Str)|stuck
noncomputable def xobj(a C:Addr):HO:=.ext λh=>∃o,h.get? a=some o/\o.cls=.ref C
mutual
def NAt(K:Fg)(F:Hp):N->V->Prop
 |.i n,v=>v=.int n
 |.s x,v=>v=.str x/\x.length<=sizeLine/\PyData.strOk x=true
 |.t xs,v=>∃a ys,v=.ref a/\SqT K F a ys/\bN K F xs ys
def bN(K:Fg)(F:Hp):List N->List V->Prop
 |[],ys=>ys=[]
 |x::xs,ys=>∃y zs,ys=y::zs/\NAt K F x y/\bN K F xs zs
end
end D3
variable {ds NS CS:List D3.D}{Φ:List D3.D->D3.Res}{m':D3.Md}{M:D3.D}
namespace D3
def vA(S:Key->Bool)(ks:List Key):Prop:=ks.Nodup/\∀k,S k=true↔k∈ks
mutual
def aC(K:Fg)(F:Hp):D->V->Prop
 |.non,v=>v=.non
 |.bl b,v=>v=.bl b
 |.int i,v=>v=.int i
 |.str x,v=>v=.str x/\x.length<=sizeLine/\PyData.strOk x=true
 |.tup ds,v=>∃a xs,v=.ref a/\SqT K F a xs/\aD K F ds xs
 |.lst ds,v=>∃a xs,v=.ref a/\SqL K F a xs/\aD K F ds xs
 |.dct kvs,v=>∃a xs,v=.ref a/\F a=some (.dK xs)/\dQ K F kvs xs
 |.ty n,v=>v=.ty n
 |.ob a,v=>v=.ref a
 |.ins c fs,v=>∃a C dx gs,v=.ref a/\W.nsIn K mainGlobals c=some (some (.ref C))/\F a=some (.ins C dx gs)/\cV K F fs gs
 |.fn x,v=>∃a,v=.ref a/\W.nsIn K mainGlobals x=some (some (.ref a))
 |.exn c,v=>∃a C,v=.ref a/\W.nsIn K mainGlobals c=some (some (.ref C))/\F a=some (xobj a C)
 |.set ks,v=>∃a S,v=.ref a/\F a=some (.set S ks.length)/\vA S ks
 |.dtn kvs,v=>∃a xs,v=.ref a/\F a=some (.dN xs)/\aO K F kvs xs
 |.dtf kvs,v=>∃a o xs,v=.ref a/\F a=some (.frz o (.dN xs))/\aO K F kvs xs
def aO(K:Fg)(F:Hp):List (N×D)->List (N×Addr×V)->Prop
 |[],xs=>xs=[]
 |(k,d)::ds,xs=>∃b y ys,xs=(k,b,y)::ys/\(NAt K F k (.ref b)/\k.dp<=8)/\aC K F d y/\aO K F ds ys
def aD(K:Fg)(F:Hp):List D->List V->Prop
 |[],xs=>xs=[]
 |d::ds,xs=>∃y ys,xs=y::ys/\aC K F d y/\aD K F ds ys
def dQ(K:Fg)(F:Hp):List (Key×D)->List (Key×V)->Prop
 |[],xs=>xs=[]
 |(k,d)::ds,xs=>∃y ys,xs=(k,y)::ys/\aC K F d y/\dQ K F ds ys
def cV(K:Fg)(F:Hp):List (Str×D)->List (Str×V)->Prop
 |[],xs=>xs=[]
 |(k,d)::ds,xs=>∃y ys,xs=(k,y)::ys/\aC K F d y/\cV K F ds ys
end
def aG.seqT{K:Fg}{a:Addr}(e:aG H H')(h:SqT K H a xs):SqT K H' a xs:=by
 rcases h with(h|⟨o,h⟩)|h
 . exact .inl (.inl (e _ _ h))
 . exact .inl (.inr ⟨o,e _ _ h⟩)
 . exact .inr h
section
variable {K:Fg}{F:Hp}
theorem bN.map:∀{xs:List N}{ys:List V},bN K F xs ys->(∀x∈xs,∀v,NAt K F x v->NAt K F' x v)->bN K F' xs ys
 |[],_,h,_=>by simpa only [bN]using h
 |x::xs,ys,h,k=>by simp only[bN]at h ⊢;obtain⟨y,zs,e,q,r⟩:=h;exact⟨y,zs,e,k x mcs y q,r.map λz hz=>k z (mcm hz)⟩
def NAt.mono(s:aG F F')(k:N):∀v,NAt K F k v->NAt K F' k v:=by
 induction k using N.ind with
 |hi n=>intro v h;simpa only [NAt]using h
 |hs x=>intro v h;simpa only [NAt]using h
 |ht xs ih=>intro v h;simp only[NAt]at h ⊢;obtain⟨a,ys,e,q,r⟩:=h;exact⟨a,ys,e,aG.seqT s q,r.map ih⟩
mutual
theorem aC.mono(s:aG F F'):∀(d:D) (v:V),aC K F d v->aC K F' d v
 |.non,_,h=>by simpa only [aC]using h
 |.bl _,_,h=>by simpa only [aC]using h
 |.int _,_,h=>by simpa only [aC]using h
 |.str _,_,h=>by simpa only [aC]using h
 |.tup ds,v,h=>by simp only[aC]at h ⊢;obtain⟨a,xs,e,q,r⟩:=h;exact⟨a,xs,e,aG.seqT s q,aD.mono s ds xs r⟩
 |.lst ds,v,h=>by simp only[aC]at h ⊢;obtain⟨a,xs,e,q,r⟩:=h;exact⟨a,xs,e,s.seq q,aD.mono s ds xs r⟩
 |.dct ds,v,h=>by simp only[aC]at h ⊢;obtain⟨a,xs,e,q,r⟩:=h;exact⟨a,xs,e,s _ _ q,dQ.mono s ds xs r⟩
 |.ty _,_,h=>by simpa only [aC]using h
 |.ob _,_,h=>by simpa only [aC]using h
 |.fn _,_,h=>by simpa only [aC]using h
 |.exn _,_,h=>by simp only[aC]at h ⊢;obtain⟨a,C,e,n,q⟩:=h;exact⟨a,C,e,n,s _ _ q⟩
 |.set _,_,h=>by simp only[aC]at h ⊢;obtain⟨a,S,e,q,r⟩:=h;exact⟨a,S,e,s _ _ q,r⟩
 |.dtn ds,v,h=>by simp only[aC]at h ⊢;obtain⟨a,xs,e,q,r⟩:=h;exact⟨a,xs,e,s _ _ q,aO.mono s ds xs r⟩
 |.dtf ds,v,h=>by simp only[aC]at h ⊢;obtain⟨a,o,xs,e,q,r⟩:=h;exact⟨a,o,xs,e,s _ _ q,aO.mono s ds xs r⟩
 |.ins c fs,v,h=>by simp only[aC]at h ⊢;obtain⟨a,C,dx,gs,e,n,q,r⟩:=h;exact⟨a,C,dx,gs,e,n,s _ _ q,cV.mono s fs gs r⟩
theorem aD.mono(s:aG F F'):∀(ds:List D) (xs:List V),aD K F ds xs->aD K F' ds xs
 |[],_,h=>by simpa only [aD]using h
 |d::ds,xs,h=>by simp only[aD]at h ⊢;obtain⟨y,ys,e,q,r⟩:=h;exact⟨y,ys,e,aC.mono s d y q,aD.mono s ds ys r⟩
theorem dQ.mono(s:aG F F'):∀(ds:List (Key×D)) (xs:List (Key×V)),dQ K F ds xs->dQ K F' ds xs
 |[],_,h=>by simpa only [dQ]using h
 |(k,d)::ds,xs,h=>by simp only[dQ]at h ⊢;obtain⟨y,ys,e,q,r⟩:=h;exact⟨y,ys,e,aC.mono s d y q,dQ.mono s ds ys r⟩
theorem aO.mono(s:aG F F'):∀(ds:List (N×D)) (xs:List (N×Addr×V)),aO K F ds xs->aO K F' ds xs
 |[],_,h=>by simpa only [aO]using h
 |(k,d)::ds,xs,h=>by simp only[aO]at h ⊢;obtain⟨b,y,ys,e,n,q,r⟩:=h;exact⟨b,y,ys,e,⟨NAt.mono s k _ n.1,n.2⟩,aC.mono s d y q,aO.mono s ds ys r⟩
theorem cV.mono(s:aG F F'):∀(ds:List (Str×D)) (xs:List (Str×V)),cV K F ds xs->cV K F' ds xs
 |[],_,h=>by simpa only [cV]using h
 |(k,d)::ds,xs,h=>by simp only[cV]at h ⊢;obtain⟨y,ys,e,q,r⟩:=h;exact⟨y,ys,e,aC.mono s d y q,cV.mono s ds ys r⟩
end
theorem cV.lookN:∀{ds:List (Str×D)}{xs:List (Str×V)}{f:Str},cV K F ds xs->ds.lookup f=none->xs.lookup f=none
 |[],_,_,h,e=>by simp only[cV]at h;subst h;rfl
 |(k,d')::ds,_,f,h,e=>by
  simp only[cV]at h;obtain⟨y,ys,rfl,q,r⟩:=h;rw[aR6]at e ⊢;split at e
  . cases e
  . exact cV.lookN r e
theorem aD.length:∀{ds:List D}{xs:List V},aD K F ds xs->xs.length=ds.length
 |[],_,h=>by simp only[aD]at h;subst h;rfl
 |d::ds,_,h=>by simp only[aD]at h;obtain⟨y,ys,rfl,_,r⟩:=h;rw[aR7,aR7,aD.length r]
theorem aD.get:∀{ds:List D}{xs:List V}{i:Nat}{x:V},aD K F ds xs->xs[i]? = some x->∃d,ds[i]? = some d/\aC K F d x
 |[],_,_,_,h,e=>by simp only[aD]at h;subst h;simp at e
 |d::ds,_,0,_,h,e=>by simp only[aD]at h;obtain⟨y,ys,rfl,r,_⟩:=h;simp at e;subst e;exact⟨d,rfl,r⟩
 |d::ds,_,i+1,_,h,e=>by
  simp only[aD]at h;obtain⟨y,ys,rfl,_,r⟩:=h;obtain⟨d',e',r'⟩:=aD.get (i:=i) r (by simpa using e)
  exact⟨d',by simpa using e',r'⟩
theorem aD.get':∀{ds:List D}{xs:List V}{i:Nat}{d:D},aD K F ds xs->ds[i]? = some d->∃x,xs[i]? = some x/\aC K F d x
 |[],_,_,_,h,e=>by simp at e
 |d::ds,_,0,_,h,e=>by simp only[aD]at h;obtain⟨y,ys,rfl,r,_⟩:=h;simp at e;subst e;exact⟨y,rfl,r⟩
 |d::ds,_,i+1,_,h,e=>by
  simp only[aD]at h;obtain⟨y,ys,rfl,_,r⟩:=h;obtain⟨d',e',r'⟩:=aD.get' (i:=i) r (by simpa using e)
  exact⟨d',by simpa using e',r'⟩
theorem aD.append:∀{ds es:List D}{xs ys:List V},aD K F ds xs->aD K F es ys->aD K F (ds++es) (xs++ys)
 |[],_,_,_,h,r=>by simp only[aD]at h;subst h;exact r
 |d::ds,_,_,_,h,r=>by simp only[aD]at h;obtain⟨y,ys,rfl,q,t⟩:=h;show aD K F (d::(ds++_)) (y::(ys++_));simp only[aD];exact⟨y,_,rfl,q,aD.append t r⟩
def aD.nil:aD K F [] []:=by simp only[aD]
def aD.cons{d:D}{ds:List D}{x:V}{xs:List V}(h:aC K F d x)(r:aD K F ds xs):aD K F (d::ds) (x::xs):=by simp only[aD];exact⟨x,xs,rfl,h,r⟩
end
def Top(K:Fg)(F H:Hp)(a:Addr):D->Prop
 |.lst ds=>∃xs,H a=some (.lst xs)/\aD K F ds xs
 |.dct ds=>∃xs,H a=some (.dK xs)/\dQ K F ds xs
 |.ins c fs=>∃C dx gs,W.nsIn K mainGlobals c=some (some (.ref C))/\H a=some (.ins C dx gs)/\cV K F fs gs
 |.set ks=>∃S,H a=some (.set S ks.length)/\vA S ks
 |.dtn ds=>∃xs,H a=some (.dN xs)/\aO K F ds xs
 |_=>False
def Rp(K:Fg)(F H:Hp)(m:Md)(d:D)(v:V):Prop :=
 match m with
 |.fz=>aC K F d v
 |_=>∃a,v=.ref a/\F a=none/\Top K F H a d
structure aI(F H F' H':Hp):Prop where
 same:aG H H'
 fsame:aG F F'
 sub:aG F' H'
 new:∀a,F a=none->H a≠none->F' a=none
theorem aI.refl{F:Hp}(h:aG F H):aI F H F H:=⟨aG.refl _,aG.refl _,h,λ_ h _=>h⟩
theorem aI.trans{F H1 F2 H2:Hp}(a:aI F H F1 H1)(b:aI F1 H1 F2 H2):aI F H F2 H2 :=
 ⟨a.same.trans b.same,a.fsame.trans b.fsame,b.sub,λx h1 h2=>b.new x (a.new x h1 h2) (by
  cases e:H x with
  |none=>exact absurd e h2
  |some o=>rw[a.same x o e];exact λz=>nomatch z)⟩
def aI.laid{F:Hp}{p:Addr}(o:HO)(h:aG F H)(hp:H p=none):aI F H (upd F p o) (upd H p o):=by
 have hf:F p=none:=h.free hp;refine⟨λb u e=>?_,λb u e=>?_,λb u e=>?_,λa h1 h2=>?_⟩
 . rw[aP (b0 e hp)];exact e
 . rw[aP (b0 e hf)];exact e
 . by_cases hb:b=p
   . subst hb;rw[bE]at e ⊢;exact e
   . rw[aP hb]at e ⊢;exact h b u e
 . have:a≠p:=by rintro rfl;exact h2 hp
   rw[aP this];exact h1
def aI.fresh{F:Hp}{p:Addr}(o:HO)(h:aG F H)(hp:H p=none):aI F H F (upd H p o):=by
 refine⟨λb u e=>?_,aG.refl _,λb u e=>?_,λa h1 _=>h1⟩
 . rw[aP (b0 e hp)];exact e
 . rw[aP (b0 (h b u e) hp)];exact h b u e
def Top.step{K:Fg}{F:Hp}{a:Addr}{d:D}(st:aI F H F' H')(h:Top K F H a d):Top K F' H' a d:=by
 cases d with
 |lst ds=>obtain⟨xs,e,r⟩:=h;exact⟨xs,st.same _ _ e,r.mono st.fsame _ _⟩
 |dct ds=>obtain⟨xs,e,r⟩:=h;exact⟨xs,st.same _ _ e,r.mono st.fsame _ _⟩
 |ins c fs=>obtain⟨C,dx,gs,n,e,r⟩:=h;exact⟨C,dx,gs,n,st.same _ _ e,r.mono st.fsame _ _⟩
 |set ks=>obtain⟨S,e,r⟩:=h;exact⟨S,st.same _ _ e,r⟩
 |dtn ds=>obtain⟨xs,e,r⟩:=h;exact⟨xs,st.same _ _ e,r.mono st.fsame _ _⟩
 |_=>exact h.elim
def Top.there{K:Fg}{F:Hp}{a:Addr}{d:D}(h:Top K F H a d):H a≠none:=by
 cases d with
 |lst ds=>obtain⟨xs,e,r⟩:=h;rw[e];exact λz=>nomatch z
 |dct ds=>obtain⟨xs,e,r⟩:=h;rw[e];exact λz=>nomatch z
 |ins c fs=>obtain⟨C,dx,gs,n,e,r⟩:=h;rw[e];exact λz=>nomatch z
 |set ks=>obtain⟨S,e,r⟩:=h;rw[e];exact λz=>nomatch z
 |dtn ds=>obtain⟨xs,e,r⟩:=h;rw[e];exact λz=>nomatch z
 |_=>exact h.elim
theorem Rp.step{K:Fg}{F:Hp}{m:Md}{d:D}(st:aI F H F' H')(h:Rp K F H m d v):Rp K F' H' m d v:=by
 cases m with
 |fz=>exact aC.mono st.fsame d v h
 |fr=>obtain⟨a,e,n,t⟩:=h;exact⟨a,e,st.new a n t.there,t.step st⟩
 |bo=>obtain⟨a,e,n,t⟩:=h;exact⟨a,e,st.new a n t.there,t.step st⟩
def Rp.seqL{K:Fg}{F:Hp}{m:Md}(s:aG F H)(h:Rp K F H m (.lst ds) v):∃a xs,v=.ref a/\SqL K H a xs/\aD K F ds xs:=by
 cases m with
 |fz=>have h:aC K F (.lst ds) v:=h;simp only[aC]at h;obtain⟨a,xs,e,q,r⟩:=h;exact⟨a,xs,e,s.seq q,r⟩
 |fr=>obtain⟨a,e,n,xs,q,r⟩:=h;exact⟨a,xs,e,SqL.of q,r⟩
 |bo=>obtain⟨a,e,n,xs,q,r⟩:=h;exact⟨a,xs,e,SqL.of q,r⟩
theorem Rp.seqT{K:Fg}{F:Hp}{m:Md}(s:aG F H)(h:Rp K F H m (.tup ds) v):∃a xs,v=.ref a/\SqT K H a xs/\aD K F ds xs:=by
 cases m with
 |fz=>have h:aC K F (.tup ds) v:=h;simp only[aC]at h;obtain⟨a,xs,e,q,r⟩:=h;exact⟨a,xs,e,aG.seqT s q,r⟩
 |fr=>obtain⟨a,e,n,q⟩:=h;exact q.elim
 |bo=>obtain⟨a,e,n,q⟩:=h;exact q.elim
def Rp.dict{K:Fg}{F:Hp}{m:Md}{ds:List (Key×D)}(s:aG F H)(h:Rp K F H m (.dct ds) v):∃a xs,v=.ref a/\H a=some (.dK xs)/\dQ K F ds xs:=by
 cases m with
 |fz=>have h:aC K F (.dct ds) v:=h;simp only[aC]at h;obtain⟨a,xs,e,q,r⟩:=h;exact⟨a,xs,e,s _ _ q,r⟩
 |fr=>obtain⟨a,e,n,xs,q,r⟩:=h;exact⟨a,xs,e,q,r⟩
 |bo=>obtain⟨a,e,n,xs,q,r⟩:=h;exact⟨a,xs,e,q,r⟩
theorem Rp.ins{K:Fg}{F:Hp}{m:Md}{c:Str}{fs:List (Str×D)}(s:aG F H)(h:Rp K F H m (.ins c fs) v):∃a C dx gs,v=.ref a/\W.nsIn K mainGlobals c=some (some (.ref C))/\H a=some (.ins C dx gs)/\cV K F fs gs:=by
 cases m with
 |fz=>have h:aC K F (.ins c fs) v:=h;simp only[aC]at h;obtain⟨a,C,dx,gs,e,n,q,r⟩:=h;exact⟨a,C,dx,gs,e,n,s _ _ q,r⟩
 |fr=>obtain⟨a,e,n,C,dx,gs,z,q,r⟩:=h;exact⟨a,C,dx,gs,e,z,q,r⟩
 |bo=>obtain⟨a,e,n,C,dx,gs,z,q,r⟩:=h;exact⟨a,C,dx,gs,e,z,q,r⟩
theorem Rp.int{K:Fg}{F:Hp}{m:Md}{i:Int}(h:Rp K F H m (.int i) v):v=.int i:=by
 cases m with
 |fz=>have h:aC K F (.int i) v:=h;simpa only [aC]using h
 |fr=>obtain⟨a,e,n,q⟩:=h;exact q.elim
 |bo=>obtain⟨a,e,n,q⟩:=h;exact q.elim
theorem Rp.bl{K:Fg}{F:Hp}{m:Md}{i:Bool}(h:Rp K F H m (.bl i) v):v=.bl i:=by
 cases m with
 |fz=>have h:aC K F (.bl i) v:=h;simpa only [aC]using h
 |fr=>obtain⟨a,e,n,q⟩:=h;exact q.elim
 |bo=>obtain⟨a,e,n,q⟩:=h;exact q.elim
theorem Rp.non{K:Fg}{F:Hp}{m:Md}(h:Rp K F H m .non v):v=.non:=by
 cases m with
 |fz=>have h:aC K F .non v:=h;simpa only [aC]using h
 |fr=>obtain⟨a,e,n,q⟩:=h;exact q.elim
 |bo=>obtain⟨a,e,n,q⟩:=h;exact q.elim
theorem Rp.str{K:Fg}{F:Hp}{m:Md}(h:Rp K F H m (.str x) v):v=.str x/\x.length<=sizeLine/\PyData.strOk x=true:=by
 cases m with
 |fz=>have h:aC K F (.str x) v:=h;simpa only [aC]using h
 |fr=>obtain⟨a,e,n,q⟩:=h;exact q.elim
 |bo=>obtain⟨a,e,n,q⟩:=h;exact q.elim
theorem Rp.ty{K:Fg}{F:Hp}{m:Md}{n:String}(h:Rp K F H m (.ty n) v):v=.ty n:=by
 cases m with
 |fz=>have h:aC K F (.ty n) v:=h;simpa only [aC]using h
 |fr=>obtain⟨a,e,n,q⟩:=h;exact q.elim
 |bo=>obtain⟨a,e,n,q⟩:=h;exact q.elim
theorem Rp.ob{K:Fg}{F:Hp}{m:Md}{n:Addr}(h:Rp K F H m (.ob n) v):v=.ref n:=by
 cases m with
 |fz=>have h:aC K F (.ob n) v:=h;simpa only [aC]using h
 |fr=>obtain⟨a,e,n,q⟩:=h;exact q.elim
 |bo=>obtain⟨a,e,n,q⟩:=h;exact q.elim
def rp_ty{K:Fg}{F:Hp}(i:String):Rp K F H .fz (.ty i) (.ty i):=by show aC K F _ _;simp only[aC]
def dR{K:Fg}{F:Hp}(i:Int):Rp K F H .fz (.int i) (.int i):=by show aC K F _ _;simp only[aC]
def eC{K:Fg}{F:Hp}(i:Bool):Rp K F H .fz (.bl i) (.bl i):=by show aC K F _ _;simp only[aC]
def vB{K:Fg}{F:Hp}:Rp K F H .fz .non .non:=by show aC K F _ _;simp only[aC]
def jH{K:Fg}{F:Hp}(h:x.length<=sizeLine/\PyData.strOk x=true):Rp K F H .fz (.str x) (.str x):=by show aC K F _ _;simp only[aC,true_and];exact h
abbrev Rho:=List (Option (Bool×D))
structure aS(K:Fg)(F0 H0 F H:Hp)(σ:L2.St)(ρ:Rho):Prop where
 st:aI F0 H0 F H
 slot:∀(i:Nat) (m:Bool) (d:D),ρ[i]? = some (some (m,d))->∃v,σ[i]? = some (some v)/\Rp K F H (if m then .bo else .fz) d v/\(m=true->∀a,v=.ref a->H0 a=none)
 apart:∀(i j:Nat) (d d':D) (a:Addr),i≠j->ρ[i]? = some (some (true,d))->ρ[j]? = some (some (true,d'))->σ[i]? = some (some (.ref a))->σ[j]? = some (some (.ref a))->False
 len:σ.length=ρ.length
theorem aS.step{K:Fg}{F:Hp}{ρ:Rho}(r:aS K F0 H0 F H σ ρ)(st:aI F H F' H'):aS K F0 H0 F' H' σ ρ :=
 ⟨r.st.trans st,λi m d e=>by obtain⟨v,e1,e2,e3⟩:=r.slot i m d e;exact⟨v,e1,e2.step st,e3⟩,r.apart,r.len⟩
theorem aS.sub{K:Fg}{F:Hp}{ρ:Rho}(r:aS K F0 H0 F H σ ρ):aG F H:=r.st.sub
abbrev XE:=Str->L2.St->Hp->Prop
structure Cw where
 K:Fg
 F0:Hp
 H0:Hp
 EE:XE
def tG(C:Cw)(g:Rho->Res):TE:=λσ H Q=>∃ρ F,aS C.K C.F0 C.H0 F H σ ρ/\match g ρ with
 |.ok m d=>∀v F' H',aI F H F' H'->Rp C.K F' H' m d v->(m=.fr->∀a,v=.ref a->H a=none)->Q v H'
 |.exc c=>∀F' H',aI F H F' H'->C.EE c σ H'
 |.stuck=>False
noncomputable abbrev Cw.at(C:Cw)(X:Cx):Cw:={C with K:=X.K}
end D3
variable {g ga gb gi ge:D3.Rho->D3.Res}{C:D3.Cw}{ρ:D3.Rho}
namespace D3
def PV(C:Cw)(X:Cx)(e:Expr)(g:Rho->Res):Prop:=PE X e (tG (C.at X) g)
def PE.imp{t t':TE}(h:PE X e t)(i:∀σ H Q,t' σ H Q->t σ H Q):PE X e t':=λaA s σ H Q I q=>h aA s σ H Q I (i σ H Q q)
noncomputable def Res.thn(r:Res)(k:Md->D->Res):Res:=match r with
 |.ok m d=>k m d
 |.exc c=>.exc c
 |.stuck=>.stuck
@[simp] theorem Res.thn_ok(m:Md)(d:D)(k:Md->D->Res):(Res.ok m d).thn k=k m d:=rfl
@[simp] theorem Res.thn_exc(c:Str)(k:Md->D->Res):(Res.exc c).thn k=.exc c:=rfl
@[simp] theorem Res.thn_stuck(k:Md->D->Res):Res.stuck.thn k=.stuck:=rfl
noncomputable def Res.of:Option (Md×D)->Res
 |some (m,d)=>.ok m d
 |none=>.stuck
@[simp] theorem Res.of_some(m:Md)(d:D):Res.of (some (m,d))=.ok m d:=rfl
@[simp] theorem Res.of_none:Res.of none=.stuck:=rfl
def aY(C:Cw)(F H:Hp)(σ:L2.St)(r:Res)(Q:VK):Prop:=match r with
 |.ok m d=>∀v F' H',aI F H F' H'->Rp C.K F' H' m d v->(m=.fr->∀a,v=.ref a->H a=none)->Q v H'
 |.exc c=>∀F' H',aI F H F' H'->C.EE c σ H'
 |.stuck=>False
def aX{Q:VK}:tG C g σ H Q=∃ρ F,aS C.K C.F0 C.H0 F H σ ρ/\aY C F H σ (g ρ) Q:=by unfold tG aY;rfl
def aY.step{F H1:Hp}{r:Res}{Q:VK}(st:aI F H F1 H1)(h:aY C F H σ r Q):aY C F1 H1 σ r Q:=by
 cases r with
 |ok m d=>exact λv F' H' s2 rp hf=>h v F' H' (st.trans s2) rp λe a ea=>st.same.free (hf e a ea)
 |exc c=>exact λF' H' s2=>h F' H' (st.trans s2)
 |stuck=>exact h
section
variable {a b:Expr}
noncomputable def eZ(ρ:Rho)(i:Nat):Res:=match ρ[i]? with
 |some (some (false,d))=>.ok .fz d
 |some (some (true,d))=>.ok .bo d
 |_=>.stuck
def aEC(i:Nat)(h:PE X (.Name x pos) (iE i)):PV C X (.Name x pos) (λρ=>eZ ρ i):=by
 refine PE.imp h λσ H Q q=>?_;rw[aX]at q;obtain⟨ρ,F,R,w⟩:=q;unfold eZ at w;cases e:ρ[i]? with
 |none=>rw[e]at w;exact w.elim
 |some o =>
  cases o with
  |none=>rw[e]at w;exact w.elim
  |some p =>
   obtain⟨m,d⟩:=p;obtain⟨v,e1,r,_⟩:=R.slot i m d e;rw[e]at w;cases m with
   |false=>exact⟨v,e1,w v F H (.refl R.sub) r (by nofun)⟩
   |true=>exact⟨v,e1,w v F H (.refl R.sub) r (by nofun)⟩
def iG(d:D)(h:PE X e (tC v))(r:∀F H,Rp X.K F H .fz d v):PV C X e (λ_=>.ok .fz d):=by refine PE.imp h λσ H Q q=>?_;rw[aX]at q;obtain⟨ρ,F,R,w⟩:=q;exact w v F H (.refl R.sub) (r F H) (by nofun)
def aED{i j:_}:PV C X (.Constant (.int i) j pos) (λ_=>.ok .fz (.int i)):=iG _ aBY λ_ _=>dR i
def pv_bl{i j:_}:PV C X (.Constant (.bool i) j pos) (λ_=>.ok .fz (.bl i)):=iG _ pe_bl λ_ _=>eC i
def aEE{j:_}:PV C X (.Constant .none j pos) (λ_=>.ok .fz .non):=iG _ aBZ λ_ _=>vB
def aEF{j:_}(h:(decide (x.length<=sizeLine)&&PyData.strOk x)=true:=by decide +kernel):PV C X (.Constant (.str x) j pos) (λ_=>.ok .fz (.str x)) :=
 iG _ aB0 λ_ _=>jH (by rw[aRJ,aR8]at h;exact h)
noncomputable def op2(φ:Md->D->Md->D->Option (Md×D))(x y:Res):Res:=x.thn λm d=>y.thn λn e=>Res.of (φ m d n e)
def OpD(C:Cw)(X:Cx)(f:aVT->aVT->Sem aVT)(φ:Md->D->Md->D->Option (Md×D)):Prop :=
 ∃r:R2,OpR X f r/\∀F H m x n y v u k d Q,aG F H->Rp X.K F H m x v->Rp X.K F H n y u->φ m x n y=some (k,d) ->
  (∀v' F' H',aI F H F' H'->Rp X.K F' H' k d v'->(k=.fr->∀a,v'=.ref a->H a=none)->Q v' H')->r v u H Q
def kT{φ:Md->D->Md->D->Option (Md×D)}{r:R2}(h:∀F H m x n y v u k d Q,aG F H->Rp C.K F H m x v->Rp C.K F H n y u->φ m x n y=some (k,d)->(∀v' F' H',aI F H F' H'->Rp C.K F' H' k d v'->(k=.fr->∀a,v'=.ref a->H a=none)->Q v' H')->r v u H Q){Q:VK}(q:tG C (λρ=>op2 φ (ga ρ) (gb ρ)) σ H Q):tOp r (tG C ga) (tG C gb) σ H Q:=by
 unfold tOp;rw[aX]at q ⊢;obtain⟨ρ,F,R,w⟩:=q;refine⟨ρ,F,R,?_⟩;cases ea:ga ρ with
 |stuck=>simp only[op2,ea,Res.thn]at w;exact w
 |exc c=>simp only[op2,ea,Res.thn]at w;exact w
 |ok m d =>
  intro v F1 H1 s1 r1 _;rw[aX];refine⟨ρ,F1,R.step s1,?_⟩;have w1:=w.step s1;simp only[op2,ea,Res.thn]at w1;cases eb:gb ρ with
  |stuck=>rw[eb]at w1;exact w1
  |exc c=>rw[eb]at w1;exact w1
  |ok n e =>
   rw[eb]at w1;intro u F2 H2 s2 r2 _;have w2:aY C F2 H2 σ (Res.of (φ m d n e)) Q:=aY.step s2 w1;cases ef:φ m d n e with
   |none=>rw[ef]at w2;exact w2.elim
   |some kd=>obtain⟨k,d'⟩:=kd;rw[ef]at w2;exact h F2 H2 m d n e v u k d' Q s2.sub (r1.step s2) r2 ef w2
def pv_op{op:Operator}{φ}(o:OpD C X (binaryOp op) φ)(ha:PV C X a ga)(hb:PV C X b gb):PV C X (.BinOp a op b pos) (λρ=>op2 φ (ga ρ) (gb ρ)):=by obtain⟨r,h1,h2⟩:=o;exact PE.imp (pe_op h1 ha hb) λσ H Q q=>kT h2 q
def aEG{op:CmpOp}{φ}(o:OpD C X (compareOp op) φ)(ha:PV C X a ga)(hb:PV C X b gb)(hm:behindInMarks op b=false):PV C X (.Compare a [op] [b] pos) (λρ=>op2 φ (ga ρ) (gb ρ)):=by obtain⟨r,h1,h2⟩:=o;exact PE.imp (aCZ h1 ha hb hm) λσ H Q q=>kT h2 q
noncomputable def orO(φ ψ:Md->D->Md->D->Option (Md×D)):Md->D->Md->D->Option (Md×D):=λm x n y=>(φ m x n y).orElse λ_=>ψ m x n y
theorem OpD.or{f:aVT->aVT->Sem aVT}{φ ψ}(h:OpD C X f φ)(h':OpD C X f ψ):OpD C X f (orO φ ψ):=by
 obtain⟨r,h1,h2⟩:=h;obtain⟨r',h1',h2'⟩:=h';refine⟨_,h1.or h1',λF H m x n y v u k d Q s rx ry e w=>?_⟩;unfold orO at e;cases e1:φ m x n y with
 |none=>rw[e1]at e;exact .inr (h2' F H m x n y v u k d Q s rx ry e w)
 |some p=>rw[e1]at e;cases e;exact .inl (h2 F H m x n y v u k d Q s rx ry e1 w)
noncomputable def fI(c:Int->Int->Bool)(g:Int->Int->D):Md->D->Md->D->Option (Md×D):=λ_ x _ y=>match x,y with
 |.int i,.int j=>if c i j=true then some (.fz,g i j)else none
 |_,_=>none
def nQ{f:aVT->aVT->Sem aVT}{Cc:Int->Int->Prop}{c:Int->Int->Bool}{g:Int->Int->V}{g':Int->Int->D}(o:OpR X f (rI Cc g))(hc:∀i j,c i j=true->Cc i j)(hg:∀F H i j,Rp X.K F H .fz (g' i j) (g i j)):OpD C X f (fI c g'):=by
 refine⟨_,o,λF H m x n y v u k d Q s rx ry e w=>?_⟩;unfold fI at e;split at e
 . rename_i i j;cases rx.int;cases ry.int;split at e
   . rename_i hcc;cases e;exact⟨i,j,rfl,rfl,hc i j hcc,w _ F H (.refl s) (hg F H i j) (by nofun)⟩
   . cases e
 . cases e
def jI{f:aVT->aVT->Sem aVT}{g:Int->Int->V}{g':Int->Int->D}(o:OpR X f (rI0 g))(hg:∀F H i j,Rp X.K F H .fz (g' i j) (g i j)):OpD C X f (fI (λ_ _=>true) g'):=by
 refine⟨_,o,λF H m x n y v u k d Q s rx ry e w=>?_⟩;unfold fI at e;split at e
 . rename_i i j;cases rx.int;cases ry.int;rw[if_pos rfl]at e;cases e;exact⟨i,j,rfl,rfl,w _ F H (.refl s) (hg F H i j) (by nofun)⟩
 . cases e
noncomputable def bits(i:Int):Bool:=decide (i.natAbs.log2<9000)
def aEH:OpD C X (binaryOp .Add) (fI (λ_ _=>true) λi j=>.int (i+j)):=jI aCQ λ_ _ i j=>dR _
def aEI:OpD C X (binaryOp .Sub) (fI (λ_ _=>true) λi j=>.int (i-j)):=jI aCR λ_ _ i j=>dR _
theorem aEJ{i j:Int}(h:(bits i&&bits j)=true):IntMulOk i j:=by
 rw[aRJ]at h;have b:∀{i:Int},bits i=true->Builtin.Int.intBits i<=2 ^ 20:=λ{i} h=>by
  unfold bits at h;have:=aR9 h;unfold Builtin.Int.intBits;split
  . exact aQP _
  . have e:(2:Nat) ^ 20=1048576:=by decide
    lia
 exact IntMulOk.of_bits (b h.1) (b h.2)
noncomputable def w64(i:Int):Bool:=decide (i.natAbs<2 ^ 63)
theorem vC{i:Int}(h:w64 i=true):Builtin.Int.intBits i<=64:=by
 have h:=aR9 h;unfold Builtin.Int.intBits;split
 . exact aQP _
 . rename_i hz;have:i.natAbs.log2<63:=(Nat.log2_lt (by simpa using hz)).mpr h
   lia
def aEK:OpD C X (binaryOp .Mult) (fI (λi j=>(bits i&&bits j)||(w64 i||w64 j)) λi j=>.int (i * j)) :=
 nQ (Cc:=λi j=>IntMulOk i j) (opI λ_ _ _ _ _ _ _ hc q=>mul_int q hc) (λi j h=>by
  rcases(aSA _ _).mp h with h|h
  . exact aEJ h
  . rcases(aSA _ _).mp h with h|h
    . exact IntMulOk.of_left (vC h)
    . exact IntMulOk.of_right (vC h)) λ_ _ i j=>dR _
def aEL:OpD C X (binaryOp .Mod) (fI (λ_ j=>decide (0<j)) λi j=>.int (i % j)):=nQ aCS (λi j h=>aR9 h) λ_ _ i j=>dR _
theorem aEM:OpR X (binaryOp .FloorDiv) (rI (λ_ j=>0<j/\bits j=true) λi j=>.int (i / j)):=opI λi j _ _ _ _ _ hc q=>by
 obtain⟨h1,h2⟩:=hc;refine floordiv_int (by lia) ?_ (.inl (PyProof.noPylong_of_log2 (aR9 h2)))
 rw[Int.fdiv_eq_ediv_of_nonneg i (by lia)]
 exact q
def aEN:OpD C X (binaryOp .FloorDiv) (fI (λ_ j=>decide (0<j)&&bits j) λi j=>.int (i / j)):=nQ aEM (λi j h=>by rw[aRJ,aR8]at h;exact h) λ_ _ i j=>dR _
def aEO:OpD C X (binaryOp .Pow) (fI (λi j=>decide (0<=j)&&decide (j<=1000000)&&decide (i.natAbs<2 ^ 64)) λi j=>.int (i ^ j.toNat)) :=
 nQ aCT (λi j h=>by simp only[aRJ,aR8]at h;exact⟨h.1.1,h.1.2,h.2⟩) λ_ _ i j=>dR _
def aEP:OpD C X (compareOp .Lt) (fI (λ_ _=>true) λi j=>.bl (decide (i<j))):=jI op_lt λ_ _ i j=>eC _
def aEQ:OpD C X (compareOp .LtE) (fI (λ_ _=>true) λi j=>.bl (decide (i<=j))):=jI op_le λ_ _ i j=>eC _
def aER:OpD C X (compareOp .Gt) (fI (λ_ _=>true) λi j=>.bl (decide (j<i))):=jI op_gt λ_ _ i j=>eC _
def aES:OpD C X (compareOp .GtE) (fI (λ_ _=>true) λi j=>.bl (decide (j<=i))):=jI op_ge λ_ _ i j=>eC _
noncomputable def fS(c:Str->Str->Bool)(g:Str->Str->D):Md->D->Md->D->Option (Md×D):=λ_ x _ y=>match x,y with
 |.str i,.str j=>if c i j=true then some (.fz,g i j)else none
 |_,_=>none
def aET(hx:PyData.strOk x=true)(hy:PyData.strOk y=true):PyData.strOk (x++y)=true:=by unfold PyData.strOk at *;show(x.cps++y.cps).all _=true;rw[Array.all_append,hx,hy];rfl
def aEU:OpD C X (binaryOp .Add) (fS (λi j=>decide (i.length+j.length<=sizeLine)) λi j=>.str (i++j)):=by
 refine⟨_,aC4,λF H m x n y v u k d Q s rx ry e w=>?_⟩;unfold fS at e;split at e
 . rename_i i j;obtain⟨rfl,h1⟩:=rx.str;obtain⟨rfl,h2⟩:=ry.str;split at e
   . rename_i hc;cases e;have hc:=aR9 hc;exact⟨i,j,rfl,rfl,hc,w _ F H (.refl s) (jH ⟨by rw[strLen_append];exact hc,aET h1.2 h2.2⟩) (by nofun)⟩
   . cases e
 . cases e
noncomputable def jJ(i j:Str):Bool:=!(Builtin.Str.occurrences j i 0 j.length 1).isEmpty
def aEV:OpD C X (compareOp .In) (fS (λ_ _=>true) λi j=>.bl (jJ i j)):=by
 refine⟨_,aCV,λF H m x n y v u k d Q s rx ry e w=>?_⟩;unfold fS at e;split at e
 . rename_i i j;obtain⟨rfl,h1⟩:=rx.str;obtain⟨rfl,h2⟩:=ry.str;rw[if_pos rfl]at e;cases e;exact⟨i,j,rfl,rfl,w _ F H (.refl s) (eC _) (by nofun)⟩
 . cases e
def aEW:OpD C X (compareOp .NotIn) (fS (λ_ _=>true) λi j=>.bl (!jJ i j)):=by
 refine⟨_,aCY,λF H m x n y v u k d Q s rx ry e w=>?_⟩;unfold fS at e;split at e
 . rename_i i j;obtain⟨rfl,h1⟩:=rx.str;obtain⟨rfl,h2⟩:=ry.str;rw[if_pos rfl]at e;cases e;exact⟨i,j,rfl,rfl,w _ F H (.refl s) (eC _) (by nofun)⟩
 . cases e
end
section
variable  {a b:Expr}{gc:Rho->Res}
noncomputable def aZ:Res->Res
 |.ok .bo _=>.stuck
 |.ok _ d=>.ok .fz d
 |r=>r
def aI.freeze{F:Hp}{x:Addr}{o:HO}(st:aI F H F' H')(hx:H x=none)(hx':F' x=none)(ho:H' x=some o):aI F H (upd F' x o) H':=by
 refine⟨st.same,λb u q=>?_,λb u q=>?_,λy h1 h2=>?_⟩
 . rw[aP (b0 (st.fsame b u q) hx')];exact st.fsame b u q
 . by_cases hb:b=x
   . subst hb;rw[bE]at q;rw[<- q];exact ho
   . rw[aP hb]at q;exact st.sub b u q
 . have:y≠x:=by rintro rfl;exact h2 hx
   rw[aP this];exact st.new y h1 h2
def Top.freeze{K:Fg}{F:Hp}{x:Addr}{d:D}(hx:F x=none)(h:Top K F H x d):∃o,H x=some o/\aC K (upd F x o) d (.ref x):=by
 have s:∀o,aG F (upd F x o):=λo b u q=>by rw[aP (b0 q hx)];exact q
 cases d with
 |lst ds=>obtain⟨xs,q,r⟩:=h;refine⟨_,q,?_⟩;simp only[aC];exact⟨x,xs,rfl,SqL.of bE,r.mono (s _) _ _⟩
 |dct ds=>obtain⟨xs,q,r⟩:=h;refine⟨_,q,?_⟩;simp only[aC];exact⟨x,xs,rfl,bE,r.mono (s _) _ _⟩
 |ins c fs=>obtain⟨C,dx,gs,n,q,r⟩:=h;refine⟨_,q,?_⟩;simp only[aC];exact⟨x,C,dx,gs,rfl,n,bE,r.mono (s _) _ _⟩
 |set ks=>obtain⟨S,q,r⟩:=h;refine⟨_,q,?_⟩;simp only[aC];exact⟨x,S,rfl,bE,r⟩
 |dtn ds=>obtain⟨xs,q,r⟩:=h;refine⟨_,q,?_⟩;simp only[aC];exact⟨x,xs,rfl,bE,r.mono (s _) _ _⟩
 |_=>exact h.elim
def aY.frz{F:Hp}{r:Res}{Q:VK}(w:aY C F H σ (aZ r) Q):aY C F H σ r Q:=by
 cases r with
 |exc c=>exact w
 |stuck=>exact w
 |ok m d =>
  cases m with
  |fz=>exact w
  |bo=>exact(show False from w).elim
  |fr=>intro v F' H' st rp fr;obtain⟨x,rfl,n,t⟩:=rp;obtain⟨o,ho,r⟩:=t.freeze n;exact w (.ref x) (upd F' x o) H' (st.freeze (fr rfl x rfl) n ho) r (by nofun)
def gB(h:PV C X e g):PV C X e (λρ=>aZ (g ρ)):=PE.imp h λσ H Q q=>by
 rw[aX]at q ⊢;obtain⟨ρ,F,R,w⟩:=q
 try dsimp only at w
 exact⟨ρ,F,R,w.frz⟩
def iH(C:Cw)(F H:Hp)(σ:L2.St)(r:Res)(Q:Bool->Hp->Prop):Prop:=match r with
 |.ok _ (.bl b)=>∀F' H',aI F H F' H'->Q b H'
 |.exc c=>∀F' H',aI F H F' H'->C.EE c σ H'
 |_=>False
def iH.step{F H1:Hp}{r:Res}{Q:Bool->Hp->Prop}(st:aI F H F1 H1)(h:iH C F H σ r Q):iH C F1 H1 σ r Q:=by
 cases r with
 |ok m d =>
  cases d with
  |bl b=>exact λF' H' s2=>h F' H' (st.trans s2)
  |_=>exact h
 |exc c=>exact λF' H' s2=>h F' H' (st.trans s2)
 |stuck=>exact h
def tT(C:Cw)(g:Rho->Res):TT:=λσ H Q=>∃ρ F,aS C.K C.F0 C.H0 F H σ ρ/\iH C F H σ (g ρ) Q
def PTv(C:Cw)(X:Cx)(e:Expr)(g:Rho->Res):Prop:=PT X e (tT (C.at X) g)
def PWv(C:Cw)(X:Cx)(e:Expr)(g:Rho->Res):Prop:=PW X e (tT (C.at X) g)
def PT.imp{t t':TT}(h:PT X e t)(i:∀σ H Q,t' σ H Q->t σ H Q):PT X e t':=λaA s σ H Q I q=>h aA s σ H Q I (i σ H Q q)
def PW.imp{t t':TT}(h:PW X e t)(i:∀σ H Q,t' σ H Q->t σ H Q):PW X e t':=λwhole aA s σ H Q I q=>h whole aA s σ H Q I (i σ H Q q)
noncomputable def nR:D->Option Bool
 |.non=>some false
 |.bl b=>some b
 |.int i=>some (i != 0)
 |.str x=>some ((x.length:Int) != 0)
 |.tup ds=>some (!ds.isEmpty)
 |.lst ds=>some (!ds.isEmpty)
 |.dct ds=>some (!ds.isEmpty)
 |_=>none
def kU(r:Res):Res:=r.thn λ_ d=>match nR d with|some b=>.ok .fz (.bl b)|none=>.stuck
theorem aD.isEmpty{K:Fg}{F:Hp}(h:aD K F ds xs):ds.isEmpty=xs.isEmpty:=by
 cases ds with
 |nil=>simp only[aD]at h;subst h;rfl
 |cons d ds=>simp only[aD]at h;obtain⟨y,ys,rfl,_⟩:=h;rfl
theorem dQ.isEmpty{K:Fg}{F:Hp}{ds:List (Key×D)}{xs:List (Key×V)}(h:dQ K F ds xs):ds.isEmpty=xs.isEmpty:=by
 cases ds with
 |nil=>simp only[dQ]at h;subst h;rfl
 |cons d ds=>obtain⟨k,d⟩:=d;simp only[dQ]at h;obtain⟨y,ys,rfl,_⟩:=h;rfl
def aEX{K:Fg}{F:Hp}{m:Md}{d:D}{k:Bool}(s:aG F H)(h:Rp K F H m d v)(e:nR d=some k):pU K v H k:=by
 cases d with
 |non=>cases h.non;cases e;rfl
 |bl b=>cases h.bl;cases e;rfl
 |int i=>cases h.int;cases e;rfl
 |str x=>obtain⟨rfl,hl,_⟩:=h.str;cases e;exact⟨hl,rfl⟩
 |tup ds=>obtain⟨a,xs,rfl,q,r⟩:=h.seqT s;cases e;exact .inr (.inl ⟨xs,q,by rw[r.isEmpty]⟩)
 |lst ds=>obtain⟨a,xs,rfl,q,r⟩:=h.seqL s;cases e;exact .inl ⟨xs,q,by rw[r.isEmpty]⟩
 |dct ds=>obtain⟨a,xs,rfl,q,r⟩:=h.dict s;cases e;exact .inr (.inr ⟨xs,q,by rw[r.isEmpty]⟩)
 |ty n=>cases e
 |ob n=>cases e
 |ins n=>cases e
 |fn n=>cases e
 |exn n=>cases e
 |set n=>cases e
 |dtn n=>cases e
 |dtf n=>cases e
def aEY(h:PV C X e g)(he:∀whole,isTrue e X.env whole=(do let v <- whole;standAt e.pos;holding [v] (truthy v)):=by intro _;rfl):PTv C X e (λρ=>kU (g ρ)):=by
 refine PT.imp (aC3 h he) λσ H Q q=>?_;obtain⟨ρ,F,R,w⟩:=q
 try dsimp only at w
 rw[aX];refine⟨ρ,F,R,?_⟩;cases er:g ρ with
 |stuck=>rw[er]at w;exact w
 |exc c=>rw[er]at w;exact w
 |ok m d =>
  rw[er]at w;intro v F' H' st rp _;have w:iH (C.at X) F H σ (match nR d with|some b=>.ok .fz (.bl b)|none=>.stuck) Q:=w
  cases ed:nR d with
  |none=>rw[ed]at w;exact w.elim
  |some k=>rw[ed]at w;exact⟨k,aEX st.sub rp ed,w F' H' st⟩
def aEZ{op:CmpOp}{φ}(o:OpD C X (compareOp op) φ)(hb':∀m x n y k d,φ m x n y=some (k,d)->∃t,k=.fz/\d=.bl t)(ha:PV C X a ga)(hb:PV C X b gb)(hm:behindInMarks op b=false):PTv C X (.Compare a [op] [b] pos) (λρ=>op2 φ (ga ρ) (gb ρ)):=by
 obtain⟨r,h1,h2⟩:=o;refine PT.imp (aC0 h1 ha hb hm) λσ H Q q=>?_;obtain⟨ρ,F,R,w⟩:=q
 try dsimp only at w
 unfold uJ;refine kT h2 ?_;rw[aX];refine⟨ρ,F,R,?_⟩;cases er:op2 φ (ga ρ) (gb ρ)with
 |stuck=>rw[er]at w;exact w
 |exc c=>rw[er]at w;exact w
 |ok m d =>
  rw[er]at w;have:∃t,m=.fz/\d=.bl t:=by
   unfold op2 at er;cases e1:ga ρ with
   |stuck=>rw[e1]at er;cases er
   |exc c=>rw[e1]at er;cases er
   |ok m1 d1 =>
    cases e2:gb ρ with
    |stuck=>rw[e1,e2]at er;cases er
    |exc c=>rw[e1,e2]at er;cases er
    |ok m2 d2 =>
     rw[e1,e2]at er;have er:Res.of (φ m1 d1 m2 d2)=.ok m d:=er;cases e3:φ m1 d1 m2 d2 with
     |none=>rw[e3]at er;cases er
     |some kd=>rw[e3]at er;obtain⟨k,d'⟩:=kd;cases er;exact hb' _ _ _ _ _ _ e3
  obtain⟨t,rfl,rfl⟩:=this;intro v F' H' st rp _;cases rp.bl;exact⟨t,rfl,w F' H' st⟩
def fA(x:Res)(y:Res):Res:=x.thn λ_ d=>match d with|.bl true=>y|.bl false=>.ok .fz (.bl false)|_=>.stuck
def orR(x:Res)(y:Res):Res:=x.thn λ_ d=>match d with|.bl true=>.ok .fz (.bl true)|.bl false=>y|_=>.stuck
def kW(x:Res):Res:=x.thn λ_ d=>match d with|.bl b=>.ok .fz (.bl (!b))|_=>.stuck
def aE0(ha:PTv C X a ga):PTv C X (.UnaryOp .Not a pos) (λρ=>kW (ga ρ)):=by
 refine PT.imp (aB5 ha) λσ H Q q=>?_;obtain⟨ρ,F,R,w⟩:=q
 try dsimp only at w
 refine⟨ρ,F,R,?_⟩;cases er:ga ρ with
 |stuck=>rw[er]at w;exact w
 |exc c=>rw[er]at w;exact w
 |ok m d =>
  rw[er]at w;cases d with
  |bl b=>exact w
  |_=>exact w
def vD{op:BoolOp}(h:PTv C X a ga):PWv C X (.BoolOp op [a] pos) ga:=by
 cases op with
 |And=>exact aB2 h
 |Or=>exact aB3 h
def vE{Q:Bool->Hp->Prop}(q:tT C (λρ=>fA (ga ρ) (gb ρ)) σ H Q):pQ (tT C ga) (tT C gb) σ H Q:=by
 obtain⟨ρ,F,R,w⟩:=q
 try dsimp only at w
 refine⟨ρ,F,R,?_⟩;cases er:ga ρ with
 |stuck=>rw[er]at w;exact w
 |exc c=>rw[er]at w;exact w
 |ok m d =>
  rw[er]at w;cases d with
  |bl b =>
   intro F' H' st;cases b with
   |true=>rw[if_pos rfl];exact⟨ρ,F',R.step st,iH.step st w⟩
   |false=>rw[if_neg aQL];exact w F' H' st
  |_=>exact w
def tT_or{Q:Bool->Hp->Prop}(q:tT C (λρ=>orR (ga ρ) (gb ρ)) σ H Q):tOr (tT C ga) (tT C gb) σ H Q:=by
 obtain⟨ρ,F,R,w⟩:=q
 try dsimp only at w
 refine⟨ρ,F,R,?_⟩;cases er:ga ρ with
 |stuck=>rw[er]at w;exact w
 |exc c=>rw[er]at w;exact w
 |ok m d =>
  rw[er]at w;cases d with
  |bl b =>
   intro F' H' st;cases b with
   |true=>rw[if_pos rfl];exact w F' H' st
   |false=>rw[if_neg aQL];exact⟨ρ,F',R.step st,iH.step st w⟩
  |_=>exact w
def aE1{rest:List Expr}(ha:PTv C X a ga)(hb:PWv C X (.BoolOp .And (b::rest) pos) gb):PWv C X (.BoolOp .And (a::b::rest) pos) (λρ=>fA (ga ρ) (gb ρ)):=PW.imp (aB4 ha hb) λ_ _ _ q=>vE q
def aE2{rest:List Expr}(ha:PTv C X a ga)(hb:PWv C X (.BoolOp .Or (b::rest) pos) gb):PWv C X (.BoolOp .Or (a::b::rest) pos) (λρ=>orR (ga ρ) (gb ρ)):=PW.imp (pw_or ha hb) λ_ _ _ q=>tT_or q
def pt_w(h:PWv C X e g):PTv C X e g:=PW.pt h
def vF{op}(h:PV C X a ga):PV C X (.BoolOp op [a] pos) ga:=aB6 h
def aE3{rest:List Expr}(ha:PV C X a ga)(hb:PV C X (.BoolOp .And (b::rest) pos) gb):PV C X (.BoolOp .And (a::b::rest) pos) (λρ=>fA (ga ρ) (gb ρ)):=by
 refine PE.imp (aB7 ha hb) λσ H Q q=>?_;unfold uD;rw[aX]at q ⊢;obtain⟨ρ,F,R,w⟩:=q
 try dsimp only at w
 refine⟨ρ,F,R,?_⟩;cases er:ga ρ with
 |stuck=>rw[er]at w;exact w
 |exc c=>rw[er]at w;exact w
 |ok m d =>
  rw[er]at w;cases d with
  |bl k =>
   intro v F' H' st rp _;cases rp.bl;refine⟨k,rfl,?_⟩;cases k with
   |true=>rw[if_pos rfl,aX];exact⟨ρ,F',R.step st,aY.step st w⟩
   |false=>rw[if_neg aQL];exact w (.bl false) F' H' st (eC _) (by nofun)
  |_=>exact w.elim
def aE4{rest:List Expr}(ha:PV C X a ga)(hb:PV C X (.BoolOp .Or (b::rest) pos) gb):PV C X (.BoolOp .Or (a::b::rest) pos) (λρ=>orR (ga ρ) (gb ρ)):=by
 refine PE.imp (pe_or ha hb) λσ H Q q=>?_;unfold tOrV;rw[aX]at q ⊢;obtain⟨ρ,F,R,w⟩:=q
 try dsimp only at w
 refine⟨ρ,F,R,?_⟩;cases er:ga ρ with
 |stuck=>rw[er]at w;exact w
 |exc c=>rw[er]at w;exact w
 |ok m d =>
  rw[er]at w;cases d with
  |bl k =>
   intro v F' H' st rp _;cases rp.bl;refine⟨k,rfl,?_⟩;cases k with
   |true=>rw[if_pos rfl];exact w (.bl true) F' H' st (eC _) (by nofun)
   |false=>rw[if_neg aQL,aX];exact⟨ρ,F',R.step st,aY.step st w⟩
  |_=>exact w.elim
def aE5(ha:PV C X a ga):PV C X (.UnaryOp .Not a pos) (λρ=>kW (ga ρ)):=by
 refine PE.imp (aB8 ha) λσ H Q q=>?_;unfold uE;rw[aX]at q ⊢;obtain⟨ρ,F,R,w⟩:=q
 try dsimp only at w
 refine⟨ρ,F,R,?_⟩;cases er:ga ρ with
 |stuck=>rw[er]at w;exact w
 |exc c=>rw[er]at w;exact w
 |ok m d =>
  rw[er]at w;cases d with
  |bl k=>intro v F' H' st rp _;cases rp.bl;exact⟨k,rfl,w _ F' H' st (eC _) (by nofun)⟩
  |_=>exact w.elim
def nS(x:Res):Res:=x.thn λ_ d=>match d with|.int i=>.ok .fz (.int (-i))|_=>.stuck
def aE6(ha:PV C X a ga):PV C X (.UnaryOp .USub a pos) (λρ=>nS (ga ρ)):=by
 refine PE.imp (pe_un aCU ha) λσ H Q q=>?_;unfold tUn;rw[aX]at q ⊢;obtain⟨ρ,F,R,w⟩:=q
 try dsimp only at w
 refine⟨ρ,F,R,?_⟩;cases er:ga ρ with
 |stuck=>rw[er]at w;exact w
 |exc c=>rw[er]at w;exact w
 |ok m d =>
  rw[er]at w;cases d with
  |int i=>intro v F' H' st rp _;cases rp.int;exact⟨i,rfl,w _ F' H' st (dR _) (by nofun)⟩
  |_=>exact w.elim
def ixD:Md->D->Md->D->Option (Md×D):=λ_ x _ y=>match x,y with
 |.lst ds,.int i=>(atI ds i).map λd=>(.fz,d)
 |.tup ds,.int i=>(atI ds i).map λd=>(.fz,d)
 |.str z,.int i=>(atI z.cps.toList i).map λc=>(.fz,.str ⟨#[c]⟩)
 |_,_=>none
theorem aD.atI{K:Fg}{F:Hp}{i:Int}{d:D}(h:aD K F ds xs)(e:atI ds i=some d):∃x,L2.atI xs i=some x/\aC K F d x:=by
 unfold L2.atI at *;rw[h.length];cases q:ixN ds.length i with
 |none=>rw[q]at e;cases e
 |some j=>rw[q]at e;exact h.get' e
def aE7{F:Hp}{m n k:Md}{x y d:D}{u:V}{Q:VK}(s:aG F H)(rx:Rp X.K F H m x v)(ry:Rp X.K F H n y u)(e:ixD m x n y=some (k,d))(w:∀v' F' H',aI F H F' H'->Rp X.K F' H' k d v'->(k=.fr->∀a,v'=.ref a->H a=none)->Q v' H'):rIx X.K v u H Q:=by
 unfold ixD at e;split at e
 . rename_i ds i;cases ry.int;obtain⟨p,xs,rfl,hq,r⟩:=rx.seqL s;cases ei:atI ds i with
   |none=>rw[ei]at e;cases e
   |some d'=>rw[ei]at e;cases e;obtain⟨x',ex,rx'⟩:=r.atI ei;exact .inl ⟨p,xs,i,x',rfl,rfl,hq,ex,w x' F H (.refl s) rx' (by nofun)⟩
 . rename_i ds i;cases ry.int;obtain⟨p,xs,rfl,hq,r⟩:=rx.seqT s;cases ei:atI ds i with
   |none=>rw[ei]at e;cases e
   |some d'=>rw[ei]at e;cases e;obtain⟨x',ex,rx'⟩:=r.atI ei;exact .inr (.inl ⟨p,xs,i,x',rfl,rfl,hq,ex,w x' F H (.refl s) rx' (by nofun)⟩)
 . rename_i z i;cases ry.int;obtain⟨rfl,hl,hk⟩:=rx.str;cases ei:atI z.cps.toList i with
   |none=>rw[ei]at e;cases e
   |some c =>
    rw[ei]at e;cases e;refine .inr (.inr ⟨z,i,c,rfl,rfl,hl,ei,w _ F H (.refl s) (jH ⟨?_,?_⟩) (by nofun)⟩)
    . show 1<=sizeLine;decide
    . obtain⟨j,_,hj,_⟩:=nK ei;unfold PyData.strOk at hk ⊢;rw[aSB]at hk;have hc:=hk c (by rw[<- aQK];exact aQ0 hj)
      simpa using hc
 . cases e
noncomputable def pv_ix(ha:PV C X a ga)(hb:PV C X b gb)(hs:nM b:=by intro _ _;rfl):PV C X (.Subscript a b pos) (λρ=>op2 ixD (ga ρ) (gb ρ)):=by exact PE.imp (u0 aDU ha hb hs) λσ H Q q=>kT (λF H m x n y v u k d Q s rx ry e w=>aE7 s rx ry e w) q
def aE8:SlR X (λx lo hi H Q=>∃z,x=.str z/\z.length<=sizeLine/\Q (.str (Txt.slice z lo hi)) H):=by
 intro aA s σ H x v vl vu lo hi sl Q I rx hs pl pu h;obtain⟨z,rfl,hz,q⟩:=h;obtain⟨t,rfl⟩:=rx;refine⟨"str", _,PySem.F.slot_str_getitem.lookup,typeIs_str _ _ _,?_⟩;have fin:∀t' k,EP X aA σ Q (.str (Txt.slice z lo hi) t') {s with toks:=k}:=λt' k=>⟨.str (Txt.slice z lo hi),H,I.tok _,⟨_,rfl⟩,q⟩
 cases pl with
 |none =>
  cases pu with
  |none=>exact aSC (l:=none) (u:=none) (st:=none) hs rfl (aSD ⟨aPV (aSE z _ _) hz,λt' k=>fin t' k⟩)
  |int j tj=>exact aSC (l:=none) (u:=some (j,tj)) (st:=none) hs rfl (aSD ⟨aPV (aSE z _ _) hz,λt' k=>fin t' k⟩)
 |int i ti =>
  cases pu with
  |none=>exact aSC (l:=some (i,ti)) (u:=none) (st:=none) hs rfl (aSD ⟨aPV (aSE z _ _) hz,λt' k=>fin t' k⟩)
  |int j tj=>exact aSC (l:=some (i,ti)) (u:=some (j,tj)) (st:=none) hs rfl (aSD ⟨aPV (aSE z _ _) hz,λt' k=>fin t' k⟩)
def aE9(h:PyData.strOk z=true):PyData.strOk (Txt.slice z lo hi)=true:=by
 unfold Txt.slice;split
 . exact h
 . unfold PyData.strOk at *;rw[aSB]at h ⊢;intro c hc;rw[<- aQK,List.toList_toArray,aQF]at hc;obtain⟨j,_,hj⟩:=hc;exact h c (aSF hj)
def POv(C:Cw)(X:Cx):Option Expr->Option (Rho->Res)->Prop
 |none,none=>True
 |some e,some g=>PV C X e g
 |_,_=>False
def vG(C:Cw):Option (Rho->Res)->TO
 |none=>uX
 |some g=>nJ (tG C g)
def vH{e:Option Expr}{g:Option (Rho->Res)}(h:POv C X e g):PO X e (vG (C.at X) g):=by
 cases e with
 |none=>cases g with
  |none=>exact aDN
  |some g=>exact h.elim
 |some e=>cases g with
  |none=>exact h.elim
  |some g=>exact aDO h
def bY(g:Option (Rho->Res))(ρ:Rho)(k:Option Int->Res):Res:=match g with
 |none=>k none
 |some g=>(g ρ).thn λ_ d=>match d with|.int i=>k (some i)|_=>.stuck
def jK{F:Hp}{g:Option (Rho->Res)}{k:Option Int->Res}{Q:VK}{R:Option Int->Hp->Prop}(RS:aS C.K C.F0 C.H0 F H σ ρ)(w:aY C F H σ (bY g ρ k) Q)(h:∀i F' H',aI F H F' H'->aS C.K C.F0 C.H0 F' H' σ ρ->aY C F' H' σ (k i) Q->R i H'):vG C g σ H R:=by
 cases g with
 |none=>exact h none F H (.refl RS.sub) RS w
 |some g =>
  show nJ (tG C g) σ H R;unfold nJ;rw[aX];refine⟨ρ,F,RS,?_⟩;have w:aY C F H σ ((g ρ).thn λ_ d=>match d with|.int i=>k (some i)|_=>.stuck) Q:=w
  cases er:g ρ with
  |stuck=>rw[er]at w;exact w
  |exc c=>rw[er]at w;exact w
  |ok m d =>
   rw[er]at w;intro v F' H' st rp _;cases d with
   |int i=>cases rp.int;exact⟨i,rfl,h (some i) F' H' st (RS.step st) (aY.step st w)⟩
   |_=>exact(show False from w).elim
end
inductive bI where
 |ok (xs:List (Md×D))|exc (c:Str)|stuck
def RpL(K:Fg)(F H:Hp):List (Md×D)->List V->Prop
 |[],vs=>vs=[]
 |(m,d)::r,vs=>∃v us,vs=v::us/\Rp K F H m d v/\RpL K F H r us
noncomputable def bI.thn(r:bI)(k:List (Md×D)->Res):Res:=match r with
 |.ok xs=>k xs
 |.exc c=>.exc c
 |.stuck=>.stuck
@[simp] theorem bI.thn_ok(xs:List (Md×D))(k:List (Md×D)->Res):(bI.ok xs).thn k=k xs:=rfl
end D3
variable {gs:D3.Rho->D3.bI}
namespace D3
@[simp] theorem bI.thn_exc(c:Str)(k:List (Md×D)->Res):(bI.exc c).thn k=.exc c:=rfl
@[simp] theorem bI.thn_stuck(k:List (Md×D)->Res):bI.stuck.thn k=.stuck:=rfl
def kX(C:Cw)(F H:Hp)(σ:L2.St)(r:bI)(Q:List V->Hp->Prop):Prop:=match r with
 |.ok xs=>∀vs F' H',aI F H F' H'->RpL C.K F' H' xs vs->Q vs H'
 |.exc c=>∀F' H',aI F H F' H'->C.EE c σ H'
 |.stuck=>False
def kX.step{F H1:Hp}{r:bI}{Q:List V->Hp->Prop}(st:aI F H F1 H1)(h:kX C F H σ r Q):kX C F1 H1 σ r Q:=by
 cases r with
 |ok m=>exact λv F' H' s2 rp=>h v F' H' (st.trans s2) rp
 |exc c=>exact λF' H' s2=>h F' H' (st.trans s2)
 |stuck=>exact h
def tAv(C:Cw)(g:Rho->bI):TA:=λσ H Q=>∃ρ F,aS C.K C.F0 C.H0 F H σ ρ/\kX C F H σ (g ρ) Q
def PAv(C:Cw)(X:Cx)(es:List Expr)(g:Rho->bI):Prop:=PA X es (tAv (C.at X) g)
def PA.imp{e:List Expr}{t t':TA}(h:PA X e t)(i:∀σ H Q,t' σ H Q->t σ H Q):PA X e t':=λp aA s σ H Q I q=>h p aA s σ H Q I (i σ H Q q)
noncomputable def cZ(x:Res)(y:bI):bI:=match x with
 |.ok m d=>(match y with|.ok r=>.ok ((m,d)::r)|.exc c=>.exc c|.stuck=>.stuck)
 |.exc c=>.exc c
 |.stuck=>.stuck
@[simp] theorem aFA(m:Md)(d:D)(r:List (Md×D)):cZ (.ok m d) (.ok r)=.ok ((m,d)::r):=rfl
section
variable  {a b:Expr}{es:List Expr}{gc:Rho->Res}{p:Pos}
def qA:PAv C X [] (λ_=>.ok []):=PA.imp nE λσ H Q q=>by obtain⟨ρ,F,R,w⟩:=q;exact w [] F H (.refl R.sub) rfl
def qB(ha:PV C X e g)(hr:PAv C X es gs)(hs:starEach (e::es) X.env=(false,eval e X.env)::starEach es X.env:=by rfl):PAv C X (e::es) (λρ=>cZ (g ρ) (gs ρ)):=by
 refine PA.imp (nF ha hr hs) λσ H Q q=>?_;unfold kS;obtain⟨ρ,F,R,w⟩:=q;dsimp only at w;rw[aX];refine⟨ρ,F,R,?_⟩;cases er:g ρ with
 |stuck=>rw[er]at w;exact w
 |exc c=>rw[er]at w;exact w
 |ok m d =>
  rw[er]at w;intro v F1 H1 s1 r1 _;refine⟨ρ,F1,R.step s1,?_⟩;have w1:=kX.step s1 w;cases es':gs ρ with
  |stuck=>rw[es']at w1;exact w1
  |exc c=>rw[es']at w1;exact w1
  |ok r=>rw[es']at w1;intro vs F2 H2 s2 r2;exact w1 (v::vs) F2 H2 s2 ⟨v,vs,rfl,r1.step s2,r2⟩
noncomputable def cW:List (Md×D)->Option (List D)
 |[]=>some []
 |(.fz,d)::r=>(cW r).map (d :: ·)
 |_::_=>none
theorem RpL.fz{K:Fg}{F H:Hp}:∀{xs:List (Md×D)}{vs:List V}{ds:List D},RpL K F H xs vs->cW xs=some ds->aD K F ds vs
 |[],_,_,h,e=>by cases e;rw[show _=[]from h];exact aD.nil
 |(.fz,d)::r,_,_,h,e=>by
  obtain⟨v,us,rfl,r1,r2⟩:=h;unfold cW at e;cases q:cW r with
  |none=>rw[q]at e;cases e
  |some ds'=>rw[q]at e;cases e;exact aD.cons r1 (RpL.fz r2 q)
 |(.fr,d)::r,_,_,h,e=>by cases e
 |(.bo,d)::r,_,_,h,e=>by cases e
noncomputable def iI(r:bI):Res:=r.thn λxs=>match cW xs with|some ds=>if ds.length<=sizeLine then .ok .fz (.tup ds)else .stuck|none=>.stuck
noncomputable def iJ(r:bI):Res:=r.thn λxs=>match cW xs with|some ds=>if ds.length<=sizeLine then .ok .fr (.lst ds)else .stuck|none=>.stuck
def aC.tup_of{K:Fg}{F:Hp}{p:Addr}(hp:F p=none)(r:aD K F ds xs):aC K (upd F p (.tup xs)) (.tup ds) (.ref p):=by simp only[aC];exact⟨p,xs,rfl,SqT.of bE,r.mono (λb u q=>by rw[aP (b0 q hp)];exact q) _ _⟩
def aFB{x1}(h:PAv C X es gs):PV C X (.Tuple es x1 pos) (λρ=>iI (gs ρ)):=by
 refine PE.imp (aDE h) λσ H Q q=>?_;unfold tTup;rw[aX]at q;obtain⟨ρ,F,R,w⟩:=q;refine⟨ρ,F,R,?_⟩;cases er:gs ρ with
 |stuck=>rw[er]at w;exact w
 |exc c=>rw[er]at w;exact w
 |ok xs =>
  rw[er]at w;intro vs F1 H1 s1 r1;have w1:aY (C.at X) F1 H1 σ (match cW xs with|some ds=>if ds.length<=sizeLine then .ok .fz (.tup ds)else .stuck|none=>.stuck) Q:=aY.step s1 w
  cases ef:cW xs with
  |none=>rw[ef]at w1;exact w1.elim
  |some ds =>
   rw[ef]at w1;dsimp only at w1;split at w1
   . rename_i hl;have r2:=r1.fz ef;refine⟨by rw[r2.length];exact hl,λp hp=>?_⟩
     exact w1 (.ref p) _ _ (aI.laid (.tup vs) s1.sub hp) (aC.tup_of (s1.sub.free hp) r2) (by nofun)
   . exact w1.elim
def aFC(h:PAv C X es gs):PV C X (.List es pos) (λρ=>iJ (gs ρ)):=by
 refine PE.imp (aDF h) λσ H Q q=>?_;unfold tLst;rw[aX]at q;obtain⟨ρ,F,R,w⟩:=q;refine⟨ρ,F,R,?_⟩;cases er:gs ρ with
 |stuck=>rw[er]at w;exact w
 |exc c=>rw[er]at w;exact w
 |ok xs =>
  rw[er]at w;intro vs F1 H1 s1 r1;have w1:aY (C.at X) F1 H1 σ (match cW xs with|some ds=>if ds.length<=sizeLine then .ok .fr (.lst ds)else .stuck|none=>.stuck) Q:=aY.step s1 w
  cases ef:cW xs with
  |none=>rw[ef]at w1;exact w1.elim
  |some ds =>
   rw[ef]at w1;dsimp only at w1;split at w1
   . rename_i hl;have r2:=r1.fz ef;refine⟨by rw[r2.length];exact hl,λp hp=>?_⟩
     refine w1 (.ref p) F1 _ (aI.fresh (.lst vs) s1.sub hp) ⟨p,rfl,s1.sub.free hp,vs,bE,r2⟩ λ_ a ea=>by cases ea;exact hp
   . exact w1.elim
def eD(X:Cx)(f:aVT)(φ:List (Md×D)->Option (Md×D)):Prop :=
 ∃r:List V->Hp->VK->Prop,cT X f r/\∀F H xs vs k d Q,aG F H->RpL X.K F H xs vs->φ xs=some (k,d) ->
  (∀v' F' H',aI F H F' H'->Rp X.K F' H' k d v'->(k=.fr->∀a,v'=.ref a->H a=none)->Q v' H')->r vs H Q
noncomputable def fR(φ:List (Md×D)->Option (Md×D))(r:bI):Res:=r.thn λxs=>Res.of (φ xs)
def vI{φ:List (Md×D)->Option (Md×D)}{r:List V->Hp->VK->Prop}(h:∀F H xs vs k d Q,aG F H->RpL C.K F H xs vs->φ xs=some (k,d)->(∀v' F' H',aI F H F' H'->Rp C.K F' H' k d v'->(k=.fr->∀a,v'=.ref a->H a=none)->Q v' H')->r vs H Q){Q:VK}(q:tG C (λρ=>fR φ (gs ρ)) σ H Q):tCB r (tAv C gs) σ H Q:=by
 unfold tCB;rw[aX]at q;obtain⟨ρ,F,R,w⟩:=q;refine⟨ρ,F,R,?_⟩;cases er:gs ρ with
 |stuck=>rw[er]at w;exact w
 |exc c=>rw[er]at w;exact w
 |ok xs =>
  rw[er]at w;intro vs F1 H1 s1 r1;have w1:aY C F1 H1 σ (Res.of (φ xs)) Q:=aY.step s1 w;cases ef:φ xs with
  |none=>rw[ef]at w1;exact w1.elim
  |some kd=>obtain⟨k,d⟩:=kd;rw[ef]at w1;exact h F1 H1 xs vs k d Q s1.sub r1 ef w1
def vJ{id:String}{φ}(o:eD X (.builtin id) φ)(hg:Gl X x)(hm:X.mg x=none)(hv:bootBuiltins x=some (.builtin id))(ha:PAv C X (e::es) gs)(hn:x ≠ "__name__" := by decide)(hdb:(x==("__debug__":Str))=false:=by decide)(he:starEach (e::es) X.env=(false,eval e X.env)::starEach es X.env:=by rfl)(hpl:(backTo pos (starEach es X.env)).any (·.1)=false:=by rfl):PV C X (.Call (.Name x p) (e::es) [] pos) (λρ=>fR φ (gs ρ)):=by obtain⟨r,h1,h2⟩:=o;exact PE.imp (uR h1 hg hm hv ha hn hdb he hpl) λσ H Q q=>vI h2 q
noncomputable def c7:List (Md×D)->Option (Md×D)
 |[(_,.str z)]=>some (.fz,.int z.length)
 |[(_,.lst ds)]=>some (.fz,.int ds.length)
 |[(_,.tup ds)]=>some (.fz,.int ds.length)
 |_=>none
def RpL.one{K:Fg}{F:Hp}{m:Md}{d:D}{vs:List V}(h:RpL K F H [(m,d)] vs):∃v,vs=[v]/\Rp K F H m d v:=by obtain⟨v,us,rfl,r,e⟩:=h;exact⟨v,by rw[show us=[]from e],r⟩
def RpL.two{K:Fg}{F:Hp}{m n:Md}{d e:D}{vs:List V}(h:RpL K F H [(m,d),(n,e)] vs):∃v u,vs=[v,u]/\Rp K F H m d v/\Rp K F H n e u:=by obtain⟨v,us,rfl,r,v',us',rfl,r',e⟩:=h;exact⟨v,v',by rw[show us'=[]from e],r,r'⟩
def aFD:eD X (.builtin "len") c7:=by
 refine⟨_,aC7,λF H xs vs k d Q s rx e w=>?_⟩;unfold c7 at e;split at e
 . rename_i m z;cases e;obtain⟨v,rfl,r⟩:=rx.one;obtain⟨rfl,hz,_⟩:=r.str;exact⟨_,z.length,rfl,⟨hz,rfl⟩,w _ F H (.refl s) (dR _) (by nofun)⟩
 . rename_i m ds;cases e;obtain⟨v,rfl,r⟩:=rx.one;obtain⟨a,xs,rfl,q,rl⟩:=r.seqL s;exact⟨_,xs.length,rfl,.inl ⟨xs,q,rfl⟩,by rw[rl.length];exact w _ F H (.refl s) (dR _) (by nofun)⟩
 . rename_i m ds;cases e;obtain⟨v,rfl,r⟩:=rx.one;obtain⟨a,xs,rfl,q,rl⟩:=r.seqT s;exact⟨_,xs.length,rfl,.inr ⟨xs,q,rfl⟩,by rw[rl.length];exact w _ F H (.refl s) (dR _) (by nofun)⟩
 . cases e
noncomputable def tyN:D->Option String
 |.non=>some "NoneType" |.bl _=>some "bool" |.int _=>some "int" |.str _=>some "str" |.tup _=>some "tuple" |.lst _=>some "list" |.dct _=>some "dict" |_=>none
noncomputable def kY(t c:String):Option Bool:=if["int", "bool", "str", "list", "tuple", "dict"].contains c=true then some (t==c||(t == "bool" && c == "int"))else none
def eN:List (Md×D)->Option (Md×D)
 |[(_,d),(_,.ty c)]=>match tyN d with|some t=>(kY t c).map λb=>(.fz,.bl b)|none=>none
 |_=>none
def aFE{K:Fg}{d:D}{t c:String}{b:Bool}(ht:tyN d=some t)(e:kY t c=some b):W.kitOne K (.type t) (.type c)=some b:=by
 unfold kY at e;split at e
 . rename_i hc;simp only[List.contains_cons,List.contains_nil,Bool.or_false,aSA,aQM]at hc;cases e;have ht':t="NoneType" \/ t="bool" \/ t="int" \/ t="str" \/ t="tuple" \/ t="list" \/ t="dict" := by cases d <;> cases ht <;> simp
   rcases hc with rfl|rfl|rfl|rfl|rfl|rfl <;> rcases ht' with rfl|rfl|rfl|rfl|rfl|rfl|rfl <;> rfl
 . cases e
def aFF:eD X (.builtin "isinstance") eN:=by
 refine⟨λvs H Q=>∃(F:Hp) (m:Md) (d:D) (v:V) (t c:String) (b:Bool),aG F H/\Rp X.K F H m d v/\vs=[v,.ty c]/\tyN d=some t/\kY t c=some b/\Q (.bl b) H,?_,?_⟩
 . intro aA s σ H xs us Q I r h;obtain⟨F,m,d,v,t,c,b,sF,rp,rfl,ht,hb,q⟩:=h;obtain⟨u,u',rfl,ru,ru'⟩:=vals2 r;cases(show u'=Value.type c from ru')
   have e:=aFE (K:=X.K) ht hb;have fin:∀tk,EP X aA σ Q (.bool b) {s with toks:=tk}:=λtk=>⟨.bl b,H,I.tok _,rfl,q⟩
   cases d with
   |non=>cases rp.non;cases ht;cases(show u=Value.none from ru);exact aSG W.kitx_none I.kIn True.intro e (λz=>nomatch z) fin
   |bl y=>cases rp.bl;cases ht;cases(show u=Value.bool y from ru);exact aSG W.kitx_bool I.kIn True.intro e (λz=>nomatch z) fin
   |int i=>cases rp.int;cases ht;obtain⟨t,q⟩:=(show ∃t,u=Value.int i t from ru);cases q;exact aSG W.kitx_int I.kIn True.intro e (λz=>nomatch z) fin
   |str y=>obtain⟨rfl,_⟩:=rp.str;cases ht;obtain⟨t,q⟩:=(show ∃t,u=Value.str y t from ru);cases q;exact aSG W.kitx_str I.kIn True.intro e (λz=>nomatch z) fin
   |tup ds =>
    obtain⟨a,xs,rfl,hq,_⟩:=rp.seqT sF;cases ht;cases(show u=Value.ref a from ru)
    obtain⟨its,_,⟨o,h1,h2,_⟩,_⟩:=I.tuple hq;exact aSG W.kitx_tuple I.kIn ⟨o,h1,h2⟩ e (λz=>nomatch z) fin
   |lst ds =>
    obtain⟨a,xs,rfl,hq,_⟩:=rp.seqL sF;cases ht;cases(show u=Value.ref a from ru)
    obtain⟨its,_,⟨o,n,h1,h2,_⟩,_⟩:=I.list hq;exact aSG W.kitx_list I.kIn ⟨o,h1,h2⟩ e (λz=>nomatch z) fin
   |dct ds =>
    obtain⟨a,xs,rfl,hq,_⟩:=rp.dict sF;cases ht;cases(show u=Value.ref a from ru)
    obtain⟨_,_,vs,_,p⟩:=(show bL X.prog X.w H s.heap a (.dK xs)from I.hok a _ hq)
    obtain⟨o,es,ep,h1,h2,_⟩:=p;exact aSG W.kitx_dict I.kIn ⟨o,h1,h2.1⟩ e (λz=>nomatch z) fin
   |_=>cases ht
 . intro F H xs vs k d Q s rx e w;unfold eN at e;split at e
   . rename_i m d' n c;obtain⟨v,u,rfl,r1,r2⟩:=rx.two;cases r2.ty;cases et:tyN d' with
     |none=>rw[et]at e;cases e
     |some t =>
      rw[et]at e;dsimp only at e;cases eb:kY t c with
      |none=>rw[eb]at e;cases e
      |some b=>rw[eb]at e;cases e;exact⟨F,m,d',v,t,c,b,s,r1,rfl,et,eb,w _ F H (.refl s) (eC _) (by nofun)⟩
   . cases e
noncomputable def pv_ty{T:String}(hg:Gl X x)(hm:X.mg x=none)(hv:bootBuiltins x=some (.type T))(hn:x ≠ "__name__" := by decide)(hd:(x==("__debug__":Str))=false:=by decide):PV C X (.Name x pos) (λ_=>.ok .fz (.ty T)) :=
 iG _ (aB1 (v:=.ty T) hg hm hv rfl hn hd) λ_ _=>rp_ty T
def aFG{t:Tok}(hg:Gl X x)(hm:X.mg x=some (.str y t))(h:(decide (y.length<=sizeLine)&&PyData.strOk y)=true:=by decide +kernel)(hd:(x==("__debug__":Str))=false:=by decide):PV C X (.Name x pos) (λ_=>.ok .fz (.str y)) :=
 iG _ (uC (v:=.str y) hg hm ⟨t,rfl⟩ hd) λ_ _=>jH (by rw[aRJ,aR8]at h;exact h)
def aFH{y:Int}{t:Tok}(hg:Gl X x)(hm:X.mg x=some (.int y t))(hd:(x==("__debug__":Str))=false:=by decide):PV C X (.Name x pos) (λ_=>.ok .fz (.int y)) :=
 iG _ (uC (v:=.int y) hg hm ⟨t,rfl⟩ hd) λ_ _=>dR _
end
inductive aH where
 |nx (ρ:Rho)|rt (m:Md) (d:D)|bk (ρ:Rho)|ct (ρ:Rho)|exc (c:Str) (ρ:Rho)|stuck
def cE(C:Cw)(Fa:Hp)(r:aH)(E:fO):Prop:=match r with
 |.nx ρ=>∀σ F H,aG Fa F->aS C.K C.F0 C.H0 F H σ ρ->E.nx σ H
 |.bk ρ=>∀σ F H,aG Fa F->aS C.K C.F0 C.H0 F H σ ρ->E.bk σ H
 |.ct ρ=>∀σ F H,aG Fa F->aS C.K C.F0 C.H0 F H σ ρ->E.ct σ H
 |.exc c ρ=>∀σ F H,aG Fa F->aS C.K C.F0 C.H0 F H σ ρ->C.EE c σ H
 |.rt m d=>∀v F H,aI C.F0 C.H0 F H->Rp C.K F H m d v->(m=.fr->∀a,v=.ref a->C.H0 a=none)->E.rt v H
 |.stuck=>False
def cE.mono{F:Hp}{r:aH}{E:fO}(s:aG F F1)(w:cE C F r E):cE C F1 r E:=by
 cases r with
 |nx ρ=>exact λσ F' H' z R=>w σ F' H' (s.trans z) R
 |bk ρ=>exact λσ F' H' z R=>w σ F' H' (s.trans z) R
 |ct ρ=>exact λσ F' H' z R=>w σ F' H' (s.trans z) R
 |exc c ρ=>exact λσ F' H' z R=>w σ F' H' (s.trans z) R
 |rt m d=>exact w
 |stuck=>exact w
def tH(C:Cw)(g:Rho->aH):TS:=λE σ H=>∃ρ F,aS C.K C.F0 C.H0 F H σ ρ/\cE C F (g ρ) E
def PSv(C:Cw)(X:Cx)(st:Stmt)(g:Rho->aH):Prop:=PS X st (tH (C.at X) g)
def PBv(C:Cw)(X:Cx)(st:List Stmt)(g:Rho->aH):Prop:=PSs X st (tH (C.at X) g)
def PS.imp{e:Stmt}{t t':TS}(h:PS X e t)(i:∀E σ H,t' E σ H->t E σ H):PS X e t':=λaA s σ H E I q=>h aA s σ H E I (i E σ H q)
def PSs.imp{e:List Stmt}{t t':TS}(h:PSs X e t)(i:∀E σ H,t' E σ H->t E σ H):PSs X e t':=λaA s σ H E I q=>h aA s σ H E I (i E σ H q)
noncomputable def aH.thn(r:aH)(k:Rho->aH):aH:=match r with
 |.nx ρ=>k ρ
 |r=>r
@[simp] theorem aH.thn_nx(ρ:Rho)(k:Rho->aH):(aH.nx ρ).thn k=k ρ:=rfl
@[simp] theorem aH.thn_rt(m:Md)(d:D)(k:Rho->aH):(aH.rt m d).thn k=.rt m d:=rfl
@[simp] theorem aH.thn_bk(ρ:Rho)(k:Rho->aH):(aH.bk ρ).thn k=.bk ρ:=rfl
@[simp] theorem aH.thn_ct(ρ:Rho)(k:Rho->aH):(aH.ct ρ).thn k=.ct ρ:=rfl
@[simp] theorem aH.thn_exc(c:Str)(ρ:Rho)(k:Rho->aH):(aH.exc c ρ).thn k=.exc c ρ:=rfl
@[simp] theorem aH.thn_stuck(k:Rho->aH):aH.stuck.thn k=.stuck:=rfl
section
variable  {a b:Expr}{es:List Expr}{gc:Rho->Res}{p:Pos}{h1 h2:Rho->aH}
def aFI:PBv C X [] (λρ=>.nx ρ):=PSs.imp aB9 λE σ H q=>by obtain⟨ρ,F,R,w⟩:=q;exact w σ F H (aG.refl _) R
def aFJ{E:fO}(q:tH C (λρ=>(h1 ρ).thn h2) E σ H):tSeq (tH C h1) (tH C h2) E σ H:=by
 obtain⟨ρ,F,R,w⟩:=q;refine⟨ρ,F,R,?_⟩;dsimp only at w;cases er:h1 ρ with
 |nx ρ'=>rw[er]at w;exact λσ' F' H' z R'=>⟨ρ',F',R',cE.mono z w⟩
 |rt m d=>rw[er]at w;exact w
 |bk ρ'=>rw[er]at w;exact w
 |ct ρ'=>rw[er]at w;exact w
 |exc c ρ'=>rw[er]at w;exact w
 |stuck=>rw[er]at w;exact w
def aFK(ha:PSv C X st h1)(hb:PBv C X sts h2):PBv C X (st::sts) (λρ=>(h1 ρ).thn h2):=PSs.imp (aCA ha hb) λE σ H q=>aFJ q
noncomputable def Res.thS(r:Res)(ρ:Rho)(k:Md->D->aH):aH:=match r with
 |.ok m d=>k m d
 |.exc c=>.exc c ρ
 |.stuck=>.stuck
@[simp] theorem Res.thS_ok(m:Md)(d:D)(ρ:Rho)(k:Md->D->aH):(Res.ok m d).thS ρ k=k m d:=rfl
@[simp] theorem Res.thS_exc(c:Str)(ρ:Rho)(k:Md->D->aH):(Res.exc c).thS ρ k=.exc c ρ:=rfl
@[simp] theorem Res.thS_stuck(ρ:Rho)(k:Md->D->aH):Res.stuck.thS ρ k=.stuck:=rfl
def iK{F:Hp}{k:Md->D->aH}{E:fO}{Q:VK}(R:aS C.K C.F0 C.H0 F H σ ρ)(w:cE C F ((g ρ).thS ρ k) E)(h:∀m d v F' H',cE C F' (k m d) E->aI F H F' H'->aS C.K C.F0 C.H0 F' H' σ ρ->Rp C.K F' H' m d v->(m=.fr->∀a,v=.ref a->H a=none)->Q v H'):tG C g σ H Q:=by
 rw[aX];refine⟨ρ,F,R,?_⟩;cases er:g ρ with
 |stuck=>rw[er]at w;exact w
 |exc c=>rw[er]at w;exact λF' H' s=>w σ F' H' s.fsame (R.step s)
 |ok m d=>rw[er]at w;exact λv F' H' s rp fr=>h m d v F' H' (cE.mono s.fsame w) s (R.step s) rp fr
noncomputable def jL(r:Res)(ρ:Rho):aH:=r.thS ρ λm d=>match m with|.bo=>.stuck|m=>.rt m d
def aFL(he:PV C X e g):PSv C X (.Return (some e) pos) (λρ=>jL (g ρ) ρ):=PS.imp (uG he) λE σ H q=>by
 obtain⟨ρ,F,R,w⟩:=q;refine iK R w λm d v F' H' w' s R' rp fr=>?_;cases m with
 |bo=>exact(show False from w').elim
 |fz=>exact w' v F' H' R'.st rp (by nofun)
 |fr=>exact w' v F' H' R'.st rp λ_ a ea=>R.st.same.free (fr rfl a ea)
noncomputable def fT(ρ:Rho)(i:Nat):aH:=match ρ[i]? with
 |some (some (false,d))=>.rt .fz d
 |some (some (true,d))=>.rt .fr d
 |_=>.stuck
def aFM(i:Nat)(h:PE X (.Name x p) (iE i)):PSv C X (.Return (some (.Name x p)) pos) (λρ=>fT ρ i):=PS.imp (uG h) λE σ H q=>by
 obtain⟨ρ,F,R,w⟩:=q;dsimp only at w;unfold fT at w;cases e:ρ[i]? with
 |none=>rw[e]at w;exact w.elim
 |some o =>
  cases o with
  |none=>rw[e]at w;exact w.elim
  |some q =>
   obtain⟨m,d⟩:=q;obtain⟨v,e1,r,hh⟩:=R.slot i m d e;rw[e]at w;cases m with
   |false=>exact⟨v,e1,w v F H R.st r (by nofun)⟩
   |true=>exact⟨v,e1,w v F H R.st r λ_=>hh rfl⟩
noncomputable def ifS(t:Res)(ρ:Rho)(x y:aH):aH:=t.thS ρ λ_ d=>match d with|.bl true=>x|.bl false=>y|_=>.stuck
def aFN{s1 s2:List Stmt}(hc:PTv C X c gc)(ha:PBv C X s1 h1)(hb:PBv C X s2 h2):PSv C X (.If c s1 s2 pos) (λρ=>ifS (gc ρ) ρ (h1 ρ) (h2 ρ)):=by
 refine PS.imp (ps_if hc ha hb) λE σ H q=>?_;obtain⟨ρ,F,R,w⟩:=q;dsimp only at w;refine⟨ρ,F,R,?_⟩;cases er:gc ρ with
 |stuck=>rw[er]at w;exact w
 |exc c=>rw[er]at w;exact λF' H' s=>w σ F' H' s.fsame (R.step s)
 |ok m d =>
  rw[er]at w;cases d with
  |bl k =>
   intro F' H' s;cases k with
   |true=>rw[if_pos rfl];exact⟨ρ,F',R.step s,cE.mono s.fsame w⟩
   |false=>rw[if_neg aQL];exact⟨ρ,F',R.step s,cE.mono s.fsame w⟩
  |_=>exact w.elim
noncomputable def dS(ρ:Rho)(i:Nat)(r:Res):aH:=r.thS ρ λm d=>match m with
 |.fz=>.nx (ρ.set i (some (false,d)))
 |.fr=>.nx (ρ.set i (some (true,d)))
 |.bo=>.stuck
theorem aS.set{K:Fg}{F:Hp}{m:Bool}{d:D}(R0:aS K F0 H0 F H σ ρ)(s:aI F H F' H')(rp:Rp K F' H' (if m then .bo else .fz) d v)(fr:m=true->∀a,v=.ref a->H a=none):aS K F0 H0 F' H' (σ.set i (some v)) (ρ.set i (some (m,d))):=by
 have R:=R0.step s;refine⟨R.st,λj m' d' e=>?_,λj k d1 d2 a hjk e1 e2 q1 q2=>?_,by rw[aRN,aRN];exact R.len⟩
 . by_cases hj:j=i
   . subst hj;rw[aSH]at e;by_cases hl:j<ρ.length
     . rw[if_pos rfl,if_pos hl]at e;cases e;refine⟨v,by rw[aSH,if_pos rfl,if_pos (by rw[R.len];exact hl)],rp,λz a ea=>R0.st.same.free (fr z a ea)⟩
     . rw[if_pos rfl,if_neg hl]at e;cases e
   . rw[aP3 (λz=>hj z.symm)]at e ⊢;exact R.slot j m' d' e
 . have old:∀(l:Nat) (d:D) (b:Addr),l≠i->ρ[l]? = some (some (true,d))->σ[l]? = some (some (.ref b))->H b≠none:=λl d b hl e q=>by obtain⟨u,q',r,_⟩:=R0.slot l true d e;rw[q]at q';cases q';obtain⟨b',eb,_,t⟩:=r;cases eb;exact t.there
   by_cases hj:j=i
   . subst hj;rw[aP3 hjk]at e2 q2;rw[aSH]at e1 q1;by_cases hl:j<ρ.length
     . rw[if_pos rfl,if_pos hl]at e1;rw[if_pos rfl,if_pos (by rw[R.len];exact hl)]at q1
       cases e1;cases q1;exact old k d2 a (λz=>hjk z.symm) e2 q2 (fr rfl a rfl)
     . rw[if_pos rfl,if_neg hl]at e1;cases e1
   . by_cases hk:k=i
     . subst hk;rw[aP3 (λz=>hjk z.symm)]at e1 q1;rw[aSH]at e2 q2;by_cases hl:k<ρ.length
       . rw[if_pos rfl,if_pos hl]at e2;rw[if_pos rfl,if_pos (by rw[R.len];exact hl)]at q2
         cases e2;cases q2;exact old j d1 a hjk e1 q1 (fr rfl a rfl)
       . rw[if_pos rfl,if_neg hl]at e2;cases e2
     . rw[aP3 (λz=>hj z.symm)]at e1 q1;rw[aP3 (λz=>hk z.symm)]at e2 q2;exact R.apart j k d1 d2 a hjk e1 e2 q1 q2
def kZ{E:fO}(q:tH (C.at X) (λρ=>dS ρ i (g ρ)) E σ H):jD (tG (C.at X) g) (jC i) E σ H:=by
 obtain⟨ρ,F,R,w⟩:=q;dsimp only at w;refine iK R w λm d v F' H' w' s R' rp fr=>?_;cases m with
 |bo=>exact(show False from w').elim
 |fz=>exact w' _ F' H' (aG.refl _) (R.set (m:=false) s rp (by nofun))
 |fr=>exact w' _ F' H' (aG.refl _) (R.set (m:=true) s rp λ_ a ea=>fr rfl a ea)
def aFO(hN:X.N.Nodup)(hi:X.N[i]? = some x)(hx:Loc X.env.scope x)(he:PV C X e g)(hs:swapsWith e (some (.Name x pos')) pos.line X.env=pure false:=by rfl)(hf:X.fn x=true\/X.env.scope.names.lookup x=some .local:=by first|exact .inl rfl|exact .inr rfl|assumption):PSv C X (.Assign [.Name x pos'] e pos) (λρ=>dS ρ i (g ρ)):=PS.imp (aCG hN hi hx he hs hf) λE σ H q=>kZ q
end
noncomputable def Its(x:Str):It:=⟨λi _=>i<x.cps.size,λi H v H'=>H'=H/\∃c,x.cps[i]? = some c/\v=.str ⟨#[c]⟩,λi _=>x.cps.size<=i⟩
def vK{K:Fg}(it:Addr)(x:Str)(t:Tok)(ty:String)(hty:["enumerate", "zip", "dict_itemiterator", "dict_reverseitemiterator", "odict_iterator", "itertools.zip_longest", "itertools.pairwise"].contains ty=false)(W:∀A':aVV,A'.handled=none->Walks P w A' it [it] [it] x.cps.size (SignAt x) (λi h=>h.IsStrIter it ty x t i))(Sf:∀(A:aVV) (i:Nat) (s:aVU) (Q:VSP) (E:VSP),s.heap.IsStrIter it ty x t i->Q (.ref it) s->wpAny (model P w) A (pyIter (.ref it)) Q E s):jE P w K tg (Its x) [it] it (λi h=>i<=x.cps.size/\h.IsStrIter it ty x t i) where
 mem:=by simp
 obj:=λi h st b hb=>by
  have e:b=it:=by simpa using hb
  subst e;obtain⟨_,o,e,c,d⟩:=st;exact⟨o,e,λv z=>by rw[d]at z;cases z⟩
 keep:=λi h h' st k=>⟨st.1,let⟨o,e,r⟩:=st.2;⟨o,k it (by simp) o e,r⟩⟩
 item:=by
  intro X hP hw hK hc i aA s σ H E I hf st hg;subst hP hw hK;obtain⟨f0,f1,f2,f3,f4,f5⟩:=hf it (by simp)
  refine(W X.A (I.ok.hd hc)).item i s _ _ hg st.2 λv h' tk hv st' kk=>?_;obtain⟨c,u,hc',rfl⟩:=hv;have I1:Inv X aA σ H {s with heap:=h',toks:=tk}:=I.turned (λb o hb e=>kk b o (by simpa using hb) e) f0 f1 f3 f4 f5
  obtain⟨o,e,oc,d⟩:=id st';exact⟨_,rfl,kP (s:={s with heap:=h',toks:=tk}) e oc d hty ⟨.str ⟨#[c]⟩,H,I1,⟨u,rfl⟩,⟨rfl,c,hc',rfl⟩,⟨hg,st'⟩,λb hb=>(hf b hb).1⟩⟩
 done:=by
  intro X hP hw hK hc i aA s σ H E I hf st hg;subst hP hw hK;obtain⟨f0,f1,f2,f3,f4,f5⟩:=hf it (by simp)
  have e:i=x.cps.size:=Nat.le_antisymm st.1 hg;subst e;exact(W X.A (I.ok.hd hc)).done s _ _ st.2 λh' tk kk=>⟨rfl,I.turned (λb o hb e=>kk b o (by simpa using hb) e) f0 f1 f3 f4 f5⟩
 self:=λA i s Q E st h=>Sf A i s Q E st.2 h
def iStr(te:TE):TI:=λσ H R=>te σ H λx H1=>∃z,x=.str z/\R (Its z) H1
def aFP{l:Expr}(hl:PE X l tl):PI X tg l (iStr tl):=by
 intro aA s σ H R I h;refine thn (hl aA s σ H _ I h) λv s1 ⟨x,H1,I1,r1,q1⟩=>?_;obtain⟨z,e,q⟩:=q1;subst e;obtain⟨t,rfl⟩:=r1;have fin:∀(ty:String) (o:Obj),o={cls:=.type ty,data:=.fields #[.str z t,.int ((0:Nat):Int) 0]} -> (∀b:Addr,b∈[s1.heap.objs.size]->f9 X aA H1 b)/\Inv X aA σ H1 {s1 with heap:=s1.heap.push o}/\(s1.heap.push o).IsStrIter s1.heap.objs.size ty z t 0:=λty o eo=>by
  refine⟨λb hb=>?_,I1.kept (t':=s1.toks) λb o e=>hps e,⟨o,aPN _ (by rw[eo];rfl),by rw[eo],by rw[eo]⟩⟩
  have e:b=s1.heap.objs.size:=by simpa using hb
  subst e;exact I1.fpOk (aQD _) (I1.hok.fresh (aQD _))
 cases ha:z.cps.all (· < 128)
 . refine wpAny_pyIter_wide ha ?_;obtain⟨f1,f2,f3⟩:=fin "str_iterator" _ rfl;exact⟨s1.heap.objs.size,[s1.heap.objs.size],_,Its z,H1,rfl,f2,vK _ z t "str_iterator" (by decide) (λA' hA=>Walks.strWide hA _ z t) (λA i s Q E st h=>wpAny_pyIter_striter_wide st h),⟨aQP _,f3⟩,f1,q⟩
 . refine wpAny_pyIter_ascii ha ?_;obtain⟨f1,f2,f3⟩:=fin "str_ascii_iterator" _ rfl;exact⟨s1.heap.objs.size,[s1.heap.objs.size],_,Its z,H1,rfl,f2,vK _ z t "str_ascii_iterator" (by decide) (λA' hA=>Walks.strAscii hA _ z t) (λA i s Q E st h=>wpAny_pyIter_striter_ascii st h),⟨aQP _,f3⟩,f1,q⟩
def PI.imp{t t':TI}(h:PI X tg e t)(i:∀σ H R,t' σ H R->t σ H R):PI X tg e t':=λaA s σ H R I q=>h aA s σ H R I (i σ H R q)
def PI.or{t t':TI}(h:PI X tg e t)(h':PI X tg e t'):PI X tg e (λσ H R=>t σ H R\/t' σ H R):=λaA s σ H R I q=>by
 rcases q with q|q
 . exact h aA s σ H R I q
 . exact h' aA s σ H R I q
structure jM(K:Fg)(F:Hp)(J:It)(ds:List D):Prop where
 go:∀i H,aG F H->i<ds.length->J.go i H
 stop:∀i H,aG F H->ds.length<=i->J.stop i H
 yld:∀i Fc H x H',aG F Fc->aG Fc H->i<ds.length->J.yld i H x H'->∃F' d,ds[i]? = some d/\aI Fc H F' H'/\aC K F' d x
def WantI(C:Cw)(F H:Hp)(σ:L2.St)(r:Res)(R:It->Hp->Prop):Prop:=match r with
 |.ok _ (.lst ds)=>∀J F' H',aI F H F' H'->jM C.K F' J ds->R J H'
 |.exc c=>∀F' H',aI F H F' H'->C.EE c σ H'
 |_=>False
def tIv(C:Cw)(g:Rho->Res):TI:=λσ H R=>∃ρ F,aS C.K C.F0 C.H0 F H σ ρ/\WantI C F H σ (g ρ) R
def PIv(C:Cw)(X:Cx)(tg e:Expr)(g:Rho->Res):Prop:=PI X tg e (tIv (C.at X) g)
noncomputable def jN(z:Str):List D:=z.cps.toList.map λc=>.str ⟨#[c]⟩
def gZ(r:Res):Res:=r.thn λ_ d=>match d with
 |.lst ds=>.ok .fz (.lst ds)
 |.tup ds=>.ok .fz (.lst ds)
 |.str z=>.ok .fz (.lst (jN z))
 |_=>.stuck
section
variable  {p:Pos}
def aFQ{K:Fg}{F:Hp}{a:Addr}(hq:SqT K F a xs)(r:aD K F ds xs):jM K F (Itt K a) ds where
 go:=λi H s hi=>by
  have hl:i<xs.length:=by rw[r.length];exact hi
  exact⟨xs,xs[i],aG.seqT s hq,by simp[hl]⟩
 stop:=λi H s hi=>⟨xs,aG.seqT s hq,by rw[r.length];exact hi⟩
 yld:=λi Fc H x H' s1 s2 hi y=>by obtain⟨rfl,y⟩:=y;have hx:=y xs (aG.seqT s2 (aG.seqT s1 hq));obtain⟨d,e,rd⟩:=r.get hx;exact⟨Fc,d,e,.refl s2,rd.mono s1 _ _⟩
def aFR{K:Fg}{F:Hp}(hk:PyData.strOk z=true):jM K F (Its z) (jN z) where
 go:=λi H s hi=>by simpa[jN,Its]using hi
 stop:=λi H s hi=>by simpa[jN,Its]using hi
 yld:=λi Fc H x H' s1 s2 hi y=>by
  obtain⟨rfl,c,hc,rfl⟩:=y;refine⟨Fc,.str ⟨#[c]⟩,by simp[jN,hc],.refl s2,?_⟩
  simp only[aC,true_and];refine⟨by show 1<=sizeLine;decide,?_⟩
  unfold PyData.strOk at hk ⊢;rw[aSB]at hk;simpa using hk c (aSF hc)
def aFS(h:PV C X e g):PIv C X tg e (λρ=>gZ (aZ (g ρ))):=by
 have h:=gB h;refine PI.imp (PI.or (aCK h) (PI.or (aCL h) (aFP h))) λσ H R q=>?_;obtain⟨ρ,F,RS,w⟩:=q;dsimp only at w;cases er:aZ (g ρ)with
 |stuck=>rw[er]at w;exact w.elim
 |exc c=>refine .inl ?_;unfold pS;rw[aX];refine⟨ρ,F,RS,?_⟩;rw[er]at w ⊢;exact w
 |ok m d =>
  rw[er]at w;have hm:m=.fz:=by
   cases h:g ρ with
   |ok m' d'=>rw[h]at er;cases m' <;> cases er <;> rfl
   |exc c=>rw[h]at er;cases er
   |stuck=>rw[h]at er;cases er
  subst hm;cases d with
  |lst ds =>
   refine .inl ?_; unfold pS; rw [aX]; refine ⟨ρ, F, RS, ?_⟩; rw [er]; intro v F' H' st rp _; have rp : aC X.K F' (.lst ds) v := rp; simp only [aC] at rp; obtain ⟨a, xs, rfl, hq, r⟩ := rp; exact ⟨a, rfl, ⟨xs, st.sub.seq hq⟩, w _ F' H' st ⟨fun i H s hi => by
       have hl:i<xs.length:=by rw[r.length];exact hi
       exact⟨xs,xs[i],s.seq hq,by simp[hl]⟩,λi H s hi=>⟨xs,s.seq hq,by rw[r.length];exact hi⟩,λi Fc H x H' s1 s2 hi y=>by
       obtain⟨rfl,y⟩:=y;have hx:=y xs (s2.seq (s1.seq hq));obtain⟨d,e,rd⟩:=r.get hx;exact⟨Fc,d,e,.refl s2,rd.mono s1 _ _⟩⟩⟩
  |tup ds=>refine .inr (.inl ?_);unfold iTup;rw[aX];refine⟨ρ,F,RS,?_⟩;rw[er];intro v F' H' st rp _;have rp:aC X.K F' (.tup ds) v:=rp;simp only[aC]at rp;obtain⟨a,xs,rfl,hq,r⟩:=rp;exact⟨a,rfl,⟨xs,aG.seqT st.sub hq⟩,w _ F' H' st (aFQ hq r)⟩
  |str z=>refine .inr (.inr ?_);unfold iStr;rw[aX];refine⟨ρ,F,RS,?_⟩;rw[er];intro v F' H' st rp _;obtain⟨rfl,hz,hk⟩:=Rp.str rp;exact⟨z,rfl,w _ F' H' st (aFR hk)⟩
  |_=>exact w.elim
noncomputable def bU(lo hi:Int):List D:=(List.range (hi-lo).toNat).map λi=>.int (lo+(i:Nat))
noncomputable def eP(r:bI):Res:=r.thn λxs=>match xs with
 |[(_,.int n)]=>if(decide (-(2 ^ 62)<=n)&&decide (n<2 ^ 62))=true then .ok .fz (.lst (bU 0 n))else .stuck
 |_=>.stuck
def aFT{K:Fg}{F:Hp}{lo hi:Int}:jM K F (Itr lo (hi-lo).toNat) (bU lo hi) where
 go:=λi H s h=>by simpa[bU,Itr]using h
 stop:=λi H s h=>by simpa[bU,Itr]using h
 yld:=λi Fc H x H' s1 s2 h y=>by
  obtain⟨rfl,rfl⟩:=y;have h':i<(hi-lo).toNat:=by simpa[bU]using h
  refine⟨Fc,.int (lo+i),?_,.refl s2,by simp only[aC]⟩
  simp only[bU,aQZ,List.getElem?_range h',aSI]
def aFU{a:Expr}(hg:Gl X "range")(hm:X.mg "range" = none)(ha:PAv C X [a] gs)(hs:starEach [a] X.env=[(false,eval a X.env)]:=by rfl):PIv C X tg (.Call (.Name "range" p) [a] [] pos) (λρ=>eP (gs ρ)):=by
 refine PI.imp (aCN hg hm ha hs) λσ H R q=>?_;obtain⟨ρ,F,RS,w⟩:=q;dsimp only at w;unfold uI;refine⟨ρ,F,RS,?_⟩;cases er:gs ρ with
 |stuck=>rw[er]at w;exact w
 |exc c=>rw[er]at w;exact w
 |ok xs =>
  rw[er]at w;intro vs F' H' st rp;unfold eP at w;rw[bI.thn_ok]at w;split at w
  . rename_i m n;split at w
    . rename_i hc;rw[aRJ,aR8,aR8]at hc;obtain⟨v,rfl,r⟩:=rp.one;cases r.int;have:=aFT (K:=X.K) (F:=F') (lo:=0) (hi:=n);rw[Int.sub_zero]at this;exact⟨n,rfl,hc.1,hc.2,w _ F' H' st this⟩
    . exact w.elim
  . exact w.elim
def PGv(C:Cw)(X:Cx)(tg:Expr)(k:D->Rho->Option Rho):Prop:=∃t:TG,PG X tg t/\∀F H σ ρ ρ' d v Q,aS X.K C.F0 C.H0 F H σ ρ->aC X.K F d v->k d ρ=some ρ' ->
 (∀σ' F' H',aG F F'->aS X.K C.F0 C.H0 F' H' σ' ρ'->Q σ' H')->t v σ H Q
noncomputable def iL(i:Nat):D->Rho->Option Rho:=λd ρ=>some (ρ.set i (some (false,d)))
noncomputable def bO(k:D->Rho->Option Rho)(body:Rho->aH):List D->Rho->aH
 |[],ρ=>.nx ρ
 |d::ds,ρ=>match k d ρ with
  |none=>.stuck
  |some ρ1=>match body ρ1 with
   |.nx ρ2=>bO k body ds ρ2
   |.ct ρ2=>bO k body ds ρ2
   |.bk ρ2=>.nx ρ2
   |r=>r
def fU(r:Res)(ρ:Rho)(k:D->Rho->Option Rho)(body:Rho->aH):aH:=r.thS ρ λ_ d=>match d with|.lst ds=>bO k body ds ρ|_=>.stuck
theorem aFV{k:D->Rho->Option Rho}{h1:Rho->aH}(hp:PassesOwn (model X.prog X.w) X.A X.env X.xe)(hc:X.calm=true)(hi:PIv C X tg e g)(hg:PGv C X tg k)(hb:PBv C X body h1)(hs:∀x,foldedSetIterable e X.env x=pure x:=by intro _;rfl):PSv C X (.For tg e body [] pos) (λρ=>fU (g ρ) ρ k h1):=by
 obtain⟨t,ht,hk⟩:=hg;refine PS.imp (aCP hp hc hi ht hb hs) λE σ H q=>?_;obtain⟨ρ,F,RS,w⟩:=q;dsimp only at w;unfold tFor;refine⟨ρ,F,RS,?_⟩;cases er:g ρ with
 |stuck=>rw[er]at w;exact w
 |exc c=>rw[er]at w;exact λF' H' s=>w σ F' H' s.fsame (RS.step s)
 |ok m d =>
  rw[er]at w;cases d with
  |lst ds =>
   intro J F1 H1 s1 hJ;have w:cE (C.at X) F1 (bO k h1 ds ρ) E:=cE.mono s1.fsame w;refine⟨λi m σ' H'=>m=ds.length-i/\i<=ds.length/\∃ρ' F',aG F1 F'/\aS X.K C.F0 C.H0 F' H' σ' ρ'/\cE (C.at X) F' (bO k h1 (ds.drop i) ρ') E,⟨ds.length,by simp,aQP _,ρ,F1,aG.refl _,RS.step s1,by simpa using w⟩,?_⟩
   rintro i m σ' H' ⟨rfl,hi,ρ',F',sF,R',w'⟩;by_cases hlt:i<ds.length
   . refine .inr ⟨hJ.go i H' (sF.trans R'.sub) hlt,λσ2 H2=>∃ρ2 F2,aG F1 F2/\aS X.K C.F0 C.H0 F2 H2 σ2 ρ2/\cE (C.at X) F2 (bO k h1 (ds.drop (i+1)) ρ2) E,λσ2 H2 ⟨ρ2,F2,a,b,c⟩=>⟨ds.length-(i+1),by lia,rfl,hlt,ρ2,F2,a,b,c⟩,λx H2 y=>?_⟩
     obtain⟨F2,d,ed,s2,rd⟩:=hJ.yld i F' H' x H2 sF R'.sub hlt y;have hd:ds.drop i=d::ds.drop (i+1):=by rw[aSJ hlt];rw[aSK hlt]at ed;cases ed;rfl
     rw[hd]at w';unfold bO at w';cases ek:k d ρ' with
     |none=>rw[ek]at w';exact w'.elim
     |some ρ1 =>
      rw[ek]at w';dsimp only at w';refine hk F2 H2 σ' ρ' ρ1 d x _ (R'.step s2) rd ek λσ3 F3 H3 z3 R3=>?_;have z13:aG F1 F3:=(sF.trans s2.fsame).trans z3;have w3:=cE.mono (s2.fsame.trans z3) w';refine⟨ρ1,F3,R3,?_⟩;cases eb:h1 ρ1 with
      |nx ρ2=>rw[eb]at w3;exact λσ4 F4 H4 z4 R4=>⟨ρ2,F4,z13.trans z4,R4,cE.mono z4 w3⟩
      |ct ρ2=>rw[eb]at w3;exact λσ4 F4 H4 z4 R4=>⟨ρ2,F4,z13.trans z4,R4,cE.mono z4 w3⟩
      |bk ρ2=>rw[eb]at w3;exact λσ4 F4 H4 z4 R4=>w3 σ4 F4 H4 z4 R4
      |rt m d=>rw[eb]at w3;exact w3
      |exc c ρ2=>rw[eb]at w3;exact w3
      |stuck=>rw[eb]at w3;exact w3
   . have ei:i=ds.length:=by lia
     subst ei;refine .inl ⟨hJ.stop _ H' (sF.trans R'.sub) (aQD _),?_⟩;rw[aSL]at w';exact w' σ' F' H' (aG.refl _) R'
  |_=>exact w.elim
end
end D3
namespace L2
theorem qC {env : Env} : ∀ (names : List (Str × NameKind)) (acc : List (Str × Addr)), (∀ y ∈ names, y.2 = .free → ∃ c, env.cells.lookup y.1 = some c) → (∀ y c, acc.lookup y = some c → env.cells.lookup y = some c) →
    ∃cl,(forIn names acc λ(x:Str×NameKind) (cs:List (Str×Addr))=>(if x.2 == .free then(do let c <- cellOf env x.1;pure (ForInStep.yield ((x.1,c)::cs)))else pure (ForInStep.yield cs):Sem (ForInStep (List (Str×Addr)))))=pure cl /\
     (∀y c,cl.lookup y=some c->env.cells.lookup y=some c)/\(∀y c,acc.lookup y=some c->cl.lookup y=some c)/\∀y,(y,NameKind.free)∈names->∃c,cl.lookup y=some c
 |[],acc,_,ha=>⟨acc,by rw[aSM],ha,λ_ _ h=>h,λ_ h=>by cases h⟩
 |(n,k)::r,acc,h,ha=>by
  rw[aSN];by_cases hk:k=.free
  . subst hk;obtain⟨c,ec⟩:=h (n,.free) mcs rfl;have hc:cellOf env n=pure c:=by unfold cellOf;rw[ec]
    have e:((if(NameKind.free==NameKind.free)=true then(do let c <- cellOf env n;pure (ForInStep.yield ((n,c)::acc)))else pure (ForInStep.yield acc)):Sem (ForInStep (List (Str×Addr))))=pure (ForInStep.yield ((n,c)::acc)):=by rw[if_pos (by decide),hc,aSO]
    obtain⟨cl,e1,e2,e3,e4⟩:=qC (env:=env) r ((n,c)::acc) (λy hy=>h y (mcm hy)) (λy c' q=>by
     rw[aR6]at q;cases hyn:y==n with
     |true=>rw[hyn]at q;cases q;rw[aQM.mp hyn];exact ec
     |false=>rw[hyn]at q;exact ha y c' q)
    refine⟨cl,?_,e2,λy c' q=>?_,λy hy=>?_⟩
    . dsimp only;rw[e,aSO];exact e1
    . cases hyn:y==n with
      |true=>have:=aQM.mp hyn;subst this;have q':=ha y c' q;rw[ec]at q';cases q';exact e3 y c (by rw[aR6,hyn])
      |false=>exact e3 y c' (by rw[aR6,hyn];exact q)
    . rcases aPY.mp hy with z|z
      . cases z;exact⟨c,e3 n c (by rw[aR6,aSP])⟩
      . exact e4 y z
  . have e:((if(k==NameKind.free)=true then(do let c <- cellOf env n;pure (ForInStep.yield ((n,c)::acc)))else pure (ForInStep.yield acc)):Sem (ForInStep (List (Str×Addr))))=pure (ForInStep.yield acc):=by rw[if_neg (by simpa using hk)]
    obtain⟨cl,e1,e2,e3,e4⟩:=qC (env:=env) r acc (λy hy=>h y (mcm hy)) ha;refine⟨cl,?_,e2,e3,λy hy=>?_⟩
    . dsimp only;rw[e,aSO];exact e1
    . rcases aPY.mp hy with z|z
      . cases z;exact absurd rfl hk
      . exact e4 y z
def vL(h:∀y∈scope.names,y.2=.free->∃c,env.cells.lookup y.1=some c):∃cl,closureFor scope env=pure cl/\(∀y c,cl.lookup y=some c->env.cells.lookup y=some c)/\∀y,(y,NameKind.free)∈scope.names->∃c,cl.lookup y=some c:=by
 obtain⟨cl,e1,e2,_,e4⟩:=qC (env:=env) scope.names [] h (λy c q=>by simp at q)
 refine⟨cl,?_,e2,e4⟩;unfold closureFor;rw[bind_pure];exact e1
def vM(bT:∀y∈scope.names,y.2 ≠ .cell)(h:(relabel scope env).names.lookup x=some .cell\/(relabel scope env).names.lookup x=some .free):(x,NameKind.free)∈scope.names:=by
 unfold relabel at h;dsimp only at h;have go:∀(l:List (Str×NameKind)),(∀y∈l,y.2 ≠ .cell)->((l.map λ(n,k)=>if(k==NameKind.free&&env.scope.kind == .function&&env.kindOf n==some .cell)then(n,NameKind.cell)else(n,k)).lookup x=some .cell\/(l.map λ(n,k)=>if(k==NameKind.free&&env.scope.kind == .function&&env.kindOf n==some .cell)then(n,NameKind.cell)else(n,k)).lookup x=some .free)->(x,NameKind.free)∈l:=by
  intro l
  induction l with
  |nil=>intro _ h;simp at h
  |cons y l ih =>
   intro hc h;obtain⟨n,k⟩:=y;rw[aRR]at h;by_cases hx:x=n
   . subst hx;have hk:k=.free:=by
       by_cases hk:k=.free
       . exact hk
       . have e:(k==NameKind.free&&env.scope.kind == .function&&env.kindOf x==some .cell)=false:=by
           have:(k==NameKind.free)=false:=by simpa using hk
           rw[this];rfl
         simp only[e,aR5,aRA,aR6,aSP]at h;rcases h with h|h
         . cases h;exact absurd rfl (hc _ mcs)
         . cases h;exact absurd rfl hk
     subst hk;exact mcs
   . have hb:(x==n)=false:=by simpa using hx
     have hh:∀(kk:NameKind) (l':List (Str×NameKind)),((n,kk)::l').lookup x=l'.lookup x:=λkk l'=>by rw[aR6,hb]
     by_cases hcond:(k==NameKind.free&&env.scope.kind == .function&&env.kindOf n==some .cell)=true
     . dsimp only at h;rw[if_pos hcond,hh]at h;exact mcm (ih (λy hy=>hc y (mcm hy)) h)
     dsimp only at h;rw[if_neg hcond,hh]at h;exact mcm (ih (λy hy=>hc y (mcm hy)) h)
 exact go scope.names bT h
noncomputable def aT(X:Cx)(scope:Scope)(N:List Str)(cl:List (Str×Addr))(C:Addr)(fp:List Addr)(s3:aVU)(H3:Hp):Cx where
 prog:=X.prog
 w:=X.w
 K:=X.K
 mg:=X.mg
 base:=X.base
 A:=X.A
 N:=N
 s₀:=s3
 H₀:=H3
 env:=compEnvC scope cl C X.env
 outer:=X.stack
 stack:=X.stack
 ex:=fp
 fn:=λ_=>false
 calm:=X.calm
 pn:=[]
 xe:=λ_ _=>False
def dA(X:Cx)(cs:List Expr)(t:TT):Prop :=
 ∀(aA:LAO) (s:aVU) (σ:St) (H:Hp) (Q:Bool->Hp->Prop),Inv X aA σ H s->t σ H Q ->
  wpAny (model X.prog X.w) X.A (forIn cs true λc r=>if r=true then do let ok <- isTrue c X.env (eval c X.env);pure (ForInStep.yield ok)else pure (ForInStep.yield r)) (TP X aA σ Q) X.xe s
def aFW:dA X [] (λ_ H Q=>Q true H):=λaA s σ H Q I h=>by rw[aSM];exact aP9 ⟨H,I,h⟩
theorem vN{X:Cx}:∀cs:List Expr,(forIn cs false λc r=>if r=true then do let ok <- isTrue c X.env (eval c X.env);pure (ForInStep.yield ok)else pure (ForInStep.yield r):Sem Bool)=pure false
 |[]=>by rw[aSM]
 |c::cs=>by rw[aSN,if_neg aQL,aSO];exact vN cs
def aFX{cs:List Expr}{t u:TT}(hc:PT X c t)(hr:dA X cs u):dA X (c::cs) (pQ t u):=λaA s σ H Q I h=>by
 rw[aSN,if_pos rfl];refine aQA (aQA (thn (hc aA s σ H _ I h) λb s1 ⟨H1,I1,q1⟩=>aP9 ?_));cases b with
 |true=>rw[if_pos rfl]at q1;exact hr aA s1 σ H1 Q I1 q1
 |false=>rw[if_neg aQL]at q1;dsimp only;rw[vN];exact aP9 ⟨H1,I1,q1⟩
section
variable {A:aVV}{R:Result->aVU->Prop}
def aFY {elt target aF : Expr} {ifs : List Expr} {scope : Scope} {pos : Pos} {it acc : aVT} {env : Env} (I : Nat → aVU → Prop) (turn : ∀ n s, I n s → wpAny (model prog w) A (pyNext it) (fun r s1 => match r with
      |none=>R (.ok .next) s1
      | some v => wpAny (model prog w) A (letOwnedTupleGo target it v) (fun _ s1' => wpAny (model prog w) A (assign target env v) (fun _ s2 =>
          wpAny (model prog w) A (forIn ifs true λc r=>if r=true then do let ok <- isTrue c env (eval c env);pure (ForInStep.yield ok)else pure (ForInStep.yield r)) (λok s3 =>
           if ok=true then wpAny (model prog w) A (eval elt env) (λx s4 =>
            wpAny (model prog w) A (call (.builtin "list.append") [acc,x]) (λ_ s5=>∃m,m<n/\I m s5) (λ_ _=>False) s4) (λ_ _=>False) s3
           else ∃ m, m < n ∧ I m s3) (fun _ _ => False) s2) (fun _ _ => False) s1') (fun _ _ => False) s1) (fun _ _ => False) s)
    (n:Nat) (h:I n s) :
    codeAny (model prog w) A (.compLoop (.ListComp elt [⟨target,aF,ifs,0⟩] scope pos) 0 it acc env) R s:=by
 refine codeAny_loop rfl I (λn s hI=>?_) n h;show wpAny _ A ((compTurn (.ListComp elt [⟨target,aF,ifs,0⟩] scope pos) 0 it acc env).onRaise (λx=>do noteFrame x env;theTreesLotGoes x)) _ _ s
 refine wpAny_noted ?_;rw[compTurn_list];refine aQA (aSQ (aQA (aP5 (turn n s hI) (λr s1 h1=>?_) λ_ _ h'=>h'.elim)));cases r with
 |none=>exact aP9 h1
 |some v =>
  refine aQA (aP5 h1 (λ_ s1' h1'=>?_) λ_ _ h'=>h'.elim);refine aQA (aP5 h1' (λ_ s2 h2=>aQA (aP5 h2 (λok s3 h3=>?_) λ_ _ h'=>h'.elim)) λ_ _ h'=>h'.elim);cases ok with
  |false=>exact aP9 ⟨rfl,h3⟩
  |true=>exact aQA (aQA (aP5 h3 (λx s4 h4=>aQA (aP5 h4 (λ_ s5 h5=>aP9 (aP9 ⟨rfl,h5⟩)) λ_ _ h'=>h'.elim)) λ_ _ h'=>h'.elim))
end
noncomputable def bJ(aB:List Nat)(σ:St):St:=aB.map λi=>(σ[i]?).getD none
def k5(σ σ':St):Prop:=σ.length=σ'.length/\∀(j:Nat) v,σ[j]? = some (some v)->σ'[j]? = some (some v)
def k6(aB:List Nat)(k:Nat)(wi:TI)(gt:TG)(tt:TT)(te:TE):TE:=λσ H Q=>wi σ H λJ H1=>∀D,H1 D=none ->
 ∃W:Nat->Nat->List V->Hp->Prop,(∃m,W 0 m [] (upd H1 D (.lst [])))/\∀i m ys H,W i m ys H->H D=some (.lst ys) /\
  ((J.stop i H/\Q (.ref D) H)\/(J.go i H/\ys.length<sizeLine/\∀x H',J.yld i H x H'->gt x (bJ aB σ++List.replicate k none) H' λσ2 H2=>k5 (bJ aB σ++List.replicate k none) σ2/\tt σ2 H2 λb H3 =>
   if b=true then te σ2 H3 λy H4=>H4 D=some (.lst ys)/\∃m',m'<m/\W (i+1) m' (ys++[y]) (upd H4 D (.lst (ys++[y])))else ∃m',m'<m/\W (i+1) m' ys H3))
def vO{use:Option (aVT->Sem Unit)}{QQ:VSP}{σ:St}{Q:VK}(hc:X.calm=true)(hi:PI X tg aF wi)(bT:∀y∈scope.names,y.2 ≠ .cell)(bX:scope.kind=.function)(dL:∀y∈scope.names,y.2=.local->scope.names.lookup y.1=some .local)(bZ:∀y∈scope.names,y.2=.free->X.env.kindOf y.1=some .cell\/X.env.kindOf y.1=some .free)(cL:aE.map some=aB.map λi=>X.N[i]?)(dO:∀y∈aE,(y,NameKind.free)∈scope.names)(dM:∀y∈aE,(relabel scope X.env).names.lookup y=some .cell\/(relabel scope X.env).names.lookup y=some .free)(hg:∀cl C fp s3 H3,PG (aT X scope (aE++tgN) cl C fp s3 H3) tg gt)(hf:∀cl C fp s3 H3,dA (aT X scope (aE++tgN) cl C fp s3 H3) ifs tt)(he:∀cl C fp s3 H3,PE (aT X scope (aE++tgN) cl C fp s3 H3) elt te)(hs:∀x,foldedSetIterable aF X.env x=pure x)(I:Inv X aA σ H s)(h:k6 aB tgN.length wi gt tt te σ H Q)(hend:∀(D Z:Addr) (s6:aVU) (H5:Hp),(∃m,s6.heap.Ns Z m)->(∀h'',Heap.SameBut Z s6.heap h''->Inv X aA σ H5 {s6 with heap:=h''})->H5 Z=none->X.s₀.heap.objs.size<=Z->Z≠X.env.locals->(∀x c,X.env.cells.lookup x=some c->c≠Z)->(∀p∈X.pn++aA,p.1≠Z)->Q (.ref D) H5->compPost (model X.prog X.w) X.A X.xe use QQ (.ref D) Z (.ok .next) s6):wpAny (model X.prog X.w) X.A (comprehension (.ListComp elt [⟨tg,aF,ifs,0⟩] scope pos) scope X.env (firstIterPos [⟨tg,aF,ifs,0⟩] pos) (newList []) (firstAsync [⟨tg,aF,ifs,0⟩]) (firstIter [⟨tg,aF,ifs,0⟩] X.env) use) QQ X.xe s:=by
 obtain⟨cl,hclos,clsub,clhas⟩:=vL (scope:=scope) (env:=X.env) λy hy hk=>I.ok.has y.1 (bZ y hy hk);refine wpAny_comprehension_free (use:=use) rfl hs hclos bX dL (thn (hi aA s σ H _ I h) λv s1 h1=>thn h1 λitv s2 h2=>?_);obtain⟨it,fp,tn,J,H2,e,I2,T,st2,f2,q⟩:=h2;subst e;refine aRK ?_;have hn:H2 s2.heap.objs.size=none:=I2.hok.fresh (aQD _);obtain⟨W,⟨m0,w0⟩,turn⟩:=q s2.heap.objs.size hn;have I3:Inv X aA σ (upd H2 s2.heap.objs.size (.lst [])) { s2 with heap:=s2.heap.push { cls:=.type "list", dict:=none,data:=.seq ([]:List aVT).toArray } } :=
  I2.laid (t':=s2.toks) (λb u e=>hps e) (aQD _) ⟨aQP _,[],0,.nil,aPN _ rfl⟩
 generalize hs3:({ s2 with heap:=s2.heap.push { cls:=.type "list", dict:=none,data:=.seq ([]:List aVT).toArray } }:aVU)=s3 at I3 ⊢
 generalize hH3:upd H2 s2.heap.objs.size (.lst [])=H3 at I3 w0;have fpl:∀b∈fp,b<s2.heap.objs.size:=λb hb=>by obtain⟨o,eo,_⟩:=T.obj 0 _ st2 b hb;exact aPO eo
 have sz3:s3.heap.objs.size=s2.heap.objs.size+1:=by rw[<- hs3];exact aQN _ _
 have keep23:∀b o,s2.heap.get? b=some o->s3.heap.get? b=some o:=λb o e=>by rw[<- hs3];exact hps e
 have hDf:s2.heap.objs.size∉fp:=λhb=>aPQ _ (fpl _ hb);refine wpAny_newFunctionEnv bT (by intro y hy;simp at hy) (λh4 hns hsb=>?_) bX
 try dsimp only at hns hsb ⊢
 have keep34:∀b o,s3.heap.get? b=some o->h4.get? b=some o:=λb o e=>hsb.extBut b o (aPR (aPO e)) (hps e);have nostk:∀b∈fp,b∉frs X.stack:=λb hb z=>by
  obtain⟨_,f1,f2',_⟩:=f2 b hb;rcases aPY.mp (I2.stkSub b z)with q|q
  . exact f1 q
  . exact f2' q
 have okc:(aT X scope (aE++tgN) cl s3.heap.objs.size fp s3 H3).Ok :=
  { mod:=I3.ok.mod
    kind:=bX
    glob:=I3.ok.glob
    blt:=I3.ok.blt
    above:=aQD _
    inj:=λx y c h1 h2=>I3.ok.inj x y c (clsub x c h1) (clsub y c h2)
    has:=λx hx=>clhas x (vM bT hx)
    cab:=λx c z=>by cases z
    hd:=I3.ok.hd
    frames:=I3.ok.frames
    stk:=.inl rfl
    exf:=λb hb=>⟨aPR (by show b<s3.heap.objs.size;rw[sz3];exact aSR (fpl b hb)),λx c e=>(f2 b hb).2.2.2.2.1 x c (clsub x c e)⟩
    bs:=I3.bs
    bsz:=aPV I3.ok.bsz I3.sz
    noex:=λb o e hb=>by
     obtain⟨_,_,_,f3,_⟩:=f2 b hb;rcases f3 with z|z
     . exact I2.ok.noex b o e z
     . exact absurd (aPO (I2.ok.bs b o e).1) (aSS.mpr z)
    exfs:=nostk
    funs:=I3.stack
    frf:=I3.stkFree
    tabs:=I3.ok.tabs.mono I3.base.tbls }
 have capLen:aE.length=aB.length:=by have:=congrArg List.length cL;simpa using this
 generalize hσ0:bJ aB σ++List.replicate tgN.length none=σ0 at turn;have Ic:Inv (aT X scope (aE++tgN) cl s3.heap.objs.size fp s3 H3) [] σ0 H3 {s3 with heap:=h4,toks:=s3.toks+([]:List (Str×aVT)).length}:=by
  refine⟨okc,rfl,I3.bare,Un.kept keep34,⟨_,hns,λi y v h1 h2 h3=>?_⟩,λx c e=>?_,I3.hok.fresh (aQD _),λx c e=>I3.freeC x c (clsub x c e),λp hp=>absurd (show p∈([]:LAO)from hp) (by simp),I3.hok.kept keep34,?_⟩
  . by_cases hi:i<aB.length
    . have ey:aE[i]? = some y:=by have h1:(aE++tgN)[i]? = some y:=h1;rw[aQY (by rw[capLen];exact hi)]at h1;exact h1
      have hj:X.N[aB[i]]? = some y:=by
       have e1:(aE.map some)[i]? = (aB.map λi=>X.N[i]?)[i]?:=by rw[cL]
       rw[aQZ,aQZ,ey,aSK hi]at e1;simpa using e1.symm
      have ev:σ[aB[i]]? = some (some v):=by
       rw[<- hσ0,aQY (by simpa[bJ]using hi)]at h2
       unfold bJ at h2;rw[aQZ,aSK hi]at h2;simp only[aSI,aST]at h2;cases z:σ[aB[i]]? with
       |none=>rw[z]at h2;cases h2
       |some o=>rw[z]at h2;exact congrArg some h2
      have hyf:=dO y (aQ0 ey);have hkX:=bZ _ hyf rfl;obtain⟨m,_,hl⟩:=I3.loc;obtain⟨u,ru,lk⟩:=hl aB[i] y v hj ev (by rcases hkX with z|z;exact .inr (.inl z);exact .inr (.inr z))
      refine⟨u,ru,.inr ⟨dM y (aQ0 ey),?_⟩⟩;rcases lk with⟨hk,_⟩|⟨_,c,ec,ic⟩
      . rcases hkX with z|z
        . rw[show X.env.kindOf y=some .cell from z]at hk;cases hk
        . rw[show X.env.kindOf y=some .free from z]at hk;cases hk
      . obtain⟨c',ec'⟩:=clhas y hyf;have:=clsub y c' ec';rw[ec]at this;cases this;exact⟨c,ec',ic.keeps keep34⟩
    . rw[<- hσ0,aQW (by simpa[bJ]using hi),aQX]at h2
      split at h2 <;> cases h2
  . obtain⟨v,q⟩:=I3.cell x c (clsub x c e);exact⟨v,q.keeps keep34⟩
  . rw[<- hσ0];show(bJ aB σ++List.replicate tgN.length none).length=(aE++tgN).length;simp[bJ,capLen]
 have fpc:∀{H':Hp},(∀b∈fp,H' b=none)->∀b∈fp,f9 (aT X scope (aE++tgN) cl s3.heap.objs.size fp s3 H3) [] H' b:=λhn b hb =>
  ⟨hn b hb,(okc.exf b hb).1,nostk b hb,.inl hb,(okc.exf b hb).2,λp hp=>absurd (show p∈([]:LAO)from hp) (by simp)⟩
 have gY:codeAny (model X.prog X.w) X.A (.compLoop (.ListComp elt [⟨tg,aF,ifs,0⟩] scope pos) 0 (.ref it) (.ref s2.heap.objs.size) (compEnvC scope cl s3.heap.objs.size X.env)) (compPost (model X.prog X.w) X.A X.xe use QQ (.ref s2.heap.objs.size) s3.heap.objs.size) {s3 with heap:=h4,toks:=s3.toks+([]:List (Str×aVT)).length}:=by
  refine aFY (λn s'=>∃i ys H',Inv (aT X scope (aE++tgN) cl s3.heap.objs.size fp s3 H3) [] σ0 H' s'/\tn i s'.heap/\(∀b∈fp,H' b=none)/\W i n ys H') ?_ m0
   ⟨0,[],H3,Ic,T.keep _ _ _ st2 (λb hb o e=>keep34 b o (keep23 b o e)),λb hb=>by rw[<- hH3,aP (by intro z;rw[z]at hb;exact hDf hb)];exact(f2 b hb).1,w0⟩
  rintro n s5 ⟨i,ys,H5,I5,st5,fr5,w5⟩;obtain⟨hD,hw⟩:=turn i n ys H5 w5;rcases hw with⟨stop,qq⟩|⟨go,hlen,step⟩
  . refine thn (T.done (aT X scope (aE++tgN) cl s3.heap.objs.size fp s3 H3) rfl rfl rfl hc i [] s5 σ0 H5 _ I5 (fpc fr5) st5 stop) λr s6 ⟨hr,I6⟩=>?_;subst hr;obtain⟨m,hm,_⟩:=id I6.loc;refine hend s2.heap.objs.size s3.heap.objs.size s6 H5 ⟨m,hm⟩ (λh'' hsb2=>?_) I6.free I3.sz (λz=>?_) (λx c ec z=>?_) (λp hp z=>?_) qq;rotate_left
    . obtain⟨m,⟨o,es,ep,ho,_⟩,_⟩:=id I3.loc;rw[<- z]at ho;exact aPQ _ (aPO ho)
    . obtain⟨v,o,ho,_⟩:=I3.cell x c ec;rw[z]at ho;exact aPQ _ (aPO ho)
    . have:=(I3.pin p hp).1;rw[z]at this;exact aPQ _ (aPO this)
    have u:=I6.base;have neC:∀b o,s3.heap.get? b=some o->b≠s3.heap.objs.size:=λb o e=>aPR (aPO e);have un:Un (frs X.stack) fp H3 H5 s3.heap h'':=by
     refine⟨λb o e n hb hx=>hsb2.extBut b o (neC b o e) (u.keep b o e n hb hx),λb o e n hb hx=>?_,u.free,λb o e hx=>?_,u.tups,u.frzs,u.tbls⟩
     . obtain⟨sl,q⟩:=u.slot b o e n hb hx;exact⟨sl,hsb2.extBut b _ (neC b o e) q⟩
     . obtain⟨o',q⟩:=u.there b o e hx;exact⟨o',hsb2.extBut b _ (neC b o e) q⟩
    have hok : HOk X.prog X.w H5 h'' := fun a o e => (I6.hok a o e).stay (fun b v hb q => hsb2.extBut b v (by
        intro z;have fr:=I6.free;rcases hb with hb|hb
        . rw[hb]at z;rw[z]at e;rw[show H5 s3.heap.objs.size=none from fr]at e;cases e
        . rw[z,show H5 s3.heap.objs.size=none from fr]at hb;cases hb) q) (λ_ q=>q) λ_ _ q=>q
    have os6:=I6.os;obtain⟨hh,g6,d6,t6,o6⟩:=s6;obtain rfl:o6=s3.os:=os6;have I8:=I3.call (h':=h'') (g':=g6) (d':=d6) (t':=t6) (ch:=fp) un hok I6.bare λb hb=>by obtain⟨_,f1,_,f3,f4,f5⟩:=f2 b hb;exact⟨f3,f1,f4,f5⟩
    exact I8
  . refine thn (T.item (aT X scope (aE++tgN) cl s3.heap.objs.size fp s3 H3) rfl rfl rfl hc i [] s5 σ0 H5 _ I5 (fpc fr5) st5 go) λr s6 ⟨u,hr,h6⟩=>?_;subst hr;refine thn h6 λ_ s7 ⟨x,H7,I7,r7,y7,st7,fr7⟩=>?_;have I7':=I7.pinned (fpc fr7) (T.obj _ _ st7);refine thn (hg cl s3.heap.objs.size fp s3 H3 _ s7 σ0 H7 x u _ I7' r7 (step x H7 y7)) λ_ s8 ⟨σ8,H8,I8,wk,q8⟩=>?_;have back:∀{H':Hp}{s':aVU}{m':Nat}{ys':List V},Inv (aT X scope (aE++tgN) cl s3.heap.objs.size fp s3 H3) ([]++iF fp s7.heap) σ8 H' s'->m'<n->W (i+1) m' ys' H' ->
        ∃m,m<n/\∃i ys H',Inv (aT X scope (aE++tgN) cl s3.heap.objs.size fp s3 H3) [] σ0 H' s'/\tn i s'.heap/\(∀b∈fp,H' b=none)/\W i m ys H':=λ{H' s' m' ys'} I' hm w'=>by
      have pinned:∀b∈fp,∀o,s7.heap.get? b=some o->s'.heap.get? b=some o/\H' b=none:=λb hb o e=>by have:=I'.pin (b,o) (aQG _ (aQG _ (kQ hb e)));exact⟨this.1,this.2.1⟩
      refine⟨m',hm,i+1,ys',H',I'.unpinned.weak wk.1 wk.2,T.keep _ _ _ st7 λb hb o e=>(pinned b hb o e).1,λb hb=>?_,w'⟩;obtain⟨o,e,_⟩:=T.obj _ _ st7 b hb;exact(pinned b hb o e).2
    refine thn (hf cl s3.heap.objs.size fp s3 H3 _ s8 σ8 H8 _ I8 q8) λb s9 ⟨H9,I9,q9⟩=>?_;cases b with
    |false=>rw[if_neg aQL]at q9 ⊢;obtain⟨m',hm,w9⟩:=q9;exact back I9 hm w9
    |true =>
     rw[if_pos rfl]at q9 ⊢;refine thn (he cl s3.heap.objs.size fp s3 H3 _ s9 σ8 H9 _ I9 q9) λy s10 ⟨yv,H10,I10,r10,hD10,m',hm,w10⟩=>?_;refine thn (pX (X:=aT X scope (aE++tgN) cl s3.heap.objs.size fp s3 H3) _ s10 σ8 H10 (.ref s2.heap.objs.size) [yv] (.ref s2.heap.objs.size) [y] (λv H'=>v=.non/\H'=upd H10 s2.heap.objs.size (.lst (ys++[yv]))) I10 rfl (.cons r10 .nil)
      ⟨s2.heap.objs.size,ys,yv,rfl,rfl,hD10,hlen,rfl,rfl⟩) λ_ s11 ⟨v,H11,I11,_,_,e11⟩=>?_
     subst e11;exact back I11 hm w10
 exact codeAny_compStart_list gY (T.self _ 0 _ _ _ (T.keep _ _ _ st2 (λb hb o e=>keep34 b o (keep23 b o e))) gY)
def aFZ(hc:X.calm=true)(hi:PI X tg aF wi)(bT:∀y∈scope.names,y.2 ≠ .cell)(bX:scope.kind=.function)(dL:∀y∈scope.names,y.2=.local->scope.names.lookup y.1=some .local)(bZ:∀y∈scope.names,y.2=.free->X.env.kindOf y.1=some .cell\/X.env.kindOf y.1=some .free)(cL:aE.map some=aB.map λi=>X.N[i]?)(dO:∀y∈aE,(y,NameKind.free)∈scope.names)(dM:∀y∈aE,(relabel scope X.env).names.lookup y=some .cell\/(relabel scope X.env).names.lookup y=some .free)(hg:∀cl C fp s3 H3,PG (aT X scope (aE++tgN) cl C fp s3 H3) tg gt)(hf:∀cl C fp s3 H3,dA (aT X scope (aE++tgN) cl C fp s3 H3) ifs tt)(he:∀cl C fp s3 H3,PE (aT X scope (aE++tgN) cl C fp s3 H3) elt te)(hs:∀x,foldedSetIterable aF X.env x=pure x:=by intro _;rfl):PE X (.ListComp elt [⟨tg,aF,ifs,0⟩] scope pos) (k6 aB tgN.length wi gt tt te):=by intro aA s σ H Q I h;rw[eval_ListComp];exact vO (use:=none) hc hi bT bX dL bZ cL dO dM hg hf he hs I h λD Z s6 H5 hm hI _ _ _ _ _ q=>by obtain⟨m,hm⟩:=hm;exact⟨m,hm,λh'' hs=>⟨.ref D,H5,hI h'' hs,rfl,q⟩⟩
def Inv.dropped{σ:St}{h'':Heap}{Z:Addr}(I:Inv X aA σ H s)(hs:Heap.SameBut Z s.heap h'')(hz:H Z=none)(h0:X.s₀.heap.objs.size<=Z)(h1:Z≠X.env.locals)(h2:∀x c,X.env.cells.lookup x=some c->c≠Z)(h3:∀p∈X.pn++aA,p.1≠Z):Inv X aA σ H {s with heap:=h''}:=by
 have un:Un (frs X.stack) [Z] H H s.heap h'':=by
  have k:∀b o,s.heap.get? b=some o->b∉[Z]->h''.get? b=some o:=λb o e hb=>hs.extBut b o (λz=>hb (by rw[z];exact mcs)) e
  exact⟨λb o e _ _ hx=>k b o e hx,λb o e _ _ hx=>⟨o.slots,k b o e hx⟩,λ_ _ _ n _=>n,λb o e hx=>⟨o,k b o e hx⟩,λ_ _ q=>q,λ_ _ _ q=>q,λ_ ps q=>⟨#[],by simpa using q⟩⟩
 have hok:HOk X.prog X.w H h'':=λa o e=>(I.hok a o e).stay (λb v hb q=>hs.extBut b v (by
  rintro rfl;rcases hb with hb|hb
  . rw[hb,e]at hz;cases hz
  . rw[hz]at hb;cases hb) q) (λ_ q=>q) λ_ _ q=>q
 obtain⟨hh,g,d,t,o⟩:=s;exact I.call (g':=g) (d':=d) (t':=t) (ch:=[Z]) un hok I.bare λb hb=>by
  obtain rfl:b=Z:=by simpa using hb
  exact⟨.inr h0,h1,h2,h3⟩
def aF0(hc:X.calm=true)(hi:PI X tg aF wi)(bT:∀y∈scope.names,y.2 ≠ .cell)(bX:scope.kind=.function)(dL:∀y∈scope.names,y.2=.local->scope.names.lookup y.1=some .local)(bZ:∀y∈scope.names,y.2=.free->X.env.kindOf y.1=some .cell\/X.env.kindOf y.1=some .free)(cL:aE.map some=aB.map λi=>X.N[i]?)(dO:∀y∈aE,(y,NameKind.free)∈scope.names)(dM:∀y∈aE,(relabel scope X.env).names.lookup y=some .cell\/(relabel scope X.env).names.lookup y=some .free)(hg:∀cl C fp s3 H3,PG (aT X scope (aE++tgN) cl C fp s3 H3) tg gt)(hf:∀cl C fp s3 H3,dA (aT X scope (aE++tgN) cl C fp s3 H3) ifs tt)(he:∀cl C fp s3 H3,PE (aT X scope (aE++tgN) cl C fp s3 H3) elt te)(hN:X.N.Nodup)(hx:X.N[i]? = some x)(hk:X.env.scope.names.lookup x=some .local)(hsw:swapsWith (.ListComp elt [⟨tg,aF,ifs,0⟩] scope pos) (some (.Name x pos')) spos.line X.env=pure true)(hs:∀x,foldedSetIterable aF X.env x=pure x:=by intro _;rfl):PS X (.Assign [.Name x pos'] (.ListComp elt [⟨tg,aF,ifs,0⟩] scope pos) spos) (jD (k6 aB tgN.length wi gt tt te) (jC i)):=by
 intro aA s σ H En I h;rw[exec_Assign_Name_used _ _ _ _ hsw];refine aQA (aSQ (aQA ?_));show wpAny _ X.A (comprehension (.ListComp elt [⟨tg,aF,ifs,0⟩] scope pos) scope X.env (firstIterPos [⟨tg,aF,ifs,0⟩] pos) (newList []) (firstAsync [⟨tg,aF,ifs,0⟩]) (firstIter [⟨tg,aF,ifs,0⟩] X.env) (some (assign (.Name x pos') X.env))>>=_) _ _ s;refine aQA (vO (use:=some (assign (.Name x pos') X.env)) hc hi bT bX dL bZ cL dO dM hg hf he hs I h λD Z s6 H5 hm hI hz h0 h1 h2 h3 q=>?_);obtain⟨m,hm⟩:=hm;have I6:=hI s6.heap (aSU _ _);refine aP8 (pO I6 hN hx (.inl hk) (show aJ (.ref D) (.ref D)from rfl) (λs' I' hch=>?_) (.inr hk))
 obtain⟨a,sb,ha⟩:=hch;have na:Z≠a:=by
  rcases ha with rfl|ha
  . exact h1
  . exact λz=>h2 x a ha z.symm
 exact⟨m,hm.sameBut sb na,λh'' hs2=>aP9 (aP9 ⟨_,H5,I'.dropped hs2 hz h0 h1 h2 h3,q⟩)⟩
end L2
namespace D3
noncomputable def bM(aB:List Nat)(ρ:Rho):Rho:=aB.map λi=>match ρ[i]? with|some (some (false,d))=>some (false,d)|_=>none
noncomputable def cO(k:D->Rho->Option Rho)(t e:Rho->Res)(ρ0:Rho):List D->Option (List D)
 |[]=>some []
 |d::ds=>match k d ρ0 with
  |none=>none
  |some ρ1=>match t ρ1 with
   |.ok _ (.bl true)=>(match aZ (e ρ1)with|.ok _ y=>(cO k t e ρ0 ds).map (y :: ·)|_=>none)
   |.ok _ (.bl false)=>cO k t e ρ0 ds
   |_=>none
def dB(src:Res)(ρ:Rho)(aB:List Nat)(n:Nat)(k:D->Rho->Option Rho)(t e:Rho->Res):Res:=src.thn λ_ d=>match d with
 |.lst ds=>if ds.length<sizeLine then(match cO k t e (bM aB ρ++List.replicate n none) ds with|some ys=>.ok .fr (.lst ys)|none=>.stuck)else .stuck
 |_=>.stuck
noncomputable abbrev Cw.nox(C:Cw):Cw:={C with EE:=λ_ _ _=>False}
theorem aI.upd{F:Hp}{x:Addr}{o:HO}(st:aI F H F' H')(hx:H x=none)(hx':F' x=none):aI F H F' (L2.upd H' x o) :=
 ⟨λb u q=>by rw[aP (b0 q hx)];exact st.same b u q,st.fsame,λb u q=>by rw[aP (b0 q hx')];exact st.sub b u q,st.new⟩
section
variable  {p:Pos}
def aF1:dA X [] (tT (C.at X) λ_=>.ok .fz (.bl true)):=λaA s σ H Q I h=>by obtain⟨ρ,F,R,w⟩:=h;exact aFW aA s σ H Q I (w F H (.refl R.sub))
def aF2{cs:List Expr}(hc:PTv C X c ga)(hr:dA X cs (tT (C.at X) gb)):dA X (c::cs) (tT (C.at X) λρ=>fA (ga ρ) (gb ρ)):=λaA s σ H Q I h =>
 aFX hc hr aA s σ H Q I (vE h)
def vP{K:Fg}{F:Hp}(aB:List Nat)(n:Nat)(R:aS K F0 H0 F H σ ρ):aS K F0 H0 F H (bJ aB σ++List.replicate n none) (bM aB ρ++List.replicate n none):=by
 have low:∀(i:Nat) (m:Bool) (d:D),(bM aB ρ++List.replicate n none)[i]? = some (some (m,d))->m=false/\∃v,(bJ aB σ++List.replicate n none)[i]? = some (some v)/\aC K F d v:=λi m d e=>by
  by_cases hi:i<aB.length
  . rw[aQY (by simpa[bM]using hi)]at e
    rw[aQY (by simpa[bJ]using hi)]
    unfold bM at e;unfold bJ;rw[aQZ,aSK hi]at e ⊢;simp only[aSI,aST]at e;cases z:ρ[aB[i]]? with
    |none=>rw[z]at e;cases e
    |some o =>
     rw[z]at e;cases o with
     |none=>cases e
     |some q =>
      obtain⟨b,d'⟩:=q;cases b with
      |true=>cases e
      |false=>cases e;obtain⟨v,e1,r,_⟩:=R.slot _ _ _ z;exact⟨rfl,v,by simp[e1],r⟩
  . rw[aQW (by simpa[bM]using hi),aQX]at e
    split at e <;> cases e
 refine⟨R.st,λi m d e=>?_,λi j d d' a _ e1 _ _ _=>?_,by simp[bJ,bM]⟩
 . obtain⟨rfl,v,e1,r⟩:=low i m d e;exact⟨v,e1,r,by nofun⟩
 . have:=(low i true d e1).1;cases this
end
mutual
noncomputable def bB:D->Option PyData
 |.non=>some .none
 |.bl b=>some (.bool b)
 |.int i=>some (.int i)
 |.str x=>some (.str x)
 |.tup ds=>(eQ ds).map .tuple
 |.lst ds=>(eQ ds).map .list
 |_=>none
noncomputable def eQ:List D->Option (List PyData)
 |[]=>some []
 |d::ds=>match bB d,eQ ds with
  |some p,some ps=>some (p::ps)
  |_,_=>none
end
section
variable  {F:Hp}
mutual
theorem vQ(I:Inv X aA σ H s)(sF:aG F H):∀(d:D) (p:PyData) (v:V) (u:aVT),aC X.K F d v->aJ v u->bB d=some p->(∃as,Reads s.heap u p as)/\p.canLay0=true
 |.non,p,v,u,h,r,e=>by simp only[aC]at h;subst h;cases r;simp only[bB]at e;cases e;exact⟨⟨_,.none⟩,rfl⟩
 |.bl b,p,v,u,h,r,e=>by simp only[aC]at h;subst h;cases r;simp only[bB]at e;cases e;exact⟨⟨_,.bool b⟩,rfl⟩
 |.int i,p,v,u,h,r,e=>by simp only[aC]at h;subst h;obtain⟨t,rfl⟩:=r;simp only[bB]at e;cases e;exact⟨⟨_,.int i t⟩,rfl⟩
 |.str x,p,v,u,h,r,e=>by simp only[aC]at h;obtain⟨rfl,_,hk⟩:=h;obtain⟨t,rfl⟩:=r;simp only[bB]at e;cases e;exact⟨⟨_,.str x t⟩,by simpa only [PyData.canLay0]using hk⟩
 |.tup ds,p,v,u,h,r,e=>by
  simp only[aC]at h;obtain⟨a,xs,rfl,q,rl⟩:=h;cases r;simp only[bB]at e;cases ep:eQ ds with
  |none=>rw[ep]at e;cases e
  |some ps=>rw[ep]at e;cases e;obtain⟨its,rv,⟨o,h1,h2,n,h3⟩,_⟩:=I.tuple (aG.seqT sF q);obtain⟨⟨as,ra⟩,hc⟩:=nT I sF ds ps xs its rl rv ep;exact⟨⟨_,.tuple h1 h2 h3 (by simpa using ra)⟩,by simpa only [PyData.canLay0]using hc⟩
 |.lst ds,p,v,u,h,r,e=>by
  simp only[aC]at h;obtain⟨a,xs,rfl,q,rl⟩:=h;cases r;simp only[bB]at e;cases ep:eQ ds with
  |none=>rw[ep]at e;cases e
  |some ps=>rw[ep]at e;cases e;obtain⟨its,rv,⟨o,n,h1,h2,_,h3⟩,_⟩:=I.list (sF.seq q);obtain⟨⟨as,ra⟩,hc⟩:=nT I sF ds ps xs its rl rv ep;exact⟨⟨_,.list h1 h2 h3 (by simpa using ra)⟩,by simpa only [PyData.canLay0]using hc⟩
 |.dct _,p,v,u,h,r,e=>by simp only[bB]at e;cases e
 |.ty _,p,v,u,h,r,e=>by simp only[bB]at e;cases e
 |.ob _,p,v,u,h,r,e=>by simp only[bB]at e;cases e
 |.ins _ _,p,v,u,h,r,e=>by simp only[bB]at e;cases e
 |.fn _,p,v,u,h,r,e=>by simp only[bB]at e;cases e
 |.exn _,p,v,u,h,r,e=>by simp only[bB]at e;cases e
 |.set _,p,v,u,h,r,e=>by simp only[bB]at e;cases e
 |.dtn _,p,v,u,h,r,e=>by simp only[bB]at e;cases e
 |.dtf _,p,v,u,h,r,e=>by simp only[bB]at e;cases e
theorem nT(I:Inv X aA σ H s)(sF:aG F H):∀(ds:List D) (ps:List PyData) (xs:List V) (us:List aVT),aD X.K F ds xs->aL xs us->eQ ds=some ps->(∃as,ReadsAll s.heap us ps as)/\PyData.canLayAll0 ps=true
 |[],ps,xs,us,h,r,e=>by simp only[aD]at h;subst h;cases r;simp only[eQ]at e;cases e;exact⟨⟨_,.nil⟩,rfl⟩
 |d::ds,ps,xs,us,h,r,e=>by
  simp only[aD]at h;obtain⟨y,ys,rfl,hd,hl⟩:=h;cases r with
  |cons r1 r2 =>
   simp only[eQ]at e;cases e1:bB d with
   |none=>rw[e1]at e;cases e
   |some p =>
    cases e2:eQ ds with
    |none=>rw[e1,e2]at e;cases e
    |some ps'=>rw[e1,e2]at e;cases e;obtain⟨⟨as,ra⟩,hc⟩:=vQ I sF d p y _ hd r1 e1;obtain⟨⟨bs,rb⟩,hc'⟩:=nT I sF ds ps' ys _ hl r2 e2;exact⟨⟨_,.cons ra rb⟩,by simp only[PyData.canLayAll0,hc,hc',Bool.and_self]⟩
end
def vR(I:Inv X aA σ H s)(sF:aG F H){m:Md}{d:D}{p:PyData}(h:Rp X.K F H m d v)(r:aJ v u)(e:bB d=some p):(∃as,Reads s.heap u p as)/\p.canLay0=true:=by
 cases m with
 |fz=>exact vQ I sF d p v u h r e
 |_ =>
  obtain⟨a,rfl,n,t⟩:=h;cases d with
  |lst ds =>
   obtain⟨xs,q,rl⟩:=t;cases r;simp only[bB]at e;cases ep:eQ ds with
   |none=>rw[ep]at e;cases e
   |some ps=>rw[ep]at e;cases e;obtain⟨its,rv,⟨o,n,h1,h2,_,h3⟩,_⟩:=I.list (SqL.of q);obtain⟨⟨as,ra⟩,hc⟩:=nT I sF ds ps xs its rl rv ep;exact⟨⟨_,.list h1 h2 h3 (by simpa using ra)⟩,by simpa only [PyData.canLay0]using hc⟩
  |dct ds=>simp only[bB]at e;cases e
  |ins _ _=>simp only[bB]at e;cases e
  |set _=>simp only[bB]at e;cases e
  |dtn _=>simp only[bB]at e;cases e
  |dtf _=>simp only[bB]at e;cases e
  |_=>exact t.elim
end
noncomputable def k7(p:PyData):Bool:=decide (p.depth<=50)
noncomputable def eqF(neg:Bool):Md->D->Md->D->Option (Md×D):=λ_ x _ y=>match bB x,bB y with
 |some p,some q=>if(k7 p&&k7 q)=true then some (.fz,.bl (if neg then !PyData.eqv p q else PyData.eqv p q))else none
 |_,_=>none
theorem vS{f:aVT->aVT->Sem aVT}(hu:X.A.units+64<cLine)(rule:∀(s:aVU) (a b:aVT) (da db:PyData) (as bs:List Addr) (Q:VSP),Reads s.heap a da as->Reads s.heap b db bs->da.canLay0=true->db.canLay0=true->X.A.units+min da.depth db.depth<cLine->Q (.bool (if neg then !PyData.eqv da db else PyData.eqv da db)) s->wpAny (model X.prog X.w) X.A (f a b) Q X.xe s):OpD C X f (eqF neg):=by
 refine⟨λx y H Q=>∃F m n d e p q,aG F H/\Rp X.K F H m d x/\Rp X.K F H n e y/\bB d=some p/\bB e=some q/\(k7 p&&k7 q)=true/\Q (.bl (if neg then !PyData.eqv p q else PyData.eqv p q)) H,?_,?_⟩
 . intro aA s σ H x y v u Q I rx ry h;obtain⟨F,m,n,d,e,p,q,sF,hd,he,ep,eq,hs,hQ⟩:=h;obtain⟨⟨as,ra⟩,ca⟩:=vR I sF hd rx ep;obtain⟨⟨bs,rb⟩,cb⟩:=vR I sF he ry eq;rw[aRJ]at hs;have h1:=aR9 hs.1;refine rule s v u p q as bs _ ra rb ca cb (by have:=aR2 p.depth q.depth;lia) ⟨.bl _,H,I,rfl,hQ⟩
 . intro F H m x n y v u k d Q s rx ry e w;unfold eqF at e;split at e
   . rename_i p q ep eq;split at e
     . rename_i hc;cases e;exact⟨F,m,n,x,y,p,q,s,rx,ry,ep,eq,hc,w _ F H (.refl s) (eC _) (by nofun)⟩
     . cases e
   . cases e
def aF3(hu:X.A.units+64<cLine):OpD C X (compareOp .Eq) (eqF false):=vS hu λs a b da db as bs Q ra rb ca cb hd q=>SeqAt.compareEq_reads ra rb ca cb hd q
def aF4(hu:X.A.units+64<cLine):OpD C X (compareOp .NotEq) (eqF true):=vS hu λs a b da db as bs Q ra rb ca cb hd q=>SeqAt.compareNe_reads ra rb ca cb hd q
section
variable  {o:Expr}{es:List Expr}{go:Rho->Res}{T id:String}{name:Str}
noncomputable def vT:List D->Option (List Str)
 |[]=>some []
 |.str x::r=>(vT r).map (x :: ·)
 |_=>none
noncomputable def joinD:Md->D->List (Md×D)->Option (Md×D):=λ_ x xs=>match x,xs with
 |.str z,[(_,.lst ds)]=>(match vT ds with
  |some ys=>if(ys.map (·.length)).sum+ys.length * z.length<=sizeLine then some (.fz,.str (Txt.join z ys))else none
  |none=>none)
 |_,_=>none
theorem vU:∀{ys:List Str}{us:List aVT},aL (ys.map V.str) us->StrsAre us ys
 |[],_,h=>by cases h;exact .nil
 |y::ys,_,h=>by
  cases h with
  |cons r t=>obtain⟨tk,rfl⟩:=r;exact .cons y tk (vU t)
end
def spV(K:Fg)(mg:SOV)(n:Nat)(Φ:List D->Res):Sp:=λvs H Q E=>vs.length=n/\∃F ds,aG F H/\aD K F ds vs/\match Φ ds with
 |.ok m d=>m ≠ .bo/\∀v F' H',aI F H F' H'->Rp K F' H' m d v->(m=.fr->∀a,v=.ref a->H a=none)->Q v H'
 |.exc c=>∀F' H' u,aI F H F' H'->mg c=some u->E u none H'
 |.stuck=>False
structure FnV(P:aVX)(w:aVW)(K:Fg)(mg:SOV)(base:Heap)(CX:CXT)(k:Nat)(x:Str)(n:Nat)(Φ:List D->Res):Prop where
 ex:∃f fd ps,cU P w K mg base CX k f fd ps (spV K mg n Φ)/\mg x=some (.ref f)/\W.keepIn K (.ref f)=true/\fP K fd ps []
noncomputable def a6(n:Nat)(Φ:List D->Res)(r:bI):Res:=r.thn λxs=>match cW xs with
 |some ds=>if ds.length=n then(match Φ ds with|.ok .bo _=>.stuck|r=>r)else .stuck
 |none=>.stuck
def XOk(CX:CXT)(C:Cw)(X:Cx):Prop:=∀(aA:LAO) (σ:L2.St) (H:Hp) (s:aVU) (e:aVT) (s':aVU),Inv X aA σ H s->CX X.stack H s (λu _ H'=>∃c,X.mg c=some u/\C.EE c σ H') e s'->X.xe e s'
section
variable {es:List Expr}{p:Pos}
def vV{f:Addr}{Q:VK}{vs:List V}{E:XK}(F:cU X.prog X.w X.K X.mg X.base CX k f fd ps (spV X.K X.mg n Φ))(hr:cM k X.A)(hb:fP X.K fd ps [])(hx:∀e s',CX X.stack H s E e s'->X.xe e s')(I:Inv X aA σ H s)(r:aL vs us)(h:spV X.K X.mg n Φ vs H Q E):wpAny (model X.prog X.w) X.A (call (.ref f) us) (EP X aA σ Q) X.xe s:=by
 have hl:(us++[]).length=ps.length:=by rw[aQR,<- r.length];exact F.len _ _ _ _ h
 have hb':=hb s us I.kIn hl;rw[aQR]at hb';refine wpAny_call (aRT (F.run X.A X.stack s H ⟨us,[]⟩ us vs Q E hr I.env0 hb' r h) λr s' hq=>?_);cases r with
 |error e=>exact hx e s' hq
 |ok fl =>
  cases fl with
  |ret u=>exact I.after hq
  |next=>exact False.elim hq
  |brk=>exact False.elim hq
  |cont=>exact False.elim hq
def aF5(F:FnV X.prog X.w X.K X.mg X.base CX k x n Φ)(hr:cM k X.A)(hx:XOk CX (C.at X) X)(hg:Gl X x)(ha:PAv C X (e::es) gs)(hdb:(x==("__debug__":Str))=false:=by decide)(he:starEach (e::es) X.env=(false,eval e X.env)::starEach es X.env:=by rfl)(hpl:(backTo pos (starEach es X.env)).any (·.1)=false:=by rfl):PV C X (.Call (.Name x p) (e::es) [] pos) (λρ=>a6 n Φ (gs ρ)):=by
 obtain⟨f,fd,ps,FF,hm,hk,hb⟩:=F.ex;intro aA s σ H Q I h;rw[aX]at h;obtain⟨ρ,F,R,w⟩:=h;refine aQ3 (pP I hg hm ?_ hdb);refine W.callWith_K (h₀:=X.base) I.ok.mod.kin hk (thn (ha pos aA s σ H (λvs H1=>spV X.K X.mg n Φ vs H1 Q λu _ H'=>∃c,X.mg c=some u/\C.EE c σ H') I ?_) λus s1 ⟨vs,H1,I1,r,q⟩=>⟨I1.kIn,vV FF hr hb (λe s' hc=>hx aA σ H1 s1 e s' I1 hc) I1 r q⟩) he hpl;refine⟨ρ,F,R,?_⟩;cases er:gs ρ with
 |stuck=>rw[er]at w;exact w
 |exc c=>rw[er]at w;exact w
 |ok xs =>
  rw[er]at w;intro vs F1 H1 s1 r1;have w1:aY (C.at X) F1 H1 σ (a6 n Φ (.ok xs)) Q:=aY.step s1 w;unfold a6 at w1;rw[bI.thn_ok]at w1;cases ef:cW xs with
  |none=>rw[ef]at w1;exact w1.elim
  |some ds =>
   rw[ef]at w1;dsimp only at w1;split at w1
   . rename_i hn;have rl:=r1.fz ef;refine⟨by rw[rl.length];exact hn,F1,ds,s1.sub,rl,?_⟩
     cases ep:Φ ds with
     |stuck=>rw[ep]at w1;exact w1
     |exc c=>rw[ep]at w1;exact λF' H' u st hu=>⟨c,hu,w1 F' H' st⟩
     |ok m d =>
      rw[ep]at w1;cases m with
      |bo=>exact w1.elim
      |fz=>exact⟨by decide,w1⟩
      |fr=>exact⟨by decide,w1⟩
   . exact w1.elim
end
noncomputable def endR:aH->Res
 |.nx _=>.ok .fz .non
 |.rt m d=>.ok m d
 |.exc c _=>.exc c
 |_=>.stuck
noncomputable def g9(n:Nat)(ds:List D):Rho:=ds.map (λd=>some (false,d))++List.replicate (n-ds.length) none
def aF6{K:Fg}{F:Hp}{N:List Str}{vs:List V}(s:aG F H)(r:aD K F ds vs):aS K F H F H (cN N vs) (g9 N.length ds):=by
 have low:∀(i:Nat) (m:Bool) (d:D),(g9 N.length ds)[i]? = some (some (m,d))->m=false/\∃v,(cN N vs)[i]? = some (some v)/\aC K F d v:=λi m d e=>by
  unfold g9 at e;unfold L2.cN;by_cases hi:i<ds.length
  . rw[aQY (by simpa using hi),aQZ,aSK hi]at e
    cases e;obtain⟨v,ev,rv⟩:=r.get' (aSK hi);exact⟨rfl,v,by rw[aQY (by simpa[r.length]using hi),aQZ,ev];rfl,rv⟩
  . rw[aQW (by simpa using hi),aQX]at e
    split at e <;> cases e
 refine⟨.refl s,λi m d e=>?_,λi j d d' a _ e1 _ _ _=>?_,by simp[L2.cN,g9,r.length]⟩
 . obtain⟨rfl,v,e1,rv⟩:=low i m d e;exact⟨v,e1,rv,by nofun⟩
 . have:=(low i true d e1).1;cases this
noncomputable def nU(ns:List Int):List D:=[.lst (ns.map .int)]
theorem vW{K:Fg}{F:Hp}:∀ns:List Int,aD K F (ns.map D.int) (ns.map V.int)
 |[]=>aD.nil
 |n::ns=>aD.cons (by simp only[aC]) (vW ns)
noncomputable def noK:Md->D->Md->D->Option (Md×D):=λ_ _ _ _=>none
abbrev fAdd:Md->D->Md->D->Option (Md×D):=orO (fI (λ_ _=>true) λi j=>.int (i+j)) (fS (λi j=>decide (i.length+j.length<=sizeLine)) λi j=>.str (i++j))
abbrev fSub:Md->D->Md->D->Option (Md×D):=fI (λ_ _=>true) λi j=>.int (i-j)
abbrev fMul:Md->D->Md->D->Option (Md×D):=orO (fI (λi j=>(bits i&&bits j)||(w64 i||w64 j)) λi j=>.int (i * j)) noK
abbrev fMod:Md->D->Md->D->Option (Md×D):=fI (λ_ j=>decide (0<j)) λi j=>.int (i % j)
abbrev fDiv:Md->D->Md->D->Option (Md×D):=fI (λ_ j=>decide (0<j)&&bits j) λi j=>.int (i / j)
abbrev fPow:Md->D->Md->D->Option (Md×D):=fI (λi j=>decide (0<=j)&&decide (j<=1000000)&&decide (i.natAbs<2 ^ 64)) λi j=>.int (i ^ j.toNat)
abbrev fLt:Md->D->Md->D->Option (Md×D):=fI (λ_ _=>true) λi j=>.bl (decide (i<j))
abbrev fLe:Md->D->Md->D->Option (Md×D):=fI (λ_ _=>true) λi j=>.bl (decide (i<=j))
abbrev fGt:Md->D->Md->D->Option (Md×D):=fI (λ_ _=>true) λi j=>.bl (decide (j<i))
abbrev fGe:Md->D->Md->D->Option (Md×D):=fI (λ_ _=>true) λi j=>.bl (decide (j<=i))
abbrev fEq:Md->D->Md->D->Option (Md×D):=orO (eqF false) noK
abbrev fNe:Md->D->Md->D->Option (Md×D):=orO (eqF true) noK
abbrev fIn:Md->D->Md->D->Option (Md×D):=fS (λ_ _=>true) λi j=>.bl (jJ i j)
abbrev aF7:Md->D->Md->D->Option (Md×D):=fS (λ_ _=>true) λi j=>.bl (!jJ i j)
def IsB(φ:Md->D->Md->D->Option (Md×D)):Prop:=∀m x n y k d,φ m x n y=some (k,d)->∃t,k=.fz/\d=.bl t
def nV{c:Int->Int->Bool}{g:Int->Int->Bool}:IsB (fI c λi j=>.bl (g i j)):=λm x n y k d e=>by
 unfold fI at e;split at e
 . split at e
   . cases e;exact⟨_,rfl,rfl⟩
   . cases e
 . cases e
def vX{c:Str->Str->Bool}{g:Str->Str->Bool}:IsB (fS c λi j=>.bl (g i j)):=λm x n y k d e=>by
 unfold fS at e;split at e
 . split at e
   . cases e;exact⟨_,rfl,rfl⟩
   . cases e
 . cases e
def lA{φ ψ}(h:IsB φ)(h':IsB ψ):IsB (orO φ ψ):=λm x n y k d e=>by
 unfold orO at e;cases e1:φ m x n y with
 |none=>rw[e1]at e;exact h' _ _ _ _ _ _ e
 |some p=>rw[e1]at e;cases e;exact h _ _ _ _ _ _ e1
def vY:IsB (eqF neg):=λm x n y k d e=>by
 unfold eqF at e;split at e
 . split at e
   . cases e;exact⟨_,rfl,rfl⟩
   . cases e
 . cases e
def iM{f:aVT->aVT->Sem aVT}:OpD C X f noK:=⟨λ_ _ _ _=>False,λ_ _ _ _ _ _ _ _ _ _ _ _ h=>h.elim,λ_ _ _ _ _ _ _ _ _ _ _ _ _ _ e _=>by cases e⟩
def o_add:OpD C X (binaryOp .Add) fAdd:=aEH.or aEU
def o_mul:OpD C X (binaryOp .Mult) fMul:=aEK.or iM
def o_eq(hu:X.A.units+64<cLine):OpD C X (compareOp .Eq) fEq:=(aF3 hu).or iM
def o_ne(hu:X.A.units+64<cLine):OpD C X (compareOp .NotEq) fNe:=(aF4 hu).or iM
noncomputable def phi(n N:Nat)(g:Rho->aH):List D->Res:=λds=>if ds.length=n then endR (g (g9 N ds))else .stuck
noncomputable def jO(scope sc:Scope):List (Str×NameKind):=scope.names.map λ(n,k)=>if(k == .free&&sc.kind == .function&&sc.names.lookup n==some .cell)then(n,.cell)else(n,k)
def aF8:bootBuiltins "len" = some (.builtin "len"):=by decide +kernel
def aF9:bootBuiltins "isinstance" = some (.builtin "isinstance"):=by decide +kernel
def aGA:bootBuiltins "int" = some (.type "int"):=by decide +kernel
def aGB:bootBuiltins "bool" = some (.type "bool"):=by decide +kernel
def aGC:bootBuiltins "str" = some (.type "str"):=by decide +kernel
def aGD:bootBuiltins "tuple" = some (.type "tuple"):=by decide +kernel
def aGE:bootBuiltins "list" = some (.type "list"):=by decide +kernel
def aGF:bootBuiltins "dict" = some (.type "dict"):=by decide +kernel
structure CI where
 name:Str
 ups:List Str
 flds:List Str
 meths:List (Str×Str×Nat)
noncomputable def cP:Expr->Bool|.Starred ..=>false|_=>true
end D3
variable {cl:List D3.CI}
namespace D3
noncomputable def lB:Expr->Bool|.Call (.Name x _) [] [] _=>x != "super" |_=>true
def cX{x:Expr}{es:List Expr}(h:cP x=true):starEach (x::es) env=(false,eval x env)::starEach es env:=by cases x <;> first|rfl|cases h
theorem lC(pos:Pos)(env:Env):∀{es:List Expr},(∀x∈es,cP x=true)->(backTo pos (starEach es env)).any (·.1)=false
 |[],_=>rfl
 |x::es,h=>by rw[cX (h x mcs)];show((false||(backTo pos (starEach es env)).any (·.1))=false);rw[lC pos env λy hy=>h y (mcm hy)];rfl
theorem nW(pos:Pos)(env:Env):∀{es:List Expr},(∀x∈es,cP x=true)->(backTo pos (starEach es env)).all (λx=>!x.1)=true
 |[],_=>rfl
 |x::es,h=>by rw[cX (h x mcs)];show((true&&(backTo pos (starEach es env)).all (λx=>!x.1))=true);rw[nW pos env λy hy=>h y (mcm hy)];rfl
def qD{o:Expr}{n:Str}{w:Sem aVT}(h:lB o=true):attributeBase o n env w=w:=by
 cases o with
 |Call f as ks pos =>
  cases f with
  |Name x p =>
   cases as with
   |nil =>
    cases ks with
    |nil=>show(if x != "super" || n == "__class__" || env.kindOf "super" != some .globalImplicit||env.kindOf "__class__" != some .free then w else _)=w;have:(x != ("super":Str))=true:=h;rw[if_pos (by rw[this];rfl)]
    |cons _ _=>rfl
   |cons _ _=>rfl
  |_=>rfl
 |_=>rfl
theorem aGG {o : Expr} {m : Str} {apos pos : Pos} {args : List Expr} {env : Env} (hb : lB o = true) (hst : ∀ x ∈ args, cP x = true) (hn : args.length < 30) (hl : apos.endLine = pos.line) :
    eval (.Call (.Attribute o m apos) args [] pos) env=(do
     let ov <- eval o env
     standAt apos.atName
     let(f,first) <- holding [ov] (getMethod ov m (do return (<- importBound o env).getD true))
     callWith pos f first (backTo pos (starEach args env)) (backToKw pos (keywordEach [] env))):=by
 have few:methodCallForm (args.length+([]:List Keyword).length) (backTo pos (starEach args env)) (backToKw pos (keywordEach [] env))=true:=by unfold methodCallForm;rw[nW pos env hst];show(true&&true&&decide (args.length+0+0<30))=true;rw[aRS (by lia)];rfl
 show(do
  let ov <- attributeBase o m env (eval o env)
  standAt apos.atName
  methodCall o m apos pos env ov (args.length+([]:List Keyword).length) (backTo pos (starEach args env)) (backToKw pos (keywordEach [] env)))=_
 rw[qD hb];unfold methodCall;rw[few];have hp:methodCallPos true o env apos pos=pure pos:=by unfold methodCallPos;rw[if_pos (by rw[hl];simp)]
 rw[hp];show(do
  let ov <- eval o env
  standAt apos.atName
  let(f,first) <- holding [ov] (getMethod ov m (do return (<- importBound o env).getD true))
  let callPos <- pure pos
  callWith callPos f first (backTo pos (starEach args env)) (backToKw pos (keywordEach [] env)))=_
 simp only[aSO]
structure MtV(P:aVX)(w:aVW)(K:Fg)(mg:SOV)(base:Heap)(CX:CXT)(k:Nat)(c m:Str)(n:Nat)(Φ:List D->Res):Prop where
 ex:∃C f fd ps,W.nsIn K mainGlobals c=some (some (.ref C))/\Cls K C/\kR K C m f/\cU P w K mg base CX k f fd ps (spV K mg n Φ)/\fP K fd ps []
structure FlV(K:Fg)(c f:Str):Prop where
 ex:∃C,W.nsIn K mainGlobals c=some (some (.ref C))/\Cls K C/\pV K C f
noncomputable def CI.meth(cl:List CI)(c m:Str):Option (Str×Nat):=match cl.find? (λi=>i.name==c)with
 |some i=>i.meths.lookup m
 |none=>none
def cA(cl:List CI)(Φ:Str->List D->Res)(m:Str)(o:Res)(as:bI):Res:=o.thn λmd d=>match md,d with
 |.fz,.ins c fs=>(match CI.meth cl c m with
  |some (key,n)=>if fs.lookup m=none then a6 n (Φ key) (cZ (.ok .fz (.ins c fs)) as)else .stuck
  |none=>.stuck)
 |_,_=>.stuck
section
variable  {o:Expr}{es:List Expr}{go:Rho->Res}{m f:Str}{Φ:Str->List D->Res}
def aGH(hM:∀c m key n,CI.meth cl c m=some (key,n)->MtV X.prog X.w X.K X.mg X.base CX k c m n (Φ key))(hr:cM k X.A)(hx:XOk CX (C.at X) X)(ho:PV C X o go)(ha:PAv C X es gs)(hb:lB o=true)(hst:∀x∈es,cP x=true)(hn:es.length<30)(hl:apos.endLine=pos.line)(hes:es=[]->gs=λ_=>.ok []):PV C X (.Call (.Attribute o m apos) es [] pos) (λρ=>cA cl Φ m (go ρ) (gs ρ)):=by
 intro aA s σ H Q I q;rw[aX]at q;obtain⟨ρ,F,R,w⟩:=q;refine aDD (pl:=(do return (<- importBound o X.env).getD true)) ho I ?_ (aGG hb hst hn hl)
 show tG (C.at X) go σ H _;rw[aX];refine⟨ρ,F,R,?_⟩;cases er:go ρ with
 |stuck=>rw[er]at w;exact w
 |exc c=>rw[er]at w;exact w
 |ok md d =>
  rw[er]at w;intro v F1 H1 s1 r1 _;have w1:aY (C.at X) F1 H1 σ (cA cl Φ m (.ok md d) (gs ρ)) Q:=aY.step s1 w;unfold cA at w1;rw[Res.thn_ok]at w1;cases md with
  |fr=>exact w1.elim
  |bo=>exact w1.elim
  |fz =>
  cases d with
  |ins c fs =>
   dsimp only at w1;cases em:CI.meth cl c m with
   |none=>rw[em]at w1;exact w1.elim
   |some kn =>
    obtain⟨key,n⟩:=kn;rw[em]at w1;dsimp only at w1;split at w1
    . rename_i hnl;obtain⟨C',f',fd,ps,n1,cl',me,FO,hbd⟩:=(hM c m key n em).ex;have r1':=r1;obtain⟨a,C2,dx,gs',ev,n2,ea,rf⟩:=r1.ins s1.sub;rw[n1]at n2;cases n2;subst ev;refine⟨a,C',dx,gs',f',rfl,ea,cl',me,rf.lookN hnl,λs1' I1=>?_⟩;have fin:∀(vs:List V) (us:List aVT) (s2:aVU) (F2 H2:Hp) (xs:List (Md×D)),aI F1 H1 F2 H2->RpL X.K F2 H2 xs vs->Inv X aA σ H2 s2->aL vs us->gs ρ=.ok xs->wpAny (model X.prog X.w) X.A (call (.ref f') (.ref a::us)) (EP X aA σ Q) X.xe s2:=by
        intro vs us s2 F2 H2 xs s2' rl I2 rv eg;rw[eg]at w1;have w2:aY (C.at X) F2 H2 σ (a6 n (Φ key) (cZ (.ok .fz (.ins c fs)) (.ok xs))) Q:=aY.step s2' w1;rw[aFA]at w2;unfold a6 at w2;rw[bI.thn_ok]at w2;have rl2:RpL X.K F2 H2 ((.fz,.ins c fs)::xs) (.ref a::vs):=⟨_,_,rfl,r1'.step s2',rl⟩;cases ef:cW ((.fz,.ins c fs)::xs)with
        |none=>rw[ef]at w2;exact w2.elim
        |some ds =>
         rw[ef]at w2;dsimp only at w2;split at w2
         . rename_i hnn;have rl3:=rl2.fz ef;refine vV (E:=λu _ H'=>∃c,X.mg c=some u/\C.EE c σ H') (vs:=.ref a::vs) (us:=.ref a::us) FO hr hbd (λe s' hc=>hx aA σ H2 s2 e s' I2 hc) I2 (.cons rfl rv) ⟨by rw[rl3.length];exact hnn,F2,ds,s2'.sub,rl3,?_⟩
           cases ep:Φ key ds with
           |stuck=>rw[ep]at w2;exact w2
           |exc c=>rw[ep]at w2;exact λF' H' u st hu=>⟨c,hu,w2 F' H' st⟩
           |ok m d =>
            rw[ep]at w2;cases m with
            |bo=>exact w2.elim
            |fz=>exact⟨by decide,w2⟩
            |fr=>exact⟨by decide,w2⟩
         . exact w2.elim
      cases es with
      |nil =>
       refine W.callWith_K0 (first:=[.ref a]) I1.kIn me.kp ?_
       have eg:gs ρ=.ok []:=by rw[hes rfl]
       exact fin [] [] s1' F1 H1 [] (.refl s1.sub) rfl I1 .nil eg
      |cons e es =>
       refine W.callWith_K (first:=[.ref a]) (h₀:=X.base) I.ok.mod.kin me.kp (thn (ha pos aA s1' σ H1 (λvs H2=>∃F2 xs,aI F1 H1 F2 H2/\RpL X.K F2 H2 xs vs/\gs ρ=.ok xs) I1 ?_) λus s2 ⟨vs,H2,I2,r,F2,xs,st2,rl,eg⟩=>⟨I2.kIn,?_⟩) (cX (hst e mcs)) (lC _ _ λy hy=>hst y (mcm hy))
       . refine⟨ρ,F1,R.step s1,?_⟩;cases eg:gs ρ with
         |stuck=>rw[eg]at w1;exact w1
         |exc c=>rw[eg]at w1;exact w1
         |ok xs=>exact λvs F2 H2 s2 rl=>⟨F2,xs,s2,rl,rfl⟩
       . exact fin vs us s2 F2 H2 xs st2 rl I2 r eg
    . exact w1.elim
  |_=>exact w1.elim
end
def aS.mut{K:Fg}{F:Hp}{d d':D}{a:Addr}{o:HO}(R:aS K F0 H0 F H σ ρ)(e:ρ[i]? = some (some (true,d)))(ev:σ[i]? = some (some (.ref a)))(t:Top K F (upd H a o) a d'):aS K F0 H0 F (upd H a o) σ (ρ.set i (some (true,d'))):=by
 obtain⟨v,ev',rp,hn⟩:=R.slot i true d e;rw[ev]at ev';cases ev';have h0:H0 a=none:=hn rfl a rfl;obtain⟨a',ea,hf,tt⟩:=rp;cases ea;have hl:i<ρ.length:=(aP1.mp e).1;have st:aI F0 H0 F (upd H a o):=⟨λb u q=>by rw[aP (b0 q h0)];exact R.st.same b u q,R.st.fsame,λb u q=>by rw[aP (b0 q hf)];exact R.st.sub b u q,R.st.new⟩
 refine⟨st,λj m d2 e2=>?_,λj l d1 d2 b hjl e1 e2 q1 q2=>?_,by rw[aRN];exact R.len⟩
 . by_cases hj:j=i
   . subst hj;rw[aP2 hl]at e2;cases e2;exact⟨.ref a,ev,⟨a,rfl,hf,t⟩,λ_ b eb=>by cases eb;exact h0⟩
   . rw[aP3 (λz=>hj z.symm)]at e2;obtain⟨u,eu,ru,hu⟩:=R.slot j m d2 e2;refine⟨u,eu,?_,hu⟩;cases m with
     |false=>exact ru
     |true =>
      obtain⟨b,eb,hb,tb⟩:=ru;subst eb;have hba:b≠a:=λz=>by subst z;exact R.apart j i d2 d b hj e2 e eu ev
      refine⟨b,rfl,hb,?_⟩;cases d2 with
      |lst ds=>obtain⟨xs,q,r⟩:=tb;exact⟨xs,by rw[aP hba];exact q,r⟩
      |dct ds=>obtain⟨xs,q,r⟩:=tb;exact⟨xs,by rw[aP hba];exact q,r⟩
      |ins c fs=>obtain⟨C,dx,gs,n,q,r⟩:=tb;exact⟨C,dx,gs,n,by rw[aP hba];exact q,r⟩
      |set ks=>obtain⟨S,q,r⟩:=tb;exact⟨S,by rw[aP hba];exact q,r⟩
      |dtn ds=>obtain⟨xs,q,r⟩:=tb;exact⟨xs,by rw[aP hba];exact q,r⟩
      |_=>exact tb.elim
 . have back:∀(l:Nat) (d2:D),(ρ.set i (some (true,d')))[l]? = some (some (true,d2))->∃d3,ρ[l]? = some (some (true,d3)):=λl d2 q=>by
     by_cases hl':l=i
     . subst hl';exact⟨d,e⟩
     . rw[aP3 (λz=>hl' z.symm)]at q;exact⟨d2,q⟩
   obtain⟨d3,q3⟩:=back j d1 e1;obtain⟨d4,q4⟩:=back l d2 e2;exact R.apart j l d3 d4 b hjl q3 q4 q1 q2
section
variable  {p:Pos}{f:Str}
end
structure qE(K:Fg)(mg:SOV)(c:Str):Prop where
 ex:∃C,W.nsIn K mainGlobals c=some (some (.ref C))/\mg c=some (.ref C)/\W.makesIn K C=true/\W.findIn K (.ref C) "__init__" = some (some (.builtin "object.__init__"))/\W.keepIn K (.ref C)=true
def aGI{C:Addr}{p:Pos}(hm:X.mg x=some (.ref C))(h1:W.makesIn X.K C=true)(h2:W.findIn X.K (.ref C) "__init__" = some (some (.builtin "object.__init__")))(h3:W.keepIn X.K (.ref C)=true)(hg:Gl X x)(hdb:(x==("__debug__":Str))=false):PE X (.Call (.Name x p) [] [] pos) (λσ H Q=>∀a dx,H a=none->H dx=none->dx≠a->Q (.ref a) (upd (upd H dx (.own a)) a (.ins C dx []))):=by
 intro aA s σ H Q I h;refine aQ3 (pP I hg hm ?_ hdb);refine W.callWith_K0 I.kIn h3 (wpAny_call (aDA I.kIn h1 h2 (λself=>W.Looks.of_pure (W.oi_bind self)) ?_));have I2:=Inv.made (C:=C) I;have Y:=W.makes_of (M:=model X.prog X.w) I.kIn h1;have hh:((s.heap.push W.emptyDict).push (W.instObj C s.heap.objs.size)).get? (s.heap.objs.size+1)=some (W.instObj C s.heap.objs.size):=by
  have:=aPN (s.heap.push W.emptyDict) (o:=W.instObj C s.heap.objs.size) rfl
  rwa [aQN]at this
 have t1:W.Looks (model X.prog X.w) ((s.heap.push W.emptyDict).push (W.instObj C s.heap.objs.size)) (typeOf (.ref (s.heap.objs.size+1))) (.ref C):=(W.Looks.ld hh).andThen .now;have t2:W.Looks (model X.prog X.w) ((s.heap.push W.emptyDict).push (W.instObj C s.heap.objs.size)) (isInstance (.ref (s.heap.objs.size+1)) (.type "object")) true:=t1.andThen (Y.top.keeps λb o e=>hps (hps e));refine codeAny_call_builtin W.oi_plain W.entry_oi (@W.check_slot (model X.prog X.w) _ _ _ "object.__init__" "object" "__init__" (.ref (s.heap.objs.size+1)) [] [] _ W.oi_kind W.oi_split t2 (W.oi_args (.ref (s.heap.objs.size+1))) ?_);rw[W.oi_run];refine aP9 (And.intro rfl ⟨.ref (s.heap.objs.size+1),_,I2,rfl,?_⟩);exact h (s.heap.objs.size+1) s.heap.objs.size (I.hok.fresh (aSV _)) (I.hok.fresh (aQD _)) (aPR (aQO _))
def aGJ{F:Hp}{a C:Addr}(s:aG F H)(ha:H a=none)(hd:H dx=none)(hne:dx≠a):aI F H F (upd (upd H dx (.own a)) a (.ins C dx [])):=by have s1:=aI.fresh (.own a) s hd;refine s1.trans (aI.fresh _ s1.sub ?_);rw[aP (λz=>hne z.symm)];exact ha
def aGK{c:Str}{p:Pos}(M:qE X.K X.mg c)(hg:Gl X c)(hdb:(c==("__debug__":Str))=false):PV C X (.Call (.Name c p) [] [] pos) (λ_=>.ok .fr (.ins c [])):=by
 obtain⟨C',n,hm,h1,h2,h3⟩:=M.ex;refine PE.imp (aGI hm h1 h2 h3 hg hdb) λσ H Q q=>?_;rw[aX]at q;obtain⟨ρ,F,R,w⟩:=q;intro a dx ha hd hne;refine w (.ref a) F _ (aGJ R.sub ha hd hne) ⟨a,rfl,R.sub.free ha,C',dx,[],n,bE,?_⟩ λ_ b eb=>by cases eb;exact ha
 simp only[cV]
def spI(K:Fg)(mg:SOV)(c:Str)(n:Nat)(Φ:List D->Res):Sp:=λvs H Q E=>∃x us dx C H1 F ds,vs=.ref x::us/\us.length=n/\W.nsIn K mainGlobals c=some (some (.ref C)) /\
 H=upd (upd H1 dx (.own x)) x (.ins C dx [])/\H1 x=none/\H1 dx=none/\dx≠x/\aG F H1/\aD K F ds us/\match Φ ds with
 |.ok _ d=>∀F' H',aI F H1 F' H'->Rp K F' H' .fr d (.ref x)->Q .non H'
 |.exc c=>∀F' H' u,aI F H1 F' H'->mg c=some u->E u none H'
 |.stuck=>False
structure InV(P:aVX)(w:aVW)(K:Fg)(mg:SOV)(base:Heap)(CX:CXT)(k:Nat)(c:Str)(n:Nat)(Φ:List D->Res):Prop where
 ex:∃C f fd ps,W.nsIn K mainGlobals c=some (some (.ref C))/\mg c=some (.ref C)/\Mk K C f/\cU P w K mg base CX k f fd ps (spI K mg c n Φ)/\fP K fd ps []
section
variable {es:List Expr}{p:Pos}{c:Str}
end
structure IsV(K:Fg)(mg:SOV)(cl:List CI)(c:Str):Prop where
 ex:∃C,mg c=some (.ref C)/\(∀t∈["NoneType", "bool", "int", "str", "tuple", "list", "dict"],W.kitOne K (.type t) (.ref C)=some false) /\
  ∀i∈cl,∃C',W.nsIn K mainGlobals i.name=some (some (.ref C'))/\Cls K C'/\W.findIn K (.ref C') "__class__" = some (some (.builtin "object.__class__")) /\
   W.specialIn K (.builtin "object.__class__") "__get__" = some (some (.builtin "getset_descriptor.__get__"))/\W.takesIn K (.builtin "object.__class__")=some true/\W.mroIn K C' (.type "object")=some true /\
   W.kitOne K (.ref C') (.ref C)=some (i.ups.contains c)
section
variable  {p q:Pos}{c:Str}
end
section
variable  {a b:Expr}{gc:Rho->Res}
noncomputable def eE:D->Bool|.non=>true|_=>false
def vZ{K:Fg}{F:Hp}{m:Md}{d:D}(s:aG F H)(r:Rp K F H m d v):decide (v=.non)=eE d:=by
 cases d with
 |non=>cases r.non;rfl
 |bl _=>cases r.bl;rfl
 |int _=>cases r.int;rfl
 |str _=>cases r.str.1;rfl
 |tup _=>obtain⟨_,_,rfl,_⟩:=r.seqT s;rfl
 |lst _=>obtain⟨_,_,rfl,_⟩:=r.seqL s;rfl
 |dct _=>obtain⟨_,_,rfl,_⟩:=r.dict s;rfl
 |ty _=>cases r.ty;rfl
 |ob _=>cases r.ob;rfl
 |ins _ _=>obtain⟨_,_,_,_,rfl,_⟩:=r.ins s;rfl
 |fn _ =>
  cases m with
  |fz=>have r:aC K F _ v:=r;simp only[aC]at r;obtain⟨_,rfl,_⟩:=r;rfl
  |fr=>obtain⟨_,_,_,q⟩:=r;exact q.elim
  |bo=>obtain⟨_,_,_,q⟩:=r;exact q.elim
 |exn _ =>
  cases m with
  |fz=>have r:aC K F _ v:=r;simp only[aC]at r;obtain⟨_,_,rfl,_⟩:=r;rfl
  |fr=>obtain⟨_,_,_,q⟩:=r;exact q.elim
  |bo=>obtain⟨_,_,_,q⟩:=r;exact q.elim
 |set _ =>
  cases m with
  |fz=>have r:aC K F _ v:=r;simp only[aC]at r;obtain⟨_,_,rfl,_⟩:=r;rfl
  |fr=>obtain⟨_,rfl,_,_⟩:=r;rfl
  |bo=>obtain⟨_,rfl,_,_⟩:=r;rfl
 |dtn _ =>
  cases m with
  |fz=>have r:aC K F _ v:=r;simp only[aC]at r;obtain⟨_,_,rfl,_⟩:=r;rfl
  |fr=>obtain⟨_,rfl,_,_⟩:=r;rfl
  |bo=>obtain⟨_,rfl,_,_⟩:=r;rfl
 |dtf _ =>
  cases m with
  |fz=>have r:aC K F _ v:=r;simp only[aC]at r;obtain⟨_,_,_,rfl,_⟩:=r;rfl
  |fr=>obtain⟨_,rfl,_,_⟩:=r;rfl
  |bo=>obtain⟨_,rfl,_,_⟩:=r;rfl
noncomputable def fIs(neg:Bool):Md->D->Md->D->Option (Md×D):=λ_ x _ y=>match y with
 |.non=>some (.fz,.bl (if neg then !eE x else eE x))
 |_=>none
def aGL:OpD C X (compareOp .Is) (fIs false):=by
 refine⟨_,aCW,λF H m x n y v u k d Q s rx ry e w=>?_⟩;unfold fIs at e;split at e
 . cases e;cases ry.non;exact⟨rfl,by rw[vZ s rx];exact w _ F H (.refl s) (eC _) (by nofun)⟩
 . cases e
def aGM:OpD C X (compareOp .IsNot) (fIs true):=by
 refine⟨_,aCX,λF H m x n y v u k d Q s rx ry e w=>?_⟩;unfold fIs at e;split at e
 . cases e;cases ry.non;exact⟨rfl,by rw[vZ s rx];exact w _ F H (.refl s) (eC _) (by nofun)⟩
 . cases e
def wA:IsB (fIs neg):=λm x n y k d e=>by
 unfold fIs at e;split at e
 . cases e;exact⟨_,rfl,rfl⟩
 . cases e
theorem aGN:OpR X (binaryOp .Add) (λx y H Q=>∃l b xs ys,x=.ref l/\y=.ref b/\SqL X.K H l xs/\SqL X.K H b ys/\xs.length+ys.length<=sizeLine/\∀p,H p=none->Q (.ref p) (upd H p (.lst (xs++ys)))):=by
 intro aA s σ H x y v u Q I rx ry h;obtain⟨l,b,xs,ys,rfl,rfl,hl,hb,hz,q⟩:=h;cases rx;cases ry;obtain⟨its,r1,p1,_⟩:=I.list hl;obtain⟨its2,r2,p2,_⟩:=I.list hb;obtain⟨⟨cls,dd,data,sl⟩,n,ho,hc,hd1,hd⟩:=p1;obtain⟨⟨cls2,dd2,data2,sl2⟩,n2,ho2,hc2,hd2',hd2⟩:=p2;simp only at hc hd hc2 hd2;subst hc hd hc2 hd2;have e:its.toArray++its2.toArray=(its++its2).toArray:=by simp
 have l1:=r1.length;have l2:=r2.length;refine aQ4 ⟨_,ho,rfl⟩ ⟨_,ho2,rfl⟩ noFill_list_add seq_list_add PySem.F.slot_list_add PySem.F.entry_list_add (PySem.F.args_list_add_2 _ _) (list_addW l b its.toArray its2.toArray n n2 dd dd2 sl sl2 (by simp;lia)) ⟨ho,ho2,?_⟩
 rw[e];refine⟨.ref s.heap.objs.size,_,I.laid (t':=s.toks) (o:=.lst (xs++ys)) (λb ob q=>hps q) (aQD _) ?_,rfl,q _ (I.hok.fresh (aQD _))⟩;exact⟨by rw[aQ1];exact hz,_,0,r1.append r2,aPN _ rfl⟩
theorem aGO:OpR X (binaryOp .Add) (λx y H Q=>∃l b xs ys,x=.ref l/\y=.ref b/\SqT X.K H l xs/\SqT X.K H b ys/\xs.length+ys.length<=sizeLine/\(xs=[]->Q (.ref b) H)/\(xs≠[]->ys=[]->Q (.ref l) H)/\(xs≠[]->ys≠[]->∀p,H p=none->Q (.ref p) (upd H p (.tup (xs++ys))))):=by
 intro aA s σ H x y v u Q I rx ry h;obtain⟨l,b,xs,ys,rfl,rfl,hl,hb,hz,q0,q1,q2⟩:=h;cases rx;cases ry;obtain⟨its,r1,p1,_⟩:=I.tuple hl;obtain⟨its2,r2,p2,_⟩:=I.tuple hb;have n1:=r1.nil_iff;have n2:=r2.nil_iff;have l1:=r1.length;have l2:=r2.length;by_cases hv:its=[]
 . obtain⟨⟨cls,dd,data,sl⟩,ho,hc,n,hd⟩:=id p1;obtain⟨⟨cls2,dd2,data2,sl2⟩,ho2,hc2,n2',hd2⟩:=id p2;simp only at hc hd hc2 hd2;subst hc hd hc2 hd2;exact aQ4 ⟨_,ho,rfl⟩ ⟨_,ho2,rfl⟩ aQ5 seq_tuple_add aQ6 aQ7 (aQ8 _ _)
     (tuple_addW0 l b its.toArray its2.toArray n n2' dd dd2 sl sl2 (by simp[hv])) ⟨ho,ho2,⟨.ref b,H,I,rfl,q0 (n1.mp hv)⟩⟩
 . refine HT.aDH p1 p2 hv (λz=>⟨.ref l,H,I,rfl,q1 (λw=>hv (n1.mpr w)) (n2.mp z)⟩) (λz=>?_) (by lia)
   refine⟨.ref s.heap.objs.size,_,I.laid (t':=s.toks) (o:=.tup (xs++ys)) (λb ob q=>hps q) (aQD _) ?_,rfl,q2 (λw=>hv (n1.mpr w)) (λw=>z (n2.mpr w)) _ (I.hok.fresh (aQD _))⟩;exact⟨by rw[aQ1];exact hz,_,r1.append r2,gI.new _ _⟩
noncomputable def nX:Md->D->Md->D->Option (Md×D):=λm x n y=>match x,y with
 |.lst xs,.lst ys=>if xs.length+ys.length<=sizeLine then some (.fr,.lst (xs++ys))else none
 |.tup xs,.tup ys=>if xs.length+ys.length<=sizeLine then some (.fz,.tup (xs++ys))else none
 |_,_=>none
def aD.nilIff{K:Fg}{F:Hp}(h:aD K F ds xs):xs=[]↔ds=[]:=by
 have:=h.length;constructor
 . intro e;subst e;cases ds with|nil=>rfl|cons _ _=>simp at this
 . intro e;subst e;cases xs with|nil=>rfl|cons _ _=>simp at this
def aGP:OpD C X (binaryOp .Add) nX:=by
 refine⟨_,aGN.or aGO,λF H m x n y v u k d Q s rx ry e w=>?_⟩;unfold nX at e;split at e
 . rename_i xs ys;split at e
   . rename_i hz;cases e;obtain⟨a,us,rfl,q1,r1⟩:=rx.seqL s;obtain⟨b,vs,rfl,q2,r2⟩:=ry.seqL s;refine .inl ⟨a,b,us,vs,rfl,rfl,q1,q2,by rw[r1.length,r2.length];exact hz,λp hp=>?_⟩
     exact w (.ref p) F _ (aI.fresh _ s hp) ⟨p,rfl,s.free hp,_,bE,r1.append r2⟩ λ_ a ea=>by cases ea;exact hp
   . cases e
 . rename_i xs ys;split at e
   . rename_i hz;cases e;have ex:=rx;have ey:=ry;obtain⟨a,us,rfl,q1,r1⟩:=rx.seqT s;obtain⟨b,vs,rfl,q2,r2⟩:=ry.seqT s;have fz:∀{m:Md}{zs:List D}{c:Addr},Rp X.K F H m (.tup zs) (.ref c)->aC X.K F (.tup zs) (.ref c):=λ{m zs c} h=>by
       cases m with
       |fz=>exact h
       |fr=>obtain⟨_,_,_,q⟩:=h;exact q.elim
       |bo=>obtain⟨_,_,_,q⟩:=h;exact q.elim
     refine .inr ⟨a,b,us,vs,rfl,rfl,q1,q2,by rw[r1.length,r2.length];exact hz,λz=>?_,λ_ z=>?_,λ_ _ p hp=>?_⟩
     . have:xs=[]:=r1.nilIff.mp z;subst this;exact w (.ref b) F H (.refl s) (fz ey) (by nofun)
     . have:ys=[]:=r2.nilIff.mp z;subst this;rw[aQR]at w;exact w (.ref a) F H (.refl s) (fz ex) (by nofun)
     . exact w (.ref p) _ _ (aI.laid (.tup (us++vs)) s hp) (aC.tup_of (s.free hp) (r1.append r2)) (by nofun)
   . cases e
 . cases e
noncomputable def dU:List (Md×D)->Option (Md×D)
 |[(_,.lst ds)]=>some (.fz,.tup ds)
 |[(.fz,.tup ds)]=>some (.fz,.tup ds)
 |_=>none
noncomputable def iN:List (Md×D)->Option (Md×D)
 |[(_,.lst ds)]=>some (.fr,.lst ds)
 |[(_,.tup ds)]=>some (.fr,.lst ds)
 |_=>none
noncomputable def qF:List (Md×D)->Option (Md×D)
 |[(_,.int i)]=>some (.fz,.int i)
 |[(_,.bl b)]=>some (.fz,.int (if b then 1 else 0))
 |_=>none
noncomputable def qG(i:Int):Bool:=decide (i.natAbs.log2<1920)
noncomputable def qH(i:Int):Str:=Str.ofString (toString i)
def lD:List (Md×D)->Option (Md×D)
 |[(_,.int i)]=>if qG i=true then some (.fz,.str (qH i))else none
 |_=>none
def aGQ:eD X (.type "tuple") dU:=by
 refine⟨_,aD1,λF H xs vs k d Q s rx e w=>?_⟩;unfold dU at e;split at e
 . rename_i m ds;cases e;obtain⟨v,rfl,r⟩:=rx.one;obtain⟨a,xs,rfl,q,rl⟩:=r.seqL s;exact⟨a,xs,rfl,.inl ⟨q,λl hl=>w (.ref l) _ _ (aI.laid (.tup xs) s hl) (aC.tup_of (s.free hl) rl) (by nofun)⟩⟩
 . rename_i ds;cases e;obtain⟨v,rfl,r⟩:=rx.one;have r0:=r;obtain⟨a,xs,rfl,q,rl⟩:=r.seqT s;exact⟨a,xs,rfl,.inr ⟨q,w (.ref a) F H (.refl s) r0 (by nofun)⟩⟩
 . cases e
def aGR:eD X (.type "list") iN:=by
 refine⟨_,aD0,λF H xs vs k d Q s rx e w=>?_⟩;unfold iN at e;split at e
 . rename_i m ds;cases e;obtain⟨v,rfl,r⟩:=rx.one;obtain⟨a,xs,rfl,q,rl⟩:=r.seqL s;exact⟨a,xs,rfl,.inl q,λl hl=>w (.ref l) F _ (aI.fresh _ s hl) ⟨l,rfl,s.free hl,xs,bE,rl⟩ λ_ a ea=>by cases ea;exact hl⟩
 . rename_i m ds;cases e;obtain⟨v,rfl,r⟩:=rx.one;obtain⟨a,xs,rfl,q,rl⟩:=r.seqT s;exact⟨a,xs,rfl,.inr q,λl hl=>w (.ref l) F _ (aI.fresh _ s hl) ⟨l,rfl,s.free hl,xs,bE,rl⟩ λ_ a ea=>by cases ea;exact hl⟩
 . cases e
def aGS:eD X (.type "int") qF:=by
 refine⟨_,aC5,λF H xs vs k d Q s rx e w=>?_⟩;unfold qF at e;split at e
 . cases e;obtain⟨v,rfl,r⟩:=rx.one;cases r.int;exact .inl ⟨_,rfl,w _ F H (.refl s) (dR _) (by nofun)⟩
 . cases e;obtain⟨v,rfl,r⟩:=rx.one;cases r.bl;exact .inr ⟨_,rfl,w _ F H (.refl s) (dR _) (by nofun)⟩
 . cases e
end
theorem aGT(i:Int):PyData.strOk (Str.ofString (toString i))=true:=by
 unfold PyData.strOk;rw[aSB];intro c hc;have hc':c∈(Str.ofString (toString i)).cps.toList:=by rw[aQK];exact hc
 have:¬ (c≠45/\(c<48\/57<c)):=λh=>int_text_free' c h i hc';have hb:c<58:=by lia
 simp;lia
theorem aGU:eD X (.type "str") lD:=by
 refine⟨_,aC6,λF H xs vs k d Q s rx e w=>?_⟩;unfold lD at e;split at e
 . rename_i m i;split at e
   . rename_i hs;cases e;obtain⟨v,rfl,r⟩:=rx.one;cases r.int;have hl:i.natAbs.log2<1920:=aR9 hs;have h1:(qH i).length<=1921:=int_text_len_1921 hl;have hz:sizeLine=16777216:=aQI;exact⟨i,rfl,hl,w _ F H (.refl s) (jH ⟨by lia,aGT i⟩) (by nofun)⟩
   . cases e
 . cases e
def aGV{T:String}{φ}{es:List Expr}{p:Pos}(o:eD X (.type T) φ)(hg:Gl X x)(hm:X.mg x=none)(hv:bootBuiltins x=some (.type T))(ha:PAv C X (e::es) gs)(hn:x ≠ "__name__")(hdb:(x==("__debug__":Str))=false)(hst:∀x∈e::es,cP x=true):PV C X (.Call (.Name x p) (e::es) [] pos) (λρ=>fR φ (gs ρ)):=by obtain⟨r,h1,h2⟩:=o;exact PE.imp (uS h1 hg hm hv ha hn hdb (cX (hst e mcs)) (lC _ _ λy hy=>hst y (mcm hy))) λσ H Q q=>vI h2 q
section
variable {A:aVV}{E:VSP}
theorem aGW{Q:List aVT->aVU->Prop}(hA:A.handled=none)(ht:s.heap.IsList l items)(h:∀h',Heap.ExtBut s.heap.objs.size s.heap h'->∀tk,Q items.toList {s with heap:=h',toks:=tk}):wpAny (model prog w) A (unpackItems (.ref l) items.size none) Q E s:=by
 unfold unpackItems notIterableAtAll;refine aQA (aQA (aRX ht.typeIs PySem.F.slot_list_iter.lookup ?_));refine aP9 ?_;dsimp only;rw[if_neg aQL];refine aQA (aRE (aQC ht ?_));have hlt:l<s.heap.objs.size:=by obtain⟨o,e,_⟩:=ht;exact aPO e
 have hne:l≠s.heap.objs.size:=aPR hlt;have keep:∀b o,s.heap.get? b=some o->(s.heap.push { cls:=Value.type "list_iterator", data:=Data.fields #[Value.ref l,Value.int 0 0] }).get? b=some o:=λb o q=>hps q;have ht':(s.heap.push { cls:=Value.type "list_iterator", data:=Data.fields #[Value.ref l,Value.int 0 0] }).IsList l items:=by obtain⟨o,e,c⟩:=ht;exact⟨o,keep l o e,c⟩
 have hi':(s.heap.push { cls:=Value.type "list_iterator", data:=Data.fields #[Value.ref l,Value.int 0 0] }).IsListIter s.heap.objs.size l 0:=⟨_,aPN _ rfl,rfl,rfl⟩;refine aQA (aRE (W.kun_draw hne items.size 0 _ _ hi' ht' (by lia) λh' hi hsb=>?_))
 have ei:List.take items.size (List.drop 0 items.toList)=items.toList:=by rw[aSW];exact aSX (by simp)
 rw[ei];rw[if_neg (by simp)]
 have hl2:h'.IsList l items:=by obtain⟨o,e,c⟩:=ht';exact⟨o,by rw[hsb.2 l hne];exact e,c⟩
 rw[aSY]at hi;refine aQA (aRE ((Walks.list hA s.heap.objs.size l hne items).done _ _ _ ⟨hi,hl2⟩ λh2 tk k2=>?_));rw[if_neg (by simp)]
 refine aP9 (h h2 (λb o hb e=>k2 b o (by simpa using hb) ?_) tk)
 show h'.get? b=some o;rw[hsb.2 b hb];exact keep b o e
def aGX{elts:List Expr}{Q:Unit->aVU->Prop}(hA:A.handled=none)(ht:s.heap.IsList l items)(hn:(assignEach elts env).length=items.size)(hst:(assignEach elts env).findIdx? (·.1)=none)(h:∀h',Heap.ExtBut s.heap.objs.size s.heap h'->∀tk,wpAny (model prog w) A (assignInOrder ((assignEach elts env).map (·.2)) items.toList) Q E {s with heap:=h',toks:=tk}):wpAny (model prog w) A (assign (.Tuple elts k pos) env (.ref l)) Q E s:=by rw[assign_Tuple];refine aQA (aSQ ?_);unfold unpack;rw[hst,hn];exact aQA (aRE (aGW hA ht h))
def aGY{t sl:Addr}{vl vu:aVT}{Q:VSP}(ht:IsTup s.heap t items)(hs:s.heap.IsSliceOf sl vl vu .none)(pl:IsPart vl lo)(pu:IsPart vu hi)(h0:HT.sIx items.size 0 lo=0)(h1:HT.sIx items.size items.size hi=items.size)(h:Q (.ref t) s):wpAny (model prog w) A (getItem (.ref t) (.ref sl)) Q E s:=by
 obtain⟨os,hos,hcs,hds⟩:=id hs;have tS:s.TypeIs (.ref sl) "slice" := ⟨os,hos,hcs⟩;unfold getItem
 try with_reducible refine aRE ?_
 first|refine aQA (aP9 ?_)|skip
 refine aQA (wpAny_sequenceKey ht.typeIs (by decide) (aQA (aRF (name:=Str.ofString "__getitem__") ht.typeIs aRG (aRH aRG ht.typeIs entry_tuple_getitem ?_ (args_tuple_getitem _ _)))))
 show wpAny _ _ (Builtin.Tuple.tupleItemsOf (.ref t)>>=_) _ _ s;refine aQA (tupleItemsOf_ ht (aQA (aRI tS ?_)));rw[if_pos (by decide)]
 refine aQA (HT.uW hs pl pu ?_);have yes:(((HT.sIx items.size 0 lo:Nat):Int)==0&&(1:Int)==1&&(HT.sIx items.size items.size hi-HT.sIx items.size 0 lo)==items.size)=true:=by rw[h0,h1];simp
 show wpAny _ _ (if(((HT.sIx items.size 0 lo:Nat):Int)==0&&(1:Int)==1&&(HT.sIx items.size items.size hi-HT.sIx items.size 0 lo)==items.size)=true then _ else _) _ _ s;rw[if_pos yes];unfold Builtin.Tuple.tupleIsExact;refine aQA (aQA (aRI ht.typeIs (aP9 ?_)));rw[if_pos (by decide)]
 refine aQA (aR1 ?_)
 first
  |exact aP9 ⟨_,rfl,aP9 h⟩
  |exact⟨_,rfl,aP9 h⟩
end
def rSlW(K:Fg):V->Option Int->Option Int->Hp->VK->Prop:=λx lo hi H Q=>∃a xs,x=.ref a/\SqT K H a xs/\(HT.sIx xs.length 0 lo=0/\HT.sIx xs.length xs.length hi=xs.length)/\Q x H
def aGZ:SlR X (rSlW X.K):=by
 intro aA s σ H x v vl vu lo hi sl Q I rx hs pl pu h;obtain⟨a,xs,rfl,hx,hw,q⟩:=h;cases rx;obtain⟨its,r,ht,hz⟩:=I.tuple hx;have hlen:its.toArray.size=xs.length:=by rw[aQJ];exact r.length.symm
 exact⟨"tuple", _,PyProof.Rows.slot_tuple_getitem.lookup,ht.typeIs,aGY ht hs pl pu (by rw[hlen];exact hw.1) (by rw[hlen];exact hw.2) ⟨.ref a,H,I,rfl,q⟩⟩
def gSeq(K:Fg)(n:Nat)(t:TGs):TG:=λv σ H Q=>∃a xs,v=.ref a/\(SqT K H a xs\/SqL K H a xs)/\xs.length=n/\t xs σ H Q
def aG0{es:List Expr}{t:TGs}(hc:X.calm=true)(h:PGs X es t)(hn:(assignEach es X.env).length=n)(hst:(assignEach es X.env).findIdx? (·.1)=none):PG X (.Tuple es k pos) (gSeq X.K n t):=by
 intro aA s σ H v u Q I r hw;obtain⟨a,xs,e1,hq,hl,hw⟩:=hw;rcases hq with hq|hq
 . exact aCF hc h hn hst aA s σ H v u Q I r ⟨a,xs,e1,hq,hl,hw⟩
 . subst e1;cases r;obtain⟨its,rv,ht,hz⟩:=I.list hq;refine aGX (I.ok.hd hc) ht.isList (by simp[hn,<- hl,rv.length]) hst λh' hx tk=>?_
   have I1:Inv X aA σ H {s with heap:=h',toks:=tk}:=I.kept (t':=tk) λb o e=>hx b o (aPR (aPO e)) e
   exact h aA _ σ H xs _ Q I1 (by simpa using rv) hw
inductive Tg where
 |nm (i:Nat)|tp (ts:List Tg)
mutual
noncomputable def aU:Tg->D->Rho->Option Rho
 |.nm i,d,ρ=>some (ρ.set i (some (false,d)))
 |.tp ts,d,ρ=>match d with
  |.tup ds=>dC ts ds ρ
  |.lst ds=>dC ts ds ρ
  |_=>none
noncomputable def dC:List Tg->List D->Rho->Option Rho
 |[],ds,ρ=>if ds.isEmpty then some ρ else none
 |t::ts,ds,ρ=>match ds with
  |d::ds=>(match aU t d ρ with|some ρ1=>dC ts ds ρ1|none=>none)
  |[]=>none
end
mutual
noncomputable def fV:Tg->List Nat
 |.nm i=>[i]
 |.tp ts=>nY ts
noncomputable def nY:List Tg->List Nat
 |[]=>[]
 |t::ts=>fV t++nY ts
end
mutual
def gOf(K:Fg):Tg->TG
 |.nm i=>jC i
 |.tp ts=>gSeq K ts.length (hC K ts)
def hC(K:Fg):List Tg->TGs
 |[]=>gNil
 |t::ts=>uH (gOf K t) (hC K ts)
end
def PGw(X:Cx)(tg:Expr)(t:Tg):Prop:=PG X tg (gOf X.K t)
def iO(X:Cx)(tgs:List Expr)(ts:List Tg):Prop:=PGs X tgs (hC X.K ts)
noncomputable def jP:Expr->Bool|.Starred ..=>false|_=>true
def wB{es:List Expr}(h:jP e=true):assignEach (e::es) env=(false,assign e env)::assignEach es env:=by cases e <;> first|rfl|cases h
theorem qI:∀{ts:List Tg}{ds:List D}{ρ ρ':Rho},dC ts ds ρ=some ρ'->ds.length=ts.length
 |[],ds,ρ,ρ',e=>by
  simp only[dC]at e;split at e
  . rename_i h;have:ds=[]:=by simpa using h
    subst this;rfl
  . cases e
 |t::ts,ds,ρ,ρ',e=>by
  simp only[dC]at e;split at e
  . split at e
    . rw[aR7,aR7,qI e]
    . cases e
  . cases e
mutual
theorem qJ{K:Fg}{F0 H0:Hp}:∀(t:Tg) {F H:Hp}{σ:L2.St}{ρ ρ':Rho}{d:D}{v:V}{Q:L2.St->Hp->Prop},aS K F0 H0 F H σ ρ->aC K F d v->aU t d ρ=some ρ'->(∀σ',aS K F0 H0 F H σ' ρ'->σ'.length=σ.length->(∀j,j∉fV t->σ'[j]? = σ[j]?)->Q σ' H)->gOf K t v σ H Q
 |.nm i,F,H,σ,ρ,ρ',d,v,Q,R,r,e,w=>by
  simp only[aU]at e;cases e;simp only[gOf];refine w _ (R.set (m:=false) (.refl R.sub) r (by nofun)) (by rw[aRN]) λj hj=>?_
  simp only[fV,aSZ]at hj;rw[aP3 (λz=>hj z.symm)]
 |.tp ts,F,H,σ,ρ,ρ',d,v,Q,R,r,e,w=>by
  simp only[aU]at e;split at e
  . rename_i ds;simp only[aC]at r;obtain⟨a,xs,rfl,hq,rl⟩:=r;simp only[gOf];refine⟨a,xs,rfl,.inl (aG.seqT R.sub hq),by rw[rl.length];exact qI e,qK ts R rl e ?_⟩
    simp only[fV]at w;exact w
  . rename_i ds;simp only[aC]at r;obtain⟨a,xs,rfl,hq,rl⟩:=r;simp only[gOf];refine⟨a,xs,rfl,.inr (R.sub.seq hq),by rw[rl.length];exact qI e,qK ts R rl e ?_⟩
    simp only[fV]at w;exact w
  . cases e
theorem qK{K:Fg}{F0 H0:Hp}:∀(ts:List Tg) {F H:Hp}{σ:L2.St}{ρ ρ':Rho}{ds:List D}{vs:List V}{Q:L2.St->Hp->Prop},aS K F0 H0 F H σ ρ->aD K F ds vs->dC ts ds ρ=some ρ'->(∀σ',aS K F0 H0 F H σ' ρ'->σ'.length=σ.length->(∀j,j∉nY ts->σ'[j]? = σ[j]?)->Q σ' H)->hC K ts vs σ H Q
 |[],F,H,σ,ρ,ρ',ds,vs,Q,R,r,e,w=>by
  simp only[dC]at e;split at e
  . cases e;rename_i hd;have:ds=[]:=by simpa using hd
    subst this;simp only[aD]at r;simp only[hC];exact⟨r,w σ R rfl λ_ _=>rfl⟩
  . cases e
 |t::ts,F,H,σ,ρ,ρ',ds,vs,Q,R,r,e,w=>by
  simp only[dC]at e;split at e
  . rename_i d ds';split at e
    . rename_i ρ1 e1;simp only[aD]at r;obtain⟨y,ys,rfl,r1,r2⟩:=r;simp only[hC];refine⟨y,ys,rfl,qJ t R r1 e1 λσ1 R1 l1 k1=>qK ts R1 r2 e λσ2 R2 l2 k2=>w σ2 R2 (l2.trans l1) λj hj=>?_⟩;simp only[nY,aPZ,not_or]at hj;rw[k2 j hj.2,k1 j hj.1]
    . cases e
  . cases e
end
def aG1(hN:X.N.Nodup)(hi:X.N[i]? = some x)(hx:L2.Loc X.env.scope x)(hf:X.fn x=true\/X.env.scope.names.lookup x=some .local):PGw X (.Name x pos) (.nm i):=by unfold PGw;simp only[gOf];exact aCC hN hi hx hf
def aG2:iO X [] []:=by unfold iO;simp only[hC];exact aCD
def aG3{es:List Expr}{t:Tg}{ts:List Tg}(h1:PGw X e t)(h2:iO X es ts)(hs:jP e=true):iO X (e::es) (t::ts):=by unfold iO;simp only[hC];exact aCE h1 h2 (by rw[wB hs];rfl)
def aG4{es:List Expr}(hs:∀e∈es,jP e=true):(assignEach es env).length=es.length/\(assignEach es env).findIdx? (·.1)=none:=by
 induction es with
 |nil=>exact⟨rfl,rfl⟩
 |cons e es ih =>
  obtain⟨h1,h2⟩:=ih λx hx=>hs x (mcm hx);rw[wB (hs e mcs)];refine⟨by rw[aR7,aR7,h1],?_⟩
  rw[List.findIdx?_cons];simp[h2]
def aG5{es:List Expr}{ts:List Tg}(hc:X.calm=true)(h:iO X es ts)(hs:∀e∈es,jP e=true)(hl:es.length=ts.length):PGw X (.Tuple es k pos) (.tp ts):=by have st:=aG4 (env:=X.env) hs;unfold PGw;simp only[gOf];exact aG0 (n:=ts.length) hc h (by rw[st.1,hl]) st.2
def aG6{t:Tg}(h:PGw X tg t):PGv C X tg (aU t) :=
 ⟨_,h,λF H σ ρ ρ' d v Q R r e w=>qJ t R r e λσ' R' _ _=>w σ' F H (aG.refl _) R'⟩
section
variable  {p:Pos}
theorem wC{t:Tg}{gt:Rho->Res}(hsl:∀j∈fV t,aB.length<=j){Q:VK}(q:tG (C.at X) (λρ=>dB (gi ρ) ρ aB tgN.length (aU t) gt ge) σ H Q):k6 aB tgN.length (tIv (C.at X) gi) (gOf X.K t) (tT (C.nox.at X) gt) (tG (C.nox.at X) λρ=>aZ (ge ρ)) σ H Q:=by
 rw[aX]at q;obtain⟨ρ,F,RS,w⟩:=q;unfold k6;refine⟨ρ,F,RS,?_⟩;cases er:gi ρ with
 |stuck=>rw[er]at w;exact w
 |exc c=>rw[er]at w;exact w
 |ok m d =>
  rw[er]at w;cases d with
  |lst ds =>
   unfold dB at w;rw[Res.thn_ok]at w;dsimp only at w;split at w
   . rename_i hsz;intro J F1 H1 s1 hJ Da hDa;cases et:cO (aU t) gt ge (bM aB ρ++List.replicate tgN.length none) ds with
     |none=>rw[et]at w;exact w.elim
     |some total =>
      rw[et]at w;have hD0:H Da=none:=s1.same.free hDa;have hF1:F1 Da=none:=s1.sub.free hDa;have R0:=vP aB tgN.length RS;refine⟨λi m ys H'=>m=ds.length-i/\i<=ds.length/\H' Da=some (.lst ys)/\∃F' zs,aI F H F' H'/\aG F1 F'/\F' Da=none/\aD X.K F' zs ys/\zs.length<=i /\
       ∃rest,cO (aU t) gt ge (bM aB ρ++List.replicate tgN.length none) (ds.drop i)=some rest/\total=zs++rest,
       ⟨ds.length,by simp,aQP _,bE,F1,[],s1.upd hD0 hF1,aG.refl _,hF1,aD.nil,aQD _,total,by simpa using et,rfl⟩,?_⟩
      rintro i m ys H' ⟨rfl,hile,hD,F',zs,st,sF,hFD,rz,hzl,rest,ec,etot⟩;refine⟨hD,?_⟩;by_cases hlt:i<ds.length
      . refine .inr ⟨hJ.go i H' (sF.trans st.sub) hlt,by rw[rz.length];lia,λv H2 y=>?_⟩
        obtain⟨F2,d,ed,s2,rd⟩:=hJ.yld i F' H' v H2 sF st.sub hlt y;have hd:ds.drop i=d::ds.drop (i+1):=by rw[aSJ hlt];rw[aSK hlt]at ed;cases ed;rfl
        rw[hd]at ec;unfold cO at ec;have hD2:H2 Da=some (.lst ys):=s2.same _ _ hD;have hF2:F2 Da=none:=s2.new _ hFD (by rw[hD];exact λz=>nomatch z)
        cases eg:aU t d (bM aB ρ++List.replicate tgN.length none)with
        |none=>rw[eg]at ec;cases ec
        |some ρ1 =>
        rw[eg]at ec;dsimp only at ec;have R2:=(R0.step st).step s2;refine qJ t R2 rd eg λσ1 R1 len1 keep1=>?_;refine⟨⟨len1.symm,λj u ej=>?_⟩,ρ1,F2,R1,?_⟩
        . by_cases hj:j∈fV t
          . have:=hsl j hj;rw[aQW (by simpa[bJ]using this),aQX]at ej
            split at ej <;> cases ej
          . rw[keep1 j hj];exact ej
        cases ett:gt ρ1 with
        |stuck=>rw[ett]at ec;cases ec
        |exc c=>rw[ett]at ec;cases ec
        |ok mt dt =>
         cases dt with
         |bl b =>
          rw[ett]at ec;intro F3 H3 s3;have hD3:H3 Da=some (.lst ys):=s3.same _ _ hD2;have hF3:F3 Da=none:=s3.new _ hF2 (by rw[hD2];exact λz=>nomatch z)
          cases b with
          |false=>rw[if_neg aQL];exact⟨ds.length-(i+1),by lia,rfl,hlt,hD3,F3,zs,(st.trans s2).trans s3,(sF.trans s2.fsame).trans s3.fsame,hF3,rz.mono (s2.fsame.trans s3.fsame) _ _,Nat.le_succ_of_le hzl,rest,ec,etot⟩
          |true =>
           rw[if_pos rfl,aX];refine⟨_,F3,R1.step s3,?_⟩;dsimp only at ec;cases ee:aZ (ge ρ1)with
           |stuck=>rw[ee]at ec;cases ec
           |exc c=>rw[ee]at ec;cases ec
           |ok me ye =>
            rw[ee]at ec;dsimp only at ec;have hme:me=.fz:=by
             cases h:ge ρ1 with
             |ok m' d'=>rw[h]at ee;cases m' <;> cases ee <;> rfl
             |exc c=>rw[h]at ee;cases ee
             |stuck=>rw[h]at ee;cases ee
            subst hme;cases er2:cO (aU t) gt ge (bM aB ρ++List.replicate tgN.length none) (ds.drop (i+1))with
            |none=>rw[er2]at ec;cases ec
            |some rest' =>
             rw[er2]at ec;cases ec;intro u F4 H4 s4 ru _;have hD4:H4 Da=some (.lst ys):=s4.same _ _ hD3;have hF4:F4 Da=none:=s4.new _ hF3 (by rw[hD3];exact λz=>nomatch z)
             refine⟨hD4,ds.length-(i+1),by lia,rfl,hlt,bE,F4,zs++[ye],(((st.trans s2).trans s3).trans s4).upd hD0 hF4,((sF.trans s2.fsame).trans s3.fsame).trans s4.fsame,hF4,?_,by simp;lia,rest',er2,by rw[etot];simp⟩
             exact aD.append (rz.mono ((s2.fsame.trans s3.fsame).trans s4.fsame) _ _) (aD.cons ru aD.nil)
         |_=>rw[ett]at ec;cases ec
      . have ei:i=ds.length:=by lia
        subst ei;rw[aSL]at ec;cases ec;rw[aQR]at etot;subst etot;exact .inl ⟨hJ.stop _ H' (sF.trans st.sub) (aQD _),w (.ref Da) F' H' st ⟨Da,rfl,hFD,ys,hD,rz⟩ λ_ a ea=>by cases ea;exact hD0⟩
   . exact w.elim
  |_=>exact w.elim
def aG7{t:Tg}{gt:Rho->Res}(hc:X.calm=true)(hi:PIv C X tg aF gi)(bT:∀y∈scope.names,y.2 ≠ .cell)(bX:scope.kind=.function)(dL:∀y∈scope.names,y.2=.local->scope.names.lookup y.1=some .local)(bZ:∀y∈scope.names,y.2=.free->X.env.kindOf y.1=some .cell\/X.env.kindOf y.1=some .free)(cL:aE.map some=aB.map λi=>X.N[i]?)(dO:∀y∈aE,(y,NameKind.free)∈scope.names)(dM:∀y∈aE,(relabel scope X.env).names.lookup y=some .cell\/(relabel scope X.env).names.lookup y=some .free)(hsl:∀j∈fV t,aB.length<=j)(hg:∀cl A fp s3 H3,PGw (aT X scope (aE++tgN) cl A fp s3 H3) tg t)(hf:∀cl A fp s3 H3,dA (aT X scope (aE++tgN) cl A fp s3 H3) ifs (tT (C.nox.at X) gt))(he:∀cl A fp s3 H3,PV C.nox (aT X scope (aE++tgN) cl A fp s3 H3) elt ge)(hs:∀x,foldedSetIterable aF X.env x=pure x:=by intro _;rfl):PV C X (.ListComp elt [⟨tg,aF,ifs,0⟩] scope pos) (λρ=>dB (gi ρ) ρ aB tgN.length (aU t) gt ge):=by
 have capLen:aE.length=aB.length:=by simpa using congrArg List.length cL
 refine PE.imp (aFZ (aE:=aE) (tgN:=tgN) (gt:=gOf X.K t) (tt:=tT (C.nox.at X) gt) (te:=tG (C.nox.at X) λρ=>aZ (ge ρ)) hc hi bT bX dL bZ cL dO dM
  hg hf (λcl A fp s3 H3=>gB (he cl A fp s3 H3)) hs) λσ H Q q=>wC hsl q
def aG8(fz:Bool){t:Tg}{gt:Rho->Res}(hc:X.calm=true)(hi:PIv C X tg aF gi)(bT:∀y∈scope.names,y.2 ≠ .cell)(bX:scope.kind=.function)(dL:∀y∈scope.names,y.2=.local->scope.names.lookup y.1=some .local)(bZ:∀y∈scope.names,y.2=.free->X.env.kindOf y.1=some .cell\/X.env.kindOf y.1=some .free)(cL:aE.map some=aB.map λi=>X.N[i]?)(dO:∀y∈aE,(y,NameKind.free)∈scope.names)(dM:∀y∈aE,(relabel scope X.env).names.lookup y=some .cell\/(relabel scope X.env).names.lookup y=some .free)(hsl:∀j∈fV t,aB.length<=j)(hg:∀cl A fp s3 H3,PGw (aT X scope (aE++tgN) cl A fp s3 H3) tg t)(hf:∀cl A fp s3 H3,dA (aT X scope (aE++tgN) cl A fp s3 H3) ifs (tT (C.nox.at X) gt))(he:∀cl A fp s3 H3,PV C.nox (aT X scope (aE++tgN) cl A fp s3 H3) elt ge)(hN:X.N.Nodup)(hx:X.N[i]? = some x)(hk:X.env.scope.names.lookup x=some .local)(hsw:swapsWith (.ListComp elt [⟨tg,aF,ifs,0⟩] scope pos) (some (.Name x pos')) spos.line X.env=pure true)(hs:∀x,foldedSetIterable aF X.env x=pure x:=by intro _;rfl):PSv C X (.Assign [.Name x pos'] (.ListComp elt [⟨tg,aF,ifs,0⟩] scope pos) spos) (λρ=>dS ρ i (if fz=true then aZ (dB (gi ρ) ρ aB tgN.length (aU t) gt ge)else dB (gi ρ) ρ aB tgN.length (aU t) gt ge)):=by
 refine PS.imp (aF0 (aE:=aE) (tgN:=tgN) (gt:=gOf X.K t) (tt:=tT (C.nox.at X) gt) (te:=tG (C.nox.at X) λρ=>aZ (ge ρ)) hc hi bT bX dL bZ cL dO dM
  hg hf (λcl A fp s3 H3=>gB (he cl A fp s3 H3)) hN hx hk hsw hs) λE σ H q=>wC hsl ?_
 cases fz with
 |false=>exact kZ q
 |true=>have q:=kZ q;unfold jD at q;rw[aX]at q ⊢;obtain⟨ρ,F,R,w⟩:=q;exact⟨ρ,F,R,aY.frz w⟩
end
section
variable  {p:Pos}
end
inductive PVL(C:Cw)(X:Cx):List Expr->List (Rho->Res)->Prop where
 |nil:PVL C X [] []
 |cons {e:Expr}{g:Rho->Res}{es:List Expr}{gs:List (Rho->Res)} (h:PV C X e g) (r:PVL C X es gs):PVL C X (e::es) (g::gs)
inductive LtI(A:aVV)(s:aVU):List aVT->List aVT->Bool->Prop where
 |nn:LtI A s [] [] false
 |nc {w:aVT}{ws:List aVT}:LtI A s [] (w::ws) true
 |cn {v:aVT}{vs:List aVT}:LtI A s (v::vs) [] false
 |eq {v w:aVT}{vs ws:List aVT}{b:Bool} (h:SeqAt.EqAt A s v w true) (r:LtI A s vs ws b):LtI A s (v::vs) (w::ws) b
 |ne {v w:aVT}{vs ws:List aVT}{b:Bool} (h:SeqAt.EqAt A s v w false) (l:∀(prog:aVX) (w':aVW) (E:VSP) (Q:VSP),Q (.bool b) s->wpAny (model prog w') A (richCompare .Lt v w) Q E s):LtI A s (v::vs) (w::ws) b
section
open PySem.SeqAt
open PySem.AutoSeq1 (wpAny_loadPart')
open PySem.MeetsSeq PySem.MeetsSeq2 PySem.MeetsSeq3
theorem aG9(l b:Addr)(items items2:Array aVT)(n n2:Nat)(dd dd2:Option Addr)(sl sl2:Array (Option aVT))(r:Bool):Meets (Builtin.«tuple.__lt__» ⟨[.ref l,.ref b],[]⟩) (λA R s=>s.heap.get? l=some { cls:=.type "tuple", dict:=dd,data:=.seq items n,slots:=sl }/\s.heap.get? b=some { cls:=.type "tuple", dict:=dd2,data:=.seq items2 n2,slots:=sl2 }/\LtI A.in1 s items.toList items2.toList r/\R (.ok (.ret (.bool r))) s) :=
 .of_wp λprog w A R s h=>by
  obtain⟨hp,g,d,tk,os⟩:=s;obtain⟨hl,hb,hi,h⟩:=h;have f2:=AutoSeq1.sub_tuple_tuple
  wp_walk using wpAny_loadPart' hl,wpAny_loadPart' hb,aRZ _ (λrest b s'=>b.1=none/\s'=⟨hp,g,d,tk,os⟩/\∃(vs ws:List aVT),rest=vs.zip ws /\
   LtI A.in1 ⟨hp,g,d,tk,os⟩ vs ws r/\vs.length+items2.size=ws.length+items.size) _
  case turn =>
   rintro⟨y,x⟩ rest b s' ⟨hb',rfl,vs,ws,hz,hvi,hlen⟩;cases hvi with
   |nn=>rw[List.zip_nil_left]at hz;cases hz
   |nc=>rw[List.zip_nil_left]at hz;cases hz
   |cn=>rw[List.zip_nil_right]at hz;cases hz
   |eq he hr =>
    rw[aS0]at hz;injection hz with hyx hrest
    injection hyx with hy hx
    subst hy hx;simp only[aR7]at hlen;refine aQA (he prog w _ _ ?_)
    wp_walk
    exact⟨rfl,rfl,_,_,hrest,hr,by lia⟩
   |ne he hr =>
    rw[aS0]at hz;injection hz with hyx hrest
    injection hyx with hy hx
    subst hy hx;refine aQA (he prog w _ _ ?_);have hri:=hr prog w
    wp_walk using hri
    exact⟨_,rfl,by simpa using h⟩
  case fin =>
   rintro⟨b1,b2⟩ s' ⟨hb',rfl,vs,ws,hz,hvi,hlen⟩;simp only at hb';subst hb';have hv:r=decide (items.size<items2.size):=by
    cases hvi with
    |nn=>simp only[aS1]at hlen;exact(aPK (by lia)).symm
    |nc=>simp only[aS1,aR7]at hlen;exact(aRS (by lia)).symm
    |cn=>simp only[aS1,aR7]at hlen;exact(aPK (by lia)).symm
    |eq he hr=>rw[aS0]at hz;cases hz
    |ne he hr=>rw[aS0]at hz;cases hz
   rw[hv]at h
   wp_walk
   exact⟨_,rfl,by simpa[Builtin.Tuple.tupleCompareSizes]using h⟩
  case h=>exact⟨rfl,rfl,items.toList,items2.toList,rfl,hi,by simp[Nat.add_comm]⟩
end
section
variable {A:aVV}{E:VSP}
def aHA{items2:Array aVT}{r:Bool}{Q:VSP}(hl:IsTup s.heap l items)(hb:IsTup s.heap b items2)(hi:LtI (A.in1) s items.toList items2.toList r)(hu:A.units<cLine)(h:Q (.bool r) s):wpAny (model prog w) A (compareOp .Lt (.ref l) (.ref b)) Q E s:=by
 obtain⟨⟨cls,dd,data,sl⟩,ho,hc,n,hd⟩:=id hl;obtain⟨⟨cls2,dd2,data2,sl2⟩,ho2,hc2,n2,hd2⟩:=id hb;simp only at hc hd hc2 hd2;subst hc hd hc2 hd2;exact richCompare_meets_room (op:=.Lt) ⟨_,ho,rfl⟩ ⟨_,ho2,rfl⟩ PySem.F.slot_tuple_lt PySem.F.entry_tuple_lt (PySem.F.args_tuple_lt_2 _ _) (aG9 l b items items2 n n2 dd dd2 sl sl2 r)
  ⟨ho,ho2,hi,show Value.bool r≠Value.notImplemented/\Q (.bool r) s from⟨(λx=>nomatch x),h⟩⟩ hu
end
noncomputable def jQ:List (Md×D)->Option (Md×D):=λxs=>match xs with
 |[(_,.str z)]=>if z.length<=640 then(PySem.intText? z).map λn=>(.fz,.int n)else none
 |_=>qF xs
def aHB:eD X (.type "int") jQ:=by
 obtain⟨r,h1,h2⟩:=aGS (X:=X);refine⟨λxs H Q=>r xs H Q\/∃z n,xs=[.str z]/\z.length<=640/\PySem.intText? z=some n/\Q (.int n) H,?_,λF H xs vs k d Q s rx e w=>?_⟩
 . intro aA s σ H xs us Q I rr h;rcases h with h|⟨z,n,rfl,hl,hn,q⟩
   . exact h1 aA s σ H xs us Q I rr h
   . obtain⟨u,rfl,t,rfl⟩:=eY rr;exact W.KIN.call_text hn hl ⟨.int n,H,I.tok _,⟨_,rfl⟩,q⟩
 . unfold jQ at e;split at e
   . rename_i m z;split at e
     . rename_i hl;cases en:PySem.intText? z with
       |none=>rw[en]at e;cases e
       |some n=>rw[en]at e;cases e;obtain⟨v,rfl,r0⟩:=rx.one;obtain⟨rfl,_⟩:=r0.str;exact .inr ⟨z,n,rfl,hl,en,w _ F H (.refl s) (dR _) (by nofun)⟩
     . cases e
   . exact .inl (h2 F H xs vs k d Q s rx e w)
section
open PySem.SeqAt
open PySem.AutoSeq1 (wpAny_loadPart')
open PySem.MeetsSeq PySem.MeetsSeq2 PySem.MeetsSeq3
variable {A:aVV}{E:VSP}
noncomputable def tIt(l:Addr):Obj:={ cls:=.type "tuple_iterator", data:=.fields #[.ref l,.int 0 0] }
noncomputable def zp2(h:Heap)(l m:Addr):Heap:=(h.push (tIt l)).push (tIt m)
noncomputable def zp3(h:Heap)(l m:Addr):Heap:=(zp2 h l m).push { cls:=.type "tuple", data:=.seq #[.ref h.objs.size,.ref (h.push (tIt l)).objs.size] }
noncomputable def zp4(h:Heap)(l m:Addr):Heap:=(zp3 h l m).push { cls:=.type "tuple", data:=.seq #[.none,.none] }
noncomputable def zp5(h:Heap)(l m:Addr):Heap:=(zp4 h l m).push { cls:=.type "zip", data:=.fields #[.none,.bool false,.bool false,.ref (zp2 h l m).objs.size,.ref (zp3 h l m).objs.size] }
end
section
variable  {p:Pos}
end
open PySem.AutoSeq1 (wpAny_loadPart')
section
variable {A:aVV}{E:VSP}
end
section
variable {K:Fg}{elts:List Expr}{cx:Nat}
end
section
variable  {p:Pos}
end
open PySem.Calls PySem.W
section
variable {A:aVV}{E:VSP}{K:Fg}{x D:Addr}{ox:Obj}{od:Option Obj}
def XAt(h:Heap)(x:Addr)(ox:Obj)(D:Addr):Prop:=h.get? x=some ox/\ox.cls=.ref D
structure XCls(K:Fg)(D:Addr):Prop where
 ga:W.findIn K (.ref D) "__getattribute__" = some (some (.builtin "BaseException.__getattribute__"))
 gn:W.findIn K (.ref D) "__getattr__" = some none
 ca:W.findIn K (.ref D) "__class__" = some (some (.builtin "object.__class__"))
 bx:W.mroIn K D (.type "BaseException")=some true
 ob:W.mroIn K D (.type "object")=some true
 hn:W.specialIn K (.builtin "object.__class__") "__get__" = some (some (.builtin "getset_descriptor.__get__"))
 tk:W.takesIn K (.builtin "object.__class__")=some true
end
open PySem.Calls
structure Fly(P:aVX)(w:aVW)(outer:List Env)(H:Hp)(s:aVU)(H1:Hp)(B hp:Heap):Prop where
 un:Un (frs outer) [] H H1 s.heap hp
 ok:HOk P w H1 hp
 kb:∀b o,hp.get? b=some o->s.heap.get? b≠none->b∉frs outer->B.get? b=some o
 kh:∀b u,H1 b=some u->∃o,hp.get? b=some o/\B.get? b=some o
 fr:∀b∈frs outer,H b=none/\∃o,s.heap.get? b=some o/\∀vs,o.data ≠ .fields vs
section
variable  {H1:Hp}{B:Heap}
def gL:b∉([]:List Addr):=by simp
theorem Fly.slots(f:Fly P w outer H s H1 B hp)(up:hp.UpToSlots h')(hb:b∈frs outer):∃o sl sl',s.heap.get? b=some o/\hp.get? b=some {o with slots:=sl}/\h'.get? b=some {o with slots:=sl'}:=by obtain⟨hn,o,e,nf⟩:=f.fr b hb;obtain⟨sl,e1⟩:=f.un.slot b o e hn hb gL;obtain⟨sl',e2⟩:=up b _ e1 nf;exact⟨o,sl,sl',e,e1,e2⟩
def Fly.on(f:Fly P w outer H s H1 B hp)(st:B.StaysIn h')(up:hp.UpToSlots h'):Fly P w outer H s H1 B h' where
 un:={
  keep:=λb o e n hb _=>st b o (f.kb b o (f.un.keep b o e n hb gL) (by rw[e];exact λz=>nomatch z) hb)
  slot:=λb o e n hb _=>by obtain⟨o',sl,sl',e0,_,e2⟩:=f.slots up hb;rw[e]at e0;cases e0;exact⟨sl',e2⟩
  free:=f.un.free
  there:=λb o e _=>by
   by_cases hb:b∈frs outer
   . obtain⟨o',sl,sl',e0,_,e2⟩:=f.slots up hb;exact⟨_,e2⟩
   . obtain⟨o',e1⟩:=f.un.there b o e gL;exact⟨o',st b o' (f.kb b o' e1 (by rw[e];exact λz=>nomatch z) hb)⟩
  tups:=f.un.tups
  frzs:=f.un.frzs
  tbls:=f.un.tbls }
 ok := fun a o e => (f.ok a o e).stay (fun b u hb q => by
     have:∃u',H1 b=some u':=by
      rcases hb with rfl|hb
      . exact⟨o,e⟩
      . exact⟨_,hb⟩
     obtain⟨u',eu⟩:=this;obtain⟨o',e1,e2⟩:=f.kh b u' eu;rw[q]at e1;cases e1;exact st b u e2) (λ_ q=>q) λ_ _ q=>q
 kb:=λb o e ns hb=>by
  cases e0:s.heap.get? b with
  |none=>exact absurd e0 ns
  |some o0=>obtain⟨o',e1⟩:=f.un.there b o0 e0 gL;have e2:=f.kb b o' e1 ns hb;have e3:=st b o' e2;rw[e]at e3;cases e3;exact e2
 kh:=λb u e=>by obtain⟨o,_,e2⟩:=f.kh b u e;exact⟨o,st b o e2,e2⟩
 fr:=f.fr
end
def CX1(P:aVX)(w:aVW):CXT:=λouter H s E ev s'=>∃(e C:Addr) (a0:aVT) (H1:Hp) (B:Heap),
 ev=.ref e/\s'.os=s.os/\AllBare s'.gens/\Heap.FlyingW B outer e (.ref C) a0 s'.heap/\Fly P w outer H s H1 B s'.heap/\E (.ref C) none H1
section
variable  {H1:Hp}{B:Heap}{E:XK}
def aHC(I:Inv X aA σ H s):∀b∈frs X.stack,H b=none/\∃o,s.heap.get? b=some o/\∀vs,o.data ≠ .fields vs:=λb hb =>
 ⟨I.stkFree b hb,(I.stack.mem hb).2⟩
def Fly.inv(I:Inv X aA σ H s)(f:Fly X.prog X.w X.stack H s H1 B s'.heap)(ho:s'.os=s.os)(hg:AllBare s'.gens):Inv X aA σ H1 s' :=
 Inv.call' (ch:=[]) I ho f.un f.ok hg (λb z=>absurd z gL)
def Fly.out(I:Inv X aA σ H s)(f:Fly X.prog X.w X.stack H s H1 B s'.heap)(ho:s'.os=s.os)(hg:AllBare s'.gens)(hx:X.ex=[])(hs:X.stack=X.env::X.outer)(hf:X.env.frame=some X.env.locals)(st:B.StaysIn h')(up:s'.heap.UpToSlots h'):Fly X.prog X.w X.outer X.H₀ X.s₀ H1 B h':=by
 have I1:=f.inv I ho hg;have f1:=f.on st up;have ub:=I1.base;rw[hx]at ub;have old:∀b o,X.s₀.heap.get? b=some o->∃o',s.heap.get? b=some o':=λb o e=>I.base.there b o e (by rw[hx];exact gL)
 have nl:∀b o,X.s₀.heap.get? b=some o->b≠X.env.locals:=λb o e z=>absurd (aPO e) (by rw[z];exact aSS.mpr I.ok.above)
 have sub:∀b,b∉frs X.outer->b≠X.env.locals->b∉frs X.stack:=λb h1 h2 z=>by
  rcases aPY.mp (I.stkSub b z)with q|q
  . exact h2 q
  . exact h1 q
 have sup:∀b,b∈frs X.outer->b∈frs X.stack:=λb hb=>by rw[hs];unfold frs;rw[aPX,hf];exact mcm hb
 refine⟨⟨λb o e n hb _=>?_,λb o e n hb _=>?_,ub.free,λb o e _=>?_,ub.tups,ub.frzs,ub.tbls⟩,f1.ok,λb o e ns hb=>?_,f1.kh,λb hb=>?_⟩
 . have e1:=ub.keep b o e n hb gL;obtain⟨o',e0⟩:=old b o e;exact st b o (f.kb b o e1 (by rw[e0];exact λz=>nomatch z) (sub b hb (nl b o e)))
 . obtain⟨sl,e1⟩:=ub.slot b o e n hb gL;obtain⟨o',sl1,sl2,e0,e1',e2⟩:=f.slots up (sup b hb);have q:=aP4 (e1.symm.trans e1');refine⟨sl2,?_⟩;rw[e2];obtain⟨c1,d1,t1,l1⟩:=o;obtain⟨c2,d2,t2,l2⟩:=o';simp only[Obj.mk.injEq]at q;obtain⟨rfl,rfl,rfl,_⟩:=q;rfl
 . obtain⟨o',e0⟩:=old b o e;exact f1.un.there b o' e0 gL
 . cases e0:X.s₀.heap.get? b with
   |none=>exact absurd e0 ns
   |some o0=>obtain⟨o',e1⟩:=old b o0 e0;exact f1.kb b o e (by rw[e1];exact λz=>nomatch z) (sub b hb (nl b o0 e0))
 . exact⟨I.ok.frf b hb,(I.ok.funs.mem hb).2⟩
noncomputable def lE(h:Heap)(l:List Env):Heap:=W.hideAll h (frs l)
def Fly.raise(I:Inv X aA σ H s)(hx:X.ex=[])(hs:X.stack=X.env::X.outer)(hf:X.env.frame=some X.env.locals)(st:(lE s.heap X.stack).StaysIn h')(up:s.heap.UpToSlots h'):Fly X.prog X.w X.outer X.H₀ X.s₀ H (lE s.heap X.stack) h':=by
 have f:Fly X.prog X.w X.stack H s H (lE s.heap X.stack) s.heap :=
  ⟨Un.refl,I.hok,λb o e _ hb=>W.hideAll_get _ e hb,λb u e=>by
   have hn:b∉frs X.stack:=λz=>by rw[I.stkFree b z]at e;cases e
   have:∃o,s.heap.get? b=some o:=by
    have:=I.hok b u e;cases u with
    |lst xs=>obtain⟨_,_,_,_,e⟩:=this;exact⟨_,e⟩
    |tup xs=>obtain⟨_,_,_,o,e,_⟩:=this;exact⟨_,e⟩
    |dK kvs=>obtain⟨_,_,_,_,o,_,_,e,_⟩:=this;exact⟨_,e⟩
    |dT kvs=>obtain⟨_,_,_,_,o,_,_,e,_⟩:=this;exact⟨_,e⟩
    |dN kvs=>obtain⟨_,_,_,_,o,_,_,e,_⟩:=this;exact⟨_,e⟩
    |set S n=>obtain⟨o,_,_,_,e,_⟩:=this;exact⟨_,e⟩
    |ins C dx fs=>obtain⟨_,_,_,e,_⟩:=this;exact⟨_,e⟩
    |own y=>obtain⟨_,e⟩:=this;exact⟨_,e⟩
    |xd fs=>obtain⟨_,⟨_,_,_,e,_⟩,_⟩:=this;exact⟨_,e⟩
    |rng lo hi=>obtain⟨_,_,_,e⟩:=this;exact⟨_,e⟩
    |frz ob u=>obtain⟨e,_⟩:=this;exact⟨_,e⟩
    |tbl ps=>obtain⟨_,_,_,e,_⟩:=this;exact⟨_,e⟩
    |crec q=>obtain⟨_,_,_,e,_⟩:=this;exact⟨_,e⟩
    |met f y=>exact⟨_,this⟩
    |ext φ=>obtain⟨_,⟨_,e⟩,_⟩:=this;exact⟨_,e⟩
   obtain⟨o,eo⟩:=this;exact⟨o,eo,W.hideAll_get _ eo hn⟩,aHC I⟩
 exact f.out I rfl I.bare hx hs hf st up
end
noncomputable def vErr:List aVT:=[.type "ValueError", .type "Exception", .type "BaseException", .type "object"]
def wD(K:Fg)(C:Addr):Prop:=W.excIn K C vErr "ValueError.__new__" = true
def RzOk(C:Cw)(X:Cx):Prop:=∀(aA:LAO) (σ:L2.St) (H:Hp) (s:aVU) (c:Str) (Cc:Addr) (vs:List aVT) (h':Heap) (e:Addr),Inv X aA σ H s->X.mg c=some (.ref Cc)->C.EE c σ H ->
 Heap.MadeExcOf s.heap h' e (.ref Cc) vs->X.xe (.ref e) {s with heap:=h'}
section
variable {es:List Expr}{np:Pos}
structure FnCx(X:Cx):Prop where
 hx:X.ex=[]
 hs:X.stack=X.env::X.outer
 hf:X.env.frame=some X.env.locals
end
section
variable {K:Fg}{N:List Str}{f:Addr}{A:aVV}{E:XK}
def fnCx:FnCx (dP (CX1 P w) P w K mg base N qual scope f cdv A outer s H E):=⟨rfl,rfl,rfl⟩
def lF(mg:SOV)(E:XK):XE:=λc _ H'=>∀u,mg c=some u->E u none H'
def aHD(hE:C.EE=lF mg E):XOk (CX1 P w) C (dP (CX1 P w) P w K mg base N qual scope f cdv A outer s H E):=by intro aA σ H1 s1 ev s' I h;obtain⟨e,Cc,a0,H2,B,rfl,ho,hg,fl,fy,c,hm,he⟩:=h;rw[hE]at he;have I0:=I.ok.frames;refine wpAny_leaves_onW I0 rfl fl λh' fl' up=>?_;exact⟨e,Cc,a0,H2,B,rfl,ho.trans I.os,hg,fl',fy.out I ho hg rfl rfl rfl fl'.1 up,he _ hm⟩
def aHE(hE:C.EE=lF mg E):RzOk C (dP (CX1 P w) P w K mg base N qual scope f cdv A outer s H E):=by
 intro aA σ H1 s1 c Cc vs h1 e I hm he made;rw[hE]at he;have I0:=I.ok.frames;have hin:∀env∈(dP (CX1 P w) P w K mg base N qual scope f cdv A outer s H E).stack,∀a,env.frame=some a->a∈frs (dP (CX1 P w) P w K mg base N qual scope f cdv A outer s H E).stack:=λenv he a ha=>aQF.mpr ⟨env,he,ha⟩;have FF:s1.heap.FunFrames (lE s1.heap (dP (CX1 P w) P w K mg base N qual scope f cdv A outer s H E).stack) _:=W.funFrames_hide I.stack hin;have st0:(lE s1.heap (dP (CX1 P w) P w K mg base N qual scope f cdv A outer s H E).stack).StaysIn s1.heap:=λb o q=>W.of_hideAll _ q;refine wpAny_leaves_madeW (s:={s1 with heap:=h1}) I0 rfl st0 FF made λh' t fl _ _ up=>?_
 have up0:s1.heap.UpToSlots h':=(Heap.UpToSlots.of_keeps made.keeps).trans up;exact⟨e,Cc,.ref t,H1,_,rfl,I.os,I.bare,fl,Fly.raise I rfl rfl rfl fl.1 up0,he _ hm⟩
end
structure HX where
 cls:Str
 slot:Option Nat
 g:Rho->aH
noncomputable def inR(i:Option Nat)(c:Str)(ρ:Rho):Rho:=match i with|none=>ρ|some i=>ρ.set i (some (false,.exn c))
def qL(K:Fg)(mg:SOV)(xt:Str->Str->Option Bool):Prop:=∀c x b,xt c x=some b->∃C C2,W.nsIn K mainGlobals c=some (some (.ref C))/\mg c=some (.ref C)/\mg x=some (.ref C2) /\
 W.mroIn K C2 (.type "BaseException")=some true/\W.typeIn K (.ref C2)=some (.type "type")/\W.mroIn K C (.ref C2)=some b
section
variable {e:Addr}
end
section
variable  {H1:Hp}{s0:aVU}{e Cc:Addr}{a0:aVT}{B:Heap}
end
section
variable {D:fO}{hs:List ExceptHandler}{hx:List HX}{xt:Str->Str->Option Bool}
end
def nZ(mg:SOV)(n:Str)(cv:V):Prop:=(∃C,mg n=some (.ref C)/\cv=.ref C)\/(mg n=none/\n ≠ "__name__" /\ ∃T,bootBuiltins n=some (.type T)/\cv=.ty T)
noncomputable def wE:V->aVT|.ref a=>.ref a|.ty T=>.type T|_=>.none
def qM(K:Fg)(mg:SOV)(xis:Str->Str->Option Bool):Prop:=∀c n b,xis c n=some b->∃C cv,W.nsIn K mainGlobals c=some (some (.ref C))/\XCls K C/\nZ mg n cv/\W.kitOne K (.ref C) (wE cv)=some b
section
variable  {p q tp:Pos}{n:Str}{xis:Str->Str->Option Bool}
end
def aHF{K:Fg}{f:Addr}{N:List Str}{g:Rho->aH}(F:Fun K x qual st f fd)(S:nH N ps (fQ st))(hbody:∀(C:Cw) (cdv:aVT),W.codeIn K cdv qual=true->∀(A:aVV) (outer:List Env) (s:aVU) (H:Hp) (E:XK),C.EE=lF mg E->cM k (A.deeper (envOfC qual (fQ st) s.heap.objs.size f cdv))->PBv C (dP (CX1 P w) P w K mg base N qual (fQ st) f cdv A outer s H E) (jG st) g):cU P w K mg base (CX1 P w) (k+1) f fd ps (spV K mg ps.length (phi ps.length N.length g)):=by
 obtain⟨oc,od,kV,doc,pm,an,cdv,ct,osl,rfl,lk,hcd⟩:=F.ex;refine fn_of lk hcd S (λvs H Q E h=>h.1) λA outer s H vs Q E hr h=>?_;obtain⟨hl,F0,ds,sF,rl,h⟩:=h;have hl':ds.length=ps.length:=by rw[<- rl.length];exact hl
 let C:Cw:=⟨K,F0,H,lF mg E⟩
 refine⟨_,hbody C cdv hcd A outer s H E rfl hr,g9 N.length ds,F0,aF6 sF rl,?_⟩;unfold phi at h;rw[if_pos hl']at h;cases er:g (g9 N.length ds)with
 |nx ρ=>rw[er]at h;exact λσ' F' H' _ R=>h.2 .non F' H' R.st vB (by nofun)
 |rt m d=>rw[er]at h;exact λv F' H' s rp fr=>h.2 v F' H' s rp fr
 |bk ρ=>rw[er]at h;exact h.elim
 |ct ρ=>rw[er]at h;exact h.elim
 |exc c ρ=>rw[er]at h;exact λσ' F' H' _ R u hu=>h F' H' u R.st hu
 |stuck=>rw[er]at h;exact h.elim
noncomputable def eF(ρ:Rho)(i:Nat)(r:Res):aH:=match ρ[i]? with
 |some (some (true,.lst ds))=>(aZ r).thS ρ λm d=>match m with|.fz=>if ds.length<sizeLine then .nx (ρ.set i (some (true,.lst (ds++[d]))))else .stuck|_=>.stuck
 |_=>.stuck
def wF{r:Res}{m:Md}{d:D}(h:aZ r=.ok m d):m=.fz:=by
 cases r with
 |ok m' d'=>cases m' <;> cases h <;> rfl
 |exc c=>cases h
 |stuck=>cases h
section
variable  {p ap:Pos}
def aHG(i:Nat)(hv:PE X (.Name x p) (iE i))(he:PV C X e g)(hs:cP e=true)(hline:ap.endLine=cp.line):PSv C X (.Expr (.Call (.Attribute (.Name x p) "append" ap) [e] [] cp) pos) (λρ=>eF ρ i (g ρ)):=by
 have h1 := pe_bm (X := X) (o := .Name x p) (e := e) (es := []) (apos := ap) (cpos := cp) PySem.F.plainAttrs_list PySem.F.slot_list_append PySem.F.type_list_append pX hv (nF (gB he) nE (cX hs)) (qD rfl) (by
     rw[nW _ _ (λy hy=>by simp only[aPY,List.mem_nil_iff,aS2]at hy;subst hy;exact hs)];rfl) (aQM.mpr hline) (cX hs) rfl
 refine PS.imp (aCB h1) λE σ H q=>?_;obtain⟨ρ,F,R,w⟩:=q;dsimp only at w;unfold uF tBM;cases e0:ρ[i]? with
 |none=>unfold eF at w;rw[e0]at w;exact w.elim
 |some o =>
  cases o with
  |none=>unfold eF at w;rw[e0]at w;exact w.elim
  |some bd =>
   obtain⟨b,d0⟩:=bd;cases b with
   |false=>unfold eF at w;rw[e0]at w;exact w.elim
   |true =>
    cases d0 with
    |lst ds =>
     unfold eF at w;rw[e0]at w;dsimp only at w;obtain⟨v0,ev0,rp0,hn0⟩:=R.slot i true _ e0;obtain⟨a,ea,hfa,xs,hh,rl⟩:=rp0;subst ea;refine⟨.ref a,ev0,.inl ⟨rfl,xs,SqL.of hh⟩,?_⟩;unfold kS;refine iK R w λm d v F' H' w' s R' rp fr=>?_;cases m with
     |fr=>exact(show False from w').elim
     |bo=>exact(show False from w').elim
     |fz =>
     dsimp only at w';split at w'
     . rename_i hl;have hh':H' a=some (.lst xs):=s.same _ _ hh;refine⟨a,xs,v,rfl,rfl,hh',by rw[rl.length];exact hl,?_⟩
       exact w' σ F' _ (aG.refl _) (R'.mut e0 ev0 ⟨_,bE,aD.append (rl.mono s.fsame _ _) (aD.cons rp aD.nil)⟩)
     . exact w'.elim
    |_=>unfold eF at w;rw[e0]at w;exact w.elim
end
def Hld(B:Heap)(l:List Env)(e:Addr)(cls a0:aVT)(h:Heap):Prop:=B.StaysIn h/\B.get? e=none/\h.FunFrames B l/\∃fl,h.TracedAtW B e cls a0 fl
section
variable {M:Model}{A:aVV}{E:VSP}{B:Heap}{L e:Addr}{cls a0:aVT}{Q:Unit->aVU->Prop}
def aHH(hfr:A.frames=some (env::outer))(hf:env.frame=some L)(hh:Hld B (env::outer) e cls a0 s.heap)(hQ:∀h',Heap.HeldW B (env::outer) e cls a0 L h'->s.heap.UpToSlots h'->Q () {s with heap:=h'}):wpAny M A (noteFrame (.ref e) env) Q E s:=by
 obtain⟨k1,k2,k3,fl,ht⟩:=hh;by_cases hl:fl=rawInt L
 . subst hl;exact wpAny_noteFrame_againW hf ht (hQ s.heap ⟨k1,k2,k3,ht⟩ (Heap.UpToSlots.refl _))
 obtain⟨oe,xs,T,oT,ys,q1,⟨q2,q3⟩,q4,q5,q6,q7,q8,q9,q10⟩:=ht;subst q2;unfold noteFrame;simp only[hf];refine aQA (aRC q1 q4 q5 ?_);have n1:(Value.ref T != Value.none)=true:=by simp
 have n2:¬ ((fl==rawInt L)=true):=by rw[aQM];exact hl
 rw[if_pos n1];refine aQA (aRC q8 q9 q10 ?_);rw[if_neg n2];obtain⟨lt3,_⟩:=aPU.mp q10;obtain⟨lt1,_⟩:=aPU.mp q5;refine aQA (aS3 q8 q9 lt3 ?_);generalize hg:s.heap.update T (Obj.mapFields λz=>z.setIfInBounds 3 Value.none)=g;have oth:∀b,b≠T->g.get? b=s.heap.get? b:=λb hb=>by rw[<- hg];exact aRM _ _ (Ne.symm hb)
 have plain:∀b o,s.heap.get? b=some o->(∀z,o.data ≠ .fields z)->g.get? b=some o:=λb o w1 w2=>by rw[oth b (by rintro rfl;rw[q8]at w1;cases w1;exact w2 ys q9)];exact w1
 have inB:∀b o,B.get? b=some o->g.get? b=some o:=λb o w=>by rw[oth b (by rintro rfl;rw[q6]at w;cases w)];exact k1 b o w
 refine wpAny_entryW (s:={s with heap:=g}) hfr (k3.of_keeps λb o w1 w2=>⟨o,plain b o w1 w2,rfl⟩) hf (by show g.get? e=_;rw[oth e (Ne.symm q7)];exact q1) inB k2 q4 lt1 q3 λh' hn=>?_
 obtain⟨m1,m2,m3,m4⟩:=hn;exact hQ h' ⟨m1,k2,m2,m3⟩ λb o w1 w2=>m4 b o (plain b o w1 w2) w2
def aHI(hfr:A.frames=some (env::outer))(hf:env.frame=some L)(hh:Hld B (env::outer) e cls a0 s.heap)(hQ:∀h',Heap.FlyingW B outer e cls a0 h'->s.heap.UpToSlots h'->Q () {s with heap:=h'}):wpAny M A (leaving env (.ref e)) Q E s:=by
 unfold leaving;refine aQA (aHH hfr hf hh λh4 held up4=>?_);refine wpAny_landsW (s:={s with heap:=h4}) held λh5 fl up5=>?_
 obtain⟨w1,w2,w3,w4⟩:=fl;exact hQ h5 ⟨w1,w2,w3.2.2,w4⟩ (up4.trans up5)
end
def HX1(P:aVX)(w:aVW):CXT:=λouter H s E ev s'=>∃(e C:Addr) (a0:aVT) (H1:Hp) (B:Heap),
 ev=.ref e/\s'.os=s.os/\AllBare s'.gens/\Hld B outer e (.ref C) a0 s'.heap/\Fly P w outer H s H1 B s'.heap/\E (.ref C) none H1
section
variable {K:Fg}{N:List Str}{f:Addr}{A:aVV}{E:XK}
def aHJ(hE:C.EE=lF mg E):XOk (HX1 P w) C (dP (CX1 P w) P w K mg base N qual scope f cdv A outer s H E):=by intro aA σ H1 s1 ev s' I h;obtain⟨e,Cc,a0,H2,B,rfl,ho,hg,fl,fy,c,hm,he⟩:=h;rw[hE]at he;refine aHI I.ok.frames rfl fl λh' fl' up=>?_;exact⟨e,Cc,a0,H2,B,rfl,ho.trans I.os,hg,fl',fy.out I ho hg rfl rfl rfl fl'.1 up,he _ hm⟩
end
section
variable {D:fO}{hs:List ExceptHandler}{hx:List HX}{xt:Str->Str->Option Bool}
end
section
variable  {H1:Hp}{B:Heap}{Z:Addr}
end
section
variable {XE:VSP}
end
end D3
namespace L2
open D3
section
variable {A:aVV}{R:Result->aVU->Prop}
end
end L2
namespace D3
end D3
namespace PySem
open PySem.Sem (wp)
open Builtin
end PySem
namespace L2
end L2
namespace D3
open PySem.Calls
section
variable  {gk:Rho->Res}{p ap:Pos}
end
section
variable {A:aVV}{R:Result->aVU->Prop}{J:Addr}{wr:List Addr}{P:Nat->aVT->Prop}{St:Nat->Heap->Prop}{ns:List Int}{S:Addr}
end
section
variable {A:aVV}{E:VSP}
end
section
variable  {p q kp:Pos}{j:_}
end
theorem aD.drop{K:Fg}{F:Hp}:∀(n:Nat) {ds:List D}{xs:List V},aD K F ds xs->aD K F (ds.drop n) (xs.drop n)
 |0,_,_,h=>h
 |n+1,[],xs,h=>by simp only[aD]at h;subst h;simp[aD]
 |n+1,d::ds,xs,h=>by simp only[aD]at h;obtain⟨v,vs,rfl,_,t⟩:=h;exact aD.drop n t
theorem aD.take{K:Fg}{F:Hp}:∀(n:Nat) {ds:List D}{xs:List V},aD K F ds xs->aD K F (ds.take n) (xs.take n)
 |0,_,_,_=>by simp[aD]
 |n+1,[],xs,h=>by simp only[aD]at h;subst h;simp[aD]
 |n+1,d::ds,xs,h=>by simp only[aD]at h;obtain⟨v,vs,rfl,r,t⟩:=h;simp only[List.take_succ_cons,aD];exact⟨v,_,rfl,r,aD.take n t⟩
noncomputable def cF(xs:List D)(lo hi:Option Int):List D:=(xs.drop (HT.sIx xs.length 0 lo)).take (HT.sIx xs.length xs.length hi-HT.sIx xs.length 0 lo)
def aD.cut{K:Fg}{F:Hp}(h:aD K F ds xs)(lo hi:Option Int):aD K F (cF ds lo hi) (gK xs lo hi):=by unfold cF gK;rw[h.length];exact(h.drop _).take _
noncomputable def lG(n:Nat)(lo hi:Option Int):Bool:=HT.sIx n 0 lo==0&&HT.sIx n n hi==n
noncomputable def slP(x:Res)(lo hi:Option (Rho->Res))(ρ:Rho):Res:=x.thn λm d=>match d with
 |.str z=>bY lo ρ λl=>bY hi ρ λh=>.ok .fz (.str (Txt.slice z l h))
 |.lst ds=>bY lo ρ λl=>bY hi ρ λh=>.ok .fr (.lst (cF ds l h))
 |.tup ds=>bY lo ρ λl=>bY hi ρ λh=>if(lG ds.length l h&&m != .fz)=true then .stuck else .ok .fz (.tup (cF ds l h))
 |_=>.stuck
section
variable {a:Expr}
def aHK{lo hi:Option Expr}{gl gh:Option (Rho->Res)}(ha:PV C X a ga)(hl:POv C X lo gl)(hh:POv C X hi gh):PV C X (.Subscript a (.Slice lo hi none p2) pos) (λρ=>slP (ga ρ) gl gh ρ):=by
 refine PE.imp (aDP (aE8.or (aDZ.or (aDQ.or aGZ))) ha (vH hl) (vH hh)) λσ H Q q=>?_;unfold tSl;rw[aX]at q ⊢;obtain⟨ρ,F,R,w⟩:=q
 try dsimp only at w
 refine⟨ρ,F,R,?_⟩;cases er:ga ρ with
 |stuck=>rw[er]at w;exact w
 |exc c=>rw[er]at w;exact w
 |ok m d =>
  rw[er]at w;intro v F1 H1 s1 rp _;cases d with
  |str z=>obtain⟨rfl,hz,hk⟩:=rp.str;have w1:aY (C.at X) F1 H1 σ (bY gl ρ λl=>bY gh ρ λh=>.ok .fz (.str (Txt.slice z l h))) Q:=aY.step s1 w;refine jK (R.step s1) w1 λl F2 H2 s2 R2 w2=>jK R2 w2 λh F3 H3 s3 R3 w3=>.inl ?_;exact⟨z,rfl,hz,w3 _ F3 H3 (.refl R3.sub) (jH ⟨aPV (aSE z _ _) hz,aE9 hk⟩) (by nofun)⟩
  |lst ds=>have w1:aY (C.at X) F1 H1 σ (bY gl ρ λl=>bY gh ρ λh=>.ok .fr (.lst (cF ds l h))) Q:=aY.step s1 w;refine jK (R.step s1) w1 λl F2 H2 s2 R2 w2=>jK R2 w2 λh F3 H3 s3 R3 w3=>.inr (.inl ?_);obtain⟨p,xs,rfl,hq,rl⟩:=((rp.step s2).step s3).seqL R3.sub;exact⟨p,xs,rfl,hq,λp' hp'=>w3 (.ref p') F3 _ (aI.fresh _ R3.sub hp') ⟨p',rfl,R3.sub.free hp',_,bE,rl.cut l h⟩ λ_ a ea=>by cases ea;exact hp'⟩
  |tup ds =>
   have w1:aY (C.at X) F1 H1 σ (bY gl ρ λl=>bY gh ρ λh=>if(lG ds.length l h&&m != .fz)=true then .stuck else .ok .fz (.tup (cF ds l h))) Q:=aY.step s1 w;refine jK (R.step s1) w1 λl F2 H2 s2 R2 w2=>jK R2 w2 λh F3 H3 s3 R3 w3=>.inr (.inr ?_);obtain⟨p,xs,rfl,hq,rl⟩:=((rp.step s2).step s3).seqT R3.sub;have lw:lG ds.length l h=true↔HT.sIx xs.length 0 l=0/\HT.sIx xs.length xs.length h=xs.length:=by rw[rl.length];unfold lG;simp
   cases hw:lG ds.length l h with
   |true =>
    cases m with
    |fz =>
     rw[hw,if_neg (by decide)]at w3
     have e:=lw.mp hw;have ec:cF ds l h=ds:=by unfold cF;rw[<- rl.length,e.1,e.2,rl.length,aSW,Nat.sub_zero];exact aS4
     rw[ec]at w3;exact .inr ⟨p,xs,rfl,hq,e,w3 (.ref p) F3 H3 (.refl R3.sub) ((rp.step s2).step s3) (by nofun)⟩
    |fr=>rw[hw,if_pos (by decide)]at w3;exact w3.elim
    |bo=>rw[hw,if_pos (by decide)]at w3;exact w3.elim
   |false =>
    rw[hw,if_neg (by simp)]at w3
    refine .inl ⟨p,xs,rfl,hq,λz=>?_,λp' hp'=>w3 (.ref p') _ _ (aI.laid (.tup (gK xs l h)) R3.sub hp') (aC.tup_of (R3.sub.free hp') (rl.cut l h)) (by nofun)⟩
    rw[lw.mpr z]at hw;cases hw
  |_=>exact(show False from w).elim
end
section
variable {a b:Expr}
noncomputable def n6:List (Md×D)->Option (Md×D)
 |[(_,.dct kvs)]=>some (.fr,.dct kvs)
 |_=>none
def aHL:eD X (.type "dict") n6:=by
 refine⟨λvs H Q=>∃a xs,vs=[.ref a]/\H a=some (.dK xs)/\∀p,H p=none->Q (.ref p) (upd H p (.dK xs)),?_,?_⟩
 . intro aA s σ H vs us Q I r h;obtain⟨a,xs,rfl,hh,q⟩:=h;obtain⟨u,rfl,ru⟩:=eY r;cases(show u=Value.ref a from ru)
   exact aD6 I (.inl hh) λp s' hp I'=>⟨.ref p,_,I',rfl,q p hp⟩
 . intro F H xs vs k d Q s rx e w;unfold n6 at e;split at e
   . rename_i m kvs;cases e;obtain⟨v,rfl,r⟩:=rx.one;obtain⟨a,ys,rfl,hh,rk⟩:=r.dict s;exact⟨a,ys,rfl,hh,λp hp=>w (.ref p) F _ (aI.fresh _ s hp) ⟨p,rfl,s.free hp,ys,bE,rk⟩ λ_ b eb=>by cases eb;exact hp⟩
   . cases e
end
section
variable  {gk:Rho->Res}{p sp:Pos}
end
section
variable {a b:Expr}
end
open PySem.SeqAt PySem.MeetsSeq
def SqT.plain{a:Addr}(I:L2.Inv X aA σ H s)(h:SqT X.K H a xs):∃its:List aVT,aL xs its/\gI s.heap a its.toArray/\xs.length<=sizeLine:=by
 rcases h with h|⟨o,its,n,hk,hc,hd,hs,hz,r⟩
 . obtain⟨z,its,r,p⟩:=h.ok I.hok;exact⟨its,r,p,z⟩
 . exact⟨its.toList,r,⟨o,I.kIn a o hk,hc,hd,n,by simpa using hs⟩,by rw[r.length,aP7];exact hz⟩
section
variable  {o:Expr}{ty:TE}
end
section
variable  {o:Expr}{go:Rho->Res}
end
def TabE(w:aVW)(K:Fg):List (Str×Str)->List DictEntry->Prop
 |[],es=>es=[]
 |(z,f)::r,es=>∃t a es',es=⟨PyData.keyHash w.params z,.str z t,.ref a⟩::es'/\W.nsIn K mainGlobals f=some (some (.ref a))/\TabE w K r es'
structure jR(w:aVW)(K:Fg)(mg:SOV)(x:Str)(tb:List (Str×Str)):Prop where
 ex:∃a ob es ep,mg x=some (.ref a)/\K.lookup a=some ob/\ob.ExactDict/\ob.data=.dict es ep/\TabE w K tb es.toList
 nd:(tb.map (·.1)).Nodup
section
variable  {b:Expr}{es:List Expr}{p:Pos}{tb:List (Str×Str)}
end
def aS.frz{K:Fg}{F:Hp}(R:aS K F0 H0 F H σ ρ){d:D}(e:ρ[i]? = some (some (true,d))):∃F',aG F F'/\aS K F0 H0 F' H σ (ρ.set i (some (false,d))):=by
 obtain⟨v,ev,rp,hn⟩:=R.slot i true d e;obtain⟨x,rfl,nx,t⟩:=rp;obtain⟨o,ho,r⟩:=t.freeze nx;have sm:aG F (upd F x o):=λb u q=>by rw[aP (b0 q nx)];exact q
 have hi:i<ρ.length:=(aP1.mp e).1;refine⟨upd F x o,sm,R.st.freeze (hn rfl x rfl) nx ho,λj m d' ej=>?_,λj k d1 d2 a hjk e1 e2 q1 q2=>?_,by rw[aRN];exact R.len⟩
 . by_cases hj:j=i
   . subst hj;rw[aP2 hi]at ej;cases ej;exact⟨.ref x,ev,r,by nofun⟩
   . rw[aP3 (λz=>hj z.symm)]at ej;obtain⟨v',ev',rp',hn'⟩:=R.slot j m d' ej;refine⟨v',ev',?_,hn'⟩;cases m with
     |false=>exact aC.mono sm _ _ rp'
     |true =>
      obtain⟨a,rfl,na,t'⟩:=rp';have ax:a≠x:=λz=>by subst z;exact R.apart j i d' d a hj ej e ev' ev
      refine⟨a,rfl,by rw[aP ax];exact na,?_⟩
      cases d' with
      |lst ds=>obtain⟨xs,q,rr⟩:=t';exact⟨xs,q,rr.mono sm _ _⟩
      |dct ds=>obtain⟨xs,q,rr⟩:=t';exact⟨xs,q,rr.mono sm _ _⟩
      |ins c fs=>obtain⟨C,dx,gs,n,q,rr⟩:=t';exact⟨C,dx,gs,n,q,rr.mono sm _ _⟩
      |set ks=>obtain⟨S,q,rr⟩:=t';exact⟨S,q,rr⟩
      |dtn ds=>obtain⟨xs,q,rr⟩:=t';exact⟨xs,q,rr.mono sm _ _⟩
      |_=>exact t'.elim
 . have own:∀{j:Nat}{d1:D},(ρ.set i (some (false,d)))[j]? = some (some (true,d1))->ρ[j]? = some (some (true,d1)):=λ{j d1} z=>by
     by_cases hj:j=i
     . subst hj;rw[aP2 hi]at z;cases z
     . rw[aP3 (λy=>hj y.symm)]at z;exact z
   exact R.apart j k d1 d2 a hjk (own e1) (own e2) q1 q2
noncomputable def hG(ρ:Rho)(i:Nat):aH:=match ρ[i]? with
 |some (some (true,d))=>.nx (ρ.set i (some (false,d)))
 |_=>.stuck
def aHM{g:Rho->aH}(h:PBv C X sts g):PBv C X sts (λρ=>(hG ρ i).thn g):=by
 refine PSs.imp h λE σ H q=>?_;obtain⟨ρ,F,R,w⟩:=q;dsimp only at w;unfold hG at w;split at w
 . rename_i d e;obtain⟨F',sm,R'⟩:=R.frz e;exact⟨_,F',R',cE.mono sm w⟩
 . exact w.elim
def Ent(w:aVW):List Str->List (Int×aVT)->Prop
 |[],l=>l=[]
 |x::xs,l=>∃t r,l=(hashStr w x,.str x t)::r/\Ent w xs r
theorem Ent.mem:∀{xs:List Str}{l:List (Int×aVT)},Ent w xs l->∀e∈l,∃x t,x∈xs/\e=(hashStr w x,.str x t)
 |[],l,h,e,he=>by have h:l=[]:=h;subst h;cases he
 |x::xs,l,h,e,he=>by
  obtain⟨t,r,rfl,hr⟩:=h;rcases aPY.mp he with rfl|he
  . exact⟨x,t,mcs,rfl⟩
  . obtain⟨y,u,hy,e1⟩:=hr.mem e he;exact⟨y,u,mcm hy,e1⟩
theorem Ent.mem':∀{xs:List Str}{l:List (Int×aVT)},Ent w xs l->∀x∈xs,∃t,(hashStr w x,.str x t)∈l
 |x::xs,l,h,y,hy=>by
  obtain⟨t,r,rfl,hr⟩:=h;rcases aPY.mp hy with rfl|hy
  . exact⟨t,mcs⟩
  . obtain⟨u,hu⟩:=hr.mem' y hy;exact⟨u,mcm hu⟩
theorem Ent.length:∀{xs:List Str}{l:List (Int×aVT)},Ent w xs l->l.length=xs.length
 |[],l,h=>by have h:l=[]:=h;subst h;rfl
 |x::xs,l,h=>by obtain⟨t,r,rfl,hr⟩:=h;simp[hr.length]
theorem Ent.snoc:∀{xs:List Str}{l:List (Int×aVT)}{x:Str}{t:Tok},Ent w xs l->Ent w (xs++[x]) (l++[(hashStr w x,.str x t)])
 |[],l,x,t,h=>by have h:l=[]:=h;subst h;exact⟨t,[],rfl,rfl⟩
 |y::xs,l,x,t,h=>by obtain⟨u,r,rfl,hr⟩:=h;exact⟨u,_,rfl,hr.snoc⟩
def Ent.perm{l l':List (Int×aVT)}(p:l'.Perm l):∀{xs:List Str},Ent w xs l->∃ys:List Str,ys.Perm xs/\Ent w ys l':=by
 induction p with
 |nil=>exact λh=>⟨_,.refl _,h⟩
 |cons e _ ih =>
  intro xs h;cases xs with
  |nil=>cases(show _::_=[]from h)
  |cons x xs=>obtain⟨t,r,e1,hr⟩:=h;cases e1;obtain⟨ys,p1,h1⟩:=ih hr;exact⟨x::ys,p1.cons x,t,_,rfl,h1⟩
 |swap a b l =>
  intro xs h;cases xs with
  |nil=>cases(show _::_=[]from h)
  |cons x xs =>
   obtain⟨t,r,e1,hr⟩:=h;cases e1;cases xs with
   |nil=>cases(show _::_=[]from hr)
   |cons y xs=>obtain⟨u,r',e2,hr'⟩:=hr;cases e2;exact⟨y::x::xs,.swap x y xs,u,_,rfl,t,_,rfl,hr'⟩
 |trans _ _ ih1 ih2=>intro xs h;obtain⟨ys,p1,h1⟩:=ih2 h;obtain⟨zs,p2,h2⟩:=ih1 h1;exact⟨zs,p2.trans p1,h2⟩
def lH{t:Tok}:(PySem.strKind P w).is x (.str y t)=decide (y=x):=by show Value.isStrOf x (.str y t)=_;rw[Bool.eq_iff_iff];simp[Value.isStrOf]
def Ent.elems{xs:List Str}{l:List (Int×aVT)}(h:Ent w xs l):ElemsOf (PySem.strKind P w) l:=λe he=>by obtain⟨x,t,_,rfl⟩:=h.mem e he;exact⟨⟨x,by rw[lH];simp,rfl⟩,rfl⟩
noncomputable def eU(w:aVW):Bool:=w.params.followText "set-order"
def cB(w:aVW)(h:Heap)(a:Addr)(xs:List Str):Prop:=∃o es ep t,h.get? a=some o/\o.ExactSet/\o.data=.set es ep t/\Ent w xs es.toList/\xs.Nodup/\xs.length<scanBound/\t.fits es.size=true/\t.led = !eU w/\(xs=[]\/t.plain=false)
def aHN{t:SetTable}:(t.orStandIn n).led=t.led/\((t.orStandIn n).plain=true->t.plain=true):=by
 unfold SetTable.orStandIn;split
 . exact⟨rfl,id⟩
 . exact⟨rfl,λh=>by cases h⟩
def aHO{t:SetTable}{es:Array (Int×aVT)}{h:Int}{x:aVT}:(layNew t es h x).2.1.led=t.led/\((layNew t es h x).2.1.plain=true->t.plain=true):=by
 unfold layNew;split
 . exact aHN (t:=(t.put _).1)
 . exact⟨rfl,λh=>by cases h⟩
def aHP{t:SetTable}{es:Array (Int×aVT)}:(relayAll t es n).2.1.led=t.led/\((relayAll t es n).2.1.plain=true->t.plain=true):=by
 unfold relayAll;split
 . rename_i t' order e;have e':t'.led=t.led/\t'.plain=t.plain:=by
     unfold SetTable.relaid SetTable.laid at e;cases hl:SetTable.layClean (SetTable.sizeAbove n-1) (es.map (·.1))with
     |none=>rw[hl]at e;cases e
     |some ow=>rw[hl]at e;cases e;exact⟨rfl,rfl⟩
   dsimp only;split
   . exact⟨e'.1,λh=>by rw[<- e'.2];exact h⟩
   . exact⟨rfl,λh=>by cases h⟩
 . exact⟨rfl,λh=>by cases h⟩
section
variable {A:aVV}{E:VSP}
def aHQ(b:Bool){s₁:aVU}{Q':Unit->aVU->Prop}(hq:Q' () s₁):wpAny (model prog w) A (match b with|true=>rule "set.scan.the-table-gave-way" |false=>pure ()) Q' E s₁:=by
 cases b with
 |true=>exact aR1 hq
 |false=>exact aP9 hq
def wG(P:aVX){a:Addr}{o:Obj}{es:Array (Int×aVT)}{t:SetTable}(ho:h.get? a=some o)(hex:o.ExactSet)(hd:o.data=.set es ep t){es':Array (Int×aVT)}{t':SetTable}{xs:List Str}(he:Ent w xs es'.toList)(hn:xs.Nodup)(hb:xs.length<scanBound)(hf:t'.fits es'.size=true)(hl:t'.led = !eU w)(hp:xs=[]\/t'.plain=false):(h.update a (Obj.putSet es' t')).get? a=some {o with data:=.set es' (ep+1) t'}/\cB w (h.update a (Obj.putSet es' t')) a xs:=by
 have hs:es'.size=xs.length:=by rw[<- aP7];exact he.length
 have g:=(SetOf_store (knd:=PySem.strKind P w) (S':=λk=>decide (∃e∈es'.toList,(PySem.strKind P w).is k e.2=true)) ho hex hd he.elems (λk=>by simp) (by rw[hs];exact hb) hf).1
 exact⟨g,_,es',ep+1,t',g,hex,rfl,he,hn,hb,hf,hl,hp⟩
def wH (g : Bool → Sem Unit) (hg : ∀ (b : Bool) {s₁ : aVU} {Q' : Unit → aVU → Prop}, Q' () s₁ → wpAny (model prog w) A (g b) Q' E s₁) {a : Addr} {o : Obj} {es : Array (Int × aVT)} {ep : Nat} {t : SetTable} (ho : s.heap.get? a = some o) (hex : o.ExactSet) (hd : o.data = .set es ep t) {es1 : Array (Int × aVT)} {t2 : SetTable} {xs : List Str} (he : Ent w xs es1.toList) (hn : xs.Nodup) (hb : xs.length < scanBound) (hf : t2.fits es1.size = true) (hl : t2.led = !eU w) (hp : t2.plain = false) {wasDummy : Bool} {R : Option Bool → aVU → Prop} (h : ∀ h' ys, Heap.SameBut a s.heap h' → cB w h' a ys → ys.Perm xs → R (some true) { s with heap := h' }) :
    wpAny (model prog w) A (do
        storeSet a es1 t2
        if (!wasDummy && t2.tooFull) = true then do
            g (relayAll t2 es1 (SetTable.grown es1.size)).2.2
            storeSet a (relayAll t2 es1 (SetTable.grown es1.size)).1 (relayAll t2 es1 (SetTable.grown es1.size)).2.1
            pure (some true)
         else pure (some true)) R E s:=by
 have z:∀{l:Array (Int×aVT)}{ys:List Str},Ent w ys l.toList->ys.length<scanBound->l.size<=sizeLine:=λq1 q2=>fits_of_scanBound (by rw[<- aP7,q1.length];exact q2)
 obtain⟨g1,X1⟩:=wG prog ho hex hd he hn hb hf hl (.inr hp);refine aQA (aS5 ho hd ?_ (z he hb));have sb:=aS6 s.heap a (Obj.putSet es1 t2);split
 . have pm:=relayAll_perm t2 es1 (SetTable.grown es1.size);have ft:=relayAll_fits t2 es1 (SetTable.grown es1.size);have fl:=aHP (t:=t2) (es:=es1) (n:=SetTable.grown es1.size);generalize relayAll t2 es1 (SetTable.grown es1.size)=R1 at *;obtain⟨es2,t3,gv⟩:=R1;dsimp only at pm ft fl ⊢;obtain⟨ys,p1,e2⟩:=he.perm pm;have pl:t3.plain=false:=by
     cases q:t3.plain with
     |false=>rfl
     |true=>rw[fl.2 q]at hp;cases hp
   have yb:ys.length<scanBound:=by rw[p1.length_eq];exact hb
   obtain⟨_,X2⟩:=wG prog g1 hex rfl e2 (p1.symm.nodup hn) yb ft (fl.1.trans hl) (.inr pl);refine aQA (hg gv ?_);exact aQA (aS5 g1 rfl (aP9 (h _ ys (sb.trans (aS6 _ a _)) X2 p1)) (z e2 yb))
 . exact aP9 (h _ xs sb X1 (.refl _))
def add_x{a:Addr}{xs:List Str}{tk:Tok}(h:cB w s.heap a xs)(hr:xs.length+1<scanBound)(hq:∀h' ys,Heap.SameBut a s.heap h'->cB w h' a ys->ys.Perm (if x∈xs then xs else xs++[x])->Q (!decide (x∈xs)) {s with heap:=h'}):wpAny (model prog w) A (setAddHashed a (.str x tk) (hashStr w x)) Q E s:=by
 obtain⟨o,es,ep,t,ho,hex,hd,he,hn,hb,hf,hl,hp⟩:=id h;have el:ElemsOf (PySem.strKind prog w) es.toList:=he.elems;have hz:es.size=xs.length:=by rw[<- aP7];exact he.length
 have hk:(PySem.strKind prog w).is x (.str x tk)=true:=by rw[lH];simp
 unfold setAddHashed setAddHashedIn;refine aRE (aQA (aS7 ho hd hf ?_));dsimp only;rw[byScan_of (knd:=PySem.strKind prog w) (x:=.str x tk) rfl (by rw[hz];exact hb) el]
 simp only[↓reduceIte];unfold setAddByScan;refine aQA (aQA (aR1 (aQA (wpAny_setScan_of (knd:=PySem.strKind prog w) hk ho hd hf el ?_))));cases hf':List.findIdx? (λe=>(PySem.strKind prog w).is x e.2) es.toList with
 |some j =>
  dsimp only;obtain⟨hj,hpj,_⟩:=List.findIdx?_eq_some_iff_getElem.mp hf';obtain⟨y,u,hy,ey⟩:=he.mem _ (aS8 hj);rw[ey,lH,aR8]at hpj;subst hpj;have:=hq s.heap xs (aSU a s.heap) h (by rw[if_pos hy])
  rw[aRS hy]at this;exact aP9 (aP9 this)
 |none =>
  dsimp only;have nx:¬ x∈xs:=λhx=>by obtain⟨u,hu⟩:=he.mem' x hx;have:=List.findIdx?_eq_none_iff.mp hf' _ hu;rw[lH]at this;simp at this
  have pm:=layNew_perm t es (hashStr w x) (.str x tk);have ft:=layNew_fits t es (hashStr w x) (.str x tk);have fl:=aHO (t:=t) (es:=es) (h:=hashStr w x) (x:=.str x tk);show wpAny _ _ (match layNew t es (hashStr w x) (.str x tk)with|(es,t,wasDummy,gave)=>_) _ _ _
  generalize layNew t es (hashStr w x) (.str x tk)=L at *;obtain⟨es1,t1,wd,gv⟩:=L;dsimp only at pm ft fl ⊢;rw[aR0]at pm;obtain⟨ys,p1,e1⟩:=(he.snoc (x:=x) (t:=tk)).perm pm;have yn:ys.Nodup:=p1.symm.nodup (aS9.mpr ⟨hn,by simp,λa ha b hb e=>by rw[aSZ]at hb;subst hb;subst e;exact nx ha⟩)
  have yb:ys.length<scanBound:=by rw[p1.length_eq,aQ1];simpa using hr
  have fin:∀h' zs,Heap.SameBut a s.heap h'->cB w h' a zs->zs.Perm ys->Q true {s with heap:=h'}:=λh' zs q1 q2 q3=>by
   have:=hq h' zs q1 q2 (by rw[if_neg nx];exact q3.trans p1)
   rw[aPK nx]at this;exact this
  refine aQA ?_;have gg:∀(b:Bool) {s₁:aVU}{Q':Unit->aVU->Prop},Q' () s₁->wpAny (model prog w) A (match b with|true=>rule "set.scan.the-table-gave-way" |false=>pure ()) Q' E s₁:=λb _ _ q=>aHQ b q
  refine gg _ ?_;split
  . refine aQA ?_;rw[hashByValue_scannable 8 (x:=.str x tk) rfl];refine aP9 ?_;refine wH _ gg (t2:={t1 with plain:=false}) ho hex hd e1 yn yb (SetTable.fits_plain_off ft) (fl.1.trans hl) rfl ?_
    exact λh' zs q1 q2 q3=>aP9 (fin h' zs q1 q2 q3)
  . rename_i np;refine aQA (aP9 ?_);refine wH _ gg (t2:=t1) ho hex hd e1 yn yb ft (fl.1.trans hl) (by cases q:t1.plain with|true=>exact absurd q np|false=>rfl) ?_
    exact λh' zs q1 q2 q3=>aP9 (fin h' zs q1 q2 q3)
end
def qN:plainId "set.update.loop" = true:=by decide +kernel
def wI:entryFor table "set.update.loop" = some Builtin.«set.update.loop»:=entryFor_of_tree (by kernel_rfl)
def aHR(a:aVT):checkTypeCall "set" ⟨[a],[]⟩=pure ():=by kernel_rfl
def aHS(a:aVT):checkBuiltinCall "set.__new__" ⟨[.type "set", a],[]⟩=pure ():=by kernel_rfl
def cB.kept{a:Addr}{xs:List Str}(x:cB w h a xs)(k:∀o,h.get? a=some o->h'.get? a=some o):cB w h' a xs:=by obtain⟨o,es,ep,t,ho,r⟩:=x;exact⟨o,es,ep,t,k o ho,r⟩
section
variable {A:aVV}{E:VSP}
def aHT{a:Addr}{xs:List Str}{tk:Tok}(h:cB w s.heap a xs)(hr:xs.length+1<scanBound)(hq:∀h' ys,Heap.SameBut a s.heap h'->cB w h' a ys->ys.Perm (if x∈xs then xs else xs++[x])->Q (!decide (x∈xs)) {s with heap:=h',toks:=s.toks+1}):wpAny (model prog w) A (setAdd a (.str x tk)) Q E s:=by
 unfold setAdd;refine aRE (aQA ((PySem.strKind prog w).pyHash (k:=x) (v:=.str x tk) (by rw[lH];simp) ?_))
 exact add_x (s:={s with toks:=s.toks+1}) h hr hq
end
noncomputable def sob(w:aVW):Obj:={ cls:=.type "set", dict:=none,data:=.set #[] 0 (.fresh 0 0 (!eU w)) }
def sob_x{a:Addr}(g:h.get? a=some (sob w)):cB w h a [] :=
 ⟨_,#[],0,_,g,⟨rfl,rfl,rfl⟩,rfl,rfl,aTA,by decide,rfl,rfl,.inl rfl⟩
section
variable {A:aVV}{E:VSP}
def aHU(v:aVT){Q1:VSP}(h:Q1 (.ref s.heap.objs.size) {s with heap:=s.heap.push (sob w)}):codeAny (model prog w) A (.call (.builtin "set.__new__") ⟨[.type "set", v],[]⟩) (wants Q1 E) s:=by
 refine codeAny_call_builtin_code (aTB PySem.F.plain_set_new _) (aTC (aHS v) (aTD PySem.F.entry_set_new ?_));rw[aTE PySem.F.plain_set_new _];have sub:=sub_set_self;obtain⟨hp,g,d,tk,os⟩:=s;unfold Builtin.«set.__new__» Builtin.Frozenset.newClass;dsimp only
 wp_walk
 refine aTF (aP9 ?_);dsimp only;simp only[newObj];exact aQA (wpAny_alloc (aP9 (aP9 h)))
def aHV{M:Model}{self v:aVT}{Q:Unit->aVU->Prop}(ty:s.TypeIs self "set")(q:Q () s):wpAny M A (checkBuiltinCall "set.__init__" ⟨[self,v],[]⟩) Q E s:=by
 unfold checkBuiltinCall;simp only[kind_set_init,split_set_init,sig_set_init];refine aQA (aR3 ty sub_set_self ?_);simp only[aR4,aR5,↓reduceIte];unfold Bind.checkArgs;dsimp only;refine aQA (m:=Bind.printed "set" true _ _) (printed_name (by decide) (aQA (m:=Bind.printed "*" false _ _) (printed_star (self:=self) rfl ty λsh=>?_)))
 have e1:(if(Manifest.Receiver.self==Manifest.Receiver.none)=true then[self,v].length else[self,v].length-1)=1:=rfl;rw[e1,aRQ,show Bind.check ⟨.positional,"set", "*", .self,[⟨"iterable", .posOnly,false⟩]⟩ "set" sh 1 []=pure ()from by kernel_rfl]
 exact aP9 q
end
def Small(m:Nat):Prop:=m=7\/m=15\/m=31
section
variable {m:Nat}{ow:Array (Option Nat)}
end
def SetM(w:aVW)(h:Heap)(a:Addr)(xs:List Str):Prop:=∃o es ep t,h.get? a=some o/\o.ExactSet/\o.data=.set es ep t/\Ent w xs es.toList/\xs.Nodup/\xs.length<scanBound/\t.fits es.size=true/\t.led = !eU w/\(xs=[]\/t.plain=false)/\Small t.mask/\t.dummies = #[]
theorem qO{α:Type}:∀{l:List α}{i:Nat} (h:i<l.length),(l[i]::l.eraseIdx i).Perm l
 |[],i,h=>by simp at h
 |a::l,0,h=>.refl _
 |a::l,i+1,h=>by
  have hi:i<l.length:=by simpa using h
  exact(List.Perm.swap a l[i] _).trans ((qO hi).cons a)
theorem wJ{α:Type}{next:Nat->Nat}:∀{f k:Nat}{left:List α}{out:Array α},left.length=f->(pickOrder.go next f k left out).toList.Perm (out.toList++left)
 |0,k,left,out,h=>by have:left=[]:=List.length_eq_zero_iff.mp h;subst this;unfold pickOrder.go;simp
 |f+1,k,left,out,h=>by
  have hl:next k % left.length<left.length:=Nat.mod_lt _ (by lia)
  unfold pickOrder.go;rw[aSK hl];dsimp only;refine(wJ (by rw[List.length_eraseIdx,if_pos hl];lia)).trans ?_
  rw[aR0,aTG];exact aTH _ (qO hl)
def n8{next:Nat->Nat}{xs:Array α}:(pickOrder next xs).toList.Perm xs.toList:=by unfold pickOrder;simpa using wJ (next:=next) (f:=xs.size) (k:=0) (left:=xs.toList) (out:=#[]) rfl
section
variable {A:aVV}{E:VSP}
def hO(q:Q (eU w) s):wpAny (model prog w) A setsByText Q E s:=by unfold setsByText;exact aQA (aTF (aP9 q))
def Wide(h:Heap)(a:Addr)(n:Nat):Prop:=∀o es ep t,h.get? a=some o->o.data=.set es ep t->n<=t.mask
end
def cB.ty{a:Addr}{xs:List Str}(x:cB w s.heap a xs):s.TypeIs (.ref a) "set" := by obtain⟨o,es,ep,t,ho,hex,r⟩:=x;exact⟨o,ho,hex.1⟩
section
variable {A:aVV}{E:VSP}
def aHW{Q:VSP}(q:Q (.ref s.heap.objs.size) {s with heap:=s.heap.push (sob w)}):wpAny (model prog w) A (newSet (.type "set")) Q E s:=by unfold newSet;refine aQA (hO ?_);dsimp only;simp only[newObj];exact aQA (wpAny_alloc (aP9 q))
end
def fW:Slot "set_iterator" "__next__" "set_iterator.__next__" := .of (owner := "set_iterator") (n := "__next__") (by rw[typeLookup_type,builtinLookup_eq_fast];kernel_rfl) (by decide +kernel) (by decide +kernel) (by decide +kernel) (by first|exact .inl (by decide +kernel)|exact .inr (by decide +kernel)) (by rw[aTI];kernel_rfl)
def n9:entryFor table "set_iterator.__next__" = some Builtin.«set_iterator.__next__»:=entryFor_of_tree (by kernel_rfl)
def wK:Manifest.owners.lookup (String.ofList "rotareti_tes".toList.reverse)=some Manifest.sig_set_iterator:=by kernel_rfl
def oA(a:aVT):argsOk "set_iterator.__next__" ⟨[a],[]⟩:=by unfold argsOk;rw[signature?_of (id := "set_iterator.__next__") (n := "__txen__".toList) (o := "rotareti_tes".toList) (by kernel_rfl) wK];kernel_rfl
def wL:Slot "set_iterator" "__iter__" "set_iterator.__iter__" := .of (owner := "set_iterator") (n := "__iter__") (by rw[typeLookup_type,builtinLookup_eq_fast];kernel_rfl) (by decide +kernel) (by decide +kernel) (by decide +kernel) (by first|exact .inl (by decide +kernel)|exact .inr (by decide +kernel)) (by rw[aTI];kernel_rfl)
def aHX(a:aVT):argsOk "set_iterator.__iter__" ⟨[a],[]⟩:=by unfold argsOk;rw[signature?_of (id := "set_iterator.__iter__") (n := "__reti__".toList) (o := "rotareti_tes".toList) (by kernel_rfl) wK];kernel_rfl
def aHY:entryFor table "set.__iter__" = some Builtin.«frozenset.__iter__»:=entryFor_alias (id' := "frozenset.__iter__") (by kernel_rfl) rfl (by decide +kernel) (by kernel_rfl)
def aHZ:entryFor table "set_iterator.__iter__" = some Builtin.«dict_keyiterator.__iter__»:=entryFor_alias (id' := "dict_keyiterator.__iter__") (by kernel_rfl) rfl (by decide +kernel) (by kernel_rfl)
def SIt(h:Heap)(I a:Addr)(f:aVT)(i n ep:Nat):Prop:=∃o,h.get? I=some o/\o.cls=.type "set_iterator" /\ o.data=.fields #[f,.int i 0,.ref a,.int n 0,.int ep 0]
def SIt.ty{a:Addr}{f:aVT}(x:SIt s.heap I a f i n ep):s.TypeIs (.ref I) "set_iterator" := let⟨o,h1,h2,_⟩:=x;⟨o,h1,h2⟩
def SIt.at{a:Addr}{f:aVT}(x:SIt h I a f i n ep)(k:∀o,h.get? I=some o->h'.get? I=some o):SIt h' I a f i n ep:=let⟨o,h1,r⟩:=x;⟨o,k o h1,r⟩
section
variable {A:aVV}{E:VSP}{a:Addr}{o:Obj}{es:Array (Int×aVT)}{t:SetTable}
def qP{f:aVT}{Q:VSP}(x:SIt s.heap I a f i n ep)(q:Q (.ref I) s):wpAny (model prog w) A (pyIter (.ref I)) Q E s:=by refine aTJ x.ty wL (aRH wL x.ty aHZ ?_ (aHX _));show wpAny _ _ (ret (.ref I)) _ _ s;exact aP9 ⟨_,rfl,"set_iterator", _,x.ty,fW.lookup,q⟩
def aH0 {β : Type} {m : Sem β} {f f' : aVT} {o : Obj} (h0 : s.heap.get? I = some o) (hc : o.cls = .type "set_iterator") (hd : o.data = .fields #[f, .int i 0, .ref a, .int n 0, .int ep 0]) {Q : β → aVU → Prop}
    (q:∀h',Heap.SameBut I s.heap h'->SIt h' I a f' (i+1) n ep->wpAny (model prog w) A m Q E {s with heap:=h'}):wpAny (model prog w) A (do setField (.ref I) 0 f';setField (.ref I) 1 (rawInt (i+1));m) Q E s:=by
 refine aQA (aS3 h0 hd (by simp) ?_)
 have g1:=aRL (Obj.mapFields (·.setIfInBounds 0 f')) h0 (aTK (aTL hd _));have d1:=aTL hd (·.setIfInBounds 0 f');refine aQA (aS3 (s:={s with heap:=s.heap.update I (Obj.mapFields (·.setIfInBounds 0 f'))}) g1 d1 (by simp) (q _ ((aS6 _ I _).trans (aS6 _ I _)) ?_))
 refine⟨_,aRL _ g1 (aTK (aTL d1 _)),(aTM ..).trans ((aTM ..).trans hc),?_⟩;rw[aTL d1];simp[rawInt]
def aH1{f:aVT}{o:Obj}(h0:s.heap.get? I=some o)(hc:o.cls=.type "set_iterator")(hd:o.data=.fields #[f,.int i 0,.ref a,.int n 0,.int ep 0]){Q:Unit->aVU->Prop}(q:∀h',Heap.SameBut I s.heap h'->SIt h' I a f (i+1) n ep->Q () {s with heap:=h'}):wpAny (model prog w) A (setField (.ref I) 1 (rawInt (i+1))) Q E s:=by
 refine aS3 h0 hd (by simp) (q _ (aS6 _ I _) ⟨_,aRL _ h0 (aTK (aTL hd _)),(aTM ..).trans hc,?_⟩)
 rw[aTL hd];simp[rawInt]
def wM {P : PySem.Fin → aVU → Prop} {Q : Option aVT → aVU → Prop} (hh : A.handled = none) (q : ∀ h', (∀ b o, s.heap.get? b = some o → h'.get? b = some o) → Q none { s with heap := h' }) :
    wpAny (model prog w) A.in1 (do let e <- newExc (.type "StopIteration") [];raiseNew e) P (λe s'=>wpAny (model prog w) A (do let c <- isInstance e (.type "StopIteration");if c=true then pure none else throw e) Q E s') s:=by
 refine aQA ?_;simp only[newExc,newTuple];refine aQA (aRK (aQA (m:=firstArgMember _ _) (aTC (a:=Value.none) (by first|rfl|(simp only[firstArgMember];rfl)) (aRK ?_ (by size_fits)))) (by size_fits))
 simp only[raiseNew];refine aQA (wpAny_handled ?_);rw[show A.in1.handled=none from hh]
 refine aQA (aP9 (wpAny_throw (aQA ?_)));exact aR3 (T := "StopIteration") (b:=true) ⟨_,aPN _ rfl,rfl⟩ isSubtype_stop (aP9 (q _ λb o e=>hps (hps e)))
def wN{k':Nat}{x:aVT}{Q:Option aVT->aVU->Prop}(X:SIt s.heap I a (.int k 0) i es.size ep)(ho:s.heap.get? a=some o)(hd:o.data=.set es ep t)(hf:t.fits es.size=true)(hn:∀{A':aVV}{E':VSP}{Q':Option (aVT×Nat)->aVU->Prop},Q' (some (x,k')) s->wpAny (model prog w) A' (setNext a k i ep) Q' E' s)(q:∀h',Heap.SameBut I s.heap h'->SIt h' I a (.int k' 0) (i+1) es.size ep->Q (some x) {s with heap:=h'}):wpAny (model prog w) A (pyNext (.ref I)) Q E s:=by obtain⟨oI,h0,hc,hdI⟩:=id X;unfold pyNext;refine aQA (aTN (aRF (name:=Str.ofString "__next__") X.ty fW (aRH fW X.ty n9 ?_ (oA _))));unfold Builtin.«set_iterator.__next__»;refine aQA (m:=slotArgs _ _ _) (aP9 (aQA (aTO h0 hdI ?_)));dsimp only;refine aQA (aTP ho hd hf ?_);simp only[aTQ,aR5,↓reduceIte,aQ9];refine aQA (hn ?_);dsimp only;exact aH0 h0 hc hdI λh' sb X'=>aP9 ⟨_,rfl,aP9 (q h' sb X')⟩
def wO{Q:Option aVT->aVU->Prop}(hh:A.handled=none)(X:SIt s.heap I a (.int k 0) i es.size ep)(ho:s.heap.get? a=some o)(hd:o.data=.set es ep t)(hf:t.fits es.size=true)(hn:∀{A':aVV}{E':VSP}{Q':Option (aVT×Nat)->aVU->Prop},Q' none s->wpAny (model prog w) A' (setNext a k i ep) Q' E' s)(q:∀h',(∀b o,b≠I->s.heap.get? b=some o->h'.get? b=some o)->Q none {s with heap:=h'}):wpAny (model prog w) A (pyNext (.ref I)) Q E s:=by
 obtain⟨oI,h0,hc,hdI⟩:=id X;unfold pyNext;refine aQA (aTN (aRF (name:=Str.ofString "__next__") X.ty fW (aRH fW X.ty n9 ?_ (oA _))));unfold Builtin.«set_iterator.__next__»;refine aQA (m:=slotArgs _ _ _) (aP9 (aQA (aTO h0 hdI ?_)));dsimp only;refine aQA (aTP ho hd hf ?_);simp only[aTQ,aR5,↓reduceIte,aQ9];refine aQA (hn ?_);dsimp only;refine aQA (aS3 h0 hdI (by simp) (wM hh λh' k'=>q h' λb o' nb e=>k' b o' ?_))
 exact(aS6 s.heap I _).extBut b o' nb e
def aH2{ps:Array aVT}{p:Nat}{u:Tok}{hx:Int}{x:aVT}{Q:Option aVT->aVU->Prop}(X:SIt s.heap I a (.ref tp) i es.size ep)(ht:s.heap.IsTuple tp ps)(hp:ps[i]? = some (.int p u))(ho:s.heap.get? a=some o)(hd:o.data=.set es ep t)(hf:t.fits es.size=true)(hx:es[p]? = some (hx,x))(q:∀h',Heap.SameBut I s.heap h'->SIt h' I a (.ref tp) (i+1) es.size ep->Q (some x) {s with heap:=h'}):wpAny (model prog w) A (pyNext (.ref I)) Q E s:=by obtain⟨oI,h0,hc,hdI⟩:=id X;obtain⟨ot,hot,hct,nt,hdt⟩:=ht;unfold pyNext;refine aQA (aTN (aRF (name:=Str.ofString "__next__") X.ty fW (aRH fW X.ty n9 ?_ (oA _))));unfold Builtin.«set_iterator.__next__»;refine aQA (m:=slotArgs _ _ _) (aP9 (aQA (aTO h0 hdI ?_)));dsimp only;refine aQA (aTP ho hd hf ?_);simp only[aTQ,aR5,↓reduceIte,aQ9];refine aQA (wpAny_seqItems hot hdt ?_);dsimp only;rw[hp];dsimp only;unfold setNextDrawn;refine aQA (aQA (aS7 ho hd hf ?_));simp only[aTQ,aR5,↓reduceIte,aQ9,hx];refine aP9 (aQA (aH1 h0 hc hdI λh' sb X'=>aP9 ⟨_,rfl,aP9 (q h' sb X')⟩))
def aH3{ps:Array aVT}{Q:Option aVT->aVU->Prop}(hh:A.handled=none)(X:SIt s.heap I a (.ref tp) i es.size ep)(ht:s.heap.IsTuple tp ps)(hp:ps[i]? = none)(ho:s.heap.get? a=some o)(hd:o.data=.set es ep t)(hf:t.fits es.size=true)(q:∀h',(∀b o,b≠I->s.heap.get? b=some o->h'.get? b=some o)->Q none {s with heap:=h'}):wpAny (model prog w) A (pyNext (.ref I)) Q E s:=by
 obtain⟨oI,h0,hc,hdI⟩:=id X;obtain⟨ot,hot,hct,nt,hdt⟩:=ht;unfold pyNext;refine aQA (aTN (aRF (name:=Str.ofString "__next__") X.ty fW (aRH fW X.ty n9 ?_ (oA _))));unfold Builtin.«set_iterator.__next__»;refine aQA (m:=slotArgs _ _ _) (aP9 (aQA (aTO h0 hdI ?_)));dsimp only;refine aQA (aTP ho hd hf ?_);simp only[aTQ,aR5,↓reduceIte,aQ9];refine aQA (wpAny_seqItems hot hdt ?_);dsimp only;rw[hp];dsimp only;refine aQA (aS3 h0 hdI (by simp) ?_)
 have g1:=aRL (Obj.mapFields (·.setIfInBounds 0 (rawInt 0))) h0 (aTK (aTL hdI _));have d1:=aTL hdI (·.setIfInBounds 0 (rawInt 0));refine aQA (aS3 (s:={s with heap:=s.heap.update I (Obj.mapFields (·.setIfInBounds 0 (rawInt 0)))}) g1 d1 (by simp) (wM hh λh' k'=>q h' λb o' nb e=>k' b o' ?_))
 exact(aS6 _ I _).extBut b o' nb ((aS6 s.heap I _).extBut b o' nb e)
end
section
variable {A:aVV}{E:VSP}
def aH4{M:Model}{src:Source}{Q:Nat->aVU->Prop}(hn:n≠0)(h:∀i,i<n->Q i {s with drawn:=s.drawn.bump src}):wpAny M A (choose src n) Q E s :=
 λ_ _ _=>⟨hn,h _ (Nat.mod_lt _ (Nat.pos_of_ne_zero hn))⟩
theorem wP{M:Model}{α:Type}:∀{n:Nat}{l:List α}{s:aVU}{Q:List α->aVU->Prop},l.length=n->(∀d l',l'.Perm l->Q l' {s with drawn:=d})->wpAny M A (drawOrder n l) Q E s
 |0,l,s,Q,hl,h=>by have:l=[]:=List.length_eq_zero_iff.mp hl;subst this;unfold drawOrder;exact aP9 (h s.drawn [] (.refl _))
 |n+1,[],s,Q,hl,h=>by cases hl
 |n+1,x::l,s,Q,hl,h=>by
  unfold drawOrder;refine aQA (aH4 (by simp) λi hi=>?_)
  rw[aSK hi];dsimp only;refine aQA (wP (by rw[List.length_eraseIdx,if_pos hi];lia) λd l' p=>aP9 (h d _ ?_))
  exact(p.cons _).trans (qO hi)
variable  {a:Addr}{o:Obj}{es:Array (Int×aVT)}{t:SetTable}
def aH5(hh:A.handled=none)(hne:a≠I)(hd:o.data=.set es ep t)(hf:t.fits es.size=true)(bt:eU w=true):Walks prog w A I [I,a] [I] es.size (λi v=>((pickOrder (w.params.setOrder a ep) es).map (·.2))[i]? = some v) (λi h=>SIt h I a (.int (0:Nat) 0) i es.size ep/\h.get? a=some o) where
 sub:=λb hb=>by simp at hb;simp[hb]
 frame:=λ_ _ _ st hk=>⟨st.1.at λo e=>hk I (by simp) o e,hk a (by simp) o st.2⟩
 item:=λi s Q E hi st hQ=>by
  have hz:(pickOrder (w.params.setOrder a ep) es).size=es.size:=by rw[<- aP7,n8.length_eq,aP7]
  have hx:(pickOrder (w.params.setOrder a ep) es)[i]? = some (pickOrder (w.params.setOrder a ep) es)[i]:=aTR (by rw[hz];exact hi)
  refine wN (k:=0) (k':=0) st.1 st.2 hd hf (x:=((pickOrder (w.params.setOrder a ep) es)[i]).2) (λ{A' E' Q'} q=>?_) λh' sb X'=>?_
  . unfold setNext setWalk;refine aQA (aS7 st.2 hd hf (aQA (hO ?_)));simp only[bt,↓reduceIte,aTQ,aR5];refine aQA (aQA (aS7 st.2 hd hf (aQA (hO ?_))));simp only[bt,↓reduceIte];refine aQA (aTF (aP9 (aP9 ?_)));show Q' (Option.map _ (pickOrder (w.params.setOrder a ep) es)[i]?) _;rw[hx];exact q
  . exact hQ _ h' s.toks (by rw[Array.getElem?_map,hx];rfl) ⟨X',sb.extBut a o hne st.2⟩ λb o' hb e=>sb.extBut b o' (λh=>hb (by simp[h])) e
 done:=λs Q E st hQ=>by
  have hz:(pickOrder (w.params.setOrder a ep) es).size=es.size:=by rw[<- aP7,n8.length_eq,aP7]
  have hx:(pickOrder (w.params.setOrder a ep) es)[es.size]? = none:=aTS (by rw[hz];exact aQD _)
  refine wO (k:=0) hh st.1 st.2 hd hf (λ{A' E' Q'} q=>?_) λh' kp=>hQ h' s.toks λb o' hb e=>kp b o' (λh=>hb (by simp[h])) e
  unfold setNext setWalk;refine aQA (aS7 st.2 hd hf (aQA (hO ?_)));simp only[bt,↓reduceIte,aTQ,aR5];refine aQA (aQA (aS7 st.2 hd hf (aQA (hO ?_))));simp only[bt,↓reduceIte];refine aQA (aTF (aP9 (aP9 ?_)));show Q' (Option.map _ (pickOrder (w.params.setOrder a ep) es)[es.size]?) _;rw[hx];exact q
 self:=λ_ _ _ _ st hQ=>qP st.1 hQ
def aH6{ps:Array aVT}(hh:A.handled=none)(hne:a≠I)(hnt:tp≠I)(hd:o.data=.set es ep t)(hf:t.fits es.size=true){qs:List Nat}(hq:ps=(qs.map λ(i:Nat)=>rawInt i).toArray)(hp:qs.Perm (List.range es.size)):Walks prog w A I [I,a,tp] [I] es.size (λi v=>∃p hx,qs[i]? = some p/\es[p]? = some (hx,v)) (λi h=>SIt h I a (.ref tp) i es.size ep/\h.get? a=some o/\h.IsTuple tp ps) where
 sub:=λb hb=>by simp at hb;simp[hb]
 frame:=λ_ _ _ st hk=>⟨st.1.at λo e=>hk I (by simp) o e,hk a (by simp) o st.2.1,st.2.2.at λo e=>hk tp (by simp) o e⟩
 item:=λi s Q E hi st hQ=>by
  have hz:qs.length=es.size:=by rw[hp.length_eq,aTT]
  have hi':i<qs.length:=by rw[hz];exact hi
  have hx:qs[i]? = some qs[i]:=aSK hi';have hm:qs[i]<es.size:=aPT.mp (hp.mem_iff.mp (aS8 hi'));have he:es[qs[i]]? = some (es[qs[i]].1,es[qs[i]].2):=aTR hm;refine aH2 st.1 st.2.2 (p:=qs[i]) (u:=0) (by rw[hq,aTU,aQZ,hx];rfl) st.2.1 hd hf he λh' sb X'=>?_
  exact hQ _ h' s.toks ⟨_,_,hx,he⟩ ⟨X',sb.extBut a o hne st.2.1,st.2.2.extBut sb.extBut hnt⟩ λb o' hb e=>sb.extBut b o' (λh=>hb (by simp[h])) e
 done:=λs Q E st hQ=>by
  have hz:qs.length=es.size:=by rw[hp.length_eq,aTT]
  refine aH3 hh st.1 st.2.2 (by rw[hq,aTU,aQZ,aTV (by rw[hz];exact aQD _)];rfl) st.2.1 hd hf λh' kp=>hQ h' s.toks λb o' hb e=>kp b o' (λh=>hb (by simp[h])) e
 self:=λ_ _ _ _ st hQ=>qP st.1 hQ
def qQ{wr:List Addr}{n':Nat}{P P':Nat->aVT->Prop}{St:Nat->Heap->Prop}(W:Walks prog w A I fp wr n P St)(e:n=n')(h:∀i v,P i v->P' i v):Walks prog w A I fp wr n' P' St:=by subst e;exact⟨W.sub,W.frame,λi s Q E hi st hQ=>W.item i s Q E hi st λv h' tk p=>hQ v h' tk (h i v p),W.done,W.self⟩
end
section
variable {A:aVV}{E:VSP}{a:Addr}{xs:List Str}
def aH7(ty:s.TypeIs (.ref a) "set")(q:Q false s):wpAny (model prog w) A (Builtin.List.listLengthHint (.ref a)) Q E s:=by
 unfold Builtin.List.listLengthHint;refine aQA (aRX ty PySem.F.slot_set_len.lookup ?_);generalize hi:("set.__len__":String)=j
 wp_delta
 rw[show splitId j=some ("set", "__len__")from by subst hi;decide +kernel]
 subst hi;refine aQA (aR3 ty sub_set_self ?_);refine aTW (λx=>absurd x (by decide)) (λ_=>aTW (λ_=>?_) (λx=>absurd (by decide +kernel) x))
 exact aQA (aRI ty (aP9 q))
theorem aH8{items:List aVT}{acc:Array aVT}(h:ItemsOf (λi v=>items[i]? = some v) acc items.length):acc.toList=items:=by
 apply List.ext_getElem?;intro j;by_cases hj:j<items.length
 . have e1:acc[j]? = some (acc[j]'(by rw[h.1];exact hj)):=aTR _
   rw[aTX,e1];exact(h.2 j _ e1).symm
 . have z1:acc.toList.length=items.length:=by rw[aP7];exact h.1
   rw[aTV (l:=acc.toList) (by lia),aTV (l:=items) (by lia)]
end
noncomputable def lts(x y:Str):Bool:=ltCps x.cps.toList y.cps.toList
def jS:lts x y=true↔x.cps.toList<y.cps.toList:=by unfold lts;rw[ltCps_eq,aR8]
def oB(x:Str):lts x x=false:=by
 cases h:lts x x with
 |false=>rfl
 |true=>exact absurd (jS.mp h) (List.lt_irrefl _)
def qR(a:lts x y=true)(b:lts y z=true):lts x z=true:=jS.mpr (List.lt_trans (jS.mp a) (jS.mp b))
def qS(a:lts x y=false)(b:lts y x=false):x=y:=by
 have h1:¬ x.cps.toList<y.cps.toList:=λh=>by rw[jS.mpr h]at a;cases a
 have h2:¬ y.cps.toList<x.cps.toList:=λh=>by rw[jS.mpr h]at b;cases b
 have e:=List.le_antisymm (List.not_lt.mp h2) (List.not_lt.mp h1);cases x;cases y;exact congrArg Str.mk (Array.ext' e)
theorem wQ:∀{l:List Str}{p:Str},risingS p l=true->∀x∈l,lts x p=false
 |y::l,p,h,x,hx=>by
  have h:(!lts y p&&risingS y l)=true:=h;rw[aRJ,aTY]at h;rcases aPY.mp hx with rfl|hx
  . exact h.1
  . have h2:=wQ h.2 x hx;cases q:lts x p with
    |false=>rfl
    |true =>
     cases q2:lts p y with
     |true=>rw[qR q q2]at h2;cases h2
     |false=>have:=qS q2 h.1;subst this;rw[q]at h2;cases h2
noncomputable def sx(w:aVW)(l:Addr)(ys:List Str):HO:=.ext λh=>cB w h l ys
def wR(x:cB w h l ys):bL P w H h l (sx w l ys):=by
 refine⟨x,?_,λh1 h2 x1 k=>cB.kept (show cB w h1 l ys from x1) k⟩
 obtain⟨o,es,ep,t,ho,r⟩:=x;exact⟨o,ho⟩
def cB.nodup{a:Addr}{xs:List Str}(x:cB w h a xs):xs.Nodup:=by obtain⟨o,es,ep,t,ho,hex,hd,he,hn,r⟩:=x;exact hn
theorem wS:∀{ys:List Str}{us:List aVT},StrsAre us ys->aL (ys.map V.str) us
 |[],_,.nil=>.nil
 |_::ys,_,.cons y t h=>.cons ⟨t,rfl⟩ (wS h)
def Inv.drew(I:L2.Inv X aA σ H s)(d:Drawn):L2.Inv X aA σ H {s with drawn:=d} :=
 ⟨I.ok,I.os,I.bare,I.base,I.loc,I.cell,I.free,I.freeC,I.pin,I.hok,I.len⟩
def aH9:bootBuiltins "set" = some (.type "set"):=by decide +kernel
def wT:bootBuiltins "sorted" = some (.builtin "sorted"):=by decide +kernel
noncomputable def txD:List D->Option (List Str)
 |[]=>some []
 |.str x::ds=>(txD ds).map (x :: ·)
 |_::_=>none
noncomputable def txT:D->Option (List Str)
 |.tup ds=>txD ds
 |_=>none
theorem wU{K:Fg}{F:Hp}:∀{ds:List D}{xs:List V}{ns:List Str},txD ds=some ns->aD K F ds xs->xs=ns.map V.str/\∀x∈ns,x.length<=sizeLine/\PyData.strOk x=true
 |[],xs,ns,e,r=>by cases e;simp only[aD]at r;subst r;exact⟨rfl,λx hx=>by cases hx⟩
 |d::ds,xs,ns,e,r=>by
  cases d with
  |str x =>
   simp only[txD]at e;cases q:txD ds with
   |none=>rw[q]at e;cases e
   |some ms=>rw[q]at e;cases e;simp only[aD]at r;obtain⟨v,vs,rfl,rv,rr⟩:=r;obtain⟨rfl,h2⟩:=wU q rr;simp only[aC]at rv;obtain⟨rfl,h1⟩:=rv;exact⟨rfl,λy hy=>(aPY.mp hy).elim (λe=>by subst e;exact h1) (h2 y)⟩
  |_=>cases e
theorem wV{K:Fg}{F:Hp}:∀{ns:List Str},(∀x∈ns,x.length<=sizeLine/\PyData.strOk x=true)->aD K F (ns.map .str) (ns.map V.str)
 |[],_=>by simp[aD]
 |x::ns,h=>by simp only[aRR,aD,aC];exact⟨_,_,rfl,⟨rfl,h x mcs⟩,wV λy hy=>h y (mcm hy)⟩
section
variable  {eb:Expr}
end
section
variable  {eb:Expr}{p q q2:Pos}
end
section
variable {A:aVV}{E:VSP}
end
section
variable  {p:Pos}
end
noncomputable def CE:Bool->Expr->List Comprehension->Scope->Pos->Expr
 |true,el,gs,sc,p=>.ListComp el gs sc p
 |false,el,gs,sc,p=>.SetComp el gs sc p
noncomputable def lI(b:Bool)(elt:Expr)(acc:aVT)(env:Env):Sem Unit:=match b with
 |true=>(do let _ <- call (.builtin "list.append") [acc,<- eval elt env])
 |false=>(do let v <- eval elt env;standAt elt.pos;let _ <- call (.builtin "set.add") [acc,v])
noncomputable def wW(e tg aF:Expr)(ifs:List Expr)(aM:Expr)(it acc:aVT)(env:Env):Sem PySem.Fin:=do
 standAt aF.pos
 match <- pyNext it with
 |none=>pure (.done .next)
 |some v =>
  letOwnedTupleGo tg it v
  assign tg env v
  let mut ok:=true
  for c in ifs do
   if ok then ok <- isTrue c env (eval c env)
  if ok then
   let x <- eval aM env
   standAt aM.pos
   let x <- foldedSetIterable aM env x
   let _ <- runOwn (.compStart e 1 (<- holding [x] (pyIter x)) acc env) env
  again (.compLoop e 0 it acc env)
noncomputable def wX(e tg aF:Expr)(em:Sem Unit)(it acc:aVT)(env:Env):Sem PySem.Fin:=do
 standAt aF.pos
 match <- pyNext it with
 |none=>pure (.done .next)
 |some v =>
  letOwnedTupleGo tg it v
  assign tg env v
  em
  again (.compLoop e 1 it acc env)
def aIA(b:Bool)(elt tg aF tg2 aM:Expr)(ifs:List Expr)(scope:Scope)(pos:Pos)(it acc:aVT)(env:Env):compTurn (CE b elt [⟨tg,aF,ifs,0⟩,⟨tg2,aM,[],0⟩] scope pos) 0 it acc env=wW (CE b elt [⟨tg,aF,ifs,0⟩,⟨tg2,aM,[],0⟩] scope pos) tg aF ifs aM it acc env:=by cases b <;> rfl
def aIB(b:Bool)(elt tg aF tg2 aM:Expr)(ifs:List Expr)(scope:Scope)(pos:Pos)(it acc:aVT)(env:Env):compTurn (CE b elt [⟨tg,aF,ifs,0⟩,⟨tg2,aM,[],0⟩] scope pos) 1 it acc env=wX (CE b elt [⟨tg,aF,ifs,0⟩,⟨tg2,aM,[],0⟩] scope pos) tg2 aM (lI b elt acc env) it acc env:=by cases b <;> rfl
section
variable {A:aVV}{R:Result->aVU->Prop}{b:Bool}{tg2 aM:Expr}{it acc:aVT}
def loopA (hs2 : ∀ x, foldedSetIterable aM env x = pure x) (I : Nat → aVU → Prop) (turn : ∀ n s, I n s → wpAny (model prog w) A (pyNext it) (fun r s1 => match r with
      |none=>R (.ok .next) s1
      | some v => wpAny (model prog w) A (letOwnedTupleGo tg it v) (fun _ s1' => wpAny (model prog w) A (assign tg env v) (fun _ s2 =>
          wpAny (model prog w) A (forIn ifs true λc r=>if r=true then do let ok <- isTrue c env (eval c env);pure (ForInStep.yield ok)else pure (ForInStep.yield r)) (λok s3 =>
           if ok=true then wpAny (model prog w) A (eval aM env) (λx s4=>wpAny (model prog w) A (pyIter x) (λit2 s5 =>
            codeAny (model prog w) A (.compStart (CE b elt [⟨tg,aF,ifs,0⟩,⟨tg2,aM,[],0⟩] scope pos) 1 it2 acc env) (λr s6=>match r with|.ok _=>∃m,m<n/\I m s6|.error _=>False) s5) (λ_ _=>False) s4) (λ_ _=>False) s3
           else ∃ m, m < n ∧ I m s3) (fun _ _ => False) s2) (fun _ _ => False) s1') (fun _ _ => False) s1) (fun _ _ => False) s)
    (n:Nat) (h:I n s) :
    codeAny (model prog w) A (.compLoop (CE b elt [⟨tg,aF,ifs,0⟩,⟨tg2,aM,[],0⟩] scope pos) 0 it acc env) R s:=by
 refine codeAny_loop (by cases b <;> rfl) I (λn s hI=>?_) n h
 have e0:A.under (.compLoop (CE b elt [⟨tg,aF,ifs,0⟩,⟨tg2,aM,[],0⟩] scope pos) 0 it acc env)=A:=by cases b <;> rfl
 have e1:(model prog w).den (.compLoop (CE b elt [⟨tg,aF,ifs,0⟩,⟨tg2,aM,[],0⟩] scope pos) 0 it acc env)=((compTurn (CE b elt [⟨tg,aF,ifs,0⟩,⟨tg2,aM,[],0⟩] scope pos) 0 it acc env).onRaise (λx=>do noteFrame x env;theTreesLotGoes x)):=by cases b <;> rfl
 rw[e0,e1];refine wpAny_noted ?_;rw[aIA];unfold wW;refine aQA (aSQ (aQA (aP5 (turn n s hI) (λr s1 h1=>?_) λ_ _ h'=>h'.elim)));cases r with
 |none=>exact aP9 h1
 |some v =>
  refine aQA (aP5 h1 (λ_ s1' h1'=>?_) λ_ _ h'=>h'.elim);refine aQA (aP5 h1' (λ_ s2 h2=>aQA (aP5 h2 (λok s3 h3=>?_) λ_ _ h'=>h'.elim)) λ_ _ h'=>h'.elim);cases ok with
  |false=>exact aP9 ⟨rfl,h3⟩
  |true =>
   refine aQA (aP5 h3 (λx s4 h4=>aQA (aSQ (aQA (aTC (hs2 x) ?_)))) λ_ _ h'=>h'.elim);refine aQA (aRE (aP5 h4 (λit2 s5 h5=>?_) λ_ _ h'=>h'.elim));refine aQA (wpAny_runOwn (aRT h5 λr s6 h6=>?_));cases r with
   |ok f=>exact aP9 ⟨rfl,h6⟩
   |error e=>exact h6.elim
def oC (I : Nat → aVU → Prop) (turn : ∀ n s, I n s → wpAny (model prog w) A (pyNext it) (fun r s1 => match r with
      |none=>R (.ok .next) s1
      | some v => wpAny (model prog w) A (letOwnedTupleGo tg2 it v) (fun _ s1' => wpAny (model prog w) A (assign tg2 env v) (fun _ s2 =>
          wpAny (model prog w) A (lI b elt acc env) (fun _ s5 => ∃ m, m < n ∧ I m s5) (fun _ _ => False) s2) (fun _ _ => False) s1') (fun _ _ => False) s1) (fun _ _ => False) s)
    (n:Nat) (h:I n s) :
    codeAny (model prog w) A (.compLoop (CE b elt [⟨tg,aF,ifs,0⟩,⟨tg2,aM,[],0⟩] scope pos) 1 it acc env) R s:=by
 refine codeAny_loop (by cases b <;> rfl) I (λn s hI=>?_) n h
 have e0:A.under (.compLoop (CE b elt [⟨tg,aF,ifs,0⟩,⟨tg2,aM,[],0⟩] scope pos) 1 it acc env)=A:=by cases b <;> rfl
 have e1:(model prog w).den (.compLoop (CE b elt [⟨tg,aF,ifs,0⟩,⟨tg2,aM,[],0⟩] scope pos) 1 it acc env)=((compTurn (CE b elt [⟨tg,aF,ifs,0⟩,⟨tg2,aM,[],0⟩] scope pos) 1 it acc env).onRaise (λx=>do noteFrame x env;theTreesLotGoes x)):=by cases b <;> rfl
 rw[e0,e1];refine wpAny_noted ?_;rw[aIB];unfold wX;refine aQA (aSQ (aQA (aP5 (turn n s hI) (λr s1 h1=>?_) λ_ _ h'=>h'.elim)));cases r with
 |none=>exact aP9 h1
 |some v=>refine aQA (aP5 h1 (λ_ s1' h1'=>?_) λ_ _ h'=>h'.elim);exact aQA (aP5 h1' (λ_ s2 h2=>aQA (aP5 h2 (λ_ s3 h3=>aP9 ⟨rfl,h3⟩) λ_ _ h'=>h'.elim)) λ_ _ h'=>h'.elim)
def wY(d:Nat)(hd:d=0\/d=1)(h0:codeAny (model prog w) A (.compLoop (CE b elt [⟨tg,aF,ifs,0⟩,⟨tg2,aM,[],0⟩] scope pos) d it acc env) R s)(h:wpAny (model prog w) A (pyIter it) (λit' s'=>codeAny (model prog w) A (.compLoop (CE b elt [⟨tg,aF,ifs,0⟩,⟨tg2,aM,[],0⟩] scope pos) d it' acc env) R s') (λ_ _=>False) s):codeAny (model prog w) A (.compStart (CE b elt [⟨tg,aF,ifs,0⟩,⟨tg2,aM,[],0⟩] scope pos) d it acc env) R s:=by
 refine codeAny_of_tree ?_;have e0:A.under (.compStart (CE b elt [⟨tg,aF,ifs,0⟩,⟨tg2,aM,[],0⟩] scope pos) d it acc env)=A:=by cases b <;> rfl
 have e1:(model prog w).den (.compStart (CE b elt [⟨tg,aF,ifs,0⟩,⟨tg2,aM,[],0⟩] scope pos) d it acc env)=((compStart (CE b elt [⟨tg,aF,ifs,0⟩,⟨tg2,aM,[],0⟩] scope pos) d it acc env).onRaise (λx=>do noteFrame x env;standAt theWindowsPlace)):=by cases b <;> rfl
 rw[e0,e1];refine wpAny_notedAt ?_;unfold compStart;have e2:clausesOf (CE b elt [⟨tg,aF,ifs,0⟩,⟨tg2,aM,[],0⟩] scope pos)=[⟨tg,aF,ifs,0⟩,⟨tg2,aM,[],0⟩]:=by cases b <;> rfl
 rw[e2];rcases hd with rfl|rfl
 all_goals
  show wpAny _ _ (ask>>=_) _ _ s;refine aQA (aTF (wpAny_ite ?_));split
  . first
      |exact aQA (aP9 (aP9 (And.intro rfl h0)))
      |exact aP9 (And.intro rfl h0)
  . first
      |exact aQA (aR1 (aQA (aSQ (aQA (aP5 h (λit' s' h'=>aP9 (And.intro rfl h')) λ_ _ x=>x.elim)))))
      |(refine aQA (aR1 ?_);show wpAny _ _ (standAt _>>=_) _ _ s;exact aQA (aSQ (aQA (aP5 h (λit' s' h'=>aP9 (And.intro rfl h')) λ_ _ x=>x.elim))))
end
abbrev TEm:=L2.St->Hp->(Hp->Prop)->Prop
def PEm(X:Cx)(b:Bool)(elt:Expr)(D:Addr)(tm:TEm):Prop:=∀(aA:LAO) (s:aVU) (σ:L2.St) (H:Hp) (R:Hp->Prop),L2.Inv X aA σ H s->tm σ H R ->
 wpAny (model X.prog X.w) X.A (lI b elt (.ref D) X.env) (λ_ s'=>∃H',L2.Inv X aA σ H' s'/\R H') X.xe s
noncomputable def lJ(w:aVW)(b:Bool)(D:Addr):HO:=match b with|true=>.lst []|false=>sx w D []
noncomputable def jT(b:Bool):Sem aVT:=match b with|true=>newList []|false=>newSet (.type "set")
def aIC{b:Bool}{E:VSP}{Q:VSP}(I:L2.Inv X aA σ H s)(q:∀s3:aVU,L2.Inv X aA σ (upd H s.heap.objs.size (lJ X.w b s.heap.objs.size)) s3->s3.heap.objs.size=s.heap.objs.size+1->(∀b o,s.heap.get? b=some o->s3.heap.get? b=some o)->Q (.ref s.heap.objs.size) s3):wpAny (model X.prog X.w) X.A (jT b) Q E s:=by
 cases b with
 |true=>unfold jT;refine aRK (q _ ?_ (aQN _ _) λb o e=>hps e);exact I.laid (t':=s.toks) (λb u e=>hps e) (aQD _) ⟨aQP _,[],0,.nil,aPN _ rfl⟩
 |false=>unfold jT;refine aHW (q _ ?_ (aQN _ _) λb o e=>hps e);exact I.laid (t':=s.toks) (λb u e=>hps e) (aQD _) (wR (sob_x (aPN _ rfl)))
def lK(w:aVW)(b:Bool)(aB:List Nat)(k:Nat)(wi:TI)(gt:TG)(tt:TT)(wi2:TI)(gt2:TG)(tm:Addr->TEm):TE:=λσ H Q=>wi σ H λJ H1=>∀D,H1 D=none ->
 ∃W:Nat->Nat->Hp->Prop,(∃m,W 0 m (upd H1 D (lJ w b D)))/\∀i m H,W i m H ->
  ((J.stop i H/\Q (.ref D) H)\/(J.go i H/\∀x H',J.yld i H x H'->gt x (bJ aB σ++List.replicate k none) H' λσ2 H2=>k5 (bJ aB σ++List.replicate k none) σ2/\tt σ2 H2 λc H3 =>
   if c=true then wi2 σ2 H3 λJ2 H4=>∃W2:Nat->Nat->Hp->Prop,(∃m2,W2 0 m2 H4)/\∀j m2 H,W2 j m2 H ->
    ((J2.stop j H/\∃m',m'<m/\W (i+1) m' H)\/(J2.go j H/\∀y H',J2.yld j H y H'->gt2 y σ2 H' λσ3 H5=>k5 σ2 σ3/\tm D σ3 H5 λH6=>∃m2',m2'<m2/\W2 (j+1) m2' H6))
   else ∃m',m'<m/\W (i+1) m' H3))
def wZ{b:Bool}{aM tg2:Expr}{wi2:TI}{gt2:TG}{tm:Addr->TEm}{use:Option (aVT->Sem Unit)}{QQ:VSP}{Q:VK}(hc:X.calm=true)(hi:PI X tg aF wi)(bT:∀y∈scope.names,y.2 ≠ .cell)(bX:scope.kind=.function)(dL:∀y∈scope.names,y.2=.local->scope.names.lookup y.1=some .local)(bZ:∀y∈scope.names,y.2=.free->X.env.kindOf y.1=some .cell\/X.env.kindOf y.1=some .free)(cL:aE.map some=aB.map λi=>X.N[i]?)(dO:∀y∈aE,(y,NameKind.free)∈scope.names)(dM:∀y∈aE,(relabel scope X.env).names.lookup y=some .cell\/(relabel scope X.env).names.lookup y=some .free)(hg:∀cl C fp s3 H3,PG (aT X scope (aE++tgN) cl C fp s3 H3) tg gt)(hf:∀cl C fp s3 H3,dA (aT X scope (aE++tgN) cl C fp s3 H3) ifs tt)(hi2:∀cl C fp s3 H3,PI (aT X scope (aE++tgN) cl C fp s3 H3) tg2 aM wi2)(hg2:∀cl C fp s3 H3,PG (aT X scope (aE++tgN) cl C fp s3 H3) tg2 gt2)(he:∀cl C fp s3 H3 D,PEm (aT X scope (aE++tgN) cl C fp s3 H3) b elt D (tm D))(hs:∀x,foldedSetIterable aF X.env x=pure x)(hs2:∀env x,foldedSetIterable aM env x=pure x)(I:L2.Inv X aA σ H s)(h:lK X.w b aB tgN.length wi gt tt wi2 gt2 tm σ H Q)(hend:∀(D Z:Addr) (s6:aVU) (H5:Hp),(∃m,s6.heap.Ns Z m)->(∀h'',Heap.SameBut Z s6.heap h''->L2.Inv X aA σ H5 {s6 with heap:=h''})->H5 Z=none->X.s₀.heap.objs.size<=Z->Z≠X.env.locals->(∀x c,X.env.cells.lookup x=some c->c≠Z)->(∀p∈X.pn++aA,p.1≠Z)->Q (.ref D) H5->compPost (model X.prog X.w) X.A X.xe use QQ (.ref D) Z (.ok .next) s6):wpAny (model X.prog X.w) X.A (comprehension (CE b elt [⟨tg,aF,ifs,0⟩,⟨tg2,aM,[],0⟩] scope pos) scope X.env (firstIterPos [⟨tg,aF,ifs,0⟩,⟨tg2,aM,[],0⟩] pos) (jT b) (firstAsync [⟨tg,aF,ifs,0⟩,⟨tg2,aM,[],0⟩]) (firstIter [⟨tg,aF,ifs,0⟩,⟨tg2,aM,[],0⟩] X.env) use) QQ X.xe s:=by
 obtain⟨cl,hclos,clsub,clhas⟩:=vL (scope:=scope) (env:=X.env) λy hy hk=>I.ok.has y.1 (bZ y hy hk);refine wpAny_comprehension_free (use:=use) (by cases b <;> rfl) hs hclos bX dL (thn (hi aA s σ H _ I h) λv s1 h1=>thn h1 λitv s2 h2=>?_)
 obtain⟨it,fp,tn,J,H2,e,I2,T,st2,f2,q⟩:=h2;subst e;refine aIC I2 λs3 I3 sz3 keep23=>?_;have hn:H2 s2.heap.objs.size=none:=I2.hok.fresh (aQD _);obtain⟨W,⟨m0,w0⟩,turn⟩:=q s2.heap.objs.size hn;generalize hH3:upd H2 s2.heap.objs.size (lJ X.w b s2.heap.objs.size)=H3 at I3 w0;have fpl:∀b∈fp,b<s2.heap.objs.size:=λb hb=>by obtain⟨o,eo,_⟩:=T.obj 0 _ st2 b hb;exact aPO eo
 have hDf:s2.heap.objs.size∉fp:=λhb=>aPQ _ (fpl _ hb);refine wpAny_newFunctionEnv bT (by intro y hy;simp at hy) (λh4 hns hsb=>?_) bX
 try dsimp only at hns hsb ⊢
 have keep34:∀b o,s3.heap.get? b=some o->h4.get? b=some o:=λb o e=>hsb.extBut b o (aPR (aPO e)) (hps e);have nostk:∀b∈fp,b∉frs X.stack:=λb hb z=>by
  obtain⟨_,f1,f2',_⟩:=f2 b hb;rcases aPY.mp (I2.stkSub b z)with q|q
  . exact f1 q
  . exact f2' q
 have okc:(aT X scope (aE++tgN) cl s3.heap.objs.size fp s3 H3).Ok :=
  { mod:=I3.ok.mod
    kind:=bX
    glob:=I3.ok.glob
    blt:=I3.ok.blt
    above:=aQD _
    inj:=λx y c h1 h2=>I3.ok.inj x y c (clsub x c h1) (clsub y c h2)
    has:=λx hx=>clhas x (vM bT hx)
    cab:=λx c z=>by cases z
    hd:=I3.ok.hd
    frames:=I3.ok.frames
    stk:=.inl rfl
    exf:=λb hb=>⟨aPR (by show b<s3.heap.objs.size;rw[sz3];exact aSR (fpl b hb)),λx c e=>(f2 b hb).2.2.2.2.1 x c (clsub x c e)⟩
    bs:=I3.bs
    bsz:=aPV I3.ok.bsz I3.sz
    noex:=λb o e hb=>by
     obtain⟨_,_,_,f3,_⟩:=f2 b hb;rcases f3 with z|z
     . exact I2.ok.noex b o e z
     . exact absurd (aPO (I2.ok.bs b o e).1) (aSS.mpr z)
    exfs:=nostk
    funs:=I3.stack
    frf:=I3.stkFree
    tabs:=I3.ok.tabs.mono I3.base.tbls }
 have capLen:aE.length=aB.length:=by have:=congrArg List.length cL;simpa using this
 generalize hσ0:bJ aB σ++List.replicate tgN.length none=σ0 at turn;have Ic:Inv (aT X scope (aE++tgN) cl s3.heap.objs.size fp s3 H3) [] σ0 H3 {s3 with heap:=h4,toks:=s3.toks+([]:List (Str×aVT)).length}:=by
  refine⟨okc,rfl,I3.bare,Un.kept keep34,⟨_,hns,λi y v h1 h2 h3=>?_⟩,λx c e=>?_,I3.hok.fresh (aQD _),λx c e=>I3.freeC x c (clsub x c e),λp hp=>absurd (show p∈([]:LAO)from hp) (by simp),I3.hok.kept keep34,?_⟩
  . by_cases hi:i<aB.length
    . have ey:aE[i]? = some y:=by have h1:(aE++tgN)[i]? = some y:=h1;rw[aQY (by rw[capLen];exact hi)]at h1;exact h1
      have hj:X.N[aB[i]]? = some y:=by
       have e1:(aE.map some)[i]? = (aB.map λi=>X.N[i]?)[i]?:=by rw[cL]
       rw[aQZ,aQZ,ey,aSK hi]at e1;simpa using e1.symm
      have ev:σ[aB[i]]? = some (some v):=by
       rw[<- hσ0,aQY (by simpa[bJ]using hi)]at h2
       unfold bJ at h2;rw[aQZ,aSK hi]at h2;simp only[aSI,aST]at h2;cases z:σ[aB[i]]? with
       |none=>rw[z]at h2;cases h2
       |some o=>rw[z]at h2;exact congrArg some h2
      have hyf:=dO y (aQ0 ey);have hkX:=bZ _ hyf rfl;obtain⟨m,_,hl⟩:=I3.loc;obtain⟨u,ru,lk⟩:=hl aB[i] y v hj ev (by rcases hkX with z|z;exact .inr (.inl z);exact .inr (.inr z))
      refine⟨u,ru,.inr ⟨dM y (aQ0 ey),?_⟩⟩;rcases lk with⟨hk,_⟩|⟨_,c,ec,ic⟩
      . rcases hkX with z|z
        . rw[show X.env.kindOf y=some .cell from z]at hk;cases hk
        . rw[show X.env.kindOf y=some .free from z]at hk;cases hk
      . obtain⟨c',ec'⟩:=clhas y hyf;have:=clsub y c' ec';rw[ec]at this;cases this;exact⟨c,ec',ic.keeps keep34⟩
    . rw[<- hσ0,aQW (by simpa[bJ]using hi),aQX]at h2
      split at h2 <;> cases h2
  . obtain⟨v,q⟩:=I3.cell x c (clsub x c e);exact⟨v,q.keeps keep34⟩
  . rw[<- hσ0];show(bJ aB σ++List.replicate tgN.length none).length=(aE++tgN).length;simp[bJ,capLen]
 have fpc:∀{H':Hp},(∀b∈fp,H' b=none)->∀b∈fp,f9 (aT X scope (aE++tgN) cl s3.heap.objs.size fp s3 H3) [] H' b:=λhn b hb =>
  ⟨hn b hb,(okc.exf b hb).1,nostk b hb,.inl hb,(okc.exf b hb).2,λp hp=>absurd (show p∈([]:LAO)from hp) (by simp)⟩
 have gY:codeAny (model X.prog X.w) X.A (.compLoop (CE b elt [⟨tg,aF,ifs,0⟩,⟨tg2,aM,[],0⟩] scope pos) 0 (.ref it) (.ref s2.heap.objs.size) (compEnvC scope cl s3.heap.objs.size X.env)) (compPost (model X.prog X.w) X.A X.xe use QQ (.ref s2.heap.objs.size) s3.heap.objs.size) {s3 with heap:=h4,toks:=s3.toks+([]:List (Str×aVT)).length}:=by
  refine loopA (hs2 _) (λn s'=>∃i H',Inv (aT X scope (aE++tgN) cl s3.heap.objs.size fp s3 H3) [] σ0 H' s'/\tn i s'.heap/\(∀b∈fp,H' b=none)/\W i n H') ?_ m0
   ⟨0,H3,Ic,T.keep _ _ _ st2 (λb hb o e=>keep34 b o (keep23 b o e)),λb hb=>by rw[<- hH3,aP (by intro z;rw[z]at hb;exact hDf hb)];exact(f2 b hb).1,w0⟩
  rintro n s5 ⟨i,H5,I5,st5,fr5,w5⟩;rcases turn i n H5 w5 with⟨stop,qq⟩|⟨go,step⟩
  . refine thn (T.done (aT X scope (aE++tgN) cl s3.heap.objs.size fp s3 H3) rfl rfl rfl hc i [] s5 σ0 H5 _ I5 (fpc fr5) st5 stop) λr s6 ⟨hr,I6⟩=>?_;subst hr;obtain⟨m,hm,_⟩:=id I6.loc;refine hend s2.heap.objs.size s3.heap.objs.size s6 H5 ⟨m,hm⟩ (λh'' hsb2=>?_) I6.free I3.sz (λz=>?_) (λx c ec z=>?_) (λp hp z=>?_) qq;rotate_left
    . obtain⟨m,⟨o,es,ep,ho,_⟩,_⟩:=id I3.loc;rw[<- z]at ho;exact aPQ _ (aPO ho)
    . obtain⟨v,o,ho,_⟩:=I3.cell x c ec;rw[z]at ho;exact aPQ _ (aPO ho)
    . have:=(I3.pin p hp).1;rw[z]at this;exact aPQ _ (aPO this)
    have u:=I6.base;have neC:∀b o,s3.heap.get? b=some o->b≠s3.heap.objs.size:=λb o e=>aPR (aPO e);have un:Un (frs X.stack) fp H3 H5 s3.heap h'':=by
     refine⟨λb o e n hb hx=>hsb2.extBut b o (neC b o e) (u.keep b o e n hb hx),λb o e n hb hx=>?_,u.free,λb o e hx=>?_,u.tups,u.frzs,u.tbls⟩
     . obtain⟨sl,q⟩:=u.slot b o e n hb hx;exact⟨sl,hsb2.extBut b _ (neC b o e) q⟩
     . obtain⟨o',q⟩:=u.there b o e hx;exact⟨o',hsb2.extBut b _ (neC b o e) q⟩
    have hok : HOk X.prog X.w H5 h'' := fun a o e => (I6.hok a o e).stay (fun b v hb q => hsb2.extBut b v (by
        intro z;have fr:=I6.free;rcases hb with hb|hb
        . rw[hb]at z;rw[z]at e;rw[show H5 s3.heap.objs.size=none from fr]at e;cases e
        . rw[z,show H5 s3.heap.objs.size=none from fr]at hb;cases hb) q) (λ_ q=>q) λ_ _ q=>q
    have os6:=I6.os;obtain⟨hh,g6,d6,t6,o6⟩:=s6;obtain rfl:o6=s3.os:=os6;have I8:=I3.call (h':=h'') (g':=g6) (d':=d6) (t':=t6) (ch:=fp) un hok I6.bare λb hb=>by obtain⟨_,f1,_,f3,f4,f5⟩:=f2 b hb;exact⟨f3,f1,f4,f5⟩
    exact I8
  . refine thn (T.item (aT X scope (aE++tgN) cl s3.heap.objs.size fp s3 H3) rfl rfl rfl hc i [] s5 σ0 H5 _ I5 (fpc fr5) st5 go) λr s6 ⟨u,hr,h6⟩=>?_;subst hr;refine thn h6 λ_ s7 ⟨x,H7,I7,r7,y7,st7,fr7⟩=>?_;have I7':=I7.pinned (fpc fr7) (T.obj _ _ st7);refine thn (hg cl s3.heap.objs.size fp s3 H3 _ s7 σ0 H7 x u _ I7' r7 (step x H7 y7)) λ_ s8 ⟨σ8,H8,I8,wk,q8⟩=>?_;have back:∀{H':Hp}{s':aVU}{m':Nat},Inv (aT X scope (aE++tgN) cl s3.heap.objs.size fp s3 H3) ([]++iF fp s7.heap) σ8 H' s'->m'<n->W (i+1) m' H' ->
        ∃m,m<n/\∃i H',Inv (aT X scope (aE++tgN) cl s3.heap.objs.size fp s3 H3) [] σ0 H' s'/\tn i s'.heap/\(∀b∈fp,H' b=none)/\W i m H':=λ{H' s' m'} I' hm w'=>by
      have pinned:∀b∈fp,∀o,s7.heap.get? b=some o->s'.heap.get? b=some o/\H' b=none:=λb hb o e=>by have:=I'.pin (b,o) (aQG _ (aQG _ (kQ hb e)));exact⟨this.1,this.2.1⟩
      refine⟨m',hm,i+1,H',I'.unpinned.weak wk.1 wk.2,T.keep _ _ _ st7 λb hb o e=>(pinned b hb o e).1,λb hb=>?_,w'⟩;obtain⟨o,e,_⟩:=T.obj _ _ st7 b hb;exact(pinned b hb o e).2
    refine thn (hf cl s3.heap.objs.size fp s3 H3 _ s8 σ8 H8 _ I8 q8) λc s9 ⟨H9,I9,q9⟩=>?_;cases c with
    |false=>rw[if_neg aQL]at q9 ⊢;obtain⟨m',hm,w9⟩:=q9;exact back I9 hm w9
    |true =>
     rw[if_pos rfl]at q9 ⊢;generalize hps:([]:LAO)++iF fp s7.heap=ps at I9 back;refine thn (hi2 cl s3.heap.objs.size fp s3 H3 ps s9 σ8 H9 _ I9 q9) λv2 s10 h10=>thn h10 λitv2 s11 h11=>?_;obtain⟨it2,fp2,tn2,J2,H11,e2,I11,T2,st11,f11,W2,⟨m20,w20⟩,turn2⟩:=h11;subst e2;have stat:∀{H':Hp},(∀b∈fp2,H' b=none)->∀b∈fp2,f9 (aT X scope (aE++tgN) cl s3.heap.objs.size fp s3 H3) ps H' b:=λhn b hb=>⟨hn b hb,(f11 b hb).2⟩;have loop2:codeAny (model X.prog X.w) X.A (.compLoop (CE b elt [⟨tg,aF,ifs,0⟩,⟨tg2,aM,[],0⟩] scope pos) 1 (.ref it2) (.ref s2.heap.objs.size) (compEnvC scope cl s3.heap.objs.size X.env)) (λr s6=>match r with|.ok _=>∃m,m<n/\∃i H',Inv (aT X scope (aE++tgN) cl s3.heap.objs.size fp s3 H3) [] σ0 H' s6/\tn i s6.heap/\(∀b∈fp,H' b=none)/\W i m H'|.error _=>False) s11:=by
      refine oC (λn2 s'=>∃j H',Inv (aT X scope (aE++tgN) cl s3.heap.objs.size fp s3 H3) ps σ8 H' s'/\tn2 j s'.heap/\(∀b∈fp2,H' b=none)/\W2 j n2 H') ?_ m20 ⟨0,H11,I11,st11,λb hb=>(f11 b hb).1,w20⟩;rintro n2 s12 ⟨j,H12,I12,st12,fr12,w12⟩;rcases turn2 j n2 H12 w12 with⟨stop2,m',hm,w13⟩|⟨go2,step2⟩
      . refine thn (T2.done (aT X scope (aE++tgN) cl s3.heap.objs.size fp s3 H3) rfl rfl rfl hc j ps s12 σ8 H12 _ I12 (stat fr12) st12 stop2) λr s13 ⟨hr,I13⟩=>?_;subst hr;exact back I13 hm w13
      . refine thn (T2.item (aT X scope (aE++tgN) cl s3.heap.objs.size fp s3 H3) rfl rfl rfl hc j ps s12 σ8 H12 _ I12 (stat fr12) st12 go2) λr s13 ⟨u2,hr,h13⟩=>?_;subst hr;refine thn h13 λ_ s14 ⟨y,H14,I14,r14,y14,st14,fr14⟩=>?_;have I14':=I14.pinned (stat fr14) (T2.obj _ _ st14);refine thn (hg2 cl s3.heap.objs.size fp s3 H3 _ s14 σ8 H14 y u2 _ I14' r14 (step2 y H14 y14)) λ_ s15 ⟨σ15,H15,I15,wk2,q15⟩=>?_;refine thn (he cl s3.heap.objs.size fp s3 H3 _ _ s15 σ15 H15 _ I15 q15) λ_ s16 ⟨H16,I16,m2',hm2,w16⟩=>?_;have pinned:∀b∈fp2,∀o,s14.heap.get? b=some o->s16.heap.get? b=some o/\H16 b=none:=λb hb o e=>by have:=I16.pin (b,o) (aQG _ (aQG _ (kQ hb e)));exact⟨this.1,this.2.1⟩
        refine⟨m2',hm2,j+1,H16,I16.unpinned.weak wk2.1 wk2.2,T2.keep _ _ _ st14 λb hb o e=>(pinned b hb o e).1,λb hb=>?_,w16⟩;obtain⟨o,e,_⟩:=T2.obj _ _ st14 b hb;exact(pinned b hb o e).2
     exact wY 1 (.inr rfl) loop2 (T2.self _ 0 _ _ _ st11 loop2)
 exact wY 0 (.inl rfl) gY (T.self _ 0 _ _ _ (T.keep _ _ _ st2 (λb hb o e=>keep34 b o (keep23 b o e))) gY)
noncomputable def iP:Rho->Res:=λ_=>.ok .fz (.bl true)
noncomputable def fX(i j:Nat)(t gi2 e:Rho->Res)(ρ0:Rho):List D->Option (List D)
 |[]=>some []
 |d::ds=>match t (ρ0.set i (some (false,d)))with
  |.ok _ (.bl true)=>(match gi2 (ρ0.set i (some (false,d)))with
   |.ok _ (.lst es)=>(match cO (iL j) iP e (ρ0.set i (some (false,d))) es with
    |some ys=>(fX i j t gi2 e ρ0 ds).map (ys ++ ·)
    |none=>none)
   |_=>none)
  |.ok _ (.bl false)=>fX i j t gi2 e ρ0 ds
  |_=>none
def lL(ρ:Rho):Prop:=∀(i:Nat) (m:Bool) (d:D),ρ[i]? = some (some (m,d))->m=false
def aID(aB:List Nat)(ρ:Rho)(n:Nat):lL (bM aB ρ++List.replicate n none):=λi m d e=>by
 by_cases hi:i<aB.length
 . rw[aQY (by simpa[bM]using hi)]at e
   unfold bM at e;rw[aQZ,aSK hi]at e;simp only[aSI,aST]at e;split at e
   . cases e;rfl
   . cases e
 . rw[aQW (by simpa[bM]using hi),aQX]at e
   split at e <;> cases e
theorem lL.set(h:lL ρ)(i:Nat)(d:D):lL (ρ.set i (some (false,d))):=λk m d' e=>by
 rw[aSH]at e;split at e
 . split at e <;> cases e;rfl
 . exact h k m d' e
def aS.later{K:Fg}{F:Hp}(R:aS K F0 H0 F H σ ρ)(af:lL ρ)(st:aI F0 H0 F' H')(sF:aG F F'):aS K F0 H0 F' H' σ ρ :=
 ⟨st,λi m d e=>by
  obtain⟨v,e1,r,_⟩:=R.slot i m d e;cases af i m d e
  exact⟨v,e1,aC.mono sF _ _ r,by nofun⟩,λi j d d' a _ e1 _ _ _=>absurd (af _ _ _ e1) (by decide),R.len⟩
def AR(K:Fg)(w:aVW)(b:Bool)(Da:Addr)(F:Hp)(zs:List D)(o:HO):Prop:=match b with
 |true=>∃ys,o=.lst ys/\aD K F zs ys
 |false=>∃(ns ys:List Str),zs=ns.map .str/\o=sx w Da ys/\ys.Nodup/\ys.length<=ns.length/\(∀x,x∈ys↔x∈ns)/\∀x∈ns,x.length<=sizeLine/\PyData.strOk x=true
theorem AR.mono{K:Fg}{b:Bool}{Da:Addr}{F:Hp}{zs:List D}{o:HO}(h:AR K w b Da F zs o)(s:aG F F'):AR K w b Da F' zs o:=by
 cases b with
 |true=>obtain⟨ys,e,r⟩:=h;exact⟨ys,e,r.mono s _ _⟩
 |false=>exact h
noncomputable def qT:D->Bool|.str _=>true|_=>false
noncomputable def qU(b:Bool):Nat:=match b with|true=>sizeLine|false=>scanBound-1
def emK(w:aVW)(b:Bool)(Da:Addr)(y:V)(H4:Hp)(R:Hp->Prop):Prop:=match b with
 |true=>∃ys,H4 Da=some (.lst ys)/\ys.length<sizeLine/\R (upd H4 Da (.lst (ys++[y])))
 |false=>∃x ys,y=.str x/\H4 Da=some (sx w Da ys)/\ys.length+1<scanBound/\∀ys',ys'.Nodup->(∀z,z∈ys'↔z∈ys\/z=x)->ys'.length<=ys.length+1->R (upd H4 Da (sx w Da ys'))
def emT(w:aVW)(b:Bool)(te:TE)(Da:Addr):TEm:=λσ H R=>te σ H λy H4=>emK w b Da y H4 R
theorem pem(b:Bool)(Da:Addr)(h:PE X elt te):PEm X b elt Da (emT X.w b te Da):=by
 intro aA s σ H R I q;cases b with
 |true=>unfold lI;refine aQA (thn (h aA s σ H _ I q) λv s1 ⟨y,H1,I1,r1,ys,hD,hl,q1⟩=>?_);refine aQA (thn (pX (X:=X) _ s1 σ H1 (.ref Da) [y] (.ref Da) [v] (λv H'=>v=.non/\H'=upd H1 Da (.lst (ys++[y]))) I1 rfl (.cons r1 .nil) ⟨Da,ys,y,rfl,rfl,hD,hl,rfl,rfl⟩) λ_ s2 ⟨v2,H2,I2,_,_,e2⟩=>?_);subst e2;exact aP9 ⟨_,I2,q1⟩
 |false =>
  unfold lI;refine aQA (thn (h aA s σ H _ I q) λv s1 ⟨y,H1,I1,r1,x,ys,ey,hD,hl,q1⟩=>?_);subst ey;obtain⟨tk,rfl⟩:=r1;refine aQA (aSQ (aQA ?_));have xa:cB X.w s1.heap Da ys:=(I1.hok Da _ hD).1;refine aRH F.slot_set_add xa.ty F.entry_set_add ?_ (F.args_set_add_2 _ _);unfold Builtin.«set.add» Builtin.Frozenset.oneOther;simp only[List.isEmpty_nil,bind_assoc];unfold Builtin.Frozenset.addrOf;refine aQA (aP9 ?_)
  try dsimp only
  refine aQA (aP9 ?_)
  try dsimp only
  refine aQA (aHT xa hl λh' ys' sb X2 pm=>?_);refine aP9 ⟨_,rfl,aP9 ⟨_,I1.write (x:=Da) (e:=Da) (o:=sx X.w Da ys') (by rw[hD];exact trivial) (.inl rfl) (λb' u hb hu=>sb.extBut b' u hb hu) (by obtain⟨o,es,ep,t,ho,_⟩:=id X2;exact⟨o,ho⟩) (wR X2),q1 ys' X2.nodup (λz=>?_) ?_⟩⟩
  . rw[pm.mem_iff];split
    . rename_i hx;exact⟨.inl,λh=>h.elim id λe=>e ▸ hx⟩
    . rw[aPZ,aSZ]
  . rw[pm.length_eq];split
    . lia
    . rw[aQ1];simp
theorem AR.add{K:Fg}{b:Bool}{Da:Addr}{F H4:Hp}{zs:List D}{o:HO}{ye:D}{yv:V}{R:Hp->Prop}(h:AR K w b Da F zs o)(s:aG F F')(rd:aC K F' ye yv)(hl:zs.length<qU b)(hb:b=false->qT ye=true)(hD:H4 Da=some o)(q:∀o',AR K w b Da F' (zs++[ye]) o'->R (upd H4 Da o')):emK w b Da yv H4 R:=by
 cases b with
 |true=>obtain⟨ys,rfl,r⟩:=h;exact⟨ys,hD,by rw[r.length];exact hl,q _ ⟨_,rfl,aD.append (r.mono s _ _) (aD.cons rd aD.nil)⟩⟩
 |false =>
  obtain⟨ns,ys,rfl,rfl,nd,ll,me,ok⟩:=h;cases ye with
  |str x =>
   simp only[aC]at rd;obtain⟨rfl,k1⟩:=rd;have hl:ns.length<scanBound-1:=by rw[aQ2]at hl;exact hl
   refine⟨x,ys,rfl,hD,by lia,λys' nd' me' ll'=>q _ ⟨ns++[x],ys',by simp,rfl,nd',?_,λz=>?_,λz hz=>?_⟩⟩
   . rw[aQ1];simp;lia
   . rw[me',me,aPZ,aSZ]
   . rcases aPZ.mp hz with hz|hz
     . exact ok z hz
     . rw[aSZ.mp hz];exact k1
  |_=>have:=hb rfl;cases this
theorem aIE {b : Bool} {aB : List Nat} {gt gi2 ge : Rho → Res} {σ : L2.St} {F H : Hp} {ρ : Rho} (RS : aS (C.at X).K (C.at X).F0 (C.at X).H0 F H σ ρ) {ds total : List D} (et : fX aB.length (aB.length + 1) gt gi2 ge (bM aB ρ ++ List.replicate 2 none) ds = some total) (lim : total.length ≤ qU b) (str : b = false → total.all qT = true) {J : It} {F1 H1 : Hp} (s1 : aI F H F1 H1) (hJ : jM X.K F1 J ds) {Da : Addr} (hDa : H1 Da = none) {Q : VK} (fin : ∀ F' H' o, aI F H F' H' → F' Da = none → H' Da = some o → AR X.K X.w b Da F' total o → Q (.ref Da) H') : ∃ W : Nat → Nat → Hp → Prop, (∃ m, W 0 m (upd H1 Da (lJ X.w b Da))) ∧ ∀ i m H, W i m H → ((J.stop i H ∧ Q (.ref Da) H) ∨ (J.go i H ∧ ∀ x H', J.yld i H x H' → gOf X.K (.nm aB.length) x (bJ aB σ ++ List.replicate 2 none) H' fun σ2 H2 => k5 (bJ aB σ ++ List.replicate 2 none) σ2 ∧ tT (C.nox.at X) gt σ2 H2 fun c H3 =>
      if c=true then tIv (C.nox.at X) gi2 σ2 H3 λJ2 H4=>∃W2:Nat->Nat->Hp->Prop,(∃m2,W2 0 m2 H4)/\∀j m2 H,W2 j m2 H ->
       ((J2.stop j H/\∃m',m'<m/\W (i+1) m' H)\/(J2.go j H/\∀y H',J2.yld j H y H'->gOf X.K (.nm (aB.length+1)) y σ2 H' λσ3 H5=>k5 σ2 σ3/\emT X.w b (tG (C.nox.at X) λρ=>aZ (ge ρ)) Da σ3 H5 λH6=>∃m2',m2'<m2/\W2 (j+1) m2' H6))
      else ∃m',m'<m/\W (i+1) m' H3)):=by
 have hD0:H Da=none:=s1.same.free hDa;have hF1:F1 Da=none:=s1.sub.free hDa;have R0:=vP aB 2 RS;have af0:=aID aB ρ 2;have ls:(bJ aB σ).length=aB.length:=by simp[bJ]
 generalize hρ0:bM aB ρ++List.replicate 2 none=ρ0 at et R0 af0;have n0:∀u,(bJ aB σ++List.replicate 2 none)[aB.length]?≠some (some u):=λu z=>by
  rw[aQW (by lia),aQX]at z
  split at z <;> cases z
 have n1:∀u,(bJ aB σ++List.replicate 2 none)[aB.length+1]?≠some (some u):=λu z=>by
  rw[aQW (by lia),aQX]at z
  split at z <;> cases z
 generalize hσ0:bJ aB σ++List.replicate 2 none=σ0 at R0 n0 n1;have a0:AR X.K X.w b Da F1 [] (lJ X.w b Da):=by
  cases b with
  |true=>exact⟨[],rfl,aD.nil⟩
  |false=>exact⟨[],[],rfl,rfl,aTA,aQD _,λx=>Iff.rfl,λx hx=>nomatch hx⟩
 refine⟨λi m H'=>m=ds.length-i/\i<=ds.length/\∃F' zs o,H' Da=some o/\AR X.K X.w b Da F' zs o/\aI F H F' H'/\aG F1 F'/\F' Da=none /\
  ∃rest,fX aB.length (aB.length+1) gt gi2 ge ρ0 (ds.drop i)=some rest/\total=zs++rest,
  ⟨ds.length,by simp,aQP _,F1,[],_,bE,a0,s1.upd hD0 hF1,aG.refl _,hF1,total,by simpa using et,rfl⟩,?_⟩
 rintro i m H' ⟨rfl,hile,F',zs,o,hD,ar,st,sF,hFD,rest,ec,etot⟩;by_cases hlt:i<ds.length
 . refine .inr ⟨hJ.go i H' (sF.trans st.sub) hlt,λv H2 y=>?_⟩;obtain⟨F2,d,ed,s2,rd⟩:=hJ.yld i F' H' v H2 sF st.sub hlt y;have hd:ds.drop i=d::ds.drop (i+1):=by rw[aSJ hlt];rw[aSK hlt]at ed;cases ed;rfl
   rw[hd]at ec;unfold fX at ec;have hD2:H2 Da=some o:=s2.same _ _ hD;have hF2:F2 Da=none:=s2.new _ hFD (by rw[hD];exact λz=>nomatch z)
   have R1:aS (C.at X).K (C.at X).F0 (C.at X).H0 F2 H2 (σ0.set aB.length (some v)) (ρ0.set aB.length (some (false,d))):=((R0.step st).step s2).set (m:=false) (.refl s2.sub) rd (by nofun)
   have af1:=af0.set aB.length d;generalize hρ1:ρ0.set aB.length (some (false,d))=ρ1 at ec R1 af1;simp only[gOf];refine⟨⟨by simp,λj u ej=>?_⟩,ρ1,F2,R1,?_⟩
   . have:j≠aB.length:=by rintro rfl;exact n0 u ej
     rw[aP3 (λz=>this z.symm)];exact ej
   cases ett:gt ρ1 with
   |stuck=>rw[ett]at ec;cases ec
   |exc c=>rw[ett]at ec;cases ec
   |ok mt dt =>
    cases dt with
    |bl c =>
     rw[ett]at ec;intro F3 H3 s3;have hD3:H3 Da=some o:=s3.same _ _ hD2;have hF3:F3 Da=none:=s3.new _ hF2 (by rw[hD2];exact λz=>nomatch z)
     cases c with
     |false=>rw[if_neg aQL];exact⟨ds.length-(i+1),by lia,rfl,hlt,F3,zs,o,hD3,ar.mono (s2.fsame.trans s3.fsame),(st.trans s2).trans s3,(sF.trans s2.fsame).trans s3.fsame,hF3,rest,ec,etot⟩
     |true =>
      rw[if_pos rfl];dsimp only at ec;refine⟨ρ1,F3,R1.step s3,?_⟩;cases ei:gi2 ρ1 with
      |stuck=>rw[ei]at ec;cases ec
      |exc c=>rw[ei]at ec;cases ec
      |ok mi di =>
       cases di with
       |lst es =>
        rw[ei]at ec;dsimp only at ec;cases ei2:cO (iL (aB.length+1)) iP ge ρ1 es with
        |none=>rw[ei2]at ec;cases ec
        |some mid =>
         rw[ei2]at ec;cases er:fX aB.length (aB.length+1) gt gi2 ge ρ0 (ds.drop (i+1))with
         |none=>rw[er]at ec;cases ec
         |some rest' =>
          rw[er]at ec;cases ec;intro J2 F4 H4 s4 hJ2;have hD4:H4 Da=some o:=s4.same _ _ hD3;have hF4:F4 Da=none:=s4.new _ hF3 (by rw[hD3];exact λz=>nomatch z)
          have st4:aI F H F4 H4:=((st.trans s2).trans s3).trans s4;have R4:=(R1.step s3).step s4;refine⟨λj m2 H'=>m2=es.length-j/\j<=es.length/\∃F' zs' o,H' Da=some o/\AR X.K X.w b Da F' zs' o/\aI F H F' H'/\aG F4 F'/\F' Da=none /\
           ∃rest2,cO (iL (aB.length+1)) iP ge ρ1 (es.drop j)=some rest2/\total=zs'++rest2++rest',
           ⟨es.length,by simp,aQP _,F4,zs,o,hD4,ar.mono ((s2.fsame.trans s3.fsame).trans s4.fsame),st4,aG.refl _,hF4,mid,by simpa using ei2,by rw[etot,aTG]⟩,?_⟩
          rintro j m2 H5 ⟨rfl,hjle,F5,zs5,o5,hD5,ar5,st5,sF5,hF5,rest2,ec2,etot2⟩;by_cases hjl:j<es.length
          . refine .inr ⟨hJ2.go j H5 (sF5.trans st5.sub) hjl,λv2 H6 y2=>?_⟩;obtain⟨F6,d2,ed2,s6,rd2⟩:=hJ2.yld j F5 H5 v2 H6 sF5 st5.sub hjl y2;have hd2:es.drop j=d2::es.drop (j+1):=by rw[aSJ hjl];rw[aSK hjl]at ed2;cases ed2;rfl
            rw[hd2]at ec2;unfold cO at ec2;rw[show iL (aB.length+1) d2 ρ1=some (ρ1.set (aB.length+1) (some (false,d2)))from rfl]at ec2
            dsimp only[iP]at ec2;have hD6:H6 Da=some o5:=s6.same _ _ hD5;have hF6:F6 Da=none:=s6.new _ hF5 (by rw[hD5];exact λz=>nomatch z)
            have R5:aS (C.at X).K (C.at X).F0 (C.at X).H0 F6 H6 (σ0.set aB.length (some v)) ρ1:=R4.later af1 (RS.st.trans (st5.trans s6)) (sF5.trans s6.fsame);have R6:aS (C.at X).K (C.at X).F0 (C.at X).H0 F6 H6 ((σ0.set aB.length (some v)).set (aB.length+1) (some v2)) (ρ1.set (aB.length+1) (some (false,d2))):=R5.set (m:=false) (.refl s6.sub) rd2 (by nofun)
            simp only[gOf];refine⟨⟨by simp,λk u ek=>?_⟩,?_⟩
            . have:k≠aB.length+1:=by
                rintro rfl;rw[aP3 (by lia)]at ek
                exact n1 u ek
              rw[aP3 (λz=>this z.symm)];exact ek
            unfold emT;rw[aX];refine⟨_,F6,R6,?_⟩;cases ee:aZ (ge (ρ1.set (aB.length+1) (some (false,d2))))with
            |stuck=>rw[ee]at ec2;cases ec2
            |exc c=>rw[ee]at ec2;cases ec2
            |ok me ye =>
             rw[ee]at ec2;dsimp only at ec2;cases wF ee;cases er2:cO (iL (aB.length+1)) iP ge ρ1 (es.drop (j+1))with
             |none=>rw[er2]at ec2;cases ec2
             |some rest3 =>
              rw[er2]at ec2;cases ec2;intro u F7 H7 s7 ru _;have hD7:H7 Da=some o5:=s7.same _ _ hD6;have hF7:F7 Da=none:=s7.new _ hF6 (by rw[hD6];exact λz=>nomatch z)
              have hll:zs5.length<qU b:=by have:=congrArg List.length etot2;simp only[aQ1,aR7]at this;lia
              have hst:b=false->qT ye=true:=λeb=>aTZ.mp (str eb) ye (by rw[etot2];simp)
              refine ar5.add (s6.fsame.trans s7.fsame) ru hll hst hD7 λo' ar'=>?_;exact⟨es.length-(j+1),by lia,rfl,hjl,F7,zs5++[ye],o',bE,ar',((st5.trans s6).trans s7).upd hD0 hF7,(sF5.trans s6.fsame).trans s7.fsame,hF7,rest3,rfl,by rw[etot2];simp⟩
          . have ej:j=es.length:=by lia
            subst ej;rw[aSL]at ec2;cases ec2;rw[aQR]at etot2;exact .inl ⟨hJ2.stop _ H5 (sF5.trans st5.sub) (aQD _),ds.length-(i+1),by lia,rfl,hlt,F5,zs5,o5,hD5,ar5,st5,(((sF.trans s2.fsame).trans s3.fsame).trans s4.fsame).trans sF5,hF5,rest',rfl,by simpa using etot2⟩
       |_=>rw[ei]at ec;cases ec
    |_=>rw[ett]at ec;cases ec
 . have ei:i=ds.length:=by lia
   subst ei;rw[aSL]at ec;cases ec;rw[aQR]at etot;subst etot;exact .inl ⟨hJ.stop _ H' (sF.trans st.sub) (aQD _),fin F' H' o st hFD hD ar⟩
def gM(src:Res)(ρ:Rho)(aB:List Nat)(t gi2 e:Rho->Res):Res:=src.thn λ_ d=>match d with
 |.lst ds=>(match fX aB.length (aB.length+1) t gi2 e (bM aB ρ++List.replicate 2 none) ds with
  |some ys=>if ys.length<=sizeLine then .ok .fr (.lst ys)else .stuck
  |none=>.stuck)
 |_=>.stuck
section
variable  {aM tg2:Expr}{gt gi2:Rho->Res}
def w8{Q:VK}(q:tG (C.at X) (λρ=>gM (gi ρ) ρ aB gt gi2 ge) σ H Q):lK X.w true aB 2 (tIv (C.at X) gi) (gOf X.K (.nm aB.length)) (tT (C.nox.at X) gt) (tIv (C.nox.at X) gi2) (gOf X.K (.nm (aB.length+1))) (emT X.w true (tG (C.nox.at X) λρ=>aZ (ge ρ))) σ H Q:=by
 rw[aX]at q;obtain⟨ρ,F,RS,w⟩:=q;unfold lK;refine⟨ρ,F,RS,?_⟩;cases er:gi ρ with
 |stuck=>rw[er]at w;exact w
 |exc c=>rw[er]at w;exact w
 |ok m d =>
  rw[er]at w;cases d with
  |lst ds =>
   unfold gM at w;rw[Res.thn_ok]at w;dsimp only at w;intro J F1 H1 s1 hJ Da hDa;cases et:fX aB.length (aB.length+1) gt gi2 ge (bM aB ρ++List.replicate 2 none) ds with
   |none=>rw[et]at w;exact w.elim
   |some total =>
    rw[et]at w;dsimp only at w;split at w
    . rename_i hsz;refine aIE (b:=true) RS et hsz (λz=>nomatch z) s1 hJ hDa λF' H' o st hF hD ar=>?_;obtain⟨ys,rfl,r⟩:=ar;exact w (.ref Da) F' H' st ⟨Da,rfl,hF,ys,hD,r⟩ λ_ a ea=>by cases ea;exact s1.same.free hDa
    . exact w.elim
  |_=>exact w.elim
def aIF(b:Bool)(gens:List Comprehension)(env:Env):eval (CE b elt gens scope pos) env=comprehension (CE b elt gens scope pos) scope env (firstIterPos gens pos) (jT b) (firstAsync gens) (firstIter gens env):=by cases b <;> rfl
variable (hc : X.calm = true) (hi : PIv C X tg aF gi) (bT : ∀ y ∈ scope.names, y.2 ≠ .cell) (bX : scope.kind = .function) (dL : ∀ y ∈ scope.names, y.2 = .local → scope.names.lookup y.1 = some .local)
    (bZ:∀y∈scope.names,y.2=.free->X.env.kindOf y.1=some .cell\/X.env.kindOf y.1=some .free)
    (cL:aE.map some=aB.map λi=>X.N[i]?) (dO:∀y∈aE,(y,NameKind.free)∈scope.names)
    (dM:∀y∈aE,(relabel scope X.env).names.lookup y=some .cell\/(relabel scope X.env).names.lookup y=some .free)
    (hn:tgN.length=2)
    (hg:∀cl A fp s3 H3,PGw (aT X scope (aE++tgN) cl A fp s3 H3) tg (.nm aB.length)) (hf:∀cl A fp s3 H3,dA (aT X scope (aE++tgN) cl A fp s3 H3) ifs (tT (C.nox.at X) gt))
    (hi2:∀cl A fp s3 H3,PIv C.nox (aT X scope (aE++tgN) cl A fp s3 H3) tg2 aM gi2) (hg2:∀cl A fp s3 H3,PGw (aT X scope (aE++tgN) cl A fp s3 H3) tg2 (.nm (aB.length+1)))
    (he:∀cl A fp s3 H3,PV C.nox (aT X scope (aE++tgN) cl A fp s3 H3) elt ge)
    (hs:∀x,foldedSetIterable aF X.env x=pure x) (hs2:∀env x,foldedSetIterable aM env x=pure x)
include hc hi bT bX dL bZ cL dO dM hn hg hf hi2 hg2 he hs hs2
def aIG(b:Bool):PE X (CE b elt [⟨tg,aF,ifs,0⟩,⟨tg2,aM,[],0⟩] scope pos) (lK X.w b aB 2 (tIv (C.at X) gi) (gOf X.K (.nm aB.length)) (tT (C.nox.at X) gt) (tIv (C.nox.at X) gi2) (gOf X.K (.nm (aB.length+1))) (emT X.w b (tG (C.nox.at X) λρ=>aZ (ge ρ)))):=by intro aA s σ H Q I h;rw[aIF];rw[<- hn]at h;exact wZ (wi2:=tIv (C.nox.at X) gi2) (use:=none) hc hi bT bX dL bZ cL dO dM hg hf hi2 hg2 (λcl A fp s3 H3 D=>pem b D (gB (he cl A fp s3 H3))) hs hs2 I h λD Z s6 H5 hm hI _ _ _ _ _ q=>by obtain⟨m,hm⟩:=hm;exact⟨m,hm,λh'' hs=>⟨.ref D,H5,hI h'' hs,rfl,q⟩⟩
def aIH:PV C X (.ListComp elt [⟨tg,aF,ifs,0⟩,⟨tg2,aM,[],0⟩] scope pos) (λρ=>gM (gi ρ) ρ aB gt gi2 ge) :=
 PE.imp (aIG (pos:=pos) hc hi bT bX dL bZ cL dO dM hn hg hf hi2 hg2 he hs hs2 true) λσ H Q q=>w8 q
def aII(fz:Bool)(hN:X.N.Nodup)(hx:X.N[i]? = some x)(hk:X.env.scope.names.lookup x=some .local)(hsw:swapsWith (.ListComp elt [⟨tg,aF,ifs,0⟩,⟨tg2,aM,[],0⟩] scope pos) (some (.Name x pos')) spos.line X.env=pure true):PSv C X (.Assign [.Name x pos'] (.ListComp elt [⟨tg,aF,ifs,0⟩,⟨tg2,aM,[],0⟩] scope pos) spos) (λρ=>dS ρ i (if fz=true then aZ (gM (gi ρ) ρ aB gt gi2 ge)else gM (gi ρ) ρ aB gt gi2 ge)):=by
 have key:PS X (.Assign [.Name x pos'] (.ListComp elt [⟨tg,aF,ifs,0⟩,⟨tg2,aM,[],0⟩] scope pos) spos) (jD (lK X.w true aB tgN.length (tIv (C.at X) gi) (gOf X.K (.nm aB.length)) (tT (C.nox.at X) gt) (tIv (C.nox.at X) gi2) (gOf X.K (.nm (aB.length+1))) (emT X.w true (tG (C.nox.at X) λρ=>aZ (ge ρ)))) (jC i)):=by
  intro aA s σ H En I h;rw[exec_Assign_Name_used _ _ _ _ hsw];refine aQA (aSQ (aQA ?_));show wpAny _ X.A (comprehension (CE true elt [⟨tg,aF,ifs,0⟩,⟨tg2,aM,[],0⟩] scope pos) scope X.env (firstIterPos [⟨tg,aF,ifs,0⟩,⟨tg2,aM,[],0⟩] pos) (jT true) (firstAsync [⟨tg,aF,ifs,0⟩,⟨tg2,aM,[],0⟩]) (firstIter [⟨tg,aF,ifs,0⟩,⟨tg2,aM,[],0⟩] X.env) (some (assign (.Name x pos') X.env))>>=_) _ _ s;refine aQA (wZ (wi2:=tIv (C.nox.at X) gi2) (use:=some (assign (.Name x pos') X.env)) hc hi bT bX dL bZ cL dO dM hg hf hi2 hg2 (λcl A fp s3 H3 D=>pem true D (gB (he cl A fp s3 H3))) hs hs2 I h λD Z s6 H5 hm hI hz h0 h1 h2 h3 q=>?_);obtain⟨m,hm⟩:=hm;have I6:=hI s6.heap (aSU _ _);refine aP8 (pO I6 hN hx (.inl hk) (show aJ (.ref D) (.ref D)from rfl) (λs' I' hch=>?_) (.inr hk))
  obtain⟨a,sb,ha⟩:=hch;have na:Z≠a:=by
   rcases ha with rfl|ha
   . exact h1
   . exact λz=>h2 x a ha z.symm
  exact⟨m,hm.sameBut sb na,λh'' hs2=>aP9 (aP9 ⟨_,H5,I'.dropped hs2 hz h0 h1 h2 h3,q⟩)⟩
 rw[hn]at key;refine PS.imp key λE σ H q=>w8 ?_;cases fz with
 |false=>exact kZ q
 |true=>have q:=kZ q;unfold jD at q;rw[aX]at q ⊢;obtain⟨ρ,F,R,w⟩:=q;exact⟨ρ,F,R,aY.frz w⟩
end
open PySem.W
section
variable {lt:Nat->Nat->Bool}{cmp:Nat->Nat->(Bool->aVU->Prop)->aVU->Prop}{J:aVU->Prop}
end
section
variable {A:aVV}{E:VSP}
end
def oD(d:α):∀(l:List α),(List.range l.length).map (λi=>l.getD i d)=l:=λl=>by
 apply List.ext_getElem
 . simp
 . intro i h1 h2;simp at h1;simp[h1]
section
variable {A:aVV}{E:VSP}
end
theorem qV{α:Type}{K:Fg}{F:Hp}{f:α->D}{g:α->V}:∀{q:List α},(∀i∈q,aC K F (f i) (g i))->aD K F (q.map f) (q.map g)
 |[],_=>aD.nil
 |i::q,h=>aD.cons (h i mcs) (qV λj hj=>h j (mcm hj))
theorem xA{α:Type}{g:α->V}{u:α->aVT}:∀{q:List α},(∀i∈q,aJ (g i) (u i))->aL (q.map g) (q.map u)
 |[],_=>.nil
 |i::q,h=>.cons (h i mcs) (xA λj hj=>h j (mcm hj))
theorem xB:∀{xs:List V}{us:List aVT}{i:Nat},aL xs us->i<xs.length->aJ (xs.getD i .non) (us.getD i .none)
 |[],_,i,h,e=>by simp at e
 |x::xs,_,0,h,e=>by cases h with|cons r t=>exact r
 |x::xs,_,i+1,h,e=>by
  cases h with
  |cons r t =>
   have:=xB (i:=i) t (by simpa using e)
   simpa using this
open PySem.SeqAt PySem.MeetsSeq
section
variable  {o:Expr}{ty:TE}
end
section
variable  {o:Expr}{go:Rho->Res}
end
noncomputable def epO(o:Obj):Nat:=match o.data with|.dict _ ep=>ep|_=>0
section
variable  {d m:Str}{p0 p3 p4 p5 p6 p7 p8 p9:Pos}{jd jm k0:Nat}
end
end D3
namespace L2
open D3
end L2
namespace D3
abbrev cQ(xs:Array Nat):Prop:=xs.toList.Pairwise (· < ·)
def lM{xs:Array Nat}(h:cQ xs){v u:Nat}(hi:xs[i]? = some v)(hj:xs[j]? = some u)(hl:i<j):v<u:=by rw[<- aTX]at hi hj;obtain⟨h1,e1⟩:=aP1.mp hi;obtain⟨h2,e2⟩:=aP1.mp hj;rw[<- e1,<- e2];exact aT0.mp h i j h1 h2 hl
theorem qW{xs:Array Nat}(h:cQ xs)(j:Nat):∀(f lo hi:Nat),hi<=lo+f->lo<=hi->hi<=xs.size->(∀k v,k<lo->xs[k]? = some v->v<j)->(∀k v,hi<=k->xs[k]? = some v->j<=v)->SetTable.below.go xs j f lo hi<=xs.size/\(∀k v,k<SetTable.below.go xs j f lo hi->xs[k]? = some v->v<j)/\∀k v,SetTable.below.go xs j f lo hi<=k->xs[k]? = some v->j<=v
 |0,lo,hi,hf,hl,hs,h1,h2=>by
  have:lo=hi:=by lia
  subst this;exact⟨hs,h1,h2⟩
 |f+1,lo,hi,hf,hl,hs,h1,h2=>by
  unfold SetTable.below.go;split
  . rename_i hlt;dsimp only;have hm:(lo+hi) / 2<xs.size:=by lia
    have em:xs[(lo+hi) / 2]? = some xs[(lo+hi) / 2]:=aTR hm;have eg:xs.getD ((lo+hi) / 2) j=xs[(lo+hi) / 2]:=by rw[aT1,em];rfl
    rw[eg];split
    . rename_i hv;refine qW h j f _ _ (by lia) (by lia) hs (λk v hk e=>?_) h2
      by_cases hk2:k=(lo+hi) / 2
      . subst hk2;rw[em]at e;cases e;exact hv
      . exact aRP (lM h e em (by lia)) hv
    . rename_i hv;refine qW h j f _ _ (by lia) (by lia) (by lia) h1 λk v hk e=>?_
      by_cases hk2:k=(lo+hi) / 2
      . subst hk2;rw[em]at e;cases e;lia
      . have:=lM h em e (by lia);lia
  . have:lo=hi:=by lia
    subst this;exact⟨hs,h1,h2⟩
theorem lO{xs:Array Nat}(h:cQ xs)(j:Nat):SetTable.below xs j<=xs.size/\(∀k v,k<SetTable.below xs j->xs[k]? = some v->v<j)/\∀k v,SetTable.below xs j<=k->xs[k]? = some v->j<=v :=
 qW h j _ _ _ (by lia) (aQP _) (aQD _) (λk v hk=>absurd hk (Nat.not_lt_zero _)) λk v hk e=>by rw[aTS hk]at e;cases e
theorem aIJ{xs:Array Nat}(h:cQ xs):SetTable.below xs 0=0:=by
 obtain⟨a,b,c⟩:=lO h 0;by_cases h0:SetTable.below xs 0=0
 . exact h0
 . have:=b 0 (xs[0]'(by lia)) (by lia) (aTR _)
   lia
theorem aIK{xs:Array Nat}(h:cQ xs){p:Nat}(e:xs[i]? = some p):SetTable.below xs (p+1)=i+1:=by
 obtain⟨a,b,c⟩:=lO h (p+1);have hi:i<xs.size:=by
  rcases aT2 i xs.size with q|q
  . exact q
  . rw[aTS q]at e;cases e
 have h1:i<SetTable.below xs (p+1):=by
  rcases aT2 i (SetTable.below xs (p+1))with q|q
  . exact q
  . have:=c i p q e;lia
 by_cases h2:SetTable.below xs (p+1)=i+1
 . exact h2
 . have hl:i+1<xs.size:=by lia
   have e2:xs[i+1]? = some xs[i+1]:=aTR hl;have u1:=b (i+1) _ (by lia) e2
   have u2:=lM h e e2 (aQO _);lia
def PlOk(t:SetTable):Prop:=t.plain=false\/(t.dummies = #[]/\cQ t.place)
theorem aIL{xs:Array Nat}(h:cQ xs)(hn:xs[SetTable.below xs j]?≠some j):j∉xs.toList:=λhm=>by
 obtain⟨k,hk,e⟩:=aT3 hm;have ek:xs[k]? = some j:=by rw[<- aTX,aSK hk,e]
 obtain⟨a,b,c⟩:=lO h j;have hk':k<xs.size:=by simpa using hk
 rcases aT2 k (SetTable.below xs j)with q|q
 . have:=b k j q ek;lia
 . have hb:SetTable.below xs j<xs.size:=by lia
   have eb:xs[SetTable.below xs j]? = some xs[SetTable.below xs j]:=aTR hb;have v1:=c _ _ (aQD _) eb;rcases aT2 (SetTable.below xs j) k with q2|q2
   . have:=lM h eb ek q2;lia
   . have:SetTable.below xs j=k:=by lia
     rw[this]at hn;exact hn ek
def xC(j:Nat):SetTable.has #[] j=false:=rfl
theorem aIM{t:SetTable}(hd:t.dummies = #[])(h:cQ t.place)(hn:t.place[SetTable.below t.place j]?≠some j):(t.put j).1.dummies = #[]/\cQ (t.put j).1.place:=by
 unfold SetTable.put;dsimp only;rw[hd,xC];refine⟨rfl,?_⟩;show(SetTable.insertAt t.place (SetTable.below t.place j) j).toList.Pairwise _;have hj:=aIL h hn;obtain⟨a,b,c⟩:=lO h j;generalize SetTable.below t.place j=p at *;rw[aT4];have ht:t.place.toList.length=t.place.size:=by simp
 have hlt:∀x∈t.place.toList.take p,x<j:=λx hx=>by obtain⟨k,hk,e⟩:=aT3 hx;rw[List.getElem_take]at e;rw[aQU]at hk;exact b k x (by lia) (by rw[<- aTX,aSK (by lia),e])
 have hgt:∀x∈t.place.toList.drop p,j<x:=λx hx=>by
  have hne:x≠j:=λe=>hj (e ▸ List.mem_of_mem_drop hx);obtain⟨k,hk,e⟩:=aT3 hx;rw[List.getElem_drop]at e;rw[aRD]at hk;have:=c (p+k) x (by lia) (by rw[<- aTX,aSK (by lia),e])
  lia
 have hs:t.place.toList.Pairwise (· < ·):=h;rw[<- aT5 p t.place.toList,aT6]at hs;rw[aT6,aT7];exact⟨hs.1,⟨hgt,hs.2.1⟩,λx hx y hy=>by
  rcases aPY.mp hy with rfl|hy
  . exact hlt x hx
  . exact hs.2.2 x hx y hy⟩
section
variable {A:aVV}{E:VSP}
end
section
variable {A:aVV}{E:VSP}
end
def aIN:isSubtype (.type "list") (.type "set")=pure false:=by rw[aTI];kernel_rfl
def aIO:isSubtype (.type "list") (.type "frozenset")=pure false:=by rw[aTI];kernel_rfl
section
variable {A:aVV}{E:VSP}
def aIP{M:Model}{p:Addr}(tp:s.TypeIs (.ref p) "list")(q:Q false s):wpAny M A (isInstance (.ref p) (.type "set") <||> isInstance (.ref p) (.type "frozenset")) Q E s:=by unfold orM;exact aQA (aR3 tp aIN (aR3 tp aIO q))
end
section
variable {A:aVV}{E:VSP}
variable  {a:Addr}{o:Obj}{es:Array (Int×aVT)}{t:SetTable}
noncomputable def plc(t:SetTable):Nat->Nat
 |0=>0
 |i+1=>t.place.getD i 0+1
theorem xD(h:cQ t.place)(hi:i<=t.place.size):SetTable.below t.place (plc t i)=i:=by
 cases i with
 |zero=>exact aIJ h
 |succ i =>
  have e:t.place[i]? = some (t.place[i]'(by lia)):=aTR _
  show SetTable.below t.place (t.place.getD i 0+1)=_;rw[aT1,e];exact aIK h e
theorem aIQ(hh:A.handled=none)(hne:a≠I)(hd:o.data=.set es ep t)(hf:t.fits es.size=true)(bt:eU w=false)(hl:t.led=true)(hr:cQ t.place)(h1:(!t.plain&&decide (es.size > 1))=false):Walks prog w A I [I,a] [I] es.size (λi v=>(es.map (·.2))[i]? = some v) (λi h=>SIt h I a (.int ((plc t i:Nat):Int) 0) i es.size ep/\h.get? a=some o):=by
 have hz:t.place.size=es.size:=by unfold SetTable.fits at hf;rw[aRJ,aQM]at hf;exact hf.1
 refine⟨λb hb=>by simp at hb;simp[hb],λ_ _ _ st hk=>⟨st.1.at λo e=>hk I (by simp) o e,hk a (by simp) o st.2⟩,λi s Q E hi st hQ=>?_,λs Q E st hQ=>?_,λ_ _ _ _ st hQ=>qP st.1 hQ⟩
 . have e1:es[i]? = some (es[i].1,es[i].2):=aTR hi;have e2:t.place[i]? = some (t.place[i]'(by lia)):=aTR _
   have e3:plc t (i+1)=t.place[i]'(by lia)+1:=by show t.place.getD i 0+1=_;rw[aT1,e2];rfl
   refine wN (k:=plc t i) (k':=plc t (i+1)) st.1 st.2 hd hf (x:=es[i].2) (λ{A' E' Q'} q=>?_) λh' sb X'=>?_
   . unfold setNext;refine aQA (aS7 st.2 hd hf (aQA (hO ?_)));simp only[bt,↓reduceIte,aR5];split
     . rename_i hc;have hc:(!t.plain&&decide (es.size > 1))=true:=hc;rw[h1]at hc;cases hc
     . show wpAny _ _ ((if(!t.led&&!(es.isEmpty))=true then _ else _)>>=_) _ _ _;rw[hl];refine aQA (aP9 ?_);rw[xD hr (by lia),e1,e2]
       rw[e3]at q;exact aP9 q
   . exact hQ _ h' s.toks (by rw[Array.getElem?_map,e1];rfl) ⟨X',sb.extBut a o hne st.2⟩ λb o' hb e=>sb.extBut b o' (λh=>hb (by simp[h])) e
 . refine wO hh st.1 st.2 hd hf (λ{A' E' Q'} q=>?_) λh' kp=>hQ h' s.toks λb o' hb e=>kp b o' (λh=>hb (by simp[h])) e
   unfold setNext;refine aQA (aS7 st.2 hd hf (aQA (hO ?_)));simp only[bt,↓reduceIte,aR5];split
   . rename_i hc;have hc:(!t.plain&&decide (es.size > 1))=true:=hc;rw[h1]at hc;cases hc
   . show wpAny _ _ ((if(!t.led&&!(es.isEmpty))=true then _ else _)>>=_) _ _ _;rw[hl];refine aQA (aP9 ?_);rw[xD hr (by lia),aTS (aQD _)]
     exact aP9 q
end
section
variable {A:aVV}{E:VSP}{a:Addr}{xs:List Int}
end
section
variable  {p:Pos}
end
section
variable {es:List Expr}{p:Pos}
end
noncomputable def gN(ρ:Rho)(i:Nat)(rk rv:Res):aH:=match ρ[i]? with
 |some (some (true,.lst ds))=>(aZ rv).thS ρ λm d=>match m with
  |.fz=>rk.thS ρ λ_ kd=>(match kd with
   |.int k=>(match ixN ds.length k with|some j=>.nx (ρ.set i (some (true,.lst (ds.set j d))))|none=>.stuck)
   |_=>.stuck)
  |_=>.stuck
 |_=>.stuck
theorem aD.set{K:Fg}{F:Hp}:∀{ds:List D}{xs:List V}{j:Nat}{d:D}{v:V},aD K F ds xs->aC K F d v->aD K F (ds.set j d) (xs.set j v)
 |[],_,_,_,_,h,_=>by simp only[aD]at h;subst h;exact aD.nil
 |d'::ds,_,0,_,_,h,r=>by simp only[aD]at h;obtain⟨y,ys,rfl,q,t⟩:=h;exact aD.cons r t
 |d'::ds,_,j+1,_,_,h,r=>by simp only[aD]at h;obtain⟨y,ys,rfl,q,t⟩:=h;exact aD.cons q (aD.set t r)
section
variable  {gk:Rho->Res}{p ap sp:Pos}
def aIR(i:Nat)(hv:PE X (.Name x p) (iE i))(hk:PV C X ke gk)(he:PV C X e g)(hsw:swapsWith e (some (.Subscript (.Name x p) ke sp)) pos.line X.env=pure false):PSv C X (.Assign [.Subscript (.Name x p) ke sp] e pos) (λρ=>gN ρ i (gk ρ) (g ρ)):=by
 have h1:PS X (.Assign [.Subscript (.Name x p) ke sp] e pos) (λE σ H=>tG (C.at X) (λρ=>aZ (g ρ)) σ H λv H1=>iE i σ H1 λo H2=>tG (C.at X) gk σ H2 λk H3=>u5 o k v H3 (λH4=>E.nx σ H4)):=by intro aA s σ H D I h;refine wpAny_Assign_Subscript (thn (gB he aA s σ H _ I h) λr s1 ⟨v,H1,I1,rv,q1⟩=>thn (hv aA s1 σ H1 _ I1 q1) λu s2 ⟨x,H2,I2,rx,q2⟩=>thn (hk aA s2 σ H2 _ I2 q2) λiv s3 ⟨y,H3,I3,ry,q3⟩=>?_) hsw;refine thn (aDW aA s3 σ H3 _ _ _ _ _ _ _ I3 rx ry rv q3) λ_ s4 ⟨H4,I4,q4⟩=>?_;exact⟨σ,H4,I4,q4⟩
 refine PS.imp h1 λE σ H q=>?_;obtain⟨ρ,F,R,w⟩:=q;dsimp only at w;cases e0:ρ[i]? with
 |none=>unfold gN at w;rw[e0]at w;exact w.elim
 |some o =>
  cases o with
  |none=>unfold gN at w;rw[e0]at w;exact w.elim
  |some bd =>
   obtain⟨b,d0⟩:=bd;cases b with
   |false=>unfold gN at w;rw[e0]at w;exact w.elim
   |true =>
    cases d0 with
    |lst ds =>
     unfold gN at w;rw[e0]at w;dsimp only at w;obtain⟨v0,ev0,rp0,hn0⟩:=R.slot i true _ e0;obtain⟨a,ea,hfa,xs,hh,rl⟩:=rp0;subst ea;refine iK R w λm d v F' H' w' s R' rp fr=>?_;cases m with
     |fr=>exact(show False from w').elim
     |bo=>exact(show False from w').elim
     |fz =>
     dsimp only at w';refine⟨.ref a,ev0,?_⟩;refine iK R' w' λm2 kd u F2 H2 w2 s2 R2 rp2 _=>?_;cases kd with
     |int k =>
      dsimp only at w2;cases ej:ixN ds.length k with
      |none=>rw[ej]at w2;exact w2.elim
      |some j =>
       rw[ej]at w2;dsimp only at w2;have hh2:H2 a=some (.lst xs):=s2.same _ _ (s.same _ _ hh);cases rp2.int;refine⟨a,xs,k,j,rfl,rfl,hh2,by rw[rl.length];exact ej,?_⟩
       exact w2 σ F2 _ (aG.refl _) (R2.mut e0 ev0 ⟨_,bE,aD.set (rl.mono (s.fsame.trans s2.fsame) _ _) (aC.mono s2.fsame _ _ rp)⟩)
     |_=>exact(show False from w2).elim
    |_=>unfold gN at w;rw[e0]at w;exact w.elim
end
section
open PySem.SeqAt
open PySem.AutoSeq1 (wpAny_loadPart')
open PySem.MeetsSeq PySem.MeetsSeq2 PySem.MeetsSeq3
variable {A:aVV}{E:VSP}
end
section
variable {A:aVV}{E:VSP}
end
section
variable {K:Type}[DecidableEq K]{knd:KeyKind prog w K}{A:aVV}{E:VSP}
end
section
variable  {eb:Expr}{p:Pos}
end
open PySem.Calls
section
variable  {o f:Expr}{go gf:Rho->Res}
end
end D3
namespace PySem
open PySem.Sem (wp)
section
variable {A:aVV}{E:VSP}
end
end PySem
namespace L2
end L2
namespace D3
open PySem.Calls
section
variable  {p:Pos}
end
theorem bN.is:∀{xs:List N}{ys:List V}{us:List aVT},(∀x∈xs,∀v u,NAt X.K H x v->aJ v u->IsN s.heap x u)->bN X.K H xs ys->aL ys us->aQ s.heap xs us
 |[],ys,us,_,h,r=>by rw[bN]at h;subst h;cases r;rw[aQ]
 |x::xs,ys,us,k,h,r=>by
  rw[bN]at h;obtain⟨y,zs,rfl,h1,h2⟩:=h;cases r with
  |cons r1 r2=>rw[aQ];exact⟨_,_,rfl,k x mcs _ _ h1 r1,bN.is (λz hz=>k z (mcm hz)) h2 r2⟩
theorem NAt.is(I:L2.Inv X aA σ H s)(k:N):∀v u,NAt X.K H k v->aJ v u->IsN s.heap k u:=by
 induction k using N.ind with
 |hi n=>intro v u h r;rw[NAt]at h;subst h;obtain⟨t,rfl⟩:=r;rw[IsN];exact⟨t,rfl⟩
 |hs x=>intro v u h r;rw[NAt]at h;obtain⟨rfl,_,hk⟩:=h;obtain⟨t,rfl⟩:=r;rw[IsN];exact⟨⟨t,rfl⟩,hk⟩
 |ht xs ih=>intro v u h r;rw[NAt]at h;obtain⟨a,ys,rfl,hq,hl⟩:=h;cases r;obtain⟨its,rv,⟨o,e,c,_,n,d⟩,_⟩:=SqT.plain I hq;rw[IsN];exact⟨a,o,its.toArray,n,rfl,e,c,d,by simpa using bN.is ih hl rv⟩
abbrev KN:=Paired (λ(p:N×Addr×V) (q:N×Addr×aVT)=>p.1=q.1/\p.2.1=q.2.1/\aJ p.2.2 q.2.2)
def iQ(K:Fg)(H:Hp)(kvs:List (N×Addr×V)):Prop:=∀p∈kvs,NAt K H p.1 (.ref p.2.1)/\p.1.dp<=8
noncomputable def eV(kvs:List (N×Addr×V))(k:N):Option V:=(kvs.find? λp=>decide (p.1=k)).map (·.2.2)
def hU(kvs:List (N×Addr×V))(k:N)(b:Addr)(v:V):List (N×Addr×V):=if(eV kvs k).isSome=true then kvs.map (λp=>if p.1=k then(p.1,p.2.1,v)else p)else kvs++[(k,b,v)]
def xE{p:N×Addr×V}{r:List (N×Addr×V)}{k:N}(e:p.1=k):eV (p::r) k=some p.2.2:=by simp[eV,aT8,e]
def xF{p:N×Addr×V}{r:List (N×Addr×V)}{k:N}(e:¬ p.1=k):eV (p::r) k=eV r k:=by simp[eV,aT8,e]
def KN.val{xs:List (N×Addr×aVT)}(r:KN kvs xs)(k:N):dY (eV kvs k) ((atKey xs k).map (·.2)):=by
 induction r with
 |nil=>exact True.intro
 | @cons p q ps qs h t ih =>
  by_cases e:p.1=k
  . have b:atKey (q::qs) k=some q.2:=by simp[atKey,aT8,h.1.symm.trans e]
    rw[xE e,b];exact h.2.2
  . have e':¬ q.1=k:=λz=>e (h.1.trans z);have b:atKey (q::qs) k=atKey qs k:=by simp[atKey,aT8,e']
    rw[xF e,b];exact ih
def KN.repl{xs:List (N×Addr×aVT)}(r:KN kvs xs)(k:N){y:V}(ry:aJ y u):KN (kvs.map λp=>if p.1=k then(p.1,p.2.1,y)else p) (xs.map (putAt k u)):=by
 induction r with
 |nil=>exact .nil
 | @cons p q ps qs h t ih =>
  rw[aRR,aRR];refine .cons ?_ ih;unfold putAt;by_cases e:p.1=k
  . rw[if_pos e,if_pos (h.1.symm.trans e)];exact⟨h.1,h.2.1,ry⟩
  . rw[if_neg e,if_neg (λz=>e (h.1.trans z))];exact h
def KN.put{xs:List (N×Addr×aVT)}(r:KN kvs xs)(k:N)(b:Addr){y:V}(ry:aJ y u):KN (hU kvs k b y) (storedH xs k b u):=by
 have e:(eV kvs k).isSome=(atKey xs k).isSome:=by rw[(r.val k).isSome_eq,Option.isSome_map]
 unfold hU storedH;rw[e];by_cases q:(atKey xs k).isSome=true
 . rw[if_pos q,if_pos q];exact r.repl k ry
 . rw[if_neg q,if_neg q];exact Paired.snoc r ⟨rfl,rfl,ry⟩
theorem aIS(kvs:List (N×Addr×V))(k:N)(b:Addr)(v:V):(hU kvs k b v).length<=kvs.length+1:=by
 unfold hU;split
 . rw[aQ2];lia
 . rw[aQ1];exact aQD _
def KN.is{xs:List (N×Addr×aVT)}{P:N->Addr->Prop}(r:KN kvs xs)(h:∀p∈kvs,P p.1 p.2.1):∀x∈xs,P x.1 x.2.1:=by
 induction r with
 |nil=>intro x hx;cases hx
 | @cons p q ps qs hq t ih =>
  intro x hx;rcases aPY.mp hx with e|hx
  . subst e;have:=h p mcs;rw[hq.1,hq.2.1]at this;exact this
  . exact ih (λp hp=>h p (mcm hp)) x hx
def oE{a:Addr}(I:L2.Inv X aA σ H s)(e:Rd H a (.dN kvs))(hk:iQ X.K H kvs):kvs.length<=sizeLine/\(a==sysModules)=false/\∃xs,KN kvs xs/\s.heap.DictOfH (nO X.prog X.w) a xs:=by
 obtain⟨z,y,xs,r,o,es,ep,h1,h2,h3,h4,h5⟩:=(show bL X.prog X.w H s.heap a (.dN kvs)from e.ok I.hok)
 exact⟨z,y,xs,r,o,es,ep,h1,h2,h3,h4,KN.is (P:=λk b=>(nO X.prog X.w).is s.heap k b) r λp hp=>⟨NAt.is I _ _ _ (hk p hp).1 rfl,(hk p hp).2⟩,h5⟩
def jU(K:Fg)(H:Hp)(a:Addr)(y:V)(r:Option V):Prop:=∃kvs k b,Rd H a (.dN kvs)/\iQ K H kvs/\y=.ref b/\(NAt K H k (.ref b)/\k.dp<=8)/\r=eV kvs k
def NPut(K:Fg)(H:Hp)(a:Addr)(y v:V)(H':Hp):Prop:=∃kvs k b,H a=some (.dN kvs)/\iQ K H kvs/\y=.ref b/\(NAt K H k (.ref b)/\k.dp<=8)/\kvs.length<sizeLine/\H'=upd H a (.dN (hU kvs k b v))
section
variable {a:Addr}{y d:V}{r:aVT}{o:Option V}{A:aVV}{E:VSP}
theorem qX(hu:A.units+64<cLine):(nO X.prog X.w).room A.in1:=by show A.units+1+8<cLine;lia
def aIT{Q:VSP}(hu:A.units+64<cLine)(I:L2.Inv X aA σ H s)(g:jU X.K H a y (some v))(ry:aJ y u)(h:∀w' s',L2.Inv X aA σ H s'->aJ v w'->Q w' s'):wpAny (model X.prog X.w) A (getItem (.ref a) u) Q E s:=by
 obtain⟨kvs,k,b,e,hk,rfl,kb,l⟩:=g;cases ry;obtain⟨z,hd,xs,rel,dd⟩:=oE I e hk;obtain⟨w',hw,rw'⟩:=dY.some_of (v:=v) (o:=(atKey xs k).map (·.2)) (by rw[l];exact rel.val k)
 obtain⟨p,hp,hp2⟩:=Option.map_eq_some_iff.mp hw;refine wpAny_getItem_heap (qX hu) (k:=k) ⟨NAt.is I _ _ _ kb.1 rfl,kb.2⟩ dd hp ?_;rw[hp2];exact h w' _ (I.tok _) rw'
def aIU{Q:VSP}(hu:A.units+64<cLine)(I:L2.Inv X aA σ H s)(g:jU X.K H a y o)(ry:aJ y u)(rd:aJ d r)(h:∀w' s',L2.Inv X aA σ H s'->aJ (o.getD d) w'->Q w' s'):wpAny (model X.prog X.w) A (call (.builtin "dict.get") [.ref a,u,r]) Q E s:=by obtain⟨kvs,k,b,e,hk,rfl,kb,l⟩:=g;cases ry;obtain⟨z,hd,xs,rel,dd⟩:=oE I e hk;refine call_meetsIn PySem.F.slot_dict_get dd.typeIs PySem.F.entry_dict_get (PySem.F.args_dict_get_3 _ _ _) (meetsH_dict_get_default (nO X.prog X.w) a b hd r) ⟨qX hu,k,xs,⟨NAt.is I _ _ _ kb.1 rfl,kb.2⟩,dd,h _ _ (I.tok _) ?_⟩;rw[l];exact(rel.val k).getD rd
theorem aIV{Q:Unit->aVU->Prop}(hu:A.units+64<cLine)(I:L2.Inv X aA σ H s)(g:NPut X.K H a y v H')(ry:aJ y u)(rv:aJ v r)(h:∀s',L2.Inv X aA σ H' s'->Q () s'):wpAny (model X.prog X.w) A (setItem (.ref a) u r) Q E s:=by
 obtain⟨kvs,k,b,e,hk,rfl,kb,l,rfl⟩:=g;cases ry;obtain⟨z,hd,xs,rel,dd⟩:=oE I (.inl e) hk;have hz:xs.length<=sizeLine:=by rw[<- aPM rel];exact z
 have hl:(hU kvs k b v).length<=sizeLine:=by have:=aIS kvs k b v;lia
 refine wpAny_setItem_heap (hsz:=hz) (qX hu) (k:=k) ⟨NAt.is I _ _ _ kb.1 rfl,kb.2⟩ dd λh' dd' hs=>h _ ?_;obtain⟨q,es,ep,hq,h2,h3,h4,_,h5⟩:=dd';exact aD4 I (by rw[e];exact True.intro) hs ⟨q,hq⟩ ⟨hl,hd,_,rel.put k b rv,q,es,ep,hq,h2,h3,h4,h5⟩
def aIW(I:L2.Inv X aA σ H s)(g:jU X.K H a y o):s.TypeIs (.ref a) "dict" := by obtain⟨kvs,k,b,e,hk,_⟩:=g;obtain⟨_,_,xs,_,dd⟩:=oE I e hk;exact dd.typeIs
end
open PySem.Calls
mutual
noncomputable def nD:N->D
 |.i n=>.int n
 |.s x=>.str x
 |.t xs=>.tup (nDL xs)
noncomputable def nDL:List N->List D
 |[]=>[]
 |x::xs=>nD x::nDL xs
end
mutual
noncomputable def bQ:D->Option N
 |.int i=>some (.i i)
 |.str x=>some (.s x)
 |.tup ds=>(eW ds).map .t
 |_=>none
noncomputable def eW:List D->Option (List N)
 |[]=>some []
 |d::ds=>match bQ d,eW ds with
  |some k,some ks=>some (k::ks)
  |_,_=>none
end
noncomputable def eG(d:D):Option N:=match d with
 |.tup ds=>match eW ds with
  |some ks=>if(N.t ks).dp<=8 then some (.t ks)else none
  |none=>none
 |_=>none
section
variable {K:Fg}{F:Hp}
mutual
theorem xG:∀{d:D}{k:N}{v:V},bQ d=some k->aC K F d v->NAt K F k v
 |.int i,k,v,e,r=>by simp only[bQ]at e;cases e;simpa only [aC,NAt]using r
 |.str x,k,v,e,r=>by simp only[bQ]at e;cases e;simpa only [aC,NAt]using r
 |.tup ds,k,v,e,r=>by simp only[bQ]at e;obtain⟨ks,ek,rfl⟩:=Option.map_eq_some_iff.mp e;simp only[aC]at r;obtain⟨a,xs,rfl,hq,rl⟩:=r;rw[NAt];exact⟨a,xs,rfl,hq,qY ek rl⟩
 |.non,_,_,e,_=>by simp only[bQ]at e;cases e
 |.bl _,_,_,e,_=>by simp only[bQ]at e;cases e
 |.lst _,_,_,e,_=>by simp only[bQ]at e;cases e
 |.dct _,_,_,e,_=>by simp only[bQ]at e;cases e
 |.ty _,_,_,e,_=>by simp only[bQ]at e;cases e
 |.ob _,_,_,e,_=>by simp only[bQ]at e;cases e
 |.ins _ _,_,_,e,_=>by simp only[bQ]at e;cases e
 |.fn _,_,_,e,_=>by simp only[bQ]at e;cases e
 |.exn _,_,_,e,_=>by simp only[bQ]at e;cases e
 |.set _,_,_,e,_=>by simp only[bQ]at e;cases e
 |.dtn _,_,_,e,_=>by simp only[bQ]at e;cases e
 |.dtf _,_,_,e,_=>by simp only[bQ]at e;cases e
theorem qY:∀{ds:List D}{ks:List N}{xs:List V},eW ds=some ks->aD K F ds xs->bN K F ks xs
 |[],ks,xs,e,r=>by simp only[eW]at e;cases e;simpa only [aD,bN]using r
 |d::ds,ks,xs,e,r=>by
  simp only[eW]at e;simp only[aD]at r;obtain⟨y,ys,rfl,r1,r2⟩:=r;cases e1:bQ d with
  |none=>rw[e1]at e;cases e
  |some k =>
   cases e2:eW ds with
   |none=>rw[e1,e2]at e;cases e
   |some ks'=>rw[e1,e2]at e;cases e;rw[bN];exact⟨y,ys,rfl,xG e1 r1,qY e2 r2⟩
end
def qZ{d:D}{k:N}{m:Md}(e:eG d=some k)(r:Rp K F H m d v):∃b,v=.ref b/\NAt K F k (.ref b)/\k.dp<=8:=by
 unfold eG at e;split at e
 . rename_i ds;split at e
   . rename_i ks ek;split at e
     . rename_i hd;cases e;cases m with
       |fz =>
        have r:aC K F (.tup ds) v:=r;have h:=xG (k:=.t ks) (by simp only[bQ];rw[ek];rfl) r
        simp only[aC]at r;obtain⟨a,xs,rfl,_⟩:=r;exact⟨a,rfl,h,hd⟩
       |fr=>obtain⟨a,_,_,q⟩:=r;exact q.elim
       |bo=>obtain⟨a,_,_,q⟩:=r;exact q.elim
     . cases e
   . cases e
 . cases e
theorem xH:∀{xs:List N}{ys:List V},(∀x∈xs,∀v,NAt K F x v->aC K F (nD x) v)->bN K F xs ys->aD K F (nDL xs) ys
 |[],ys,_,h=>by rw[bN]at h;subst h;rw[nDL];exact aD.nil
 |x::xs,ys,k,h=>by rw[bN]at h;obtain⟨y,zs,rfl,h1,h2⟩:=h;rw[nDL];exact aD.cons (k x mcs y h1) (xH (λz hz=>k z (mcm hz)) h2)
def rA(k:N):∀v,NAt K F k v->aC K F (nD k) v:=by
 induction k using N.ind with
 |hi n=>intro v h;rw[NAt]at h;rw[nD];simpa only [aC]using h
 |hs x=>intro v h;rw[NAt]at h;rw[nD];simpa only [aC]using h
 |ht xs ih=>intro v h;rw[NAt]at h;obtain⟨a,ys,rfl,hq,hl⟩:=h;rw[nD];simp only[aC];exact⟨a,ys,rfl,hq,xH ih hl⟩
noncomputable def cY(kvs:List (N×D))(k:N):Option D:=(kvs.find? λkv=>decide (kv.1=k)).map (·.2)
noncomputable def jV(kvs:List (N×D))(k:N)(d:D):List (N×D):=if(cY kvs k).isSome=true then kvs.map (λkv=>if kv.1=k then(kv.1,d)else kv)else kvs++[(k,d)]
def xI{p:N×D}{r:List (N×D)}{k:N}(e:p.1=k):cY (p::r) k=some p.2:=by simp[cY,aT8,e]
def xJ{p:N×D}{r:List (N×D)}{k:N}(e:¬ p.1=k):cY (p::r) k=cY r k:=by simp[cY,aT8,e]
theorem aO.val:∀{kvs:List (N×D)}{xs:List (N×Addr×V)} (k:N),aO K F kvs xs->match cY kvs k with|some d=>∃v,eV xs k=some v/\aC K F d v|none=>eV xs k=none
 |[],xs,k,h=>by simp only[aO]at h;subst h;rfl
 |(k',d)::kvs,xs,k,h=>by
  simp only[aO]at h;obtain⟨b,y,ys,rfl,_,r,t⟩:=h;by_cases e:k'=k
  . rw[xI (p:=(k',d)) e];exact⟨y,xE (p:=(k',b,y)) e,r⟩
  . rw[xJ (p:=(k',d)) e,xF (p:=(k',b,y)) e];exact aO.val k t
def aO.hasK{kvs:List (N×D)}{xs:List (N×Addr×V)}(k:N)(h:aO K F kvs xs):(eV xs k).isSome=(cY kvs k).isSome:=by
 have:=aO.val k h;cases e:cY kvs k with
 |none=>rw[e]at this;dsimp only at this;rw[this];rfl
 |some d=>rw[e]at this;obtain⟨v,ev,_⟩:=this;rw[ev];rfl
theorem aO.keys:∀{kvs:List (N×D)}{xs:List (N×Addr×V)},aO K F kvs xs->iQ K F xs
 |[],xs,h=>by simp only[aO]at h;subst h;intro p hp;cases hp
 |(k',d)::kvs,xs,h=>by
  simp only[aO]at h;obtain⟨b,y,ys,rfl,q,r,t⟩:=h;intro p hp;rcases aPY.mp hp with rfl|hp
  . exact q
  . exact t.keys p hp
theorem iQ.mono{xs:List (N×Addr×V)}(s:aG F F')(h:iQ K F xs):iQ K F' xs:=λp hp=>⟨NAt.mono s _ _ (h p hp).1,(h p hp).2⟩
theorem aO.len:∀{kvs:List (N×D)}{xs:List (N×Addr×V)},aO K F kvs xs->xs.length=kvs.length
 |[],xs,h=>by simp only[aO]at h;subst h;rfl
 |(k',d)::kvs,xs,h=>by simp only[aO]at h;obtain⟨b,y,ys,rfl,q,r,t⟩:=h;rw[aR7,aR7,t.len]
theorem aO.repl{k:N}{d:D}(rv:aC K F d v):∀{kvs:List (N×D)}{xs:List (N×Addr×V)},aO K F kvs xs->aO K F (kvs.map λkv=>if kv.1=k then(kv.1,d)else kv) (xs.map λp=>if p.1=k then(p.1,p.2.1,v)else p)
 |[],xs,h=>by simp only[aO]at h;subst h;simp only[aO,aRQ]
 |(k',d')::kvs,xs,h=>by
  simp only[aO]at h;obtain⟨b,y,ys,rfl,q,r,t⟩:=h;rw[aRR,aRR];by_cases e:k'=k
  . rw[if_pos e,if_pos e];simp only[aO];exact⟨b,v,_,rfl,q,rv,t.repl rv⟩
  . rw[if_neg e,if_neg e];simp only[aO];exact⟨b,y,_,rfl,q,r,t.repl rv⟩
theorem aO.snoc{k:N}{d:D}(hk:NAt K F k (.ref b)/\k.dp<=8)(rv:aC K F d v):∀{kvs:List (N×D)}{xs:List (N×Addr×V)},aO K F kvs xs->aO K F (kvs++[(k,d)]) (xs++[(k,b,v)])
 |[],xs,h=>by simp only[aO]at h;subst h;simp only[aO,aT9];exact⟨b,v,[],rfl,hk,rv,rfl⟩
 |(k',d')::kvs,xs,h=>by simp only[aO]at h;obtain⟨b',y,ys,rfl,q,r,t⟩:=h;rw[aRV,aRV];simp only[aO];exact⟨b',y,_,rfl,q,r,t.snoc hk rv⟩
def aO.put{k:N}{d:D}{kvs:List (N×D)}{xs:List (N×Addr×V)}(hk:NAt K F k (.ref b)/\k.dp<=8)(rv:aC K F d v)(h:aO K F kvs xs):aO K F (jV kvs k d) (hU xs k b v):=by
 unfold jV hU;rw[h.hasK k];split
 . exact h.repl rv
 . exact h.snoc hk rv
noncomputable def asN:D->Option (List (N×D))
 |.dtn kvs=>some kvs
 |.dtf kvs=>some kvs
 |_=>none
theorem Rp.asN{m:Md}{d:D}{kvs:List (N×D)}(s:aG F H)(r:Rp K F H m d v)(e:asN d=some kvs):∃a xs,v=.ref a/\Rd H a (.dN xs)/\aO K F kvs xs:=by
 cases d with
 |dtn ks =>
  cases e;cases m with
  |fz=>have r:aC K F (.dtn kvs) v:=r;simp only[aC]at r;obtain⟨a,xs,rfl,q,t⟩:=r;exact⟨a,xs,rfl,.inl (s _ _ q),t⟩
  |fr=>obtain⟨a,rfl,_,xs,q,t⟩:=r;exact⟨a,xs,rfl,.inl q,t⟩
  |bo=>obtain⟨a,rfl,_,xs,q,t⟩:=r;exact⟨a,xs,rfl,.inl q,t⟩
 |dtf ks =>
  cases e;cases m with
  |fz=>have r:aC K F (.dtf kvs) v:=r;simp only[aC]at r;obtain⟨a,o,xs,rfl,q,t⟩:=r;exact⟨a,xs,rfl,.inr ⟨o,s _ _ q⟩,t⟩
  |fr=>obtain⟨a,_,_,q⟩:=r;exact q.elim
  |bo=>obtain⟨a,_,_,q⟩:=r;exact q.elim
 |_=>cases e
def xK{m n:Md}{x y:D}{kvs:List (N×D)}{k:N}{u:V}(s:aG F H)(rx:Rp K F H m x v)(ex:D3.asN x=some kvs)(ry:Rp K F H n y u)(ey:eG y=some k):∃a xs,v=.ref a/\Rd H a (.dN xs)/\aO K F kvs xs/\jU K H a u (eV xs k):=by obtain⟨a,xs,rfl,hr,t⟩:=Rp.asN s rx ex;obtain⟨b,rfl,hn,hd⟩:=qZ ey ry;exact⟨a,xs,rfl,hr,t,xs,k,b,hr,t.keys.mono s,rfl,⟨NAt.mono s _ _ hn,hd⟩,rfl⟩
end
def rIxN(K:Fg):R2:=λx y H Q=>∃a v,x=.ref a/\jU K H a y (some v)/\Q v H
def ix_dn(hu:X.A.units+64<cLine):IxR X (rIxN X.K):=by
 intro value slice aA s σ H x y v u Q I rx ry h hsub;obtain⟨a,w',rfl,g,q⟩:=h;cases(show v=Value.ref a from rx)
 have hT:=aIW I g;unfold subscriptTail;refine aQA ?_;rw[getitemInPython_of_ne hT.not_modules];refine aQA (aRX hT PySem.F.slot_dict_getitem.lookup ?_);have fin:wpAny (model X.prog X.w) X.A (subscripted slice false (.ref a) u) (λr s3=>wpAny (model X.prog X.w) X.A (letTemporaryGo value (.ref a) r>>=λ_=>pure r) (EP X aA σ Q) X.xe s3) X.xe s:=by rw[hsub];exact wpAny_operating (aIT hu I g ry λz s3 I3 rz=>aQA (wpAny_letTemporaryGo (aP9 ⟨w',H,I3,rz,q⟩)))
 first
  |exact aP9 (aQA fin)
  |exact aQA (aP9 (aQA fin))
  |exact aQA fin
noncomputable def lP:Md->D->Md->D->Option (Md×D):=λ_ x _ y=>match asN x,eG y with
 |some kvs,some k=>(cY kvs k).map λd=>(.fz,d)
 |_,_=>none
def lQ(ra rk rd:Res):Res:=ra.thn λ_ da=>match asN da with
 |some kvs=>rk.thn λ_ dk=>(aZ rd).thn λm d=>(match m,eG dk with
  |.fz,some k=>.ok .fz ((cY kvs k).getD d)
  |_,_=>.stuck)
 |none=>.stuck
noncomputable def lT(ρ:Rho)(i:Nat)(rk rv:Res):aH:=match ρ[i]? with
 |some (some (true,.dtn kvs))=>(aZ rv).thS ρ λm d=>match m with
  |.fz=>rk.thS ρ λ_ kd=>(match eG kd with
   |some k=>if kvs.length<sizeLine then .nx (ρ.set i (some (true,.dtn (jV kvs k d))))else .stuck
   |none=>.stuck)
  |_=>.stuck
 |_=>.stuck
def tNNew:TE:=λ_ H Q=>∀p,H p=none->Q (.ref p) (upd H p (.dN []))
def aIX:PE X (.Dict [] [] pos) tNNew:=λaA s σ H Q I h =>
 wpAny_Dict_empty ⟨.ref s.heap.objs.size,_,I.laid (a:=s.heap.objs.size) (o:=.dN []) (t':=s.toks) (λ_ _ q=>hps q) (aQD _)
  ⟨aQP _,aPL.mpr (Ne.symm (aPR I.big)),[],.nil,_,#[],0,aPN _ rfl,⟨rfl,rfl,rfl⟩,rfl,rfl,aTA⟩,rfl,h _ (I.hok.fresh (aQD _))⟩
section
variable  {a b o f:Expr}{go gf:Rho->Res}
def aIY:PV C X (.Dict [] [] pos) (λ_=>.ok .fr (.dtn [])):=by refine PE.imp aIX λσ H Q q=>?_;rw[aX]at q;obtain⟨ρ,F,R,w⟩:=q;intro p hp;exact w (.ref p) F _ (aI.fresh _ R.sub hp) ⟨p,rfl,R.sub.free hp,[],bE,by simp[aO]⟩ λ_ a ea=>by cases ea;exact hp
def aIZ(hu:X.A.units+64<cLine)(ha:PV C X a ga)(hb:PV C X b gb)(hs:nM b):PV C X (.Subscript a b pos) (λρ=>op2 lP (ga ρ) (gb ρ)):=by
 refine PE.imp (u0 (ix_dn hu) ha hb hs) λσ H Q q=>kT (λF H m x n y v u k d Q s rx ry e w=>?_) q;unfold lP at e;split at e
 . rename_i kvs ky ek1 ek2;obtain⟨p,xs,rfl,hh,rk,g⟩:=xK s rx ek1 ry ek2;have hv:=aO.val ky rk;cases eg:cY kvs ky with
   |none=>rw[eg]at e;cases e
   |some d'=>rw[eg]at e hv;cases e;obtain⟨v',ev,rv⟩:=hv;rw[ev]at g;exact⟨p,v',rfl,g,w v' F H (.refl s) rv (by nofun)⟩
 . cases e
def IsDN(H:Hp)(a:Addr):Prop:=∃kvs,Rd H a (.dN kvs)
def xL{a:Addr}(I:L2.Inv X aA σ H s)(d:IsDN H a):s.TypeIs (.ref a) "dict" /\ ∀b,Value.ref a=.ref b->∃ob,s.heap.get? b=some ob/\ob.dict=none:=by
 obtain⟨kvs,e⟩:=d;obtain⟨_,_,xs,_,ob,es,ep,h1,h2,_⟩:=(show bL X.prog X.w H s.heap a (.dN kvs)from e.ok I.hok)
 exact⟨⟨ob,h1,h2.1⟩,λb q=>by cases q;exact⟨ob,h1,h2.2.1⟩⟩
def xM(K:Fg)(td ty tx:TE):TE:=λσ H Q=>td σ H λx H1=>∃a,x=.ref a/\IsDN H1 a/\ty σ H1 λy H2=>tx σ H2 λz H3=>∃o,jU K H3 a y o/\Q (o.getD z) H3
def aI0{ty tx:TE}(hu:X.A.units+64<cLine)(ho:PE X o td)(he:PE X e ty)(hf:PE X f tx)(m:M2 X o "get" apos e f cpos):PE X (.Call (.Attribute o "get" apos) [e,f] [] cpos) (xM X.K td ty tx):=by
 intro aA s σ H Q I h;refine wpAny_Call_method m.base m.few m.line PySem.F.plainAttrs_dict PySem.F.slot_dict_get PySem.F.type_dict_get (thn (ho aA s σ H _ I h) λu s1 ⟨x,H1,I1,rx,a,ex,d,q1⟩=>?_);subst ex;obtain rfl:u=Value.ref a:=rx;refine⟨(xL I1 d).1,(xL I1 d).2,?_⟩;rw[m.trees];refine Calls.callWith_builtin rfl (Calls.evalArgs_plain (aQQ (thn (he aA s1 σ H1 _ I1 q1) λiv s2 ⟨y,H2,I2,ry,q2⟩ =>
  aQQ (thn (hf aA s2 σ H2 _ I2 q2) λfv s3 ⟨z,H3,I3,rz,ov,g,q3⟩=>Calls.spliced_nil ?_))))
 exact aIU hu I3 g ry rz λw' s4 I4 rw'=>⟨_,H3,I4,rw',q3⟩
def aI1(hu:X.A.units+64<cLine)(ho:PV C X o go)(he:PV C X e ge)(hf:PV C X f gf)(m:M2 X o "get" apos e f cpos):PV C X (.Call (.Attribute o "get" apos) [e,f] [] cpos) (λρ=>lQ (go ρ) (ge ρ) (gf ρ)):=by
 refine PE.imp (aI0 hu ho he (gB hf) m) λσ H Q q=>?_;unfold xM;rw[aX]at q ⊢;obtain⟨ρ,F,R,w⟩:=q;refine⟨ρ,F,R,?_⟩;unfold lQ at w;cases ea:go ρ with
 |stuck=>rw[ea]at w;exact w
 |exc c=>rw[ea]at w;exact w
 |ok ma da =>
  rw[ea,Res.thn_ok]at w;intro v F1 H1 s1 r1 _;have w1:=aY.step s1 w;cases en:asN da with
  |none=>rw[en]at w1;exact w1.elim
  |some kvs =>
   rw[en]at w1;dsimp only at w1;obtain⟨a,xs,rfl,hh,rk⟩:=Rp.asN s1.sub r1 en;refine⟨a,rfl,⟨xs,hh⟩,?_⟩;rw[aX];refine⟨ρ,F1,R.step s1,?_⟩;cases ek:ge ρ with
   |stuck=>rw[ek]at w1;exact w1
   |exc c=>rw[ek]at w1;exact w1
   |ok mk dk =>
    rw[ek,Res.thn_ok]at w1;intro y F2 H2 s2 r2 _;have w2:=aY.step s2 w1;rw[aX];refine⟨ρ,F2,(R.step s1).step s2,?_⟩;cases ed:aZ (gf ρ)with
    |stuck=>rw[ed]at w2;exact w2
    |exc c=>rw[ed]at w2;exact w2
    |ok md d =>
     rw[ed,Res.thn_ok]at w2;intro z F3 H3 s3 r3 _;have w3:=aY.step s3 w2;have hm:md=.fz:=wF ed;subst hm;cases ek2:eG dk with
     |none=>rw[ek2]at w3;exact w3.elim
     |some k =>
      rw[ek2]at w3;dsimp only at w3;obtain⟨a',xs',ea',hh',rk',g⟩:=xK s3.sub ((r1.step s2).step s3) en (r2.step s3) ek2;cases ea';refine⟨_,g,?_⟩;have hv:=aO.val k rk';cases eg:cY kvs k with
      |none=>rw[eg]at hv w3;dsimp only at hv;rw[hv];exact w3 z F3 H3 (.refl s3.sub) r3 (by nofun)
      |some d'=>rw[eg]at hv w3;obtain⟨v',ev,rv⟩:=hv;rw[ev];exact w3 v' F3 H3 (.refl s3.sub) rv (by nofun)
def xN(K:Fg)(td ty tv:TE):TS:=λD σ H=>tv σ H λv H1=>td σ H1 λx H2=>ty σ H2 λy H3=>∃a H4,x=.ref a/\NPut K H3 a y v H4/\D.nx σ H4
def aI2{i value:Expr}{ty tv:TE}(hu:X.A.units+64<cLine)(ho:PE X o td)(hi:PE X i ty)(hv:PE X value tv)(hs:swapsWith value (some (.Subscript o i pos')) pos.line X.env=pure false):PS X (.Assign [.Subscript o i pos'] value pos) (xN X.K td ty tv):=by intro aA s σ H D I h;refine wpAny_Assign_Subscript (thn (hv aA s σ H _ I h) λr s1 ⟨v,H1,I1,rv,q1⟩=>thn (ho aA s1 σ H1 _ I1 q1) λu s2 ⟨x,H2,I2,rx,q2⟩=>thn (hi aA s2 σ H2 _ I2 q2) λiv s3 ⟨y,H3,I3,ry,a,H4,ex,g,q3⟩=>?_) hs;subst ex;obtain rfl:u=Value.ref a:=rx;exact aIV hu I3 g ry rv λs4 I4=>⟨σ,H4,I4,q3⟩
end
section
variable  {gk:Rho->Res}{p sp:Pos}
def aI3(i:Nat)(hu:X.A.units+64<cLine)(hv:PE X (.Name x p) (iE i))(hk:PV C X ke gk)(he:PV C X e g)(hsw:swapsWith e (some (.Subscript (.Name x p) ke sp)) pos.line X.env=pure false):PSv C X (.Assign [.Subscript (.Name x p) ke sp] e pos) (λρ=>lT ρ i (gk ρ) (g ρ)):=by
 refine PS.imp (aI2 hu hv hk (gB he) hsw) λE σ H q=>?_;obtain⟨ρ,F,R,w⟩:=q;dsimp only at w;unfold xN;unfold lT at w;split at w
 . rename_i kvs e0;obtain⟨v0,ev0,rp0,hn0⟩:=R.slot i true _ e0;obtain⟨a,ea,hfa,xs,hh,rk⟩:=rp0;subst ea;refine iK R w λm d v F' H' w' s R' rp fr=>?_;cases m with
   |fr=>exact(show False from w').elim
   |bo=>exact(show False from w').elim
   |fz =>
   dsimp only at w';refine⟨.ref a,ev0,?_⟩;refine iK R' w' λm2 kd u F2 H2 w2 s2 R2 rp2 _=>?_;cases ek:eG kd with
   |none=>rw[ek]at w2;exact w2.elim
   |some k =>
    rw[ek]at w2;dsimp only at w2;split at w2
    . rename_i hl;have hh2:H2 a=some (.dN xs):=s2.same _ _ (s.same _ _ hh);obtain⟨b,rfl,hn,hd⟩:=qZ ek rp2;have rk2:=rk.mono (s.fsame.trans s2.fsame) _ _;refine⟨a,_,rfl,⟨xs,k,b,hh2,rk2.keys.mono s2.sub,rfl,⟨NAt.mono s2.sub _ _ hn,hd⟩,by rw[rk.len];exact hl,rfl⟩,?_⟩
      exact w2 σ F2 _ (aG.refl _) (R2.mut e0 ev0 ⟨_,bE,aO.put ⟨hn,hd⟩ (aC.mono s2.fsame _ _ rp) rk2⟩)
    . exact w2.elim
 . exact w.elim
end
open PySem.W
structure WkO(lt:Nat->Nat->Bool):Prop where
 ntr:∀{i j k},lt i j=false->lt j k=false->lt i k=false
 asy:∀{i j},lt i j=true->lt j i=false
def WkO.irr{lt:Nat->Nat->Bool}(O:WkO lt)(i:Nat):lt i i=false:=by
 cases e:lt i i with
 |false=>rfl
 |true=>have:=O.asy e;rw[e]at this;cases this
structure PW(n:Nat)(p:Array Nat):Prop where
 size:p.size=n
 below:∀k,p.getD k 0<n
def PW.perm{q:Array Nat}(h:PW n p)(e:q.Perm p):PW n q:=by
 refine⟨by rw[e.size_eq,h.size],λk=>?_⟩
 simp only[aT1];cases z:q[k]? with
 |none=>have:=h.below p.size;simp only[aT1,Array.getElem?_size]at this;exact this
 |some v =>
  have hm:v∈p.toList:=(aUA.mp e).mem_iff.mp (by rw[aQK];exact aSF z)
  obtain⟨i,hi⟩:=List.getElem?_of_mem hm;have:=h.below i;rw[aTX]at hi;simp only[aT1,hi]at this;exact this
section
variable {lt:Nat->Nat->Bool}{cmp:Nat->Nat->(Bool->aVU->Prop)->aVU->Prop}{J:aVU->Prop}
def Wup(lt:Nat->Nat->Bool)(p:Array Nat)(b:Nat):Prop:=∀i j,i<j->j<b->lt (p.getD j 0) (p.getD i 0)=false
def Wdn(lt:Nat->Nat->Bool)(p:Array Nat)(b:Nat):Prop:=∀i j,i<j->j<b->lt (p.getD i 0) (p.getD j 0)=false
def cG(a b:Nat)(hb:b<=p.size)(k:Nat):(kas_rev p a b).getD k 0=if a<=k/\k<b then p.getD (a+b-1-k) 0 else p.getD k 0:=by simp only[aT1];unfold kas_rev;rw[getElem?_mirror_all hb];split <;> rfl
end
noncomputable def aI4:Bool->Keyed->Array Keyed->Nat->Nat->Nat->StateT SortSt Sem (Option Nat):=sortPriv% PySem.Builtin.gallop
noncomputable def aI5:Array Keyed->Array Keyed->StateT SortSt Sem (Array Keyed):=sortPriv% PySem.Builtin.mergeLo
noncomputable def aI6:Array Keyed->Array Keyed->StateT SortSt Sem (Array Keyed):=sortPriv% PySem.Builtin.mergeHi
structure Odr(M:Model)(A:aVV)(E:VSP)(s:aVU)(κ:SortKind)(it:Nat->Keyed)(n:Nat)(lt:Nat->Nat->Bool):Prop where
 wk:WkO lt
 ask:∀{i j:Nat}{Q:Option Bool->SortSt->Prop}{st:SortSt},i<n->j<n->kindOf st=κ->Q (some (lt i j)) st->wpS M A E s (lt' (it i) (it j)) Q st
section
variable {M:Model}{A:aVV}{E:VSP}{κ:SortKind}{it:Nat->Keyed}{lt:Nat->Nat->Bool}
def aR{a:Array Nat}{Q:Keyed->SortSt->Prop}{st:SortSt}(h:i<a.size)(q:Q (it (a.getD i 0)) st):wpS M A E s (elem' (a.map it) i) Q st:=by
 rw[elem'_eq];have:(a.map it)[i]? = some (it (a.getD i 0)):=by
  have e:a.getD i 0=a[i]:=by simp[Array.getD,h]
  rw[e];simp[h]
 rw[this];exact aUB q
noncomputable def byd(lt:Nat->Nat->Bool)(left:Bool)(x:Nat)(a:Array Nat)(base i:Nat):Bool:=if left=true then lt (a.getD (base+i) 0) x else !lt x (a.getD (base+i) 0)
theorem aI7(O:WkO lt){left:Bool}{x:Nat}{a:Array Nat}{base m:Nat}(so:∀i j,i<j->j<m->lt (a.getD (base+j) 0) (a.getD (base+i) 0)=false)(hij:i<=j)(hj:j<m)(e:byd lt left x a base j=true):byd lt left x a base i=true:=by
 by_cases h:i=j
 . rw[h];exact e
 . have:=so i j (by lia) hj
   unfold byd at e ⊢;cases left with
   |true =>
    simp only[if_true]at e ⊢;cases z:lt (a.getD (base+i) 0) x with
    |true=>rfl
    |false=>rw[O.ntr this z]at e;cases e
   |false=>simp only[aR5,aRA,aTY]at e ⊢;exact O.ntr e this
def lU(D:Odr M A E s κ it n lt){left:Bool}{x:Nat}{a:Array Nat}{base:Nat}{Q:Option Bool->SortSt->Prop}{st:SortSt}(hk:kindOf st=κ)(hx:x<n)(ha:∀k,a.getD k 0<n)(hb:base+i<a.size)(q:Q (some (byd lt left x a base i)) st):wpS M A E s (elem' (a.map it) (base+i)>>=λy=>if left=true then lt' y (it x)else lt' (it x) y>>=λr=>pure (r.map λb=>!b)) Q st:=by
 refine aUC (aR hb ?_);cases left with
 |true=>exact D.ask (ha _) hx hk q
 |false=>exact aUC (D.ask hx (ha _) hk (aUB q))
theorem eH(D:Odr M A E s κ it n lt){left:Bool}{x:Nat}{a:Array Nat}{base m hint:Nat}{Q:Option Nat->SortSt->Prop}{st:SortSt}(hk:kindOf st=κ)(hx:x<n)(ha:∀k,a.getD k 0<n)(hb:base+m<=a.size)(hh:hint<m)(so:∀i j,i<j->j<m->lt (a.getD (base+j) 0) (a.getD (base+i) 0)=false)(q:∀h,h<=m->(∀i,i<h->byd lt left x a base i=true)->(∀i,h<=i->i<m->byd lt left x a base i=false)->Q (some h) st):wpS M A E s (aI4 left (it x) (a.map it) base m hint) Q st:=by
 have up:∀{i j:Nat},i<=j->j<m->byd lt left x a base j=true->byd lt left x a base i=true:=λ{i j} h1 h2 h3=>aI7 D.wk so h1 h2 h3;have dn:∀{i j:Nat},i<=j->j<m->byd lt left x a base i=false->byd lt left x a base j=false:=λ{i j} h1 h2 h3=>by
  cases z:byd lt left x a base j with
  |false=>rfl
  |true=>rw[up h1 h2 z]at h3;cases h3
 refine aUC (lU D hk hx ha (by lia) ?_)
 cases z:byd lt left x a base hint with
 |true =>
  dsimp only;rw[if_pos rfl];refine aUC (aUD (aUE (I:=λi c st'=>st=st'/\∃u v,c=(none,u,v)/\u<v/\i<=v/\hint+u<m/\byd lt left x a base (hint+u)=true)
   (Q:=λc st'=>st=st'/\∃u v,c=(none,u,v)/\u<v/\hint+u<m/\byd lt left x a base (hint+u)=true/\(m-hint<=v\/byd lt left x a base (hint+v)=false)) ?s ?e ⟨rfl,0,1,rfl,by lia,by lia,by lia,z⟩) ?k)
  case s =>
   rintro i c st' _ hi ⟨rfl,u,v,rfl,h1,h2,h3,h4⟩;dsimp only;by_cases hv:v ≥ m-hint
   . rw[if_pos hv];exact aUB ⟨rfl,u,v,rfl,h1,h3,h4,.inl hv⟩
   . rw[if_neg hv];refine aUC (lU D hk hx ha (by lia) ?_)
     cases y:byd lt left x a base (hint+v)with
     |true=>exact aUB ⟨rfl,v,2 * v+1,rfl,by lia,by lia,by lia,y⟩
     |false=>exact aUB ⟨rfl,u,v,rfl,h1,h3,h4,.inr y⟩
  case e=>rintro c st' ⟨rfl,u,v,rfl,h1,h2,h3,h4⟩;exact⟨rfl,u,v,rfl,h1,h3,h4,.inl (by lia)⟩
  case k =>
   rintro c st' ⟨rfl,u,v,rfl,h1,h3,h4,h5⟩;dsimp only;refine aUC (aUD (aUE (I:=λi c st'=>st=st'/\∃u v,c=(none,u,v)/\u<=v/\v<=m/\v-u<=m-i/\(∀i,i<u->byd lt left x a base i=true)/\(∀i,v<=i->i<m->byd lt left x a base i=false))
    (Q:=λc st'=>st=st'/\∃v,c=(none,v,v)/\v<=m/\(∀i,i<v->byd lt left x a base i=true)/\(∀i,v<=i->i<m->byd lt left x a base i=false)) ?s2 ?e2 ⟨rfl,hint+u+1,hint+min v (m-hint),rfl,by lia,by lia,by lia,λi hi=>up (by lia) h3 h4,λi hi1 hi2=>(by rcases h5 with h5|h5;(exfalso;lia);exact dn (by lia) hi2 h5)⟩) ?k2)
   case s2 =>
    rintro i c st' _ hi ⟨rfl,u,v,rfl,g1,g2,g3,g4,g5⟩;dsimp only;by_cases hv:u ≥ v
    . rw[if_pos hv];obtain rfl:u=v:=by lia
      exact aUB ⟨rfl,u,rfl,g2,g4,g5⟩
    . rw[if_neg hv];refine aUC (lU D hk hx ha (by lia) ?_)
      cases y:byd lt left x a base (u+(v-u) / 2)with
      |true=>exact aUB ⟨rfl,u+(v-u) / 2+1,v,rfl,by lia,by lia,by lia,λi hi=>up (by lia) (by lia) y,g5⟩
      |false=>exact aUB ⟨rfl,u,u+(v-u) / 2,rfl,by lia,by lia,by lia,g4,λi hi hi2=>dn hi hi2 y⟩
   case e2 =>
    rintro c st' ⟨rfl,u,v,rfl,g1,g2,g3,g4,g5⟩;obtain rfl:u=v:=by lia
    exact⟨rfl,u,rfl,g2,g4,g5⟩
   case k2=>rintro c st' ⟨rfl,v,rfl,g2,g4,g5⟩;exact aUB (q v g2 g4 g5)
 |false =>
  dsimp only;rw[if_neg aQL];refine aUC (aUD (aUE (I:=λi c st'=>st=st'/\∃u v,c=(none,u,v)/\u<v/\i<=v/\u<=hint/\byd lt left x a base (hint-u)=false)
   (Q:=λc st'=>st=st'/\∃u v,c=(none,u,v)/\u<v/\u<=hint/\byd lt left x a base (hint-u)=false/\(hint+1<=v\/byd lt left x a base (hint-v)=true)) ?s ?e ⟨rfl,0,1,rfl,by lia,by lia,by lia,z⟩) ?k)
  case s =>
   rintro i c st' _ hi ⟨rfl,u,v,rfl,h1,h2,h3,h4⟩;dsimp only;by_cases hv:v ≥ hint+1
   . rw[if_pos hv];exact aUB ⟨rfl,u,v,rfl,h1,h3,h4,.inl hv⟩
   . rw[if_neg hv];refine aUC (lU D hk hx ha (by lia) ?_)
     cases y:byd lt left x a base (hint-v)with
     |true=>exact aUB ⟨rfl,u,v,rfl,h1,h3,h4,.inr y⟩
     |false=>exact aUB ⟨rfl,v,2 * v+1,rfl,by lia,by lia,by lia,y⟩
  case e=>rintro c st' ⟨rfl,u,v,rfl,h1,h2,h3,h4⟩;exact⟨rfl,u,v,rfl,h1,h3,h4,.inl (by lia)⟩
  case k =>
   rintro c st' ⟨rfl,u,v,rfl,h1,h3,h4,h5⟩;dsimp only;refine aUC (aUD (aUE (I:=λi c st'=>st=st'/\∃u v,c=(none,u,v)/\u<=v/\v<=m/\v-u<=m-i/\(∀i,i<u->byd lt left x a base i=true)/\(∀i,v<=i->i<m->byd lt left x a base i=false))
    (Q:=λc st'=>st=st'/\∃v,c=(none,v,v)/\v<=m/\(∀i,i<v->byd lt left x a base i=true)/\(∀i,v<=i->i<m->byd lt left x a base i=false)) ?s2 ?e2 ⟨rfl,hint+1-min v (hint+1),hint-u,rfl,by lia,by lia,by lia,λi hi=>(by rcases h5 with h5|h5;(exfalso;lia);exact up (by lia) (by lia) h5),λi hi1 hi2=>dn hi1 hi2 h4⟩) ?k2)
   case s2 =>
    rintro i c st' _ hi ⟨rfl,u,v,rfl,g1,g2,g3,g4,g5⟩;dsimp only;by_cases hv:u ≥ v
    . rw[if_pos hv];obtain rfl:u=v:=by lia
      exact aUB ⟨rfl,u,rfl,g2,g4,g5⟩
    . rw[if_neg hv];refine aUC (lU D hk hx ha (by lia) ?_)
      cases y:byd lt left x a base (u+(v-u) / 2)with
      |true=>exact aUB ⟨rfl,u+(v-u) / 2+1,v,rfl,by lia,by lia,by lia,λi hi=>up (by lia) (by lia) y,g5⟩
      |false=>exact aUB ⟨rfl,u,u+(v-u) / 2,rfl,by lia,by lia,by lia,g4,λi hi hi2=>dn hi hi2 y⟩
   case e2 =>
    rintro c st' ⟨rfl,u,v,rfl,g1,g2,g3,g4,g5⟩;obtain rfl:u=v:=by lia
    exact⟨rfl,u,rfl,g2,g4,g5⟩
   case k2=>rintro c st' ⟨rfl,v,rfl,g2,g4,g5⟩;exact aUB (q v g2 g4 g5)
end
def Sd(lt:Nat->Nat->Bool)(l:List Nat):Prop:=l.Pairwise λi j=>lt j i=false
structure Mg(lt:Nat->Nat->Bool)(all O X Y:List Nat):Prop where
 perm:(O++(X++Y)).Perm all
 so:Sd lt O
 sx:Sd lt X
 sy:Sd lt Y
 ox:∀o∈O,∀z∈X,lt z o=false
 oy:∀o∈O,∀z∈Y,lt z o=false
section
variable {lt:Nat->Nat->Bool}{all O X Y:List Nat}
def Mg.swap(m:Mg lt all O X Y):Mg lt all O Y X:=⟨(aTH O aUF).trans m.perm,m.so,m.sy,m.sx,m.oy,m.ox⟩
def Mg.pushX{x:Nat}(m:Mg lt all O (x::X) Y)(h:∀y∈Y,lt y x=false):Mg lt all (O++[x]) X Y:=by
 have sx:=aT7.mp m.sx;refine⟨by simpa using m.perm,aT6.mpr ⟨m.so,aUG _ _,λo ho z hz=>?_⟩,sx.2,m.sy,λo ho z hz=>?_,λo ho z hz=>?_⟩
 . rcases aPY.mp hz with rfl|hz
   . exact m.ox o ho _ mcs
   . cases hz
 . rcases aPZ.mp ho with ho|ho
   . exact m.ox o ho z (mcm hz)
   . rcases aPY.mp ho with rfl|ho
     . exact sx.1 z hz
     . cases ho
 . rcases aPZ.mp ho with ho|ho
   . exact m.oy o ho z hz
   . rcases aPY.mp ho with rfl|ho
     . exact h z hz
     . cases ho
def Mg.pushY{y:Nat}(m:Mg lt all O X (y::Y))(h:∀x∈X,lt x y=false):Mg lt all (O++[y]) X Y:=(m.swap.pushX h).swap
theorem Mg.pushXs:∀{P O:List Nat},Mg lt all O (P++X) Y->(∀p∈P,∀y∈Y,lt y p=false)->Mg lt all (O++P) X Y
 |[],O,m,_=>by rw[aQR];exact m
 |p::P,O,m,h=>by have:=(Mg.pushX (X:=P++X) m (h p mcs)).pushXs λq hq=>h q (mcm hq);rw[aTG]at this;exact this
def Mg.pushYs{P:List Nat}(m:Mg lt all O X (P++Y))(h:∀p∈P,∀x∈X,lt x p=false):Mg lt all (O++P) X Y:=(m.swap.pushXs h).swap
def dD(W:WkO lt){x y:Nat}(s:Sd lt (y::Y))(h:lt y x=false):∀z∈y::Y,lt z x=false:=λz hz=>by
 rcases aPY.mp hz with rfl|hz
 . exact h
 . exact W.ntr ((aT7.mp s).1 z hz) h
def Mg.ends(m:Mg lt all O X Y)(h:X=[]\/Y=[]):(O++(X++Y)).Perm all/\Sd lt (O++(X++Y)):=by
 refine⟨m.perm,aT6.mpr ⟨m.so,aT6.mpr ⟨m.sx,m.sy,λx hx y hy=>?_⟩,λo ho z hz=>?_⟩⟩
 . rcases h with rfl|rfl
   . cases hx
   . cases hy
 . rcases aPZ.mp hz with hz|hz
   . exact m.ox o ho z hz
   . exact m.oy o ho z hz
def Mg.endY(m:Mg lt all O X Y)(h:∀y∈Y,∀x∈X,lt x y=false):(O++(Y++X)).Perm all/\Sd lt (O++(Y++X)):=by
 refine⟨m.swap.perm,aT6.mpr ⟨m.so,aT6.mpr ⟨m.sy,m.sx,λy hy x hx=>h y hy x hx⟩,λo ho z hz=>?_⟩⟩;rcases aPZ.mp hz with hz|hz
 . exact m.oy o ho z hz
 . exact m.ox o ho z hz
def fY{a:Array Nat}(h:i<a.size):a.toList.drop i=a.getD i 0::a.toList.drop (i+1):=by
 have e:a.getD i 0=a[i]:=by simp[Array.getD,h]
 rw[e,aSJ (by simpa using h)];simp
def xO{a:Array Nat}(i k:Nat):a.toList.drop i=(a.toList.drop i).take k++a.toList.drop (i+k):=by rw[<- List.drop_drop];exact(aT5 k _).symm
def Sg(st st':SortSt):Prop:=kindOf st'=kindOf st/\arrOf st'=arrOf st/\pendingOf st'=pendingOf st/\failedOf st'=failedOf st
def Sg.kind{κ:SortKind}{st st':SortSt}(g:Sg st st')(h:kindOf st=κ):kindOf st'=κ:=g.1.trans h
theorem Sg.trans{a b c:SortSt}(g:Sg a b)(h:Sg b c):Sg a c:=⟨h.1.trans g.1,h.2.1.trans g.2.1,h.2.2.1.trans g.2.2.1,h.2.2.2.trans g.2.2.2⟩
theorem fB{a:Array Nat}(h:Sd lt a.toList)(hij:i<j)(hj:j<a.size):lt (a.getD j 0) (a.getD i 0)=false:=by
 have:=aT0.mp h i j (by simp;lia) (by simpa using hj) hij
 have e1:a.getD i 0=a[i]:=by simp[Array.getD,show i<a.size by lia]
 have e2:a.getD j 0=a[j]:=by simp[Array.getD,hj]
 rw[e1,e2];simpa using this
def Gd(lt:Nat->Nat->Bool)(it:Nat->Keyed)(all:List Nat)(out:Array Keyed):Prop:=∃R:List Nat,out.toList=R.map it/\R.Perm all/\Sd lt R
structure LoI(lt:Nat->Nat->Bool)(it:Nat->Keyed)(pa pb:Array Nat)(out:Array Keyed)(ia ib:Nat):Prop where
 ex:∃O:List Nat,out.toList=O.map it/\Mg lt (pa.toList++pb.toList) O (pa.toList.drop ia) (pb.toList.drop ib)
section
variable {it:Nat->Keyed}{out:Array Keyed}{ia ib:Nat}
theorem LoI.as(L:LoI lt it pa pb out ia ib)(hk:ia+k<=pa.size)(h:∀i,i<k->∀y∈pb.toList.drop ib,lt y (pa.getD (ia+i) 0)=false):LoI lt it pa pb (out++(pa.map it).extract ia (ia+k)) (ia+k) ib:=by
 obtain⟨O,eO,m⟩:=L.ex;rw[xO ia k]at m;refine⟨O++(pa.toList.drop ia).take k,?_,m.pushXs λp hp y hy=>?_⟩
 . rw[aUH,eO,aUI];congr 1;simp[aUJ,aUK]
 . obtain⟨i,hi,rfl⟩:=aT3 hp;have hi':i<k:=by rw[aQU]at hi;lia
   have:=h i hi' y hy;have e:pa.getD (ia+i) 0=pa[ia+i]'(by lia):=by simp[Array.getD,show ia+i<pa.size by lia]
   rw[e]at this;simpa using this
theorem LoI.bs(L:LoI lt it pa pb out ia ib)(hk:ib+k<=pb.size)(h:∀i,i<k->∀x∈pa.toList.drop ia,lt x (pb.getD (ib+i) 0)=false):LoI lt it pa pb (out++(pb.map it).extract ib (ib+k)) ia (ib+k):=by
 obtain⟨O,eO,m⟩:=L.ex;rw[xO (a:=pb) ib k]at m;refine⟨O++(pb.toList.drop ib).take k,?_,m.pushYs λp hp y hy=>?_⟩
 . rw[aUH,eO,aUI];congr 1;simp[aUJ,aUK]
 . obtain⟨i,hi,rfl⟩:=aT3 hp;have hi':i<k:=by rw[aQU]at hi;lia
   have:=h i hi' y hy;have e:pb.getD (ib+i) 0=pb[ib+i]'(by lia):=by simp[Array.getD,show ib+i<pb.size by lia]
   rw[e]at this;simpa using this
def LoI.a1(W:WkO lt)(L:LoI lt it pa pb out ia ib)(hk:ia<pa.size)(hb:ib<pb.size)(h:lt (pb.getD ib 0) (pa.getD ia 0)=false):LoI lt it pa pb (out.push (it (pa.getD ia 0))) (ia+1) ib:=by
 obtain⟨O,eO,m⟩:=L.ex;rw[fY hk]at m;refine⟨O++[pa.getD ia 0],by simp[eO],m.pushX ?_⟩
 have sy:=m.sy;rw[fY hb]at sy ⊢;exact dD W sy h
def LoI.b1(W:WkO lt)(L:LoI lt it pa pb out ia ib)(hk:ib<pb.size)(ha:ia<pa.size)(h:lt (pa.getD ia 0) (pb.getD ib 0)=false):LoI lt it pa pb (out.push (it (pb.getD ib 0))) ia (ib+1):=by
 obtain⟨O,eO,m⟩:=L.ex;rw[fY (a:=pb) hk]at m;refine⟨O++[pb.getD ib 0],by simp[eO],m.pushY ?_⟩
 have sy:=m.sx;rw[fY ha]at sy ⊢;exact dD W sy h
def LoI.done(L:LoI lt it pa pb out ia ib)(h:ia=pa.size\/ib=pb.size):Gd lt it (pa.toList++pb.toList) (out++(pa.map it).extract ia (pa.map it).size++(pb.map it).extract ib (pb.map it).size):=by
 obtain⟨O,eO,m⟩:=L.ex;obtain⟨e1,e2⟩:=m.ends (by
  rcases h with h|h
  . exact .inl (aUL (by simp[h]))
  . exact .inr (aUL (by simp[h])))
 refine⟨_,?_,e1,e2⟩;rw[aUH,aUH,eO,aUI,aUI,aTG];congr 1;simp[aUK,aSX]
theorem LoI.lastA(L:LoI lt it pa pb out ia ib)(h:ia+1=pa.size)(last:∀y∈pb.toList,lt (pa.getD (pa.size-1) 0) y=false):Gd lt it (pa.toList++pb.toList) (out++(pb.map it).extract ib (pb.map it).size++(pa.map it).extract ia (pa.map it).size):=by
 obtain⟨O,eO,m⟩:=L.ex;obtain⟨e1,e2⟩:=m.endY (λy hy x hx=>by
  rw[fY (by lia),aUL (by simp;lia)]at hx
  rcases aPY.mp hx with rfl|hx
  . have:=last y (List.mem_of_mem_drop hy)
    rwa [show pa.size-1=ia by lia]at this
  . cases hx)
 refine⟨_,?_,e1,e2⟩;rw[aUH,aUH,eO,aUI,aUI,aTG];congr 1;simp[aUK,aSX]
end
def Sg.refl(st:SortSt):Sg st st:=⟨rfl,rfl,rfl,rfl⟩
end
section
variable {M:Model}{A:aVV}{E:VSP}{κ:SortKind}{it:Nat->Keyed}{lt:Nat->Nat->Bool}
end
end D3
set_option maxHeartbeats 2000000
namespace D3
open PySem.W
section
variable {M:Model}{A:aVV}{E:VSP}{κ:SortKind}{it:Nat->Keyed}{lt:Nat->Nat->Bool}
def bV{c:Prop}[Decidable c]{x y:StateT SortSt Sem α}{Q:α->SortSt->Prop}{st:SortSt}(h1:wpS M A E s x Q st)(h2:wpS M A E s y Q st):wpS M A E s (if c then x else y) Q st:=by
 by_cases h:c
 . rw[if_pos h];exact h1
 . rw[if_neg h];exact h2
theorem aI8(D:Odr M A E s κ it n lt){Q:Array Keyed->SortSt->Prop}{st:SortSt}(hk:kindOf st=κ)(ha:∀k,pa.getD k 0<n)(hb:∀k,pb.getD k 0<n)(h1:1<=pa.size)(h2:1<=pb.size)(sa:Sd lt pa.toList)(sb:Sd lt pb.toList)(first:lt (pa.getD 0 0) (pb.getD 0 0)=false)(last:∀y∈pb.toList,lt (pa.getD (pa.size-1) 0) y=false)(q:∀out st',Sg st st'->Gd lt it (pa.toList++pb.toList) out->Q out st'):wpS M A E s (aI5 (pa.map it) (pb.map it)) Q st:=by
 have za:(pa.map it).size=pa.size:=aUM;have zb:(pb.map it).size=pb.size:=aUM;refine aUC (aUN (aR1 ⟨rfl,?_⟩));refine aUC (aR (it:=it) (a:=pb) h2 ?_);have L0:LoI lt it pa pb #[] 0 0:=⟨[],rfl,⟨by simp,List.Pairwise.nil,by simpa using sa,by simpa using sb,λo ho=>(by cases ho),λo ho=>(by cases ho)⟩⟩
 have L1:LoI lt it pa pb #[it (pb.getD 0 0)] 0 1:=L0.b1 D.wk h2 h1 first
 (try dsimp only)
 by_cases e1:1=pb.size
 . rw[if_pos (aQM.mpr (e1.trans zb.symm))];exact aUB (q _ _ (Sg.refl st) (L1.done (.inr e1)))
 rw[if_neg (λz=>e1 ((aQM.mp z).trans zb))];by_cases e2:0+1=pa.size
 . rw[if_pos (aQM.mpr (e2.trans za.symm))];exact aUB (q _ _ (Sg.refl st) (L1.lastA e2 last))
 rw[if_neg (λz=>e2 ((aQM.mp z).trans za))];refine aUC (aUO ?_);refine aUC (aUD (aUE (I:=λi c st'=>Sg st st'/\∃out ia ib g,c=(none,out,ia,ib,g)/\LoI lt it pa pb out ia ib/\ia+1<pa.size/\ib<pb.size/\i+1<=ia+ib)
  (Q:=λc st'=>Sg st st'/\∃r,c.1=some r/\Gd lt it (pa.toList++pb.toList) r) ?s ?e ⟨Sg.refl st,_,_,_,_,rfl,L1,by lia,by lia,by lia⟩) ?k)
 case e=>rintro c st' ⟨_,out,ia,ib,g,rfl,L,l1,l2,l3⟩;exfalso;lia
 case k =>
  rintro c st' ⟨g0,r,er,hr⟩
  (try dsimp only)
  rw[er];exact aUB (q _ _ g0 hr)
 case s =>
  rintro i c st' _ hi ⟨g0,out,ia,ib,g,rfl,L,l1,l2,l3⟩
  (try dsimp only)
  refine aUC (aUD (aUE (I:=λj c st''=>Sg st st''/\∃out ia ib u v,c=(none,out,ia,ib,u,v)/\LoI lt it pa pb out ia ib/\ia+1<pa.size/\ib<pb.size/\i+1+j<=ia+ib)
   (Q:=λc st''=>Sg st st''/\((∃r,c.1=some r/\Gd lt it (pa.toList++pb.toList) r)\/∃out ia ib u v,c=(none,out,ia,ib,u,v)/\LoI lt it pa pb out ia ib/\ia+1<pa.size/\ib<pb.size/\i+2<=ia+ib)) ?s1 ?e1 ⟨g0,_,_,_,_,_,rfl,L,l1,l2,by lia⟩) ?k1)
  case e1=>rintro c st2 ⟨g1,out,ia,ib,u,v,rfl,L,l1,l2,l3⟩;exact⟨g1,.inr ⟨_,_,_,_,_,rfl,L,l1,l2,by lia⟩⟩
  case s1 =>
   rintro j c st2 _ hj ⟨g1,out,ia,ib,u,v,rfl,L,l1,l2,l3⟩
   (try dsimp only)
   refine aUC (aR (it:=it) (a:=pb) l2 (aUC (aR (it:=it) (a:=pa) (by lia) (aUC (D.ask (hb _) (ha _) (g1.kind hk) ?_)))))
   cases y:lt (pb.getD ib 0) (pa.getD ia 0)with
   |true =>
    (try dsimp only)
    rw[if_pos rfl];refine aUC (aR (it:=it) (a:=pb) l2 ?_)
    (try dsimp only)
    have L2:=L.b1 D.wk l2 (by lia) (D.wk.asy y)
    by_cases e3:ib+1=pb.size
    . rw[if_pos (aQM.mpr (e3.trans zb.symm))];exact aUB ⟨g1,.inl ⟨_,rfl,L2.done (.inr e3)⟩⟩
    . rw[if_neg (λz=>e3 ((aQM.mp z).trans zb))];exact bV (aUB ⟨g1,.inr ⟨_,_,_,_,_,rfl,L2,l1,by lia,by lia⟩⟩) (aUB ⟨g1,_,_,_,_,_,rfl,L2,l1,by lia,by lia⟩)
   |false =>
    (try dsimp only)
    rw[if_neg aQL];refine aUC (aR (it:=it) (a:=pa) (by lia) ?_)
    (try dsimp only)
    have L2:=L.a1 D.wk (by lia) l2 y
    by_cases e3:ia+1+1=pa.size
    . rw[if_pos (aQM.mpr (e3.trans za.symm))];exact aUB ⟨g1,.inl ⟨_,rfl,L2.lastA e3 last⟩⟩
    . rw[if_neg (λz=>e3 ((aQM.mp z).trans za))];exact bV (aUB ⟨g1,.inr ⟨_,_,_,_,_,rfl,L2,by lia,l2,by lia⟩⟩) (aUB ⟨g1,_,_,_,_,_,rfl,L2,by lia,l2,by lia⟩)
  case k1 =>
   rintro c st2 ⟨g1,⟨r,er,hr⟩|⟨out,ia,ib,u,v,rfl,L,l1,l2,l3⟩⟩
   . (try dsimp only)
     rw[er];exact aUB ⟨g1,_,rfl,hr⟩
   . (try dsimp only)
     refine aUC (aUN (aR1 ⟨rfl,?_⟩));refine aUC (aUD (aUE (I:=λj c st''=>Sg st st''/\∃out ia ib w u v,c=(none,out,ia,ib,w,u,v)/\LoI lt it pa pb out ia ib/\ia+1<pa.size/\ib<pb.size/\i+2<=ia+ib)
      (Q:=λc st''=>Sg st st''/\((∃r,c.1=some r/\Gd lt it (pa.toList++pb.toList) r)\/∃out ia ib w u v,c=(none,out,ia,ib,w,u,v)/\LoI lt it pa pb out ia ib/\ia+1<pa.size/\ib<pb.size/\i+2<=ia+ib)) ?s2 ?e2 ⟨g1,_,_,_,_,_,_,rfl,L,l1,l2,by lia⟩) ?k2)
     case e2=>rintro c st3 ⟨g2,out,ia,ib,w,u,v,rfl,L,l1,l2,l3⟩;exact⟨g2,.inr ⟨_,_,_,_,_,_,rfl,L,l1,l2,l3⟩⟩
     case k2 =>
      rintro c st3 ⟨g2,⟨r,er,hr⟩|⟨out,ia,ib,w,u,v,rfl,L,l1,l2,l3⟩⟩
      . (try dsimp only)
        rw[er];exact aUB ⟨g2,_,rfl,hr⟩
      . (try dsimp only)
        refine aUC (aUP (aUB ⟨Sg.trans g2 ⟨rfl,rfl,rfl,rfl⟩,_,_,_,_,rfl,L,l1,l2,by lia⟩))
     case s2 =>
      rintro j c st3 _ hj ⟨g2,out,ia,ib,w,u,v,rfl,L,l1,l2,l3⟩
      (try dsimp only)
      by_cases h7:w > 1
      . rw[if_pos h7];refine aUC (aUP ?_);have g3:Sg st (SortSt.mk' (kindOf st3) (arrOf st3) (pendingOf st3) (w-1) (failedOf st3)):=g2;refine aUC (aR (it:=it) (a:=pb) l2 ?_);refine aUC (eH D (left:=false) (a:=pa) (base:=ia) (m:=(pa.map it).size-ia) (hint:=0) (g3.kind hk) (hb _) ha (by lia) (by lia) (λi j h1 h2=>fB sa (by lia) (by lia)) λk k1 k2 k3=>?_)
        (try dsimp only)
        by_cases h0:k > 0
        . rw[if_pos h0]
          have L3:=L.as (k:=k) (by lia) λi hi y hy=>(by
           have y1:=k2 i hi;have y2:(!lt (pb.getD ib 0) (pa.getD (ia+i) 0))=true:=y1;have y2:lt (pb.getD ib 0) (pa.getD (ia+i) 0)=false:=by simpa using y2
           obtain⟨O,eO,mm⟩:=L.ex;have sy:=mm.sy;rw[fY l2]at hy sy;exact dD D.wk sy y2 y hy)
          by_cases e4:ia+k+1=pa.size
          . rw[if_pos (aQM.mpr (e4.trans za.symm))];exact aUB ⟨g3,.inl ⟨_,rfl,L3.lastA e4 last⟩⟩
          rw[if_neg (λz=>e4 ((aQM.mp z).trans za))];by_cases e5:ia+k=pa.size
          . rw[if_pos (aQM.mpr (e5.trans za.symm))];exact aUB ⟨g3,.inl ⟨_,rfl,L3.done (.inl e5)⟩⟩
          rw[if_neg (λz=>e5 ((aQM.mp z).trans za))];have less:lt (pa.getD (ia+k) 0) (pb.getD ib 0)=false:=by
           have y1:=k3 k (aQD _) (by lia)
           have y2:(!lt (pb.getD ib 0) (pa.getD (ia+k) 0))=false:=y1;exact D.wk.asy (by simpa using y2)
          refine aUC (aR (it:=it) (a:=pb) (by lia) ?_)
          (try dsimp only)
          have L5:=LoI.b1 D.wk L3 (by lia) (by lia) (less)
          by_cases e5:ib+1=pb.size
          . rw[if_pos (aQM.mpr (e5.trans zb.symm))];exact aUB ⟨g3,.inl ⟨_,rfl,L5.done (.inr e5)⟩⟩
          . rw[if_neg (λz=>e5 ((aQM.mp z).trans zb))];refine aUC (aR (it:=it) (a:=pa) (by lia) ?_)
            refine aUC (eH D (left:=true) (a:=pb) (base:=ib+1) (m:=(pb.map it).size-(ib+1)) (hint:=0) (g3.kind hk) (ha _) hb (by lia) (by lia) (λi j h1 h2=>fB sb (by lia) (by lia)) λk' k1' k2' k3'=>?_)
            (try dsimp only)
            by_cases h0':k' > 0
            . rw[if_pos h0']
              have L6:=L5.bs (k:=k') (by lia) λi hi x hx=>(by
               have y1:=k2' i hi;have y2:lt (pb.getD (ib+1+i) 0) (pa.getD (ia+k) 0)=true:=y1;obtain⟨O,eO,mm⟩:=L5.ex;have sx:=mm.sx;rw[fY (by lia)]at hx sx
               exact dD D.wk sx (D.wk.asy y2) x hx)
              by_cases e6:ib+1+k'=pb.size
              . rw[if_pos (aQM.mpr (e6.trans zb.symm))];exact aUB ⟨g3,.inl ⟨_,rfl,L6.done (.inr e6)⟩⟩
              . rw[if_neg (λz=>e6 ((aQM.mp z).trans zb))];refine aUC (aR (it:=it) (a:=pa) (by lia) ?_)
                (try dsimp only)
                have L9:=LoI.a1 D.wk L6 (by lia) (by lia) (k3' k' (aQD _) (by lia))
                by_cases e9:ia+k+1+1=pa.size
                . rw[if_pos (aQM.mpr (e9.trans za.symm))];exact aUB ⟨g3,.inl ⟨_,rfl,L9.lastA e9 last⟩⟩
                . rw[if_neg (λz=>e9 ((aQM.mp z).trans za))];exact bV (aUB ⟨g3,.inr ⟨_,_,_,_,_,_,rfl,L9,by lia,by lia,by lia⟩⟩) (aUB ⟨g3,_,_,_,_,_,_,rfl,L9,by lia,by lia,by lia⟩)
            . rw[if_neg h0'];obtain rfl:k'=0:=by lia
              refine aUC (aR (it:=it) (a:=pa) (by lia) ?_)
              (try dsimp only)
              have L9:=LoI.a1 D.wk L5 (by lia) (by lia) (k3' 0 (aQD _) (by lia))
              by_cases e9:ia+k+1+1=pa.size
              . rw[if_pos (aQM.mpr (e9.trans za.symm))];exact aUB ⟨g3,.inl ⟨_,rfl,L9.lastA e9 last⟩⟩
              . rw[if_neg (λz=>e9 ((aQM.mp z).trans za))];exact bV (aUB ⟨g3,.inr ⟨_,_,_,_,_,_,rfl,L9,by lia,by lia,by lia⟩⟩) (aUB ⟨g3,_,_,_,_,_,_,rfl,L9,by lia,by lia,by lia⟩)
        . rw[if_neg h0];obtain rfl:k=0:=by lia
          have less:lt (pa.getD ia 0) (pb.getD ib 0)=false:=by
           have y1:=k3 0 (aQD _) (by lia)
           have y2:(!lt (pb.getD ib 0) (pa.getD ia 0))=false:=y1;exact D.wk.asy (by simpa using y2)
          refine aUC (aR (it:=it) (a:=pb) (by lia) ?_)
          (try dsimp only)
          have L5:=LoI.b1 D.wk L (by lia) (by lia) (less)
          by_cases e5:ib+1=pb.size
          . rw[if_pos (aQM.mpr (e5.trans zb.symm))];exact aUB ⟨g3,.inl ⟨_,rfl,L5.done (.inr e5)⟩⟩
          . rw[if_neg (λz=>e5 ((aQM.mp z).trans zb))];refine aUC (aR (it:=it) (a:=pa) (by lia) ?_)
            refine aUC (eH D (left:=true) (a:=pb) (base:=ib+1) (m:=(pb.map it).size-(ib+1)) (hint:=0) (g3.kind hk) (ha _) hb (by lia) (by lia) (λi j h1 h2=>fB sb (by lia) (by lia)) λk' k1' k2' k3'=>?_)
            (try dsimp only)
            by_cases h0':k' > 0
            . rw[if_pos h0']
              have L6:=L5.bs (k:=k') (by lia) λi hi x hx=>(by
               have y1:=k2' i hi;have y2:lt (pb.getD (ib+1+i) 0) (pa.getD (ia) 0)=true:=y1;obtain⟨O,eO,mm⟩:=L5.ex;have sx:=mm.sx;rw[fY (by lia)]at hx sx
               exact dD D.wk sx (D.wk.asy y2) x hx)
              by_cases e6:ib+1+k'=pb.size
              . rw[if_pos (aQM.mpr (e6.trans zb.symm))];exact aUB ⟨g3,.inl ⟨_,rfl,L6.done (.inr e6)⟩⟩
              . rw[if_neg (λz=>e6 ((aQM.mp z).trans zb))];refine aUC (aR (it:=it) (a:=pa) (by lia) ?_)
                (try dsimp only)
                have L9:=LoI.a1 D.wk L6 (by lia) (by lia) (k3' k' (aQD _) (by lia))
                by_cases e9:ia+1+1=pa.size
                . rw[if_pos (aQM.mpr (e9.trans za.symm))];exact aUB ⟨g3,.inl ⟨_,rfl,L9.lastA e9 last⟩⟩
                . rw[if_neg (λz=>e9 ((aQM.mp z).trans za))];exact bV (aUB ⟨g3,.inr ⟨_,_,_,_,_,_,rfl,L9,by lia,by lia,by lia⟩⟩) (aUB ⟨g3,_,_,_,_,_,_,rfl,L9,by lia,by lia,by lia⟩)
            . rw[if_neg h0'];obtain rfl:k'=0:=by lia
              refine aUC (aR (it:=it) (a:=pa) (by lia) ?_)
              (try dsimp only)
              have L9:=LoI.a1 D.wk L5 (by lia) (by lia) (k3' 0 (aQD _) (by lia))
              by_cases e9:ia+1+1=pa.size
              . rw[if_pos (aQM.mpr (e9.trans za.symm))];exact aUB ⟨g3,.inl ⟨_,rfl,L9.lastA e9 last⟩⟩
              . rw[if_neg (λz=>e9 ((aQM.mp z).trans za))];exact bV (aUB ⟨g3,.inr ⟨_,_,_,_,_,_,rfl,L9,by lia,by lia,by lia⟩⟩) (aUB ⟨g3,_,_,_,_,_,_,rfl,L9,by lia,by lia,by lia⟩)
      . rw[if_neg h7];refine aUC (aUP ?_);have g3:Sg st (SortSt.mk' (kindOf st3) (arrOf st3) (pendingOf st3) w (failedOf st3)):=g2;refine aUC (aR (it:=it) (a:=pb) l2 ?_);refine aUC (eH D (left:=false) (a:=pa) (base:=ia) (m:=(pa.map it).size-ia) (hint:=0) (g3.kind hk) (hb _) ha (by lia) (by lia) (λi j h1 h2=>fB sa (by lia) (by lia)) λk k1 k2 k3=>?_)
        (try dsimp only)
        by_cases h0:k > 0
        . rw[if_pos h0]
          have L3:=L.as (k:=k) (by lia) λi hi y hy=>(by
           have y1:=k2 i hi;have y2:(!lt (pb.getD ib 0) (pa.getD (ia+i) 0))=true:=y1;have y2:lt (pb.getD ib 0) (pa.getD (ia+i) 0)=false:=by simpa using y2
           obtain⟨O,eO,mm⟩:=L.ex;have sy:=mm.sy;rw[fY l2]at hy sy;exact dD D.wk sy y2 y hy)
          by_cases e4:ia+k+1=pa.size
          . rw[if_pos (aQM.mpr (e4.trans za.symm))];exact aUB ⟨g3,.inl ⟨_,rfl,L3.lastA e4 last⟩⟩
          rw[if_neg (λz=>e4 ((aQM.mp z).trans za))];by_cases e5:ia+k=pa.size
          . rw[if_pos (aQM.mpr (e5.trans za.symm))];exact aUB ⟨g3,.inl ⟨_,rfl,L3.done (.inl e5)⟩⟩
          rw[if_neg (λz=>e5 ((aQM.mp z).trans za))];have less:lt (pa.getD (ia+k) 0) (pb.getD ib 0)=false:=by
           have y1:=k3 k (aQD _) (by lia)
           have y2:(!lt (pb.getD ib 0) (pa.getD (ia+k) 0))=false:=y1;exact D.wk.asy (by simpa using y2)
          refine aUC (aR (it:=it) (a:=pb) (by lia) ?_)
          (try dsimp only)
          have L5:=LoI.b1 D.wk L3 (by lia) (by lia) (less)
          by_cases e5:ib+1=pb.size
          . rw[if_pos (aQM.mpr (e5.trans zb.symm))];exact aUB ⟨g3,.inl ⟨_,rfl,L5.done (.inr e5)⟩⟩
          . rw[if_neg (λz=>e5 ((aQM.mp z).trans zb))];refine aUC (aR (it:=it) (a:=pa) (by lia) ?_)
            refine aUC (eH D (left:=true) (a:=pb) (base:=ib+1) (m:=(pb.map it).size-(ib+1)) (hint:=0) (g3.kind hk) (ha _) hb (by lia) (by lia) (λi j h1 h2=>fB sb (by lia) (by lia)) λk' k1' k2' k3'=>?_)
            (try dsimp only)
            by_cases h0':k' > 0
            . rw[if_pos h0']
              have L6:=L5.bs (k:=k') (by lia) λi hi x hx=>(by
               have y1:=k2' i hi;have y2:lt (pb.getD (ib+1+i) 0) (pa.getD (ia+k) 0)=true:=y1;obtain⟨O,eO,mm⟩:=L5.ex;have sx:=mm.sx;rw[fY (by lia)]at hx sx
               exact dD D.wk sx (D.wk.asy y2) x hx)
              by_cases e6:ib+1+k'=pb.size
              . rw[if_pos (aQM.mpr (e6.trans zb.symm))];exact aUB ⟨g3,.inl ⟨_,rfl,L6.done (.inr e6)⟩⟩
              . rw[if_neg (λz=>e6 ((aQM.mp z).trans zb))];refine aUC (aR (it:=it) (a:=pa) (by lia) ?_)
                (try dsimp only)
                have L9:=LoI.a1 D.wk L6 (by lia) (by lia) (k3' k' (aQD _) (by lia))
                by_cases e9:ia+k+1+1=pa.size
                . rw[if_pos (aQM.mpr (e9.trans za.symm))];exact aUB ⟨g3,.inl ⟨_,rfl,L9.lastA e9 last⟩⟩
                . rw[if_neg (λz=>e9 ((aQM.mp z).trans za))];exact bV (aUB ⟨g3,.inr ⟨_,_,_,_,_,_,rfl,L9,by lia,by lia,by lia⟩⟩) (aUB ⟨g3,_,_,_,_,_,_,rfl,L9,by lia,by lia,by lia⟩)
            . rw[if_neg h0'];obtain rfl:k'=0:=by lia
              refine aUC (aR (it:=it) (a:=pa) (by lia) ?_)
              (try dsimp only)
              have L9:=LoI.a1 D.wk L5 (by lia) (by lia) (k3' 0 (aQD _) (by lia))
              by_cases e9:ia+k+1+1=pa.size
              . rw[if_pos (aQM.mpr (e9.trans za.symm))];exact aUB ⟨g3,.inl ⟨_,rfl,L9.lastA e9 last⟩⟩
              . rw[if_neg (λz=>e9 ((aQM.mp z).trans za))];exact bV (aUB ⟨g3,.inr ⟨_,_,_,_,_,_,rfl,L9,by lia,by lia,by lia⟩⟩) (aUB ⟨g3,_,_,_,_,_,_,rfl,L9,by lia,by lia,by lia⟩)
        . rw[if_neg h0];obtain rfl:k=0:=by lia
          have less:lt (pa.getD ia 0) (pb.getD ib 0)=false:=by
           have y1:=k3 0 (aQD _) (by lia)
           have y2:(!lt (pb.getD ib 0) (pa.getD ia 0))=false:=y1;exact D.wk.asy (by simpa using y2)
          refine aUC (aR (it:=it) (a:=pb) (by lia) ?_)
          (try dsimp only)
          have L5:=LoI.b1 D.wk L (by lia) (by lia) (less)
          by_cases e5:ib+1=pb.size
          . rw[if_pos (aQM.mpr (e5.trans zb.symm))];exact aUB ⟨g3,.inl ⟨_,rfl,L5.done (.inr e5)⟩⟩
          . rw[if_neg (λz=>e5 ((aQM.mp z).trans zb))];refine aUC (aR (it:=it) (a:=pa) (by lia) ?_)
            refine aUC (eH D (left:=true) (a:=pb) (base:=ib+1) (m:=(pb.map it).size-(ib+1)) (hint:=0) (g3.kind hk) (ha _) hb (by lia) (by lia) (λi j h1 h2=>fB sb (by lia) (by lia)) λk' k1' k2' k3'=>?_)
            (try dsimp only)
            by_cases h0':k' > 0
            . rw[if_pos h0']
              have L6:=L5.bs (k:=k') (by lia) λi hi x hx=>(by
               have y1:=k2' i hi;have y2:lt (pb.getD (ib+1+i) 0) (pa.getD (ia) 0)=true:=y1;obtain⟨O,eO,mm⟩:=L5.ex;have sx:=mm.sx;rw[fY (by lia)]at hx sx
               exact dD D.wk sx (D.wk.asy y2) x hx)
              by_cases e6:ib+1+k'=pb.size
              . rw[if_pos (aQM.mpr (e6.trans zb.symm))];exact aUB ⟨g3,.inl ⟨_,rfl,L6.done (.inr e6)⟩⟩
              . rw[if_neg (λz=>e6 ((aQM.mp z).trans zb))];refine aUC (aR (it:=it) (a:=pa) (by lia) ?_)
                (try dsimp only)
                have L9:=LoI.a1 D.wk L6 (by lia) (by lia) (k3' k' (aQD _) (by lia))
                by_cases e9:ia+1+1=pa.size
                . rw[if_pos (aQM.mpr (e9.trans za.symm))];exact aUB ⟨g3,.inl ⟨_,rfl,L9.lastA e9 last⟩⟩
                . rw[if_neg (λz=>e9 ((aQM.mp z).trans za))];exact bV (aUB ⟨g3,.inr ⟨_,_,_,_,_,_,rfl,L9,by lia,by lia,by lia⟩⟩) (aUB ⟨g3,_,_,_,_,_,_,rfl,L9,by lia,by lia,by lia⟩)
            . rw[if_neg h0'];obtain rfl:k'=0:=by lia
              refine aUC (aR (it:=it) (a:=pa) (by lia) ?_)
              (try dsimp only)
              have L9:=LoI.a1 D.wk L5 (by lia) (by lia) (k3' 0 (aQD _) (by lia))
              by_cases e9:ia+1+1=pa.size
              . rw[if_pos (aQM.mpr (e9.trans za.symm))];exact aUB ⟨g3,.inl ⟨_,rfl,L9.lastA e9 last⟩⟩
              . rw[if_neg (λz=>e9 ((aQM.mp z).trans za))];exact bV (aUB ⟨g3,.inr ⟨_,_,_,_,_,_,rfl,L9,by lia,by lia,by lia⟩⟩) (aUB ⟨g3,_,_,_,_,_,_,rfl,L9,by lia,by lia,by lia⟩)
end
noncomputable def fl(lt:Nat->Nat->Bool)(i j:Nat):Bool:=lt j i
theorem WkO.fl{lt:Nat->Nat->Bool}(W:WkO lt):WkO (fl lt):=⟨λ{i j k} h1 h2=>W.ntr (show lt k j=false from h2) h1,λ{i j} h=>W.asy h⟩
section
variable {lt:Nat->Nat->Bool}{it:Nat->Keyed}{out:Array Keyed}{na nb:Nat}
def oF{l:List Nat}:Sd (fl lt) l.reverse↔Sd lt l:=aUQ
theorem fZ{a:Array Nat}(h1:1<=i)(h:i<=a.size):(a.toList.take i).reverse=a.getD (i-1) 0::(a.toList.take (i-1)).reverse:=by
 obtain⟨j,rfl⟩:∃j,i=j+1:=⟨i-1,by lia⟩
 have e:a.getD j 0=a[j]:=by simp[Array.getD,show j<a.size by lia]
 rw[Nat.add_sub_cancel,e,<- List.take_concat_get (by simp;lia),List.concat_eq_append,List.reverse_append]
 simp
def xP{a:Array Nat}(h:k<=i):(a.toList.take i).reverse=((a.toList.take i).drop k).reverse++(a.toList.take k).reverse:=by
 rw[<- List.reverse_append];congr 1;have:=(aT5 k (a.toList.take i)).symm
 rwa [List.take_take,aUR h]at this
structure HiI(lt:Nat->Nat->Bool)(it:Nat->Keyed)(pa pb:Array Nat)(out:Array Keyed)(na nb:Nat):Prop where
 ex:∃O:List Nat,out.toList=O.map it/\Mg (fl lt) (pa.toList++pb.toList) O (pa.toList.take na).reverse (pb.toList.take nb).reverse
theorem HiI.as(L:HiI lt it pa pb out na nb)(hk:k<=na)(hn:na<=pa.size)(h:∀i,k<=i->i<na->∀y∈(pb.toList.take nb).reverse,lt (pa.getD i 0) y=false):HiI lt it pa pb (out++((pa.map it).extract k na).reverse) k nb:=by
 obtain⟨O,eO,m⟩:=L.ex;rw[xP hk]at m;refine⟨O++((pa.toList.take na).drop k).reverse,?_,m.pushXs λp hp y hy=>?_⟩
 . rw[aUH,eO,aUI];congr 1;simp[aUJ,aUK,List.map_reverse,List.drop_take]
 . obtain⟨i,hi,rfl⟩:=aT3 (aUS.mp hp);have hi':i<na-k:=by simp at hi;lia
   have:=h (k+i) (by lia) (by lia) y hy
   have e:pa.getD (k+i) 0=pa[k+i]'(by lia):=by simp[Array.getD,show k+i<pa.size by lia]
   rw[e]at this;show lt _ y=false;simpa using this
theorem HiI.bs(L:HiI lt it pa pb out na nb)(hk:k<=nb)(hn:nb<=pb.size)(h:∀i,k<=i->i<nb->∀x∈(pa.toList.take na).reverse,lt (pb.getD i 0) x=false):HiI lt it pa pb (out++((pb.map it).extract k nb).reverse) na k:=by
 obtain⟨O,eO,m⟩:=L.ex;rw[xP (a:=pb) hk]at m;refine⟨O++((pb.toList.take nb).drop k).reverse,?_,m.pushYs λp hp y hy=>?_⟩
 . rw[aUH,eO,aUI];congr 1;simp[aUJ,aUK,List.map_reverse,List.drop_take]
 . obtain⟨i,hi,rfl⟩:=aT3 (aUS.mp hp);have hi':i<nb-k:=by simp at hi;lia
   have:=h (k+i) (by lia) (by lia) y hy
   have e:pb.getD (k+i) 0=pb[k+i]'(by lia):=by simp[Array.getD,show k+i<pb.size by lia]
   rw[e]at this;show lt _ y=false;simpa using this
def HiI.a1(W:WkO lt)(L:HiI lt it pa pb out na nb)(h1:1<=na)(h2:na<=pa.size)(h3:1<=nb)(h4:nb<=pb.size)(h:lt (pa.getD (na-1) 0) (pb.getD (nb-1) 0)=false):HiI lt it pa pb (out.push (it (pa.getD (na-1) 0))) (na-1) nb:=by
 obtain⟨O,eO,m⟩:=L.ex;rw[fZ h1 h2]at m;refine⟨O++[pa.getD (na-1) 0],by simp[eO],m.pushX ?_⟩
 have sy:=m.sy;rw[fZ h3 h4]at sy ⊢;exact dD W.fl sy h
def HiI.b1(W:WkO lt)(L:HiI lt it pa pb out na nb)(h1:1<=na)(h2:na<=pa.size)(h3:1<=nb)(h4:nb<=pb.size)(h:lt (pb.getD (nb-1) 0) (pa.getD (na-1) 0)=false):HiI lt it pa pb (out.push (it (pb.getD (nb-1) 0))) na (nb-1):=by
 obtain⟨O,eO,m⟩:=L.ex;rw[fZ h3 h4]at m;refine⟨O++[pb.getD (nb-1) 0],by simp[eO],m.pushY ?_⟩
 have sy:=m.sx;rw[fZ h1 h2]at sy ⊢;exact dD W.fl sy h
def HiI.done(L:HiI lt it pa pb out na nb)(h:na=0\/nb=0):Gd lt it (pa.toList++pb.toList) ((pa.map it).extract 0 na++(pb.map it).extract 0 nb++out.reverse):=by
 obtain⟨O,eO,m⟩:=L.ex;obtain⟨e1,e2⟩:=m.swap.ends (by
  rcases h with rfl|rfl
  . exact .inr rfl
  . exact .inl rfl)
 have er:(pa.toList.take na++(pb.toList.take nb++O.reverse)).reverse=O++((pb.toList.take nb).reverse++(pa.toList.take na).reverse):=by simp
 refine⟨pa.toList.take na++(pb.toList.take nb++O.reverse),?_,(aUT _).symm.trans (er ▸ e1),oF.mp (er ▸ e2)⟩;simp[eO,aUJ]
theorem HiI.firstB(L:HiI lt it pa pb out na nb)(h:nb=1)(h2:1<=pb.size)(first:∀x∈pa.toList,lt x (pb.getD 0 0)=false):Gd lt it (pa.toList++pb.toList) ((pb.map it).extract 0 nb++(pa.map it).extract 0 na++out.reverse):=by
 obtain⟨O,eO,m⟩:=L.ex;obtain⟨e1,e2⟩:=m.swap.endY (λx hx y hy=>by
  subst h;rw[fZ (by lia) h2]at hy
  rcases aPY.mp hy with rfl|hy
  . exact first x (List.mem_of_mem_take (aUS.mp hx))
  . cases hy)
 have er:(pb.toList.take nb++(pa.toList.take na++O.reverse)).reverse=O++((pa.toList.take na).reverse++(pb.toList.take nb).reverse):=by simp
 refine⟨pb.toList.take nb++(pa.toList.take na++O.reverse),?_,(aUT _).symm.trans (er ▸ e1),oF.mp (er ▸ e2)⟩;simp[eO,aUJ]
end
end D3
namespace D3
open PySem.W
section
variable {M:Model}{A:aVV}{E:VSP}{κ:SortKind}{it:Nat->Keyed}{lt:Nat->Nat->Bool}
theorem aI9(D:Odr M A E s κ it n lt){Q:Array Keyed->SortSt->Prop}{st:SortSt}(hk:kindOf st=κ)(ha:∀k,pa.getD k 0<n)(hb:∀k,pb.getD k 0<n)(h1:1<=pa.size)(h2:1<=pb.size)(sa:Sd lt pa.toList)(sb:Sd lt pb.toList)(first:∀x∈pa.toList,lt x (pb.getD 0 0)=false)(last:∀y∈pb.toList,lt (pa.getD (pa.size-1) 0) y=false)(q:∀out st',Sg st st'->Gd lt it (pa.toList++pb.toList) out->Q out st'):wpS M A E s (aI6 (pa.map it) (pb.map it)) Q st:=by
 have za:(pa.map it).size=pa.size:=aUM;have zb:(pb.map it).size=pb.size:=aUM;refine aUC (aUN (aR1 ⟨rfl,?_⟩));refine aUC (aR (it:=it) (a:=pa) (i:=(pa.map it).size-1) (by lia) ?_)
 have L0:HiI lt it pa pb #[] pa.size pb.size:=by
  have ta:pa.toList.take pa.size=pa.toList:=aSX (by simp)
  have tb:pb.toList.take pb.size=pb.toList:=aSX (by simp)
  refine⟨[],rfl,?_⟩;rw[ta,tb];exact⟨(aUT _).append (aUT _),List.Pairwise.nil,oF.mpr sa,oF.mpr sb,λo ho=>(by cases ho),λo ho=>(by cases ho)⟩
 have L1:HiI lt it pa pb #[it (pa.getD (pa.size-1) 0)] (pa.size-1) pb.size:=L0.a1 D.wk h1 (aQD _) h2 (aQD _) (last _ (by
  have e:pb.getD (pb.size-1) 0=pb[pb.size-1]:=by simp[Array.getD,show pb.size-1<pb.size by lia]
  rw[e];simp))
 (try dsimp only)
 rw[za,zb];by_cases e1:pa.size-1=0
 . rw[if_pos (aQM.mpr e1)];exact aUB (q _ _ (Sg.refl st) (L1.done (.inl e1)))
 rw[if_neg (λz=>e1 (aQM.mp z))];by_cases e2:pb.size=1
 . rw[if_pos (aQM.mpr e2)];exact aUB (q _ _ (Sg.refl st) (L1.firstB e2 h2 first))
 rw[if_neg (λz=>e2 (aQM.mp z))];refine aUC (aUO ?_);refine aUC (aUD (aUE (I:=λi c st'=>Sg st st'/\∃out na nb g,c=(none,na,nb,out,g)/\HiI lt it pa pb out na nb/\1<=na/\2<=nb/\na<=pa.size/\nb<=pb.size/\i+1+na+nb<=pa.size+pb.size)
  (Q:=λc st'=>Sg st st'/\∃r,c.1=some r/\Gd lt it (pa.toList++pb.toList) r) ?s ?e ⟨Sg.refl st,_,_,_,_,rfl,L1,by lia,by lia,by lia,by lia,by lia⟩) ?k)
 case e=>rintro c st' ⟨_,out,na,nb,g,rfl,L,l1,l2,l3,l4,l5⟩;exfalso;lia
 case k =>
  rintro c st' ⟨g0,r,er,hr⟩
  (try dsimp only)
  rw[er];exact aUB (q _ _ g0 hr)
 case s =>
  rintro i c st' _ hi ⟨g0,out,na,nb,g,rfl,L,l1,l2,l3,l4,l5⟩
  (try dsimp only)
  refine aUC (aUD (aUE (I:=λj c st''=>Sg st st''/\∃out na nb u v,c=(none,na,nb,out,u,v)/\HiI lt it pa pb out na nb/\1<=na/\2<=nb/\na<=pa.size/\nb<=pb.size/\i+1+j+na+nb<=pa.size+pb.size)
   (Q:=λc st''=>Sg st st''/\((∃r,c.1=some r/\Gd lt it (pa.toList++pb.toList) r)\/∃out na nb u v,c=(none,na,nb,out,u,v)/\HiI lt it pa pb out na nb/\1<=na/\2<=nb/\na<=pa.size/\nb<=pb.size/\i+2+na+nb<=pa.size+pb.size)) ?s1 ?e1 ⟨g0,_,_,_,_,_,rfl,L,l1,l2,l3,l4,by lia⟩) ?k1)
  case e1=>rintro c st2 ⟨g1,out,na,nb,u,v,rfl,L,l1,l2,l3,l4,l5⟩;exact⟨g1,.inr ⟨_,_,_,_,_,rfl,L,l1,l2,l3,l4,by lia⟩⟩
  case s1 =>
   rintro j c st2 _ hj ⟨g1,out,na,nb,u,v,rfl,L,l1,l2,l3,l4,l5⟩
   (try dsimp only)
   refine aUC (aR (it:=it) (a:=pb) (by lia) (aUC (aR (it:=it) (a:=pa) (by lia) (aUC (D.ask (hb _) (ha _) (g1.kind hk) ?_)))))
   cases y:lt (pb.getD (nb-1) 0) (pa.getD (na-1) 0)with
   |true =>
    (try dsimp only)
    rw[if_pos rfl];refine aUC (aR (it:=it) (a:=pa) (by lia) ?_)
    (try dsimp only)
    have L2:=L.a1 D.wk l1 l3 (by lia) l4 (D.wk.asy y)
    by_cases e3:na-1=0
    . rw[if_pos (aQM.mpr e3)];exact aUB ⟨g1,.inl ⟨_,rfl,L2.done (.inl e3)⟩⟩
    . rw[if_neg (λz=>e3 (aQM.mp z))];exact bV (aUB ⟨g1,.inr ⟨_,_,_,_,_,rfl,L2,by lia,by lia,by lia,by lia,by lia⟩⟩) (aUB ⟨g1,_,_,_,_,_,rfl,L2,by lia,by lia,by lia,by lia,by lia⟩)
   |false =>
    (try dsimp only)
    rw[if_neg aQL];refine aUC (aR (it:=it) (a:=pb) (by lia) ?_)
    (try dsimp only)
    have L2:=L.b1 D.wk l1 l3 (by lia) l4 y
    by_cases e3:nb-1=1
    . rw[if_pos (aQM.mpr e3)];exact aUB ⟨g1,.inl ⟨_,rfl,L2.firstB e3 h2 first⟩⟩
    . rw[if_neg (λz=>e3 (aQM.mp z))];exact bV (aUB ⟨g1,.inr ⟨_,_,_,_,_,rfl,L2,by lia,by lia,by lia,by lia,by lia⟩⟩) (aUB ⟨g1,_,_,_,_,_,rfl,L2,by lia,by lia,by lia,by lia,by lia⟩)
  case k1 =>
   rintro c st2 ⟨g1,⟨r,er,hr⟩|⟨out,na,nb,u,v,rfl,L,l1,l2,l3,l4,l5⟩⟩
   . (try dsimp only)
     rw[er];exact aUB ⟨g1,_,rfl,hr⟩
   . (try dsimp only)
     refine aUC (aUN (aR1 ⟨rfl,?_⟩));refine aUC (aUD (aUE (I:=λj c st''=>Sg st st''/\∃out na nb w u v,c=(none,na,nb,out,w,u,v)/\HiI lt it pa pb out na nb/\1<=na/\2<=nb/\na<=pa.size/\nb<=pb.size/\i+2+na+nb<=pa.size+pb.size)
      (Q:=λc st''=>Sg st st''/\((∃r,c.1=some r/\Gd lt it (pa.toList++pb.toList) r)\/∃out na nb w u v,c=(none,na,nb,out,w,u,v)/\HiI lt it pa pb out na nb/\1<=na/\2<=nb/\na<=pa.size/\nb<=pb.size/\i+2+na+nb<=pa.size+pb.size)) ?s2 ?e2 ⟨g1,_,_,_,_,_,_,rfl,L,l1,l2,l3,l4,by lia⟩) ?k2)
     case e2=>rintro c st3 ⟨g2,out,na,nb,w,u,v,rfl,L,l1,l2,l3,l4,l5⟩;exact⟨g2,.inr ⟨_,_,_,_,_,_,rfl,L,l1,l2,l3,l4,l5⟩⟩
     case k2 =>
      rintro c st3 ⟨g2,⟨r,er,hr⟩|⟨out,na,nb,w,u,v,rfl,L,l1,l2,l3,l4,l5⟩⟩
      . (try dsimp only)
        rw[er];exact aUB ⟨g2,_,rfl,hr⟩
      . (try dsimp only)
        refine aUC (aUP (aUB ⟨Sg.trans g2 ⟨rfl,rfl,rfl,rfl⟩,_,_,_,_,rfl,L,l1,l2,l3,l4,by lia⟩))
     case s2 =>
      rintro j c st3 _ hj ⟨g2,out,na,nb,w,u,v,rfl,L,l1,l2,l3,l4,l5⟩
      (try dsimp only)
      by_cases h7:w > 1
      . rw[if_pos h7];refine aUC (aUP ?_);have g3:Sg st (SortSt.mk' (kindOf st3) (arrOf st3) (pendingOf st3) (w-1) (failedOf st3)):=g2;refine aUC (aR (it:=it) (a:=pb) (by lia) ?_)
        refine aUC (eH D (left:=false) (a:=pa) (base:=0) (m:=na) (hint:=na-1) (g3.kind hk) (hb _) ha (by lia) (by lia) (λi j h1 h2=>fB sa (by lia) (by lia)) λk k1 k2 k3=>?_)
        (try dsimp only)
        have t0:∀i,i<k->lt (pb.getD (nb-1) 0) (pa.getD i 0)=false:=λi hi=>(by
         have y1:=k2 i hi;have y2:(!lt (pb.getD (nb-1) 0) (pa.getD (0+i) 0))=true:=y1;rw[aSY]at y2;simpa using y2)
        have t1:∀i,k<=i->i<na->lt (pa.getD i 0) (pb.getD (nb-1) 0)=false:=λi hi hi2=>(by
         have y1:=k3 i hi hi2;have y2:(!lt (pb.getD (nb-1) 0) (pa.getD (0+i) 0))=false:=y1;rw[aSY]at y2
         exact D.wk.asy (by simpa using y2))
        by_cases h0:na-k > 0
        . rw[if_pos h0]
          have L3:=L.as (k:=k) (by lia) (by lia) λi hi hi2 y hy=>(by
           obtain⟨O,eO,mm⟩:=L.ex;have sy:=mm.sy;rw[fZ (a:=pb) (by lia) (by lia)]at hy sy
           exact dD D.wk.fl sy (t1 i hi hi2) y hy)
          by_cases e4:k=0
          . rw[if_pos (aQM.mpr e4)];exact aUB ⟨g3,.inl ⟨_,rfl,L3.done (.inl e4)⟩⟩
          rw[if_neg (λz=>e4 (aQM.mp z))];refine aUC (aR (it:=it) (a:=pb) (by lia) ?_)
          (try dsimp only)
          have L5:=HiI.b1 D.wk L3 (by lia) (by lia) (by lia) (by lia) (t0 (k-1) (by lia))
          by_cases e5:nb-1=1
          . rw[if_pos (aQM.mpr e5)];exact aUB ⟨g3,.inl ⟨_,rfl,L5.firstB e5 h2 first⟩⟩
          . rw[if_neg (λz=>e5 (aQM.mp z))];refine aUC (aR (it:=it) (a:=pa) (by lia) ?_)
            refine aUC (eH D (left:=true) (a:=pb) (base:=0) (m:=nb-1) (hint:=nb-1-1) (g3.kind hk) (ha _) hb (by lia) (by lia) (λi j h1 h2=>fB sb (by lia) (by lia)) λk' k1' k2' k3'=>?_)
            (try dsimp only)
            have t2:∀i,i<k'->lt (pb.getD i 0) (pa.getD (k-1) 0)=true:=λi hi=>(by
             have y1:=k2' i hi;have y2:lt (pb.getD (0+i) 0) (pa.getD (k-1) 0)=true:=y1
             rwa [aSY]at y2)
            have t3:∀i,k'<=i->i<nb-1->lt (pb.getD i 0) (pa.getD (k-1) 0)=false:=λi hi hi2=>(by
             have y1:=k3' i hi hi2;have y2:lt (pb.getD (0+i) 0) (pa.getD (k-1) 0)=false:=y1
             rwa [aSY]at y2)
            by_cases h0':nb-1-k' > 0
            . rw[if_pos h0']
              have L6:=L5.bs (k:=k') (by lia) (by lia) λi hi hi2 x hx=>(by
               obtain⟨O,eO,mm⟩:=L5.ex;have sx:=mm.sx;rw[fZ (a:=pa) (by lia) (by lia)]at hx sx
               exact dD D.wk.fl sx (t3 i hi hi2) x hx)
              by_cases e6:k'=1
              . rw[if_pos (aQM.mpr e6)];exact aUB ⟨g3,.inl ⟨_,rfl,L6.firstB e6 h2 first⟩⟩
              rw[if_neg (λz=>e6 (aQM.mp z))];by_cases e7:k'=0
              . rw[if_pos (aQM.mpr e7)];exact aUB ⟨g3,.inl ⟨_,rfl,L6.done (.inr e7)⟩⟩
              rw[if_neg (λz=>e7 (aQM.mp z))];refine aUC (aR (it:=it) (a:=pa) (by lia) ?_)
              (try dsimp only)
              have L9:=HiI.a1 D.wk L6 (by lia) (by lia) (by lia) (by lia) (D.wk.asy (t2 (k'-1) (by lia)))
              by_cases e9:k-1=0
              . rw[if_pos (aQM.mpr e9)];exact aUB ⟨g3,.inl ⟨_,rfl,L9.done (.inl e9)⟩⟩
              . rw[if_neg (λz=>e9 (aQM.mp z))];exact bV (aUB ⟨g3,.inr ⟨_,_,_,_,_,_,rfl,L9,by lia,by lia,by lia,by lia,by lia⟩⟩) (aUB ⟨g3,_,_,_,_,_,_,rfl,L9,by lia,by lia,by lia,by lia,by lia⟩)
            . rw[if_neg h0'];obtain rfl:k'=nb-1:=by lia
              refine aUC (aR (it:=it) (a:=pa) (by lia) ?_)
              (try dsimp only)
              have L9:=HiI.a1 D.wk L5 (by lia) (by lia) (by lia) (by lia) (D.wk.asy (t2 (nb-1-1) (by lia)))
              by_cases e9:k-1=0
              . rw[if_pos (aQM.mpr e9)];exact aUB ⟨g3,.inl ⟨_,rfl,L9.done (.inl e9)⟩⟩
              . rw[if_neg (λz=>e9 (aQM.mp z))];exact bV (aUB ⟨g3,.inr ⟨_,_,_,_,_,_,rfl,L9,by lia,by lia,by lia,by lia,by lia⟩⟩) (aUB ⟨g3,_,_,_,_,_,_,rfl,L9,by lia,by lia,by lia,by lia,by lia⟩)
        . rw[if_neg h0];obtain rfl:k=na:=by lia
          refine aUC (aR (it:=it) (a:=pb) (by lia) ?_)
          (try dsimp only)
          have L5:=HiI.b1 D.wk L (by lia) (by lia) (by lia) (by lia) (t0 (k-1) (by lia))
          by_cases e5:nb-1=1
          . rw[if_pos (aQM.mpr e5)];exact aUB ⟨g3,.inl ⟨_,rfl,L5.firstB e5 h2 first⟩⟩
          . rw[if_neg (λz=>e5 (aQM.mp z))];refine aUC (aR (it:=it) (a:=pa) (by lia) ?_)
            refine aUC (eH D (left:=true) (a:=pb) (base:=0) (m:=nb-1) (hint:=nb-1-1) (g3.kind hk) (ha _) hb (by lia) (by lia) (λi j h1 h2=>fB sb (by lia) (by lia)) λk' k1' k2' k3'=>?_)
            (try dsimp only)
            have t2:∀i,i<k'->lt (pb.getD i 0) (pa.getD (k-1) 0)=true:=λi hi=>(by
             have y1:=k2' i hi;have y2:lt (pb.getD (0+i) 0) (pa.getD (k-1) 0)=true:=y1
             rwa [aSY]at y2)
            have t3:∀i,k'<=i->i<nb-1->lt (pb.getD i 0) (pa.getD (k-1) 0)=false:=λi hi hi2=>(by
             have y1:=k3' i hi hi2;have y2:lt (pb.getD (0+i) 0) (pa.getD (k-1) 0)=false:=y1
             rwa [aSY]at y2)
            by_cases h0':nb-1-k' > 0
            . rw[if_pos h0']
              have L6:=L5.bs (k:=k') (by lia) (by lia) λi hi hi2 x hx=>(by
               obtain⟨O,eO,mm⟩:=L5.ex;have sx:=mm.sx;rw[fZ (a:=pa) (by lia) (by lia)]at hx sx
               exact dD D.wk.fl sx (t3 i hi hi2) x hx)
              by_cases e6:k'=1
              . rw[if_pos (aQM.mpr e6)];exact aUB ⟨g3,.inl ⟨_,rfl,L6.firstB e6 h2 first⟩⟩
              rw[if_neg (λz=>e6 (aQM.mp z))];by_cases e7:k'=0
              . rw[if_pos (aQM.mpr e7)];exact aUB ⟨g3,.inl ⟨_,rfl,L6.done (.inr e7)⟩⟩
              rw[if_neg (λz=>e7 (aQM.mp z))];refine aUC (aR (it:=it) (a:=pa) (by lia) ?_)
              (try dsimp only)
              have L9:=HiI.a1 D.wk L6 (by lia) (by lia) (by lia) (by lia) (D.wk.asy (t2 (k'-1) (by lia)))
              by_cases e9:k-1=0
              . rw[if_pos (aQM.mpr e9)];exact aUB ⟨g3,.inl ⟨_,rfl,L9.done (.inl e9)⟩⟩
              . rw[if_neg (λz=>e9 (aQM.mp z))];exact bV (aUB ⟨g3,.inr ⟨_,_,_,_,_,_,rfl,L9,by lia,by lia,by lia,by lia,by lia⟩⟩) (aUB ⟨g3,_,_,_,_,_,_,rfl,L9,by lia,by lia,by lia,by lia,by lia⟩)
            . rw[if_neg h0'];obtain rfl:k'=nb-1:=by lia
              refine aUC (aR (it:=it) (a:=pa) (by lia) ?_)
              (try dsimp only)
              have L9:=HiI.a1 D.wk L5 (by lia) (by lia) (by lia) (by lia) (D.wk.asy (t2 (nb-1-1) (by lia)))
              by_cases e9:k-1=0
              . rw[if_pos (aQM.mpr e9)];exact aUB ⟨g3,.inl ⟨_,rfl,L9.done (.inl e9)⟩⟩
              . rw[if_neg (λz=>e9 (aQM.mp z))];exact bV (aUB ⟨g3,.inr ⟨_,_,_,_,_,_,rfl,L9,by lia,by lia,by lia,by lia,by lia⟩⟩) (aUB ⟨g3,_,_,_,_,_,_,rfl,L9,by lia,by lia,by lia,by lia,by lia⟩)
      . rw[if_neg h7];refine aUC (aUP ?_);have g3:Sg st (SortSt.mk' (kindOf st3) (arrOf st3) (pendingOf st3) w (failedOf st3)):=g2;refine aUC (aR (it:=it) (a:=pb) (by lia) ?_)
        refine aUC (eH D (left:=false) (a:=pa) (base:=0) (m:=na) (hint:=na-1) (g3.kind hk) (hb _) ha (by lia) (by lia) (λi j h1 h2=>fB sa (by lia) (by lia)) λk k1 k2 k3=>?_)
        (try dsimp only)
        have t0:∀i,i<k->lt (pb.getD (nb-1) 0) (pa.getD i 0)=false:=λi hi=>(by
         have y1:=k2 i hi;have y2:(!lt (pb.getD (nb-1) 0) (pa.getD (0+i) 0))=true:=y1;rw[aSY]at y2;simpa using y2)
        have t1:∀i,k<=i->i<na->lt (pa.getD i 0) (pb.getD (nb-1) 0)=false:=λi hi hi2=>(by
         have y1:=k3 i hi hi2;have y2:(!lt (pb.getD (nb-1) 0) (pa.getD (0+i) 0))=false:=y1;rw[aSY]at y2
         exact D.wk.asy (by simpa using y2))
        by_cases h0:na-k > 0
        . rw[if_pos h0]
          have L3:=L.as (k:=k) (by lia) (by lia) λi hi hi2 y hy=>(by
           obtain⟨O,eO,mm⟩:=L.ex;have sy:=mm.sy;rw[fZ (a:=pb) (by lia) (by lia)]at hy sy
           exact dD D.wk.fl sy (t1 i hi hi2) y hy)
          by_cases e4:k=0
          . rw[if_pos (aQM.mpr e4)];exact aUB ⟨g3,.inl ⟨_,rfl,L3.done (.inl e4)⟩⟩
          rw[if_neg (λz=>e4 (aQM.mp z))];refine aUC (aR (it:=it) (a:=pb) (by lia) ?_)
          (try dsimp only)
          have L5:=HiI.b1 D.wk L3 (by lia) (by lia) (by lia) (by lia) (t0 (k-1) (by lia))
          by_cases e5:nb-1=1
          . rw[if_pos (aQM.mpr e5)];exact aUB ⟨g3,.inl ⟨_,rfl,L5.firstB e5 h2 first⟩⟩
          . rw[if_neg (λz=>e5 (aQM.mp z))];refine aUC (aR (it:=it) (a:=pa) (by lia) ?_)
            refine aUC (eH D (left:=true) (a:=pb) (base:=0) (m:=nb-1) (hint:=nb-1-1) (g3.kind hk) (ha _) hb (by lia) (by lia) (λi j h1 h2=>fB sb (by lia) (by lia)) λk' k1' k2' k3'=>?_)
            (try dsimp only)
            have t2:∀i,i<k'->lt (pb.getD i 0) (pa.getD (k-1) 0)=true:=λi hi=>(by
             have y1:=k2' i hi;have y2:lt (pb.getD (0+i) 0) (pa.getD (k-1) 0)=true:=y1
             rwa [aSY]at y2)
            have t3:∀i,k'<=i->i<nb-1->lt (pb.getD i 0) (pa.getD (k-1) 0)=false:=λi hi hi2=>(by
             have y1:=k3' i hi hi2;have y2:lt (pb.getD (0+i) 0) (pa.getD (k-1) 0)=false:=y1
             rwa [aSY]at y2)
            by_cases h0':nb-1-k' > 0
            . rw[if_pos h0']
              have L6:=L5.bs (k:=k') (by lia) (by lia) λi hi hi2 x hx=>(by
               obtain⟨O,eO,mm⟩:=L5.ex;have sx:=mm.sx;rw[fZ (a:=pa) (by lia) (by lia)]at hx sx
               exact dD D.wk.fl sx (t3 i hi hi2) x hx)
              by_cases e6:k'=1
              . rw[if_pos (aQM.mpr e6)];exact aUB ⟨g3,.inl ⟨_,rfl,L6.firstB e6 h2 first⟩⟩
              rw[if_neg (λz=>e6 (aQM.mp z))];by_cases e7:k'=0
              . rw[if_pos (aQM.mpr e7)];exact aUB ⟨g3,.inl ⟨_,rfl,L6.done (.inr e7)⟩⟩
              rw[if_neg (λz=>e7 (aQM.mp z))];refine aUC (aR (it:=it) (a:=pa) (by lia) ?_)
              (try dsimp only)
              have L9:=HiI.a1 D.wk L6 (by lia) (by lia) (by lia) (by lia) (D.wk.asy (t2 (k'-1) (by lia)))
              by_cases e9:k-1=0
              . rw[if_pos (aQM.mpr e9)];exact aUB ⟨g3,.inl ⟨_,rfl,L9.done (.inl e9)⟩⟩
              . rw[if_neg (λz=>e9 (aQM.mp z))];exact bV (aUB ⟨g3,.inr ⟨_,_,_,_,_,_,rfl,L9,by lia,by lia,by lia,by lia,by lia⟩⟩) (aUB ⟨g3,_,_,_,_,_,_,rfl,L9,by lia,by lia,by lia,by lia,by lia⟩)
            . rw[if_neg h0'];obtain rfl:k'=nb-1:=by lia
              refine aUC (aR (it:=it) (a:=pa) (by lia) ?_)
              (try dsimp only)
              have L9:=HiI.a1 D.wk L5 (by lia) (by lia) (by lia) (by lia) (D.wk.asy (t2 (nb-1-1) (by lia)))
              by_cases e9:k-1=0
              . rw[if_pos (aQM.mpr e9)];exact aUB ⟨g3,.inl ⟨_,rfl,L9.done (.inl e9)⟩⟩
              . rw[if_neg (λz=>e9 (aQM.mp z))];exact bV (aUB ⟨g3,.inr ⟨_,_,_,_,_,_,rfl,L9,by lia,by lia,by lia,by lia,by lia⟩⟩) (aUB ⟨g3,_,_,_,_,_,_,rfl,L9,by lia,by lia,by lia,by lia,by lia⟩)
        . rw[if_neg h0];obtain rfl:k=na:=by lia
          refine aUC (aR (it:=it) (a:=pb) (by lia) ?_)
          (try dsimp only)
          have L5:=HiI.b1 D.wk L (by lia) (by lia) (by lia) (by lia) (t0 (k-1) (by lia))
          by_cases e5:nb-1=1
          . rw[if_pos (aQM.mpr e5)];exact aUB ⟨g3,.inl ⟨_,rfl,L5.firstB e5 h2 first⟩⟩
          . rw[if_neg (λz=>e5 (aQM.mp z))];refine aUC (aR (it:=it) (a:=pa) (by lia) ?_)
            refine aUC (eH D (left:=true) (a:=pb) (base:=0) (m:=nb-1) (hint:=nb-1-1) (g3.kind hk) (ha _) hb (by lia) (by lia) (λi j h1 h2=>fB sb (by lia) (by lia)) λk' k1' k2' k3'=>?_)
            (try dsimp only)
            have t2:∀i,i<k'->lt (pb.getD i 0) (pa.getD (k-1) 0)=true:=λi hi=>(by
             have y1:=k2' i hi;have y2:lt (pb.getD (0+i) 0) (pa.getD (k-1) 0)=true:=y1
             rwa [aSY]at y2)
            have t3:∀i,k'<=i->i<nb-1->lt (pb.getD i 0) (pa.getD (k-1) 0)=false:=λi hi hi2=>(by
             have y1:=k3' i hi hi2;have y2:lt (pb.getD (0+i) 0) (pa.getD (k-1) 0)=false:=y1
             rwa [aSY]at y2)
            by_cases h0':nb-1-k' > 0
            . rw[if_pos h0']
              have L6:=L5.bs (k:=k') (by lia) (by lia) λi hi hi2 x hx=>(by
               obtain⟨O,eO,mm⟩:=L5.ex;have sx:=mm.sx;rw[fZ (a:=pa) (by lia) (by lia)]at hx sx
               exact dD D.wk.fl sx (t3 i hi hi2) x hx)
              by_cases e6:k'=1
              . rw[if_pos (aQM.mpr e6)];exact aUB ⟨g3,.inl ⟨_,rfl,L6.firstB e6 h2 first⟩⟩
              rw[if_neg (λz=>e6 (aQM.mp z))];by_cases e7:k'=0
              . rw[if_pos (aQM.mpr e7)];exact aUB ⟨g3,.inl ⟨_,rfl,L6.done (.inr e7)⟩⟩
              rw[if_neg (λz=>e7 (aQM.mp z))];refine aUC (aR (it:=it) (a:=pa) (by lia) ?_)
              (try dsimp only)
              have L9:=HiI.a1 D.wk L6 (by lia) (by lia) (by lia) (by lia) (D.wk.asy (t2 (k'-1) (by lia)))
              by_cases e9:k-1=0
              . rw[if_pos (aQM.mpr e9)];exact aUB ⟨g3,.inl ⟨_,rfl,L9.done (.inl e9)⟩⟩
              . rw[if_neg (λz=>e9 (aQM.mp z))];exact bV (aUB ⟨g3,.inr ⟨_,_,_,_,_,_,rfl,L9,by lia,by lia,by lia,by lia,by lia⟩⟩) (aUB ⟨g3,_,_,_,_,_,_,rfl,L9,by lia,by lia,by lia,by lia,by lia⟩)
            . rw[if_neg h0'];obtain rfl:k'=nb-1:=by lia
              refine aUC (aR (it:=it) (a:=pa) (by lia) ?_)
              (try dsimp only)
              have L9:=HiI.a1 D.wk L5 (by lia) (by lia) (by lia) (by lia) (D.wk.asy (t2 (nb-1-1) (by lia)))
              by_cases e9:k-1=0
              . rw[if_pos (aQM.mpr e9)];exact aUB ⟨g3,.inl ⟨_,rfl,L9.done (.inl e9)⟩⟩
              . rw[if_neg (λz=>e9 (aQM.mp z))];exact bV (aUB ⟨g3,.inr ⟨_,_,_,_,_,_,rfl,L9,by lia,by lia,by lia,by lia,by lia⟩⟩) (aUB ⟨g3,_,_,_,_,_,_,rfl,L9,by lia,by lia,by lia,by lia,by lia⟩)
end
def SdR(lt:Nat->Nat->Bool)(p:Array Nat)(a b:Nat):Prop:=∀i j,a<=i->i<j->j<b->lt (p.getD j 0) (p.getD i 0)=false
structure Ss(κ:SortKind)(it:Nat->Keyed)(p:Array Nat)(pend:Array (Nat×Nat×Nat))(st:SortSt):Prop where
 kind:kindOf st=κ
 arr:arrOf st=p.map it
 pend:pendingOf st=pend
 fail:failedOf st=none
theorem xQ(o:Nat):∀(L:List α) (k:Nat) (arr:Array α),o+k+L.length<=arr.size->((L.zipIdx k).foldl (λa (x:α×Nat)=>a.setIfInBounds (o+x.2) x.1) arr).toList=arr.toList.take (o+k)++(L++arr.toList.drop (o+k+L.length))
 |[],k,arr,_=>by simp
 |x::L,k,arr,h=>by
  rw[List.zipIdx_cons,aUU];have hl:o+k+(L.length+1)<=arr.size:=h;rw[xQ o L (k+1) _ (by rw[Array.size_setIfInBounds];lia)]
  have e1:(arr.setIfInBounds (o+k) x).toList=arr.toList.set (o+k) x:=by simp
  rw[e1];have e2:(arr.toList.set (o+k) x).take (o+(k+1))=arr.toList.take (o+k)++[x]:=by
   rw[show o+(k+1)=(o+k)+1 by lia,<- List.take_concat_get (by simp;lia),List.concat_eq_append]
   congr 1
   . rw[List.take_set_of_le (by lia)]
   . simp
  have e3:(arr.toList.set (o+k) x).drop (o+(k+1)+L.length)=arr.toList.drop (o+k+(x::L).length):=by
   rw[List.drop_set_of_lt (by lia)]
   congr 1;show _=o+k+(L.length+1);lia
  rw[e2,e3];simp
def fill(o:Nat)(L:List α)(arr:Array α)(h:o+L.length<=arr.size):((L.zipIdx).foldl (λa (x:α×Nat)=>a.setIfInBounds (o+x.2) x.1) arr).toList=arr.toList.take o++(L++arr.toList.drop (o+L.length)):=xQ o L 0 arr h
noncomputable def put(p:Array Nat)(o:Nat)(R:List Nat):Array Nat:=(p.toList.take o++(R++p.toList.drop (o+R.length))).toArray
section
variable {o:Nat}{R:List Nat}
theorem rB(h:o+R.length<=p.size)(i:Nat):(put p o R).getD i 0=if i<o then p.getD i 0 else if i<o+R.length then R.getD (i-o) 0 else p.getD i 0:=by
 unfold put;have lt1:(p.toList.take o).length=o:=by simp;lia
 simp only[aT1,aTU,List.getD_eq_getElem?_getD];by_cases h1:i<o
 . rw[if_pos h1,aQY (by lia),List.getElem?_take_of_lt h1];simp
 . rw[if_neg h1,aQW (by lia),lt1]
   by_cases h2:i<o+R.length
   . rw[if_pos h2,aQY (by lia)]
   . rw[if_neg h2,aQW (by lia),List.getElem?_drop]
     rw[show o+R.length+(i-o-R.length)=i by lia];simp
theorem aJA{a b:Nat}(hab:a<=b)(h:b<=p.size)(e:R.Perm (p.extract a b).toList):(put p a R).Perm p/\(put p a R).size=p.size:=by
 have lr:R.length=b-a:=by rw[e.length_eq];simp;lia
 have:(put p a R).Perm p:=by
  refine aUA.mpr ?_;show(p.toList.take a++(R++p.toList.drop (a+R.length))).Perm p.toList;refine(aTH _ (List.Perm.append_right _ e)).trans (List.Perm.of_eq ?_);rw[lr,show a+(b-a)=b by lia]
  have:(p.extract a b).toList=(p.toList.drop a).take (b-a):=by simp
  rw[this];have h2:p.toList.drop b=(p.toList.drop a).drop (b-a):=by rw[List.drop_drop];congr 1;lia
  rw[h2,aT5,aT5]
 exact⟨this,this.size_eq⟩
end
section
variable {M:Model}{A:aVV}{E:VSP}{κ:SortKind}{it:Nat->Keyed}{lt:Nat->Nat->Bool}
def Ss.eq{st:SortSt}(S:Ss κ it p pend st):∃g,st=SortSt.mk' κ (p.map it) pend g none :=
 ⟨gallopOf st,by rw[<- S.kind,<- S.arr,<- S.pend,<- S.fail]⟩
def aJB{σ:Type}{t:σ}{Q:PUnit->σ->Prop}{st:σ}(h:Q ⟨⟩ t):wpS M A E s (set t:StateT σ Sem PUnit) Q st:=by unfold wpS;rw[StateT.run_set];exact aP9 ⟨rfl,h⟩
theorem jW{a b:Nat}(hb:b<=p.size)(hi:i<b-a):(p.extract a b).getD i 0=p.getD (a+i) 0:=by simp only[aT1];rw[Array.getElem?_extract,if_pos (by lia)]
def gO{a b:Nat}(hb:b<=p.size):(p.extract a b).size=b-a:=by rw[Array.size_extract,aUR hb]
theorem xR{a b:Nat}(hb:b<=p.size)(h:SdR lt p a b):Sd lt (p.extract a b).toList:=by
 refine aT0.mpr λi j hi hj hij=>?_;have zi:i<b-a:=by rw[aP7,gO hb]at hi;exact hi
 have zj:j<b-a:=by rw[aP7,gO hb]at hj;exact hj
 have:=h (a+i) (a+j) (by lia) (by lia) (by lia)
 rw[<- jW hb zi,<- jW hb zj]at this;have e1:(p.extract a b).getD i 0=(p.extract a b).toList[i]:=by
  have:i<(p.extract a b).size:=by rw[gO hb];exact zi
  simp only[aT1];rw[aTR this];rfl
 have e2:(p.extract a b).getD j 0=(p.extract a b).toList[j]:=by
  have:j<(p.extract a b).size:=by rw[gO hb];exact zj
  simp only[aT1];rw[aTR this];rfl
 rw[e1,e2]at this;exact this
theorem rC{a b:Nat}(hb:b<=p.size){x:Nat}(h:x∈(p.extract a b).toList):∃t,a<=t/\t<b/\x=p.getD t 0:=by
 obtain⟨i,hi,rfl⟩:=aT3 h;have zi:i<b-a:=by rw[aP7,gO hb]at hi;exact hi
 refine⟨a+i,by lia,by lia,?_⟩
 rw[<- jW hb zi];have:i<(p.extract a b).size:=by rw[gO hb];exact zi
 simp only[aT1];rw[aTR this];rfl
def oG{a b:Nat}(h0:0<n)(hp:∀k,p.getD k 0<n)(k:Nat):(p.extract a b).getD k 0<n:=by
 simp only[aT1];rw[Array.getElem?_extract];split
 . have:=hp (a+k);simpa only [aT1]using this
 . exact h0
theorem SdR.join(W:WkO lt){a b c:Nat}(hab:a<b)(r1:SdR lt p a b)(r2:SdR lt p b c)(e:b<c->lt (p.getD b 0) (p.getD (b-1) 0)=false):SdR lt p a c:=λi j h1 h2 h3=>by
 by_cases hj:j<b
 . exact r1 i j h1 h2 hj
 . by_cases hi:b<=i
   . exact r2 i j hi h2 h3
   . have x1:lt (p.getD j 0) (p.getD b 0)=false:=by
       by_cases z:j=b
       . rw[z];exact W.irr _
       . exact r2 b j (aQD _) (by lia) h3
     have x2:lt (p.getD (b-1) 0) (p.getD i 0)=false:=by
      by_cases z:i=b-1
      . rw[z];exact W.irr _
      . exact r1 i (b-1) h1 (by lia) (by lia)
     exact W.ntr (W.ntr x1 (e (by lia))) x2
theorem SdR.merged(W:WkO lt){sa sb nb m:Nat}{R:List Nat}(h0:sa+k<sb)(h1:m<=nb)(h2:1<=m)(h3:sb+nb<=p.size)(r1:SdR lt p sa sb)(r2:SdR lt p sb (sb+nb))(k2:∀i,i<k->lt (p.getD sb 0) (p.getD (sa+i) 0)=false)(k3:∀i,m<=i->i<nb->lt (p.getD (sb+i) 0) (p.getD (sb-1) 0)=false)(sr:Sd lt R)(lr:R.length=sb+m-(sa+k))(mr:∀x∈R,∃t,sa+k<=t/\t<sb+m/\x=p.getD t 0):SdR lt (put p (sa+k) R) sa (sb+nb):=λi j g1 g2 g3=>by
 rw[rB (by lia),rB (by lia)]
 have up:∀{t:Nat},sb<=t->t<sb+nb->lt (p.getD t 0) (p.getD sb 0)=false:=λ{t} a b=>by
  by_cases z:t=sb
  . rw[z];exact W.irr _
  . exact r2 sb t (aQD _) (by lia) b
 have dn:∀{t:Nat},sa<=t->t<sb->lt (p.getD (sb-1) 0) (p.getD t 0)=false:=λ{t} a b=>by
  by_cases z:t=sb-1
  . rw[z];exact W.irr _
  . exact r1 t (sb-1) a (by lia) (by lia)
 have inR:∀{t:Nat},¬ t<sa+k->t<sa+k+R.length->∃u,sa+k<=u/\u<sb+m/\R.getD (t-(sa+k)) 0=p.getD u 0:=λ{t} a b=>by
  have hl:t-(sa+k)<R.length:=by lia
  have e:R.getD (t-(sa+k)) 0=R[t-(sa+k)]:=by simp[hl]
  obtain⟨u,u1,u2,u3⟩:=mr _ (aS8 hl);exact⟨u,u1,u2,e.trans u3⟩
 have low:i<sa+k->lt (p.getD sb 0) (p.getD i 0)=false:=λz=>by
  have:=k2 (i-sa) (by lia)
  rwa [show sa+(i-sa)=i by lia]at this
 by_cases c1:i<sa+k
 . rw[if_pos c1];by_cases c2:j<sa+k
   . rw[if_pos c2];exact r1 i j g1 g2 (by lia)
   . rw[if_neg c2];by_cases c3:j<sa+k+R.length
     . rw[if_pos c3];obtain⟨u,u1,u2,u3⟩:=inR c2 c3;rw[u3];by_cases c4:u<sb
       . exact r1 i u g1 (by lia) c4
       . exact W.ntr (up (by lia) (by lia)) (low c1)
     . rw[if_neg c3];exact W.ntr (up (by lia) g3) (low c1)
 . rw[if_neg c1,if_neg (show ¬ j<sa+k by lia)]
   by_cases c3:i<sa+k+R.length
   . rw[if_pos c3];by_cases c4:j<sa+k+R.length
     . rw[if_pos c4];have:=aT0.mp sr (i-(sa+k)) (j-(sa+k)) (by lia) (by lia) (by lia)
       have e1:R.getD (i-(sa+k)) 0=R[i-(sa+k)]'(by lia):=by simp[show i-(sa+k)<R.length by lia]
       have e2:R.getD (j-(sa+k)) 0=R[j-(sa+k)]'(by lia):=by simp[show j-(sa+k)<R.length by lia]
       rw[e1,e2];exact this
     . rw[if_neg c4];obtain⟨u,u1,u2,u3⟩:=inR c1 c3;rw[u3];by_cases c5:u<sb
       . have:=k3 (j-sb) (by lia) (by lia)
         rw[show sb+(j-sb)=j by lia]at this
         exact W.ntr this (dn (by lia) c5)
       . exact r2 u j (by lia) (by lia) g3
   . rw[if_neg c3,if_neg (show ¬ j<sa+k+R.length by lia)]
     exact r2 i j (by lia) g2 g3
theorem aJC(D:Odr M A E s κ it n lt){sa na w sb nb w':Nat}{Q:Bool->SortSt->Prop}{st:SortSt}(S:Ss κ it p pend st)(hp:∀k,p.getD k 0<n)(p1:pend[i]? = some (sa,na,w))(p2:pend[i+1]? = some (sb,nb,w'))(hs:sb=sa+na)(h1:1<=na)(h2:1<=nb)(h3:sb+nb<=p.size)(r1:SdR lt p sa sb)(r2:SdR lt p sb (sb+nb))(q:∀p' st',Ss κ it p' ((pend.setIfInBounds i (sa,na+nb,w)).eraseIdxIfInBounds (i+1)) st'->p'.Perm p->(∀k,k<sa\/sb+nb<=k->p'.getD k 0=p.getD k 0)->SdR lt p' sa (sb+nb)->Q true st'):wpS M A E s (mergeAt' i) Q st:=by
 obtain⟨g,rfl⟩:=S.eq;have n0:0<n:=aUV (aQP _) (hp 0);refine aUC (aUO ?_)
 (try dsimp only)
 rw[show(pendingOf (SortSt.mk' κ (p.map it) pend g none))[i]? = some (sa,na,w)from p1,show(pendingOf (SortSt.mk' κ (p.map it) pend g none))[i+1]? = some (sb,nb,w')from p2]
 (try dsimp only)
 refine aUC (aJB ?_);refine aUC (aR (it:=it) (a:=p) (by lia) ?_)
 refine aUC (eH D (left:=false) (a:=p) (base:=sa) (m:=na) (hint:=0) rfl (hp _) hp (by lia) (by lia) (λi j a b=>r1 _ _ (by lia) (by lia) (by lia)) λk k1 k2 k3=>?_)
 (try dsimp only)
 have k2:∀i,i<k->lt (p.getD sb 0) (p.getD (sa+i) 0)=false:=λi hi=>(by
  have y:(!lt (p.getD sb 0) (p.getD (sa+i) 0))=true:=k2 i hi;simpa using y)
 have k3:∀i,k<=i->i<na->lt (p.getD (sa+i) 0) (p.getD sb 0)=false:=λi hi hi2=>(by
  have y:(!lt (p.getD sb 0) (p.getD (sa+i) 0))=false:=k3 i hi hi2
  exact D.wk.asy (by simpa using y))
 have whole:lt (p.getD sb 0) (p.getD (sb-1) 0)=false->Q true (SortSt.mk' κ (p.map it) ((pend.setIfInBounds i (sa,na+nb,w)).eraseIdxIfInBounds (i+1)) g none):=λe =>
  q p _ ⟨rfl,rfl,rfl,rfl⟩ (aUW _) (λ_ _=>rfl) (r1.join D.wk (by lia) r2 λ_=>e)
 by_cases f1:na-k=0
 . rw[if_pos (aQM.mpr f1)];refine aUB (whole ?_);have:=k2 (na-1) (by lia)
   rwa [show sa+(na-1)=sb-1 by lia]at this
 rw[if_neg (λz=>f1 (aQM.mp z))];refine aUC (aR (it:=it) (a:=p) (by lia) ?_)
 have eb:sa+k+(na-k)-1=sb-1:=by lia
 rw[eb];refine aUC (eH D (left:=true) (a:=p) (base:=sb) (m:=nb) (hint:=nb-1) rfl (hp _) hp (by lia) (by lia) (λi j a b=>r2 _ _ (by lia) (by lia) (by lia)) λm m1 m2 m3=>?_)
 (try dsimp only)
 have m2:∀i,i<m->lt (p.getD (sb-1) 0) (p.getD (sb+i) 0)=false:=λi hi=>D.wk.asy (m2 i hi);have m3:∀i,m<=i->i<nb->lt (p.getD (sb+i) 0) (p.getD (sb-1) 0)=false:=m3;by_cases f2:m=0
 . rw[if_pos (aQM.mpr f2)];exact aUB (whole (m3 0 (by lia) (by lia)))
 rw[if_neg (λz=>f2 (aQM.mp z))];have x1:(p.map it).extract (sa+k) sb=(p.extract (sa+k) sb).map it:=by simp
 have x2:(p.map it).extract sb (sb+m)=(p.extract sb (sb+m)).map it:=by simp
 have z1:(p.extract (sa+k) sb).size=sb-(sa+k):=gO (by lia)
 have z2:(p.extract sb (sb+m)).size=m:=by rw[gO (by lia)];lia
 have pp:(p.extract (sa+k) sb).toList++(p.extract sb (sb+m)).toList=(p.extract (sa+k) (sb+m)).toList:=by rw[<- aUH];congr 1;rw[Array.extract_append_extract,aUR (by lia),Nat.max_eq_right (by lia)]
 have g1:(p.extract (sa+k) sb).getD 0 0=p.getD (sa+k) 0:=jW (by lia) (by lia)
 have g2:(p.extract sb (sb+m)).getD 0 0=p.getD sb 0:=jW (by lia) (by lia)
 have g3:(p.extract (sa+k) sb).getD ((p.extract (sa+k) sb).size-1) 0=p.getD (sb-1) 0:=by rw[z1,jW (by lia) (by lia)];congr 1;lia
 have s1:Sd lt (p.extract (sa+k) sb).toList:=xR (by lia) λi j a b c=>r1 i j (by lia) b c
 have s2:Sd lt (p.extract sb (sb+m)).toList:=xR (by lia) λi j a b c=>r2 i j a b (by lia)
 have firstA:∀x∈(p.extract (sa+k) sb).toList,lt x ((p.extract sb (sb+m)).getD 0 0)=false:=λx hx=>by
  obtain⟨t,t1,t2,rfl⟩:=rC (by lia) hx
  rw[g2];have:=k3 (t-sa) (by lia) (by lia)
  rwa [show sa+(t-sa)=t by lia]at this
 have lastB:∀y∈(p.extract sb (sb+m)).toList,lt ((p.extract (sa+k) sb).getD ((p.extract (sa+k) sb).size-1) 0) y=false:=λy hy=>by
  obtain⟨t,t1,t2,rfl⟩:=rC (by lia) hy
  rw[g3];have:=m2 (t-sb) (by lia)
  rwa [show sb+(t-sb)=t by lia]at this
 have fin : ∀ (out : Array Keyed) (st' : SortSt), Sg (SortSt.mk' κ (p.map it) ((pend.setIfInBounds i (sa, na + nb, w)).eraseIdxIfInBounds (i + 1)) g none) st' → Gd lt it ((p.extract (sa + k) sb).toList ++ (p.extract sb (sb + m)).toList) out →
     Q true (SortSt.mk' (kindOf st') (out.toList.zipIdx.foldl (λa (x:Keyed×Nat)=>a.setIfInBounds (sa+k+x.2) x.1) (arrOf st')) (pendingOf st') (gallopOf st') (failedOf st')):=by
  rintro out st' ⟨c1,c2,c3,c4⟩ ⟨R,eR,pR,sR⟩;rw[pp]at pR;have lR:R.length=sb+m-(sa+k):=by rw[pR.length_eq,aP7,gO (by lia)]
  obtain⟨w1,w2⟩:=aJA (a:=sa+k) (b:=sb+m) (by lia) (by lia) pR
  refine q (put p (sa+k) R) _ ⟨c1,?_,c3,c4⟩ w1 (λt ht=>?_) (SdR.merged D.wk (by lia) m1 (by lia) h3 r1 r2 k2 m3 sR lR λx hx=>rC (by lia) (pR.mem_iff.mp hx))
  . show out.toList.zipIdx.foldl (λa (x:Keyed×Nat)=>a.setIfInBounds (sa+k+x.2) x.1) (arrOf st')=(put p (sa+k) R).map it;rw[show arrOf st'=p.map it from c2]
    apply Array.toList_inj.mp;rw[fill _ _ _ (by rw[eR,aQ2,aUM];lia),eR]
    unfold put;simp[aUJ,aUK]
  . rw[rB (by lia)]
    rcases ht with ht|ht
    . rw[if_pos (by lia)]
    . rw[if_neg (by lia),if_neg (by lia)]
 by_cases f3:na-k<=m
 . rw[if_pos f3];rw[show(arrOf (SortSt.mk' κ (p.map it) pend g none)).extract (sa+k) sb=(p.extract (sa+k) sb).map it from x1,show(arrOf (SortSt.mk' κ (p.map it) pend g none)).extract sb (sb+m)=(p.extract sb (sb+m)).map it from x2]
   refine aUC (aI8 D rfl (oG n0 hp) (oG n0 hp) (by lia) (by lia) s1 s2 (firstA _ ?_) lastB λout st' sg gd=>?_)
   . have:(p.extract (sa+k) sb).getD 0 0=(p.extract (sa+k) sb)[0]'(by lia):=by unfold Array.getD;rw[dif_pos (by lia)];rfl
     rw[this];simp only[aQK];exact Array.getElem_mem _
   . refine aUC (aUP (aUC (aUO (aUB ?_))));have z:=fin out st' sg gd;have e:(failedOf st').isNone=true:=by rw[sg.2.2.2];rfl
     show Q (failedOf st').isNone _;rw[e];exact z
 . rw[if_neg f3];rw[show(arrOf (SortSt.mk' κ (p.map it) pend g none)).extract (sa+k) sb=(p.extract (sa+k) sb).map it from x1,show(arrOf (SortSt.mk' κ (p.map it) pend g none)).extract sb (sb+m)=(p.extract sb (sb+m)).map it from x2]
   refine aUC (aI9 D rfl (oG n0 hp) (oG n0 hp) (by lia) (by lia) s1 s2 firstA lastB λout st' sg gd=>?_)
   refine aUC (aUP (aUC (aUO (aUB ?_))));have z:=fin out st' sg gd;have e:(failedOf st').isNone=true:=by rw[sg.2.2.2];rfl
   show Q (failedOf st').isNone _;rw[e];exact z
end
section
variable {M:Model}{A:aVV}{E:VSP}{κ:SortKind}{it:Nat->Keyed}{lt:Nat->Nat->Bool}
def f6(D:Odr M A E s κ it n lt){Q:Option Bool->SortSt->Prop}{st:SortSt}(S:Ss κ it p pend st)(hp:∀k,p.getD k 0<n)(hi:i<p.size)(hj:j<p.size)(q:Q (some (lt (p.getD i 0) (p.getD j 0))) st):wpS M A E s (ltAt' i j) Q st:=by rw[ltAt'_eq];refine aUC (aUO ?_);dsimp only;have e:arrOf st=p.map it:=S.arr;rw[e];exact aUC (aR hi (aUC (aR hj (D.ask (hp _) (hp _) S.kind q))))
def gQ{Q:Unit->SortSt->Prop}{st:SortSt}(S:Ss κ it p pend st)(q:∀st',Ss κ it (kas_rev p i j) pend st'->Q () st'):wpS M A E s (reverseSlice' i j) Q st:=by rw[reverseSlice'_eq];refine aUP (q _ ⟨S.kind,?_,S.pend,S.fail⟩);show mirror (arrOf st) i j ((j-i) / 2)=(kas_rev p i j).map it;rw[S.arr];exact kas_swaps_map it (λk=>i+k) (λk=>j-1-k) _ p
def aJD{l:Nat}{Q:Unit->SortSt->Prop}{st:SortSt}(S:Ss κ it p pend st)(q:∀st',Ss κ it (bubble p k (k-l)) pend st'->Q () st'):wpS M A E s (moveDown' k l) Q st:=by rw[moveDown'_eq];refine aUP (q _ ⟨S.kind,?_,S.pend,S.fail⟩);show bubble (arrOf st) k (k-l)=(bubble p k (k-l)).map it;rw[S.arr];exact kas_swaps_map it (λi=>k-i) (λi=>k-i-1) _ p
def fC{q:Array Nat}(h0:0<n)(hp:∀k,p.getD k 0<n)(e:q.Perm p):∀k,q.getD k 0<n:=λk=>by
 simp only[aT1];cases z:q[k]? with
 |none=>exact h0
 |some v =>
  have hm:v∈p.toList:=(aUA.mp e).mem_iff.mp (by rw[aQK];exact aSF z)
  obtain⟨i,hi⟩:=List.getElem?_of_mem hm;have:=hp i;rw[aTX]at hi;simp only[aT1,hi]at this;exact this
theorem aJE(D:Odr M A E s κ it n lt){lo m ok:Nat}{Q:Bool->SortSt->Prop}{st:SortSt}(S:Ss κ it p pend st)(hp:∀k,p.getD k 0<n)(h1:1<=ok)(h2:ok<=m)(h3:lo+m<=p.size)(r1:SdR lt p lo (lo+ok))(q:∀p' st',Ss κ it p' pend st'->p'.Perm p->(∀k,k<lo\/lo+m<=k->p'.getD k 0=p.getD k 0)->SdR lt p' lo (lo+m)->Q true st'):wpS M A E s (binarySort' lo m ok) Q st:=by
 have n0:0<n:=aUV (aQP _) (hp 0);refine aUC (aUD (aUE (I:=λi c st'=>∃p',c=(none,())/\Ss κ it p' pend st'/\p'.Perm p/\(∀k,k<lo\/lo+m<=k->p'.getD k 0=p.getD k 0)/\SdR lt p' lo (lo+i))
  (Q:=λc st'=>∃p',c=(none,())/\Ss κ it p' pend st'/\p'.Perm p/\(∀k,k<lo\/lo+m<=k->p'.getD k 0=p.getD k 0)/\SdR lt p' lo (lo+m)) ?s ?e ⟨p,rfl,S,aUW _,λ_ _=>rfl,by rw[show max ok 1=ok by lia];exact r1⟩) ?k)
 case e=>rintro c st' ⟨p',rfl,S',pe,out,r⟩;exact⟨p',rfl,S',pe,out,by rw[show max (max ok 1) m=m by lia]at r;exact r⟩
 case k=>rintro c st' ⟨p',rfl,S',pe,out,r⟩;exact aUB (q p' st' S' pe out r)
 case s =>
  rintro k c st' hk1 hk2 ⟨p',rfl,S',pe,out,u⟩;have hp':=fC n0 hp pe;have sz:p'.size=p.size:=pe.size_eq
  (try dsimp only)
  refine aUC (aUD (aUE (I:=λj c st''=>st'=st''/\∃l r,c=(none,l,r)/\l<=r/\r<=k/\r-l<=k-j/\(∀i,i<l->lt (p'.getD (lo+k) 0) (p'.getD (lo+i) 0)=false)/\(∀i,r<=i->i<k->lt (p'.getD (lo+i) 0) (p'.getD (lo+k) 0)=false))
   (Q:=λc st''=>st'=st''/\∃l,c=(none,l,l)/\l<=k/\(∀i,i<l->lt (p'.getD (lo+k) 0) (p'.getD (lo+i) 0)=false)/\(∀i,l<=i->i<k->lt (p'.getD (lo+i) 0) (p'.getD (lo+k) 0)=false)) ?s1 ?e1 ⟨rfl,0,k,rfl,by lia,by lia,by lia,λi hi=>(by lia),λi hi hi2=>(by lia)⟩) ?k1)
  case e1 =>
   rintro c st2 ⟨rfl,l,r,rfl,a1,a2,a3,a4,a5⟩;obtain rfl:l=r:=by lia
   exact⟨rfl,l,rfl,a2,a4,a5⟩
  case s1 =>
   rintro j c st2 _ hj ⟨rfl,l,r,rfl,a1,a2,a3,a4,a5⟩
   (try dsimp only)
   by_cases hlr:l ≥ r
   . rw[if_pos hlr];obtain rfl:l=r:=by lia
     exact aUB ⟨rfl,l,rfl,a2,a4,a5⟩
   . rw[if_neg hlr];refine aUC (f6 D S' hp' (by lia) (by lia) ?_)
     cases ec:lt (p'.getD (lo+k) 0) (p'.getD (lo+(l+r) / 2) 0)with
     |true =>
      refine aUB ⟨rfl,l,(l+r) / 2,rfl,by lia,by lia,by lia,a4,λi h4 h5=>?_⟩
      by_cases e:i=(l+r) / 2
      . rw[e];exact D.wk.asy ec
      . exact D.wk.ntr (u _ (lo+i) (by lia) (by lia) (by lia)) (D.wk.asy ec)
     |false =>
      refine aUB ⟨rfl,(l+r) / 2+1,r,rfl,by lia,by lia,by lia,λi h4=>?_,a5⟩
      by_cases e:i=(l+r) / 2
      . rw[e];exact ec
      . exact D.wk.ntr ec (u (lo+i) _ (by lia) (by lia) (by lia))
  case k1 =>
   rintro c st2 ⟨rfl,l,rfl,a2,a4,a5⟩
   (try dsimp only)
   refine aUC (aJD S' λst3 S3=>aUB ?_);have pb:(bubble p' (lo+k) (lo+k-(lo+l))).Perm p':=bubble_perm _ _ _;have g:=getElem?_bubble (xs:=p') (src:=lo+k) (by lia) (lo+k-(lo+l)) (by lia)
   have el:lo+k-(lo+k-(lo+l))=lo+l:=by lia
   rw[el]at g;have gd:∀i,(bubble p' (lo+k) (lo+k-(lo+l))).getD i 0=if i=lo+l then p'.getD (lo+k) 0 else if lo+l<i/\i<=lo+k then p'.getD (i-1) 0 else p'.getD i 0:=λi=>by
    simp only[aT1];rw[g i];split
    . rfl
    . split <;> rfl
   refine⟨_,rfl,S3,pb.trans pe,λt ht=>?_,λi j hi hij hj=>?_⟩
   . rw[gd t,if_neg (by lia),if_neg (by lia)];exact out t ht
   . rw[gd i,gd j];by_cases h1:i<lo+l
     . rw[if_neg (show ¬ i=lo+l by lia),if_neg (show ¬ (lo+l<i/\i<=lo+k) by lia)]
       by_cases h2:j=lo+l
       . rw[if_pos h2];have:=a4 (i-lo) (by lia)
         rwa [show lo+(i-lo)=i by lia]at this
       . rw[if_neg h2];split
         . exact u i (j-1) hi (by lia) (by lia)
         . exact u i j hi hij (by lia)
     . by_cases h2:i=lo+l
       . rw[if_pos h2,if_neg (show ¬ j=lo+l by lia),if_pos (show lo+l<j/\j<=lo+k by lia)]
         have:=a5 (j-1-lo) (by lia) (by lia)
         rwa [show lo+(j-1-lo)=j-1 by lia]at this
       . rw[if_neg h2,if_pos (show lo+l<i/\i<=lo+k by lia),if_neg (show ¬ j=lo+l by lia),if_pos (show lo+l<j/\j<=lo+k by lia)]
         exact u (i-1) (j-1) (by lia) (by lia) (by lia)
end
section
variable {lt:Nat->Nat->Bool}{a b c:Nat}
def DnR(lt:Nat->Nat->Bool)(p:Array Nat)(a b:Nat):Prop:=∀i j,a<=i->i<j->j<b->lt (p.getD i 0) (p.getD j 0)=false
def EqR(lt:Nat->Nat->Bool)(p:Array Nat)(a b:Nat):Prop:=∀i j,a<=i->i<b->a<=j->j<b->lt (p.getD i 0) (p.getD j 0)=false
theorem SdR.more(O:WkO lt)(h:SdR lt p a b)(hm:a<b)(e:lt (p.getD b 0) (p.getD (b-1) 0)=false):SdR lt p a (b+1):=λi j h1 hij hj=>by
 by_cases hjm:j<b
 . exact h i j h1 hij hjm
 . have:j=b:=by lia
   subst this;by_cases hi:i=j-1
   . rw[hi];exact e
   . exact O.ntr e (h i (j-1) h1 (by lia) (by lia))
theorem DnR.more(O:WkO lt)(hm:a<b)(h:DnR lt p a b)(e:lt (p.getD (b-1) 0) (p.getD b 0)=false):DnR lt p a (b+1):=λi j h1 hij hj=>by
 by_cases hjm:j<b
 . exact h i j h1 hij hjm
 . have:j=b:=by lia
   subst this;by_cases hi:i=j-1
   . rw[hi];exact e
   . exact O.ntr (h i (j-1) h1 (by lia) (by lia)) e
theorem EqR.more(O:WkO lt)(hm:a<b)(h:EqR lt p a b)(ec:lt (p.getD b 0) (p.getD (b-1) 0)=false)(ed:lt (p.getD (b-1) 0) (p.getD b 0)=false):EqR lt p a (b+1):=λi j h1 h2 h3 h4=>by
 by_cases hi:i<b
 . by_cases hj:j<b
   . exact h i j h1 hi h3 hj
   . have:j=b:=by lia
     subst this;exact O.ntr (h i (j-1) h1 hi (by lia) (by lia)) ed
 . have:i=b:=by lia
   subst this;by_cases hj:j<i
   . exact O.ntr ec (h (i-1) j (by lia) (by lia) h3 hj)
   . have:j=i:=by lia
     subst this;exact O.irr _
theorem DnR.turn(hp:b<=p.size)(hc:a<=c)(d:DnR lt p a b)(e:EqR lt p c b):DnR lt (kas_rev p c b) a b:=λi j h1 hij hj=>by
 rw[cG c b hp,cG c b hp];by_cases hi:c<=i
 . rw[if_pos ⟨hi,by lia⟩,if_pos ⟨by lia,hj⟩]
   exact e _ _ (by lia) (by lia) (by lia) (by lia)
 . rw[if_neg (by lia)]
   by_cases hj2:c<=j
   . rw[if_pos ⟨hj2,hj⟩];exact d _ _ h1 (by lia) (by lia)
   . rw[if_neg (by lia)];exact d i j h1 hij hj
theorem DnR.rev(hp:b<=p.size)(d:DnR lt p a b):SdR lt (kas_rev p a b) a b:=λi j h1 hij hj=>by
 rw[cG a b hp,cG a b hp,if_pos ⟨by lia,by lia⟩,if_pos ⟨by lia,by lia⟩]
 exact d _ _ (by lia) (by lia) (by lia)
end
section
variable {M:Model}{A:aVV}{E:VSP}{κ:SortKind}{it:Nat->Keyed}{lt:Nat->Nat->Bool}
theorem aJF(D:Odr M A E s κ it n lt){lo m:Nat}{Q:Option Nat->SortSt->Prop}{st:SortSt}(S:Ss κ it p pend st)(hp:∀k,p.getD k 0<n)(h1:1<=m)(h3:lo+m<=p.size)(q:∀c p' st',1<=c->c<=m->Ss κ it p' pend st'->p'.Perm p->(∀k,k<lo\/lo+m<=k->p'.getD k 0=p.getD k 0)->SdR lt p' lo (lo+c)->Q (some c) st'):wpS M A E s (countRun' lo m) Q st:=by
 have n0:0<n:=aUV (aQP _) (hp 0);refine aUC (aUD (aUE (I:=λx9 c st'=>st=st'/\c=(none,x9)/\x9<=m/\SdR lt (p) lo (lo+x9))
  (Q:=λc st'=>st=st'/\∃x9,c=(none,x9)/\1<=x9/\x9<=m/\SdR lt (p) lo (lo+x9)/\(x9<m->lt ((p).getD (lo+x9) 0) ((p).getD (lo+x9-1) 0)=true)) ?s0 ?e0 ⟨rfl,rfl,by lia,λi j a b c=>(by lia)⟩) ?k0)
 case e0 =>
  rintro c st' ⟨rfl,rfl,w1,w2⟩;rw[show max (1) m=m by lia]at *
  exact⟨rfl,m,rfl,by lia,by lia,w2,λz=>by lia⟩
 case s0 =>
  rintro x9 c st' hi1 hi2 ⟨rfl,rfl,w1,w2⟩
  (try dsimp only)
  refine aUC (f6 D S hp (by lia) (by lia) ?_)
  cases ec:lt ((p).getD (lo+x9) 0) ((p).getD (lo+x9-1) 0)with
  |true=>exact aUB ⟨rfl,x9,rfl,hi1,by lia,w2,λ_=>ec⟩
  |false=>exact aUB ⟨rfl,rfl,by lia,SdR.more (b:=lo+x9) D.wk w2 (by lia) ec⟩
 case k0 =>
  rintro c0 st' ⟨rfl,c,rfl,c1,c2,u,d⟩
  (try dsimp only)
  by_cases em:c=m
  . rw[if_pos (aQM.mpr em)];exact aUB (q c p st c1 c2 S (aUW p) (λ_ _=>rfl) u)
  rw[if_neg (λz=>em (aQM.mp z))];have dm:=D.wk.asy (d (by lia))
  by_cases h2:c > 1
  . rw[if_pos h2];refine aUC (f6 D S hp (by lia) (by lia) ?_)
    cases ec:lt (p.getD lo 0) (p.getD (lo+c-1) 0)with
    |true =>
     (try dsimp only)
     rw[if_pos rfl];exact aUB (q c p st c1 c2 S (aUW p) (λ_ _=>rfl) u)
    |false =>
     (try dsimp only)
     rw[if_neg aQL];refine aUC (gQ S λst2 S2=>?_)
     (try dsimp only)
     have pe2:(kas_rev p lo (lo+c)).Perm p:=aUX _ _ _ _;have out2:∀k,k<lo\/lo+m<=k->(kas_rev p lo (lo+c)).getD k 0=p.getD k 0:=λk hk=>(by
      rw[cG _ _ (by lia),if_neg (by lia)])
     have ge:∀i,lo<=i->i<lo+c->lt (p.getD i 0) (p.getD lo 0)=false:=λi h0 hi=>by
      by_cases h0:i=lo
      . rw[h0];exact D.wk.irr _
      . exact u lo i (aQD _) (by lia) hi
     have le:∀i,lo<=i->i<lo+c->lt (p.getD (lo+c-1) 0) (p.getD i 0)=false:=λi h0 hi=>by
      by_cases h0:i=lo+c-1
      . rw[h0];exact D.wk.irr _
      . exact u i (lo+c-1) (by lia) (by lia) (by lia)
     have all:EqR lt p lo (lo+c):=λi j a1 hi a2 hj=>D.wk.ntr (D.wk.ntr (ge i a1 hi) ec) (le j a2 hj);have dn2:DnR lt (kas_rev p lo (lo+c)) lo (lo+c+1):=by
      refine DnR.more D.wk (by lia) (DnR.turn (by lia) (aQD _) (λi j a b hj=>all i j a (by lia) (by lia) hj) all) ?_
      rw[cG _ _ (by lia),cG _ _ (by lia),if_pos ⟨by lia,by lia⟩,if_neg (by lia)]
      exact D.wk.ntr (all _ (lo+c-1) (by lia) (by lia) (by lia) (by lia)) dm
     refine aUC (aUN (aR1 ⟨rfl,?_⟩));refine aUC (aUD (aUE (I:=λi c' st'=>∃p' q',c'=(none,i,q')/\i<=m/\Ss κ it p' pend st'/\p'.Perm p/\(∀k,k<lo\/lo+m<=k->p'.getD k 0=p.getD k 0)/\q'+1<=i/\DnR lt p' lo (lo+i)/\EqR lt p' (lo+i-(q'+1)) (lo+i))
      (Q:=λc' st'=>∃i p' q',c'=(none,i,q')/\c+1<=i/\i<=m/\Ss κ it p' pend st'/\p'.Perm p/\(∀k,k<lo\/lo+m<=k->p'.getD k 0=p.getD k 0)/\q'+1<=i/\DnR lt p' lo (lo+i)/\EqR lt p' (lo+i-(q'+1)) (lo+i)) ?du ?fu ⟨kas_rev p lo (lo+c),0,rfl,by lia,S2,pe2,out2,by lia,dn2,λi j a b c d=>(by
       have:i=j:=by lia
       subst this;exact D.wk.irr _)⟩) ?gu)
     case fu =>
      rintro c' st' ⟨p',q',rfl,w1,w2,w3,w4,w5,w6,w7⟩;rw[show max (c+1) m=m by lia]at *
      exact⟨m,p',q',rfl,by lia,by lia,w2,w3,w4,w5,w6,w7⟩
     case du =>
      rintro i c' st' hi1 hi2 ⟨p',q',rfl,w1,w2,w3,w4,w5,w6,w7⟩;have hp':=fC n0 hp w3;have sz':p'.size=p.size:=w3.size_eq
      (try dsimp only)
      refine aUC (f6 D w2 hp' (by lia) (by lia) ?_)
      have one:∀(r:Array Nat),EqR lt r (lo+(i+1)-(0+1)) (lo+(i+1)):=λr i j a b c d=>(by
       have:i=j:=by lia
       subst this;exact D.wk.irr _)
      cases ec:lt (p'.getD (lo+i) 0) (p'.getD (lo+i-1) 0)with
      |true =>
       have e1:=D.wk.asy ec
       (try dsimp only)
       rw[if_pos rfl];by_cases hq:q' > 0
       . rw[if_pos hq];refine aUC (gQ w2 λst3 S3=>?_);have pe3:=(aUX p' (lo+i-(q'+1)) (lo+i) _:(kas_rev p' (lo+i-(q'+1)) (lo+i)).Perm p').trans w3;refine aUB ⟨_,0,rfl,by lia,S3,pe3,λk hk=>?_,by lia,?_,one _⟩
         . rw[cG _ _ (by lia),if_neg (by lia)];exact w4 k hk
         . refine DnR.more (b:=lo+i) D.wk (by lia) (DnR.turn (by lia) (by lia) w6 w7) ?_
           rw[cG _ _ (by lia),cG _ _ (by lia),if_pos ⟨by lia,by lia⟩,if_neg (by lia)]
           exact D.wk.ntr (w7 _ (lo+i-1) (by lia) (by lia) (by lia) (by lia)) e1
       . rw[if_neg hq];exact aUB ⟨p',0,rfl,by lia,w2,w3,w4,by lia,DnR.more (b:=lo+i) D.wk (by lia) w6 e1,one _⟩
      |false =>
       (try dsimp only)
       rw[if_neg aQL];refine aUC (f6 D w2 hp' (by lia) (by lia) ?_)
       cases ed:lt (p'.getD (lo+i-1) 0) (p'.getD (lo+i) 0)with
       |true =>
        (try dsimp only)
        rw[if_pos rfl];exact aUB ⟨i,p',q',rfl,hi1,by lia,w2,w3,w4,w5,w6,w7⟩
       |false =>
        (try dsimp only)
        rw[if_neg aQL]
        exact aUB ⟨p',q'+1,rfl,by lia,w2,w3,w4,by lia,DnR.more (b:=lo+i) D.wk (by lia) w6 ed,by
         have:=EqR.more (b:=lo+i) D.wk (by lia) w7 ec ed
         rwa [show lo+i-(q'+1)=lo+(i+1)-(q'+1+1) by lia]at this⟩
     case gu =>
      rintro c' st' ⟨i,p',q',rfl,w0,w1,w2,w3,w4,w5,w6,w7⟩;have sz':p'.size=p.size:=w3.size_eq
      (try dsimp only)
      by_cases hq:q' > 0
      . rw[if_pos hq];refine aUC (gQ w2 λst3 S3=>?_);have pe3:=(aUX p' (lo+i-(q'+1)) (lo+i) _:(kas_rev p' (lo+i-(q'+1)) (lo+i)).Perm p').trans w3;have out3:∀k,k<lo\/lo+m<=k->(kas_rev p' (lo+i-(q'+1)) (lo+i)).getD k 0=p.getD k 0:=λk hk=>(by
          rw[cG _ _ (by lia),if_neg (by lia)];exact w4 k hk)
        have dn3:=DnR.turn (lt:=lt) (p:=p') (c:=lo+i-(q'+1)) (b:=lo+i) (a:=lo) (by lia) (by lia) w6 w7
        refine aUC (gQ S3 λstZ SZ=>?_)
        (try dsimp only)
        have peZ:=(aUX (kas_rev p' (lo+i-(q'+1)) (lo+i)) lo (lo+i) _:(kas_rev (kas_rev p' (lo+i-(q'+1)) (lo+i)) lo (lo+i)).Perm (kas_rev p' (lo+i-(q'+1)) (lo+i))).trans pe3;have szZ:(kas_rev (kas_rev p' (lo+i-(q'+1)) (lo+i)) lo (lo+i)).size=p.size:=peZ.size_eq;have szP:(kas_rev p' (lo+i-(q'+1)) (lo+i)).size=p.size:=pe3.size_eq;have hpZ:=fC n0 hp peZ;have upZ:SdR lt (kas_rev (kas_rev p' (lo+i-(q'+1)) (lo+i)) lo (lo+i)) lo (lo+i):=DnR.rev (by lia) dn3
        have outZ:∀k,k<lo\/lo+m<=k->(kas_rev (kas_rev p' (lo+i-(q'+1)) (lo+i)) lo (lo+i)).getD k 0=p.getD k 0:=λk hk=>(by
         rw[cG _ _ (by lia),if_neg (by lia)];exact out3 k hk)
        refine aUC (aUD (aUE (I:=λx9 c st'=>stZ=st'/\c=(none,x9)/\x9<=m/\SdR lt (kas_rev (kas_rev p' (lo+i-(q'+1)) (lo+i)) lo (lo+i)) lo (lo+x9))
         (Q:=λc st'=>stZ=st'/\∃x9,c=(none,x9)/\i<=x9/\x9<=m/\SdR lt (kas_rev (kas_rev p' (lo+i-(q'+1)) (lo+i)) lo (lo+i)) lo (lo+x9)/\(x9<m->lt ((kas_rev (kas_rev p' (lo+i-(q'+1)) (lo+i)) lo (lo+i)).getD (lo+x9) 0) ((kas_rev (kas_rev p' (lo+i-(q'+1)) (lo+i)) lo (lo+i)).getD (lo+x9-1) 0)=true)) ?sux ?eux ⟨rfl,rfl,by lia,upZ⟩) ?kux)
        case eux =>
         rintro c st' ⟨rfl,rfl,w1,w2⟩;rw[show max (i) m=m by lia]at *
         exact⟨rfl,m,rfl,by lia,by lia,w2,λz=>by lia⟩
        case sux =>
         rintro x9 c st' hi1 hi2 ⟨rfl,rfl,w1,w2⟩
         (try dsimp only)
         refine aUC (f6 D SZ hpZ (by lia) (by lia) ?_)
         cases ec:lt ((kas_rev (kas_rev p' (lo+i-(q'+1)) (lo+i)) lo (lo+i)).getD (lo+x9) 0) ((kas_rev (kas_rev p' (lo+i-(q'+1)) (lo+i)) lo (lo+i)).getD (lo+x9-1) 0)with
         |true=>exact aUB ⟨rfl,x9,rfl,hi1,by lia,w2,λ_=>ec⟩
         |false=>exact aUB ⟨rfl,rfl,by lia,SdR.more (b:=lo+x9) D.wk w2 (by lia) ec⟩
        case kux=>rintro c st' ⟨rfl,x9,rfl,w1,w2,w3,_⟩;exact aUB (q x9 _ _ (by lia) w2 SZ peZ outZ w3)
      . rw[if_neg hq];refine aUC (gQ w2 λstZ SZ=>?_)
        (try dsimp only)
        have peZ:=(aUX (p') lo (lo+i) _:(kas_rev (p') lo (lo+i)).Perm (p')).trans w3;have szZ:(kas_rev (p') lo (lo+i)).size=p.size:=peZ.size_eq;have szP:(p').size=p.size:=w3.size_eq;have hpZ:=fC n0 hp peZ;have upZ:SdR lt (kas_rev (p') lo (lo+i)) lo (lo+i):=DnR.rev (by lia) w6
        have outZ:∀k,k<lo\/lo+m<=k->(kas_rev (p') lo (lo+i)).getD k 0=p.getD k 0:=λk hk=>(by
         rw[cG _ _ (by lia),if_neg (by lia)];exact w4 k hk)
        refine aUC (aUD (aUE (I:=λx9 c st'=>stZ=st'/\c=(none,x9)/\x9<=m/\SdR lt (kas_rev (p') lo (lo+i)) lo (lo+x9))
         (Q:=λc st'=>stZ=st'/\∃x9,c=(none,x9)/\i<=x9/\x9<=m/\SdR lt (kas_rev (p') lo (lo+i)) lo (lo+x9)/\(x9<m->lt ((kas_rev (p') lo (lo+i)).getD (lo+x9) 0) ((kas_rev (p') lo (lo+i)).getD (lo+x9-1) 0)=true)) ?suy ?euy ⟨rfl,rfl,by lia,upZ⟩) ?kuy)
        case euy =>
         rintro c st' ⟨rfl,rfl,w1,w2⟩;rw[show max (i) m=m by lia]at *
         exact⟨rfl,m,rfl,by lia,by lia,w2,λz=>by lia⟩
        case suy =>
         rintro x9 c st' hi1 hi2 ⟨rfl,rfl,w1,w2⟩
         (try dsimp only)
         refine aUC (f6 D SZ hpZ (by lia) (by lia) ?_)
         cases ec:lt ((kas_rev (p') lo (lo+i)).getD (lo+x9) 0) ((kas_rev (p') lo (lo+i)).getD (lo+x9-1) 0)with
         |true=>exact aUB ⟨rfl,x9,rfl,hi1,by lia,w2,λ_=>ec⟩
         |false=>exact aUB ⟨rfl,rfl,by lia,SdR.more (b:=lo+x9) D.wk w2 (by lia) ec⟩
        case kuy=>rintro c st' ⟨rfl,x9,rfl,w1,w2,w3,_⟩;exact aUB (q x9 _ _ (by lia) w2 SZ peZ outZ w3)
  . rw[if_neg h2];have e1:c=1:=by lia
    have dn2:DnR lt p lo (lo+c+1):=λi j a b hj=>(by
     have:i=lo+c-1/\j=lo+c:=by lia
     rw[this.1,this.2];exact dm)
    refine aUC (aUN (aR1 ⟨rfl,?_⟩));refine aUC (aUD (aUE (I:=λi c' st'=>∃p' q',c'=(none,i,q')/\i<=m/\Ss κ it p' pend st'/\p'.Perm p/\(∀k,k<lo\/lo+m<=k->p'.getD k 0=p.getD k 0)/\q'+1<=i/\DnR lt p' lo (lo+i)/\EqR lt p' (lo+i-(q'+1)) (lo+i))
     (Q:=λc' st'=>∃i p' q',c'=(none,i,q')/\c+1<=i/\i<=m/\Ss κ it p' pend st'/\p'.Perm p/\(∀k,k<lo\/lo+m<=k->p'.getD k 0=p.getD k 0)/\q'+1<=i/\DnR lt p' lo (lo+i)/\EqR lt p' (lo+i-(q'+1)) (lo+i)) ?dv ?fv ⟨p,0,rfl,by lia,S,(aUW p),(λ_ _=>rfl),by lia,dn2,λi j a b c d=>(by
      have:i=j:=by lia
      subst this;exact D.wk.irr _)⟩) ?gv)
    case fv =>
     rintro c' st' ⟨p',q',rfl,w1,w2,w3,w4,w5,w6,w7⟩;rw[show max (c+1) m=m by lia]at *
     exact⟨m,p',q',rfl,by lia,by lia,w2,w3,w4,w5,w6,w7⟩
    case dv =>
     rintro i c' st' hi1 hi2 ⟨p',q',rfl,w1,w2,w3,w4,w5,w6,w7⟩;have hp':=fC n0 hp w3;have sz':p'.size=p.size:=w3.size_eq
     (try dsimp only)
     refine aUC (f6 D w2 hp' (by lia) (by lia) ?_)
     have one:∀(r:Array Nat),EqR lt r (lo+(i+1)-(0+1)) (lo+(i+1)):=λr i j a b c d=>(by
      have:i=j:=by lia
      subst this;exact D.wk.irr _)
     cases ec:lt (p'.getD (lo+i) 0) (p'.getD (lo+i-1) 0)with
     |true =>
      have e1:=D.wk.asy ec
      (try dsimp only)
      rw[if_pos rfl];by_cases hq:q' > 0
      . rw[if_pos hq];refine aUC (gQ w2 λst3 S3=>?_);have pe3:=(aUX p' (lo+i-(q'+1)) (lo+i) _:(kas_rev p' (lo+i-(q'+1)) (lo+i)).Perm p').trans w3;refine aUB ⟨_,0,rfl,by lia,S3,pe3,λk hk=>?_,by lia,?_,one _⟩
        . rw[cG _ _ (by lia),if_neg (by lia)];exact w4 k hk
        . refine DnR.more (b:=lo+i) D.wk (by lia) (DnR.turn (by lia) (by lia) w6 w7) ?_
          rw[cG _ _ (by lia),cG _ _ (by lia),if_pos ⟨by lia,by lia⟩,if_neg (by lia)]
          exact D.wk.ntr (w7 _ (lo+i-1) (by lia) (by lia) (by lia) (by lia)) e1
      . rw[if_neg hq];exact aUB ⟨p',0,rfl,by lia,w2,w3,w4,by lia,DnR.more (b:=lo+i) D.wk (by lia) w6 e1,one _⟩
     |false =>
      (try dsimp only)
      rw[if_neg aQL];refine aUC (f6 D w2 hp' (by lia) (by lia) ?_)
      cases ed:lt (p'.getD (lo+i-1) 0) (p'.getD (lo+i) 0)with
      |true =>
       (try dsimp only)
       rw[if_pos rfl];exact aUB ⟨i,p',q',rfl,hi1,by lia,w2,w3,w4,w5,w6,w7⟩
      |false =>
       (try dsimp only)
       rw[if_neg aQL]
       exact aUB ⟨p',q'+1,rfl,by lia,w2,w3,w4,by lia,DnR.more (b:=lo+i) D.wk (by lia) w6 ed,by
        have:=EqR.more (b:=lo+i) D.wk (by lia) w7 ec ed
        rwa [show lo+i-(q'+1)=lo+(i+1)-(q'+1+1) by lia]at this⟩
    case gv =>
     rintro c' st' ⟨i,p',q',rfl,w0,w1,w2,w3,w4,w5,w6,w7⟩;have sz':p'.size=p.size:=w3.size_eq
     (try dsimp only)
     by_cases hq:q' > 0
     . rw[if_pos hq];refine aUC (gQ w2 λst3 S3=>?_);have pe3:=(aUX p' (lo+i-(q'+1)) (lo+i) _:(kas_rev p' (lo+i-(q'+1)) (lo+i)).Perm p').trans w3;have out3:∀k,k<lo\/lo+m<=k->(kas_rev p' (lo+i-(q'+1)) (lo+i)).getD k 0=p.getD k 0:=λk hk=>(by
         rw[cG _ _ (by lia),if_neg (by lia)];exact w4 k hk)
       have dn3:=DnR.turn (lt:=lt) (p:=p') (c:=lo+i-(q'+1)) (b:=lo+i) (a:=lo) (by lia) (by lia) w6 w7
       refine aUC (gQ S3 λstZ SZ=>?_)
       (try dsimp only)
       have peZ:=(aUX (kas_rev p' (lo+i-(q'+1)) (lo+i)) lo (lo+i) _:(kas_rev (kas_rev p' (lo+i-(q'+1)) (lo+i)) lo (lo+i)).Perm (kas_rev p' (lo+i-(q'+1)) (lo+i))).trans pe3;have szZ:(kas_rev (kas_rev p' (lo+i-(q'+1)) (lo+i)) lo (lo+i)).size=p.size:=peZ.size_eq;have szP:(kas_rev p' (lo+i-(q'+1)) (lo+i)).size=p.size:=pe3.size_eq;have hpZ:=fC n0 hp peZ;have upZ:SdR lt (kas_rev (kas_rev p' (lo+i-(q'+1)) (lo+i)) lo (lo+i)) lo (lo+i):=DnR.rev (by lia) dn3
       have outZ:∀k,k<lo\/lo+m<=k->(kas_rev (kas_rev p' (lo+i-(q'+1)) (lo+i)) lo (lo+i)).getD k 0=p.getD k 0:=λk hk=>(by
        rw[cG _ _ (by lia),if_neg (by lia)];exact out3 k hk)
       refine aUC (aUD (aUE (I:=λx9 c st'=>stZ=st'/\c=(none,x9)/\x9<=m/\SdR lt (kas_rev (kas_rev p' (lo+i-(q'+1)) (lo+i)) lo (lo+i)) lo (lo+x9))
        (Q:=λc st'=>stZ=st'/\∃x9,c=(none,x9)/\i<=x9/\x9<=m/\SdR lt (kas_rev (kas_rev p' (lo+i-(q'+1)) (lo+i)) lo (lo+i)) lo (lo+x9)/\(x9<m->lt ((kas_rev (kas_rev p' (lo+i-(q'+1)) (lo+i)) lo (lo+i)).getD (lo+x9) 0) ((kas_rev (kas_rev p' (lo+i-(q'+1)) (lo+i)) lo (lo+i)).getD (lo+x9-1) 0)=true)) ?svx ?evx ⟨rfl,rfl,by lia,upZ⟩) ?kvx)
       case evx =>
        rintro c st' ⟨rfl,rfl,w1,w2⟩;rw[show max (i) m=m by lia]at *
        exact⟨rfl,m,rfl,by lia,by lia,w2,λz=>by lia⟩
       case svx =>
        rintro x9 c st' hi1 hi2 ⟨rfl,rfl,w1,w2⟩
        (try dsimp only)
        refine aUC (f6 D SZ hpZ (by lia) (by lia) ?_)
        cases ec:lt ((kas_rev (kas_rev p' (lo+i-(q'+1)) (lo+i)) lo (lo+i)).getD (lo+x9) 0) ((kas_rev (kas_rev p' (lo+i-(q'+1)) (lo+i)) lo (lo+i)).getD (lo+x9-1) 0)with
        |true=>exact aUB ⟨rfl,x9,rfl,hi1,by lia,w2,λ_=>ec⟩
        |false=>exact aUB ⟨rfl,rfl,by lia,SdR.more (b:=lo+x9) D.wk w2 (by lia) ec⟩
       case kvx=>rintro c st' ⟨rfl,x9,rfl,w1,w2,w3,_⟩;exact aUB (q x9 _ _ (by lia) w2 SZ peZ outZ w3)
     . rw[if_neg hq];refine aUC (gQ w2 λstZ SZ=>?_)
       (try dsimp only)
       have peZ:=(aUX (p') lo (lo+i) _:(kas_rev (p') lo (lo+i)).Perm (p')).trans w3;have szZ:(kas_rev (p') lo (lo+i)).size=p.size:=peZ.size_eq;have szP:(p').size=p.size:=w3.size_eq;have hpZ:=fC n0 hp peZ;have upZ:SdR lt (kas_rev (p') lo (lo+i)) lo (lo+i):=DnR.rev (by lia) w6
       have outZ:∀k,k<lo\/lo+m<=k->(kas_rev (p') lo (lo+i)).getD k 0=p.getD k 0:=λk hk=>(by
        rw[cG _ _ (by lia),if_neg (by lia)];exact w4 k hk)
       refine aUC (aUD (aUE (I:=λx9 c st'=>stZ=st'/\c=(none,x9)/\x9<=m/\SdR lt (kas_rev (p') lo (lo+i)) lo (lo+x9))
        (Q:=λc st'=>stZ=st'/\∃x9,c=(none,x9)/\i<=x9/\x9<=m/\SdR lt (kas_rev (p') lo (lo+i)) lo (lo+x9)/\(x9<m->lt ((kas_rev (p') lo (lo+i)).getD (lo+x9) 0) ((kas_rev (p') lo (lo+i)).getD (lo+x9-1) 0)=true)) ?svy ?evy ⟨rfl,rfl,by lia,upZ⟩) ?kvy)
       case evy =>
        rintro c st' ⟨rfl,rfl,w1,w2⟩;rw[show max (i) m=m by lia]at *
        exact⟨rfl,m,rfl,by lia,by lia,w2,λz=>by lia⟩
       case svy =>
        rintro x9 c st' hi1 hi2 ⟨rfl,rfl,w1,w2⟩
        (try dsimp only)
        refine aUC (f6 D SZ hpZ (by lia) (by lia) ?_)
        cases ec:lt ((kas_rev (p') lo (lo+i)).getD (lo+x9) 0) ((kas_rev (p') lo (lo+i)).getD (lo+x9-1) 0)with
        |true=>exact aUB ⟨rfl,x9,rfl,hi1,by lia,w2,λ_=>ec⟩
        |false=>exact aUB ⟨rfl,rfl,by lia,SdR.more (b:=lo+x9) D.wk w2 (by lia) ec⟩
       case kvy=>rintro c st' ⟨rfl,x9,rfl,w1,w2,w3,_⟩;exact aUB (q x9 _ _ (by lia) w2 SZ peZ outZ w3)
end
def cC(lt:Nat->Nat->Bool)(p:Array Nat):List (Nat×Nat×Nat)->Nat->Nat->Prop
 |[],a,b=>a=b
 |x::l,a,b=>x.1=a/\1<=x.2.1/\SdR lt p x.1 (x.1+x.2.1)/\cC lt p l (x.1+x.2.1) b
section
variable {lt:Nat->Nat->Bool}{p':Array Nat}
theorem lV:∀{l:List (Nat×Nat×Nat)}{a b:Nat},cC lt p l a b->a+l.length<=b
 |[],a,b,h=>by have h:a=b:=h;simp;lia
 |x::l,a,b,⟨h1,h2,_,h4⟩=>by have:=lV h4;show a+(l.length+1)<=b;lia
theorem hV:∀{l1 l2:List (Nat×Nat×Nat)}{a b:Nat},cC lt p (l1++l2) a b↔∃c,cC lt p l1 a c/\cC lt p l2 c b
 |[],l2,a,b=>⟨λh=>⟨a,rfl,h⟩,λ⟨c,h1,h2⟩=>by have h1:a=c:=h1;subst h1;exact h2⟩
 | x :: l1, l2, a, b => ⟨fun ⟨h1, h2, h3, h4⟩ => by
     obtain⟨c,h5,h6⟩:=hV.mp h4;exact⟨c,⟨h1,h2,h3,h5⟩,h6⟩,λ⟨c,⟨h1,h2,h3,h5⟩,h6⟩=>⟨h1,h2,h3,hV.mpr ⟨c,h5,h6⟩⟩⟩
theorem SdR.same{a b:Nat}(e:∀k,a<=k->k<b->p'.getD k 0=p.getD k 0)(h:SdR lt p a b):SdR lt p' a b:=λi j h1 h2 h3=>by rw[e i h1 (by lia),e j (by lia) h3];exact h i j h1 h2 h3
theorem lW:∀{l:List (Nat×Nat×Nat)}{a b:Nat},(∀k,a<=k->k<b->p'.getD k 0=p.getD k 0)->cC lt p l a b->cC lt p' l a b
 |[],_,_,_,h=>h
 |x::l,a,b,e,⟨h1,h2,h3,h4⟩=>by have:=lV h4;exact⟨h1,h2,h3.same λk z1 z2=>e k (by lia) (by lia),lW (λk z1 z2=>e k (by lia) z2) h4⟩
theorem rD{f:Nat×Nat×Nat->Nat×Nat×Nat}{w:Nat}(hf:∀x,f x=(x.1,x.2.1,w)):∀{l:List (Nat×Nat×Nat)} (k:Nat) {a b:Nat},cC lt p l a b->cC lt p (l.modify k f) a b
 |[],k,_,_,h=>by simpa using h
 |x::l,0,a,b,⟨h1,h2,h3,h4⟩=>by rw[List.modify_zero_cons,hf];exact⟨h1,h2,h3,h4⟩
 |x::l,k+1,a,b,⟨h1,h2,h3,h4⟩=>by rw[List.modify_succ_cons];exact⟨h1,h2,h3,rD hf k h4⟩
theorem xS{α:Type}:∀(l1:List α) (x y v:α) (l2:List α),((l1++x::y::l2).set l1.length v).eraseIdx (l1.length+1)=l1++v::l2
 |[],x,y,v,l2=>rfl
 |z::l1,x,y,v,l2=>by show z::((l1++x::y::l2).set l1.length v).eraseIdx (l1.length+1)=z::(l1++v::l2);rw[xS l1 x y v l2]
end
section
variable {M:Model}{A:aVV}{E:VSP}{κ:SortKind}{it:Nat->Keyed}{lt:Nat->Nat->Bool}
theorem rE(D:Odr M A E s κ it n lt){lo:Nat}{Q:Bool->SortSt->Prop}{st:SortSt}(S:Ss κ it p pend st)(hp:∀k,p.getD k 0<n)(rn:cC lt p pend.toList 0 lo)(hl:lo<=p.size)(hi:i+1<pend.size)(q:∀p' pend' st',Ss κ it p' pend' st'->p'.Perm p->(∀k,lo<=k->p'.getD k 0=p.getD k 0)->cC lt p' pend'.toList 0 lo->pend'.size+1=pend.size->Q true st'):wpS M A E s (mergeAt' i) Q st:=by
 obtain⟨l1,l2,x,y,sp,hl1,ex,ey⟩:∃l1 l2 x y,pend.toList=l1++x::y::l2/\l1.length=i/\pend[i]? = some x/\pend[i+1]? = some y:=by
  refine⟨pend.toList.take i,pend.toList.drop (i+2),pend[i],pend[i+1],?_,by simp;lia,aTR _,aTR _⟩
  have e1:=(aT5 i pend.toList).symm;rw[aSJ (by simp;lia),aSJ (by simp;lia)]at e1
  simpa using e1
 obtain⟨sa,na,w⟩:=x;obtain⟨sb,nb,w'⟩:=y;rw[sp]at rn;obtain⟨c,rn1,e1,a1,r1,e2,a2,r2,rn2⟩:=hV.mp rn;dsimp only at e1 a1 r1 e2 a2 r2 rn2;have le2:=lV rn2;refine aJC D S hp ex ey e2 a1 a2 (by lia) (by rw[e2];exact r1) r2 λp' st' S' pe same up=>?_
 have tl:((pend.setIfInBounds i (sa,na+nb,w)).eraseIdxIfInBounds (i+1)).toList=l1++(sa,na+nb,w)::l2:=by
  have:i+1<(pend.setIfInBounds i (sa,na+nb,w)).size:=by rw[Array.size_setIfInBounds];exact hi
  unfold Array.eraseIdxIfInBounds;rw[dif_pos this,Array.toList_eraseIdx,Array.toList_setIfInBounds,sp,<- hl1];exact xS l1 _ _ _ l2
 refine q p' _ st' S' pe (λk hk=>same k (.inr (by lia))) ?_ ?_
 . rw[tl];have le1:=lV rn1;refine hV.mpr ⟨c,lW (λk _ hk=>same k (.inl (by lia))) rn1,e1,by show 1<=na+nb;lia,?_,?_⟩
   . show SdR lt p' sa (sa+(na+nb));rw[show sa+(na+nb)=sb+nb by lia];exact up
   . show cC lt p' l2 (sa+(na+nb)) lo;rw[show sa+(na+nb)=sb+nb by lia]
     exact lW (λk hk _=>same k (.inr hk)) rn2
 . rw[<- aP7,tl,<- aP7,sp];simp;lia
def aJG{c:Prop}[Decidable c]{x y:StateT SortSt Sem α}{Q:α->SortSt->Prop}{st:SortSt}(h1:c->wpS M A E s x Q st)(h2:¬ c->wpS M A E s y Q st):wpS M A E s (if c then x else y) Q st:=by
 by_cases h:c
 . rw[if_pos h];exact h1 h
 . rw[if_neg h];exact h2 h
theorem aJH(D:Odr M A E s κ it n lt){Q:Unit->SortSt->Prop}{st:SortSt}(S:Ss κ it p #[] st)(hp:∀k,p.getD k 0<n)(h1:1<=p.size)(q:∀p' pend' st',Ss κ it p' pend' st'->p'.Perm p->SdR lt p' 0 p.size->Q () st'):wpS M A E s sortRuns' Q st:=by
 have n0:0<n:=aUV (aQP _) (hp 0);obtain⟨g,rfl⟩:=S.eq;refine aUC (aUO ?_)
 (try dsimp only)
 have za:(p.map it).size=p.size:=aUM;rw[show(arrOf (SortSt.mk' κ (p.map it) #[] g none)).size=p.size from za]
 refine aUC (aUD (aUE (I:=λi c st'=>∃p' pend lo,c=(none,lo)/\Ss κ it p' pend st'/\p'.Perm p/\cC lt p' pend.toList 0 lo/\lo<=p.size/\(i<=lo\/p.size<=lo))
  (Q:=λc st'=>∃p' pend,c=(none,p.size)/\Ss κ it p' pend st'/\p'.Perm p/\cC lt p' pend.toList 0 p.size) ?s ?e ⟨p,#[],0,rfl,S,aUW _,rfl,by lia,by lia⟩) ?k)
 case e =>
  rintro c st' ⟨p',pend,lo,rfl,S',pe,rn,l1,l2⟩;obtain rfl:lo=p.size:=by lia
  exact⟨p',pend,rfl,S',pe,rn⟩
 case s =>
  rintro i c st' _ hi ⟨p',pend,lo,rfl,S',pe,rn,l1,l2⟩;have hp':=fC n0 hp pe;have sz':p'.size=p.size:=pe.size_eq
  (try dsimp only)
  by_cases hlo:lo ≥ p.size
  . rw[if_pos hlo];obtain rfl:lo=p.size:=by lia
    exact aUB ⟨p',pend,rfl,S',pe,rn⟩
  rw[if_neg hlo];refine aUC (aJF D S' hp' (by lia) (by lia) λc p1 st1 c1 c2 S1 pe1 same1 up1=>?_)
  (try dsimp only)
  have pe1':=pe1.trans pe;have hp1:=fC n0 hp pe1';have sz1:p1.size=p.size:=pe1'.size_eq;refine aJG (λhm=>?_) (λhm=>?_)
  . refine aUC (aUN (aR1 ⟨rfl,?_⟩));have hm:c<minRun' p.size p.size 0:=hm;refine aUC (aJE D (m:=min (p.size-lo) (minRun' p.size p.size 0)) S1 hp1 c1 (by lia) (by lia) up1 λp2 st2 S2 pe2 same2 up2=>?_)
    rw[if_neg (show ¬ (!true)=true by decide)]
    (try dsimp only)
    have pe2':=pe2.trans pe1';have same:∀k,k<lo\/p.size<=k->p2.getD k 0=p'.getD k 0:=λk hk=>(same2 k (by lia)).trans (same1 k (by lia))
    have rP:=lW (p':=p2) (λk _ hk=>same k (.inl hk)) rn;obtain⟨gP,rfl⟩:=Ss.eq S2;refine aUC (aUO ?_)
    (try dsimp only)
    cases zb:pend.back? with
    |none =>
     (try dsimp only)
     refine aUC (aUP (aUB ⟨p2,pend.push (lo,(min (p.size-lo) (minRun' p.size p.size 0)),0),lo+(min (p.size-lo) (minRun' p.size p.size 0)),rfl,⟨rfl,rfl,rfl,rfl⟩,pe2',?_,by lia,by lia⟩))
     rw[aR0];exact hV.mpr ⟨lo,rP,rfl,(show 1<=(min (p.size-lo) (minRun' p.size p.size 0)) by lia),up2,rfl⟩
    |some v =>
     obtain⟨s1,n1,w1⟩:=v
     (try dsimp only)
     refine aUC (aUD (aUE (I:=λ_ c9 st'=>∃p3 pend3,c9=(none,())/\Ss κ it p3 pend3 st'/\p3.Perm p/\cC lt p3 pend3.toList 0 lo/\SdR lt p3 lo (lo+(min (p.size-lo) (minRun' p.size p.size 0))))
      (Q:=λc9 st'=>∃p3 pend3,c9=(none,())/\Ss κ it p3 pend3 st'/\p3.Perm p/\cC lt p3 pend3.toList 0 lo/\SdR lt p3 lo (lo+(min (p.size-lo) (minRun' p.size p.size 0)))) ?s1 ?e1 ⟨p2,pend,rfl,⟨rfl,rfl,rfl,rfl⟩,pe2',rP,up2⟩) ?k1)
     case e1=>exact λc9 st' z=>z
     case s1 =>
      rintro _ c9 st' _ _ ⟨p3,pend3,rfl,S3,pe3,rn3,up3⟩;have hp3:=fC n0 hp pe3;have sz3:p3.size=p.size:=pe3.size_eq;obtain⟨g3,rfl⟩:=Ss.eq S3;refine aUC (aUO ?_)
      (try dsimp only)
      by_cases hs:pend3.size > 1
      . rw[if_pos hs,aTR (show pend3.size-2<pend3.size by lia)]
        generalize pend3[pend3.size-2]=v3;obtain⟨v1,v2,v3⟩:=v3
        (try dsimp only)
        refine bV (aUB ⟨p3,pend3,rfl,S3,pe3,rn3,up3⟩) ?_;refine aUC (rE D S3 hp3 rn3 (by lia) (by lia) λp4 pend4 st4 S4 pe4 same4 rn4 _=>?_)
        exact aUB ⟨p4,pend4,rfl,S4,pe4.trans pe3,rn4,λi j a b d=>(by
         rw[same4 i a,same4 j (by lia)];exact up3 i j a b d)⟩
      . rw[if_neg hs];exact aUB ⟨p3,pend3,rfl,S3,pe3,rn3,up3⟩
     case k1 =>
      rintro c9 st' ⟨p3,pend3,rfl,S3,pe3,rn3,up3⟩;obtain⟨g3,rfl⟩:=Ss.eq S3
      (try dsimp only)
      refine aUC (aUP (aUC (aUP (aUB ⟨p3,_,lo+(min (p.size-lo) (minRun' p.size p.size 0)),rfl,⟨rfl,rfl,rfl,rfl⟩,pe3,?_,by lia,by lia⟩))))
      rw[aR0,Array.toList_modify];exact hV.mpr ⟨lo,rD (λ_=>rfl) _ rn3,rfl,(show 1<=(min (p.size-lo) (minRun' p.size p.size 0)) by lia),up3,rfl⟩
  . have same:∀k,k<lo\/p.size<=k->p1.getD k 0=p'.getD k 0:=λk hk=>same1 k (by lia)
    have rP:=lW (p':=p1) (λk _ hk=>same k (.inl hk)) rn;obtain⟨gP,rfl⟩:=Ss.eq S1;refine aUC (aUO ?_)
    (try dsimp only)
    cases zb:pend.back? with
    |none =>
     (try dsimp only)
     refine aUC (aUP (aUB ⟨p1,pend.push (lo,c,0),lo+c,rfl,⟨rfl,rfl,rfl,rfl⟩,pe1',?_,by lia,by lia⟩))
     rw[aR0];exact hV.mpr ⟨lo,rP,rfl,(show 1<=c by lia),up1,rfl⟩
    |some v =>
     obtain⟨s1,n1,w1⟩:=v
     (try dsimp only)
     refine aUC (aUD (aUE (I:=λ_ c9 st'=>∃p3 pend3,c9=(none,())/\Ss κ it p3 pend3 st'/\p3.Perm p/\cC lt p3 pend3.toList 0 lo/\SdR lt p3 lo (lo+c))
      (Q:=λc9 st'=>∃p3 pend3,c9=(none,())/\Ss κ it p3 pend3 st'/\p3.Perm p/\cC lt p3 pend3.toList 0 lo/\SdR lt p3 lo (lo+c)) ?s2 ?e2 ⟨p1,pend,rfl,⟨rfl,rfl,rfl,rfl⟩,pe1',rP,up1⟩) ?k2)
     case e2=>exact λc9 st' z=>z
     case s2 =>
      rintro _ c9 st' _ _ ⟨p3,pend3,rfl,S3,pe3,rn3,up3⟩;have hp3:=fC n0 hp pe3;have sz3:p3.size=p.size:=pe3.size_eq;obtain⟨g3,rfl⟩:=Ss.eq S3;refine aUC (aUO ?_)
      (try dsimp only)
      by_cases hs:pend3.size > 1
      . rw[if_pos hs,aTR (show pend3.size-2<pend3.size by lia)]
        generalize pend3[pend3.size-2]=v3;obtain⟨v1,v2,v3⟩:=v3
        (try dsimp only)
        refine bV (aUB ⟨p3,pend3,rfl,S3,pe3,rn3,up3⟩) ?_;refine aUC (rE D S3 hp3 rn3 (by lia) (by lia) λp4 pend4 st4 S4 pe4 same4 rn4 _=>?_)
        exact aUB ⟨p4,pend4,rfl,S4,pe4.trans pe3,rn4,λi j a b d=>(by
         rw[same4 i a,same4 j (by lia)];exact up3 i j a b d)⟩
      . rw[if_neg hs];exact aUB ⟨p3,pend3,rfl,S3,pe3,rn3,up3⟩
     case k2 =>
      rintro c9 st' ⟨p3,pend3,rfl,S3,pe3,rn3,up3⟩;obtain⟨g3,rfl⟩:=Ss.eq S3
      (try dsimp only)
      refine aUC (aUP (aUC (aUP (aUB ⟨p3,_,lo+c,rfl,⟨rfl,rfl,rfl,rfl⟩,pe3,?_,by lia,by lia⟩))))
      rw[aR0,Array.toList_modify];exact hV.mpr ⟨lo,rD (λ_=>rfl) _ rn3,rfl,(show 1<=c by lia),up3,rfl⟩
 case k =>
  rintro c st' ⟨p',pend,rfl,S',pe,rn⟩
  (try dsimp only)
  refine aUC (aUD (aUE (I:=λj c st'=>∃p' pend,c=(none,())/\Ss κ it p' pend st'/\p'.Perm p/\cC lt p' pend.toList 0 p.size/\pend.size<=p.size-j)
   (Q:=λc st'=>∃p' pend,c=(none,())/\Ss κ it p' pend st'/\p'.Perm p/\cC lt p' pend.toList 0 p.size/\pend.size<=1) ?s9 ?e9 ⟨p',pend,rfl,S',pe,rn,?i9⟩) ?k9)
  case i9=>have:=lV rn;rw[aP7]at this;lia
  case e9=>rintro c st' ⟨p',pend,rfl,S',pe,rn,z⟩;exact⟨p',pend,rfl,S',pe,rn,by lia⟩
  case s9 =>
   rintro j c st' _ hj ⟨p',pend,rfl,S',pe,rn,z⟩;have hp':=fC n0 hp pe;have sz':p'.size=p.size:=pe.size_eq;obtain⟨g',rfl⟩:=Ss.eq S';refine aUC (aUO ?_)
   (try dsimp only)
   by_cases hs:pend.size<=1
   . rw[if_pos hs];exact aUB ⟨p',pend,rfl,S',pe,rn,hs⟩
   . rw[if_neg hs];refine aUC (rE D S' hp' rn (by lia) ((λ(b:Bool)=>(by cases b <;> simp <;> lia):∀b:Bool,(if b=true then pend.size-2-1 else pend.size-2)+1<pend.size) _) λp4 pend4 st4 S4 pe4 same4 rn4 sz4=>?_)
     exact aUB ⟨p4,pend4,rfl,S4,pe4.trans pe,rn4,by lia⟩
  case k9 =>
   rintro c st' ⟨p',pend,rfl,S',pe,rn,z⟩;refine aUB (q p' pend st' S' pe ?_);have hl:pend.toList.length<=1:=by rw[aP7];exact z
   match pend.toList,rn,hl with
   |[],rn,_=>have:(0:Nat)=p.size:=rn;lia
   |[x],rn,_=>obtain⟨e1,_,r,e2⟩:=rn;have e2:x.1+x.2.1=p.size:=e2;rw[e2,e1]at r;exact r
   |_::_::_,_,hl=>simp at hl
end
noncomputable def gC:Nat:=1000000
def lX:gC<=1000000:=aQD _
section
variable {A:aVV}{E:VSP}{κ:SortKind}{ks:List aVT}{lt:Nat->Nat->Bool}
theorem aJI(O:WkO lt)(hl:ks.length=vs.length)(h1:2<=vs.length)(hb:vs.length<gC)(ask:∀i j (C:Bool->aVU->Prop),i<vs.length->j<vs.length->C (lt i j) s->wpAny (model prog w) A (keyLt' κ (ks.getD i .none) (ks.getD j .none)) C (λ_ _=>False) s){Q:SortSt->aVU->Prop}(q:∀p st',PW vs.length p->p.Perm (List.toArray (List.range vs.length))->Wup lt p vs.length->arrOf st'=p.map (kas_item (ks.toArray.zip vs.toArray))->failedOf st'=none->Q st' s):wpAny (model prog w) A ((sortRuns').run (SortSt.mk' κ (ks.toArray.zip vs.toArray) #[] 7 none)) (λr s'=>Q r.2 s') E s:=by
 have D:Odr (model prog w) A E s κ (kas_item (ks.toArray.zip vs.toArray)) vs.length lt:=by refine⟨O,λ{i j Q st} hi hj hk hq=>?_⟩;rw[lt'_eq];refine aUC (aUO ?_);rw[hk,kat_item hl,kat_item hl];exact aUC (aUN (aTN (aP5 (ask i j (λc s'=>c=lt i j/\s'=s) hi hj ⟨rfl,rfl⟩) (λc s' hc=>⟨hc.2,by obtain⟨rfl,_⟩:=hc;exact aUB hq⟩) λ_ _ hF=>hF.elim)))
 have pp:PW vs.length (List.toArray (List.range vs.length)):=by
  refine⟨by simp,λk=>?_⟩
  simp only[aT1,aTU,List.getElem?_range];by_cases hk:k<vs.length
  . simp[hk]
  . simp[hk];lia
 have er:(ks.toArray.zip vs.toArray)=(List.toArray (List.range vs.length)).map (kas_item (ks.toArray.zip vs.toArray)):=by
  have e:=kas_range (ks.toArray.zip vs.toArray);rw[show(ks.toArray.zip vs.toArray).size=vs.length by simp[hl]]at e
  exact e.symm
 have run:wpS (model prog w) A E s sortRuns' (λ_ st'=>Q st' s) (SortSt.mk' κ (ks.toArray.zip vs.toArray) #[] 7 none):=by
  refine aJH D (p:=List.toArray (List.range vs.length)) ⟨rfl,er,rfl,rfl⟩ pp.below (by rw[pp.size];lia) λp' pend' st' S pe up=>?_
  rw[pp.size]at up;exact q p' st' (pp.perm pe) pe (λi j hij hj=>up i j (aQP _) hij hj) S.arr S.fail
 exact aP5 run (λr s' h=>by obtain⟨rfl,h⟩:=h;exact h) λ_ _ e=>e
end
mutual
def ltN:N->N->Bool
 |.i n,.i m=>decide (n<m)
 |.i _,.s _=>true
 |.i _,.t _=>true
 |.s _,.i _=>false
 |.s x,.s y=>lts x y
 |.s _,.t _=>true
 |.t _,.i _=>false
 |.t _,.s _=>false
 |.t xs,.t ys=>bH xs ys
def bH:List N->List N->Bool
 |[],[]=>false
 |[],_::_=>true
 |_::_,[]=>false
 |x::xs,y::ys=>if x=y then bH xs ys else ltN x y
end
mutual
noncomputable def okN:N->N->Bool
 |.i _,.i _=>true
 |.s _,.s _=>true
 |.t xs,.t ys=>fD xs ys
 |.i _,.s _=>false
 |.i _,.t _=>false
 |.s _,.i _=>false
 |.s _,.t _=>false
 |.t _,.i _=>false
 |.t _,.s _=>false
noncomputable def fD:List N->List N->Bool
 |[],_=>true
 |_::_,[]=>true
 |x::xs,y::ys=>if x=y then fD xs ys else okN x y
end
theorem xT:∀(xs:List N),bH xs xs=false
 |[]=>by rw[bH]
 |x::xs=>by rw[bH,if_pos rfl,xT xs]
def jX(k:N):ltN k k=false:=by
 cases k with
 |i n=>rw[ltN];simp
 |s x=>rw[ltN];exact oB x
 |t xs=>rw[ltN];exact xT xs
theorem xU:∀{xs ys:List N},(∀x∈xs,∀y,ltN x y=false->ltN y x=false->x=y)->bH xs ys=false->bH ys xs=false->xs=ys
 |[],[],_,_,_=>rfl
 |[],_::_,_,h,_=>by rw[bH]at h;cases h
 |_::_,[],_,_,h=>by rw[bH]at h;cases h
 |x::xs,y::ys,k,h1,h2=>by
  rw[bH]at h1 h2;by_cases e:x=y
  . subst e;rw[if_pos rfl]at h1 h2;rw[xU (λz hz=>k z (mcm hz)) h1 h2]
  . rw[if_neg e]at h1;rw[if_neg (λz=>e z.symm)]at h2;exact absurd (k x mcs y h1 h2) e
theorem lY(k:N):∀y,ltN k y=false->ltN y k=false->k=y:=by
 induction k using N.ind with
 |hi n =>
  intro y h1 h2;cases y with
  |i m =>
   rw[ltN]at h1 h2;have:n=m:=by have a1:=aUY h1;have a2:=aUY h2;lia
   rw[this]
  |s x=>rw[ltN]at h1;cases h1
  |t xs=>rw[ltN]at h1;cases h1
 |hs x =>
  intro y h1 h2;cases y with
  |i m=>rw[ltN]at h2;cases h2
  |s z=>rw[ltN]at h1 h2;rw[qS h1 h2]
  |t xs=>rw[ltN]at h1;cases h1
 |ht xs ih =>
  intro y h1 h2;cases y with
  |i m=>rw[ltN]at h2;cases h2
  |s z=>rw[ltN]at h2;cases h2
  |t ys=>rw[ltN]at h1 h2;rw[xU ih h1 h2]
theorem xV:∀{xs ys zs:List N},(∀x∈xs,∀y z,ltN x y=true->ltN y z=true->ltN x z=true)->bH xs ys=true->bH ys zs=true->bH xs zs=true
 |[],[],_,_,h,_=>by rw[bH]at h;cases h
 |[],_::_,[],_,_,h=>by rw[bH]at h;cases h
 |[],_::_,_::_,_,_,_=>by rw[bH]
 |_::_,[],_,_,h,_=>by rw[bH]at h;cases h
 |_::_,_::_,[],_,_,h=>by rw[bH]at h;cases h
 |x::xs,y::ys,z::zs,k,h1,h2=>by
  rw[bH]at h1 h2 ⊢;by_cases e1:x=y
  . subst e1;rw[if_pos rfl]at h1;by_cases e2:x=z
    . rw[if_pos e2]at h2 ⊢;exact xV (λz hz=>k z (mcm hz)) h1 h2
    . rw[if_neg e2]at h2 ⊢;exact h2
  . rw[if_neg e1]at h1;by_cases e2:y=z
    . subst e2;rw[if_neg e1];exact h1
    . rw[if_neg e2]at h2;have h3:=k x mcs y z h1 h2;by_cases e3:x=z
      . rw[<- e3]at h2;have:=k x mcs y x h1 h2;rw[jX]at this;cases this
      . rw[if_neg e3];exact h3
theorem oH(k:N):∀y z,ltN k y=true->ltN y z=true->ltN k z=true:=by
 induction k using N.ind with
 |hi n =>
  intro y z h1 h2;cases z with
  |i l =>
   cases y with
   |i m=>rw[ltN]at h1 h2 ⊢;have a1:=aR9 h1;have a2:=aR9 h2;exact aRS (by lia)
   |s x=>rw[ltN]at h2;cases h2
   |t xs=>rw[ltN]at h2;cases h2
  |s x=>rw[ltN]
  |t xs=>rw[ltN]
 |hs x =>
  intro y z h1 h2;cases y with
  |i m=>rw[ltN]at h1;cases h1
  |s x2 =>
   cases z with
   |i l=>rw[ltN]at h2;cases h2
   |s x3=>rw[ltN]at h1 h2 ⊢;exact qR h1 h2
   |t xs=>rw[ltN]
  |t xs =>
   cases z with
   |i l=>rw[ltN]at h2;cases h2
   |s x3=>rw[ltN]at h2;cases h2
   |t xs=>rw[ltN]
 |ht xs ih =>
  intro y z h1 h2;cases y with
  |i m=>rw[ltN]at h1;cases h1
  |s x2=>rw[ltN]at h1;cases h1
  |t ys =>
   cases z with
   |i l=>rw[ltN]at h2;cases h2
   |s x3=>rw[ltN]at h2;cases h2
   |t zs=>rw[ltN]at h1 h2 ⊢;exact xV ih h1 h2
def oJ{a b:N}(h:ltN a b=true):ltN b a=false:=by
 cases e:ltN b a with
 |false=>rfl
 |true=>have:=oH a b a h e;rw[jX]at this;cases this
def rF{a b c:N}(h1:ltN a b=false)(h2:ltN b c=false):ltN a c=false:=by
 cases e:ltN a c with
 |false=>rfl
 |true =>
  cases e1:ltN b a with
  |true=>have:=oH b a c e1 e;rw[h2]at this;cases this
  |false=>have:=lY a b h1 e1;subst this;rw[e]at h2;cases h2
def cH(l:List N):Prop:=l.Pairwise λx y=>ltN y x=false
def jY(x:N):List N->List N
 |[]=>[x]
 |y::l=>if ltN y x=true then y::jY x l else x::y::l
def aV(l:List N):List N:=l.foldr jY []
theorem rG(x:N):∀(l:List N),(jY x l).Perm (x::l)
 |[]=>aUZ _
 |y::l=>by
  unfold jY;split
  . exact((rG x l).cons y).trans (List.Perm.swap x y l)
  . exact aUZ _
theorem dE:∀(l:List N),(aV l).Perm l
 |[]=>aUZ _
 |x::l=>(rG x (aV l)).trans ((dE l).cons x)
theorem xW{x:N}:∀{l:List N},cH l->cH (jY x l)
 |[],_=>aUG _ _
 |y::l,h=>by
  unfold jY;split
  . rename_i e;refine aT7.mpr ⟨λz hz=>?_,xW (aT7.mp h).2⟩;rcases aPY.mp ((rG x l).mem_iff.mp hz)with rfl|hz
    . exact oJ e
    . exact(aT7.mp h).1 z hz
  . rename_i e;have e:ltN y x=false:=by simpa using e
    refine aT7.mpr ⟨λz hz=>?_,h⟩;rcases aPY.mp hz with rfl|hz
    . exact e
    . exact rF ((aT7.mp h).1 z hz) e
theorem eX:∀(l:List N),cH (aV l)
 |[]=>List.Pairwise.nil
 |x::l=>xW (eX l)
theorem oK:∀{l l':List N},cH l->cH l'->l.Perm l'->l=l'
 |[],l',_,_,p=>p.symm.eq_nil.symm
 |x::l,[],_,_,p=>p.eq_nil
 |x::l,y::l',h,h',p=>by
  have h1:=aT7.mp h;have h2:=aT7.mp h';have exy:x=y:=by
   have a:ltN y x=false:=by
    rcases aPY.mp (p.mem_iff.mpr mcs)with e|e
    . rw[e];exact jX _
    . exact h1.1 y e
   have b:ltN x y=false:=by
    rcases aPY.mp (p.mem_iff.mp mcs)with e|e
    . rw[e];exact jX _
    . exact h2.1 x e
   exact lY x y b a
  subst exy;rw[oK h1.2 h2.2 p.cons_inv]
def iR{l l':List N}(h:cH l')(p:l'.Perm l):l'=aV l:=oK h (eX l) (p.trans (dE l).symm)
theorem aJJ{A:aVV}{x y:N}{v:aVT}(hu:A.units+x.dp<cLine)(hx:IsN s.heap x u)(hy:IsN s.heap y v):SeqAt.EqAt A s u v (decide (x=y)):=by
 obtain⟨⟨as,ra⟩,ca⟩:=IsN.reads x u hx;obtain⟨⟨bs,rb⟩,cb⟩:=IsN.reads y v hy;have:=SeqAt.eqAt_reads x.py y.py A s u v as bs ra rb ca cb (by rw[N.py_depth];have:=aR2 x.dp y.py.depth;lia)
 rw[N.py_eqv]at this;exact this
theorem xX{A:aVV}:∀{xs ys:List N}{us vs:List aVT},(∀x∈xs,∀(y:N) (u v:aVT),IsN s.heap x u->IsN s.heap y v->okN x y=true->∀(prog:aVX) (w':aVW) (E:VSP) (Q:VSP),Q (.bool (ltN x y)) s->wpAny (model prog w') A (compareOp .Lt u v) Q E s)->A.units+N.dpL xs<cLine->aQ s.heap xs us->aQ s.heap ys vs->fD xs ys=true->LtI A s us vs (bH xs ys)
 |[],[],us,vs,_,_,h1,h2,_=>by rw[aQ]at h1 h2;subst h1;subst h2;rw[bH];exact .nn
 |[],y::ys,us,vs,_,_,h1,h2,_=>by rw[aQ]at h1;rw[aQ]at h2;subst h1;obtain⟨v,ws,rfl,_⟩:=h2;rw[bH];exact .nc
 |x::xs,[],us,vs,_,_,h1,h2,_=>by rw[aQ]at h1;rw[aQ]at h2;subst h2;obtain⟨v,ws,rfl,_⟩:=h1;rw[bH];exact .cn
 |x::xs,y::ys,us,vs,k,hu,h1,h2,ok=>by
  rw[aQ]at h1 h2;obtain⟨u,us,rfl,p1,p2⟩:=h1;obtain⟨v,vs,rfl,q1,q2⟩:=h2;rw[N.dpL]at hu;rw[fD]at ok;have e:=aJJ (A:=A) (by lia) p1 q1
  rw[bH];by_cases exy:x=y
  . rw[aRS exy]at e;rw[if_pos exy]at ok ⊢;exact .eq e (xX (λz hz=>k z (mcm hz)) (by lia) p2 q2 ok)
  . rw[aPK exy]at e;rw[if_neg exy]at ok ⊢;exact .ne e λprog w' E Q q=>k x mcs y u v p1 q1 ok prog w' E Q q
theorem n_lt(k:N):∀{A:aVV}{E:VSP}{y:N}{u v:aVT}{Q:VSP}{prog:aVX}{w:aVW},A.units+k.dp+1<cLine->IsN s.heap k u->IsN s.heap y v->okN k y=true->Q (.bool (ltN k y)) s->wpAny (model prog w) A (compareOp .Lt u v) Q E s:=by
 induction k using N.ind with
 |hi n =>
  intro A E y u v Q prog w hu h1 h2 ok q;cases y with
  |i m=>rw[IsN]at h1 h2;obtain⟨t,rfl⟩:=h1;obtain⟨t',rfl⟩:=h2;rw[ltN]at q;exact lt_int q
  |s x=>rw[okN]at ok;cases ok
  |t xs=>rw[okN]at ok;cases ok
 |hs x =>
  intro A E y u v Q prog w hu h1 h2 ok q;cases y with
  |s z=>rw[IsN]at h1 h2;obtain⟨⟨t,rfl⟩,_⟩:=h1;obtain⟨⟨t',rfl⟩,_⟩:=h2;rw[ltN]at q;unfold lts at q;rw[ltCps_eq]at q;exact lt_str q
  |i m=>rw[okN]at ok;cases ok
  |t xs=>rw[okN]at ok;cases ok
 |ht xs ih =>
  intro A E y u v Q prog w hu h1 h2 ok q;cases y with
  |i m=>rw[okN]at ok;cases ok
  |s x=>rw[okN]at ok;cases ok
  |t ys=>rw[IsN]at h1 h2;obtain⟨a,o,its,n,rfl,g1,c1,d1,l1⟩:=h1;obtain⟨b,o',its',n',rfl,g2,c2,d2,l2⟩:=h2;rw[ltN]at q;rw[okN]at ok;rw[N.dp]at hu;exact aHA ⟨o,g1,c1,n,d1⟩ ⟨o',g2,c2,n',d2⟩ (xX (A:=A.in1) (λx hx y u v p1 p2 ok prog w' E Q q=>ih x hx (by have:=N.dp_mem hx;show A.units+1+_+1<_;lia) p1 p2 ok q) (by show A.units+1+_<_;lia) l1 l2 ok) (by lia) q
def eI(h:Heap)(vs:List aVT)(ks:List N):Prop:=vs.length=ks.length/\∀i,i<ks.length->IsN h (ks.getD i (.i 0)) (vs.getD i .none)
noncomputable def bK:N->Bool
 |.t (.t _::_)=>true
 |_=>false
structure iS(ks:List N)(p:List Nat):Prop where
 perm:p.Perm (List.range ks.length)
 up:cH (p.map λi=>ks.getD i (.i 0))
def iS.eq{p:List Nat}(h:iS ks p):(p.map λi=>ks.getD i (.i 0))=aV ks:=by refine iR h.up ?_;have:=h.perm.map λi=>ks.getD i (.i 0);rw[oD]at this;exact this
def IsN.kept(k:N):∀{v:aVT},IsN h k v->(∀a o,h.get? a=some o->o.cls=.type "tuple" -> h'.get? a=some o)->IsN h' k v:=by
 induction k using N.ind with
 |hi n=>intro v q _;rw[IsN]at q ⊢;exact q
 |hs x=>intro v q _;rw[IsN]at q ⊢;exact q
 |ht xs ih=>intro v q kp;rw[IsN]at q ⊢;obtain⟨a,o,its,n,e,ha,hc,hd,hi⟩:=q;exact⟨a,o,its,n,e,kp a o ha hc,hc,hd,hi.map λx hx v q=>ih x hx q kp⟩
def rH(ks:List N):Prop:=∀x∈ks,∀y∈ks,okN x y=true
section
variable {A:aVV}{E:VSP}
theorem xY{fin:Bool}{Q:Bool->aVU->Prop}:∀{xs ys:List N}{us vs:List aVT}{i:Nat},A.units+N.dpL xs+1<cLine->aQ s.heap xs us->aQ s.heap ys vs->fD xs ys=true->fin=decide (us.length<vs.length)->Q (bH xs ys) s->KatLex prog w A false fin Q (us.zip vs) i s
 |[],[],us,vs,i,_,h1,h2,_,e,q=>by rw[aQ]at h1 h2;subst h1;subst h2;subst e;rw[bH]at q;exact q
 |[],y::ys,us,vs,i,_,h1,h2,_,e,q=>by rw[aQ]at h1;rw[aQ]at h2;subst h1;obtain⟨v,zs,rfl,_⟩:=h2;subst e;rw[bH]at q;exact q
 |x::xs,[],us,vs,i,_,h1,h2,_,e,q=>by rw[aQ]at h1;rw[aQ]at h2;subst h2;obtain⟨v,zs,rfl,_⟩:=h1;subst e;rw[bH]at q;exact q
 |x::xs,y::ys,us,vs,i,hu,h1,h2,ok,e,q=>by
  rw[aQ]at h1 h2;obtain⟨u,us,rfl,p1,p2⟩:=h1;obtain⟨v,vs,rfl,q1,q2⟩:=h2;rw[N.dpL]at hu;rw[fD]at ok;rw[bH]at q;rw[aS0];refine kat_cons (pY (by lia) p1 q1 (kat_go (λh=>?_) λh=>?_))
  . have exy:=aR9 h;rw[if_pos exy]at ok q;exact kat_yes (xY (by lia) p2 q2 ok (by subst e;simp) q)
  . have exy:=aUY h;rw[if_neg exy]at ok q;exact kat_no (kat_one _ _ (n_lt x (by lia) p1 q1 ok q))
theorem aJK{x y:N}{v:aVT}(hu:A.units+x.dp<cLine)(fx:bK x=true)(fy:bK y=true)(hx:IsN s.heap x u)(hy:IsN s.heap y v)(ok:okN x y=true)(q:Q (ltN x y) s):wpAny (model prog w) A (keyLt' (tuples' false) u v) Q E s:=by
 cases x with
 |i n=>cases fx
 |s z=>cases fx
 |t xs =>
  cases y with
  |i n=>cases fy
  |s z=>cases fy
  |t ys=>rw[IsN]at hx hy;obtain⟨a,o,its,n,rfl,g1,c1,d1,l1⟩:=hx;obtain⟨b,o',its',n',rfl,g2,c2,d2,l2⟩:=hy;rw[okN]at ok;rw[ltN]at q;rw[N.dp]at hu;exact kat_lt g1 d1 g2 d2 (xY (by lia) l1 l2 ok (by simp) q)
theorem xZ:∀{vs:List aVT}{ks:List N},eI s.heap vs ks->(∀k∈ks,bK k=true)->∃fs:List aVT,KatTups s.heap vs fs/\fs.length=ks.length/\∀f∈fs,Looks (model prog w) s.heap (typeOf f) (.type "tuple")
 |[],[],_,_=>⟨[],trivial,rfl,λf hf=>nomatch hf⟩
 |[],_::_,h,_=>by have:=h.1;simp at this
 |_::_,[],h,_=>by have:=h.1;simp at this
 |v::vs,k::ks,h,ft=>by
  have h0:=h.2 0 (by simp)
  have h0:IsN s.heap k v:=by simpa using h0
  have tail:eI s.heap vs ks:=⟨by simpa using h.1,λi hi=>by
   have:=h.2 (i+1) (by simpa using hi)
   simpa using this⟩
  obtain⟨fs,k1,k2,k3⟩:=xZ tail λt ht=>ft t (mcm ht);have fk:=ft k mcs;unfold bK at fk;split at fk
  . rename_i ys zs;rw[IsN]at h0;obtain⟨a,o,its,n,rfl,g1,c1,d1,l1⟩:=h0;rw[aQ]at l1;obtain⟨f,us,e1,p1,_⟩:=l1;rw[IsN]at p1;obtain⟨b,o2,its2,n2,rfl,g2,c2,d2,_⟩:=p1;have f0:its[0]? = some (.ref b):=by
      have:its.toList[0]? = some (.ref b):=by rw[e1];rfl
      simpa using this
    refine⟨.ref b::fs,⟨⟨a,o,its,n,rfl,g1,c1,d1,f0⟩,k1⟩,by simp[k2],λf hf=>?_⟩
    rcases aPY.mp hf with rfl|hf
    . have L:Looks (model prog w) s.heap (typeOf (.ref b)) o2.cls:=(Looks.ld g2).andThen .now;rw[c2]at L;exact L
    . exact k3 f hf
  . cases fk
theorem kindN{Q:SortKind->aVU->Prop}(h:eI s.heap vs ks)(ft:∀k∈ks,bK k=true)(h2:0<ks.length)(q:Q (tuples' false) s):wpAny (model prog w) A (keyKind' vs.toArray) Q E s:=by obtain⟨fs,k1,k2,k3⟩:=xZ (prog:=prog) (w:=w) h ft;exact kat_kind (T:=.type "tuple") k1 (by lia) k3 rfl q
def wkO_N(ks:List N):WkO λi j=>ltN (ks.getD i (.i 0)) (ks.getD j (.i 0)):=⟨λa b=>rF a b,λa=>oJ a⟩
def aJL(pp:PW ks.length p)(pe:p.Perm (List.toArray (List.range ks.length)))(u:Wup (λi j=>ltN (ks.getD i (.i 0)) (ks.getD j (.i 0))) p ks.length):iS ks p.toList:=by
 refine⟨by simpa using aUA.mp pe,?_⟩
 unfold cH;rw[aU0];refine aT0.mpr λi j hi hj hij=>?_;rw[aP7]at hi hj;have:=u i j hij (by rw[<- pp.size];exact hj)
 simpa[Array.getD,hi,hj]using this
theorem eI.kept(q:eI h vs ks)(kp:∀a o,h.get? a=some o->o.cls=.type "tuple" -> h'.get? a=some o):eI h' vs ks:=⟨q.1,λi hi=>IsN.kept _ (q.2 i hi) kp⟩
theorem yA{a:Addr}{P:PySem.Fin->aVU->Prop}(hu:A.units+13<cLine)(ho:s.heap.get? a=some (seqObj "list" vs.toArray n))(hv:eI s.heap vs ks)(d8:∀k∈ks,k.dp<=12)(ok:rH ks)(ft:ks.length<=1\/∀k∈ks,bK k=true)(hb64:ks.length<gC)(h:∀p,iS ks p->P (.done (.ret .none)) {s with heap:=sortedHeap s.heap a vs (p.map λi=>vs.getD i .none).toArray}):wpAny (model prog w) A (Builtin.«list.sort» ⟨[.ref a],[]⟩) P E s:=by
 have h64:ks.length<1000000:=aPP hb64 lX;have lv:=hv.1;have la:a<s.heap.objs.size:=aPO ho;rw[list_sort_plain];refine aQA (listItems_at ho rfl (aQA (listUpdate_at ho rfl ?_ (by rw[aQJ,aQI];lia) (aQP _))))
 obtain⟨e1,ho1⟩:∃c,(s.heap.update a (Obj.mapSeq λ_=>(#[]:Array aVT))).get? a=some (seqObj "list" #[] c):=⟨_,get?_update_seq ho λ_=>#[]⟩;refine aQA (seqEpoch_at ho1 rfl (aQA (wpAny_newTuple (aQA (aU1 (aRE ?_) (aQP _))) (by show vs.length<=_;rw[aQI];lia))))
 have ho2:(((s.heap.update a (Obj.mapSeq λ_=>(#[]:Array Value))).push (seqObj "tuple" vs.toArray 0)).push (seqObj "list" #[] 0)).get? a=some (seqObj "list" #[] e1):=hps (hps ho1);have hv2:eI (((s.heap.update a (Obj.mapSeq λ_=>(#[]:Array Value))).push (seqObj "tuple" vs.toArray 0)).push (seqObj "list" #[] 0)) vs ks:=hv.kept λb o e c=>by
  have hb:b≠a:=λz=>by
   rw[z,ho]at e;cases e;have c:Value.type "list" = .type "tuple" := c;injection c with c
   exact absurd c (by decide)
  exact hps (hps ((Heap.get?_update_ne _ _ _ _ hb).trans e))
 have fin:=h;show wpAny (model prog w) A _ P E { s with heap:=((s.heap.update a (Obj.mapSeq λ_=>(#[]:Array aVT))).push (seqObj "tuple" vs.toArray 0)).push (seqObj "list" #[] 0) }
 dsimp only;by_cases hs:vs.toArray.size<2
 . rw[if_pos hs,if_pos hs];rw[aQJ]at hs;refine aQA (aP9 ?_);rw[StateT.run_pure];refine aQA (aP9 ?_);have w0:iS ks (List.range ks.length):=⟨aUZ _,by
     rw[oD]
     match ks,lv with
     |[],_=>exact List.Pairwise.nil
     |[t],_=>exact aUG _ _
     |_::_::_,lv=>simp at lv;lia⟩
   have ev:((List.range ks.length).map λi=>vs.getD i Value.none).toArray=(arrOf (SortSt.mk' general' (vs.toArray.zip vs.toArray) #[] 7 none)).map (·.2):=by
    rw[<- lv,oD];show vs.toArray=(vs.toArray.zip vs.toArray).map (·.2);apply Array.ext
    . simp
    . intro i h1 h2;simp
   have w1:=fin _ w0;rw[ev]at w1;refine aQA (seqEpoch_at ho2 rfl (aQA (listUpdate_at ho2 rfl ?_ (aQP _) (by rw[<- ev,aQJ,aQ2,aTT,aQI];lia))))
   simp only[aTQ,aR5,aRA];exact aP9 w1
 . rw[if_neg hs,if_neg hs];rw[aQJ]at hs;have ft:∀k∈ks,bK k=true:=ft.resolve_left (by lia)
   refine aQA (kindN (s:={ s with heap:=((s.heap.update a (Obj.mapSeq λ_=>(#[]:Array aVT))).push (seqObj "tuple" vs.toArray 0)).push (seqObj "list" #[] 0) }) hv2 ft (by lia) ?_)
   refine aQA (aP5 (aJI (ks := vs) (vs := vs) (κ := tuples' false) (wkO_N ks) rfl (by lia) (by lia) (fun i j C hi hj q => by
       have hi:i<ks.length:=by lia
       have hj:j<ks.length:=by lia
       have mi:ks.getD i (.i 0)∈ks:=by simp[hi]
       have mj:ks.getD j (.i 0)∈ks:=by simp[hj]
       exact aJK (by have:=d8 _ mi;lia) (ft _ mi) (ft _ mj) (hv2.2 i hi) (hv2.2 j hj) (ok _ mi _ mj) q)
    (Q:=λst' s'=>s'=_/\∃p:Array Nat,PW ks.length p/\p.Perm (List.toArray (List.range ks.length))/\Wup (λi j=>ltN (ks.getD i (.i 0)) (ks.getD j (.i 0))) p ks.length/\arrOf st'=p.map (kas_item (vs.toArray.zip vs.toArray))/\failedOf st'=none)
    λp st' a1 a2 a3 a4 a5=>⟨rfl,p,by rw[<- lv];exact a1,by rw[<- lv];exact a2,by rw[<- lv];exact a3,a4,a5⟩) ?_ λ_ _ e=>e)
   rintro⟨⟨⟩,st'⟩ s' ⟨rfl,p,pp,pe,u,ea,ef⟩;have w1:=fin _ (aJL pp pe u);have ev:=kat_snds (vs:=vs) rfl ea;rw[<- ev]at w1;refine aQA (seqEpoch_at ho2 rfl (aQA (listUpdate_at ho2 rfl ?_ (aQP _) (by rw[ev,aQJ,aQ2,aP7,pp.size,aQI];lia))))
   rw[ef];simp only[aTQ,aR5,aRA];exact aP9 w1
theorem yB{Q:List aVT->aVU->Prop}(hl:IsTup s.heap l vs.toArray)(hz:vs.length<=sizeLine)(h:Q vs { s with heap:=(s.heap.push (seqObj "list" #[] 0)).update s.heap.objs.size (Obj.mapSeq (·++vs.toArray)) }):wpAny (model prog w) A (collect (.ref l)) Q E s:=by
 obtain⟨o,ho,hc,n,hd⟩:=id hl;have g0:=Heap.get?_push_of_some (seqObj "list" #[] 0) ho;have g1:(s.heap.push (seqObj "list" #[] 0)).get? s.heap.objs.size=some (seqObj "list" #[] 0):=aPN _ rfl;unfold collect;refine aQA (wpAny_runValue (aTD entry_proto_collect' ?_));show wpAny _ _ (do let l' <- newList [];again (.builtin "list.__iadd__" ⟨[l',.ref l],[]⟩)) _ _ s
 refine aQA (aU1 (aP9 ⟨Code.quiet_builtin _ (by decide +kernel),aTD entry_list_iadd' ?_⟩))
 show wpAny (model prog w) _ (Builtin.List.listExtendWith (.ref s.heap.objs.size) (.ref l) (.ref s.heap.objs.size)) _ _ _;unfold Builtin.List.listExtendWith;refine aQA (aRI (T := "tuple") (s:={ s with heap:=s.heap.push (seqObj "list" #[] 0) }) ⟨o,g0,hc⟩ ?_)
 rw[if_pos (by rw[show(Value.type "tuple" == Value.type "tuple")=true from rfl,Bool.or_true])]
 refine aQA (listItems_at (s:={ s with heap:=s.heap.push (seqObj "list" #[] 0) }) g0 hd (aQA (listItems_at (xs:=#[]) (n:=0) g1 rfl ?_)))
 rw[if_neg (by simp)]
 refine aQA (listUpdate_at (xs:=#[]) (n:=0) g1 rfl (aP9 ?_) (aQP _) (by show(#[]++vs.toArray).size<=sizeLine+1;simp only[Array.size_append,aQJ,aS1];lia))
 show wpAny (model prog w) A (do match(<- load s.heap.objs.size).data with|.seq xs _=>pure xs.toList|_=>unsupported "internal:collect") Q E _
 refine aQA (aQB (get?_update_seq g1 _) ?_);show wpAny _ A (pure ((#[]:Array aVT)++vs.toArray).toList) Q E _;rw[show((#[]:Array aVT)++vs.toArray).toList=vs by simp]
 exact aP9 h
theorem aJM{Q:VSP}(hu:A.units+64<cLine)(hl:s.heap.IsList l vs.toArray\/IsTup s.heap l vs.toArray)(hv:eI s.heap vs ks)(d8:∀k∈ks,k.dp<=12)(ok:rH ks)(ft:ks.length<=1\/∀k∈ks,bK k=true)(hb64:ks.length<gC)(h:∀p,iS ks p->Q (.ref (s.heap.objs.size+1)) {s with heap:=sortedAll s.heap vs (p.map λi=>vs.getD i .none).toArray}):wpAny (model prog w) A (call (.builtin "sorted") [.ref l]) Q E s:=by
 have h64:ks.length<1000000:=aPP hb64 lX;have lv:=hv.1;refine aU2 kind_sorted plain_sorted entry_sorted (args_sorted1 (.ref l)) ?_;unfold Builtin.«sorted»;have col:∀{R:List aVT->aVU->Prop}{E':VSP},R vs { s with heap:=(s.heap.push (seqObj "list" #[] 0)).update s.heap.objs.size (Obj.mapSeq (·++vs.toArray)) } -> wpAny (model prog w) A.in1 (collect (.ref l)) R E' s:=λ{R E'} r=>by
  rcases hl with hl|hl
  . exact collect_list hl r (by rw[aQI];lia)
  . exact yB hl (by rw[aQI];lia) r
 refine aQA (m:=checkCount "sorted" 1 1 [Value.ref l].length) (aP9 (aQA (col (aQA (aU1 ?_ (by rw[aQI];lia))))))
 have z1:((s.heap.push (seqObj "list" #[] 0)).update s.heap.objs.size (Obj.mapSeq (·++vs.toArray))).objs.size=s.heap.objs.size+1:=(Heap.size_update ..).trans (size_push' ..);have g1:(((s.heap.push (seqObj "list" #[] 0)).update s.heap.objs.size (Obj.mapSeq (·++vs.toArray))).push (seqObj "list" vs.toArray 0)).get? (s.heap.objs.size+1)=some (seqObj "list" vs.toArray 0):=z1 ▸ aPN _ rfl;have hv1:eI (((s.heap.push (seqObj "list" #[] 0)).update s.heap.objs.size (Obj.mapSeq (·++vs.toArray))).push (seqObj "list" vs.toArray 0)) vs ks:=hv.kept λb o e _ =>
  hps ((Heap.get?_update_ne _ _ _ _ (aPR (aPO e))).trans (hps e))
 show wpAny _ _ _ _ _ { s with heap:=((s.heap.push (seqObj "list" #[] 0)).update s.heap.objs.size (Obj.mapSeq (·++vs.toArray))).push (seqObj "list" vs.toArray 0) }
 rw[z1];exact aQA (aRE (aRH slot_list_sort ⟨_,g1,rfl⟩ entry_list_sort (yA (A:=A.in1.in1) (by show A.units+1+1+13<_;lia) (s:={ s with heap:=((s.heap.push (seqObj "list" #[] 0)).update s.heap.objs.size (Obj.mapSeq (·++vs.toArray))).push (seqObj "list" vs.toArray 0) }) g1 hv1 d8 ok ft hb64 λp wp=>⟨_,rfl,aP9 ⟨_,rfl,h p wp⟩⟩) (args_list_sort _)))
end
theorem yC:∀{h:Heap}{ks:List N}{us:List aVT},aQ h ks us->eI h us ks
 |h,[],us,q=>by rw[aQ]at q;subst q;exact⟨rfl,λi hi=>by simp at hi⟩
 |h,k::ks,us,q=>by
  rw[aQ]at q;obtain⟨u,us,rfl,q1,q2⟩:=q;obtain⟨l,r⟩:=yC q2;refine⟨by simp[l],λi hi=>?_⟩
  cases i with
  |zero=>simpa using q1
  |succ i=>have:=r i (by simpa using hi);simpa using this
theorem bN.nth{K:Fg}{F:Hp}:∀{ks:List N}{vs:List V},bN K F ks vs->vs.length=ks.length/\∀i,i<ks.length->NAt K F (ks.getD i (.i 0)) (vs.getD i .non)
 |[],vs,q=>by rw[bN]at q;subst q;exact⟨rfl,λi hi=>by simp at hi⟩
 |k::ks,vs,q=>by
  rw[bN]at q;obtain⟨u,us,rfl,q1,q2⟩:=q;obtain⟨l,r⟩:=bN.nth q2;refine⟨by simp[l],λi hi=>?_⟩
  cases i with
  |zero=>simpa using q1
  |succ i=>have:=r i (by simpa using hi);simpa using this
theorem dF:∀(ks:List N),nDL ks=ks.map nD
 |[]=>by rw[nDL];rfl
 |k::ks=>by rw[nDL,dF ks];rfl
noncomputable def okS(ks:List N):Bool:=ks.all (λk=>decide (k.dp<=12))&&(decide (ks.length<=1)||ks.all bK)&&ks.all (λx=>ks.all λy=>okN x y)&&decide (ks.length<gC)
def iT(l:List Str):Prop:=l.Pairwise λx y=>lts y x=false
def jZ(x:Str):List Str->List Str
 |[]=>[x]
 |y::l=>if lts y x=true then y::jZ x l else x::y::l
def a7(l:List Str):List Str:=l.foldr jZ []
def aJN(h:lts x y=true):lts y x=false:=by
 cases e:lts y x with
 |false=>rfl
 |true=>have:=qR h e;rw[oB]at this;cases this
def aJO{a b c:Str}(h1:lts a b=false)(h2:lts b c=false):lts a c=false:=by
 have:=rF (a:=.s a) (b:=.s b) (c:=.s c) (by rw[ltN];exact h1) (by rw[ltN];exact h2)
 rw[ltN]at this;exact this
theorem rJ(x:Str):∀(l:List Str),(jZ x l).Perm (x::l)
 |[]=>aUZ _
 |y::l=>by
  unfold jZ;split
  . exact((rJ x l).cons y).trans (List.Perm.swap x y l)
  . exact aUZ _
theorem gR:∀(l:List Str),(a7 l).Perm l
 |[]=>aUZ _
 |x::l=>(rJ x (a7 l)).trans ((gR l).cons x)
theorem yD{x:Str}:∀{l:List Str},iT l->iT (jZ x l)
 |[],_=>aUG _ _
 |y::l,h=>by
  unfold jZ;split
  . rename_i e;refine aT7.mpr ⟨λz hz=>?_,yD (aT7.mp h).2⟩;rcases aPY.mp ((rJ x l).mem_iff.mp hz)with rfl|hz
    . exact aJN e
    . exact(aT7.mp h).1 z hz
  . rename_i e;have e:lts y x=false:=by simpa using e
    refine aT7.mpr ⟨λz hz=>?_,h⟩;rcases aPY.mp hz with rfl|hz
    . exact e
    . exact aJO ((aT7.mp h).1 z hz) e
theorem oM:∀(l:List Str),iT (a7 l)
 |[]=>List.Pairwise.nil
 |x::l=>yD (oM l)
theorem yE:∀{l l':List Str},iT l->iT l'->l.Perm l'->l=l'
 |[],l',_,_,p=>p.symm.eq_nil.symm
 |x::l,[],_,_,p=>p.eq_nil
 |x::l,y::l',h,h',p=>by
  have h1:=aT7.mp h;have h2:=aT7.mp h';have exy:x=y:=by
   have a:lts y x=false:=by
    rcases aPY.mp (p.mem_iff.mpr mcs)with e|e
    . rw[e];exact oB _
    . exact h1.1 y e
   have b:lts x y=false:=by
    rcases aPY.mp (p.mem_iff.mp mcs)with e|e
    . rw[e];exact oB _
    . exact h2.1 x e
   exact qS b a
  subst exy;rw[yE h1.2 h2.2 p.cons_inv]
def yF{l l':List Str}(h:iT l')(p:l'.Perm l):l'=a7 l:=yE h (oM l) (p.trans (gR l).symm)
theorem yG:∀{l:List Str},sortedS l=true->iT l
 |[],_=>.nil
 |x::l,h=>by
  refine aT7.mpr ⟨λy hy=>wQ (show risingS x l=true from h) y hy,yG ?_⟩
  cases l with
  |nil=>rfl
  |cons y l=>have h:(!lts y x&&risingS y l)=true:=h;rw[aRJ]at h;exact h.2
section
variable {A:aVV}{E:VSP}
theorem aJP{ns:List Str}{Q:VSP}(hl:s.heap.IsList l vs.toArray\/IsTup s.heap l vs.toArray)(sa:StrsAre vs ns)(h64:vs.length<64)(h:∀(out:Array aVT) ys,StrsAre out.toList ys->ys.Perm ns->sortedS ys=true->Q (.ref (s.heap.objs.size+1)) {s with heap:=sortedAll s.heap vs out}):wpAny (model prog w) A (call (.builtin "sorted") [.ref l]) Q E s:=by
 refine aU2 kind_sorted plain_sorted entry_sorted (args_sorted1 (.ref l)) ?_;unfold Builtin.«sorted»;have col:∀{R:List aVT->aVU->Prop}{E':VSP},R vs { s with heap:=(s.heap.push (seqObj "list" #[] 0)).update s.heap.objs.size (Obj.mapSeq (·++vs.toArray)) } -> wpAny (model prog w) A.in1 (collect (.ref l)) R E' s:=λ{R E'} r=>by
  rcases hl with hl|hl
  . exact collect_list hl r (by rw[aQI];lia)
  . exact yB hl (by rw[aQI];lia) r
 refine aQA (m:=checkCount "sorted" 1 1 [Value.ref l].length) (aP9 (aQA (col (aQA (aU1 ?_ (by rw[aQI];lia))))))
 have z1:((s.heap.push (seqObj "list" #[] 0)).update s.heap.objs.size (Obj.mapSeq (·++vs.toArray))).objs.size=s.heap.objs.size+1:=(Heap.size_update ..).trans (size_push' ..);have g1:(((s.heap.push (seqObj "list" #[] 0)).update s.heap.objs.size (Obj.mapSeq (·++vs.toArray))).push (seqObj "list" vs.toArray 0)).get? (s.heap.objs.size+1)=some (seqObj "list" vs.toArray 0):=z1 ▸ aPN _ rfl;show wpAny _ _ _ _ _ { s with heap:=((s.heap.push (seqObj "list" #[] 0)).update s.heap.objs.size (Obj.mapSeq (·++vs.toArray))).push (seqObj "list" vs.toArray 0) }
 rw[z1];refine aQA (aRE (aRH slot_list_sort ⟨_,g1,rfl⟩ entry_list_sort (list_sort_treeK strKind_oneLt (s:={ s with heap:=((s.heap.push (seqObj "list" #[] 0)).update s.heap.objs.size (Obj.mapSeq (·++vs.toArray))).push (seqObj "list" vs.toArray 0) }) g1 sa.keysOf (λv1 v2 r e=>keyKind_strs (by rw[<- e];exact sa)) h64 λst' p1 p2=>⟨_,rfl,?_⟩) (args_list_sort _)))
 obtain⟨zs,y1,y2,y3⟩:=sorted_out_str sa p1 p2;exact aP9 ⟨_,rfl,h _ zs y1 y2 y3⟩
end
def rSrtN(K:Fg):List V->Hp->VK->Prop:=λxs H Q=>∃(p:Addr) (vs:List V) (ks:List N),xs=[.ref p]/\(SqL K H p vs\/SqT K H p vs)/\bN K H ks vs/\okS ks=true/\∀l q,H l=none->iS ks q->Q (.ref l) (upd H l (.lst (q.map λi=>vs.getD i .non)))
def yH{p:Addr}{vs:List V}(I:L2.Inv X aA σ H s)(h:SqL X.K H p vs\/SqT X.K H p vs):∃its:List aVT,aL vs its/\(s.heap.IsList p its.toArray\/IsTup s.heap p its.toArray):=by
 rcases h with h|h
 . obtain⟨its,rv,pl,_⟩:=I.list h;exact⟨its,rv,.inl pl.isList⟩
 . obtain⟨its,rv,pl,_⟩:=SqT.plain I h;exact⟨its,rv,.inr pl.isTup⟩
theorem aJQ(hu:X.A.units+64<cLine):cT X (.builtin "sorted") (rSrtN X.K):=by
 intro aA s σ H xs us Q I r h;obtain⟨p,vs,ks,rfl,hp,hn,ok,q⟩:=h;obtain⟨u,rfl,rx⟩:=eY r;cases rx;obtain⟨its,rv,pl⟩:=yH I hp;unfold okS at ok;simp only[aRJ,aSA,aR8,aTZ]at ok;obtain⟨⟨⟨d8,ft⟩,ao⟩,h64⟩:=ok;have h65:_<1000000:=aPP h64 lX;have lz:its.length=vs.length:=rv.length.symm;have lv:=hn.nth.1;have ta:eI s.heap its ks:=yC (bN.is (λx _ v u a b=>NAt.is I x v u a b) hn rv);refine aJM hu pl ta d8 ao ft h64 λw wp=>?_;obtain⟨e,he⟩:=sortedAll_at s.heap its (w.map λi=>its.getD i .none).toArray;have wl:w.length=ks.length:=by rw[wp.perm.length_eq,aTT]
 have le:(w.map λi=>vs.getD i V.non).length<=sizeLine:=by rw[aQ2,wl,aQI];lia
 have rv2:aL (w.map λi=>vs.getD i V.non) (w.map λi=>its.getD i Value.none):=xA λi hi=>xB rv (by
  have:=wp.perm.mem_iff.mp hi;rw[aPT]at this;lia)
 exact⟨.ref (s.heap.objs.size+1),_,I.laid (t':=s.toks) (λb o e=>sortedAll_old e) (aSV _) (show bL X.prog X.w _ _ _ (.lst (w.map λi=>vs.getD i V.non))from⟨le,_,e,rv2,he⟩),rfl,q _ w (I.hok.fresh (aSV _)) wp⟩
def rSrtS(K:Fg):List V->Hp->VK->Prop:=λxs H Q=>∃(p:Addr) (ns:List Str),xs=[.ref p]/\(SqL K H p (ns.map V.str)\/SqT K H p (ns.map V.str))/\ns.length<64/\∀l,H l=none->Q (.ref l) (upd H l (.lst ((a7 ns).map V.str)))
theorem aJR:cT X (.builtin "sorted") (rSrtS X.K):=by
 intro aA s σ H xs us Q I r h;obtain⟨p,ns,rfl,hp,hz,q⟩:=h;obtain⟨u,rfl,rx⟩:=eY r;cases rx;obtain⟨its,rv,pl⟩:=yH I hp;have sa:=vU rv;have lz:its.length=ns.length:=sa.length;refine aJP pl sa (by rw[lz];exact hz) λout ys oa py so=>?_
 obtain⟨e,he⟩:=sortedAll_at s.heap its out;have e1:ys=a7 ns:=yF (yG so) py;have le:((a7 ns).map V.str).length<=sizeLine:=by rw[aQ2,<- e1,py.length_eq,aQI];lia
 exact⟨.ref (s.heap.objs.size+1),_,I.laid (t':=s.toks) (λb o e=>sortedAll_old e) (aSV _) (show bL X.prog X.w _ _ _ (.lst ((a7 ns).map V.str))from⟨le,out.toList,e,by rw[<- e1];exact wS oa,by simpa using he⟩),rfl,q _ (I.hok.fresh (aSV _))⟩
def cT.or{f:aVT}{r1 r2:List V->Hp->VK->Prop}(h1:cT X f r1)(h2:cT X f r2):cT X f (λxs H Q=>r1 xs H Q\/r2 xs H Q):=λaA s σ H xs us Q I r h=>by
 rcases h with h|h
 . exact h1 aA s σ H xs us Q I r h
 . exact h2 aA s σ H xs us Q I r h
noncomputable def seqD:D->Option (List D)
 |.lst ds=>some ds
 |.tup ds=>some ds
 |_=>none
def fE:List (Md×D)->Option (Md×D)
 |[(_,d)]=>match seqD d with
  |some ds=>match txD ds with
   |some ns=>if ns.length<64 then some (.fr,.lst ((a7 ns).map .str))else none
   |none=>match eW ds with
    |some ks=>if okS ks=true then some (.fr,.lst (nDL (aV ks)))else none
    |none=>none
  |none=>none
 |_=>none
theorem Rp.seqD{K:Fg}{F:Hp}{m:Md}{d:D}(s:aG F H)(e:D3.seqD d=some ds)(r:Rp K F H m d v):∃a xs,v=.ref a/\(SqL K H a xs\/SqT K H a xs)/\aD K F ds xs:=by
 cases d with
 |lst es=>cases e;obtain⟨a,xs,rfl,q,rl⟩:=r.seqL s;exact⟨a,xs,rfl,.inl q,rl⟩
 |tup es=>cases e;obtain⟨a,xs,rfl,q,rl⟩:=r.seqT s;exact⟨a,xs,rfl,.inr q,rl⟩
 |_=>cases e
def aJS(hu:X.A.units+64<cLine):eD X (.builtin "sorted") fE:=by
 refine⟨_,cT.or aJR (aJQ hu),λF H xs vs k d Q s rx e w=>?_⟩;unfold fE at e;split at e
 . rename_i m d0;obtain⟨v,rfl,r⟩:=rx.one;split at e
   . rename_i ds ed;obtain⟨a,xs,rfl,q,rl⟩:=Rp.seqD s ed r;split at e
     . rename_i ns en;split at e
       . rename_i hc;cases e;obtain⟨rfl,k1⟩:=wU en rl;exact .inl ⟨a,ns,rfl,q,hc,λl hl=>w (.ref l) F _ (aI.fresh _ s hl) ⟨l,rfl,s.free hl,_,bE,wV λx hx=>k1 x ((gR ns).mem_iff.mp hx)⟩ λ_ a ea=>by cases ea;exact hl⟩
       . cases e
     . split at e
       . rename_i ks en;split at e
         . rename_i hc;cases e;have hn:=qY en rl;refine .inr ⟨a,xs,ks,rfl,q,hn.map (λx _ v z=>NAt.mono s x v z),hc,λl p hl wp=>w (.ref l) F _ (aI.fresh _ s hl) ⟨l,rfl,s.free hl,_,bE,?_⟩ λ_ a ea=>by cases ea;exact hl⟩
           rw[<- wp.eq,dF,aU3];refine qV λi hi=>?_;have:=wp.perm.mem_iff.mp hi;rw[aPT]at this;exact rA _ _ (hn.nth.2 i this)
         . cases e
       . cases e
   . cases e
 . cases e
section
variable {A:aVV}{E:VSP}{d:Addr}{o:Obj}{es:Array DictEntry}
def aJT{Q:VSP}(hm:(d==sysModules)=false)(ho:s.heap.get? d=some o)(hc:o.ExactDict)(hd:o.data=.dict es ep)(q:Q (.ref s.heap.objs.size) { s with heap:=s.heap.push { cls:=.type "dict_keyiterator", data:=.fields #[.ref d,.int 0 0,.int es.size 0,.int ep 0] } }):wpAny (model prog w) A (pyIter (.ref d)) Q E s:=by
 have hT:s.TypeIs (.ref d) "dict" := ⟨o,ho,hc.1⟩;refine aTJ hT F.slot_dict_iter (aRH F.slot_dict_iter hT F.entry_dict_iter ?_ (F.args_dict_iter_1 (.ref d)));unfold Builtin.«dict.__iter__» Builtin.Dict.dictSlotNone;refine aQA (aQA (wpAny_notOrdered_dict hT (aP9 ?_)));show wpAny (model prog w) _ (Builtin.Dict.showsAll d>>=_) _ _ s;unfold Builtin.Dict.showsAll;rw[if_neg (λz=>by rw[hm]at z;cases z)]
 refine aQA (aP9 (aQA (aU4 ho hd (aQA (aU5 ho hd ?_)))));refine aQA (aRK (aP9 ⟨.ref s.heap.objs.size,rfl,"dict_keyiterator", _,⟨_,aPN _ rfl,rfl⟩,F.slot_dict_keyiterator_next.lookup,?_⟩));simpa[rawInt]using q
theorem aJU{e:DictEntry}{Q:Option aVT->aVU->Prop}(hit:s.heap.IsKeyIter it d i es.size ep)(ho:s.heap.get? d=some o)(hd:o.data=.dict es ep)(he:es[i]? = some e)(q:∀h',h'.IsKeyIter it d (i+1) es.size ep->Heap.SameBut it s.heap h'->Q (some e.key) {s with heap:=h'}):wpAny (model prog w) A (pyNext (.ref it)) Q E s:=by
 obtain⟨io,hio,hic,hid⟩:=id hit;obtain⟨hlt,rfl⟩:=aPU.mp he;unfold pyNext;refine aQA (aTN (aRF (name:=Str.ofString "__next__") hit.typeIs aU6 (aRH aU6 hit.typeIs aU7 ?_ (aU8 (.ref it)))));refine aQA (aP9 (aQA (aQA ?_)))
 first|refine aQA (aU9 hit.typeIs (aP9 (aQA (aTO hio hid ?_))))|refine aQA (aVA hit.typeIs (aP9 (aQA (aTO hio hid ?_))))
 simp only[show Builtin.Dict_items.ownsTuple "dict_keyiterator" = false by decide,aR5,aRA]
 show wpAny _ _ (if(Value.ref d==Value.none)=true then _ else _) _ _ s;rw[if_neg (λ(z:(Value.ref d==Value.none)=true)=>aQL z)];refine aQA (aP9 (aQA (aU4 ho hd ?_)));rw[if_neg (by simp)]
 refine aQA (aP9 (aQA (aU5 ho hd ?_)));rw[if_neg (by simp)]
 refine aP9 ?_;simp only[show ¬ ((i:Int)<0)from by lia,aRA,aQ9,aTR hlt]
 refine aQA ?_
 first|refine aQA (aU9 hit.typeIs (aP9 (aQA (aVB hit.typeIs ?_))))|refine aQA (aVA hit.typeIs (aP9 (aQA (aVB hit.typeIs ?_))))
 show wpAny _ _ (setField (.ref it) 1 (rawInt ((i:Int)+1))>>=_) _ _ s;refine aQA (aS3 hio hid (by simp) ?_)
 have hit2:(s.heap.update it (Obj.mapFields (·.setIfInBounds 1 (rawInt ((i:Int)+1))))).IsKeyIter it d (i+1) es.size ep :=
  ⟨_,aRL _ hio (aTK (aTL hid _)),(aTM ..).trans hic,by rw[aTL hid];simp[rawInt]⟩
 refine aQA (aRE (aQA (aVB (s:={s with heap:=s.heap.update it (Obj.mapFields (·.setIfInBounds 1 (rawInt ((i:Int)+1))))}) hit2.typeIs ?_)))
 show wpAny _ _ (pure es[i].key) _ _ _;exact aP9 (aP9 ⟨_,rfl,aP9 (q _ hit2 (aS6 ..))⟩)
end
theorem aJV{A:aVV}{E:VSP}{d:Addr}{o:Obj}{es:Array DictEntry}{Q:Option aVT->aVU->Prop}(hh:A.handled=none)(hit:s.heap.IsKeyIter it d i es.size ep)(ho:s.heap.get? d=some o)(hd:o.data=.dict es ep)(hi:es.size<=i)(q:∀h',Heap.ExtBut it s.heap h'->Q none {s with heap:=h'}):wpAny (model prog w) A (pyNext (.ref it)) Q E s:=by
 obtain⟨io,hio,hic,hid⟩:=id hit;unfold pyNext;refine aQA (aTN (aRF (name:=Str.ofString "__next__") hit.typeIs aU6 (aRH aU6 hit.typeIs aU7 ?_ (aU8 (.ref it)))));refine aQA (aP9 (aQA (aQA ?_)))
 first|refine aQA (aU9 hit.typeIs (aP9 (aQA (aTO hio hid ?_))))|refine aQA (aVA hit.typeIs (aP9 (aQA (aTO hio hid ?_))))
 simp only[show Builtin.Dict_items.ownsTuple "dict_keyiterator" = false by decide,aR5,aRA]
 show wpAny _ _ (if(Value.ref d==Value.none)=true then _ else _) _ _ s;rw[if_neg (λ(z:(Value.ref d==Value.none)=true)=>aQL z)];refine aQA (aP9 (aQA (aU4 ho hd ?_)));rw[if_neg (by simp)]
 refine aQA (aP9 (aQA (aU5 ho hd ?_)));rw[if_neg (by simp)]
 refine aP9 ?_;simp only[show ¬ ((i:Int)<0)from by lia,aRA,aQ9,aTS hi]
 refine aQA ?_
 first|refine aQA (aU9 hit.typeIs (aP9 ?_))|refine aQA (aVA hit.typeIs (aP9 ?_))
 show wpAny (model prog w) _ (setField (.ref it) 0 .none>>=_) _ _ s;refine aQA (aS3 hio hid (by simp) ?_)
 show wpAny (model prog w) _ (newExc (.type "StopIteration") []>>=_) _ _ _;refine aQA ?_;simp only[newExc,newTuple];refine aQA (aRK (aQA (m:=firstArgMember _ _) (aTC (a:=Value.none) (by first|rfl|(simp only[firstArgMember];rfl)) (aRK ?_ (by size_fits)))) (by size_fits))
 simp only[raiseNew];refine aQA (wpAny_handled ?_);rw[show A.in1.handled=none from hh]
 refine aQA (aP9 (wpAny_throw ?_));refine aQA (aR3 (b:=true) (T := "StopIteration") ⟨_,aPN _ rfl,rfl⟩ isSubtype_stop ?_);exact aP9 (q _ (((aS6 ..).extBut.push _).push _))
noncomputable def Itn(d:Addr)(o:Obj)(xs:List (N×Addr×V)):It :=
 ⟨λi H=>H d=some (.frz o (.dN xs))/\i<xs.length,λi H x H'=>H'=H/\∃p,xs[i]? = some p/\x=.ref p.2.1,λi H=>H d=some (.frz o (.dN xs))/\xs.length<=i⟩
def KN.nth{xs:List (N×Addr×aVT)}(r:KN kvs xs):xs.length=kvs.length/\∀(i:Nat) (p:N×Addr×V),kvs[i]? = some p->∃u,xs[i]? = some (p.1,p.2.1,u):=by
 induction r with
 |nil=>exact⟨rfl,λi p h=>by simp at h⟩
 | @cons a b as bs h t ih =>
  refine⟨by simp[ih.1],λi p hp=>?_⟩
  cases i with
  |zero =>
   have hp:a=p:=by simpa using hp
   subst hp;refine⟨b.2.2,?_⟩;rw[h.1,h.2.1];rfl
  |succ i=>have:=ih.2 i p (by simpa using hp);simpa using this
def rK{d:Addr}{o:Obj}{xs:List (N×Addr×V)}(ok:HOk P w H h)(hd:H d=some (.frz o (.dN xs))):(d==sysModules)=false/\∃es,h.get? d=some o/\o.ExactDict/\o.data=.dict es (epO o)/\es.size=xs.length/\∀(i:Nat) (p:N×Addr×V),xs[i]? = some p->∃e,es[i]? = some e/\e.key=.ref p.2.1:=by
 obtain⟨g,z,y,vs,r,o',es,ep,h1,h2,h3,h4,h5⟩:=ok d _ hd;rw[g]at h1;cases h1;obtain⟨l,n⟩:=KN.nth r;refine⟨y,es,g,h2,by unfold epO;rw[h3],by rw[<- aP7,h4,aQ2,l],λi p hp=>?_⟩
 obtain⟨u,hu⟩:=n i p hp;refine⟨t8 w (p.1,p.2.1,u),?_,rfl⟩;rw[<- aTX,h4,aQZ,hu];rfl
theorem aJW{K:Fg}(d it:Addr)(o:Obj)(xs:List (N×Addr×V)):jE P w K tg (Itn d o xs) [it] it (λi h=>h.IsKeyIter it d i xs.length (epO o)) where
 mem:=by simp
 obj:=λi h st b hb=>by
  have e:b=it:=by simpa using hb
  subst e;obtain⟨o,e,c,d⟩:=st;exact⟨o,e,λv z=>by rw[d]at z;cases z⟩
 keep:=λi h h' st k=>st.at λo e=>k it (by simp) o e
 item:=by
  intro X hP hw hK hc i aA s σ H E I hf st hg;subst hP hw hK;obtain⟨hd,hi⟩:=hg;obtain⟨ns,es,g,hx,dt,sz,n⟩:=rK I.hok hd;obtain⟨f0,f1,f2,f3,f4,f5⟩:=hf it (by simp)
  obtain⟨e,he,ke⟩:=n i xs[i] (by simp[hi])
  rw[<- sz]at st;refine aJU st g dt he λh' hit' hs'=>?_;have I1:L2.Inv X aA σ H {s with heap:=h'}:=I.turned (t':=s.toks) (λb o hb e=>hs'.extBut b o hb e) f0 f1 f3 f4 f5
  rw[sz]at hit';obtain⟨o1,e1,c1,d1⟩:=id hit';refine⟨e.key,rfl,kP (s:={s with heap:=h'}) e1 c1 d1 (by decide) ⟨.ref xs[i].2.1,H,I1,ke,⟨rfl,xs[i],by simp[hi],rfl⟩,hit',λb hb=>(hf b hb).1⟩⟩
 done:=by
  intro X hP hw hK hc i aA s σ H E I hf st hg;subst hP hw hK;obtain⟨hd,hi⟩:=hg;obtain⟨ns,es,g,hx,dt,sz,n⟩:=rK I.hok hd;obtain⟨f0,f1,f2,f3,f4,f5⟩:=hf it (by simp)
  exact aJV (I.ok.hd hc) (by rw[sz];exact st) g dt (by lia) λh' eb=>⟨rfl,I.turned (t':=s.toks) (λb o hb e=>eb b o hb e) f0 f1 f3 f4 f5⟩
 self:=λ_ _ _ _ _ st h=>wpAny_pyIter_keyiter st h
def iDn(tl:TE):TI:=λσ H R=>tl σ H λx H1=>∃d o xs,x=.ref d/\H1 d=some (.frz o (.dN xs))/\R (Itn d o xs) H1
def pi_dn{l:Expr}(hl:PE X l tl):PI X tg l (iDn tl):=by
 intro aA s σ H R I h;refine thn (hl aA s σ H _ I h) λv s1 ⟨x,H1,I1,r1,q1⟩=>?_;obtain⟨d,o,xs,e,hd,q⟩:=q1;subst e;cases r1;obtain⟨ns,es,g,hx,dt,sz,n⟩:=rK I1.hok hd;refine aJT ns g hx dt ?_;rw[sz];have I2:L2.Inv X aA σ H1 { s1 with heap:=s1.heap.push { cls:=.type "dict_keyiterator", data:=.fields #[.ref d,.int 0 0,.int xs.length 0,.int (epO o) 0] } }:=I1.kept (t':=s1.toks) λb o e=>hps e
 refine⟨s1.heap.objs.size,[s1.heap.objs.size],_,_,_,rfl,I2,aJW d _ o xs,⟨_,aPN _ rfl,rfl,rfl⟩,λb hb=>?_,q⟩;have e:b=s1.heap.objs.size:=by simpa using hb
 subst e;exact I1.fpOk (aQD _) (I1.hok.fresh (aQD _))
theorem aO.nth{K:Fg}{F:Hp}:∀{kvs:List (N×D)}{xs:List (N×Addr×V)},aO K F kvs xs->∀(i:Nat) (p:N×Addr×V),xs[i]? = some p->∃d,kvs[i]? = some (p.1,d)/\NAt K F p.1 (.ref p.2.1)
 |[],xs,h,i,p,e=>by simp only[aO]at h;subst h;simp at e
 |(k,d)::kvs,xs,h,i,p,e=>by
  simp only[aO]at h;obtain⟨b,y,ys,rfl,q,r,t⟩:=h;cases i with
  |zero =>
   have e:(k,b,y)=p:=by simpa using e
   subst e;exact⟨d,rfl,q.1⟩
  |succ i=>have:=t.nth i p (by simpa using e);simpa using this
def aJX{K:Fg}{F:Hp}{a:Addr}{o:Obj}{kvs:List (N×D)}{xs:List (N×Addr×V)}(hf:F a=some (.frz o (.dN xs)))(r:aO K F kvs xs):jM K F (Itn a o xs) (kvs.map λkv=>nD kv.1) where
 go:=λi H s hi=>⟨s _ _ hf,by rw[r.len];simpa using hi⟩
 stop:=λi H s hi=>⟨s _ _ hf,by rw[r.len];simpa using hi⟩
 yld:=λi Fc H x H' s1 s2 hi y=>by obtain⟨rfl,p,hp,rfl⟩:=y;obtain⟨d,hd,hn⟩:=r.nth i p hp;exact⟨Fc,nD p.1,by rw[aQZ,hd];rfl,.refl s2,rA _ _ (NAt.mono s1 _ _ hn)⟩
def lZ(r:Res):Res:=r.thn λ_ d=>match d with
 |.dtf kvs=>.ok .fz (.lst (kvs.map λkv=>nD kv.1))
 |_=>.stuck
def aJY(h:PV C X e g):PIv C X tg e (λρ=>lZ (g ρ)):=by
 refine PI.imp (pi_dn h) λσ H R q=>?_;obtain⟨ρ,F,RS,w⟩:=q;dsimp only at w;unfold iDn;rw[aX];refine⟨ρ,F,RS,?_⟩;unfold lZ at w;cases er:g ρ with
 |stuck=>rw[er]at w;exact w.elim
 |exc c=>rw[er]at w;exact w
 |ok m d =>
  rw[er,Res.thn_ok]at w;intro v F' H' st rp _;cases d with
  |dtf kvs =>
   cases m with
   |fz=>have rp:aC X.K F' (.dtf kvs) v:=rp;simp only[aC]at rp;obtain⟨a,o,xs,rfl,hf,r⟩:=rp;exact⟨a,o,xs,rfl,st.sub _ _ hf,w _ F' H' st (aJX hf r)⟩
   |fr=>obtain⟨a,_,_,q⟩:=rp;exact q.elim
   |bo=>obtain⟨a,_,_,q⟩:=rp;exact q.elim
  |_=>exact w.elim
noncomputable def j0(ρ:Rho)(i:Nat):aH:=match ρ[i]? with
 |some (some (true,.dtn kvs))=>.nx (ρ.set i (some (false,.dtf kvs)))
 |_=>.stuck
def aS.nfrz{K:Fg}{F:Hp}{kvs:List (N×D)}{a:Addr}{xs:List (N×Addr×V)}(o:Obj)(R:aS K F0 H0 F H σ ρ)(e:ρ[i]? = some (some (true,.dtn kvs)))(ev:σ[i]? = some (some (.ref a)))(hF:F a=none)(hH:H a=some (.dN xs))(h0:H0 a=none)(r:aO K F kvs xs):aG F (upd F a (.frz o (.dN xs)))/\aS K F0 H0 (upd F a (.frz o (.dN xs))) (upd H a (.frz o (.dN xs))) σ (ρ.set i (some (false,.dtf kvs))):=by
 have sm:aG F (upd F a (.frz o (.dN xs))):=λb u q=>by rw[aP (b0 q hF)];exact q
 have hi:i<ρ.length:=(aP1.mp e).1;have own:∀{j:Nat}{d1:D},(ρ.set i (some (false,.dtf kvs)))[j]? = some (some (true,d1))->j≠i/\ρ[j]? = some (some (true,d1)):=λ{j d1} z=>by
  by_cases hj:j=i
  . subst hj;rw[aP2 hi]at z;cases z
  . rw[aP3 (λy=>hj y.symm)]at z;exact⟨hj,z⟩
 refine⟨sm,⟨λb u q=>?_,λb u q=>?_,λb u q=>?_,λb q1 q2=>?_⟩,λj m d' ej=>?_,λj k d1 d2 b hjk e1 e2 q1 q2=>R.apart j k d1 d2 b hjk (own e1).2 (own e2).2 q1 q2,by rw[aRN];exact R.len⟩
 . rw[aP (b0 q h0)];exact R.st.same b u q
 . rw[aP (b0 (R.st.fsame b u q) hF)];exact R.st.fsame b u q
 . by_cases hb:b=a
   . subst hb;rw[bE]at q ⊢;exact q
   . rw[aP hb]at q ⊢;exact R.sub b u q
 . have:b≠a:=λz=>q2 (by rw[z];exact h0)
   rw[aP this];exact R.st.new b q1 q2
 . by_cases hj:j=i
   . subst hj;rw[aP2 hi]at ej;cases ej;refine⟨.ref a,ev,?_,by nofun⟩
     show aC K _ (.dtf kvs) _;simp only[aC];exact⟨a,o,xs,rfl,bE,r.mono sm _ _⟩
   . rw[aP3 (λz=>hj z.symm)]at ej;obtain⟨v',ev',rp',hn'⟩:=R.slot j m d' ej;refine⟨v',ev',?_,hn'⟩;cases m with
     |false=>exact aC.mono sm _ _ rp'
     |true =>
      obtain⟨b,rfl,nb,t'⟩:=rp';have ab:b≠a:=λz=>by subst z;exact R.apart j i d' _ b hj ej e ev' ev
      refine⟨b,rfl,by rw[aP ab];exact nb,?_⟩
      cases d' with
      |lst ds=>obtain⟨ys,q,rr⟩:=t';exact⟨ys,by rw[aP ab];exact q,rr.mono sm _ _⟩
      |dct ds=>obtain⟨ys,q,rr⟩:=t';exact⟨ys,by rw[aP ab];exact q,rr.mono sm _ _⟩
      |ins c fs=>obtain⟨C,dx,gs,n,q,rr⟩:=t';exact⟨C,dx,gs,n,by rw[aP ab];exact q,rr.mono sm _ _⟩
      |set ks=>obtain⟨S,q,rr⟩:=t';exact⟨S,by rw[aP ab];exact q,rr⟩
      |dtn ds=>obtain⟨ys,q,rr⟩:=t';exact⟨ys,by rw[aP ab];exact q,rr.mono sm _ _⟩
      |_=>exact t'.elim
def aJZ{g:Rho->aH}(h:PBv C X sts g):PBv C X sts (λρ=>(j0 ρ i).thn g):=by
 intro aA s σ H E I q;obtain⟨ρ,F,R,w⟩:=q;dsimp only at w;unfold j0 at w;split at w
 . rename_i kvs e;obtain⟨v,ev,rp,hn⟩:=R.slot i true _ e;obtain⟨a,rfl,hF,xs,hH,r⟩:=rp;have ok:=I.hok a _ hH;obtain⟨_,_,_,_,o,_,_,g1,_⟩:=id ok;have I2:=I.write (x:=a) (e:=a) (o:=.frz o (.dN xs)) (t':=s.toks) (h':=s.heap) (by rw[hH];exact trivial) (.inl rfl) (λ_ _ _ q=>q) ⟨_,g1⟩ ⟨g1,ok.stay (λ_ _ _ q=>q) (λc q=>by rw[aP (λz=>by rw[z,hH]at q;cases q)];exact q) λc ys q=>by rw[aP (λz=>by rw[z,hH]at q;cases ys <;> cases q)];exact q⟩
   obtain⟨sm,R2⟩:=aS.nfrz o R e ev hF hH (hn rfl a rfl) r;exact h aA s σ _ E I2 ⟨_,_,R2,cE.mono sm w⟩
 . exact w.elim
theorem adv7{t:SetTable}(hm:t.mask=7){p:SetTable.Probe}(h0:p.more=0):t.advance p={p with j:=(p.i * 5+1+p.perturb / 32) % 8,more:=0,i:=(p.i * 5+1+p.perturb / 32) % 8,perturb:=p.perturb / 32}:=by
 unfold SetTable.advance SetTable.leap SetTable.runEnd;rw[h0,hm];simp only[aPQ,gt_iff_lt,aRA];have:¬ (p.i * 5+1+p.perturb / 32) % (7+1)+9<=7:=by lia
 rw[if_neg this,Nat.sub_self]
section
variable {A:aVV}{E:VSP}
def n_hbv(k:N):∀{n:Nat}{v:aVT}{Q:Bool->aVU->Prop},IsN s.heap k v->(∀b,Q b s)->wpAny (model prog w) A (hashByValue n v) Q E s:=by
 induction k using N.ind with
 |hi m=>intro n v Q hk h;rw[IsN]at hk;obtain⟨t,rfl⟩:=hk;cases n <;> exact aP9 (h _)
 |hs x=>intro n v Q hk h;rw[IsN]at hk;obtain⟨⟨t,rfl⟩,_⟩:=hk;cases n <;> exact aP9 (h _)
 |ht xs ih =>
  intro n v Q hk h;rw[IsN]at hk;obtain⟨a,o,items,c,rfl,ho,hc,hd,hi⟩:=hk;cases n with
  |zero=>exact aP9 (h _)
  |succ n =>
   have hT:s.TypeIs (.ref a) "tuple" := ⟨o,ho,hc⟩;unfold hashByValue;refine aQA (aRX hT F.slot_tuple_hash.lookup ?_);dsimp only;unfold seqItems?;refine aQA (aQA (aQB ho ?_));rw[hd];refine aP9 ?_;refine aQA ?_;show wpAny _ _ (forIn items _ _) _ _ s;rw[<- aRY];refine aRZ _ (λrest r s'=>s'=s/\∀v∈rest,∃x∈xs,IsN s.heap x v) _ ?_ ?_ _ _ ⟨rfl,hi.mem⟩
   . rintro v rest r s' ⟨rfl,hall⟩;obtain⟨x,hx,hv⟩:=hall v mcs;refine aQA (ih x hx (n:=n) hv λb=>?_);cases b with
     |true=>exact aP9 ⟨rfl,λu hu=>hall u (mcm hu)⟩
     |false=>exact aP9 (by first|exact⟨rfl,λu hu=>hall u (mcm hu)⟩|exact aP9 (h _))
   . rintro⟨r1,r2⟩ s' ⟨rfl,_⟩;cases r1 with
     |none=>exact aP9 (h _)
     |some b=>exact aP9 (h _)
theorem yI(k:N):∀{n:Nat}{v:aVT}{Q:Bool->aVU->Prop},k.dp<=n->IsN s.heap k v->Q false s->wpAny (model prog w) A (ofAClassStatement n v) Q E s:=by
 induction k using N.ind with
 |hi m=>intro n v Q hn hk h;rw[IsN]at hk;obtain⟨t,rfl⟩:=hk;cases n <;> exact aP9 h
 |hs x=>intro n v Q hn hk h;rw[IsN]at hk;obtain⟨⟨t,rfl⟩,_⟩:=hk;cases n <;> exact aP9 h
 |ht xs ih =>
  intro n v Q hn hk h;rw[IsN]at hk;obtain⟨a,o,items,c,rfl,ho,hc,hd,hi⟩:=hk;rw[N.dp]at hn;cases n with
  |zero=>lia
  |succ n =>
   have hT:s.TypeIs (.ref a) "tuple" := ⟨o,ho,hc⟩;unfold ofAClassStatement;refine aQA (aRI hT ?_);dsimp only;rw[if_pos (by decide)]
   refine aQA (aP9 ?_);simp only[aR4,aR5,aRA];unfold seqItems?;refine aQA (aQA (aQB ho ?_));rw[hd];refine aP9 ?_;dsimp only;refine aQA ?_;rw[<- aRY];refine aRZ _ (λrest r s'=>r.1=none/\s'=s/\∀v∈rest,∃x∈xs,IsN s.heap x v) _ ?_ ?_ _ _ ⟨rfl,rfl,hi.mem⟩
   . rintro v rest r s' ⟨hr,rfl,hall⟩;obtain⟨x,hx,hv⟩:=hall v mcs;refine aQA (ih x hx (n:=n) (by have:=N.dp_mem hx;lia) hv ?_)
     simp only[aR5,aRA];exact aP9 ⟨rfl,rfl,λu hu'=>hall u (mcm hu')⟩
   . rintro⟨r1,r2⟩ s' ⟨hr,rfl,_⟩;simp only at hr;subst hr;exact aP9 h
end
noncomputable def j2(w:aVW)(p:N×Addr):Int×aVT:=(aN w p.1,.ref p.2)
def dW(h:Heap)(p:N×Addr):Prop:=IsN h p.1 (.ref p.2)/\p.1.dp<=8
def cR(w:aVW)(h:Heap)(a:Addr)(ps:List (N×Addr)):Prop:=∃o es ep t,h.get? a=some o/\o.ExactSet/\o.data=.set es ep t/\es.toList=ps.map (j2 w)/\ps.length<=4/\t.fits es.size=true/\t.led = !eU w/\PlOk t
section
variable {A:aVV}{E:VSP}{a c:Addr}{x y:N}
def yJ{o:Obj}{es es':Array (Int×aVT)}{t t':SetTable}(ho:h.get? a=some o)(hd:o.data=.set es ep t):(h.update a (Obj.putSet es' t')).get? a=some {o with data:=.set es' (ep+1) t'}:=by obtain⟨oc,od,odata,os⟩:=o;dsimp only at hd;subst hd;exact aRL (Obj.putSet es' t') ho rfl
def cR.kept{ps:List (N×Addr)}(X:cR w h a ps)(k:∀o,h.get? a=some o->h'.get? a=some o):cR w h' a ps:=by obtain⟨o,es,ep,t,ho,r⟩:=X;exact⟨o,es,ep,t,k o ho,r⟩
end
theorem l6{α β:Type}{f:α->β}:∀{l:List β}{ps:List α},l.Perm (ps.map f)->∃qs:List α,qs.Perm ps/\l=qs.map f
 |[],ps,h=>by
  have:=h.symm.eq_nil;have e:ps=[]:=by simpa using this
  subst e;exact⟨[],.refl _,rfl⟩
 |x::l,ps,h=>by obtain⟨p,hp,rfl⟩:=aVC.mp (h.mem_iff.mp mcs);obtain⟨s,t,rfl⟩:=List.append_of_mem hp;have pm:(s++p::t).Perm (p::(s++t)):=List.perm_middle;obtain⟨qs,q1,q2⟩:=l6 ((h.trans (pm.map f)).cons_inv);exact⟨p::qs,(q1.cons p).trans pm.symm,by rw[q2];rfl⟩
theorem dW.kept{p:N×Addr}(k:dW h p)(kp:∀a o,h.get? a=some o->o.cls=.type "tuple" -> h'.get? a=some o):dW h' p:=⟨IsN.kept _ k.1 kp,k.2⟩
def cR.there{a:Addr}{ps:List (N×Addr)}(x:cR w h a ps):a<h.objs.size:=by obtain⟨o,es,ep,t,ho,r⟩:=x;exact aPO ho
def cR.ty{a:Addr}{ps:List (N×Addr)}(x:cR w s.heap a ps):s.TypeIs (.ref a) "set" := by obtain⟨o,es,ep,t,ho,hex,r⟩:=x;exact⟨o,ho,hex.1⟩
section
variable {A:aVV}{E:VSP}{k1 k2:N}{b1 b2:Addr}
end
def rL{l:List (Int×aVT)}{ps:List (N×Addr)}(e:l=ps.map (j2 w)):l.map (·.2)=ps.map λp=>Value.ref p.2:=by rw[e,aU3];rfl
section
variable {A:aVV}{E:VSP}
variable  {a:Addr}{o:Obj}{es:Array (Int×aVT)}{t:SetTable}
theorem aJ0{xs:List (N×Addr)}{Q:VSP}(hh:A.handled=none)(X:cR w s.heap a xs)(q:∀(I:Addr) (h':Heap) d (fp:List Addr) (items:List aVT) (ys:List (N×Addr)) (St:Nat->Heap->Prop),Walks prog w A I fp [I] items.length (λi v=>items[i]? = some v) St->St 0 h'->items=List.map (λp:N×Addr=>Value.ref p.2) ys->ys.Perm xs->(∀b o,s.heap.get? b=some o->h'.get? b=some o)->s.heap.objs.size<=I->(∀b∈fp,b=a\/s.heap.objs.size<=b)->Q (.ref I) {s with heap:=h',drawn:=d}):wpAny (model prog w) A (pyIter (.ref a)) Q E s:=by
 obtain⟨o,es,ep,t,ho,hex,hd,he,hb,hf,hl,hp⟩:=id X;have la:=X.there;have hz:es.size=xs.length:=by rw[<- aP7,he,aQ2]
 refine aTJ X.ty PySem.F.slot_set_iter (aRH PySem.F.slot_set_iter X.ty aHY ?_ (PySem.F.args_set_iter_1 _));unfold Builtin.«frozenset.__iter__»;refine aQA (m:=Builtin.Frozenset.slot0 _ _) (aP9 (aQA ?_));unfold Builtin.Frozenset.sizeOf;refine aQA (aTP ho hd hf (aP9 (aQA ?_)));unfold setDrawn;refine aQA (aS7 ho hd hf (aQA (hO (aP9 ?_))));dsimp only;have sz:es.size<=sizeLine:=by rw[hz,aQI];lia
 split
 . rename_i hc;refine aQA (wP (by simp) λd l' pl=>aQA (wpAny_newTuple ?_ (by rw[aQ2,pl.length_eq,aTT];exact sz)))
   have ho1:=Heap.get?_push_of_some (seqObj "tuple" (l'.map λ(i:Nat)=>rawInt i).toArray 0) ho;refine aQA (wpAny_setEpoch_of (s:={ s with heap:=s.heap.push (seqObj "tuple" (l'.map λ(i:Nat)=>rawInt i).toArray 0),drawn:=d }) ho1 hd hf (aQA (aRK (aP9 ⟨_,rfl,"set_iterator", _,⟨_,aPN _ rfl,rfl⟩,fW.lookup,?_⟩))))
   have ls:(s.heap.push (seqObj "tuple" (l'.map λ(i:Nat)=>rawInt i).toArray 0)).objs.size=s.heap.objs.size+1:=size_push' _ _;have pe:(l'.map λp=>es.getD p (0,.none)).Perm es.toList:=by
    refine(pl.map _).trans (.of_eq ?_);apply List.ext_getElem
    . simp
    . intro k k1 k2;simp at k1 ⊢;rw[aTR k1];rfl
   obtain⟨ys,py,ey⟩:=l6 (he ▸ pe);have W:=aH6 (prog:=prog) (w:=w) (A:=A) (I:=(s.heap.push (seqObj "tuple" (l'.map λ(i:Nat)=>rawInt i).toArray 0)).objs.size) (tp:=s.heap.objs.size) hh (by rw[ls];exact aPR (aSR la)) (by rw[ls];exact aPR (aQO _)) hd hf rfl pl
   refine q _ _ d _ ((l'.map λp=>es.getD p (0,.none)).map (·.2)) ys _ (qQ W (by simp[pl.length_eq]) λi v hv=>?_) ⟨⟨_,aPN _ rfl,rfl,rfl⟩,hps ho1,⟨_,hps (aPN _ rfl),rfl,_,rfl⟩⟩ (rL ey) py
    (λb o' e=>hps (hps e)) (by rw[ls];exact aSV _) λb hb=>?_
   . obtain⟨p,hx,e1,e2⟩:=hv;rw[aQZ,aQZ,e1];simp[aT1,e2]
   . simp only[aPY,aVD,aS2]at hb;rcases hb with rfl|rfl|rfl
     . right;rw[ls];exact aSV _
     . left;rfl
     . right;exact aQD _
 . rename_i hc;refine aQA (aP9 (aQA (wpAny_setEpoch_of ho hd hf (aQA (aRK (aP9 ⟨_,rfl,"set_iterator", _,⟨_,aPN _ rfl,rfl⟩,fW.lookup,?_⟩))))));have fpx:∀b∈[s.heap.objs.size,a],b=a\/s.heap.objs.size<=b:=λb hb=>by
     simp only[aPY,aVD,aS2]at hb;rcases hb with rfl|rfl
     . right;exact aQD _
     . left;rfl
   cases bt:eU w with
   |true =>
    obtain⟨ys,py,ey⟩:=l6 (he ▸ n8 (next:=w.params.setOrder a ep) (xs:=es));have W:=aH5 (prog:=prog) (w:=w) (A:=A) (I:=s.heap.objs.size) hh (aPR la) hd hf bt;refine q _ _ s.drawn _ ((pickOrder (w.params.setOrder a ep) es).toList.map (·.2)) ys _ (qQ W (by rw[aQ2,n8.length_eq,aP7]) λi v hv=>?_) ⟨⟨_,aPN _ rfl,rfl,rfl⟩,hps ho⟩ (rL ey) py (λb o' e=>hps e) (aQD _) fpx
    rw[<- hv];simp
   |false =>
    have hc':(!t.plain&&decide (es.size > 1))=false:=by have hc:¬ (!eU w&&(!t.plain&&decide (es.size > 1)))=true:=hc;rw[bt]at hc;simpa using hc
    have hzp:t.place.size=es.size:=by unfold SetTable.fits at hf;rw[aRJ,aQM]at hf;exact hf.1
    have hr:cQ t.place:=by
     rcases hp with hp|hp
     . rw[hp]at hc';have h1:t.place.toList.length<=1:=by rw[aP7,hzp];simpa using hc'
       show t.place.toList.Pairwise _;generalize t.place.toList=l at h1
       match l,h1 with
       |[],_=>exact .nil
       |[x],_=>exact aUG _ _
     . exact hp.2
    have W:=aIQ (prog:=prog) (w:=w) (A:=A) (I:=s.heap.objs.size) hh (aPR la) hd hf bt (by rw[hl,bt];rfl) hr hc'
    refine q _ _ s.drawn _ (es.toList.map (·.2)) xs _ (qQ W (by simp) λi v hv=>?_) ⟨⟨_,aPN _ rfl,rfl,rfl⟩,hps ho⟩ (rL he) (.refl _) (λb o' e=>hps e) (aQD _) fpx
    rw[<- hv];simp
end
section
variable {A:aVV}{E:VSP}{a:Addr}{xs:List (N×Addr)}
theorem ext_n{R:Result->aVU->Prop}(hh:A.handled=none)(X:cR w s.heap a xs)(S:Addr)(hSa:S≠a)(res:aVT)(hS:s.heap.get? S=some { cls:=.type "list", data:=.seq #[] })(hR:∀h' d tk vs ys c,(∀b o,b≠S->s.heap.get? b=some o->h'.get? b=some o)->h'.get? S=some { cls:=.type "list", dict:=none,data:=.seq vs c,slots:=#[] } -> vs.toList=List.map (λp:N×Addr=>Value.ref p.2) ys->ys.Perm xs->R (.ok (.ret res)) {s with heap:=h',drawn:=d,toks:=tk}):wpAny (model prog w) A.in1 (Builtin.List.listExtendWith (.ref S) (.ref a) res) (λfin s'=>match fin with|.done f=>R (.ok f) s'|.again c'=>c'.quiet=true/\codeAny (model prog w) A c' R s') (λe s'=>R (.error e) s') s:=by
 have hb:xs.length<=sizeLine:=by obtain⟨o,es,ep,t,ho,hex,hd,he,hb,r⟩:=X;rw[aQI];lia
 unfold Builtin.List.listExtendWith;refine aQA (aRI X.ty ?_);have n1:Builtin.List.listSameRef (.ref S) (.ref a)=false:=by simp[Builtin.List.listSameRef,hSa]
 have n2:(Value.type "set" == Value.type "list")=false:=by decide
 have n3:(Value.type "set" == Value.type "tuple")=false:=by decide
 simp only[n1,n2,n3,Bool.or_false,aR5,↓reduceIte];refine aQA (aJ0 (A:=A.in1) hh X λI h1 d fp items ys St W st sa py kp hI hfp=>?_);have lS:S<s.heap.objs.size:=aPO hS;have hSf:S∉fp:=λhm=>(hfp S hm).elim hSa λh=>absurd lS (aSS.mpr h);have hSI:S≠I:=λe=>absurd lS (aSS.mpr (e ▸ hI));have hil:items.length<=sizeLine:=by rw[sa,aQ2,py.length_eq];exact hb
 have hS1 := kp S _ hS; have key : ∀ (h : Heap) (c : Nat), St 0 h → (∀ b o, b ≠ S → s.heap.get? b = some o → h.get? b = some o) → h.get? S = some { cls := .type "list", data := .seq #[] c } →
     codeAny (model prog w) A (.builtin "list.extend.loop" ⟨[.ref S,.ref I,res],[]⟩) R {s with heap:=h,drawn:=d}:=by
  intro h c st' k' hS';refine codeAny_extend_loopS W.toS hil S hSf res items.length 0 _ #[] c rfl (aQP _) st' hS' (ItemsOf.nil _) λs' acc c' hm hS2 hacc=>?_;rw[Moved.eq_with hm];refine hR s'.heap d s'.toks acc ys c' (λb o nb e=>hm.heap b o (λhx=>?_) (k' b o nb e)) hS2 (by rw[aH8 hacc];exact sa) py
  rcases aPY.mp hx with e'|hx
  . exact nb e'
  . exact absurd (aPO e) (by rw[aSZ.mp hx];exact aSS.mpr hI)
 refine aQA (aRE (aH7 (s:={s with heap:=h1,drawn:=d}) (cR.ty (s:={s with heap:=h1,drawn:=d}) (X.kept λo e=>kp a o e)) ?_))
 refine aTW (λ_=>?_) (λ_=>aP9 ⟨aTB PySem.F.plain_extend_loop _,key h1 0 st (λb o _ e=>kp b o e) hS1⟩);refine aQA (aR1 (aQA ?_));show wpAny _ _ (updateSeq S (·.push Value.none)>>=λ_=>updateSeq S (·.pop)) _ _ {s with heap:=h1,drawn:=d}
 refine aQA (wpAny_updateSeq (s:={s with heap:=h1,drawn:=d}) hS1 rfl ?_)
 have hS2:=aRL (Obj.mapSeq (·.push Value.none)) hS1 rfl;refine wpAny_updateSeq (hz:=by seq_fits) hS2 rfl ?_
 have hS3:=aRL (Obj.mapSeq (·.pop)) hS2 rfl;have oth:∀b,b≠S->∀o,h1.get? b=some o->((h1.update S (Obj.mapSeq (·.push Value.none))).update S (Obj.mapSeq (·.pop))).get? b=some o:=λb nb o e =>
  (aRM _ _ (Ne.symm nb)).trans ((aRM _ _ (Ne.symm nb)).trans e)
 exact aP9 ⟨aTB PySem.F.plain_extend_loop _,key _ _ (W.frame 0 _ _ st λb hb o e=>oth b (λh=>hSf (h ▸ hb)) o e) (λb o nb e=>oth b nb o (kp b o e)) hS3⟩
def aJ1{R:List aVT->aVU->Prop}(hh:A.handled=none)(X:cR w s.heap a xs)(h:∀h' d tk vs ys,(∀b o,s.heap.get? b=some o->h'.get? b=some o)->s.heap.objs.size<h'.objs.size->vs=List.map (λp:N×Addr=>Value.ref p.2) ys->ys.Perm xs->R vs {s with heap:=h',drawn:=d,toks:=tk}):wpAny (model prog w) A (collect (.ref a)) R E s:=by
 have la:=X.there;unfold collect;refine aQA (wpAny_runValue (aTD PySem.F.entry_proto_collect ?_));rw[aTE PySem.F.plain_proto_collect _];show wpAny (model prog w) A.in1 (newList []>>=λl=>again (.builtin "list.__iadd__" ⟨[l,.ref a],[]⟩)) _ _ s;refine aQA (aRK (aP9 ⟨aTB PySem.F.plain_list_iadd _,aTD PySem.F.entry_list_iadd ?_⟩));rw[aTE PySem.F.plain_list_iadd _];have g0:(s.heap.push { cls:=.type "list", data:=.seq ([]:List Value).toArray }).get? s.heap.objs.size=some { cls:=.type "list", data:=.seq #[] }:=aPN _ rfl;show wpAny (model prog w) A.in1 (Builtin.List.listExtendWith (.ref s.heap.objs.size) (.ref a) (.ref s.heap.objs.size)) _ _ _;have key:=ext_n (A:=A) (prog:=prog) (s:={ s with heap:=s.heap.push { cls:=.type "list", data:=.seq ([]:List Value).toArray } })
  (R:=λq s'=>∃h' d tk vs ys c,q=.ok (.ret (.ref s.heap.objs.size))/\s'={s with heap:=h',drawn:=d,toks:=tk}/\(∀b o,s.heap.get? b=some o->h'.get? b=some o)/\h'.get? s.heap.objs.size=some { cls:=.type "list", dict:=none,data:=.seq vs c,slots:=#[] }/\vs.toList=List.map (λp:N×Addr=>Value.ref p.2) ys/\ys.Perm xs)
  hh (X.kept λo e=>hps e) s.heap.objs.size (Nat.ne_of_gt la) (.ref s.heap.objs.size) g0
  λh' d tk vs ys c kp gS sa py=>⟨h',d,tk,vs,ys,c,rfl,rfl,λb o e=>kp b o (aPR (aPO e)) (hps e),gS,sa,py⟩
 refine aP5 key (λf s' x=>?_) λe s' x=>?_
 . cases f with
   |done f=>obtain⟨h',d,tk,vs,ys,c,e,rfl,kp,gS,sa,py⟩:=x;cases e;show wpAny _ A (load s.heap.objs.size>>=_) _ _ _;exact aQA (aQB gS (aP9 (h h' d tk vs.toList ys kp (aPO gS) sa py)))
   |again c1=>refine⟨x.1,aRT x.2 λq s2 y=>?_⟩;obtain⟨h',d,tk,vs,ys,c,rfl,rfl,kp,gS,sa,py⟩:=y;show wpAny _ A (load s.heap.objs.size>>=_) _ _ _;exact aQA (aQB gS (aP9 (h h' d tk vs.toList ys kp (aPO gS) sa py)))
 . obtain⟨_,_,_,_,_,_,e',_⟩:=x;cases e'
end
open PySem.W
theorem yK{h:Heap}:∀{ys:List (N×Addr)},(∀p∈ys,dW h p)->eI h (ys.map λp=>Value.ref p.2) (ys.map (·.1))
 |[],_=>⟨rfl,λi hi=>by simp at hi⟩
 |p::ys,k=>by
  obtain⟨l,r⟩:=yK (ys:=ys) λq hq=>k q (mcm hq);refine⟨by simp,λi hi=>?_⟩
  cases i with
  |zero=>exact(k p mcs).1
  |succ i=>have:=r i (by simpa using hi);simpa using this
def OkP(ps:List (N×Addr)):Prop:=rH (ps.map (·.1))/\(ps.length<=1\/∀p∈ps,bK p.1=true)/\ps.length<gC
def OkP.perm{ps qs:List (N×Addr)}(h:OkP ps)(p:qs.Perm ps):OkP qs:=by have pm:=p.map (·.1);exact⟨λx hx y hy=>h.1 x (pm.mem_iff.mp hx) y (pm.mem_iff.mp hy),h.2.1.imp (λz=>by rw[p.length_eq];exact z) λz q hq=>z q (p.mem_iff.mp hq),by rw[p.length_eq];exact h.2.2⟩
section
variable {A:aVV}{E:VSP}{a:Addr}{xs:List (N×Addr)}
theorem aJ2{Q:VSP}(hu:A.units+64<cLine)(hh:A.handled=none)(X:cR w s.heap a xs)(kx:∀p∈xs,dW s.heap p)(ok:OkP xs)(h:∀h' d tk D e (zs:List (N×Addr)),(∀b o,s.heap.get? b=some o->h'.get? b=some o)->s.heap.objs.size<=D->h'.get? D=some (seqObj "list" (zs.map λp=>Value.ref p.2).toArray e)->zs.Perm xs->cH (zs.map (·.1))->Q (.ref D) {s with heap:=h',drawn:=d,toks:=tk}):wpAny (model prog w) A (call (.builtin "sorted") [.ref a]) Q E s:=by
 refine aU2 kind_sorted plain_sorted entry_sorted (args_sorted1 (.ref a)) ?_;unfold Builtin.«sorted»;refine aQA (m:=checkCount "sorted" 1 1 [Value.ref a].length) (aP9 (aQA (aJ1 (A:=A.in1) hh X λh1 d tk vs ys kp lh sa py=>?_)));subst sa;have oky:=ok.perm py;have ly:ys.length<gC:=oky.2.2;have ly2:ys.length<1000000:=aPP ly lX;refine aQA (aU1 ?_ (by rw[aQ2,aQI];lia))
 have g1:(h1.push (seqObj "list" (ys.map λp=>Value.ref p.2).toArray 0)).get? h1.objs.size=some (seqObj "list" (ys.map λp=>Value.ref p.2).toArray 0):=aPN _ rfl;have hv:eI (h1.push (seqObj "list" (ys.map λp=>Value.ref p.2).toArray 0)) (ys.map λp=>Value.ref p.2) (ys.map (·.1)):=yK λp hp=>(kx p (py.mem_iff.mp hp)).kept λb o e _=>hps (kp b o e);refine aQA (aRE (aRH slot_list_sort ⟨_,g1,rfl⟩ entry_list_sort (yA (A:=A.in1.in1) (s:={ s with heap:=h1.push (seqObj "list" (ys.map λp=>Value.ref p.2).toArray 0),drawn:=d,toks:=tk }) (by show A.units+1+1+13<_;lia) g1 hv (λk hk=>?_) oky.1 (oky.2.1.imp (λz=>by rw[aQ2];exact z) λz k hk=>?_) (by rw[aQ2];exact ly) λp wp=>⟨_,rfl,?_⟩) (args_list_sort _)))
 . obtain⟨p,hp,rfl⟩:=aVC.mp hk;exact aPV (kx p (py.mem_iff.mp hp)).2 (by decide)
 . obtain⟨p,hp,rfl⟩:=aVC.mp hk;exact z p hp
 . have pl:∀i∈p,i<ys.length:=λi hi=>by have:=wp.perm.mem_iff.mp hi;rw[aPT,aQ2]at this;exact this
   have e1:(p.map λi=>(ys.map λp=>Value.ref p.2).getD i .none)=(p.map λi=>ys.getD i (.i 0,0)).map λp=>Value.ref p.2:=by rw[aU3];refine aVE λi hi=>?_;simp[pl i hi]
   have e2:(p.map λi=>(ys.map (·.1)).getD i (.i 0))=(p.map λi=>ys.getD i (.i 0,0)).map (·.1):=by rw[aU3];refine aVE λi hi=>?_;simp[pl i hi]
   have zp:(p.map λi=>ys.getD i (.i 0,0)).Perm ys:=by have:=wp.perm.map λi=>ys.getD i (.i 0,0);rw[aQ2,oD]at this;exact this
   have up:=wp.up;rw[e2]at up;rw[e1];obtain⟨e,he⟩:=sortedHeap_at (out:=((p.map λi=>ys.getD i (.i 0,0)).map λp=>Value.ref p.2).toArray) g1;refine aP9 ⟨_,rfl,h _ d tk _ e _ (λb o hb=>?_) (aPW lh) he (zp.trans py) up⟩;have lb:=aPO (kp b o hb);rw[sortedHeap_old (aPR lb) (by rw[size_push'];exact aSR lb)]
   exact hps (kp b o hb)
end
noncomputable def sn(w:aVW)(l:Addr)(ps:List (N×Addr)):HO:=.ext λh=>cR w h l ps
def sn_ok{ps:List (N×Addr)}(x:cR w h l ps):bL P w H h l (sn w l ps):=by
 refine⟨x,?_,λh1 h2 x1 k=>cR.kept (show cR w h1 l ps from x1) k⟩
 obtain⟨o,es,ep,t,ho,r⟩:=x;exact⟨o,ho⟩
def l7(K:Fg)(H:Hp)(p:N×Addr):Prop:=NAt K H p.1 (.ref p.2)/\p.1.dp<=8
def l7.at(I:L2.Inv X aA σ H s){p:N×Addr}(k:l7 X.K H p):dW s.heap p:=⟨NAt.is I _ _ _ k.1 rfl,k.2⟩
def rM(X:Cx):List V->Hp->VK->Prop:=λxs H Q=>∃(a:Addr) (ps:List (N×Addr)),xs=[.ref a]/\H a=some (sn X.w a ps)/\(∀p∈ps,l7 X.K H p)/\OkP ps/\∀(l:Addr) (zs:List (N×Addr)),H l=none->zs.Perm ps->cH (zs.map (·.1))->Q (.ref l) (upd H l (.lst (zs.map λp=>V.ref p.2)))
theorem yL:∀(zs:List (N×Addr)),aL (zs.map λp=>V.ref p.2) (zs.map λp=>Value.ref p.2)
 |[]=>.nil
 |p::zs=>.cons rfl (yL zs)
theorem aJ3(hu:X.A.units+64<cLine)(hc:X.calm=true):cT X (.builtin "sorted") (rM X):=by
 intro aA s σ H xs us Q I r h;obtain⟨a,ps,rfl,ha,kh,ok,q⟩:=h;obtain⟨u,rfl,rx⟩:=eY r;cases rx;have xa:cR X.w s.heap a ps:=(I.hok a _ ha).1;refine aJ2 hu (I.ok.hd hc) xa (λp hp=>(kh p hp).at I) ok λh' d tk D e zs kp hD g py so=>?_;have le:(zs.map λp=>V.ref p.2).length<=sizeLine:=by rw[aQ2,py.length_eq,aQI];have:=ok.2.2;have:=lX;lia
 exact⟨.ref D,_,Inv.drew (I.laid (t':=tk) kp hD (show bL X.prog X.w _ h' D (.lst (zs.map λp=>V.ref p.2))from⟨le,_,e,yL zs,g⟩)) d,rfl,q D zs (I.hok.fresh hD) py so⟩
section
variable  {p:Pos}
end
def pat(t:SetTable)(h:Int):Nat->SetTable.Probe
 |0=>t.probeStart h
 |n+1=>t.advance (pat t h n)
theorem oN{t:SetTable}(hm:t.mask=7)(h:Int):∀n,(pat t h n).more=0/\(pat t h n).j=(pat t h n).i/\(pat t h n).i<8/\(pat t h n).perturb=SetTable.bits h / 32 ^ n/\(pat t h n).dummy=none
 |0=>by
  refine⟨?_,rfl,?_,?_,rfl⟩
  . show SetTable.runEnd t.mask (SetTable.bits h % (t.mask+1))-SetTable.bits h % (t.mask+1)=0;unfold SetTable.runEnd;rw[hm,if_neg (by lia),Nat.sub_self]
  . show SetTable.bits h % (t.mask+1)<8;rw[hm];lia
  . show SetTable.bits h=_;rw[Nat.pow_zero,Nat.div_one]
 |n+1=>by
  obtain⟨a,b,c,d,e⟩:=oN hm h n;show(t.advance (pat t h n)).more=0/\(t.advance (pat t h n)).j=(t.advance (pat t h n)).i/\(t.advance (pat t h n)).i<8/\(t.advance (pat t h n)).perturb=SetTable.bits h / 32 ^ (n+1)/\(t.advance (pat t h n)).dummy=none;rw[adv7 hm a];refine⟨rfl,rfl,?_,?_,e⟩
  . show(_+1+_) % 8<8;lia
  . show(pat t h n).perturb / 32=_;rw[d,Nat.pow_succ,Nat.div_div_eq_div_mul]
theorem aJ4{t:SetTable}(hm:t.mask=7)(h:Int)(n:Nat)(hn:12<=n):(pat t h (n+1)).j=((pat t h n).j * 5+1) % 8:=by
 obtain⟨a,b,c,d,e⟩:=oN hm h n;show(t.advance (pat t h n)).j=_;rw[adv7 hm a,b];show((pat t h n).i * 5+1+(pat t h n).perturb / 32) % 8=_;have:SetTable.bits h<2 ^ 64:=by unfold SetTable.bits;lia
 have z:(pat t h n).perturb / 32=0:=by rw[d,Nat.div_div_eq_div_mul,<- Nat.pow_succ];refine Nat.div_eq_of_lt (aPP this ?_);exact aPV (by decide:2 ^ 64<=32 ^ 13) (aVF (by decide) (by lia))
 rw[z,Nat.add_zero]
def oO:Nat->Nat->Nat
 |0,i=>i
 |n+1,i=>(oO n i * 5+1) % 8
theorem yM{t:SetTable}(hm:t.mask=7)(h:Int):∀n,(pat t h (12+n)).j=oO n (pat t h 12).j
 |0=>rfl
 |n+1=>by show(pat t h ((12+n)+1)).j=(oO n _ * 5+1) % 8;rw[aJ4 hm h (12+n) (by lia),yM hm h n]
def lcg8:∀i<8,∀r<8,∃k<8,oO k i=r:=by decide
theorem rN{α:Type}[DecidableEq α]:∀{ys ns:List α},ys.Nodup->(∀y∈ys,y∈ns)->ys.length<=ns.length
 |[],_,_,_=>aQP _
 |y::ys,ns,nd,h=>by obtain⟨n1,n2⟩:=aT7.mp nd;have hy:=h y mcs;have:=rN (ns:=ns.erase y) n2 λz hz=>(List.mem_erase_of_ne (λe=>n1 z hz e.symm)).mpr (h z (mcm hz));rw[List.length_erase_of_mem hy]at this;have hp:0<ns.length:=List.length_pos_of_mem hy;rw[aR7];lia
theorem aJ5{t:SetTable}(hm:t.mask=7)(h:Int)(hs:t.place.size<=7):∃n,n<21/\(pat t h n).j∉t.place.toList/\∀m<n,(pat t h m).j∈t.place.toList:=by
 have ex:∃n,n<21/\(pat t h n).j∉t.place.toList:=by
  by_cases c:∃k,k<8/\(pat t h (12+k)).j∉t.place.toList
  . obtain⟨k,h1,h2⟩:=c;exact⟨12+k,by lia,h2⟩
  . exfalso;have:(List.range 8).length<=t.place.toList.length:=rN List.nodup_range λr hr=>by
      rw[aPT]at hr;obtain⟨_,b,c8,_,_⟩:=oN hm h 12;obtain⟨k,hk,e⟩:=lcg8 (pat t h 12).j (by rw[b];exact c8) r hr
      by_cases m:(pat t h (12+k)).j∈t.place.toList
      . rw[yM hm,e]at m;exact m
      . exact absurd ⟨k,hk,m⟩ c
    rw[aTT,aP7]at this;lia
 obtain⟨n,h1,h2⟩:=ex
 induction n using Nat.strongRecOn with
 |ind n ih =>
  by_cases c:∃m,m<n/\(pat t h m).j∉t.place.toList
  . obtain⟨m,hm1,hm2⟩:=c;exact ih m hm1 (by lia) hm2
  . refine⟨n,h1,h2,λm hm1=>?_⟩;by_cases z:(pat t h m).j∈t.place.toList
    . exact z
    . exact absurd ⟨m,hm1,z⟩ c
theorem aJ6{t:SetTable}(hd:t.dummies = #[])(hr:cQ t.place)(hj:j∈t.place.toList):∃i,t.place.toList[i]? = some j/\t.slot j=.live i:=by
 obtain⟨i,hi,e⟩:=aT3 hj;rw[aP7]at hi;have ei:t.place[i]? = some j:=by rw[<- aTX,aSK (by rw[aP7];exact hi),e]
 obtain⟨a,b,c⟩:=lO hr j;have le:SetTable.below t.place j<=i:=by
  by_cases q:SetTable.below t.place j<=i
  . exact q
  . have:=b i j (by lia) ei
    lia
 have eq:SetTable.below t.place j=i:=by
  by_cases q:SetTable.below t.place j=i
  . exact q
  . have lt:SetTable.below t.place j<t.place.size:=by lia
    have e2:t.place[SetTable.below t.place j]? = some t.place[SetTable.below t.place j]:=aTR lt;have h1:=c _ _ (aQD _) e2;have h2:=lM hr e2 ei (by lia)
    lia
 refine⟨i,by rw[aTX];exact ei,?_⟩
 unfold SetTable.slot;dsimp only;rw[eq,ei];simp
def aJ7{t:SetTable}(hd:t.dummies = #[])(hr:cQ t.place)(hj:j∉t.place.toList):t.slot j=.empty:=by
 unfold SetTable.slot;dsimp only;rw[hd,xC];have:t.place[SetTable.below t.place j]?≠some j:=λe=>hj (by
  rw[<- aTX]at e;exact aQ0 e)
 simp[this]
theorem goG{t:SetTable}(hm:t.mask=7)(hd:t.dummies = #[])(hr:cQ t.place)(f:Nat->Int)(h:Int){n0:Nat}(e0:(pat t h n0).j∉t.place.toList)(l0:∀m<n0,(pat t h m).j∈t.place.toList):∀(d n fuel:Nat),n+d=n0->d<fuel->(SetTable.probe.go t f h fuel (pat t h n)=some (.empty (pat t h n0).j none)/\∀m i,n<=m->m<n0->t.place.toList[i]? = some (pat t h m).j->f i≠h)\/∃m i,n<=m/\m<n0/\t.place.toList[i]? = some (pat t h m).j/\f i=h/\SetTable.probe.go t f h fuel (pat t h n)=some (.candidate (pat t h m).j i (pat t h (m+1)))/\t.slot (pat t h m).j=.live i/\∀m' i',n<=m'->m'<m->t.place.toList[i']? = some (pat t h m').j->f i'≠h
 |0,n,0,_,hf=>absurd hf (aPQ _)
 |d+1,n,0,_,hf=>absurd hf (Nat.not_lt_zero _)
 |0,n,fuel+1,e,_=>by
  have e:n=n0:=by lia
  subst e;refine .inl ⟨?_,λm i h1 h2=>by lia⟩
  unfold SetTable.probe.go;rw[aJ7 hd hr e0];dsimp only;rw[(oN hm h n).2.2.2.2]
 |d+1,n,fuel+1,e,hf=>by
  obtain⟨i,ei,sl⟩:=aJ6 hd hr (l0 n (by lia))
  have uniq:∀i',t.place.toList[i']? = some (pat t h n).j->i'=i:=λi' e'=>by
   have nd:t.place.toList.Nodup:=(show t.place.toList.Pairwise (· < ·)from hr).imp λ{a b} q z=>by lia
   exact(List.getElem?_inj (aP1.mp e').1 nd).mp (e'.trans ei.symm)
  unfold SetTable.probe.go;rw[sl];dsimp only;by_cases q:f i=h
  . rw[if_pos (aQM.mpr q)];exact .inr ⟨n,i,aQD _,by lia,ei,q,rfl,sl,λm' i' h1 h2=>by lia⟩
  . rw[if_neg (λz=>q (aQM.mp z))];rcases goG hm hd hr f h e0 l0 d (n+1) fuel (by lia) (by lia)with⟨g1,g2⟩|⟨m,i',h1,h2,h3,h4,h5,h6,h7⟩
    . refine .inl ⟨g1,λm i' h1 h2 e'=>?_⟩;by_cases z:m=n
      . subst z;rw[uniq i' e'];exact q
      . exact g2 m i' (by lia) h2 e'
    . refine .inr ⟨m,i',by lia,h2,h3,h4,h5,h6,λm' j' k1 k2 e'=>?_⟩
      by_cases z:m'=n
      . subst z;rw[uniq j' e'];exact q
      . exact h7 m' j' (by lia) k2 e'
def Rch(t:SetTable)(h:Int)(j:Nat):Prop:=∃n,(pat t h n).j=j/\∀m<n,(pat t h m).j∈t.place.toList
structure SlN(w:aVW)(t:SetTable)(es:Array (Int×aVT))(qs:List (Nat×N×Addr)):Prop where
 mask:t.mask=7
 dum:t.dummies = #[]
 rise:cQ t.place
 place:t.place.toList=qs.map (·.1)
 ents:es.toList=qs.map λq=>j2 w q.2
 few:qs.length<=4
 led:t.led = !eU w
 rch:∀q∈qs,Rch t (aN w q.2.1) q.1
def SlN.psize{t:SetTable}{es:Array (Int×aVT)}(S:SlN w t es qs):t.place.size=qs.length:=by rw[<- aP7,S.place,aQ2]
def SlN.esize{t:SetTable}{es:Array (Int×aVT)}(S:SlN w t es qs):es.size=qs.length:=by rw[<- aP7,S.ents,aQ2]
theorem SlN.fits{t:SetTable}{es:Array (Int×aVT)}(S:SlN w t es qs):t.fits es.size=true:=by unfold SetTable.fits SetTable.fill;rw[S.psize,S.esize,S.dum,S.mask,aRJ,aQM,aR8];exact⟨rfl,by have:=S.few;show qs.length+0<=7;lia⟩
section
variable {A:aVV}{E:VSP}{a c:Addr}{x y:N}
def aJ8(dx:x.dp<=8)(hx:IsN s.heap x (.ref b))(hv:∀v∈vs,∃(y:N) (c:Addr),v=.ref c/\dW s.heap (y,c))(q:Q false s):wpAny (model prog w) A (searchCouldBeSeen (.ref b) vs) Q E s:=by
 unfold searchCouldBeSeen;refine aQA ?_;refine aRZ _ (λrest r s'=>r.1=none/\s'=s/\∀v∈rest,∃(y:N) (c:Addr),v=.ref c/\dW s.heap (y,c)) _ ?_ ?_ _ _ ⟨rfl,rfl,hv⟩
 . rintro v rest r s' ⟨hr,rfl,hl⟩;obtain⟨y,c,rfl,ky⟩:=hl v mcs;have hl:=λu hu=>hl u (mcm hu);dsimp only;by_cases e:(b==c||carriedByValue (.ref b)&&carriedByValue (.ref c))=true
   . rw[if_pos e];exact aP9 ⟨rfl,rfl,hl⟩
   . rw[if_neg e];refine aQA (pZ x dx hx ?_);simp only[aR4,aR5,aRA];refine aQA (pZ y ky.2 ky.1 ?_);simp only[aR4,aR5,aRA];refine aQA (yI x dx hx ?_);simp only[aR5,aRA];refine aQA (yI y ky.2 ky.1 ?_);simp only[aR5,aRA];exact aP9 ⟨rfl,rfl,hl⟩
 . rintro⟨r1,r2⟩ s' ⟨hr,rfl,_⟩;simp only at hr;subst hr;exact aP9 q
theorem srchG{Q:SetFound->aVU->Prop}{o:Obj}{t:SetTable}{es:Array (Int×aVT)}(hu:A.units+8<cLine)(ho:s.heap.get? a=some o)(hd:o.data=.set es ep t)(S:SlN w t es qs)(kx:dW s.heap (x,b))(kq:∀q∈qs,dW s.heap q.2){n0:Nat}(e0:(pat t (aN w x) n0).j∉t.place.toList)(l0:∀m<n0,(pat t (aN w x) m).j∈t.place.toList)(hn0:n0<21)(q1:(∃q∈qs,q.2.1=x)->Q (.there none) s)(q2:(∀q∈qs,q.2.1≠x)->Q (.free (pat t (aN w x) n0).j false) s):∀(d n fuel:Nat) (stand:Option SetTable.Probe),n+d=n0->d<fuel->stand.getD (t.probeStart (aN w x))=pat t (aN w x) n->(∀q∈qs,(∃m<n,(pat t (aN w x) m).j=q.1)->q.2.1≠x)->wpAny (model prog w) A (setSearchFrom a (.ref b) (aN w x) true fuel stand) Q E s:=by
 intro d
 induction d using Nat.strongRecOn with
 |ind d ih =>
 intro n fuel stand hnd hf est past;cases fuel with
 |zero=>lia
 |succ fuel =>
 have hf2:=S.fits;have hm:=S.mask;unfold setSearchFrom;refine aQA (aS7 ho hd hf2 ?_);dsimp only;have gw:t.gaveWay=false:=by unfold SetTable.gaveWay;rw[hm];rfl
 rw[gw];simp only[aR5,aRA];have f0:∀f:Nat->Int,t.probe f (aN w x) (stand.getD (t.probeStart (aN w x)))=SetTable.probe.go t f (aN w x) 220 (pat t (aN w x) n):=λf=>by unfold SetTable.probe;rw[hm,est];rfl
 rw[f0];have nd:t.place.toList.Nodup:=(show t.place.toList.Pairwise (· < ·)from S.rise).imp λ{a b} q z=>by lia
 rcases goG hm S.dum S.rise _ (aN w x) e0 l0 d n 220 hnd (by lia)with⟨e,no⟩|⟨m,i,h1,h2,h3,h4,e,sl,bef⟩
 . rw[e];refine aP9 (q2 λq hq eq=>?_);obtain⟨k,ek,lk⟩:=S.rch q hq;rw[eq]at ek lk;have kn:k<n0:=by
     by_cases z:k<n0
     . exact z
     . exfalso;by_cases z2:k=n0
       . subst z2;exact e0 (by rw[ek,S.place];exact aVG hq)
       . exact e0 (lk n0 (by lia))
   by_cases kn2:k<n
   . exact past q hq ⟨k,kn2,ek⟩ eq
   . obtain⟨i,hi,ei⟩:=aT3 hq;have ep2:t.place.toList[i]? = some (pat t (aN w x) k).j:=by rw[S.place,aQZ,aSK hi,ei,ek];rfl
     refine no k i (by lia) kn ep2 ?_
     have ee:es[i]? = some (j2 w q.2):=by rw[<- aTX,S.ents,aQZ,aSK hi,ei];rfl
     show((es[i]?).map (·.1)).getD 0=aN w x;rw[ee];show aN w q.2.1=_;rw[eq]
 . rw[e];dsimp only;have li:i<qs.length:=by have:=(aP1.mp h3).1;rw[S.place,aQ2]at this;exact this
   generalize hqi:qs[i]=qi;have mq:qi∈qs:=by rw[<- hqi];exact aS8 li
   have e1:qi.1=(pat t (aN w x) m).j:=by rw[S.place,aQZ,aSK li,hqi]at h3;injection h3
   have ee:es[i]? = some (j2 w qi.2):=by rw[<- aTX,S.ents,aQZ,aSK li,hqi];rfl
   have ky:=kq qi mq;have seen:∀{R:Bool->aVU->Prop}{E':VSP},R false s->wpAny (model prog w) A (searchCouldBeSeen (.ref b) ((es.filter (·.1==aN w x)).toList.map (·.2))) R E' s:=λ{R E'} r=>by
    refine aJ8 kx.2 kx.1 (λv hv=>?_) r;obtain⟨u,hu2,rfl⟩:=aVC.mp hv;have hu3:u∈es.toList:=by rw[Array.toList_filter]at hu2;exact(aPS.mp hu2).1
    rw[S.ents]at hu3;obtain⟨q,hq,rfl⟩:=aVC.mp hu3;exact⟨q.2.1,q.2.2,rfl,kq q hq⟩
   refine aTW (λ_=>aQA (seen ?_)) (λ_=>?_)
   all_goals
    first|rw[if_neg aQL]|skip
    rw[ee];show wpAny _ _ (holding [Value.ref qi.2.2] (eqBool (.ref qi.2.2) (.ref b))>>=_) _ _ _;refine aQA (aRE (pY (x:=qi.2.1) (y:=x) (by have:=ky.2;lia) ky.1 kx.1 (aQA (aS7 ho hd hf2 ?_))))
    dsimp only;by_cases exy:qi.2.1=x
    . rw[if_pos (by rw[aRS exy];rfl)]
      exact aP9 (q1 ⟨qi,mq,exy⟩)
    . rw[if_neg (by rw[aPK exy];decide)]
      have em:t.sameMemory t.moves t.mask=some true:=by unfold SetTable.sameMemory;rw[if_pos (aSP _)]
      rw[em];dsimp only;rw[if_pos rfl,sl];dsimp only;rw[ee];show wpAny _ _ (isSame (.ref qi.2.2) (.ref qi.2.2)>>=_) _ _ _;refine aQA (wpAny_isSame_ref_self (aQA (aP9 ?_)));rw[if_pos rfl];dsimp only;rw[if_neg (by rw[aPK exy];decide)]
      refine ih (n0-(m+1)) (by lia) (m+1) fuel (some (pat t (aN w x) (m+1))) (by lia) (by lia) rfl λq hq hmem=>?_
      obtain⟨m',hm',em'⟩:=hmem;by_cases c1:m'<n
      . exact past q hq ⟨m',c1,em'⟩
      . intro eqx;obtain⟨i',hi',ei'⟩:=aT3 hq;have ep2:t.place.toList[i']? = some (pat t (aN w x) m').j:=by rw[S.place,aQZ,aSK hi',ei',em'];rfl
        by_cases c2:m'=m
        . subst c2;have:i'=i:=(List.getElem?_inj (aP1.mp ep2).1 nd).mp (ep2.trans h3.symm);subst this;rw[hqi]at ei';rw[ei']at exy;exact exy eqx
        . refine bef m' i' (by lia) (by lia) ep2 ?_
          have ee':es[i']? = some (j2 w q.2):=by rw[<- aTX,S.ents,aQZ,aSK hi',ei'];rfl
          show((es[i']?).map (·.1)).getD 0=aN w x;rw[ee'];show aN w q.2.1=_;rw[eqx]
end
def fF(w:aVW)(h:Heap)(a:Addr)(qs:List (Nat×N×Addr)):Prop:=∃o es ep t,h.get? a=some o/\o.ExactSet/\o.data=.set es ep t/\SlN w t es qs
theorem l8{t t':SetTable}(e:t'.mask=t.mask)(h:Int):∀n,pat t' h n=pat t h n
 |0=>by show t'.probeStart h=t.probeStart h;unfold SetTable.probeStart;rw[e]
 |n+1=>by show t'.advance (pat t' h n)=t.advance (pat t h n);rw[l8 e h n];unfold SetTable.advance;rw[e]
def Rch.more{t t':SetTable}{h:Int}(r:Rch t h j)(e:t'.mask=t.mask)(m:∀i∈t.place.toList,i∈t'.place.toList):Rch t' h j:=by obtain⟨n,e1,e2⟩:=r;exact⟨n,by rw[l8 e];exact e1,λk hk=>by rw[l8 e];exact m _ (e2 k hk)⟩
theorem SlN.put{t t':SetTable}{es:Array (Int×aVT)}{x:N}{n0:Nat}(S:SlN w t es qs)(hl:qs.length<=3)(e0:(pat t (aN w x) n0).j∉t.place.toList)(l0:∀m<n0,(pat t (aN w x) m).j∈t.place.toList)(h1:t'.mask=t.mask)(h2:t'.dummies = #[])(h3:cQ t'.place)(h4:t'.place=SetTable.insertAt t.place (SetTable.below t.place (pat t (aN w x) n0).j) (pat t (aN w x) n0).j)(h5:t'.led=t.led):∃qs':List (Nat×N×Addr),SlN w t' (SetTable.insertAt es (SetTable.below t.place (pat t (aN w x) n0).j) (aN w x,Value.ref b)) qs'/\(qs'.map (·.2)).Perm (qs.map (·.2)++[(x,b)]):=by
 generalize SetTable.below t.place (pat t (aN w x) n0).j=p at *;have pl:t'.place.toList=t.place.toList.take p++(pat t (aN w x) n0).j::t.place.toList.drop p:=by rw[h4,aT4]
 have sub:∀i∈t.place.toList,i∈t'.place.toList:=λi hi=>by
  rw[pl];rw[<- aT5 p t.place.toList]at hi;rcases aPZ.mp hi with hi|hi
  . exact aP0 _ hi
  . exact aQG _ (mcm hi)
 have pe:(qs.take p++((pat t (aN w x) n0).j,x,b)::qs.drop p).Perm (((pat t (aN w x) n0).j,x,b)::qs):=by refine List.perm_middle.trans ?_;rw[aT5]
 refine⟨qs.take p++((pat t (aN w x) n0).j,x,b)::qs.drop p,⟨by rw[h1];exact S.mask,h2,h3,?_,?_,?_,by rw[h5];exact S.led,λq hq=>?_⟩,?_⟩
 . rw[pl,S.place,aUI,aRR,aUJ,aUK]
 . rw[aT4,S.ents,aUI,aRR,aUJ,aUK];rfl
 . rw[pe.length_eq,aR7];lia
 . rcases aPY.mp (pe.mem_iff.mp hq)with rfl|hq
   . exact⟨n0,by rw[l8 h1],λm hm=>by rw[l8 h1];exact sub _ (l0 m hm)⟩
   . exact(S.rch q hq).more h1 sub
 . have p2:(qs.take p++((pat t (aN w x) n0).j,x,b)::qs.drop p).map (λz:Nat×N×Addr=>z.2) |>.Perm ((x,b)::qs.map (λz:Nat×N×Addr=>z.2)):=pe.map _;exact p2.trans (aUF (l₁:=[(x,b)]))
section
variable {A:aVV}{E:VSP}{a:Addr}{x:N}
theorem aJ9(hu:A.units+8<cLine)(X:fF w s.heap a qs)(hl:qs.length<=3)(kx:dW s.heap (x,b))(kq:∀q∈qs,dW s.heap q.2)(q:∀v h' qs',Heap.SameBut a s.heap h'->fF w h' a qs'->((∃q∈qs,q.2.1=x)/\qs'=qs\/(∀q∈qs,q.2.1≠x)/\(qs'.map (·.2)).Perm (qs.map (·.2)++[(x,b)]))->Q v {s with heap:=h',toks:=s.toks+x.dr}):wpAny (model prog w) A (setAdd a (.ref b)) Q E s:=by
 obtain⟨o,es,ep,t,ho,hex,hd,S⟩:=id X;have hf:=S.fits;obtain⟨n0,hn0,e0,l0⟩:=aJ5 S.mask (aN w x) (by rw[S.psize];lia)
 unfold setAdd;refine aRE (aQA (u9 x (by have:=kx.2;dsimp only at this;lia) kx.1 ?_))
 unfold setAddHashed setAddHashedIn;refine aRE (aQA (aS7 (s:={s with toks:=s.toks+x.dr}) ho hd hf ?_))
 dsimp only;rw[if_neg (λz=>by cases z)]
 unfold setSearch;refine aQA (srchG (s:={s with toks:=s.toks+x.dr}) hu ho hd S kx kq e0 l0 hn0 (λex=>?_) (λno=>?_) n0 0 100000 none (by lia) (by lia) rfl (λq hq ⟨m,hm,_⟩=>by lia))
 . dsimp only;exact aP9 (q false s.heap qs (aSU a s.heap) X (.inl ⟨ex,rfl⟩))
 . dsimp only;refine aQA (aS7 (s:={s with toks:=s.toks+x.dr}) ho hd hf ?_)
   dsimp only
   suffices key : ∀ v : Bool, wpAny (model prog w) A (do
       storeSet a (SetTable.insertAt es (t.put (pat t (aN w x) n0).j).2 (aN w x,Value.ref b)) (if v=true then(t.put (pat t (aN w x) n0).j).1 else{ (t.put (pat t (aN w x) n0).j).1 with plain:=false })
       if (!false && (if v = true then (t.put (pat t (aN w x) n0).j).1 else { (t.put (pat t (aN w x) n0).j).1 with plain := false }).tooFull) = true then do
           setRelay a (SetTable.grown (es.size+1))
           pure true
        else pure true) Q E {s with toks:=s.toks+x.dr}from
    aTW (λ_=>aQA (n_hbv x kx.1 key)) (λ_=>aQA (aP9 (key true)))
   intro v;have hn:t.place[SetTable.below t.place (pat t (aN w x) n0).j]?≠some (pat t (aN w x) n0).j:=λz=>e0 (by
    rw[<- aTX]at z;exact aQ0 z)
   obtain⟨k1,k2⟩:=aIM S.dum S.rise hn;have fin:∀t2:SetTable,t2.mask=t.mask->t2.dummies = #[]->cQ t2.place->t2.place=(t.put (pat t (aN w x) n0).j).1.place->t2.led=t.led->(!false&&t2.tooFull)=false/\∃qs',SlN w t2 (SetTable.insertAt es (t.put (pat t (aN w x) n0).j).2 (aN w x,Value.ref b)) qs'/\(qs'.map (·.2)).Perm (qs.map (·.2)++[(x,b)]):=λt2 h1 h2 h3 h4 h5=>by
    obtain⟨qs',S',pp⟩:=S.put (t':=t2) (b:=b) hl e0 l0 h1 h2 h3 h4 h5;refine⟨?_,qs',S',pp⟩;unfold SetTable.tooFull SetTable.fill;rw[S'.psize,h2,S'.mask];have:=S'.few;show(!false&&decide ((qs'.length+0) * 5 ≥ 7 * 3))=false;rw[aPK (by lia)]
    rfl
   have sz:(SetTable.insertAt es (t.put (pat t (aN w x) n0).j).2 (aN w x,Value.ref b)).size<=4:=by obtain⟨_,qs',S',_⟩:=fin (t.put (pat t (aN w x) n0).j).1 rfl k1 k2 rfl rfl;rw[S'.esize];exact S'.few
   refine aQA (aS5 (s:={s with toks:=s.toks+x.dr}) ho hd ?_ (by have:=aQI;lia))
   cases v with
   |true=>obtain⟨tf,qs',S',pp⟩:=fin (t.put (pat t (aN w x) n0).j).1 rfl k1 k2 rfl rfl;rw[if_pos rfl,tf];exact aP9 (q true _ qs' (aS6 ..) ⟨_,_,_,_,yJ ho hd,hex,rfl,S'⟩ (.inr ⟨no,pp⟩))
   |false =>
    obtain⟨tf,qs',S',pp⟩:=fin { (t.put (pat t (aN w x) n0).j).1 with plain:=false } rfl k1 k2 rfl rfl
    rw[if_neg aQL,tf];exact aP9 (q true _ qs' (aS6 ..) ⟨_,_,_,_,yJ ho hd,hex,rfl,S'⟩ (.inr ⟨no,pp⟩))
end
def fF.kept{a:Addr}(X:fF w h a qs)(k:∀o,h.get? a=some o->h'.get? a=some o):fF w h' a qs:=by obtain⟨o,es,ep,t,ho,r⟩:=X;exact⟨o,es,ep,t,k o ho,r⟩
def sob_g{a:Addr}(g:h.get? a=some (sob w)):fF w h a [] :=
 ⟨_,#[],_,_,g,⟨rfl,rfl,rfl⟩,rfl,⟨rfl,rfl,List.Pairwise.nil,rfl,rfl,aQP _,rfl,λq hq=>nomatch hq⟩⟩
structure Uq(ks ps:List (N×Addr)):Prop where
 sub:∀p∈ps,p∈ks
 nd:(ps.map (·.1)).Nodup
 all:∀p∈ks,p.1∈ps.map (·.1)
def Uq.nil:Uq [] []:=⟨λp h=>h,aTA,λp h=>nomatch h⟩
def Uq.there{ks ps:List (N×Addr)}{k:N×Addr}(u:Uq ks ps)(h:∃p∈ps,p.1=k.1):Uq (ks++[k]) ps:=by
 refine⟨λp hp=>aP0 _ (u.sub p hp),u.nd,λp hp=>?_⟩;rcases aPZ.mp hp with hp|hp
 . exact u.all p hp
 . cases aSZ.mp hp;obtain⟨q,hq,e⟩:=h;exact aVC.mpr ⟨q,hq,e⟩
def Uq.add{ks ps ps':List (N×Addr)}{k:N×Addr}(u:Uq ks ps)(h:∀p∈ps,p.1≠k.1)(pe:ps'.Perm (ps++[k])):Uq (ks++[k]) ps':=by
 refine⟨λp hp=>?_,(pe.map (·.1)).nodup_iff.mpr ?_,λp hp=>?_⟩
 . rcases aPZ.mp (pe.mem_iff.mp hp)with hp|hp
   . exact aP0 _ (u.sub p hp)
   . exact aQG _ hp
 . rw[aUI];refine aS9.mpr ⟨u.nd,by simp,λx hx y hy=>?_⟩
   obtain⟨q,hq,rfl⟩:=aVC.mp hx;have:y=k.1:=by simpa using hy
   rw[this];exact h q hq
 . refine(pe.map (·.1)).mem_iff.mpr ?_;rw[aUI];rcases aPZ.mp hp with hp|hp
   . exact aP0 _ (u.all p hp)
   . cases aSZ.mp hp;exact aQG _ (by simp)
section
variable {A:aVV}{E:VSP}
theorem aKA{R:Result->Shared->Prop}{P:Nat->aVT->Prop}{St:Nat->Heap->Prop}(hu:A.units+16<cLine)(W:Walks prog w A.in1 I fp [I] n P St){ks:List (N×Addr)}(hn:ks.length=n)(h4:n<=4)(hP:∀i v,P i v->∃k,ks[i]? = some k/\v=.ref k.2)(S:Addr)(hSf:S∉fp)(h0:Heap)(kk:∀k∈ks,dW h0 k)(t0:∀a o,h0.get? a=some o->o.cls=.type "tuple" -> a≠I/\a≠S):∀(d i:Nat) (s:Shared) (qs:List (Nat×N×Addr)),n-i=d->i<=n->St i s.heap->fF w s.heap S qs->qs.length<=i->Uq (ks.take i) (qs.map (·.2))->(∀a o,h0.get? a=some o->o.cls=.type "tuple" -> s.heap.get? a=some o)->(∀h' tk qs',(∀b o,b≠S->b≠I->s.heap.get? b=some o->h'.get? b=some o)->fF w h' S qs'->Uq ks (qs'.map (·.2))->R (.ok (.ret .none)) {s with heap:=h',toks:=tk})->codeAny (model prog w) A (.builtin "set.update.loop" ⟨[.ref S,.ref I],[]⟩) R s:=by
 have hSw:S∉[I]:=λh=>hSf (W.sub _ h);have hu1:A.in1.units+8<cLine:=by show A.units+1+8<_;lia
 intro d
 induction d with
 |zero =>
  intro i s qs hk hi hst hS hl hm kp0 hR;have hin:i=n:=by lia
  subst hin;refine aTD wI ?_;rw[aTE qN _];show wpAny _ A.in1 (pyNext (.ref I)>>=_) _ _ s;refine aQA (W.done s _ _ hst λh' tk hk'=>?_);rw[aSX (Nat.le_of_eq hn)]at hm;exact aP9 (hR h' tk qs (λb o _ hb e=>hk' b o (by simpa using hb) e) (hS.kept λo e=>hk' S o hSw e) hm)
 |succ d ih =>
  intro i s qs hk hi hst hS hl hm kp0 hR;have hlt:i<n:=by lia
  refine aTD wI ?_;rw[aTE qN _];show wpAny _ A.in1 (pyNext (.ref I)>>=_) _ _ s;refine aQA (W.item i s _ _ hlt hst λv h1 tk hP1 hst1 hk1=>?_);obtain⟨k,hx,rfl⟩:=hP i v hP1;have mk:k∈ks:=aQ0 hx;have c1:∀a o,h0.get? a=some o->o.cls=.type "tuple" -> h1.get? a=some o:=λa o e c=>hk1 a o (by simpa using(t0 a o e c).1) (kp0 a o e c)
  have hS1:=hS.kept λo e=>hk1 S o hSw e;have tk1:ks.take (i+1)=ks.take i++[k]:=by rw[List.take_add_one,hx];rfl
  show wpAny _ A.in1 (holding [.ref k.2] (setAdd S (.ref k.2))>>=_) _ _ _;refine aQA (aRE (aJ9 (s:={s with heap:=h1,toks:=tk}) (x:=k.1) (b:=k.2) hu1 hS1 (by lia) ((kk k mk).kept c1) (λq hq=>(kk q.2 (List.mem_of_mem_take (hm.sub q.2 (aVG hq)))).kept c1) λv h2 qs' sb X2 cas=>?_))
  refine aP9 ⟨aTB qN _,ih (i+1) _ qs' (by lia) hlt (W.frame _ _ _ hst1 λb hb o e=>?_) X2 ?_ ?_ (λa o e c=>sb.extBut a o (t0 a o e c).2 (c1 a o e c)) λh3 tk3 zs kp X3 m3=>?_⟩
  . exact sb.extBut b o (λe'=>hSf (e' ▸ hb)) e
  . rcases cas with⟨_,rfl⟩|⟨_,pm⟩
    . lia
    . have:=pm.length_eq;rw[aQ1,aQ2,aQ2]at this;simp at this;lia
  . rw[tk1];rcases cas with⟨⟨q,hq,e⟩,rfl⟩|⟨no,pm⟩
    . exact hm.there ⟨q.2,aVG hq,e⟩
    . exact hm.add (λp hp=>by obtain⟨q,hq,rfl⟩:=aVC.mp hp;exact no q hq) pm
  . exact hR h3 tk3 zs (λb o h1' h2' e=>kp b o h1' h2' (sb.extBut b o h1' (hk1 b o (by simpa using h2') e))) X3 m3
end
section
variable {A:aVV}{E:VSP}
def aKB{a p:Addr}{K:Fin->aVU->Prop}(hu:A.units+16<cLine)(hh:A.handled=none)(g0:s.heap.get? a=some (sob w)){ks:List (N×Addr)}(hp:s.heap.IsList p (ks.map λk=>Value.ref k.2).toArray)(ne:a≠p)(h4:ks.length<=4)(kk:∀k∈ks,dW s.heap k)(h:∀h' tk qs,(∀b o,b≠a->s.heap.get? b=some o->h'.get? b=some o)->fF w h' a qs->Uq ks (qs.map (·.2))->K (.done (.ret .none)) {s with heap:=h',toks:=tk}):wpAny (model prog w) A (Builtin.«set.__init__» ⟨[.ref a,.ref p],[]⟩) K E s:=by
 have ty:s.TypeIs (.ref a) "set" := ⟨_,g0,rfl⟩;have tp:s.TypeIs (.ref p) "list" := hp.typeIs;unfold Builtin.«set.__init__»;refine aQA (m:=noKeywords _ _) (aP9 ?_);dsimp only;unfold typeNameOfCut shownTypeOf;refine aQA (aQA (aQA (aRI ty ?_)));have e1:(Value.type "set" == Value.type "builtin_function_or_method")=false:=by decide
 simp only[e1,aR5,↓reduceIte];refine aP9 ?_;refine aP9 (aQA (m:=checkCount _ 0 1 _) (aP9 (aQA (m:=Builtin.Frozenset.addrOf _) (aP9 (aQA ?_)))));unfold setUsed;refine aQA (aS7 g0 rfl rfl (aP9 ?_));have e2:((SetTable.fresh 0 0 (!eU w)).fill != 0)=false:=rfl;dsimp only;rw[e2];simp only[aR5,↓reduceIte];refine aQA ?_;unfold Builtin.Frozenset.updateFrom Builtin.Frozenset.isAnySet;refine aQA (aIP tp ?_);simp only[aR5,↓reduceIte];refine aQA (aRI tp ?_);have e3:(Value.type "list" == Value.type "dict")=false:=by decide
 simp only[e3,aR5,↓reduceIte];refine aQA (aQC hp (aQA (wpAny_runValue ?_)));obtain⟨op,ho,hrest⟩:=id hp;have lp:p<s.heap.objs.size:=aPO ho;have la:a<s.heap.objs.size:=aPO g0;refine aKA (A:=A) (I:=s.heap.objs.size) hu (Walks.list (A:=A.in1) hh s.heap.objs.size p (aPR lp) (ks.map λk=>Value.ref k.2).toArray) (ks:=ks) (by simp) (by simpa using h4) (λi v q=>?_) a
  (by simp only[aPY,aVD,aS2,not_or];exact⟨aPR la,ne⟩) _ (λk hk=>(kk k hk).kept λb o e _=>hps e) (λb o e c=>⟨λz=>?_,λz=>?_⟩) _ 0 {s with heap:=s.heap.push _} [] rfl (aQP _) ⟨⟨_,aPN _ rfl,rfl,rfl⟩,hp.push _⟩ (sob_g (hps g0)) (aQD 0) Uq.nil (λb o e _=>e) λh' tk qs kp X m=>?_
 . have q:(ks.map λk=>Value.ref k.2).toArray[i]? = some v:=q;rw[aTU,aQZ]at q;cases e:ks[i]? with
   |none=>rw[e]at q;cases q
   |some k=>rw[e]at q;exact⟨k,rfl,(aP4 q).symm⟩
 . subst z;have e2:some _=some o:=(aPN _ rfl).symm.trans e;cases e2;injection c with c
   exact absurd c (by decide)
 . subst z;have e2:=(hps g0).symm.trans e;cases e2;have c:Value.type "set" = .type "tuple" := c;injection c with c
   exact absurd c (by decide)
 . exact aP9 (aP9 (h h' tk qs (λb o hb e=>kp b o hb (aPR (aPO e)) (hps e)) X m))
theorem aKC{p:Addr}{Q:VSP}(hu:A.units+64<cLine)(hh:A.handled=none){ks:List (N×Addr)}(hp:s.heap.IsList p (ks.map λk=>Value.ref k.2).toArray)(h4:ks.length<=4)(kk:∀k∈ks,dW s.heap k)(h:∀h' tk qs,(∀b o,s.heap.get? b=some o->h'.get? b=some o)->fF w h' s.heap.objs.size qs->Uq ks (qs.map (·.2))->Q (.ref s.heap.objs.size) {s with heap:=h',toks:=tk}):wpAny (model prog w) A (call (.type "set") [.ref p]) Q E s:=by
 obtain⟨c,tl,hmro⟩:=PySem.F.called_set.mro;have hmade:=PySem.F.called_set.made;have hsub:=PySem.F.called_set.sub;have h1:=PySem.F.called_set.notType;have h2:=PySem.F.called_set.canCreate;have hct:=aHR (.ref p);refine wpAny_call (codeAny_of_tree (show wpAny _ _ (callAny (.type "set") _) _ _ _ from aP9 ⟨Code.quiet_builtin _ (by decide +kernel),aTD PySem.F.entry_type_call ?_⟩))
 rw[Around.under_plain (weight_type_call_type "set" [.ref p] []) rfl]
 repeat (any_goals (first|assumption|wp_step))
 refine aRT (aHU (E:=E) (.ref p) (Q1:=λr s1=>r=.ref s.heap.objs.size/\s1={s with heap:=s.heap.push (sob w)}) ⟨rfl,rfl⟩) λr s1 hr=>?_
 cases r with
 |error e=>exact hr
 |ok fl =>
  cases fl with
  |ret obj =>
   obtain⟨rfl,rfl⟩:=hr;have g0:(s.heap.push (sob w)).get? s.heap.objs.size=some (sob w):=aPN _ rfl;have ty:Shared.TypeIs {s with heap:=s.heap.push (sob w)} (.ref s.heap.objs.size) "set" := ⟨_,g0,rfl⟩
   have hli:=PySem.F.called_set.init.lookup;have hbi:=PySem.F.called_set.init.bind (.ref s.heap.objs.size)
   repeat (any_goals (first|assumption|wp_step))
   refine aRT (codeAny_call_builtin (R:=wants (λr s2=>r=.none/\Q (.ref s.heap.objs.size) s2) E) PySem.F.called_set.init.plain PySem.F.entry_set_init (aHV ty ?_)) λr2 s2 hr2=>?_
   . refine aKB (A:=A.in1.in1) (s:={s with heap:=s.heap.push (sob w)}) (by show A.units+1+1+16<_;lia) hh g0 (hp.push _) (Nat.ne_of_gt (aPO hp.choose_spec.1)) h4 (λk hk=>(kk k hk).kept λb o e _=>hps e) λh' tk ys kp X m=>⟨rfl,h h' tk ys (λb o e=>kp b o (aPR (aPO e)) (hps e)) X m⟩
   . cases r2 with
     |error e=>exact hr2
     |ok f2 =>
      cases f2 with
      |ret r =>
       obtain⟨rfl,hq⟩:=hr2
       repeat (any_goals (first|assumption|wp_step))
      |_=>exact hr2.elim
  |_=>exact hr.elim
end
def fF.sn{a:Addr}(X:fF w h a qs):cR w h a (qs.map (·.2)):=by obtain⟨o,es,ep,t,ho,hex,hd,S⟩:=X;exact⟨o,es,ep,t,ho,hex,hd,by rw[S.ents,aU3];rfl,by rw[aQ2];exact S.few,S.fits,S.led,.inr ⟨S.dum,S.rise⟩⟩
def ddN:List N->List N
 |[]=>[]
 |x::l=>if x∈l then ddN l else x::ddN l
theorem j3{z:N}:∀{l:List N},z∈ddN l↔z∈l
 |[]=>Iff.rfl
 |x::l=>by
  unfold ddN;split
  . rename_i h;rw[j3,aPY];exact⟨.inr,λq=>q.elim (λe=>e ▸ h) id⟩
  . rw[aPY,aPY,j3]
theorem l9:∀(l:List N),(ddN l).Nodup
 |[]=>aTA
 |x::l=>by
  unfold ddN;split
  . exact l9 l
  . rename_i h;exact aT7.mpr ⟨λy hy e=>h (j3.mp (e ▸ hy)),l9 l⟩
def uqN(l:List N):List N:=aV (ddN l)
def aKD{ks ps zs:List (N×Addr)}(u:Uq ks ps)(p:zs.Perm ps)(so:cH (zs.map (·.1))):zs.map (·.1)=uqN (ks.map (·.1)):=by
 refine iR so ((aVH ((p.map (·.1)).nodup_iff.mpr u.nd) (l9 _)).mpr λz=>?_);rw[(p.map (·.1)).mem_iff,j3];constructor
 . intro h;obtain⟨q,hq,rfl⟩:=aVC.mp h;exact aVG (u.sub q hq)
 . intro h;obtain⟨q,hq,rfl⟩:=aVC.mp h;exact u.all q hq
def gD:List D->Option (List N)
 |[]=>some []
 |d::ds=>match eG d,gD ds with
  |some k,some ks=>some (k::ks)
  |_,_=>none
section
variable {K:Fg}{F:Hp}
theorem yN:∀{ds:List D}{xs:List V}{ks:List N},gD ds=some ks->aD K F ds xs->∃kbs:List (N×Addr),xs=kbs.map (λp=>V.ref p.2)/\kbs.map (·.1)=ks/\∀p∈kbs,NAt K F p.1 (.ref p.2)/\p.1.dp<=8
 |[],xs,ks,e,r=>by cases e;simp only[aD]at r;subst r;exact⟨[],rfl,rfl,λp hp=>nomatch hp⟩
 |d::ds,xs,ks,e,r=>by
  unfold gD at e;simp only[aD]at r;obtain⟨x,ys,rfl,rx,ry⟩:=r;split at e
  . rename_i k ks' e1 e2;cases e;obtain⟨b,rfl,n,h8⟩:=qZ (H:=F) (m:=.fz) e1 rx;obtain⟨kbs,rfl,rfl,hk⟩:=yN e2 ry;refine⟨(k,b)::kbs,rfl,rfl,λp hp=>?_⟩;rcases aPY.mp hp with rfl|hp
    . exact⟨n,h8⟩
    . exact hk p hp
  . cases e
end
def rO(X:Cx):List V->Hp->VK->Prop:=λxs H Q=>∃(p:Addr) (ks:List (N×Addr)),xs=[.ref p]/\SqL X.K H p (ks.map λk=>V.ref k.2)/\ks.length<=4/\(∀k∈ks,l7 X.K H k)/\∀(l:Addr) (ps:List (N×Addr)),H l=none->Uq ks ps->Q (.ref l) (upd H l (sn X.w l ps))
theorem yO:∀{zs:List (N×Addr)}{us:List aVT},aL (zs.map λp=>V.ref p.2) us->us=zs.map λp=>Value.ref p.2
 |[],us,h=>by cases h;rfl
 |p::zs,us,h=>by
  cases h with
  |cons r t=>cases r;rw[yO t];rfl
def aKE(hu:X.A.units+64<cLine)(hc:X.calm=true):cT X (.type "set") (rO X):=by intro aA s σ H xs us Q I r h;obtain⟨p,ks,rfl,hp,h4,hk,q⟩:=h;obtain⟨u,rfl,rx⟩:=eY r;cases rx;obtain⟨its,rv,pl,_⟩:=I.list hp;have e:=yO rv;subst e;refine aKC (ks:=ks) hu (I.ok.hd hc) pl.isList h4 (λk hk'=>(hk k hk').at I) λh' tk qs kp SX m=>?_;exact⟨.ref s.heap.objs.size,_,I.laid (t':=tk) kp (aQD _) (sn_ok SX.sn),rfl,q _ _ (I.hok.fresh (aQD _)) m⟩
def fG(ra:Res):Res:=ra.thn λ_ d=>match d with
 |.lst ds=>(match gD ds with
  |some ks=>if(decide (ks.length<=4)&&ks.all bK&&okS ks)=true then .ok .fr (.lst (nDL (uqN ks)))else .stuck
  |none=>.stuck)
 |_=>.stuck
section
variable  {p:Pos}
theorem aKF{Q:VK}(hK:C.K=X.K)(q:tG C (λρ=>fG (ga ρ)) σ H Q):tCB (rM X) (kS (tCB (rO X) (kS (tG C ga) pW)) pW) σ H Q:=by
 show tG C ga σ H λv H1=>rO X [v] H1 λsv H2=>rM X [sv] H2 Q;rw[aX]at q ⊢;obtain⟨ρ,F,R,w⟩:=q;refine⟨ρ,F,R,?_⟩;cases e1:ga ρ with
 |stuck=>simp only[fG,e1,Res.thn_stuck]at w;exact w
 |exc c=>simp only[fG,e1,Res.thn_exc]at w;exact w
 |ok m d =>
  simp only[fG,e1,Res.thn_ok]at w;intro v F1 H1 s1 r1 _;split at w
  . rename_i ds;split at w
    . rename_i ks ek;split at w
      . rename_i hc;rw[aRJ,aRJ,aR8,aTZ]at hc;obtain⟨⟨h4,ft⟩,ok⟩:=hc;obtain⟨a,xs,rfl,sq,rl⟩:=r1.seqL s1.sub;obtain⟨kbs,rfl,rfl,hk⟩:=yN ek rl;rw[hK]at sq hk;rw[aQ2]at h4;have kh:∀p∈kbs,l7 X.K H1 p:=λp hp=>⟨NAt.mono s1.sub _ _ (hk p hp).1,(hk p hp).2⟩;refine⟨a,kbs,rfl,sq,h4,kh,λA1 ps hA1 u=>?_⟩;have s2:aI F H F1 (upd H1 A1 (sn X.w A1 ps)):=s1.trans (aI.fresh _ s1.sub hA1);unfold okS at ok;simp only[aRJ,aSA,aR8,aTZ]at ok;obtain⟨⟨⟨_,_⟩,ao⟩,ls⟩:=ok;have mk:∀p∈ps,p.1∈kbs.map (·.1):=λp hp=>aVG (u.sub p hp);have lp:ps.length<=kbs.length:=by
          have:=rN u.nd (ns:=kbs.map (·.1)) λy hy=>by obtain⟨q,hq,rfl⟩:=aVC.mp hy;exact mk q hq
          rw[aQ2,aQ2]at this;exact this
        have ls':ps.length<gC:=by rw[aQ2]at ls;lia
        refine⟨A1,ps,rfl,bE,λp hp=>⟨NAt.mono s2.sub _ _ (hk p (u.sub p hp)).1,(hk p (u.sub p hp)).2⟩,⟨λx hx y hy=>?_,.inr λp hp=>ft _ (mk p hp),ls'⟩,λL zs hL pz so=>?_⟩
        . obtain⟨p,hp,rfl⟩:=aVC.mp hx;obtain⟨p',hp',rfl⟩:=aVC.mp hy;exact ao _ (mk p hp) _ (mk p' hp')
        . have s3:=s2.trans (aI.fresh (.lst (zs.map λp=>V.ref p.2)) s2.sub hL);have ez:=aKD u pz so;refine w (.ref L) F1 _ s3 ⟨L,rfl,s2.sub.free hL,_,bE,?_⟩ λ_ a' ea'=>?_
          . rw[hK,<- ez,dF,aU3];exact qV λp hp=>rA _ _ (hk p (u.sub p (pz.mem_iff.mp hp))).1
          . cases ea';cases q:H L with
            |none=>rfl
            |some o=>rw[s2.same _ _ q]at hL;cases hL
      . exact w.elim
    . exact w.elim
  . exact w.elim
def aKG(hu:X.A.units+64<cLine)(hc:X.calm=true)(gs:Gl X "sorted")(ns:X.mg "sorted" = none)(gt:Gl X "set")(nt:X.mg "set" = none)(ha:PV C X ea ga)(sa:cP ea=true):PV C X (.Call (.Name "sorted" p) [.Call (.Name "set" p1) [ea] [] q1] [] pos) (λρ=>fG (ga ρ)):=by
 refine PE.imp (uR (aJ3 hu hc) gs ns wT (nF (uS (aKE hu hc) gt nt aH9 (nF ha nE (cX sa)) (by decide) (by decide) (cX sa) rfl) nE)) λσ H Q w=>?_
 exact aKF (X:=X) rfl w
end
open PySem.W
end D3
namespace L2
section
variable {σ:St}{E:VSP}
end
end L2
namespace D3
section
open PySem.SeqAt
open PySem.AutoSeq1 (wpAny_loadPart')
open PySem.MeetsSeq PySem.MeetsSeq2 PySem.MeetsSeq3
end
section
variable {A:aVV}{E:VSP}
end
open PySem.W
section
variable {E:VSP}
end
section
variable {E:VSP}
end
section
variable {A:aVV}{E:VSP}
end
section
variable  {F:Hp}
end
section
variable  {F:Hp}{E:VSP}
end
theorem yP:∀{ps:List Str}{us:List aVT},ps.Nodup->us.length=ps.length->ps.filterMap (λn=>((ps.zip us).lookup n).map (n,·))=ps.zip us/\∀n∈ps,((ps.zip us).lookup n).isNone=false
 |[],us,_,_=>⟨rfl,λ_ h=>by cases h⟩
 |p::ps,[],_,h=>by cases h
 |p::ps,u::us,nd,h=>by
  obtain⟨h1,h2⟩:=aQS.mp nd;obtain⟨i1,i2⟩:=yP (us:=us) h2 (Nat.succ.inj h);have e:∀n∈ps,((p,u)::ps.zip us).lookup n=(ps.zip us).lookup n:=λn hn=>by rw[aR6];have:(n==p)=false:=aPL.mpr λz=>h1 (z ▸ hn);rw[this]
  refine⟨?_,λn hn=>?_⟩
  . rw[aS0,aPX,aR6,aSP];dsimp only[Option.map];refine congrArg _ (Eq.trans ?_ i1);have c:∀l:List Str,(∀n∈l,n∈ps)->l.filterMap (λn=>(((p,u)::ps.zip us).lookup n).map (n,·))=l.filterMap (λn=>((ps.zip us).lookup n).map (n,·)):=by
      intro l hl
      induction l with
      |nil=>rfl
      |cons a l ih=>rw[aPX,aPX,e a (hl a mcs),ih λn hn=>hl n (mcm hn)]
    exact c ps λ_ h=>h
  . rw[aS0];rcases aPY.mp hn with rfl|hn
    . rw[aR6,aSP];rfl
    . rw[e n hn];exact i2 n hn
def aKH(h1:fd.params.posonlyargs=[])(h2:fd.params.args.map (·.arg)=ps)(h3:fd.params.vararg=none)(h4:fd.params.kwonlyargs=[])(h5:fd.params.kwarg=none)(hd:fd.defaults=.none)(h6:ps.Nodup)(us:List aVT)(hl:us.length=ps.length):bindArgs fd ⟨us,[]⟩=pure (ps.zip us):=by
 obtain⟨z1,z2⟩:=yP h6 hl;have z3:(ps.take (ps.length-0)).filter (λn=>((ps.zip us).lookup n).isNone)=[]:=by rw[Nat.sub_zero,aS4,List.filter_eq_nil_iff];intro n hn;rw[z2 n hn];decide
 unfold bindArgs;simp only[h1,h2,h3,h4,h5,hd,aRQ,aT9,aQR,aSM,aSO,hl,aPQ,seqItems?];have q:(do notAStandIn Value.none;pure none:Sem (Option (Array aVT)))=pure none:=rfl
 rw[q];simp only[aSO,aRO,aS1,Nat.zero_sub,aSW,z3,decide_false,Bool.false_and,aR5,aRA,List.isEmpty_nil,aR4,List.zip_nil_right,aSM,z1,Array.toList_empty,List.drop_nil]
section
variable  {p q kp:Pos}{Φ:D->Res}
end
section
variable {K:Type}[DecidableEq K]{knd:HeapKind prog w K}{A:aVV}{E:VSP}
end
section
variable {a:Addr}{A:aVV}{E:VSP}
end
section
variable  {o f:Expr}
end
abbrev GD:=List (N×List D)
def noOwn(ρ:Rho):Prop:=∀(j:Nat) d,ρ[j]?≠some (some (true,d))
abbrev GM:=Rho->GD->Option (Rho×GD)
section
variable  {ve:Expr}{gk gv:Rho->Res}{p ap1 cp1 ap2 cp2 lp:Pos}
end
section
variable {t:Tg}{g:GM}
end
section
variable {g:GM}{sp:Pos}{rest:List Stmt}{h:Rho->aH}
end
section
variable {a:Addr}{A:aVV}{E:VSP}
end
section
variable  {o f:Expr}
end
abbrev JD:=List (Key×List D)
abbrev HM:=Rho->JD->Option (Rho×JD)
section
variable  {ve:Expr}{gk gv:Rho->Res}{p ap1 cp1 ap2 cp2 lp:Pos}
end
section
variable {t:Tg}{g:HM}
end
section
variable {g:HM}{sp:Pos}{rest:List Stmt}{h:Rho->aH}
end
end D3
set_option genSizeOfSpec false
set_option genInjectivity false
namespace D3
inductive KC where|s (y:Str)|i (n:Int)|t (tb:List (Str×Str))
 deriving DecidableEq
noncomputable def KC.d:KC->D|.s y=>.str y|.i n=>.int n|.t _=>.non
inductive GV where|con (c:KC)|fn (n:Nat)|no|cls
 deriving DecidableEq
inductive Bn where|len|isinstance
 deriving DecidableEq
noncomputable def Bn.name:Bn->Str
 |.len => "len" |.isinstance => "isinstance"
def Bn.f:Bn->List (Md×D)->Option (Md×D)
 |.len=>c7|.isinstance=>eN
noncomputable def Bn.id:Bn->String
 |.len => "len" |.isinstance => "isinstance"
inductive Ty where|int|bool|str|tuple|list|dict
 deriving DecidableEq
def Ty.f:Ty->List (Md×D)->Option (Md×D)
 |.tuple=>dU|.list=>iN|.int=>jQ|.str=>lD|.dict=>n6|_=>λ_=>none
noncomputable def Ty.id:Ty->String
 |.int => "int" |.bool => "bool" |.str => "str" |.tuple => "tuple" |.list => "list" |.dict => "dict"
structure WD where
 Φ:Str->List D->Res
 Ψ:Str->List D->Res
 I:Str->Option (List D->Res)
 cl:List CI
 xt:List ((Str×Str)×Bool)
 xi:List ((Str×Str)×Bool)
 dp:Bool
noncomputable def WD.xf(W:WD):Str->Str->Option Bool:=λc x=>W.xt.lookup (c,x)
noncomputable def WD.xg(W:WD):Str->Str->Option Bool:=λc x=>W.xi.lookup (c,x)
inductive E where
 |var (i:Nat)|non|bl (b:Bool)|int (i:Int)|str (x:Str)
 |glob (x:Str) (c:KC)|ty (t:Ty)
 |bin (op:Operator) (a b:E)|cmp (op:CmpOp) (a b:E)
 |andL (es:List E)|orL (es:List E)|not (a:E)|neg (a:E)|tru (a:E)|frz (a:E)
 |ix (a b:E)|slice (a:E) (lo hi:Option E)
 |tup (es:List E)|lst (es:List E)
 |call (f:Str) (n:Nat) (es:List E)|bcall (b:Bn) (es:List E)
 |items (a:E)|rng1 (a:E)
 |comp (elt it:E) (ts:List E) (aB:List Nat) (t:Tg) (n:Nat)
 |tcall (t:Ty) (es:List E)
 |meth (o:E) (m:Str) (es:List E)|mk0 (c:Str)
 |comp2 (elt it it2:E) (ts:List E) (aB:List Nat)|never
 |nnew|nix (a b:E)|nget (a k d:E)|nkeys (a:E)|srtw (a:E)|us4 (a:E)
noncomputable def noF:Md->D->Md->D->Option (Md×D):=λ_ _ _ _=>none
def bC:Operator->Md->D->Md->D->Option (Md×D)
 |.Add=>orO fAdd nX|.Sub=>fSub|.Mult=>orO fMul noK|.Mod=>fMod|.FloorDiv=>fDiv|.Pow=>fPow|_=>noF
def bR:CmpOp->Md->D->Md->D->Option (Md×D)
 |.Lt=>orO fLt noK|.LtE=>fLe|.Gt=>fGt|.GtE=>fGe|.Eq=>fEq|.NotEq=>fNe|.In=>orO fIn noK|.NotIn=>orO aF7 noK|.Is=>fIs false|.IsNot=>fIs true
mutual
def evE(W:WD):E->Rho->Res
 |.var i,ρ=>eZ ρ i
 |.non,_=>.ok .fz .non
 |.bl b,_=>.ok .fz (.bl b)
 |.int i,_=>.ok .fz (.int i)
 |.str x,_=>.ok .fz (.str x)
 |.glob _ c,_=>.ok .fz c.d
 |.ty t,_=>.ok .fz (.ty t.id)
 |.bin op a b,ρ=>op2 (bC op) (evE W a ρ) (evE W b ρ)
 |.cmp op a b,ρ=>op2 (bR op) (evE W a ρ) (evE W b ρ)
 |.andL es,ρ=>evA W es ρ
 |.orL es,ρ=>dG W es ρ
 |.not a,ρ=>kW (evE W a ρ)
 |.neg a,ρ=>nS (evE W a ρ)
 |.tru a,ρ=>kU (evE W a ρ)
 |.frz a,ρ=>aZ (evE W a ρ)
 |.ix a b,ρ=>op2 ixD (evE W a ρ) (evE W b ρ)
 |.slice a lo hi,ρ=>slP (evE W a ρ) (evO W lo) (evO W hi) ρ
 |.tup es,ρ=>iI (bS W es ρ)
 |.lst es,ρ=>iJ (bS W es ρ)
 |.call f n es,ρ=>a6 n (W.Φ f) (bS W es ρ)
 |.bcall b es,ρ=>fR b.f (bS W es ρ)
 |.items a,ρ=>gZ (aZ (evE W a ρ))
 |.rng1 a,ρ=>eP (cZ (evE W a ρ) (.ok []))
 |.comp elt it ts aB t n,ρ=>dB (evE W it ρ) ρ aB n (aU t) (λρ=>evF W ts ρ) (λρ=>evE W elt ρ)
 |.tcall t es,ρ=>fR t.f (bS W es ρ)
 |.comp2 elt it it2 ts aB,ρ=>gM (evE W it ρ) ρ aB (λρ=>evF W ts ρ) (λρ=>evE W it2 ρ) (λρ=>evE W elt ρ)
 |.meth o m es,ρ=>cA W.cl W.Φ m (evE W o ρ) (bS W es ρ)
 |.mk0 c,_=>.ok .fr (.ins c [])
 |.never,_=>.stuck
 |.nnew,_=>.ok .fr (.dtn [])
 |.nix a b,ρ=>op2 lP (evE W a ρ) (evE W b ρ)
 |.nget a k d,ρ=>lQ (evE W a ρ) (evE W k ρ) (evE W d ρ)
 |.nkeys a,ρ=>lZ (evE W a ρ)
 |.srtw a,ρ=>fR fE (cZ (evE W a ρ) (.ok []))
 |.us4 a,ρ=>fG (evE W a ρ)
def bS(W:WD):List E->Rho->bI
 |[],_=>.ok []
 |e::es,ρ=>cZ (evE W e ρ) (bS W es ρ)
def evA(W:WD):List E->Rho->Res
 |[],_=>.stuck
 |[e],ρ=>evE W e ρ
 |e::es,ρ=>fA (evE W e ρ) (evA W es ρ)
def dG(W:WD):List E->Rho->Res
 |[],_=>.stuck
 |[e],ρ=>evE W e ρ
 |e::es,ρ=>orR (evE W e ρ) (dG W es ρ)
def evF(W:WD):List E->Rho->Res
 |[],_=>.ok .fz (.bl true)
 |e::es,ρ=>fA (evE W e ρ) (evF W es ρ)
def evL(W:WD):List E->List (Rho->Res)
 |[]=>[]
 |e::es=>evE W e::evL W es
def evO(W:WD):Option E->Option (Rho->Res)
 |none=>none
 |some e=>some (evE W e)
end
structure MG where
 G:List (Str×GV)
 mk0:List Str
 mki:List (Str×Str×Nat)
 iso:List Str
 xcs:List Str
 xns:List Str
structure MC where
 N:List Str
 sc:Scope
 g:MG
 fn:Bool
 calm:Bool
 rz:Bool
 q:Str
noncomputable def MC.kind(m:MC)(x:Str):Option NameKind:=m.sc.names.lookup x
end D3
variable {m:D3.MC}
namespace D3
def MC.vis(m:MC)(x:Str):Bool:=(m.kind x==some .local||m.kind x==some .cell||m.kind x==some .free)&&x != "__debug__" && x != "__classdict__"
def MC.glob(m:MC)(x:Str)(v:GV):Bool:=m.kind x==some .globalImplicit&&m.g.G.lookup x==some v&&x != "__debug__" && x != "__name__"
def MC.gk(m:MC)(x:Str):Bool:=m.kind x==some .globalImplicit&&x != "__debug__"
noncomputable def strK(x:Str):Bool:=decide (x.length<=sizeLine)&&PyData.strOk x
noncomputable def rQ:Expr->Bool|.Slice ..=>false|_=>true
noncomputable def f7:Expr->Bool|.Set ..=>false|_=>true
noncomputable def yQ:Expr->Bool|.UnaryOp .Not _ _=>false|.BoolOp ..=>false|.IfExp ..=>false|.Compare ..=>false|_=>true
noncomputable def MC.sub(m:MC)(scope:Scope)(aE tgN:List Str):MC:={ m with N:=aE++tgN,sc:={scope with names:=jO scope m.sc},fn:=false,rz:=false,q := "" }
def MC.loc(m:MC)(i:Nat)(x:Str):Bool:=m.N[i]?==some x&&(m.kind x==some .local||(m.fn&&m.kind x==some .cell))
mutual
def mG(m:MC):Tg->Expr->Bool
 |.nm i,e=>match e with|.Name x _=>m.loc i x|_=>false
 |.tp ts,e=>match e with|.Tuple es _ _=>m.calm&&es.all jP&&mGs m ts es|_=>false
def mGs(m:MC):List Tg->List Expr->Bool
 |[],es=>es.isEmpty
 |t::ts,l=>match l with|e::es=>mG m t e&&mGs m ts es|_=>false
end
noncomputable def bA:Nat->Expr->List Str
 |_,.Name x _=>[x]
 |n+1,.Tuple es _ _=>es.flatMap (bA n)
 |_,_=>[]
noncomputable def hW(scope sc:Scope)(N:List Str)(aB:List Nat)(aE tgN:List Str):Bool :=
 scope.names.all (λy=>y.2 != .cell)&&scope.kind == .function&&scope.names.all (λy=>y.2 != .local||scope.names.lookup y.1==some .local) &&
 scope.names.all (λy=>y.2 != .free||sc.names.lookup y.1==some .cell||sc.names.lookup y.1==some .free)&&(aE.map some==aB.map λi=>N[i]?)&&aE.all (λy=>scope.names.contains (y,.free)) &&
 aE.all (λy=>(jO scope sc).lookup y==some .cell||(jO scope sc).lookup y==some .free)&&decide (aE++tgN).Nodup
noncomputable def strK':KC->Bool|.s y=>strK y|.i _=>true|.t _=>false
structure SX(k:Nat)(W:WD)(m:MC)(C:Cw)(X:Cx):Prop where
 hN:X.N=m.N
 hs:X.env.scope=m.sc
 cm:m.calm=true->X.calm=true
 rm:m.calm=true->cM k X.A
 un:X.A.units+64<cLine
 xo:m.calm=true->XOk (CX1 X.prog X.w) (C.at X) X
 xt:qL X.K X.mg W.xf
 xi:qM X.K X.mg W.xg
 xc:∀c,c∈m.g.xcs->∃Cc,X.mg c=some (.ref Cc)/\wD X.K Cc
 xn:∀n,n∈m.g.xns->∃cv,nZ X.mg n cv
 con:∀x c,m.g.G.lookup x=some (.con c)->match c with|.s y=>∃t,X.mg x=some (.str y t)|.i n=>∃t,X.mg x=some (.int n t)|.t tb=>jR X.w X.K X.mg x tb
 no:∀x,m.g.G.lookup x=some .no->X.mg x=none
 mk0:∀c,c∈m.g.mk0->qE X.K X.mg c
 mki:∀c key n,(c,key,n)∈m.g.mki->∀Φ,W.I key=some Φ->∃j,j+1<=k/\InV X.prog X.w X.K X.mg X.base (CX1 X.prog X.w) j c n Φ
 iso:∀c,c∈m.g.iso->IsV X.K X.mg W.cl c
 fl:∀i f,i∈W.cl->f∈i.flds->FlV X.K i.name f
 mt:∀c m key n,CI.meth W.cl c m=some (key,n)->MtV X.prog X.w X.K X.mg X.base (CX1 X.prog X.w) k c m n (W.Φ key)
 fn:∀x n,m.g.G.lookup x=some (.fn n)->FnV X.prog X.w X.K X.mg X.base (CX1 X.prog X.w) k x n (W.Φ x)
 fnn:m.fn=true->∀x,X.fn x=true
 fp:W.dp=true->∃j,j+1=k/\∀x n,m.g.G.lookup x=some (.fn n)->FnV X.prog X.w X.K X.mg X.base (CX1 X.prog X.w) j x n (W.Ψ x)
 cd:m.q="" \/ (PySem.W.codeIn X.K X.env.code m.q=true/\X.env.qual=m.q ++ ".<locals>.")
section
variable {W:WD}{x y:Expr}
def SX.gl(S:SX k W m C X){v:GV}(h:m.glob z v=true):Gl X z/\m.g.G.lookup z=some v/\(z==("__debug__":Str))=false/\z ≠ "__name__" := by
 unfold MC.glob MC.kind at h;simp only[aRJ,aQM,aVI]at h;obtain⟨⟨⟨h1,h2⟩,h3⟩,h4⟩:=h;refine⟨?_,h2,by simpa using h3,h4⟩
 show X.env.scope.names.lookup z=_;rw[S.hs];exact h1
theorem SX.vis(S:SX k W m C X)(h:m.vis z=true):Vis X.env.scope z/\(z==("__debug__":Str))=false/\(z==("__classdict__":Str))=false:=by
 unfold MC.vis MC.kind at h;simp only[aRJ,aSA,aQM,aVI]at h;obtain⟨⟨h1,h2⟩,h3⟩:=h;refine⟨?_,by simpa using h2,by simpa using h3⟩
 unfold Vis;rw[S.hs];rcases h1 with(h1|h1)|h1
 . exact .inl h1
 . exact .inr (.inl h1)
 . exact .inr (.inr h1)
def aKI(b:Bn):bootBuiltins b.name=some (.builtin b.id):=by
 cases b
 . exact aF8
 . exact aF9
def aKJ(b:Bn){c:Bool}(hc:c=true->X.calm=true)(h:(c||b == .len||b == .isinstance)=true):eD X (.builtin b.id) b.f:=by
 have hc:(b == .len||b == .isinstance)=false->X.calm=true:=λz=>hc (by cases c with|true=>rfl|false=>rw[Bool.false_or]at h;rw[h]at z;cases z)
 cases b
 . exact aFD
 . exact aFF
def aKK{f:aVT}:eD X f (λ_=>none):=⟨λ_ _ _=>False,λ_ _ _ _ _ _ _ _ _ h=>h.elim,λ_ _ _ _ _ _ _ _ _ e _=>by cases e⟩
def aKL(t:Ty):eD X (.type t.id) t.f:=by
 cases t
 . exact aHB
 . exact aKK
 . exact aGU
 . exact aGQ
 . exact aGR
 . exact aHL
def yR(t:Ty):bootBuiltins (t.id:Str)=some (.type t.id):=by
 cases t
 . exact aGA
 . exact aGB
 . exact aGC
 . exact aGD
 . exact aGE
 . exact aGF
def aKM(op:Operator):(∃φ,bC op=φ/\OpD C X (binaryOp op) φ)\/bC op=noF:=by
 cases op
 case Add=>exact .inl ⟨_,rfl,o_add.or aGP⟩
 case Sub=>exact .inl ⟨_,rfl,aEI⟩
 case Mult=>exact .inl ⟨_,rfl,o_mul.or iM⟩
 case Mod=>exact .inl ⟨_,rfl,aEL⟩
 case FloorDiv=>exact .inl ⟨_,rfl,aEN⟩
 case Pow=>exact .inl ⟨_,rfl,aEO⟩
 all_goals exact .inr rfl
def mD:IsB noK:=λ_ _ _ _ _ _ z=>by cases z
def aKN(op:CmpOp)(hu:X.A.units+64<cLine):(OpD C X (compareOp op) (bR op)/\IsB (bR op))\/bR op=noF:=by
 cases op
 case Lt=>exact .inl ⟨aEP.or iM,lA nV mD⟩
 case LtE=>exact .inl ⟨aEQ,nV⟩
 case Gt=>exact .inl ⟨aER,nV⟩
 case GtE=>exact .inl ⟨aES,nV⟩
 case Eq=>exact .inl ⟨o_eq hu,lA vY mD⟩
 case NotEq=>exact .inl ⟨o_ne hu,lA vY mD⟩
 case In=>exact .inl ⟨aEV.or iM,lA vX mD⟩
 case NotIn=>exact .inl ⟨aEW.or iM,lA vX mD⟩
 case Is=>exact .inl ⟨aGL,wA⟩
 case IsNot=>exact .inl ⟨aGM,wA⟩
def yS{f:aVT->aVT->Sem aVT}:OpD C X f noF:=⟨λ_ _ _ _=>False,λ_ _ _ _ _ _ _ _ _ _ _ _ h=>h.elim,λ_ _ _ _ _ _ _ _ _ _ _ _ _ _ e _=>by cases e⟩
def aKO(op:Operator):OpD C X (binaryOp op) (bC op):=by
 rcases aKM (C:=C) (X:=X) op with⟨φ,e,h⟩|e
 . rw[e];exact h
 . rw[e];exact yS
def rR(op:CmpOp)(hu:X.A.units+64<cLine):OpD C X (compareOp op) (bR op)/\IsB (bR op):=by
 rcases aKN (C:=C) op hu with h|e
 . exact h
 . rw[e];exact⟨yS,λ_ _ _ _ _ _ z=>by cases z⟩
def yT(op:CmpOp)(h:f7 e=true):behindInMarks op e=false:=by cases e <;> first|rfl|cases h
def iU(h:f7 e=true):∀v,foldedSetIterable e env v=pure v:=by intro v;cases e <;> first|rfl|cases h
def yU(h:rQ e=true):nM e:=by intro o i;cases e <;> first|rfl|cases h
def aKP(h:yQ e=true):∀whole,isTrue e env whole=(do let v <- whole;standAt e.pos;holding [v] (truthy v)):=by
 intro whole;cases e
 case UnaryOp op _ _=>cases op <;> first|rfl|cases h
 all_goals first|rfl|cases h
theorem SX.sub(S:SX k W m C X)(cl:List (Str×Addr))(A:Addr)(fp:List Addr)(s3:aVU)(H3:Hp):SX k W (m.sub scope aE tgN) C.nox (aT X scope (aE++tgN) cl A fp s3 H3):=by
 refine⟨rfl,?_,S.cm,S.rm,S.un,λ_ aA σ H s e s' I h=>?_,S.xt,S.xi,S.xc,S.xn,S.con,S.no,S.mk0,S.mki,S.iso,S.fl,S.mt,S.fn,(λz=>by cases z),S.fp,.inl rfl⟩
 rotate_left
 . obtain⟨_,_,_,_,_,_,_,_,_,_,_,_,z⟩:=h;exact z.elim
 show(compEnvC scope cl A X.env).scope=_;unfold MC.sub;rw[<- S.hs];rfl
theorem SX.loc(S:SX k W m C X)(h:m.loc i z=true):X.N[i]? = some z/\L2.Loc X.env.scope z/\(X.fn z=true\/X.env.scope.names.lookup z=some .local):=by
 unfold MC.loc MC.kind at h;simp only[aRJ,aSA,aQM]at h;refine⟨by rw[S.hN];exact h.1,?_,?_⟩
 . unfold L2.Loc;rw[S.hs];rcases h.2 with q|q
   . exact .inl q
   . exact .inr q.2
 . rw[S.hs];rcases h.2 with q|q
   . exact .inr q
   . exact .inl (S.fnn q.1 z)
mutual
theorem sG(S:SX k W m C X)(hN:m.N.Nodup):∀(t:Tg) {e:Expr},mG m t e=true->PGw X e t
 |.nm i,e,h=>by
  simp only[mG]at h;split at h
  . obtain⟨a,b,c⟩:=S.loc h;exact aG1 (by rw[S.hN];exact hN) a b c
  . cases h
 |.tp ts,e,h=>by
  simp only[mG]at h;split at h
  . rw[aRJ,aRJ,aTZ]at h;obtain⟨p,l⟩:=sGs S hN ts h.2 h.1.2;exact aG5 (S.cm h.1.1) p h.1.2 l
  . cases h
theorem sGs(S:SX k W m C X)(hN:m.N.Nodup):∀(ts:List Tg) {es:List Expr},mGs m ts es=true->(∀e∈es,jP e=true)->iO X es ts/\es.length=ts.length
 |[],[],h,_=>⟨aG2,rfl⟩
 |[],_::_,h,_=>by simp[mGs]at h
 |t::ts,[],h,_=>by simp[mGs]at h
 |t::ts,e::es,h,hs=>by simp only[mGs,aRJ]at h;obtain⟨p,l⟩:=sGs S hN ts h.2 λx hx=>hs x (mcm hx);exact⟨aG3 (sG S hN t h.1) p (hs e mcs),by rw[aR7,aR7,l]⟩
end
end
def aKQ:PV C X e (λ_=>.stuck):=λaA s σ H Q I q=>by rw[aX]at q;obtain⟨ρ,F,R,w⟩:=q;exact w.elim
def yV{W:WD}(S:SX k W m C X)(ho:hW scope m.sc m.N aB aE tgN=true):(∀y∈scope.names,y.2 ≠ .cell)/\scope.kind=.function/\(∀y∈scope.names,y.2=.local->scope.names.lookup y.1=some .local)/\(∀y∈scope.names,y.2=.free->X.env.kindOf y.1=some .cell\/X.env.kindOf y.1=some .free)/\(aE.map some=aB.map λi=>X.N[i]?)/\(∀y∈aE,(y,NameKind.free)∈scope.names)/\(∀y∈aE,(relabel scope X.env).names.lookup y=some .cell\/(relabel scope X.env).names.lookup y=some .free)/\(aE++tgN).Nodup:=by
 unfold hW at ho;simp only[aRJ,aTZ,aSA,aVI,aQM,aR8,aVJ]at ho;obtain⟨⟨⟨⟨⟨⟨⟨g1,g2⟩,g3⟩,g4⟩,g5⟩,g6⟩,g7⟩,g8⟩:=ho;have er:(relabel scope X.env).names=jO scope m.sc:=by rw[<- S.hs];rfl
 refine⟨g1,g2,λy hy e=>(g3 y hy).resolve_left λz=>z e,λy hy e=>?_,by rw[S.hN];exact g5,g6,λy hy=>by rw[er];exact g7 y hy,g8⟩
 have:=g4 y hy;show X.env.scope.names.lookup y.1=_\/X.env.scope.names.lookup y.1=_;rw[S.hs];rcases this with(z|z)|z
 . exact absurd e z
 . exact .inl z
 . exact .inr z
abbrev PE(m:MC)(f:E)(e:Expr):Prop:=∀{k:Nat}{W:WD}{C:Cw}{X:Cx},SX k W m C X->PV C X e (evE W f)
abbrev PTE(m:MC)(f:E)(e:Expr):Prop:=∀{k:Nat}{W:WD}{C:Cw}{X:Cx},SX k W m C X->PTv C X e (evE W f)
abbrev PIE(m:MC)(tg:Expr)(f:E)(e:Expr):Prop:=∀{k:Nat}{W:WD}{C:Cw}{X:Cx},SX k W m C X->PIv C X tg e (evE W f)
inductive eJ(m:MC):List E->List Expr->Prop
 |nil:eJ m [] []
 |cons {f fs x xs:_}:cP x=true->PE m f x->eJ m fs xs->eJ m (f::fs) (x::xs)
inductive fH(m:MC):List E->List Expr->Prop
 |nil:fH m [] []
 |cons {f fs x xs:_}:PTE m f x->fH m fs xs->fH m (f::fs) (x::xs)
abbrev CkE(m:MC)(f:E)(e:Expr):Type:=Option (PLift (PE m f e))
abbrev CkT(m:MC)(f:E)(e:Expr):Type:=Option (PLift (PTE m f e))
abbrev CkI(m:MC)(tg:Expr)(f:E)(e:Expr):Type:=Option (PLift (PIE m tg f e))
abbrev fJ(m:MC)(f:List E)(e:List Expr):Type:=Option (PLift (eJ m f e))
abbrev CkF(m:MC)(f:List E)(e:List Expr):Type:=Option (PLift (fH m f e))
abbrev CkO(m:MC)(f:Option E)(e:Option Expr):Type:=Option (PLift (∀{k:Nat}{W:WD}{C:Cw}{X:Cx},SX k W m C X->POv C X e (evO W f)))
def got{P:Prop}:∀{o:Option (PLift P)},o.isSome=true->P
 |some p,_=>p.down
 |none,h=>nomatch h
section
variable {W:WD}
theorem eJ.star:∀{fs:List E}{es:List Expr},eJ m fs es->∀x∈es,cP x=true
 |_,_,.nil=>λx hx=>by cases hx
 |_,_,.cons s _ q=>λx hx=>by
  rcases aPY.mp hx with rfl|hx
  . exact s
  . exact q.star x hx
theorem eJ.es(S:SX k W m C X):∀{fs:List E}{es:List Expr},eJ m fs es->PAv C X es (bS W fs)
 |_,_,.nil=>by simp only[bS];exact qA
 |_,_,.cons s p q=>by simp only[bS];exact qB (p S) (q.es S) (cX s)
theorem eJ.a{pos:Pos}(S:SX k W m C X):∀{fs:List E}{es:List Expr},eJ m fs es->PV C X (.BoolOp .And es pos) (evA W fs)
 |_,_,.nil=>λaA s σ H Q I q=>by rw[aX]at q;obtain⟨ρ,F,R,w⟩:=q;exact w.elim
 |_,_,.cons s p .nil=>by simp only[evA];exact vF (p S)
 |_,_,.cons s p (.cons s' p' q)=>by simp only[evA];exact aE3 (p S) (eJ.a S (.cons s' p' q))
theorem eJ.o{pos:Pos}(S:SX k W m C X):∀{fs:List E}{es:List Expr},eJ m fs es->PV C X (.BoolOp .Or es pos) (dG W fs)
 |_,_,.nil=>λaA s σ H Q I q=>by rw[aX]at q;obtain⟨ρ,F,R,w⟩:=q;exact w.elim
 |_,_,.cons s p .nil=>by simp only[dG];exact vF (p S)
 |_,_,.cons s p (.cons s' p' q)=>by simp only[dG];exact aE4 (p S) (eJ.o S (.cons s' p' q))
theorem fH.a{pos:Pos}(S:SX k W m C X):∀{fs:List E}{es:List Expr},fH m fs es->PWv C X (.BoolOp .And es pos) (evA W fs)
 |_,_,.nil=>λwhole aA s σ H Q I q=>by obtain⟨ρ,F,R,w⟩:=q;exact w.elim
 |_,_,.cons p .nil=>by simp only[evA];exact vD (p S)
 |_,_,.cons p (.cons p' q)=>by simp only[evA];exact aE1 (p S) (fH.a S (.cons p' q))
theorem fH.o{pos:Pos}(S:SX k W m C X):∀{fs:List E}{es:List Expr},fH m fs es->PWv C X (.BoolOp .Or es pos) (dG W fs)
 |_,_,.nil=>λwhole aA s σ H Q I q=>by obtain⟨ρ,F,R,w⟩:=q;exact w.elim
 |_,_,.cons p .nil=>by simp only[dG];exact vD (p S)
 |_,_,.cons p (.cons p' q)=>by simp only[dG];exact aE2 (p S) (fH.o S (.cons p' q))
theorem fH.f(S:SX k W m C X):∀{fs:List E}{es:List Expr},fH m fs es->dA X es (tT (C.at X) (evF W fs))
 |_,_,.nil=>by
  have:evF W []=λ_=>.ok .fz (.bl true):=by funext ρ;simp only[evF]
  rw[this];exact aF1
 |f::fs,_,.cons p q=>by
  have:evF W (f::fs)=λρ=>fA (evE W f ρ) (evF W fs ρ):=by funext ρ;simp only[evF]
  rw[this];exact aF2 (p S) (q.f S)
section
variable {fs:List E}{es:List Expr}{r:fJ m fs es}{t:CkF m fs es}
def gSt(h:r.isSome=true):∀x∈es,cP x=true:=(got h).star
def gEs(h:r.isSome=true)(S:SX k W m C X):PAv C X es (bS W fs):=(got h).es S
def gA(h:r.isSome=true)(S:SX k W m C X):PV C X (.BoolOp .And es pos) (evA W fs):=(got h).a S
def gOr(h:r.isSome=true)(S:SX k W m C X):PV C X (.BoolOp .Or es pos) (dG W fs):=(got h).o S
def gWA(h:t.isSome=true)(S:SX k W m C X):PWv C X (.BoolOp .And es pos) (evA W fs):=(got h).a S
def gWO(h:t.isSome=true)(S:SX k W m C X):PWv C X (.BoolOp .Or es pos) (dG W fs):=(got h).o S
def gF(h:t.isSome=true)(S:SX k W m C X):dA X es (tT (C.at X) (evF W fs)):=(got h).f S
end
end
def aKR:PTv C X e (λ_=>.stuck):=by intro aA s σ H Q I q;obtain⟨ρ,F,R,w⟩:=q;exact w.elim
def aKS:PIv C X tg e (λ_=>.stuck):=by intro aA s σ H R I q;obtain⟨ρ,F,RS,w⟩:=q;exact w.elim
noncomputable def aKT{a e:_}(r1:CkE m a e):CkE m (.frz a) e:=if h:r1.isSome=true then some ⟨λS=>gB (got h S)⟩else none
noncomputable def aKU{a e:_}(r1:CkE m a e):CkT m (.tru a) e:=if h:(yQ e&&r1.isSome)=true then some ⟨λS=>by
 simp only[aRJ]at h;exact aEY (got h.2 S) (aKP h.1)⟩else none
noncomputable def aKV{tg a e:_}(r1:CkE m a e):CkI m tg (.items a) e:=if h:r1.isSome=true then some ⟨λS=>aFS (got h S)⟩else none
noncomputable def aKW{tg a e:_}(r1:CkE m a e):CkI m tg (.nkeys a) e:=if h:r1.isSome=true then some ⟨λS=>aJY (got h S)⟩else none
noncomputable def aKX{i:_}{x:_}{p1:_}:CkE m (.var i) (.Name x p1):=if h:(m.N[i]?==some x&&m.vis x)=true then some ⟨λS=>by
 simp only[aRJ,aQM]at h;obtain⟨h1,h2,h3⟩:=S.vis h.2
 exact aEC i (kN (by rw[S.hN];exact h.1) h1 h2 h3)⟩else none
noncomputable def aKY{y:_}{c:_}{x:_}{p1:_}:CkE m (.glob y c) (.Name x p1):=if h:(x==y&&m.glob x (.con c)&&strK' c)=true then some ⟨λS=>by
 simp only[aRJ,aQM]at h;obtain⟨⟨rfl,h1⟩,h2⟩:=h;obtain⟨g,l,hd,hn⟩:=S.gl h1;have:=S.con _ _ l;cases c with
 |s y=>obtain⟨t,ht⟩:=this;exact aFG g ht h2 hd
 |i n=>obtain⟨t,ht⟩:=this;exact aFH g ht hd
 |t tb=>cases h2⟩else none
noncomputable def kE_ty{t}{x:_}{p1:_}:CkE m (.ty t) (.Name x p1):=if h:(x==(t.id:Str)&&m.glob x .no)=true then some ⟨λS=>by
 simp only[aRJ,aQM]at h;obtain⟨rfl,h1⟩:=h;obtain⟨g,l,hd,hn⟩:=S.gl h1;exact pv_ty g (S.no _ l) (yR t) hn hd⟩else none
noncomputable def aKZ{p0}{p1:_}:CkE m (.non) (.Constant .none p0 p1):=if h:(true)=true then some ⟨λS=>by
 exact aEE⟩else none
noncomputable def kE_bl{c:_}{b:_}{p1:_}{p2:_}:CkE m (.bl c) (.Constant (.bool b) p1 p2):=if h:(b==c)=true then some ⟨λS=>by
 simp only[aQM]at h;subst h;exact pv_bl⟩else none
noncomputable def aK0{c:_}{b:_}{p1:_}{p2:_}:CkE m (.int c) (.Constant (.int b) p1 p2):=if h:(b==c)=true then some ⟨λS=>by
 simp only[aQM]at h;subst h;exact aED⟩else none
noncomputable def aK1{c:_}{b:_}{p1:_}{p2:_}:CkE m (.str c) (.Constant (.str b) p1 p2):=if h:(b==c&&strK b)=true then some ⟨λS=>by
 simp only[aRJ,aQM]at h;obtain⟨rfl,h⟩:=h;exact aEF h⟩else none
noncomputable def aK2{op}{a}{b:_}{x:_}{o}{y:_}{p3}(r1:CkE m a x)(r2:CkE m b y):CkE m (.bin op a b) (.BinOp x o y p3):=if h:(o==op&&(r1.isSome&&r2.isSome))=true then some ⟨λS=>by
 simp only[aRJ,aQM]at h;obtain⟨rfl,h1,h2⟩:=h;exact pv_op (aKO _) (got h1 S) (got h2 S)⟩else none
noncomputable def aK3{op}{a}{b:_}{x:_}{o}{y:_}{p3}(r1:CkE m a x)(r2:CkE m b y):CkE m (.cmp op a b) (.Compare x [o] [y] p3):=if h:(o==op&&f7 y&&(r1.isSome&&r2.isSome))=true then some ⟨λS=>by
 simp only[aRJ,aQM]at h;obtain⟨⟨rfl,hs⟩,h1,h2⟩:=h;exact aEG (rR _ S.un).1 (got h1 S) (got h2 S) (yT _ hs)⟩else none
noncomputable def aK4{es}{xs:_}{p1:_}(r1:fJ m es xs):CkE m (.andL es) (.BoolOp .And xs p1):=if h:(r1.isSome)=true then some ⟨λS=>by
 exact gA h S⟩else none
noncomputable def aK5{es}{xs:_}{p1:_}(r1:fJ m es xs):CkE m (.orL es) (.BoolOp .Or xs p1):=if h:(r1.isSome)=true then some ⟨λS=>by
 exact gOr h S⟩else none
noncomputable def aK6{a}{x:_}{p1:_}(r1:CkE m a x):CkE m (.not a) (.UnaryOp .Not x p1):=if h:(r1.isSome)=true then some ⟨λS=>by
 exact aE5 (got h S)⟩else none
noncomputable def aK7{a}{x:_}{p1:_}(r1:CkE m a x):CkE m (.neg a) (.UnaryOp .USub x p1):=if h:(r1.isSome)=true then some ⟨λS=>by
 exact aE6 (got h S)⟩else none
noncomputable def aK8{a}{l:_}{u:_}{x:_}{lo:_}{hi:_}{p3}{p4}(r1:CkE m a x)(r2:CkO m l lo)(r3:CkO m u hi):CkE m (.slice a l u) (.Subscript x (.Slice lo hi none p3) p4):=if h:(r1.isSome&&(r2.isSome&&r3.isSome))=true then some ⟨λS=>by
 simp only[aRJ]at h;obtain⟨h0,h1,h2⟩:=h;exact aHK (got h0 S) (got h1 S) (got h2 S)⟩else none
noncomputable def kE_ix{a}{b:_}{x:_}{y:_}{p2:_}(r1:CkE m a x)(r2:CkE m b y):CkE m (.ix a b) (.Subscript x y p2):=if h:(rQ y&&(r1.isSome&&r2.isSome))=true then some ⟨λS=>by
 simp only[aRJ]at h;obtain⟨h0,h1,h2⟩:=h;exact pv_ix (got h1 S) (got h2 S) (yU h0)⟩else none
noncomputable def aK9{es}{es0}{p1:_}{p2:_}(r1:fJ m es es0):CkE m (.tup es) (.Tuple es0 p1 p2):=if h:(r1.isSome)=true then some ⟨λS=>by
 exact aFB (gEs h S)⟩else none
noncomputable def aLA{es}{es0}{p1:_}(r1:fJ m es es0):CkE m (.lst es) (.List es0 p1):=if h:(r1.isSome)=true then some ⟨λS=>by
 exact aFC (gEs h S)⟩else none
noncomputable def aLB{g:_}{n:_}{es}{f}{p:_}{x:_}{xs:_}{cp:_}(r1:fJ m es (x::xs)):CkE m (.call g n es) (.Call (.Name f p) (x::xs) [] cp):=if h:(m.calm&&f==g&&m.glob f (.fn n)&&r1.isSome)=true then some ⟨λS=>by
 simp only[aRJ,aQM]at h;obtain⟨⟨⟨hq,rfl⟩,h1⟩,h2⟩:=h;obtain⟨gl,l,hd,hn⟩:=S.gl h1;have st:=gSt h2;exact aF5 (S.fn _ _ l) (S.rm hq) (S.xo hq) gl (gEs h2 S) hd (cX (st x mcs)) (lC _ _ λy hy=>st y (mcm hy))⟩else none
noncomputable def aLC{b:_}{es}{f}{p:_}{x:_}{xs:_}{cp:_}(r1:fJ m es (x::xs)):CkE m (.bcall b es) (.Call (.Name f p) (x::xs) [] cp):=if h:((m.calm||b == .len||b == .isinstance)&&f==b.name&&m.glob f .no&&r1.isSome)=true then some ⟨λS=>by
 rw[aRJ,aRJ,aRJ]at h;obtain⟨⟨⟨hq,hz⟩,h1⟩,h2⟩:=h;cases(aQM.mp hz);obtain⟨gl,l,hd,hn⟩:=S.gl h1;have st:=gSt h2;exact vJ (aKJ b S.cm hq) gl (S.no _ l) (aKI b) (gEs h2 S) hn hd (cX (st x mcs)) (lC _ _ λy hy=>st y (mcm hy))⟩else none
noncomputable def aLD{t}{es}{f}{p1:_}{x:_}{xs:_}{p4}(r1:fJ m es (x::xs)):CkE m (.tcall t es) (.Call (.Name f p1) (x::xs) [] p4):=if h:(f==(t.id:Str)&&m.glob f .no&&r1.isSome)=true then some ⟨λS=>by
 simp only[aRJ,aQM]at h;obtain⟨⟨rfl,h1⟩,h2⟩:=h;obtain⟨gl,l,hd,hn⟩:=S.gl h1;exact aGV (aKL t) gl (S.no _ l) (yR t) (gEs h2 S) hn hd (gSt h2)⟩else none
noncomputable def aLE{a}{f}{es}{o}{g:_}{ap}{xs:_}{cp:_}(r1:CkE m a o)(r2:fJ m es xs):CkE m (.meth a f es) (.Call (.Attribute o g ap) xs [] cp):=if h:(m.calm&&g==f&&ap.endLine==cp.line&&decide (xs.length<30)&&lB o&&(r1.isSome&&r2.isSome))=true then some ⟨λS=>by
 simp only[aRJ,aQM,aR8]at h;obtain⟨⟨⟨⟨⟨hq,rfl⟩,h1⟩,h2⟩,h3⟩,h4,h5⟩:=h;exact aGH S.mt (S.rm hq) (S.xo hq) (got h4 S) (gEs h5 S) h3 (gSt h5) h2 h1 λe0=>by
  subst e0;cases es with
  |nil=>funext ρ;simp only[bS]
  |cons _ _=>cases got h5⟩else none
noncomputable def aLF{c:_}{f}{p1:_}{p2:_}:CkE m (.mk0 c) (.Call (.Name f p1) [] [] p2):=if h:(f==c&&m.glob f .cls&&m.g.mk0.contains f)=true then some ⟨λS=>by
 simp only[aRJ,aQM,aVJ]at h;obtain⟨⟨rfl,h1⟩,h2⟩:=h;obtain⟨gl,l,hd,hn⟩:=S.gl h1;exact aGK (S.mk0 _ h2) gl hd⟩else none
noncomputable def aLG{el}{it:_}{ts}{aB:_}{t}{n:_}{elt:_}{tg:_}{aF:_}{ifs:_}{scope:_}{cp:_}(r1:CkI m tg it aF)(r2:CkE (m.sub scope (aB.filterMap λi=>m.N[i]?) (bA 4 tg)) el elt)(r3:CkF (m.sub scope (aB.filterMap λi=>m.N[i]?) (bA 4 tg)) ts ifs):CkE m (.comp el it ts aB t n) (.ListComp elt [⟨tg,aF,ifs,0⟩] scope cp):=if h:(m.calm&&hW scope m.sc m.N aB (aB.filterMap λi=>m.N[i]?) (bA 4 tg)&&f7 aF&&decide ((bA 4 tg).length=n)&&(fV t).all (λj=>decide (aB.length<=j))&&mG (m.sub scope (aB.filterMap λi=>m.N[i]?) (bA 4 tg)) t tg&&(r1.isSome&&(r2.isSome&&r3.isSome)))=true then some ⟨λ{k}{W}{C}{X} S=>by
 simp only[aRJ,aR8,aTZ]at h;obtain⟨⟨⟨⟨⟨⟨hq,ho⟩,hn⟩,hl⟩,hs⟩,hg⟩,h1,h2,h3⟩:=h;unfold hW at ho;simp only[aRJ,aTZ,aSA,aVI,aQM,aR8,aVJ]at ho;obtain⟨⟨⟨⟨⟨⟨⟨g1,g2⟩,g3⟩,g4⟩,g5⟩,g6⟩,g7⟩,g8⟩:=ho;have er:(relabel scope X.env).names=jO scope m.sc:=by rw[<- S.hs];rfl
 have := aG7 (pos := cp) (tgN := bA 4 tg) (t := t) (S.cm hq) (got h1 S) g1 g2 (fun y hy e => (g3 y hy).resolve_left fun z => z e) (fun y hy e => by
     have:=g4 y hy;show X.env.scope.names.lookup y.1=_\/X.env.scope.names.lookup y.1=_;rw[S.hs];rcases this with(z|z)|z
     . exact absurd e z
     . exact .inl z
     . exact .inr z) (by rw[S.hN];exact g5) g6 (λy hy=>by rw[er];exact g7 y hy) (λj hj=>hs j hj) (λcl A fp s3 H3=>sG (S.sub cl A fp s3 H3) g8 t hg)
     (λcl A fp s3 H3=>gF h3 (S.sub cl A fp s3 H3)) (λcl A fp s3 H3=>got h2 (S.sub cl A fp s3 H3)) (iU hn)
 rw[hl]at this;exact this⟩else none
noncomputable def aLH{el}{it:_}{it2}{ts}{aB:_}{elt:_}{tg:_}{aF:_}{ifs:_}{tg2}{aM}{scope:_}{cp:_}(r1:CkI m tg it aF)(r2:CkI (m.sub scope (aB.filterMap λi=>m.N[i]?) (bA 4 tg++bA 4 tg2)) tg2 it2 aM)(r3:CkE (m.sub scope (aB.filterMap λi=>m.N[i]?) (bA 4 tg++bA 4 tg2)) el elt)(r4:CkF (m.sub scope (aB.filterMap λi=>m.N[i]?) (bA 4 tg++bA 4 tg2)) ts ifs):CkE m (.comp2 el it it2 ts aB) (.ListComp elt [⟨tg,aF,ifs,0⟩,⟨tg2,aM,[],0⟩] scope cp):=if h:(m.calm&&hW scope m.sc m.N aB (aB.filterMap λi=>m.N[i]?) (bA 4 tg++bA 4 tg2)&&f7 aF&&f7 aM&&decide ((bA 4 tg++bA 4 tg2).length=2)&&mG (m.sub scope (aB.filterMap λi=>m.N[i]?) (bA 4 tg++bA 4 tg2)) (.nm aB.length) tg&&mG (m.sub scope (aB.filterMap λi=>m.N[i]?) (bA 4 tg++bA 4 tg2)) (.nm (aB.length+1)) tg2&&(r1.isSome&&(r2.isSome&&(r3.isSome&&r4.isSome))))=true then some ⟨λS=>by
 simp only[aRJ,aR8]at h;obtain⟨⟨⟨⟨⟨⟨⟨hq,ho⟩,hn⟩,hn2⟩,hl⟩,hg⟩,hg2⟩,h1,h2,h3,h4⟩:=h;obtain⟨g1,g2,g3,g4,g5,g6,g7,g8⟩:=yV S ho;exact aIH (pos:=cp) (tgN:=bA 4 tg++bA 4 tg2) (S.cm hq) (got h1 S) g1 g2 g3 g4 g5 g6 g7 hl (λcl A fp s3 H3=>sG (S.sub cl A fp s3 H3) g8 (.nm aB.length) hg) (λcl A fp s3 H3=>gF h4 (S.sub cl A fp s3 H3))
  (λcl A fp s3 H3=>got h2 (S.sub cl A fp s3 H3)) (λcl A fp s3 H3=>sG (S.sub cl A fp s3 H3) g8 (.nm (aB.length+1)) hg2) (λcl A fp s3 H3=>got h3 (S.sub cl A fp s3 H3)) (iU hn) (λ_=>iU hn2)⟩else none
noncomputable def aLI{p0}:CkE m (.nnew) (.Dict [] [] p0):=if h:(true)=true then some ⟨λS=>by
 exact aIY⟩else none
noncomputable def aLJ{a}{b:_}{x:_}{y:_}{p2:_}(r1:CkE m a x)(r2:CkE m b y):CkE m (.nix a b) (.Subscript x y p2):=if h:(rQ y&&(r1.isSome&&r2.isSome))=true then some ⟨λS=>by
 simp only[aRJ]at h;obtain⟨h0,h1,h2⟩:=h;exact aIZ S.un (got h1 S) (got h2 S) (yU h0)⟩else none
noncomputable def aLK{a}{b:_}{d}{o}{f}{ap}{x:_}{y:_}{cp:_}(r1:CkE m a o)(r2:CkE m b x)(r3:CkE m d y):CkE m (.nget a b d) (.Call (.Attribute o f ap) [x,y] [] cp):=if h:(f == "get" && ap.endLine==cp.line&&lB o&&cP x&&cP y&&(r1.isSome&&(r2.isSome&&r3.isSome)))=true then some ⟨λS=>by
 simp only[aRJ,aQM]at h;obtain⟨⟨⟨⟨⟨rfl,hl⟩,hc⟩,hs⟩,hs2⟩,h1,h2,h3⟩:=h;exact aI1 S.un (got h1 S) (got h2 S) (got h3 S) ⟨qD hc,by
  rw[nW _ _ (λz hz=>by
   simp only[aPY,List.mem_nil_iff,aS2]at hz;rcases hz with rfl|rfl
   . exact hs
   . exact hs2)];rfl,aQM.mpr hl,by rw[cX hs,cX hs2];rfl⟩⟩else none
noncomputable def aLL{a}{f}{p1:_}{x:_}{p3}(r1:CkE m a x):CkE m (.srtw a) (.Call (.Name f p1) [x] [] p3):=if h:(f == "sorted" && m.glob f .no&&cP x&&r1.isSome)=true then some ⟨λS=>by
 simp only[aRJ,aQM]at h;obtain⟨⟨⟨rfl,h1⟩,hs⟩,h2⟩:=h;obtain⟨gl,l,hd,hn⟩:=S.gl h1;exact vJ (aJS S.un) gl (S.no _ l) wT (qB (got h2 S) qA (cX hs)) hn hd (cX hs) rfl⟩else none
noncomputable def aLM{a}{f}{p1:_}{g:_}{p3}{x:_}{p5}{p6}(r1:CkE m a x):CkE m (.us4 a) (.Call (.Name f p1) [.Call (.Name g p3) [x] [] p5] [] p6):=if h:(m.calm&&f == "sorted" && g == "set" && m.glob f .no&&m.glob g .no&&cP x&&r1.isSome)=true then some ⟨λS=>by
 simp only[aRJ,aQM]at h;obtain⟨⟨⟨⟨⟨⟨hq,rfl⟩,rfl⟩,h1⟩,h2⟩,s1⟩,h3⟩:=h;obtain⟨gl,l,hd,hn⟩:=S.gl h1;obtain⟨gl',l',hd',hn'⟩:=S.gl h2;exact aKG S.un (S.cm hq) gl (S.no _ l) gl' (S.no _ l') (got h3 S) s1⟩else none
noncomputable def rS(N ps:List Str)(sc:Scope):Bool:=sc.kind == .function&&!sc.isCoroutine&&!sc.isGenerator&&decide N.Nodup&&(N.take ps.length==ps)&&ps.all (λx=>sc.names.lookup x==some .local||sc.names.lookup x==some .cell)&&sc.names.all (λy=>y.2 != .free)
def aLN{N:List Str}(h:rS N ps sc=true):nH N ps sc:=by unfold rS at h;simp only[aRJ,aTZ,aSA,aVI,aQM,aR8,aTY]at h;obtain⟨⟨⟨⟨⟨⟨h1,h2⟩,h3⟩,h4⟩,h5⟩,h6⟩,h7⟩:=h;exact⟨h1,h2,h3,h4,h5,h6,h7⟩
noncomputable def aLO{op}{a}{b:_}{x:_}{o}{y:_}{p3}(r1:CkE m a x)(r2:CkE m b y):CkT m (.cmp op a b) (.Compare x [o] [y] p3):=if h:(o==op&&f7 y&&(r1.isSome&&r2.isSome))=true then some ⟨λ{k}{W}{C}{X} S=>by
 simp only[aRJ,aQM]at h;obtain⟨⟨rfl,hs⟩,h1,h2⟩:=h;exact aEZ (rR _ S.un).1 (rR (C:=C) _ S.un).2 (got h1 S) (got h2 S) (yT _ hs)⟩else none
noncomputable def aLP{es}{xs:_}{p1:_}(r1:CkF m es xs):CkT m (.andL es) (.BoolOp .And xs p1):=if h:(r1.isSome)=true then some ⟨λS=>by
 exact pt_w (gWA h S)⟩else none
noncomputable def aLQ{es}{xs:_}{p1:_}(r1:CkF m es xs):CkT m (.orL es) (.BoolOp .Or xs p1):=if h:(r1.isSome)=true then some ⟨λS=>by
 exact pt_w (gWO h S)⟩else none
noncomputable def aLR{a}{x:_}{p1:_}(r1:CkT m a x):CkT m (.not a) (.UnaryOp .Not x p1):=if h:(r1.isSome)=true then some ⟨λS=>by
 exact aE0 (got h S)⟩else none
noncomputable def aLS{tg0}{a}{f}{p1:_}{x:_}{p3}(r1:CkE m a x):CkI m tg0 (.rng1 a) (.Call (.Name f p1) [x] [] p3):=if h:(f == "range" && m.glob f .no&&cP x&&r1.isSome)=true then some ⟨λS=>by
 simp only[aRJ,aQM]at h;obtain⟨⟨⟨rfl,h1⟩,h2⟩,h3⟩:=h;obtain⟨gl,l,hd,hn⟩:=S.gl h1;exact aFU gl (S.no _ l) (qB (got h3 S) qA (cX h2)) (cX h2)⟩else none
noncomputable def kEs{f fs x xs:_}(r1:CkE m f x)(r2:fJ m fs xs):fJ m (f::fs) (x::xs):=if h:(cP x&&r1.isSome&&r2.isSome)=true then some ⟨by
 simp only[aRJ]at h;exact .cons h.1.1 (@got _ r1 h.1.2) (got h.2)⟩else none
noncomputable def kO{f x:_}(r1:CkE m f x):CkO m (some f) (some x):=if h:r1.isSome=true then some ⟨λS=>by simp only[evO];exact got h S⟩else none
noncomputable def kF{f fs x xs:_}(r1:CkT m f x)(r2:CkF m fs xs):CkF m (f::fs) (x::xs):=if h:(r1.isSome&&r2.isSome)=true then some ⟨by
 simp only[aRJ]at h;exact .cons (@got _ r1 h.1) (got h.2)⟩else none
set_option maxHeartbeats 4000000 in
mutual
noncomputable def ckE:(m:MC)->(f:E)->(e:Expr)->CkE m f e
 |m,.frz a,e=>aKT (ckE m a e)
 |m,.never,e=>some ⟨λ_=>aKQ⟩
 |m,.var i,e=>match e with|.Name x p1=>aKX|_=>none
 |m,.glob y c,e=>match e with|.Name x p1=>aKY|_=>none
 |m,.ty t,e=>match e with|.Name x p1=>kE_ty|_=>none
 |m,.non,e=>match e with|.Constant .none p0 p1=>aKZ|_=>none
 |m,.bl c,e=>match e with|.Constant (.bool b) p1 p2=>kE_bl|_=>none
 |m,.int c,e=>match e with|.Constant (.int b) p1 p2=>aK0|_=>none
 |m,.str c,e=>match e with|.Constant (.str b) p1 p2=>aK1|_=>none
 |m,.bin op a b,e=>match e with|.BinOp x o y p3=>aK2 (ckE m a x) (ckE m b y)|_=>none
 |m,.cmp op a b,e=>match e with|.Compare x [o] [y] p3=>aK3 (ckE m a x) (ckE m b y)|_=>none
 |m,.andL es,e=>match e with|.BoolOp .And xs p1=>aK4 (gT m es xs)|_=>none
 |m,.orL es,e=>match e with|.BoolOp .Or xs p1=>aK5 (gT m es xs)|_=>none
 |m,.not a,e=>match e with|.UnaryOp .Not x p1=>aK6 (ckE m a x)|_=>none
 |m,.neg a,e=>match e with|.UnaryOp .USub x p1=>aK7 (ckE m a x)|_=>none
 |m,.slice a l u,e=>match e with|.Subscript x (.Slice lo hi none p3) p4=>aK8 (ckE m a x) (ckO m l lo) (ckO m u hi)|_=>none
 |m,.ix a b,e=>match e with|.Subscript x y p2=>kE_ix (ckE m a x) (ckE m b y)|_=>none
 |m,.tup es,e=>match e with|.Tuple es0 p1 p2=>aK9 (gT m es es0)|_=>none
 |m,.lst es,e=>match e with|.List es0 p1=>aLA (gT m es es0)|_=>none
 |m,.call g n es,e=>match e with|.Call (.Name f p) (x::xs) [] cp=>aLB (gT m es (x::xs))|_=>none
 |m,.bcall b es,e=>match e with|.Call (.Name f p) (x::xs) [] cp=>aLC (gT m es (x::xs))|_=>none
 |m,.tcall t es,e=>match e with|.Call (.Name f p1) (x::xs) [] p4=>aLD (gT m es (x::xs))|_=>none
 |m,.meth a f es,e=>match e with|.Call (.Attribute o g ap) xs [] cp=>aLE (ckE m a o) (gT m es xs)|_=>none
 |m,.mk0 c,e=>match e with|.Call (.Name f p1) [] [] p2=>aLF|_=>none
 |m,.nnew,e=>match e with|.Dict [] [] p0=>aLI|_=>none
 |m,.us4 a,e=>match e with|.Call (.Name f p1) [.Call (.Name g p3) [x] [] p5] [] p6=>aLM (ckE m a x)|_=>none
 |m,.srtw a,e=>match e with|.Call (.Name f p1) [x] [] p3=>aLL (ckE m a x)|_=>none
 |m,.nix a b,e=>match e with|.Subscript x y p2=>aLJ (ckE m a x) (ckE m b y)|_=>none
 |m,.comp el it ts aB t n,e=>match e with|.ListComp elt [⟨tg,aF,ifs,0⟩] scope cp=>aLG (ckI m tg it aF) (ckE (m.sub scope (aB.filterMap λi=>m.N[i]?) (bA 4 tg)) el elt) (ckF (m.sub scope (aB.filterMap λi=>m.N[i]?) (bA 4 tg)) ts ifs)|_=>none
 |m,.comp2 el it it2 ts aB,e=>match e with|.ListComp elt [⟨tg,aF,ifs,0⟩,⟨tg2,aM,[],0⟩] scope cp=>aLH (ckI m tg it aF) (ckI (m.sub scope (aB.filterMap λi=>m.N[i]?) (bA 4 tg++bA 4 tg2)) tg2 it2 aM) (ckE (m.sub scope (aB.filterMap λi=>m.N[i]?) (bA 4 tg++bA 4 tg2)) el elt) (ckF (m.sub scope (aB.filterMap λi=>m.N[i]?) (bA 4 tg++bA 4 tg2)) ts ifs)|_=>none
 |m,.nget a b d,e=>match e with|.Call (.Attribute o f ap) [x,y] [] cp=>aLK (ckE m a o) (ckE m b x) (ckE m d y)|_=>none
 |_,.tru _,_=>none
 |_,.items _,_=>none
 |_,.nkeys _,_=>none
 |_,.rng1 _,_=>none
noncomputable def ckT:(m:MC)->(f:E)->(e:Expr)->CkT m f e
 |m,.tru a,e=>aKU (ckE m a e)
 |m,.never,e=>some ⟨λ_=>aKR⟩
 |m,.cmp op a b,e=>match e with|.Compare x [o] [y] p3=>aLO (ckE m a x) (ckE m b y)|_=>none
 |m,.andL es,e=>match e with|.BoolOp .And xs p1=>aLP (ckF m es xs)|_=>none
 |m,.orL es,e=>match e with|.BoolOp .Or xs p1=>aLQ (ckF m es xs)|_=>none
 |m,.not a,e=>match e with|.UnaryOp .Not x p1=>aLR (ckT m a x)|_=>none
 |_,_,_=>none
noncomputable def ckI:(m:MC)->(tg:Expr)->(f:E)->(e:Expr)->CkI m tg f e
 |m,tg,.items a,e=>aKV (ckE m a e)
 |m,tg,.nkeys a,e=>aKW (ckE m a e)
 |m,tg,.never,e=>some ⟨λ_=>aKS⟩
 |m,tg0,.rng1 a,e=>match e with|.Call (.Name f p1) [x] [] p3=>aLS (ckE m a x)|_=>none
 |_,_,_,_=>none
noncomputable def gT:(m:MC)->(fs:List E)->(es:List Expr)->fJ m fs es
 |m,[],es=>match es with|[]=>some ⟨.nil⟩|_=>none
 |m,f::fs,l=>match l with|x::xs=>kEs (ckE m f x) (gT m fs xs)|_=>none
noncomputable def ckO:(m:MC)->(f:Option E)->(e:Option Expr)->CkO m f e
 |m,none,e=>match e with|none=>some ⟨λ_=>True.intro⟩|_=>none
 |m,some f,l=>match l with|some x=>kO (ckE m f x)|_=>none
noncomputable def ckF:(m:MC)->(fs:List E)->(es:List Expr)->CkF m fs es
 |m,[],es=>match es with|[]=>some ⟨.nil⟩|_=>none
 |m,f::fs,l=>match l with|x::xs=>kF (ckT m f x) (ckF m fs xs)|_=>none
end
noncomputable def mE(m:MC)(f:E)(e:Expr):Bool:=(ckE m f e).isSome
noncomputable def mT(m:MC)(f:E)(e:Expr):Bool:=(ckT m f e).isSome
noncomputable def mI(m:MC)(tg:Expr)(f:E)(e:Expr):Bool:=(ckI m tg f e).isSome
noncomputable def mF(m:MC)(f:List E)(e:List Expr):Bool:=(ckF m f e).isSome
section
variable {W:WD}
def sE(f:E)(S:SX k W m C X)(h:mE m f e=true):PV C X e (evE W f):=got h S
def sT(f:E)(S:SX k W m C X)(h:mT m f e=true):PTv C X e (evE W f):=got h S
def sI(f:E)(S:SX k W m C X)(h:mI m tg f e=true):PIv C X tg e (evE W f):=got h S
def sF(fs:List E){es:List Expr}(S:SX k W m C X)(h:mF m fs es=true):dA X es (tT (C.at X) (evF W fs)):=gF h S
end
inductive G where|app (k v:E)|for (it:E) (t:Tg) (g:G)
inductive S where
 |ret (e:E)|retV (i:Nat)|set (i:Nat) (e:E)|ite (c:E) (a b:List S)|for (it:E) (t:Tg) (body:List S)
 |never
 |app (i:Nat) (e:E)|lput (i:Nat) (k e:E)|setC (i:Nat) (fz:Bool) (e:E)|nput (i:Nat) (k e:E)|frzV (i:Nat)|nfrz (i:Nat)
mutual
noncomputable def evS(W:WD):S->Rho->aH
 |.ret e,ρ=>jL (evE W e ρ) ρ
 |.retV i,ρ=>fT ρ i
 |.set i e,ρ=>dS ρ i (evE W e ρ)
 |.ite c a b,ρ=>ifS (evE W c ρ) ρ (evB W a ρ) (evB W b ρ)
 |.for it t body,ρ=>fU (evE W it ρ) ρ (aU t) (evB W body)
 |.app i e,ρ=>eF ρ i (evE W e ρ)
 |.lput i k e,ρ=>gN ρ i (evE W k ρ) (evE W e ρ)
 |.frzV i,ρ=>hG ρ i
 |.nfrz i,ρ=>j0 ρ i
 |.nput i k e,ρ=>lT ρ i (evE W k ρ) (evE W e ρ)
 |.setC i fz e,ρ=>dS ρ i (if fz=true then aZ (evE W e ρ)else evE W e ρ)
 |.never,_=>.stuck
noncomputable def evB(W:WD):List S->Rho->aH
 |[],ρ=>.nx ρ
 |s::r,ρ=>(evS W s ρ).thn (evB W r)
end
noncomputable def mH:Expr->Bool|.ListComp ..=>false|.SetComp ..=>false|.DictComp ..=>false|_=>true
noncomputable def mC(m:MC)(elt:Expr)(scope:Scope):E->List Comprehension->Bool
 |.comp el it ts aB t n,gens=>match gens with
  |[⟨tg,aF,ifs,0⟩] =>
   let aE:=aB.filterMap λi=>m.N[i]?
   let tgN:=bA 4 tg
   m.calm&&hW scope m.sc m.N aB aE tgN&&f7 aF&&decide (tgN.length=n)&&(fV t).all (λj=>decide (aB.length<=j))&&mG (m.sub scope aE tgN) t tg&&(mI m tg it aF&&(mE (m.sub scope aE tgN) el elt&&mF (m.sub scope aE tgN) ts ifs))
  |_=>false
 |.comp2 el it it2 ts aB,gens=>match gens with
  |[⟨tg,aF,ifs,0⟩,⟨tg2,aM,[],0⟩] =>
   let aE:=aB.filterMap λi=>m.N[i]?
   let tgN:=bA 4 tg++bA 4 tg2
   m.calm&&hW scope m.sc m.N aB aE tgN&&f7 aF&&f7 aM&&decide (tgN.length=2)&&mG (m.sub scope aE tgN) (.nm aB.length) tg&&mG (m.sub scope aE tgN) (.nm (aB.length+1)) tg2&&(mI m tg it aF&&(mI (m.sub scope aE tgN) tg2 it2 aM&&(mE (m.sub scope aE tgN) el elt&&mF (m.sub scope aE tgN) ts ifs)))
  |_=>false
 |_,_=>false
def rT{t:Option Expr}(h:mH e=true):swapsWith e t n env=pure false:=by cases e <;> first|rfl|cases h
def aLT{p:Pos}(hs:env.scope=m.sc)(h:(mH e||m.kind x==some .cell)=true):swapsWith e (some (.Name x p)) n env=pure false:=by
 rw[aSA,aQM]at h;rcases h with h|h
 . exact rT h
 . have hk:env.kindOf x=some .cell:=by show env.scope.names.lookup x=_;rw[hs];exact h
   unfold swapsWith;have kc:(NameKind.cell==NameKind.local)=false:=by decide
   cases e <;> first|rfl|(simp[hk,kc])
def aLU:PSv C X st (λ_=>.stuck):=λaA s σ H En I q=>by obtain⟨ρ,F,R,w⟩:=q;exact w.elim
section
variable {W:WD}
structure SB(k:Nat)(W:WD)(m:MC)(C:Cw)(X:Cx):Prop extends SX k W m C X where
 nd:m.N.Nodup
 hp:PassesOwn (model X.prog X.w) X.A X.env X.xe
 ro:m.rz=true->RzOk (C.at X) X/\FnCx X/\XOk (HX1 X.prog X.w) (C.at X) X
end
def aLV{W:WD}(S:SB k W m C X)(fz:Bool){el it:E}{ts:List E}{t:Tg}{px sp:Pos}{gens:List Comprehension}(h1:m.N[i]? = some x)(h2:m.kind x=some .local)(h3:m.sc.kind=.function)(h4:px.line=cp.line)(h5:(scope.names.any λy=>y.1==x&&(y.2 == .local||y.2 == .cell))=false)(h:mC m elt scope (.comp el it ts aB t n) gens=true):PSv C X (.Assign [.Name x px] (.ListComp elt gens scope cp) sp) (λρ=>dS ρ i (if fz=true then aZ (evE W (.comp el it ts aB t n) ρ)else evE W (.comp el it ts aB t n) ρ)):=by
 have hk:X.env.scope.names.lookup x=some .local:=by rw[S.hs];exact h2
 conv at h=>lhs;whnf
 split at h
 . rename_i tg aF ifs;simp only[aRJ,aR8,aTZ]at h;obtain⟨⟨⟨⟨⟨⟨hq,ho⟩,hn⟩,hl⟩,hs⟩,hg⟩,k1,k2,k3⟩:=h;unfold hW at ho;simp only[aRJ,aTZ,aSA,aVI,aQM,aR8,aVJ]at ho;obtain⟨⟨⟨⟨⟨⟨⟨g1,g2⟩,g3⟩,g4⟩,g5⟩,g6⟩,g7⟩,g8⟩:=ho;have er:(relabel scope X.env).names=jO scope m.sc:=by rw[<- S.hs];rfl
   have bk:X.env.blockKind=.function:=by unfold Env.blockKind;rw[S.hs,h3];rfl
   have hsw:swapsWith (.ListComp elt [⟨tg,aF,ifs,0⟩] scope cp) (some (.Name x px)) sp.line X.env=pure true:=by
    have kx:X.env.kindOf x=some .local:=hk;unfold swapsWith;have k1:(ScopeKind.function==ScopeKind.function)=true:=by decide
    have k2:(some NameKind.local==some NameKind.local)=true:=by decide
    simp only[bk,kx,Expr.pos,h4,h5,k1,k2,aSP];rfl
   have := aG8 fz (pos := cp) (pos' := px) (spos := sp) (i := i) (x := x) (tgN := bA 4 tg) (t := t) (S.cm hq) (sI it S.toSX k1) g1 g2 (fun y hy e => (g3 y hy).resolve_left fun z => z e) (fun y hy e => by
       have:=g4 y hy;show X.env.scope.names.lookup y.1=_\/X.env.scope.names.lookup y.1=_;rw[S.hs];rcases this with(z|z)|z
       . exact absurd e z
       . exact .inl z
       . exact .inr z) (by rw[S.hN];exact g5) g6 (λy hy=>by rw[er];exact g7 y hy) (λj hj=>hs j hj) (λcl A fp s3 H3=>sG (S.toSX.sub cl A fp s3 H3) g8 t hg)
       (λcl A fp s3 H3=>sF ts (S.toSX.sub cl A fp s3 H3) k3) (λcl A fp s3 H3=>sE el (S.toSX.sub cl A fp s3 H3) k2) (by rw[S.hN];exact S.nd) (by rw[S.hN];exact h1) hk hsw (iU hn)
   rw[hl]at this;exact this
 . cases h
def aLW{W:WD}(S:SB k W m C X)(fz:Bool){el it it2:E}{ts:List E}{px sp:Pos}{gens:List Comprehension}(h1:m.N[i]? = some x)(h2:m.kind x=some .local)(h3:m.sc.kind=.function)(h4:px.line=cp.line)(h5:(scope.names.any λy=>y.1==x&&(y.2 == .local||y.2 == .cell))=false)(h:mC m elt scope (.comp2 el it it2 ts aB) gens=true):PSv C X (.Assign [.Name x px] (.ListComp elt gens scope cp) sp) (λρ=>dS ρ i (if fz=true then aZ (evE W (.comp2 el it it2 ts aB) ρ)else evE W (.comp2 el it it2 ts aB) ρ)):=by
 have hk:X.env.scope.names.lookup x=some .local:=by rw[S.hs];exact h2
 conv at h=>lhs;whnf
 split at h
 . rename_i tg aF ifs tg2 aM;simp only[aRJ,aR8]at h;obtain⟨⟨⟨⟨⟨⟨⟨hq,ho⟩,hn⟩,hn2⟩,hl⟩,hg⟩,hg2⟩,k1,k2,k3,k4⟩:=h;obtain⟨g1,g2,g3,g4,g5,g6,g7,g8⟩:=yV S.toSX ho;have bk:X.env.blockKind=.function:=by unfold Env.blockKind;rw[S.hs,h3];rfl
   have hsw:swapsWith (.ListComp elt [⟨tg,aF,ifs,0⟩,⟨tg2,aM,[],0⟩] scope cp) (some (.Name x px)) sp.line X.env=pure true:=by
    have kx:X.env.kindOf x=some .local:=hk;unfold swapsWith;have k1:(ScopeKind.function==ScopeKind.function)=true:=by decide
    have k2:(some NameKind.local==some NameKind.local)=true:=by decide
    simp only[bk,kx,Expr.pos,h4,h5,k1,k2,aSP];rfl
   exact aII (pos:=cp) (pos':=px) (spos:=sp) (i:=i) (x:=x) (tgN:=bA 4 tg++bA 4 tg2) (S.cm hq) (sI it S.toSX k1) g1 g2 g3 g4 g5 g6 g7 hl (λcl A fp s3 H3=>sG (S.toSX.sub cl A fp s3 H3) g8 (.nm aB.length) hg) (λcl A fp s3 H3=>sF ts (S.toSX.sub cl A fp s3 H3) k4)
    (λcl A fp s3 H3=>sI it2 (S.toSX.sub cl A fp s3 H3) k2) (λcl A fp s3 H3=>sG (S.toSX.sub cl A fp s3 H3) g8 (.nm (aB.length+1)) hg2) (λcl A fp s3 H3=>sE el (S.toSX.sub cl A fp s3 H3) k3) (iU hn) (λ_=>iU hn2) fz (by rw[S.hN];exact S.nd) (by rw[S.hN];exact h1) hk hsw
 . cases h
abbrev CkS(m:MC)(f:D3.S)(st:Stmt):Type:=Option (PLift (∀{k:Nat}{W:WD}{C:Cw}{X:Cx},SB k W m C X->PSv C X st (evS W f)))
abbrev CkB(m:MC)(f:List D3.S)(sts:List Stmt):Type:=Option (PLift (∀{k:Nat}{W:WD}{C:Cw}{X:Cx},SB k W m C X->PBv C X sts (evB W f)))
noncomputable def aLX{f}{e:_}{p1:_}:CkS m (.ret f) (.Return (some e) p1):=if h:(mE m f e)=true then some ⟨λS=>by
 exact aFL (sE f S.toSX h)⟩else none
noncomputable def aLY{i:_}{x:_}{p1:_}{p2:_}:CkS m (.retV i) (.Return (some (.Name x p1)) p2):=if h:(m.N[i]?==some x&&m.vis x)=true then some ⟨λS=>by
 simp only[aRJ,aQM]at h;obtain⟨h1,h2,h3⟩:=S.toSX.vis h.2
 exact aFM i (kN (by rw[S.hN];exact h.1) h1 h2 h3)⟩else none
noncomputable def aLZ{i:_}{f}{x:_}{p1:_}{e:_}{p3}:CkS m (.set i f) (.Assign [.Name x p1] e p3):=if h:(m.loc i x&&(mH e||m.kind x==some .cell)&&mE m f e)=true then some ⟨λS=>by
 simp only[aRJ]at h;obtain⟨⟨h1,h2⟩,h3⟩:=h;obtain⟨b,c,d⟩:=S.toSX.loc h1
 exact aFO (by rw[S.hN];exact S.nd) b c (sE f S.toSX h3) (aLT S.hs h2) d⟩else none
noncomputable def aL0{i:_}{f}{g:_}{x:_}{p1:_}{k:_}{p3}{e:_}{p5}:CkS m (.nput i f g) (.Assign [.Subscript (.Name x p1) k p3] e p5):=if h:(m.N[i]?==some x&&m.vis x&&mH e&&mE m f k&&mE m g e)=true then some ⟨λS=>by
 simp only[aRJ,aQM]at h;obtain⟨⟨⟨⟨h1,h2⟩,h3⟩,h4⟩,h5⟩:=h;obtain⟨v1,v2,v3⟩:=S.toSX.vis h2
 exact aI3 i S.un (kN (by rw[S.hN];exact h1) v1 v2 v3) (sE f S.toSX h4) (sE g S.toSX h5) (rT h3)⟩else none
noncomputable def aL1{i:_}{fz}{f}{x:_}{px}{elt:_}{gens}{scope:_}{cp:_}{p6}:CkS m (.setC i fz f) (.Assign [.Name x px] (.ListComp elt gens scope cp) p6):=if h:(m.N[i]?==some x&&m.kind x==some .local&&m.sc.kind == .function&&px.line==cp.line&&!(scope.names.any λy=>y.1==x&&(y.2 == .local||y.2 == .cell))&&mC m elt scope f gens)=true then some ⟨λS=>by
 simp only[aRJ,aQM,aTY]at h;obtain⟨⟨⟨⟨⟨h1,h2⟩,h3⟩,h4⟩,h5⟩,h7⟩:=h;cases f with
 |comp el it ts aB t n=>exact aLV S fz h1 h2 h3 h4 h5 h7
 |comp2 el it it2 ts aB=>exact aLW S fz h1 h2 h3 h4 h5 h7
 |_=>cases h7⟩else none
noncomputable def aL2{f}{a}{b:_}{c:_}{x:_}{y:_}{p3}(r1:CkB m a x)(r2:CkB m b y):CkS m (.ite f a b) (.If c x y p3):=if h:(mT m f c&&(r1.isSome&&r2.isSome))=true then some ⟨λS=>by
 simp only[aRJ]at h;obtain⟨h1,h2,h3⟩:=h;exact aFN (sT f S.toSX h1) (got h2 S) (got h3 S)⟩else none
noncomputable def aL3{f}{t}{b:_}{tg:_}{e:_}{body:_}{p3}(r1:CkB m b body):CkS m (.for f t b) (.For tg e body [] p3):=if h:(m.calm&&mG m t tg&&f7 e&&(mI m tg f e&&r1.isSome))=true then some ⟨λS=>by
 simp only[aRJ]at h;obtain⟨⟨⟨hq,h1⟩,h2⟩,h3,h4⟩:=h;exact aFV S.hp (S.cm hq) (sI f S.toSX h3) (aG6 (sG S.toSX S.nd t h1)) (got h4 S) (iU h2)⟩else none
noncomputable def aL4{i:_}{f}{x:_}{p1:_}{a}{ap}{e:_}{cp:_}{p6}:CkS m (.app i f) (.Expr (.Call (.Attribute (.Name x p1) a ap) [e] [] cp) p6):=if h:(m.N[i]?==some x&&m.vis x&&a == "append" && ap.endLine==cp.line&&cP e&&mE m f e)=true then some ⟨λS=>by
 simp only[aRJ,aQM]at h;obtain⟨⟨⟨⟨⟨h1,h2⟩,rfl⟩,h3⟩,h4⟩,h5⟩:=h;obtain⟨v1,v2,v3⟩:=S.toSX.vis h2
 exact aHG i (kN (by rw[S.hN];exact h1) v1 v2 v3) (sE f S.toSX h5) h4 h3⟩else none
noncomputable def aL5{i:_}{f}{g:_}{x:_}{p1:_}{k:_}{p3}{e:_}{p5}:CkS m (.lput i f g) (.Assign [.Subscript (.Name x p1) k p3] e p5):=if h:(m.N[i]?==some x&&m.vis x&&mH e&&mE m f k&&mE m g e)=true then some ⟨λS=>by
 simp only[aRJ,aQM]at h;obtain⟨⟨⟨⟨h1,h2⟩,h3⟩,h4⟩,h5⟩:=h;obtain⟨v1,v2,v3⟩:=S.toSX.vis h2
 exact aIR i (kN (by rw[S.hN];exact h1) v1 v2 v3) (sE f S.toSX h4) (sE g S.toSX h5) (rT h3)⟩else none
def aL6{W:WD}(S:SB k W m C X):PBv C X [] (evB W []):=by
 have:evB W []=λρ=>.nx ρ:=by funext ρ;simp only[evB]
 rw[this];exact aFI
noncomputable def aL7{i fs sts:_}(r:CkB m fs sts):CkB m (.frzV i::fs) sts:=if h:r.isSome=true then some ⟨λ{k}{W}{C}{X} S=>by
 have:evB W (.frzV i::fs)=λρ=>(hG ρ i).thn (evB W fs):=by funext ρ;rfl
 rw[this];exact aHM (got h S)⟩else none
noncomputable def aL8{i fs sts:_}(r:CkB m fs sts):CkB m (.nfrz i::fs) sts:=if h:r.isSome=true then some ⟨λ{k}{W}{C}{X} S=>by
 have:evB W (.nfrz i::fs)=λρ=>(j0 ρ i).thn (evB W fs):=by funext ρ;rfl
 rw[this];exact aJZ (got h S)⟩else none
noncomputable def aL9{f fs st sts:_}(r:CkS m f st)(r2:CkB m fs sts):CkB m (f::fs) (st::sts):=if h:(r.isSome&&r2.isSome)=true then some ⟨λ{k}{W}{C}{X} S=>by
 rw[aRJ]at h;have:evB W (f::fs)=λρ=>(evS W f ρ).thn (evB W fs):=by funext ρ;simp only[evB]
 rw[this];exact aFK (got h.1 S) (got h.2 S)⟩else none
set_option maxHeartbeats 4000000 in
mutual
noncomputable def ckS:(m:MC)->(f:D3.S)->(st:Stmt)->CkS m f st
 |m,.never,st=>some ⟨λ_=>aLU⟩
 |_,.frzV _,_=>none
 |_,.nfrz _,_=>none
 |m,.ret f,st=>match st with|.Return (some e) p1=>aLX|_=>none
 |m,.retV i,st=>match st with|.Return (some (.Name x p1)) p2=>aLY|_=>none
 |m,.set i f,st=>match st with|.Assign [.Name x p1] e p3=>aLZ|_=>none
 |m,.nput i f g,st=>match st with|.Assign [.Subscript (.Name x p1) k p3] e p5=>aL0|_=>none
 |m,.setC i fz f,st=>match st with|.Assign [.Name x px] (.ListComp elt gens scope cp) p6=>aL1|_=>none
 |m,.ite f a b,st=>match st with|.If c x y p3=>aL2 (ckB m a x) (ckB m b y)|_=>none
 |m,.for f t b,st=>match st with|.For tg e body [] p3=>aL3 (ckB m b body)|_=>none
 |m,.lput i f g,st=>match st with|.Assign [.Subscript (.Name x p1) k p3] e p5=>aL5|_=>none
 |m,.app i f,st=>match st with|.Expr (.Call (.Attribute (.Name x p1) a ap) [e] [] cp) p6=>aL4|_=>none
noncomputable def ckB:(m:MC)->(f:List D3.S)->(sts:List Stmt)->CkB m f sts
 |m,[],sts=>match sts with|[]=>some ⟨λS=>aL6 S⟩|_=>none
 |m,.frzV i::fs,sts=>aL7 (ckB m fs sts)
 |m,.nfrz i::fs,sts=>aL8 (ckB m fs sts)
 |m,f::fs,sts=>match sts with|st::sts=>aL9 (ckS m f st) (ckB m fs sts)|_=>none
end
noncomputable def mB(m:MC)(f:List D3.S)(sts:List Stmt):Bool:=(ckB m f sts).isSome
def sB{W:WD}(S:SB k W m C X)(f:List D3.S)(h:mB m f sts=true):PBv C X sts (evB W f):=got h S
abbrev IB:=Unit
structure FD where
 ps:List Str
 N:List Str
 b:List D3.S
structure ID where
 c:Str
 ps:List Str
 N:List Str
 ib:IB
structure TB where
 T:List (Str×FD)
 I:List (Str×ID)
 cl:List CI
 xt:List ((Str×Str)×Bool)
 xi:List ((Str×Str)×Bool)
noncomputable def rV(W:WD)(i:ID):List D->Res:=λ_=>.stuck
noncomputable def mJ(t:TB)(W:WD)(f:Str):List D->Res:=match t.T.lookup f with
 |some d=>phi d.ps.length d.N.length (evB W d.b)
 |none=>λ_=>.stuck
noncomputable def WT(t:TB):Nat->WD
 |0=>⟨λ_ _=>.stuck,λ_ _=>.stuck,λ_=>none,t.cl,t.xt,t.xi,false⟩
 |1=>⟨λf=>mJ t ⟨λ_ _=>.stuck,λ_ _=>.stuck,λ_=>none,t.cl,t.xt,t.xi,false⟩ f,λ_ _=>.stuck,λ_=>none,t.cl,t.xt,t.xi,true⟩
 |k+2=>⟨λf=>mJ t (WT t (k+1)) f,(WT t (k+1)).Φ,λkey=>match t.I.lookup key with|some i=>some (rV (WT t k) i)|none=>none,t.cl,t.xt,t.xi,true⟩
def oP(t:TB):∀k,(WT t k).cl=t.cl
 |0=>rfl
 |1=>rfl
 |k+2=>rfl
def yW(t:TB):∀k,(WT t k).xt=t.xt
 |0=>rfl
 |1=>rfl
 |k+2=>rfl
def yX(t:TB):∀k,(WT t k).xi=t.xi
 |0=>rfl
 |1=>rfl
 |k+2=>rfl
def WT_Φ(t:TB):∀k f,(WT t (k+1)).Φ f=mJ t (WT t k) f
 |0,f=>rfl
 |k+1,f=>rfl
noncomputable def iV(g:MG)(key:Str)(st:Stmt)(d:FD):Bool:=rS d.N d.ps (fQ st)&&mB ⟨d.N,fQ st,g,true,true,true,key⟩ d.b (jG st)
noncomputable def idOk(g:MG)(st:Stmt)(d:ID):Bool:=false
noncomputable def yY(K:Fg)(g:MG)(fa:Str->Addr)(key:Str)(d:FD):Prop :=
 ∃name st fd,Fun K name key st (fa key) fd/\fP K fd d.ps []/\iV g key st d=true
noncomputable def mK(K:Fg)(g:MG)(fa:Str->Addr):List (Str×FD)->Prop
 |[]=>True
 |(x,d)::r=>yY K g fa x d/\mK K g fa r
theorem mK.at{K:Fg}{g:MG}:∀{T:List (Str×FD)}{x:Str}{d:FD},mK K g fa T->T.lookup x=some d->yY K g fa x d
 |[],_,_,_,e=>by cases e
 |(y,d')::r,x,d,h,e=>by
  rw[aR6]at e;split at e
  . rename_i hb;cases e;rw[aQM]at hb;subst hb;exact h.1
  . exact h.2.at e
noncomputable def yZ(K:Fg)(mg:SOV)(g:MG)(key:Str)(d:ID):Prop :=
 ∃name st C f fd,W.nsIn K mainGlobals d.c=some (some (.ref C))/\mg d.c=some (.ref C)/\Mk K C f/\Fun K name key st f fd/\fP K fd d.ps []/\idOk g st d=true
noncomputable def mL(K:Fg)(mg:SOV)(g:MG):List (Str×ID)->Prop
 |[]=>True
 |(x,d)::r=>yZ K mg g x d/\mL K mg g r
theorem mL.at{K:Fg}{g:MG}:∀{T:List (Str×ID)}{x:Str}{d:ID},mL K mg g T->T.lookup x=some d->yZ K mg g x d
 |[],_,_,_,e=>by cases e
 |(y,d')::r,x,d,h,e=>by
  rw[aR6]at e;split at e
  . rename_i hb;cases e;rw[aQM]at hb;subst hb;exact h.1
  . exact h.2.at e
noncomputable def GVOk(w:aVW)(K:Fg)(mg:SOV)(fa:Str->Addr)(x:Str):GV->Prop
 |.con (.s y)=>∃t,mg x=some (.str y t)
 |.con (.i n)=>∃t,mg x=some (.int n t)
 |.con (.t tb)=>jR w K mg x tb
 |.no=>mg x=none
 |.fn _=>mg x=some (.ref (fa x))
 |.cls=>True
noncomputable def mM(w:aVW)(K:Fg)(mg:SOV)(fa:Str->Addr):List (Str×GV)->Prop
 |[]=>True
 |(x,v)::r=>GVOk w K mg fa x v/\mM w K mg fa r
theorem mM.at{K:Fg}:∀{G:List (Str×GV)}{x:Str}{v:GV},mM w K mg fa G->G.lookup x=some v->GVOk w K mg fa x v
 |[],_,_,_,e=>by cases e
 |(y,v')::r,x,v,h,e=>by
  rw[aR6]at e;split at e
  . rename_i hb;cases e;rw[aQM]at hb;subst hb;exact h.1
  . exact h.2.at e
noncomputable def gOk(G:List (Str×GV))(T:List (Str×FD)):Bool:=G.all λ(x,v)=>match v with|.fn n=>(match T.lookup x with|some d=>d.ps.length==n|none=>false)|_=>true
theorem rW{T:List (Str×FD)}:∀{G:List (Str×GV)}{x:Str}{n:Nat},gOk G T=true->G.lookup x=some (.fn n)->∃d,T.lookup x=some d/\d.ps.length=n
 |[],_,_,_,e=>by cases e
 |(y,v')::r,x,n,h,e=>by
  unfold gOk at h;rw[aVK,aRJ]at h;rw[aR6]at e;split at e
  . rename_i hb;cases e;rw[aQM]at hb;subst hb;have h1:=h.1;dsimp only at h1;cases q:T.lookup x with
    |none=>rw[q]at h1;cases h1
    |some d=>rw[q]at h1;exact⟨d,rfl,by simpa using h1⟩
  . exact rW (G:=r) h.2 e
noncomputable def mtOk(cl:List CI)(T:List (Str×FD)):Bool:=cl.all λi=>i.meths.all λ(_,key,n)=>match T.lookup key with|some d=>d.ps.length==n|none=>false
noncomputable def y0(mki:List (Str×Str×Nat))(I:List (Str×ID)):Bool:=mki.all λ(c,key,n)=>match I.lookup key with|some d=>d.c==c&&d.ps.length==n+1|none=>false
noncomputable def j4(K:Fg)(fa:Str->Addr)(C:Addr):List (Str×Str×Nat)->Prop
 |[]=>True
 |(m,key,_)::r=>kR K C m (fa key)/\j4 K fa C r
noncomputable def j5(K:Fg)(C:Addr):List Str->Prop
 |[]=>True
 |f::r=>pV K C f/\j5 K C r
noncomputable def mN(K:Fg)(fa:Str->Addr):List CI->Prop
 |[]=>True
 |i::r=>(∃C,W.nsIn K mainGlobals i.name=some (some (.ref C))/\Cls K C/\j4 K fa C i.meths/\j5 K C i.flds)/\mN K fa r
theorem mN.at{K:Fg}:∀{cl:List CI}{i:CI},mN K fa cl->i∈cl->∃C,W.nsIn K mainGlobals i.name=some (some (.ref C))/\Cls K C/\j4 K fa C i.meths/\j5 K C i.flds
 |[],_,_,h=>by cases h
 |j::r,i,h,hi=>by
  rcases aPY.mp hi with rfl|hi
  . exact h.1
  . exact h.2.at hi
theorem j5.at{K:Fg}{C:Addr}:∀{l:List Str}{f:Str},j5 K C l->f∈l->pV K C f
 |[],_,_,h=>by cases h
 |j::r,i,h,hi=>by
  rcases aPY.mp hi with rfl|hi
  . exact h.1
  . exact h.2.at hi
theorem j4.at{K:Fg}{C:Addr}:∀{l:List (Str×Str×Nat)}{m key:Str}{n:Nat},j4 K fa C l->l.lookup m=some (key,n)->kR K C m (fa key)
 |[],_,_,_,_,e=>by cases e
 |(m',key',n')::r,m,key,n,h,e=>by
  rw[aR6]at e;split at e
  . rename_i hb;cases e;rw[aQM]at hb;subst hb;exact h.1
  . exact h.2.at e
structure GF(w:aVW)(K:Fg)(mg:SOV)(g:MG)(t:TB)(fa:Str->Addr):Prop where
 con:mM w K mg fa g.G
 gok:gOk g.G t.T=true
 all:mK K g fa t.T
 alli:mL K mg g t.I
 mk0:∀c,c∈g.mk0->qE K mg c
 mkok:y0 g.mki t.I=true
 iso:∀c,c∈g.iso->IsV K mg t.cl c
 cls:mN K fa t.cl
 mtok:mtOk t.cl t.T=true
 xtok:qL K mg (λc x=>t.xt.lookup (c,x))
 xiok:qM K mg (λc x=>t.xi.lookup (c,x))
 xcok:∀c,c∈g.xcs->∃Cc,mg c=some (.ref Cc)/\wD K Cc
 xnok:∀n,n∈g.xns->∃cv,nZ mg n cv
def y6{K:Fg}{vs:List V}{Q:VK}{E:XK}(hz:∀ds,Φ ds=.stuck)(h:spV K mg n Φ vs H Q E):False:=by obtain⟨_,F,ds,_,_,h⟩:=h;rw[hz]at h;exact h
section
variable {K:Fg}{g:MG}{t:TB}
structure j6(P:aVX)(w:aVW)(K:Fg)(mg:SOV)(base:Heap)(t:TB)(fa:Str->Addr)(k:Nat):Prop where
 fn:∀key d,t.T.lookup key=some d->∃fd,cU P w K mg base (CX1 P w) k (fa key) fd d.ps (spV K mg d.ps.length ((WT t k).Φ key))/\fP K fd d.ps []/\W.keepIn K (.ref (fa key))=true
 fp:(WT t k).dp=true->∃j,j+1=k/\∀key d,t.T.lookup key=some d->∃fd,cU P w K mg base (CX1 P w) j (fa key) fd d.ps (spV K mg d.ps.length ((WT t k).Ψ key))/\fP K fd d.ps []/\W.keepIn K (.ref (fa key))=true
 ini:∀key d Φ,t.I.lookup key=some d->(WT t k).I key=some Φ->∃j,j+1<=k/\InV P w K mg base (CX1 P w) j d.c (d.ps.length-1) Φ
def sx_of(f:GF w K mg g t fa)(A:j6 P w K mg base t fa k){N:List Str}(hP:X.prog=P)(hw:X.w=w)(hK:X.K=K)(hmg:X.mg=mg)(hb:X.base=base)(hN:X.N=N)(hs:X.env.scope=sc)(cm:X.calm=true)(rm:cM k X.A)(hfn:∀x,X.fn x=true)(cd:q="" \/ (W.codeIn X.K X.env.code q=true/\X.env.qual=q ++ ".<locals>."))(xo:XOk (CX1 X.prog X.w) (C.at X) X):SX k (WT t k) ⟨N,sc,g,true,true,true,q⟩ C X:=by
 subst hP hw hK hmg hb;refine⟨hN,hs,λ_=>cm,λ_=>rm,rm.units,λ_=>xo,?_,?_,f.xcok,f.xnok,λy c l=>?_,λy l=>f.con.at l,λc hc=>f.mk0 c hc,λc key n hm Φ e=>?_,λc hc=>by rw[oP];exact f.iso c hc,λi f' hi hf=>?_,λc m key n e=>?_,λy n l=>?_,λ_=>hfn,λhd=>?_,cd⟩
 . unfold WD.xf;rw[yW];exact f.xtok
 . unfold WD.xg;rw[yX];exact f.xiok
 . have:=f.con.at l;cases c <;> exact this
 . have h1:=aTZ.mp f.mkok (c,key,n) hm;dsimp only at h1;cases q:t.I.lookup key with
   |none=>rw[q]at h1;cases h1
   |some d=>rw[q]at h1;simp only[aRJ,aQM]at h1;obtain⟨j,hj,M⟩:=A.ini key d Φ q e;rw[h1.1,h1.2]at M;exact⟨j,hj,M⟩
 . rw[oP]at hi;obtain⟨C',h1,h2,_,h4⟩:=f.cls.at hi;exact⟨C',h1,h2,h4.at hf⟩
 . rw[oP]at e;unfold CI.meth at e;split at e
   . rename_i i ei;have hi:=List.mem_of_find?_eq_some ei;have hn:i.name=c:=by simpa using List.find?_some ei
     obtain⟨C',h1,h2,h3,_⟩:=f.cls.at hi;have hmo:=aTZ.mp (aTZ.mp f.mtok i hi) (m,key,n) (aQV e);dsimp only at hmo;cases q:t.T.lookup key with
     |none=>rw[q]at hmo;cases hmo
     |some d=>rw[q]at hmo;rw[aQM]at hmo;obtain⟨fd,FO,hb,_⟩:=A.fn key d q;rw[hmo]at FO;exact⟨C',fa key,fd,d.ps,by rw[<- hn];exact h1,h2,h3.at e,FO,hb⟩
   . cases e
 . obtain⟨d,e,rfl⟩:=rW f.gok l;obtain⟨fd,FO,hb,hk⟩:=A.fn y d e;exact⟨fa y,fd,d.ps,FO,f.con.at l,hk,hb⟩
 . obtain⟨j,hj,fp⟩:=A.fp hd;refine⟨j,hj,λy n l=>?_⟩;obtain⟨d,e,rfl⟩:=rW f.gok l;obtain⟨fd,FO,hb,hk⟩:=fp y d e;exact⟨fa y,fd,d.ps,FO,f.con.at l,hk,hb⟩
def rX(f:GF w K mg g t fa)(A:j6 P w K mg base t fa k){d:FD}{name:Str}{a:Addr}(F:Fun K name key st a fd)(e:t.T.lookup key=some d)(ok:iV g key st d=true):cU P w K mg base (CX1 P w) (k+1) a fd d.ps (spV K mg d.ps.length ((WT t (k+1)).Φ key)):=by
 unfold iV at ok;rw[aRJ]at ok;have sc:=aLN ok.1;have:(WT t (k+1)).Φ key=phi d.ps.length d.N.length (evB (WT t k) d.b):=by rw[WT_Φ];unfold mJ;rw[e]
 rw[this];exact aHF (k:=k) F sc λC cdv hcd A' outer s H En hE hr=>sB (m:=⟨d.N,fQ st,g,true,true,true,key⟩) (X:=dP (CX1 P w) P w K mg base d.N key (fQ st) a cdv A' outer s H En) ⟨sx_of f A rfl rfl rfl rfl rfl rfl rfl rfl hr (λ_=>rfl) (.inr ⟨hcd,rfl⟩) (aHD (K:=K) (H:=H) (outer:=outer) hE),sc.nd,PassesOwn.leaving,λ_=>⟨aHE (K:=K) (H:=H) (outer:=outer) hE,fnCx,aHJ (K:=K) (H:=H) (outer:=outer) hE⟩⟩ d.b ok.2
def aMA(f:GF w K mg g t fa)(A:j6 P w K mg base t fa k){d:ID}(e:t.I.lookup key=some d):InV P w K mg base (CX1 P w) (k+1) d.c (d.ps.length-1) (rV (WT t k) d):=by obtain⟨name,st,C2,a,fd,ns,hm,M,F,hb,ok⟩:=f.alli.at e;cases ok
theorem zA(f:GF w K mg g t fa):∀k,j6 P w K mg base t fa k/\j6 P w K mg base t fa (k+1)
 |0=>by
  have A0:j6 P w K mg base t fa 0:=⟨λkey d e=>by
   obtain⟨name,st,fd,F,hb,_⟩:=f.all.at e;exact⟨fd,⟨λvs H Q En h=>(y6 (λ_=>rfl) h).elim,λA outer s H args us vs Q En _ _ _ _ h=>(y6 (λ_=>rfl) h).elim⟩,hb,F.kp⟩,(λz=>by cases z),λkey d Φ _ e=>by cases e⟩
  refine⟨A0,λkey d e=>?_,λ_=>⟨0,rfl,A0.fn⟩,λkey d Φ _ e=>by cases e⟩
  obtain⟨name,st,fd,F,hb,ok⟩:=f.all.at e;exact⟨fd,rX f A0 F e ok,hb,F.kp⟩
 |k+1=>by
  obtain⟨A0,A1⟩:=zA f k;refine⟨A1,λkey d e=>?_,λ_=>⟨k+1,rfl,A1.fn⟩,λkey d Φ e ei=>?_⟩
  . obtain⟨name,st,fd,F,hb,ok⟩:=f.all.at e;exact⟨fd,rX f A1 F e ok,hb,F.kp⟩
  . have ei:(match t.I.lookup key with|some i=>some (rV (WT t k) i)|none=>none)=some Φ:=ei
    rw[e]at ei;cases ei;exact⟨k+1,aQD _,aMA f A0 e⟩
end
noncomputable def rY(K:Fg)(Φ:List D->Res):Sp:=λvs H Q E=>∃a ns,vs=[.ref a]/\SqL K H a (ns.map V.int)/\Φ (nU ns)=.ok .fz (.bl true)/\∀H',Q (.bl true) H'
def aMB{K:Fg}{f:Addr}(h:cU P w K mg base CX k f fd ps (spV K mg 1 Φ)):cU P w K mg base CX k f fd ps (rY K Φ) :=
 h.imp λvs H Q E ⟨a,ns,e,hq,hp,q⟩=>by
  subst e;refine⟨rfl,H,nU ns,aG.refl _,aD.cons ?_ aD.nil,?_⟩
  . simp only[aC];exact⟨a,_,rfl,hq,vW ns⟩
  . rw[hp];exact⟨by decide,λv F' H' s rp _=>by rw[rp.bl];exact q H'⟩
def aMC{K:Fg}{g:MG}{t:TB}(f:GF w K mg g t fa)(k:Nat){a:Addr}{d:FD}(F:Fun K "law" "law" st a fd)(e:t.T.lookup ("law":Str)=some d)(ok:iV g "law" st d=true)(hl:d.ps.length=1):cU P w K mg base (CX1 P w) (k+1) a fd d.ps (rY K ((WT t (k+1)).Φ ("law":Str))):=by have:=rX (P:=P) (w:=w) (base:=base) f (zA f k).1 F e ok;rw[hl]at this;exact aMB this
section
variable {W:WD}{a b c:E}{es:List E}
@[simp] theorem e_var{i:_}:evE W (.var i) ρ=eZ ρ i:=Eq.trans rfl rfl
@[simp] theorem e_non:evE W .non ρ=.ok .fz .non:=Eq.trans rfl rfl
@[simp] theorem e_bl{b:_}:evE W (.bl b) ρ=.ok .fz (.bl b):=Eq.trans rfl rfl
@[simp] theorem e_int{i:_}:evE W (.int i) ρ=.ok .fz (.int i):=Eq.trans rfl rfl
@[simp] theorem e_str{x:_}:evE W (.str x) ρ=.ok .fz (.str x):=Eq.trans rfl rfl
@[simp] theorem e_globS{x y:_}:evE W (.glob x (.s y)) ρ=.ok .fz (.str y):=Eq.trans rfl rfl
@[simp] theorem e_globI{x y:_}:evE W (.glob x (.i y)) ρ=.ok .fz (.int y):=Eq.trans rfl rfl
@[simp] theorem e_ty{t:Ty}:evE W (.ty t) ρ=.ok .fz (.ty t.id):=Eq.trans rfl rfl
@[simp] theorem e_bin{op}:evE W (.bin op a b) ρ=op2 (bC op) (evE W a ρ) (evE W b ρ):=Eq.trans rfl rfl
@[simp] theorem e_cmp{op}:evE W (.cmp op a b) ρ=op2 (bR op) (evE W a ρ) (evE W b ρ):=Eq.trans rfl rfl
@[simp] theorem e_andL:evE W (.andL es) ρ=evA W es ρ:=Eq.trans rfl rfl
@[simp] theorem e_orL:evE W (.orL es) ρ=dG W es ρ:=Eq.trans rfl rfl
@[simp] theorem e_not:evE W (.not a) ρ=kW (evE W a ρ):=Eq.trans rfl rfl
@[simp] theorem e_neg:evE W (.neg a) ρ=nS (evE W a ρ):=Eq.trans rfl rfl
@[simp] theorem e_tru:evE W (.tru a) ρ=kU (evE W a ρ):=Eq.trans rfl rfl
@[simp] theorem e_frz:evE W (.frz a) ρ=aZ (evE W a ρ):=Eq.trans rfl rfl
@[simp] theorem e_ix:evE W (.ix a b) ρ=op2 ixD (evE W a ρ) (evE W b ρ):=Eq.trans rfl rfl
@[simp] theorem e_slice{l h:_}:evE W (.slice a l h) ρ=slP (evE W a ρ) (evO W l) (evO W h) ρ:=Eq.trans rfl rfl
@[simp] theorem e_tup:evE W (.tup es) ρ=iI (bS W es ρ):=Eq.trans rfl rfl
@[simp] theorem e_lst:evE W (.lst es) ρ=iJ (bS W es ρ):=Eq.trans rfl rfl
@[simp] theorem aMD{f n:_}:evE W (.call f n es) ρ=a6 n (W.Φ f) (bS W es ρ):=Eq.trans rfl rfl
@[simp] theorem e_bcall{f:Bn}:evE W (.bcall f es) ρ=fR f.f (bS W es ρ):=Eq.trans rfl rfl
@[simp] theorem e_items:evE W (.items a) ρ=gZ (aZ (evE W a ρ)):=Eq.trans rfl rfl
@[simp] theorem e_rng1:evE W (.rng1 a) ρ=eP (cZ (evE W a ρ) (.ok [])):=Eq.trans rfl rfl
@[simp] theorem e_nnew:evE W .nnew ρ=.ok .fr (.dtn []):=Eq.trans rfl rfl
@[simp] theorem e_nix:evE W (.nix a b) ρ=op2 lP (evE W a ρ) (evE W b ρ):=Eq.trans rfl rfl
@[simp] theorem e_nget{k d:E}:evE W (.nget a k d) ρ=lQ (evE W a ρ) (evE W k ρ) (evE W d ρ):=Eq.trans rfl rfl
@[simp] theorem e_nkeys:evE W (.nkeys a) ρ=lZ (evE W a ρ):=Eq.trans rfl rfl
@[simp] theorem e_srtw:evE W (.srtw a) ρ=fR fE (cZ (evE W a ρ) (.ok [])):=Eq.trans rfl rfl
@[simp] theorem e_us4:evE W (.us4 a) ρ=fG (evE W a ρ):=Eq.trans rfl rfl
@[simp] theorem aME{b2:E}{ts:List E}{aB:_}:evE W (.comp2 a b b2 ts aB) ρ=gM (evE W b ρ) ρ aB (λρ=>evF W ts ρ) (λρ=>evE W b2 ρ) (λρ=>evE W a ρ):=Eq.trans rfl rfl
@[simp] theorem aMF{ts:List E}{aB t n:_}:evE W (.comp a b ts aB t n) ρ=dB (evE W b ρ) ρ aB n (aU t) (λρ=>evF W ts ρ) (λρ=>evE W a ρ):=Eq.trans rfl rfl
@[simp] theorem el_nil:evL W []=[]:=by simp only[evL]
@[simp] theorem el_cons:evL W (a::es)=evE W a::evL W es:=by simp only[evL]
@[simp] theorem sg_nm{d:D}:aU (.nm i) d ρ=some (ρ.set i (some (false,d))):=by simp only[aU]
@[simp] theorem sg_tp{ts:List Tg}:aU (.tp ts) (.tup ds) ρ=dC ts ds ρ:=by simp only[aU]
@[simp] theorem sg_tpl{ts:List Tg}:aU (.tp ts) (.lst ds) ρ=dC ts ds ρ:=by simp only[aU]
@[simp] theorem sgs_nil:dC [] [] ρ=some ρ:=by simp[dC]
@[simp] theorem sgs_cons{t:Tg}{ts:List Tg}{d:D}:dC (t::ts) (d::ds) ρ=(aU t d ρ).bind (dC ts ds):=by simp only[dC];cases aU t d ρ <;> rfl
@[simp] theorem e_tcall{t:Ty}:evE W (.tcall t es) ρ=fR t.f (bS W es ρ):=Eq.trans rfl rfl
@[simp] theorem e_meth{x:_}:evE W (.meth a x es) ρ=cA W.cl W.Φ x (evE W a ρ) (bS W es ρ):=Eq.trans rfl rfl
@[simp] theorem e_mk0{x:_}:evE W (.mk0 x) ρ=.ok .fr (.ins x []):=Eq.trans rfl rfl
@[simp] theorem aMG:bS W [] ρ=.ok []:=by simp only[bS]
@[simp] theorem aMH:bS W (a::es) ρ=cZ (evE W a ρ) (bS W es ρ):=by simp only[bS]
@[simp] theorem ea_one:evA W [a] ρ=evE W a ρ:=by simp only[evA]
@[simp] theorem ea_cons:evA W (a::b::es) ρ=fA (evE W a ρ) (evA W (b::es) ρ):=by simp only[evA]
@[simp] theorem eo_one:dG W [a] ρ=evE W a ρ:=by simp only[dG]
@[simp] theorem eo_cons:dG W (a::b::es) ρ=orR (evE W a ρ) (dG W (b::es) ρ):=by simp only[dG]
@[simp] theorem aMI:evF W [] ρ=.ok .fz (.bl true):=by simp only[evF]
@[simp] theorem ef_cons:evF W (a::es) ρ=fA (evE W a ρ) (evF W es ρ):=by simp only[evF]
@[simp] theorem eo_none:evO W none=none:=by simp only[evO]
@[simp] theorem eo_some:evO W (some a)=some (evE W a):=by simp only[evO]
@[simp] theorem s_ret:evS W (.ret a) ρ=jL (evE W a ρ) ρ:=Eq.trans rfl rfl
@[simp] theorem s_retV{i:_}:evS W (.retV i) ρ=fT ρ i:=Eq.trans rfl rfl
@[simp] theorem s_set{i:_}:evS W (.set i a) ρ=dS ρ i (evE W a ρ):=Eq.trans rfl rfl
@[simp] theorem s_ite{x y:List S}:evS W (.ite a x y) ρ=ifS (evE W a ρ) ρ (evB W x ρ) (evB W y ρ):=Eq.trans rfl rfl
@[simp] theorem s_for{t:Tg}{y:List S}:evS W (.for a t y) ρ=fU (evE W a ρ) ρ (aU t) (evB W y):=Eq.trans rfl rfl
@[simp] theorem s_lput{i k:_}:evS W (.lput i k a) ρ=gN ρ i (evE W k ρ) (evE W a ρ):=Eq.trans rfl rfl
@[simp] theorem s_app{i:_}:evS W (.app i a) ρ=eF ρ i (evE W a ρ):=Eq.trans rfl rfl
@[simp] theorem s_frzV{i:_}:evS W (.frzV i) ρ=hG ρ i:=Eq.trans rfl rfl
@[simp] theorem s_nfrz{i:_}:evS W (.nfrz i) ρ=j0 ρ i:=Eq.trans rfl rfl
@[simp] theorem s_nput{i:_}:evS W (.nput i a b) ρ=lT ρ i (evE W a ρ) (evE W b ρ):=Eq.trans rfl rfl
@[simp] theorem s_setC{i:_}:evS W (.setC i false a) ρ=dS ρ i (evE W a ρ):=Eq.trans rfl rfl
@[simp] theorem aMJ{i:_}:evS W (.setC i true a) ρ=dS ρ i (aZ (evE W a ρ)):=Eq.trans rfl rfl
@[simp] theorem b_nil:evB W [] ρ=.nx ρ:=by simp only[evB]
@[simp] theorem j7{s:S}{r:List S}:evB W (s::r) ρ=(evS W s ρ).thn (evB W r):=by simp only[evB]
end
section
variable {m n:Md}{i j:Int}{d:D}
@[simp] theorem x_add:op2 (bC .Add) (.ok m (.int i)) (.ok n (.int j))=.ok .fz (.int (i+j)):=rfl
@[simp] theorem x_sub:op2 (bC .Sub) (.ok m (.int i)) (.ok n (.int j))=.ok .fz (.int (i-j)):=rfl
@[simp] theorem x_lt:op2 (bR .Lt) (.ok m (.int i)) (.ok n (.int j))=.ok .fz (.bl (decide (i<j))):=rfl
@[simp] theorem x_le:op2 (bR .LtE) (.ok m (.int i)) (.ok n (.int j))=.ok .fz (.bl (decide (i<=j))):=rfl
@[simp] theorem x_gt:op2 (bR .Gt) (.ok m (.int i)) (.ok n (.int j))=.ok .fz (.bl (decide (j<i))):=rfl
@[simp] theorem x_ge:op2 (bR .GtE) (.ok m (.int i)) (.ok n (.int j))=.ok .fz (.bl (decide (j<=i))):=rfl
@[simp] theorem zB(h:0<j):op2 (bC .Mod) (.ok m (.int i)) (.ok n (.int j))=.ok .fz (.int (i % j)):=by show Res.of (if decide (0<j)=true then _ else _)=_;rw[if_pos (aRS h)];rfl
def x_div(h:0<j)(hb:bits j=true):op2 (bC .FloorDiv) (.ok m (.int i)) (.ok n (.int j))=.ok .fz (.int (i / j)):=by show Res.of (if(decide (0<j)&&bits j)=true then _ else _)=_;rw[if_pos (by rw[hb,aRS h];rfl)];rfl
def j8(h:i.natAbs<10 ^ 2000):bits i=true:=by
 unfold bits;refine aRS ?_;by_cases h0:i.natAbs=0
 . rw[h0];decide
 . refine(Nat.log2_lt h0).mpr (aRP h ?_);decide +kernel
def aMK{N:Nat}(h:i.natAbs<=N)(hN:N<10 ^ 2000:=by decide +kernel):bits i=true:=j8 (aUV h hN)
@[simp] theorem zC(h:0<j)(hb:j.natAbs<=1000000000):op2 (bC .FloorDiv) (.ok m (.int i)) (.ok n (.int j))=.ok .fz (.int (i / j)):=x_div h (aMK hb)
def zD(h:((bits i&&bits j)||(w64 i||w64 j))=true):op2 (bC .Mult) (.ok m (.int i)) (.ok n (.int j))=.ok .fz (.int (i * j)):=by show Res.of (((if((bits i&&bits j)||(w64 i||w64 j))=true then _ else _:Option (Md×D)).orElse _).orElse _)=_;rw[if_pos h];rfl
def zE(h1:bits i=true)(h2:bits j=true):op2 (bC .Mult) (.ok m (.int i)) (.ok n (.int j))=.ok .fz (.int (i * j)):=zD (by rw[h1,h2];rfl)
theorem zF(h:i.natAbs<9000000000000000000):op2 (bC .Mult) (.ok m (.int i)) (.ok n (.int j))=.ok .fz (.int (i * j)):=zD (by
 have:w64 i=true:=aRS (by lia)
 rw[this];simp)
def cI{φ:Md->D->Md->D->Option (Md×D)}{x y d:D}{k:Md}(h:φ m x n y=some (k,d)):op2 φ (.ok m x) (.ok n y)=.ok k d:=by show Res.of (φ m x n y)=_;rw[h];rfl
@[simp] theorem x_eqI:op2 (bR .Eq) (.ok m (.int i)) (.ok n (.int j))=.ok .fz (.bl (i==j)):=cI rfl
@[simp] theorem x_neI:op2 (bR .NotEq) (.ok m (.int i)) (.ok n (.int j))=.ok .fz (.bl (i != j)):=cI rfl
@[simp] theorem x_eqB{a b:Bool}:op2 (bR .Eq) (.ok m (.bl a)) (.ok n (.bl b))=.ok .fz (.bl (a==b)):=cI rfl
@[simp] theorem x_neB{a b:Bool}:op2 (bR .NotEq) (.ok m (.bl a)) (.ok n (.bl b))=.ok .fz (.bl (a != b)):=cI rfl
@[simp] theorem x_eqS{a b:Str}:op2 (bR .Eq) (.ok m (.str a)) (.ok n (.str b))=.ok .fz (.bl (a==b)):=cI (by rfl)
@[simp] theorem x_neS{a b:Str}:op2 (bR .NotEq) (.ok m (.str a)) (.ok n (.str b))=.ok .fz (.bl (a != b)):=cI (by rfl)
@[simp] theorem x_inS{a b:Str}:op2 (bR .In) (.ok m (.str a)) (.ok n (.str b))=.ok .fz (.bl (jJ a b)):=cI rfl
@[simp] theorem x_notinS{a b:Str}:op2 (bR .NotIn) (.ok m (.str a)) (.ok n (.str b))=.ok .fz (.bl (!jJ a b)):=cI rfl
@[simp] theorem oQ{a b:Str}(h:a.length+b.length<=sizeLine):op2 (bC .Add) (.ok m (.str a)) (.ok n (.str b))=.ok .fz (.str (a++b)) :=
 cI (by
  have:fS (λi j=>decide (i.length+j.length<=sizeLine)) (λi j=>D.str (i++j)) m (.str a) n (.str b)=some (Md.fz,D.str (a++b)):=by show(if decide (a.length+b.length<=sizeLine)=true then some (Md.fz,D.str (a++b))else none)=_;rw[if_pos (aRS h)]
  show orO (orO (fI (λ_ _=>true) λi j=>.int (i+j)) (fS (λi j=>decide (i.length+j.length<=sizeLine)) λi j=>.str (i++j))) nX m (.str a) n (.str b)=_;simp only[orO,this];rfl)
@[simp] theorem x_isN{d:D}:op2 (bR .Is) (.ok m d) (.ok n .non)=.ok .fz (.bl (eE d)):=cI rfl
@[simp] theorem x_isnotN{d:D}:op2 (bR .IsNot) (.ok m d) (.ok n .non)=.ok .fz (.bl (!eE d)):=cI rfl
@[simp] theorem zG{x y:List D}(h:x.length+y.length<=sizeLine):op2 (bC .Add) (.ok m (.lst x)) (.ok n (.lst y))=.ok .fr (.lst (x++y)):=cI (by
 show(if x.length+y.length<=sizeLine then some (Md.fr,D.lst (x++y))else none)=_;rw[if_pos h])
@[simp] theorem zH{x y:List D}(h:x.length+y.length<=sizeLine):op2 (bC .Add) (.ok m (.tup x)) (.ok n (.tup y))=.ok .fz (.tup (x++y)):=cI (by
 show(if x.length+y.length<=sizeLine then some (Md.fz,D.tup (x++y))else none)=_;rw[if_pos h])
@[simp] theorem isn_n:eE .non=true:=rfl
@[simp] theorem isn_i{i:Int}:eE (.int i)=false:=rfl
@[simp] theorem isn_b{i:Bool}:eE (.bl i)=false:=rfl
@[simp] theorem isn_s{i:Str}:eE (.str i)=false:=rfl
@[simp] theorem isn_t{i:List D}:eE (.tup i)=false:=rfl
@[simp] theorem isn_l{i:List D}:eE (.lst i)=false:=rfl
@[simp] theorem x_andT{y:Res}:fA (.ok m (.bl true)) y=y:=rfl
@[simp] theorem x_andF{y:Res}:fA (.ok m (.bl false)) y=.ok .fz (.bl false):=rfl
@[simp] theorem x_orT{y:Res}:orR (.ok m (.bl true)) y=.ok .fz (.bl true):=rfl
@[simp] theorem x_orF{y:Res}:orR (.ok m (.bl false)) y=y:=rfl
@[simp] theorem x_and{a b:Bool}:fA (.ok m (.bl a)) (.ok .fz (.bl b))=.ok .fz (.bl (a&&b)):=by cases a <;> rfl
@[simp] theorem x_or{a b:Bool}:orR (.ok m (.bl a)) (.ok .fz (.bl b))=.ok .fz (.bl (a||b)):=by cases a <;> rfl
@[simp] theorem x_not{a:Bool}:kW (.ok m (.bl a))=.ok .fz (.bl (!a)):=rfl
@[simp] theorem x_tru{a:Bool}:kU (.ok m (.bl a))=.ok .fz (.bl a):=rfl
@[simp] theorem x_truI:kU (.ok m (.int i))=.ok .fz (.bl (i != 0)):=rfl
@[simp] theorem x_neg:nS (.ok m (.int i))=.ok .fz (.int (-i)):=rfl
@[simp] theorem x_ifT{x y:aH}:ifS (.ok m (.bl true)) ρ x y=x:=rfl
@[simp] theorem x_ifF{x y:aH}:ifS (.ok m (.bl false)) ρ x y=y:=rfl
@[simp] theorem x_frz:aZ (.ok .fz d)=.ok .fz d:=rfl
@[simp] theorem x_frr:aZ (.ok .fr d)=.ok .fz d:=rfl
@[simp] theorem x_set:dS ρ k (.ok .fz d)=.nx (ρ.set k (some (false,d))):=rfl
@[simp] theorem x_setr:dS ρ k (.ok .fr d)=.nx (ρ.set k (some (true,d))):=rfl
@[simp] theorem x_ret:jL (.ok .fz d) ρ=.rt .fz d:=rfl
@[simp] theorem x_retr:jL (.ok .fr d) ρ=.rt .fr d:=rfl
@[simp] theorem g_0{r:Rho}:eZ (some (false,d)::r) 0=.ok .fz d:=rfl
@[simp] theorem g_0b{r:Rho}:eZ (some (true,d)::r) 0=.ok .bo d:=rfl
@[simp] theorem g_s{x:Option (Bool×D)}{r:Rho}{i:Nat}:eZ (x::r) (i+1)=eZ r i:=rfl
@[simp] theorem g_1{x:Option (Bool×D)}{r:Rho}:eZ (x::r) 1=eZ r 0:=rfl
@[simp] theorem rs_0{r:Rho}:fT (some (false,d)::r) 0=.rt .fz d:=rfl
@[simp] theorem rs_0b{r:Rho}:fT (some (true,d)::r) 0=.rt .fr d:=rfl
@[simp] theorem rs_1{x:Option (Bool×D)}{r:Rho}:fT (x::r) 1=fT r 0:=rfl
@[simp] theorem rs_s{x:Option (Bool×D)}{r:Rho}{i:Nat}:fT (x::r) (i+1)=fT r i:=rfl
@[simp] theorem r_set0{x y:Option (Bool×D)}{r:Rho}:(x::r).set 0 y=y::r:=rfl
@[simp] theorem x_callR{f:List (Md×D)->Option (Md×D)}{xs:List (Md×D)}:fR f (.ok xs)=Res.of (f xs):=rfl
@[simp] theorem bn_len:Bn.f .len=c7:=rfl
@[simp] theorem bn_isi:Bn.f .isinstance=eN:=rfl
@[simp] theorem ty_int:Ty.f .int=jQ:=rfl
@[simp] theorem ty_str:Ty.f .str=lD:=rfl
@[simp] theorem ty_tuple:Ty.f .tuple=dU:=rfl
@[simp] theorem ty_dict:Ty.f .dict=n6:=rfl
@[simp] theorem ty_list:Ty.f .list=iN:=rfl
@[simp] theorem tci_i{i:Int}:jQ [(m,.int i)]=some (.fz,.int i):=rfl
@[simp] theorem tci_b{i:Bool}:jQ [(m,.bl i)]=some (.fz,.int (if i then 1 else 0)):=rfl
@[simp] theorem tct_l{i:List D}:dU [(m,.lst i)]=some (.fz,.tup i):=rfl
@[simp] theorem tct_t{i:List D}:dU [(.fz,.tup i)]=some (.fz,.tup i):=rfl
@[simp] theorem tcl_l{i:List D}:iN [(m,.lst i)]=some (.fr,.lst i):=rfl
@[simp] theorem tcl_t{i:List D}:iN [(m,.tup i)]=some (.fr,.lst i):=rfl
@[simp] theorem tcs_i{i:Int}(h:qG i=true):lD [(m,.int i)]=some (.fz,.str (qH i)):=by show(if qG i=true then _ else _)=_;rw[if_pos h]
@[simp] theorem len_s:c7 [(m,.str z)]=some (.fz,.int z.length):=rfl
@[simp] theorem len_l{z:List D}:c7 [(m,.lst z)]=some (.fz,.int z.length):=rfl
@[simp] theorem len_t{z:List D}:c7 [(m,.tup z)]=some (.fz,.int z.length):=rfl
@[simp] theorem itm_l{z:List D}:gZ (.ok m (.lst z))=.ok .fz (.lst z):=rfl
@[simp] theorem itm_t{z:List D}:gZ (.ok m (.tup z))=.ok .fz (.lst z):=rfl
@[simp] theorem itm_s:gZ (.ok m (.str z))=.ok .fz (.lst (jN z)):=rfl
end
@[simp] theorem WT_xf{t:TB}:(WT t k).xf=λc x=>t.xt.lookup (c,x):=by unfold WD.xf;rw[yW]
@[simp] theorem WT_xg{t:TB}:(WT t k).xg=λc x=>t.xi.lookup (c,x):=by unfold WD.xg;rw[yX]
section
variable  {c:Str}{ρ':Rho}{m:Md}{d:D}{xt:Str->Str->Option Bool}{hs:List HX}{g:Rho->aH}
@[simp] theorem x_frx:aZ (.exc c)=.exc c:=rfl
@[simp] theorem x_setx:dS ρ k (.exc c)=.exc c ρ:=rfl
@[simp] theorem x_retx:jL (.exc c) ρ=.exc c ρ:=rfl
end
def dH{N:Nat}{g:Rho->aH}{m:Md}{d:D}(hl:ds.length=n)(h:g (g9 N ds)=.rt m d):phi n N g ds=.ok m d:=by unfold phi;rw[if_pos hl,h];rfl
def oR{xs:List (Md×D)}{d:D}(hl:ds.length=n)(ha:cW xs=some ds)(h:Φ ds=.ok .fz d):a6 n Φ (.ok xs)=.ok .fz d:=by
 show(match cW xs with|some ds=>if ds.length=n then(match Φ ds with|.ok .bo _=>Res.stuck|r=>r)else .stuck|none=>.stuck)=_
 rw[ha];show(if ds.length=n then _ else _)=_;rw[if_pos hl,h]
@[simp] theorem j9{a d:D}(h:Φ [a]=.ok .fz d):a6 1 Φ (.ok [(.fz,a)])=.ok .fz d:=oR (ds:=[a]) rfl rfl h
@[simp] theorem gU{a b d:D}(h:Φ [a,b]=.ok .fz d):a6 2 Φ (.ok [(.fz,a),(.fz,b)])=.ok .fz d:=oR (ds:=[a,b]) rfl rfl h
@[simp] theorem call3{a b c d:D}(h:Φ [a,b,c]=.ok .fz d):a6 3 Φ (.ok [(.fz,a),(.fz,b),(.fz,c)])=.ok .fz d:=oR (ds:=[a,b,c]) rfl rfl h
@[simp] theorem rZ{Φ:Str->List D->Res}{c m:Str}{fs:List (Str×D)}{as:bI}(h:CI.meth cl c m=some (key,n))(hl:fs.lookup m=none):cA cl Φ m (.ok .fz (.ins c fs)) as=a6 n (Φ key) (cZ (.ok .fz (.ins c fs)) as):=by
 show(match CI.meth cl c m with|some (key,n)=>if fs.lookup m=none then a6 n (Φ key) (cZ (.ok .fz (.ins c fs)) as)else .stuck|none=>.stuck)=_
 rw[h];show(if fs.lookup m=none then _ else _)=_;rw[if_pos hl]
@[simp] theorem wt_cl{t:TB}:(WT t k).cl=t.cl:=oP t k
def eK{t:TB}{f:Str}{d:FD}(h:t.T.lookup f=some d):(WT t (k+1)).Φ f=phi d.ps.length d.N.length (evB (WT t k) d.b):=by rw[WT_Φ];unfold mJ;rw[h]
@[simp] theorem call4{a b c e d:D}(h:Φ [a,b,c,e]=.ok .fz d):a6 4 Φ (.ok [(.fz,a),(.fz,b),(.fz,c),(.fz,e)])=.ok .fz d:=oR (ds:=[a,b,c,e]) rfl rfl h
theorem gW{W:WD}:∀{x y:List D3.S}{ρ:Rho},evB W (x++y) ρ=(evB W x ρ).thn (evB W y)
 |[],y,ρ=>by simp
 |s::x,y,ρ=>by
  show evB W (s::(x++y)) ρ=_;rw[j7,j7];cases evS W s ρ with
  |nx ρ'=>exact gW
  |_=>rfl
end D3
namespace Tp
open PySem.W PySem.Calls
structure S where
 t:BT
 n:Nat
 k:Nat
 nm:aVT
 g:List DictEntry
 tb:List aVT
noncomputable def tupO(vs:List aVT):Obj:=⟨.type "tuple", none,.seq vs.toArray 0,#[]⟩
noncomputable def fldO(c:aVT)(vs:List aVT):Obj:=⟨c,none,.fields vs.toArray,#[]⟩
noncomputable def dicO(es:List DictEntry)(e:Nat):Obj:=⟨.type "dict", none,.dict es.toArray e,#[]⟩
noncomputable def en(P:Params)(x:Str)(k:Nat)(v:aVT):DictEntry:=⟨PyData.keyHash P x,.str x k,v⟩
noncomputable def texts:List Str->Nat->List aVT
 |[],_=>[]
 |x::xs,k=>.str x k::texts xs (k+1)
noncomputable def fileS:Str := "/claim/cut.py"
noncomputable def codeO(name qual:Str)(k line argc fl:Nat)(isF:Bool)(a:Nat)(ls cs tm:aVT)(j:Nat):Obj :=
 fldO (.type "code") [.str name k,.str qual (k+1),.str fileS (k+2),.int line 0,.int argc 0,.int 0 0,.int 0 0,.int fl 0,.ref a,.bool isF,.int 181 0,.ref (a+1),.none,ls,cs,tm,.int j 0,.int line 0,.str fileS (j+1)]
noncomputable def frmO(code ns:Nat)(nm:aVT):Obj:=⟨.type "frame", none,.plain,#[some (.ref code),some (.ref 3),some (.ref ns),none,some nm,none,some (.ref 0)]⟩
noncomputable def fnD(name qual:Str)(args:Arguments)(body:List Stmt)(sc:Scope)(gl:Nat)(nm cd:aVT):FuncData:=⟨name,qual,args,.stmts body,sc,gl,[],.none,.none,.none,nm,none,cd,.none,0⟩
noncomputable def insL:List Obj->BT->Nat->BT
 |[],t,_=>t
 |o::os,t,n=>insL os (t.ins n o) (n+1)
def layF(name qual:Str)(args:Arguments)(body:List Stmt)(sc:Scope)(line n k:Nat)(nm:aVT):List Obj×Nat×Nat :=
 match localNames args sc (.stmts body)with
 |some (ls,cs) =>
  let a:=ls.length
  let b:=cs.length
  ([tupO [],fldO .none [],tupO (texts ls (k+3)),tupO (texts cs (k+3+a)),⟨.none,none,.func (fnD name qual args body sc 0 .none .none),#[]⟩,
   codeO name qual k line args.args.length 3 true n (.ref (n+2)) (.ref (n+3)) (.ref (n+4)) (k+3+a+b),⟨.type "function", none,.func (fnD name qual args body sc 3 nm (.ref (n+5))),#[]⟩],n+5,k+5+a+b)
 |none =>
  ([tupO [],fldO .none [],⟨.none,none,.func (fnD name qual args body sc 0 .none .none),#[]⟩,
   codeO name qual k line args.args.length 3 true n .none .none (.ref (n+2)) (k+3),⟨.type "function", none,.func (fnD name qual args body sc 3 nm (.ref (n+3))),#[]⟩],n+3,k+5)
noncomputable def look(x:Str):List DictEntry->Option aVT
 |[]=>none
 |⟨_,.str y _,v⟩::es=>match decide (x=y)with|true=>some v|false=>look x es
 |_::es=>look x es
structure B where
 t:BT
 n:Nat
 k:Nat
 es:List DictEntry
 tb:List aVT
def layB(P:Params)(cn:Str)(nm:aVT):List Stmt->B->B
 |.FunctionDef name args body _ _ _ sc _ _ pos::r,⟨t,n,k,es,tb⟩ =>
  match layF name (cn ++ "." ++ name) args body sc pos.line n k nm with
  |(os,c,j)=>layB P cn nm r ⟨insL os t n,n+os.length,j+1,en P name j (.ref (c+1))::es,.ref c :: .int pos.col 0 :: .int pos.line 0::tb⟩
 |_::r,b=>layB P cn nm r b
 |[],b=>b
noncomputable def mroOf(t:BT)(a:Nat):List aVT×aVT:=match t.get a with
 |some ⟨_,_,.cls c,sl⟩=>(c.mro,(sl.getD 4 none).getD .none)
 |_=>([],.none)
noncomputable def subTo(a:Nat):Obj->Obj
 |⟨c,d,.cls k,sl⟩=>⟨c,d,.cls {k with subclasses:=k.subclasses++[.ref a]},sl⟩
 |o=>o
noncomputable def layC(P:Params)(name:Str)(bases:List PySem.Expr)(body:List Stmt)(st:List Str)(line:Nat):S->S
 |⟨t,n,k,nm,g,tb⟩ =>
  let bs:List aVT:=match bases with
   |.Name b _::_=>(match look b g with|some v=>[v]|none=>[.type "ValueError"])
   |_=>[]
  let n2:=n+2
  let t1:=insL [tupO bs,fldO (.type "builtin_function_or_method") [.builtin "type.__prepare__", .type "type"],dicO [] 0,tupO [],fldO .none [],codeO name name (k+2) line 0 0 false (n+3) .none .none .none (k+5),frmO (n+5) n2 nm] t n
  match layB P name nm body ⟨t1,n+7,k+12,[en P "__firstlineno__" (k+11) (.int line (k+10)),en P "__qualname__" (k+9) (.str name (k+8)),en P "__module__" (k+7) nm],[]⟩with
  |⟨t2,m,j,es,ct⟩ =>
   let es1:=en P "__static_attributes__" (j+st.length) (.ref m)::es
   let j1:=j+st.length+1
   let t3:=(t2.set n2 λ_=>dicO es1.reverse es1.length).set (n+4) λ_=>fldO .none ct.reverse
   let cl:=m+2
   let cp:=(es1.reverse.take 1)++(es1.reverse.drop 2)
   let fin (mro:List aVT) (nw:aVT) (bv:List aVT) (sl0:Option aVT) (xs:List DictEntry) (gs:List Obj) (t:BT) (j:Nat):S :=
    let os:=[tupO (texts st (m-m+(j1-1-st.length))),dicO (cp++xs++[en P "__doc__" j .none]) (2+xs.length),⟨.type "type", none,.cls ⟨name,bv,.ref cl::mro,m+1,name,true,[],[],false,none,false⟩,#[sl0,none,some (.str name k),some (.str name (k+8)),some nw,some (.bool true)]⟩]
     ++ gs++[fldO (.type "super") [.ref cl,.ref cl,.ref cl],fldO (.type "builtin_function_or_method") [.builtin "object.__init_subclass__", .ref cl]]
    ⟨insL os t m,m+os.length,j+3,nm,en P name (j+2) (.ref cl)::g,.ref (n+5) :: .int 0 0 :: .int line 0::tb⟩
   let gw (j a:Nat):=fldO (.type "getset_descriptor") [.str "__weakref__" j,.ref cl,.builtin "ExceptionGroup.__weakref__", .none]
   match bs with
   | [] => fin [.type "object"] (.builtin "object.__new__") [.type "object"] none [en P "__dict__" (j1 + 1) (.ref (m + 3)), en P "__weakref__" (j1 + 3) (.ref (m + 4))]
       [fldO (.type "getset_descriptor") [.str "__dict__" j1,.ref cl,.builtin "function.__dict__", .builtin "function.__dict__#set"],gw (j1+2) 0] t3 (j1+4)
   |.ref a::_=>match mroOf t3 a with
    |(mro,nw)=>fin mro nw bs (some (.ref n)) [] [] (t3.set a (subTo cl)) j1
   |_=>fin [.type "ValueError", .type "Exception", .type "BaseException", .type "object"] (.builtin "ValueError.__new__") bs (some (.ref n)) [en P "__weakref__" (j1+1) (.ref (m+3))] [gw j1 0] t3 (j1+2)
noncomputable def keysD(P:Params)(g:List DictEntry):List (Option PySem.Expr)->List PySem.Expr->Nat->List DictEntry
 |some (.Constant (.str x) _ _)::ks,.Name y _::vs,k=>en P x k ((look y g).getD .none)::keysD P g ks vs (k+1)
 |_,_,_=>[]
noncomputable def put(P:Params)(x:Str)(v:aVT)(t:BT)(n k:Nat)(nm:aVT)(g:List DictEntry)(tb:List aVT):S:=match decide (x="__name__")with
 |true=>⟨t,n,k+1,v,g,tb⟩
 |false=>⟨t,n,k+1,nm,en P x k v::g,tb⟩
def lay1(P:Params):Stmt->S->S
 |.FunctionDef name args body _ _ _ sc _ _ pos,⟨t,n,k,nm,g,tb⟩=>match layF name name args body sc pos.line n k nm with
  |(os,c,j)=>⟨insL os t n,n+os.length,j+1,nm,en P name j (.ref (c+1))::g,.ref c :: .int pos.col 0 :: .int pos.line 0::tb⟩
 |.ClassDef name bases _ body _ _ _ _ _ st pos,s=>layC P name bases body st pos.line s
 |.Assign [.Name x _] (.Constant (.str v) _ _) _,⟨t,n,k,nm,g,tb⟩=>put P x (.str v k) t n (k+1) nm g tb
 |.Assign [.Name x _] (.Constant (.int v) _ _) _,⟨t,n,k,nm,g,tb⟩=>put P x (.int v k) t n (k+1) nm g tb
 |.Assign [.Name x _] (.Dict ks vs _) _,⟨t,n,k,nm,g,tb⟩=>put P x (.ref n) (t.ins n (dicO (keysD P g ks vs k) vs.length)) (n+1) (k+2 * vs.length) nm g tb
 |_,s=>s
def lay(P:Params):List Stmt->S->S
 |[],s=>s
 |st::r,s=>lay P r (lay1 P st s)
noncomputable def s0(os:List Obj):S :=
 ⟨insL [tupO [],fldO .none [],codeO "<module>" "<module>" 182 1 0 0 false 11 .none .none .none 185,frmO 13 3 (.str "__main__" 164)] (insL os .nil 0) 11,15,187,.str "__main__" 164,[],[]⟩
noncomputable def nameTo(nm:aVT):List DictEntry->List DictEntry
 |e::es=>{e with val:=nm}::es
 |[]=>[]
noncomputable def mainTo(nm:aVT)(g:List DictEntry):Obj->Obj
 |⟨c,d,.dict es e,sl⟩=>⟨c,d,.dict (nameTo nm es.toList++g.reverse).toArray (e+g.length),sl⟩
 |o=>o
noncomputable def S.bt(s:S):BT:=(s.t.set 3 (mainTo s.nm s.g)).set 12 λ_=>fldO .none s.tb.reverse
noncomputable def z0:Pos:=⟨0,0,0,0⟩
noncomputable def an:Option aVT:=some (.ref 6)
noncomputable def ev(p:aVX):Env:={scope:=p.main.scope,locals:=mainNs,globals:=mainNs,cells:=[],code:=.ref 13,frame:=some 14}
noncomputable def cd(p:aVX):Code:=.body (behindTheImports p) (ev p)
noncomputable def go(tb:String->Option Builtin)(p:aVX)(w:aVW)(F:Nat):List Stmt->SharedT->Code->Pos->Option (SharedT×Code×Pos)
 |[],s,c,q=>some (s,c,q)
 |st::l,s,c,q=>match segRunT tb p w 11 an 1 F s (pieceOf st (ev p) c q [topFrame z0])with
  |some (.next,s',c',q')=>go tb p w F l s' c' q'
  |_=>none
noncomputable def ns(F N:Nat):List Stmt->Nat
 |[]=>N
 |_::l=>F+ns F N l
section
variable {tb:String->Option Builtin}{p:aVX}
def one{N:Nat}{r:aVU}{rest:List Stmt}{c c':Code}{e:Env}{q:Pos}(h:segRun tb p w 11 an 1 n s (pieceOf st e c q [topFrame z0])=some (.next,s',c',q'))(k:topRun tb p w 11 an N s' (restOf rest e c' q' [topFrame z0])=some r):topRun tb p w 11 an (n+N) s (restOf (st::rest) e c q [topFrame z0])=some r:=by
 obtain⟨a,ha,hN⟩:=seg_top (B:=[topFrame z0]) (res:=id)
  (K':=λf=>match f with
   |.next=>(execs rest e).wrap doneF (leaveH e) id id
   |f=>doneF f)
  (H':=leaveH e) rfl n s (pieceOf st e c q [topFrame z0])
  ⟨(exec st e).wrap (λf=>match f with
   |.next=>(execs rest e).wrap doneF (leaveH e) id id
   |f=>doneF f) (leaveH e) id id,c,q,[topFrame z0]⟩ _ _ _ _ ⟨rfl,rfl,.inl ⟨rfl,rfl,_,rfl,rfl⟩⟩ h
 cases ha;unfold restOf;rw[execs_cons_wrap];exact hN N r k
theorem go_top'{F:Nat}:∀(l:List Stmt) {s s':SharedT}{c c':Code}{q q':Pos},go tb p w F l s c q=some (s',c',q')->∀{N:Nat}{r:aVU}{rest:List Stmt},topRun tb p w 11 an N s'.abs (restOf rest (ev p) c' q' [topFrame z0])=some r->topRun tb p w 11 an (ns F N l) s.abs (restOf (l++rest) (ev p) c q [topFrame z0])=some r
 |[],_,_,_,_,_,_,h,_,_,_,k=>by cases h;exact k
 |st::l,s,s',c,c',q,q',h,N,r,rest,k=>by
  unfold go at h;split at h
  . rename_i x e;exact one (segRun_of e) (go_top' l h k)
  . cases h
def fin2(s:aVU)(c:Code)(q:Pos):topRun tb p w 11 an 2 s (restOf [] (ev p) c q [topFrame z0])=some s:=by obtain⟨h,g,d,k,o⟩:=s;rfl
noncomputable def sh(P:Params)(S:S)(n k:Nat)(os:OsState):SharedT:=⟨S.bt,n,(boot_heap P).life,#[],boot_drawn,k,os⟩
noncomputable def sA(P:Params):S:=s0 (boot_heap P).objs.toList
def run_of{l:List Stmt}{c':Code}(hl:behindTheImports p=l)(pre:∀(w:aVW) (os:OsState),topGo treeTable p w 11 an 12 ⟨boot_heap w.params,#[],boot_drawn,boot_toks,os⟩ (topStub p)=some ((sh w.params (sA w.params) 15 187 os).abs,⟨denote treeTable (cd p),cd p,z0,[topFrame z0]⟩))(blk:∀(w:aVW) (s:aVU),segRun treeTable p w 11 an 1 1 s (blockOf l (ev p) (cd p) z0 [topFrame z0])=some (.next,s,cd p,z0))(run:∀(w:aVW) (os:OsState),go treeTable p w 1000 l (sh w.params (sA w.params) 15 187 os) (cd p) z0=some (sh w.params (lay w.params l (sA w.params)) n k os,c',q')):∀(w:aVW) (os:OsState),topRun treeTable p w 11 an (12+(1+ns 1000 2 l)) ⟨boot_heap w.params,#[],boot_drawn,boot_toks,os⟩ (topStub p)=some (sh w.params (lay w.params l (sA w.params)) n k os).abs:=by
 intro w os;refine go_top (pre w os) ?_;unfold cd;rw[hl];refine piece_block (n:=1) (by have:=blk w (sh w.params (sA w.params) 15 187 os).abs;unfold cd at this;rw[hl]at this;exact this) ?_
 have:=go_top' l (run w os) (rest:=[]) (fin2 _ _ _);rw[aQR]at this;unfold cd at this;rw[hl]at this;exact this
end
noncomputable def KK(l:List Stmt)(as:List Addr)(P:Params):Frag:=as.map λa=>(a,((lay P l (sA P)).bt.get a).getD default)
def KK_e(l:List Stmt)(as:List Addr)(P:Params):as=(KK l as P).map (·.1):=by unfold KK;rw[aU3];exact(List.map_id as).symm
noncomputable def hk(l:List Stmt)(as:List Addr):Hook:=kHook (KK l as) as (KK_e l as)
noncomputable def H1(l:List Stmt)(n:Nat)(P:Params):Heap:=absHeap (lay P l (sA P)).bt n (boot_heap P).life
noncomputable def S1(l:List Stmt)(n k:Nat)(P:Params)(os:OsState):aVU:=⟨H1 l n P,#[],boot_drawn,k,os⟩
noncomputable def bnd(n:Str):Stmt->List Str
 |.FunctionDef x ..=>if x==n then[]else[x]
 |.ClassDef x ..=>[x]
 |.Assign [.Name x _] _ _=>if x == "__name__" then[]else[x]
 |_=>[]
noncomputable def los(l:List Stmt):List Str:=l.flatMap (bnd "law")
noncomputable def vw(p:aVX):aVX:={ p with main:={ p.main with body:=p.main.body.filter λst=>match st with|.FunctionDef x ..=>x == "law" |_=>false } }
noncomputable def xt(r:OpenRow)(s:aVU):Bool:=xlAt (vw r.prog) [] s&&recOk r.toRowW.records s
def size1(w:aVW):((boot_heap w.params).isNs mainGlobals&&(#[]:Array GenState).size==0,(boot_heap w.params).objs.size,(boot_heap w.params).nsMap mainGlobals "__annotations__")=(true,11,an):=by kernel_rfl
end Tp
def Tp.twA:Prod.fst (true,(@Tp.go,@Tp.lay,@Tp.sh,@Tp.sA,@Tp.cd,@Tp.ev,@Tp.S.bt,@Tp.KK,@Tp.hk,@Tp.H1,@Tp.S1,@Tp.los,@Tp.vw,@Tp.xt))=true:=by k_qdec
namespace D3
open PySem.Calls
def r6(q:Str):Str:=q ++ ".<locals>." ++ t9 q
noncomputable def cdT:aVT->aVT->aVT->aVT->aVT->aVT->Option Addr
 |.type "code", .ref T,.str _ _,.int _ _,.bool _,.int _ _=>some T
 |_,_,_,_,_,_=>none
noncomputable def hX:Obj->Option (Str×Option Addr)
 |⟨cl,_,.fields vs,_⟩=>match vs.toList with
  |_ :: .str q _::_=>some (q,cdT cl (vs.getD 11 .none) (vs.getD 18 .none) (vs.getD 7 .none) (vs.getD 9 .none) (vs.getD 10 .none))
  |_=>none
 |_=>none
noncomputable def tq(b:Addr):Fg->Option Str
 |[]=>none
 |(_,o)::r=>match hX o with
  |some (q,some T)=>if T=b then some q else tq b r
  |_=>tq b r
noncomputable def r8:Option Obj->Bool
 |some ⟨.none,none,.fields vs,sl⟩=>vs.size==0&&sl.size==0
 |_=>false
noncomputable def oS(K Kf:Fg):Bool:=K.all λ(c,o)=>match hX o with
 |none=>true
 |some (q,some T)=>tq T K==some q&&(K.lookup T).isNone&&r8 (Kf.lookup T)&&c != T
 |some (_,none)=>false
def aML{o:Option Obj}(h:r8 o=true):o=some ⟨.none,none,.fields #[],#[]⟩:=by
 unfold r8 at h;split at h
 . rename_i vs sl;simp only[aRJ,aQM]at h;obtain rfl:vs = #[]:=aVL h.1;obtain rfl:sl = #[]:=aVL h.2;rfl
 . cases h
def zI{o:Obj}{T:Addr}(h:hX o=some (q,some T)){c:Addr}(e:hp.get? c=some o)(ne:c≠T):W.CodeHd hp c T:=by
 obtain⟨cl,od,dt,sl⟩:=o;unfold hX at h;split at h
 . rename_i cl' od' vs sl' he;cases he;split at h
   . rename_i a q' t r hv;have h1:=aP4 h;have h2:cdT cl (vs.getD 11 .none) (vs.getD 18 .none) (vs.getD 7 .none) (vs.getD 9 .none) (vs.getD 10 .none)=some T:=congrArg Prod.snd h1;unfold cdT at h2;split at h2
     . rename_i e1 e2 e3 e4 e5;cases h2;refine⟨_,vs,_,_,_,_,_,_,_,e,rfl,rfl,?_,e1,e2,e3,e4,e5,ne⟩;rw[aT1]at e1;cases q:vs[11]? with
       |none=>rw[q]at e1;cases e1
       |some v=>rw[q]at e1;exact congrArg some e1
     . cases h2
   . cases h
 . cases h
def aMM{K:Fg}{cd:aVT}(h:W.codeIn K cd q=true):∃c o,cd=.ref c/\K.lookup c=some o/\∃x,hX o=some (q,x):=by
 unfold W.codeIn at h;split at h
 . rename_i c;split at h
   . rename_i e;split at h
     . rename_i a n t r hv;refine⟨c,_,rfl,e,?_⟩;rw[aQM]at h;subst h;unfold hX;dsimp only;rw[hv];exact⟨_,rfl⟩
     . cases h
   . cases h
 . cases h
theorem zJ{c:Addr}{o:Obj}:∀{K:Fg},K.lookup c=some o->(c,o)∈K
 |[],h=>by cases h
 |(b,u)::r,h=>by
  rw[aR6]at h;split at h
  . rename_i hb;cases h;have hb:=aQM.mp hb;subst hb;exact mcs
  . exact mcm (zJ h)
theorem r9{b:Addr}{q:Str}:∀{K:Fg},tq b K=some q->∃c o,(c,o)∈K/\hX o=some (q,some b)
 |[],h=>by cases h
 |(c,o)::r,h=>by
  unfold tq at h;split at h
  . rename_i q' T e;split at h
    . rename_i ht;cases h;subst ht;exact⟨c,o,mcs,e⟩
    . obtain⟨c',o',m,x⟩:=r9 h;exact⟨c',o',mcm m,x⟩
  . obtain⟨c',o',m,x⟩:=r9 h;exact⟨c',o',mcm m,x⟩
structure TabF(K Kf:Fg):Prop where
 all:∀c o,(c,o)∈K->∀q x,hX o=some (q,x)->∃T,x=some T/\tq T K=some q/\K.lookup T=none/\Kf.lookup T=some ⟨.none,none,.fields #[],#[]⟩/\c≠T
def aMN{K Kf:Fg}(h:oS K Kf=true):TabF K Kf:=⟨λc o m q x e=>by
 have h1:=aTZ.mp h (c,o) m;dsimp only at h1;rw[e]at h1;cases x with
 |none=>cases h1
 |some T =>
  dsimp only at h1;simp only[aRJ,aQM,aVI,Option.isNone_iff_eq_none]at h1;exact⟨T,rfl,h1.1.1.1,h1.1.1.2,aML h1.1.2,h1.2⟩⟩
def aMO{K Kf:Fg}{mb:SOV}{fa a:Addr}{s₁:aVU}{ns:List Int}(KX:Kf.In s₁.heap)(sub:∀b o,K.lookup b=some o->Kf.lookup b=some o)(tb:TabF K Kf)(nd:∀b o,(b,o)∈K->K.lookup b=some o)(hns:s₁.heap.Ns mainGlobals mg)(hb:s₁.heap.Ns builtinsNs mb)(hbb:∀x:Str,x ≠ "__name__" -> mb x=bootBuiltins x)(hlim:s₁.heap.NoLimit)(hbm:∃bm ob,mg "__builtins__" = some (.ref bm)/\bm≠builtinsNs/\s₁.heap.get? bm=some ob/\ob.cls=.type "module" /\ ob.dict=some builtinsNs/\ob.data=.plain)(hg:s₁.gens = #[])(ha:s₁.heap.get? a=some { cls:=.type "list", data:=.seq vs.toArray })(hi:IntsAre vs ns)(hl:ns.length<=sizeLine)(hr:cM k callerA)(F:∀base:Heap,K.In base->base.Ns mainGlobals mg->cU P w K mg base CX k fa fd [x] sp)(hbind:∀(s:aVU) (u:aVT),BindsTo s fd ⟨[u],[]⟩ [(x,u)])(hsp:∀H:Hp,SqL K H a (ns.map V.int)->sp [.ref a] H (λv _=>v=.bl true) λ_ _ _=>False)(hCX:∀H e s',CX [] H s₁ (λ_ _ _=>False) e s'->False):codeAny (model P w) callerA (.call (.ref fa) ⟨[.ref a],[]⟩) (λr s'=>r=.ok (.ret (.bool true))/\OldK s₁.heap s'.heap/\s'.os=s₁.os/\AllBare s'.gens) s₁:=by
 have KX':K.In s₁.heap:=λb o e=>KX b o (sub b o e);have rv:=u6 hi;have lenV:=hi.length
 let sob:Obj:={ cls:=.type "list", data:=.seq vs.toArray }
 let H:Hp:=λb=>match tq b K with
  |some q=>some (.tbl #[.str (r6 q) 0])
  |none=>if b=a/\K.lookup a=none then some (.frz sob (.lst (ns.map V.int)))else none
 have tabAt:∀{b:Addr}{q:Str},tq b K=some q->K.lookup b=none/\s₁.heap.get? b=some ⟨.none,none,.fields #[],#[]⟩/\isCodeTable s₁.heap b:=λ{b q} e=>by obtain⟨c,o,m,x⟩:=r9 e;obtain⟨T,e1,_,e3,e4,e5⟩:=tb.all c o m q _ x;cases e1;obtain⟨o',vs',_,_,_,_,_,_,_,g1,g2,g3,g4,_⟩:=zI x (KX' c o (nd c o m)) e5;exact⟨e3,KX _ _ e4,c,o',vs',g1,g2,g3,g4⟩
 have nota:tq a K=none:=by
  cases e:tq a K with
  |none=>rfl
  |some q=>have:=(tabAt e).2.1;rw[ha]at this;cases this
 have Htab:∀{b:Addr}{q:Str},tq b K=some q->H b=some (.tbl #[.str (r6 q) 0]):=λ{b q} e=>by
  show(match tq b K with|some q=>_|none=>_)=_
  rw[e]
 have Hno:∀{b:Addr},tq b K=none->H b=if b=a/\K.lookup a=none then some (.frz sob (.lst (ns.map V.int)))else none:=λ{b} e=>by
  show(match tq b K with|some q=>_|none=>_)=_
  rw[e]
 have HK:∀{b:Addr}{o:Obj},K.lookup b=some o->H b=none:=λ{b o} e=>by
  cases q:tq b K with
  |some x=>have:=(tabAt q).1;rw[e]at this;cases this
  |none=>rw[Hno q,if_neg];rintro⟨rfl,z⟩;rw[e]at z;cases z
 have noD:∀{b:Addr}{o:Obj}{es:Array DictEntry}{ep:Nat},s₁.heap.get? b=some o->o.data=.dict es ep->H b=none:=λ{b o es ep} e d=>by
  cases q:tq b K with
  |some x=>have:=(tabAt q).2.1;rw[e]at this;cases this;cases d
  |none=>rw[Hno q,if_neg];rintro⟨rfl,z⟩;rw[ha]at e;cases e;cases d
 have noM:∀{b:Addr}{o:Obj},s₁.heap.get? b=some o->o.cls=.type "module" -> H b=none:=λ{b o} e d=>by
  cases q:tq b K with
  |some x=>have:=(tabAt q).2.1;rw[e]at this;cases this;cases d
  |none=>rw[Hno q,if_neg];rintro⟨rfl,z⟩;rw[ha]at e;cases e;injection d with d;exact absurd d (by decide)
 have hok:HOk P w H s₁.heap:=λb u e=>by
  cases q:tq b K with
  |some x=>rw[Htab q]at e;cases e;refine⟨r6 x,#[],rfl,(tabAt q).2.1,trivial,λz cv f=>?_⟩;cases f
  |none =>
   rw[Hno q]at e;split at e
   . rename_i hc;cases e;obtain⟨rfl,_⟩:=hc;exact⟨ha,by rw[aQ2];exact hl,vs,_,rv,ha⟩
   . cases e
 have hS:SqL K H a (ns.map V.int):=by
  cases hk:K.lookup a with
  |some o=>have e:=KX' a o hk;rw[ha]at e;cases e;exact .inr ⟨_,vs.toArray,_,hk,rfl,rfl,rfl,by rw[aQJ,lenV];exact hl,by simpa using rv⟩
  |none=>exact .inl (.inr ⟨sob,by rw[Hno nota,if_pos ⟨rfl,hk⟩]⟩)
 have nsK:∀{b:Addr}{m:SOV},s₁.heap.Ns b m->(gJ s₁.heap H).Ns b m:=λ{b m} ⟨o,es,ep,e,d,r⟩=>⟨o,es,ep,pN e (noD e d),d,r⟩;have hKb:K.In (gJ s₁.heap H):=λb o e=>pN (KX' b o e) (HK e);have hM:Mod K mg (gJ s₁.heap H):=⟨hKb,nsK hns,⟨mb,nsK hb,hbb⟩,let⟨mc,h1,h2⟩:=hlim;⟨mc,nsK h1,h2⟩,let⟨bm,ob,b1,b2,b3,b4,b5,b6⟩:=hbm;⟨bm,ob,b1,b2,pN b3 (noM b3 b4),b4,b5,b6⟩⟩
 have hT:jB K (gJ s₁.heap H) H:=λcd q e=>by obtain⟨c,o,rfl,lk,y,hy⟩:=aMM e;obtain⟨T,rfl,e2,_,_,e5⟩:=tb.all c o (zJ lk) q y hy;exact⟨c,T,_,rfl,zI hy (hKb c o lk) e5,Htab e2,rfl⟩
 have e0:nG P w K mg (gJ s₁.heap H) callerA [] s₁ H:=⟨rfl,hM,λb o e=>aBW e,Nat.le_of_eq (aBV _ _),trivial,λb hb=>absurd (show b∈([]:List Addr)from hb) (by simp),hok,.of_eq hg,hT⟩
 refine aRT ((F _ hKb (nsK hns)).run callerA [] s₁ H ⟨[.ref a],[]⟩ [.ref a] [.ref a] _ _ hr e0 (hbind s₁ (.ref a)) (.cons rfl .nil) (hsp H hS)) λr s' h=>?_;cases r with
 |error e=>exact(hCX H e s' h).elim
 |ok fl =>
  cases fl with
  |next=>exact False.elim h
  |brk=>exact False.elim h
  |cont=>exact False.elim h
  |ret u =>
   obtain⟨v,H',os,bare,un,hok',r',q⟩:=h;have q':v=.bl true:=q;subst q';obtain rfl:u=Value.bool true:=r';have was:∀b o,s₁.heap.get? b=some o->asItWas s₁.heap s'.heap b o/\∃o',s'.heap.get? b=some o':=λb o e=>by
    cases q:tq b K with
    |some x=>obtain⟨more,z⟩:=un.tbls b _ (Htab q);obtain⟨_,m,_,g,_⟩:=hok' b _ z;obtain⟨_,t2,t3⟩:=tabAt q;rw[e]at t2;cases t2;exact⟨.inr (.inl ⟨t3,rfl,#[],m,rfl,by rw[g];simp⟩),_,g⟩
    |none =>
     have hn:=Hno q;split at hn
     . rename_i hc;obtain⟨rfl,_⟩:=hc;have z2:=un.frzs _ _ _ hn;obtain⟨e2,_⟩:=hok' _ _ z2;rw[ha]at e;cases e;exact⟨.inl e2,_,e2⟩
     . have:=un.keep b o e hn (by intro z;exact absurd (show b∈([]:List Addr)from z) (by simp)) (by simp)
       exact⟨.inl this,o,this⟩
   exact⟨rfl,⟨λb o e=>(was b o e).1,λb o e=>(was b o e).2⟩,os,bare⟩
def aMP{l:W.OpenLaw}{q:aVX}{d:DefRec}{K Kf:Params->Fg}{CX:aVW->CXT}{sp:aVW->Sp}(hn:l.most=some n)(hn2:n<=sizeLine)(hdf:d.params.defaults=[])(hr:cM k callerA)(hY:∀(w:aVW) (h:Heap),YP w h->(Kf w.params).In h)(sub:∀P b o,(K P).lookup b=some o->(Kf P).lookup b=some o)(nd:∀P b o,(b,o)∈K P->(K P).lookup b=some o)(tb:∀P,oS (K P) (Kf P)=true)(F:∀(w:aVW) (mg:SOV) (fa:Addr) (h:Heap),(K w.params).In h->h.Ns mainGlobals mg->mg d.name=some (.ref fa)->∃fd:FuncData,(∀(s:aVU) (u:aVT),BindsTo s fd ⟨[u],[]⟩ [(x,u)])/\∀base:Heap,(K w.params).In base->base.Ns mainGlobals mg->cU l.prog w (K w.params) mg base (CX w) k fa fd [x] (sp w))(hsp:∀(w:aVW) (H:Hp) (a:Addr) (ns:List Int),ns.length<=n->SqL (K w.params) H a (ns.map V.int)->sp w [.ref a] H (λv _=>v=.bl true) λ_ _ _=>False)(hCX:∀(w:aVW) (H:Hp) (s:aVU) (e:aVT) (s':aVU),CX w [] H s (λ_ _ _=>False) e s'->False):W.WalkO q loose XP YP l.row.toRowW d [] (λf vs=>PySem.call f vs):=by refine Att.aEA hn hdf λw s₀ s₁ mg mb fa o pm cd doc a vs ns G Y ho hd hcd hmg hobj hints hlen hg=>?_;have KX:=hY w _ Y;obtain⟨fd,hb,hF⟩:=F w mg fa _ (λb o e=>KX b o (sub _ b o e)) G.T.g hmg;exact aMO KX (sub w.params) (aMN (tb w.params)) (nd w.params) G.T.g G.T.b G.T.builtins G.T.nolimit G.T.bmain hg hobj hints (aPV hlen hn2) hr hF hb (λH hS=>hsp w H a ns hlen hS) λH e s'=>hCX w H s₁ e s'
noncomputable def adB(K:Fg)(x:Str):Option Addr:=match W.nsIn K mainGlobals x with|some (some (.ref a))=>some a|_=>none
def fK{K:Fg}{a:Addr}(h:adB K x=some a):W.nsIn K mainGlobals x=some (some (.ref a)):=by
 unfold adB at h;split at h
 . rename_i b e;cases h;exact e
 . cases h
noncomputable def isKey(key:Str):Addr×Obj->Bool
 |(_,⟨.type t,_,.func fd,_⟩)=>t == "function" && fd.qualname==key
 |_=>false
noncomputable def faK(K:Fg)(key:Str):Addr:=match K.find? (isKey key)with|some p=>p.1|none=>0
noncomputable def stOf(fd:FuncData)(b:List Stmt):Stmt:=.FunctionDef fd.name fd.params b [] none [] fd.scope none fd.name ⟨0,0,0,0⟩
noncomputable def parB(p:Arguments)(ps:List Str):Bool:=p.posonlyargs.isEmpty&&(p.args.map (·.arg)==ps)&&p.vararg.isNone&&p.kwonlyargs.isEmpty&&p.kwarg.isNone&&decide ps.Nodup
noncomputable def fdB(K:Fg)(nm:Option Str)(key:Str)(a:Addr)(ps:List Str)(f:Stmt->Bool)(fd:FuncData)(b:List Stmt):Bool :=
 (nm.getD fd.name==fd.name)&&((fd.qualname==key)&&(fd.globals==mainGlobals&&(fd.closure.isEmpty&&((fd.defaults == .none)&&(fd.builtins==builtinsNs&&(W.codeIn K fd.code key&&(W.keepIn K (.ref a)&&(parB fd.params ps&&f (stOf fd b)))))))))
noncomputable def kA(K:Fg)(nm:Option Str)(key:Str)(a:Addr)(ps:List Str)(f:Stmt->Bool):Bool:=match K.lookup a with
 |some ⟨_,_,.func fd,_⟩=>(match fd.body with
  |.stmts b=>fdB K nm key a ps f fd b
  |_=>false)
 |_=>false
def sC{K:Fg}{nm:Option Str}{a:Addr}{f:Stmt->Bool}(h:kA K nm key a ps f=true):∃name st fd,Fun K name key st a fd/\fP K fd ps []/\f st=true/\nm.getD name=name/\∀us:List aVT,us.length=ps.length->bindArgs fd ⟨us,[]⟩=pure (ps.zip us):=by
 unfold kA at h;split at h
 . rename_i oc od fd sl el;split at h
   . rename_i b eb;unfold fdB at h;simp only[aRJ]at h;obtain⟨h1,h2,h3,h4,h5,h6,h7,h8,h9,h10⟩:=h;obtain⟨name,qualname,params,body,scope,globals,closure,defaults,kwdefaults,doc,pm,an,code,ct,bl⟩:=fd;dsimp only at *;obtain rfl:=eb;obtain rfl:=aQM.mp h2;obtain rfl:=aQM.mp h3;obtain rfl:=List.isEmpty_iff.mp h4;obtain rfl:=aQM.mp h5;obtain rfl:=aQM.mp h6;unfold parB at h9;simp only[aRJ,List.isEmpty_iff,aQM,Option.isNone_iff_eq_none,aR8]at h9;obtain⟨⟨⟨⟨⟨p1,p2⟩,p3⟩,p4⟩,p5⟩,p6⟩:=h9;have bp:=aKH (fd:=W.fnOf name qualname params b scope .none kwdefaults doc pm an code ct) p1 p2 p3 p4 p5 rfl p6;exact⟨name,_,_,aEB (st:=stOf ⟨name,qualname,params,.stmts b,scope,mainGlobals,[],.none,kwdefaults,doc,pm,an,code,ct,builtinsNs⟩ b) el h7 h8,.all bp,h10,aQM.mp h1,bp⟩
   . cases h
 . cases h
noncomputable def gvB(K:Fg)(x:Str):GV->Bool
 |.con (.s y)=>(match W.nsIn K mainGlobals x with|some (some (.str z _))=>z==y|_=>false)
 |.con (.i n)=>(match W.nsIn K mainGlobals x with|some (some (.int z _))=>z==n|_=>false)
 |.con (.t _)=>true
 |.no=>W.nsIn K mainGlobals x==some none
 |.fn _=>W.nsIn K mainGlobals x==some (some (.ref (faK K x)))
 |.cls=>true
noncomputable def oU(K:Fg)(C:Addr):Bool:=W.plainGet K C Str.empty&&(W.hasDictIn K C&&(W.plainOver K C&&W.findIn K (.ref C) "__setattr__" == some (some (.builtin "object.__setattr__"))))
def zK{K:Fg}{C:Addr}(h:oU K C=true):Cls K C:=by unfold oU at h;simp only[aRJ,aQM]at h;exact⟨h.1,h.2.1,h.2.2.1,h.2.2.2⟩
noncomputable def sD(K:Fg)(C:Addr)(x:Str×Str×Nat):Bool:=W.findIn K (.ref C) x.1==some (some (.ref (faK K x.2.1)))&&(W.isFn K (.ref (faK K x.2.1))&&W.keepIn K (.ref (faK K x.2.1)))
noncomputable def ciB(K:Fg)(i:CI):Bool:=match adB K i.name with
 |some C=>oU K C&&(i.meths.all (sD K C)&&i.flds.all λf=>W.findIn K (.ref C) f==some none)
 |none=>false
noncomputable def mk0B(K:Fg)(c:Str):Bool:=match adB K c with
 |some C=>W.makesIn K C&&(W.findIn K (.ref C) "__init__" == some (some (.builtin "object.__init__"))&&W.keepIn K (.ref C))
 |none=>false
noncomputable def clB(K:Fg)(C:Addr):Bool:=W.findIn K (.ref C) "__class__" == some (some (.builtin "object.__class__"))&&(W.specialIn K (.builtin "object.__class__") "__get__" == some (some (.builtin "getset_descriptor.__get__"))&&(W.takesIn K (.builtin "object.__class__")==some true&&W.mroIn K C (.type "object")==some true))
noncomputable def isoB(K:Fg)(cl:List CI)(c:Str):Bool:=match adB K c with
 |some C=>["NoneType", "bool", "int", "str", "tuple", "list", "dict"].all (λt=>W.kitOne K (.type t) (.ref C)==some false)&&cl.all λi=>match adB K i.name with
  |some C'=>oU K C'&&(clB K C'&&W.kitOne K (.ref C') (.ref C)==some (i.ups.contains c))
  |none=>false
 |none=>false
noncomputable def inB(K:Fg)(g:MG)(x:Str×ID):Bool:=match adB K x.2.c with
 |some C=>W.makesIn K C&&(W.findIn K (.ref C) "__init__" == some (some (.ref (faK K x.1)))&&(W.isFn K (.ref (faK K x.1))&&(W.keepIn K (.ref C)&&kA K none x.1 (faK K x.1) x.2.ps (λst=>idOk g st x.2))))
 |none=>false
noncomputable def xtB(K:Fg)(x:(Str×Str)×Bool):Bool:=match adB K x.1.1,adB K x.1.2 with
 |some C,some C2=>W.mroIn K C2 (.type "BaseException")==some true&&(W.typeIn K (.ref C2)==some (.type "type")&&W.mroIn K C (.ref C2)==some x.2)
 |_,_=>false
noncomputable def xcB(K:Fg)(C:Addr):Bool:=W.findIn K (.ref C) "__getattribute__" == some (some (.builtin "BaseException.__getattribute__"))&&(W.findIn K (.ref C) "__getattr__" == some none&&(W.mroIn K C (.type "BaseException")==some true&&clB K C))
noncomputable def cvB(K:Fg)(n:Str):Option V:=match W.nsIn K mainGlobals n with
 |some (some (.ref C))=>some (.ref C)
 |some none=>if n == "__name__" then none else(match bootBuiltins n with|some (.type T)=>some (.ty T)|_=>none)
 |_=>none
noncomputable def xiB(K:Fg)(x:(Str×Str)×Bool):Bool:=match adB K x.1.1,cvB K x.1.2 with
 |some C,some cv=>xcB K C&&W.kitOne K (.ref C) (wE cv)==some x.2
 |_,_=>false
noncomputable def rzB(K:Fg)(c:Str):Bool:=match adB K c with
 |some C=>W.excIn K C vErr "ValueError.__new__"
 |none=>false
noncomputable def gfB(K:Fg)(g:MG)(t:TB):Bool :=
 g.G.all (λx=>gvB K x.1 x.2)&&(gOk g.G t.T&&(t.T.all (λx=>kA K (if x.1 == "law" then some "law" else none) x.1 (faK K x.1) x.2.ps (λst=>iV g x.1 st x.2))&&(t.I.all (inB K g)&&(g.mk0.all (mk0B K)&&(y0 g.mki t.I&&(g.iso.all (isoB K t.cl)&&(t.cl.all (ciB K)&&(mtOk t.cl t.T&&(t.xt.all (xtB K)&&(t.xi.all (xiB K)&&(g.xcs.all (rzB K)&&g.xns.all (λn=>(cvB K n).isSome))))))))))))
section
variable {K:Fg}(Xi:K.In h)(G:h.Ns mainGlobals mg)
include Xi G
theorem zL:∀{l:List (Str×GV)},(∀x tb,(x,GV.con (.t tb))∈l->jR w K mg x tb)->l.all (λx=>gvB K x.1 x.2)=true->mM w K mg (faK K) l
 |[],_,_=>trivial
 |(x,v)::l,ht,b=>by
  rw[aVK,aRJ]at b;refine⟨?_,zL (λx tb hx=>ht x tb (mcm hx)) b.2⟩;have b:=b.1;dsimp only at b;cases v with
  |con c =>
   cases c with
   |s y =>
    have b:(match W.nsIn K mainGlobals x with|some (some (.str z _))=>z==y|_=>false)=true:=b
    split at b
    . rename_i z t e;cases aQM.mp b;exact⟨t,aVM Xi G e⟩
    . cases b
   |i y =>
    have b:(match W.nsIn K mainGlobals x with|some (some (.int z _))=>z==y|_=>false)=true:=b
    split at b
    . rename_i z t e;cases aQM.mp b;exact⟨t,aVM Xi G e⟩
    . cases b
   |t tb=>exact ht x tb mcs
  |fn n=>exact aVM Xi G (aQM.mp b)
  |no=>exact W.mg_none_of Xi G (aQM.mp b)
  |cls=>trivial
def zM{n:Str}{cv:V}(e:cvB K n=some cv):nZ mg n cv:=by
 unfold cvB at e;split at e
 . rename_i C q;cases e;exact .inl ⟨C,aVM Xi G q,rfl⟩
 . rename_i q;split at e
   . cases e
   . rename_i hn;split at e
     . rename_i T hb;cases e;exact .inr ⟨W.mg_none_of Xi G q,by simpa using hn,T,hb,rfl⟩
     . cases e
 . cases e
end
theorem zN{K:Fg}{g:MG}:∀{l:List (Str×FD)},l.all (λx=>kA K (if x.1 == "law" then some "law" else none) x.1 (faK K x.1) x.2.ps (λst=>iV g x.1 st x.2))=true->mK K g (faK K) l
 |[],_=>trivial
 |(x,d)::l,b=>by rw[aVK,aRJ]at b;obtain⟨name,st,fd,F,hb,ok,_,_⟩:=sC b.1;exact⟨⟨name,st,fd,F,hb,ok⟩,zN b.2⟩
theorem zO{K:Fg}{C:Addr}:∀{l:List (Str×Str×Nat)},l.all (sD K C)=true->j4 K (faK K) C l
 |[],_=>trivial
 |(m,key,n)::l,b=>by rw[aVK,aRJ]at b;have b1:=b.1;unfold sD at b1;simp only[aRJ,aQM]at b1;exact⟨⟨b1.1,b1.2.1,b1.2.2⟩,zO b.2⟩
theorem zP{K:Fg}{C:Addr}:∀{l:List Str},l.all (λf=>W.findIn K (.ref C) f==some none)=true->j5 K C l
 |[],_=>trivial
 |f::l,b=>by rw[aVK,aRJ]at b;exact⟨aQM.mp b.1,zP b.2⟩
theorem zQ{K:Fg}:∀{l:List CI},l.all (ciB K)=true->mN K (faK K) l
 |[],_=>trivial
 |i::l,b=>by
  rw[aVK,aRJ]at b;refine⟨?_,zQ b.2⟩;have b:=b.1;unfold ciB at b;split at b
  . rename_i C e;simp only[aRJ]at b;exact⟨C,fK e,zK b.1,zO b.2.1,zP b.2.2⟩
  . cases b
section
variable {K:Fg}(Xi:K.In h)(G:h.Ns mainGlobals mg)
include Xi G
theorem zR{g:MG}:∀{l:List (Str×ID)},l.all (inB K g)=true->mL K mg g l
 |[],_=>trivial
 |(x,d)::l,b=>by
  rw[aVK,aRJ]at b;refine⟨?_,zR b.2⟩;have b:=b.1;unfold inB at b;split at b
  . rename_i C e;simp only[aRJ,aQM]at b;obtain⟨b1,b2,b3,b4,b5⟩:=b;obtain⟨name,st,fd,F,hb,ok,_,_⟩:=sC b5;exact⟨name,st,C,_,fd,fK e,aVM Xi G (fK e),⟨b1,b2,b3,b4⟩,F,hb,ok⟩
  . cases b
omit Xi G in
theorem sH{c x:Str}{v:Bool}:∀{l:List ((Str×Str)×Bool)},l.lookup (c,x)=some v->((c,x),v)∈l
 |[],e=>by cases e
 |(y,b)::l,e=>by
  rw[aR6]at e;split at e
  . rename_i hb;cases e;rw[<- aQM.mp hb];exact mcs
  . exact mcm (sH e)
def xt_of{l:List ((Str×Str)×Bool)}(b:l.all (xtB K)=true):qL K mg (λc x=>l.lookup (c,x)):=λc x v e=>by
 have b:=aTZ.mp b ((c,x),v) (sH e);unfold xtB at b;split at b
 . rename_i C C2 e1 e2;simp only[aRJ,aQM]at b;exact⟨C,C2,fK e1,aVM Xi G (fK e1),aVM Xi G (fK e2),b.1,b.2.1,b.2.2⟩
 . cases b
def xi_of{l:List ((Str×Str)×Bool)}(b:l.all (xiB K)=true):qM K mg (λc x=>l.lookup (c,x)):=λc x v e=>by
 have b:=aTZ.mp b ((c,x),v) (sH e);unfold xiB at b;split at b
 . rename_i C cv e1 e2;unfold xcB clB at b;simp only[aRJ,aQM]at b;obtain⟨⟨b1,b2,b3,b4,b5,b6,b7⟩,b8⟩:=b;exact⟨C,cv,fK e1,⟨b1,b2,b4,b3,b7,b5,b6⟩,zM Xi G e2,b8⟩
 . cases b
def gf_of{g:MG}{t:TB}(b:gfB K g t=true)(ht:∀x tb,(x,GV.con (.t tb))∈g.G->jR w K mg x tb):GF w K mg g t (faK K):=by
 unfold gfB at b;simp only[aRJ]at b;obtain⟨b1,b2,b3,b4,b5,b6,b7,b8,b9,b10,b11,b12,b13⟩:=b;refine⟨zL Xi G ht b1,b2,zN b3,zR Xi G b4,λc hc=>?_,b6,λc hc=>?_,zQ b8,b9,xt_of Xi G b10,xi_of Xi G b11,λc hc=>?_,λn hn=>?_⟩
 . have b:=aTZ.mp b5 c hc;unfold mk0B at b;split at b
   . rename_i C e;simp only[aRJ,aQM]at b;exact⟨C,fK e,aVM Xi G (fK e),b.1,b.2.1,b.2.2⟩
   . cases b
 . have b:=aTZ.mp b7 c hc;unfold isoB at b;split at b
   . rename_i C e;rw[aRJ]at b;refine⟨C,aVM Xi G (fK e),λt ht=>aQM.mp (aTZ.mp b.1 t ht),λi hi=>?_⟩;have b:=aTZ.mp b.2 i hi;split at b
     . rename_i C' e';unfold clB at b;simp only[aRJ,aQM]at b;obtain⟨c1,⟨c2,c3,c4,c5⟩,c6⟩:=b;exact⟨C',fK e',zK c1,c2,c3,c4,c5,c6⟩
     . cases b
   . cases b
 . have b:=aTZ.mp b12 c hc;unfold rzB at b;split at b
   . rename_i C e;exact⟨C,aVM Xi G (fK e),b⟩
   . cases b
 . have b:=aTZ.mp b13 n hn;cases e:cvB K n with
   |none=>rw[e]at b;cases b
   |some cv=>exact⟨cv,zM Xi G e⟩
end
noncomputable def sJ(K:Fg)(g:MG)(t:TB):Bool:=gfB K g t&&W.nsIn K mainGlobals "law" == some (some (.ref (faK K "law")))
theorem zS{x:Str}{d:FD}:∀{l:List (Str×FD)},l.lookup x=some d->(x,d)∈l
 |[],e=>by cases e
 |(y,b)::l,e=>by
  rw[aR6]at e;split at e
  . rename_i hb;cases e;rw[<- aQM.mp hb];exact mcs
  . exact mcm (zS e)
noncomputable def noT(g:MG):Bool:=g.G.all λx=>match x.2 with|.con (.t _)=>false|_=>true
def aMQ{g:MG}{K:Params->Fg}(b:noT g=true)(w:aVW)(mg:SOV)(h:Heap)(_:(K w.params).In h)(_:h.Ns mainGlobals mg)(x:Str)(tb:List (Str×Str))(hm:(x,GV.con (.t tb))∈g.G):jR w (K w.params) mg x tb:=by have:=aTZ.mp b _ hm;cases this
def walkG{l:W.OpenLaw}{q:aVX}{d:DefRec}{K Kf:Params->Fg}{g:MG}{t:TB}{kk:Nat}{e:FD}(hn:l.most=some 63)(hdf:d.params.defaults=[])(hdn:d.name="law")(hY:∀(w:World) (h:Heap),YP w h->(Kf w.params).In h)(sub:∀P b o,(K P).lookup b=some o->(Kf P).lookup b=some o)(nd:∀P b o,(b,o)∈K P->(K P).lookup b=some o)(tb:∀P,oS (K P) (Kf P)=true)(b:∀P,sJ (K P) g t=true)(ht:∀(w:World) (mg:SOV) (h:Heap),(K w.params).In h->h.Ns mainGlobals mg->∀x tb,(x,GV.con (.t tb))∈g.G->jR w (K w.params) mg x tb)(hT:t.T.lookup ("law":Str)=some e)(hps:e.ps=[x])(hr:cM (kk+1) callerA)(main:∀ns:List Int,ns.length<=63->(WT t (kk+1)).Φ "law" (nU ns)=.ok .fz (.bl true)):W.WalkO q loose XP YP l.row.toRowW d [] (λf vs=>PySem.call f vs):=by
 refine aMP (K:=K) (Kf:=Kf) (n:=63) (k:=kk+1) (x:=x) (CX:=λw=>CX1 l.prog w) (sp:=λw=>rY (K w.params) ((WT t (kk+1)).Φ ("law":Str))) hn (by decide) hdf hr hY sub nd tb (λw mg fa h KX G hmg=>?_)
  (λ_ _ a ns hl hS=>⟨a,ns,rfl,hS,main ns hl,λ_=>rfl⟩) λ_ _ _ _ _ z=>by obtain⟨_,_,_,_,_,_,_,_,_,_,z⟩:=z;exact z
 have b:=b w.params;unfold sJ at b;rw[aRJ,aQM]at b;have f:=gf_of (w:=w) KX G b.1 (ht w mg h KX G);have e1:=aVM KX G b.2;rw[hdn,e1]at hmg;cases hmg;have b3:t.T.all (λx=>kA (K w.params) (if x.1 == "law" then some "law" else none) x.1 (faK (K w.params) x.1) x.2.ps (λst=>iV g x.1 st x.2))=true:=by have:=b.1;unfold gfB at this;simp only[aRJ]at this;exact this.2.2.1
 obtain⟨name,st,fd,F,hb,ok,hnm,bp⟩:=sC (aTZ.mp b3 (("law":Str),e) (zS hT));have hnm:name="law" := hnm.symm;subst hnm;refine⟨fd,λs u=>.of_eq ?_,λbase _ _=>?_⟩
 . have:=bp [u] (by rw[hps];rfl)
   rw[hps]at this;exact this
 . have:=aMC (P:=l.prog) (base:=base) f kk F hT ok (by rw[hps];rfl)
   rw[hps]at this;exact this
end D3
namespace Tp
open PySem.W PySem.Calls
theorem KK_look(l:List Stmt)(P:Params)(b:Addr):∀as:List Addr,(KK l as P).lookup b=if b∈as then some (((lay P l (sA P)).bt.get b).getD default)else none
 |[]=>rfl
 |a::as=>by
  show((a,((lay P l (sA P)).bt.get a).getD default)::KK l as P).lookup b=_;rw[aR6,KK_look l P b as];by_cases h:b=a
  . subst h;simp
  . have:(b==a)=false:=aPL.mpr h;rw[this];simp[h]
def KK_sub(l:List Stmt)(as ts:List Addr)(P:Params)(b:Addr)(o:Obj)(h:(KK l as P).lookup b=some o):(KK l (as++ts) P).lookup b=some o:=by
 rw[KK_look]at h ⊢;split at h
 . rename_i hb;rw[if_pos (aP0 _ hb)];exact h
 . cases h
def KK_nd(l:List Stmt)(as:List Addr)(P:Params)(b:Addr)(o:Obj)(h:(b,o)∈KK l as P):(KK l as P).lookup b=some o:=by rw[KK_look];unfold KK at h;obtain⟨a,ha,e⟩:=aVC.mp h;cases e;rw[if_pos ha]
def left{p:aVX}{r:OpenRow}{l:List Stmt}{as:List Addr}{c':Code}(hl:behindTheImports p=l)(pre:∀(w:aVW) (os:OsState),topGo treeTable p w 11 an 12 ⟨boot_heap w.params,#[],boot_drawn,boot_toks,os⟩ (topStub p)=some ((sh w.params (sA w.params) 15 187 os).abs,⟨denote treeTable (cd p),cd p,z0,[topFrame z0]⟩))(blk:∀(w:aVW) (s:aVU),segRun treeTable p w 11 an 1 1 s (blockOf l (ev p) (cd p) z0 [topFrame z0])=some (.next,s,cd p,z0))(run:∀(w:aVW) (os:OsState),go treeTable p w 1000 l (sh w.params (sA w.params) 15 187 os) (cd p) z0=some (sh w.params (lay w.params l (sA w.params)) n k os,c',q'))(le:Nat.ble (12+(1+ns 1000 2 l)) 1000000=true)(e1:opening p=plainProg p.main.scope.names)(e2:∀s,fenceModules? p s=some s)(tZ:∀w:aVW,(λos=>((staticsOk (importedModules p.main.body) (boot_heap w.params) (H1 l n w.params)&&namesBound p (H1 l n w.params)&&gensDone (S1 l n k w.params os)&&laidKept (boot_heap w.params) (H1 l n w.params)),openSeen (vw p) (los l) (importedModules p.main.body) (xt r) true (S1 l n k w.params os),(hk l as).obs (S1 l n k w.params os)))=λ_=>(true,openGood (vw p) (los l),(hk l as).val w)):LeftO p (vw p) (los l) (xt r) (hk l as).obs (hk l as).val 1000000 :=
 LeftO.of_pieces (H₀:=boot_heap) (H₁:=H1 l n) (m₀:=11) (ann:=an) (boot_open e1 rfl e2) size1 (run_of hl pre blk run) le tZ
def head{p:OpenLaw}{l:List Stmt}{as:List Addr}{d:DefRec}(left:LeftO p.prog (vw p.prog) (los l) (xt p.row) (hk l as).obs (hk l as).val 1000000)(said:p.row.wellSaid=true)(h1:defOf (vw p.prog) p.name=some (d,[]))(h2:p.prog.theDef p.name=some (d.params,d.body,d.scope))(h3:kwWritten? d.params.kwonlyargs d.params.kw_defaults=some [])(h4:(!p.row.writes||p.row.records.isEmpty)=true)(ok:(chainsOk (vw p.prog)&&opensWell p.prog&&(frees p.row.toRowW&&p.row.within.isEmpty))=true)(hb:p.prog.bare)(hw:p.row.toRowW.promised)(call:WalkO (vw p.prog) (los l) (XL (vw p.prog) []) (hk l as).says p.row.toRowW d [] λf vs=>PySem.call f vs):p.row.Holds :=
 holds_open (r:=p.row) (XP:=XL (vw p.prog) []) (YP:=(hk l as).says) left (hk l as).of (hk l as).keeps (λs e=>xl_of s (Bool.and_eq_true_iff.mp e).1) XL.keeps h1 h2 h3
  (λs e=>recFacts_of (Bool.and_eq_true_iff.mp e).2) h4 said ok hb hw call
end Tp
namespace D3
open PySem.Calls
end D3
namespace K22
open D3
abbrev n0:E:=.int 0
abbrev n1:E:=.int 1
abbrev n2:E:=.int 2
abbrev n4:E:=.int 4
abbrev n3:E:=.int 3
abbrev sf(d:D):Option (Bool×D):=some (false,d)
abbrev si(i:Int):Option (Bool×D):=some (false,.int i)
noncomputable abbrev v0:E:=.var 0
noncomputable abbrev v1:E:=.var 1
noncomputable abbrev v2:E:=.var 2
abbrev v3:E:=.var 3
abbrev v4:E:=.var 4
abbrev v5:E:=.var 5
abbrev v6:E:=.var 6
abbrev v7:E:=.var 7
abbrev v8:E:=.var 8
abbrev v9:E:=.var 9
abbrev v10:E:=.var 10
abbrev v11:E:=.var 11
abbrev v12:E:=.var 12
abbrev v13:E:=.var 13
abbrev v14:E:=.var 14
abbrev v15:E:=.var 15
abbrev v16:E:=.var 16
abbrev v17:E:=.var 17
abbrev v18:E:=.var 18
abbrev v19:E:=.var 19
abbrev v20:E:=.var 20
noncomputable def fL:List D3.S:=[.ite (.andL [(.cmp .Gt (.bcall .len [v1]) n0),(.cmp .Eq (.ix (.ix v1 (.neg n1)) n0) v2),(.cmp .Eq (.ix (.ix v1 (.neg n1)) n1) v3)]) [.lput 1 (.neg n1) (.tup [v2,v3,(.frz (.bin .Add (.ix (.ix v1 (.neg n1)) n2) v4))])] [.app 1 (.tup [v2,v3,v4])]]
noncomputable def f8:List D3.S:=[.ite (.orL [(.cmp .Eq (.bcall .len [v2]) n0),(.cmp .NotEq (.ix v2 (.neg n1)) v3)]) [.app 2 v3] []]
noncomputable def eL:List D3.S:=[.set 10 (.frz (.bin .Add (.bin .FloorDiv v0 (.bin .Add (.int 7) (.bin .Mult (.int 6) v9))) (.bin .Mult (.int 11) v9))),.ite (.cmp .Eq v9 v5) [.set 10 (.frz (.bin .Add (.bin .FloorDiv v0 (.int 25)) v7))] [],.ite (.cmp .Eq v9 n0) [.set 8 (.frz (.bin .Add v8 (.ix v2 (.bin .Mod v10 (.int 26)))))] [.set 8 (.frz (.bin .Add v8 (.ix v3 (.bin .Mod v10 (.int 36)))))]]
noncomputable def hZ:List D3.S:=[.set 8 (.str ""),.for (.rng1 v4) (.nm 9) eL,.app 6 (.bin .Add v8 (.slice (.str "a9z") none (some (.bin .Mod (.bin .FloorDiv v0 (.bin .Add (.int 5) v7)) n4))))]
noncomputable def kB:List D3.S:=[.set 5 (.tup [(.frz (.tcall .tuple [(.srtw v2)])),v3]),.nput 1 v5 (.bin .Add (.nget v1 v5 n0) v4)]
def mO:List D3.S:=[.ite (.not (.tru (.call "_law_alike" 2 [(.ix v0 v2),(.ix v1 v2)]))) [.ret (.bl false)] []]
def mP:List D3.S:=[.set 15 (.frz (.tcall .tuple [(.us4 (.bin .Add (.tcall .list [v10]) (.tcall .list [v13])))])),.app 8 (.tup [(.frz (.tcall .tuple [(.bin .Add (.tcall .list [v9]) (.tcall .list [v12]))])),v15,(.frz (.bin .Mult v11 v14))])]
def mQ:List D3.S:=[.for (.items v7) (.tp [(.nm 12),(.nm 13),(.nm 14)]) mP]
noncomputable def aMR:List D3.S:=[.never]
noncomputable def aMS:List D3.S:=[.never,.never,.never]
noncomputable def aMT:List D3.S:=[.never]
noncomputable def aMU:List D3.S:=[.never]
noncomputable def oV:List D3.S:=[.set 1 (.lst []),.for (.items (.srtw v0)) (.tp [(.nm 2),(.nm 3),(.nm 4)]) fL,.frzV 1,.ret (.tcall .tuple [v1])]
noncomputable def oW:List D3.S:=[.ret (.tup [(.frz (.tcall .tuple [(.srtw (.bin .Add (.ix v0 n0) (.ix v1 n0)))])),(.frz (.call "bars_of_both" 2 [(.ix v0 n1),(.ix v1 n1)])),(.frz (.bin .Mult (.ix v0 n2) (.ix v1 n2)))])]
noncomputable def oX:List D3.S:=[.set 2 (.lst []),.for (.items (.srtw (.bin .Add v0 v1))) (.nm 3) f8,.frzV 2,.ret (.tcall .tuple [v2])]
noncomputable def aMV:List D3.S:=[.never,.never,.never]
noncomputable def aMW:List D3.S:=[.never,.never,.never,.never]
noncomputable def aMX:List D3.S:=[.never,.never]
noncomputable def aMY:List D3.S:=[.never,.never,.never]
noncomputable def aMZ:List D3.S:=[.never,.never,.never,.never]
noncomputable def mR:List D3.S:=[.ite (.cmp .Lt v1 (.bcall .len [v0])) [.ret (.ix v0 v1)] [],.ret n0]
noncomputable def oY:List D3.S:=[.set 2 (.str "abcdefghijklmnopqrstuvwxyz"),.set 3 (.frz (.bin .Add v2 (.str "0123456789"))),.set 4 (.frz (.bin .Add n1 (.bin .Mod v0 (.int 5)))),.set 5 (.frz (.bin .Mod (.bin .FloorDiv v0 (.int 5)) v4)),.set 6 (.lst []),.for (.rng1 v1) (.nm 7) hZ,.retV 6]
noncomputable def oZ:List D3.S:=[.set 1 .nnew,.for (.items v0) (.tp [(.nm 2),(.nm 3),(.nm 4)]) kB,.nfrz 1,.ret (.tcall .tuple [(.srtw (.comp (.tup [(.ix v1 n0),(.ix v1 n1),(.nix v0 v1)]) (.nkeys v1) [] [1] (.nm 1) 1))])]
noncomputable def iW:List D3.S:=[.set 2 (.tup [(.tup [(.ix v1 (.bin .Mod v0 n4))]),(.tup []),(.frz (.bin .Add n1 (.bin .Mod (.bin .FloorDiv v0 n4) n3)))]),.ite (.cmp .Eq (.bin .Mod (.bin .FloorDiv v0 (.int 12)) n4) n0) [.ret (.tup [v2])] [],.ite (.cmp .Eq (.bin .Mod (.bin .FloorDiv v0 (.int 12)) n4) n1) [.ret (.call "_law_normal" 1 [(.frz (.lst [v2,(.tup [(.tup [(.ix v1 (.bin .Mod (.bin .FloorDiv v0 (.int 48)) n4)),(.ix v1 (.bin .Mod (.bin .FloorDiv v0 (.int 192)) n4))]),(.tup []),n1])]))])] [],.ite (.cmp .Eq (.bin .Mod (.bin .FloorDiv v0 (.int 12)) n4) n2) [.ret (.tup [(.tup [(.tup []),(.tup []),(.frz (.bin .Add n1 (.bin .Mod (.bin .FloorDiv v0 (.int 48)) n3)))])])] [],.ret (.tup [(.tup [(.ix v2 n0),(.tup [(.tup [(.tup [(.tup [(.ix v1 (.bin .Mod (.bin .FloorDiv v0 (.int 48)) n4))]),(.tup []),n1])])]),(.ix v2 n2)])])]
noncomputable def dI:List D3.S:=[.setC 2 true (.comp (.ix v0 (.bin .Mod (.bin .FloorDiv v1 (.ix (.lst [n1,n4,(.int 16)]) v2)) n4)) (.rng1 (.bin .Mod (.bin .FloorDiv v0 (.int 64)) n4)) [] [1,0] (.nm 2) 1),.set 3 (.tup []),.ite (.cmp .Eq (.bin .Mod (.bin .FloorDiv v0 (.int 256)) n3) n1) [.set 3 (.tup [(.frz (.call "_law_bar" 2 [(.frz (.bin .FloorDiv v0 (.int 768))),v1]))])] [],.ite (.cmp .Eq (.bin .Mod (.bin .FloorDiv v0 (.int 256)) n3) n2) [.set 3 (.frz (.tcall .tuple [(.us4 (.lst [(.frz (.call "_law_bar" 2 [(.frz (.bin .FloorDiv v0 (.int 768))),v1])),(.frz (.call "_law_bar" 2 [(.frz (.bin .FloorDiv v0 (.int 9216))),v1]))]))]))] [],.set 4 (.frz (.bin .Add n1 (.bin .Mod (.bin .FloorDiv v0 (.int 768)) n3))),.ite (.cmp .Eq (.bin .Mod v0 (.int 5)) n2) [.set 4 (.frz (.bin .Add n1 (.bin .Mod (.bin .FloorDiv v0 (.int 7)) (.bin .Pow (.int 10) (.int 40)))))] [],.ret (.tup [(.frz (.tcall .tuple [(.srtw v2)])),v3,v4])]
noncomputable def o3:List D3.S:=[.ret (.call "_law_normal" 1 [(.frz (.comp (.call "_law_term" 2 [v1,v0]) (.items v0) [] [1] (.nm 1) 1))])]
def dJ:List D3.S:=[.ite (.cmp .Is v1 .non) [.ret (.cmp .Is v0 .non)] [],.ite (.tru (.bcall .isinstance [v1,(.ty .bool)])) [.ret (.andL [(.bcall .isinstance [v0,(.ty .bool)]),(.cmp .Eq v0 v1)])] [],.ite (.tru (.bcall .isinstance [v1,(.ty .int)])) [.ret (.andL [(.bcall .isinstance [v0,(.ty .int)]),(.not (.bcall .isinstance [v0,(.ty .bool)])),(.cmp .Eq v0 v1)])] [],.ite (.tru (.bcall .isinstance [v1,(.ty .str)])) [.ret (.andL [(.bcall .isinstance [v0,(.ty .str)]),(.cmp .Eq v0 v1)])] [],.ite (.tru (.bcall .isinstance [v1,(.ty .tuple)])) [.ite (.orL [(.not (.tru (.bcall .isinstance [v0,(.ty .tuple)]))),(.cmp .NotEq (.bcall .len [v0]) (.bcall .len [v1]))]) [.ret (.bl false)] []] [.ite (.orL [(.not (.tru (.bcall .isinstance [v0,(.ty .list)]))),(.cmp .NotEq (.bcall .len [v0]) (.bcall .len [v1]))]) [.ret (.bl false)] []],.for (.rng1 (.bcall .len [v1])) (.nm 2) mO,.ret (.bl true)]
noncomputable def eM:List D3.S:=[.set 1 (.frz (.call "_law_names" 2 [(.frz (.call "_law_cell_at" 2 [v0,n0])),n4])),.set 2 (.frz (.slice v0 (some n2) (some (.int 42)))),.set 3 (.frz (.bin .Mod (.bin .FloorDiv (.call "_law_cell_at" 2 [v0,n1]) n2) (.bin .Add (.bcall .len [v2]) n1))),.set 4 (.frz (.slice v2 none (some v3))),.set 5 (.frz (.slice v2 (some v3) none)),.ite (.cmp .Eq (.bin .Mod (.call "_law_cell_at" 2 [v0,n1]) n2) n1) [.setC 4 true (.comp (.ix v0 v1) (.rng1 (.bcall .len [v2])) [(.cmp .Eq (.bin .Mod v1 n2) n0)] [2] (.nm 1) 1),.setC 5 true (.comp (.ix v0 v1) (.rng1 (.bcall .len [v2])) [(.cmp .Eq (.bin .Mod v1 n2) n1)] [2] (.nm 1) 1)] [],.set 6 (.frz (.call "_law_reason" 2 [v4,v1])),.set 7 (.frz (.call "_law_reason" 2 [v5,v1])),.set 8 (.lst []),.for (.items v6) (.tp [(.nm 9),(.nm 10),(.nm 11)]) mQ,.frzV 8,.set 16 (.frz (.mk0 "Reasons")),.ite (.not (.tru (.call "_law_alike" 2 [(.frz (.meth v16 "times" [v6,v7])),(.frz (.call "_law_normal" 1 [v8]))]))) [.ret (.bl false)] [],.ite (.orL [(.not (.tru (.call "_law_alike" 2 [(.frz (.meth v16 "one" [])),(.tup [(.tup [(.tup []),(.tup []),n1])])]))),(.not (.tru (.call "_law_alike" 2 [(.frz (.meth v16 "nought" [])),(.tup [])])))]) [.ret (.bl false)] [],.ret (.andL [(.call "_law_alike" 2 [(.frz (.meth v16 "times" [v6,(.frz (.meth v16 "one" []))])),v6]),(.call "_law_alike" 2 [(.frz (.meth v16 "times" [(.frz (.meth v16 "nought" [])),v7])),(.tup [])])])]
noncomputable def sK:List D3.S:=[.ret (.tup [])]
noncomputable def sL:List D3.S:=[.ret (.tup [(.tup [(.tup []),(.tup []),n1])])]
noncomputable def o4:List D3.S:=[.ret (.call "reason_of" 1 [(.frz (.comp2 (.call "term_of_both" 2 [v1,v2]) (.items v1) (.items v0) [] [2]))])]
noncomputable def aM0:FD:=⟨["thing"],["thing"],aMR⟩
noncomputable def aM1:FD:=⟨["thing"],["thing"],aMS⟩
noncomputable def aM2:FD:=⟨["sign"],["sign"],aMT⟩
noncomputable def aM3:FD:=⟨["things"],["things"],aMU⟩
noncomputable def zT:FD:=⟨["terms"],["terms", "found", "facts", "bars", "times"],oV⟩
noncomputable def zU:FD:=⟨["one", "other"],["one", "other"],oW⟩
noncomputable def zV:FD:=⟨["one", "other"],["one", "other", "found", "bar"],oX⟩
noncomputable def aM4:FD:=⟨["thing"],["thing", "term"],aMV⟩
noncomputable def aM5:FD:=⟨["thing"],["thing", "facts", "bars", "times"],aMW⟩
noncomputable def aM6:FD:=⟨["thing"],["thing"],aMX⟩
noncomputable def aM7:FD:=⟨["thing"],["thing", "bar"],aMY⟩
noncomputable def aM8:FD:=⟨["reason"],["reason", "texts", "facts", "bars", "times", "factors", "bar"],aMZ⟩
noncomputable def zW:FD:=⟨["_law_script", "_law_k"],["_law_script", "_law_k"],mR⟩
noncomputable def zX:FD:=⟨["_law_cell", "_law_many"],["_law_cell", "_law_many", "_law_letters", "_law_signs", "_law_size", "_law_at", "_law_names_here", "_law_k", "_law_name", "_law_j", "_law_drift"],oY⟩
noncomputable def zY:FD:=⟨["_law_terms"],["_law_terms", "_law_known", "_law_facts", "_law_bars", "_law_times", "_law_key"],oZ⟩
noncomputable def zZ:FD:=⟨["_law_cell", "_law_names_here"],["_law_cell", "_law_names_here", "_law_one"],iW⟩
noncomputable def z5:FD:=⟨["_law_cell", "_law_names_here"],["_law_cell", "_law_names_here", "_law_facts", "_law_bars", "_law_times"],dI⟩
noncomputable def z6:FD:=⟨["_law_cells", "_law_names_here"],["_law_cells", "_law_names_here"],o3⟩
def z7:FD:=⟨["_law_found", "_law_due"],["_law_found", "_law_due", "_law_k"],dJ⟩
noncomputable def sM:FD:=⟨["_law_script"],["_law_script", "_law_names_here", "_law_cells", "_law_cut", "_law_mine", "_law_yours", "_law_one", "_law_other", "_law_terms", "_law_facts", "_law_bars", "_law_times", "_law_others", "_law_more", "_law_often", "_law_barred", "_law_kind"],eM⟩
noncomputable def z8:FD:=⟨["self"],["self"],sK⟩
noncomputable def aAA:FD:=⟨["self"],["self"],sL⟩
noncomputable def aAB:FD:=⟨["self", "a", "b"],["self", "a", "b"],o4⟩
noncomputable def aM9:CI:=⟨"Kind", ["Kind"],[],[]⟩
noncomputable def aNA:CI:=⟨"Reasons", ["Reasons", "Kind"],[],[("nought", "Reasons.nought", 1),("one", "Reasons.one", 1),("times", "Reasons.times", 3)]⟩
noncomputable abbrev pFD(s:Str)(d:FD):Str×FD:=(s,d)
noncomputable abbrev pGV(s:Str)(d:GV):Str×GV:=(s,d)
noncomputable def T:List (Str×FD):=[pFD "is_whole" aM0,pFD "is_name" aM1,pFD "is_name_sign" aM2,pFD "is_rising" aM3,pFD "reason_of" zT,pFD "term_of_both" zU,pFD "bars_of_both" zV,pFD "is_reason" aM4,pFD "is_term" aM5,pFD "is_facts" aM6,pFD "is_bars" aM7,pFD "shown_reason" aM8,pFD "_law_cell_at" zW,pFD "_law_names" zX,pFD "_law_normal" zY,pFD "_law_bar" zZ,pFD "_law_term" z5,pFD "_law_reason" z6,pFD "_law_alike" z7,pFD "law" sM,pFD "Reasons.nought" z8,pFD "Reasons.one" aAA,pFD "Reasons.times" aAB]
noncomputable def TT:TB:=⟨T,[],[aM9,aNA],[],[]⟩
abbrev okf(d:D):Res:=.ok .fz d
noncomputable abbrev Wk(k:Nat):WD:=WT TT k
noncomputable def GG:MG:=⟨[pGV "Reasons" .cls,pGV "_law_alike" (.fn 2),pGV "_law_bar" (.fn 2),pGV "_law_cell_at" (.fn 2),pGV "_law_names" (.fn 2),pGV "_law_normal" (.fn 1),pGV "_law_reason" (.fn 2),pGV "_law_term" (.fn 2),pGV "bars_of_both" (.fn 2),pGV "bool" .no,pGV "int" .no,pGV "isinstance" .no,pGV "len" .no,pGV "list" .no,pGV "range" .no,pGV "reason_of" (.fn 1),pGV "set" .no,pGV "sorted" .no,pGV "str" .no,pGV "term_of_both" (.fn 2),pGV "tuple" .no],["Reasons"],[],[],[],[]⟩
noncomputable def top(i:Nat):Stmt:=aVY.main.body.getD i (.Pass ⟨0,0,0,0⟩)
noncomputable abbrev sN:Stmt:=top 28
def aNB(k:Nat):(Wk (k+1)).Φ "reason_of" = phi 1 5 (evB (Wk k) oV):=eK (d:=zT) rfl
def aNC(k:Nat):(Wk (k+1)).Φ "term_of_both" = phi 2 2 (evB (Wk k) oW):=eK (d:=zU) rfl
def aND(k:Nat):(Wk (k+1)).Φ "bars_of_both" = phi 2 4 (evB (Wk k) oX):=eK (d:=zV) rfl
def aNE(k:Nat):(Wk (k+1)).Φ "_law_cell_at" = phi 2 2 (evB (Wk k) mR):=eK (d:=zW) rfl
def aNF(k:Nat):(Wk (k+1)).Φ "_law_names" = phi 2 11 (evB (Wk k) oY):=eK (d:=zX) rfl
def aNG(k:Nat):(Wk (k+1)).Φ "_law_normal" = phi 1 6 (evB (Wk k) oZ):=eK (d:=zY) rfl
def aNH(k:Nat):(Wk (k+1)).Φ "_law_bar" = phi 2 3 (evB (Wk k) iW):=eK (d:=zZ) rfl
def aNI(k:Nat):(Wk (k+1)).Φ "_law_term" = phi 2 5 (evB (Wk k) dI):=eK (d:=z5) rfl
def aNJ(k:Nat):(Wk (k+1)).Φ "_law_reason" = phi 2 2 (evB (Wk k) o3):=eK (d:=z6) rfl
def sO(k:Nat):(Wk (k+1)).Φ "_law_alike" = phi 2 3 (evB (Wk k) dJ):=eK (d:=z7) rfl
def u_law(k:Nat):(Wk (k+1)).Φ "law" = phi 1 17 (evB (Wk k) eM):=eK (d:=sM) rfl
def aNK(k:Nat):(Wk (k+1)).Φ "Reasons.nought" = phi 1 1 (evB (Wk k) sK):=eK (d:=z8) rfl
def aNL(k:Nat):(Wk (k+1)).Φ "Reasons.one" = phi 1 1 (evB (Wk k) sL):=eK (d:=aAA) rfl
def aNM(k:Nat):(Wk (k+1)).Φ "Reasons.times" = phi 3 3 (evB (Wk k) o4):=eK (d:=aAB) rfl
def aNN:CI.meth TT.cl "Reasons" "nought" = some (("Reasons.nought":Str),1):=rfl
def aNO{Φ:Str->List D->Res}{as:bI}:cA TT.cl Φ "nought" (okf (.ins "Reasons" [])) as=a6 1 (Φ "Reasons.nought") (cZ (okf (.ins "Reasons" [])) as):=rZ aNN rfl
def aNP:CI.meth TT.cl "Reasons" "one" = some (("Reasons.one":Str),1):=rfl
def aNQ{Φ:Str->List D->Res}{as:bI}:cA TT.cl Φ "one" (okf (.ins "Reasons" [])) as=a6 1 (Φ "Reasons.one") (cZ (okf (.ins "Reasons" [])) as):=rZ aNP rfl
def aNR:CI.meth TT.cl "Reasons" "times" = some (("Reasons.times":Str),3):=rfl
def aNS{Φ:Str->List D->Res}{as:bI}:cA TT.cl Φ "times" (okf (.ins "Reasons" [])) as=a6 3 (Φ "Reasons.times") (cZ (okf (.ins "Reasons" [])) as):=rZ aNR rfl
abbrev Ky:=N×N
abbrev Tr:=Ky×Int
noncomputable def kyN(k:Ky):N:=.t [k.1,k.2]
end K22
variable {t:K22.Tr}{acc A:List K22.Tr}
namespace K22
open D3
noncomputable def tmN(t:Tr):N:=.t [t.1.1,t.1.2,.i t.2]
def kl(a b:Ky):Bool:=ltN (kyN a) (kyN b)
def sP{a b:Ky}(h:kyN a=kyN b):a=b:=by unfold kyN at h;simp only[N.t.injEq,aRU,and_true]at h;exact aRB h.1 h.2
def aAC{a b:Tr}(h:tmN a=tmN b):a=b:=by unfold tmN at h;simp only[N.t.injEq,aRU,and_true,N.i.injEq]at h;exact aRB (aRB h.1 h.2.1) h.2.2
def sQ(a:Ky):kl a a=false:=jX _
def aNT{a b:Ky}(h1:kl a b=false)(h2:kl b a=false):a=b:=sP (lY _ _ h1 h2)
def aAD{a b:Tr}(h:a.1≠b.1):ltN (tmN a) (tmN b)=kl a.1 b.1:=by
 unfold kl kyN tmN;simp only[ltN,bH];by_cases e1:a.1.1=b.1.1
 . rw[if_pos e1,if_pos e1];by_cases e2:a.1.2=b.1.2
   . exact absurd (aRB e1 e2) h
   . rw[if_neg e2,if_neg e2]
 . rw[if_neg e1,if_neg e1]
noncomputable def bF(p:List Tr)(k:Ky):Int:=match p with
 |[]=>0
 |t::r=>(if t.1=k then t.2 else 0)+bF r k
def Has(p:List Tr)(k:Ky):Prop:=∃t∈p,t.1=k
theorem kC:∀(p:List Tr) (t:Tr) (k:Ky),bF (p++[t]) k=bF p k+if t.1=k then t.2 else 0
 |[],t,k=>by simp[bF]
 |a::p,t,k=>by show(if a.1=k then a.2 else 0)+bF (p++[t]) k=(if a.1=k then a.2 else 0)+bF p k+_;rw[kC p t k,Int.add_assoc]
theorem aAE{p q:List Tr}(h:p.Perm q)(k:Ky):bF p k=bF q k:=by
 induction h with
 |nil=>rfl
 |cons x _ ih=>show _+bF _ k=_+bF _ k;rw[ih]
 |swap x y l=>show _+(_+bF l k)=_+(_+bF l k);lia
 |trans _ _ ih1 ih2=>rw[ih1,ih2]
def sS{p q:List Tr}(h:p.Perm q)(k:Ky):Has p k↔Has q k:=⟨λ⟨t,m,e⟩=>⟨t,h.mem_iff.mp m,e⟩,λ⟨t,m,e⟩=>⟨t,h.mem_iff.mpr m,e⟩⟩
theorem iX:∀{p:List Tr}{k:Ky},¬ Has p k->bF p k=0
 |[],k,_=>rfl
 |t::p,k,h=>by have h1:¬ t.1=k:=λe=>h ⟨t,mcs,e⟩;have h2:¬ Has p k:=λ⟨u,m,e⟩=>h ⟨u,mcm m,e⟩;show(if t.1=k then t.2 else 0)+bF p k=0;rw[if_neg h1,iX h2];rfl
def mS{p:List Tr}{k:Ky}:Has (p++[t]) k↔Has p k\/t.1=k:=by
 constructor
 . rintro⟨u,m,e⟩;rcases aPZ.mp m with m|m
   . exact .inl ⟨u,m,e⟩
   . cases aSZ.mp m;exact .inr e
 . rintro(⟨u,m,e⟩|e)
   . exact⟨u,aP0 _ m,e⟩
   . exact⟨t,aQG _ (aSZ.mpr rfl),e⟩
def fM(p L:List Tr):Prop:=∀k n,(k,n)∈L↔Has p k/\n=bF p k
noncomputable def cD(acc:List Tr)(t:Tr):List Tr:=if(acc.any λa=>decide (a.1=t.1))=true then acc.map (λa=>if a.1=t.1 then(a.1,a.2+t.2)else a)else acc++[t]
def kD{k:Ky}:(acc.any λa=>decide (a.1=k))=true↔Has acc k:=by
 rw[List.any_eq_true];constructor
 . rintro⟨a,m,e⟩;exact⟨a,m,aR9 e⟩
 . rintro⟨a,m,e⟩;exact⟨a,m,aRS e⟩
def o7{p L:List Tr}(h:fM p L)(k:Ky):Has L k↔Has p k:=by
 constructor
 . rintro⟨⟨k',n⟩,m,rfl⟩;exact((h k' n).mp m).1
 . intro q;exact⟨(k,bF p k),(h k _).mpr ⟨q,rfl⟩,rfl⟩
def aAF(acc:List Tr)(t:Tr):(cD acc t).map (·.1)=if(acc.any λa=>decide (a.1=t.1))=true then acc.map (·.1)else acc.map (·.1)++[t.1]:=by
 unfold cD;split
 . rw[aU3];refine aVE λa _=>?_;show(if a.1=t.1 then(a.1,a.2+t.2)else a).1=a.1;split <;> rfl
 . rw[aUI];rfl
theorem aNU{p:List Tr}(t:Tr)(h:fM p acc)(nd:(acc.map (·.1)).Nodup):fM (p++[t]) (cD acc t)/\((cD acc t).map (·.1)).Nodup:=by
 refine⟨λk n=>?_,?_⟩
 . unfold cD;by_cases q:(acc.any λa=>decide (a.1=t.1))=true
   . rw[if_pos q];have hp:Has p t.1:=(o7 h _).mp (kD.mp q);rw[mS,kC];constructor
     . intro m;obtain⟨⟨k',n'⟩,m',e⟩:=aVC.mp m;have hh:=(h k' n').mp m';dsimp only at e;split at e
       . rename_i ek;cases e;rw[if_pos ek.symm];exact⟨.inl hh.1,by rw[hh.2]⟩
       . rename_i ek;cases e;rw[if_neg (λz=>ek z.symm)];exact⟨.inl hh.1,by rw[hh.2];lia⟩
     . rintro⟨m,rfl⟩;have hk:Has p k:=by
         rcases m with m|m
         . exact m
         . rw[<- m];exact hp
       have m':=(h k _).mpr ⟨hk,rfl⟩;refine aVC.mpr ⟨(k,bF p k),m',?_⟩;dsimp only;by_cases ek:k=t.1
       . rw[if_pos ek,if_pos ek.symm]
       . rw[if_neg ek,if_neg (λz=>ek z.symm),aVN]
   . rw[if_neg q];have hp:¬ Has p t.1:=λz=>q (kD.mpr ((o7 h _).mpr z));rw[mS,kC,aPZ,aSZ,h k n];by_cases ek:t.1=k
     . subst ek;rw[if_pos rfl,iX hp,aVO];constructor
       . rintro(z|z)
         . exact absurd z.1 hp
         . exact⟨.inr rfl,by rw[<- z]⟩
       . rintro⟨_,rfl⟩;exact .inr rfl
     . rw[if_neg ek,aVN];constructor
       . rintro(z|z)
         . exact⟨.inl z.1,z.2⟩
         . exact absurd (by rw[<- z]) ek
       . rintro⟨z|z,e⟩
         . exact .inl ⟨z,e⟩
         . exact absurd z ek
 . rw[aAF];split
   . exact nd
   . rename_i q;refine aS9.mpr ⟨nd,aUG _ _,λa ha b hb e=>?_⟩;cases aSZ.mp hb;obtain⟨u,mu,rfl⟩:=aVC.mp ha;exact q (kD.mpr ⟨u,mu,e⟩)
theorem aAG:∀(r p acc:List Tr),fM p acc->(acc.map (·.1)).Nodup->fM (p++r) (r.foldl cD acc)/\((r.foldl cD acc).map (·.1)).Nodup
 |[],p,acc,h,nd=>by rw[aQR];exact⟨h,nd⟩
 |t::r,p,acc,h,nd=>by obtain⟨h1,n1⟩:=aNU t h nd;have:=aAG r (p++[t]) _ h1 n1;rw[aTG]at this;exact this
noncomputable def aW(ts:List Tr):List Tr:=ts.foldl cD []
def aAH:fM [] []:=λk n=>Iff.intro (λh=>by cases h) (λh=>by obtain⟨⟨t,m,_⟩,_⟩:=h;cases m)
def gX(ts:List Tr):fM ts (aW ts)/\((aW ts).map (·.1)).Nodup:=by have:=aAG ts [] [] aAH aTA;rw[aT9]at this;exact this
noncomputable def cJ(rf:List Tr)(t:Tr):List Tr:=match rf with
 |[]=>[t]
 |l::r=>if l.1=t.1 then(t.1,l.2+t.2)::r else t::l::r
def o8(rf:List Tr):Prop:=rf.Pairwise λa b=>kl b.1 a.1=true
def aNV{p rf:List Tr}(t:Tr)(h:fM p rf)(d:o8 rf)(le:∀x∈p,ltN (tmN t) (tmN x)=false):fM (p++[t]) (cJ rf t)/\o8 (cJ rf t):=by
 cases rf with
 |nil =>
  have hp:∀k,¬ Has p k:=λk z=>nomatch (h k _).mpr ⟨z,rfl⟩;refine⟨λk n=>?_,aUG _ _⟩;rw[mS,kC,iX (hp k),aVO];show(k,n)∈[t]↔_;rw[aSZ];constructor
  . intro e;rw[<- e];exact⟨.inr rfl,by rw[if_pos rfl]⟩
  . rintro⟨z|z,e⟩
    . exact absurd z (hp k)
    . rw[if_pos z]at e;rw[e,<- z]
 |cons l r =>
  have hl:(l.1,l.2)∈l::r:=mcs;have hl:=(h l.1 l.2).mp hl;have dl:=(aT7.mp d).1;have nr:∀n,(l.1,n)∉r:=λn m=>by have:=dl _ m;rw[sQ]at this;cases this
  unfold cJ;dsimp only;by_cases e:l.1=t.1
  . rw[if_pos e];refine⟨λk n=>?_,aT7.mpr ⟨λa ha=>by rw[<- e];exact dl a ha,(aT7.mp d).2⟩⟩
    rw[mS,kC,aPY];by_cases ek:t.1=k
    . subst ek;rw[if_pos rfl];constructor
      . rintro(z|z)
        . rw[Prod.mk.injEq]at z;exact⟨.inr rfl,by rw[z.2,hl.2,e]⟩
        . exact absurd z (by rw[<- e];exact nr n)
      . rintro⟨_,z⟩;left;rw[z,hl.2,e]
    . rw[if_neg ek,aVN];constructor
      . rintro(z|z)
        . exact absurd (Prod.mk.injEq .. ▸ z).1.symm ek
        . have:=(h k n).mp (mcm z);exact⟨.inl this.1,this.2⟩
      . rintro⟨z|z,e'⟩
        . have:=(h k n).mpr ⟨z,e'⟩;rcases aPY.mp this with m|m
          . exact absurd (by rw[<- m]at e;exact e.symm) ek
          . exact .inr m
        . exact absurd z ek
  . rw[if_neg e];obtain⟨x,mx,ex⟩:=hl.1;have k1:kl t.1 l.1=false:=by
      have:=le x mx;rw[aAD (by rw[ex];exact λz=>e z.symm),ex]at this
      exact this
    have k2:kl l.1 t.1=true:=by
     cases q:kl l.1 t.1 with
     |true=>rfl
     |false=>exact absurd (aNT q k1) e
    have hp:¬ Has p t.1:=λz=>by
     have:=(h t.1 _).mpr ⟨z,rfl⟩;rcases aPY.mp this with m|m
     . exact e (by rw[<- m])
     . have:=dl _ m;rw[k1]at this;cases this
    refine⟨λk n=>?_,aT7.mpr ⟨λa ha=>?_,d⟩⟩
    . rw[mS,kC,aPY,h k n];by_cases ek:t.1=k
      . subst ek;rw[if_pos rfl,iX hp,aVO];constructor
        . rintro(z|z)
          . exact⟨.inr rfl,by rw[<- z]⟩
          . exact absurd z.1 hp
        . rintro⟨_,rfl⟩;exact .inl rfl
      . rw[if_neg ek,aVN];constructor
        . rintro(z|z)
          . exact absurd (by rw[<- z]) ek
          . exact⟨.inl z.1,z.2⟩
        . rintro⟨z|z,e'⟩
          . exact .inr ⟨z,e'⟩
          . exact absurd z ek
    . rcases aPY.mp ha with rfl|ha
      . exact k2
      . exact oH _ _ _ (dl a ha) k2
theorem aAI:∀(r p rf:List Tr),fM p rf->o8 rf->cH ((p++r).map tmN)->fM (p++r) (r.foldl cJ rf)/\o8 (r.foldl cJ rf)
 |[],p,rf,h,d,_=>by rw[aQR];exact⟨h,d⟩
 |t::r,p,rf,h,d,so=>by
  have le:∀x∈p,ltN (tmN t) (tmN x)=false:=λx hx=>by rw[aUI]at so;exact(aT6.mp so).2.2 _ (aVG hx) _ (aVG mcs)
  obtain⟨h1,d1⟩:=aNV t h d le;have:=aAI r (p++[t]) _ h1 d1 (by rw[aTG];exact so)
  rw[aTG]at this;exact this
theorem sU:∀{a b:List Tr},a.map tmN=b.map tmN->a=b
 |[],[],_=>rfl
 |[],_::_,h=>by cases h
 |_::_,[],h=>by cases h
 |x::a,y::b,h=>by rw[aRR,aRR,aRU]at h;rw[aAC h.1,sU h.2]
def both{ts S:List Tr}(hs:S.map tmN=aV (ts.map tmN)):(S.foldl cJ []).reverse.map tmN=aV ((aW ts).map tmN):=by
 have pm:S.Perm ts:=by
  have h0:(S.map tmN).Perm (ts.map tmN):=by rw[hs];exact dE _
  obtain⟨qs,q1,q2⟩:=l6 h0;have:S=qs:=by exact sU q2
  rw[this];exact q1
 obtain⟨h1,d1⟩:=aAI S [] [] aAH .nil (by rw[aT9,hs];exact eX _)
 rw[aT9]at h1;obtain⟨h2,n2⟩:=gX ts;have nd1:(S.foldl cJ []).Nodup:=d1.imp λ{a b} h e=>by subst e;rw[sQ]at h;cases h
 have nd2:(aW ts).Nodup:=by have:=aU0.mp n2;exact this.imp λ{a b} h e=>h (by rw[e])
 have pe:(S.foldl cJ []).Perm (aW ts):=(aVH nd1 nd2).mpr λ⟨k,n⟩=>by rw[h1 k n,h2 k n,sS pm k,aAE pm k]
 refine iR ?_ (((aUT _).trans pe).map tmN);unfold cH;rw[aU0,aUQ];refine d1.imp λ{a b} h=>?_;have ne:a.1≠b.1:=λe=>by rw[e,sQ]at h;cases h
 rw[aAD ne];exact oJ h
theorem aAJ:∀{ks:List N},(∀k∈ks,bB (nD k)=some k.py)->eQ (nDL ks)=some (N.pyL ks)
 |[],_=>by simp[nDL,eQ,N.pyL]
 |k::ks,h=>by simp only[nDL,eQ,N.pyL];rw[h k mcs,aAJ λx hx=>h x (mcm hx)]
def aAK(k:N):bB (nD k)=some k.py:=by
 induction k using N.ind with
 |hi n=>simp[nD,bB,N.py]
 |hs x=>simp[nD,bB,N.py]
 |ht xs ih=>simp only[nD,bB,N.py];rw[aAJ ih];rfl
theorem aAL{x y:N}{m:Md}(hx:x.dp<=50)(hy:y.dp<=50):eqF neg m (nD x) m' (nD y)=some (.fz,.bl (if neg then !decide (x=y)else decide (x=y))):=by unfold eqF;rw[aAK,aAK];dsimp only;rw[if_pos (by unfold k7;rw[aRJ,aR8,aR8,N.py_depth,N.py_depth];lia),N.py_eqv]
def aAM{x y:N}{m:Md}(hx:x.dp<=50)(hy:y.dp<=50):op2 (bR .Eq) (.ok m (nD x)) (.ok m' (nD y))=okf (.bl (decide (x=y))):=cI (by
 show orO (eqF false) _ m (nD x) m' (nD y)=_;unfold orO;rw[aAL hx hy];rfl)
theorem sV:∀{ks:List N},(∀k∈ks,bQ (nD k)=some k)->eW (nDL ks)=some ks
 |[],_=>by simp[nDL,eW]
 |k::ks,h=>by simp only[nDL,eW];rw[h k mcs,sV λx hx=>h x (mcm hx)]
def aNW(k:N):bQ (nD k)=some k:=by
 induction k using N.ind with
 |hi n=>simp[nD,bQ]
 |hs x=>simp[nD,bQ]
 |ht xs ih=>simp only[nD,bQ];rw[sV ih];rfl
def o9(ks:List N):eW (nDL ks)=some ks:=sV λk _=>aNW k
def pA(h:(N.t ks).dp<=8):eG (nD (.t ks))=some (.t ks):=by
 rw[nD];show(match eW (nDL ks)with|some ks=>if(N.t ks).dp<=8 then some (N.t ks)else none|none=>none)=_
 rw[o9];dsimp only;rw[if_pos h]
def aNX(h:∀k∈ks,bK k=true)(h0:ks≠[]):txD (nDL ks)=none:=by
 cases ks with
 |nil=>exact absurd rfl h0
 |cons k ks =>
  have:=h k mcs;unfold bK at this;split at this
  . simp only[nDL,nD];rfl
  . cases this
def mU(ks:List N):(aV ks).length=ks.length:=(dE ks).length_eq
def sW{m:Md}{d:D}(hd:seqD d=some (nDL ks))(h:∀k∈ks,bK k=true)(ok:okS ks=true):fE [(m,d)]=some (.fr,.lst (nDL (aV ks))):=by
 show(match seqD d with|some ds=>_|none=>none)=_
 rw[hd];dsimp only;by_cases h0:ks=[]
 . subst h0;rfl
 . rw[aNX h h0,o9];dsimp only;rw[if_pos ok]
noncomputable def lN:N->List N|.t l=>l|_=>[]
def StN(l:List N):Prop:=l.Pairwise λx y=>ltN x y=true
def isF(f:N):Prop:=∃xs:List Str,f=.t (xs.map .s)/\xs.length<1000
def cS:Nat->N->Prop
 |0,b=>b=.t []
 |j+1,b=>∃rs:List N,b=.t rs/\rs.length<1000/\∀r∈rs,∃ts:List Tr,r=.t (ts.map tmN)/\ts.length<64/\∀t∈ts,isF t.1.1/\cS j t.1.2
def isK(j:Nat)(k:Ky):Prop:=isF k.1/\cS j k.2
theorem kE:∀{xs ys:List N},(∀x∈xs,∀y∈ys,okN x y=true)->fD xs ys=true
 |[],_,_=>by simp[fD]
 |_::_,[],_=>by simp[fD]
 |x::xs,y::ys,h=>by
  rw[fD];split
  . exact kE λa ha b hb=>h a (mcm ha) b (mcm hb)
  . exact h x mcs y mcs
def pB{f g:N}(hf:isF f)(hg:isF g):okN f g=true:=by obtain⟨xs,rfl,_⟩:=hf;obtain⟨ys,rfl,_⟩:=hg;rw[okN];refine kE λx hx y hy=>?_;obtain⟨a,_,rfl⟩:=aVC.mp hx;obtain⟨b,_,rfl⟩:=aVC.mp hy;rw[okN]
def pC{s:Tr}(h1:okN s.1.1 t.1.1=true)(h2:okN s.1.2 t.1.2=true):okN (tmN s) (tmN t)=true:=by
 unfold tmN;simp only[okN,fD];split
 . split
   . split <;> rfl
   . exact h2
 . exact h1
theorem pD:∀{j:Nat}{b c:N},cS j b->cS j c->okN b c=true
 |0,b,c,h1,h2=>by cases h1;cases h2;simp[okN,fD]
 |j+1,b,c,h1,h2=>by obtain⟨rs,rfl,_,h1⟩:=h1;obtain⟨qs,rfl,_,h2⟩:=h2;rw[okN];refine kE λx hx y hy=>?_;obtain⟨ts,rfl,_,h1⟩:=h1 x hx;obtain⟨us,rfl,_,h2⟩:=h2 y hy;rw[okN];refine kE λa ha b hb=>?_;obtain⟨s,hs,rfl⟩:=aVC.mp ha;obtain⟨t,ht,rfl⟩:=aVC.mp hb;exact pC (pB (h1 s hs).1 (h2 t ht).1) (pD (h1 s hs).2 (h2 t ht).2)
def ok_K{s:Tr}(h1:isK j s.1)(h2:isK j t.1):okN (tmN s) (tmN t)=true:=pC (pB h1.1 h2.1) (pD h1.2 h2.2)
theorem iY:∀{xs:List N}{n:Nat},(∀x∈xs,x.dp<=n)->N.dpL xs<=n
 |[],n,_=>by simp[N.dpL]
 |x::xs,n,h=>by rw[N.dpL];have:=h x mcs;have:=iY λy hy=>h y (mcm hy);lia
theorem mV{f:N}(h:isF f):f.dp<=1:=by
 obtain⟨xs,rfl,_⟩:=h;rw[N.dp];have:N.dpL (xs.map N.s)<=0:=iY λx hx=>by obtain⟨a,_,rfl⟩:=aVC.mp hx;rw[N.dp];exact aQD 0
 lia
theorem mW:∀{j:Nat}{b:N},cS j b->b.dp<=3 * j+1
 |0,b,h=>by cases h;simp[N.dp,N.dpL]
 |j+1,b,h=>by
  obtain⟨rs,rfl,_,h⟩:=h;rw[N.dp];have:N.dpL rs<=3 * j+3:=iY λr hr=>by
   obtain⟨ts,rfl,_,h⟩:=h r hr;rw[N.dp];have:N.dpL (ts.map tmN)<=3 * j+2:=iY λx hx=>by obtain⟨t,ht,rfl⟩:=aVC.mp hx;have a1:=mV (h t ht).1;have a2:=mW (h t ht).2;simp only[tmN,N.dp,N.dpL];lia
   lia
  lia
theorem sX{k:Ky}(h:isK j k)(hj:j<=2):k.1.dp<=1/\k.2.dp<=7/\(kyN k).dp<=8/\∀n,(tmN (k,n)).dp<=8:=by
 have a1:=mV h.1;have a2:=mW h.2;refine⟨a1,by lia,?_,λn=>?_⟩
 . simp only[kyN,N.dp,N.dpL];lia
 . simp only[tmN,N.dp,N.dpL];lia
theorem iZ:∀{j:Nat}{b:N},cS j b->cS (j+1) b
 |0,b,h=>by cases h;exact⟨[],rfl,by decide,λr hr=>nomatch hr⟩
 |j+1,b,h=>by obtain⟨rs,rfl,l,h⟩:=h;refine⟨rs,rfl,l,λr hr=>?_⟩;obtain⟨ts,rfl,l2,h⟩:=h r hr;exact⟨ts,rfl,l2,λt ht=>⟨(h t ht).1,iZ (h t ht).2⟩⟩
def aNY(h:isF t.1.1):bK (tmN t)=true:=by obtain⟨xs,e,_⟩:=h;unfold tmN;rw[e];rfl
def sY:1000<=gC:=by unfold gC;decide
def aAN{k:Ky}(h:isK j k):isK (j+1) k:=⟨h.1,iZ h.2⟩
theorem mX{k:Ky}(h:isK 3 k):k.1.dp<=1/\k.2.dp<=10/\∀n,(tmN (k,n)).dp<=12:=by
 have a1:=mV h.1;have a2:=mW h.2;refine⟨a1,by lia,λn=>?_⟩
 simp only[tmN,N.dp,N.dpL];lia
def aAO{ts:List Tr}(h:∀t∈ts,isK 3 t.1)(hl:ts.length<1000):okS (ts.map tmN)=true/\∀k∈ts.map tmN,bK k=true:=by
 have hF:∀k∈ts.map tmN,bK k=true:=λk hk=>by obtain⟨t,ht,rfl⟩:=aVC.mp hk;exact aNY (h t ht).1
 refine⟨?_,hF⟩;unfold okS;simp only[aRJ,aSA,aR8,aTZ];refine⟨⟨⟨λk hk=>?_,.inr hF⟩,λx hx y hy=>?_⟩,by rw[aQ2];exact aPP hl sY⟩
 . obtain⟨t,ht,rfl⟩:=aVC.mp hk;exact(mX (h t ht)).2.2 t.2
 . obtain⟨s,hs,rfl⟩:=aVC.mp hx;obtain⟨t,ht,rfl⟩:=aVC.mp hy;exact ok_K (h s hs) (h t ht)
def iA{m:Md}{i:Int}{d:D}(h:atI ds i=some d):op2 ixD (.ok m (.lst ds)) (.ok m' (.int i))=okf d:=cI (by show(atI ds i).map _=_;rw[h];rfl)
def kG{m:Md}{i:Int}{d:D}(h:atI ds i=some d):op2 ixD (.ok m (.tup ds)) (.ok m' (.int i))=okf d:=cI (by show(atI ds i).map _=_;rw[h];rfl)
def ix2_0{m:Md}{x y:D}:op2 ixD (.ok m (.tup [x,y])) (.ok m' (.int 0))=okf x:=kG rfl
def ix2_1{m:Md}{x y:D}:op2 ixD (.ok m (.tup [x,y])) (.ok m' (.int 1))=okf y:=kG rfl
def mY{m:Md}{x y z:D}:op2 ixD (.ok m (.tup [x,y,z])) (.ok m' (.int 0))=okf x:=kG rfl
def pE{m:Md}{x y z:D}:op2 ixD (.ok m (.tup [x,y,z])) (.ok m' (.int 1))=okf y:=kG rfl
def mZ{m:Md}{x y z:D}:op2 ixD (.ok m (.tup [x,y,z])) (.ok m' (.int 2))=okf z:=kG rfl
def gE:iI (.ok [])=okf (.tup []):=rfl
def i6{x:D}:iI (.ok [(.fz,x)])=okf (.tup [x]):=rfl
def tup2{x y:D}:iI (.ok [(.fz,x),(.fz,y)])=okf (.tup [x,y]):=rfl
def dX{x y z:D}:iI (.ok [(.fz,x),(.fz,y),(.fz,z)])=okf (.tup [x,y,z]):=rfl
def kH(t:Tr):nD (tmN t)=.tup [nD t.1.1,nD t.1.2,.int t.2]:=by simp[tmN,nD,nDL]
def K_eq(k:Ky):nD (kyN k)=.tup [nD k.1,nD k.2]:=by simp[kyN,nD,nDL]
noncomputable abbrev tD(t:Tr):D:=nD (tmN t)
def iB(ts:List Tr):nDL (ts.map tmN)=ts.map tD:=by rw[dF,aU3];rfl
theorem aAP(r:List D)(d:D):atI (r++[d]) (-1)=some d:=by
 unfold atI ixN;rw[if_neg (by decide),if_pos (by simp;lia)]
 simp;have:(-1+((r.length:Int)+1)).toNat=r.length:=by lia
 rw[this];simp
theorem aNZ(r:List D)(d:D):ixN (r++[d]).length (-1)=some r.length:=by
 unfold ixN;rw[if_neg (by decide),if_pos (by simp;lia)]
 simp;lia
def aN0(r:List D)(d e:D):(r++[d]).set r.length e=r++[e]:=by simp
def pF:iJ (.ok [])=.ok .fr (.lst []):=rfl
def i7(t:Tr):tD t=.tup [nD t.1.1,nD t.1.2,.int t.2]:=kH t
def body0{W:WD}{A x2 x3 x4:Option (Bool×D)}:evB W fL [A,some (true,.lst []),sf (nD t.1.1),sf (nD t.1.2),si t.2]=.nx [A,some (true,.lst [tD t]),sf (nD t.1.1),sf (nD t.1.2),si t.2]:=by
 have l0:c7 [(.bo,.lst [])]=some (.fz,.int 0):=rfl;have a0:eF [A,some (true,.lst []),sf (nD t.1.1),sf (nD t.1.2),si t.2] 1 (okf (.tup [nD t.1.1,nD t.1.2,.int t.2]))=.nx [A,some (true,.lst [tD t]),sf (nD t.1.1),sf (nD t.1.2),si t.2]:=by rw[tD,kH];rfl
 simp[fL,l0,dX,a0]
theorem body1{W:WD}{A:Option (Bool×D)}{l:Tr}{r:List D}(hl:isK 3 l.1)(ht:isK 3 t.1)(hr:r.length+1<sizeLine):evB W fL [A,some (true,.lst (r++[tD l])),sf (nD t.1.1),sf (nD t.1.2),si t.2]=.nx [A,some (true,.lst (if l.1=t.1 then r++[tD (t.1,l.2+t.2)]else r++[tD l]++[tD t])),sf (nD t.1.1),sf (nD t.1.2),si t.2]:=by
 have l0:c7 [(.bo,.lst (r++[tD l]))]=some (.fz,.int (r.length+1:Nat)):=by show some (Md.fz,D.int ((r++[tD l]).length:Nat))=_;rw[aQ1];rfl
 have i0:op2 ixD (.ok .bo (.lst (r++[tD l]))) (okf (.int (-1)))=okf (.tup [nD l.1.1,nD l.1.2,.int l.2]):=by rw[<- kH];exact iA (aAP r _)
 have e1:=aAM (m:=.fz) (m':=.fz) (x:=l.1.1) (y:=t.1.1) (by have:=(mX hl).1;lia) (by have:=(mX ht).1;lia)
 have e2:=aAM (m:=.fz) (m':=.fz) (x:=l.1.2) (y:=t.1.2) (by have:=(mX hl).2.1;lia) (by have:=(mX ht).2.1;lia)
 have p0:(0:Int)<((r.length+1:Nat):Int):=by lia
 have a0:eF [A,some (true,.lst (r++[tD l])),sf (nD t.1.1),sf (nD t.1.2),si t.2] 1 (okf (.tup [nD t.1.1,nD t.1.2,.int t.2]))=.nx [A,some (true,.lst (r++[tD l]++[tD t])),sf (nD t.1.1),sf (nD t.1.2),si t.2]:=by
  rw[tD,tD,kH t];show(if(r++[nD (tmN l)]).length<sizeLine then _ else _)=_;rw[if_pos (by rw[aQ1];exact hr)]
  rfl
 have q0:gN [A,some (true,.lst (r++[tD l])),sf (nD t.1.1),sf (nD t.1.2),si t.2] 1 (okf (.int (-1))) (okf (.tup [nD t.1.1,nD t.1.2,.int (l.2+t.2)]))=.nx [A,some (true,.lst (r++[tD (t.1,l.2+t.2)])),sf (nD t.1.1),sf (nD t.1.2),si t.2]:=by
  show(match ixN (r++[tD l]).length (-1)with|some j=>aH.nx (List.set [A,some (true,D.lst (r++[tD l])),sf (nD t.1.1),sf (nD t.1.2),sf (D.int t.2)] 1 (some (true,D.lst ((r++[tD l]).set j _))))|none=>.stuck)=_
  rw[aNZ];dsimp only;rw[aN0];have:tD (t.1,l.2+t.2)=.tup [nD t.1.1,nD t.1.2,.int (l.2+t.2)]:=kH _;rw[this];rfl
 by_cases c1:l.1.1=t.1.1
 . by_cases c2:l.1.2=t.1.2
   . have c:l.1=t.1:=aRB c1 c2;rw[if_pos c];rw[aRS c1]at e1;rw[aRS c2]at e2;generalize D.lst (r++[tD l])=L at *;simp[fL,l0,i0,mY,pE,mZ,e1,e2,p0,dX,q0]
   . have c:¬ l.1=t.1:=λe=>c2 (by rw[e])
     rw[if_neg c];rw[aRS c1]at e1;rw[aPK c2]at e2;generalize D.lst (r++[tD l])=L at *;simp[fL,l0,i0,mY,pE,mZ,e1,e2,p0,dX,a0]
 . have c:¬ l.1=t.1:=λe=>c1 (by rw[e])
   rw[if_neg c];rw[aPK c1]at e1;generalize D.lst (r++[tD l])=L at *;simp[fL,l0,i0,mY,pE,mZ,e1,e2,p0,dX,a0]
def aN1(rf:List Tr)(t:Tr):(cJ rf t).length<=rf.length+1:=by
 unfold cJ;split
 . simp
 . split <;> simp
def aN2{rf:List Tr}(h:∀x∈rf,isK 3 x.1)(ht:isK 3 t.1):∀x∈cJ rf t,isK 3 x.1:=by
 unfold cJ;split
 . intro x hx;cases aSZ.mp hx;exact ht
 . split
   . intro x hx;rcases aPY.mp hx with rfl|hx
     . exact ht
     . exact h x (mcm hx)
   . intro x hx;rcases aPY.mp hx with rfl|hx
     . exact ht
     . exact h x hx
theorem gY{W:WD}{A:Option (Bool×D)}:∀(S rf:List Tr) (x2 x3 x4:Option (Bool×D)),(∀t∈S,isK 3 t.1)->(∀t∈rf,isK 3 t.1)->rf.length+S.length<1000->∃y2 y3 y4,bO (aU (.tp [.nm 2,.nm 3,.nm 4])) (evB W fL) (S.map tD) [A,some (true,.lst (rf.reverse.map tD)),x2,x3,x4]=.nx [A,some (true,.lst ((S.foldl cJ rf).reverse.map tD)),y2,y3,y4]
 |[],rf,x2,x3,x4,_,_,_=>⟨x2,x3,x4,rfl⟩
 |t::S,rf,x2,x3,x4,hS,hr,hl=>by
  have ht:=hS t mcs;rw[aR7]at hl;obtain⟨y2,y3,y4,e⟩:=gY (W:=W) (A:=A) S (cJ rf t) (sf (nD t.1.1)) (sf (nD t.1.2)) (si t.2) (λx hx=>hS x (mcm hx)) (aN2 hr ht) (by have:=aN1 rf t;lia)
  refine⟨y2,y3,y4,?_⟩;have eb:evB W fL [A,some (true,.lst (rf.reverse.map tD)),sf (nD t.1.1),sf (nD t.1.2),si t.2]=.nx [A,some (true,.lst ((cJ rf t).reverse.map tD)),sf (nD t.1.1),sf (nD t.1.2),si t.2]:=by
   cases rf with
   |nil=>exact body0 (x2:=x2) (x3:=x3) (x4:=x4)
   |cons l r =>
    rw[aVP,aUI];show evB W fL [A,some (true,.lst (r.reverse.map tD++[tD l])),_,_,_]=_;rw[body1 (hr l mcs) ht (by rw[aQ2,aVQ,aQI];rw[aR7]at hl;lia)]
    unfold cJ;dsimp only;split
    . rw[aVP,aUI];rfl
    . rw[aVP,aVP,aUI,aUI];rfl
  rw[aRR,i7 t];unfold bO;rw[show aU (.tp [.nm 2,.nm 3,.nm 4]) (.tup [nD t.1.1,nD t.1.2,.int t.2]) [A,some (true,.lst (rf.reverse.map tD)),x2,x3,x4]=some [A,some (true,.lst (rf.reverse.map tD)),sf (nD t.1.1),sf (nD t.1.2),si t.2]from by simp]
  dsimp only;rw[eb];exact e
theorem aN3{ts S:List Tr}(hs:S.map tmN=aV (ts.map tmN))(h:∀t∈ts,isK 3 t.1)(hl:ts.length<900){d:D}(hd:d=.tup (ts.map tD)\/d=.lst (ts.map tD)):(Wk (k+1)).Φ "reason_of" [d]=okf (.tup (nDL (aV ((aW ts).map tmN)))):=by
 obtain⟨ok,ft⟩:=aAO h (aPP hl (by decide))
 have hS:∀t∈S,isK 3 t.1:=λt ht=>by
  have:tmN t∈aV (ts.map tmN):=by rw[<- hs];exact aVG ht
  obtain⟨u,hu,e⟩:=aVC.mp ((dE _).mem_iff.mp this);rw[<- aAC e];exact h u hu
 have lS:S.length<900:=by have:=congrArg List.length hs;rw[aQ2,mU,aQ2]at this;lia
 have e1:fE [(.fz,d)]=some (.fr,.lst (S.map tD)):=by rw[<- iB S,hs];exact sW (by rw[iB];rcases hd with rfl|rfl <;> rfl) ft ok
 obtain⟨y2,y3,y4,e2⟩:=gY (W:=WT TT k) (A:=sf d) S [] none none none hS (λt ht=>nomatch ht) (by simp;lia)
 have e3:dU [(.fz,.lst ((S.foldl cJ []).reverse.map tD))]=some (.fz,.tup (nDL (aV ((aW ts).map tmN)))):=by show some (Md.fz,D.tup ((S.foldl cJ []).reverse.map tD))=_;rw[<- iB,both hs]
 rw[aNB];refine dH rfl ?_;show evB _ oV [sf d,none,none,none,none]=_;have e2:bO (aU (.tp [.nm 2,.nm 3,.nm 4])) (evB (Wk k) fL) (S.map tD) [sf d,some (true,.lst []),none,none,none]=_:=e2;have e4:∀{L:D},hG [sf d,some (true,L),y2,y3,y4] 1=.nx [sf d,sf L,y2,y3,y4]:=rfl;unfold oV;generalize fL=B at *;generalize (S.foldl cJ []).reverse.map tD=L at *;generalize nDL (aV ((aW ts).map tmN))=M at *;generalize S.map tD=L0 at *
 clear hd
 simp[pF,e1,fU,e2,e4,Ty.f,e3]
theorem sZ{α:Type}{enc:α->D}{p:α->Bool}{g:α->D}{k:D->Rho->Option Rho}{t e:Rho->Res}{ρ0:Rho}:∀{xs:List α},(∀x∈xs,∃ρ1 m,k (enc x) ρ0=some ρ1/\t ρ1=.ok m (.bl (p x))/\(p x=true->∃m',aZ (e ρ1)=.ok m' (g x)))->cO k t e ρ0 (xs.map enc)=some ((xs.filter p).map g)
 |[],_=>rfl
 |x::xs,h=>by
  obtain⟨ρ1,m,e1,e2,e3⟩:=h x mcs;have ih:=sZ λy hy=>h y (mcm hy);rw[aRR];unfold cO;rw[e1];dsimp only;rw[e2];cases q:p x with
  |true=>obtain⟨m',e3⟩:=e3 q;simp[e3,ih,List.filter_cons,q]
  |false=>simp[ih,List.filter_cons,q]
def aAQ{enc:α->D}(p:α->Bool)(g:α->D){k:D->Rho->Option Rho}{t e:Rho->Res}{m:Md}{xs:List α}(hl:xs.length<sizeLine)(h:∀x∈xs,∃ρ1 m,k (enc x) (bM aB ρ++List.replicate n none)=some ρ1/\t ρ1=.ok m (.bl (p x))/\(p x=true->∃m',aZ (e ρ1)=.ok m' (g x))):dB (.ok m (.lst (xs.map enc))) ρ aB n k t e=.ok .fr (.lst ((xs.filter p).map g)):=by unfold dB;rw[Res.thn_ok];dsimp only;rw[if_pos (by simpa using hl),sZ h]
def aN4{enc:α->D}(g:α->D){k:D->Rho->Option Rho}{t e:Rho->Res}{m:Md}{xs:List α}(hl:xs.length<sizeLine)(h:∀x∈xs,∃ρ1 m,k (enc x) (bM aB ρ++List.replicate n none)=some ρ1/\t ρ1=.ok m (.bl true)/\∃m',aZ (e ρ1)=.ok m' (g x)):dB (.ok m (.lst (xs.map enc))) ρ aB n k t e=.ok .fr (.lst (xs.map g)):=by
 have:=aAQ (enc:=enc) (λ_=>true) g (ρ:=ρ) (aB:=aB) (n:=n) (k:=k) (t:=t) (e:=e) (m:=m) hl λx hx=>by obtain⟨ρ1,m,e1,e2,e3⟩:=h x hx;exact⟨ρ1,m,e1,e2,λ_=>e3⟩
 rw[this,List.filter_eq_self.mpr λ_ _=>rfl]
noncomputable def F(ys:List Str):N:=.t (ys.map .s)
def i8(ys:List Str):nD (F ys)=.tup (ys.map .str):=by unfold F;rw[nD,dF,aU3];congr 1
abbrev Rw:=List Str×N×Int
noncomputable def enc(r:Rw):D:=.tup [.tup (r.1.map .str),nD r.2.1,.int r.2.2]
def tr(r:Rw):Tr:=((F (a7 r.1),r.2.1),r.2.2)
noncomputable def kv(a:Tr):N×D:=(kyN a.1,.int a.2)
theorem aAR:∀(xs:List Str),txD (xs.map .str)=some xs
 |[]=>rfl
 |x::xs=>by rw[aRR];unfold txD;rw[aAR xs];rfl
def tB{xs:List Str}{m:Md}{d:D}(hd:seqD d=some (xs.map .str))(h:xs.length<64):fE [(m,d)]=some (.fr,.lst ((a7 xs).map .str)):=by
 show(match seqD d with|some ds=>_|none=>none)=_
 rw[hd];dsimp only;rw[aAR];dsimp only;rw[if_pos h]
theorem pG:∀(acc:List Tr) (k:Ky),cY (acc.map kv) (kyN k)=(acc.find? λa=>decide (a.1=k)).map λa=>.int a.2
 |[],k=>rfl
 |a::acc,k=>by
  rw[aRR];by_cases e:a.1=k
  . rw[xI (p:=kv a) (by show kyN a.1=_;rw[e]),List.find?_cons_of_pos (by simpa using e)]
    rfl
  . rw[xJ (p:=kv a) (λz=>e (sP z)),pG acc k,List.find?_cons_of_neg (by simpa using e)]
def tE{k:Ky}{n:Int}(nd:(acc.map (·.1)).Nodup)(h:(k,n)∈acc):acc.find? (λa=>decide (a.1=k))=some (k,n):=by
 induction acc with
 |nil=>cases h
 |cons a acc ih =>
  rw[aRR,aQS]at nd;rcases aPY.mp h with e|h
  . subst e;rw[List.find?_cons_of_pos (by simp)]
  . have:¬ a.1=k:=λe=>nd.1 (by rw[e];exact aVC.mpr ⟨_,h,rfl⟩)
    rw[List.find?_cons_of_neg (by simpa using this)]
    exact ih nd.2 h
def aN5(nd:(acc.map (·.1)).Nodup):((cD acc t).map (·.1)).Nodup:=by
 rw[aAF];split
 . exact nd
 . rename_i q;refine aS9.mpr ⟨nd,aUG _ _,λa ha b hb e=>?_⟩;cases aSZ.mp hb;obtain⟨u,mu,rfl⟩:=aVC.mp ha;exact q (kD.mpr ⟨u,mu,e⟩)
theorem aAS(acc:List Tr)(t:Tr):(cD acc t).length<=acc.length+1:=by
 unfold cD;split
 . rw[aQ2];lia
 . rw[aQ1];exact aQD _
noncomputable def gG(acc:List Tr)(k:Ky):Int:=((acc.find? λa=>decide (a.1=k)).map (·.2)).getD 0
def aN6(acc:List Tr)(k:Ky):(cY (acc.map kv) (kyN k)).getD (.int 0)=.int (gG acc k):=by rw[pG];unfold gG;cases acc.find? λa=>decide (a.1=k) <;> rfl
def aN7(nd:(acc.map (·.1)).Nodup):jV (acc.map kv) (kyN t.1) (.int (gG acc t.1+t.2))=(cD acc t).map kv:=by
 unfold jV cD;rw[pG];by_cases q:(acc.any λa=>decide (a.1=t.1))=true
 . rw[if_pos q];obtain⟨⟨k,n⟩,m,e⟩:=kD.mp q;dsimp only at e;subst e;have hf:=tE nd m;have hv:gG acc t.1=n:=by unfold gG;rw[hf];rfl
   rw[if_pos (by rw[hf];rfl),hv,aU3,aU3]
   refine aVE λa ha=>?_;show(if kyN a.1=kyN t.1 then(kyN a.1,D.int (n+t.2))else kv a)=kv (if a.1=t.1 then(a.1,a.2+t.2)else a);by_cases e:a.1=t.1
   . rw[if_pos e,if_pos (by rw[e])]
     have:a=(t.1,n):=by
      have:=tE nd (k:=t.1) (n:=a.2) (by rw[<- e];exact ha)
      rw[hf]at this;injection this with this
      rw[this,<- e]
     rw[this];rfl
   . rw[if_neg e,if_neg (λz=>e (sP z))]
 . rw[if_neg q];have:(acc.find? λa=>decide (a.1=t.1))=none:=by rw[List.find?_eq_none];intro a ha z;exact q (kD.mpr ⟨a,ha,aR9 z⟩)
   have hv:gG acc t.1=0:=by unfold gG;rw[this];rfl
   rw[if_neg (by rw[this];decide),hv,aVO,aUI]
   rfl
def tF{k:Ky}(h:(kyN k).dp<=8):eG (.tup [nD k.1,nD k.2])=some (kyN k):=by rw[<- K_eq];exact pA h
theorem nbody{W:WD}{A x5:Option (Bool×D)}{r:Rw}(nd:(acc.map (·.1)).Nodup)(hx:r.1.length<64)(h8:(kyN (tr r).1).dp<=8)(hl:acc.length<1000):evB W kB [A,some (true,.dtn (acc.map kv)),sf (.tup (r.1.map .str)),sf (nD r.2.1),si r.2.2,x5]=.nx [A,some (true,.dtn ((cD acc (tr r)).map kv)),sf (.tup (r.1.map .str)),sf (nD r.2.1),si r.2.2,sf (.tup [nD (tr r).1.1,nD (tr r).1.2])]:=by
 have e1:fE [(.fz,.tup (r.1.map .str))]=some (.fr,.lst ((a7 r.1).map .str)):=tB rfl hx;have e2:dU [(.fr,.lst ((a7 r.1).map D.str))]=some (.fz,nD (tr r).1.1):=by show some (Md.fz,D.tup ((a7 r.1).map D.str))=_;rw[show(tr r).1.1=F (a7 r.1)from rfl,i8]
 have e0:nD r.2.1=nD (tr r).1.2:=rfl;have e3:lQ (.ok .bo (.dtn (acc.map kv))) (okf (.tup [nD (tr r).1.1,nD (tr r).1.2])) (okf (.int 0))=okf (.int (gG acc (tr r).1)):=by
  show(match Md.fz,eG (.tup [nD (tr r).1.1,nD (tr r).1.2])with|.fz,some k=>Res.ok .fz ((cY (acc.map kv) k).getD (.int 0))|_,_=>.stuck)=_
  rw[tF h8];dsimp only;rw[aN6]
 have e4 : lT [A, some (true, .dtn (acc.map kv)), sf (.tup (r.1.map .str)), sf (nD (tr r).1.2), si r.2.2, sf (.tup [nD (tr r).1.1, nD (tr r).1.2])] 1 (okf (.tup [nD (tr r).1.1, nD (tr r).1.2])) (okf (.int (gG acc (tr r).1 + r.2.2))) =
     .nx [A,some (true,.dtn ((cD acc (tr r)).map kv)),sf (.tup (r.1.map .str)),sf (nD (tr r).1.2),si r.2.2,sf (.tup [nD (tr r).1.1,nD (tr r).1.2])]:=by
  show(match eG (.tup [nD (tr r).1.1,nD (tr r).1.2])with|some k=>if(acc.map kv).length<sizeLine then aH.nx (List.set [A,some (true,D.dtn (acc.map kv)),sf (D.tup (r.1.map .str)),sf (nD (tr r).1.2),si r.2.2,sf (.tup [nD (tr r).1.1,nD (tr r).1.2])] 1 (some (true,D.dtn (jV (acc.map kv) k (.int (gG acc (tr r).1+r.2.2))))))else .stuck|none=>.stuck)=_
  rw[tF h8];dsimp only;rw[if_pos (by rw[aQ2,aQI];lia)]
  have:=aN7 (t:=tr r) nd;rw[show(tr r).2=r.2.2 from rfl]at this
  rw[this];rfl
 rw[e0];generalize nD (tr r).1.1=Fd at *;generalize nD (tr r).1.2=Bd at *;generalize D.dtn (acc.map kv)=L at *;generalize D.tup (r.1.map .str)=X at *;generalize D.dtn ((cD acc (tr r)).map kv)=L' at *;generalize (a7 r.1).map D.str=Y at *;simp[kB,Ty.f,e1,e2,tup2,e3,e4]
theorem aAT{W:WD}{A:Option (Bool×D)}:∀(rs:List Rw) (acc:List Tr) (x2 x3 x4 x5:Option (Bool×D)),(acc.map (·.1)).Nodup->(∀r∈rs,r.1.length<64/\(kyN (tr r).1).dp<=8)->acc.length+rs.length<1000->∃y2 y3 y4 y5,bO (aU (.tp [.nm 2,.nm 3,.nm 4])) (evB W kB) (rs.map enc) [A,some (true,.dtn (acc.map kv)),x2,x3,x4,x5]=.nx [A,some (true,.dtn (((rs.map tr).foldl cD acc).map kv)),y2,y3,y4,y5]
 |[],acc,x2,x3,x4,x5,_,_,_=>⟨x2,x3,x4,x5,rfl⟩
 |r::rs,acc,x2,x3,x4,x5,nd,h,hl=>by
  obtain⟨h1,h2⟩:=h r mcs;rw[aR7]at hl;obtain⟨y2,y3,y4,y5,e⟩:=aAT (W:=W) (A:=A) rs (cD acc (tr r)) (sf (.tup (r.1.map .str))) (sf (nD r.2.1)) (si r.2.2) (sf (.tup [nD (tr r).1.1,nD (tr r).1.2])) (aN5 nd) (λx hx=>h x (mcm hx)) (by have:=aAS acc (tr r);lia)
  refine⟨y2,y3,y4,y5,?_⟩;rw[aRR];unfold bO;rw[show aU (.tp [.nm 2,.nm 3,.nm 4]) (enc r) [A,some (true,.dtn (acc.map kv)),x2,x3,x4,x5]=some [A,some (true,.dtn (acc.map kv)),sf (.tup (r.1.map .str)),sf (nD r.2.1),si r.2.2,x5]from by simp[enc]]
  dsimp only;rw[nbody nd h1 h2 (by lia)]
  exact e
def aAU{ts:List Tr}(h:∀t∈ts,isK 2 t.1):∀t∈aW ts,isK 2 t.1:=λt ht=>by obtain⟨u,hu,e⟩:=(((gX ts).1 t.1 t.2).mp ht).1;rw[<- e];exact h u hu
theorem aAV:∀(r acc:List Tr),(r.foldl cD acc).length<=acc.length+r.length
 |[],acc=>aQD _
 |t::r,acc=>by have h1:=aAV r (cD acc t);have h2:=aAS acc t;rw[aUU,aR7];lia
def pH(ts:List Tr):(aW ts).length<=ts.length:=by unfold aW;have:=aAV ts [];simpa using this
def nf(ts:List Tr):D:=.tup (nDL (aV ((aW ts).map tmN)))
theorem tI{rs:List Rw}(h:∀r∈rs,r.1.length<64/\isK 2 (tr r).1)(hl:rs.length<900):(Wk (k+1)).Φ "_law_normal" [.lst (rs.map enc)]=okf (nf (rs.map tr)):=by
 have hK:∀t∈rs.map tr,isK 2 t.1:=λt ht=>by obtain⟨r,hr,rfl⟩:=aVC.mp ht;exact(h r hr).2
 obtain⟨tl,nd⟩:=gX (rs.map tr);have aK:=aAU hK;have al:(aW (rs.map tr)).length<900:=by have:=pH (rs.map tr);rw[aQ2]at this;lia
 obtain⟨y2,y3,y4,y5,e2⟩:=aAT (W:=Wk k) (A:=sf (.lst (rs.map enc))) rs [] none none none none aTA (λr hr=>⟨(h r hr).1,(sX (h r hr).2 (aQD 2)).2.2.1⟩) (by simp;lia)
 have e2:bO (aU (.tp [.nm 2,.nm 3,.nm 4])) (evB (Wk k) kB) (rs.map enc) [sf (.lst (rs.map enc)),some (true,.dtn []),none,none,none,none]=.nx [sf (.lst (rs.map enc)),some (true,.dtn ((aW (rs.map tr)).map kv)),y2,y3,y4,y5]:=e2;have e4:j0 [sf (.lst (rs.map enc)),some (true,.dtn ((aW (rs.map tr)).map kv)),y2,y3,y4,y5] 1=.nx [sf (.lst (rs.map enc)),sf (.dtf ((aW (rs.map tr)).map kv)),y2,y3,y4,y5]:=rfl;have e5:lZ (okf (.dtf ((aW (rs.map tr)).map kv)))=okf (.lst ((aW (rs.map tr)).map λa=>nD (kyN a.1))):=by show Res.ok .fz (.lst (((aW (rs.map tr)).map kv).map λkv=>nD kv.1))=_;rw[aU3];rfl
 have e6:dB (okf (.lst ((aW (rs.map tr)).map λa=>nD (kyN a.1)))) [sf (.lst (rs.map enc)),sf (.dtf ((aW (rs.map tr)).map kv)),y2,y3,y4,y5] [1] 1 (aU (.nm 1)) (λρ=>evF (Wk k) [] ρ) (λρ=>evE (Wk k) (.tup [(.ix v1 (.int 0)),(.ix v1 (.int 1)),(.nix v0 v1)]) ρ)=.ok .fr (.lst ((aW (rs.map tr)).map tD)):=by
  refine aN4 (enc:=λa:Tr=>nD (kyN a.1)) tD (by rw[aQI];lia) λa ha=>?_
  refine⟨[sf (.dtf ((aW (rs.map tr)).map kv)),sf (nD (kyN a.1))],.fz,rfl,by simp,.fz,?_⟩
  have g:op2 lP (okf (.dtf ((aW (rs.map tr)).map kv))) (okf (.tup [nD a.1.1,nD a.1.2]))=okf (.int a.2):=cI (by
   show(match some ((aW (rs.map tr)).map kv),eG (.tup [nD a.1.1,nD a.1.2])with|some kvs,some k=>(cY kvs k).map λd=>(Md.fz,d)|_,_=>none)=_
   rw[tF (sX (aK a ha) (aQD 2)).2.2.1];dsimp only;rw[pG,tE nd (k:=a.1) (n:=a.2) ha];rfl)
  rw[i7 a,K_eq];generalize D.dtf ((aW (rs.map tr)).map kv)=L at *;simp[ix2_0,ix2_1,g,dX]
 have e7:fE [(.fr,.lst ((aW (rs.map tr)).map tD))]=some (.fr,.lst (nDL (aV ((aW (rs.map tr)).map tmN)))):=by
  obtain⟨ok,ft⟩:=aAO (λt ht=>aAN (aK t ht)) (aRP al (by decide))
  exact sW (by rw[iB];rfl) ft ok
 have e8:dU [(.fr,.lst (nDL (aV ((aW (rs.map tr)).map tmN))))]=some (.fz,nf (rs.map tr)):=rfl;rw[aNG];refine dH rfl ?_;show evB _ oZ [sf (.lst (rs.map enc)),none,none,none,none,none]=_;unfold oZ;generalize kB=B at *;generalize D.dtf ((aW (rs.map tr)).map kv)=L1 at *;generalize D.dtn ((aW (rs.map tr)).map kv)=L2 at *;generalize ((aW (rs.map tr)).map λa=>nD (kyN a.1))=L3 at *;generalize (aW (rs.map tr)).map tD=L4 at *;generalize nDL (aV ((aW (rs.map tr)).map tmN))=L5 at *;generalize nf (rs.map tr)=L6 at *;generalize E.tup [(E.ix v1 (.int 0)),(.ix v1 (.int 1)),(.nix v0 v1)]=EE at *;generalize rs.map enc=A at *;simp only[aMI]at e6;simp[fU,e2,e4,e5,e6,e7,Ty.f,e8]
theorem aAW(xs:List α)(v:Int)(n:Int)(hn:n=xs.length)(h:0<n):∃c,c∈xs/\atI xs (v % n)=some c:=by
 have h0:=Int.emod_nonneg v (show n≠0 by lia)
 have h1:=Int.emod_lt_of_pos v h;obtain⟨j,hj⟩:=aVR h0;have hl:j<xs.length:=by lia
 exact⟨xs[j],aS8 hl,by rw[hj];exact nL (aSK hl)⟩
noncomputable abbrev NM(nms:List Str):D:=.lst (nms.map .str)
def kI(hn:nms.length=4)(v:Int):∃s:Str,∀m m':Md,op2 ixD (.ok m (NM nms)) (.ok m' (.int (v % 4)))=okf (.str s):=by
 obtain⟨d,hd,e⟩:=aAW (nms.map D.str) v 4 (by simp[hn]) (by decide)
 obtain⟨s,_,rfl⟩:=aVC.mp hd;exact⟨s,λm m'=>iA e⟩
def iC(ts:List Tr):Prop:=(ts≠[]/\ts.length<64)/\∀t∈ts,isF t.1.1/\cS 1 t.1.2
def kJ(h:ys.length<64):isF (F ys):=⟨ys,rfl,aRP h (by decide)⟩
def bs0:cS 1 (.t []):=⟨[],rfl,by decide,λr hr=>nomatch hr⟩
def kK:nD (.t [])=.tup []:=by simp[nD,nDL]
def pI(t:Tr):nD (.t ([t].map tmN))=.tup [.tup [nD t.1.1,nD t.1.2,.int t.2]]:=by rw[nD,dF];show D.tup [nD (tmN t)]=_;rw[kH]
def F_nil:nD (F [])=.tup []:=i8 []
def tJ(s:Str):nD (F [s])=.tup [.str s]:=i8 [s]
def tK{r:Rw}(hx:r.1.length<64)(hb:cS 2 r.2.1):isK 2 (tr r).1:=⟨kJ (by rw[(gR r.1).length_eq];exact hx),hb⟩
def tL{ts:List Tr}:∃S:List Tr,S.Perm ts/\S.map tmN=aV (ts.map tmN):=by obtain⟨S,p,e⟩:=l6 (dE (ts.map tmN));exact⟨S,p,e.symm⟩
theorem bar(hn:nms.length=4)(c:Int):∃ts:List Tr,iC ts/\(Wk (k+2)).Φ "_law_bar" [.int c,NM nms]=okf (nD (.t (ts.map tmN))):=by
 obtain⟨s,hs⟩:=kI hn c;obtain⟨s1,h1⟩:=kI hn (c / 48);obtain⟨s2,h2⟩:=kI hn (c / 192);have one:∀(b:N),cS 1 b->∀n,iC [((F [s],b),n)]:=λb hb n=>⟨⟨by simp,by simp⟩,λt ht=>by cases aSZ.mp ht;exact⟨kJ (by simp),hb⟩⟩
 have cN:∀{d:D},evB (Wk (k+1)) iW [si c,sf (NM nms),none]=.rt .fz d->(Wk (k+2)).Φ "_law_bar" [.int c,NM nms]=okf d:=λ{d} h=>by rw[aNH];exact dH rfl h
 have way:c / 12 % 4=0\/c / 12 % 4=1\/c / 12 % 4=2\/c / 12 % 4=3:=by lia
 rcases way with w|w|w|w
 . refine⟨_,one (.t []) bs0 (1+c / 4 % 3),cN ?_⟩;rw[pI];dsimp only;rw[tJ,kK];generalize NM nms=M at *;simp[iW,hs,gE,i6,dX,w]
 . have rs:∀r∈([([s],.t [],1+c / 4 % 3),([s1,s2],.t [],1)]:List Rw),r.1.length<64/\isK 2 (tr r).1:=λr hr=>by
     simp only[aPY,aVD,aS2]at hr;rcases hr with rfl|rfl
     . exact⟨by simp,tK (by simp) (iZ bs0)⟩
     . exact⟨by simp,tK (by simp) (iZ bs0)⟩
   have nr:=j9 (tI (k:=k) rs (by simp))
   obtain⟨S,p,e⟩:=tL (ts:=aW (([([s],.t [],1+c / 4 % 3),([s1,s2],.t [],1)]:List Rw).map tr));refine⟨S,⟨⟨λz=>?_,by have:=pH (([([s],.t [],1+c / 4 % 3),([s1,s2],.t [],1)]:List Rw).map tr);rw[p.length_eq];rw[aQ2]at this;exact aUV this (by simp)⟩,λt ht=>?_⟩,cN ?_⟩
   . subst z;have hh:=(o7 (gX (([([s],.t [],1+c / 4 % 3),([s1,s2],.t [],1)]:List Rw).map tr)).1 (tr ([s],.t [],1+c / 4 % 3)).1).mpr ⟨_,mcs,rfl⟩;obtain⟨u,hu,_⟩:=hh;exact nomatch p.mem_iff.mpr hu
   . obtain⟨u,hu,eu⟩:=(((gX (([([s],.t [],1+c / 4 % 3),([s1,s2],.t [],1)]:List Rw).map tr)).1 t.1 t.2).mp (p.mem_iff.mp ht)).1;rw[<- eu];obtain⟨r,hr,rfl⟩:=aVC.mp hu;simp only[aPY,aVD,aS2]at hr;rcases hr with rfl|rfl
     . exact⟨kJ (by rw[(gR _).length_eq];simp),bs0⟩
     . exact⟨kJ (by rw[(gR _).length_eq];simp),bs0⟩
   . have eS:nf (([([s],.t [],1+c / 4 % 3),([s1,s2],.t [],1)]:List Rw).map tr)=nD (.t (S.map tmN)):=by unfold nf;rw[<- e,nD]
     rw[eS]at nr;have l2:iJ (.ok [(.fz,.tup [.tup [.str s],.tup [],.int (1+c / 4 % 3)]),(.fz,.tup [.tup [.str s1,.str s2],.tup [],.int 1])])=.ok .fr (.lst (([([s],.t [],1+c / 4 % 3),([s1,s2],.t [],1)]:List Rw).map enc)):=by show Res.ok .fr (.lst [_,_])=.ok .fr (.lst [enc _,enc _]);simp only[enc,kK];rfl
     generalize (([([s],.t [],1+c / 4 % 3),([s1,s2],.t [],1)]:List Rw).map enc)=LL at *;generalize NM nms=M at *;generalize nD (.t (S.map tmN))=RR at *;simp[iW,hs,h1,h2,gE,i6,tup2,dX,w,l2,nr]
 . refine⟨[((F [],.t []),1+c / 48 % 3)],⟨⟨by simp,by simp⟩,λt ht=>by cases aSZ.mp ht;exact⟨kJ (by simp),bs0⟩⟩,cN ?_⟩
   rw[pI];dsimp only;rw[F_nil,kK];generalize NM nms=M at *;simp[iW,hs,gE,i6,dX,w]
 . refine⟨_,one (.t [.t ([((F [s1],.t []),1)].map tmN)]) ⟨_,rfl,by simp,λr hr=>?_⟩ (1+c / 4 % 3),cN ?_⟩
   . cases aSZ.mp hr;exact⟨_,rfl,by simp,λt ht=>by cases aSZ.mp ht;exact⟨kJ (by simp),rfl⟩⟩
   . rw[pI];dsimp only;have e2:nD (.t [.t ([((F [s1],.t []),(1:Int))].map tmN)])=.tup [.tup [.tup [.tup [.str s1],.tup [],.int 1]]]:=by rw[nD,nDL,pI,nDL];dsimp only;rw[tJ,kK]
     rw[tJ,e2];generalize NM nms=M at *;simp[iW,hs,h1,gE,i6,dX,w,mY,mZ]
theorem aAX{α:Type}(P:α->Prop)(g:α->D){k:D->Rho->Option Rho}{t e:Rho->Res}{ρ0:Rho}:∀{ds:List D},(∀d∈ds,∃ρ1 m x m',k d ρ0=some ρ1/\t ρ1=.ok m (.bl true)/\aZ (e ρ1)=.ok m' (g x)/\P x)->∃xs:List α,cO k t e ρ0 ds=some (xs.map g)/\xs.length=ds.length/\∀x∈xs,P x
 |[],_=>⟨[],rfl,rfl,λx hx=>nomatch hx⟩
 |d::ds,h=>by
  obtain⟨ρ1,m,x,m',e1,e2,e3,px⟩:=h d mcs;obtain⟨xs,f1,f2,f3⟩:=aAX P g λy hy=>h y (mcm hy);refine⟨x::xs,?_,by simp[f2],λy hy=>?_⟩
  . unfold cO;rw[e1];dsimp only;rw[e2];simp[e3,f1]
  . rcases aPY.mp hy with rfl|hy
    . exact px
    . exact f3 y hy
def aAY(P:α->Prop)(g:α->D){k:D->Rho->Option Rho}{t e:Rho->Res}{m:Md}(hl:ds.length<sizeLine)(h:∀d∈ds,∃ρ1 m x m',k d (bM aB ρ++List.replicate n none)=some ρ1/\t ρ1=.ok m (.bl true)/\aZ (e ρ1)=.ok m' (g x)/\P x):∃xs:List α,dB (.ok m (.lst ds)) ρ aB n k t e=.ok .fr (.lst (xs.map g))/\xs.length=ds.length/\∀x∈xs,P x:=by obtain⟨xs,f1,f2,f3⟩:=aAX P g h;refine⟨xs,?_,f2,f3⟩;unfold dB;rw[Res.thn_ok];dsimp only;rw[if_pos hl,f1]
noncomputable def pJ:Int:=10000000000000000000000000000000000000000
def pow40:op2 (bC .Pow) (okf (.int 10)) (okf (.int 40))=okf (.int pJ):=by rfl
def z40:(0:Int)<pJ:=by decide
theorem tM{ts:List Tr}(h:∀t∈ts,isF t.1.1/\cS 1 t.1.2):(N.t (ts.map tmN)).dp<=8:=by
 rw[N.dp];have:N.dpL (ts.map tmN)<=5:=iY λx hx=>by obtain⟨t,ht,rfl⟩:=aVC.mp hx;have a1:=mV (h t ht).1;have a2:=mW (h t ht).2;simp only[tmN,N.dp,N.dpL];lia
 lia
def aAZ{ts:List Tr}(h:iC ts):bK (.t (ts.map tmN))=true:=by
 obtain⟨h0,_⟩:=h;cases ts with
 |nil=>exact absurd rfl h0.1
 |cons t ts=>rfl
def ok_R{ts us:List Tr}(h1:iC ts)(h2:iC us):okN (.t (ts.map tmN)) (.t (us.map tmN))=true:=by rw[okN];refine kE λa ha b hb=>?_;obtain⟨s,hs,rfl⟩:=aVC.mp ha;obtain⟨t,ht,rfl⟩:=aVC.mp hb;exact pC (pB (h1.2 s hs).1 (h2.2 t ht).1) (pD (h1.2 s hs).2 (h2.2 t ht).2)
def aA0{l:List N}(h:cH l)(nd:l.Nodup):StN l:=by
 have:l.Pairwise λx y=>ltN y x=false/\x≠y:=List.pairwise_and_iff.mpr ⟨h,nd⟩;refine this.imp λ{x y} q=>?_;cases e:ltN x y with
 |true=>rfl
 |false=>exact absurd (lY x y e q.1) q.2
def aA1{r:N}{l:List N}:r∈uqN l↔r∈l:=by unfold uqN;rw[(dE _).mem_iff,j3]
def aA2(a b:N):(uqN [a,b]).length<=2:=by unfold uqN;rw[mU];unfold ddN;split <;> simp[ddN]
def aN8{ts us:List Tr}{m:Md}(h1:iC ts)(h2:iC us):∃b:N,(cS 2 b/\(lN b).length<=2/\StN (lN b)/\∀r∈lN b,bK r=true)/\fR dU (cZ (fG (.ok m (.lst [nD (.t (ts.map tmN)),nD (.t (us.map tmN))]))) (.ok []))=okf (nD b):=by
 have two:∀{r},r∈[N.t (ts.map tmN),.t (us.map tmN)]->∃vs:List Tr,iC vs/\r=.t (vs.map tmN):=λ{r} hr=>by
  simp only[aPY,aVD,aS2]at hr;rcases hr with rfl|rfl
  . exact⟨ts,h1,rfl⟩
  . exact⟨us,h2,rfl⟩
 have tf:∀r∈[N.t (ts.map tmN),.t (us.map tmN)],bK r=true:=λr hr=>by obtain⟨vs,h,rfl⟩:=two hr;exact aAZ h
 have ok:okS [.t (ts.map tmN),.t (us.map tmN)]=true:=by
  unfold okS;simp only[aRJ,aSA,aR8];rw[aTZ,aTZ,aTZ];refine⟨⟨⟨λk hk=>?_,.inr tf⟩,λx hx=>aTZ.mpr λy hy=>?_⟩,aPP (by decide:2<1000) sY⟩
  . obtain⟨vs,h,rfl⟩:=two hk;exact aRS (aPV (tM h.2) (by decide))
  . obtain⟨vs,h,rfl⟩:=two hx;obtain⟨ws,h',rfl⟩:=two hy;exact ok_R h h'
 refine⟨.t (uqN [.t (ts.map tmN),.t (us.map tmN)]),⟨⟨_,rfl,aUV (aA2 _ _) (by decide),λr hr=>?_⟩,aA2 _ _,aA0 (eX _) ((dE _).nodup_iff.mpr (l9 _)),λr hr=>tf r (aA1.mp hr)⟩,?_⟩
 . obtain⟨vs,h,rfl⟩:=two (aA1.mp hr);exact⟨vs,rfl,h.1.2,h.2⟩
 . have e:fG (.ok m (.lst [nD (.t (ts.map tmN)),nD (.t (us.map tmN))]))=.ok .fr (.lst (nDL (uqN [.t (ts.map tmN),.t (us.map tmN)]))):=by unfold fG;rw[Res.thn_ok];dsimp only;unfold gD gD gD;rw[pA (tM h1.2),pA (tM h2.2)];dsimp only;rw[if_pos (by rw[aRJ,aRJ,aTZ];exact⟨⟨rfl,tf⟩,ok⟩)]
   rw[e,nD];rfl
theorem facts(hn:nms.length=4)(c:Int)(ρ:Rho)(h0:ρ[0]? = some (si c))(h1:ρ[1]? = some (sf (NM nms))):∃xs:List Str,xs.length<4/\dB (eP (.ok [(.fz,.int (c / 64 % 4))])) ρ [1,0] 1 (aU (.nm 2)) (λρ=>evF (Wk k) [] ρ) (λρ=>evE (Wk k) (.ix v0 (.bin .Mod (.bin .FloorDiv v1 (.ix (.lst [(.int 1),(.int 4),(.int 16)]) v2)) (.int 4))) ρ)=.ok .fr (.lst (xs.map .str)):=by
 have hr:eP (.ok [(.fz,.int (c / 64 % 4))])=okf (.lst (bU 0 (c / 64 % 4))):=by show(if(decide (-(2 ^ 62)<=c / 64 % 4)&&decide (c / 64 % 4<2 ^ 62))=true then Res.ok .fz (.lst (bU 0 (c / 64 % 4)))else .stuck)=_;rw[if_pos (by rw[aRJ,aR8,aR8];lia)]
 have hsub:bM [1,0] ρ=[sf (NM nms),si c]:=by simp[bM,h0,h1]
 rw[hr];have len:(bU 0 (c / 64 % 4)).length<4:=by simp[bU];lia
 obtain⟨xs,e,l,_⟩:=aAY (ρ:=ρ) (aB:=[1,0]) (n:=1) (k:=aU (.nm 2)) (t:=λρ=>evF (Wk k) [] ρ) (e:=λρ=>evE (Wk k) (.ix v0 (.bin .Mod (.bin .FloorDiv v1 (.ix (.lst [(.int 1),(.int 4),(.int 16)]) v2)) (.int 4))) ρ) (m:=.fz) (ds:=bU 0 (c / 64 % 4)) (λ_:Str=>True) D.str (by rw[aQI];lia) (λd hd=>by
  unfold bU at hd;obtain⟨j,hj,rfl⟩:=aVC.mp hd;rw[aPT]at hj;have hj3:j=0\/j=1\/j=2:=by lia
  have l3:∀{m:Md},iJ (.ok [(.fz,.int 1),(.fz,.int 4),(.fz,.int 16)])=.ok .fr (.lst [.int 1,.int 4,.int 16]):=λ{m}=>rfl;rw[hsub];have i0:op2 ixD (.ok .fr (.lst [.int 1,.int 4,.int 16])) (okf (.int 0))=okf (.int 1):=iA rfl;have i1:op2 ixD (.ok .fr (.lst [.int 1,.int 4,.int 16])) (okf (.int 1))=okf (.int 4):=iA rfl;have i2:op2 ixD (.ok .fr (.lst [.int 1,.int 4,.int 16])) (okf (.int 2))=okf (.int 16):=iA rfl;rcases hj3 with rfl|rfl|rfl
  . obtain⟨s,hs⟩:=kI hn (c / 1);have hs:=hs .fz .fz;refine⟨[sf (NM nms),si c,si (0)],.fz,s,.fz,by simp,by simp,?_,trivial⟩
    generalize NM nms=M at *;simp at hs;simp[l3 (m:=.fz),i0,hs]
  . obtain⟨s,hs⟩:=kI hn (c / 4);have hs:=hs .fz .fz;refine⟨[sf (NM nms),si c,si (1)],.fz,s,.fz,by simp,by simp,?_,trivial⟩
    generalize NM nms=M at *;simp[l3 (m:=.fz),i1,hs]
  . obtain⟨s,hs⟩:=kI hn (c / 16);have hs:=hs .fz .fz;refine⟨[sf (NM nms),si c,si (2)],.fz,s,.fz,by simp,by simp,?_,trivial⟩
    generalize NM nms=M at *;simp[l3 (m:=.fz),i2,hs])
 exact⟨xs,by lia,e⟩
def Bb(b:N):Prop:=cS 2 b/\(lN b).length<=2/\StN (lN b)/\∀r∈lN b,bK r=true
def pK(r:Rw):Prop:=r.1.length<64/\cS 2 r.2.1/\a7 r.1=r.1/\r.1.length<4/\Bb r.2.1/\r.2.2.natAbs<2 ^ 140
def aN9(xs:List Str):a7 (a7 xs)=a7 xs:=(yF (oM xs) (aUZ _)).symm
def tN(xs:List Str):(a7 xs).length=xs.length:=(gR xs).length_eq
theorem term(hn:nms.length=4)(c:Int):∃r:Rw,pK r/\(Wk (k+3)).Φ "_law_term" [.int c,NM nms]=okf (enc r):=by
 obtain⟨xs,lx4,hx⟩:=facts (k:=k+2) hn c [si c,sf (NM nms),none,none,none] rfl rfl;have lx:xs.length<64:=aRP lx4 (by decide)
 obtain⟨ts,h1,b1⟩:=bar (k:=k) hn (c / 768);obtain⟨us,h2,b2⟩:=bar (k:=k) hn (c / 9216);obtain⟨b,hb,eb⟩:=aN8 (m:=.fr) h1 h2;have b1:=gU b1;have b2:=gU b2;have s1:fE [(.fz,.lst (xs.map D.str))]=some (.fr,.lst ((a7 xs).map .str)):=tB rfl lx;have s2:dU [(.fr,.lst ((a7 xs).map D.str))]=some (.fz,.tup ((a7 xs).map .str)):=rfl;have cN:∀{d:D},evB (Wk (k+2)) dI [si c,sf (NM nms),none,none,none]=.rt .fz d->(Wk (k+3)).Φ "_law_term" [.int c,NM nms]=okf d:=λ{d} h=>by rw[aNI];exact dH rfl h
 have l2:∀{x y:D},iJ (.ok [(.fz,x),(.fz,y)])=.ok .fr (.lst [x,y]):=rfl;have bars:∃b:N,Bb b/\evB (Wk (k+2)) (dI.drop 1 |>.take 3) [si c,sf (NM nms),sf (.lst (xs.map .str)),none,none]=.nx [si c,sf (NM nms),sf (.lst (xs.map .str)),sf (nD b),none]:=by
  have way:c / 256 % 3=0\/c / 256 % 3=1\/c / 256 % 3=2:=by lia
  have bn:Bb (.t []):=⟨iZ bs0,by show 0<=2;decide,List.Pairwise.nil,λr hr=>nomatch hr⟩
  generalize xs.map D.str=X at *;generalize NM nms=M at *;rcases way with w|w|w
  . refine⟨.t [],bn,?_⟩;rw[kK];simp[dI,gE,w]
  . refine⟨.t [.t (ts.map tmN)],⟨⟨_,rfl,by simp,λr hr=>by cases aSZ.mp hr;exact⟨ts,rfl,h1.1.2,h1.2⟩⟩,by show 1<=2;decide,aUG _ _,λr hr=>by cases aSZ.mp hr;exact aAZ h1⟩,?_⟩
    have e:nD (.t [.t (ts.map tmN)])=.tup [nD (.t (ts.map tmN))]:=by rw[nD,nDL,nDL]
    rw[e];generalize nD (.t (ts.map tmN))=R1 at *;simp[dI,gE,i6,w,b1]
  . refine⟨b,hb,?_⟩;generalize nD (.t (ts.map tmN))=R1 at *;generalize nD (.t (us.map tmN))=R2 at *;generalize nD b=BB at *;simp[dI,gE,w,b1,b2,l2,Ty.f,eb]
 obtain⟨b',hb',eb'⟩:=bars;have times:∃n:Int,n.natAbs<2 ^ 140/\evB (Wk (k+2)) (dI.drop 4) [si c,sf (NM nms),sf (.lst (xs.map .str)),sf (nD b'),none]=.rt .fz (.tup [.tup ((a7 xs).map .str),nD b',.int n]):=by
  generalize xs.map D.str=X at *;generalize (a7 xs).map D.str=Y at *;generalize NM nms=M at *;generalize nD b'=BB at *;by_cases w:c % 5=2
  . refine⟨1+c / 7 % pJ,by unfold pJ;lia,?_⟩
    simp[dI,w,pow40,z40,s1,s2,Ty.f,dX]
  . refine⟨1+c / 768 % 3,by lia,?_⟩
    have w:(c % 5==2)=false:=by simpa using w
    simp[dI,w,s1,s2,Ty.f,dX]
 obtain⟨n,bn,en⟩:=times;refine⟨(a7 xs,b',n),⟨by rw[tN];exact lx,hb'.1,aN9 xs,by rw[tN];exact lx4,hb',bn⟩,cN ?_⟩
 have split:dI=dI.take 1++((dI.drop 1).take 3++dI.drop 4):=rfl;rw[split,gW];have first:evB (Wk (k+2)) (dI.take 1) [si c,sf (NM nms),none,none,none]=.nx [si c,sf (NM nms),sf (.lst (xs.map .str)),none,none]:=by generalize xs.map D.str=X at *;generalize NM nms=M at *;simp at hx;simp[dI,hx]
 rw[first,aH.thn_nx,gW,eb',aH.thn_nx,en]
 rfl
theorem aOA(hn:nms.length=4)(cs:List Int)(hl:cs.length<64):∃rs:List Rw,rs.length=cs.length/\(∀r∈rs,pK r)/\(Wk (k+4)).Φ "_law_reason" [.lst (cs.map .int),NM nms]=okf (nf (rs.map tr)):=by
 obtain⟨rs,e,l,g⟩:=aAY (ρ:=[sf (.lst (cs.map .int)),sf (NM nms)]) (aB:=[1]) (n:=1) (k:=aU (.nm 1)) (t:=λρ=>evF (Wk (k+3)) [] ρ) (e:=λρ=>evE (Wk (k+3)) (.call "_law_term" 2 [v1,v0]) ρ) (m:=.fz) (ds:=cs.map .int) pK enc (by rw[aQ2,aQI];lia) (λd hd=>by
  obtain⟨c,_,rfl⟩:=aVC.mp hd;obtain⟨r,gr,er⟩:=term (k:=k) hn c;have er:=gU er;refine⟨[sf (NM nms),si c],.fz,r,.fz,rfl,by simp,?_,gr⟩
  generalize NM nms=M at *;simp[er])
 rw[aQ2]at l;refine⟨rs,l,g,?_⟩;have nr:=j9 (tI (k:=k+2) (rs:=rs) (λr hr=>⟨(g r hr).1,tK (g r hr).1 (g r hr).2.1⟩) (by lia))
 rw[aNJ];refine dH rfl ?_;show evB _ o3 [sf (.lst (cs.map .int)),sf (NM nms)]=_;simp at e;generalize NM nms=M at *;generalize cs.map D.int=C at *;generalize rs.map enc=RE at *;simp[o3,e,nr]
def ix_s{m:Md}{i:Int}{c:Nat}(h:atI z.cps.toList i=some c):op2 ixD (.ok m (.str z)) (.ok m' (.int i))=okf (.str ⟨#[c]⟩):=cI (by show(atI z.cps.toList i).map _=_;rw[h];rfl)
def aA3(z:Str)(n:Int)(hn:n=z.cps.toList.length)(h:0<n)(v:Int):∃y:Str,y.length=1/\∀m m':Md,op2 ixD (.ok m (.str z)) (.ok m' (.int (v % n)))=okf (.str y):=by obtain⟨c,_,e⟩:=aAW z.cps.toList v n hn h;exact⟨⟨#[c]⟩,rfl,λm m'=>ix_s e⟩
noncomputable def bD:Str := "abcdefghijklmnopqrstuvwxyz"
noncomputable def bG:Str:=bD++("0123456789":Str)
def aOB:(26:Int)=bD.cps.toList.length:=by decide +kernel
def aOC:(36:Int)=bG.cps.toList.length:=by decide +kernel
def aA4(a b:Str):(a++b).length=a.length+b.length:=by show(a.cps++b.cps).size=_;rw[Array.size_append];rfl
theorem aOD{W:WD}{c k at' j:Int}{x1 x4 x6 x10:Option (Bool×D)}(hj:0<=j)(hj5:j<=4)(hz:z.length<=50):∃(z':Str) (v:Int),z'.length=z.length+1/\evB W eL [si c,x1,sf (.str bD),sf (.str bG),x4,si at',x6,si k,sf (.str z),si j,x10]=.nx [si c,x1,sf (.str bD),sf (.str bG),x4,si at',x6,si k,sf (.str z'),si j,si v]:=by
 have m6:op2 (bC .Mult) (okf (.int 6)) (okf (.int j))=okf (.int (6 * j)):=zF (by decide)
 have m11:op2 (bC .Mult) (okf (.int 11)) (okf (.int j))=okf (.int (11 * j)):=zF (by decide)
 have d7:op2 (bC .FloorDiv) (okf (.int c)) (okf (.int (7+6 * j)))=okf (.int (c / (7+6 * j))):=zC (by lia) (by lia)
 have st : ∀ v : Int, ∃ z' : Str, z'.length = z.length + 1 ∧ ∀ (y : Option (Bool × D)), evB W [eL.getD 2 .never] [si c, x1, sf (.str bD), sf (.str bG), x4, si at', x6, si k, sf (.str z), si j, si v] =
     .nx [si c,x1,sf (.str bD),sf (.str bG),x4,si at',x6,si k,sf (.str z'),si j,si v]:=λv=>by
  obtain⟨y1,l1,e1⟩:=aA3 bD 26 aOB (by decide) v
  obtain⟨y2,l2,e2⟩:=aA3 bG 36 aOC (by decide) v
  have e1:=e1 .fz .fz;have e2:=e2 .fz .fz;have a1:op2 (bC .Add) (okf (.str z)) (okf (.str y1))=okf (.str (z++y1)):=oQ (by rw[aQI];lia)
  have a2:op2 (bC .Add) (okf (.str z)) (okf (.str y2))=okf (.str (z++y2)):=oQ (by rw[aQI];lia)
  generalize bD=LL at *;generalize bG=SS at *;by_cases w:j=0
  . refine⟨z++y1,by rw[aA4,l1],λ_=>?_⟩
    simp[eL,w,e1,a1]
  . refine⟨z++y2,by rw[aA4,l2],λ_=>?_⟩
    have w:(j==0)=false:=by simpa using w
    simp[eL,w,e2,a2]
 have fst : ∃ v : Int, evB W (eL.take 2) [si c, x1, sf (.str bD), sf (.str bG), x4, si at', x6, si k, sf (.str z), si j, x10] =
     .nx [si c,x1,sf (.str bD),sf (.str bG),x4,si at',x6,si k,sf (.str z),si j,si v]:=by
  generalize bD=LL at *;generalize bG=SS at *;by_cases w:j=at'
  . subst w;exact⟨c / 25+k,by simp[eL,m6,m11,d7]⟩
  . have w:(j==at')=false:=by simpa using w
    exact⟨c / (7+6 * j)+11 * j,by simp[eL,m6,m11,d7,w]⟩
 obtain⟨v,ev⟩:=fst;obtain⟨z',lz,ez⟩:=st v;refine⟨z',v,lz,?_⟩;have split:eL=eL.take 2++[eL.getD 2 .never]:=rfl;rw[split,gW,ev,aH.thn_nx];exact ez none
theorem aA5{W:WD}{c k at':Int}{x1 x4 x6:Option (Bool×D)}:∀(js:List Int) (z:Str) (x9 x10:Option (Bool×D)),(∀j∈js,0<=j/\j<=4)->z.length+js.length<=50->∃(z':Str) (y9 y10:Option (Bool×D)),z'.length=z.length+js.length/\bO (aU (.nm 9)) (evB W eL) (js.map .int) [si c,x1,sf (.str bD),sf (.str bG),x4,si at',x6,si k,sf (.str z),x9,x10]=.nx [si c,x1,sf (.str bD),sf (.str bG),x4,si at',x6,si k,sf (.str z'),y9,y10]
 |[],z,x9,x10,_,_=>⟨z,x9,x10,rfl,rfl⟩
 |j::js,z,x9,x10,h,hz=>by
  rw[aR7]at hz;obtain⟨z1,v,l1,e1⟩:=aOD (W:=W) (c:=c) (k:=k) (at':=at') (x1:=x1) (x4:=x4) (x6:=x6) (x10:=x10) (z:=z) (h j mcs).1 (h j mcs).2 (by lia)
  obtain⟨z2,y9,y10,l2,e2⟩:=aA5 (W:=W) (c:=c) (k:=k) (at':=at') (x1:=x1) (x4:=x4) (x6:=x6) js z1 (si j) (si v) (λi hi=>h i (mcm hi)) (by lia)
  refine⟨z2,y9,y10,by rw[aR7];lia,?_⟩
  rw[aRR];unfold bO;rw[show aU (.nm 9) (.int j) [si c,x1,sf (.str bD),sf (.str bG),x4,si at',x6,si k,sf (.str z),x9,x10]=some [si c,x1,sf (.str bD),sf (.str bG),x4,si at',x6,si k,sf (.str z),si j,x10]from by simp]
  dsimp only;rw[e1];exact e2
def iD{k:D->Rho->Option Rho}{body:Rho->aH}{d:D}{ρ1 ρ2:Rho}(h1:k d ρ=some ρ1)(h2:body ρ1=.nx ρ2):bO k body (d::ds) ρ=bO k body ds ρ2:=by
 conv=>lhs;unfold bO
 rw[h1];dsimp only;rw[h2]
def aOE{m:Md}{i:Int}(h:g ρ=.ok m' (.int i)):slP (.ok m (.str z)) none (some g) ρ=okf (.str (Txt.slice z none (some i))):=by unfold slP;rw[Res.thn_ok];show bY none ρ _=_;unfold bY;show(g ρ).thn _=_;rw[h];rfl
theorem rng5(n:Int)(h0:0<=n)(h5:n<=5):∃js:List Int,js.length<=5/\(∀j∈js,0<=j/\j<=4)/\eP (.ok [(.fz,.int n)])=okf (.lst (js.map .int)):=by
 refine⟨(List.range n.toNat).map λi:Nat=>(i:Int),by simp;lia,λj hj=>?_,?_⟩
 . obtain⟨i,hi,rfl⟩:=aVC.mp hj;rw[aPT]at hi;lia
 . show(if(decide (-(2 ^ 62)<=n)&&decide (n<2 ^ 62))=true then Res.ok .fz (.lst (bU 0 n))else .stuck)=_;rw[if_pos (by rw[aRJ,aR8,aR8];lia)]
   unfold bU;rw[aU3,Int.sub_zero];congr 3;funext i;show D.int (0+(i:Int))=D.int i;rw[aVO]
theorem aOF{W:WD}{c k at' n:Int}{x1 x8 x9 x10:Option (Bool×D)}{ns:List Str}(h0:0<=n)(h5:n<=5)(hk:0<=k)(hk3:k<=3)(hl:ns.length<=10):∃(s:Str) (y8 y9 y10:Option (Bool×D)),evB W hZ [si c,x1,sf (.str bD),sf (.str bG),si n,si at',some (true,.lst (ns.map .str)),si k,x8,x9,x10]=.nx [si c,x1,sf (.str bD),sf (.str bG),si n,si at',some (true,.lst ((ns++[s]).map .str)),si k,y8,y9,y10]:=by
 obtain⟨js,lj,hj,er⟩:=rng5 n h0 h5;obtain⟨z,y9,y10,lz,ez⟩:=aA5 (W:=W) (c:=c) (k:=k) (at':=at') (x1:=x1) (x4:=si n) (x6:=some (true,.lst (ns.map .str))) js Str.empty x9 x10 hj (by show 0+_<=_;lia)
 have lz:z.length<=5:=by rw[lz];show 0+js.length<=5;lia
 have d5:op2 (bC .FloorDiv) (okf (.int c)) (okf (.int (5+k)))=okf (.int (c / (5+k))):=zC (by lia) (by lia)
 refine⟨z++Txt.slice "a9z" none (some (c / (5+k) % 4)),sf (.str z),y9,y10,?_⟩;have sl:slP (okf (.str "a9z")) none (some (evE W (.bin .Mod (.bin .FloorDiv v0 (.bin .Add (.int 5) v7)) (.int 4)))) [si c,x1,sf (.str bD),sf (.str bG),si n,si at',some (true,.lst (ns.map .str)),si k,sf (.str z),y9,y10]=okf (.str (Txt.slice "a9z" none (some (c / (5+k) % 4)))):=aOE (m':=.fz) (by
  generalize bD=LL at *;generalize bG=SS at *;simp[d5])
 have l3:(Txt.slice "a9z" none (some (c / (5+k) % 4))).length<=3:=aSE _ _ _;have a1:op2 (bC .Add) (okf (.str z)) (okf (.str (Txt.slice "a9z" none (some (c / (5+k) % 4)))))=okf (.str (z++Txt.slice "a9z" none (some (c / (5+k) % 4)))):=oQ (by rw[aQI];lia)
 have ap:∀s:Str,eF [si c,x1,sf (.str bD),sf (.str bG),si n,si at',some (true,.lst (ns.map .str)),si k,sf (.str z),y9,y10] 6 (okf (.str s))=.nx [si c,x1,sf (.str bD),sf (.str bG),si n,si at',some (true,.lst ((ns++[s]).map .str)),si k,sf (.str z),y9,y10]:=λs=>by
  show(if(ns.map D.str).length<sizeLine then _ else _)=_;rw[if_pos (by rw[aQ2,aQI];lia),aUI]
  rfl
 have ap:=ap (z++Txt.slice "a9z" none (some (c / (5+k) % 4)));have ez:bO (aU (.nm 9)) (evB W eL) (js.map .int) [si c,x1,sf (.str bD),sf (.str bG),si n,si at',some (true,.lst (ns.map .str)),si k,sf (.str (Str.ofString "")),x9,x10]=_:=ez;unfold hZ;generalize eL=B at *;generalize bD=LL at *;generalize bG=SS at *;generalize (z++Txt.slice "a9z" none (some (c / (5+k) % 4)))=ZZ at *;generalize (Txt.slice "a9z" none (some (c / (5+k) % 4)))=Z3 at *;generalize E.bin .Mod (.bin .FloorDiv v0 (.bin .Add (.int 5) v7)) (.int 4)=EE at *;generalize ns.map D.str=X at *;generalize (ns++[ZZ]).map D.str=Y at *;simp[er,fU,ez,sl,a1,ap]
theorem names(c:Int):∃ns:List Str,ns.length=4/\(Wk (k+1)).Φ "_law_names" [.int c,.int 4]=.ok .fr (NM ns):=by
 have n0:0<=1+c % 5:=by lia
 have n5:1+c % 5<=5:=by lia
 have st:∀(ns:List Str) (i:Int) (x8 x9 x10:Option (Bool×D)),0<=i->i<=3->ns.length<=10->∃(s:Str) (y8 y9 y10:Option (Bool×D)),evB (Wk k) hZ [si c,si (4),sf (.str bD),sf (.str bG),si (1+c % 5),si (c / 5 % (1+c % 5)),some (true,.lst (ns.map .str)),si i,x8,x9,x10]=.nx [si c,si (4),sf (.str bD),sf (.str bG),si (1+c % 5),si (c / 5 % (1+c % 5)),some (true,.lst ((ns++[s]).map .str)),si i,y8,y9,y10]:=λns i x8 x9 x10 hi hi3 hl=>aOF n0 n5 hi hi3 hl;obtain⟨s0,a8,a9,a10,e0⟩:=st [] 0 none none none (by decide) (by decide) (by simp)
 obtain⟨s1,b8,b9,b10,e1⟩:=st ([]++[s0]) 1 a8 a9 a10 (by decide) (by decide) (by simp)
 obtain⟨s2,c8,c9,c10,e2⟩:=st ([]++[s0]++[s1]) 2 b8 b9 b10 (by decide) (by decide) (by simp)
 obtain⟨s3,d8,d9,d10,e3⟩:=st ([]++[s0]++[s1]++[s2]) 3 c8 c9 c10 (by decide) (by decide) (by simp)
 refine⟨[s0,s1,s2,s3],rfl,?_⟩;have rg:eP (.ok [(.fz,.int 4)])=okf (.lst [.int 0,.int 1,.int 2,.int 3]):=rfl;have sg:∀(d:D) (L:List D) (x7 x8 x9 x10:Option (Bool×D)),aU (.nm 7) d [si c,si (4),sf (.str bD),sf (.str bG),si (1+c % 5),si (c / 5 % (1+c % 5)),some (true,.lst L),x7,x8,x9,x10]=some [si c,si (4),sf (.str bD),sf (.str bG),si (1+c % 5),si (c / 5 % (1+c % 5)),some (true,.lst L),sf d,x8,x9,x10]:=λd L x7 x8 x9 x10=>rfl;have lp:bO (aU (.nm 7)) (evB (Wk k) hZ) [.int 0,.int 1,.int 2,.int 3] [si c,si (4),sf (.str bD),sf (.str bG),si (1+c % 5),si (c / 5 % (1+c % 5)),some (true,.lst []),none,none,none,none]=.nx [si c,si (4),sf (.str bD),sf (.str bG),si (1+c % 5),si (c / 5 % (1+c % 5)),some (true,NM [s0,s1,s2,s3]),si (3),d8,d9,d10]:=by have e0:evB (Wk k) hZ [si c,si (4),sf (.str bD),sf (.str bG),si (1+c % 5),si (c / 5 % (1+c % 5)),some (true,.lst []),si (0),none,none,none]=_:=e0;rw[iD (sg _ _ _ _ _ _) e0,iD (sg _ _ _ _ _ _) e1,iD (sg _ _ _ _ _ _) e2,iD (sg _ _ _ _ _ _) e3];rfl
 have a0:op2 (bC .Add) (okf (.str bD)) (okf (.str "0123456789"))=okf (.str bG):=oQ (by decide +kernel)
 have md:op2 (bC .Mod) (okf (.int (c / 5))) (okf (.int (1+c % 5)))=okf (.int (c / 5 % (1+c % 5))):=zB (by lia)
 have rt:∀{L:D}{x7 x8 x9 x10:Option (Bool×D)},fT [si c,si (4),sf (.str bD),sf (.str bG),si (1+c % 5),si (c / 5 % (1+c % 5)),some (true,L),x7,x8,x9,x10] 6=.rt .fr L:=rfl;rw[aNF];refine dH rfl ?_;show evB _ oY [si c,si (4),none,none,none,none,none,none,none,none,none]=_;have bd:oY=[.set 2 (.str bD),.set 3 (.frz (.bin .Add v2 (.str "0123456789"))),.set 4 (.frz (.bin .Add (.int 1) (.bin .Mod v0 (.int 5)))),.set 5 (.frz (.bin .Mod (.bin .FloorDiv v0 (.int 5)) v4)),.set 6 (.lst []),.for (.rng1 v1) (.nm 7) hZ,.retV 6]:=rfl;rw[bd];generalize hZ=B at *;generalize bD=LL at *;generalize bG=SS at *;generalize NM [s0,s1,s2,s3]=OUT at *;simp[a0,md,pF,rg,fU,lp,rt]
inductive Sz:N->Prop where
 |i (n:Int):Sz (.i n)
 |s (x:Str):Sz (.s x)
 |t {xs:List N} (h:∀x∈xs,Sz x) (hl:xs.length<1000):Sz (.t xs)
theorem sz_F{f:N}(h:isF f):Sz f:=by
 obtain⟨xs,rfl,l⟩:=h;refine .t (λx hx=>?_) (by rw[aQ2];lia)
 obtain⟨a,_,rfl⟩:=aVC.mp hx;exact .s a
def sz_T(h1:Sz t.1.1)(h2:Sz t.1.2):Sz (tmN t):=.t (λx hx=>by
 simp only[aPY,aVD,aS2]at hx;rcases hx with rfl|rfl|rfl
 . exact h1
 . exact h2
 . exact .i _) (by simp)
theorem sz_B:∀{j:Nat}{b:N},cS j b->Sz b
 |0,b,h=>by cases h;exact .t (λx hx=>nomatch hx) (by simp)
 |j+1,b,h=>by
  obtain⟨rs,rfl,l,h⟩:=h;refine .t (λr hr=>?_) (by lia)
  obtain⟨ts,rfl,l2,h⟩:=h r hr;refine .t (λx hx=>?_) (by rw[aQ2];lia)
  obtain⟨t,ht,rfl⟩:=aVC.mp hx;exact sz_T (sz_F (h t ht).1) (sz_B (h t ht).2)
theorem aA6{k:D->Rho->Option Rho}{body:Rho->aH}(P:Rho->Prop):∀(ds:List D) (ρ:Rho),P ρ->(∀d∈ds,∀ρ,P ρ->∃ρ1,k d ρ=some ρ1/\P ρ1/\body ρ1=.nx ρ1)->∃ρ',bO k body ds ρ=.nx ρ'/\P ρ'
 |[],ρ,h,_=>⟨ρ,rfl,h⟩
 |d::ds,ρ,h,hs=>by obtain⟨ρ1,e1,h1,e2⟩:=hs d mcs ρ h;obtain⟨ρ',e3,h3⟩:=aA6 P ds ρ1 h1 λx hx=>hs x (mcm hx);exact⟨ρ',by rw[iD e1 e2];exact e3,h3⟩
def aOG(h:i<ks.length):atI (nDL ks) (i:Int)=some (nD ks[i]):=by rw[dF];exact nL (by rw[aQZ,aSK h];rfl)
def aOH(ks:List N):(nDL ks).length=ks.length:=by rw[dF,aQ2]
theorem rng_n{n:Int}(h0:0<=n)(h1:n<1000):eP (.ok [(.fz,.int n)])=okf (.lst (bU 0 n)):=by show(if(decide (-(2 ^ 62)<=n)&&decide (n<2 ^ 62))=true then Res.ok .fz (.lst (bU 0 n))else .stuck)=_;rw[if_pos (by rw[aRJ,aR8,aR8];lia)]
theorem aOI{xs:List N}{m:Nat}(hl:xs.length<1000)(ih:∀x∈xs,(Wk m).Φ "_law_alike" [nD x,nD x]=okf (.bl true)):(Wk (m+1)).Φ "_law_alike" [.tup (nDL xs),.tup (nDL xs)]=okf (.bl true):=by
 have ln:c7 [(.fz,.tup (nDL xs))]=some (.fz,.int xs.length):=by show some (Md.fz,D.int ((nDL xs).length:Nat))=_;rw[aOH]
 have rg:=rng_n (n:=(xs.length:Int)) (by lia) (by lia)
 obtain⟨ρ',e1,x,rfl⟩:=aA6 (k:=aU (.nm 2)) (body:=evB (Wk m) mO) (λρ=>∃x,ρ=[sf (.tup (nDL xs)),sf (.tup (nDL xs)),x]) (bU 0 xs.length) [sf (.tup (nDL xs)),sf (.tup (nDL xs)),none] ⟨none,rfl⟩ (λd hd ρ hρ=>by
  obtain⟨x,rfl⟩:=hρ;unfold bU at hd;obtain⟨j,hj,rfl⟩:=aVC.mp hd;rw[aPT]at hj;have hj:j<xs.length:=by lia
  rw[aVO];refine⟨[sf (.tup (nDL xs)),sf (.tup (nDL xs)),si j],rfl,⟨_,rfl⟩,?_⟩;have ix:op2 ixD (okf (.tup (nDL xs))) (okf (.int (j:Int)))=okf (nD xs[j]):=kG (aOG hj);have al:=gU (ih xs[j] (aS8 hj));generalize D.tup (nDL xs)=A at *;generalize nD xs[j]=B at *;simp[mO,ix,al])
 have i2:eN [(.fz,.tup (nDL xs)),(.fz,.ty "bool")]=some (.fz,.bl false):=rfl;have i3:eN [(.fz,.tup (nDL xs)),(.fz,.ty "int")]=some (.fz,.bl false):=rfl;have i4:eN [(.fz,.tup (nDL xs)),(.fz,.ty "str")]=some (.fz,.bl false):=rfl;have i5:eN [(.fz,.tup (nDL xs)),(.fz,.ty "tuple")]=some (.fz,.bl true):=rfl;have nn:eE (.tup (nDL xs))=false:=rfl;generalize bU 0 xs.length=RG at *;generalize (xs.length:Int)=LN at *;rw[sO];refine dH rfl ?_;show evB _ dJ [sf (.tup (nDL xs)),sf (.tup (nDL xs)),none]=_;have split:dJ=dJ.take 4++((dJ.drop 4).take 1++dJ.drop 5):=rfl;rw[split,gW];have p1:evB (Wk m) (dJ.take 4) [sf (.tup (nDL xs)),sf (.tup (nDL xs)),none]=.nx [sf (.tup (nDL xs)),sf (.tup (nDL xs)),none]:=by
  clear e1 rg ln i5
  generalize D.tup (nDL xs)=A at *;simp[dJ,i2,i3,i4,Ty.id,nn]
 have p2:evB (Wk m) ((dJ.drop 4).take 1) [sf (.tup (nDL xs)),sf (.tup (nDL xs)),none]=.nx [sf (.tup (nDL xs)),sf (.tup (nDL xs)),none]:=by
  clear e1 rg i2 i3 i4 nn
  generalize D.tup (nDL xs)=A at *;simp[dJ,i5,Ty.id,ln]
 have p3:evB (Wk m) (dJ.drop 5) [sf (.tup (nDL xs)),sf (.tup (nDL xs)),none]=.rt .fz (.bl true):=by
  clear i2 i3 i4 i5 nn p1 p2
  show evB (Wk m) [.for (.rng1 (.bcall .len [v1])) (.nm 2) mO,.ret (.bl true)] _=_;generalize mO=LB at *;generalize D.tup (nDL xs)=A at *;simp[ln,rg,fU,e1]
 rw[p1,aH.thn_nx,gW,p2,aH.thn_nx,p3]
def aOJ{n:Int}{m:Nat}:(Wk (m+1)).Φ "_law_alike" [.int n,.int n]=okf (.bl true):=by rw[sO];refine dH rfl ?_;show evB _ dJ [si n,si n,none]=_;have i2:eN [(.fz,.int n),(.fz,.ty "bool")]=some (.fz,.bl false):=rfl;have i3:eN [(.fz,.int n),(.fz,.ty "int")]=some (.fz,.bl true):=rfl;have nn:eE (.int n)=false:=rfl;simp[dJ,i2,i3,Ty.id,nn]
def aOK{m:Nat}:(Wk (m+1)).Φ "_law_alike" [.str x,.str x]=okf (.bl true):=by rw[sO];refine dH rfl ?_;show evB _ dJ [sf (.str x),sf (.str x),none]=_;have i2:eN [(.fz,.str x),(.fz,.ty "bool")]=some (.fz,.bl false):=rfl;have i3:eN [(.fz,.str x),(.fz,.ty "int")]=some (.fz,.bl false):=rfl;have i4:eN [(.fz,.str x),(.fz,.ty "str")]=some (.fz,.bl true):=rfl;have nn:eE (.str x)=false:=rfl;simp[dJ,i2,i3,i4,Ty.id,nn]
theorem alike{k:N}(h:Sz k):∀{m:Nat},k.dp<m->(Wk m).Φ "_law_alike" [nD k,nD k]=okf (.bl true):=by
 induction h with
 |i n =>
  intro m hm;cases m with|zero=>lia|succ m=>?_
  rw[nD];exact aOJ
 |s x =>
  intro m hm;cases m with|zero=>lia|succ m=>?_
  rw[nD];exact aOK
 | @t xs h hl ih =>
  intro m hm;cases m with|zero=>lia|succ m=>?_
  rw[N.dp]at hm;rw[nD];exact aOI hl λx hx=>ih x hx (by have:=N.dp_mem hx;lia)
noncomputable def ce(ns:List Int)(i:Int):Int:=if 0<=i then(ns[i.toNat]?).getD 0 else 0
theorem cell(k:Nat)(ns:List Int){i:Int}(h0:0<=i):(Wk (k+1)).Φ "_law_cell_at" [.lst (ns.map .int),.int i]=okf (.int (ce ns i)):=by
 rw[aNE];refine dH rfl ?_;show evB _ mR [sf (.lst (ns.map .int)),si i]=_;obtain⟨j,rfl⟩:=aVR h0;unfold ce;rw[if_pos h0];by_cases h:j<ns.length
 . have hx:op2 ixD (okf (.lst (ns.map .int))) (okf (.int j))=okf (.int ns[j]):=iA (nL (by rw[aQZ,aSK h];rfl))
   have h':((j:Int)<(ns.length:Int)):=by lia
   simp[mR,h',hx,h]
 . have h':¬ ((j:Int)<(ns.length:Int)):=by lia
   simp[mR,h',aTV (Nat.le_of_not_lt h)]
def aA7(k:Nat)(ns:List Int){i:Int}(h0:0<=i):a6 2 ((Wk (k+1)).Φ "_law_cell_at") (.ok [(.fz,.lst (ns.map .int)),(.fz,.int i)])=okf (.int (ce ns i)):=gU (cell k ns h0)
theorem aOL:D3.cF ds none (some (i:Int))=ds.take i:=by
 unfold D3.cF;rw[HT.uT,HT.nI,aSW,Nat.sub_zero];by_cases h:i<=ds.length
 . rw[aUR h]
 . rw[Nat.min_eq_right (by lia),aS4,aSX (by lia)]
theorem aOM:D3.cF ds (some (i:Int)) none=ds.drop i:=by
 unfold D3.cF;rw[HT.uT,HT.nI];by_cases h:i<=ds.length
 . rw[aUR h,aSX (by rw[aRD];exact aQD _)]
 . rw[Nat.min_eq_right (by lia),aSL,aUL (by lia)]
   simp
def aON{m m1 m2:Md}{g1 g2:Rho->Res}{i j:Int}(h1:g1 ρ=.ok m1 (.int i))(h2:g2 ρ=.ok m2 (.int j)):slP (.ok m (.lst ds)) (some g1) (some g2) ρ=.ok .fr (.lst (D3.cF ds (some i) (some j))):=by unfold slP;rw[Res.thn_ok];show bY (some g1) ρ _=_;unfold bY;show(g1 ρ).thn _=_;rw[h1];show(g2 ρ).thn _=_;rw[h2];rfl
def sl_hi{m m2:Md}{g2:Rho->Res}{j:Int}(h2:g2 ρ=.ok m2 (.int j)):slP (.ok m (.lst ds)) none (some g2) ρ=.ok .fr (.lst (D3.cF ds none (some j))):=by unfold slP;rw[Res.thn_ok];show bY none ρ _=_;unfold bY;show(g2 ρ).thn _=_;rw[h2];rfl
def sl_lo{m m1:Md}{g1:Rho->Res}{i:Int}(h1:g1 ρ=.ok m1 (.int i)):slP (.ok m (.lst ds)) (some g1) none ρ=.ok .fr (.lst (D3.cF ds (some i) none)):=by unfold slP;rw[Res.thn_ok];show bY (some g1) ρ _=_;unfold bY;show(g1 ρ).thn _=_;rw[h1];rfl
def aOO{xs:List (Md×D)}{d:D}(hl:ds.length=n)(ha:cW xs=some ds)(h:Φ ds=.ok .fr d):a6 n Φ (.ok xs)=.ok .fr d:=by
 show(match cW xs with|some ds=>if ds.length=n then(match Φ ds with|.ok .bo _=>Res.stuck|r=>r)else .stuck|none=>.stuck)=_
 rw[ha];show(if ds.length=n then _ else _)=_;rw[if_pos hl,h]
def aOP{a b d:D}(h:Φ [a,b]=.ok .fr d):a6 2 Φ (.ok [(.fz,a),(.fz,b)])=.ok .fr d:=aOO (ds:=[a,b]) rfl rfl h
theorem aOQ{ts:List Tr}(h:∀t∈ts,isK 2 t.1)(hl:ts.length<900){m:Nat}(hm:9<m):(Wk m).Φ "_law_alike" [nf ts,nf ts]=okf (.bl true):=by
 have aK:=aAU h;have mem:∀x∈aV ((aW ts).map tmN),∃t:Tr,isK 2 t.1/\x=tmN t:=λx hx=>by obtain⟨t,ht,rfl⟩:=aVC.mp ((dE _).mem_iff.mp hx);exact⟨t,aK t ht,rfl⟩
 have e:nf ts=nD (.t (aV ((aW ts).map tmN))):=by unfold nf;rw[nD]
 rw[e];refine alike (.t (λx hx=>?_) ?_) ?_
 . obtain⟨t,ht,rfl⟩:=mem x hx;exact sz_T (sz_F ht.1) (sz_B ht.2)
 . rw[mU,aQ2];have:=pH ts;lia
 . rw[N.dp];have:N.dpL (aV ((aW ts).map tmN))<=8:=iY λx hx=>by obtain⟨t,ht,rfl⟩:=mem x hx;exact(sX ht (aQD 2)).2.2.2 t.2
   lia
def Sm(A B:List Tr):Prop:=∀k,(Has A k↔Has B k)/\bF A k=bF B k
def Sm.refl(A:List Tr):Sm A A:=λk=>⟨Iff.rfl,rfl⟩
theorem Sm.symm{B:List Tr}(h:Sm A B):Sm B A:=λk=>⟨(h k).1.symm,(h k).2.symm⟩
theorem Sm.trans{B C:List Tr}(h:Sm A B)(g:Sm B C):Sm A C:=λk=>⟨(h k).1.trans (g k).1,(h k).2.trans (g k).2⟩
def aOR{B:List Tr}(p:A.Perm B):Sm A B:=λk=>⟨sS p k,aAE p k⟩
def aA8{ts us:List Tr}(p:Sm ts us):nf ts=nf us:=by
 obtain⟨h1,n1⟩:=gX ts;obtain⟨h2,n2⟩:=gX us;have d1:(aW ts).Nodup:=(aU0.mp n1).imp λ{a b} h e=>h (by rw[e])
 have d2:(aW us).Nodup:=(aU0.mp n2).imp λ{a b} h e=>h (by rw[e])
 have pe:(aW ts).Perm (aW us):=(aVH d1 d2).mpr λ⟨k,n⟩=>by rw[h1 k n,h2 k n,(p k).1,(p k).2]
 unfold nf;rw[oK (eX _) (eX _) (((dE _).trans (pe.map tmN)).trans (dE _).symm)]
theorem tO:∀(A B:List Tr) (k:Ky),bF (A++B) k=bF A k+bF B k
 |[],B,k=>by simp[bF]
 |a::A,B,k=>by show _+bF (A++B) k=_+bF A k+_;rw[tO A B k,Int.add_assoc]
def aA9{B:List Tr}{k:Ky}:Has (A++B) k↔Has A k\/Has B k:=by
 constructor
 . rintro⟨u,m,e⟩;exact(aPZ.mp m).elim (λm=>.inl ⟨u,m,e⟩) (λm=>.inr ⟨u,m,e⟩)
 . rintro(⟨u,m,e⟩|⟨u,m,e⟩)
   . exact⟨u,aP0 _ m,e⟩
   . exact⟨u,aQG _ m,e⟩
def Sm.app{A' B B':List Tr}(h:Sm A A')(g:Sm B B'):Sm (A++B) (A'++B'):=λk=>by
 refine⟨?_,?_⟩
 . rw[aA9,aA9,(h k).1,(g k).1]
 . rw[tO,tO,(h k).2,(g k).2]
def aBA{l:List N}(h:StN l):cH l:=h.imp λ{x y} q=>oJ q
def aBB{l:List N}(h:StN l):l.Nodup:=h.imp λ{x y} q e=>by rw[e,jX]at q;cases q
def tP{l l':List N}(h:StN l)(h':StN l')(m:∀z,z∈l↔z∈l'):l=l':=oK (aBA h) (aBA h') ((aVH (aBB h) (aBB h')).mpr m)
noncomputable def bW(rf:List N)(x:N):List N:=match rf with
 |[]=>[x]
 |y::r=>if y=x then y::r else x::y::r
def tQ(rf:List N):Prop:=rf.Pairwise λa b=>ltN b a=true
theorem tR:∀(r rf:List N),tQ rf->(∀x∈r,∀y∈rf,ltN x y=false)->cH r->tQ (r.foldl bW rf)/\∀z,z∈r.foldl bW rf↔z∈rf\/z∈r
 |[],rf,d,_,_=>⟨d,λz=>by simp⟩
 |x::r,rf,d,le,so=>by
  obtain⟨s1,s2⟩:=aT7.mp so;have key:tQ (bW rf x)/\(∀z,z∈bW rf x↔z∈rf\/z=x):=by
   cases rf with
   |nil=>exact⟨aUG _ _,λz=>by simp[bW]⟩
   |cons y t =>
    unfold bW;by_cases e:y=x
    . dsimp only;rw[if_pos e];refine⟨d,λz=>⟨.inl,λq=>q.elim id λq=>?_⟩⟩;rw[q,<- e];exact mcs
    . dsimp only;rw[if_neg e];have lt:ltN y x=true:=by
        cases q:ltN y x with
        |true=>rfl
        |false=>exact absurd (lY y x q (le x mcs y mcs)) e
      refine⟨aT7.mpr ⟨λz hz=>?_,d⟩,λz=>?_⟩
      . rcases aPY.mp hz with rfl|hz
        . exact lt
        . exact oH _ _ _ ((aT7.mp d).1 z hz) lt
      . rw[aPY,Or.comm]
  obtain⟨d2,m2⟩:=key;obtain⟨d3,m3⟩:=tR r (bW rf x) d2 (λa ha y hy=>by
   rcases(m2 y).mp hy with hy|rfl
   . exact le a (mcm ha) y hy
   . exact s1 a ha) s2
  refine⟨d3,λz=>?_⟩;rw[aUU,m3,m2,aPY,or_assoc]
def uN(l:List N):List N:=((aV l).foldl bW []).reverse
def m5(l:List N):StN (uN l):=by have:=(tR (aV l) [] List.Pairwise.nil (λx _ y hy=>nomatch hy) (eX l)).1;exact aUQ.mpr this
def kL(l:List N)(z:N):z∈uN l↔z∈l:=by have:=(tR (aV l) [] List.Pairwise.nil (λx _ y hy=>nomatch hy) (eX l)).2 z;unfold uN;rw[aUS,this,(dE l).mem_iff];simp
def aOS{a b:List N}(h:∀z,z∈a↔z∈b):uN a=uN b:=tP (m5 a) (m5 b) λz=>by rw[kL,kL,h]
def aOT{l:List N}(h:StN l):uN l=l:=tP (m5 l) h λz=>kL l z
def aOU{a b:List N}(p:a.Perm b):aV a=aV b:=iR (eX a) ((dE a).trans p)
def aOV{l:List N}(h:cH l):aV l=l:=(iR h (aUZ _)).symm
def km(a b:Ky):Ky:=(.t (aV (lN a.1++lN b.1)),.t (uN (lN a.2++lN b.2)))
def aOW(a b:Ky):km a b=km b a:=by unfold km;rw[aOU aUF,aOS (b:=lN b.2++lN a.2) λz=>by simp[Or.comm]]
def cK(s t:Tr):Tr:=(km s.1 t.1,s.2 * t.2)
def aOX(a b:Tr):cK a b=cK b a:=by unfold cK;rw[aOW,Int.mul_comm]
def bP(A B:List Tr):List Tr:=A.flatMap λa=>B.map λb=>cK a b
def pL(a:Tr)(A B:List Tr):bP (a::A) B=B.map (λb=>cK a b)++bP A B:=rfl
theorem aBC{α β:Type}(f:α->β)(g:α->List β):∀(B:List α),(B.flatMap λb=>f b::g b).Perm (B.map f++B.flatMap g)
 |[]=>aUZ _
 |b::B=>by show(f b::(g b++B.flatMap λb=>f b::g b)).Perm (f b::(B.map f++(g b++B.flatMap g)));refine List.Perm.cons _ (((aBC f g B).append_left (g b)).trans ?_);rw[<- aTG,<- aTG];exact List.perm_append_comm.append_right _
def aOY(A:List Tr):bP A []=[]:=by
 unfold bP
 induction A with
 |nil=>rfl
 |cons a A ih=>rw[aVS,ih];rfl
theorem aBD:∀(A B:List Tr),(bP A B).Perm (bP B A)
 |[],B=>by rw[aOY];exact aUZ _
 |a::A,B=>by
  rw[pL];refine List.Perm.trans ?_ (aBC (λb=>cK b a) (λb=>A.map λx=>cK b x) B).symm;have e:(B.map λb=>cK a b)=B.map λb=>cK b a:=by congr 1;funext b;exact aOX a b
  rw[e];exact(aBD A B).append_left _
def Nrm(A:List Tr):Prop:=(A.map (·.1)).Nodup/\cH (A.map tmN)
theorem m7:∀{A:List Tr}{k:Ky}{n:Int},(A.map (·.1)).Nodup->(k,n)∈A->bF A k=n
 |t::A,k,n,nd,h=>by
  rw[aRR]at nd;obtain⟨n1,n2⟩:=aT7.mp nd;show(if t.1=k then t.2 else 0)+bF A k=n;rcases aPY.mp h with rfl|h
  . rw[if_pos rfl,iX λ⟨u,m,e⟩=>n1 u.1 (aVG m) e.symm];exact aVN _
  . rw[if_neg (λe=>n1 k (aVC.mpr ⟨_,h,rfl⟩) e),m7 n2 h];exact aVO _
def aOZ(nd:(A.map (·.1)).Nodup):fM A A:=λk n=>by
 constructor
 . intro h;exact⟨⟨_,h,rfl⟩,(m7 nd h).symm⟩
 . rintro⟨⟨t,m,rfl⟩,e⟩;have:(t.1,t.2)∈A:=m;rw[e,m7 nd this];exact m
def aBE(nd:(A.map (·.1)).Nodup):A.Nodup:=(aU0.mp nd).imp λ{a b} h e=>h (by rw[e])
def aO0(nd:(A.map (·.1)).Nodup):(aW A).Perm A:=by obtain⟨h1,n1⟩:=gX A;exact(aVH (aBE n1) (aBE nd)).mpr λ⟨k,n⟩=>by rw[h1 k n,aOZ nd k n]
def aO1(h:Nrm A):nf A=.tup (A.map tD):=by unfold nf;rw[<- iR h.2 ((aO0 h.1).symm.map tmN),iB]
def aO2(X:List Tr):∃S:List Tr,nf X=.tup (S.map tD)/\Nrm S/\Sm S X/\S.length<=X.length:=by
 obtain⟨S,p,e⟩:=tL (ts:=aW X);obtain⟨h1,n1⟩:=gX X;have nd:(S.map (·.1)).Nodup:=((p.map (·.1)).nodup_iff).mpr n1;have hs:∀k,Has S k↔Has X k:=λk=>(sS p k).trans (o7 h1 k);refine⟨S,by unfold nf;rw[<- e,iB],⟨nd,by rw[e];exact eX _⟩,λk=>⟨hs k,?_⟩,by rw[p.length_eq];exact pH X⟩
 by_cases c:Has S k
 . obtain⟨t,ht,rfl⟩:=c;have:=((h1 t.1 t.2).mp (p.mem_iff.mp ht)).2;rw[m7 nd (n:=t.2) ht,this]
 . rw[iX c,iX λz=>c ((hs k).mpr z)]
def KG(m:Nat)(k:Ky):Prop:=(∃xs:List Str,k.1=.t (xs.map .s)/\cH (xs.map .s)/\xs.length<=3 * m)/\∃rs:List N,k.2=.t rs/\StN rs/\rs.length<=2 * m/\cS 2 (.t rs)/\∀r∈rs,bK r=true
theorem KG.K{m:Nat}{k:Ky}(h:KG m k)(hm:m<=3):isK 2 k:=by obtain⟨⟨xs,e,_,l⟩,rs,e2,_,_,b,_⟩:=h;exact⟨⟨xs,e,by lia⟩,by rw[e2];exact b⟩
theorem KG.up{m m':Nat}{k:Ky}(h:KG m k)(hm:m<=m'):KG m' k:=by obtain⟨⟨xs,e,s,l⟩,rs,e2,s2,l2,b⟩:=h;exact⟨⟨xs,e,s,by lia⟩,rs,e2,s2,by lia,b⟩
def m8(zs:List Str):aV (zs.map .s)=(a7 zs).map .s:=by refine(iR ?_ ((gR zs).map _)).symm;refine aU0.mpr ((oM zs).imp λ{x y} q=>?_);rw[ltN];exact q
theorem aBF:∀(r rf:List N),(r.foldl bW rf).length<=rf.length+r.length
 |[],rf=>by simp
 |x::r,rf=>by
  have:=aBF r (bW rf x);have h2:(bW rf x).length<=rf.length+1:=by
   unfold bW;split
   . simp
   . split <;> simp
  rw[aUU,aR7];lia
def aBG(l:List N):(uN l).length<=l.length:=by unfold uN;rw[aVQ];have:=aBF (aV l) [];rw[mU]at this;simpa using this
theorem aBH{m:Nat}{a b:Ky}(ha:KG m a)(hb:KG n b)(h:m+n<=3):KG (m+n) (km a b):=by
 obtain⟨⟨xs,e1,_,l1⟩,rs,e2,_,l2,b1,t1⟩:=ha;obtain⟨⟨ys,f1,_,m1⟩,qs,f2,_,m2,b2,t2⟩:=hb;refine⟨⟨a7 (xs++ys),?_,?_,?_⟩,uN (rs++qs),?_,m5 _,?_,?_,λr hr=>(aPZ.mp ((kL _ r).mp hr)).elim (t1 r) (t2 r)⟩
 . show N.t (aV (lN a.1++lN b.1))=_;rw[e1,f1];show N.t (aV (xs.map .s++ys.map .s))=_;rw[<- aUI,m8]
 . rw[<- m8];exact eX _
 . rw[(gR _).length_eq,aQ1];lia
 . show N.t (uN (lN a.2++lN b.2))=_;rw[e2,f2];rfl
 . have:=aBG (rs++qs);rw[aQ1]at this;lia
 . have:=aBG (rs++qs);rw[aQ1]at this;refine⟨_,rfl,by lia,λr hr=>?_⟩
   rcases aPZ.mp ((kL _ r).mp hr)with hr|hr
   . obtain⟨_,e,_,q⟩:=b1;cases e;exact q r hr
   . obtain⟨_,e,_,q⟩:=b2;cases e;exact q r hr
def Tm(e m:Nat)(t:Tr):Prop:=KG m t.1/\t.2.natAbs<2 ^ e
def RsN(e m L:Nat)(A:List Tr):Prop:=Nrm A/\A.length<=L/\∀t∈A,Tm e m t
theorem aBI{M:Nat}:∀{X:List Tr}{k:Ky},(∀t∈X,t.2.natAbs<=M)->(bF X k).natAbs<=X.length * M
 |[],_,_=>by simp[bF]
 |t::X,k,h=>by
  have ih:=aBI (k:=k) λu hu=>h u (mcm hu);have h0:=h t mcs;show((if t.1=k then t.2 else 0)+bF X k).natAbs<=_;rw[aR7,Nat.succ_mul];have:(if t.1=k then t.2 else 0).natAbs<=M:=by
   split
   . exact h0
   . exact aQP _
  have:=Int.natAbs_add_le (if t.1=k then t.2 else 0) (bF X k);lia
theorem aBJ{e m:Nat}{X:List Tr}(h:∀t∈X,Tm e m t)(hl:X.length<=L)(hL:L<=1000):∃S:List Tr,nf X=.tup (S.map tD)/\RsN (e+10) m L S/\Sm S X:=by
 obtain⟨S,e1,n,sm,l⟩:=aO2 X;refine⟨S,e1,⟨n,by lia,λt ht=>?_⟩,sm⟩
 obtain⟨u,hu,eu⟩:=(sm t.1).1.mp ⟨t,ht,rfl⟩;refine⟨by rw[<- eu];exact(h u hu).1,?_⟩
 have q:t.2=bF X t.1:=by rw[<- (sm t.1).2];exact(m7 n.1 (n:=t.2) ht).symm
 rw[q];have b:=aBI (M:=2 ^ e) (X:=X) (k:=t.1) λt ht=>aPW (h t ht).2;have p:0<2 ^ e:=Nat.pow_pos (by decide)
 rw[Nat.pow_add];have:X.length * 2 ^ e<=1000 * 2 ^ e:=Nat.mul_le_mul_right _ (by lia)
 show _<2 ^ e * 1024;lia
theorem tU:∀(A B:List Tr),(bP A B).length=A.length * B.length
 |[],B=>by simp[bP]
 |a::A,B=>by rw[pL,aQ1,aQ2,tU A B,aR7,Nat.succ_mul,Nat.add_comm]
def aO3{e m m':Nat}{B:List Tr}(ha:∀t∈A,Tm e m t)(hb:∀t∈B,Tm e' m' t)(h:m+m'<=3):∀t∈bP A B,Tm (e+e') (m+m') t:=λt ht=>by obtain⟨a,h1,ht⟩:=List.mem_flatMap.mp ht;obtain⟨b,h2,rfl⟩:=aVC.mp ht;refine⟨aBH (ha a h1).1 (hb b h2).1 h,?_⟩;show(a.2 * b.2).natAbs<_;rw[Int.natAbs_mul,Nat.pow_add];exact Nat.mul_lt_mul'' (ha a h1).2 (hb b h2).2
theorem Tm.up{e m m':Nat}(h:Tm e m t)(he:e<=e')(hm:m<=m'):Tm e' m' t:=⟨h.1.up hm,aPP h.2 (aVF (by decide) he)⟩
theorem RsN.up{e m m' L':Nat}(h:RsN e m L A)(he:e<=e')(hm:m<=m')(hl:L<=L'):RsN e' m' L' A:=⟨h.1,aPV h.2.1 hl,λt ht=>(h.2.2 t ht).up he hm⟩
theorem RsN.nf{e m:Nat}(h:RsN e m L A):nf A=.tup (A.map tD):=aO1 h.1
def RsN.sm{e m m' L':Nat}{B:List Tr}(h:RsN e m L A)(g:RsN e' m' L' B)(s:Sm A B):A.map tD=B.map tD:=by have:=aA8 s;rw[h.nf,g.nf]at this;injection this
def j8{x:Int}{e:Nat}(h:x.natAbs<2 ^ e)(he:e<=9000):bits x=true:=by
 unfold bits;refine aRS ?_;by_cases z:x.natAbs=0
 . rw[z];decide
 . exact(Nat.log2_lt z).mpr (aPP h (aVF (by decide) he))
noncomputable def eT:Tr:=((.t [],.t []),1)
def mul_one{m e:Nat}(h:Tm e m t):cK eT t=t:=by obtain⟨⟨⟨xs,e1,s1,_⟩,rs,e2,s2,_,_,_⟩,_⟩:=h;obtain⟨⟨f,b⟩,n⟩:=t;cases e1;cases e2;show((N.t (aV ([]++xs.map .s)),N.t (uN ([]++rs))),1 * n)=_;rw[aT9,aT9,aOV s1,aOT s2,Int.one_mul]
def aO4{m e:Nat}(h:∀t∈A,Tm e m t):bP [eT] A=A:=by
 show A.map (λb=>cK eT b)++[]=A;rw[aQR]
 conv=>rhs;rw[<- List.map_id A]
 exact aVE λt ht=>mul_one (h t ht)
def x_neN{x y:N}{m:Md}(hx:x.dp<=50)(hy:y.dp<=50):op2 (bR .NotEq) (.ok m (nD x)) (.ok m' (nD y))=okf (.bl (!decide (x=y))):=cI (by
 show orO (eqF true) _ m (nD x) m' (nD y)=_;unfold orO;rw[aAL hx hy];rfl)
def isR(j:Nat)(r:N):Prop:=∃ts:List Tr,r=.t (ts.map tmN)/\ts.length<64/\∀t∈ts,isF t.1.1/\cS j t.1.2
def aO5{a b:N}(h1:isR j a)(h2:isR j b):okN a b=true:=by obtain⟨ts,rfl,_,h1⟩:=h1;obtain⟨us,rfl,_,h2⟩:=h2;rw[okN];refine kE λa ha b hb=>?_;obtain⟨s,hs,rfl⟩:=aVC.mp ha;obtain⟨t,ht,rfl⟩:=aVC.mp hb;exact pC (pB (h1 s hs).1 (h2 t ht).1) (pD (h1 s hs).2 (h2 t ht).2)
theorem tV{r:N}(h:isR j r):r.dp<=3 * j+3:=by
 obtain⟨ts,rfl,_,h⟩:=h;rw[N.dp];have:N.dpL (ts.map tmN)<=3 * j+2:=iY λx hx=>by obtain⟨t,ht,rfl⟩:=aVC.mp hx;have a1:=mV (h t ht).1;have a2:=mW (h t ht).2;simp only[tmN,N.dp,N.dpL];lia
 lia
def aBK(h:∀r∈rs,isR 2 r/\bK r=true)(hl:rs.length<1000):okS rs=true:=by unfold okS;simp only[aRJ,aSA,aR8,aTZ];exact⟨⟨⟨λk hk=>aPV (tV (h k hk).1) (by decide),.inr λk hk=>(h k hk).2⟩,λx hx y hy=>aO5 (h x hx).1 (h y hy).1⟩,aPP hl sY⟩
def aO6{W:WD}{A B:Option (Bool×D)}{d:D}:evB W f8 [A,B,some (true,.lst []),sf d]=.nx [A,B,some (true,.lst [d]),sf d]:=by have l0:c7 [(.bo,.lst [])]=some (.fz,.int 0):=rfl;have a0:eF [A,B,some (true,.lst []),sf d] 2 (okf d)=.nx [A,B,some (true,.lst [d]),sf d]:=rfl;simp[f8,l0,a0]
theorem aO7{W:WD}{A B:Option (Bool×D)}{l t:N}{r:List D}(hl:l.dp<=50)(ht:t.dp<=50)(hr:r.length+1<sizeLine):evB W f8 [A,B,some (true,.lst (r++[nD l])),sf (nD t)]=.nx [A,B,some (true,.lst (if l=t then r++[nD l]else r++[nD l]++[nD t])),sf (nD t)]:=by
 have l0:c7 [(.bo,.lst (r++[nD l]))]=some (.fz,.int (r.length+1:Nat)):=by show some (Md.fz,D.int ((r++[nD l]).length:Nat))=_;rw[aQ1];rfl
 have i0:op2 ixD (.ok .bo (.lst (r++[nD l]))) (okf (.int (-1)))=okf (nD l):=iA (aAP r _);have e1:=x_neN (m:=.fz) (m':=.fz) hl ht;have p0:((((r.length+1:Nat):Int))==0)=false:=by rw[aPL];lia
 have a0:eF [A,B,some (true,.lst (r++[nD l])),sf (nD t)] 2 (okf (nD t))=.nx [A,B,some (true,.lst (r++[nD l]++[nD t])),sf (nD t)]:=by
  show(if(r++[nD l]).length<sizeLine then _ else _)=_;rw[if_pos (by rw[aQ1];exact hr)]
  rfl
 by_cases c:l=t
 . rw[if_pos c];rw[aRS c]at e1;generalize D.lst (r++[nD l])=L at *;generalize nD l=X at *;generalize nD t=Y at *;generalize ((r.length+1:Nat):Int)=K at *;simp[f8,l0,i0,e1,p0]
 . rw[if_neg c];rw[aPK c]at e1;generalize D.lst (r++[nD l]++[nD t])=L2 at *;generalize D.lst (r++[nD l])=L at *;generalize nD l=X at *;generalize nD t=Y at *;generalize ((r.length+1:Nat):Int)=K at *;simp[f8,l0,i0,e1,p0,a0]
def aO8(rf:List N)(x:N):(bW rf x).length<=rf.length+1:=by
 unfold bW;split
 . simp
 . split <;> simp
def aO9{P:N->Prop}{rf:List N}{x:N}(h:∀y∈rf,P y)(hx:P x):∀y∈bW rf x,P y:=by
 unfold bW;split
 . intro y hy;cases aSZ.mp hy;exact hx
 . split
   . exact h
   . intro y hy;rcases aPY.mp hy with rfl|hy
     . exact hx
     . exact h y hy
theorem oC{W:WD}{A B:Option (Bool×D)}:∀(S rf:List N) (x3:Option (Bool×D)),(∀t∈S,t.dp<=50)->(∀t∈rf,t.dp<=50)->rf.length+S.length<1000->∃y3,bO (aU (.nm 3)) (evB W f8) (S.map nD) [A,B,some (true,.lst (rf.reverse.map nD)),x3]=.nx [A,B,some (true,.lst ((S.foldl bW rf).reverse.map nD)),y3]
 |[],rf,x3,_,_,_=>⟨x3,rfl⟩
 |t::S,rf,x3,hS,hr,hl=>by
  have ht:=hS t mcs;rw[aR7]at hl;obtain⟨y3,e⟩:=oC (W:=W) (A:=A) (B:=B) S (bW rf t) (sf (nD t)) (λx hx=>hS x (mcm hx)) (aO9 hr ht) (by have:=aO8 rf t;lia)
  refine⟨y3,?_⟩;have eb:evB W f8 [A,B,some (true,.lst (rf.reverse.map nD)),sf (nD t)]=.nx [A,B,some (true,.lst ((bW rf t).reverse.map nD)),sf (nD t)]:=by
   cases rf with
   |nil=>exact aO6
   |cons l r =>
    rw[aVP,aUI];show evB W f8 [A,B,some (true,.lst (r.reverse.map nD++[nD l])),_]=_;rw[aO7 (hr l mcs) ht (by rw[aQ2,aVQ,aQI];rw[aR7]at hl;lia)]
    unfold bW;dsimp only;split
    . rw[aVP,aUI];rfl
    . rw[aVP,aVP,aUI,aUI];rfl
  rw[aRR];rw[iD (ρ1:=[A,B,some (true,.lst (rf.reverse.map nD)),sf (nD t)]) (by simp) eb]
  exact e
theorem bars2{qs:List N}(h:∀r∈rs++qs,isR 2 r/\bK r=true)(hl:(rs++qs).length<900):(Wk (k+1)).Φ "bars_of_both" [nD (.t rs),nD (.t qs)]=okf (nD (.t (uN (rs++qs)))):=by
 have ok:=aBK h (by lia)
 have e1:fE [(.fz,.tup (nDL (rs++qs)))]=some (.fr,.lst (nDL (aV (rs++qs)))):=sW rfl (λr hr=>(h r hr).2) ok;obtain⟨y3,e2⟩:=oC (W:=WT TT k) (A:=sf (nD (.t rs))) (B:=sf (nD (.t qs))) (aV (rs++qs)) [] none (λt ht=>aPV (tV (h t ((dE _).mem_iff.mp ht)).1) (by decide)) (λt ht=>nomatch ht) (by rw[mU];simp only[aS1];lia)
 rw[<- dF]at e2;have ct:op2 (bC .Add) (okf (nD (.t rs))) (okf (nD (.t qs)))=okf (.tup (nDL (rs++qs))):=by rw[aQ1]at hl;rw[nD,nD,dF,dF,dF,aUI];exact zH (by rw[aQ2,aQ2,aQI];lia)
 have e3:dU [(.fz,.lst (((aV (rs++qs)).foldl bW []).reverse.map nD))]=some (.fz,nD (.t (uN (rs++qs)))):=by rw[nD,dF];rfl
 have e2:bO (aU (.nm 3)) (evB (Wk k) f8) (nDL (aV (rs++qs))) [sf (nD (.t rs)),sf (nD (.t qs)),some (true,.lst []),none]=_:=e2;rw[aND];refine dH rfl ?_;show evB _ oX [sf (nD (.t rs)),sf (nD (.t qs)),none,none]=_;have e4:∀{L:D},hG [sf (nD (.t rs)),sf (nD (.t qs)),some (true,L),y3] 2=.nx [sf (nD (.t rs)),sf (nD (.t qs)),sf L,y3]:=rfl;unfold oX;generalize f8=BB at *;generalize ((aV (rs++qs)).foldl bW []).reverse.map nD=L at *;generalize nDL (aV (rs++qs))=L0 at *;generalize D.tup (nDL (rs++qs))=L1 at *;generalize nD (.t (uN (rs++qs)))=OUT at *;generalize nD (.t rs)=R1 at *;generalize nD (.t qs)=R2 at *;simp[pF,ct,e1,fU,e2,e4,Ty.f,e3]
theorem term2{s:Tr}{xs:List Str}{qs:List N}(e1:s.1.1=F xs)(e2:t.1.1=F ys)(f1:s.1.2=.t rs)(f2:t.1.2=.t qs)(hx:xs.length+ys.length<64)(h:∀r∈rs++qs,isR 2 r/\bK r=true)(hl:(rs++qs).length<900)(b1:bits s.2=true)(b2:bits t.2=true):(Wk (k+2)).Φ "term_of_both" [tD s,tD t]=okf (tD (cK s t)):=by
 have hb:=gU (bars2 (k:=k) h hl);have eo:tD (cK s t)=.tup [.tup ((a7 (xs++ys)).map .str),nD (.t (uN (rs++qs))),.int (s.2 * t.2)]:=by rw[i7];show D.tup [nD (.t (aV (lN s.1.1++lN t.1.1))),nD (.t (uN (lN s.1.2++lN t.1.2))),.int (s.2 * t.2)]=_;rw[e1,e2,f1,f2];show D.tup [nD (.t (aV (xs.map .s++ys.map .s))),nD (.t (uN (rs++qs))),.int (s.2 * t.2)]=_;rw[<- aUI,m8];show D.tup [nD (F (a7 (xs++ys))),_,_]=_;rw[i8]
 have ct:op2 (bC .Add) (okf (.tup (xs.map D.str))) (okf (.tup (ys.map D.str)))=okf (.tup ((xs++ys).map .str)):=by rw[aUI];exact zH (by rw[aQ2,aQ2,aQI];lia)
 have s1:fE [(.fz,.tup ((xs++ys).map D.str))]=some (.fr,.lst ((a7 (xs++ys)).map .str)):=tB rfl (by rw[aQ1];exact hx)
 have s2:dU [(.fr,.lst ((a7 (xs++ys)).map D.str))]=some (.fz,.tup ((a7 (xs++ys)).map .str)):=rfl;have mu:op2 (bC .Mult) (okf (.int s.2)) (okf (.int t.2))=okf (.int (s.2 * t.2)):=zE b1 b2;rw[eo,i7 s,i7 t,e1,e2,f1,f2,i8,i8];rw[aNC];refine dH rfl ?_;show evB _ oW [sf (.tup [.tup (xs.map .str),nD (.t rs),.int s.2]),sf (.tup [.tup (ys.map .str),nD (.t qs),.int t.2])]=_;generalize nD (.t (uN (rs++qs)))=OUT at *;generalize nD (.t rs)=R1 at *;generalize nD (.t qs)=R2 at *;generalize (a7 (xs++ys)).map D.str=Z at *;generalize (xs++ys).map D.str=Z1 at *;generalize xs.map D.str=X at *;generalize ys.map D.str=Y at *;generalize s.2 * t.2=st at *;simp[oW,mY,pE,mZ,ct,s1,s2,Ty.f,hb,mu,dX]
def tW{r:N}(h:isR j r):isR (j+1) r:=by obtain⟨ts,e,l,h⟩:=h;exact⟨ts,e,l,λt ht=>⟨(h t ht).1,iZ (h t ht).2⟩⟩
theorem aPA{e m m':Nat}{s:Tr}(hs:Tm e m s)(ht:Tm e' m' t)(hm:m+m'<=3)(he:e<=9000)(he':e'<=9000):(Wk (k+2)).Φ "term_of_both" [tD s,tD t]=okf (tD (cK s t)):=by
 obtain⟨⟨⟨xs,e1,_,l1⟩,rs,f1,_,l2,b1,t1⟩,n1⟩:=hs;obtain⟨⟨⟨ys,e2,_,m1⟩,qs,f2,_,m2,b2,t2⟩,n2⟩:=ht;refine term2 (xs:=xs) (ys:=ys) e1 e2 f1 f2 (by lia) (λr hr=>?_) (by rw[aQ1];lia) (j8 n1 he) (j8 n2 he')
 rcases aPZ.mp hr with hr|hr
 . refine⟨tW ?_,t1 r hr⟩;obtain⟨_,e,_,q⟩:=b1;cases e;exact q r hr
 . refine⟨tW ?_,t2 r hr⟩;obtain⟨_,e,_,q⟩:=b2;cases e;exact q r hr
theorem c2{W:WD}{B:List Tr}:∀{A:List Tr},(∀a∈A,∀b∈B,W.Φ "term_of_both" [tD a,tD b]=okf (tD (cK a b)))->fX 1 2 (λρ=>evF W [] ρ) (λρ=>evE W (.items v0) ρ) (λρ=>evE W (.call "term_of_both" 2 [v1,v2]) ρ) [sf (.tup (B.map tD)),none,none] (A.map tD)=some ((bP A B).map tD)
 |[],_=>rfl
 |a::A,h=>by
  have ih:=c2 (A:=A) λx hx=>h x (mcm hx);have inner:cO (iL 2) iP (λρ=>evE W (.call "term_of_both" 2 [v1,v2]) ρ) [sf (.tup (B.map tD)),sf (tD a),none] (B.map tD)=some ((B.filter λ_=>true).map λb=>tD (cK a b)):=sZ (enc:=tD) (p:=λ_=>true) (g:=λb=>tD (cK a b)) λb hb=>by have hc:=gU (h a mcs b hb);refine⟨[sf (.tup (B.map tD)),sf (tD a),sf (tD b)],.fz,rfl,rfl,λ_=>⟨.fz,?_⟩⟩;generalize D.tup (B.map tD)=BB at *;generalize tD a=x at *;generalize tD b=y at *;simp[hc]
  rw[List.filter_eq_self.mpr λ_ _=>rfl]at inner;rw[aRR];unfold fX;have e1:evF W [] (List.set [sf (.tup (B.map tD)),none,none] 1 (sf (tD a)))=okf (.bl true):=by simp
  have e2:evE W (.items v0) (List.set [sf (.tup (B.map tD)),none,none] 1 (sf (tD a)))=okf (.lst (B.map tD)):=by generalize B.map tD=BB;simp
  rw[e1];dsimp only;rw[e2];dsimp only;have inner:cO (iL 2) iP (λρ=>evE W (.call "term_of_both" 2 [v1,v2]) ρ) (List.set [sf (.tup (B.map tD)),none,none] 1 (sf (tD a))) (B.map tD)=_:=inner;rw[inner];dsimp only;rw[ih,pL,aUI,aU3];rfl
noncomputable abbrev RK:Res:=okf (.ins "Reasons" [])
theorem aPB{B:List Tr}(h:∀a∈A,∀b∈B,(Wk (k+2)).Φ "term_of_both" [tD a,tD b]=okf (tD (cK a b)))(hK:∀t∈bP A B,isK 3 t.1)(hl:(bP A B).length<900):cA TT.cl (Wk (k+3)).Φ "times" RK (.ok [(.fz,.tup (A.map tD)),(.fz,.tup (B.map tD))])=okf (nf (bP A B)):=by
 obtain⟨S,p,e⟩:=tL (ts:=bP A B);have rs:=j9 (aN3 (k:=k+1) e hK hl (.inr rfl));have rs:a6 1 ((Wk (k+2)).Φ "reason_of") (.ok [(.fz,.lst ((bP A B).map tD))])=okf (nf (bP A B)):=rs;have cc:=c2 (W:=Wk (k+2)) h;rw[aNS];refine call3 ?_;rw[aNM];refine dH rfl ?_;show evB _ o4 [sf (.ins "Reasons" []),sf (.tup (A.map tD)),sf (.tup (B.map tD))]=_;have c3:gM (okf (.lst (A.map tD))) [sf (.ins "Reasons" []),sf (.tup (A.map tD)),sf (.tup (B.map tD))] [2] (λρ=>evF (Wk (k+2)) [] ρ) (λρ=>evE (Wk (k+2)) (.items v0) ρ) (λρ=>evE (Wk (k+2)) (.call "term_of_both" 2 [v1,v2]) ρ)=.ok .fr (.lst ((bP A B).map tD)):=by unfold gM;rw[Res.thn_ok];dsimp only;have cc:fX [2].length ([2].length+1) (λρ=>evF (Wk (k+2)) [] ρ) (λρ=>evE (Wk (k+2)) (.items v0) ρ) (λρ=>evE (Wk (k+2)) (.call "term_of_both" 2 [v1,v2]) ρ) (bM [2] [sf (.ins "Reasons" []),sf (.tup (A.map tD)),sf (.tup (B.map tD))]++List.replicate 2 none) (A.map tD)=_:=cc;rw[cc];dsimp only;rw[if_pos (by rw[aQ2,aQI];lia)]
 have it:gZ (okf (.tup (A.map tD)))=okf (.lst (A.map tD)):=rfl;unfold o4;rw[j7,s_ret,aMD,aMH,aMG,e_frz,aME];generalize nf (bP A B)=NF at *;generalize (bP A B).map tD=AB at *;generalize B.map tD=B0 at *;generalize hA:A.map tD=A0 at *;generalize (λρ=>evE (Wk (k+2)) (.call "term_of_both" 2 [v1,v2]) ρ)=g1 at *;generalize (λρ=>evE (Wk (k+2)) (.items v0) ρ)=g2 at *;generalize (λρ=>evF (Wk (k+2)) [] ρ)=g3 at *;simp[it,c3,rs]
noncomputable abbrev TD(A:List Tr):D:=.tup (A.map tD)
noncomputable abbrev mC(k:Nat)(f:Str)(xs:List D):Res:=cA TT.cl (Wk k).Φ f RK (.ok (xs.map λd=>(.fz,d)))
theorem tX{e m m' L':Nat}{B:List Tr}(ha:RsN e m L A)(hb:RsN e' m' L' B)(hm:m+m'<=3)(hl:L * L'<=800)(he:e<=9000)(he':e'<=9000):∃S,mC (k+3) "times" [TD A,TD B]=okf (TD S)/\RsN (e+e'+10) (m+m') (L * L') S/\Sm S (bP A B):=by
 have h:=aO3 ha.2.2 hb.2.2 hm;have l:(bP A B).length<=L * L':=by rw[tU];exact Nat.mul_le_mul ha.2.1 hb.2.1
 obtain⟨S,e1,r,s⟩:=aBJ h l (aPV hl (by decide))
 refine⟨S,?_,r,s⟩;have:=aPB (k:=k) (A:=A) (B:=B) (λa h1 b h2=>aPA (ha.2.2 a h1) (hb.2.2 b h2) hm he he') (λt ht=>aAN ((h t ht).1.K hm)) (by lia)
 rw[e1]at this;exact this
def RsN.eq{e m m' L':Nat}{B:List Tr}(h:RsN e m L A)(g:RsN e' m' L' B)(s:Sm A B):A=B:=by
 have:=h.sm g s;rw[<- iB,<- iB]at this;have inj:∀{a b:List N},nDL a=nDL b->a=b:=λ{a b} q=>by
  have q1:=o9 a;rw[q,o9 b]at q1;injection q1 with q1
  exact q1.symm
 exact sU (inj this)
def aPC:mC (k+1) "nought" []=okf (TD []):=by show cA TT.cl (Wk (k+1)).Φ "nought" RK (.ok [])=_;rw[aNO];refine j9 ?_;rw[aNK];exact dH rfl (by simp[sK,gE])
def aBL:TD [eT]=.tup [.tup [.tup [],.tup [],.int 1]]:=by show D.tup [tD eT]=_;rw[i7];show D.tup [.tup [nD (.t []),nD (.t []),.int 1]]=_;rw[kK]
def oneR:mC (k+1) "one" []=okf (TD [eT]):=by show cA TT.cl (Wk (k+1)).Φ "one" RK (.ok [])=_;rw[aNQ,aBL];refine j9 ?_;rw[aNL];exact dH rfl (by simp[sL,gE,dX,i6])
def aBM:RsN 1 1 1 [eT]:=by
 refine⟨⟨by simp,aUG _ _⟩,aQD 1,λt ht=>?_⟩
 cases aSZ.mp ht;exact⟨⟨⟨[],rfl,List.Pairwise.nil,aQP _⟩,[],rfl,List.Pairwise.nil,aQP _,iZ bs0,λr hr=>nomatch hr⟩,by decide⟩
def tY{e m:Nat}:RsN e m L []:=⟨⟨aTA,List.Pairwise.nil⟩,aQP _,λt ht=>nomatch ht⟩
def aPD(l:List N):uqN l=uN l:=by refine tP (aA0 (eX _) ((dE _).nodup_iff.mpr (l9 l))) (m5 l) λz=>?_;rw[kL];unfold uqN;rw[(dE _).mem_iff,j3]
theorem aBN:∀{ks:List N},(∀k∈ks,∃xs,k=.t xs/\k.dp<=8)->gD (nDL ks)=some ks
 |[],_=>by rw[nDL];rfl
 |k::ks,h=>by obtain⟨xs,rfl,d⟩:=h k mcs;rw[nDL];unfold gD;rw[pA d,aBN λz hz=>h z (mcm hz)]
theorem aPE{qs:List N}{m:Md}(h:∀r∈rs++qs,isR 1 r/\bK r=true)(hl:(rs++qs).length<=4):fG (.ok m (.lst (nDL (rs++qs))))=.ok .fr (.lst (nDL (uN (rs++qs)))):=by
 have k8:gD (nDL (rs++qs))=some (rs++qs):=aBN λk hk=>by obtain⟨ts,e,_⟩:=(h k hk).1;exact⟨_,e,aPV (tV (h k hk).1) (by decide)⟩
 have ok:=aBK (λr hr=>⟨tW (h r hr).1,(h r hr).2⟩) (show(rs++qs).length<1000 by lia)
 unfold fG;rw[Res.thn_ok];dsimp only;rw[k8];dsimp only;rw[if_pos (by rw[aRJ,aRJ,aR8,aTZ];exact⟨⟨hl,λr hr=>(h r hr).2⟩,ok⟩),aPD]
theorem aPF{W:WD}{x0 x1 x2 x3 x4 x5 x6 x7 x15 x16:Option (Bool×D)}{L:List D}{s:Tr}{xs:List Str}{qs:List N}(e1:s.1.1=F xs)(e2:t.1.1=F ys)(f1:s.1.2=.t rs)(f2:t.1.2=.t qs)(hx:xs.length+ys.length<64)(h:∀r∈rs++qs,isR 1 r/\bK r=true)(hl:(rs++qs).length<=4)(b1:bits s.2=true)(b2:bits t.2=true)(hL:L.length<900):evB W mP [x0,x1,x2,x3,x4,x5,x6,x7,some (true,.lst L),sf (.tup (xs.map .str)),sf (nD (.t rs)),si s.2,sf (.tup (ys.map .str)),sf (nD (.t qs)),si t.2,x15,x16]=.nx [x0,x1,x2,x3,x4,x5,x6,x7,some (true,.lst (L++[enc (xs++ys,.t (uN (rs++qs)),s.2 * t.2)])),sf (.tup (xs.map .str)),sf (nD (.t rs)),si s.2,sf (.tup (ys.map .str)),sf (nD (.t qs)),si t.2,sf (nD (.t (uN (rs++qs)))),x16]:=by
 have tl:∀{X:List D},iN [(.fz,.tup X)]=some (.fr,.lst X):=λ{X}=>rfl;have c1:op2 (bC .Add) (.ok .fr (.lst (nDL rs))) (.ok .fr (.lst (nDL qs)))=.ok .fr (.lst (nDL (rs++qs))):=by rw[aQ1]at hl;rw[dF,dF,dF,aUI];exact zG (by rw[aQ2,aQ2,aQI];lia)
 have u4:=aPE (m:=.fr) h hl;have t4:dU [(.fr,.lst (nDL (uN (rs++qs))))]=some (.fz,nD (.t (uN (rs++qs)))):=by rw[nD];rfl
 have c2:op2 (bC .Add) (.ok .fr (.lst (xs.map D.str))) (.ok .fr (.lst (ys.map D.str)))=.ok .fr (.lst ((xs++ys).map .str)):=by rw[aUI];exact zG (by rw[aQ2,aQ2,aQI];lia)
 have t5:dU [(.fr,.lst ((xs++ys).map D.str))]=some (.fz,.tup ((xs++ys).map .str)):=rfl;have mu:op2 (bC .Mult) (okf (.int s.2)) (okf (.int t.2))=okf (.int (s.2 * t.2)):=zE b1 b2;have n1:nD (.t rs)=.tup (nDL rs):=by rw[nD]
 have n2:nD (.t qs)=.tup (nDL qs):=by rw[nD]
 have ap:∀(d:D) (y15:Option (Bool×D)),eF [x0,x1,x2,x3,x4,x5,x6,x7,some (true,.lst L),sf (.tup (xs.map .str)),sf (.tup (nDL rs)),si s.2,sf (.tup (ys.map .str)),sf (.tup (nDL qs)),si t.2,y15,x16] 8 (okf d)=.nx [x0,x1,x2,x3,x4,x5,x6,x7,some (true,.lst (L++[d])),sf (.tup (xs.map .str)),sf (.tup (nDL rs)),si s.2,sf (.tup (ys.map .str)),sf (.tup (nDL qs)),si t.2,y15,x16]:=λd y15=>by
  show(if L.length<sizeLine then _ else _)=_;rw[if_pos (by rw[aQI];lia)]
  rfl
 have ee:enc (xs++ys,.t (uN (rs++qs)),s.2 * t.2)=.tup [.tup ((xs++ys).map .str),nD (.t (uN (rs++qs))),.int (s.2 * t.2)]:=rfl;rw[ee,n1,n2];have ap:=ap (.tup [.tup ((xs++ys).map .str),nD (.t (uN (rs++qs))),.int (s.2 * t.2)]) (sf (nD (.t (uN (rs++qs)))));generalize nD (.t (uN (rs++qs)))=OUT at *;generalize nDL (uN (rs++qs))=O1 at *;generalize nDL (rs++qs)=O2 at *;generalize nDL rs=R1 at *;generalize nDL qs=R2 at *;generalize (xs++ys).map D.str=Z at *;generalize xs.map D.str=X at *;generalize ys.map D.str=Y at *;generalize s.2 * t.2=st at *;simp[mP,Ty.f,tl,c1,u4,t4,c2,t5,mu,dX,ap]
def sOf:N->Option Str|.s x=>some x|_=>none
def fs:N->List Str|.t l=>l.filterMap sOf|_=>[]
def kM(xs:List Str):fs (F xs)=xs:=by
 show(xs.map N.s).filterMap sOf=xs
 induction xs with
 |nil=>rfl
 |cons x xs ih=>rw[aRR,aPX];show x::_=_;rw[ih]
def fN(s t:Tr):Rw:=(fs s.1.1++fs t.1.1,.t (uN (lN s.1.2++lN t.1.2)),s.2 * t.2)
def aBO{e:Nat}{s:Tr}(hs:Tm e 1 s)(ht:Tm e' 1 t):tr (fN s t)=cK s t:=by obtain⟨⟨⟨xs,e1,_,_⟩,_⟩,_⟩:=hs;obtain⟨⟨⟨ys,e2,_,_⟩,_⟩,_⟩:=ht;show((F (a7 (fs s.1.1++fs t.1.1)),N.t (uN (lN s.1.2++lN t.1.2))),s.2 * t.2)=((N.t (aV (lN s.1.1++lN t.1.1)),N.t (uN (lN s.1.2++lN t.1.2))),s.2 * t.2);have e1':s.1.1=F xs:=e1;have e2':t.1.1=F ys:=e2;rw[e1',e2',kM,kM];show((F (a7 (xs++ys)),_),_)=((N.t (aV (xs.map .s++ys.map .s)),_),_);rw[<- aUI,m8];rfl
theorem pM{e:Nat}{s:Tr}(hs:Tm e 1 s):∃(xs:List Str) (rs:List N),s.1.1=F xs/\s.1.2=.t rs/\xs.length<=3/\rs.length<=2/\(∀r∈rs,isR 1 r/\bK r=true)/\tD s=.tup [.tup (xs.map .str),nD (.t rs),.int s.2]:=by
 obtain⟨⟨⟨xs,e1,_,l1⟩,rs,f1,_,l2,b1,t1⟩,_⟩:=hs;refine⟨xs,rs,e1,f1,by lia,by lia,λr hr=>⟨?_,t1 r hr⟩,?_⟩
 . obtain⟨_,e,_,q⟩:=b1;cases e;exact q r hr
 . have e1':s.1.1=F xs:=e1;rw[i7,e1',f1,i8]
theorem aBP{W:WD}{e e':Nat}(he:e<=9000)(he':e'<=9000){x0 x1 x2 x3 x4 x5 x6 x7 x16:Option (Bool×D)}{s:Tr}{xs:List Str}{rs:List N}(hs:Tm e 1 s)(e1:s.1.1=F xs)(f1:s.1.2=.t rs)(l1:xs.length<=3)(l2:rs.length<=2)(hr:∀r∈rs,isR 1 r/\bK r=true):∀(B:List Tr) (L:List D) (x12 x13 x14 x15:Option (Bool×D)),(∀t∈B,Tm e' 1 t)->L.length+B.length<900->∃y12 y13 y14 y15,bO (aU (.tp [.nm 12,.nm 13,.nm 14])) (evB W mP) (B.map tD) [x0,x1,x2,x3,x4,x5,x6,x7,some (true,.lst L),sf (.tup (xs.map .str)),sf (nD (.t rs)),si s.2,x12,x13,x14,x15,x16]=.nx [x0,x1,x2,x3,x4,x5,x6,x7,some (true,.lst (L++B.map λt=>enc (fN s t))),sf (.tup (xs.map .str)),sf (nD (.t rs)),si s.2,y12,y13,y14,y15,x16]
 |[],L,x12,x13,x14,x15,_,_=>⟨x12,x13,x14,x15,by rw[aRQ,aRQ,aQR];rfl⟩
 |t::B,L,x12,x13,x14,x15,hB,hl=>by
  have ht:=hB t mcs;obtain⟨ys,qs,e2,f2,m1,m2,hq,et⟩:=pM ht;rw[aR7]at hl;have ro:enc (fN s t)=enc (xs++ys,.t (uN (rs++qs)),s.2 * t.2):=by unfold fN;rw[e1,e2,f1,f2,kM,kM];rfl
  obtain⟨y12,y13,y14,y15,ih⟩:=aBP (W:=W) he he' (x0:=x0) (x1:=x1) (x2:=x2) (x3:=x3) (x4:=x4) (x5:=x5) (x6:=x6) (x7:=x7) (x16:=x16) hs e1 f1 l1 l2 hr B (L++[enc (fN s t)]) (sf (.tup (ys.map .str))) (sf (nD (.t qs))) (si t.2) (sf (nD (.t (uN (rs++qs))))) (λu hu=>hB u (mcm hu)) (by rw[aQ1];simp;lia)
  refine⟨y12,y13,y14,y15,?_⟩;have st:=aPF (W:=W) (x0:=x0) (x1:=x1) (x2:=x2) (x3:=x3) (x4:=x4) (x5:=x5) (x6:=x6) (x7:=x7) (x15:=x15) (x16:=x16) (L:=L) e1 e2 f1 f2 (by lia) (λr h=>(aPZ.mp h).elim (hr r) (hq r)) (by rw[aQ1];lia) (j8 hs.2 he) (j8 ht.2 he') (by lia)
  rw[aRR,et];rw[iD (ρ1:=[x0,x1,x2,x3,x4,x5,x6,x7,some (true,.lst L),sf (.tup (xs.map .str)),sf (nD (.t rs)),si s.2,sf (.tup (ys.map .str)),sf (nD (.t qs)),si t.2,x15,x16]) rfl st,<- ro,ih,aRR,aTG];rfl
theorem aBQ{W:WD}{e e':Nat}(he:e<=9000)(he':e'<=9000){x0 x1 x2 x3 x4 x5 x6 x16:Option (Bool×D)}{B:List Tr}(hB:∀t∈B,Tm e' 1 t):∀(A:List Tr) (L:List D) (x9 x10 x11 x12 x13 x14 x15:Option (Bool×D)),(∀t∈A,Tm e 1 t)->L.length+A.length * B.length<900->∃y9 y10 y11 y12 y13 y14 y15,bO (aU (.tp [.nm 9,.nm 10,.nm 11])) (evB W mQ) (A.map tD) [x0,x1,x2,x3,x4,x5,x6,sf (.tup (B.map tD)),some (true,.lst L),x9,x10,x11,x12,x13,x14,x15,x16]=.nx [x0,x1,x2,x3,x4,x5,x6,sf (.tup (B.map tD)),some (true,.lst (L++(A.flatMap λs=>B.map λt=>fN s t).map enc)),y9,y10,y11,y12,y13,y14,y15,x16]
 |[],L,x9,x10,x11,x12,x13,x14,x15,_,_=>⟨x9,x10,x11,x12,x13,x14,x15,by rw[aRQ,List.flatMap_nil,aRQ,aQR];rfl⟩
 |s::A,L,x9,x10,x11,x12,x13,x14,x15,hA,hl=>by
  have hs:=hA s mcs;obtain⟨xs,rs,e1,f1,l1,l2,hr,es⟩:=pM hs;rw[aR7,Nat.succ_mul]at hl;obtain⟨y12,y13,y14,y15,ei⟩:=aBP (W:=W) he he' (x0:=x0) (x1:=x1) (x2:=x2) (x3:=x3) (x4:=x4) (x5:=x5) (x6:=x6) (x7:=sf (.tup (B.map tD))) (x16:=x16) hs e1 f1 l1 l2 hr B L x12 x13 x14 x15 hB (by lia)
  obtain⟨z9,z10,z11,z12,z13,z14,z15,ih⟩:=aBQ (W:=W) he he' (x0:=x0) (x1:=x1) (x2:=x2) (x3:=x3) (x4:=x4) (x5:=x5) (x6:=x6) (x16:=x16) hB A (L++B.map λt=>enc (fN s t)) (sf (.tup (xs.map .str))) (sf (nD (.t rs))) (si s.2) y12 y13 y14 y15 (λu hu=>hA u (mcm hu)) (by rw[aQ1,aQ2];lia)
  refine⟨z9,z10,z11,z12,z13,z14,z15,?_⟩;have bd:evB W mQ [x0,x1,x2,x3,x4,x5,x6,sf (.tup (B.map tD)),some (true,.lst L),sf (.tup (xs.map .str)),sf (nD (.t rs)),si s.2,x12,x13,x14,x15,x16]=.nx [x0,x1,x2,x3,x4,x5,x6,sf (.tup (B.map tD)),some (true,.lst (L++B.map λt=>enc (fN s t))),sf (.tup (xs.map .str)),sf (nD (.t rs)),si s.2,y12,y13,y14,y15,x16]:=by unfold mQ;generalize mP=B1 at *;generalize (L++B.map λt=>enc (fN s t))=O1 at *;generalize B.map tD=BB at *;generalize xs.map D.str=X at *;generalize nD (.t rs)=R1 at *;simp[fU,ei]
  rw[aRR,es];rw[iD (ρ1:=[x0,x1,x2,x3,x4,x5,x6,sf (.tup (B.map tD)),some (true,.lst L),sf (.tup (xs.map .str)),sf (nD (.t rs)),si s.2,x12,x13,x14,x15,x16]) rfl bd,ih,aVS,aUI,aU3,aTG];rfl
theorem cut40{ns:List Int}:∃cs:List Int,cs.length<=40/\D3.cF (ns.map .int) (some 2) (some 42)=cs.map .int:=by have e:D3.cF (ns.map D.int) (some 2) (some 42)=D3.cF (ns.map D.int) (some ((2:Nat):Int)) (some ((42:Nat):Int)):=rfl;rw[e];unfold D3.cF;rw[HT.nI,HT.nI,<- aUK,<- aUJ];exact⟨_,by rw[aQU,aRD,aQ2];lia,rfl⟩
def aPG{ds:List α}(h:i<ds.length):atI ds (i:Int)=some ds[i]:=nL (aSK h)
theorem aPH{n:Int}(h0:0<=n)(h1:n<1000):eP (.ok [(.fz,.int n)])=okf (.lst (bU 0 n)):=by show(if(decide (-(2 ^ 62)<=n)&&decide (n<2 ^ 62))=true then Res.ok .fz (.lst (bU 0 n))else .stuck)=_;rw[if_pos (by rw[aRJ,aR8,aR8];lia)]
def aPI:∀n<41,∀r<2,((List.range n).filter λi=>decide (i % 2=r)).length<=20:=by decide
theorem half{W:WD}{cs:List Int}(hl:cs.length<=40)(r:Nat)(hr:r<2)(ρ:Rho)(h:ρ[2]? = some (sf (.lst (cs.map .int)))):∃ds:List Int,ds.length<=20/\dB (eP (.ok [(.fz,.int (cs.length:Nat))])) ρ [2] 1 (aU (.nm 1)) (λρ=>evF W [(.cmp .Eq (.bin .Mod v1 (.int 2)) (.int (r:Nat)))] ρ) (λρ=>evE W (.ix v0 v1) ρ)=.ok .fr (.lst (ds.map .int)):=by
 have rg:eP (.ok [(.fz,.int (cs.length:Nat))])=okf (.lst ((List.range cs.length).map λi:Nat=>D.int (i:Int))):=by
  rw[aPH (by lia) (by lia)]
  unfold bU;rw[Int.sub_zero,aQ9];exact congrArg (λf=>Res.ok .fz (.lst ((List.range cs.length).map f))) (funext λi=>congrArg D.int (aVO _))
 rw[rg];have hsub:bM [2] ρ=[sf (.lst (cs.map .int))]:=by simp[bM,h]
 refine⟨((List.range cs.length).filter λi=>decide (i % 2=r)).map λi=>cs.getD i 0,by rw[aQ2];exact aPI _ (by lia) _ hr,?_⟩
 rw[aU3];refine aAQ (enc:=λi:Nat=>D.int (i:Int)) (λi=>decide (i % 2=r)) (λi=>D.int (cs.getD i 0)) (by rw[aTT,aQI];lia) λi hi=>?_
 rw[hsub];refine⟨[sf (.lst (cs.map .int)),si (i:Int)],.fz,rfl,?_,λ_=>⟨.fz,?_⟩⟩
 . have e:((((i:Nat):Int) % 2==((r:Nat):Int)))=decide (i % 2=r):=by rw[Bool.eq_iff_iff,aQM,aR8];lia
   generalize cs.map D.int=X at *;simp[e]
 . rw[aPT]at hi;have a:atI (cs.map D.int) (i:Int)=some (D.int (cs.getD i 0)):=by
     rw[aPG (by rw[aQ2];exact hi),List.getElem_map]
     simp[hi]
   have ix:=iA (m:=.fz) (m':=.fz) a;generalize cs.map D.int=X at *;generalize cs.getD i 0=Y at *;simp[ix]
theorem aPJ{r:Rw}(g:pK r):Tm 140 1 (tr r):=by
 obtain⟨_,b,s,l4,⟨b1,b2,b3,b4⟩,n⟩:=g;refine⟨⟨⟨a7 r.1,rfl,?_,?_⟩,?_⟩,n⟩
 . rw[<- m8];exact eX _
 . rw[tN];lia
 . obtain⟨rs,e,_,_⟩:=id b;have e':(tr r).1.2=.t rs:=e;rw[e]at b1 b2 b3 b4;exact⟨rs,e',b3,by have:rs.length<=2:=b2;lia,b1,b4⟩
theorem lawR(hn:nms.length=4)(cs:List Int)(hl:cs.length<=L)(hL:L<=60):∃A:List Tr,RsN 150 1 L A/\a6 2 ((Wk (k+4)).Φ "_law_reason") (.ok [(.fz,.lst (cs.map .int)),(.fz,NM nms)])=okf (TD A):=by
 obtain⟨rs,l,g,e⟩:=aOA (k:=k) hn cs (by lia)
 obtain⟨A,e1,r,_⟩:=aBJ (e:=140) (m:=1) (L:=L) (X:=rs.map tr) (λt ht=>by obtain⟨r,hr,rfl⟩:=aVC.mp ht;exact aPJ (g r hr)) (by rw[aQ2];lia) (by lia)
 refine⟨A,r,?_⟩;rw[e1]at e;exact gU e
theorem normP{B:List Tr}(hA:∀t∈A,Tm 150 1 t)(hB:∀t∈B,Tm 150 1 t)(hl:A.length * B.length<900):a6 1 ((Wk (k+1)).Φ "_law_normal") (.ok [(.fz,.lst ((A.flatMap λs=>B.map λt=>fN s t).map enc))])=okf (nf (bP A B)):=by
 have e:(A.flatMap λs=>B.map λt=>fN s t).map tr=bP A B:=by
  clear hl
  induction A with
  |nil=>rfl
  |cons s A ih=>rw[aVS,aUI,pL,ih λt ht=>hA t (mcm ht),aU3];congr 1;exact aVE λt ht=>aBO (hA s mcs) (hB t ht)
 have ln:(A.flatMap λs=>B.map λt=>fN s t).length=A.length * B.length:=by have:=congrArg List.length e;rw[aQ2,tU]at this;exact this
 rw[<- e];refine j9 (tI (k:=k) (λr hr=>?_) (by rw[ln];exact hl))
 obtain⟨s,hs,hr⟩:=List.mem_flatMap.mp hr;obtain⟨t,ht,rfl⟩:=aVC.mp hr;refine⟨?_,by rw[aBO (hA s hs) (hB t ht)];exact(aBH (hA s hs).1 (hB t ht).1 (by decide)).K (by decide)⟩
 obtain⟨xs,_,e1,_,l1,_⟩:=pM (hA s hs);obtain⟨ys,_,e2,_,l2,_⟩:=pM (hB t ht);show(fs s.1.1++fs t.1.1).length<64;rw[e1,e2,kM,kM,aQ1];lia
noncomputable abbrev m2(f:Str)(a b:D):Res:=cA TT.cl (Wk 12).Φ f (okf (.ins "Reasons" [])) (.ok [(.fz,a),(.fz,b)])
noncomputable abbrev m0(f:Str):Res:=cA TT.cl (Wk 12).Φ f (okf (.ins "Reasons" [])) (.ok [])
noncomputable abbrev al(a b:D):Res:=a6 2 ((Wk 12).Φ "_law_alike") (.ok [(.fz,a),(.fz,b)])
theorem alR{e m:Nat}(h:RsN e m L A)(hm:m<=3)(hl:L<900):al (TD A) (TD A)=okf (.bl true):=by
 have:=aOQ (ts:=A) (λt ht=>(h.2.2 t ht).1.K hm) (by have:=h.2.1;lia) (m:=12) (by decide)
 rw[h.nf]at this;exact gU this
theorem prods{L':Nat}{B:List Tr}(hA:RsN 150 1 L A)(hB:RsN 150 1 L' B)(hl:L * L'<=400)(h1:L<=40)(h2:L'<=40):∃S:List Tr,m2 "times" (TD A) (TD B)=okf (TD S)/\al (TD S) (nf (bP A B))=okf (.bl true)/\m2 "times" (TD A) (TD [eT])=okf (TD A)/\m2 "times" (.tup []) (TD B)=okf (.tup []):=by
 obtain⟨S,e1,r1,s1⟩:=tX (k:=9) hA hB (by decide) (by lia) (by decide) (by decide)
 obtain⟨T,e2,r2,s2⟩:=tX (k:=9) hA aBM (by decide) (by lia) (by decide) (by decide)
 obtain⟨U,e3,r3,s3⟩:=tX (k:=9) (e:=1) (m:=1) (L:=1) tY hB (by decide) (by lia) (by decide) (by decide)
 have q2:T=A:=r2.eq hA (s2.trans ((aOR (aBD A [eT])).trans (by rw[aO4 hA.2.2];exact Sm.refl _)))
 have q3:U=[]:=r3.eq (tY (e:=1) (m:=1) (L:=1)) s3;have q1:TD S=nf (bP A B):=by rw[<- aA8 s1];exact r1.nf.symm
 rw[q2]at e2;rw[q3]at e3;refine⟨S,e1,?_,e2,e3⟩;rw[<- q1];exact alR r1 (by decide) (by lia)
def z1{W:WD}{C1 C2:List D}{LN VV p q:Int}(c0:a6 2 (W.Φ "_law_cell_at") (.ok [(.fz,.lst NS),(.fz,.int 0)])=okf (.int p))(c1:a6 2 (W.Φ "_law_cell_at") (.ok [(.fz,.lst NS),(.fz,.int 1)])=okf (.int q))(en:a6 2 (W.Φ "_law_names") (.ok [(.fz,.int p),(.fz,.int 4)])=.ok .fr M)(s2:∀ρ,slP (okf (.lst NS)) (some (evE W (.int 2))) (some (evE W (.int 42))) ρ=.ok .fr (.lst CS))(ln:c7 [(.fz,.lst CS)]=some (.fz,.int LN))(md:op2 (bC .Mod) (okf (.int (q / 2))) (okf (.int (LN+1)))=okf (.int VV))(s4:∀ρ,evE W v3 ρ=okf (.int VV)->slP (okf (.lst CS)) none (some (evE W v3)) ρ=.ok .fr (.lst C1))(s5:∀ρ,evE W v3 ρ=okf (.int VV)->slP (okf (.lst CS)) (some (evE W v3)) none ρ=.ok .fr (.lst C2)):evB W (eM.take 5) [sf (.lst NS),none,none,none,none,none,none,none,none,none,none,none,none,none,none,none,none]=.nx [sf (.lst NS),sf M,sf (.lst CS),si VV,sf (.lst C1),sf (.lst C2),none,none,none,none,none,none,none,none,none,none,none]:=by have s4:=s4 [sf (.lst NS),sf M,sf (.lst CS),si VV,none,none,none,none,none,none,none,none,none,none,none,none,none] rfl;have s5:=s5 [sf (.lst NS),sf M,sf (.lst CS),si VV,sf (.lst C1),none,none,none,none,none,none,none,none,none,none,none,none] rfl;simp[eM,c0,c1,en,s2,ln,md,s4,s5]
def stC{W:WD}{X:List D}{LN:Int}{E1:D3.E}{fs:List D3.E}(ln:c7 [(.fz,.lst CS)]=some (.fz,.int LN))(i:Nat)(h2:ρ[2]? = some (sf (.lst CS)))(hc:dB (eP (.ok [(.fz,.int LN)])) ρ [2] 1 (aU (.nm 1)) (λρ=>evF W fs ρ) (λρ=>evE W E1 ρ)=.ok .fr (.lst X)):evS W (.setC i true (.comp E1 (.rng1 (.bcall .len [v2])) fs [2] (.nm 1) 1)) ρ=dS ρ i (okf (.lst X)):=by
 rw[aMJ,aMF];generalize (λρ=>evF W fs ρ)=g1 at *;generalize (λρ=>evE W E1 ρ)=g2 at *;have vv2:eZ ρ 2=okf (.lst CS):=by unfold eZ;rw[h2]
 simp[vv2,ln,hc]
def z2t{W:WD}{C1 C2 D0 D1:List D}{VV q:Int}{E0 E1:D3.E}(c1:a6 2 (W.Φ "_law_cell_at") (.ok [(.fz,.lst NS),(.fz,.int 1)])=okf (.int q))(w:q % 2=1)(e0:evS W (.setC 4 true E0) [sf (.lst NS),sf M,sf (.lst CS),si VV,sf (.lst C1),sf (.lst C2),none,none,none,none,none,none,none,none,none,none,none]=.nx [sf (.lst NS),sf M,sf (.lst CS),si VV,sf (.lst D0),sf (.lst C2),none,none,none,none,none,none,none,none,none,none,none])(e1:evS W (.setC 5 true E1) [sf (.lst NS),sf M,sf (.lst CS),si VV,sf (.lst D0),sf (.lst C2),none,none,none,none,none,none,none,none,none,none,none]=.nx [sf (.lst NS),sf M,sf (.lst CS),si VV,sf (.lst D0),sf (.lst D1),none,none,none,none,none,none,none,none,none,none,none]):evB W [.ite (.cmp .Eq (.bin .Mod (.call "_law_cell_at" 2 [v0,(.int 1)]) (.int 2)) (.int 1)) [.setC 4 true E0,.setC 5 true E1] []] [sf (.lst NS),sf M,sf (.lst CS),si VV,sf (.lst C1),sf (.lst C2),none,none,none,none,none,none,none,none,none,none,none]=.nx [sf (.lst NS),sf M,sf (.lst CS),si VV,sf (.lst D0),sf (.lst D1),none,none,none,none,none,none,none,none,none,none,none]:=by
 have tst:evE W (.cmp .Eq (.bin .Mod (.call "_law_cell_at" 2 [v0,(.int 1)]) (.int 2)) (.int 1)) [sf (.lst NS),sf M,sf (.lst CS),si VV,sf (.lst C1),sf (.lst C2),none,none,none,none,none,none,none,none,none,none,none]=okf (.bl true):=by simp[c1,w]
 rw[j7,s_ite,tst];show aH.thn (evB W [.setC 4 true E0,.setC 5 true E1] _) _=_;rw[j7,e0,aH.thn_nx,j7,e1,aH.thn_nx];simp
def z2f{W:WD}{C1 C2:List D}{VV q:Int}{b1:List D3.S}(c1:a6 2 (W.Φ "_law_cell_at") (.ok [(.fz,.lst NS),(.fz,.int 1)])=okf (.int q))(w:(q % 2==1)=false):evB W [.ite (.cmp .Eq (.bin .Mod (.call "_law_cell_at" 2 [v0,(.int 1)]) (.int 2)) (.int 1)) b1 []] [sf (.lst NS),sf M,sf (.lst CS),si VV,sf (.lst C1),sf (.lst C2),none,none,none,none,none,none,none,none,none,none,none]=.nx [sf (.lst NS),sf M,sf (.lst CS),si VV,sf (.lst C1),sf (.lst C2),none,none,none,none,none,none,none,none,none,none,none]:=by simp[c1,w]
theorem z2{W:WD}{cs:List Int}{v:Nat}{VV q:Int}(lc:cs.length<=40)(lv:v<=cs.length)(c1:a6 2 (W.Φ "_law_cell_at") (.ok [(.fz,.lst NS),(.fz,.int 1)])=okf (.int q)):∃(L L':Nat) (mi yo:List Int),mi.length<=L/\yo.length<=L'/\L * L'<=400/\L<=40/\L'<=40/\evB W ((eM.drop 5).take 1) [sf (.lst NS),sf M,sf (.lst (cs.map .int)),si VV,sf (.lst ((cs.take v).map .int)),sf (.lst ((cs.drop v).map .int)),none,none,none,none,none,none,none,none,none,none,none]=.nx [sf (.lst NS),sf M,sf (.lst (cs.map .int)),si VV,sf (.lst (mi.map .int)),sf (.lst (yo.map .int)),none,none,none,none,none,none,none,none,none,none,none]:=by
 have ln:c7 [(.fz,.lst (cs.map .int))]=some (.fz,.int (cs.length:Nat)):=by show some (Md.fz,D.int ((cs.map D.int).length:Nat))=_;rw[aQ2]
 obtain⟨d0,l0,t0⟩:=half (W:=W) lc 0 (by decide) [sf (.lst NS),sf M,sf (.lst (cs.map .int)),si VV,sf (.lst ((cs.take v).map .int)),sf (.lst ((cs.drop v).map .int)),none,none,none,none,none,none,none,none,none,none,none] rfl
 obtain⟨d1,l1,t1⟩:=half (W:=W) lc 1 (by decide) [sf (.lst NS),sf M,sf (.lst (cs.map .int)),si VV,sf (.lst (d0.map .int)),sf (.lst ((cs.drop v).map .int)),none,none,none,none,none,none,none,none,none,none,none] rfl
 by_cases w:q % 2=1
 . exact⟨20,20,d0,d1,l0,l1,by decide,by decide,by decide,z2t c1 w (stC ln 4 rfl t0) (stC ln 5 rfl t1)⟩
 . have w:(q % 2==1)=false:=by simpa using w
   refine⟨v,cs.length-v,cs.take v,cs.drop v,by rw[aQU];lia,by rw[aRD];lia,?_,by lia,by lia,z2f c1 w⟩
   have:∀a b:Nat,a+b<=40->a * b<=400:=λa b hab=>by
    have ha:a<=40:=by lia
    have:a * b<=a * (40-a):=Nat.mul_le_mul_left _ (by lia)
    have:∀a<41,a * (40-a)<=400:=by decide
    exact aPV ‹a * b<=a * (40-a)› (this a (by lia))
   exact this _ _ (by lia)
def z3{W:WD}{C1 C2 RW a0:List D}{b:D}{VV:Int}{BL:List D3.S}{y9 y10 y11 y12 y13 y14 y15:Option (Bool×D)}(eA:a6 2 (W.Φ "_law_reason") (.ok [(.fz,.lst C1),(.fz,M)])=okf (.tup a0))(eB:a6 2 (W.Φ "_law_reason") (.ok [(.fz,.lst C2),(.fz,M)])=okf b)(lo:bO (aU (.tp [.nm 9,.nm 10,.nm 11])) (evB W BL) a0 [sf (.lst NS),sf M,sf (.lst CS),si VV,sf (.lst C1),sf (.lst C2),sf (.tup a0),sf b,some (true,.lst []),none,none,none,none,none,none,none,none]=.nx [sf (.lst NS),sf M,sf (.lst CS),si VV,sf (.lst C1),sf (.lst C2),sf (.tup a0),sf b,some (true,.lst RW),y9,y10,y11,y12,y13,y14,y15,none]):evB W [.set 6 (.frz (.call "_law_reason" 2 [v4,v1])),.set 7 (.frz (.call "_law_reason" 2 [v5,v1])),.set 8 (.lst []),.for (.items v6) (.tp [(.nm 9),(.nm 10),(.nm 11)]) BL,.frzV 8] [sf (.lst NS),sf M,sf (.lst CS),si VV,sf (.lst C1),sf (.lst C2),none,none,none,none,none,none,none,none,none,none,none]=.nx [sf (.lst NS),sf M,sf (.lst CS),si VV,sf (.lst C1),sf (.lst C2),sf (.tup a0),sf b,sf (.lst RW),y9,y10,y11,y12,y13,y14,y15,none]:=by have it:gZ (okf (.tup a0))=okf (.lst a0):=rfl;have fz:∀{X:D}{x0 x1 x2 x3 x4 x5 x6 x7 x9 x10 x11 x12 x13 x14 x15 x16:Option (Bool×D)},hG [x0,x1,x2,x3,x4,x5,x6,x7,some (true,X),x9,x10,x11,x12,x13,x14,x15,x16] 8=.nx [x0,x1,x2,x3,x4,x5,x6,x7,sf X,x9,x10,x11,x12,x13,x14,x15,x16]:=rfl;simp[eA,eB,pF,it,fU,lo,fz]
def z4{W:WD}{C1 C2 RW:List D}{a b s NF:D}{VV:Int}{y9 y10 y11 y12 y13 y14 y15:Option (Bool×D)}(p1:cA W.cl W.Φ "times" (okf (.ins "Reasons" [])) (.ok [(.fz,a),(.fz,b)])=okf s)(nP:a6 1 (W.Φ "_law_normal") (.ok [(.fz,.lst RW)])=okf NF)(p2:a6 2 (W.Φ "_law_alike") (.ok [(.fz,s),(.fz,NF)])=okf (.bl true))(on:cA W.cl W.Φ "one" (okf (.ins "Reasons" [])) (.ok [])=okf (.tup [.tup [.tup [],.tup [],.int 1]]))(no:cA W.cl W.Φ "nought" (okf (.ins "Reasons" [])) (.ok [])=okf (.tup []))(al1:a6 2 (W.Φ "_law_alike") (.ok [(.fz,.tup [.tup [.tup [],.tup [],.int 1]]),(.fz,.tup [.tup [.tup [],.tup [],.int 1]])])=okf (.bl true))(al0:a6 2 (W.Φ "_law_alike") (.ok [(.fz,.tup []),(.fz,.tup [])])=okf (.bl true))(p3:cA W.cl W.Φ "times" (okf (.ins "Reasons" [])) (.ok [(.fz,a),(.fz,.tup [.tup [.tup [],.tup [],.int 1]])])=okf a)(p4:cA W.cl W.Φ "times" (okf (.ins "Reasons" [])) (.ok [(.fz,.tup []),(.fz,b)])=okf (.tup []))(alA:a6 2 (W.Φ "_law_alike") (.ok [(.fz,a),(.fz,a)])=okf (.bl true)):evB W (eM.drop 11) [sf (.lst NS),sf M,sf (.lst CS),si VV,sf (.lst C1),sf (.lst C2),sf a,sf b,sf (.lst RW),y9,y10,y11,y12,y13,y14,y15,none]=.rt .fz (.bl true):=by simp[eM,p1,nP,p2,on,no,gE,i6,dX,al1,al0,p3,p4,alA]
noncomputable def kk:Nat:=12
theorem main(ns:List Int)(h:ns.length<=63):(Wk (kk+1)).Φ ("law":Str) (nU ns)=okf (.bl true):=by
 have c0:=aA7 11 ns (i:=0) (by decide)
 have c1:=aA7 11 ns (i:=1) (by decide)
 obtain⟨nms,hn,en⟩:=names (k:=11) (ce ns 0);have en:=aOP en;obtain⟨cs,lc,ec⟩:=cut40 (ns:=ns);have vv0:0<=ce ns 1 / 2 % ((cs.length:Int)+1):=Int.emod_nonneg _ (by lia)
 have vv1:ce ns 1 / 2 % ((cs.length:Int)+1)<(cs.length:Int)+1:=Int.emod_lt_of_pos _ (by lia)
 obtain⟨v,hv⟩:=aVR vv0;have hv':ce ns 1 / 2 % ((cs.length:Int)+1)=((v:Nat):Int):=hv;have md:op2 (bC .Mod) (okf (.int (ce ns 1 / 2))) (okf (.int ((cs.length:Int)+1)))=okf (.int ((v:Nat):Int)):=by rw[zB (by lia),hv']
 have lv:v<=cs.length:=by lia
 have ln:c7 [(.fz,.lst (cs.map .int))]=some (.fz,.int (cs.length:Nat)):=by show some (Md.fz,D.int ((cs.map D.int).length:Nat))=_;rw[aQ2]
 rw[u_law];refine dH rfl ?_;show evB (Wk 12) eM [sf (.lst (ns.map .int)),none,none,none,none,none,none,none,none,none,none,none,none,none,none,none,none]=_;have split:eM=eM.take 5++((eM.drop 5).take 1++((eM.drop 6).take 5++eM.drop 11)):=rfl;rw[split,gW,z1 c0 c1 en (CS:=cs.map .int) (C1:=(cs.take v).map .int) (C2:=(cs.drop v).map .int) (λρ=>by rw[aON (m1:=.fz) (m2:=.fz) (i:=2) (j:=42) (by simp) (by simp),ec]) ln md (λρ h=>by rw[sl_hi h,aOL,aUJ]) (λρ h=>by rw[sl_lo h,aOM,aUK]),aH.thn_nx,gW]
 obtain⟨L,L',mi,yo,lm,ly,lp,b1,b2,z2⟩:=z2 (NS:=ns.map .int) (M:=NM nms) (VV:=((v:Nat):Int)) lc lv c1;rw[z2,aH.thn_nx,gW]
 clear z2 split md c0 c1
 obtain⟨A,hA,eA⟩:=lawR (k:=8) (L:=L) hn mi lm (by lia)
 obtain⟨B,hB,eB⟩:=lawR (k:=8) (L:=L') hn yo ly (by lia)
 have lAB:A.length * B.length<900:=aUV (Nat.mul_le_mul hA.2.1 hB.2.1) (by lia)
 obtain⟨S,p1,p2,p3,p4⟩:=prods hA hB lp b1 b2;have nP:=normP (k:=11) hA.2.2 hB.2.2 lAB;have alA:=alR hA (by decide) (by lia)
 have al1:=alR aBM (by decide) (by decide)
 have al0:al (.tup []) (.tup [])=okf (.bl true):=alR (A:=[]) (tY (e:=1) (m:=1) (L:=1)) (by decide) (by decide)
 have no:m0 "nought" = okf (.tup []):=aPC (k:=11);have on:m0 "one" = okf (TD [eT]):=oneR (k:=11);rw[aBL]at al1 on p3;obtain⟨y9,y10,y11,y12,y13,y14,y15,lo⟩:=aBQ (W:=Wk 12) (e:=150) (e':=150) (by decide) (by decide) (x0:=sf (.lst (ns.map .int))) (x1:=sf (NM nms)) (x2:=sf (.lst (cs.map .int))) (x3:=si ((v:Nat):Int)) (x4:=sf (.lst (mi.map .int))) (x5:=sf (.lst (yo.map .int))) (x6:=sf (TD A)) (x16:=none) hB.2.2 A [] none none none none none none none hA.2.2 (by simpa using lAB)
 rw[aT9]at lo;have z:=z3 eA eB lo;have sp:(eM.drop 6).take 5=[.set 6 (.frz (.call "_law_reason" 2 [v4,v1])),.set 7 (.frz (.call "_law_reason" 2 [v5,v1])),.set 8 (.lst []),.for (.items v6) (.tp [(.nm 9),(.nm 10),(.nm 11)]) mQ,.frzV 8]:=rfl;rw[sp,show evB (Wk 12) _ _=_ from z,aH.thn_nx]
 have cl:(Wk 12).cl=TT.cl:=by simp
 exact z4 (by rw[cl];exact p1) nP p2 (by rw[cl];exact on) (by rw[cl];exact no) al1 al0 (by rw[cl];exact p3) (by rw[cl];exact p4) alA
end K22
namespace K22
open PySem.W Tp
def tw:Prod.fst (true,aVY)=true:=by k_qdec
noncomputable def as:List Addr:=[2,3,15,17,18,20,21,22,25,26,27,29,30,32,33,41,43,44,46,47,48,49,50,51,52,55,58,59,60,67,69,70,72,73,74,76,77,79,80,81,83,84,86,87,88,91,92,93,95,96,98,99,100,103,104,105,107,108,110,111,112,114,115,117,118,119,120,121,124,126,127,129,130,131,133,134,136,137,138,140,141,143,144,145,148,149,150,152,153,155,156,157,160,161,162,164,165,167,168,169,171,172,174,175,176,178,179,181,182,183,185,186,188,189,190,193,194,195,197,198,200,201,202,205,206,207,210,211,212,214,215,217,218,219,222,223]
noncomputable def ts:List Addr:=[16,23,28,42,56,68,75,82,89,94,101,106,113,125,132,139,146,151,158,163,170,177,184,191,196,203,208,213,220]
def pre(w:aVW)(os:OsState):topGo treeTable aVY w 11 an 12 ⟨boot_heap w.params,#[],boot_drawn,boot_toks,os⟩ (topStub aVY)=some ((sh w.params (sA w.params) 15 187 os).abs,⟨denote treeTable (cd aVY),cd aVY,z0,[topFrame z0]⟩):=by
 rw[aVY,Fast.te10165276593419110105,Fast.te203182992438928480,Fast.te13144403056285818395,Fast.te15667345088766844465,Fast.te14364793385576792824,Fast.te11892475500146522536]
 kernel_rfl
def blk(w:aVW)(s:aVU):segRun treeTable aVY w 11 an 1 1 s (blockOf aVY.main.body (ev aVY) (cd aVY) z0 [topFrame z0])=some (.next,s,cd aVY,z0):=by kernel_rfl
def run(w:aVW)(os:OsState):go treeTable aVY w 1000 aVY.main.body (sh w.params (sA w.params) 15 187 os) (cd aVY) z0=some (sh w.params (lay w.params aVY.main.body (sA w.params)) 224 469 os,cd aVY,⟨176,0,197,143⟩):=by
 rw[aVY,Fast.te10165276593419110105,Fast.te203182992438928480,Fast.te13144403056285818395,Fast.te5678740263434597267,Fast.te14364793385576792824,Fast.te10212481707522018265]
 kernel_rfl
def tZ(w:aVW):(λos=>((staticsOk (importedModules aVY.main.body) (boot_heap w.params) (H1 aVY.main.body 224 w.params)&&namesBound aVY (H1 aVY.main.body 224 w.params)&&gensDone (S1 aVY.main.body 224 469 w.params os)&&laidKept (boot_heap w.params) (H1 aVY.main.body 224 w.params)),openSeen (vw aVY) (los aVY.main.body) (importedModules aVY.main.body) (xt PySem.Challenge.rw_whencewise_k22_products_of_reasons.row) true (S1 aVY.main.body 224 469 w.params os),(hk aVY.main.body (as++ts)).obs (S1 aVY.main.body 224 469 w.params os)))=λ_=>(true,openGood (vw aVY) (los aVY.main.body),(hk aVY.main.body (as++ts)).val w):=by
 rw[aVY,Fast.te14387180822208032119,Fast.te10165276593419110105,Fast.te5923862056798008813,Fast.te9407923862454927560,Fast.te15884229538025494872,Fast.te4187177175401517315,Fast.te18076920544200396443,Fast.te9318435048543301240,Fast.te17808466708180730929,Fast.te2368527892694137696]
 kernel_rfl
def tb(P:Params):D3.oS (KK aVY.main.body as P) (KK aVY.main.body (as++ts) P)=true:=by
 kernel_rfl
def gf(P:Params):D3.sJ (KK aVY.main.body as P) GG TT=true:=by
 kernel_rfl
noncomputable abbrev dl:DefRec:=⟨"law", L2.nN sN,L2.jG sN,L2.fQ sN,⟨176,0,197,143⟩⟩
end K22
open PySem.W
set_option maxRecDepth 100000 in
set_option maxHeartbeats 0 in
theorem PySem.Challenge.cw_whencewise_k22_products_of_reasons_holds : PySem.Challenge.rw_whencewise_k22_products_of_reasons.Holds := by
 w_on;o_law
 exact Tp.head (p:=PySem.Challenge.rw_whencewise_k22_products_of_reasons) (d:=K22.dl) (Tp.left (by kernel_rfl) K22.pre K22.blk K22.run (by kernel_rfl) (by kernel_rfl) (λ_=>by kernel_rfl) K22.tZ) (by assumption) (by kernel_rfl) (by kernel_rfl) rfl rfl (by decide +kernel) ⟨rfl,rfl,rfl,rfl,rfl,by decide +kernel⟩ (by w_witness2)
  (D3.walkG (K:=Tp.KK PySem.Challenge.pw_whencewise_k22_products_of_reasons.main.body K22.as) (Kf:=Tp.KK PySem.Challenge.pw_whencewise_k22_products_of_reasons.main.body (K22.as++K22.ts)) (kk:=K22.kk) (e:=K22.sM) rfl rfl rfl (λw h Y=>W.kIn_of Y) (Tp.KK_sub _ _ _) (Tp.KK_nd _ _) K22.tb K22.gf (D3.aMQ (g:=K22.GG) (by decide +kernel)) rfl rfl ⟨rfl,by decide,by decide⟩ K22.main)
