import PyProof.Rows.All
import Wide.All
import OpenK.AllK
import Wide.FinOn
import Lean
import PyProof.EqAt
import PyProof.EqKinds
import PyProof.TupleCall
import PySem.Challenge.RW_whencewise_k31_table
set_option compiler.extract_closed false
set_option bootstrap.genMatcherCode false
set_option linter.all false
section
open PySem PySem.Spec PyProof.Rows
def aTF:=@decide_eq_false
def aTG:=@beq_eq_false_iff_ne
def aTH:=@Paired.length
def aTI:=@Heap.get?_push_size
def aTJ:=@Heap.lt_size
def aTK:=@Nat.lt_of_lt_of_le
def aTL:=@Nat.lt_irrefl
def aTM:=@Nat.ne_of_lt
def aTN:=@List.mem_filter
def aTO:=@List.mem_range
def aTP:=@Array.getElem?_eq_some_iff
def aTQ:=@Nat.le_trans
def aTR:=@Nat.le_of_lt
def aTS:=@List.filterMap_cons
def aTT:=@List.mem_cons
def aTU:=@List.mem_append
def aTV:=@List.mem_append_left
def aTW:=@List.getElem?_eq_some_iff
def aTX:=@List.getElem?_set_self
def aTY:=@List.getElem?_set_ne
def aTZ:=@Option.some.inj
def aT0:=@wpAny_mono
def aT1:=@wpAny_truthy_bool
def aT2:=@Array.length_toList
def aT3:=@wpAny_execs_nil
def aT4:=@wpAny_passesOwn
def aT5:=@Bool.false_ne_true
def aT6:=@Nat.ne_of_gt
def aT7:=@wpAny_pure
def aT8:=@wpAny_bind
def aT9:=@wpAny_pyIter_list
def aUA:=@Nat.le_refl
def aUB:=@wpAny_pyIter_tuple
def aUC:=@PyProof.Rows.callWith_type1
def aUD:=@List.mem_filterMap
def aUE:=@List.mem_append_right
def aUF:=@sizeLine_eq
def aUG:=@List.size_toArray
def aUH:=@Array.mem_toList_iff
def aUI:=@beq_iff_eq
def aUJ:=@List.length_cons
def aUK:=@List.map_cons
def aUL:=@List.length_map
def aUM:=@Heap.size_push
def aUN:=@Nat.le_of_eq
def aUO:=@Nat.lt_succ_self
def aUP:=@Nat.zero_le
def aUQ:=@Calls.spliced_nil
def aUR:=@Calls.spliced_cons
def aUS:=@List.append_nil
def aUT:=@wpAny_standAt
def aUU:=@List.nodup_cons
def aUV:=@List.of_mem_zip
def aUW:=@W.cellsFrom_some
def aUX:=@List.length_take
def aUY:=@PySem.mem_of_lookup
def aUZ:=@List.getElem?_append_right
def aU0:=@List.getElem?_replicate
def aU1:=@List.getElem?_append_left
def aU2:=@List.getElem?_map
def aU3:=@List.mem_of_getElem?
def aU4:=@List.length_append
def aU5:=@wpAny_Call_Name_kw
def aU6:=@concat_meets
def aU7:=@noFill_tuple_add
def aU8:=@F.slot_tuple_add
def aU9:=@F.entry_tuple_add
def aVA:=@F.args_tuple_add_2
def aVB:=@Int.toNat_natCast
def aVC:=@if_false
def aVD:=@if_true
def aVE:=@wpAny_field
def aVF:=@List.length_drop
def aVG:=@wpAny_holding
def aVH:=@wpAny_callSpecial?_slot
def aVI:=@PyProof.Rows.slot_tuple_getitem
def aVJ:=@wpAny_call_entry
def aVK:=@wpAny_typeOf
def aVL:=@Bool.and_eq_true
def aVM:=@wpAny_newObj_type
def aVN:=@Bool.or_false
def aVO:=@Option.getD_none
def aVP:=@List.all_cons
def aVQ:=@Calls.callWith_builtin
def aVR:=@Calls.evalArgs_plain
def aVS:=@Heap.get?_update_other
def aVT:=@List.length_singleton
def aVU:=@List.map_nil
def aVV:=@decide_eq_true
def aVW:=@codeAny_mono
def aVX:=@List.cons_append
def aVY:=@Nat.add_assoc
def aVZ:=@wpAny_specialOf
def aV0:=@wpAny_forIn_list
def aV1:=@Array.toList_push
def aV2:=@wpAny_rule
def aV3:=@Nat.min_le_left
def aV4:=@wpAny_isInstance
def aV5:=@Bool.not_true
def aV6:=@Bool.false_eq_true
def aV7:=@wpAny_seqItems
def aV8:=@List.lookup_cons
def aV9:=@decide_eq_true_eq
def aWA:=@of_decide_eq_true
def aWB:=@Bool.or_eq_true
def aWC:=@Array.all_eq_true_iff_forall_mem
def aWD:=@wpAny_getItem_str_slice
def aWE:=@post_val_or_str
def aWF:=@Txt.slice_le
def aWG:=@Array.mem_of_getElem?
def aWH:=@W.kia_one
def aWI:=@List.all_eq_true
def aWJ:=@List.getElem_of_mem
def aWK:=@List.getD_eq_getElem?_getD
def aWL:=@List.getElem?_eq_getElem
def aWM:=@List.getElem_mem
def aWN:=@List.length_set
def aWO:=@List.getElem?_set
def aWP:=@List.getElem?_range
def aWQ:=@Option.map_some
def aWR:=@List.drop_eq_getElem_cons
def aWS:=@List.drop_length
def aWT:=@List.forIn_nil
def aWU:=@List.forIn_cons
def aWV:=@LawfulMonad.pure_bind
def aWW:=@beq_self_eq_true
def aWX:=@Nat.lt_succ_of_lt
def aWY:=@Nat.not_lt
def aWZ:=@Heap.SameBut.refl
def aW0:=@wpAny_call
def aW1:=@List.find?_some
def aW2:=@List.mem_of_find?_eq_some
def aW3:=@Nat.le_succ
def aW4:=@List.drop_zero
def aW5:=@List.take_of_length_le
def aW6:=@Nat.zero_add
def aW7:=@List.mem_singleton
def aW8:=@List.zip_cons_cons
def aW9:=@List.length_nil
def aXA:=@F.slot_tuple_iterator_next
def aXB:=@F.entry_tuple_iterator_next
def aXC:=@F.args_tuple_iterator_next_1
def aXD:=@wpAny_setField
def aXE:=@Heap.get?_update_self
def aXF:=@Obj.isFreed_of_fields
def aXG:=@Obj.data_mapFields
def aXH:=@Heap.SameBut.update
def aXI:=@Obj.cls_mapFields
def aXJ:=@wpAny_of_eq
def aXK:=@List.mem_nil_iff
def aXL:=@or_false
def aXM:=@List.getElem?_toArray
def aXN:=@wpAny_attempt
def aXO:=@wpAny_pyIter_enum
def aXP:=@List.take_length
def aXQ:=@fits_of_scanBound
def aXR:=@wpAny_storeSet_of
def aXS:=@wpAny_setState_of
def aXT:=@List.nodup_append
def aXU:=@codeAny_builtin
def aXV:=@Around.under_plainId
def aXW:=@plainId_quiet
def aXX:=@List.nodup_nil
def aXY:=@isSubtype_type
def aXZ:=@sub_set_self
def aX0:=@wpAny_askSetting
def aX1:=@Array.getElem?_toList
def aX2:=@List.not_mem_nil
def aX3:=@Int.emod_lt_of_pos
def aX4:=@Int.emod_nonneg
def aX5:=@Array.getD_eq_getD_getElem?
def aX6:=@Array.getElem?_eq_getElem
def aX7:=@List.length_range
def aX8:=@List.length_eq_zero_iff
def aX9:=@Array.size_map
def aYA:=@wpAny_setEntries_of
def aYB:=@MeetsSeq2.wpAny_forIn_array
def aYC:=@bne_self_eq_false
def aYD:=@Nat.lt_of_le_of_lt
def aYE:=@wpAny_setEpoch_of
def aYF:=@wpAny_pyIter_slot
def aYG:=@wpAny_fieldsOf
def aYH:=@Array.getElem?_eq_none
def aYI:=@List.getElem?_eq_none
def aYJ:=@PyProof.Rows.size_push'
def aYK:=@List.ext_getElem
def aYL:=@wpAny_ite_split
def aYM:=@wpAny_newList
def aYN:=@Bool.not_eq_true'
def aYO:=@List.pairwise_cons
def aYP:=@List.pairwise_singleton
def aYQ:=@List.find?_cons
def aYR:=@Option.map_eq_some_iff
def aYS:=@List.nil_append
def aYT:=@Array.Perm.refl
def aYU:=@PyProof.Rows.listUpdate_at
def aYV:=@PyProof.Rows.get?_update_seq
def aYW:=@List.Perm.refl
def aYX:=@Heap.size_update
def aYY:=@wpAny_dictEntries
def aYZ:=@wpAny_dictEpoch
def aY0:=@F.slot_dict_keyiterator_next
def aY1:=@F.entry_dict_keyiterator_next
def aY2:=@F.args_dict_keyiterator_next_1
def aY3:=@wpAny_typeNameOfWhole_keyiter
def aY4:=@wpAny_typeNameOf_keyiter
def aY5:=@wpAny_isOneOf_keyiter
def aY6:=@List.pairwise_iff_getElem
def aY7:=@List.mem_map
def aY8:=@List.map_map
def aY9:=@List.map_append
def aZA:=@F.slot_dict_setdefault
def aZB:=@bne_iff_ne
def aZC:=@List.contains_iff_mem
def aZD:=@List.getElem?_cons_succ
def aZE:=@Array.eq_empty_of_size_eq_zero
def aZF:=@W.mg_of
def aZG:=@Int.eq_ofNat_of_zero_le
def aZH:=@List.map_congr_left
def aZI:=@List.Sublist.map
def aZJ:=@List.filter_sublist
def aZK:=@List.length_filter_le
def aZL:=@List.map_take
def aZM:=@Classical.choose_spec
end
abbrev aZS:=PySem.Challenge.pw_whencewise_k31_table
abbrev aZN:=PySem.Value
abbrev aZO:=PySem.Shared
abbrev aZP:=PySem.Around
abbrev aZQ:=PySem.World
abbrev aZR:=PySem.Program
abbrev VSP := PySem.Value -> PySem.Shared -> Prop
abbrev Fg := PySem.W.Frag
abbrev LAO := List (PySem.Addr × PySem.Obj)
abbrev SOV := PySem.Str -> Option PySem.Value
def mcm {α : Type} {a b : α} {l : List α} (h : a ∈ l) : a ∈ b :: l := List.mem_cons_of_mem _ h
def mcs {α : Type} {a : α} {l : List α} : a ∈ a :: l := List.mem_cons_self
def hps {h : PySem.Heap} {o p : PySem.Obj} {b : PySem.Addr} (e : h.get? b = some o) : (h.push p).get? b = some o := PySem.Heap.get?_push_of_some _ e
set_option Elab.async false
set_option maxRecDepth 100000
noncomputable section
open PySem PySem.Spec PyProof.Rows
namespace L2
abbrev Key:=Sum Int Str
def u1:Key->aZN->Bool
 |.inl k,v=>Value.isInt k v
 |.inr x,v=>Value.isStrOf x v
def keyH(w:aZQ):Key->Int
 |.inl k=>hashInt k
 |.inr x=>hashStr w x
def gI:∀{k:Key}{v:aZN},u1 k v=true->(∃i t,k=Sum.inl i/\v=Value.int i t)\/(∃x t,k=Sum.inr x/\v=Value.str x t)
 |.inl i,v,h=>by obtain⟨t,e⟩:=Value.isInt_shape (k:=i) (v:=v) h;exact .inl ⟨i,t,rfl,e⟩
 |.inr x,v,h=>by obtain⟨t,e⟩:=Value.isStrOf_shape (x:=x) (v:=v) h;exact .inr ⟨x,t,rfl,e⟩
def aDK(a b:Int):decide ((Sum.inl a:Key)=Sum.inl b)=(a==b):=by
 by_cases e:a=b
 . subst e;simp
 . have h:¬ (Sum.inl a:Key)=Sum.inl b:=λq=>e (Sum.inl.inj q);rw[aTF h];exact(aTG.mpr e).symm
def aDL(a b:Str):decide ((Sum.inr a:Key)=Sum.inr b)=decide (a=b):=by
 by_cases e:a=b
 . subst e;simp
 . have h:¬ (Sum.inr a:Key)=Sum.inr b:=λq=>e (Sum.inr.inj q);rw[aTF h,aTF e]
def aDM(a:Int)(b:Str):decide ((Sum.inl a:Key)=Sum.inr b)=false:=aTF (λq=>nomatch q)
def aDN(a:Str)(b:Int):decide ((Sum.inr a:Key)=Sum.inl b)=false:=aTF (λq=>nomatch q)
noncomputable def jU(prog:aZR)(w:aZQ):PySem.KeyKind prog w Key where
 is:=u1
 hash:=keyH w
 inj:=λv a b ha hb=>by
  rcases gI ha with⟨i,t,rfl,rfl⟩|⟨x,t,rfl,rfl⟩
  . rcases gI hb with⟨j,u,rfl,e⟩|⟨y,u,rfl,e⟩
    . injection e with e1 _;rw[e1]
    . exact nomatch e
  . rcases gI hb with⟨j,u,rfl,e⟩|⟨y,u,rfl,e⟩
    . exact nomatch e
    . injection e with e1 _;rw[e1]
 byValue:=λk v h=>by rcases gI h with⟨i,t,rfl,rfl⟩|⟨x,t,rfl,rfl⟩ <;> rfl
 pyHash:=λhv h=>by
  rcases gI hv with⟨i,t,rfl,rfl⟩|⟨x,t,rfl,rfl⟩
  . exact wpAny_pyHash_int h
  . exact wpAny_pyHash_str h
 eqBool:=λhu hv h=>by
  rcases gI hu with⟨i,t,rfl,rfl⟩|⟨x,t,rfl,rfl⟩
  . rcases gI hv with⟨j,u,rfl,rfl⟩|⟨y,u,rfl,rfl⟩
    . rw[aDK]at h;exact wpAny_eqBool_int h
    . rw[aDM]at h;exact SeqAt.EqAt.int_str i t y u _ _ _ _ h
  . rcases gI hv with⟨j,u,rfl,rfl⟩|⟨y,u,rfl,rfl⟩
    . rw[aDN]at h;exact SeqAt.EqAt.str_int x t j u _ _ _ _ h
    . rw[aDL]at h;exact wpAny_eqBool_str h
 «strs»:=λk x t v h=>by
  rcases gI h with⟨i,u,rfl,e⟩|⟨y,u,rfl,e⟩
  . exact nomatch e
  . injection e with e1 _
    subst e1;cases v <;> rfl
inductive V where
 |non|bl (b:Bool)|int (i:Int)|str (x:Str)|byt (b:Array UInt8)|flt (b:UInt64)|ref (a:Addr)|ty (n:String)
 deriving DecidableEq
def aI:V->aZN->Prop
 |.non,u=>u=Value.none
 |.bl b,u=>u=Value.bool b
 |.int i,u=>∃t,u=Value.int i t
 |.str x,u=>∃t,u=Value.str x t
 |.byt b,u=>∃t,u=Value.bytes b t
 |.flt b,u=>∃t,u=Value.float b t
 |.ref a,u=>u=Value.ref a
 |.ty n,u=>u=Value.type n
abbrev aJ:List V->List aZN->Prop:=Paired aI
theorem aJ.length{xs:List V}{us:List aZN}(r:aJ xs us):xs.length=us.length:=aTH r
theorem aJ.get:∀{xs:List V}{us:List aZN}{i:Nat}{x:V},aJ xs us->xs[i]? = some x->∃u,us[i]? = some u/\aI x u
 |_,_,_,_,.nil,e=>by simp at e
 |_,_,0,_,.cons r _,e=>by simp at e;subst e;exact⟨_,rfl,r⟩
 |_,_,i+1,x,.cons _ t,e=>by
  obtain⟨u,h1,h2⟩:=aJ.get (i:=i) (x:=x) t (by simpa using e)
  exact⟨u,by simpa using h1,h2⟩
theorem aJ.append:∀{xs ys:List V}{us ws:List aZN},aJ xs us->aJ ys ws->aJ (xs++ys) (us++ws)
 |_,_,_,_,.nil,s=>s
 |_,_,_,_,.cons r t,s=>.cons r (aJ.append t s)
theorem aJ.take:∀{xs:List V}{us:List aZN} (n:Nat),aJ xs us->aJ (xs.take n) (us.take n)
 |_,_,0,_=>.nil
 |_,_,_+1,.nil=>.nil
 |_,_,n+1,.cons r t=>.cons r (aJ.take n t)
theorem aJ.drop:∀{xs:List V}{us:List aZN} (n:Nat),aJ xs us->aJ (xs.drop n) (us.drop n)
 |_,_,0,r=>r
 |_,_,_+1,.nil=>.nil
 |_,_,n+1,.cons _ t=>aJ.drop n t
def c9:Option V->Option aZN->Prop
 |some v,some u=>aI v u
 |none,none=>True
 |_,_=>False
def KV{κ:Type}:List (κ×V)->List (κ×aZN)->Prop:=Paired λ(p:κ×V) (q:κ×aZN)=>p.1=q.1/\aI p.2 q.2
def kV:Key->V
 |.inl i=>.int i
 |.inr x=>.str x
inductive N where|i (n:Int)|s (x:Str)|t (xs:List N)
mutual
def gJ(w:aZQ):N->Int
 |.i n=>hashInt n
 |.s x=>hashStr w x
 |.t xs=>reduceHash (Builtin.Tuple.tupleHashOf (dW w xs))
def dW(w:aZQ):List N->List Int
 |[]=>[]
 |x::xs=>gJ w x::dW w xs
end
def u3(w:aZQ)(x:N×Addr×aZN):DictEntry:=⟨gJ w x.1,.ref x.2.1,x.2.2⟩
inductive HO where
 /-- a list -/
 |lst (xs:List V)
 /-- a tuple (never changes) -/
 |tup (xs:List V)
 /-- a dict whose keys are ints and fH;one whose keys are tuples of ints and fH (the empty one is both) -/
 |dK (kvs:List (Key×V))|dT (kvs:List (List Key×V))
 |dN (kvs:List (N×Addr×V))
 /-- a set of ints: its members,its size -/
 |set (S:Key->Bool) (n:Nat)
 /-- an instance of the class at C,its dict at dx,its attributes -/
 |ins (C dx:Addr) (fs:List (Str×V))
 /-- the dict of the instance at x -/
 |own (x:Addr)
 /-- the dict of an exception -/
 |xd (fs:List (Str×V))
 /-- a bound method,f of x -/
 |met (f x:Addr)
 /-- a range object lo,lo+1,.. below hi -/
 |rng (lo hi:Int)
 /-- a thing that is known to the object (the script;a dict while a loop walks it): read,never written while it is so -/
 |frz (o:Obj) (u:HO)
 /-- a code object's table -/
 |tbl (ps:Array aZN)
 /-- a code record of that name -/
 |crec (q:Str)
 /-- any other thing,by what is true of its one object (a def of one's own: SetO a S n:=HO.ext λh=>..) -/
 |ext (φ:Heap->Prop)
abbrev Hp:=Addr->Option HO
inductive HT where|tup (xs:List V)|crec (q:Str)
end L2
open L2
variable {α κ:Type}{xs ys ps zs loose aL tgN:List Str}{H H' F' F1 F0 H0:L2.Hp}{b it l dx tp I:Addr}{h h' base hp:Heap}{items its:Array aZN}{P prog:aZR}{w:aZQ}{u cdv:aZN}{e tg aV elt ke ea:Expr}{q y qual z:Str}{K:Fg}{aA pins':LAO}{s s':aZO}{t' i j k n ep:Nat}{ch fp:List Addr}{v:L2.V}{Q:Unit->aZO->Prop}{pos pos' p apos p2 cpos ap p1 q1 q':Pos}{st:Stmt}{c way:Int}{body sts:List Stmt}{vs:List aZN}{lo:Option Int}{mA mg:SOV}{kw:List (Str×aZN)}{env:Env}{fd:FuncData}{outer:List Env}{ks:List L2.N}{sc scope:Scope}{kvs:List (L2.N×Addr×L2.V)}{XP:(Str->Option aZN)->Heap->Prop}{YP:aZQ->Heap->Prop}{ifs elts:List Expr}{aG:List Nat}{neg:Bool}{ow:Array (Option Nat)}{fa:Str->Addr}
namespace L2
def HT.ho:HT->HO|.tup xs=>.tup xs|.crec q=>.crec q
noncomputable def upd(H:Hp)(a:Addr)(o:HO):Hp:=λb=>if b=a then some o else H b
def aT{a:Addr}{o:HO}:upd H a o a=some o:=by unfold upd;rw[if_pos rfl]
def aH{a:Addr}{o:HO}(h:b≠a):upd H a o b=H b:=by unfold upd;rw[if_neg h]
def bL{a:Addr}{o:HO}(h:H a=some o)(h':H b=none):a≠b:=by intro e;subst e;rw[h]at h';cases h'
def fM(h:Heap)(a:Addr)(items:Array aZN):Prop:=∃o,h.get? a=some o/\o.cls=.type "tuple" /\ o.dict=none/\∃n,o.data=.seq items n
def fM.isTup{a:Addr}(x:fM h a items):IsTup h a items:=by obtain⟨o,e,c,_,n,d⟩:=x;exact⟨o,e,c,n,d⟩
def fM.new(h:Heap)(items:Array aZN):fM (h.push { cls:=.type "tuple", data:=.seq items }) h.objs.size items:=⟨_,aTI _ rfl,rfl,rfl,_,rfl⟩
section
variable (P:aZR)(w:aZQ)
def bM(H:Hp)(h:Heap)(a:Addr):HO->Prop
 |.lst xs=>xs.length<=sizeLine/\∃(its:List aZN) (n:Nat),aJ xs its/\h.get? a=some { cls:=.type "list", data:=.seq its.toArray n }
 |.tup xs=>xs.length<=sizeLine/\∃its:List aZN,aJ xs its/\fM h a its.toArray
 |.dK kvs=>kvs.length<=sizeLine/\(a==sysModules)=false/\∃vs,KV kvs vs/\h.DictOf (jU P w) a vs
 | .dT kvs => kvs.length ≤ sizeLine ∧ (a == sysModules) = false ∧ ∃ xs : List (List Key × Addr × aZN),
     Paired (λ(p:List Key×V) (q:List Key×Addr×aZN)=>p.1=q.1/\H q.2.1=some (.tup (p.1.map kV))/\aI p.2 q.2.2) kvs xs /\
     ∃o es ep,h.get? a=some o/\o.ExactDict/\o.data=.dict es ep/\es.toList=xs.map (entryOfKey (tupleKind (jU P w)))/\(xs.map (·.1)).Nodup
 | .dN kvs => kvs.length ≤ sizeLine ∧ (a == sysModules) = false ∧ ∃ xs : List (N × Addr × aZN), Paired (fun (p : N × Addr × V) (q : N × Addr × aZN) => p.1 = q.1 ∧ p.2.1 = q.2.1 ∧ aI p.2.2 q.2.2) kvs xs ∧
     ∃o es ep,h.get? a=some o/\o.ExactDict/\o.data=.dict es ep/\es.toList=xs.map (u3 w)/\(xs.map (·.1)).Nodup
 |.set S n=>h.SetOf (jU P w) a S n
 | .ins C dx fs => H dx = some (.own a) ∧ fs.length ≤ 1000 ∧ dx ≠ a ∧ h.get? a = some (W.instObj C dx) ∧
     ∃mA,h.Ns1 dx mA/\(∀f,c9 (fs.lookup f) (mA f))/\PySem.Within mA (fs.map (·.1))
 |.own _=>∃o,h.get? a=some o
 |.xd fs=>∃mA,h.Ns1 a mA/\∀f,c9 (fs.lookup f) (mA f)
 |.rng lo hi=>∃t u v,h.get? a=some { cls:=.type "range", data:=.fields #[.int lo t,.int hi u,.int 1 v] }
 |.frz o u=>h.get? a=some o/\bM H h a u
 |.tbl ps=>∃(q:Str) (m:Array aZN),ps[0]? = some (.str q 0)/\h.get? a=some ⟨.none,none,.fields m,#[]⟩/\TriplesOk m.toList/\∀z cv,codeAmong z m.toList=some cv->∃c,cv=.ref c/\H c=some (.crec q)
 |.crec q=>∃oc vs t,h.get? a=some oc/\oc.data=.fields vs/\vs[1]? = some (.str q t)
 |.met f x=>h.get? a=some (W.methodObj (.ref f) (.ref x))
 |.ext φ=>φ h/\(∃o,h.get? a=some o)/\∀h1 h2:Heap,φ h1->(∀o,h1.get? a=some o->h2.get? a=some o)->φ h2
def HOk(H:Hp)(h:Heap):Prop:=∀a o,H a=some o->bM P w H h a o
end
section
variable {a:Addr}{o:HO}
theorem bM.lt(x:bM P w H h a o):a<h.objs.size:=by
 cases o with
 |lst xs=>obtain⟨_,_,_,_,e⟩:=x;exact aTJ e
 |tup xs=>obtain⟨_,_,_,p⟩:=x;exact p.isTup.lt
 |dK kvs=>obtain⟨_,_,_,_,o,_,_,e,_⟩:=x;exact aTJ e
 |dT kvs=>obtain⟨_,_,_,_,o,_,_,e,_⟩:=x;exact aTJ e
 |dN kvs=>obtain⟨_,_,_,_,o,_,_,e,_⟩:=x;exact aTJ e
 |set S n=>obtain⟨o,_,_,_,e,_⟩:=x;exact aTJ e
 |ins C dx fs=>obtain⟨_,_,_,e,_⟩:=x;exact aTJ e
 |own y=>obtain⟨_,e⟩:=x;exact aTJ e
 |xd fs=>obtain⟨_,⟨_,_,_,e,_⟩,_⟩:=x;exact aTJ e
 |rng lo hi=>obtain⟨_,_,_,e⟩:=x;exact aTJ e
 |frz ob u=>obtain⟨e,_⟩:=x;exact aTJ e
 |tbl ps=>obtain⟨_,_,_,e,_⟩:=x;exact aTJ e
 |crec q=>obtain⟨_,_,_,e,_⟩:=x;exact aTJ e
 |met f y=>exact aTJ (show h.get? a=some _ from x)
 |ext φ=>obtain⟨_,⟨_,e⟩,_⟩:=x;exact aTJ e
theorem Paired.mapP{α β:Type}{F G:α->β->Prop}:∀{l₁:List α}{l₂:List β},Paired F l₁ l₂->(∀a b,F a b->G a b)->Paired G l₁ l₂
 |_,_,.nil,_=>.nil
 |_,_,.cons r t,f=>.cons (f _ _ r) (Paired.mapP t f)
def bM.stay(x:bM P w H h a o)(k:∀b u,(b=a\/H b=some (.own a))->h.get? b=some u->h'.get? b=some u)(ho:∀b,H b=some (.own a)->H' b=some (.own a))(ht:∀(b:Addr) (u:HT),H b=some u.ho->H' b=some u.ho):bM P w H' h' a o:=by
 induction o with
 |lst xs=>obtain⟨z,its,n,r,e⟩:=x;exact⟨z,its,n,r,k _ _ (.inl rfl) e⟩
 |tup xs=>obtain⟨z,its,r,ob,e,c⟩:=x;exact⟨z,its,r,ob,k _ _ (.inl rfl) e,c⟩
 |dK kvs=>obtain⟨z,y,vs,r,ob,es,ep,e,c⟩:=x;exact⟨z,y,vs,r,ob,es,ep,k _ _ (.inl rfl) e,c⟩
 |dT kvs=>obtain⟨z,y,xs,r,ob,es,ep,e,c⟩:=x;exact⟨z,y,xs,Paired.mapP r λp q z=>⟨z.1,ht _ (.tup _) z.2.1,z.2.2⟩,ob,es,ep,k _ _ (.inl rfl) e,c⟩
 |dN kvs=>obtain⟨z,y,xs,r,ob,es,ep,e,c⟩:=x;exact⟨z,y,xs,r,ob,es,ep,k _ _ (.inl rfl) e,c⟩
 |set S n=>obtain⟨ob,es,ep,t,e,c⟩:=x;exact⟨ob,es,ep,t,k _ _ (.inl rfl) e,c⟩
 |ins C dx fs=>obtain⟨d,z,ne,e,mA,⟨od,es,ep,e2,c⟩,r⟩:=x;exact⟨ho _ d,z,ne,k _ _ (.inl rfl) e,mA,⟨od,es,ep,k _ _ (.inr d) e2,c⟩,r⟩
 |own y=>obtain⟨ob,e⟩:=x;exact⟨ob,k _ _ (.inl rfl) e⟩
 |xd fs=>obtain⟨mA,⟨od,es,ep,e,c⟩,r⟩:=x;exact⟨mA,⟨od,es,ep,k _ _ (.inl rfl) e,c⟩,r⟩
 |rng lo hi=>obtain⟨t,u,v,e⟩:=x;exact⟨t,u,v,k _ _ (.inl rfl) e⟩
 |frz ob u ih=>obtain⟨e,q⟩:=x;exact⟨k _ _ (.inl rfl) e,ih q⟩
 |tbl ps =>
  obtain⟨q,m,e1,e2,e3,e4⟩:=x;exact⟨q,m,e1,k _ _ (.inl rfl) e2,e3,λz cv f=>by
   obtain⟨c,g1,g2⟩:=e4 z cv f;exact⟨c,g1,ht _ (.crec q) g2⟩⟩
 |crec q=>obtain⟨oc,vs,t,e,r⟩:=x;exact⟨oc,vs,t,k _ _ (.inl rfl) e,r⟩
 |met f y=>have e:h.get? a=some (W.methodObj (.ref f) (.ref y)):=x;show h'.get? a=some (W.methodObj (.ref f) (.ref y));exact k a _ (.inl rfl) e
 |ext φ=>obtain⟨p,⟨o,e⟩,st⟩:=x;exact⟨st _ _ p λo q=>k _ _ (.inl rfl) q,⟨o,k _ _ (.inl rfl) e⟩,st⟩
theorem HOk.lt(x:HOk P w H h)(e:H a=some o):a<h.objs.size:=(x a o e).lt
def HOk.fresh(x:HOk P w H h)(e:h.objs.size<=a):H a=none:=by
 cases q:H a with
 |none=>rfl
 |some u=>exact absurd (aTK (x.lt q) e) (aTL _)
def HOk.kept(x:HOk P w H h)(k:∀b u,h.get? b=some u->h'.get? b=some u):HOk P w H h':=λa o e =>
 (x a o e).stay (λb u _ q=>k b u q) (λ_ q=>q) λ_ _ q=>q
def HOk.laid(x:HOk P w H h)(k:∀b u,h.get? b=some u->h'.get? b=some u)(hp:h.objs.size<=a)(new:bM P w (upd H a o) h' a o):HOk P w (upd H a o) h':=λb u e=>by
 have hn:=x.fresh hp;by_cases hb:b=a
 . subst hb;rw[aT]at e;cases e;exact new
 . rw[aH hb]at e;exact(x b u e).stay (λc v _ q=>k c v q) (λc q=>by rw[aH (bL q hn)];exact q) λc xs q=>by rw[aH (bL q hn)];exact q
end
def Rd(H:Hp)(a:Addr)(u:HO):Prop:=H a=some u\/∃o,H a=some (.frz o u)
def Rd.ok{a:Addr}{u:HO}(r:Rd H a u)(x:HOk P w H h):bM P w H h a u:=by
 rcases r with r|⟨o,r⟩
 . exact x a u r
 . obtain⟨_,q⟩:=x a _ r;exact q
def Mut:Option HO->Prop
 |some (.lst _)=>True
 |some (.dK _)=>True
 |some (.dT _)=>True
 |some (.dN _)=>True
 |some (.set _ _)=>True
 |some (.ins _ _ _)=>True
 |some (.ext _)=>True
 |_=>False
section
variable {x e:Addr}{o':HO}
def HOk.write(ok:HOk P w H h)(mu:Mut (H x))(he:e=x\/H e=some (.own x))(k:∀b u,b≠e->h.get? b=some u->h'.get? b=some u)(heo:∃u,h'.get? e=some u)(new:bM P w (upd H x o') h' x o'):HOk P w (upd H x o') h':=λb u q=>by
 have nown:∀c y,H c=some (.own y)->c≠x:=λc y r z=>by subst z;rw[r]at mu;exact mu
 have ntup:∀(c:Addr) (u:HT),H c=some u.ho->c≠x:=λc u r z=>by subst z;rw[r]at mu;cases u <;> exact mu
 by_cases hb:b=x
 . subst hb;rw[aT]at q;cases q;exact new
 . rw[aH hb]at q;by_cases hbe:b=e
   . have q':H b=some (.own x):=by
       rcases he with z|z
       . exact absurd (hbe.trans z) hb
       . rw[hbe];exact z
     rw[q]at q';cases q';obtain⟨v,hv⟩:=heo;exact⟨v,by rw[hbe];exact hv⟩
   . refine(ok b u q).stay (λc v hc r=>k c v ?_ r) (λc r=>by rw[aH (nown c b r)];exact r) λc xs r=>by rw[aH (ntup c xs r)];exact r
     rcases hc with rfl|hc
     . exact hbe
     . rintro rfl;rcases he with z|z
       . exact nown c b hc z
       . rw[hc]at z;cases z;exact hb rfl
end
structure Un(fs ex:List Addr)(H H':Hp)(h h':Heap):Prop where
 keep:∀b o,h.get? b=some o->H b=none->b∉fs->b∉ex->h'.get? b=some o
 slot:∀b o,h.get? b=some o->H b=none->b∈fs->b∉ex->∃sl,h'.get? b=some {o with slots:=sl}
 free:∀b o,h.get? b=some o->H b=none->b∉ex->H' b=none
 there:∀b o,h.get? b=some o->b∉ex->∃o',h'.get? b=some o'
 tups:∀b xs,H b=some (.tup xs)->H' b=some (.tup xs)
 frzs:∀b o u,H b=some (.frz o u)->H' b=some (.frz o u)
 tbls:∀b ps,H b=some (.tbl ps)->∃more,H' b=some (.tbl (ps++more))
section
variable {fs fs' ex ex':List Addr}{H1 H2:Hp}{h1 h2:Heap}{a x e:Addr}{o:HO}
def Un.any(u:Un fs ex H H1 h h1){ob:Obj}(q:h.get? b=some ob)(n:H b=none)(hx:b∉ex):∃sl,h1.get? b=some {ob with slots:=sl}:=by
 by_cases hb:b∈fs
 . exact u.slot b ob q n hb hx
 . exact⟨ob.slots,u.keep b ob q n hb hx⟩
def Un.kept(k:∀b u,h.get? b=some u->h'.get? b=some u):Un fs ex H H h h' :=
 ⟨λb ob q _ _ _=>k b ob q,λb ob q _ _ _=>⟨ob.slots,k b ob q⟩,λ_ _ _ n _=>n,λb ob q _=>⟨ob,k b ob q⟩,λ_ _ q=>q,λ_ _ _ q=>q,λ_ ps q=>⟨#[],by rw[q];simp⟩⟩
def Un.refl:Un fs ex H H h h:=Un.kept λ_ _ q=>q
def Un.laid(k:∀b u,h.get? b=some u->h'.get? b=some u)(hp:h.objs.size<=a)(hn:H a=none):Un fs ex H (upd H a o) h h' where
 keep:=λb u q _ _ _=>k b u q
 slot:=λb u q _ _ _=>⟨u.slots,k b u q⟩
 free:=λb u q n _=>by rw[aH (aTM (aTK (aTJ q) hp))];exact n
 there:=λb u q _=>⟨u,k b u q⟩
 tups:=λb xs q=>by rw[aH (bL q hn)];exact q
 frzs:=λb u xs q=>by rw[aH (bL q hn)];exact q
 tbls:=λb ps q=>⟨#[],by rw[aH (bL q hn),q];simp⟩
def Un.write(mu:Mut (H x))(he:e=x\/H e=some (.own x))(k:∀b u,b≠e->h.get? b=some u->h'.get? b=some u)(heo:∃u,h'.get? e=some u):Un fs ex H (upd H x o) h h':=by
 have hx:∀b,H b=none->b≠x:=λb n z=>by subst z;rw[n]at mu;exact mu
 have hb:∀b,H b=none->b≠e:=λb n z=>by
  subst z;rcases he with r|r
  . exact hx b n r
  . rw[n]at r;cases r
 have hm:∀b u,H b=some u -> ¬ Mut (some u)->b≠x:=λb u q nm z=>by subst z;rw[q]at mu;exact nm mu
 refine⟨λb u q n _ _=>k b u (hb b n) q,λb u q n _ _=>⟨u.slots,k b u (hb b n) q⟩,λb u q n _=>by rw[aH (hx b n)];exact n,λb u q _=>?_,
  λb xs q=>by rw[aH (hm b _ q λz=>z)];exact q,λb u xs q=>by rw[aH (hm b _ q λz=>z)];exact q,λb ps q=>⟨#[],by rw[aH (hm b _ q λz=>z),q];simp⟩⟩
 by_cases hbe:b=e
 . subst hbe;exact heo
 . exact⟨u,k b u hbe q⟩
end
def trk(h:Heap)(H:Hp):List Addr:=(List.range h.objs.size).filter λa=>(H a).isSome
def gK(h:Heap)(H:Hp):Heap:=W.hideAll h (trk h H)
def aDO(h:Heap)(H:Hp):(gK h H).objs.size=h.objs.size:=W.hideAll_size _ _
def qL{o:Obj}(e:h.get? b=some o)(n:H b=none):(gK h H).get? b=some o :=
 W.hideAll_get _ e λhm=>by have q:(H b).isSome=true:=(aTN.mp hm).2;rw[n]at q;simp at q
def aDP{o:Obj}(e:(gK h H).get? b=some o):h.get? b=some o/\H b=none:=by
 have e':h.get? b=some o:=W.of_hideAll (trk h H) e;refine⟨e',?_⟩;cases q:H b with
 |none=>rfl
 |some x =>
  have hm:b∈trk h H:=aTN.mpr ⟨aTO.mpr (aTJ e'),by simp[q]⟩
  have z:(gK h H).get? b=none:=W.hideAll_none (trk h H) hm;rw[z]at e;cases e
def aDQ(g h:Heap)(L:Addr):LAO:=(List.range h.objs.size).filterMap λa=>if a=L\/(g.get? a).isSome=true then none else(h.get? a).map λo=>(a,o)
def rest(g h:Heap)(L d:Addr):LAO:=(aDQ g h L).filter λp=>decide (p.1≠d)
structure Mod(K:Fg)(mg:SOV)(base:Heap):Prop where
 kin:K.In base
 glob:base.Ns mainGlobals mg
 blt:∃mb,base.Ns builtinsNs mb/\∀x:Str,x ≠ "__name__" -> mb x=bootBuiltins x
 nolimit:base.NoLimit
 bmod:∃bm ob,mg "__builtins__" = some (.ref bm)/\bm≠builtinsNs/\base.get? bm=some ob/\ob.cls=.type "module" /\ ob.dict=some builtinsNs/\ob.data=.plain
noncomputable def lA(q:Str):Str:=if q="valued" then "worth" else if q="lifted" then "lift" else "<lambda>"
def CdT(base:Heap)(H:Hp)(q:Str)(cd:aZN):Prop:=∃c T ps,cd=.ref c/\W.CodeHd base c T/\H T=some (.tbl ps)/\ps[0]? = some (.str (q ++ ".<locals>." ++ lA q) 0)
def CdT.mono{cd:aZN}(x:CdT base H q cd)(t:∀b ps,H b=some (.tbl ps)->∃more,H' b=some (.tbl (ps++more))):CdT base H' q cd:=by
 obtain⟨c,T,ps,e1,e2,e3,e4⟩:=x;obtain⟨m,e5⟩:=t T ps e3;refine⟨c,T,_,e1,e2,e5,?_⟩;rw[Array.getElem?_append_left (by have:=(aTP.mp e4).1;exact this)]
 exact e4
def jV(K:Fg)(base:Heap)(H:Hp):Prop:=∀cd q,W.codeIn K cd q=true->CdT base H q cd
theorem jV.mono(x:jV K base H)(t:∀b ps,H b=some (.tbl ps)->∃more,H' b=some (.tbl (ps++more))):jV K base H':=λcd q e=>(x cd q e).mono t
structure Cx where
 prog:aZR
 w:aZQ
 K:Fg
 mg:SOV
 base:Heap
 A:aZP
 N:List Str
 s₀:aZO
 H₀:Hp
 env:Env
 outer:List Env
 stack:List Env
 ex:List Addr
 fn:Str->Bool
 calm:Bool
 pn:LAO
 xe:VSP
def frs(l:List Env):List Addr:=l.filterMap (·.frame)
end L2
variable {X:L2.Cx}
namespace L2
abbrev Cx.fs(X:Cx):List Addr:=frs X.outer
def Vis(sc:Scope)(x:Str):Prop:=sc.names.lookup x=some .local\/sc.names.lookup x=some .cell\/sc.names.lookup x=some .free
def Loc(sc:Scope)(x:Str):Prop:=sc.names.lookup x=some .local\/sc.names.lookup x=some .cell
def Look(env:Env)(h:Heap)(m:SOV)(x:Str)(u:aZN):Prop :=
 (env.kindOf x=some .local/\m x=some u)\/((env.kindOf x=some .cell\/env.kindOf x=some .free)/\∃c,env.cells.lookup x=some c/\h.IsCell c (some u))
structure Cx.Ok(X:Cx):Prop where
 mod:Mod X.K X.mg X.base
 kind:X.env.scope.kind=.function
 glob:X.env.globals=mainGlobals
 blt:X.env.builtins=builtinsNs
 above:X.s₀.heap.objs.size<=X.env.locals
 inj:∀x y c,X.env.cells.lookup x=some c->X.env.cells.lookup y=some c->x=y
 has:∀x,(X.env.kindOf x=some .cell\/X.env.kindOf x=some .free)->∃c,X.env.cells.lookup x=some c
 cab:∀x c,X.fn x=true->X.env.cells.lookup x=some c->X.s₀.heap.objs.size<=c
 hd:X.calm=true->X.A.handled=none
 frames:X.A.frames=some X.stack
 stk:X.stack=X.outer\/(X.stack=X.env::X.outer/\X.env.frame=some X.env.locals)
 exf:∀b∈X.ex,b≠X.env.locals/\∀x c,X.env.cells.lookup x=some c->c≠b
 bs:∀b o,X.base.get? b=some o->X.s₀.heap.get? b=some o/\X.H₀ b=none
 bsz:X.base.objs.size<=X.s₀.heap.objs.size
 noex:∀b o,X.base.get? b=some o->b∉X.ex
 exfs:∀b∈X.ex,b∉X.fs
 funs:X.s₀.heap.FunFrames X.base X.outer
 frf:∀b∈X.fs,X.H₀ b=none
 tabs:jV X.K X.base X.H₀
structure Inv(X:Cx)(aA:LAO)(σ:List (Option V))(H:Hp)(s:aZO):Prop where
 ok:X.Ok
 os:s.os=X.s₀.os
 bare:AllBare s.gens
 base:Un X.fs X.ex X.H₀ H X.s₀.heap s.heap
 loc:∃m,s.heap.Ns X.env.locals m/\∀(i:Nat) (x:Str) (v:V),X.N[i]? = some x->σ[i]? = some (some v)->Vis X.env.scope x->∃u,aI v u/\Look X.env s.heap m x u
 cell:∀x c,X.env.cells.lookup x=some c->∃v,s.heap.IsCell c v
 free:H X.env.locals=none
 freeC:∀x c,X.env.cells.lookup x=some c->H c=none
 pin:∀p∈X.pn++aA,s.heap.get? p.1=some p.2/\H p.1=none/\p.1≠X.env.locals/\p.1∉X.fs/\∀v,p.2.data ≠ .cell v
 hok:HOk X.prog X.w H s.heap
 len:σ.length=X.N.length
section
variable {σ:List (Option V)}
def Cx.Ok.nofr(ok:X.Ok){o:Obj}(e:X.base.get? b=some o):b∉X.fs:=λhb=>by have:=(ok.funs.mem hb).1;rw[e]at this;cases this
theorem Inv.bs(I:Inv X aA σ H s):∀b o,X.base.get? b=some o->s.heap.get? b=some o/\H b=none:=λb o e =>
 ⟨I.base.keep b o (I.ok.bs b o e).1 (I.ok.bs b o e).2 (I.ok.nofr e) (I.ok.noex b o e),I.base.free b o (I.ok.bs b o e).1 (I.ok.bs b o e).2 (I.ok.noex b o e)⟩
def Inv.bk(I:Inv X aA σ H s):∀b o,X.base.get? b=some o->s.heap.get? b=some o:=λb o e=>(I.bs b o e).1
theorem Inv.mod(I:Inv X aA σ H s):Mod X.K X.mg X.base:=I.ok.mod
def Inv.kIn(I:Inv X aA σ H s):X.K.In s.heap:=I.ok.mod.kin.keeps I.bk
theorem Inv.lt(I:Inv X aA σ H s):X.env.locals<s.heap.objs.size:=let⟨_,hn,_⟩:=I.loc;hn.lt
def Inv.sz(I:Inv X aA σ H s):X.s₀.heap.objs.size<=s.heap.objs.size:=aTQ I.ok.above (aTR I.lt)
def Inv.nofs(I:Inv X aA σ H s){a:Addr}(h:s.heap.objs.size<=a):a∉X.fs:=λhb=>by obtain⟨_,o,ho,_⟩:=I.ok.funs.mem hb;exact absurd (aTK (aTJ ho) (aTQ I.sz h)) (aTL _)
def Inv.cne(I:Inv X aA σ H s):∀x c,X.env.cells.lookup x=some c->c≠X.env.locals:=λx c e z=>by obtain⟨v,o,ho,hd⟩:=I.cell x c e;obtain⟨m,⟨o',es,ep,ho',hd',_⟩,_⟩:=I.loc;rw[z,ho']at ho;cases ho;rw[hd']at hd;cases hd
theorem Inv.funs(I:Inv X aA σ H s):s.heap.FunFrames X.base X.outer:=by
 have all:∀(l:List Env),(∀b∈frs l,b∈X.fs)->X.s₀.heap.FunFrames X.base l->s.heap.FunFrames X.base l:=by
  intro l
  induction l with
  |nil=>intro _ _;trivial
  |cons env r ih =>
   intro hs hl;obtain⟨hk,⟨L,o,hf,hn,ho,hd⟩,hr⟩:=hl;have hL:L∈X.fs:=hs L (by unfold frs;rw[aTS,hf];exact mcs)
   obtain⟨sl,e⟩:=I.base.slot L o ho (I.ok.frf L hL) hL λz=>I.ok.exfs L z hL;exact⟨hk,⟨L,_,hf,hn,e,hd⟩,ih (λb hb=>hs b (by unfold frs;rw[aTS,hf];exact mcm hb)) hr⟩
 exact all X.outer (λ_ hb=>hb) I.ok.funs
theorem Inv.stack(I:Inv X aA σ H s):s.heap.FunFrames X.base X.stack:=by
 rcases I.ok.stk with e|⟨e,hf⟩
 . rw[e];exact I.funs
 . rw[e];obtain⟨m,hn,_⟩:=I.loc;refine .cons (by rw[I.ok.kind];decide) hf hn ?_ I.funs
   exact Heap.get?_none_of_le (aTQ I.ok.bsz I.ok.above)
def Inv.stkSub(I:Inv X aA σ H s):∀b∈frs X.stack,b∈X.env.locals::X.fs:=λb hb=>by
 rcases I.ok.stk with e|⟨e,hf⟩
 . rw[e]at hb;exact mcm hb
 . rw[e]at hb;unfold frs at hb;rw[aTS,hf]at hb;exact hb
def Inv.stkFree(I:Inv X aA σ H s):∀b∈frs X.stack,H b=none:=λb hb=>by
 rcases aTT.mp (I.stkSub b hb)with e|hb
 . rw[e];exact I.free
 . obtain⟨_,o,ho,_⟩:=I.ok.funs.mem hb;exact I.base.free b o ho (I.ok.frf b hb) λz=>I.ok.exfs b z hb
def Inv.step{g':Array GenState}{d':Drawn}(I:Inv X aA σ H s)(hch:∀b∈ch,(b∈X.ex\/X.s₀.heap.objs.size<=b)/\b≠X.env.locals/\(∀x c,X.env.cells.lookup x=some c->c≠b)/\∀p∈X.pn++aA,p.1≠b)(keep:∀b o,b≠X.env.locals->b∉X.fs->b∉ch->s.heap.get? b=some o->H b=none->h'.get? b=some o)(slot:∀b o,b≠X.env.locals->b∈X.fs->b∉ch->s.heap.get? b=some o->H b=none->∃sl,h'.get? b=some {o with slots:=sl})(free:∀b o,b∉ch->s.heap.get? b=some o->H b=none->H' b=none)(there:∀b o,b∉ch->s.heap.get? b=some o->∃o',h'.get? b=some o')(tups:∀b xs,H b=some (.tup xs)->H' b=some (.tup xs))(frzs:∀b o u,H b=some (.frz o u)->H' b=some (.frz o u))(tbls:∀b ps,H b=some (.tbl ps)->∃more,H' b=some (.tbl (ps++more)))(ns:∀m,s.heap.Ns X.env.locals m->h'.Ns X.env.locals m)(hok:HOk X.prog X.w H' h')(hg:AllBare g'):Inv X aA σ H' {s with heap:=h',gens:=g',drawn:=d',toks:=t'}:=by
 have neL:∀b o,X.s₀.heap.get? b=some o->b≠X.env.locals:=λb o e=>aTM (aTK (aTJ e) I.ok.above);have neC:∀b o,X.s₀.heap.get? b=some o->b∉X.ex->b∉ch:=λb o e hx hb=>by
  rcases(hch b hb).1 with z|z
  . exact hx z
  . exact absurd (aTK (aTJ e) z) (aTL _)
 have cellK:∀x c,X.env.cells.lookup x=some c->∀v,s.heap.IsCell c v->h'.IsCell c v:=λx c e v ⟨o,ho,hd⟩=>by
  have nch:c∉ch:=λz=>(hch c z).2.2.1 x c e rfl;by_cases hc:c∈X.fs
  . obtain⟨sl,q⟩:=slot c o (I.cne x c e) hc nch ho (I.freeC x c e);exact⟨_,q,hd⟩
  . exact⟨o,keep c o (I.cne x c e) hc nch ho (I.freeC x c e),hd⟩
 refine⟨I.ok,I.os,hg,⟨λb o e n hb hx=>?_,λb o e n hb hx=>?_,λb o e n hx=>?_,λb o e hx=>?_,λb xs e=>tups b xs (I.base.tups b xs e),λb o xs e=>frzs b o xs (I.base.frzs b o xs e),λb ps e=>?_⟩,?_,λx c e=>?_,?_,λx c e=>?_,λp hp=>?_,hok,I.len⟩
 . exact keep b o (neL b o e) hb (neC b o e hx) (I.base.keep b o e n hb hx) (I.base.free b o e n hx)
 . obtain⟨sl,e1⟩:=I.base.slot b o e n hb hx;obtain⟨sl',e2⟩:=slot b _ (neL b o e) hb (neC b o e hx) e1 (I.base.free b o e n hx);exact⟨sl',e2⟩
 . obtain⟨o',e1⟩:=I.base.there b o e hx;exact free b o' (neC b o e hx) e1 (I.base.free b o e n hx)
 . obtain⟨o',e1⟩:=I.base.there b o e hx;exact there b o' (neC b o e hx) e1
 . obtain⟨m1,e1⟩:=I.base.tbls b ps e;obtain⟨m2,e2⟩:=tbls b _ e1;exact⟨m1++m2,by rw[e2,Array.append_assoc]⟩
 . obtain⟨m,hn,hl⟩:=I.loc;refine⟨m,ns m hn,λi x v e1 e2 e3=>?_⟩;obtain⟨u,r,l⟩:=hl i x v e1 e2 e3;refine⟨u,r,?_⟩;rcases l with l|⟨k,c,e,z⟩
   . exact .inl l
   . exact .inr ⟨k,c,e,cellK x c e _ z⟩
 . obtain⟨v,z⟩:=I.cell x c e;exact⟨v,cellK x c e v z⟩
 . obtain⟨m,⟨o,_,_,ho,_⟩,_⟩:=I.loc;exact free _ o (λz=>(hch _ z).2.1 rfl) ho I.free
 . obtain⟨v,o,ho,hd⟩:=I.cell x c e;exact free c o (λz=>(hch c z).2.2.1 x c e rfl) ho (I.freeC x c e)
 . obtain⟨e,n,ne,nf,d⟩:=I.pin p hp;have nch:p.1∉ch:=λz=>(hch p.1 z).2.2.2 p hp rfl;exact⟨keep p.1 p.2 ne nf nch e n,free p.1 p.2 nch e n,ne,nf,d⟩
def Inv.un(I:Inv X aA σ H s)(u:Un X.fs [] H H' s.heap h')(hok:HOk X.prog X.w H' h'):Inv X aA σ H' {s with heap:=h',toks:=t'}:=by
 obtain⟨m,⟨o,es,ep,ho,r⟩,_⟩:=id I.loc;obtain⟨sl,hL⟩:=u.any ho I.free (by simp)
 exact I.step (g':=s.gens) (d':=s.drawn) (ch:=[]) (λ_ z=>nomatch z) (λb o _ hb _ e n=>u.keep b o e n hb (by simp)) (λb o _ hb _ e n=>u.slot b o e n hb (by simp)) (λb o _ e n=>u.free b o e n (by simp)) (λb o _ e=>u.there b o e (by simp)) u.tups u.frzs u.tbls (λm' hm=>by
  obtain⟨o',es',ep',ho',r'⟩:=hm;rw[ho]at ho';cases ho';exact⟨_,es',ep',hL,r'⟩) hok I.bare
def Inv.call{g':Array GenState}{d':Drawn}(I:Inv X aA σ H s)(u:Un (frs X.stack) ch H H' s.heap h')(hok:HOk X.prog X.w H' h')(hg:AllBare g')(hch:∀b∈ch,(b∈X.ex\/X.s₀.heap.objs.size<=b)/\b≠X.env.locals/\(∀x c,X.env.cells.lookup x=some c->c≠b)/\∀p∈X.pn++aA,p.1≠b):Inv X aA σ H' {s with heap:=h',gens:=g',drawn:=d',toks:=t'}:=by
 obtain⟨m,⟨o,es,ep,ho,r⟩,_⟩:=id I.loc;obtain⟨sl,hL⟩:=u.any ho I.free λz=>(hch _ z).2.1 rfl;exact I.step (ch:=ch) hch (λb o hL hb hc e n=>u.keep b o e n (λz=>(aTT.mp (I.stkSub b z)).elim hL hb) hc) (λb o _ _ hc e n=>u.any e n hc) (λb o hc e n=>u.free b o e n hc) (λb o hc e=>u.there b o e hc) u.tups u.frzs u.tbls (λm' hm=>by
  obtain⟨o',es',ep',ho',r'⟩:=hm;rw[ho]at ho';cases ho';exact⟨_,es',ep',hL,r'⟩) hok hg
def Inv.turned(I:Inv X aA σ H s)(k:∀b o,b≠it->s.heap.get? b=some o->h'.get? b=some o)(hn:H it=none)(hL:it≠X.env.locals)(h1:it∈X.ex\/X.s₀.heap.objs.size<=it)(h2:∀x c,X.env.cells.lookup x=some c->c≠it)(h3:∀p∈X.pn++aA,p.1≠it):Inv X aA σ H {s with heap:=h',toks:=t'}:=by
 have nit:∀b u,H b=some u->b≠it:=λb u e z=>by rw[z,hn]at e;cases e
 refine I.step (g':=s.gens) (d':=s.drawn) (ch:=[it]) (λb hb=>?_) (λb o _ _ hc e _=>k b o (λz=>hc (by simp[z])) e) (λb o _ _ hc e _=>⟨o.slots,k b o (λz=>hc (by simp[z])) e⟩) (λ_ _ _ _ n=>n)
  (λb o hc e=>⟨o,k b o (λz=>hc (by simp[z])) e⟩) (λ_ _ e=>e) (λ_ _ _ e=>e) (λb ps e=>⟨#[],by rw[e];simp⟩) (λm hm=>?_) (λb u e=>?_) I.bare
 . have e:b=it:=by simpa using hb
   subst e;exact⟨h1,hL,h2,h3⟩
 . obtain⟨o,es,ep,ho,r⟩:=hm;exact⟨o,es,ep,k _ o (Ne.symm hL) ho,r⟩
 . refine(I.hok b u e).stay (λc v hc q=>k c v ?_ q) (λ_ q=>q) λ_ _ q=>q;rcases hc with z|z
   . rw[z];exact nit b u e
   . exact nit c _ z
def Inv.tok(I:Inv X aA σ H s)(t:Nat):Inv X aA σ H {s with toks:=t}:=I.un (h':=s.heap) (t':=t) Un.refl I.hok
theorem Inv.kept(I:Inv X aA σ H s)(k:∀b u,s.heap.get? b=some u->h'.get? b=some u):Inv X aA σ H {s with heap:=h',toks:=t'}:=I.un (Un.kept k) (I.hok.kept k)
theorem Inv.laid{a:Addr}{o:HO}(I:Inv X aA σ H s)(k:∀b u,s.heap.get? b=some u->h'.get? b=some u)(hp:s.heap.objs.size<=a)(new:bM X.prog X.w (upd H a o) h' a o):Inv X aA σ (upd H a o) {s with heap:=h',toks:=t'}:=I.un (Un.laid k hp (I.hok.fresh hp)) (I.hok.laid k hp new)
theorem Inv.write{x e:Addr}{o:HO}(I:Inv X aA σ H s)(mu:Mut (H x))(he:e=x\/H e=some (.own x))(k:∀b u,b≠e->s.heap.get? b=some u->h'.get? b=some u)(heo:∃u,h'.get? e=some u)(new:bM X.prog X.w (upd H x o) h' x o):Inv X aA σ (upd H x o) {s with heap:=h',toks:=t'}:=I.un (Un.write mu he k heo) (I.hok.write mu he k heo new)
def Inv.weak{σ':List (Option V)}(I:Inv X aA σ H s)(hl:σ'.length=σ.length)(w:∀(i:Nat) v,σ'[i]? = some (some v)->σ[i]? = some (some v)):Inv X aA σ' H s :=
 ⟨I.ok,I.os,I.bare,I.base,let⟨m,hn,hl'⟩:=I.loc;⟨m,hn,λi x v e1 e2 e3=>hl' i x v e1 (w i v e2) e3⟩,I.cell,I.free,I.freeC,I.pin,I.hok,hl.trans I.len⟩
def Inv.pins_of(I:Inv X aA σ H s)(h:∀p∈pins',s.heap.get? p.1=some p.2/\H p.1=none/\p.1≠X.env.locals/\p.1∉X.fs/\∀v,p.2.data ≠ .cell v):Inv X pins' σ H s :=
 ⟨I.ok,I.os,I.bare,I.base,I.loc,I.cell,I.free,I.freeC,λp hp=>(aTU.mp hp).elim (λz=>I.pin p (aTV _ z)) (h p),I.hok,I.len⟩
def u4{N:List Str}(hN:N.Nodup){x:Str}(a:N[i]? = some x)(b:N[j]? = some x):i=j:=by obtain⟨h1,e1⟩:=aTW.mp a;obtain⟨h2,e2⟩:=aTW.mp b;exact(List.getElem_inj hN).mp (e1.trans e2.symm)
def u5{M:Model}{A:aZP}{E:VSP}{x:Str}(I:Inv X aA σ H s)(hN:X.N.Nodup)(hi:X.N[i]? = some x)(hx:Loc X.env.scope x)(r:aI v u)(h:∀s',Inv X aA (σ.set i (some v)) H s'->(∃a,Heap.SameBut a s.heap s'.heap/\(a=X.env.locals\/X.env.cells.lookup x=some a))->Q () s')(hf:X.fn x=true\/X.env.scope.names.lookup x=some .local:=by first|exact .inl rfl|exact .inr rfl|assumption):wpAny M A (storeName X.env x u) Q E s:=by
 obtain⟨m,hn,hl⟩:=id I.loc;have hcls:(X.env.scope.kind == .class||(X.env.scope.kind == .module&&X.env.locals != X.env.globals))=false:=by rw[I.ok.kind];rfl
 have hiσ:i<σ.length:=by rw[I.len];exact(aTW.mp hi).1
 have cne:=I.cne;have tracked:∀{a:Addr}{h':Heap},(∃o,s.heap.get? a=some o/\H a=none)->Heap.SameBut a s.heap h'->HOk X.prog X.w H h':=λ{a h'} ha hs b ob e=>by
  obtain⟨_,_,dU⟩:=ha;refine(I.hok b ob e).stay (λc w' hc q=>(hs.2 c ?_).trans q) (λ_ q=>q) λ_ _ q=>q;rintro rfl;rcases hc with rfl|hc
  . rw[dU]at e;cases e
  . rw[dU]at hc;cases hc
 rcases hx with hk|hk
 . refine wpAny_storeName_local hk hn (λh' hn' hs=>?_) hcls;obtain⟨oL,_,_,hoL,_⟩:=id hn;refine h _ ⟨I.ok,I.os,I.bare,⟨λb o e n hb hx=>?_,λb o e n hb hx=>?_,I.base.free,λb o e hx=>?_,I.base.tups,I.base.frzs,I.base.tbls⟩,⟨_,hn',λj y v' e1 e2 e3=>?_⟩,λy c e=>?_,I.free,I.freeC,λp hp=>?_,tracked ⟨oL,hoL,I.free⟩ hs,by simpa using I.len⟩ ⟨_,hs,.inl rfl⟩
   . exact(hs.2 b (aTM (aTK (aTJ e) I.ok.above))).trans (I.base.keep b o e n hb hx)
   . obtain⟨sl,e1⟩:=I.base.slot b o e n hb hx;exact⟨sl,(hs.2 b (aTM (aTK (aTJ e) I.ok.above))).trans e1⟩
   . obtain⟨o',e1⟩:=I.base.there b o e hx;exact⟨o',(hs.2 b (aTM (aTK (aTJ e) I.ok.above))).trans e1⟩
   . by_cases hj:j=i
     . subst hj;rw[hi]at e1;cases e1;rw[aTX hiσ]at e2;cases e2;exact⟨u,r,.inl ⟨hk,by simp⟩⟩
     . rw[aTY (Ne.symm hj)]at e2;obtain⟨u',r',q⟩:=hl j y v' e1 e2 e3;refine⟨u',r',?_⟩;rcases q with⟨k,e⟩|⟨k,c,e,z⟩
       . refine .inl ⟨k,?_⟩;have:y≠x:=λe=>hj (u4 hN e1 (e ▸ hi));simp[this,e]
       . exact .inr ⟨k,c,e,z.sameBut hs (cne y c e)⟩
   . obtain⟨w',z⟩:=I.cell y c e;exact⟨w',z.sameBut hs (cne y c e)⟩
   . obtain⟨e,n,ne,nf,d⟩:=I.pin p hp;exact⟨(hs.2 p.1 ne).trans e,n,ne,nf,d⟩
 . have hfn:X.fn x=true:=by
     rcases hf with z|z
     . exact z
     . rw[z]at hk;cases hk
   obtain⟨c,hc⟩:=I.ok.has x (.inl hk);obtain⟨w',z⟩:=I.cell x c hc;refine wpAny_storeName_cell I.ok.kind hk hc z (λh' hc' hs=>?_);obtain⟨oc,hoc,hocd⟩:=id z;refine h {s with heap:=h'} ⟨I.ok,I.os,I.bare,⟨λb o e n hb hx=>?_,λb o e n hb hx=>?_,I.base.free,λb o e hx=>?_,I.base.tups,I.base.frzs,I.base.tbls⟩,⟨m,hn.sameBut hs (Ne.symm (cne x c hc)),λj y v' e1 e2 e3=>?_⟩,λy c' e=>?_,I.free,I.freeC,λp hp=>?_,tracked ⟨oc,hoc,I.freeC x c hc⟩ hs,by simpa using I.len⟩ ⟨c,hs,.inr hc⟩
   . exact(hs.2 b (aTM (aTK (aTJ e) (I.ok.cab x c hfn hc)))).trans (I.base.keep b o e n hb hx)
   . obtain⟨sl,e1⟩:=I.base.slot b o e n hb hx;exact⟨sl,(hs.2 b (aTM (aTK (aTJ e) (I.ok.cab x c hfn hc)))).trans e1⟩
   . obtain⟨o',e1⟩:=I.base.there b o e hx;exact⟨o',(hs.2 b (aTM (aTK (aTJ e) (I.ok.cab x c hfn hc)))).trans e1⟩
   . by_cases hj:j=i
     . subst hj;rw[hi]at e1;cases e1;rw[aTX hiσ]at e2;cases e2;exact⟨u,r,.inr ⟨.inl hk,c,hc,hc'⟩⟩
     . rw[aTY (Ne.symm hj)]at e2;obtain⟨u',r',q⟩:=hl j y v' e1 e2 e3;refine⟨u',r',?_⟩;rcases q with q|⟨k,c',e,z'⟩
       . exact .inl q
       . refine .inr ⟨k,c',e,z'.sameBut hs ?_⟩;rintro rfl;exact hj (u4 hN e1 (I.ok.inj _ _ _ e hc ▸ hi))
   . by_cases hcc:c'=c
     . subst hcc;exact⟨_,hc'⟩
     . obtain⟨w2,z2⟩:=I.cell y c' e;exact⟨w2,z2.sameBut hs hcc⟩
   . obtain⟨e,n,ne,nf,d⟩:=I.pin p hp;refine⟨(hs.2 p.1 ?_).trans e,n,ne,nf,d⟩;intro q;rw[q,hoc]at e;have q':oc=p.2:=aTZ e;exact d w' (by rw[<- q'];exact hocd)
def u6{M:Model}{A:aZP}{E:VSP}{x:Str}(I:Inv X aA σ H s)(hN:X.N.Nodup)(hi:X.N[i]? = some x)(hx:Loc X.env.scope x)(r:aI v u)(h:∀s',Inv X aA (σ.set i (some v)) H s'->Q () s')(hf:X.fn x=true\/X.env.scope.names.lookup x=some .local:=by first|exact .inl rfl|exact .inr rfl|assumption):wpAny M A (storeName X.env x u) Q E s :=
 u5 I hN hi hx r (λs' I' _=>h s' I') hf
def Inv.call'(I:Inv X aA σ H s)(ho:s'.os=s.os)(u:Un (frs X.stack) ch H H' s.heap s'.heap)(hok:HOk X.prog X.w H' s'.heap)(hg:AllBare s'.gens)(hch:∀b∈ch,(b∈X.ex\/X.s₀.heap.objs.size<=b)/\b≠X.env.locals/\(∀x c,X.env.cells.lookup x=some c->c≠b)/\∀p∈X.pn++aA,p.1≠b):Inv X aA σ H' s':=by obtain⟨h',g',d',t',o'⟩:=s';have e:o'=s.os:=ho;subst e;exact I.call (g':=g') (t':=t') (d':=d') u hok hg hch
end
abbrev XK:=aZN->Option Addr->Hp->Prop
abbrev St:=List (Option V)
abbrev VK:=V->Hp->Prop
abbrev TE:=St->Hp->VK->Prop
abbrev TT:=St->Hp->(Bool->Hp->Prop)->Prop
abbrev TA:=St->Hp->(List V->Hp->Prop)->Prop
end L2
variable {σ:L2.St}{ta te tl td:L2.TE}{tt:L2.TT}
namespace L2
structure eX where
 nx:St->Hp->Prop
 rt:VK
 bk:St->Hp->Prop:=λ_ _=>False
 ct:St->Hp->Prop:=λ_ _=>False
abbrev TS:=eX->St->Hp->Prop
def EP(X:Cx)(aA:LAO)(σ:St)(Q:VK)(u:aZN)(s':aZO):Prop:=∃v H',Inv X aA σ H' s'/\aI v u/\Q v H'
def TP(X:Cx)(aA:LAO)(σ:St)(Q:Bool->Hp->Prop)(b:Bool)(s':aZO):Prop:=∃H',Inv X aA σ H' s'/\Q b H'
def AP(X:Cx)(aA:LAO)(σ:St)(Q:List V->Hp->Prop)(us:List aZN)(s':aZO):Prop:=∃vs H',Inv X aA σ H' s'/\aJ vs us/\Q vs H'
def SP(X:Cx)(aA:LAO)(D:eX)(f:Flow)(s':aZO):Prop :=
 match f with
 |.next=>∃σ' H',Inv X aA σ' H' s'/\D.nx σ' H'
 |.brk=>∃σ' H',Inv X aA σ' H' s'/\D.bk σ' H'
 |.cont=>∃σ' H',Inv X aA σ' H' s'/\D.ct σ' H'
 |.ret u=>∃v σ' H',Inv X aA σ' H' s'/\aI v u/\D.rt v H'
def PE(X:Cx)(e:Expr)(t:TE):Prop :=
 ∀(aA:LAO) (s:aZO) (σ:St) (H:Hp) (Q:VK),Inv X aA σ H s->t σ H Q->wpAny (model X.prog X.w) X.A (eval e X.env) (EP X aA σ Q) X.xe s
def PT(X:Cx)(e:Expr)(t:TT):Prop :=
 ∀(aA:LAO) (s:aZO) (σ:St) (H:Hp) (Q:Bool->Hp->Prop),Inv X aA σ H s->t σ H Q->wpAny (model X.prog X.w) X.A (isTrue e X.env (eval e X.env)) (TP X aA σ Q) X.xe s
def PW(X:Cx)(e:Expr)(t:TT):Prop :=
 ∀(cY:Sem aZN) (aA:LAO) (s:aZO) (σ:St) (H:Hp) (Q:Bool->Hp->Prop),Inv X aA σ H s->t σ H Q->wpAny (model X.prog X.w) X.A (isTrue e X.env cY) (TP X aA σ Q) X.xe s
def PW.pt{t:TT}(h:PW X e t):PT X e t:=h _
def PA(X:Cx)(es:List Expr)(t:TA):Prop :=
 ∀(pos:Pos) (aA:LAO) (s:aZO) (σ:St) (H:Hp) (Q:List V->Hp->Prop),Inv X aA σ H s->t σ H Q->wpAny (model X.prog X.w) X.A (spliced (backTo pos (starEach es X.env))) (AP X aA σ Q) X.xe s
def PS(X:Cx)(st:Stmt)(t:TS):Prop :=
 ∀(aA:LAO) (s:aZO) (σ:St) (H:Hp) (D:eX),Inv X aA σ H s->t D σ H->wpAny (model X.prog X.w) X.A (exec st X.env) (SP X aA D) X.xe s
def PSs(X:Cx)(st:List Stmt)(t:TS):Prop :=
 ∀(aA:LAO) (s:aZO) (σ:St) (H:Hp) (D:eX),Inv X aA σ H s->t D σ H->wpAny (model X.prog X.w) X.A (execs st X.env) (SP X aA D) X.xe s
def thn{t:Sem α}{Q Q':α->aZO->Prop}{M:Model}{A:aZP}{E:VSP}(h:wpAny M A t Q E s)(hQ:∀a s,Q a s->Q' a s):wpAny M A t Q' E s:=aT0 h hQ λ_ _ x=>x
section
def jW(i:Nat):TE:=λσ H Q=>∃v,σ[i]? = some (some v)/\Q v H
def tC(v:V):TE:=λ_ H Q=>Q v H
def jX{x:Str}(hN:X.N[i]? = some x)(hv:Vis X.env.scope x)(hd:(x==("__debug__":Str))=false:=by decide)(hcd:(x==("__classdict__":Str))=false:=by decide):PE X (.Name x pos) (jW i):=by
 intro aA s σ H Q I h;obtain⟨v,e,h⟩:=h;obtain⟨m,hn,hl⟩:=I.loc;obtain⟨u,r,l⟩:=hl i x v hN e hv;have fin:EP X aA σ Q u s:=⟨v,H,I,r,h⟩;rcases l with⟨hk,hm⟩|⟨hk,c,hc,c7⟩
 . exact wpAny_Name (wpAny_loadName_local I.ok.kind hk hn hm fin) hd
 . rcases hk with hk|hk
   . exact wpAny_Name (wpAny_loadName_cell I.ok.kind hk hc c7 fin) hd
   . exact wpAny_Name (wpAny_loadName_free I.ok.kind hk hc c7 fin hcd) hd
def aDR{i j pos:_}:PE X (.Constant (.int i) j pos) (tC (.int i)):=λ_ _ _ H _ I h=>wpAny_Constant_int ⟨.int i,H,I.tok _,⟨_,rfl⟩,h⟩
def pe_bl{b j pos:_}:PE X (.Constant (.bool b) j pos) (tC (.bl b)):=λ_ _ _ H _ I h=>Constant_bool ⟨.bl b,H,I,rfl,h⟩
def aDS{j pos:_}:PE X (.Constant .none j pos) (tC .non):=λ_ _ _ H _ I h=>Constant_none ⟨.non,H,I,rfl,h⟩
def aDT{x j pos:_}:PE X (.Constant (.str x) j pos) (tC (.str x)):=λ_ _ _ H _ I h=>Calls.Constant_str ⟨.str x,H,I.tok _,⟨_,rfl⟩,h⟩
def Gl(X:Cx)(x:Str):Prop:=X.env.kindOf x=some .globalImplicit
def nK{E:VSP}{σ:St}{x:Str}{Q:VSP}(I:Inv X aA σ H s)(hg:Gl X x)(hm:X.mg x=some u)(h:Q u s)(hd:(x==("__debug__":Str))=false:=by decide):wpAny (model X.prog X.w) X.A (eval (.Name x pos) X.env) Q E s :=
 Calls.Name_function_global I.ok.kind hg (Calls.loadGlobal_global (by rw[I.ok.glob];exact I.mod.glob.keeps I.bk) hm h) hd
def iY{E:VSP}{σ:St}{x:Str}{Q:VSP}(I:Inv X aA σ H s)(hg:Gl X x)(hm:X.mg x=none)(hv:bootBuiltins x=some u)(h:Q u s)(hn:x ≠ "__name__" := by decide)(hd:(x==("__debug__":Str))=false:=by decide):wpAny (model X.prog X.w) X.A (eval (.Name x pos) X.env) Q E s:=by obtain⟨mb,h1,h2⟩:=I.mod.blt;exact Calls.Name_function_global I.ok.kind hg (Calls.loadGlobal_builtin (by rw[I.ok.glob];exact I.mod.glob.keeps I.bk) hm (by rw[I.ok.blt];exact h1.keeps I.bk) ((h2 x hn).trans hv) h) hd
def qM{x:Str}(hg:Gl X x)(hm:X.mg x=some u)(r:aI v u)(hd:(x==("__debug__":Str))=false:=by decide):PE X (.Name x pos) (tC v) :=
 λ_ _ _ H _ I h=>nK I hg hm ⟨v,H,I,r,h⟩ hd
def aDU{x:Str}(hg:Gl X x)(hm:X.mg x=none)(hv:bootBuiltins x=some u)(r:aI v u)(hn:x ≠ "__name__" := by decide)(hd:(x==("__debug__":Str))=false:=by decide):PE X (.Name x pos) (tC v) :=
 λ_ _ _ H _ I h=>iY I hg hm hv ⟨v,H,I,r,h⟩ hn hd
variable {a b:Expr}{tb:TE}
variable {tA tB':TT}{rest:List Expr}
def qN(t u:TT):TT:=λσ H Q=>t σ H λc H1=>if c=true then u σ H1 Q else Q false H1
def tOr(t u:TT):TT:=λσ H Q=>t σ H λc H1=>if c=true then Q true H1 else u σ H1 Q
def tNot(t:TT):TT:=λσ H Q=>t σ H λc H1=>Q (!c) H1
def aDV(ha:PT X a tA):PW X (.BoolOp .And [a] pos) tA:=by
 intro wh aA s σ H Q I h;refine isTrue_and (thn (ha aA s σ H Q I h) λc s1 e=>?_);cases c with
 |true=>exact isTrue_and_nil e
 |false=>exact e
def aDW(ha:PT X a tA):PW X (.BoolOp .Or [a] pos) tA:=by
 intro wh aA s σ H Q I h;refine isTrue_or (thn (ha aA s σ H Q I h) λc s1 e=>?_);cases c with
 |false=>exact isTrue_or_nil e
 |true=>exact e
def aDX(ha:PT X a tA)(hb:PW X (.BoolOp .And (b::rest) pos) tB'):PW X (.BoolOp .And (a::b::rest) pos) (qN tA tB'):=by
 intro wh aA s σ H Q I h;refine isTrue_and (thn (ha aA s σ H _ I h) λc s1 ⟨H1,I1,q1⟩=>?_);cases c with
 |true=>exact hb wh aA s1 σ H1 Q I1 q1
 |false=>exact⟨H1,I1,q1⟩
def pw_or(ha:PT X a tA)(hb:PW X (.BoolOp .Or (b::rest) pos) tB'):PW X (.BoolOp .Or (a::b::rest) pos) (tOr tA tB'):=by
 intro wh aA s σ H Q I h;refine isTrue_or (thn (ha aA s σ H _ I h) λc s1 ⟨H1,I1,q1⟩=>?_);cases c with
 |true=>exact⟨H1,I1,q1⟩
 |false=>exact hb wh aA s1 σ H1 Q I1 q1
def aDY(ha:PT X a tA):PT X (.UnaryOp .Not a pos) (tNot tA):=by intro aA s σ H Q I h;exact isTrue_not (ha aA s σ H (λc H1=>Q (!c) H1) I h)
def u7(ta tb:TE):TE:=λσ H Q=>ta σ H λx H1=>∃c,x=.bl c/\if c=true then tb σ H1 Q else Q (.bl false) H1
def tOrV(ta tb:TE):TE:=λσ H Q=>ta σ H λx H1=>∃c,x=.bl c/\if c=true then Q (.bl true) H1 else tb σ H1 Q
def u8(ta:TE):TE:=λσ H Q=>ta σ H λx H1=>∃c,x=.bl c/\Q (.bl (!c)) H1
def aDZ{op}{t:TE}(h:PE X a t):PE X (.BoolOp op [a] pos) t:=λaA s σ H Q I hw=>BoolOp_one (h aA s σ H Q I hw)
def aD0(ha:PE X a ta)(hb:PE X (.BoolOp .And (b::rest) pos) tb):PE X (.BoolOp .And (a::b::rest) pos) (u7 ta tb):=by
 intro aA s σ H Q I h;refine BoolOp_and (thn (ha aA s σ H _ I h) λv s1 ⟨x,H1,I1,r1,q1⟩=>?_);obtain⟨c,rfl,q1⟩:=q1;cases r1;refine aT1 ?_;cases c with
 |true=>exact hb aA s1 σ H1 Q I1 q1
 |false=>exact⟨.bl false,H1,I1,rfl,q1⟩
def pe_or(ha:PE X a ta)(hb:PE X (.BoolOp .Or (b::rest) pos) tb):PE X (.BoolOp .Or (a::b::rest) pos) (tOrV ta tb):=by
 intro aA s σ H Q I h;refine BoolOp_or (thn (ha aA s σ H _ I h) λv s1 ⟨x,H1,I1,r1,q1⟩=>?_);obtain⟨c,rfl,q1⟩:=q1;cases r1;refine aT1 ?_;cases c with
 |false=>exact hb aA s1 σ H1 Q I1 q1
 |true=>exact⟨.bl true,H1,I1,rfl,q1⟩
def aD1(ha:PE X a ta):PE X (.UnaryOp .Not a pos) (u8 ta):=by intro aA s σ H Q I h;refine UnaryOp_ (thn (ha aA s σ H _ I h) λv s1 ⟨x,H1,I1,r1,q1⟩=>?_);obtain⟨c,rfl,q1⟩:=q1;cases r1;exact not_of (aT1 ⟨.bl (!c),H1,I1,rfl,q1⟩)
end
def SqL(K:Fg)(H:Hp)(a:Addr)(xs:List V):Prop :=
 Rd H a (.lst xs) \/
  ∃(o:Obj) (its:Array aZN) (n:Nat),K.lookup a=some o/\o.cls=.type "list" /\ o.dict=none/\o.data=.seq its n/\its.size<=sizeLine/\aJ xs its.toList
def SqT(K:Fg)(H:Hp)(a:Addr)(xs:List V):Prop :=
 Rd H a (.tup xs) \/
  ∃(o:Obj) (its:Array aZN) (n:Nat),K.lookup a=some o/\o.cls=.type "tuple" /\ o.dict=none/\o.data=.seq its n/\its.size<=sizeLine/\aJ xs its.toList
def absV:aZN->Option V
 |.none=>some .non
 |.bool b=>some (.bl b)
 |.int i _=>some (.int i)
 |.str x _=>some (.str x)
 |.bytes b _=>some (.byt b)
 |.float b _=>some (.flt b)
 |.ref a=>some (.ref a)
 |.type n=>some (.ty n)
 |_=>none
def aI.abs{x:V}(r:aI x u):absV u=some x:=by
 cases x with
 |non=>cases r;rfl
 |bl _=>cases r;rfl
 |int _=>obtain⟨t,rfl⟩:=r;rfl
 |str _=>obtain⟨t,rfl⟩:=r;rfl
 |byt _=>obtain⟨t,rfl⟩:=r;rfl
 |flt _=>obtain⟨t,rfl⟩:=r;rfl
 |ref _=>cases r;rfl
 |ty _=>cases r;rfl
def aI.inj{x y:V}(r:aI x u)(q:aI y u):x=y:=aTZ (r.abs.symm.trans q.abs)
theorem aJ.inj:∀{xs ys:List V}{us:List aZN},aJ xs us->aJ ys us->xs=ys
 |_,_,_,.nil,.nil=>rfl
 |_,_,_,.cons r t,.cons r' t'=>by rw[r.inj r',aJ.inj t t']
section
variable {σ:St}{a:Addr}{xs ys:List V}
def SqL.of(h:H a=some (.lst xs)):SqL K H a xs:=.inl (.inl h)
def SqT.of(h:H a=some (.tup xs)):SqT K H a xs:=.inl (.inl h)
def Inv.list(I:Inv X aA σ H s)(h:SqL X.K H a xs):∃its:List aZN,aJ xs its/\PlainL s.heap a its.toArray/\xs.length<=sizeLine:=by
 rcases h with h|⟨o,its,n,hk,hc,hd,hs,hz,r⟩
 . obtain⟨z,its,n,r,e⟩:=h.ok I.hok;exact⟨its,r,⟨_,n,e,rfl,rfl,rfl⟩,z⟩
 . refine⟨its.toList,r,⟨o,n,I.kIn a o hk,hc,hd,by simpa using hs⟩,?_⟩
   have e:=r.length;simp only[aT2]at e;omega
def Inv.tuple(I:Inv X aA σ H s)(h:SqT X.K H a xs):∃its:List aZN,aJ xs its/\IsTup s.heap a its.toArray/\xs.length<=sizeLine:=by
 rcases h with h|⟨o,its,n,hk,hc,hdt,hs,hz,r⟩
 . obtain⟨z,its,r,p⟩:=h.ok I.hok;exact⟨its,r,p.isTup,z⟩
 . refine⟨its.toList,r,⟨o,I.kIn a o hk,hc,n,by simpa using hs⟩,?_⟩
   have e:=r.length;simp only[aT2]at e;omega
def Inv.list_inj(I:Inv X aA σ H s)(h:SqL X.K H a xs)(h':SqL X.K H a ys):xs=ys:=by
 obtain⟨its,r,⟨o,n,e,_,_,d⟩,_⟩:=I.list h;obtain⟨its',r',⟨o',n',e',_,_,d'⟩,_⟩:=I.list h';rw[e]at e';cases e';rw[d]at d';injection d' with d1 _
 have:its=its':=by simpa using congrArg Array.toList d1
 subst this;exact r.inj r'
def Inv.tuple_inj(I:Inv X aA σ H s)(h:SqT X.K H a xs)(h':SqT X.K H a ys):xs=ys:=by
 obtain⟨its,r,⟨o,e,_,n,d⟩,_⟩:=I.tuple h;obtain⟨its',r',⟨o',e',_,n',d'⟩,_⟩:=I.tuple h';rw[e]at e';cases e';rw[d]at d';injection d' with d1 _
 have:its=its':=by simpa using congrArg Array.toList d1
 subst this;exact r.inj r'
end
abbrev Cx.wish(X:Cx)(E:VSP):Cx:={X with xe:=E}
section
variable {σ:St}{E:VSP}
end
section
variable {rest:List Stmt}{t u:TS}
def tNext:TS:=λD σ H=>D.nx σ H
def tSeq(t u:TS):TS:=λD σ H=>t {D with nx:=u D} σ H
def qO:PSs X [] tNext:=λ_ _ σ H _ I h=>aT3 ⟨σ,H,I,h⟩
def lB(h1:PS X st t)(h2:PSs X rest u):PSs X (st::rest) (tSeq t u):=by
 intro aA s σ H D I h;refine wpAny_execs_cons (thn (h1 aA s σ H {D with nx:=u D} I h) λf s1 q=>?_)
 cases f with
 |next=>obtain⟨σ',H',I',q⟩:=q;exact h2 aA s1 σ' H' D I' q
 |ret v=>exact q
 |brk=>exact q
 |cont=>exact q
def aD2(h1:PS X st t):PSs X [st] t:=by
 intro aA s σ H D I h;refine wpAny_execs_cons (thn (h1 aA s σ H D I h) λf s1 q=>?_);cases f with
 |next=>exact aT3 q
 |ret v=>exact q
 |brk=>exact q
 |cont=>exact q
def Inv.quiet{σ:St}(I:Inv X aA σ H s):interactive X.env=false:=by simp[interactive,I.ok.kind]
def qP(te:TE):TS:=λD σ H=>te σ H λ_ H1=>D.nx σ H1
def qQ(he:PE X e te)(hs:swapsWith e none pos.line X.env=pure false:=by rfl):PS X (.Expr e pos) (qP te):=by intro aA s σ H D I h;exact wpAny_Expr_any (thn (he aA s σ H _ I h) λv s1 ⟨x,H1,I1,r1,q1⟩=>⟨σ,H1,I1,q1⟩) I.quiet hs
def tRet(te:TE):TS:=λD σ H=>te σ H D.rt
def u9(he:PE X e te):PS X (.Return (some e) pos) (tRet te):=by intro aA s σ H D I h;exact wpAny_Return_some (thn (he aA s σ H _ I h) λv s1 ⟨x,H1,I1,r1,q1⟩=>⟨x,σ,H1,I1,r1,q1⟩)
def tIfS(c:TT)(t u:TS):TS:=λD σ H=>c σ H λb H1=>if b=true then t D σ H1 else u D σ H1
def vA{c:Expr}{a b:List Stmt}{tc:TT}(hc:PT X c tc)(ha:PSs X a t)(hb:PSs X b u):PS X (.If c a b pos) (tIfS tc t u):=by
 intro aA s σ H D I h;refine wpAny_If (thn (hc aA s σ H _ I h) λd s1 ⟨H1,I1,q1⟩=>?_);cases d with
 |true=>exact ha aA s1 σ H1 D I1 q1
 |false=>exact hb aA s1 σ H1 D I1 q1
end
abbrev TG:=V->St->Hp->(St->Hp->Prop)->Prop
abbrev TGs:=List V->St->Hp->(St->Hp->Prop)->Prop
def PG(X:Cx)(target:Expr)(t:TG):Prop :=
 ∀(aA:LAO) (s:aZO) (σ:St) (H:Hp) (v:V) (u:aZN) (Q:St->Hp->Prop),Inv X aA σ H s->aI v u->t v σ H Q ->
  wpAny (model X.prog X.w) X.A (assign target X.env u) (λ_ s'=>∃σ' H',Inv X aA σ' H' s'/\Q σ' H') X.xe s
def PGs(X:Cx)(ts:List Expr)(t:TGs):Prop :=
 ∀(aA:LAO) (s:aZO) (σ:St) (H:Hp) (vs:List V) (us:List aZN) (Q:St->Hp->Prop),Inv X aA σ H s->aJ vs us->t vs σ H Q ->
  wpAny (model X.prog X.w) X.A (assignInOrder ((assignEach ts X.env).map (·.2)) us) (λ_ s'=>∃σ' H',Inv X aA σ' H' s'/\Q σ' H') X.xe s
def lC(i:Nat):TG:=λv σ H Q=>Q (σ.set i (some v)) H
def aD3{x:Str}(hN:X.N.Nodup)(hi:X.N[i]? = some x)(hx:Loc X.env.scope x)(hf:X.fn x=true\/X.env.scope.names.lookup x=some .local:=by first|exact .inl rfl|exact .inr rfl|assumption):PG X (.Name x pos) (lC i):=by intro aA s σ H v u Q I r h;exact wpAny_assign_Name (u6 I hN hi hx r (λs' I'=>⟨_,H,I',h⟩) hf)
def gNil:TGs:=λvs σ H Q=>vs=[]/\Q σ H
def vB(t:TG)(u:TGs):TGs:=λvs σ H Q=>∃v r,vs=v::r/\t v σ H λσ' H'=>u r σ' H' Q
def aD4:PGs X [] gNil:=by intro aA s σ H vs us Q I r h;obtain⟨e,h⟩:=h;subst e;cases r;exact assignInOrder_nil ⟨σ,H,I,h⟩
def aD5{es:List Expr}{t:TG}{u:TGs}(h1:PG X e t)(h2:PGs X es u)(hs:(assignEach (e::es) X.env).map (·.2)=assign e X.env::(assignEach es X.env).map (·.2):=by rfl):PGs X (e::es) (vB t u):=by
 intro aA s σ H vs us Q I r h;obtain⟨v,vr,e1,h⟩:=h;subst e1;cases r with
 |cons r rr=>rw[hs];refine assignInOrder_cons (thn (h1 aA s σ H _ _ _ I r h) λ_ s1 ⟨σ1,H1,I1,q1⟩=>?_);exact h2 aA s1 σ1 H1 _ _ Q I1 rr q1
def gTup(K:Fg)(n:Nat)(t:TGs):TG:=λv σ H Q=>∃a xs,v=.ref a/\SqT K H a xs/\xs.length=n/\t xs σ H Q
def aD6{es:List Expr}{t:TGs}(hc:X.calm=true)(h:PGs X es t)(hn:(assignEach es X.env).length=n:=by rfl)(hst:(assignEach es X.env).findIdx? (·.1)=none:=by rfl):PG X (.Tuple es k pos) (gTup X.K n t):=by
 intro aA s σ H v u Q I r hw;obtain⟨a,xs,e1,hq,hl,hw⟩:=hw;subst e1;cases r;obtain⟨its,rv,ht,hz⟩:=I.tuple hq;refine assign_Tuple_tuple (I.ok.hd hc) ht (by simp[hn,<- hl,rv.length]) hst λh' hx=>?_
 have I1:Inv X aA σ H {s with heap:=h'}:=I.kept (t':=s.toks) λb o e=>hx b o (aTM (aTJ e)) e
 exact h aA _ σ H xs _ Q I1 (by simpa using rv) hw
def nL(te:TE)(g:TG):TS:=λD σ H=>te σ H λx H1=>g x σ H1 D.nx
def vC{x:Str}(hN:X.N.Nodup)(hi:X.N[i]? = some x)(hx:Loc X.env.scope x)(he:PE X e te)(hs:swapsWith e (some (.Name x pos')) pos.line X.env=pure false:=by rfl)(hf:X.fn x=true\/X.env.scope.names.lookup x=some .local:=by first|exact .inl rfl|exact .inr rfl|assumption):PS X (.Assign [.Name x pos'] e pos) (nL te (lC i)):=by intro aA s σ H D I h;refine wpAny_Assign_Name (thn (he aA s σ H _ I h) λv s1 ⟨y,H1,I1,r1,q1⟩=>?_) hs;exact u6 I1 hN hi hx r1 (λs2 I2=>⟨_,H1,I2,q1⟩) hf
def aD7(c:TT)(tb:TS):TS:=λD σ H=>∃W:Nat->St->Hp->Prop,(∃m,W m σ H)/\∀m σ H,W m σ H ->
 c σ H λb H1=>if b=true then ∃N:St->Hp->Prop,(∀σ' H',N σ' H'->∃m',m'<m/\W m' σ' H')/\tb {D with nx:=N,ct:=N,bk:=D.nx} σ H1 else D.nx σ H1
def aD8{c:Expr}{tc:TT}{tb:TS}(hp:PassesOwn (model X.prog X.w) X.A X.env X.xe)(hc:PT X c tc)(hb:PSs X body tb):PS X (.While c body [] pos) (aD7 tc tb):=by
 intro aA s σ H D I h;obtain⟨W,⟨m0,w0⟩,turn⟩:=h;refine wpAny_While (codeAny_whileLoop (λn s'=>∃σ' H',Inv X aA σ' H' s'/\W n σ' H') ?_ m0 ⟨σ,H,I,w0⟩);rintro n s1 ⟨σ1,H1,I1,w1⟩;refine aT4 hp (thn (hc aA s1 σ1 H1 _ I1 (turn n σ1 H1 w1)) λb s2 ⟨H2,I2,q2⟩=>?_);cases b with
 |true =>
  obtain⟨N,hN,q2⟩:=q2;rw[if_pos rfl];refine aT4 hp (thn (hb aA s2 σ1 H2 _ I2 q2) λf s3 q3=>?_);cases f with
  |next=>obtain⟨σ3,H3,I3,n3⟩:=q3;obtain⟨m',hm,w3⟩:=hN σ3 H3 n3;exact⟨m',hm,σ3,H3,I3,w3⟩
  |cont=>obtain⟨σ3,H3,I3,n3⟩:=q3;obtain⟨m',hm,w3⟩:=hN σ3 H3 n3;exact⟨m',hm,σ3,H3,I3,w3⟩
  |brk=>exact q3
  |ret v=>exact q3
 |false=>rw[if_neg aT5];exact aT3 ⟨σ1,H2,I2,q2⟩
structure It where
 go:Nat->Hp->Prop
 yld:Nat->Hp->V->Hp->Prop
 stop:Nat->Hp->Prop
def cF(X:Cx)(aA:LAO)(H:Hp)(b:Addr):Prop :=
 H b=none/\b≠X.env.locals/\b∉X.fs/\(b∈X.ex\/X.s₀.heap.objs.size<=b)/\(∀x c,X.env.cells.lookup x=some c->c≠b)/\∀p∈X.pn++aA,p.1≠b
def Inv.fpOk{σ:St}(I:Inv X aA σ H s)(hb:s.heap.objs.size<=b)(hn:H' b=none):cF X aA H' b:=by
 refine⟨hn,aT6 (aTK I.lt hb),I.nofs hb,.inr (aTQ I.sz hb),λx c e z=>?_,λp hp z=>?_⟩
 . obtain⟨v,q⟩:=I.cell x c e;exact absurd (aTK q.lt (by rw[z];exact hb)) (aTL _)
 . exact absurd (aTK (aTJ (I.pin p hp).1) (by rw[z];exact hb)) (aTL _)
structure fN(P:aZR)(w:aZQ)(K:Fg)(tg:Expr)(J:It)(fp:List Addr)(it:Addr)(tn:Nat->Heap->Prop):Prop where
 mem:it∈fp
 obj:∀i h,tn i h->∀b∈fp,∃o,h.get? b=some o/\∀v,o.data ≠ .cell v
 keep:∀i h h',tn i h->(∀b∈fp,∀o,h.get? b=some o->h'.get? b=some o)->tn i h'
 item:∀(X:Cx),X.prog=P->X.w=w->X.K=K->X.calm=true->∀(i:Nat) (aA:LAO) (s:aZO) (σ:St) (H:Hp) (E:VSP),Inv X aA σ H s->(∀b∈fp,cF X aA H b)->tn i s.heap->J.go i H ->
  wpAny (model P w) X.A (pyNext (.ref it)) (λr s1=>∃u,r=some u /\
   wpAny (model P w) X.A (letOwnedTupleGo tg (.ref it) u) (λ_ s2=>∃x H',Inv X aA σ H' s2/\aI x u/\J.yld i H x H'/\tn (i+1) s2.heap/\∀b∈fp,H' b=none) E s1) E s
 done:∀(X:Cx),X.prog=P->X.w=w->X.K=K->X.calm=true->∀(i:Nat) (aA:LAO) (s:aZO) (σ:St) (H:Hp) (E:VSP),Inv X aA σ H s->(∀b∈fp,cF X aA H b)->tn i s.heap->J.stop i H ->
  wpAny (model P w) X.A (pyNext (.ref it)) (λr s1=>r=none/\Inv X aA σ H s1) E s
 self:∀(A:aZP) (i:Nat) (s:aZO) (Q:VSP) (E:VSP),tn i s.heap->Q (.ref it) s->wpAny (model P w) A (pyIter (.ref it)) Q E s
abbrev TI:=St->Hp->(It->Hp->Prop)->Prop
def PIE(X:Cx)(aA:LAO)(σ:St)(tg:Expr)(R:It->Hp->Prop)(itv:aZN)(s2:aZO):Prop :=
 ∃(it:Addr) (fp:List Addr) (tn:Nat->Heap->Prop) (J:It) (H':Hp),itv=.ref it/\Inv X aA σ H' s2/\fN X.prog X.w X.K tg J fp it tn/\tn 0 s2.heap/\(∀b∈fp,cF X aA H' b)/\R J H'
def PI(X:Cx)(tg aV:Expr)(wi:TI):Prop :=
 ∀(aA:LAO) (s:aZO) (σ:St) (H:Hp) (R:It->Hp->Prop),Inv X aA σ H s->wi σ H R ->
  wpAny (model X.prog X.w) X.A (eval aV X.env) (λv s1=>wpAny (model X.prog X.w) X.A (pyIter v) (PIE X aA σ tg R) X.xe s1) X.xe s
def jY{M:Model}{A:aZP}{E:VSP}{o:Obj}{n:String}{vs:Array aZN}(ho:s.heap.get? it=some o)(hc:o.cls=.type n)(hd:o.data=.fields vs)(hn:["enumerate", "zip", "dict_itemiterator", "dict_reverseitemiterator", "odict_iterator", "itertools.zip_longest", "itertools.pairwise"].contains n=false)(hQ:Q () s):wpAny M A (letOwnedTupleGo tg (.ref it) u) Q E s:=by
 unfold letOwnedTupleGo;cases tg <;> first
  |exact aT7 hQ
  | (cases u <;> first
      |exact aT7 hQ
      | (refine aT8 (wpAny_load ho ?_)
         rw[hc,hd];show wpAny M A (if(["enumerate", "zip", "dict_itemiterator", "dict_reverseitemiterator", "odict_iterator", "itertools.zip_longest", "itertools.pairwise"].contains n&&vs[0]?==some (rawInt _))=true then _ else _) Q E s;rw[if_neg (by intro h;rw[hn,Bool.false_and]at h;cases h)]
         exact aT7 hQ))
def Itl(K:Fg)(a:Addr):It :=
 ⟨λi H=>∃xs x,SqL K H a xs/\xs[i]? = some x,λi H x H'=>H'=H/\∀xs,SqL K H a xs->xs[i]? = some x,λi H=>∃xs,SqL K H a xs/\xs.length<=i⟩
def Itt(K:Fg)(a:Addr):It :=
 ⟨λi H=>∃xs x,SqT K H a xs/\xs[i]? = some x,λi H x H'=>H'=H/\∀xs,SqT K H a xs->xs[i]? = some x,λi H=>∃xs,SqT K H a xs/\xs.length<=i⟩
def Itr(lo:Int)(n:Nat):It:=⟨λi _=>i<n,λi H x H'=>H'=H/\x=.int (lo+i),λi _=>n<=i⟩
end L2
variable {wi:L2.TI}
namespace L2
def aD9(a it:Addr):fN P w K tg (Itl K a) [it] it (λi h=>h.IsListIter it a i) where
 mem:=by simp
 obj:=λi h st b hb=>by
  have e:b=it:=by simpa using hb
  subst e;obtain⟨o,e,c,d⟩:=st;exact⟨o,e,λv z=>by rw[d]at z;cases z⟩
 keep:=λi h h' st k=>st.at λo e=>k it (by simp) o e
 item:=by
  intro X hP hw hK hc i aA s σ H E I hf st hg;subst hP hw hK;obtain⟨xs,x,hq,hx⟩:=hg;obtain⟨its,rv,p,hz⟩:=I.list hq;obtain⟨u,hu,ru⟩:=rv.get hx;obtain⟨f0,f1,f2,f3,f4,f5⟩:=hf it (by simp)
  refine wpAny_pyNext_list_item st p.isList (x:=u) (by simpa using hu) λh' st' sb=>?_
  have I1:Inv X aA σ H {s with heap:=h'}:=I.turned (t':=s.toks) (λb o hb e=>(sb.2 b hb).trans e) f0 f1 f3 f4 f5
  obtain⟨o,e,c,d⟩:=id st';exact⟨u,rfl,jY (s:={s with heap:=h'}) e c d (by decide) ⟨x,H,I1,ru,⟨rfl,λys hy=>by rw[I.list_inj hy hq];exact hx⟩,st',λb hb=>(hf b hb).1⟩⟩
 done:=by
  intro X hP hw hK hc i aA s σ H E I hf st hg;subst hP hw hK;obtain⟨xs,hq,hx⟩:=hg;obtain⟨its,rv,p,hz⟩:=I.list hq;obtain⟨f0,f1,f2,f3,f4,f5⟩:=hf it (by simp)
  have hl:=rv.length;exact wpAny_pyNext_list_end (I.ok.hd hc) st p.isList (by simp;omega) λh' eb=>⟨rfl,I.turned (t':=s.toks) (λb o hb e=>eb b o hb e) f0 f1 f3 f4 f5⟩
 self:=λ_ _ _ _ _ st h=>wpAny_pyIter_listiter st h
def aEA(a it:Addr):fN P w K tg (Itt K a) [it] it (λi h=>h.IsTupleIter it a i) where
 mem:=by simp
 obj:=λi h st b hb=>by
  have e:b=it:=by simpa using hb
  subst e;obtain⟨o,e,c,d⟩:=st;exact⟨o,e,λv z=>by rw[d]at z;cases z⟩
 keep:=λi h h' st k=>st.at λo e=>k it (by simp) o e
 item:=by
  intro X hP hw hK hc i aA s σ H E I hf st hg;subst hP hw hK;obtain⟨xs,x,hq,hx⟩:=hg;obtain⟨its,rv,p,hz⟩:=I.tuple hq;obtain⟨u,hu,ru⟩:=rv.get hx;obtain⟨f0,f1,f2,f3,f4,f5⟩:=hf it (by simp)
  refine wpAny_pyNext_tuple_item st (show s.heap.IsTuple a its.toArray from p) (x:=u) (by simpa using hu) λh' st' sb=>?_
  have I1:Inv X aA σ H {s with heap:=h'}:=I.turned (t':=s.toks) (λb o hb e=>(sb.2 b hb).trans e) f0 f1 f3 f4 f5
  obtain⟨o,e,c,d⟩:=id st';exact⟨u,rfl,jY (s:={s with heap:=h'}) e c d (by decide) ⟨x,H,I1,ru,⟨rfl,λys hy=>by rw[I.tuple_inj hy hq];exact hx⟩,st',λb hb=>(hf b hb).1⟩⟩
 done:=by
  intro X hP hw hK hc i aA s σ H E I hf st hg;subst hP hw hK;obtain⟨xs,hq,hx⟩:=hg;obtain⟨its,rv,p,hz⟩:=I.tuple hq;obtain⟨f0,f1,f2,f3,f4,f5⟩:=hf it (by simp)
  have hl:=rv.length;exact wpAny_pyNext_tuple_end (I.ok.hd hc) st (show s.heap.IsTuple a its.toArray from p) (by simp;omega) λh' eb=>⟨rfl,I.turned (t':=s.toks) (λb o hb e=>eb b o hb e) f0 f1 f3 f4 f5⟩
 self:=λ_ _ _ _ _ st h=>wpAny_pyIter_tupleiter st h
def aEB(it:Addr)(lo:Int)(n:Nat):fN P w K tg (Itr lo n) [it] it (λi h=>IsRangeIter h it (lo+(i:Nat) * 1) ((n:Int)-(i:Nat)) 1) where
 mem:=by simp
 obj:=λi h st b hb=>by
  have e:b=it:=by simpa using hb
  subst e;exact⟨_,st,λv z=>by
   have z':Data.fields _=Data.cell v:=z;cases z'⟩
 keep:=λi h h' st k=>k it (by simp) _ st
 item:=by
  intro X hP hw hK hc i aA s σ H E I hf st hg;subst hP hw hK;obtain⟨f0,f1,f2,f3,f4,f5⟩:=hf it (by simp)
  have W:=Walks.range (prog:=X.prog) (w:=X.w) (I.ok.hd hc) it lo 1 n;refine W.item i s _ _ hg st λv h' tk hv st' kk=>?_;obtain⟨t,rfl⟩:=hv;have I1:Inv X aA σ H {s with heap:=h',toks:=tk}:=I.turned (λb o hb e=>kk b o (by simpa using hb) e) f0 f1 f3 f4 f5
  refine⟨_,rfl,jY (s:={s with heap:=h',toks:=tk}) (n := "range_iterator") st' rfl rfl (by decide) ⟨.int (lo+i),H,I1,⟨t,?_⟩,⟨rfl,rfl⟩,st',λb hb=>(hf b hb).1⟩⟩
  rw[Int.mul_one]
 done:=by
  intro X hP hw hK hc i aA s σ H E I hf st hg;subst hP hw hK;obtain⟨f0,f1,f2,f3,f4,f5⟩:=hf it (by simp)
  exact wpAny_pyNext_range_end (I.ok.hd hc) st (by have:n<=i:=hg;omega) λh' eb=>⟨rfl,I.turned (t':=s.toks) (λb o hb e=>eb b o hb e) f0 f1 f3 f4 f5⟩
 self:=λ_ _ _ _ _ st h=>wpAny_pyIter_rangeiter st h
def qR(K:Fg)(tl:TE):TI:=λσ H R=>tl σ H λx H1=>∃a,x=.ref a/\(∃xs,SqL K H1 a xs)/\R (Itl K a) H1
def iTup(K:Fg)(tl:TE):TI:=λσ H R=>tl σ H λx H1=>∃a,x=.ref a/\(∃xs,SqT K H1 a xs)/\R (Itt K a) H1
def aEC{l:Expr}(hl:PE X l tl):PI X tg l (qR X.K tl):=by
 intro aA s σ H R I h;refine thn (hl aA s σ H _ I h) λv s1 ⟨x,H1,I1,r1,q1⟩=>?_;obtain⟨a,e,⟨xs,hq⟩,q⟩:=q1;subst e;cases r1;obtain⟨its,rv,p,hz⟩:=I1.list hq;refine aT9 p.isList ?_;refine⟨s1.heap.objs.size,[s1.heap.objs.size],_,_,H1,rfl,I1.kept (t':=s1.toks) λb o e=>hps e,aD9 a _,⟨_,aTI _ rfl,rfl,rfl⟩,λb hb=>?_,q⟩;have e:b=s1.heap.objs.size:=by simpa using hb
 subst e;exact I1.fpOk (aUA _) (I1.hok.fresh (aUA _))
def aED{l:Expr}(hl:PE X l tl):PI X tg l (iTup X.K tl):=by
 intro aA s σ H R I h;refine thn (hl aA s σ H _ I h) λv s1 ⟨x,H1,I1,r1,q1⟩=>?_;obtain⟨a,e,⟨xs,hq⟩,q⟩:=q1;subst e;cases r1;obtain⟨its,rv,p,hz⟩:=I1.tuple hq;refine aUB (show s1.heap.IsTuple a its.toArray from p) ?_
 refine⟨s1.heap.objs.size,[s1.heap.objs.size],_,_,H1,rfl,I1.kept (t':=s1.toks) λb o e=>hps e,aEA a _,⟨_,aTI _ rfl,rfl,rfl⟩,λb hb=>?_,q⟩;have e:b=s1.heap.objs.size:=by simpa using hb
 subst e;exact I1.fpOk (aUA _) (I1.hok.fresh (aUA _))
def aEE{σ:St}{R:It->Hp->Prop}{E:VSP}{lo hi:Int}{t u v:Tok}{tk:Nat}(I:Inv X aA σ H s)(h1:-(2 ^ 62)<=lo)(h2:lo<2 ^ 62)(h3:-(2 ^ 62)<=hi)(h4:hi<2 ^ 62)(q:R (Itr lo (hi-lo).toNat) H):wpAny (model X.prog X.w) X.A (pyIter (.ref s.heap.objs.size)) (PIE X aA σ tg R) E { s with heap:=s.heap.push { cls:=.type "range", data:=.fields #[.int lo t,.int hi u,.int 1 v] },toks:=tk }:=by
 refine wpAny_pyIter_range (IsRange.new ..) (small_one h1 h2 h3 h4) ?_;have I1:Inv X aA σ H { s with heap:=s.heap.push { cls:=.type "range", data:=.fields #[.int lo t,.int hi u,.int 1 v] },toks:=tk }:=I.kept λb o e=>hps e
 refine⟨(s.heap.push { cls:=.type "range", data:=.fields #[.int lo t,.int hi u,.int 1 v] }).objs.size,[(s.heap.push { cls:=.type "range", data:=.fields #[.int lo t,.int hi u,.int 1 v] }).objs.size],_,_,H,rfl,
  I1.kept (t':=tk) λb o e=>hps e,aEB _ lo (hi-lo).toNat,?_,λb hb=>?_,q⟩
 . have e1:lo+((0:Nat):Int) * 1=lo:=by simp
   have e2:(((hi-lo).toNat:Nat):Int)-((0:Nat):Int)=Builtin.Range.rangeSize lo hi 1:=by rw[rangeSize_one];split <;> omega
   show IsRangeIter _ _ (lo+((0:Nat):Int) * 1) ((((hi-lo).toNat:Nat):Int)-((0:Nat):Int)) 1;rw[e1,e2];exact aTI _ rfl
 . have e:b=(s.heap.push { cls:=.type "range", data:=.fields #[.int lo t,.int hi u,.int 1 v] }).objs.size:=by simpa using hb
   subst e;exact I1.fpOk (aUA _) (I1.hok.fresh (aUA _))
def vD(ta:TA):TI:=λσ H R=>ta σ H λvs H1=>∃j:Int,vs=[.int j] /\ -(2 ^ 62)<=j/\j<2 ^ 62/\R (Itr 0 j.toNat) H1
def aEF{a:Expr}{ta:TA}(hg:Gl X "range")(hm:X.mg "range" = none)(ha:PA X [a] ta)(hs:starEach [a] X.env=[(false,eval a X.env)]:=by rfl):PI X tg (.Call (.Name "range" p) [a] [] pos) (vD ta):=by
 intro aA s σ H R I h;refine Call_ (iY I hg hm boot_range (aUC (thn (ha pos aA s σ H _ I h) λus s1 ⟨vs,H1,I1,r1,q1⟩=>?_) hs rfl));obtain⟨j,e,q1,q2,q⟩:=q1;subst e;cases r1 with
 |cons r rr=>cases rr;obtain⟨t,rfl⟩:=r;exact call_range_1 (aEE I1 (by omega) (by omega) q1 q2 (by simpa using q))
def qS(wi:TI)(g:TG)(tb:TS):TS:=λD σ H=>wi σ H λJ H1=>∃W:Nat->Nat->St->Hp->Prop,(∃m,W 0 m σ H1)/\∀i m σ H,W i m σ H ->
 (J.stop i H/\D.nx σ H)\/(J.go i H/\∃N:St->Hp->Prop,(∀σ' H',N σ' H'->∃m',m'<m/\W (i+1) m' σ' H')/\∀x H',J.yld i H x H'->g x σ H' λσ2 H2=>tb {D with nx:=N,ct:=N,bk:=D.nx} σ2 H2)
def lD(fp:List Addr)(h:Heap):LAO:=fp.filterMap λb=>(h.get? b).map λo=>(b,o)
def qT{o:Obj}(hb:b∈fp)(e:h.get? b=some o):(b,o)∈lD fp h:=aUD.mpr ⟨b,hb,by rw[e];rfl⟩
def aEG{p:Addr×Obj}(hp:p∈lD fp h):p.1∈fp/\h.get? p.1=some p.2:=by
 obtain⟨b,hb,e⟩:=aUD.mp hp;cases q:h.get? b with
 |none=>rw[q]at e;cases e
 |some o=>rw[q]at e;have e':(b,o)=p:=aTZ e;subst e';exact⟨hb,q⟩
def Inv.pinned{σ:St}(I:Inv X aA σ H s)(hf:∀b∈fp,cF X aA H b)(ho:∀b∈fp,∃o,s.heap.get? b=some o/\∀v,o.data ≠ .cell v):Inv X (aA++lD fp s.heap) σ H s :=
 I.pins_of λp hp=>(aTU.mp hp).elim (λz=>I.pin p (aUE _ z)) λz=>by obtain⟨hb,e⟩:=aEG z;obtain⟨f0,f1,f2,_⟩:=hf p.1 hb;obtain⟨o,e',d⟩:=ho p.1 hb;rw[e]at e';cases e';exact⟨e,f0,f1,f2,d⟩
def Inv.unpinned{pl:LAO}{σ:St}(I:Inv X (aA++pl) σ H s):Inv X aA σ H s:=I.pins_of λp hp=>I.pin p (aUE _ (aTV _ hp))
def vE{g:TG}{tb:TS}(hp:PassesOwn (model X.prog X.w) X.A X.env X.xe)(hc:X.calm=true)(hi:PI X tg aV wi)(hg:PG X tg g)(hb:PSs X body tb)(hs:∀x,foldedSetIterable aV X.env x=pure x:=by intro _;rfl):PS X (.For tg aV body [] pos) (qS wi g tb):=by
 intro aA s σ H D I h;refine wpAny_For (thn (hi aA s σ H _ I h) λv s1 h1=>thn h1 λitv s2 h2=>?_) hs;obtain⟨it,fp,tn,J,H2,e,I2,T,st2,f2,W,⟨m0,w0⟩,turn⟩:=h2;subst e;have stat:∀{H':Hp},(∀b∈fp,H' b=none)->∀b∈fp,cF X aA H' b:=λhn b hb=>⟨hn b hb,(f2 b hb).2⟩;refine codeAny_forLoop_any (λn s'=>∃i σ' H',Inv X aA σ' H' s'/\tn i s'.heap/\(∀b∈fp,H' b=none)/\W i n σ' H') ?_ m0 ⟨0,σ,H2,I2,st2,λb hb=>(f2 b hb).1,w0⟩;rintro n s3 ⟨i,σ3,H3,I3,st3,fr3,w3⟩;rcases turn i n σ3 H3 w3 with⟨stop,qn⟩|⟨go,N,hN,step⟩
 . refine aT4 hp (thn (T.done X rfl rfl rfl hc i aA s3 σ3 H3 X.xe I3 (stat fr3) st3 stop) λr s4 ⟨hr,I4⟩=>?_);subst hr;exact aT3 ⟨σ3,H3,I4,qn⟩
 . refine aT4 hp (thn (T.item X rfl rfl rfl hc i aA s3 σ3 H3 X.xe I3 (stat fr3) st3 go) λr s4 ⟨u,hr,h4⟩=>?_);subst hr;refine aT4 hp (thn h4 λ_ s5 ⟨x,H5,I5,r5,y5,st5,fr5⟩=>?_);have I5':=I5.pinned (stat fr5) (T.obj _ _ st5);refine aT4 hp (thn (hg _ s5 σ3 H5 x u _ I5' r5 (step x H5 y5)) λ_ s6 ⟨σ6,H6,I6,q6⟩=>?_);refine aT4 hp (thn (hb _ s6 σ6 H6 _ I6 q6) λf s7 q7=>?_);have again:∀{σ7:St}{H7:Hp},Inv X (aA++lD fp s5.heap) σ7 H7 s7->N σ7 H7->∃m,m<n/\∃i σ' H',Inv X aA σ' H' s7/\tn i s7.heap/\(∀b∈fp,H' b=none)/\W i m σ' H':=λ{σ7 H7} I7 n7=>by obtain⟨m',hm,w7⟩:=hN σ7 H7 n7;refine⟨m',hm,i+1,σ7,H7,I7.unpinned,T.keep _ _ _ st5 λb hb o e=>(I7.pin (b,o) (aUE _ (aUE _ (qT hb e)))).1,λb hb=>?_,w7⟩;obtain⟨o,e,d⟩:=T.obj _ _ st5 b hb;exact(I7.pin (b,o) (aUE _ (aUE _ (qT hb e)))).2.1
   cases f with
   |next=>obtain⟨σ7,H7,I7,n7⟩:=q7;exact again I7 n7
   |cont=>obtain⟨σ7,H7,I7,n7⟩:=q7;exact again I7 n7
   |brk=>obtain⟨σ7,H7,I7,q7⟩:=q7;exact⟨σ7,H7,I7.unpinned,q7⟩
   |ret v=>obtain⟨x7,σ7,H7,I7,r7,q7⟩:=q7;exact⟨x7,σ7,H7,I7.unpinned,r7,q7⟩
abbrev R2:=V->V->Hp->VK->Prop
def OpR(X:Cx)(f:aZN->aZN->Sem aZN)(r:R2):Prop :=
 ∀(aA:LAO) (s:aZO) (σ:St) (H:Hp) (x y:V) (v u:aZN) (Q:VK),Inv X aA σ H s->aI x v->aI y u->r x y H Q ->
  wpAny (model X.prog X.w) X.A (f v u) (EP X aA σ Q) X.xe s
def UnR(X:Cx)(f:aZN->Sem aZN)(r:V->Hp->VK->Prop):Prop :=
 ∀(aA:LAO) (s:aZO) (σ:St) (H:Hp) (x:V) (v:aZN) (Q:VK),Inv X aA σ H s->aI x v->r x H Q ->
  wpAny (model X.prog X.w) X.A (f v) (EP X aA σ Q) X.xe s
def eK(X:Cx)(f:aZN)(r:List V->Hp->VK->Prop):Prop :=
 ∀(aA:LAO) (s:aZO) (σ:St) (H:Hp) (xs:List V) (us:List aZN) (Q:VK),Inv X aA σ H s->aJ xs us->r xs H Q ->
  wpAny (model X.prog X.w) X.A (call f us) (EP X aA σ Q) X.xe s
def TruR(X:Cx)(r:V->Hp->(Bool->Hp->Prop)->Prop):Prop :=
 ∀(aA:LAO) (s:aZO) (σ:St) (H:Hp) (x:V) (v:aZN) (Q:Bool->Hp->Prop),Inv X aA σ H s->aI x v->r x H Q ->
  wpAny (model X.prog X.w) X.A (truthy v) (TP X aA σ Q) X.xe s
def tOp(r:R2)(ta tb:TE):TE:=λσ H Q=>ta σ H λx H1=>tb σ H1 λy H2=>r x y H2 Q
def tUn(r:V->Hp->VK->Prop)(ta:TE):TE:=λσ H Q=>ta σ H λx H1=>r x H1 Q
def rI(C:Int->Int->Prop)(g:Int->Int->V):R2:=λx y H Q=>∃i j,x=.int i/\y=.int j/\C i j/\Q (g i j) H
def rI0(g:Int->Int->V):R2:=λx y H Q=>∃i j,x=.int i/\y=.int j/\Q (g i j) H
def rU(g:Int->V):V->Hp->VK->Prop:=λx H Q=>∃i,x=.int i/\Q (g i) H
section
variable {a b c:Expr}{tb tc:TE}
def qU(ha:PE X a ta)(hb:PE X b tb){σ:St}{R:V->V->Hp->Prop}(I:Inv X aA σ H s)(h:ta σ H λx H1=>tb σ H1 λy H2=>R x y H2){Q:VSP}{f:aZN->aZN->Sem aZN}(hf:∀v u s2 x y H2,Inv X aA σ H2 s2->aI x v->aI y u->R x y H2->wpAny (model X.prog X.w) X.A (f v u) Q X.xe s2):wpAny (model X.prog X.w) X.A (eval a X.env) (λv s₁=>wpAny (model X.prog X.w) X.A (eval b X.env) (λu s₂=>wpAny (model X.prog X.w) X.A (f v u) Q X.xe s₂) X.xe s₁) X.xe s:=by refine thn (ha aA s σ H _ I h) λv s1 ⟨x,H1,I1,r1,q1⟩=>?_;refine thn (hb aA s1 σ H1 _ I1 q1) λu s2 ⟨y,H2,I2,r2,q2⟩=>?_;exact hf v u s2 x y H2 I2 r1 r2 q2
def vF{op:Operator}{r:R2}(ho:OpR X (binaryOp op) r)(ha:PE X a ta)(hb:PE X b tb):PE X (.BinOp a op b pos) (tOp r ta tb):=by intro aA s σ H Q I h;exact wpAny_BinOp (qU ha hb I h λv u s2 x y H2 I2 rx ry q=>ho aA s2 σ H2 x y v u Q I2 rx ry q)
def pe_un{op:UnaryOp}{r:V->Hp->VK->Prop}(ho:UnR X (unaryOp op) r)(ha:PE X a ta):PE X (.UnaryOp op a pos) (tUn r ta):=by intro aA s σ H Q I h;exact UnaryOp_ (thn (ha aA s σ H _ I h) λv s1 ⟨x,H1,I1,r1,q1⟩=>ho aA s1 σ H1 x v Q I1 r1 q1)
def opI{f:aZN->aZN->Sem aZN}{C:Int->Int->Prop}{g:Int->Int->Int}(rule:∀(i j:Int) (t u:Tok) (s:aZO) (Q:VSP) (E:VSP),C i j->Q (.int (g i j) s.toks) {s with toks:=s.toks+1} -> wpAny (model X.prog X.w) X.A (f (.int i t) (.int j u)) Q E s):OpR X f (rI C λi j=>.int (g i j)):=by intro aA s σ H x y v u Q I rx ry h;obtain⟨i,j,rfl,rfl,hc,q⟩:=h;obtain⟨t,rfl⟩:=rx;obtain⟨t',rfl⟩:=ry;exact rule i j t t' s _ _ hc ⟨.int (g i j),H,I.tok _,⟨_,rfl⟩,q⟩
def opI0{f:aZN->aZN->Sem aZN}{g:Int->Int->Int}(rule:∀(i j:Int) (t u:Tok) (s:aZO) (Q:VSP) (E:VSP),Q (.int (g i j) s.toks) {s with toks:=s.toks+1} -> wpAny (model X.prog X.w) X.A (f (.int i t) (.int j u)) Q E s):OpR X f (rI0 λi j=>.int (g i j)):=by intro aA s σ H x y v u Q I rx ry h;obtain⟨i,j,rfl,rfl,q⟩:=h;obtain⟨t,rfl⟩:=rx;obtain⟨t',rfl⟩:=ry;exact rule i j t t' s _ _ ⟨.int (g i j),H,I.tok _,⟨_,rfl⟩,q⟩
def nM{f:aZN->aZN->Sem aZN}{g:Int->Int->Bool}(rule:∀(i j:Int) (t u:Tok) (s:aZO) (Q:VSP) (E:VSP),Q (.bool (g i j)) s->wpAny (model X.prog X.w) X.A (f (.int i t) (.int j u)) Q E s):OpR X f (rI0 λi j=>.bl (g i j)):=by intro aA s σ H x y v u Q I rx ry h;obtain⟨i,j,rfl,rfl,q⟩:=h;obtain⟨t,rfl⟩:=rx;obtain⟨t',rfl⟩:=ry;exact rule i j t t' s _ _ ⟨.bl (g i j),H,I,rfl,q⟩
def CPow(i j:Int):Prop:=0<=j/\j<=1000000/\i.natAbs<2 ^ 64
def aEH:OpR X (binaryOp .Add) (rI0 λi j=>.int (i+j)):=opI0 λ_ _ _ _ _ _ _ q=>add_int q
def aEI:OpR X (binaryOp .Sub) (rI0 λi j=>.int (i-j)):=opI0 λ_ _ _ _ _ _ _ q=>sub_int q
def aEJ:OpR X (binaryOp .Mod) (rI (λ_ j=>0<j) λi j=>.int (i % j)):=opI λi j _ _ _ _ _ hc q=>by have h1:(0:Int)<j:=hc;exact mod_int' (by omega) (by rw[Int.fmod_eq_emod_of_nonneg i (by omega)];exact q)
def aEK:OpR X (binaryOp .Pow) (rI CPow λi j=>.int (i ^ j.toNat)):=opI λ_ _ _ _ _ _ _ hc q=>pow_int_small hc.1 hc.2.1 hc.2.2 q
def unI{f:aZN->Sem aZN}{g:Int->Int}(rule:∀(i:Int) (t:Tok) (s:aZO) (Q:VSP) (E:VSP),Q (.int (g i) s.toks) {s with toks:=s.toks+1} -> wpAny (model X.prog X.w) X.A (f (.int i t)) Q E s):UnR X f (rU λi=>.int (g i)):=by intro aA s σ H x v Q I rx h;obtain⟨i,rfl,q⟩:=h;obtain⟨t,rfl⟩:=rx;exact rule i t s _ _ ⟨.int (g i),H,I.tok _,⟨_,rfl⟩,q⟩
def aEL:UnR X (unaryOp .USub) (rU λi=>.int (-i)):=unI λ_ _ _ _ _ q=>neg_int q
end
section
variable {a b c:Expr}{tb tc:TE}
def lE{σ:St}{Q:VK}{k k':Bool}(I:Inv X aA σ H s)(q:Q (.bl k) H)(e:k=k'):EP X aA σ Q (.bool k') s:=by subst e;exact⟨.bl k,H,I,rfl,q⟩
def op_lt:OpR X (compareOp .Lt) (rI0 λi j=>.bl (decide (i<j))):=nM λ_ _ _ _ _ _ _ q=>lt_int q
def op_le:OpR X (compareOp .LtE) (rI0 λi j=>.bl (decide (i<=j))):=nM λ_ _ _ _ _ _ _ q=>le_int q
def op_gt:OpR X (compareOp .Gt) (rI0 λi j=>.bl (decide (j<i))):=nM λ_ _ _ _ _ _ _ q=>gt_int q
def op_ge:OpR X (compareOp .GtE) (rI0 λi j=>.bl (decide (j<=i))):=nM λ_ _ _ _ _ _ _ q=>ge_int q
def aEM:OpR X (compareOp .Lt) (λx y H Q=>∃i j,x=.str i/\y=.str j/\Q (.bl (decide (i.cps.toList<j.cps.toList))) H):=by intro aA s σ H x y v u Q I rx ry h;obtain⟨i,j,rfl,rfl,q⟩:=h;obtain⟨t,rfl⟩:=rx;obtain⟨t',rfl⟩:=ry;exact lt_str (lE I q rfl)
def aEN:OpR X (compareOp .In) (λx y H Q=>∃i j,x=.str i/\y=.str j/\Q (.bl (!(Builtin.Str.occurrences j i 0 j.length 1).isEmpty)) H):=by intro aA s σ H x y v u Q I rx ry h;obtain⟨i,j,rfl,rfl,q⟩:=h;obtain⟨t,rfl⟩:=rx;obtain⟨t',rfl⟩:=ry;exact in_str (lE I q rfl)
def aEO:OpR X (compareOp .Is) (λx y H Q=>y=.non/\Q (.bl (decide (x=.non))) H):=by
 intro aA s σ H x y v u Q I rx ry h;obtain⟨rfl,q⟩:=h;cases ry;refine is_none_gen (lE I q ?_);cases x <;> first
  |(cases rx;rfl)
  |(obtain⟨t,rfl⟩:=rx;rfl)
def aEP:OpR X (compareOp .IsNot) (λx y H Q=>y=.non/\Q (.bl (!decide (x=.non))) H):=by
 intro aA s σ H x y v u Q I rx ry h;obtain⟨rfl,q⟩:=h;cases ry;refine isnot_none_gen (lE I q ?_);cases x <;> first
  |(cases rx;rfl)
  |(obtain⟨t,rfl⟩:=rx;rfl)
def aEQ:OpR X (compareOp .NotIn) (λx y H Q=>∃i j,x=.str i/\y=.str j/\Q (.bl (!(!(Builtin.Str.occurrences j i 0 j.length 1).isEmpty))) H):=by intro aA s σ H x y v u Q I rx ry h;obtain⟨i,j,rfl,rfl,q⟩:=h;obtain⟨t,rfl⟩:=rx;obtain⟨t',rfl⟩:=ry;exact notIn_str (lE I q rfl)
def OpR.or{f:aZN->aZN->Sem aZN}{r r':R2}(h:OpR X f r)(h':OpR X f r'):OpR X f (λx y H Q=>r x y H Q\/r' x y H Q):=by
 intro aA s σ H x y v u Q I rx ry q;rcases q with q|q
 . exact h aA s σ H x y v u Q I rx ry q
 . exact h' aA s σ H x y v u Q I rx ry q
def aER{op:CmpOp}{r:R2}(ho:OpR X (compareOp op) r)(ha:PE X a ta)(hb:PE X b tb)(hm:behindInMarks op b=false):PE X (.Compare a [op] [b] pos) (tOp r ta tb):=by intro aA s σ H Q I h;exact wpAny_Compare1 (qU ha hb I h λv u s2 x y H2 I2 rx ry q=>ho aA s2 σ H2 x y v u Q I2 rx ry q) hm
def nN(t:TE):TT:=λσ H Q=>t σ H λx H'=>∃k,x=.bl k/\Q k H'
def aES{op:CmpOp}{r:R2}(ho:OpR X (compareOp op) r)(ha:PE X a ta)(hb:PE X b tb)(hm:behindInMarks op b=false):PT X (.Compare a [op] [b] pos) (nN (tOp r ta tb)):=by
 intro aA s σ H Q I h;refine wpAny_isTrue_Compare1 (thn (ha aA s σ H _ I h) λv s1 ⟨x,H1,I1,r1,q1⟩=>thn (hb aA s1 σ H1 _ I1 q1) λu s2 ⟨y,H2,I2,r2,q2⟩ =>
  thn (ho aA s2 σ H2 x y v u _ I2 r1 r2 q2) λc s3 ⟨z,H3,I3,r3,k,e,q3⟩=>?_) hm
 subst e;cases r3;exact aT1 ⟨H3,I3,q3⟩
def nO(r r':R2)(ta tb tc:TE):TE:=λσ H Q=>ta σ H λx H1=>tb σ H1 λy H2=>r x y H2 λz H3=>∃k,z=.bl k /\
 (if k=true then tc σ H3 λw' H4=>r' y w' H4 Q else Q (.bl false) H3)
def aET{op op':CmpOp}{r r':R2}(ho:OpR X (compareOp op) r)(ho':OpR X (compareOp op') r')(ha:PE X a ta)(hb:PE X b tb)(hc:PE X c tc)(hm:lastMarks [op,op'] [b,c]=false:=by with_unfolding_all rfl):PE X (.Compare a [op,op'] [b,c] pos) (nO r r' ta tb tc):=by
 intro aA s σ H Q I h;refine Compare_chain (thn (ha aA s σ H _ I h) λv s1 ⟨x,H1,I1,r1,q1⟩=>chain_link (thn (hb aA s1 σ H1 _ I1 q1) λu s2 ⟨y,H2,I2,r2,q2⟩ =>
  thn (ho aA s2 σ H2 x y v u _ I2 r1 r2 q2) λd s3 ⟨z,H3,I3,r3,k,e,q3⟩=>?_)) hm
 subst e;cases r3;refine aT1 ?_;cases k with
 |false=>exact ite_ff ⟨.bl false,H3,I3,rfl,q3⟩
 |true=>exact ite_tt (chain_last (thn (hc aA s3 σ H3 _ I3 q3) λw' s4 ⟨z',H4,I4,r4,q4⟩=>ho' aA s4 σ H4 y z' u w' Q I4 r2 r4 q4))
def aEU{op op':CmpOp}{r r':R2}(ho:OpR X (compareOp op) r)(ho':OpR X (compareOp op') r')(ha:PE X a ta)(hb:PE X b tb)(hc:PE X c tc)(hm:lastMarks [op,op'] [b,c]=false:=by with_unfolding_all rfl):PT X (.Compare a [op,op'] [b,c] pos) (nN (nO r r' ta tb tc)):=by
 intro aA s σ H Q I h;refine isTrue_chain (thn (ha aA s σ H _ I h) λv s1 ⟨x,H1,I1,r1,q1⟩=>test_link (thn (hb aA s1 σ H1 _ I1 q1) λu s2 ⟨y,H2,I2,r2,q2⟩ =>
  thn (ho aA s2 σ H2 x y v u _ I2 r1 r2 q2) λd s3 ⟨z,H3,I3,r3,k,e,q3⟩=>?_)) hm
 subst e;cases r3;refine aT1 ?_;cases k with
 |false=>obtain⟨k',e',q'⟩:=q3;cases e';exact ite_ff ⟨H3,I3,q'⟩
 |true=>refine ite_tt (test_last (thn (hc aA s3 σ H3 _ I3 q3) λw' s4 ⟨z',H4,I4,r4,q4⟩=>thn (ho' aA s4 σ H4 y z' u w' _ I4 r2 r4 q4) λd' s5 ⟨z2,H5,I5,r5,k2,e2,q5⟩=>?_));subst e2;cases r5;exact aT1 ⟨H5,I5,q5⟩
def qV(K:Fg)(x:V)(H:Hp)(k:Bool):Prop :=
 match x with
 |.non=>k=false
 |.bl b=>k=b
 |.int i=>k=(i != 0)
 |.str y=>y.length<=sizeLine/\k=((y.length:Int) != 0)
 |.byt y=>y.size<=sizeLine/\k=((y.size:Int) != 0)
 |.ref p=>(∃xs,SqL K H p xs/\k = !xs.isEmpty)\/(∃xs,SqT K H p xs/\k = !xs.isEmpty)\/∃kvs,H p=some (.dK kvs)/\k = !kvs.isEmpty
 |_=>False
def aEV{kvs:List (κ×V)}{vs:List (κ×aZN)}(r:KV kvs vs):(!vs.isEmpty) = !kvs.isEmpty:=by cases r <;> rfl
def vG{xs:List V}{its:List aZN}(r:aJ xs its):(!its.toArray.isEmpty) = !xs.isEmpty:=by cases r <;> simp
def lF:(sizeLine:Nat)<2 ^ 63:=by rw[aUF];decide
def aEW:TruR X (λx H Q=>∃k,qV X.K x H k/\Q k H):=by
 intro aA s σ H x v Q I rx h;obtain⟨k,e,q⟩:=h;have hl:=lF;have hs:sizeLine=16777216:=aUF;cases x with
 |non=>cases rx;have e':k=false:=e;subst e';exact truthy_none ⟨H,I,q⟩
 |bl b=>cases rx;have e':k=b:=e;subst e';exact aT1 ⟨H,I,q⟩
 |int i=>obtain⟨t,rfl⟩:=rx;have e':k=(i != 0):=e;subst e';exact PySem.P.truthy_int ⟨H,I,q⟩
 |str y=>obtain⟨t,rfl⟩:=rx;obtain⟨hy,e'⟩:y.length<=sizeLine/\k=((y.length:Int) != 0):=e;subst e';exact PySem.P.truthy_str (by omega) ⟨H,I.tok _,q⟩
 |byt y=>obtain⟨t,rfl⟩:=rx;obtain⟨hy,e'⟩:y.size<=sizeLine/\k=((y.size:Int) != 0):=e;subst e';exact W.truthy_bytes (by omega) ⟨H,I.tok _,q⟩
 |ref p =>
  cases rx;have e':(∃xs,SqL X.K H p xs/\k = !xs.isEmpty)\/(∃xs,SqT X.K H p xs/\k = !xs.isEmpty)\/∃kvs,H p=some (.dK kvs)/\k = !kvs.isEmpty:=e;rcases e' with⟨xs,hx,e'⟩|⟨xs,hx,e'⟩|⟨kvs,hx,e'⟩
  . subst e';obtain⟨its,r,pl,hz⟩:=I.list hx;have hlen:=r.length;exact wpAny_truthy_list pl.isList (by simp only[aUG];omega) ⟨H,I.tok _,by rw[vG r];exact q⟩
  . subst e';obtain⟨its,r,pl,hz⟩:=I.tuple hx;have hlen:=r.length;exact truthy_tuple pl (by simp only[aUG];omega) ⟨H,I.tok _,by rw[vG r];exact q⟩
  . subst e';obtain⟨hz,hS,vs,r,m⟩:kvs.length<=sizeLine/\(p==sysModules)=false/\∃vs,KV kvs vs/\s.heap.DictOf (jU X.prog X.w) p vs:=I.hok p _ hx;have hlen:kvs.length=vs.length:=aTH r;exact wpAny_truthy_dict hS m (by omega) ⟨H,I.tok _,by rw[aEV r];exact q⟩
 |_=>exact(show False from e).elim
def aEX (ha : PE X a ta) (he : ∀ cY, isTrue a X.env cY = (do let v ← cY; standAt a.pos; holding [v] (truthy v))) :
    PT X a (λσ H Q=>ta σ H λx H'=>∃k,qV X.K x H' k/\Q k H'):=by
 intro aA s σ H Q I h;exact isTrue_plain (thn (ha aA s σ H _ I h) λv s1 ⟨x,H1,I1,r1,q1⟩=>aEW aA s1 σ H1 x v Q I1 r1 q1) (he _)
def aEY:OpR X (binaryOp .Add) (λx y H Q=>∃i j,x=.str i/\y=.str j/\i.length+j.length<=sizeLine/\Q (.str (i++j)) H):=by intro aA s σ H x y v u Q I rx ry h;obtain⟨i,j,rfl,rfl,hz,q⟩:=h;obtain⟨t,rfl⟩:=rx;obtain⟨t',rfl⟩:=ry;exact add_str (λt' tk=>⟨.str (i++j),H,I.tok _,⟨_,rfl⟩,q⟩) hz
def dX{x:V}{us:List aZN}(r:aJ [x] us):∃u,us=[u]/\aI x u:=by
 cases r with
 |cons r1 r2=>cases r2;exact⟨_,rfl,r1⟩
def vH{x y:V}{us:List aZN}(r:aJ [x,y] us):∃u w',us=[u,w']/\aI x u/\aI y w':=by
 cases r with
 |cons r1 r2 =>
  cases r2 with
  |cons r3 r4=>cases r4;exact⟨_,_,rfl,r1,r3⟩
def aEZ(hc:X.calm=true):eK X (.builtin "min") (λxs H Q=>∃i j,xs=[.int i,.int j]/\Q (.int (if j<i then j else i)) H):=by
 intro aA s σ H xs us Q I r h;obtain⟨i,j,rfl,q⟩:=h;obtain⟨u,w',rfl,⟨t,rfl⟩,⟨t',rfl⟩⟩:=vH r;refine min_two_ints (I.ok.hd hc) λh' tk k=>⟨_,H,I.kept k,?_,q⟩;by_cases hj:j<i
 . rw[if_pos hj,if_pos hj];exact⟨_,rfl⟩
 . rw[if_neg hj,if_neg hj];exact⟨_,rfl⟩
def aE0:eK X (.type "int") (λxs H Q=>(∃i,xs=[.int i]/\Q (.int i) H)\/∃k,xs=[.bl k]/\Q (.int (if k then 1 else 0)) H):=by
 intro aA s σ H xs us Q I r h;rcases h with⟨i,rfl,q⟩|⟨k,rfl,q⟩
 . obtain⟨u,rfl,t,rfl⟩:=dX r;exact call_int_int ⟨.int i,H,I,⟨_,rfl⟩,q⟩
 . obtain⟨u,rfl,r1⟩:=dX r;cases r1;exact call_int_bool ⟨.int (if k then 1 else 0),H,I.tok _,⟨_,rfl⟩,q⟩
def aE1:eK X (.type "str") (λxs H Q=>∃i,xs=[.int i]/\i.natAbs.log2<1920/\Q (.str (toString i)) H):=by intro aA s σ H xs us Q I r h;obtain⟨i,rfl,hz,q⟩:=h;obtain⟨u,rfl,t,rfl⟩:=dX r;exact PySem.P.str_of_int hz ⟨.str _,H,I.tok _,⟨_,rfl⟩,q⟩
def LenV(K:Fg)(x:V)(H:Hp)(n:Nat):Prop :=
 match x with
 |.str y=>y.length<=sizeLine/\n=y.length
 |.byt y=>y.size<=sizeLine/\n=y.size
 |.ref p=>(∃xs,SqL K H p xs/\n=xs.length)\/∃xs,SqT K H p xs/\n=xs.length
 |_=>False
def aE2:eK X (.builtin "len") (λxs H Q=>∃x n,xs=[x]/\LenV X.K x H n/\Q (.int n) H):=by
 intro aA s σ H xs us Q I r h;obtain⟨x,n,rfl,e,q⟩:=h;obtain⟨u,rfl,rx⟩:=dX r;have hl:=lF;have hs:sizeLine=16777216:=aUF;cases x with
 |str y=>obtain⟨t,rfl⟩:=rx;obtain⟨hy,e'⟩:y.length<=sizeLine/\n=y.length:=e;subst e';exact len_str (by omega) ⟨.int _,H,I.tok _,⟨_,rfl⟩,q⟩
 |byt y=>obtain⟨t,rfl⟩:=rx;obtain⟨hy,e'⟩:y.size<=sizeLine/\n=y.size:=e;subst e';exact W.len_bytes (by omega) ⟨.int _,H,I.tok _,⟨_,rfl⟩,q⟩
 |ref p =>
  cases rx;have e':(∃xs,SqL X.K H p xs/\n=xs.length)\/∃xs,SqT X.K H p xs/\n=xs.length:=e;rcases e' with⟨xs,hx,e'⟩|⟨xs,hx,e'⟩
  . subst e';obtain⟨its,r',pl,hz⟩:=I.list hx;have hlen:=r'.length;exact Calls.call_len_list pl.isList (by simp only[aUG];omega) ⟨.int xs.length,H,I.tok _,⟨_,by simp only[aUG];rw[hlen]⟩,q⟩
  . subst e';obtain⟨its,r',pl,hz⟩:=I.tuple hx;have hlen:=r'.length;exact len_tuple pl (by simp only[aUG];omega) ⟨.int xs.length,H,I.tok _,⟨_,by simp only[aUG];rw[hlen]⟩,q⟩
 |_=>exact(show False from e).elim
end
structure iZ(h:Heap)(x dx C:Addr)(mA:SOV):Prop where
 obj:h.get? x=some (W.instObj C dx)
 ns:h.Ns1 dx mA
 ne:dx≠x
def aE3(n:h.Ns1 dx mA):∃od,h.get? dx=some od/\∀name,W.lookIn name od=some (mA name):=by
 obtain⟨o,es,ep,ho,hd,hk,_,hm⟩:=n;refine⟨o,ho,λname=>?_⟩;have e:=hm name;unfold nsFind findBy at e;rw[<- Array.find?_toList]at e;unfold W.lookIn;rw[hd];dsimp only;split
 . rename_i y q;rw[q]at e;exact congrArg some e
 . rename_i q;rw[q]at e;have a:es.toList.any (·.refKey)=false:=by rw[List.any_eq_false];intro y hy;obtain⟨z,t,hkey⟩:=hk y (aUH.mp hy);simp[DictEntry.refKey,hkey]
   have a':¬ es.toList.any (·.refKey)=true:=by rw[a];exact aT5
   rw[if_neg a'];exact congrArg some e
def iZ.look{x C:Addr}(I:iZ h x dx C mA):∃od,W.InstAt h x (W.instObj C dx) C (some od)/\∀name,W.lookIn name od=some (mA name) :=
 let⟨od,ho,hl⟩:=aE3 I.ns
 ⟨od,⟨I.obj,rfl,rfl,ho⟩,hl⟩
section
variable {A:aZP}{E:VSP}{x C f:Addr}{name:Str}{v:aZN}
def aE4{expr:Bool}{Q:VSP}(X:K.In s.heap)(I:iZ s.heap x dx C mA)(hg:W.plainGet K C name=true)(hh:W.hasDictIn K C=true)(ha:W.findIn K (.ref C) name=some none)(hv:mA name=some v)(hv':W.handedIn v=true)(h:Q v {s with toks:=s.toks+1}):wpAny (model prog w) A (getAttr (.ref x) name expr) Q E s:=by obtain⟨od,J,hl⟩:=I.look;exact W.get_value X J (W.plainGet_of hg).1 (W.findObj_own hh ha rfl (by rw[hl,hv])) hv' h
def aE5{pl:Sem Bool}{Q:aZN×List aZN->aZO->Prop}(X:K.In s.heap)(I:iZ s.heap x dx C mA)(hg:W.plainGet K C name=true)(hf:W.findIn K (.ref C) name=some (some (.ref f)))(ht:W.isFn K (.ref f)=true)(hv:mA name=none)(h:Q (.ref f,[.ref x]) s):wpAny (model prog w) A (getMethod (.ref x) name pl) Q E s:=by obtain⟨od,J,hl⟩:=I.look;exact W.method_fn X J (W.plainGet_of hg).1 (W.plainGet_of hg).2 hf (aUI.mp ht) (by show(W.lookIn name od).map (·.isSome)=some false;rw[hl,hv];rfl) h
def aE6{ns:List Str}(X:K.In s.heap)(I:iZ s.heap x dx C mA)(hs:W.findIn K (.ref C) "__setattr__" = some (some (.builtin "object.__setattr__")))(hp:W.plainOver K C=true)(ht:W.takerIn K C name=some none)(hh:W.hasDictIn K C=true)(hw:PySem.Within mA ns)(hsz:ns.length<=sizeLine)(h:∀h',iZ h' x dx C (λy=>if y=name then some v else mA y)->Heap.SameBut dx s.heap h'->Q () {s with heap:=h',toks:=s.toks+2}):wpAny (model prog w) A (setAttr (.ref x) name v) Q E s:=by
 obtain⟨od,J,hl⟩:=I.look;refine W.set_plain X J hs (W.osa_open (s:={s with toks:=s.toks+1}) (r:=none) X J hp ht λb=>?_)
 obtain⟨cd,hc,hd'⟩:=W.any_some hh;have hx:s.heap.get? x=some ⟨.ref C,some dx,.plain,#[]⟩:=I.obj;refine aT8 (aT7 (aT8 (aT8 (wpAny_loadPart hx (aT8 (W.Looks.here (s:={s with toks:=s.toks+1}) (W.looks_clsIn X hc) ?_))))))
 rw[hd'];refine aT7 (a:=some dx) (aT8 (aT7 (aT8 ?_)));refine wpAny_nsSet1 (s:={s with toks:=s.toks+1}) I.ns λh' hn2 hs2=>?_
 obtain⟨oD,esD,epD,hoD,hdD,hcD⟩:=hn2.count (PySem.Within.cons name v hw);refine aT8 (wpAny_lookBehind hoD (by rw[hdD];exact pastItsLine_dict (aTQ hcD (by rw[aUJ];omega))) ?_)
 exact aT7 (h _ ⟨(hs2.2 _ (Ne.symm I.ne)).trans I.obj,hn2,I.ne⟩ hs2)
def aE7{R:Result->aZO->Prop}(X:K.In s.heap)(hm:W.makesIn K C=true)(hi:W.findIn K (.ref C) "__init__" = some (some (.ref f)))(hf:W.typeIn K (.ref f)=some (.type "function"))(h:codeAny (model prog w) (A.under (.builtin "type.__call__" ⟨.ref C::vs,kw⟩)) (.call (.ref f) ⟨.ref (s.heap.objs.size+1)::vs,kw⟩) (W.InitBack (s.heap.objs.size+1) R) {s with heap:=(s.heap.push W.emptyDict).push (W.instObj C s.heap.objs.size)}):codeAny (model prog w) A (.call (.ref C) ⟨vs,kw⟩) R s:=by obtain⟨hh,g,d,t,os⟩:=s;exact W.make_core (W.makes_of X hm) (W.looks_findIn X hi) (λself=>W.bind_fn X self hf) (.inl rfl) h
def aE8{R:Result->aZO->Prop}(X:K.In s.heap)(hm:W.makesIn K C=true)(hi:W.findIn K (.ref C) "__init__" = some (some (.builtin "object.__init__")))(hb:∀self,W.Looks (model prog w) s.heap (bindSpecial (.builtin "object.__init__") self) (.builtin "object.__init__", [self]))(h:codeAny (model prog w) (A.under (.builtin "type.__call__" ⟨[.ref C],[]⟩)) (.call (.builtin "object.__init__") ⟨[.ref (s.heap.objs.size+1)],[]⟩) (W.InitBack (s.heap.objs.size+1) R) {s with heap:=(s.heap.push W.emptyDict).push (W.instObj C s.heap.objs.size)}):codeAny (model prog w) A (.call (.ref C) ⟨[],[]⟩) R s:=by obtain⟨hh,g,d,t,os⟩:=s;exact W.make_core (W.makes_of X hm) (W.looks_findIn X hi) hb (.inr ⟨rfl,rfl⟩) h
end
def cM(f:Str)(v:V):List (Str×V)->List (Str×V)
 |[]=>[(f,v)]
 |(g,x)::r=>if g=f then(g,v)::r else(g,x)::cM f v r
theorem vI(f g:Str)(v:V):∀fs:List (Str×V),(cM f v fs).lookup g=if g=f then some v else fs.lookup g
 |[]=>by
  show List.lookup g [(f,v)]=_;by_cases h:g=f
  . have hb:(g==f)=true:=aUI.mpr h;simp only[List.lookup,hb,if_pos h]
  . have hb:(g==f)=false:=aTG.mpr h;simp only[List.lookup,hb,if_neg h]
 |(k,x)::r=>by
  have ih:=vI f g v r;rw[show cM f v ((k,x)::r)=(if k=f then(k,v)::r else(k,x)::cM f v r)from rfl]
  by_cases hk:k=f
  . rw[if_pos hk];by_cases h:g=k
    . have hb:(g==k)=true:=aUI.mpr h;simp only[List.lookup,hb,if_pos (h.trans hk)]
    . have hb:(g==k)=false:=aTG.mpr h;simp only[List.lookup,hb,if_neg (λe:g=f=>h (e.trans hk.symm))]
  . rw[if_neg hk];by_cases h:g=k
    . have hb:(g==k)=true:=aUI.mpr h;simp only[List.lookup,hb,if_neg (λe:g=f=>hk (h.symm.trans e))]
    . have hb:(g==k)=false:=aTG.mpr h;simp only[List.lookup,hb];exact ih
theorem qW(f:Str)(v:V):∀fs:List (Str×V),f∈(cM f v fs).map (·.1)/\∀g,g∈fs.map (·.1)->g∈(cM f v fs).map (·.1)
 |[]=>⟨by simp[cM],λg h=>by simp at h⟩
 |(k,x)::r=>by
  obtain⟨i1,i2⟩:=qW f v r;rw[show cM f v ((k,x)::r)=(if k=f then(k,v)::r else(k,x)::cM f v r)from rfl]
  by_cases hk:k=f
  . rw[if_pos hk];subst hk;exact⟨by simp,λg h=>by simpa using h⟩
  . rw[if_neg hk];refine⟨?_,λg h=>?_⟩
    . rw[aUK];exact mcm i1
    . rw[aUK]at h ⊢;rcases aTT.mp h with e|e
      . exact aTT.mpr (.inl e)
      . exact mcm (i2 g e)
theorem vJ(f:Str)(v:V):∀fs:List (Str×V),(cM f v fs).length<=fs.length+1
 |[]=>by simp[cM]
 |(k,x)::r=>by
  have ih:=vJ f v r;rw[show cM f v ((k,x)::r)=(if k=f then(k,v)::r else(k,x)::cM f v r)from rfl]
  by_cases hk:k=f
  . rw[if_pos hk,aUJ,aUJ];omega
  . rw[if_neg hk,aUJ,aUJ];omega
def c9.some_of{o:Option aZN}(r:c9 (some v) o):∃u,o=some u/\aI v u:=by
 cases o with
 |none=>exact(show False from r).elim
 |some u=>exact⟨u,rfl,r⟩
def c9.none_of{o:Option aZN}(r:c9 none o):o=none:=by
 cases o with
 |none=>rfl
 |some u=>exact(show False from r).elim
def aE9(r:aI v u):W.handedIn u=true:=by
 cases v with
 |non=>cases(show u=Value.none from r);rfl
 |bl b=>cases(show u=Value.bool b from r);rfl
 |int i=>obtain⟨t,e⟩:=(show ∃t,u=Value.int i t from r);cases e;rfl
 |str x=>obtain⟨t,e⟩:=(show ∃t,u=Value.str x t from r);cases e;rfl
 |byt b=>obtain⟨t,e⟩:=(show ∃t,u=Value.bytes b t from r);cases e;rfl
 |flt b=>obtain⟨t,e⟩:=(show ∃t,u=Value.float b t from r);cases e;rfl
 |ref a=>cases(show u=Value.ref a from r);rfl
 |ty n=>cases(show u=Value.type n from r);rfl
section
variable  {a C:Addr}{fs fs':List (Str×V)}
def qX(hok:HOk P w H h)(e:H a=some (.ins C dx fs)):∃mA,iZ h a dx C mA/\(∀f,c9 (fs.lookup f) (mA f))/\PySem.Within mA (fs.map (·.1))/\fs.length<=1000/\H dx=some (.own a):=by
 obtain⟨d,z,ne,ob,mA,n,r,q⟩:=(show bM P w H h a (.ins C dx fs)from hok a _ e)
 exact⟨mA,⟨ob,n,ne⟩,r,q,z,d⟩
end
structure Cls(K:Fg)(C:Addr):Prop where
 pg:W.plainGet K C Str.empty=true
 hd:W.hasDictIn K C=true
 po:W.plainOver K C=true
 sa:W.findIn K (.ref C) "__setattr__" = some (some (.builtin "object.__setattr__"))
def Cls.get{C:Addr}(c:Cls K C)(f:Str):W.plainGet K C f=true:=c.pg
def gL(K:Fg)(C:Addr)(f:Str):Prop:=W.findIn K (.ref C) f=some none
def gL.taker{C:Addr}{f:Str}(n:gL K C f):W.takerIn K C f=some none:=by
 unfold W.takerIn;rw[show W.findIn K (.ref C) f=some none from n]
 rfl
structure lG(K:Fg)(C:Addr)(m:Str)(f:Addr):Prop where
 at_:W.findIn K (.ref C) m=some (some (.ref f))
 fn:W.isFn K (.ref f)=true
 kp:W.keepIn K (.ref f)=true
section
variable {σ:St}{a C:Addr}{fs:List (Str×V)}{f:Str}{A:aZP}{E:VSP}
def aFA{b:Bool}{Q:VSP}(I:Inv X aA σ H s)(e:H a=some (.ins C dx fs))(c:Cls X.K C)(n:gL X.K C f)(l:fs.lookup f=some v)(h:∀u s',Inv X aA σ H s'->aI v u->Q u s'):wpAny (model X.prog X.w) A (getAttr (.ref a) f b) Q E s:=by
 obtain⟨mA,O,r,_,_,_⟩:=qX I.hok e;obtain⟨u,hu,ru⟩:=c9.some_of (v:=v) (o:=mA f) (by rw[<- l];exact r f)
 exact aE4 I.kIn O (c.get f) c.hd n hu (aE9 ru) (h u _ (I.tok _) ru)
def aFB{m:Str}{g:Addr}{pl:Sem Bool}{Q:aZN×List aZN->aZO->Prop}(I:Inv X aA σ H s)(e:H a=some (.ins C dx fs))(c:Cls X.K C)(k:lG X.K C m g)(l:fs.lookup m=none)(h:Q (.ref g,[.ref a]) s):wpAny (model X.prog X.w) A (getMethod (.ref a) m pl) Q E s:=by
 obtain⟨mA,O,r,_,_,_⟩:=qX I.hok e;have hn:mA m=none:=c9.none_of (by rw[<- l];exact r m)
 exact aE5 I.kIn O (c.get m) k.at_ k.fn hn h
def aFC{y:V}(I:Inv X aA σ H s)(e:H a=some (.ins C dx fs))(c:Cls X.K C)(n:gL X.K C f)(hl:fs.length<1000)(ry:aI y u)(h:∀s',Inv X aA σ (upd H a (.ins C dx (cM f y fs))) s'->Q () s'):wpAny (model X.prog X.w) A (setAttr (.ref a) f u) Q E s:=by
 obtain⟨mA,O,r,wi,_,ho⟩:=qX I.hok e;have hz:(fs.map (·.1)).length<=sizeLine:=by rw[aUL,aUF];omega
 refine aE6 I.kIn O c.sa c.po n.taker c.hd wi hz λh' O' sb=>h _ ?_;have hd:∃o,h'.get? dx=some o:=let⟨o,_,_,e',_⟩:=O'.ns;⟨o,e'⟩
 refine I.write (x:=a) (e:=dx) (by rw[e];exact True.intro) (.inr ho) (λb q hb z=>(sb.2 b hb).trans z) hd ?_
 refine⟨by rw[aH O.ne];exact ho,?_,O.ne,O'.obj,_,O'.ns,λg=>?_,λg hg=>?_⟩
 . have:=vJ f y fs;omega
 . show c9 ((cM f y fs).lookup g) (if g=f then some u else mA g);rw[vI];by_cases q:g=f
   . rw[if_pos q,if_pos q];exact ry
   . rw[if_neg q,if_neg q];exact r g
 . by_cases q:g=f
   . rw[q];exact(qW f y fs).1
   . refine(qW f y fs).2 g (wi g λz=>hg ?_);show(if g=f then some u else mA g)=none;rw[if_neg q];exact z
def Inv.made(I:Inv X aA σ H s):Inv X aA σ (upd (upd H s.heap.objs.size (.own (s.heap.objs.size+1))) (s.heap.objs.size+1) (.ins C s.heap.objs.size [])) {s with heap:=(s.heap.push W.emptyDict).push (W.instObj C s.heap.objs.size)}:=by
 have e1:(s.heap.push W.emptyDict).get? s.heap.objs.size=some W.emptyDict:=aTI s.heap rfl;have e2:((s.heap.push W.emptyDict).push (W.instObj C s.heap.objs.size)).get? (s.heap.objs.size+1)=some (W.instObj C s.heap.objs.size):=by
  have:=aTI (s.heap.push W.emptyDict) (o:=W.instObj C s.heap.objs.size) rfl
  rwa [aUM]at this
 have e3:(s.heap.push W.emptyDict).Ns s.heap.objs.size (λ_=>none):=⟨W.emptyDict,#[],_,e1,rfl,(λe he=>absurd he (by simp)),λ_=>rfl⟩
 have I1:=I.laid (a:=s.heap.objs.size) (o:=.own (s.heap.objs.size+1)) (h':=s.heap.push W.emptyDict) (t':=s.toks) (λb u q=>hps q) (aUA _) ⟨_,e1⟩;refine I1.laid (a:=s.heap.objs.size+1) (o:=.ins C s.heap.objs.size []) (t':=s.toks) (λb u q=>hps q) (aUN (aUM _ _)) ?_;have ne:s.heap.objs.size≠s.heap.objs.size+1:=aTM (aUO _);refine⟨by rw[aH ne,aT],aUP _,ne,e2,λ_=>none,(Heap.Ns1.of_empty e3).at λo q=>hps q,λ_=>True.intro,λy hy=>absurd rfl hy⟩
def aFD{f:Str}{Q:VSP}(hb:attributeBase e f env (eval e env)=eval e env)(h:wpAny (model prog w) A (eval e env) (λo s₁=>wpAny (model prog w) A (getAttr o f true) Q E s₁) E s):wpAny (model prog w) A (eval (.Attribute e f pos) env) Q E s :=
 Attribute_any_ h (by rw[arm_eval_Attribute,hb])
end
def tFld(K:Fg)(ta:TE)(f:Str):TE:=λσ H Q=>ta σ H λx H1=>∃a C dx fs v,x=.ref a/\H1 a=some (.ins C dx fs)/\Cls K C/\gL K C f/\fs.lookup f=some v/\Q v H1
def sFld(K:Fg)(ta tv:TE)(f:Str):TS:=λD σ H=>tv σ H λy H1=>ta σ H1 λx H2=>∃a C dx fs,x=.ref a/\H2 a=some (.ins C dx fs)/\Cls K C/\gL K C f/\fs.length<1000 /\
 D.nx σ (upd H2 a (.ins C dx (cM f y fs)))
section
variable  {o value:Expr}{f:Str}{tpos:Pos}{tv:TE}
def aFE(he:PE X e ta)(hb:attributeBase e f X.env (eval e X.env)=eval e X.env):PE X (.Attribute e f pos) (tFld X.K ta f):=by intro aA s σ H Q I h;refine aFD hb (thn (he aA s σ H _ I h) λu s1 ⟨x,H1,I1,rx,a,C,dx,fs,v,ex,ea,c,n,l,q⟩=>?_);subst ex;obtain rfl:u=Value.ref a:=rx;exact aFA I1 ea c n l λu' s2 I2 ru=>⟨v,H1,I2,ru,q⟩
def aFF(ha:PE X o ta)(hv:PE X value tv)(hs:swapsWith value (some (.Attribute o f pos')) pos.line X.env=pure false):PS X (.Assign [.Attribute o f pos'] value pos) (sFld X.K ta tv f):=by intro aA s σ H D I h;refine plainObj_wpAny_Assign_Attribute (thn (hv aA s σ H _ I h) λu s1 ⟨y,H1,I1,ry,q⟩=>thn (ha aA s1 σ H1 _ I1 q) λov s2 ⟨x,H2,I2,rx,a,C,dx,fs,ex,ea,c,n,l,q2⟩=>?_) hs;subst ex;obtain rfl:ov=Value.ref a:=rx;exact aFC I2 ea c n l ry λs3 I3=>⟨σ,_,I3,q2⟩
def aFG {pl : Sem Bool} {m : Str} {apos : Pos} {args : List Expr} {aA : List (Addr × Obj)} {s : aZO} {σ : St} {H : Hp} {Q : aZN → aZO → Prop} {te : TE} (he : PE X e te) (I : Inv X aA σ H s) (h : te σ H fun x H1 => ∃ a C dx fs g, x = .ref a ∧ H1 a = some (.ins C dx fs) ∧ Cls X.K C ∧ lG X.K C m g ∧ fs.lookup m = none ∧ ∀ s1, Inv X aA σ H1 s1 → wpAny (model X.prog X.w) X.A (callWith pos (.ref g) [.ref a] (backTo pos (starEach args X.env)) (backToKw pos (keywordEach [] X.env))) Q X.xe s1)
    (ht:eval (.Call (.Attribute e m apos) args [] pos) X.env=(do
     let ov <- eval e X.env
     standAt apos.atName
     let(f,first) <- holding [ov] (getMethod ov m pl)
     callWith pos f first (backTo pos (starEach args X.env)) (backToKw pos (keywordEach [] X.env)))) :
    wpAny (model X.prog X.w) X.A (eval (.Call (.Attribute e m apos) args [] pos) X.env) Q X.xe s:=by
 refine W.methodCall_KW (pl:=pl) (thn (he aA s σ H _ I h) λu s1 ⟨x,H1,I1,rx,a,C,dx,fs,g,ex,ea,c,k,l,q⟩=>?_) ht;subst ex;obtain rfl:u=Value.ref a:=rx;exact aFB I1 ea c k l (q s1 I1)
end
section
variable {σ:St}{A:aZP}{E:VSP}{Q:VSP}{c:aZN}{b:Bool}
end
structure bD(k:Nat)(A:aZP):Prop where
 hd:A.handled=none
 dp:A.depth+3 * k+5<recursionLimit
 un:A.units+16 * k+200<cLine
def bD.mono{A:aZP}(r:bD k A)(h:j<=k):bD j A:=⟨r.hd,by have:=r.dp;omega,by have:=r.un;omega⟩
theorem bD.deeper{A:aZP}(r:bD (k+1) A)(env:Env):bD k (A.deeper env) :=
 ⟨r.hd,by have:=r.dp;show A.depth+1+3 * k+5<_;omega,by have:=r.un;show A.units+3+16 * k+200<_;omega⟩
def aFH{A:aZP}{C:Addr}{us:List aZN}:(A.under (.builtin "type.__call__" ⟨.ref C::us,kw⟩)).depth=A.depth+1:=by
 first|rfl|simp[Around.under,Code.weight,Code.isCreation,Code.isGuard,Code.isCaller,Code.frames,Code.isFrame,guardIds]
def aFI{A:aZP}{C:Addr}{us:List aZN}:(A.under (.builtin "type.__call__" ⟨.ref C::us,kw⟩)).units=A.units+1:=by
 first|rfl|simp[Around.under,Code.cUnits,Code.frames,Code.isFrame]
def bD.make{A:aZP}(r:bD (k+1) A)(C:Addr)(us:List aZN)(kw:List (Str×aZN)):bD k (A.under (.builtin "type.__call__" ⟨.ref C::us,kw⟩)) :=
 ⟨r.hd,by have:=r.dp;rw[aFH];omega,by have:=r.un;rw[aFI];omega⟩
theorem bD.depth{A:aZP}(r:bD k A):A.depth<recursionLimit:=by have:=r.dp;omega
theorem bD.units{A:aZP}(r:bD k A):A.units+64<cLine:=by have:=r.un;omega
def gM:TA:=λ_ H Q=>Q [] H
def eB(ta:TE)(tr:TA):TA:=λσ H Q=>ta σ H λx H1=>tr σ H1 λxs H2=>Q (x::xs) H2
section
variable {es:List Expr}{t:TA}
def fO:PA X [] gM:=λ_ _ _ _ H Q I h=>aUQ ⟨[],H,I,.nil,h⟩
def gN(ha:PE X e te)(hr:PA X es t)(hs:starEach (e::es) X.env=(false,eval e X.env)::starEach es X.env:=by rfl):PA X (e::es) (eB te t):=by intro pos aA s σ H Q I h;rw[hs];show wpAny _ _ (spliced ((false,eval e X.env)::backTo pos (starEach es X.env))) _ _ s;refine aUR (thn (ha aA s σ H _ I h) λu s1 ⟨x,H1,I1,r1,q1⟩=>?_);exact thn (hr pos aA s1 σ H1 _ I1 q1) λus s2 ⟨xs,H2,I2,r2,q2⟩=>⟨x::xs,H2,I2,.cons r1 r2,q2⟩
def tTup(t:TA):TE:=λσ H Q=>t σ H λxs H1=>xs.length<=sizeLine/\∀p,H1 p=none->Q (.ref p) (upd H1 p (.tup xs))
def tLst(t:TA):TE:=λσ H Q=>t σ H λxs H1=>xs.length<=sizeLine/\∀p,H1 p=none->Q (.ref p) (upd H1 p (.lst xs))
def aFJ{x1}(h:PA X es t):PE X (.Tuple es x1 pos) (tTup t):=by
 intro aA s σ H Q I hq;refine wpAny_Tuple_spliced (thn (h pos aA s σ H _ I hq) λus s1 ⟨xs,H1,I1,r,z,q⟩=>⟨by rw[<- r.length];exact z,?_⟩)
 have hf:H1 s1.heap.objs.size=none:=I1.hok.fresh (aUA _);refine⟨.ref s1.heap.objs.size,upd H1 s1.heap.objs.size (.tup xs),I1.laid (t':=s1.toks) (λb u e=>hps e) (aUA _) ?_,rfl,q _ hf⟩;exact⟨z,us,r,⟨_,aTI _ rfl,rfl,rfl,_,rfl⟩⟩
def vK(h:PA X es t):PE X (.List es pos) (tLst t):=by
 intro aA s σ H Q I hq;refine wpAny_List_spliced (thn (h pos aA s σ H _ I hq) λus s1 ⟨xs,H1,I1,r,z,q⟩=>⟨by rw[<- r.length];exact z,?_⟩)
 have hf:H1 s1.heap.objs.size=none:=I1.hok.fresh (aUA _);refine⟨.ref s1.heap.objs.size,upd H1 s1.heap.objs.size (.lst xs),I1.laid (t':=s1.toks) (λb u e=>hps e) (aUA _) ?_,rfl,q _ hf⟩;exact⟨z,us,0,r,aTI _ rfl⟩
end
abbrev Sp:=List V->Hp->VK->XK->Prop
abbrev CXT:=List Env->Hp->aZO->XK->aZN->aZO->Prop
structure eY(P:aZR)(w:aZQ)(K:Fg)(mg:SOV)(base:Heap)(A:aZP)(outer:List Env)(s:aZO)(H:Hp):Prop where
 frames:A.frames=some outer
 mod:Mod K mg base
 bs:∀b o,base.get? b=some o->s.heap.get? b=some o/\H b=none
 bsz:base.objs.size<=s.heap.objs.size
 funs:s.heap.FunFrames base outer
 frf:∀b∈frs outer,H b=none
 hok:HOk P w H s.heap
 bare:AllBare s.gens
 tabs:jV K base H
def CE(outer:List Env)(P:aZR)(w:aZQ)(H:Hp)(s:aZO)(Q:VK)(u:aZN)(s':aZO):Prop :=
 ∃v H',s'.os=s.os/\AllBare s'.gens/\Un (frs outer) [] H H' s.heap s'.heap/\HOk P w H' s'.heap/\aI v u/\Q v H'
def CR(CX:CXT)(outer:List Env)(P:aZR)(w:aZQ)(H:Hp)(s:aZO)(Q:VK)(E:XK)(r:Result)(s':aZO):Prop :=
 match r with
 |.ok (.ret u)=>CE outer P w H s Q u s'
 |.ok _=>False
 |.error e=>CX outer H s E e s'
structure cR(P:aZR)(w:aZQ)(K:Fg)(mg:SOV)(base:Heap)(CX:CXT)(k:Nat)(f:Addr)(fd:FuncData)(ps:List Str)(sp:Sp):Prop where
 len:∀vs H Q E,sp vs H Q E->vs.length=ps.length
 run:∀(A:aZP) (outer:List Env) (s:aZO) (H:Hp) (args:Args) (us:List aZN) (vs:List V) (Q:VK) (E:XK),bD k A->eY P w K mg base A outer s H->BindsTo s fd args (ps.zip us)->aJ vs us->sp vs H Q E ->
  codeAny (model P w) A (.call (.ref f) args) (CR CX outer P w H s Q E) s
def cR.imp{CX:CXT}{f:Addr}{sp sp':Sp}(F:cR P w K mg base CX k f fd ps sp)(h:∀vs H Q E,sp' vs H Q E->sp vs H Q E):cR P w K mg base CX k f fd ps sp' :=
 ⟨λvs H Q E q=>F.len vs H Q E (h _ _ _ _ q),λA outer s H args us vs Q E hr he hb hv hs=>F.run A outer s H args us vs Q E hr he hb hv (h _ _ _ _ hs)⟩
def eY.make{A:aZP}(e:eY P w K mg base A outer s H)(C:Addr)(us:List aZN)(kw:List (Str×aZN)):eY P w K mg base (A.under (.builtin "type.__call__" ⟨.ref C::us,kw⟩)) outer s H:=⟨by first|exact e.frames|(simpa[Around.under,Code.envs,Code.isFrame,pushEnvs]using e.frames),e.mod,e.bs,e.bsz,e.funs,e.frf,e.hok,e.bare,e.tabs⟩
end L2
variable {CX:L2.CXT}{sp:L2.Sp}
namespace L2
theorem eY.in1{A:aZP}(e:eY P w K mg base A outer s H):eY P w K mg base A.in1 outer s H:=⟨e.frames,e.mod,e.bs,e.bsz,e.funs,e.frf,e.hok,e.bare,e.tabs⟩
section
variable {σ:St}
def Inv.env0(I:Inv X aA σ H s):eY X.prog X.w X.K X.mg X.base X.A X.stack s H :=
 ⟨I.ok.frames,I.ok.mod,I.bs,aTQ I.ok.bsz I.sz,I.stack,I.stkFree,I.hok,I.bare,I.ok.tabs.mono I.base.tbls⟩
def Inv.after{Q:VK}(I:Inv X aA σ H s)(h:CE X.stack X.prog X.w H s Q u s'):EP X aA σ Q u s':=by obtain⟨v,H',os,bare,un,hok,r,q⟩:=h;obtain⟨hh,g,d,t,os'⟩:=s';obtain rfl:os'=s.os:=os;exact⟨v,H',I.call (h':=hh) (g':=g) (d':=d) (t':=t) (ch:=[]) un hok bare (λb z=>absurd z (by simp)),r,q⟩
end
def eL(K:Fg)(fd:FuncData)(ps:List Str)(ds:List aZN):Prop :=
 ∀(s:aZO) (us:List aZN),K.In s.heap->(us++ds).length=ps.length->BindsTo s fd ⟨us,[]⟩ (ps.zip (us++ds))
def eL.all(h:∀us:List aZN,us.length=ps.length->bindArgs fd ⟨us,[]⟩=pure (ps.zip us)):eL K fd ps []:=λs us _ hl=>by rw[aUS]at hl ⊢;exact .of_eq (h us hl)
section
variable {f C:Addr}{dvs:List V}{ds:List aZN}{E:XK}{x m:Str}{o:Expr}{es:List Expr}{t:TA}
structure Mk(K:Fg)(C f:Addr):Prop where
 makes:W.makesIn K C=true
 init:W.findIn K (.ref C) "__init__" = some (some (.ref f))
 fn:W.isFn K (.ref f)=true
 kp:W.keepIn K (.ref C)=true
end
def PK(X:Cx)(kws:List Keyword)(t:TA):Prop :=
 ∀(pos:Pos) (aA:LAO) (s:aZO) (σ:St) (H:Hp) (Q:List V->Hp->Prop),Inv X aA σ H s->t σ H Q->wpAny (model X.prog X.w) X.A (evalAll ((backToKw pos (keywordEach kws X.env)).map (·.2))) (AP X aA σ Q) X.xe s
section
variable {f C:Addr}{ks:List Str}{E:XK}{x m:Str}{kpos:Pos}{o:Expr}{es:List Expr}{kws:List Keyword}{t tk:TA}{nm:Option Str}
def aFK:PK X [] gM:=λ_ _ _ _ H Q I h=>wpAny_evalAll_nil ⟨[],H,I,.nil,h⟩
def aFL(ha:PE X e te)(hr:PK X kws t):PK X (⟨nm,e,kpos⟩::kws) (eB te t):=by
 intro pos aA s σ H Q I h;show wpAny _ _ (evalAll ((do let v <- eval e X.env;standAt pos;pure v)::(backToKw pos (keywordEach kws X.env)).map (·.2))) _ _ s
 refine wpAny_evalAll_cons (aT8 (thn (ha aA s σ H _ I h) λu s1 ⟨x,H1,I1,r1,q1⟩=>aT8 (aUT (aT7 ?_))));exact thn (hr pos aA s1 σ H1 _ I1 q1) λus s2 ⟨xs,H2,I2,r2,q2⟩=>⟨x::xs,H2,I2,.cons r1 r2,q2⟩
variable {g:List aZN->List aZN->List aZN}{gV:List V->List V->List V}
end
structure jZ(N P:List Str)(sc:Scope):Prop where
 kind:sc.kind=.function
 co:sc.isCoroutine=false
 gen:sc.isGenerator=false
 nd:N.Nodup
 pre:N.take P.length=P
 par:∀x∈P,sc.names.lookup x=some .local\/sc.names.lookup x=some .cell
 nofree:∀y∈sc.names,y.2 ≠ .free
theorem vL{kindOf:Str->Option NameKind}{x:Str}:∀{binds:List (Str×aZN)}{m:SOV},(∀v,(x,v)∉binds)->bindL kindOf binds m x=m x
 |[],_,_=>rfl
 |(n,v)::r,m,h=>by
  unfold bindL;rw[vL λw hw=>h w (mcm hw)];split
  . have:x≠n:=by rintro rfl;exact h v mcs
    simp[this]
  . rfl
theorem vM{kindOf:Str->Option NameKind}{x:Str}:∀{binds:List (Str×aZN)}{m:SOV},(∀v,(x,v)∉binds)->bindC kindOf binds m x=m x
 |[],_,_=>rfl
 |(n,v)::r,m,h=>by
  unfold bindC;rw[vM λw hw=>h w (mcm hw)];split
  . rfl
  . have:x≠n:=by rintro rfl;exact h v mcs
    simp[this]
theorem vN{kindOf:Str->Option NameKind}{x:Str}{v:aZN}:∀{P:List Str}{vs:List aZN}{i:Nat}{m:SOV},P.Nodup->P[i]? = some x->vs[i]? = some v->kindOf x=some .local->bindL kindOf (P.zip vs) m x=some v
 |[],_,_,_,_,h,_,_=>by simp at h
 |_::_,[],_,_,_,_,h,_=>by simp at h
 |p::P,w::vs,0,m,nd,h1,h2,hk=>by simp at h1 h2;subst h1;subst h2;show bindL kindOf ((p,w)::P.zip vs) m p=_;unfold bindL;rw[vL λv hv=>(aUU.mp nd).1 (aUV hv).1,if_pos hk];simp
 |p::P,w::vs,i+1,m,nd,h1,h2,hk=>by show bindL kindOf ((p,w)::P.zip vs) m x=_;unfold bindL;exact vN (i:=i) (aUU.mp nd).2 (by simpa using h1) (by simpa using h2) hk
theorem vO{kindOf:Str->Option NameKind}{x:Str}{v:aZN}:∀{P:List Str}{vs:List aZN}{i:Nat}{m:SOV},P.Nodup->P[i]? = some x->vs[i]? = some v->kindOf x≠some .local->bindC kindOf (P.zip vs) m x=some v
 |[],_,_,_,_,h,_,_=>by simp at h
 |_::_,[],_,_,_,_,h,_=>by simp at h
 |p::P,w::vs,0,m,nd,h1,h2,hk=>by simp at h1 h2;subst h1;subst h2;show bindC kindOf ((p,w)::P.zip vs) m p=_;unfold bindC;rw[vM λv hv=>(aUU.mp nd).1 (aUV hv).1,if_neg hk];simp
 |p::P,w::vs,i+1,m,nd,h1,h2,hk=>by show bindC kindOf ((p,w)::P.zip vs) m x=_;unfold bindC;exact vO (i:=i) (aUU.mp nd).2 (by simpa using h1) (by simpa using h2) hk
def cN(N:List Str)(vs:List V):St:=vs.map some++List.replicate (N.length-vs.length) none
noncomputable def cO(CX:CXT)(P:aZR)(w:aZQ)(K:Fg)(mg:SOV)(base:Heap)(N:List Str)(qual:Str)(scope:Scope)(f:Addr)(cd:aZN)(A:aZP)(outer:List Env)(s:aZO)(H:Hp)(E:XK):Cx where
 prog:=P
 w:=w
 K:=K
 mg:=mg
 base:=base
 A:=A.deeper (envOfC qual scope s.heap.objs.size f cd)
 N:=N
 s₀:=s
 H₀:=H
 env:=envOfC qual scope s.heap.objs.size f cd
 outer:=outer
 stack:=envOfC qual scope s.heap.objs.size f cd::outer
 ex:=[]
 calm:=true
 fn:=λ_=>true
 pn:=[]
 xe:=λe s'=>wpAny (model P w) (A.deeper (envOfC qual scope s.heap.objs.size f cd)) (leaving (envOfC qual scope s.heap.objs.size f cd) e) (λ_ s''=>CX outer H s E e s'') (λe' s''=>CX outer H s E e' s'') s'
def vP{x:Str}(h:sc.names.lookup x=some .cell):∃c,(cellsFrom n sc.names []).lookup x=some c:=by have q:=aUW sc.names n [] (.inl h);exact Option.isSome_iff_exists.mp q
def vQ{N:List Str}{f:Addr}{cd:aZN}{A:aZP}{s1:aZO}{E:XK}{us:List aZN}{vs:List V}(S:jZ N ps scope)(hd:A.handled=none)(e0:eY P w K mg base A outer s H)(hl:vs.length=ps.length)(r:aJ vs us)(x:InCallC s s.heap.objs.size (bindL (envOfC qual scope s.heap.objs.size f cd).kindOf (ps.zip us) λ_=>none) (cellsFrom (s.heap.objs.size+1) scope.names []) (bindC (envOfC qual scope s.heap.objs.size f cd).kindOf (ps.zip us) λ_=>none) s1):Inv (cO CX P w K mg base N qual scope f cd A outer s H E) [] (cN N vs) H s1:=by
 have hpl:ps.length<=N.length:=by have:=congrArg List.length S.pre;rw[aUX]at this;omega
 obtain⟨h1,tk,rfl,hk⟩:=x.done;have noA:∀b:Addr,b∉(cO CX P w K mg base N qual scope f cd A outer s H E).ex:=λb z=>absurd (show b∈([]:List Addr)from z) (by simp)
 refine⟨⟨e0.mod,S.kind,rfl,rfl,aUA _,λy z c h1 h2=>?_,λy hy=>?_,λy c _ h=>?_,λ_=>hd,Around.frames_deeper e0.frames,.inr ⟨rfl,rfl⟩,λb z=>absurd z (noA b),e0.bs,e0.bsz,λb _ _=>noA b,λb z=>absurd z (noA b),e0.funs,e0.frf,e0.tabs⟩,
  rfl,e0.bare,Un.kept hk,⟨_,x.toInCall.ns,λi y v h1 h2 h3=>?_⟩,λy c h=>⟨_,x.cell y c h⟩,e0.hok.fresh (aUA _),λy c h=>?_,λp hp=>absurd (show p∈([]:LAO)from hp) (by simp),e0.hok.kept hk,?_⟩
 . exact name_of_addr x.apart (aUY h1) (aUY h2)
 . have hy:scope.names.lookup y=some .cell\/scope.names.lookup y=some .free:=hy;rcases hy with hy|hy
   . exact vP hy
   . exact absurd rfl (S.nofree _ (aUY hy))
 . exact aTR (x.above y c (aUY h))
 . have hi:i<vs.length:=by
     unfold cN at h2;by_cases hi:i<vs.length
     . exact hi
     . rw[aUZ (by simpa using hi)]at h2
       rw[aU0]at h2;split at h2 <;> cases h2
   have ha:vs[i]? = some v:=by
    unfold cN at h2;rw[aU1 (by simpa using hi),aU2]at h2
    cases e:vs[i]? with
    |none=>rw[e]at h2;cases h2
    |some a=>rw[e]at h2;cases h2;rfl
   obtain⟨u,hu,rv⟩:=r.get ha;have hp:ps[i]? = some y:=by rw[<- S.pre,List.getElem?_take_of_lt (by omega)];exact h1
   have ndP:ps.Nodup:=by rw[<- S.pre];exact S.nd.sublist (List.take_sublist _ _)
   refine⟨u,rv,?_⟩;rcases S.par y (aU3 hp)with k|k
   . exact .inl ⟨k,vN ndP hp hu k⟩
   . obtain⟨c,e⟩:=vP (n:=s.heap.objs.size+1) k;refine .inr ⟨.inl k,c,e,?_⟩;have q:=x.cell y c e;rw[vO ndP hp hu (by show scope.names.lookup y≠_;rw[k];decide)]at q
     exact q
 . exact e0.hok.fresh (aTR (x.above y c (aUY h)))
 . unfold cN;show _=N.length;rw[aU4,aUL,List.length_replicate];omega
def vR{f:Addr}{name:Str}{params:Arguments}{dV kV doc pm ct oc:aZN}{an od:Option Addr}{osl:Array (Option aZN)}{N:List Str}(lk:K.lookup f=some ⟨oc,od,.func (W.fnOf name qual params body scope dV kV doc pm an cdv ct),osl⟩)(hcd:W.codeIn K cdv qual=true)(S:jZ N ps scope)(len:∀vs H Q E,sp vs H Q E->vs.length=ps.length)(hbody:∀(A:aZP) (outer:List Env) (s:aZO) (H:Hp) (vs:List V) (Q:VK) (E:XK),bD k (A.deeper (envOfC qual scope s.heap.objs.size f cdv))->sp vs H Q E->∃t,PSs (cO CX P w K mg base N qual scope f cdv A outer s H E) body t/\t {nx:=λ_ H'=>Q .non H',rt:=Q} (cN N vs) H):cR P w K mg base CX (k+1) f (W.fnOf name qual params body scope dV kV doc pm an cdv ct) ps sp:=by
 refine⟨len,λA outer s H args us vs Q E hr e0 hb r hsp=>?_⟩;have hl:=len _ _ _ _ hsp;have KX:K.In s.heap:=e0.mod.kin.keeps λb o e=>(e0.bs b o e).1;have lim:s.heap.NoLimit:=e0.mod.nolimit.keeps λb o e=>(e0.bs b o e).1;have c8:∀y∈ps.zip us,scope.names.lookup y.1=some .local\/(scope.names.lookup y.1=some .cell/\((cellsFrom (s.heap.objs.size+1) scope.names []).lookup y.1).isSome=true):=λ⟨n,v⟩ hy=>by
  rcases S.par n (aUV hy).1 with q|q
  . exact .inl q
  . exact .inr ⟨q,aUW _ _ _ (.inl q)⟩
 refine codeAny_call_function hr.depth (KX _ _ lk) rfl S.co S.gen rfl (W.codeRec_of KX hcd) (hb _ _ _ _ ?_);refine wpAny_newFunctionEnv_cells S.kind c8 λenv he s1 x=>?_;subst he;refine⟨lim.keeps x.toInCall.keep,codeAny_func ?_⟩;obtain⟨t,ht,hq⟩:=hbody A outer s H vs Q E (hr.deeper _) hsp;have I:Inv (cO CX P w K mg base N qual scope f cdv A outer s H E) [] (cN N vs) H s1:=vQ S hr.hd e0 hl r x;refine aT0 (ht [] s1 (cN N vs) H _ I hq) (λfl s' hs=>?_) λe s' hs=>hs;have fin:∀{σ':St}{H':Hp}{v:V}{u:aZN},Inv (cO CX P w K mg base N qual scope f cdv A outer s H E) [] σ' H' s'->aI v u->Q v H'->CE outer P w H s Q u s' :=
  λ{σ' H' v u} J rv q=>⟨v,H',J.os,J.bare,J.base,J.hok,rv,q⟩
 cases fl with
 |ret u=>obtain⟨v,σ',H',J,rv,q⟩:=hs;exact fin J rv q
 |next=>obtain⟨σ',H',J,q⟩:=hs;exact fin (v:=V.non) (u:=Value.none) J rfl q
 |brk=>obtain⟨_,_,_,q⟩:=hs;exact False.elim q
 |cont=>obtain⟨_,_,_,q⟩:=hs;exact False.elim q
section
variable {x:Str}{es:List Expr}{t:TA}{id T:String}{r:List V->Hp->VK->Prop}
def tCB(r:List V->Hp->VK->Prop)(t:TA):TE:=λσ H Q=>t σ H λvs H1=>r vs H1 Q
def qY(hc:eK X (.builtin id) r)(hg:Gl X x)(hm:X.mg x=none)(hv:bootBuiltins x=some (.builtin id))(ha:PA X (e::es) t)(hn:x ≠ "__name__" := by decide)(hdb:(x==("__debug__":Str))=false:=by decide)(he:starEach (e::es) X.env=(false,eval e X.env)::starEach es X.env:=by rfl)(hpl:(backTo pos (starEach es X.env)).any (·.1)=false:=by rfl):PE X (.Call (.Name x p) (e::es) [] pos) (tCB r t):=by intro aA s σ H Q I h;refine aU5 (iY I hg hm hv ?_ hn hdb);exact PyProof.Rows.callWith_builtin1 (thn (ha pos aA s σ H _ I h) λus s1 ⟨vs,H1,I1,r1,q1⟩=>hc aA s1 σ H1 vs us Q I1 r1 q1) he hpl
def nQ(hc:eK X (.type T) r)(hg:Gl X x)(hm:X.mg x=none)(hv:bootBuiltins x=some (.type T))(ha:PA X (e::es) t)(hn:x ≠ "__name__" := by decide)(hdb:(x==("__debug__":Str))=false:=by decide)(he:starEach (e::es) X.env=(false,eval e X.env)::starEach es X.env:=by rfl)(hpl:(backTo pos (starEach es X.env)).any (·.1)=false:=by rfl):PE X (.Call (.Name x p) (e::es) [] pos) (tCB r t):=by intro aA s σ H Q I h;refine aU5 (iY I hg hm hv ?_ hn hdb);exact aUC (thn (ha pos aA s σ H _ I h) λus s1 ⟨vs,H1,I1,r1,q1⟩=>hc aA s1 σ H1 vs us Q I1 r1 q1) he hpl
end
end L2
namespace HT
section
open PySem.SeqAt
open PySem.AutoSeq1 (wpAny_loadPart')
open PySem.MeetsSeq PySem.MeetsSeq2 PySem.MeetsSeq3
end
section
variable {A:aZP}{E:VSP}
def aFM{t:Addr}{ws:List aZN}{Q:VSP}(ht:IsTup s.heap t vs.toArray)(hb:IsTup s.heap b ws.toArray)(hv:vs≠[])(h1:ws=[]->Q (.ref t) s)(h2:ws≠[]->Q (.ref s.heap.objs.size) { s with heap:=s.heap.push { cls:=.type "tuple", data:=.seq (vs++ws).toArray } })(hsz:vs.length+ws.length<=sizeLine):wpAny (model prog w) A (binaryOp .Add (.ref t) (.ref b)) Q E s:=by
 obtain⟨⟨cls,dd,data,sl⟩,ho,hc,n,hd⟩:=id ht;obtain⟨⟨cls2,dd2,data2,sl2⟩,ho2,hc2,n2,hd2⟩:=id hb;simp only at hc hd hc2 hd2;subst hc hd hc2 hd2;have e:vs.toArray++ws.toArray=(vs++ws).toArray:=by simp
 by_cases hw:ws=[]
 . exact aU6 ⟨_,ho,rfl⟩ ⟨_,ho2,rfl⟩ aU7 seq_tuple_add aU8 aU9 (aVA _ _)
     (tuple_addW1 t b vs.toArray ws.toArray n n2 dd dd2 sl sl2 (by simpa using hv) (by simp[hw])) ⟨ho,ho2,h1 hw⟩
 . refine aU6 ⟨_,ho,rfl⟩ ⟨_,ho2,rfl⟩ aU7 seq_tuple_add aU8 aU9 (aVA _ _)
     (tuple_addW2 t b vs.toArray ws.toArray n n2 dd dd2 sl sl2 (by simpa using hv) (by simpa using hw) (by rw[aUG,aUG];exact hsz)) ⟨ho,ho2,?_⟩
   rw[e];exact h2 hw
def sIx(n d:Nat):Option Int->Nat
 |none=>d
 |some v=>if v<0 then(v+(n:Int)).toNat else min v.toNat n
def vS(n d:Nat):sIx n d none=d:=rfl
def nR(n d k:Nat):sIx n d (some (k:Int))=min k n:=by show(if(k:Int)<0 then((k:Int)+(n:Int)).toNat else min (k:Int).toNat n)=min k n;rw[if_neg (by omega),aVB]
def aFN(n d:Nat)(hd:d<=n)(o:Option Int):sIx n d o<=n:=by
 cases o with
 |none=>exact hd
 |some v =>
  show(if v<0 then(v+(n:Int)).toNat else min v.toNat n)<=n;by_cases hv:v<0
  . rw[if_pos hv];omega
  . rw[if_neg hv];exact Nat.min_le_right _ _
def vT(v:Int)(n d:Nat):(if v<0 then max (v+(n:Int)) 0 else min v (n:Int))=((sIx n d (some v):Nat):Int):=by
 show(if v<0 then max (v+(n:Int)) 0 else min v (n:Int))=(((if v<0 then(v+(n:Int)).toNat else min v.toNat n):Nat):Int);by_cases hv:v<0
 . simp only[if_pos hv];omega
 . simp only[if_neg hv];omega
def aFO(lo hi:Option Int)(n:Nat):Builtin.Slice.sliceAdjust lo hi 1 (n:Int)=(((sIx n 0 lo:Nat):Int),((sIx n n hi:Nat):Int)):=by
 have h1:¬ ((1:Int)<0):=by omega
 unfold Builtin.Slice.sliceAdjust;simp only[h1,aVC];refine Prod.ext ?_ ?_
 . cases lo with
   |none=>rfl
   |some v=>exact vT v n 0
 . cases hi with
   |none=>rfl
   |some v=>exact vT v n n
def aFP(i j:Nat):Builtin.Slice.slicePlaces (i:Int) (j:Int) 1=j-i:=by
 unfold Builtin.Slice.slicePlaces;have h1:(1:Int) > 0:=by omega
 simp only[h1,aVD,Int.ediv_one];split <;> omega
def vU{v:aZN}{o:Option Int}{Q:Option Int->aZO->Prop}(p:IsPart v o)(h:Q o s):wpAny (model prog w) A (Builtin.Slice.slicePartIndex v) Q E s:=by
 cases p with
 |none=>exact slicePart_none h
 |int i t=>exact slicePart_int h
def vV{sl:Addr}{vl vu:aZN}{hi:Option Int}{Q:Int×Int×Nat->aZO->Prop}(hs:s.heap.IsSliceOf sl vl vu .none)(pl:IsPart vl lo)(pu:IsPart vu hi)(h:Q (((sIx n 0 lo:Nat):Int),1,sIx n n hi-sIx n 0 lo) s):wpAny (model prog w) A (Builtin.Slice.sliceApplied (.ref sl) (pure (n:Int))) Q E s:=by
 obtain⟨os,hos,hcs,hds⟩:=id hs;unfold Builtin.Slice.sliceApplied Builtin.Slice.sliceFields;refine aT8 (aT8 (aVE hos hds (x:=vl) rfl (aT8 (aVE hos hds (x:=vu) rfl (aT8 (aVE hos hds (x:=.none) rfl (aT7 ?_)))))));refine aT8 (slicePart_none ?_);show wpAny _ _ (if((1:Int)==0)=true then _ else _) _ _ s;rw[if_neg (by decide)]
 refine aT8 (vU pl (aT8 (vU pu (aT8 (aT7 ?_)))));show wpAny _ _ (match Builtin.Slice.sliceAdjust lo hi 1 (n:Int)with|(lo,hi)=>pure (lo,(1:Int),Builtin.Slice.slicePlaces lo hi 1)) _ _ s
 rw[aFO lo hi n];show wpAny _ _ (pure (((sIx n 0 lo:Nat):Int),(1:Int),Builtin.Slice.slicePlaces ((sIx n 0 lo:Nat):Int) ((sIx n n hi:Nat):Int) 1)) _ _ s;rw[aFP];exact aT7 h
def aFQ(xs:Array aZN)(i k:Nat):((List.range k).filterMap λ(m:Nat)=>xs[((i:Int)+(m:Int) * 1).toNat]?).toArray=((xs.toList.drop i).take k).toArray:=by
 have e:(λ(m:Nat)=>xs[((i:Int)+(m:Int) * 1).toNat]?)=λm=>xs[i+m]?:=by
  funext m;have:((i:Int)+(m:Int) * 1).toNat=i+m:=by omega
  rw[this]
 rw[e];have:=pick_run xs i k;rw[List.filterMap_map]at this;have e2:((λx=>xs[x]?) ∘ λx=>i+x)=λm=>xs[i+m]?:=rfl;rw[e2]at this;rw[this]
def aFR{t sl:Addr}{vl vu:aZN}{hi:Option Int}{Q:VSP}(ht:IsTup s.heap t items)(hs:s.heap.IsSliceOf sl vl vu .none)(pl:IsPart vl lo)(pu:IsPart vu hi)(hw:¬ (sIx items.size 0 lo=0/\sIx items.size items.size hi=items.size))(h:Q (.ref s.heap.objs.size) { s with heap:=s.heap.push { cls:=.type "tuple", data:=.seq ((items.toList.drop (sIx items.size 0 lo)).take (sIx items.size items.size hi-sIx items.size 0 lo)).toArray } })(hsz:items.size<=sizeLine):wpAny (model prog w) A (getItem (.ref t) (.ref sl)) Q E s:=by
 have htake:sizeOk (.seq ((items.toList.drop (sIx items.size 0 lo)).take (sIx items.size items.size hi-sIx items.size 0 lo)).toArray):=by show((items.toList.drop (sIx items.size 0 lo)).take (sIx items.size items.size hi-sIx items.size 0 lo)).toArray.size<=sizeLine;rw[aUG,aUX,aVF,aT2];omega
 have hj:sIx items.size items.size hi<=items.size:=aFN _ _ (aUA _) hi;obtain⟨os,hos,hcs,hds⟩:=id hs;have hTs:s.TypeIs (.ref sl) "slice" := ⟨os,hos,hcs⟩;unfold getItem
 try with_reducible refine aVG ?_
 first|refine aT8 (aT7 ?_)|skip
 refine aT8 (wpAny_sequenceKey ht.typeIs (by decide) ?_)
 refine aT8 (aVH (name:=Str.ofString "__getitem__") ht.typeIs aVI
  (aVJ aVI ht.typeIs entry_tuple_getitem ?_ (args_tuple_getitem _ _)))
 show wpAny _ _ (Builtin.Tuple.tupleItemsOf (.ref t)>>=_) _ _ s;refine aT8 (tupleItemsOf_ ht ?_);refine aT8 (aVK hTs ?_);rw[if_pos (by decide)]
 refine aT8 (vV hs pl pu ?_);have hno:¬ ((((sIx items.size 0 lo:Nat):Int)==0&&(1:Int)==1&&(sIx items.size items.size hi-sIx items.size 0 lo)==items.size)=true):=by intro q;rw[aVL,aVL]at q;have q1:((sIx items.size 0 lo:Nat):Int)=0:=eq_of_beq q.1.1;have q2:sIx items.size items.size hi-sIx items.size 0 lo=items.size:=eq_of_beq q.2;exact hw ⟨by omega,by omega⟩
 show wpAny _ _ (if(((sIx items.size 0 lo:Nat):Int)==0&&(1:Int)==1&&(sIx items.size items.size hi-sIx items.size 0 lo)==items.size)=true then _ else _) _ _ s;rw[if_neg hno,aFQ]
 first
  |exact aT8 (m:=Builtin.Tuple.tupleExact _) (aVM (aT7 ⟨_,rfl,aT7 h⟩) htake)
  |exact aT8 (m:=Builtin.Tuple.tupleExact _) (aVM (aT8 (aT7 (aT7 ⟨_,rfl,aT7 h⟩))) htake)
  |exact aT8 (aT8 (m:=Builtin.Tuple.tupleExact _) (aVM (aT7 (aT7 ⟨_,rfl,aT7 h⟩)) htake))
  |exact aT8 (aT8 (m:=Builtin.Tuple.tupleExact _) (aVM (aT7 ⟨_,rfl,aT7 h⟩) htake))
end
end HT
namespace L2
abbrev TO:=St->Hp->(Option Int->Hp->Prop)->Prop
def PO(X:Cx)(e:Option Expr)(t:TO):Prop :=
 ∀(aA:LAO) (s:aZO) (σ:St) (H:Hp) (Q:Option Int->Hp->Prop),Inv X aA σ H s->t σ H Q ->
  wpAny (model X.prog X.w) X.A (evalPart e X.env) (λu s'=>∃o H',Inv X aA σ H' s'/\IsPart u o/\Q o H') X.xe s
def vW:TO:=λ_ H Q=>Q none H
def nS(t:TE):TO:=λσ H Q=>t σ H λx H1=>∃i,x=.int i/\Q (some i) H1
section
variable {lo hi:Option Expr}{tl th:TO}
def aFS:PO X none vW:=by intro aA s σ H Q I h;rw[evalPart_none];exact aT7 ⟨none,H,I,.none,h⟩
def aFT(h:PE X e te):PO X (some e) (nS te):=by intro aA s σ H Q I hw;rw[evalPart_some];refine thn (h aA s σ H _ I hw) λu s1 ⟨x,H1,I1,r1,q1⟩=>?_;obtain⟨i,rfl,q⟩:=q1;obtain⟨t,rfl⟩:=r1;exact⟨some i,H1,I1,.int i t,q⟩
def SlR(X:Cx)(r:V->Option Int->Option Int->Hp->VK->Prop):Prop :=
 ∀(aA:LAO) (s:aZO) (σ:St) (H:Hp) (x:V) (v vl vu:aZN) (lo hi:Option Int) (sl:Addr) (Q:VK),Inv X aA σ H s->aI x v->s.heap.IsSliceOf sl vl vu .none->IsPart vl lo->IsPart vu hi->r x lo hi H Q ->
  ∃T id,typeLookup (.type T) "__getitem__" = pure (some (.builtin id))/\s.TypeIs v T/\wpAny (model X.prog X.w) X.A (getItem v (.ref sl)) (EP X aA σ Q) X.xe s
def SlR.or{r r':V->Option Int->Option Int->Hp->VK->Prop}(h:SlR X r)(h':SlR X r'):SlR X (λx lo hi H Q=>r x lo hi H Q\/r' x lo hi H Q):=by
 intro aA s σ H x v vl vu lo hi sl Q I rx hs pl pu q;rcases q with q|q
 . exact h aA s σ H x v vl vu lo hi sl Q I rx hs pl pu q
 . exact h' aA s σ H x v vl vu lo hi sl Q I rx hs pl pu q
def tSl(r:V->Option Int->Option Int->Hp->VK->Prop)(te:TE)(tl th:TO):TE:=λσ H Q=>te σ H λx H1=>tl σ H1 λl H2=>th σ H2 λu H3=>r x l u H3 Q
def aFU{r:V->Option Int->Option Int->Hp->VK->Prop}(hr:SlR X r)(he:PE X e te)(hl:PO X lo tl)(hu:PO X hi th):PE X (.Subscript e (.Slice lo hi none p2) pos) (tSl r te tl th):=by
 intro aA s σ H Q I h;refine Subscript_ (thn (he aA s σ H _ I h) λv s1 ⟨x,H1,I1,r1,q1⟩=>?_);refine wpAny_Slice (thn (hl aA s1 σ H1 _ I1 q1) λvl s2 ⟨l,H2,I2,pl,q2⟩=>thn (hu aA s2 σ H2 _ I2 q2) λvu s3 ⟨u,H3,I3,pu,q3⟩=>?_);rw[evalPart_none];refine aT7 ?_;have I4:Inv X aA σ H3 { s3 with heap:=s3.heap.push { cls:=.type "slice", data:=.fields #[vl,vu,.none] } }:=I3.kept (t':=s3.toks) λb ob q=>hps q
 obtain⟨T,id,hT,ht,hg⟩:=hr aA { s3 with heap:=s3.heap.push { cls:=.type "slice", data:=.fields #[vl,vu,.none] } } σ H3 x v vl vu l u s3.heap.objs.size Q I4 r1 (Heap.IsSliceOf.new ..) pl pu q3
 show wpAny (model X.prog X.w) X.A (subscriptTail e (.Slice lo hi none p2) v (.ref s3.heap.objs.size)) (EP X aA σ Q) X.xe { s3 with heap:=s3.heap.push { cls:=.type "slice", data:=.fields #[vl,vu,.none] } }
 exact tail_any (ops:=[.ref s3.heap.objs.size,v]) ht hT hg (by with_unfolding_all rfl)
def gO(xs:List V)(lo hi:Option Int):List V:=(xs.drop (HT.sIx xs.length 0 lo)).take (HT.sIx xs.length xs.length hi-HT.sIx xs.length 0 lo)
def vX(xs:List V)(lo hi:Option Int):(gO xs lo hi).length<=xs.length:=by unfold gO;rw[aUX,aVF];omega
def rSlT(K:Fg):V->Option Int->Option Int->Hp->VK->Prop:=λx lo hi H Q=>∃a xs,x=.ref a/\SqT K H a xs /\
 ¬ (HT.sIx xs.length 0 lo=0/\HT.sIx xs.length xs.length hi=xs.length)/\∀p,H p=none->Q (.ref p) (upd H p (.tup (gO xs lo hi)))
def aFV:SlR X (rSlT X.K):=by
 intro aA s σ H x v vl vu lo hi sl Q I rx hs pl pu h;obtain⟨a,xs,rfl,hx,hw,q⟩:=h;cases rx;obtain⟨its,r,ht,hz⟩:=I.tuple hx;have hlen:its.toArray.size=xs.length:=by rw[aUG];exact r.length.symm
 refine⟨"tuple", _,PyProof.Rows.slot_tuple_getitem.lookup,ht.typeIs,?_⟩;refine HT.aFR ht hs pl pu (by rw[hlen];exact hw) ?_ (by rw[hlen];exact hz)
 rw[hlen];refine⟨.ref s.heap.objs.size,_,I.laid (t':=s.toks) (o:=.tup (gO xs lo hi)) (λb ob q=>hps q) (aUA _) ?_,rfl,q _ (I.hok.fresh (aUA _))⟩;exact⟨aTQ (vX xs lo hi) hz,_,(r.drop (HT.sIx xs.length 0 lo)).take (HT.sIx xs.length xs.length hi-HT.sIx xs.length 0 lo),fM.new _ _⟩
def aJ.nil_iff{xs:List V}{us:List aZN}(r:aJ xs us):us=[]↔xs=[]:=by
 cases r with
 |nil=>simp
 |cons _ _=>simp
end
def ixN(n:Nat)(i:Int):Option Nat:=if 0<=i then(if i<n then some i.toNat else none)else if -(n:Int)<=i then some (i+n).toNat else none
noncomputable def atI(xs:List α)(i:Int):Option α:=(ixN xs.length i).bind λj=>xs[j]?
def aFW{i:Int}(h:ixN n i=some j):seqIndex? i n=some j/\j<n /\ -(n:Int)<=i/\i<n:=by
 unfold ixN at h;by_cases h0:0<=i
 . rw[if_pos h0]at h;by_cases h1:i<n
   . rw[if_pos h1]at h;have e:i.toNat=j:=aTZ h;exact⟨by rw[seqIndex_of h0 h1,e],by omega,by omega,h1⟩
   . rw[if_neg h1]at h;cases h
 . rw[if_neg h0]at h;by_cases h1:-(n:Int)<=i
   . rw[if_pos h1]at h;have e:(i+n).toNat=j:=aTZ h;exact⟨by rw[seqIndex_neg (by omega) h1,e],by omega,h1,by omega⟩
   . rw[if_neg h1]at h;cases h
def nU{xs:List α}{i:Int}{v:α}(h:atI xs i=some v):∃j,seqIndex? i xs.length=some j/\xs[j]? = some v/\j<xs.length /\ -(xs.length:Int)<=i/\i<xs.length:=by
 unfold atI at h;cases e:ixN xs.length i with
 |none=>rw[e]at h;cases h
 |some j=>rw[e]at h;obtain⟨h1,h2,h3,h4⟩:=aFW e;exact⟨j,h1,h,h2,h3,h4⟩
def cG{xs:List α}{v:α}(h:xs[j]? = some v):atI xs (j:Int)=some v:=by
 have hj:j<xs.length:=(aTW.mp h).1;have e:ixN xs.length (j:Int)=some j:=by unfold ixN;rw[if_pos (by omega),if_pos (by omega)];simp
 unfold atI;rw[e];exact h
def aFX(xs:List α)(v:α):atI (xs++[v]) (-1)=some v:=by
 have hl:(xs++[v]).length=xs.length+1:=by simp
 have e:ixN (xs++[v]).length (-1)=some xs.length:=by
  unfold ixN;rw[hl,if_neg (by decide),if_pos (by omega)]
  congr 1;omega
 unfold atI;rw[e];show(xs++[v])[xs.length]? = some v;simp
def nV(b:Expr):Prop:=∀o i,subscripted b false o i=operate [o,i] (getItem o i)
def IxR(X:Cx)(r:R2):Prop :=
 ∀(value slice:Expr) (aA:LAO) (s:aZO) (σ:St) (H:Hp) (x y:V) (v u:aZN) (Q:VK),Inv X aA σ H s->aI x v->aI y u->r x y H Q ->
  subscripted slice false v u=operate [v,u] (getItem v u)->wpAny (model X.prog X.w) X.A (subscriptTail value slice v u) (EP X aA σ Q) X.xe s
def MtR(X:Cx)(id:String)(r:V->List V->Hp->VK->Prop):Prop :=
 ∀(aA:LAO) (s:aZO) (σ:St) (H:Hp) (x:V) (xs:List V) (v:aZN) (us:List aZN) (Q:VK),Inv X aA σ H s->aI x v->aJ xs us->r x xs H Q ->
  wpAny (model X.prog X.w) X.A (call (.builtin id) (v::us)) (EP X aA σ Q) X.xe s
section
variable {a b:Expr}{tb:TE}
def IxR.or{r r':R2}(h:IxR X r)(h':IxR X r'):IxR X (λx y H Q=>r x y H Q\/r' x y H Q):=by
 intro value slice aA s σ H x y v u Q I rx ry q hs;rcases q with q|q
 . exact h value slice aA s σ H x y v u Q I rx ry q hs
 . exact h' value slice aA s σ H x y v u Q I rx ry q hs
def vY{r:R2}(hr:IxR X r)(ha:PE X a ta)(hb:PE X b tb)(hs:nV b):PE X (.Subscript a b pos) (tOp r ta tb):=by intro aA s σ H Q I h;exact Subscript_ (qU ha hb I h λv u s2 x y H2 I2 rx ry q=>hr a b aA s2 σ H2 x y v u Q I2 rx ry q (hs _ _))
def rIxL(K:Fg):R2:=λx y H Q=>∃p xs i v,x=.ref p/\y=.int i/\SqL K H p xs/\atI xs i=some v/\Q v H
def rIxT(K:Fg):R2:=λx y H Q=>∃p xs i v,x=.ref p/\y=.int i/\SqT K H p xs/\atI xs i=some v/\Q v H
def rIxS:R2:=λx y H Q=>∃z i c,x=.str z/\y=.int i/\z.length<=sizeLine/\atI z.cps.toList i=some c/\Q (.str ⟨#[c]⟩) H
def aFY:IxR X (rIxL X.K):=by
 intro value slice aA s σ H x y v u Q I rx ry h hs;obtain⟨p,xs,i,z,rfl,rfl,hq,he,q⟩:=h;cases rx;obtain⟨t,rfl⟩:=ry;obtain⟨its,r,pl,hz⟩:=I.list hq;obtain⟨j,h1,h2,h3,h4,h5⟩:=nU he;obtain⟨w,ew,rw'⟩:=r.get h2;have hl:=r.length;have hn:=lF;have fin:EP X aA σ Q w s:=⟨z,H,I,rw',q⟩;by_cases h0:0<=i
 . have hj:i.toNat=j:=by rw[seqIndex_of h0 h5]at h1;exact aTZ h1
   exact item_listR pl.isList h0 (by omega) (by rw[hj];simpa using ew) fin hs
 . have hj:(i+(its.toArray.size:Int)).toNat=j:=by
     rw[seqIndex_neg (by omega) h4]at h1
     rw[aUG,<- hl];exact aTZ h1
   exact subscriptTail_builtinR (x:=w) pl.isList.typeIs slot_list_getitem.lookup
    (wpAny_getItem_list_neg (Q:=λr s'=>r=w/\EP X aA σ Q r s') pl.isList (by omega) (by rw[aUG] <;> omega) (by omega) (by rw[hj];simpa using ew) ⟨rfl,fin⟩) hs
def aFZ:IxR X (rIxT X.K):=by
 intro value slice aA s σ H x y v u Q I rx ry h hs;obtain⟨p,xs,i,z,rfl,rfl,hq,he,q⟩:=h;cases rx;obtain⟨t,rfl⟩:=ry;obtain⟨its,r,pl,hz⟩:=I.tuple hq;obtain⟨j,h1,h2,h3,h4,h5⟩:=nU he;obtain⟨w,ew,rw'⟩:=r.get h2;have hl:=r.length;have hn:=lF;have fin:EP X aA σ Q w s:=⟨z,H,I,rw',q⟩;exact subscriptTail_builtinR (x:=w) pl.typeIs slot_tuple_getitem.lookup
  (getItem_tuple (j:=j) (Q:=λr s'=>r=w/\EP X aA σ Q r s') pl (by omega) (by omega) (by rw[aUG,<- hl];exact h1) (by simpa using ew) ⟨rfl,fin⟩) hs
def aF0:IxR X rIxS:=by
 intro value slice aA s σ H x y v u Q I rx ry h hs;obtain⟨z,i,c,rfl,rfl,hz,he,q⟩:=h;obtain⟨t,rfl⟩:=rx;obtain⟨t',rfl⟩:=ry;obtain⟨j,h1,h2,h3,h4,h5⟩:=nU he;have hl:z.cps.toList.length=z.length:=by simp[Str.length]
 rw[hl]at h1 h4 h5;have hn:=lF;exact tail_any (typeIs_str s z t) slot_str_getitem.lookup (getItem_str (c:=c) (by
  have e1:decide (i < -(2 ^ 63:Int))=false:=aTF (by omega)
  have e2:decide (i ≥ 2 ^ 63)=false:=aTF (by omega)
  rw[e1,e2,aVN]) (by rw[h1];simpa using h2) ⟨.str ⟨#[c]⟩,H,I.tok _,⟨_,rfl⟩,q⟩) hs
def rIx(K:Fg):R2:=λx y H Q=>rIxL K x y H Q\/rIxT K x y H Q\/rIxS x y H Q
def aF1:IxR X (rIx X.K):=aFY.or (aFZ.or aF0)
def aF2(lo hi:Option Int)(n:Nat):(sliceBounds lo hi none n).1=((HT.sIx n 0 lo:Nat):Int)/\(sliceBounds lo hi none n).2.1=((HT.sIx n n hi:Nat):Int)/\(sliceBounds lo hi none n).2.2=1:=by
 refine⟨?_,?_,rfl⟩
 . cases lo with
   |none=>simp[sliceBounds,HT.sIx]
   |some i =>
    simp only[sliceBounds,HT.sIx,aVO,show(1:Int) > 0 by decide,aVD]
    by_cases h:i<0
    . simp only[h,aVD] <;> omega
    . simp only[h,aVC] <;> omega
 . cases hi with
   |none=>simp[sliceBounds,HT.sIx]
   |some i =>
    simp only[sliceBounds,HT.sIx,aVO,show(1:Int) > 0 by decide,aVD]
    by_cases h:i<0
    . simp only[h,aVD] <;> omega
    . simp only[h,aVC] <;> omega
def aF3(its:List aZN)(lo hi:Option Int):slicePick its.toArray lo hi none=((its.drop (HT.sIx its.length 0 lo)).take (HT.sIx its.length its.length hi-HT.sIx its.length 0 lo)).toArray:=by obtain⟨h1,h2,h3⟩:=aF2 lo hi its.toArray.size;unfold slicePick;rw[h1,h2,h3];simp only[sliceRange_one,pick_run,aUG] <;> rfl
def rSlL(K:Fg):V->Option Int->Option Int->Hp->VK->Prop:=λx lo hi H Q=>∃a xs,x=.ref a/\SqL K H a xs/\∀p,H p=none->Q (.ref p) (upd H p (.lst (gO xs lo hi)))
def aF4:SlR X (rSlL X.K):=by
 intro aA s σ H x v vl vu lo hi sl Q I rx hs pl pu h;obtain⟨a,xs,rfl,hx,q⟩:=h;cases rx;obtain⟨its,r,ht,hz⟩:=I.list hx;have hlen:=r.length;refine⟨"list", _,slot_list_getitem.lookup,ht.isList.typeIs,?_⟩;refine wpAny_getItem_list_slice ht.isList hs pl pu .none (by simp) ?_ (by rw[aUG] <;> omega)
 rw[aF3,<- hlen];refine⟨.ref s.heap.objs.size,_,I.laid (t':=s.toks) (o:=.lst (gO xs lo hi)) (λb ob q=>hps q) (aUA _) ?_,rfl,q _ (I.hok.fresh (aUA _))⟩;exact⟨aTQ (vX xs lo hi) hz,_,0,(r.drop (HT.sIx xs.length 0 lo)).take (HT.sIx xs.length xs.length hi-HT.sIx xs.length 0 lo),aTI _ rfl⟩
def dY:V->Bool
 |.non=>true
 |.bl _=>true
 |.int _=>true
 |.str _=>true
 |_=>false
noncomputable def eqV:V->V->Bool
 |.non,.non=>true
 |.bl a,.bl b=>a==b
 |.bl a,.int b=>(if a then 1 else 0)==b
 |.int a,.bl b=>a==(if b then 1 else 0)
 |.int a,.int b=>a==b
 |.str a,.str b=>a==b
 |_,_=>false
def qZ{A:aZP}{y x:V}{v:aZN}(ry:aI y u)(rx:aI x v)(fy:dY y=true)(fx:dY x=true):SeqAt.EqAt A s u v (eqV y x):=by
 cases y with
 |non =>
  cases ry;cases x with
  |non=>cases rx;exact SeqAt.EqAt.same _
  |bl b=>cases rx;exact SeqAt.EqAt.none_bool b
  |int b=>obtain⟨t,rfl⟩:=rx;exact SeqAt.EqAt.none_int b t
  |str b=>obtain⟨t,rfl⟩:=rx;exact SeqAt.EqAt.none_str b t
  |_=>exact absurd (show false=true from fx) aT5
 |bl a =>
  cases ry;cases x with
  |non=>cases rx;exact SeqAt.EqAt.bool_none a
  |bl b=>cases rx;exact SeqAt.EqAt.bool_bool a b
  |int b=>obtain⟨t,rfl⟩:=rx;exact SeqAt.EqAt.bool_int a b t
  |str b=>obtain⟨t,rfl⟩:=rx;exact SeqAt.EqAt.bool_str a b t
  |_=>exact absurd (show false=true from fx) aT5
 |int a =>
  obtain⟨t',rfl⟩:=ry;cases x with
  |non=>cases rx;exact SeqAt.EqAt.int_none a t'
  |bl b=>cases rx;exact SeqAt.EqAt.int_bool a t' b
  |int b=>obtain⟨t,rfl⟩:=rx;exact SeqAt.EqAt.int_int a t' b t
  |str b=>obtain⟨t,rfl⟩:=rx;exact SeqAt.EqAt.int_str a t' b t
  |_=>exact absurd (show false=true from fx) aT5
 |str a =>
  obtain⟨t',rfl⟩:=ry;cases x with
  |non=>cases rx;exact SeqAt.EqAt.str_none a t'
  |bl b=>cases rx;exact SeqAt.EqAt.str_bool a t' b
  |int b=>obtain⟨t,rfl⟩:=rx;exact SeqAt.EqAt.str_int a t' b t
  |str b=>obtain⟨t,rfl⟩:=rx;exact SeqAt.EqAt.str_str a t' b t
  |_=>exact absurd (show false=true from fx) aT5
 |_=>exact absurd (show false=true from fy) aT5
def eqU(x:V)(u:aZN):Bool:=match u with
 |.none=>eqV .non x
 |.bool b=>eqV (.bl b) x
 |.int i _=>eqV (.int i) x
 |.str z _=>eqV (.str z) x
 |_=>false
def vZ{x y:V}(r:aI y u)(f:dY y=true):eqU x u=eqV y x:=by
 cases y with
 |non=>cases r;rfl
 |bl b=>cases r;rfl
 |int i=>obtain⟨t,rfl⟩:=r;rfl
 |str z=>obtain⟨t,rfl⟩:=r;rfl
 |_=>exact absurd (show false=true from f) aT5
theorem lH{x:V}:∀{xs:List V}{us:List aZN},aJ xs us->xs.all dY=true->us.any (eqU x)=xs.any λy=>eqV y x
 |_,_,.nil,_=>rfl
 |y::xs,u::us,.cons r t,f=>by rw[aVP,aVL]at f;rw[List.any_cons,List.any_cons,vZ r f.1,lH t f.2]
theorem lI{A:aZP}{s:aZO}{x:V}{v:aZN}(rx:aI x v)(fx:dY x=true):∀{xs:List V}{us:List aZN},aJ xs us->xs.all dY=true->∀u∈us,SeqAt.EqAt A s u v (eqU x u)
 |_,_,.nil,_=>λu hu=>by cases hu
 |y::xs,u::us,.cons r t,f=>λu' hu=>by
  rw[aVP,aVL]at f;rcases aTT.mp hu with rfl|hu
  . rw[vZ r f.1];exact qZ r rx f.1 fx
  . exact lI rx fx t f.2 u' hu
def inV(x:V)(xs:List V):Bool:=xs.any λy=>eqV y x
def rIn(K:Fg)(neg:Bool):R2:=λx y H Q=>∃p xs,y=.ref p/\(SqL K H p xs\/SqT K H p xs)/\dY x=true/\xs.all dY=true/\Q (.bl (if neg then !inV x xs else inV x xs)) H
def aF5:OpR X (compareOp .In) (rIn X.K false):=by
 intro aA s σ H x y v u Q I rx ry h;obtain⟨p,xs,rfl,hq,fx,fs,q⟩:=h;cases ry;rcases hq with hq|hq
 . obtain⟨its,r,pl,hz⟩:=I.list hq;refine SeqAt.in_listAt (eqU x) pl.isList (λw hw=>lI rx fx r fs w (by simpa using hw)) ⟨.bl _,H,I,rfl,?_⟩
   rw[show its.toArray.any (eqU x)=its.any (eqU x) by simp,lH r fs]
   exact q
 . obtain⟨its,r,pl,hz⟩:=I.tuple hq;refine SeqAt.in_tupleAt (eqU x) pl (λw hw=>lI rx fx r fs w (by simpa using hw)) ⟨.bl _,H,I,rfl,?_⟩
   rw[show its.toArray.any (eqU x)=its.any (eqU x) by simp,lH r fs]
   exact q
def aF6:OpR X (compareOp .NotIn) (rIn X.K true):=by
 intro aA s σ H x y v u Q I rx ry h;obtain⟨p,xs,rfl,hq,fx,fs,q⟩:=h;cases ry;rcases hq with hq|hq
 . obtain⟨its,r,pl,hz⟩:=I.list hq;refine SeqAt.notIn_listAt (eqU x) pl.isList (λw hw=>lI rx fx r fs w (by simpa using hw)) ⟨.bl _,H,I,rfl,?_⟩
   rw[show its.toArray.any (eqU x)=its.any (eqU x) by simp,lH r fs]
   exact q
 . obtain⟨its,r,pl,hz⟩:=I.tuple hq;refine SeqAt.notIn_tupleAt (eqU x) pl (λw hw=>lI rx fx r fs w (by simpa using hw)) ⟨.bl _,H,I,rfl,?_⟩
   rw[show its.toArray.any (eqU x)=its.any (eqU x) by simp,lH r fs]
   exact q
def aF7:eK X (.type "list") (λxs H Q=>∃p ys,xs=[.ref p]/\(SqL X.K H p ys\/SqT X.K H p ys)/\∀l,H l=none->Q (.ref l) (upd H l (.lst ys))):=by
 intro aA s σ H xs us Q I r h; obtain ⟨p, ys, rfl, hq, q⟩ := h; obtain ⟨u, rfl, rx⟩ := dX r; cases rx; have fin : ∀ (its : List aZN), aJ ys its → ys.length ≤ sizeLine → ∀ (h' : Heap) (c' : Nat), (∀ b o', s.heap.get? b = some o' → h'.get? b = some o') →
     h'.get? s.heap.objs.size=some { cls:=.type "list", dict:=none,data:=.seq its.toArray c',slots:=#[] } -> EP X aA σ Q (.ref s.heap.objs.size) {s with heap:=h'}:=λits r' hz h' c' kp e =>
  ⟨.ref s.heap.objs.size,_,I.laid (t':=s.toks) kp (aUA _) (show bM X.prog X.w _ h' _ (.lst ys)from⟨hz,its,c',r',e⟩),rfl,q _ (I.hok.fresh (aUA _))⟩
 rcases hq with hq|hq
 . obtain⟨its,r',pl,hz⟩:=I.list hq;have hlen:=r'.length;obtain⟨o,ho,hc,n,hd⟩:=pl.isList;exact call_list_seq p (.inl rfl) ho hc hd (λh' c' kp e=>fin its r' hz h' c' kp e) (by simp only[aUG] <;> omega)
 . obtain⟨its,r',pl,hz⟩:=I.tuple hq;have hlen:=r'.length;obtain⟨o,ho,hc,n,hd⟩:=pl;exact call_list_seq p (.inr rfl) ho hc hd (λh' c' kp e=>fin its r' hz h' c' kp e) (by simp only[aUG] <;> omega)
def aF8:eK X (.type "tuple") (λxs H Q=>∃p ys,xs=[.ref p]/\((SqL X.K H p ys/\∀l,H l=none->Q (.ref l) (upd H l (.tup ys)))\/(SqT X.K H p ys/\Q (.ref p) H))):=by
 intro aA s σ H xs us Q I r h;obtain⟨p,ys,rfl,h⟩:=h;obtain⟨u,rfl,rx⟩:=dX r;cases rx;rcases h with⟨hq,q⟩|⟨hq,q⟩
 . obtain⟨its,r',pl,hz⟩:=I.list hq;have hlen:=r'.length;refine call_tuple_list pl.isList (λh' kp=>?_) (by simp only[aUG] <;> omega)
   have I1:Inv X aA σ H {s with heap:=h'}:=I.kept (t':=s.toks) kp
   have I2:Inv X aA σ (upd H h'.objs.size (.tup ys)) { s with heap:=h'.push { cls:=.type "tuple", data:=.seq its.toArray } } :=
    I1.laid (t':=s.toks) (λb o e=>hps e) (aUA _) (show bM X.prog X.w _ _ _ (.tup ys)from⟨hz,its,r',fM.new _ _⟩)
   exact⟨.ref h'.objs.size,_,I2,rfl,q _ (I1.hok.fresh (aUA _))⟩
 . obtain⟨its,r',pl,hz⟩:=I.tuple hq;exact call_tuple_same pl ⟨.ref p,H,I,rfl,q⟩
def tyV(K:Fg)(T:String)(x:V)(H:Hp):Prop:=match x with
 |.str _=>T="str"
 |.int _=>T="int"
 | .ref p => (T = "list" ∧ ∃ xs, SqL K H p xs) ∨ (T = "tuple" ∧ ∃ o, K.lookup p = some o ∧ o.cls = .type "tuple" ∧ o.dict = none) ∨
     (T="dict" /\ ((∃kvs,H p=some (.dK kvs))\/∃kvs,H p=some (.dT kvs)))\/(T="set" /\ ∃S n,H p=some (.set S n))
 |_=>False
def aF9{σ:St}{T:String}{x:V}{v:aZN}(I:Inv X aA σ H s)(r:aI x v)(ty:tyV X.K T x H):s.TypeIs v T/\∀a,v=.ref a->∃ob,s.heap.get? a=some ob/\ob.dict=none:=by
 cases x with
 |str z =>
  obtain⟨t,rfl⟩:=r;cases(show T="str" from ty)
  exact⟨typeIs_str s z t,λ_ e=>nomatch e⟩
 |int i =>
  obtain⟨t,rfl⟩:=r;cases(show T="int" from ty)
  exact⟨typeIs_int s i t,λ_ e=>nomatch e⟩
 |ref p =>
  cases r;rcases ty with⟨rfl,xs,hq⟩|⟨rfl,o,hk,hc,hd⟩|⟨rfl,hk⟩|⟨rfl,S,n,hk⟩
  . obtain⟨its,_,pl,_⟩:=I.list hq;refine⟨pl.isList.typeIs,λa e=>?_⟩;cases e;obtain⟨o,n,e,c,hd,_⟩:=pl;exact⟨o,e,hd⟩
  . refine⟨⟨o,I.kIn p o hk,hc⟩,λa e=>?_⟩;cases e;exact⟨o,I.kIn _ o hk,hd⟩
  . have z:∃o,s.heap.get? p=some o/\o.ExactDict:=by
      rcases hk with⟨kvs,hk⟩|⟨kvs,hk⟩
      . obtain⟨_,_,_,_,o,_,_,e,ex,_⟩:=I.hok p _ hk;exact⟨o,e,ex⟩
      . obtain⟨_,_,_,_,o,_,_,e,ex,_⟩:=I.hok p _ hk;exact⟨o,e,ex⟩
    obtain⟨o,e,ex⟩:=z;refine⟨⟨o,e,ex.1⟩,λa e2=>?_⟩;cases e2;exact⟨o,e,ex.2.1⟩
  . obtain⟨o,_,_,_,e,ex,_⟩:=I.hok p _ hk;refine⟨⟨o,e,ex.1⟩,λa e2=>?_⟩;cases e2;exact⟨o,e,ex.2.1⟩
 |_=>exact False.elim ty
def tBM(K:Fg)(T:String)(r:V->List V->Hp->VK->Prop)(to:TE)(t:TA):TE:=λσ H Q=>to σ H λx H1=>tyV K T x H1/\t σ H1 λxs H2=>r x xs H2 Q
variable  {o:Expr}{es:List Expr}{to:TE}{t:TA}{name:Str}{T id:String}{r:V->List V->Hp->VK->Prop}
def wA(pa:PlainAttrs T)(slot:Slot T name id)(hty:typeOf (.builtin id)=pure (.type "method_descriptor"))(hm:MtR X id r)(ho:PE X o to)(ha:PA X (e::es) t)(hbase:attributeBase o name X.env (eval o X.env)=eval o X.env:=by rfl)(hfew:((backTo cpos (starEach (e::es) X.env)).all (λx=>!x.1)&&(backToKw cpos (keywordEach [] X.env)).all (λx=>x.1.isSome)&&decide ((e::es).length+([]:List Keyword).length+(if([]:List Keyword).isEmpty then 0 else 1)<30))=true:=by rfl)(hline:(apos.endLine==cpos.line)=true:=by rfl)(hs:starEach (e::es) X.env=(false,eval e X.env)::starEach es X.env:=by rfl)(hplain:(backTo cpos (starEach es X.env)).any (·.1)=false:=by rfl):PE X (.Call (.Attribute o name apos) (e::es) [] cpos) (tBM X.K T r to t):=by
 intro aA s σ H Q I h;refine wpAny_Call_method_late hbase hfew hline rfl (thn (ho aA s σ H _ I h) λv s1 ⟨x,H1,I1,r1,ty,q1⟩=>?_);obtain⟨h1,h2⟩:=aF9 I1 r1 ty;refine⟨T,id,pa,slot,hty,h1,h2,?_⟩;have hA:=ha cpos aA s1 σ H1 _ I1 q1;rw[hs]at hA ⊢;refine aVQ (by show(false||(backTo cpos (starEach es X.env)).any (·.1))=false;rw[hplain] <;> rfl) (aVR ?_)
 exact thn hA λus s2 ⟨vs,H2,I2,r2,q2⟩=>hm aA s2 σ H2 x vs v us Q I2 r1 r2 q2
end
def MtM(X:Cx)(id:String)(r:V->List V->Hp->VK->Prop):Prop :=
 ∀(aA:LAO) (s:aZO) (σ:St) (H:Hp) (x:V) (xs:List V) (v:aZN) (us:List aZN) (Q:VK),Inv X aA σ H s->aI x v->aJ xs us->r x xs H Q ->
  wpAny (model X.prog X.w) X.A (call (.builtin id) (v::us)) (EP X aA σ Q) X.xe s
def aJ.one:∀{x:V}{us:List aZN},aJ [x] us->∃u,us=[u]/\aI x u
 |_,_,.cons r .nil=>⟨_,rfl,r⟩
section
variable {σ:St}{xs ys zs:List V}
def Inv.lset{its its':List aZN}{f:Array aZN->Array aZN}(I:Inv X aA σ H s)(hH:H l=some (.lst xs))(e:s.heap.get? l=some { cls:=.type "list", data:=.seq its.toArray n })(hf:f its.toArray=its'.toArray)(hv:aJ ys its')(hz:ys.length<=sizeLine):Inv X aA σ (upd H l (.lst ys)) {s with heap:=s.heap.update l (Obj.mapSeq f),toks:=t'}:=by
 have q:=PySem.IsL.update e f;rw[hf]at q;refine I.write (x:=l) (e:=l) (by rw[hH];exact trivial) (.inl rfl) (λb' u hb hu=>(aVS s.heap (Obj.mapSeq f) (Ne.symm hb)).trans hu) ⟨_,q⟩ ?_
 exact⟨hz,its',_,hv,q⟩
def Inv.lstM(I:Inv X aA σ H s)(hH:H l=some (.lst xs)):xs.length<=sizeLine/\∃(its:List aZN) (n:Nat),aJ xs its/\xs.length=its.length/\s.heap.get? l=some { cls:=.type "list", data:=.seq its.toArray n }:=by obtain⟨z,its,n,r,e⟩:=I.hok l _ hH;exact⟨z,its,n,r,r.length,e⟩
end
def aGA:V->List V->Hp->VK->Prop:=λx vs H Q=>∃l xs y,x=.ref l/\vs=[y]/\H l=some (.lst xs)/\xs.length<sizeLine/\Q .non (upd H l (.lst (xs++[y])))
def rA:MtM X "list.append" aGA:=by
 intro aA s σ H x vs v us Q I rx rv h;obtain⟨l,xs,y,rfl,rfl,hH,hz,q⟩:=h;cases rx;obtain⟨u,rfl,ru⟩:=rv.one;obtain⟨z,its,n,r,hl,e⟩:=I.lstM hH;refine call_meets F.slot_list_append ⟨_,e,rfl⟩ F.entry_list_append (F.args_list_append_2 _ _) (PySem.list_append l its.toArray n u (by rw[aUG];omega)) ⟨e,?_⟩
 refine⟨.non,_,I.lset (its':=its++[u]) hH e (by simp) (r.append (.cons ru .nil)) ?_,rfl,q⟩
 rw[aU4,aVT];omega
section
variable {A:aZP}{E:VSP}
end
section
variable [DecidableEq κ]
noncomputable def valV(kvs:List (κ×V))(k:κ):Option V:=(kvs.find? λkv=>decide (kv.1=k)).map (·.2)
noncomputable def rB(kvs:List (κ×V))(k:κ)(v:V):List (κ×V) :=
 if(kvs.any λkv=>decide (kv.1=k))=true then kvs.map (λkv=>if kv.1=k then(kv.1,v)else kv)else kvs++[(k,v)]
def c9.isSome_eq{o:Option V}{u:Option aZN}(r:c9 o u):o.isSome=u.isSome:=by
 cases o with
 |none=>cases u with
  |none=>rfl
  |some _=>exact(show False from r).elim
 |some _=>cases u with
  |none=>exact(show False from r).elim
  |some _=>rfl
theorem c9.getD{o:Option V}{u:Option aZN}{d:V}{d':aZN}(r:c9 o u)(rd:aI d d'):aI (o.getD d) (u.getD d'):=by
 cases o with
 |none=>cases u with
  |none=>exact rd
  |some _=>exact(show False from r).elim
 |some _=>cases u with
  |none=>exact(show False from r).elim
  |some _=>exact r
theorem KV.length{kvs:List (κ×V)}{vs:List (κ×aZN)}(r:KV kvs vs):kvs.length=vs.length:=aTH r
end
section
variable {a:Addr}
def rd_of{u:HO}(ok:HOk P w H h)(e:Rd H a u):bM P w H h a u:=e.ok ok
def dk_rd{kvs:List (Key×V)}(ok:HOk P w H h)(e:Rd H a (.dK kvs)):kvs.length<=sizeLine/\(a==sysModules)=false/\∃vs,KV kvs vs/\h.DictOf (jU P w) a vs :=
 show bM P w H h a (.dK kvs)from rd_of ok e
end
def DGet(H:Hp)(a:Addr)(y:V)(r:Option V):Prop :=
 (∃kvs k,Rd H a (.dK kvs)/\y=kV k/\r=valV kvs k)\/∃kvs k b,Rd H a (.dT kvs)/\y=.ref b/\H b=some (.tup (k.map kV))/\r=valV kvs k
def DPut(H:Hp)(a:Addr)(y v:V)(H':Hp):Prop :=
 (∃kvs k,H a=some (.dK kvs)/\y=kV k/\kvs.length<sizeLine/\H'=upd H a (.dK (rB kvs k v))) \/
 ∃kvs k b,H a=some (.dT kvs)/\y=.ref b/\H b=some (.tup (k.map kV))/\kvs.length<sizeLine/\H'=upd H a (.dT (rB kvs k v))
section
variable {σ:St}{a:Addr}{y:V}{r:aZN}{o:Option V}{A:aZP}{E:VSP}
def Inv.big(I:Inv X aA σ H s):sysModules<s.heap.objs.size:=by have h:mainGlobals<s.heap.objs.size:=(I.mod.glob.keeps I.bk).lt;exact Nat.lt_trans (by decide) h
def wB{ob:HO}(I:Inv X aA σ H s)(mu:Mut (H a))(hs:Heap.SameBut a s.heap h')(he:∃q,h'.get? a=some q)(new:bM X.prog X.w (upd H a ob) h' a ob):Inv X aA σ (upd H a ob) {s with heap:=h',toks:=t'} :=
 I.write (x:=a) (e:=a) mu (.inl rfl) (λb q hb z=>(hs.2 b hb).trans z) he new
def aGB{kvs:List (Key×V)}{vs:List (Key×aZN)}(z:kvs.length<=sizeLine)(hd:(a==sysModules)=false)(rel:KV kvs vs)(dd:h'.DictOf (jU P w) a vs):bM P w H' h' a (.dK kvs):=⟨z,hd,vs,rel,dd⟩
end
section
variable {σ:St}{a:Addr}{kvs:List (Key×V)}{k:Key}{A:aZP}{E:VSP}
end
section
variable  {o i value:Expr}{tpos:Pos}{ty tv:TE}
end
def mergeK(kvs more:List (Key×V)):List (Key×V):=more.foldl (λacc kv=>rB acc kv.1 kv.2) kvs
structure M2(X:Cx)(o:Expr)(m:Str)(apos:Pos)(e f:Expr)(cpos:Pos):Prop where
 base:attributeBase o m X.env (eval o X.env)=eval o X.env
 few:((backTo cpos (starEach [e,f] X.env)).all (λx=>!x.1)&&(backToKw cpos (keywordEach [] X.env)).all (λx=>x.1.isSome)
  && decide (([e,f]:List Expr).length+([]:List Keyword).length+(if([]:List Keyword).isEmpty then 0 else 1)<30))=true
 line:(apos.endLine==cpos.line)=true
 trees:backTo cpos (starEach [e,f] X.env)=[(false,eval e X.env),(false,eval f X.env)]
section
variable {σ:St}{a:Addr}{y d:V}{r:aZN}{o:Option V}{A:aZP}{E:VSP}
end
section
variable  {o f:Expr}{ty tx:TE}
end
section
variable {σ:St}{a:Addr}{kvs:List (Key×V)}{A:aZP}{E:VSP}
def aGC{Q:VSP}(I:Inv X aA σ H s)(e:Rd H a (.dK kvs))(h:∀p s',H p=none->Inv X aA σ (upd H p (.dK kvs)) s'->Q (.ref p) s'):wpAny (model X.prog X.w) A (call (.type "dict") [.ref a]) Q E s:=by
 obtain⟨z,hd,vs,rel,dd⟩:=dk_rd I.hok e;refine kt_call_dict hd dd (by rw[<- rel.length];exact z) λh' dd' hs=>?_
 refine h _ _ (I.hok.fresh (aUA _)) (I.laid (a:=s.heap.objs.size) (o:=.dK kvs) (t':=s.toks) (λb q hq=>?_) (aUA _) (aGB z (aTG.mpr (Ne.symm (aTM I.big))) rel dd'));exact(hs.2 b (aTM (aTJ hq))).trans (hps hq)
end
section
variable {σ:St}{a:Addr}{y:V}{A:aZP}{E:VSP}
end
end L2
namespace Att
open PySem.W PySem.Calls
def aGD{P:Params}:∀(ns:List Int) (vs:List aZN),WellAll P h vs (ns.map WData.int)->IntsAre vs ns:=by
 intro ns
 induction ns with
 |nil=>intro vs w;rw[aVU]at w;cases w;exact .nil
 |cons n ns ih =>
  intro vs w;rw[aUK]at w;cases w with
  |cons a b=>cases a;exact .cons _ _ (ih _ b)
def aGE{l:OpenLaw}(hn:l.most=some n){P:Params}{args:List WData}{vals:List aZN}(hpre:l.row.toRowW.claim.pre args=true)(hwl:WellAll P h vals args):∃a vs ns,vals=[Value.ref a]/\args=[WData.list (ns.map WData.int)]/\h.get? a=some { cls:=.type "list", data:=.seq vs.toArray }/\IntsAre vs ns/\ns.length<=n:=by
 have hsh:WShape.hasAll [] args [.list .int]=true:=(pre_splitW hpre).1;have hc:l.pre.holds [] {args:=args}=true:=(pre_splitW hpre).2;obtain⟨d,r,rfl,h1,h2⟩:=hasAllW_cons hsh;obtain rfl:=hasAllW_nil h2;obtain⟨xs,rfl,h3⟩:=hasW_list h1;obtain⟨ns,rfl⟩:=items_int h3;have hlen:ns.length<=n:=by
  unfold OpenLaw.pre at hc;have h4:(WTm.not (.lt (.lit (.int (n:Int))) (.len (.arg 0)))).holds [] {args:=[.list (ns.map .int)]}=true:=by have h4:=(holds_andW hc).1;rw[hn]at h4;exact h4
  have h5:=condW_of h4 (w_not (w_lt w_lit (w_len_list (w_arg rfl))));rw[aUL]at h5;refine Nat.le_of_not_lt λq=>?_;have q':(n:Int)<((ns.length:Nat):Int):=by omega
  first
   |(rw[aVV q']at h5;exact absurd h5 (by decide))
   |(simp at h5;omega)
 cases hwl with
 |cons w1 w2 =>
  cases w2;cases w1 with
  |list ho hall=>exact⟨_,_,ns,rfl,rfl,ho,aGD ns _ hall,hlen⟩
def aGF(l:OpenLaw)(args:List WData):l.row.toRowW.claim.post args (.bool true) args=true :=
 postW_of (r:=l.row.toRowW) (X:=(true==true))
  (show WShape.has [] (.bool true) .bool=true by first|rfl|decide|simp[WShape.has,WShape.arms,WShape.armsAll])
  (show(WTm.eq .res (.lit (.bool true))).value [] {args:=args,res:=some (.bool true),after:=args}=some (.bool (true==true))from w_eq_bool (w_res rfl) w_lit) rfl
def aGG{l:OpenLaw}{q:aZR}{d:DefRec}(hn:l.most=some n)(hdf:d.params.defaults=[])(call:∀(w:aZQ) (s₀ s₁:aZO) (mg mb:SOV) (fa:Addr) (o:Obj) (pm cd doc:aZN) (a:Addr) (vs:List aZN) (ns:List Int),Ground q loose [] XP w s₀ mg mb s₁.heap->YP w s₁.heap->s₁.heap.get? fa=some o->o.data=.func (docDef d.name d.params d.body d.scope pm cd doc)->s₁.heap.CodeRec cd d.name->mg d.name=some (.ref fa)->s₁.heap.get? a=some { cls:=.type "list", data:=.seq vs.toArray } -> IntsAre vs ns->ns.length<=n->s₁.gens = #[]->codeAny (model l.prog w) callerA (.call (.ref fa) ⟨[.ref a],[]⟩) (λr s'=>r=.ok (.ret (.bool true))/\OldK s₁.heap s'.heap/\s'.os=s₁.os/\AllBare s'.gens) s₁):WalkO q loose XP YP l.row.toRowW d [] (λf vs=>PySem.call f vs):=by intro w s₀ s₁ mg mb G Y fa o pm cd doc dV kV ho hd hcd hD hmg hg args vals as hpre hlay hrd hwl hlo;obtain rfl:dV=.none:=Dflts.none hD hdf;obtain rfl:kV=.none:=Dflts.noKw hD;obtain⟨a,vs,ns,rfl,rfl,hobj,hints,hlen⟩:=aGE hn hpre hwl;refine enter_call (aVW (call w s₀ s₁ mg mb fa o pm cd doc a vs ns G Y ho (fd_plain hd) hcd hmg hobj hints hlen hg) λr s' hq=>?_);obtain⟨rfl,h2,h3,h4⟩:=hq;exact⟨.inl ⟨.bool true,.bool true,[],rfl,λ_=>rfl,.bool true,aGF l _,λ_=>⟨List.Pairwise.nil,λ_ hm=>(nomatch hm)⟩⟩,h2,h3,h4⟩
section
variable {A:aZP}{E:VSP}{K:Frag}
def ledger(h:Heap)(L d:Addr):LAO:=(List.range h.objs.size).filterMap λa=>if a=L\/a=d then none else(h.get? a).map λo=>(a,o)
end
end Att
namespace L2
theorem wC:∀{vs:List aZN}{ns:List Int},IntsAre vs ns->aJ (ns.map V.int) vs
 |_,_,.nil=>.nil
 |_,_,.cons n t h=>.cons ⟨t,rfl⟩ (wC h)
noncomputable abbrev KOf(_:K.In h):Fg:=K
def nW(s:Stmt):Arguments:=match s with
 |.FunctionDef _ a _ _ _ _ _ _ _ _=>a
 |_=>{posonlyargs:=[],args:=[],vararg:=none,kwonlyargs:=[],kw_defaults:=[],kwarg:=none,defaults:=[]}
def i6(s:Stmt):List Stmt:=match s with
 |.FunctionDef _ _ b _ _ _ _ _ _ _=>b
 |_=>[]
def dZ(s:Stmt):Scope:=match s with
 |.FunctionDef _ _ _ _ _ _ sc _ _ _=>sc
 |_=>{kind:=.function,names:=[],isGenerator:=false,isCoroutine:=false}
abbrev E0:XK:=λ_ _ _=>False
structure Fun(K:Fg)(x qual:Str)(st:Stmt)(f:Addr)(fd:FuncData):Prop where
 ex:∃(oc:aZN) (od:Option Addr) (kV doc pm:aZN) (an:Option Addr) (cdv ct:aZN) (osl:Array (Option aZN)),
  fd=W.fnOf x qual (nW st) (i6 st) (dZ st) .none kV doc pm an cdv ct/\K.lookup f=some ⟨oc,od,.func fd,osl⟩/\W.codeIn K cdv qual=true
 kp:W.keepIn K (.ref f)=true
def aGH{x:Str}{f:Addr}{oc:aZN}{od an:Option Addr}{osl:Array (Option aZN)}{kV doc pm ct:aZN}(l:K.lookup f=some ⟨oc,od,.func (W.fnOf x qual (nW st) (i6 st) (dZ st) .none kV doc pm an cdv ct),osl⟩)(c:W.codeIn K cdv qual=true)(k:W.keepIn K (.ref f)=true):Fun K x qual st f (W.fnOf x qual (nW st) (i6 st) (dZ st) .none kV doc pm an cdv ct):=⟨⟨oc,od,kV,doc,pm,an,cdv,ct,osl,rfl,l,c⟩,k⟩
def aD(H H':Hp):Prop:=∀b o,H b=some o->H' b=some o
def aD.refl(H:Hp):aD H H:=λ_ _ h=>h
def aD.trans{H1 H2:Hp}(a:aD H H1)(b:aD H1 H2):aD H H2:=λc o h=>b c o (a c o h)
def aD.free(e:aD H H')(h:H' l=Option.none):H l=Option.none:=by
 cases q:H l with
 |none=>rfl
 |some o=>rw[e l o q]at h;cases h
def aD.seq{a:Addr}{xs:List V}(e:aD H H')(h:SqL K H a xs):SqL K H' a xs:=by
 rcases h with(h|⟨o,h⟩)|h
 . exact .inl (.inl (e _ _ h))
 . exact .inl (.inr ⟨o,e _ _ h⟩)
 . exact .inr h
section
variable [DecidableEq κ]
end
def N.ind{P:N->Prop}(hi:∀n,P (.i n))(hs:∀x,P (.s x))(ht:∀xs,(∀x∈xs,P x)->P (.t xs))(k:N):P k :=
 N.rec (motive_1:=P) (motive_2:=λxs=>∀x∈xs,P x) hi hs ht (λ_ h=>nomatch h) (λa l h1 h2 x hx=>by
  rcases aTT.mp hx with rfl|hx
  . exact h1
  . exact h2 x hx) k
mutual
def N.eq:N->N->Bool
 |.i n,.i m=>n==m
 |.s x,.s y=>x==y
 |.t xs,.t ys=>N.eqL xs ys
 |_,_=>false
def N.eqL:List N->List N->Bool
 |[],[]=>true
 |x::xs,y::ys=>N.eq x y&&N.eqL xs ys
 |_,_=>false
end
theorem N.eqL_iff:∀{xs ys:List N},(∀x∈xs,∀y,N.eq x y=true↔x=y)->(N.eqL xs ys=true↔xs=ys)
 |[],[],_=>by simp[N.eqL]
 |[],_::_,_=>by simp[N.eqL]
 |_::_,[],_=>by simp[N.eqL]
 |x::xs,y::ys,h=>by rw[N.eqL,aVL,h x mcs y,N.eqL_iff λz hz=>h z (mcm hz),List.cons.injEq]
def N.eq_iff(k:N):∀y,N.eq k y=true↔k=y:=by
 induction k using N.ind with
 |hi n=>intro y;cases y <;> simp[N.eq]
 |hs x=>intro y;cases y <;> simp[N.eq]
 |ht xs ih =>
  intro y;cases y with
  |t ys=>rw[N.eq,N.eqL_iff ih];simp
  |_=>simp[N.eq]
instance:DecidableEq N:=λa b=>decidable_of_iff _ (N.eq_iff a b)
mutual
def N.py:N->PyData
 |.i n=>.int n
 |.s x=>.str x
 |.t xs=>.tuple (N.pyL xs)
def N.pyL:List N->List PyData
 |[]=>[]
 |x::xs=>N.py x::N.pyL xs
end
mutual
def N.dp:N->Nat
 |.i _=>0
 |.s _=>0
 |.t xs=>N.dpL xs+1
def N.dpL:List N->Nat
 |[]=>0
 |x::xs=>max (N.dp x) (N.dpL xs)
end
theorem N.dp_mem:∀{xs:List N}{x:N},x∈xs->x.dp<=N.dpL xs
 |y::ys,x,h=>by
  rw[N.dpL];rcases aTT.mp h with rfl|h
  . omega
  . have:=N.dp_mem h;omega
theorem N.py_depthL:∀{xs:List N},(∀x∈xs,x.py.depth=x.dp)->PyData.depthAll (N.pyL xs)=N.dpL xs
 |[],_=>by simp[N.pyL,N.dpL,PyData.depthAll]
 |x::xs,h=>by simp only[N.pyL,N.dpL,PyData.depthAll];rw[h x mcs,N.py_depthL λz hz=>h z (mcm hz)]
def N.py_depth(k:N):k.py.depth=k.dp:=by
 induction k using N.ind with
 |hi n=>simp[N.py,N.dp,PyData.depth]
 |hs x=>simp[N.py,N.dp,PyData.depth]
 |ht xs ih=>simp only[N.py,N.dp,PyData.depth];rw[N.py_depthL ih]
theorem N.py_eqvL:∀{xs ys:List N},(∀x∈xs,∀y:N,PyData.eqv x.py y.py=decide (x=y))->PyData.eqvAll (N.pyL xs) (N.pyL ys)=decide (xs=ys)
 |[],[],_=>by simp[N.pyL,PyData.eqvAll]
 |[],_::_,_=>by simp[N.pyL,PyData.eqvAll]
 |_::_,[],_=>by simp[N.pyL,PyData.eqvAll]
 |x::xs,y::ys,h=>by simp only[N.pyL,PyData.eqvAll];rw[h x mcs y,N.py_eqvL λz hz=>h z (mcm hz)];by_cases e1:x=y <;> by_cases e2:xs=ys <;> simp[e1,e2]
def N.py_eqv(k:N):∀y:N,PyData.eqv k.py y.py=decide (k=y):=by
 induction k using N.ind with
 |hi n =>
  intro y;cases y with
  |i m=>simp only[N.py,PyData.eqv];by_cases e:n=m <;> simp[e]
  |s x=>simp[N.py,PyData.eqv]
  |t xs=>simp[N.py,PyData.eqv]
 |hs x =>
  intro y;cases y with
  |i m=>simp[N.py,PyData.eqv]
  |s z=>simp only[N.py,PyData.eqv];by_cases e:x=z <;> simp[e]
  |t xs=>simp[N.py,PyData.eqv]
 |ht xs ih =>
  intro y;cases y with
  |i m=>simp[N.py,PyData.eqv]
  |s z=>simp[N.py,PyData.eqv]
  |t ys=>simp only[N.py,PyData.eqv];rw[N.py_eqvL ih];by_cases e:xs=ys <;> simp[e]
mutual
def IsN(h:Heap):N->aZN->Prop
 |.i n,v=>∃t,v=.int n t
 |.s x,v=>(∃t,v=.str x t)/\PyData.strOk x=true
 |.t xs,v=>∃a o items n,v=.ref a/\h.get? a=some o/\o.cls=.type "tuple" /\ o.data=.seq items n/\aY h xs items.toList
def aY(h:Heap):List N->List aZN->Prop
 |[],vs=>vs=[]
 |x::xs,vs=>∃v us,vs=v::us/\IsN h x v/\aY h xs us
end
theorem aY.mem:∀{h:Heap}{xs:List N}{vs:List aZN},aY h xs vs->∀v∈vs,∃x∈xs,IsN h x v
 |h,[],vs,q,v,hv=>by rw[aY]at q;subst q;cases hv
 |h,x::xs,vs,q,v,hv=>by
  rw[aY]at q;obtain⟨u,us,rfl,q1,q2⟩:=q;rcases aTT.mp hv with rfl|hv
  . exact⟨x,mcs,q1⟩
  . obtain⟨y,hy,e⟩:=q2.mem v hv;exact⟨y,mcm hy,e⟩
theorem aY.map:∀{h h':Heap}{xs:List N}{vs:List aZN},aY h xs vs->(∀x∈xs,∀v,IsN h x v->IsN h' x v)->aY h' xs vs
 |h,h',[],vs,q,k=>by rw[aY]at q ⊢;exact q
 |h,h',x::xs,vs,q,k=>by rw[aY]at q ⊢;obtain⟨u,us,e,q1,q2⟩:=q;exact⟨u,us,e,k x mcs u q1,q2.map λy hy=>k y (mcm hy)⟩
def IsN.keeps{d:Addr}{o:Obj}{es ep:_}(ho:h.get? d=some o)(hd:o.data=.dict es ep)(hs:Heap.SameBut d h h')(k:N):∀v,IsN h k v->IsN h' k v:=by
 induction k using N.ind with
 |hi n=>intro v q;rw[IsN]at q ⊢;exact q
 |hs x=>intro v q;rw[IsN]at q ⊢;exact q
 |ht xs ih =>
  intro v q;rw[IsN]at q ⊢;obtain⟨a,o',items,n,e,ha,hc,hd',hi⟩:=q;have hne:a≠d:=by rintro rfl;obtain rfl:o'=o:=aTZ (ha.symm.trans ho);rw[hd]at hd';exact nomatch hd'
  exact⟨a,o',items,n,e,(hs.2 a hne).trans ha,hc,hd',hi.map ih⟩
theorem aY.readsL:∀{h:Heap}{xs:List N}{vs:List aZN},aY h xs vs->(∀x∈xs,∀v,IsN h x v->(∃as,Reads h v x.py as)/\x.py.canLay0=true)->(∃as,ReadsAll h vs (N.pyL xs) as)/\PyData.canLayAll0 (N.pyL xs)=true
 |h,[],vs,q,k=>by rw[aY]at q;subst q;exact⟨⟨_,.nil⟩,by simp[N.pyL,PyData.canLayAll0]⟩
 |h,x::xs,vs,q,k=>by rw[aY]at q;obtain⟨u,us,rfl,q1,q2⟩:=q;obtain⟨⟨as,ra⟩,ca⟩:=k x mcs u q1;obtain⟨⟨bs,rb⟩,cb⟩:=q2.readsL λy hy=>k y (mcm hy);exact⟨⟨_,.cons ra rb⟩,by simp only[N.pyL,PyData.canLayAll0,ca,cb,Bool.and_self]⟩
def IsN.reads(k:N):∀v,IsN h k v->(∃as,Reads h v k.py as)/\k.py.canLay0=true:=by
 induction k using N.ind with
 |hi n=>intro v q;rw[IsN]at q;obtain⟨t,rfl⟩:=q;exact⟨⟨_,.int n t⟩,rfl⟩
 |hs x=>intro v q;rw[IsN]at q;obtain⟨⟨t,rfl⟩,hk⟩:=q;exact⟨⟨_,.str x t⟩,by simpa only [N.py,PyData.canLay0]using hk⟩
 |ht xs ih=>intro v q;rw[IsN]at q;obtain⟨a,o',items,n,rfl,ha,hc,hd',hi⟩:=q;obtain⟨⟨as,ra⟩,ca⟩:=hi.readsL ih;exact⟨⟨_,.tuple ha hc hd' ra⟩,by simpa only [N.py,PyData.canLay0]using ca⟩
theorem aY.inj:∀{h:Heap}{xs ys:List N}{vs:List aZN},(∀x∈xs,∀y v,IsN h x v->IsN h y v->x=y)->aY h xs vs->aY h ys vs->xs=ys
 |h,[],[],vs,_,_,_=>rfl
 |h,[],y::ys,vs,_,p,q=>by rw[aY]at p;subst p;rw[aY]at q;obtain⟨_,_,e,_⟩:=q;cases e
 |h,x::xs,[],vs,_,p,q=>by rw[aY]at q;subst q;rw[aY]at p;obtain⟨_,_,e,_⟩:=p;cases e
 |h,x::xs,y::ys,vs,k,p,q=>by rw[aY]at p q;obtain⟨u,us,rfl,p1,p2⟩:=p;obtain⟨_,_,e,q1,q2⟩:=q;cases e;rw[k x mcs y _ p1 q1,aY.inj (λz hz=>k z (mcm hz)) p2 q2]
theorem IsN.inj(k:N):∀y v,IsN h k v->IsN h y v->k=y:=by
 induction k using N.ind with
 |hi n =>
  intro y v p q;rw[IsN]at p;obtain⟨t,rfl⟩:=p;cases y with
  |i m=>rw[IsN]at q;obtain⟨u,e⟩:=q;cases e;rfl
  |s x=>rw[IsN]at q;obtain⟨⟨u,e⟩,_⟩:=q;cases e
  |t xs=>rw[IsN]at q;obtain⟨_,_,_,_,e,_⟩:=q;cases e
 |hs x =>
  intro y v p q;rw[IsN]at p;obtain⟨⟨t,rfl⟩,_⟩:=p;cases y with
  |i m=>rw[IsN]at q;obtain⟨u,e⟩:=q;cases e
  |s x=>rw[IsN]at q;obtain⟨⟨u,e⟩,_⟩:=q;cases e;rfl
  |t xs=>rw[IsN]at q;obtain⟨_,_,_,_,e,_⟩:=q;cases e
 |ht xs ih =>
  intro y v p q;rw[IsN]at p;obtain⟨a,o,items,n,rfl,ha,hc,hd,hi⟩:=p;cases y with
  |i m=>rw[IsN]at q;obtain⟨u,e⟩:=q;cases e
  |s x=>rw[IsN]at q;obtain⟨⟨u,e⟩,_⟩:=q;cases e
  |t ys =>
   rw[IsN]at q;obtain⟨a',o',items',n',e,ha',_,hd',hi'⟩:=q;cases e;obtain rfl:o=o':=aTZ (ha.symm.trans ha');rw[hd]at hd';injection hd' with h1 _
   subst h1;rw[aY.inj ih hi hi']
mutual
def N.dr:N->Nat
 |.i _=>1
 |.s _=>1
 |.t xs=>N.drL xs+1
def N.drL:List N->Nat
 |[]=>0
 |x::xs=>N.dr x+N.drL xs
end
section
variable {A:aZP}{E:VSP}
theorem wD:∀(xs:List N) (y:N),N.drL (xs++[y])=N.drL xs+N.dr y
 |[],y=>by simp[N.drL]
 |x::xs,y=>by rw[aVX,N.drL,wD xs y,N.drL,aVY]
theorem wE:∀(xs:List N) (y:N),dW w (xs++[y])=dW w xs++[gJ w y]
 |[],y=>by simp[dW]
 |x::xs,y=>by rw[aVX,dW,wE xs y,dW,aVX]
def aGI(k:N):∀{A:aZP}{E:VSP}{s:aZO}{v:aZN}{Q:Int->aZO->Prop},A.units+k.dp<cLine->IsN s.heap k v->Q (gJ w k) {s with toks:=s.toks+k.dr} -> wpAny (model prog w) A (pyHash v) Q E s:=by
 induction k using N.ind with
 |hi n=>intro A E s v Q hu hk h;rw[IsN]at hk;obtain⟨t,rfl⟩:=hk;rw[gJ,N.dr]at h;exact wpAny_pyHash_int h
 |hs x=>intro A E s v Q hu hk h;rw[IsN]at hk;obtain⟨⟨t,rfl⟩,_⟩:=hk;rw[gJ,N.dr]at h;exact wpAny_pyHash_str h
 |ht xs ih =>
  intro A E s v Q hu hk h;rw[IsN]at hk;obtain⟨a,o,items,n,rfl,ho,hc,hd,hi⟩:=hk;rw[N.dp]at hu;have hT:s.TypeIs (.ref a) "tuple" := ⟨o,ho,hc⟩;unfold pyHash
  first|unfold pyHashByItsType|skip
  first|refine aT8 (wpAny_cRoomFor_or (.inr (by omega)) ?_)|skip
  refine aT8 (aVZ hT F.slot_tuple_hash.lookup ?_);show wpAny _ _ (if(some (Value.builtin "tuple.__hash__")==some Value.none)=true then _ else _) Q E s;rw[if_neg (by rw[beq_builtin_none];exact aT5)]
  refine aT8 (aVZ hT F.slot_tuple_hash.lookup ?_);show wpAny _ _ (callSpecialIfBoundUnlessNone? (.ref a) "__hash__" _>>=_) Q E s;refine aT8 (wpAny_callSpecialIfBoundUnlessNone?_slot hT F.slot_tuple_hash (aVJ F.slot_tuple_hash hT F.entry_tuple_hash ?_ (F.args_tuple_hash_1 _)));show wpAny _ _ (Builtin.Tuple.tupleItemsOf (.ref a)>>=_) _ _ s;refine aT8 (wpAny_tupleItemsOf ho hd ?_);refine aT8 ?_;rw[<- Array.forIn_toList];refine aV0 _
   (λrest (b:Array Int) s'=>∃done left,xs=done++left/\aY s.heap left rest/\b.toList=dW w done/\s'={s with toks:=s.toks+N.drL done})
   _ ?_ ?_ _ _ ⟨[],xs,rfl,hi,by simp[dW],by simp[N.drL]⟩
  . rintro x rest b s' ⟨done,left,e,hl,hb,rfl⟩;cases left with
    |nil=>rw[aY]at hl;cases hl
    |cons k ks =>
     rw[aY]at hl;obtain⟨_,_,e',h1,hl'⟩:=hl;cases e';have hm:k∈xs:=by rw[e];simp
     refine aT8 (ih k hm (A:=A.in1) (by have:=N.dp_mem hm;show A.units+1+_<_;omega) h1 ?_)
     have fin:∃done' left',xs=done'++left'/\aY s.heap left' rest/\(b.push (gJ w k)).toList=dW w done'/\({s with toks:=s.toks+N.drL done+k.dr}:aZO)={s with toks:=s.toks+N.drL done'} :=
      ⟨done++[k],ks,by rw[e];simp,hl',by rw[wE,aV1,hb],by rw[wD,aVY]⟩
     first
      |exact aT7 fin
      |exact aT8 (aT7 (aT7 fin))
  . rintro b s' ⟨done,left,e,hl,hb,rfl⟩;cases left with
    |cons k ks=>rw[aY]at hl;obtain⟨_,_,e',_⟩:=hl;cases e'
    |nil =>
    rw[aUS]at e;subst e;show wpAny _ _ (retInt (Builtin.Tuple.tupleHashOf b.toList)) _ _ _;rw[hb];refine wpAny_ret_mkInt ?_;show wpAny _ _ (if(decide (-(2:Int) ^ 63<=Builtin.Tuple.tupleHashOf (dW w xs))&&decide (Builtin.Tuple.tupleHashOf (dW w xs)<2 ^ 63))=true then _ else _) Q E _;rw[gJ,N.dr]at h;unfold reduceHash at h;by_cases hr:(decide (-(2:Int) ^ 63<=Builtin.Tuple.tupleHashOf (dW w xs))&&decide (Builtin.Tuple.tupleHashOf (dW w xs)<2 ^ 63))=true
    . rw[if_pos hr];rw[if_pos hr]at h;exact aT7 (by simpa[aVY]using h)
    . rw[if_neg hr];rw[if_neg hr]at h;exact aT8 (aV2 (aT7 (by simpa[aVY]using h)))
def n_eq{x y:N}{v:aZN}{Q:Bool->aZO->Prop}(hu:A.units+x.dp<cLine)(hx:IsN s.heap x u)(hy:IsN s.heap y v)(h:Q (decide (x=y)) s):wpAny (model prog w) A (eqBool u v) Q E s:=by
 obtain⟨⟨as,ra⟩,ca⟩:=IsN.reads x u hx;obtain⟨⟨bs,rb⟩,cb⟩:=IsN.reads y v hy;refine SeqAt.eqAt_reads x.py y.py A s u v as bs ra rb ca cb (by rw[N.py_depth];have:=aV3 x.dp y.py.depth;omega) prog w E Q ?_
 rw[N.py_eqv];exact h
def aGJ(k:N):∀{n:Nat}{v:aZN}{Q:Bool->aZO->Prop},k.dp<=n->IsN s.heap k v->Q true s->wpAny (model prog w) A (eqIsQuiet n v) Q E s:=by
 induction k using N.ind with
 |hi m=>intro n v Q hn hk h;rw[IsN]at hk;obtain⟨t,rfl⟩:=hk;rw[eqIsQuiet_byValue n rfl];exact aT7 h
 |hs x=>intro n v Q hn hk h;rw[IsN]at hk;obtain⟨⟨t,rfl⟩,_⟩:=hk;rw[eqIsQuiet_byValue n rfl];exact aT7 h
 |ht xs ih =>
  intro n v Q hn hk h;rw[IsN]at hk;obtain⟨a,o,items,c,rfl,ho,hc,hd,hi⟩:=hk;rw[N.dp]at hn;cases n with
  |zero=>omega
  |succ n =>
   have hT:s.TypeIs (.ref a) "tuple" := ⟨o,ho,hc⟩;unfold eqIsQuiet;refine aT8 (aVZ hT F.slot_tuple_eq.lookup ?_);show wpAny _ _ (isInstance (.ref a) (.type "tuple")>>=_) _ _ s;refine aT8 (aV4 hT isSubtype_tuple_tuple ?_);simp only[aV5,aV6,aVC];refine aT8 (aV7 ho hd ?_);refine aT8 ?_;show wpAny _ _ (forIn items _ _) _ _ s;rw[<- Array.forIn_toList];refine aV0 _ (λrest r s'=>r.1=none/\s'=s/\∀v∈rest,∃x∈xs,IsN s.heap x v) _ ?_ ?_ _ _ ⟨rfl,rfl,hi.mem⟩
   . rintro v rest r s' ⟨hr,rfl,hall⟩;obtain⟨x,hx,hv⟩:=hall v mcs;refine aT8 (ih x hx (n:=n) (by have:=N.dp_mem hx;omega) hv ?_)
     simp only[aV5,aV6,aVC];exact aT7 ⟨rfl,rfl,λu hu'=>hall u (mcm hu')⟩
   . rintro⟨r1,r2⟩ s' ⟨hr,rfl,_⟩;simp only at hr;subst hr;exact aT7 h
end
noncomputable def lJ(prog:aZR)(w:aZQ):HeapKind prog w N where
 is:=λh k a=>IsN h k (.ref a)/\k.dp<=8
 hash:=gJ w
 draws:=N.dr
 room:=λA=>A.units+8<cLine
 inj:=λhx hy=>IsN.inj _ _ _ hx.1 hy.1
 keeps:=λx ho hd hs=>⟨IsN.keeps ho hd hs _ _ x.1,x.2⟩
 pyHash:=λhu hk h=>aGI _ (by have:=hk.2;omega) hk.1 h
 eqBool:=λhu hx hy h=>n_eq (by have:=hx.2;omega) hx.1 hy.1 h
 quiet:=λhk h=>aGJ _ hk.2 hk.1 h
end L2
namespace D3
inductive D where
 |non|bl (b:Bool)|int (i:Int)|str (x:Str)|tup (xs:List D)|lst (xs:List D)|dct (kvs:List (Key×D))|ty (n:String)|ob (a:Addr)|ins (c:Str) (fs:List (Str×D))|fn (x:Str)|exn (c:Str)|set (ks:List Key)|dtn (kvs:List (N×D))|dtf (kvs:List (N×D))
inductive Md where|fz|fr|bo
 deriving DecidableEq
inductive Res where
 |ok (m:Md) (d:D)|exc (c:Str)|stuck
def xobj(a C:Addr):HO:=.ext λh=>∃o,h.get? a=some o/\o.cls=.ref C
mutual
def NAt(K:Fg)(F:Hp):N->V->Prop
 |.i n,v=>v=.int n
 |.s x,v=>v=.str x/\x.length<=sizeLine/\PyData.strOk x=true
 |.t xs,v=>∃a ys,v=.ref a/\SqT K F a ys/\bY K F xs ys
def bY(K:Fg)(F:Hp):List N->List V->Prop
 |[],ys=>ys=[]
 |x::xs,ys=>∃y zs,ys=y::zs/\NAt K F x y/\bY K F xs zs
end
end D3
variable {pl:D3.D->D3.D->D3.D}{ds:List D3.D}{φ:D3.Md->D3.D->D3.Md->D3.D->Option (D3.Md×D3.D)}{Φ:List D3.D->D3.Res}{m':D3.Md}{Kd No Wd:D3.D}{prs:List (L2.N×D3.D)}
namespace D3
def wF(S:Key->Bool)(ks:List Key):Prop:=ks.Nodup/\∀k,S k=true↔k∈ks
mutual
def aB(K:Fg)(F:Hp):D->V->Prop
 |.non,v=>v=.non
 |.bl b,v=>v=.bl b
 |.int i,v=>v=.int i
 |.str x,v=>v=.str x/\x.length<=sizeLine/\PyData.strOk x=true
 |.tup ds,v=>∃a xs,v=.ref a/\SqT K F a xs/\aC K F ds xs
 |.lst ds,v=>∃a xs,v=.ref a/\SqL K F a xs/\aC K F ds xs
 |.dct kvs,v=>∃a xs,v=.ref a/\F a=some (.dK xs)/\dI K F kvs xs
 |.ty n,v=>v=.ty n
 |.ob a,v=>v=.ref a
 |.ins c fs,v=>∃a C dx gs,v=.ref a/\W.nsIn K mainGlobals c=some (some (.ref C))/\F a=some (.ins C dx gs)/\aZ K F fs gs
 |.fn x,v=>∃a,v=.ref a/\W.nsIn K mainGlobals x=some (some (.ref a))
 |.exn c,v=>∃a C,v=.ref a/\W.nsIn K mainGlobals c=some (some (.ref C))/\F a=some (xobj a C)
 |.set ks,v=>∃a S,v=.ref a/\F a=some (.set S ks.length)/\wF S ks
 |.dtn kvs,v=>∃a xs,v=.ref a/\F a=some (.dN xs)/\aN K F kvs xs
 |.dtf kvs,v=>∃a o xs,v=.ref a/\F a=some (.frz o (.dN xs))/\aN K F kvs xs
def aN(K:Fg)(F:Hp):List (N×D)->List (N×Addr×V)->Prop
 |[],xs=>xs=[]
 |(k,d)::ds,xs=>∃b y ys,xs=(k,b,y)::ys/\(NAt K F k (.ref b)/\k.dp<=8)/\aB K F d y/\aN K F ds ys
def aC(K:Fg)(F:Hp):List D->List V->Prop
 |[],xs=>xs=[]
 |d::ds,xs=>∃y ys,xs=y::ys/\aB K F d y/\aC K F ds ys
def dI(K:Fg)(F:Hp):List (Key×D)->List (Key×V)->Prop
 |[],xs=>xs=[]
 |(k,d)::ds,xs=>∃y ys,xs=(k,y)::ys/\aB K F d y/\dI K F ds ys
def aZ(K:Fg)(F:Hp):List (Str×D)->List (Str×V)->Prop
 |[],xs=>xs=[]
 |(k,d)::ds,xs=>∃y ys,xs=(k,y)::ys/\aB K F d y/\aZ K F ds ys
end
def aD.seqT{a:Addr}{xs:List V}(e:aD H H')(h:SqT K H a xs):SqT K H' a xs:=by
 rcases h with(h|⟨o,h⟩)|h
 . exact .inl (.inl (e _ _ h))
 . exact .inl (.inr ⟨o,e _ _ h⟩)
 . exact .inr h
section
variable  {F:Hp}
theorem bY.map:∀{xs:List N}{ys:List V},bY K F xs ys->(∀x∈xs,∀v,NAt K F x v->NAt K F' x v)->bY K F' xs ys
 |[],_,h,_=>by simpa only [bY]using h
 |x::xs,ys,h,k=>by simp only[bY]at h ⊢;obtain⟨y,zs,e,q,r⟩:=h;exact⟨y,zs,e,k x mcs y q,r.map λz hz=>k z (mcm hz)⟩
def NAt.mono(s:aD F F')(k:N):∀v,NAt K F k v->NAt K F' k v:=by
 induction k using N.ind with
 |hi n=>intro v h;simpa only [NAt]using h
 |hs x=>intro v h;simpa only [NAt]using h
 |ht xs ih=>intro v h;simp only[NAt]at h ⊢;obtain⟨a,ys,e,q,r⟩:=h;exact⟨a,ys,e,aD.seqT s q,r.map ih⟩
mutual
theorem aB.mono(s:aD F F'):∀(d:D) (v:V),aB K F d v->aB K F' d v
 |.non,_,h=>by simpa only [aB]using h
 |.bl _,_,h=>by simpa only [aB]using h
 |.int _,_,h=>by simpa only [aB]using h
 |.str _,_,h=>by simpa only [aB]using h
 |.tup ds,v,h=>by simp only[aB]at h ⊢;obtain⟨a,xs,e,q,r⟩:=h;exact⟨a,xs,e,aD.seqT s q,aC.mono s ds xs r⟩
 |.lst ds,v,h=>by simp only[aB]at h ⊢;obtain⟨a,xs,e,q,r⟩:=h;exact⟨a,xs,e,s.seq q,aC.mono s ds xs r⟩
 |.dct ds,v,h=>by simp only[aB]at h ⊢;obtain⟨a,xs,e,q,r⟩:=h;exact⟨a,xs,e,s _ _ q,dI.mono s ds xs r⟩
 |.ty _,_,h=>by simpa only [aB]using h
 |.ob _,_,h=>by simpa only [aB]using h
 |.fn _,_,h=>by simpa only [aB]using h
 |.exn _,_,h=>by simp only[aB]at h ⊢;obtain⟨a,C,e,n,q⟩:=h;exact⟨a,C,e,n,s _ _ q⟩
 |.set _,_,h=>by simp only[aB]at h ⊢;obtain⟨a,S,e,q,r⟩:=h;exact⟨a,S,e,s _ _ q,r⟩
 |.dtn ds,v,h=>by simp only[aB]at h ⊢;obtain⟨a,xs,e,q,r⟩:=h;exact⟨a,xs,e,s _ _ q,aN.mono s ds xs r⟩
 |.dtf ds,v,h=>by simp only[aB]at h ⊢;obtain⟨a,o,xs,e,q,r⟩:=h;exact⟨a,o,xs,e,s _ _ q,aN.mono s ds xs r⟩
 |.ins c fs,v,h=>by simp only[aB]at h ⊢;obtain⟨a,C,dx,gs,e,n,q,r⟩:=h;exact⟨a,C,dx,gs,e,n,s _ _ q,aZ.mono s fs gs r⟩
theorem aC.mono(s:aD F F'):∀(ds:List D) (xs:List V),aC K F ds xs->aC K F' ds xs
 |[],_,h=>by simpa only [aC]using h
 |d::ds,xs,h=>by simp only[aC]at h ⊢;obtain⟨y,ys,e,q,r⟩:=h;exact⟨y,ys,e,aB.mono s d y q,aC.mono s ds ys r⟩
theorem dI.mono(s:aD F F'):∀(ds:List (Key×D)) (xs:List (Key×V)),dI K F ds xs->dI K F' ds xs
 |[],_,h=>by simpa only [dI]using h
 |(k,d)::ds,xs,h=>by simp only[dI]at h ⊢;obtain⟨y,ys,e,q,r⟩:=h;exact⟨y,ys,e,aB.mono s d y q,dI.mono s ds ys r⟩
theorem aN.mono(s:aD F F'):∀(ds:List (N×D)) (xs:List (N×Addr×V)),aN K F ds xs->aN K F' ds xs
 |[],_,h=>by simpa only [aN]using h
 |(k,d)::ds,xs,h=>by simp only[aN]at h ⊢;obtain⟨b,y,ys,e,n,q,r⟩:=h;exact⟨b,y,ys,e,⟨NAt.mono s k _ n.1,n.2⟩,aB.mono s d y q,aN.mono s ds ys r⟩
theorem aZ.mono(s:aD F F'):∀(ds:List (Str×D)) (xs:List (Str×V)),aZ K F ds xs->aZ K F' ds xs
 |[],_,h=>by simpa only [aZ]using h
 |(k,d)::ds,xs,h=>by simp only[aZ]at h ⊢;obtain⟨y,ys,e,q,r⟩:=h;exact⟨y,ys,e,aB.mono s d y q,aZ.mono s ds ys r⟩
end
theorem aZ.look:∀{ds:List (Str×D)}{xs:List (Str×V)}{f:Str}{d:D},aZ K F ds xs->ds.lookup f=some d->∃v,xs.lookup f=some v/\aB K F d v
 |[],_,_,_,h,e=>by cases e
 |(k,d')::ds,_,f,d,h,e=>by
  simp only[aZ]at h;obtain⟨y,ys,rfl,q,r⟩:=h;rw[aV8]at e ⊢;split at e
  . cases e;exact⟨y,rfl,q⟩
  . exact aZ.look r e
theorem aZ.lookN:∀{ds:List (Str×D)}{xs:List (Str×V)}{f:Str},aZ K F ds xs->ds.lookup f=none->xs.lookup f=none
 |[],_,_,h,e=>by simp only[aZ]at h;subst h;rfl
 |(k,d')::ds,_,f,h,e=>by
  simp only[aZ]at h;obtain⟨y,ys,rfl,q,r⟩:=h;rw[aV8]at e ⊢;split at e
  . cases e
  . exact aZ.lookN r e
theorem aZ.length:∀{ds:List (Str×D)}{xs:List (Str×V)},aZ K F ds xs->xs.length=ds.length
 |[],_,h=>by simp only[aZ]at h;subst h;rfl
 |(k,d')::ds,_,h=>by simp only[aZ]at h;obtain⟨y,ys,rfl,q,r⟩:=h;rw[aUJ,aUJ,aZ.length r]
theorem aC.length:∀{ds:List D}{xs:List V},aC K F ds xs->xs.length=ds.length
 |[],_,h=>by simp only[aC]at h;subst h;rfl
 |d::ds,_,h=>by simp only[aC]at h;obtain⟨y,ys,rfl,_,r⟩:=h;rw[aUJ,aUJ,aC.length r]
theorem aC.get:∀{ds:List D}{xs:List V}{i:Nat}{x:V},aC K F ds xs->xs[i]? = some x->∃d,ds[i]? = some d/\aB K F d x
 |[],_,_,_,h,e=>by simp only[aC]at h;subst h;simp at e
 |d::ds,_,0,_,h,e=>by simp only[aC]at h;obtain⟨y,ys,rfl,r,_⟩:=h;simp at e;subst e;exact⟨d,rfl,r⟩
 |d::ds,_,i+1,_,h,e=>by
  simp only[aC]at h;obtain⟨y,ys,rfl,_,r⟩:=h;obtain⟨d',e',r'⟩:=aC.get (i:=i) r (by simpa using e)
  exact⟨d',by simpa using e',r'⟩
theorem aC.get':∀{ds:List D}{xs:List V}{i:Nat}{d:D},aC K F ds xs->ds[i]? = some d->∃x,xs[i]? = some x/\aB K F d x
 |[],_,_,_,h,e=>by simp at e
 |d::ds,_,0,_,h,e=>by simp only[aC]at h;obtain⟨y,ys,rfl,r,_⟩:=h;simp at e;subst e;exact⟨y,rfl,r⟩
 |d::ds,_,i+1,_,h,e=>by
  simp only[aC]at h;obtain⟨y,ys,rfl,_,r⟩:=h;obtain⟨d',e',r'⟩:=aC.get' (i:=i) r (by simpa using e)
  exact⟨d',by simpa using e',r'⟩
theorem aC.append:∀{ds es:List D}{xs ys:List V},aC K F ds xs->aC K F es ys->aC K F (ds++es) (xs++ys)
 |[],_,_,_,h,r=>by simp only[aC]at h;subst h;exact r
 |d::ds,_,_,_,h,r=>by simp only[aC]at h;obtain⟨y,ys,rfl,q,t⟩:=h;show aC K F (d::(ds++_)) (y::(ys++_));simp only[aC];exact⟨y,_,rfl,q,aC.append t r⟩
def aC.nil:aC K F [] []:=by simp only[aC]
def aC.cons{d:D}{ds:List D}{x:V}{xs:List V}(h:aB K F d x)(r:aC K F ds xs):aC K F (d::ds) (x::xs):=by simp only[aC];exact⟨x,xs,rfl,h,r⟩
end
def Top(K:Fg)(F H:Hp)(a:Addr):D->Prop
 |.lst ds=>∃xs,H a=some (.lst xs)/\aC K F ds xs
 |.dct ds=>∃xs,H a=some (.dK xs)/\dI K F ds xs
 |.ins c fs=>∃C dx gs,W.nsIn K mainGlobals c=some (some (.ref C))/\H a=some (.ins C dx gs)/\aZ K F fs gs
 |.set ks=>∃S,H a=some (.set S ks.length)/\wF S ks
 |.dtn ds=>∃xs,H a=some (.dN xs)/\aN K F ds xs
 |_=>False
def Rp(K:Fg)(F H:Hp)(m:Md)(d:D)(v:V):Prop :=
 match m with
 |.fz=>aB K F d v
 |_=>∃a,v=.ref a/\F a=none/\Top K F H a d
structure aE(F H F' H':Hp):Prop where
 same:aD H H'
 fsame:aD F F'
 sub:aD F' H'
 new:∀a,F a=none->H a≠none->F' a=none
theorem aE.refl{F:Hp}(h:aD F H):aE F H F H:=⟨aD.refl _,aD.refl _,h,λ_ h _=>h⟩
theorem aE.trans{F H1 F2 H2:Hp}(a:aE F H F1 H1)(b:aE F1 H1 F2 H2):aE F H F2 H2 :=
 ⟨a.same.trans b.same,a.fsame.trans b.fsame,b.sub,λx h1 h2=>b.new x (a.new x h1 h2) (by
  cases e:H x with
  |none=>exact absurd e h2
  |some o=>rw[a.same x o e];exact λz=>nomatch z)⟩
def aE.laid{F:Hp}{p:Addr}(o:HO)(h:aD F H)(hp:H p=none):aE F H (upd F p o) (upd H p o):=by
 have hf:F p=none:=h.free hp;refine⟨λb u e=>?_,λb u e=>?_,λb u e=>?_,λa h1 h2=>?_⟩
 . rw[aH (bL e hp)];exact e
 . rw[aH (bL e hf)];exact e
 . by_cases hb:b=p
   . subst hb;rw[aT]at e ⊢;exact e
   . rw[aH hb]at e ⊢;exact h b u e
 . have:a≠p:=by rintro rfl;exact h2 hp
   rw[aH this];exact h1
def aE.fresh{F:Hp}{p:Addr}(o:HO)(h:aD F H)(hp:H p=none):aE F H F (upd H p o):=by
 refine⟨λb u e=>?_,aD.refl _,λb u e=>?_,λa h1 _=>h1⟩
 . rw[aH (bL e hp)];exact e
 . rw[aH (bL (h b u e) hp)];exact h b u e
def Top.step{F:Hp}{a:Addr}{d:D}(st:aE F H F' H')(h:Top K F H a d):Top K F' H' a d:=by
 cases d with
 |lst ds=>obtain⟨xs,e,r⟩:=h;exact⟨xs,st.same _ _ e,r.mono st.fsame _ _⟩
 |dct ds=>obtain⟨xs,e,r⟩:=h;exact⟨xs,st.same _ _ e,r.mono st.fsame _ _⟩
 |ins c fs=>obtain⟨C,dx,gs,n,e,r⟩:=h;exact⟨C,dx,gs,n,st.same _ _ e,r.mono st.fsame _ _⟩
 |set ks=>obtain⟨S,e,r⟩:=h;exact⟨S,st.same _ _ e,r⟩
 |dtn ds=>obtain⟨xs,e,r⟩:=h;exact⟨xs,st.same _ _ e,r.mono st.fsame _ _⟩
 |_=>exact h.elim
def Top.there{F:Hp}{a:Addr}{d:D}(h:Top K F H a d):H a≠none:=by
 cases d with
 |lst ds=>obtain⟨xs,e,r⟩:=h;rw[e];exact λz=>nomatch z
 |dct ds=>obtain⟨xs,e,r⟩:=h;rw[e];exact λz=>nomatch z
 |ins c fs=>obtain⟨C,dx,gs,n,e,r⟩:=h;rw[e];exact λz=>nomatch z
 |set ks=>obtain⟨S,e,r⟩:=h;rw[e];exact λz=>nomatch z
 |dtn ds=>obtain⟨xs,e,r⟩:=h;rw[e];exact λz=>nomatch z
 |_=>exact h.elim
theorem Rp.step{F:Hp}{m:Md}{d:D}(st:aE F H F' H')(h:Rp K F H m d v):Rp K F' H' m d v:=by
 cases m with
 |fz=>exact aB.mono st.fsame d v h
 |fr=>obtain⟨a,e,n,t⟩:=h;exact⟨a,e,st.new a n t.there,t.step st⟩
 |bo=>obtain⟨a,e,n,t⟩:=h;exact⟨a,e,st.new a n t.there,t.step st⟩
def Rp.seqL{F:Hp}{m:Md}(s:aD F H)(h:Rp K F H m (.lst ds) v):∃a xs,v=.ref a/\SqL K H a xs/\aC K F ds xs:=by
 cases m with
 |fz=>have h:aB K F (.lst ds) v:=h;simp only[aB]at h;obtain⟨a,xs,e,q,r⟩:=h;exact⟨a,xs,e,s.seq q,r⟩
 |fr=>obtain⟨a,e,n,xs,q,r⟩:=h;exact⟨a,xs,e,SqL.of q,r⟩
 |bo=>obtain⟨a,e,n,xs,q,r⟩:=h;exact⟨a,xs,e,SqL.of q,r⟩
theorem Rp.seqT{F:Hp}{m:Md}(s:aD F H)(h:Rp K F H m (.tup ds) v):∃a xs,v=.ref a/\SqT K H a xs/\aC K F ds xs:=by
 cases m with
 |fz=>have h:aB K F (.tup ds) v:=h;simp only[aB]at h;obtain⟨a,xs,e,q,r⟩:=h;exact⟨a,xs,e,aD.seqT s q,r⟩
 |fr=>obtain⟨a,e,n,q⟩:=h;exact q.elim
 |bo=>obtain⟨a,e,n,q⟩:=h;exact q.elim
def Rp.dict{F:Hp}{m:Md}{ds:List (Key×D)}(s:aD F H)(h:Rp K F H m (.dct ds) v):∃a xs,v=.ref a/\H a=some (.dK xs)/\dI K F ds xs:=by
 cases m with
 |fz=>have h:aB K F (.dct ds) v:=h;simp only[aB]at h;obtain⟨a,xs,e,q,r⟩:=h;exact⟨a,xs,e,s _ _ q,r⟩
 |fr=>obtain⟨a,e,n,xs,q,r⟩:=h;exact⟨a,xs,e,q,r⟩
 |bo=>obtain⟨a,e,n,xs,q,r⟩:=h;exact⟨a,xs,e,q,r⟩
theorem Rp.ins{F:Hp}{m:Md}{c:Str}{fs:List (Str×D)}(s:aD F H)(h:Rp K F H m (.ins c fs) v):∃a C dx gs,v=.ref a/\W.nsIn K mainGlobals c=some (some (.ref C))/\H a=some (.ins C dx gs)/\aZ K F fs gs:=by
 cases m with
 |fz=>have h:aB K F (.ins c fs) v:=h;simp only[aB]at h;obtain⟨a,C,dx,gs,e,n,q,r⟩:=h;exact⟨a,C,dx,gs,e,n,s _ _ q,r⟩
 |fr=>obtain⟨a,e,n,C,dx,gs,z,q,r⟩:=h;exact⟨a,C,dx,gs,e,z,q,r⟩
 |bo=>obtain⟨a,e,n,C,dx,gs,z,q,r⟩:=h;exact⟨a,C,dx,gs,e,z,q,r⟩
theorem Rp.int{F:Hp}{m:Md}{i:Int}(h:Rp K F H m (.int i) v):v=.int i:=by
 cases m with
 |fz=>have h:aB K F (.int i) v:=h;simpa only [aB]using h
 |fr=>obtain⟨a,e,n,q⟩:=h;exact q.elim
 |bo=>obtain⟨a,e,n,q⟩:=h;exact q.elim
theorem Rp.bl{F:Hp}{m:Md}{i:Bool}(h:Rp K F H m (.bl i) v):v=.bl i:=by
 cases m with
 |fz=>have h:aB K F (.bl i) v:=h;simpa only [aB]using h
 |fr=>obtain⟨a,e,n,q⟩:=h;exact q.elim
 |bo=>obtain⟨a,e,n,q⟩:=h;exact q.elim
theorem Rp.non{F:Hp}{m:Md}(h:Rp K F H m .non v):v=.non:=by
 cases m with
 |fz=>have h:aB K F .non v:=h;simpa only [aB]using h
 |fr=>obtain⟨a,e,n,q⟩:=h;exact q.elim
 |bo=>obtain⟨a,e,n,q⟩:=h;exact q.elim
theorem Rp.str{F:Hp}{m:Md}{x:Str}(h:Rp K F H m (.str x) v):v=.str x/\x.length<=sizeLine/\PyData.strOk x=true:=by
 cases m with
 |fz=>have h:aB K F (.str x) v:=h;simpa only [aB]using h
 |fr=>obtain⟨a,e,n,q⟩:=h;exact q.elim
 |bo=>obtain⟨a,e,n,q⟩:=h;exact q.elim
theorem Rp.ty{F:Hp}{m:Md}{n:String}(h:Rp K F H m (.ty n) v):v=.ty n:=by
 cases m with
 |fz=>have h:aB K F (.ty n) v:=h;simpa only [aB]using h
 |fr=>obtain⟨a,e,n,q⟩:=h;exact q.elim
 |bo=>obtain⟨a,e,n,q⟩:=h;exact q.elim
theorem Rp.ob{F:Hp}{m:Md}{n:Addr}(h:Rp K F H m (.ob n) v):v=.ref n:=by
 cases m with
 |fz=>have h:aB K F (.ob n) v:=h;simpa only [aB]using h
 |fr=>obtain⟨a,e,n,q⟩:=h;exact q.elim
 |bo=>obtain⟨a,e,n,q⟩:=h;exact q.elim
def rp_ty{F:Hp}(i:String):Rp K F H .fz (.ty i) (.ty i):=by show aB K F _ _;simp only[aB]
def dA{F:Hp}(i:Int):Rp K F H .fz (.int i) (.int i):=by show aB K F _ _;simp only[aB]
def cH{F:Hp}(i:Bool):Rp K F H .fz (.bl i) (.bl i):=by show aB K F _ _;simp only[aB]
def wG{F:Hp}:Rp K F H .fz .non .non:=by show aB K F _ _;simp only[aB]
def j2{F:Hp}{x:Str}(h:x.length<=sizeLine/\PyData.strOk x=true):Rp K F H .fz (.str x) (.str x):=by show aB K F _ _;simp only[aB,true_and];exact h
abbrev Rho:=List (Option (Bool×D))
structure aM(K:Fg)(F0 H0 F H:Hp)(σ:L2.St)(ρ:Rho):Prop where
 st:aE F0 H0 F H
 slot:∀(i:Nat) (m:Bool) (d:D),ρ[i]? = some (some (m,d))->∃v,σ[i]? = some (some v)/\Rp K F H (if m then .bo else .fz) d v/\(m=true->∀a,v=.ref a->H0 a=none)
 apart:∀(i j:Nat) (d d':D) (a:Addr),i≠j->ρ[i]? = some (some (true,d))->ρ[j]? = some (some (true,d'))->σ[i]? = some (some (.ref a))->σ[j]? = some (some (.ref a))->False
 len:σ.length=ρ.length
theorem aM.step{F:Hp}{ρ:Rho}(r:aM K F0 H0 F H σ ρ)(st:aE F H F' H'):aM K F0 H0 F' H' σ ρ :=
 ⟨r.st.trans st,λi m d e=>by obtain⟨v,e1,e2,e3⟩:=r.slot i m d e;exact⟨v,e1,e2.step st,e3⟩,r.apart,r.len⟩
theorem aM.sub{F:Hp}{ρ:Rho}(r:aM K F0 H0 F H σ ρ):aD F H:=r.st.sub
abbrev XE:=Str->L2.St->Hp->Prop
structure Cw where
 K:Fg
 F0:Hp
 H0:Hp
 EE:XE
def tG(C:Cw)(g:Rho->Res):TE:=λσ H Q=>∃ρ F,aM C.K C.F0 C.H0 F H σ ρ/\match g ρ with
 |.ok m d=>∀v F' H',aE F H F' H'->Rp C.K F' H' m d v->(m=.fr->∀a,v=.ref a->H a=none)->Q v H'
 |.exc c=>∀F' H',aE F H F' H'->C.EE c σ H'
 |.stuck=>False
abbrev Cw.at(C:Cw)(X:Cx):Cw:={C with K:=X.K}
end D3
variable {t g ga gb gi ge:D3.Rho->D3.Res}{C:D3.Cw}{ρ:D3.Rho}
namespace D3
def PV(C:Cw)(X:Cx)(e:Expr)(g:Rho->Res):Prop:=PE X e (tG (C.at X) g)
def PE.imp{t t':TE}(h:PE X e t)(i:∀σ H Q,t' σ H Q->t σ H Q):PE X e t':=λaA s σ H Q I q=>h aA s σ H Q I (i σ H Q q)
noncomputable def Res.thn(r:Res)(k:Md->D->Res):Res:=match r with
 |.ok m d=>k m d
 |.exc c=>.exc c
 |.stuck=>.stuck
@[simp] theorem Res.thn_ok(m:Md)(d:D)(k:Md->D->Res):(Res.ok m d).thn k=k m d:=rfl
@[simp] theorem Res.thn_exc(c:Str)(k:Md->D->Res):(Res.exc c).thn k=.exc c:=rfl
@[simp] theorem Res.thn_stuck(k:Md->D->Res):Res.stuck.thn k=.stuck:=rfl
def Res.of:Option (Md×D)->Res
 |some (m,d)=>.ok m d
 |none=>.stuck
@[simp] theorem Res.of_some(m:Md)(d:D):Res.of (some (m,d))=.ok m d:=rfl
@[simp] theorem Res.of_none:Res.of none=.stuck:=rfl
def aQ(C:Cw)(F H:Hp)(σ:L2.St)(r:Res)(Q:VK):Prop:=match r with
 |.ok m d=>∀v F' H',aE F H F' H'->Rp C.K F' H' m d v->(m=.fr->∀a,v=.ref a->H a=none)->Q v H'
 |.exc c=>∀F' H',aE F H F' H'->C.EE c σ H'
 |.stuck=>False
def aR{Q:VK}:tG C g σ H Q=∃ρ F,aM C.K C.F0 C.H0 F H σ ρ/\aQ C F H σ (g ρ) Q:=by unfold tG aQ;rfl
def aQ.step{F H1:Hp}{r:Res}{Q:VK}(st:aE F H F1 H1)(h:aQ C F H σ r Q):aQ C F1 H1 σ r Q:=by
 cases r with
 |ok m d=>exact λv F' H' s2 rp hf=>h v F' H' (st.trans s2) rp λe a ea=>st.same.free (hf e a ea)
 |exc c=>exact λF' H' s2=>h F' H' (st.trans s2)
 |stuck=>exact h
section
variable {a b:Expr}
def bB(ρ:Rho)(i:Nat):Res:=match ρ[i]? with
 |some (some (false,d))=>.ok .fz d
 |some (some (true,d))=>.ok .bo d
 |_=>.stuck
def aGK(i:Nat){x:Str}(h:PE X (.Name x pos) (jW i)):PV C X (.Name x pos) (λρ=>bB ρ i):=by
 refine PE.imp h λσ H Q q=>?_;rw[aR]at q;obtain⟨ρ,F,R,w⟩:=q;unfold bB at w;cases e:ρ[i]? with
 |none=>rw[e]at w;exact w.elim
 |some o =>
  cases o with
  |none=>rw[e]at w;exact w.elim
  |some p =>
   obtain⟨m,d⟩:=p;obtain⟨v,e1,r,_⟩:=R.slot i m d e;rw[e]at w;cases m with
   |false=>exact⟨v,e1,w v F H (.refl R.sub) r (by nofun)⟩
   |true=>exact⟨v,e1,w v F H (.refl R.sub) r (by nofun)⟩
def i7(d:D)(h:PE X e (tC v))(r:∀F H,Rp X.K F H .fz d v):PV C X e (λ_=>.ok .fz d):=by refine PE.imp h λσ H Q q=>?_;rw[aR]at q;obtain⟨ρ,F,R,w⟩:=q;exact w v F H (.refl R.sub) (r F H) (by nofun)
def aGL{i j:_}:PV C X (.Constant (.int i) j pos) (λ_=>.ok .fz (.int i)):=i7 _ aDR λ_ _=>dA i
def pv_bl{i j:_}:PV C X (.Constant (.bool i) j pos) (λ_=>.ok .fz (.bl i)):=i7 _ pe_bl λ_ _=>cH i
def aGM{j:_}:PV C X (.Constant .none j pos) (λ_=>.ok .fz .non):=i7 _ aDS λ_ _=>wG
def aGN{x:Str}{j:_}(h:(decide (x.length<=sizeLine)&&PyData.strOk x)=true:=by decide +kernel):PV C X (.Constant (.str x) j pos) (λ_=>.ok .fz (.str x)) :=
 i7 _ aDT λ_ _=>j2 (by rw[aVL,aV9]at h;exact h)
noncomputable def op2(φ:Md->D->Md->D->Option (Md×D))(x y:Res):Res:=x.thn λm d=>y.thn λn e=>Res.of (φ m d n e)
def OpD(C:Cw)(X:Cx)(f:aZN->aZN->Sem aZN)(φ:Md->D->Md->D->Option (Md×D)):Prop :=
 ∃r:R2,OpR X f r/\∀F H m x n y v u k d Q,aD F H->Rp X.K F H m x v->Rp X.K F H n y u->φ m x n y=some (k,d) ->
  (∀v' F' H',aE F H F' H'->Rp X.K F' H' k d v'->(k=.fr->∀a,v'=.ref a->H a=none)->Q v' H')->r v u H Q
def lK{r:R2}(h:∀F H m x n y v u k d Q,aD F H->Rp C.K F H m x v->Rp C.K F H n y u->φ m x n y=some (k,d)->(∀v' F' H',aE F H F' H'->Rp C.K F' H' k d v'->(k=.fr->∀a,v'=.ref a->H a=none)->Q v' H')->r v u H Q){Q:VK}(q:tG C (λρ=>op2 φ (ga ρ) (gb ρ)) σ H Q):tOp r (tG C ga) (tG C gb) σ H Q:=by
 unfold tOp;rw[aR]at q ⊢;obtain⟨ρ,F,R,w⟩:=q;refine⟨ρ,F,R,?_⟩;cases ea:ga ρ with
 |stuck=>simp only[op2,ea,Res.thn]at w;exact w
 |exc c=>simp only[op2,ea,Res.thn]at w;exact w
 |ok m d =>
  intro v F1 H1 s1 r1 _;rw[aR];refine⟨ρ,F1,R.step s1,?_⟩;have w1:=w.step s1;simp only[op2,ea,Res.thn]at w1;cases eb:gb ρ with
  |stuck=>rw[eb]at w1;exact w1
  |exc c=>rw[eb]at w1;exact w1
  |ok n e =>
   rw[eb]at w1;intro u F2 H2 s2 r2 _;have w2:aQ C F2 H2 σ (Res.of (φ m d n e)) Q:=aQ.step s2 w1;cases ef:φ m d n e with
   |none=>rw[ef]at w2;exact w2.elim
   |some kd=>obtain⟨k,d'⟩:=kd;rw[ef]at w2;exact h F2 H2 m d n e v u k d' Q s2.sub (r1.step s2) r2 ef w2
def pv_op{op:Operator}{φ:_}(o:OpD C X (binaryOp op) φ)(ha:PV C X a ga)(hb:PV C X b gb):PV C X (.BinOp a op b pos) (λρ=>op2 φ (ga ρ) (gb ρ)):=by obtain⟨r,h1,h2⟩:=o;exact PE.imp (vF h1 ha hb) λσ H Q q=>lK h2 q
def aGO{op:CmpOp}{φ:_}(o:OpD C X (compareOp op) φ)(ha:PV C X a ga)(hb:PV C X b gb)(hm:behindInMarks op b=false):PV C X (.Compare a [op] [b] pos) (λρ=>op2 φ (ga ρ) (gb ρ)):=by obtain⟨r,h1,h2⟩:=o;exact PE.imp (aER h1 ha hb hm) λσ H Q q=>lK h2 q
def orO(φ ψ:Md->D->Md->D->Option (Md×D)):Md->D->Md->D->Option (Md×D):=λm x n y=>(φ m x n y).orElse λ_=>ψ m x n y
theorem OpD.or{f:aZN->aZN->Sem aZN}{φ ψ:_}(h:OpD C X f φ)(h':OpD C X f ψ):OpD C X f (orO φ ψ):=by
 obtain⟨r,h1,h2⟩:=h;obtain⟨r',h1',h2'⟩:=h';refine⟨_,h1.or h1',λF H m x n y v u k d Q s rx ry e w=>?_⟩;unfold orO at e;cases e1:φ m x n y with
 |none=>rw[e1]at e;exact .inr (h2' F H m x n y v u k d Q s rx ry e w)
 |some p=>rw[e1]at e;cases e;exact .inl (h2 F H m x n y v u k d Q s rx ry e1 w)
noncomputable def fI(c:Int->Int->Bool)(g:Int->Int->D):Md->D->Md->D->Option (Md×D):=λ_ x _ y=>match x,y with
 |.int i,.int j=>if c i j=true then some (.fz,g i j)else none
 |_,_=>none
def nX{f:aZN->aZN->Sem aZN}{Cc:Int->Int->Prop}{c:Int->Int->Bool}{g:Int->Int->V}{g':Int->Int->D}(o:OpR X f (rI Cc g))(hc:∀i j,c i j=true->Cc i j)(hg:∀F H i j,Rp X.K F H .fz (g' i j) (g i j)):OpD C X f (fI c g'):=by
 refine⟨_,o,λF H m x n y v u k d Q s rx ry e w=>?_⟩;unfold fI at e;split at e
 . rename_i i j;cases rx.int;cases ry.int;split at e
   . rename_i hcc;cases e;exact⟨i,j,rfl,rfl,hc i j hcc,w _ F H (.refl s) (hg F H i j) (by nofun)⟩
   . cases e
 . cases e
def j3{f:aZN->aZN->Sem aZN}{g:Int->Int->V}{g':Int->Int->D}(o:OpR X f (rI0 g))(hg:∀F H i j,Rp X.K F H .fz (g' i j) (g i j)):OpD C X f (fI (λ_ _=>true) g'):=by
 refine⟨_,o,λF H m x n y v u k d Q s rx ry e w=>?_⟩;unfold fI at e;split at e
 . rename_i i j;cases rx.int;cases ry.int;rw[if_pos rfl]at e;cases e;exact⟨i,j,rfl,rfl,w _ F H (.refl s) (hg F H i j) (by nofun)⟩
 . cases e
def bits(i:Int):Bool:=decide (i.natAbs.log2<9000)
def aGP:OpD C X (binaryOp .Add) (fI (λ_ _=>true) λi j=>.int (i+j)):=j3 aEH λ_ _ i j=>dA _
def aGQ:OpD C X (binaryOp .Sub) (fI (λ_ _=>true) λi j=>.int (i-j)):=j3 aEI λ_ _ i j=>dA _
def aGR{i j:Int}(h:(bits i&&bits j)=true):IntMulOk i j:=by
 rw[aVL]at h;have b:∀{i:Int},bits i=true->Builtin.Int.intBits i<=2 ^ 20:=λ{i} h=>by
  unfold bits at h;have:=aWA h;unfold Builtin.Int.intBits;split
  . exact aUP _
  . have e:(2:Nat) ^ 20=1048576:=by decide
    omega
 exact IntMulOk.of_bits (b h.1) (b h.2)
def w64(i:Int):Bool:=decide (i.natAbs<2 ^ 63)
def wH{i:Int}(h:w64 i=true):Builtin.Int.intBits i<=64:=by
 have h:=aWA h;unfold Builtin.Int.intBits;split
 . exact aUP _
 . rename_i hz;have:i.natAbs.log2<63:=(Nat.log2_lt (by simpa using hz)).mpr h
   omega
def aGS:OpD C X (binaryOp .Mult) (fI (λi j=>(bits i&&bits j)||(w64 i||w64 j)) λi j=>.int (i * j)) :=
 nX (Cc:=λi j=>IntMulOk i j) (opI λ_ _ _ _ _ _ _ hc q=>mul_int q hc) (λi j h=>by
  rcases(aWB _ _).mp h with h|h
  . exact aGR h
  . rcases(aWB _ _).mp h with h|h
    . exact IntMulOk.of_left (wH h)
    . exact IntMulOk.of_right (wH h)) λ_ _ i j=>dA _
def aGT:OpD C X (binaryOp .Mod) (fI (λ_ j=>decide (0<j)) λi j=>.int (i % j)):=nX aEJ (λi j h=>aWA h) λ_ _ i j=>dA _
def aGU:OpR X (binaryOp .FloorDiv) (rI (λ_ j=>0<j/\bits j=true) λi j=>.int (i / j)):=opI λi j _ _ _ _ _ hc q=>by
 obtain⟨h1,h2⟩:=hc;refine floordiv_int (by omega) ?_ (.inl (PyProof.noPylong_of_log2 (aWA h2)))
 rw[Int.fdiv_eq_ediv_of_nonneg i (by omega)]
 exact q
def aGV:OpD C X (binaryOp .FloorDiv) (fI (λ_ j=>decide (0<j)&&bits j) λi j=>.int (i / j)):=nX aGU (λi j h=>by rw[aVL,aV9]at h;exact h) λ_ _ i j=>dA _
def aGW:OpD C X (binaryOp .Pow) (fI (λi j=>decide (0<=j)&&decide (j<=1000000)&&decide (i.natAbs<2 ^ 64)) λi j=>.int (i ^ j.toNat)) :=
 nX aEK (λi j h=>by simp only[aVL,aV9]at h;exact⟨h.1.1,h.1.2,h.2⟩) λ_ _ i j=>dA _
def aGX:OpD C X (compareOp .Lt) (fI (λ_ _=>true) λi j=>.bl (decide (i<j))):=j3 op_lt λ_ _ i j=>cH _
def aGY:OpD C X (compareOp .LtE) (fI (λ_ _=>true) λi j=>.bl (decide (i<=j))):=j3 op_le λ_ _ i j=>cH _
def aGZ:OpD C X (compareOp .Gt) (fI (λ_ _=>true) λi j=>.bl (decide (j<i))):=j3 op_gt λ_ _ i j=>cH _
def aG0:OpD C X (compareOp .GtE) (fI (λ_ _=>true) λi j=>.bl (decide (j<=i))):=j3 op_ge λ_ _ i j=>cH _
noncomputable def fS(c:Str->Str->Bool)(g:Str->Str->D):Md->D->Md->D->Option (Md×D):=λ_ x _ y=>match x,y with
 |.str i,.str j=>if c i j=true then some (.fz,g i j)else none
 |_,_=>none
def aG1{x:Str}(hx:PyData.strOk x=true)(hy:PyData.strOk y=true):PyData.strOk (x++y)=true:=by unfold PyData.strOk at *;show(x.cps++y.cps).all _=true;rw[Array.all_append,hx,hy];rfl
def aG2:OpD C X (binaryOp .Add) (fS (λi j=>decide (i.length+j.length<=sizeLine)) λi j=>.str (i++j)):=by
 refine⟨_,aEY,λF H m x n y v u k d Q s rx ry e w=>?_⟩;unfold fS at e;split at e
 . rename_i i j;obtain⟨rfl,h1⟩:=rx.str;obtain⟨rfl,h2⟩:=ry.str;split at e
   . rename_i hc;cases e;have hc:=aWA hc;exact⟨i,j,rfl,rfl,hc,w _ F H (.refl s) (j2 ⟨by rw[strLen_append];exact hc,aG1 h1.2 h2.2⟩) (by nofun)⟩
   . cases e
 . cases e
def eZ(i j:Str):Bool:=!(Builtin.Str.occurrences j i 0 j.length 1).isEmpty
def aG3:OpD C X (compareOp .In) (fS (λ_ _=>true) λi j=>.bl (eZ i j)):=by
 refine⟨_,aEN,λF H m x n y v u k d Q s rx ry e w=>?_⟩;unfold fS at e;split at e
 . rename_i i j;obtain⟨rfl,h1⟩:=rx.str;obtain⟨rfl,h2⟩:=ry.str;rw[if_pos rfl]at e;cases e;exact⟨i,j,rfl,rfl,w _ F H (.refl s) (cH _) (by nofun)⟩
 . cases e
def aG4:OpD C X (compareOp .NotIn) (fS (λ_ _=>true) λi j=>.bl (!eZ i j)):=by
 refine⟨_,aEQ,λF H m x n y v u k d Q s rx ry e w=>?_⟩;unfold fS at e;split at e
 . rename_i i j;obtain⟨rfl,h1⟩:=rx.str;obtain⟨rfl,h2⟩:=ry.str;rw[if_pos rfl]at e;cases e;exact⟨i,j,rfl,rfl,w _ F H (.refl s) (cH _) (by nofun)⟩
 . cases e
end
section
variable  {a b c:Expr}{gc:Rho->Res}
def aK:Res->Res
 |.ok .bo _=>.stuck
 |.ok _ d=>.ok .fz d
 |r=>r
def aE.freeze{F:Hp}{x:Addr}{o:HO}(st:aE F H F' H')(hx:H x=none)(hx':F' x=none)(ho:H' x=some o):aE F H (upd F' x o) H':=by
 refine⟨st.same,λb u q=>?_,λb u q=>?_,λy h1 h2=>?_⟩
 . rw[aH (bL (st.fsame b u q) hx')];exact st.fsame b u q
 . by_cases hb:b=x
   . subst hb;rw[aT]at q;rw[<- q];exact ho
   . rw[aH hb]at q;exact st.sub b u q
 . have:y≠x:=by rintro rfl;exact h2 hx
   rw[aH this];exact st.new y h1 h2
def Top.freeze{F:Hp}{x:Addr}{d:D}(hx:F x=none)(h:Top K F H x d):∃o,H x=some o/\aB K (upd F x o) d (.ref x):=by
 have s:∀o,aD F (upd F x o):=λo b u q=>by rw[aH (bL q hx)];exact q
 cases d with
 |lst ds=>obtain⟨xs,q,r⟩:=h;refine⟨_,q,?_⟩;simp only[aB];exact⟨x,xs,rfl,SqL.of aT,r.mono (s _) _ _⟩
 |dct ds=>obtain⟨xs,q,r⟩:=h;refine⟨_,q,?_⟩;simp only[aB];exact⟨x,xs,rfl,aT,r.mono (s _) _ _⟩
 |ins c fs=>obtain⟨C,dx,gs,n,q,r⟩:=h;refine⟨_,q,?_⟩;simp only[aB];exact⟨x,C,dx,gs,rfl,n,aT,r.mono (s _) _ _⟩
 |set ks=>obtain⟨S,q,r⟩:=h;refine⟨_,q,?_⟩;simp only[aB];exact⟨x,S,rfl,aT,r⟩
 |dtn ds=>obtain⟨xs,q,r⟩:=h;refine⟨_,q,?_⟩;simp only[aB];exact⟨x,xs,rfl,aT,r.mono (s _) _ _⟩
 |_=>exact h.elim
def aQ.frz{F:Hp}{r:Res}{Q:VK}(w:aQ C F H σ (aK r) Q):aQ C F H σ r Q:=by
 cases r with
 |exc c=>exact w
 |stuck=>exact w
 |ok m d =>
  cases m with
  |fz=>exact w
  |bo=>exact(show False from w).elim
  |fr=>intro v F' H' st rp fr;obtain⟨x,rfl,n,t⟩:=rp;obtain⟨o,ho,r⟩:=t.freeze n;exact w (.ref x) (upd F' x o) H' (st.freeze (fr rfl x rfl) n ho) r (by nofun)
def fP(h:PV C X e g):PV C X e (λρ=>aK (g ρ)):=PE.imp h λσ H Q q=>by
 rw[aR]at q ⊢;obtain⟨ρ,F,R,w⟩:=q
 try dsimp only at w
 exact⟨ρ,F,R,w.frz⟩
def i8(C:Cw)(F H:Hp)(σ:L2.St)(r:Res)(Q:Bool->Hp->Prop):Prop:=match r with
 |.ok _ (.bl b)=>∀F' H',aE F H F' H'->Q b H'
 |.exc c=>∀F' H',aE F H F' H'->C.EE c σ H'
 |_=>False
def i8.step{F H1:Hp}{r:Res}{Q:Bool->Hp->Prop}(st:aE F H F1 H1)(h:i8 C F H σ r Q):i8 C F1 H1 σ r Q:=by
 cases r with
 |ok m d =>
  cases d with
  |bl b=>exact λF' H' s2=>h F' H' (st.trans s2)
  |_=>exact h
 |exc c=>exact λF' H' s2=>h F' H' (st.trans s2)
 |stuck=>exact h
def tT(C:Cw)(g:Rho->Res):TT:=λσ H Q=>∃ρ F,aM C.K C.F0 C.H0 F H σ ρ/\i8 C F H σ (g ρ) Q
def PTv(C:Cw)(X:Cx)(e:Expr)(g:Rho->Res):Prop:=PT X e (tT (C.at X) g)
def PWv(C:Cw)(X:Cx)(e:Expr)(g:Rho->Res):Prop:=PW X e (tT (C.at X) g)
def PT.imp{t t':TT}(h:PT X e t)(i:∀σ H Q,t' σ H Q->t σ H Q):PT X e t':=λaA s σ H Q I q=>h aA s σ H Q I (i σ H Q q)
def PW.imp{t t':TT}(h:PW X e t)(i:∀σ H Q,t' σ H Q->t σ H Q):PW X e t':=λcY aA s σ H Q I q=>h cY aA s σ H Q I (i σ H Q q)
def nY:D->Option Bool
 |.non=>some false
 |.bl b=>some b
 |.int i=>some (i != 0)
 |.str x=>some ((x.length:Int) != 0)
 |.tup ds=>some (!ds.isEmpty)
 |.lst ds=>some (!ds.isEmpty)
 |.dct ds=>some (!ds.isEmpty)
 |_=>none
def lL(r:Res):Res:=r.thn λ_ d=>match nY d with|some b=>.ok .fz (.bl b)|none=>.stuck
theorem aC.isEmpty{F:Hp}{xs:List V}(h:aC K F ds xs):ds.isEmpty=xs.isEmpty:=by
 cases ds with
 |nil=>simp only[aC]at h;subst h;rfl
 |cons d ds=>simp only[aC]at h;obtain⟨y,ys,rfl,_⟩:=h;rfl
theorem dI.isEmpty{F:Hp}{ds:List (Key×D)}{xs:List (Key×V)}(h:dI K F ds xs):ds.isEmpty=xs.isEmpty:=by
 cases ds with
 |nil=>simp only[dI]at h;subst h;rfl
 |cons d ds=>obtain⟨k,d⟩:=d;simp only[dI]at h;obtain⟨y,ys,rfl,_⟩:=h;rfl
def aG5{F:Hp}{m:Md}{d:D}{k:Bool}(s:aD F H)(h:Rp K F H m d v)(e:nY d=some k):qV K v H k:=by
 cases d with
 |non=>cases h.non;cases e;rfl
 |bl b=>cases h.bl;cases e;rfl
 |int i=>cases h.int;cases e;rfl
 |str x=>obtain⟨rfl,hl,_⟩:=h.str;cases e;exact⟨hl,rfl⟩
 |tup ds=>obtain⟨a,xs,rfl,q,r⟩:=h.seqT s;cases e;exact .inr (.inl ⟨xs,q,by rw[r.isEmpty]⟩)
 |lst ds=>obtain⟨a,xs,rfl,q,r⟩:=h.seqL s;cases e;exact .inl ⟨xs,q,by rw[r.isEmpty]⟩
 |dct ds=>obtain⟨a,xs,rfl,q,r⟩:=h.dict s;cases e;exact .inr (.inr ⟨xs,q,by rw[r.isEmpty]⟩)
 |ty n=>cases e
 |ob n=>cases e
 |ins n=>cases e
 |fn n=>cases e
 |exn n=>cases e
 |set n=>cases e
 |dtn n=>cases e
 |dtf n=>cases e
def aG6(h:PV C X e g)(he:∀cY,isTrue e X.env cY=(do let v <- cY;standAt e.pos;holding [v] (truthy v)):=by intro _;rfl):PTv C X e (λρ=>lL (g ρ)):=by
 refine PT.imp (aEX h he) λσ H Q q=>?_;obtain⟨ρ,F,R,w⟩:=q
 try dsimp only at w
 rw[aR];refine⟨ρ,F,R,?_⟩;cases er:g ρ with
 |stuck=>rw[er]at w;exact w
 |exc c=>rw[er]at w;exact w
 |ok m d =>
  rw[er]at w;intro v F' H' st rp _;have w:i8 (C.at X) F H σ (match nY d with|some b=>.ok .fz (.bl b)|none=>.stuck) Q:=w
  cases ed:nY d with
  |none=>rw[ed]at w;exact w.elim
  |some k=>rw[ed]at w;exact⟨k,aG5 st.sub rp ed,w F' H' st⟩
def aG7{op:CmpOp}{φ:_}(o:OpD C X (compareOp op) φ)(hb':∀m x n y k d,φ m x n y=some (k,d)->∃t,k=.fz/\d=.bl t)(ha:PV C X a ga)(hb:PV C X b gb)(hm:behindInMarks op b=false):PTv C X (.Compare a [op] [b] pos) (λρ=>op2 φ (ga ρ) (gb ρ)):=by
 obtain⟨r,h1,h2⟩:=o;refine PT.imp (aES h1 ha hb hm) λσ H Q q=>?_;obtain⟨ρ,F,R,w⟩:=q
 try dsimp only at w
 unfold nN;refine lK h2 ?_;rw[aR];refine⟨ρ,F,R,?_⟩;cases er:op2 φ (ga ρ) (gb ρ)with
 |stuck=>rw[er]at w;exact w
 |exc c=>rw[er]at w;exact w
 |ok m d =>
  rw[er]at w;have:∃t,m=.fz/\d=.bl t:=by
   unfold op2 at er;cases e1:ga ρ with
   |stuck=>rw[e1]at er;cases er
   |exc c=>rw[e1]at er;cases er
   |ok m1 d1 =>
    cases e2:gb ρ with
    |stuck=>rw[e1,e2]at er;cases er
    |exc c=>rw[e1,e2]at er;cases er
    |ok m2 d2 =>
     rw[e1,e2]at er;have er:Res.of (φ m1 d1 m2 d2)=.ok m d:=er;cases e3:φ m1 d1 m2 d2 with
     |none=>rw[e3]at er;cases er
     |some kd=>rw[e3]at er;obtain⟨k,d'⟩:=kd;cases er;exact hb' _ _ _ _ _ _ e3
  obtain⟨t,rfl,rfl⟩:=this;intro v F' H' st rp _;cases rp.bl;exact⟨t,rfl,w F' H' st⟩
def eM(x:Res)(y:Res):Res:=x.thn λ_ d=>match d with|.bl true=>y|.bl false=>.ok .fz (.bl false)|_=>.stuck
def orR(x:Res)(y:Res):Res:=x.thn λ_ d=>match d with|.bl true=>.ok .fz (.bl true)|.bl false=>y|_=>.stuck
def lM(x:Res):Res:=x.thn λ_ d=>match d with|.bl b=>.ok .fz (.bl (!b))|_=>.stuck
def aG8(ha:PTv C X a ga):PTv C X (.UnaryOp .Not a pos) (λρ=>lM (ga ρ)):=by
 refine PT.imp (aDY ha) λσ H Q q=>?_;obtain⟨ρ,F,R,w⟩:=q
 try dsimp only at w
 refine⟨ρ,F,R,?_⟩;cases er:ga ρ with
 |stuck=>rw[er]at w;exact w
 |exc c=>rw[er]at w;exact w
 |ok m d =>
  rw[er]at w;cases d with
  |bl b=>exact w
  |_=>exact w
def wI{op:BoolOp}(h:PTv C X a ga):PWv C X (.BoolOp op [a] pos) ga:=by
 cases op with
 |And=>exact aDV h
 |Or=>exact aDW h
def wJ{Q:Bool->Hp->Prop}(q:tT C (λρ=>eM (ga ρ) (gb ρ)) σ H Q):qN (tT C ga) (tT C gb) σ H Q:=by
 obtain⟨ρ,F,R,w⟩:=q
 try dsimp only at w
 refine⟨ρ,F,R,?_⟩;cases er:ga ρ with
 |stuck=>rw[er]at w;exact w
 |exc c=>rw[er]at w;exact w
 |ok m d =>
  rw[er]at w;cases d with
  |bl b =>
   intro F' H' st;cases b with
   |true=>rw[if_pos rfl];exact⟨ρ,F',R.step st,i8.step st w⟩
   |false=>rw[if_neg aT5];exact w F' H' st
  |_=>exact w
def tT_or{Q:Bool->Hp->Prop}(q:tT C (λρ=>orR (ga ρ) (gb ρ)) σ H Q):tOr (tT C ga) (tT C gb) σ H Q:=by
 obtain⟨ρ,F,R,w⟩:=q
 try dsimp only at w
 refine⟨ρ,F,R,?_⟩;cases er:ga ρ with
 |stuck=>rw[er]at w;exact w
 |exc c=>rw[er]at w;exact w
 |ok m d =>
  rw[er]at w;cases d with
  |bl b =>
   intro F' H' st;cases b with
   |true=>rw[if_pos rfl];exact w F' H' st
   |false=>rw[if_neg aT5];exact⟨ρ,F',R.step st,i8.step st w⟩
  |_=>exact w
def aG9{rest:List Expr}(ha:PTv C X a ga)(hb:PWv C X (.BoolOp .And (b::rest) pos) gb):PWv C X (.BoolOp .And (a::b::rest) pos) (λρ=>eM (ga ρ) (gb ρ)):=PW.imp (aDX ha hb) λ_ _ _ q=>wJ q
def aHA{rest:List Expr}(ha:PTv C X a ga)(hb:PWv C X (.BoolOp .Or (b::rest) pos) gb):PWv C X (.BoolOp .Or (a::b::rest) pos) (λρ=>orR (ga ρ) (gb ρ)):=PW.imp (pw_or ha hb) λ_ _ _ q=>tT_or q
def pt_w(h:PWv C X e g):PTv C X e g:=PW.pt h
def wK{op}(h:PV C X a ga):PV C X (.BoolOp op [a] pos) ga:=aDZ h
def aHB{rest:List Expr}(ha:PV C X a ga)(hb:PV C X (.BoolOp .And (b::rest) pos) gb):PV C X (.BoolOp .And (a::b::rest) pos) (λρ=>eM (ga ρ) (gb ρ)):=by
 refine PE.imp (aD0 ha hb) λσ H Q q=>?_;unfold u7;rw[aR]at q ⊢;obtain⟨ρ,F,R,w⟩:=q
 try dsimp only at w
 refine⟨ρ,F,R,?_⟩;cases er:ga ρ with
 |stuck=>rw[er]at w;exact w
 |exc c=>rw[er]at w;exact w
 |ok m d =>
  rw[er]at w;cases d with
  |bl k =>
   intro v F' H' st rp _;cases rp.bl;refine⟨k,rfl,?_⟩;cases k with
   |true=>rw[if_pos rfl,aR];exact⟨ρ,F',R.step st,aQ.step st w⟩
   |false=>rw[if_neg aT5];exact w (.bl false) F' H' st (cH _) (by nofun)
  |_=>exact w.elim
def aHC{rest:List Expr}(ha:PV C X a ga)(hb:PV C X (.BoolOp .Or (b::rest) pos) gb):PV C X (.BoolOp .Or (a::b::rest) pos) (λρ=>orR (ga ρ) (gb ρ)):=by
 refine PE.imp (pe_or ha hb) λσ H Q q=>?_;unfold tOrV;rw[aR]at q ⊢;obtain⟨ρ,F,R,w⟩:=q
 try dsimp only at w
 refine⟨ρ,F,R,?_⟩;cases er:ga ρ with
 |stuck=>rw[er]at w;exact w
 |exc c=>rw[er]at w;exact w
 |ok m d =>
  rw[er]at w;cases d with
  |bl k =>
   intro v F' H' st rp _;cases rp.bl;refine⟨k,rfl,?_⟩;cases k with
   |true=>rw[if_pos rfl];exact w (.bl true) F' H' st (cH _) (by nofun)
   |false=>rw[if_neg aT5,aR];exact⟨ρ,F',R.step st,aQ.step st w⟩
  |_=>exact w.elim
def aHD(ha:PV C X a ga):PV C X (.UnaryOp .Not a pos) (λρ=>lM (ga ρ)):=by
 refine PE.imp (aD1 ha) λσ H Q q=>?_;unfold u8;rw[aR]at q ⊢;obtain⟨ρ,F,R,w⟩:=q
 try dsimp only at w
 refine⟨ρ,F,R,?_⟩;cases er:ga ρ with
 |stuck=>rw[er]at w;exact w
 |exc c=>rw[er]at w;exact w
 |ok m d =>
  rw[er]at w;cases d with
  |bl k=>intro v F' H' st rp _;cases rp.bl;exact⟨k,rfl,w _ F' H' st (cH _) (by nofun)⟩
  |_=>exact w.elim
def nZ(x:Res):Res:=x.thn λ_ d=>match d with|.int i=>.ok .fz (.int (-i))|_=>.stuck
def aHE(ha:PV C X a ga):PV C X (.UnaryOp .USub a pos) (λρ=>nZ (ga ρ)):=by
 refine PE.imp (pe_un aEL ha) λσ H Q q=>?_;unfold tUn;rw[aR]at q ⊢;obtain⟨ρ,F,R,w⟩:=q
 try dsimp only at w
 refine⟨ρ,F,R,?_⟩;cases er:ga ρ with
 |stuck=>rw[er]at w;exact w
 |exc c=>rw[er]at w;exact w
 |ok m d =>
  rw[er]at w;cases d with
  |int i=>intro v F' H' st rp _;cases rp.int;exact⟨i,rfl,w _ F' H' st (dA _) (by nofun)⟩
  |_=>exact w.elim
def ixD:Md->D->Md->D->Option (Md×D):=λ_ x _ y=>match x,y with
 |.lst ds,.int i=>(atI ds i).map λd=>(.fz,d)
 |.tup ds,.int i=>(atI ds i).map λd=>(.fz,d)
 |.str z,.int i=>(atI z.cps.toList i).map λc=>(.fz,.str ⟨#[c]⟩)
 |_,_=>none
theorem aC.atI{F:Hp}{xs:List V}{i:Int}{d:D}(h:aC K F ds xs)(e:atI ds i=some d):∃x,L2.atI xs i=some x/\aB K F d x:=by
 unfold L2.atI at *;rw[h.length];cases q:ixN ds.length i with
 |none=>rw[q]at e;cases e
 |some j=>rw[q]at e;exact h.get' e
def aHF{F:Hp}{m n k:Md}{x y d:D}{u:V}{Q:VK}(s:aD F H)(rx:Rp X.K F H m x v)(ry:Rp X.K F H n y u)(e:ixD m x n y=some (k,d))(w:∀v' F' H',aE F H F' H'->Rp X.K F' H' k d v'->(k=.fr->∀a,v'=.ref a->H a=none)->Q v' H'):rIx X.K v u H Q:=by
 unfold ixD at e;split at e
 . rename_i ds i;cases ry.int;obtain⟨p,xs,rfl,hq,r⟩:=rx.seqL s;cases ei:atI ds i with
   |none=>rw[ei]at e;cases e
   |some d'=>rw[ei]at e;cases e;obtain⟨x',ex,rx'⟩:=r.atI ei;exact .inl ⟨p,xs,i,x',rfl,rfl,hq,ex,w x' F H (.refl s) rx' (by nofun)⟩
 . rename_i ds i;cases ry.int;obtain⟨p,xs,rfl,hq,r⟩:=rx.seqT s;cases ei:atI ds i with
   |none=>rw[ei]at e;cases e
   |some d'=>rw[ei]at e;cases e;obtain⟨x',ex,rx'⟩:=r.atI ei;exact .inr (.inl ⟨p,xs,i,x',rfl,rfl,hq,ex,w x' F H (.refl s) rx' (by nofun)⟩)
 . rename_i z i;cases ry.int;obtain⟨rfl,hl,hk⟩:=rx.str;cases ei:atI z.cps.toList i with
   |none=>rw[ei]at e;cases e
   |some c =>
    rw[ei]at e;cases e;refine .inr (.inr ⟨z,i,c,rfl,rfl,hl,ei,w _ F H (.refl s) (j2 ⟨?_,?_⟩) (by nofun)⟩)
    . show 1<=sizeLine;decide
    . obtain⟨j,_,hj,_⟩:=nU ei;unfold PyData.strOk at hk ⊢;rw[aWC]at hk;have hc:=hk c (by rw[<- aUH];exact aU3 hj)
      simpa using hc
 . cases e
def pv_ix(ha:PV C X a ga)(hb:PV C X b gb)(hs:nV b:=by intro _ _;rfl):PV C X (.Subscript a b pos) (λρ=>op2 ixD (ga ρ) (gb ρ)):=by exact PE.imp (vY aF1 ha hb hs) λσ H Q q=>lK (λF H m x n y v u k d Q s rx ry e w=>aHF s rx ry e w) q
def aHG:SlR X (λx lo hi H Q=>∃z,x=.str z/\z.length<=sizeLine/\Q (.str (Txt.slice z lo hi)) H):=by
 intro aA s σ H x v vl vu lo hi sl Q I rx hs pl pu h;obtain⟨z,rfl,hz,q⟩:=h;obtain⟨t,rfl⟩:=rx;refine⟨"str", _,PySem.F.slot_str_getitem.lookup,typeIs_str _ _ _,?_⟩;have fin:∀t' k,EP X aA σ Q (.str (Txt.slice z lo hi) t') {s with toks:=k}:=λt' k=>⟨.str (Txt.slice z lo hi),H,I.tok _,⟨_,rfl⟩,q⟩
 cases pl with
 |none =>
  cases pu with
  |none=>exact aWD (l:=none) (u:=none) (st:=none) hs rfl (aWE ⟨aTQ (aWF z _ _) hz,λt' k=>fin t' k⟩)
  |int j tj=>exact aWD (l:=none) (u:=some (j,tj)) (st:=none) hs rfl (aWE ⟨aTQ (aWF z _ _) hz,λt' k=>fin t' k⟩)
 |int i ti =>
  cases pu with
  |none=>exact aWD (l:=some (i,ti)) (u:=none) (st:=none) hs rfl (aWE ⟨aTQ (aWF z _ _) hz,λt' k=>fin t' k⟩)
  |int j tj=>exact aWD (l:=some (i,ti)) (u:=some (j,tj)) (st:=none) hs rfl (aWE ⟨aTQ (aWF z _ _) hz,λt' k=>fin t' k⟩)
def aHH{hi:Option Int}(h:PyData.strOk z=true):PyData.strOk (Txt.slice z lo hi)=true:=by
 unfold Txt.slice;split
 . exact h
 . unfold PyData.strOk at *;rw[aWC]at h ⊢;intro c hc;rw[<- aUH,List.toList_toArray,aUD]at hc;obtain⟨j,_,hj⟩:=hc;exact h c (aWG hj)
def POv(C:Cw)(X:Cx):Option Expr->Option (Rho->Res)->Prop
 |none,none=>True
 |some e,some g=>PV C X e g
 |_,_=>False
def wL(C:Cw):Option (Rho->Res)->TO
 |none=>vW
 |some g=>nS (tG C g)
def wM{e:Option Expr}{g:Option (Rho->Res)}(h:POv C X e g):PO X e (wL (C.at X) g):=by
 cases e with
 |none=>cases g with
  |none=>exact aFS
  |some g=>exact h.elim
 |some e=>cases g with
  |none=>exact h.elim
  |some g=>exact aFT h
def cS(g:Option (Rho->Res))(ρ:Rho)(k:Option Int->Res):Res:=match g with
 |none=>k none
 |some g=>(g ρ).thn λ_ d=>match d with|.int i=>k (some i)|_=>.stuck
def j4{F:Hp}{g:Option (Rho->Res)}{k:Option Int->Res}{Q:VK}{R:Option Int->Hp->Prop}(RS:aM C.K C.F0 C.H0 F H σ ρ)(w:aQ C F H σ (cS g ρ k) Q)(h:∀i F' H',aE F H F' H'->aM C.K C.F0 C.H0 F' H' σ ρ->aQ C F' H' σ (k i) Q->R i H'):wL C g σ H R:=by
 cases g with
 |none=>exact h none F H (.refl RS.sub) RS w
 |some g =>
  show nS (tG C g) σ H R;unfold nS;rw[aR];refine⟨ρ,F,RS,?_⟩;have w:aQ C F H σ ((g ρ).thn λ_ d=>match d with|.int i=>k (some i)|_=>.stuck) Q:=w
  cases er:g ρ with
  |stuck=>rw[er]at w;exact w
  |exc c=>rw[er]at w;exact w
  |ok m d =>
   rw[er]at w;intro v F' H' st rp _;cases d with
   |int i=>cases rp.int;exact⟨i,rfl,h (some i) F' H' st (RS.step st) (aQ.step st w)⟩
   |_=>exact(show False from w).elim
end
inductive bE where
 |ok (xs:List (Md×D))|exc (c:Str)|stuck
def RpL(K:Fg)(F H:Hp):List (Md×D)->List V->Prop
 |[],vs=>vs=[]
 |(m,d)::r,vs=>∃v us,vs=v::us/\Rp K F H m d v/\RpL K F H r us
def bE.thn(r:bE)(k:List (Md×D)->Res):Res:=match r with
 |.ok xs=>k xs
 |.exc c=>.exc c
 |.stuck=>.stuck
@[simp] theorem bE.thn_ok(xs:List (Md×D))(k:List (Md×D)->Res):(bE.ok xs).thn k=k xs:=rfl
end D3
variable {gs:D3.Rho->D3.bE}
namespace D3
@[simp] theorem bE.thn_exc(c:Str)(k:List (Md×D)->Res):(bE.exc c).thn k=.exc c:=rfl
@[simp] theorem bE.thn_stuck(k:List (Md×D)->Res):bE.stuck.thn k=.stuck:=rfl
def lN(C:Cw)(F H:Hp)(σ:L2.St)(r:bE)(Q:List V->Hp->Prop):Prop:=match r with
 |.ok xs=>∀vs F' H',aE F H F' H'->RpL C.K F' H' xs vs->Q vs H'
 |.exc c=>∀F' H',aE F H F' H'->C.EE c σ H'
 |.stuck=>False
def lN.step{F H1:Hp}{r:bE}{Q:List V->Hp->Prop}(st:aE F H F1 H1)(h:lN C F H σ r Q):lN C F1 H1 σ r Q:=by
 cases r with
 |ok m=>exact λv F' H' s2 rp=>h v F' H' (st.trans s2) rp
 |exc c=>exact λF' H' s2=>h F' H' (st.trans s2)
 |stuck=>exact h
def tAv(C:Cw)(g:Rho->bE):TA:=λσ H Q=>∃ρ F,aM C.K C.F0 C.H0 F H σ ρ/\lN C F H σ (g ρ) Q
def PAv(C:Cw)(X:Cx)(es:List Expr)(g:Rho->bE):Prop:=PA X es (tAv (C.at X) g)
def PA.imp{e:List Expr}{t t':TA}(h:PA X e t)(i:∀σ H Q,t' σ H Q->t σ H Q):PA X e t':=λp aA s σ H Q I q=>h p aA s σ H Q I (i σ H Q q)
def aX(x:Res)(y:bE):bE:=match x with
 |.ok m d=>(match y with|.ok r=>.ok ((m,d)::r)|.exc c=>.exc c|.stuck=>.stuck)
 |.exc c=>.exc c
 |.stuck=>.stuck
@[simp] theorem aHI(m:Md)(d:D)(r:List (Md×D)):aX (.ok m d) (.ok r)=.ok ((m,d)::r):=rfl
section
variable  {a b c:Expr}{es:List Expr}{gc:Rho->Res}{x:Str}
def lO:PAv C X [] (λ_=>.ok []):=PA.imp fO λσ H Q q=>by obtain⟨ρ,F,R,w⟩:=q;exact w [] F H (.refl R.sub) rfl
def i9(ha:PV C X e g)(hr:PAv C X es gs)(hs:starEach (e::es) X.env=(false,eval e X.env)::starEach es X.env:=by rfl):PAv C X (e::es) (λρ=>aX (g ρ) (gs ρ)):=by
 refine PA.imp (gN ha hr hs) λσ H Q q=>?_;unfold eB;obtain⟨ρ,F,R,w⟩:=q;dsimp only at w;rw[aR];refine⟨ρ,F,R,?_⟩;cases er:g ρ with
 |stuck=>rw[er]at w;exact w
 |exc c=>rw[er]at w;exact w
 |ok m d =>
  rw[er]at w;intro v F1 H1 s1 r1 _;refine⟨ρ,F1,R.step s1,?_⟩;have w1:=lN.step s1 w;cases es':gs ρ with
  |stuck=>rw[es']at w1;exact w1
  |exc c=>rw[es']at w1;exact w1
  |ok r=>rw[es']at w1;intro vs F2 H2 s2 r2;exact w1 (v::vs) F2 H2 s2 ⟨v,vs,rfl,r1.step s2,r2⟩
def cP:List (Md×D)->Option (List D)
 |[]=>some []
 |(.fz,d)::r=>(cP r).map (d :: ·)
 |_::_=>none
theorem RpL.fz{K:Fg}{F H:Hp}:∀{xs:List (Md×D)}{vs:List V}{ds:List D},RpL K F H xs vs->cP xs=some ds->aC K F ds vs
 |[],_,_,h,e=>by cases e;rw[show _=[]from h];exact aC.nil
 |(.fz,d)::r,_,_,h,e=>by
  obtain⟨v,us,rfl,r1,r2⟩:=h;unfold cP at e;cases q:cP r with
  |none=>rw[q]at e;cases e
  |some ds'=>rw[q]at e;cases e;exact aC.cons r1 (RpL.fz r2 q)
 |(.fr,d)::r,_,_,h,e=>by cases e
 |(.bo,d)::r,_,_,h,e=>by cases e
def jA(r:bE):Res:=r.thn λxs=>match cP xs with|some ds=>if ds.length<=sizeLine then .ok .fz (.tup ds)else .stuck|none=>.stuck
def eN(r:bE):Res:=r.thn λxs=>match cP xs with|some ds=>if ds.length<=sizeLine then .ok .fr (.lst ds)else .stuck|none=>.stuck
def aB.tup_of{F:Hp}{p:Addr}{xs:List V}(hp:F p=none)(r:aC K F ds xs):aB K (upd F p (.tup xs)) (.tup ds) (.ref p):=by simp only[aB];exact⟨p,xs,rfl,SqT.of aT,r.mono (λb u q=>by rw[aH (bL q hp)];exact q) _ _⟩
def aHJ{x1}(h:PAv C X es gs):PV C X (.Tuple es x1 pos) (λρ=>jA (gs ρ)):=by
 refine PE.imp (aFJ h) λσ H Q q=>?_;unfold tTup;rw[aR]at q;obtain⟨ρ,F,R,w⟩:=q;refine⟨ρ,F,R,?_⟩;cases er:gs ρ with
 |stuck=>rw[er]at w;exact w
 |exc c=>rw[er]at w;exact w
 |ok xs =>
  rw[er]at w;intro vs F1 H1 s1 r1;have w1:aQ (C.at X) F1 H1 σ (match cP xs with|some ds=>if ds.length<=sizeLine then .ok .fz (.tup ds)else .stuck|none=>.stuck) Q:=aQ.step s1 w
  cases ef:cP xs with
  |none=>rw[ef]at w1;exact w1.elim
  |some ds =>
   rw[ef]at w1;dsimp only at w1;split at w1
   . rename_i hl;have r2:=r1.fz ef;refine⟨by rw[r2.length];exact hl,λp hp=>?_⟩
     exact w1 (.ref p) _ _ (aE.laid (.tup vs) s1.sub hp) (aB.tup_of (s1.sub.free hp) r2) (by nofun)
   . exact w1.elim
def aHK(h:PAv C X es gs):PV C X (.List es pos) (λρ=>eN (gs ρ)):=by
 refine PE.imp (vK h) λσ H Q q=>?_;unfold tLst;rw[aR]at q;obtain⟨ρ,F,R,w⟩:=q;refine⟨ρ,F,R,?_⟩;cases er:gs ρ with
 |stuck=>rw[er]at w;exact w
 |exc c=>rw[er]at w;exact w
 |ok xs =>
  rw[er]at w;intro vs F1 H1 s1 r1;have w1:aQ (C.at X) F1 H1 σ (match cP xs with|some ds=>if ds.length<=sizeLine then .ok .fr (.lst ds)else .stuck|none=>.stuck) Q:=aQ.step s1 w
  cases ef:cP xs with
  |none=>rw[ef]at w1;exact w1.elim
  |some ds =>
   rw[ef]at w1;dsimp only at w1;split at w1
   . rename_i hl;have r2:=r1.fz ef;refine⟨by rw[r2.length];exact hl,λp hp=>?_⟩
     refine w1 (.ref p) F1 _ (aE.fresh (.lst vs) s1.sub hp) ⟨p,rfl,s1.sub.free hp,vs,aT,r2⟩ λ_ a ea=>by cases ea;exact hp
   . exact w1.elim
def dB(X:Cx)(f:aZN)(φ:List (Md×D)->Option (Md×D)):Prop :=
 ∃r:List V->Hp->VK->Prop,eK X f r/\∀F H xs vs k d Q,aD F H->RpL X.K F H xs vs->φ xs=some (k,d) ->
  (∀v' F' H',aE F H F' H'->Rp X.K F' H' k d v'->(k=.fr->∀a,v'=.ref a->H a=none)->Q v' H')->r vs H Q
def cE(φ:List (Md×D)->Option (Md×D))(r:bE):Res:=r.thn λxs=>Res.of (φ xs)
def wN{φ:List (Md×D)->Option (Md×D)}{r:List V->Hp->VK->Prop}(h:∀F H xs vs k d Q,aD F H->RpL C.K F H xs vs->φ xs=some (k,d)->(∀v' F' H',aE F H F' H'->Rp C.K F' H' k d v'->(k=.fr->∀a,v'=.ref a->H a=none)->Q v' H')->r vs H Q){Q:VK}(q:tG C (λρ=>cE φ (gs ρ)) σ H Q):tCB r (tAv C gs) σ H Q:=by
 unfold tCB;rw[aR]at q;obtain⟨ρ,F,R,w⟩:=q;refine⟨ρ,F,R,?_⟩;cases er:gs ρ with
 |stuck=>rw[er]at w;exact w
 |exc c=>rw[er]at w;exact w
 |ok xs =>
  rw[er]at w;intro vs F1 H1 s1 r1;have w1:aQ C F1 H1 σ (Res.of (φ xs)) Q:=aQ.step s1 w;cases ef:φ xs with
  |none=>rw[ef]at w1;exact w1.elim
  |some kd=>obtain⟨k,d⟩:=kd;rw[ef]at w1;exact h F1 H1 xs vs k d Q s1.sub r1 ef w1
def wO{id:String}{φ:_}(o:dB X (.builtin id) φ)(hg:Gl X x)(hm:X.mg x=none)(hv:bootBuiltins x=some (.builtin id))(ha:PAv C X (e::es) gs)(hn:x ≠ "__name__" := by decide)(hdb:(x==("__debug__":Str))=false:=by decide)(he:starEach (e::es) X.env=(false,eval e X.env)::starEach es X.env:=by rfl)(hpl:(backTo pos (starEach es X.env)).any (·.1)=false:=by rfl):PV C X (.Call (.Name x p) (e::es) [] pos) (λρ=>cE φ (gs ρ)):=by obtain⟨r,h1,h2⟩:=o;exact PE.imp (qY h1 hg hm hv ha hn hdb he hpl) λσ H Q q=>wN h2 q
def dC:List (Md×D)->Option (Md×D)
 |[(_,.str z)]=>some (.fz,.int z.length)
 |[(_,.lst ds)]=>some (.fz,.int ds.length)
 |[(_,.tup ds)]=>some (.fz,.int ds.length)
 |_=>none
def RpL.one{F:Hp}{m:Md}{d:D}{vs:List V}(h:RpL K F H [(m,d)] vs):∃v,vs=[v]/\Rp K F H m d v:=by obtain⟨v,us,rfl,r,e⟩:=h;exact⟨v,by rw[show us=[]from e],r⟩
def RpL.two{F:Hp}{m n:Md}{d e:D}{vs:List V}(h:RpL K F H [(m,d),(n,e)] vs):∃v u,vs=[v,u]/\Rp K F H m d v/\Rp K F H n e u:=by obtain⟨v,us,rfl,r,v',us',rfl,r',e⟩:=h;exact⟨v,v',by rw[show us'=[]from e],r,r'⟩
def aHL:dB X (.builtin "len") dC:=by
 refine⟨_,aE2,λF H xs vs k d Q s rx e w=>?_⟩;unfold dC at e;split at e
 . rename_i m z;cases e;obtain⟨v,rfl,r⟩:=rx.one;obtain⟨rfl,hz,_⟩:=r.str;exact⟨_,z.length,rfl,⟨hz,rfl⟩,w _ F H (.refl s) (dA _) (by nofun)⟩
 . rename_i m ds;cases e;obtain⟨v,rfl,r⟩:=rx.one;obtain⟨a,xs,rfl,q,rl⟩:=r.seqL s;exact⟨_,xs.length,rfl,.inl ⟨xs,q,rfl⟩,by rw[rl.length];exact w _ F H (.refl s) (dA _) (by nofun)⟩
 . rename_i m ds;cases e;obtain⟨v,rfl,r⟩:=rx.one;obtain⟨a,xs,rfl,q,rl⟩:=r.seqT s;exact⟨_,xs.length,rfl,.inr ⟨xs,q,rfl⟩,by rw[rl.length];exact w _ F H (.refl s) (dA _) (by nofun)⟩
 . cases e
noncomputable def tyN:D->Option String
 |.non=>some "NoneType" |.bl _=>some "bool" |.int _=>some "int" |.str _=>some "str" |.tup _=>some "tuple" |.lst _=>some "list" |.dct _=>some "dict" |_=>none
noncomputable def lQ(t c:String):Option Bool:=if["int", "bool", "str", "list", "tuple", "dict"].contains c=true then some (t==c||(t == "bool" && c == "int"))else none
def bN:List (Md×D)->Option (Md×D)
 |[(_,d),(_,.ty c)]=>match tyN d with|some t=>(lQ t c).map λb=>(.fz,.bl b)|none=>none
 |_=>none
def aHM{d:D}{t c:String}{b:Bool}(ht:tyN d=some t)(e:lQ t c=some b):W.kitOne K (.type t) (.type c)=some b:=by
 unfold lQ at e;split at e
 . rename_i hc;simp only[List.contains_cons,List.contains_nil,aVN,aWB,aUI]at hc;cases e;have ht':t="NoneType" \/ t="bool" \/ t="int" \/ t="str" \/ t="tuple" \/ t="list" \/ t="dict" := by cases d <;> cases ht <;> simp
   rcases hc with rfl|rfl|rfl|rfl|rfl|rfl <;> rcases ht' with rfl|rfl|rfl|rfl|rfl|rfl|rfl <;> rfl
 . cases e
def aHN:dB X (.builtin "isinstance") bN:=by
 refine⟨λvs H Q=>∃(F:Hp) (m:Md) (d:D) (v:V) (t c:String) (b:Bool),aD F H/\Rp X.K F H m d v/\vs=[v,.ty c]/\tyN d=some t/\lQ t c=some b/\Q (.bl b) H,?_,?_⟩
 . intro aA s σ H xs us Q I r h;obtain⟨F,m,d,v,t,c,b,sF,rp,rfl,ht,hb,q⟩:=h;obtain⟨u,u',rfl,ru,ru'⟩:=vH r;cases(show u'=Value.type c from ru')
   have e:=aHM (K:=X.K) ht hb;have fin:∀tk,EP X aA σ Q (.bool b) {s with toks:=tk}:=λtk=>⟨.bl b,H,I.tok _,rfl,q⟩
   cases d with
   |non=>cases rp.non;cases ht;cases(show u=Value.none from ru);exact aWH W.kitx_none I.kIn True.intro e (λz=>nomatch z) fin
   |bl y=>cases rp.bl;cases ht;cases(show u=Value.bool y from ru);exact aWH W.kitx_bool I.kIn True.intro e (λz=>nomatch z) fin
   |int i=>cases rp.int;cases ht;obtain⟨t,q⟩:=(show ∃t,u=Value.int i t from ru);cases q;exact aWH W.kitx_int I.kIn True.intro e (λz=>nomatch z) fin
   |str y=>obtain⟨rfl,_⟩:=rp.str;cases ht;obtain⟨t,q⟩:=(show ∃t,u=Value.str y t from ru);cases q;exact aWH W.kitx_str I.kIn True.intro e (λz=>nomatch z) fin
   |tup ds =>
    obtain⟨a,xs,rfl,hq,_⟩:=rp.seqT sF;cases ht;cases(show u=Value.ref a from ru)
    obtain⟨its,_,⟨o,h1,h2,_⟩,_⟩:=I.tuple hq;exact aWH W.kitx_tuple I.kIn ⟨o,h1,h2⟩ e (λz=>nomatch z) fin
   |lst ds =>
    obtain⟨a,xs,rfl,hq,_⟩:=rp.seqL sF;cases ht;cases(show u=Value.ref a from ru)
    obtain⟨its,_,⟨o,n,h1,h2,_⟩,_⟩:=I.list hq;exact aWH W.kitx_list I.kIn ⟨o,h1,h2⟩ e (λz=>nomatch z) fin
   |dct ds =>
    obtain⟨a,xs,rfl,hq,_⟩:=rp.dict sF;cases ht;cases(show u=Value.ref a from ru)
    obtain⟨_,_,vs,_,p⟩:=(show bM X.prog X.w H s.heap a (.dK xs)from I.hok a _ hq)
    obtain⟨o,es,ep,h1,h2,_⟩:=p;exact aWH W.kitx_dict I.kIn ⟨o,h1,h2.1⟩ e (λz=>nomatch z) fin
   |_=>cases ht
 . intro F H xs vs k d Q s rx e w;unfold bN at e;split at e
   . rename_i m d' n c;obtain⟨v,u,rfl,r1,r2⟩:=rx.two;cases r2.ty;cases et:tyN d' with
     |none=>rw[et]at e;cases e
     |some t =>
      rw[et]at e;dsimp only at e;cases eb:lQ t c with
      |none=>rw[eb]at e;cases e
      |some b=>rw[eb]at e;cases e;exact⟨F,m,d',v,t,c,b,s,r1,rfl,et,eb,w _ F H (.refl s) (cH _) (by nofun)⟩
   . cases e
def pv_ty{T:String}(hg:Gl X x)(hm:X.mg x=none)(hv:bootBuiltins x=some (.type T))(hn:x ≠ "__name__" := by decide)(hd:(x==("__debug__":Str))=false:=by decide):PV C X (.Name x pos) (λ_=>.ok .fz (.ty T)) :=
 i7 _ (aDU (v:=.ty T) hg hm hv rfl hn hd) λ_ _=>rp_ty T
def aHO{t:Tok}(hg:Gl X x)(hm:X.mg x=some (.str y t))(h:(decide (y.length<=sizeLine)&&PyData.strOk y)=true:=by decide +kernel)(hd:(x==("__debug__":Str))=false:=by decide):PV C X (.Name x pos) (λ_=>.ok .fz (.str y)) :=
 i7 _ (qM (v:=.str y) hg hm ⟨t,rfl⟩ hd) λ_ _=>j2 (by rw[aVL,aV9]at h;exact h)
def aHP{y:Int}{t:Tok}(hg:Gl X x)(hm:X.mg x=some (.int y t))(hd:(x==("__debug__":Str))=false:=by decide):PV C X (.Name x pos) (λ_=>.ok .fz (.int y)) :=
 i7 _ (qM (v:=.int y) hg hm ⟨t,rfl⟩ hd) λ_ _=>dA _
def eC:List D->Option (List Bool)
 |[]=>some []
 |.bl b::r=>(eC r).map (b :: ·)
 |_=>none
def jB:List (Md×D)->Option (Md×D)
 |[(_,.lst ds)]=>(eC ds).map λbs=>(.fz,.bl (bs.all id))
 |_=>none
theorem wP{K:Fg}{F:Hp}:∀{ds:List D}{xs:List V}{bs:List Bool},aC K F ds xs->eC ds=some bs->xs=bs.map V.bl
 |[],_,_,h,e=>by cases e;simp only[aC]at h;exact h
 |d::ds,_,_,h,e=>by
  simp only[aC]at h;obtain⟨y,ys,rfl,r,t⟩:=h;cases d with
  |bl b =>
   unfold eC at e;cases q:eC ds with
   |none=>rw[q]at e;cases e
   |some bs=>rw[q]at e;cases e;simp only[aB]at r;subst r;rw[wP t q];rfl
  |_=>cases e
def aHQ(bs:List Bool):(List.range bs.length).all (λi=>bs.getD i true)=bs.all id:=by
 rw[Bool.eq_iff_iff,aWI,aWI];constructor
 . intro h b hb;obtain⟨i,hi,e⟩:=aWJ hb;have:=h i (aTO.mpr hi);rw[aWK,aWL hi]at this;rw[<- e];exact this
 . intro h i hi;have hi:=aTO.mp hi;rw[aWK,aWL hi];exact h _ (aWM hi)
def aHR{a:Addr}{bs:List Bool}(hc:X.calm=true)(I:Inv X aA σ H s)(hq:SqL X.K H a (bs.map V.bl)){E:VSP}{Q:VSP}(h:∀(it:aZN) (s2:aZO),(∃I' fp wr n P St tr,it=.ref I'/\Walks prog w X.A.in1 I' fp wr n P St/\St 0 s2.heap/\TruthOf prog w X.A.in1 P tr/\n=bs.length/\(∀i,tr i=bs.getD i true)/\∀h' tk,(∀b o,b∉wr->s2.heap.get? b=some o->h'.get? b=some o)->∃s3:aZO,s3={s2 with heap:=h',toks:=tk}/\Inv X aA σ H s3)->Q it s2):wpAny (model prog w) X.A.in1 (pyIter (.ref a)) Q E s:=by
 obtain⟨its,rv,p,hz⟩:=I.list hq;have hlen:=rv.length;rw[aUL]at hlen;refine aT9 p.isList (h _ _ ⟨s.heap.objs.size,_,_,_,_,_,λi=>bs.getD i true,rfl,Walks.list (by show X.A.handled=none;exact I.ok.hd hc) s.heap.objs.size a ?_ its.toArray,⟨⟨_,aTI _ rfl,rfl,rfl⟩,?_⟩,?_,?_,λ_=>rfl,?_⟩)
 . obtain⟨o,n,e,_⟩:=p;exact aTM (aTJ e)
 . obtain⟨o,n,e,c,d,dd⟩:=p;exact⟨o,hps e,c,n,dd⟩
 . intro i v s' Q' E' hP hQ;have hv:its[i]? = some v:=by simpa using hP
   have hi:i<bs.length:=by rw[hlen];exact(aTW.mp hv).1
   have hx:(bs.map V.bl)[i]? = some (V.bl bs[i]):=by rw[aU2,aWL hi];rfl
   obtain⟨u,hu,ru⟩:=rv.get hx;rw[hv]at hu;cases hu;cases(show v=Value.bool _ from ru)
   have hQ:Q' (bs.getD i true) s':=hQ;rw[aWK,aWL hi]at hQ;exact aT1 hQ
 . rw[aUG,hlen]
 . intro h' tk hk;refine⟨_,rfl,?_⟩;refine(I.kept (t':=tk) (h':=h') λb o e=>?_)
   refine hk b o (by intro hb; have : b = s.heap.objs.size := by simpa using hb
                     subst this;exact absurd (aTJ e) (aTL _)) (hps e)
def aHS(hc:X.calm=true):dB X (.builtin "all") jB:=by
 refine⟨λvs H Q=>∃(a:Addr) (bs:List Bool),vs=[.ref a]/\SqL X.K H a (bs.map V.bl)/\Q (.bl (bs.all id)) H,?_,?_⟩
 . intro aA s σ H xs us Q I r h;obtain⟨a,bs,rfl,hq,q⟩:=h;obtain⟨u,rfl,ru⟩:=dX r;cases(show u=Value.ref a from ru)
   refine call_all_walk (aHR hc I hq λit s2 hh=>?_);obtain⟨I',fp,wr,n,P,St,tr,rfl,W,st,T,rfl,htr,fin⟩:=hh;refine⟨I',fp,wr,_,P,St,tr,rfl,W,st,T,λh' tk hk=>?_⟩;obtain⟨s3,rfl,I3⟩:=fin h' tk hk;have e:(List.range bs.length).all tr=bs.all id:=by rw[<- aHQ];congr 1;funext i;exact htr i
   rw[e];exact⟨.bl (bs.all id),H,I3,rfl,q⟩
 . intro F H xs vs k d Q s rx e w;unfold jB at e;split at e
   . rename_i m ds;obtain⟨v,rfl,r⟩:=rx.one;obtain⟨a,xs,rfl,hq,rl⟩:=r.seqL s;cases eb:eC ds with
     |none=>rw[eb]at e;cases e
     |some bs=>rw[eb]at e;cases e;have:=wP rl eb;subst this;exact⟨a,bs,rfl,hq,w _ F H (.refl s) (cH _) (by nofun)⟩
   . cases e
end
inductive aF where
 |nx (ρ:Rho)|rt (m:Md) (d:D)|bk (ρ:Rho)|ct (ρ:Rho)|exc (c:Str) (ρ:Rho)|stuck
def bT(C:Cw)(Fa:Hp)(r:aF)(E:eX):Prop:=match r with
 |.nx ρ=>∀σ F H,aD Fa F->aM C.K C.F0 C.H0 F H σ ρ->E.nx σ H
 |.bk ρ=>∀σ F H,aD Fa F->aM C.K C.F0 C.H0 F H σ ρ->E.bk σ H
 |.ct ρ=>∀σ F H,aD Fa F->aM C.K C.F0 C.H0 F H σ ρ->E.ct σ H
 |.exc c ρ=>∀σ F H,aD Fa F->aM C.K C.F0 C.H0 F H σ ρ->C.EE c σ H
 |.rt m d=>∀v F H,aE C.F0 C.H0 F H->Rp C.K F H m d v->(m=.fr->∀a,v=.ref a->C.H0 a=none)->E.rt v H
 |.stuck=>False
def bT.mono{F:Hp}{r:aF}{E:eX}(s:aD F F1)(w:bT C F r E):bT C F1 r E:=by
 cases r with
 |nx ρ=>exact λσ F' H' z R=>w σ F' H' (s.trans z) R
 |bk ρ=>exact λσ F' H' z R=>w σ F' H' (s.trans z) R
 |ct ρ=>exact λσ F' H' z R=>w σ F' H' (s.trans z) R
 |exc c ρ=>exact λσ F' H' z R=>w σ F' H' (s.trans z) R
 |rt m d=>exact w
 |stuck=>exact w
def tH(C:Cw)(g:Rho->aF):TS:=λE σ H=>∃ρ F,aM C.K C.F0 C.H0 F H σ ρ/\bT C F (g ρ) E
def PSv(C:Cw)(X:Cx)(st:Stmt)(g:Rho->aF):Prop:=PS X st (tH (C.at X) g)
def PBv(C:Cw)(X:Cx)(st:List Stmt)(g:Rho->aF):Prop:=PSs X st (tH (C.at X) g)
def PS.imp{e:Stmt}{t t':TS}(h:PS X e t)(i:∀E σ H,t' E σ H->t E σ H):PS X e t':=λaA s σ H E I q=>h aA s σ H E I (i E σ H q)
def PSs.imp{e:List Stmt}{t t':TS}(h:PSs X e t)(i:∀E σ H,t' E σ H->t E σ H):PSs X e t':=λaA s σ H E I q=>h aA s σ H E I (i E σ H q)
def aF.thn(r:aF)(k:Rho->aF):aF:=match r with
 |.nx ρ=>k ρ
 |r=>r
@[simp] theorem aF.thn_nx(ρ:Rho)(k:Rho->aF):(aF.nx ρ).thn k=k ρ:=rfl
@[simp] theorem aF.thn_rt(m:Md)(d:D)(k:Rho->aF):(aF.rt m d).thn k=.rt m d:=rfl
@[simp] theorem aF.thn_bk(ρ:Rho)(k:Rho->aF):(aF.bk ρ).thn k=.bk ρ:=rfl
@[simp] theorem aF.thn_ct(ρ:Rho)(k:Rho->aF):(aF.ct ρ).thn k=.ct ρ:=rfl
@[simp] theorem aF.thn_exc(c:Str)(ρ:Rho)(k:Rho->aF):(aF.exc c ρ).thn k=.exc c ρ:=rfl
@[simp] theorem aF.thn_stuck(k:Rho->aF):aF.stuck.thn k=.stuck:=rfl
section
variable  {a b c:Expr}{es:List Expr}{gc:Rho->Res}{x:Str}{h1 h2:Rho->aF}
def aHT:PBv C X [] (λρ=>.nx ρ):=PSs.imp qO λE σ H q=>by obtain⟨ρ,F,R,w⟩:=q;exact w σ F H (aD.refl _) R
def aHU{E:eX}(q:tH C (λρ=>(h1 ρ).thn h2) E σ H):tSeq (tH C h1) (tH C h2) E σ H:=by
 obtain⟨ρ,F,R,w⟩:=q;refine⟨ρ,F,R,?_⟩;dsimp only at w;cases er:h1 ρ with
 |nx ρ'=>rw[er]at w;exact λσ' F' H' z R'=>⟨ρ',F',R',bT.mono z w⟩
 |rt m d=>rw[er]at w;exact w
 |bk ρ'=>rw[er]at w;exact w
 |ct ρ'=>rw[er]at w;exact w
 |exc c ρ'=>rw[er]at w;exact w
 |stuck=>rw[er]at w;exact w
def aHV(ha:PSv C X st h1)(hb:PBv C X sts h2):PBv C X (st::sts) (λρ=>(h1 ρ).thn h2):=PSs.imp (lB ha hb) λE σ H q=>aHU q
def Res.thS(r:Res)(ρ:Rho)(k:Md->D->aF):aF:=match r with
 |.ok m d=>k m d
 |.exc c=>.exc c ρ
 |.stuck=>.stuck
@[simp] theorem Res.thS_ok(m:Md)(d:D)(ρ:Rho)(k:Md->D->aF):(Res.ok m d).thS ρ k=k m d:=rfl
@[simp] theorem Res.thS_exc(c:Str)(ρ:Rho)(k:Md->D->aF):(Res.exc c).thS ρ k=.exc c ρ:=rfl
@[simp] theorem Res.thS_stuck(ρ:Rho)(k:Md->D->aF):Res.stuck.thS ρ k=.stuck:=rfl
def j5{F:Hp}{k:Md->D->aF}{E:eX}{Q:VK}(R:aM C.K C.F0 C.H0 F H σ ρ)(w:bT C F ((g ρ).thS ρ k) E)(h:∀m d v F' H',bT C F' (k m d) E->aE F H F' H'->aM C.K C.F0 C.H0 F' H' σ ρ->Rp C.K F' H' m d v->(m=.fr->∀a,v=.ref a->H a=none)->Q v H'):tG C g σ H Q:=by
 rw[aR];refine⟨ρ,F,R,?_⟩;cases er:g ρ with
 |stuck=>rw[er]at w;exact w
 |exc c=>rw[er]at w;exact λF' H' s=>w σ F' H' s.fsame (R.step s)
 |ok m d=>rw[er]at w;exact λv F' H' s rp fr=>h m d v F' H' (bT.mono s.fsame w) s (R.step s) rp fr
def aHW(he:PV C X e g)(hs:swapsWith e none pos.line X.env=pure false:=by rfl):PSv C X (.Expr e pos) (λρ=>(g ρ).thS ρ λ_ _=>.nx ρ):=PS.imp (qQ he hs) λE σ H q=>by obtain⟨ρ,F,R,w⟩:=q;exact j5 R w λm d v F' H' w' s R' rp fr=>w' σ F' H' (aD.refl _) R'
noncomputable def j6(r:Res)(ρ:Rho):aF:=r.thS ρ λm d=>match m with|.bo=>.stuck|m=>.rt m d
def aHX(he:PV C X e g):PSv C X (.Return (some e) pos) (λρ=>j6 (g ρ) ρ):=PS.imp (u9 he) λE σ H q=>by
 obtain⟨ρ,F,R,w⟩:=q;refine j5 R w λm d v F' H' w' s R' rp fr=>?_;cases m with
 |bo=>exact(show False from w').elim
 |fz=>exact w' v F' H' R'.st rp (by nofun)
 |fr=>exact w' v F' H' R'.st rp λ_ a ea=>R.st.same.free (fr rfl a ea)
def fQ(ρ:Rho)(i:Nat):aF:=match ρ[i]? with
 |some (some (false,d))=>.rt .fz d
 |some (some (true,d))=>.rt .fr d
 |_=>.stuck
def aHY(i:Nat)(h:PE X (.Name x p) (jW i)):PSv C X (.Return (some (.Name x p)) pos) (λρ=>fQ ρ i):=PS.imp (u9 h) λE σ H q=>by
 obtain⟨ρ,F,R,w⟩:=q;dsimp only at w;unfold fQ at w;cases e:ρ[i]? with
 |none=>rw[e]at w;exact w.elim
 |some o =>
  cases o with
  |none=>rw[e]at w;exact w.elim
  |some q =>
   obtain⟨m,d⟩:=q;obtain⟨v,e1,r,hh⟩:=R.slot i m d e;rw[e]at w;cases m with
   |false=>exact⟨v,e1,w v F H R.st r (by nofun)⟩
   |true=>exact⟨v,e1,w v F H R.st r λ_=>hh rfl⟩
noncomputable def ifS(t:Res)(ρ:Rho)(x y:aF):aF:=t.thS ρ λ_ d=>match d with|.bl true=>x|.bl false=>y|_=>.stuck
def aHZ{s1 s2:List Stmt}(hc:PTv C X c gc)(ha:PBv C X s1 h1)(hb:PBv C X s2 h2):PSv C X (.If c s1 s2 pos) (λρ=>ifS (gc ρ) ρ (h1 ρ) (h2 ρ)):=by
 refine PS.imp (vA hc ha hb) λE σ H q=>?_;obtain⟨ρ,F,R,w⟩:=q;dsimp only at w;refine⟨ρ,F,R,?_⟩;cases er:gc ρ with
 |stuck=>rw[er]at w;exact w
 |exc c=>rw[er]at w;exact λF' H' s=>w σ F' H' s.fsame (R.step s)
 |ok m d =>
  rw[er]at w;cases d with
  |bl k =>
   intro F' H' s;cases k with
   |true=>rw[if_pos rfl];exact⟨ρ,F',R.step s,bT.mono s.fsame w⟩
   |false=>rw[if_neg aT5];exact⟨ρ,F',R.step s,bT.mono s.fsame w⟩
  |_=>exact w.elim
noncomputable def dJ(ρ:Rho)(i:Nat)(r:Res):aF:=r.thS ρ λm d=>match m with
 |.fz=>.nx (ρ.set i (some (false,d)))
 |.fr=>.nx (ρ.set i (some (true,d)))
 |.bo=>.stuck
theorem aM.set{F:Hp}{m:Bool}{d:D}(R0:aM K F0 H0 F H σ ρ)(s:aE F H F' H')(rp:Rp K F' H' (if m then .bo else .fz) d v)(fr:m=true->∀a,v=.ref a->H a=none):aM K F0 H0 F' H' (σ.set i (some v)) (ρ.set i (some (m,d))):=by
 have R:=R0.step s;refine⟨R.st,λj m' d' e=>?_,λj k d1 d2 a hjk e1 e2 q1 q2=>?_,by rw[aWN,aWN];exact R.len⟩
 . by_cases hj:j=i
   . subst hj;rw[aWO]at e;by_cases hl:j<ρ.length
     . rw[if_pos rfl,if_pos hl]at e;cases e;refine⟨v,by rw[aWO,if_pos rfl,if_pos (by rw[R.len];exact hl)],rp,λz a ea=>R0.st.same.free (fr z a ea)⟩
     . rw[if_pos rfl,if_neg hl]at e;cases e
   . rw[aTY (λz=>hj z.symm)]at e ⊢;exact R.slot j m' d' e
 . have old:∀(l:Nat) (d:D) (b:Addr),l≠i->ρ[l]? = some (some (true,d))->σ[l]? = some (some (.ref b))->H b≠none:=λl d b hl e q=>by obtain⟨u,q',r,_⟩:=R0.slot l true d e;rw[q]at q';cases q';obtain⟨b',eb,_,t⟩:=r;cases eb;exact t.there
   by_cases hj:j=i
   . subst hj;rw[aTY hjk]at e2 q2;rw[aWO]at e1 q1;by_cases hl:j<ρ.length
     . rw[if_pos rfl,if_pos hl]at e1;rw[if_pos rfl,if_pos (by rw[R.len];exact hl)]at q1
       cases e1;cases q1;exact old k d2 a (λz=>hjk z.symm) e2 q2 (fr rfl a rfl)
     . rw[if_pos rfl,if_neg hl]at e1;cases e1
   . by_cases hk:k=i
     . subst hk;rw[aTY (λz=>hjk z.symm)]at e1 q1;rw[aWO]at e2 q2;by_cases hl:k<ρ.length
       . rw[if_pos rfl,if_pos hl]at e2;rw[if_pos rfl,if_pos (by rw[R.len];exact hl)]at q2
         cases e2;cases q2;exact old j d1 a hjk e1 q1 (fr rfl a rfl)
       . rw[if_pos rfl,if_neg hl]at e2;cases e2
     . rw[aTY (λz=>hj z.symm)]at e1 q1;rw[aTY (λz=>hk z.symm)]at e2 q2;exact R.apart j k d1 d2 a hjk e1 e2 q1 q2
def rC{E:eX}(q:tH (C.at X) (λρ=>dJ ρ i (g ρ)) E σ H):nL (tG (C.at X) g) (lC i) E σ H:=by
 obtain⟨ρ,F,R,w⟩:=q;dsimp only at w;refine j5 R w λm d v F' H' w' s R' rp fr=>?_;cases m with
 |bo=>exact(show False from w').elim
 |fz=>exact w' _ F' H' (aD.refl _) (R.set (m:=false) s rp (by nofun))
 |fr=>exact w' _ F' H' (aD.refl _) (R.set (m:=true) s rp λ_ a ea=>fr rfl a ea)
def aH0(hN:X.N.Nodup)(hi:X.N[i]? = some x)(hx:Loc X.env.scope x)(he:PV C X e g)(hs:swapsWith e (some (.Name x pos')) pos.line X.env=pure false:=by rfl)(hf:X.fn x=true\/X.env.scope.names.lookup x=some .local:=by first|exact .inl rfl|exact .inr rfl|assumption):PSv C X (.Assign [.Name x pos'] e pos) (λρ=>dJ ρ i (g ρ)):=PS.imp (vC hN hi hx he hs hf) λE σ H q=>rC q
end
def Its(x:Str):It:=⟨λi _=>i<x.cps.size,λi H v H'=>H'=H/\∃c,x.cps[i]? = some c/\v=.str ⟨#[c]⟩,λi _=>x.cps.size<=i⟩
def wQ(it:Addr)(x:Str)(t:Tok)(ty:String)(hty:["enumerate", "zip", "dict_itemiterator", "dict_reverseitemiterator", "odict_iterator", "itertools.zip_longest", "itertools.pairwise"].contains ty=false)(W:∀A':aZP,A'.handled=none->Walks P w A' it [it] [it] x.cps.size (SignAt x) (λi h=>h.IsStrIter it ty x t i))(Sf:∀(A:aZP) (i:Nat) (s:aZO) (Q:VSP) (E:VSP),s.heap.IsStrIter it ty x t i->Q (.ref it) s->wpAny (model P w) A (pyIter (.ref it)) Q E s):fN P w K tg (Its x) [it] it (λi h=>i<=x.cps.size/\h.IsStrIter it ty x t i) where
 mem:=by simp
 obj:=λi h st b hb=>by
  have e:b=it:=by simpa using hb
  subst e;obtain⟨_,o,e,c,d⟩:=st;exact⟨o,e,λv z=>by rw[d]at z;cases z⟩
 keep:=λi h h' st k=>⟨st.1,let⟨o,e,r⟩:=st.2;⟨o,k it (by simp) o e,r⟩⟩
 item:=by
  intro X hP hw hK hc i aA s σ H E I hf st hg;subst hP hw hK;obtain⟨f0,f1,f2,f3,f4,f5⟩:=hf it (by simp)
  refine(W X.A (I.ok.hd hc)).item i s _ _ hg st.2 λv h' tk hv st' kk=>?_;obtain⟨c,u,hc',rfl⟩:=hv;have I1:Inv X aA σ H {s with heap:=h',toks:=tk}:=I.turned (λb o hb e=>kk b o (by simpa using hb) e) f0 f1 f3 f4 f5
  obtain⟨o,e,oc,d⟩:=id st';exact⟨_,rfl,jY (s:={s with heap:=h',toks:=tk}) e oc d hty ⟨.str ⟨#[c]⟩,H,I1,⟨u,rfl⟩,⟨rfl,c,hc',rfl⟩,⟨hg,st'⟩,λb hb=>(hf b hb).1⟩⟩
 done:=by
  intro X hP hw hK hc i aA s σ H E I hf st hg;subst hP hw hK;obtain⟨f0,f1,f2,f3,f4,f5⟩:=hf it (by simp)
  have e:i=x.cps.size:=Nat.le_antisymm st.1 hg;subst e;exact(W X.A (I.ok.hd hc)).done s _ _ st.2 λh' tk kk=>⟨rfl,I.turned (λb o hb e=>kk b o (by simpa using hb) e) f0 f1 f3 f4 f5⟩
 self:=λA i s Q E st h=>Sf A i s Q E st.2 h
def iStr(te:TE):TI:=λσ H R=>te σ H λx H1=>∃z,x=.str z/\R (Its z) H1
def aH1{l:Expr}(hl:PE X l tl):PI X tg l (iStr tl):=by
 intro aA s σ H R I h;refine thn (hl aA s σ H _ I h) λv s1 ⟨x,H1,I1,r1,q1⟩=>?_;obtain⟨z,e,q⟩:=q1;subst e;obtain⟨t,rfl⟩:=r1;have fin:∀(ty:String) (o:Obj),o={cls:=.type ty,data:=.fields #[.str z t,.int ((0:Nat):Int) 0]} -> (∀b:Addr,b∈[s1.heap.objs.size]->cF X aA H1 b)/\Inv X aA σ H1 {s1 with heap:=s1.heap.push o}/\(s1.heap.push o).IsStrIter s1.heap.objs.size ty z t 0:=λty o eo=>by
  refine⟨λb hb=>?_,I1.kept (t':=s1.toks) λb o e=>hps e,⟨o,aTI _ (by rw[eo];rfl),by rw[eo],by rw[eo]⟩⟩
  have e:b=s1.heap.objs.size:=by simpa using hb
  subst e;exact I1.fpOk (aUA _) (I1.hok.fresh (aUA _))
 cases ha:z.cps.all (· < 128)
 . refine wpAny_pyIter_wide ha ?_;obtain⟨f1,f2,f3⟩:=fin "str_iterator" _ rfl;exact⟨s1.heap.objs.size,[s1.heap.objs.size],_,Its z,H1,rfl,f2,wQ _ z t "str_iterator" (by decide) (λA' hA=>Walks.strWide hA _ z t) (λA i s Q E st h=>wpAny_pyIter_striter_wide st h),⟨aUP _,f3⟩,f1,q⟩
 . refine wpAny_pyIter_ascii ha ?_;obtain⟨f1,f2,f3⟩:=fin "str_ascii_iterator" _ rfl;exact⟨s1.heap.objs.size,[s1.heap.objs.size],_,Its z,H1,rfl,f2,wQ _ z t "str_ascii_iterator" (by decide) (λA' hA=>Walks.strAscii hA _ z t) (λA i s Q E st h=>wpAny_pyIter_striter_ascii st h),⟨aUP _,f3⟩,f1,q⟩
def PI.imp{t t':TI}(h:PI X tg e t)(i:∀σ H R,t' σ H R->t σ H R):PI X tg e t':=λaA s σ H R I q=>h aA s σ H R I (i σ H R q)
def PI.or{t t':TI}(h:PI X tg e t)(h':PI X tg e t'):PI X tg e (λσ H R=>t σ H R\/t' σ H R):=λaA s σ H R I q=>by
 rcases q with q|q
 . exact h aA s σ H R I q
 . exact h' aA s σ H R I q
structure jC(K:Fg)(F:Hp)(J:It)(ds:List D):Prop where
 go:∀i H,aD F H->i<ds.length->J.go i H
 stop:∀i H,aD F H->ds.length<=i->J.stop i H
 yld:∀i Fc H x H',aD F Fc->aD Fc H->i<ds.length->J.yld i H x H'->∃F' d,ds[i]? = some d/\aE Fc H F' H'/\aB K F' d x
def WantI(C:Cw)(F H:Hp)(σ:L2.St)(r:Res)(R:It->Hp->Prop):Prop:=match r with
 |.ok _ (.lst ds)=>∀J F' H',aE F H F' H'->jC C.K F' J ds->R J H'
 |.exc c=>∀F' H',aE F H F' H'->C.EE c σ H'
 |_=>False
def tIv(C:Cw)(g:Rho->Res):TI:=λσ H R=>∃ρ F,aM C.K C.F0 C.H0 F H σ ρ/\WantI C F H σ (g ρ) R
def PIv(C:Cw)(X:Cx)(tg e:Expr)(g:Rho->Res):Prop:=PI X tg e (tIv (C.at X) g)
def dD(z:Str):List D:=z.cps.toList.map λc=>.str ⟨#[c]⟩
def eD(r:Res):Res:=r.thn λ_ d=>match d with
 |.lst ds=>.ok .fz (.lst ds)
 |.tup ds=>.ok .fz (.lst ds)
 |.str z=>.ok .fz (.lst (dD z))
 |_=>.stuck
def aH2{F:Hp}{a:Addr}{xs:List V}(hq:SqT K F a xs)(r:aC K F ds xs):jC K F (Itt K a) ds where
 go:=λi H s hi=>by
  have hl:i<xs.length:=by rw[r.length];exact hi
  exact⟨xs,xs[i],aD.seqT s hq,by simp[hl]⟩
 stop:=λi H s hi=>⟨xs,aD.seqT s hq,by rw[r.length];exact hi⟩
 yld:=λi Fc H x H' s1 s2 hi y=>by obtain⟨rfl,y⟩:=y;have hx:=y xs (aD.seqT s2 (aD.seqT s1 hq));obtain⟨d,e,rd⟩:=r.get hx;exact⟨Fc,d,e,.refl s2,rd.mono s1 _ _⟩
def aH3{F:Hp}(hk:PyData.strOk z=true):jC K F (Its z) (dD z) where
 go:=λi H s hi=>by simpa[dD,Its]using hi
 stop:=λi H s hi=>by simpa[dD,Its]using hi
 yld:=λi Fc H x H' s1 s2 hi y=>by
  obtain⟨rfl,c,hc,rfl⟩:=y;refine⟨Fc,.str ⟨#[c]⟩,by simp[dD,hc],.refl s2,?_⟩
  simp only[aB,true_and];refine⟨by show 1<=sizeLine;decide,?_⟩
  unfold PyData.strOk at hk ⊢;rw[aWC]at hk;simpa using hk c (aWG hc)
def aH4(h:PV C X e g):PIv C X tg e (λρ=>eD (aK (g ρ))):=by
 have h:=fP h;refine PI.imp (PI.or (aEC h) (PI.or (aED h) (aH1 h))) λσ H R q=>?_;obtain⟨ρ,F,RS,w⟩:=q;dsimp only at w;cases er:aK (g ρ)with
 |stuck=>rw[er]at w;exact w.elim
 |exc c=>refine .inl ?_;unfold qR;rw[aR];refine⟨ρ,F,RS,?_⟩;rw[er]at w ⊢;exact w
 |ok m d =>
  rw[er]at w;have hm:m=.fz:=by
   cases h:g ρ with
   |ok m' d'=>rw[h]at er;cases m' <;> cases er <;> rfl
   |exc c=>rw[h]at er;cases er
   |stuck=>rw[h]at er;cases er
  subst hm;cases d with
  |lst ds =>
   refine .inl ?_; unfold qR; rw [aR]; refine ⟨ρ, F, RS, ?_⟩; rw [er]; intro v F' H' st rp _; have rp : aB X.K F' (.lst ds) v := rp; simp only [aB] at rp; obtain ⟨a, xs, rfl, hq, r⟩ := rp; exact ⟨a, rfl, ⟨xs, st.sub.seq hq⟩, w _ F' H' st ⟨fun i H s hi => by
       have hl:i<xs.length:=by rw[r.length];exact hi
       exact⟨xs,xs[i],s.seq hq,by simp[hl]⟩,λi H s hi=>⟨xs,s.seq hq,by rw[r.length];exact hi⟩,λi Fc H x H' s1 s2 hi y=>by
       obtain⟨rfl,y⟩:=y;have hx:=y xs (s2.seq (s1.seq hq));obtain⟨d,e,rd⟩:=r.get hx;exact⟨Fc,d,e,.refl s2,rd.mono s1 _ _⟩⟩⟩
  |tup ds=>refine .inr (.inl ?_);unfold iTup;rw[aR];refine⟨ρ,F,RS,?_⟩;rw[er];intro v F' H' st rp _;have rp:aB X.K F' (.tup ds) v:=rp;simp only[aB]at rp;obtain⟨a,xs,rfl,hq,r⟩:=rp;exact⟨a,rfl,⟨xs,aD.seqT st.sub hq⟩,w _ F' H' st (aH2 hq r)⟩
  |str z=>refine .inr (.inr ?_);unfold iStr;rw[aR];refine⟨ρ,F,RS,?_⟩;rw[er];intro v F' H' st rp _;obtain⟨rfl,hz,hk⟩:=Rp.str rp;exact⟨z,rfl,w _ F' H' st (aH3 hk)⟩
  |_=>exact w.elim
def bJ(lo hi:Int):List D:=(List.range (hi-lo).toNat).map λi=>.int (lo+(i:Nat))
def e9(r:bE):Res:=r.thn λxs=>match xs with
 |[(_,.int n)]=>if(decide (-(2 ^ 62)<=n)&&decide (n<2 ^ 62))=true then .ok .fz (.lst (bJ 0 n))else .stuck
 |_=>.stuck
def aH5{F:Hp}{lo hi:Int}:jC K F (Itr lo (hi-lo).toNat) (bJ lo hi) where
 go:=λi H s h=>by simpa[bJ,Itr]using h
 stop:=λi H s h=>by simpa[bJ,Itr]using h
 yld:=λi Fc H x H' s1 s2 h y=>by
  obtain⟨rfl,rfl⟩:=y;have h':i<(hi-lo).toNat:=by simpa[bJ]using h
  refine⟨Fc,.int (lo+i),?_,.refl s2,by simp only[aB]⟩
  simp only[bJ,aU2,aWP h',aWQ]
def aH6{a:Expr}(hg:Gl X "range")(hm:X.mg "range" = none)(ha:PAv C X [a] gs)(hs:starEach [a] X.env=[(false,eval a X.env)]:=by rfl):PIv C X tg (.Call (.Name "range" p) [a] [] pos) (λρ=>e9 (gs ρ)):=by
 refine PI.imp (aEF hg hm ha hs) λσ H R q=>?_;obtain⟨ρ,F,RS,w⟩:=q;dsimp only at w;unfold vD;refine⟨ρ,F,RS,?_⟩;cases er:gs ρ with
 |stuck=>rw[er]at w;exact w
 |exc c=>rw[er]at w;exact w
 |ok xs =>
  rw[er]at w;intro vs F' H' st rp;unfold e9 at w;rw[bE.thn_ok]at w;split at w
  . rename_i m n;split at w
    . rename_i hc;rw[aVL,aV9,aV9]at hc;obtain⟨v,rfl,r⟩:=rp.one;cases r.int;have:=aH5 (K:=X.K) (F:=F') (lo:=0) (hi:=n);rw[Int.sub_zero]at this;exact⟨n,rfl,hc.1,hc.2,w _ F' H' st this⟩
    . exact w.elim
  . exact w.elim
def PGv(C:Cw)(X:Cx)(tg:Expr)(k:D->Rho->Option Rho):Prop:=∃t:TG,PG X tg t/\∀F H σ ρ ρ' d v Q,aM X.K C.F0 C.H0 F H σ ρ->aB X.K F d v->k d ρ=some ρ' ->
 (∀σ' F' H',aD F F'->aM X.K C.F0 C.H0 F' H' σ' ρ'->Q σ' H')->t v σ H Q
noncomputable def cI(k:D->Rho->Option Rho)(body:Rho->aF):List D->Rho->aF
 |[],ρ=>.nx ρ
 |d::ds,ρ=>match k d ρ with
  |none=>.stuck
  |some ρ1=>match body ρ1 with
   |.nx ρ2=>cI k body ds ρ2
   |.ct ρ2=>cI k body ds ρ2
   |.bk ρ2=>.nx ρ2
   |r=>r
def eO(r:Res)(ρ:Rho)(k:D->Rho->Option Rho)(body:Rho->aF):aF:=r.thS ρ λ_ d=>match d with|.lst ds=>cI k body ds ρ|_=>.stuck
def aH7{k:D->Rho->Option Rho}{h1:Rho->aF}(hp:PassesOwn (model X.prog X.w) X.A X.env X.xe)(hc:X.calm=true)(hi:PIv C X tg e g)(hg:PGv C X tg k)(hb:PBv C X body h1)(hs:∀x,foldedSetIterable e X.env x=pure x:=by intro _;rfl):PSv C X (.For tg e body [] pos) (λρ=>eO (g ρ) ρ k h1):=by
 obtain⟨t,ht,hk⟩:=hg;refine PS.imp (vE hp hc hi ht hb hs) λE σ H q=>?_;obtain⟨ρ,F,RS,w⟩:=q;dsimp only at w;unfold qS;refine⟨ρ,F,RS,?_⟩;cases er:g ρ with
 |stuck=>rw[er]at w;exact w
 |exc c=>rw[er]at w;exact λF' H' s=>w σ F' H' s.fsame (RS.step s)
 |ok m d =>
  rw[er]at w;cases d with
  |lst ds =>
   intro J F1 H1 s1 hJ;have w:bT (C.at X) F1 (cI k h1 ds ρ) E:=bT.mono s1.fsame w;refine⟨λi m σ' H'=>m=ds.length-i/\i<=ds.length/\∃ρ' F',aD F1 F'/\aM X.K C.F0 C.H0 F' H' σ' ρ'/\bT (C.at X) F' (cI k h1 (ds.drop i) ρ') E,⟨ds.length,by simp,aUP _,ρ,F1,aD.refl _,RS.step s1,by simpa using w⟩,?_⟩
   rintro i m σ' H' ⟨rfl,hi,ρ',F',sF,R',w'⟩;by_cases hlt:i<ds.length
   . refine .inr ⟨hJ.go i H' (sF.trans R'.sub) hlt,λσ2 H2=>∃ρ2 F2,aD F1 F2/\aM X.K C.F0 C.H0 F2 H2 σ2 ρ2/\bT (C.at X) F2 (cI k h1 (ds.drop (i+1)) ρ2) E,λσ2 H2 ⟨ρ2,F2,a,b,c⟩=>⟨ds.length-(i+1),by omega,rfl,hlt,ρ2,F2,a,b,c⟩,λx H2 y=>?_⟩
     obtain⟨F2,d,ed,s2,rd⟩:=hJ.yld i F' H' x H2 sF R'.sub hlt y;have hd:ds.drop i=d::ds.drop (i+1):=by rw[aWR hlt];rw[aWL hlt]at ed;cases ed;rfl
     rw[hd]at w';unfold cI at w';cases ek:k d ρ' with
     |none=>rw[ek]at w';exact w'.elim
     |some ρ1 =>
      rw[ek]at w';dsimp only at w';refine hk F2 H2 σ' ρ' ρ1 d x _ (R'.step s2) rd ek λσ3 F3 H3 z3 R3=>?_;have z13:aD F1 F3:=(sF.trans s2.fsame).trans z3;have w3:=bT.mono (s2.fsame.trans z3) w';refine⟨ρ1,F3,R3,?_⟩;cases eb:h1 ρ1 with
      |nx ρ2=>rw[eb]at w3;exact λσ4 F4 H4 z4 R4=>⟨ρ2,F4,z13.trans z4,R4,bT.mono z4 w3⟩
      |ct ρ2=>rw[eb]at w3;exact λσ4 F4 H4 z4 R4=>⟨ρ2,F4,z13.trans z4,R4,bT.mono z4 w3⟩
      |bk ρ2=>rw[eb]at w3;exact λσ4 F4 H4 z4 R4=>w3 σ4 F4 H4 z4 R4
      |rt m d=>rw[eb]at w3;exact w3
      |exc c ρ2=>rw[eb]at w3;exact w3
      |stuck=>rw[eb]at w3;exact w3
   . have ei:i=ds.length:=by omega
     subst ei;refine .inl ⟨hJ.stop _ H' (sF.trans R'.sub) (aUA _),?_⟩;rw[aWS]at w';exact w' σ' F' H' (aD.refl _) R'
  |_=>exact w.elim
end D3
namespace L2
theorem rD {env : Env} : ∀ (names : List (Str × NameKind)) (acc : List (Str × Addr)), (∀ y ∈ names, y.2 = .free → ∃ c, env.cells.lookup y.1 = some c) → (∀ y c, acc.lookup y = some c → env.cells.lookup y = some c) →
    ∃cl,(forIn names acc λ(x:Str×NameKind) (cs:List (Str×Addr))=>(if x.2 == .free then(do let c <- cellOf env x.1;pure (ForInStep.yield ((x.1,c)::cs)))else pure (ForInStep.yield cs):Sem (ForInStep (List (Str×Addr)))))=pure cl /\
     (∀y c,cl.lookup y=some c->env.cells.lookup y=some c)/\(∀y c,acc.lookup y=some c->cl.lookup y=some c)/\∀y,(y,NameKind.free)∈names->∃c,cl.lookup y=some c
 |[],acc,_,ha=>⟨acc,by rw[aWT],ha,λ_ _ h=>h,λ_ h=>by cases h⟩
 |(n,k)::r,acc,h,ha=>by
  rw[aWU];by_cases hk:k=.free
  . subst hk;obtain⟨c,ec⟩:=h (n,.free) mcs rfl;have hc:cellOf env n=pure c:=by unfold cellOf;rw[ec]
    have e:((if(NameKind.free==NameKind.free)=true then(do let c <- cellOf env n;pure (ForInStep.yield ((n,c)::acc)))else pure (ForInStep.yield acc)):Sem (ForInStep (List (Str×Addr))))=pure (ForInStep.yield ((n,c)::acc)):=by rw[if_pos (by decide),hc,aWV]
    obtain⟨cl,e1,e2,e3,e4⟩:=rD (env:=env) r ((n,c)::acc) (λy hy=>h y (mcm hy)) (λy c' q=>by
     rw[aV8]at q;cases hyn:y==n with
     |true=>rw[hyn]at q;cases q;rw[aUI.mp hyn];exact ec
     |false=>rw[hyn]at q;exact ha y c' q)
    refine⟨cl,?_,e2,λy c' q=>?_,λy hy=>?_⟩
    . dsimp only;rw[e,aWV];exact e1
    . cases hyn:y==n with
      |true=>have:=aUI.mp hyn;subst this;have q':=ha y c' q;rw[ec]at q';cases q';exact e3 y c (by rw[aV8,hyn])
      |false=>exact e3 y c' (by rw[aV8,hyn];exact q)
    . rcases aTT.mp hy with z|z
      . cases z;exact⟨c,e3 n c (by rw[aV8,aWW])⟩
      . exact e4 y z
  . have e:((if(k==NameKind.free)=true then(do let c <- cellOf env n;pure (ForInStep.yield ((n,c)::acc)))else pure (ForInStep.yield acc)):Sem (ForInStep (List (Str×Addr))))=pure (ForInStep.yield acc):=by rw[if_neg (by simpa using hk)]
    obtain⟨cl,e1,e2,e3,e4⟩:=rD (env:=env) r acc (λy hy=>h y (mcm hy)) ha;refine⟨cl,?_,e2,e3,λy hy=>?_⟩
    . dsimp only;rw[e,aWV];exact e1
    . rcases aTT.mp hy with z|z
      . cases z;exact absurd rfl hk
      . exact e4 y z
def aH8(h:∀y∈scope.names,y.2=.free->∃c,env.cells.lookup y.1=some c):∃cl,closureFor scope env=pure cl/\(∀y c,cl.lookup y=some c->env.cells.lookup y=some c)/\∀y,(y,NameKind.free)∈scope.names->∃c,cl.lookup y=some c:=by
 obtain⟨cl,e1,e2,_,e4⟩:=rD (env:=env) scope.names [] h (λy c q=>by simp at q)
 refine⟨cl,?_,e2,e4⟩;unfold closureFor;rw[bind_pure];exact e1
def aH9(c7:∀y∈scope.names,y.2 ≠ .cell){x:Str}(h:(relabel scope env).names.lookup x=some .cell\/(relabel scope env).names.lookup x=some .free):(x,NameKind.free)∈scope.names:=by
 unfold relabel at h;dsimp only at h;have go:∀(l:List (Str×NameKind)),(∀y∈l,y.2 ≠ .cell)->((l.map λ(n,k)=>if(k==NameKind.free&&env.scope.kind == .function&&env.kindOf n==some .cell)then(n,NameKind.cell)else(n,k)).lookup x=some .cell\/(l.map λ(n,k)=>if(k==NameKind.free&&env.scope.kind == .function&&env.kindOf n==some .cell)then(n,NameKind.cell)else(n,k)).lookup x=some .free)->(x,NameKind.free)∈l:=by
  intro l
  induction l with
  |nil=>intro _ h;simp at h
  |cons y l ih =>
   intro hc h;obtain⟨n,k⟩:=y;rw[aUK]at h;by_cases hx:x=n
   . subst hx;have hk:k=.free:=by
       by_cases hk:k=.free
       . exact hk
       . have e:(k==NameKind.free&&env.scope.kind == .function&&env.kindOf x==some .cell)=false:=by
           have:(k==NameKind.free)=false:=by simpa using hk
           rw[this];rfl
         simp only[e,aV6,aVC,aV8,aWW]at h;rcases h with h|h
         . cases h;exact absurd rfl (hc _ mcs)
         . cases h;exact absurd rfl hk
     subst hk;exact mcs
   . have hb:(x==n)=false:=by simpa using hx
     have hh:∀(kk:NameKind) (l':List (Str×NameKind)),((n,kk)::l').lookup x=l'.lookup x:=λkk l'=>by rw[aV8,hb]
     by_cases hcond:(k==NameKind.free&&env.scope.kind == .function&&env.kindOf n==some .cell)=true
     . dsimp only at h;rw[if_pos hcond,hh]at h;exact mcm (ih (λy hy=>hc y (mcm hy)) h)
     dsimp only at h;rw[if_neg hcond,hh]at h;exact mcm (ih (λy hy=>hc y (mcm hy)) h)
 exact go scope.names c7 h
noncomputable def bH(X:Cx)(scope:Scope)(N:List Str)(cl:List (Str×Addr))(C:Addr)(fp:List Addr)(s3:aZO)(H3:Hp):Cx where
 prog:=X.prog
 w:=X.w
 K:=X.K
 mg:=X.mg
 base:=X.base
 A:=X.A
 N:=N
 s₀:=s3
 H₀:=H3
 env:=compEnvC scope cl C X.env
 outer:=X.stack
 stack:=X.stack
 ex:=fp
 fn:=λ_=>false
 calm:=X.calm
 pn:=[]
 xe:=λ_ _=>False
def dL(X:Cx)(cs:List Expr)(t:TT):Prop :=
 ∀(aA:LAO) (s:aZO) (σ:St) (H:Hp) (Q:Bool->Hp->Prop),Inv X aA σ H s->t σ H Q ->
  wpAny (model X.prog X.w) X.A (forIn cs true λc r=>if r=true then do let ok <- isTrue c X.env (eval c X.env);pure (ForInStep.yield ok)else pure (ForInStep.yield r)) (TP X aA σ Q) X.xe s
def aIA:dL X [] (λ_ H Q=>Q true H):=λaA s σ H Q I h=>by rw[aWT];exact aT7 ⟨H,I,h⟩
theorem wR{X:Cx}:∀cs:List Expr,(forIn cs false λc r=>if r=true then do let ok <- isTrue c X.env (eval c X.env);pure (ForInStep.yield ok)else pure (ForInStep.yield r):Sem Bool)=pure false
 |[]=>by rw[aWT]
 |c::cs=>by rw[aWU,if_neg aT5,aWV];exact wR cs
def aIB{c:Expr}{cs:List Expr}{t u:TT}(hc:PT X c t)(hr:dL X cs u):dL X (c::cs) (qN t u):=λaA s σ H Q I h=>by
 rw[aWU,if_pos rfl];refine aT8 (aT8 (thn (hc aA s σ H _ I h) λb s1 ⟨H1,I1,q1⟩=>aT7 ?_));cases b with
 |true=>rw[if_pos rfl]at q1;exact hr aA s1 σ H1 Q I1 q1
 |false=>rw[if_neg aT5]at q1;dsimp only;rw[wR];exact aT7 ⟨H1,I1,q1⟩
section
variable {A:aZP}{R:Result->aZO->Prop}
def aIC {elt target aV : Expr} {ifs : List Expr} {scope : Scope} {pos : Pos} {it acc : aZN} {env : Env} (I : Nat → aZO → Prop) (turn : ∀ n s, I n s → wpAny (model prog w) A (pyNext it) (fun r s1 => match r with
      |none=>R (.ok .next) s1
      | some v => wpAny (model prog w) A (letOwnedTupleGo target it v) (fun _ s1' => wpAny (model prog w) A (assign target env v) (fun _ s2 =>
          wpAny (model prog w) A (forIn ifs true λc r=>if r=true then do let ok <- isTrue c env (eval c env);pure (ForInStep.yield ok)else pure (ForInStep.yield r)) (λok s3 =>
           if ok=true then wpAny (model prog w) A (eval elt env) (λx s4 =>
            wpAny (model prog w) A (call (.builtin "list.append") [acc,x]) (λ_ s5=>∃m,m<n/\I m s5) (λ_ _=>False) s4) (λ_ _=>False) s3
           else ∃ m, m < n ∧ I m s3) (fun _ _ => False) s2) (fun _ _ => False) s1') (fun _ _ => False) s1) (fun _ _ => False) s)
    (n:Nat) (h:I n s) :
    codeAny (model prog w) A (.compLoop (.ListComp elt [⟨target,aV,ifs,0⟩] scope pos) 0 it acc env) R s:=by
 refine codeAny_loop rfl I (λn s hI=>?_) n h;show wpAny _ A ((compTurn (.ListComp elt [⟨target,aV,ifs,0⟩] scope pos) 0 it acc env).onRaise (λx=>do noteFrame x env;theTreesLotGoes x)) _ _ s
 refine wpAny_noted ?_;rw[compTurn_list];refine aT8 (aUT (aT8 (aT0 (turn n s hI) (λr s1 h1=>?_) λ_ _ h'=>h'.elim)));cases r with
 |none=>exact aT7 h1
 |some v =>
  refine aT8 (aT0 h1 (λ_ s1' h1'=>?_) λ_ _ h'=>h'.elim);refine aT8 (aT0 h1' (λ_ s2 h2=>aT8 (aT0 h2 (λok s3 h3=>?_) λ_ _ h'=>h'.elim)) λ_ _ h'=>h'.elim);cases ok with
  |false=>exact aT7 ⟨rfl,h3⟩
  |true=>exact aT8 (aT8 (aT0 h3 (λx s4 h4=>aT8 (aT0 h4 (λ_ s5 h5=>aT7 (aT7 ⟨rfl,h5⟩)) λ_ _ h'=>h'.elim)) λ_ _ h'=>h'.elim))
end
def d5(aG:List Nat)(σ:St):St:=aG.map λi=>(σ[i]?).getD none
def Weak(σ σ':St):Prop:=σ.length=σ'.length/\∀(j:Nat) v,σ[j]? = some (some v)->σ'[j]? = some (some v)
def lT(aG:List Nat)(k:Nat)(wi:TI)(gt:TG)(tt:TT)(te:TE):TE:=λσ H Q=>wi σ H λJ H1=>∀D,H1 D=none ->
 ∃W:Nat->Nat->List V->Hp->Prop,(∃m,W 0 m [] (upd H1 D (.lst [])))/\∀i m ys H,W i m ys H->H D=some (.lst ys) /\
  ((J.stop i H/\Q (.ref D) H)\/(J.go i H/\ys.length<sizeLine/\∀x H',J.yld i H x H'->gt x (d5 aG σ++List.replicate k none) H' λσ2 H2=>Weak (d5 aG σ++List.replicate k none) σ2/\tt σ2 H2 λb H3 =>
   if b=true then te σ2 H3 λy H4=>H4 D=some (.lst ys)/\∃m',m'<m/\W (i+1) m' (ys++[y]) (upd H4 D (.lst (ys++[y])))else ∃m',m'<m/\W (i+1) m' ys H3))
def wS{gt:TG}{use:Option (aZN->Sem Unit)}{QQ:VSP}{σ:St}{Q:VK}(hc:X.calm=true)(hi:PI X tg aV wi)(c7:∀y∈scope.names,y.2 ≠ .cell)(c8:scope.kind=.function)(fJ:∀y∈scope.names,y.2=.local->scope.names.lookup y.1=some .local)(dU:∀y∈scope.names,y.2=.free->X.env.kindOf y.1=some .cell\/X.env.kindOf y.1=some .free)(eJ:aL.map some=aG.map λi=>X.N[i]?)(fL:∀y∈aL,(y,NameKind.free)∈scope.names)(fK:∀y∈aL,(relabel scope X.env).names.lookup y=some .cell\/(relabel scope X.env).names.lookup y=some .free)(hg:∀cl C fp s3 H3,PG (bH X scope (aL++tgN) cl C fp s3 H3) tg gt)(hf:∀cl C fp s3 H3,dL (bH X scope (aL++tgN) cl C fp s3 H3) ifs tt)(he:∀cl C fp s3 H3,PE (bH X scope (aL++tgN) cl C fp s3 H3) elt te)(hs:∀x,foldedSetIterable aV X.env x=pure x)(I:Inv X aA σ H s)(h:lT aG tgN.length wi gt tt te σ H Q)(hend:∀(D Z:Addr) (s6:aZO) (H5:Hp),(∃m,s6.heap.Ns Z m)->(∀h'',Heap.SameBut Z s6.heap h''->Inv X aA σ H5 {s6 with heap:=h''})->H5 Z=none->X.s₀.heap.objs.size<=Z->Z≠X.env.locals->(∀x c,X.env.cells.lookup x=some c->c≠Z)->(∀p∈X.pn++aA,p.1≠Z)->Q (.ref D) H5->compPost (model X.prog X.w) X.A X.xe use QQ (.ref D) Z (.ok .next) s6):wpAny (model X.prog X.w) X.A (comprehension (.ListComp elt [⟨tg,aV,ifs,0⟩] scope pos) scope X.env (firstIterPos [⟨tg,aV,ifs,0⟩] pos) (newList []) (firstAsync [⟨tg,aV,ifs,0⟩]) (firstIter [⟨tg,aV,ifs,0⟩] X.env) use) QQ X.xe s:=by
 obtain⟨cl,hclos,clsub,clhas⟩:=aH8 (scope:=scope) (env:=X.env) λy hy hk=>I.ok.has y.1 (dU y hy hk);refine wpAny_comprehension_free (use:=use) rfl hs hclos c8 fJ (thn (hi aA s σ H _ I h) λv s1 h1=>thn h1 λitv s2 h2=>?_);obtain⟨it,fp,tn,J,H2,e,I2,T,st2,f2,q⟩:=h2;subst e;refine aVM ?_;have hn:H2 s2.heap.objs.size=none:=I2.hok.fresh (aUA _);obtain⟨W,⟨m0,w0⟩,turn⟩:=q s2.heap.objs.size hn;have I3:Inv X aA σ (upd H2 s2.heap.objs.size (.lst [])) { s2 with heap:=s2.heap.push { cls:=.type "list", dict:=none,data:=.seq ([]:List aZN).toArray } } :=
  I2.laid (t':=s2.toks) (λb u e=>hps e) (aUA _) ⟨aUP _,[],0,.nil,aTI _ rfl⟩
 generalize hs3:({ s2 with heap:=s2.heap.push { cls:=.type "list", dict:=none,data:=.seq ([]:List aZN).toArray } }:aZO)=s3 at I3 ⊢
 generalize hH3:upd H2 s2.heap.objs.size (.lst [])=H3 at I3 w0;have fpl:∀b∈fp,b<s2.heap.objs.size:=λb hb=>by obtain⟨o,eo,_⟩:=T.obj 0 _ st2 b hb;exact aTJ eo
 have sz3:s3.heap.objs.size=s2.heap.objs.size+1:=by rw[<- hs3];exact aUM _ _
 have keep23:∀b o,s2.heap.get? b=some o->s3.heap.get? b=some o:=λb o e=>by rw[<- hs3];exact hps e
 have hDf:s2.heap.objs.size∉fp:=λhb=>aTL _ (fpl _ hb);refine wpAny_newFunctionEnv c7 (by intro y hy;simp at hy) (λh4 hns hsb=>?_) c8
 try dsimp only at hns hsb ⊢
 have keep34:∀b o,s3.heap.get? b=some o->h4.get? b=some o:=λb o e=>hsb.extBut b o (aTM (aTJ e)) (hps e);have nostk:∀b∈fp,b∉frs X.stack:=λb hb z=>by
  obtain⟨_,f1,f2',_⟩:=f2 b hb;rcases aTT.mp (I2.stkSub b z)with q|q
  . exact f1 q
  . exact f2' q
 have okc:(bH X scope (aL++tgN) cl s3.heap.objs.size fp s3 H3).Ok :=
  { mod:=I3.ok.mod
    kind:=c8
    glob:=I3.ok.glob
    blt:=I3.ok.blt
    above:=aUA _
    inj:=λx y c h1 h2=>I3.ok.inj x y c (clsub x c h1) (clsub y c h2)
    has:=λx hx=>clhas x (aH9 c7 hx)
    cab:=λx c z=>by cases z
    hd:=I3.ok.hd
    frames:=I3.ok.frames
    stk:=.inl rfl
    exf:=λb hb=>⟨aTM (by show b<s3.heap.objs.size;rw[sz3];exact aWX (fpl b hb)),λx c e=>(f2 b hb).2.2.2.2.1 x c (clsub x c e)⟩
    bs:=I3.bs
    bsz:=aTQ I3.ok.bsz I3.sz
    noex:=λb o e hb=>by
     obtain⟨_,_,_,f3,_⟩:=f2 b hb;rcases f3 with z|z
     . exact I2.ok.noex b o e z
     . exact absurd (aTJ (I2.ok.bs b o e).1) (aWY.mpr z)
    exfs:=nostk
    funs:=I3.stack
    frf:=I3.stkFree
    tabs:=I3.ok.tabs.mono I3.base.tbls }
 have capLen:aL.length=aG.length:=by have:=congrArg List.length eJ;simpa using this
 generalize hσ0:d5 aG σ++List.replicate tgN.length none=σ0 at turn;have Ic:Inv (bH X scope (aL++tgN) cl s3.heap.objs.size fp s3 H3) [] σ0 H3 {s3 with heap:=h4,toks:=s3.toks+([]:List (Str×aZN)).length}:=by
  refine⟨okc,rfl,I3.bare,Un.kept keep34,⟨_,hns,λi y v h1 h2 h3=>?_⟩,λx c e=>?_,I3.hok.fresh (aUA _),λx c e=>I3.freeC x c (clsub x c e),λp hp=>absurd (show p∈([]:LAO)from hp) (by simp),I3.hok.kept keep34,?_⟩
  . by_cases hi:i<aG.length
    . have ey:aL[i]? = some y:=by have h1:(aL++tgN)[i]? = some y:=h1;rw[aU1 (by rw[capLen];exact hi)]at h1;exact h1
      have hj:X.N[aG[i]]? = some y:=by
       have e1:(aL.map some)[i]? = (aG.map λi=>X.N[i]?)[i]?:=by rw[eJ]
       rw[aU2,aU2,ey,aWL hi]at e1;simpa using e1.symm
      have ev:σ[aG[i]]? = some (some v):=by
       rw[<- hσ0,aU1 (by simpa[d5]using hi)]at h2
       unfold d5 at h2;rw[aU2,aWL hi]at h2;simp only[aWQ,Option.some.injEq]at h2;cases z:σ[aG[i]]? with
       |none=>rw[z]at h2;cases h2
       |some o=>rw[z]at h2;exact congrArg some h2
      have hyf:=fL y (aU3 ey);have hkX:=dU _ hyf rfl;obtain⟨m,_,hl⟩:=I3.loc;obtain⟨u,ru,lk⟩:=hl aG[i] y v hj ev (by rcases hkX with z|z;exact .inr (.inl z);exact .inr (.inr z))
      refine⟨u,ru,.inr ⟨fK y (aU3 ey),?_⟩⟩;rcases lk with⟨hk,_⟩|⟨_,c,ec,ic⟩
      . rcases hkX with z|z
        . rw[show X.env.kindOf y=some .cell from z]at hk;cases hk
        . rw[show X.env.kindOf y=some .free from z]at hk;cases hk
      . obtain⟨c',ec'⟩:=clhas y hyf;have:=clsub y c' ec';rw[ec]at this;cases this;exact⟨c,ec',ic.keeps keep34⟩
    . rw[<- hσ0,aUZ (by simpa[d5]using hi),aU0]at h2
      split at h2 <;> cases h2
  . obtain⟨v,q⟩:=I3.cell x c (clsub x c e);exact⟨v,q.keeps keep34⟩
  . rw[<- hσ0];show(d5 aG σ++List.replicate tgN.length none).length=(aL++tgN).length;simp[d5,capLen]
 have fpc:∀{H':Hp},(∀b∈fp,H' b=none)->∀b∈fp,cF (bH X scope (aL++tgN) cl s3.heap.objs.size fp s3 H3) [] H' b:=λhn b hb =>
  ⟨hn b hb,(okc.exf b hb).1,nostk b hb,.inl hb,(okc.exf b hb).2,λp hp=>absurd (show p∈([]:LAO)from hp) (by simp)⟩
 have loop:codeAny (model X.prog X.w) X.A (.compLoop (.ListComp elt [⟨tg,aV,ifs,0⟩] scope pos) 0 (.ref it) (.ref s2.heap.objs.size) (compEnvC scope cl s3.heap.objs.size X.env)) (compPost (model X.prog X.w) X.A X.xe use QQ (.ref s2.heap.objs.size) s3.heap.objs.size) {s3 with heap:=h4,toks:=s3.toks+([]:List (Str×aZN)).length}:=by
  refine aIC (λn s'=>∃i ys H',Inv (bH X scope (aL++tgN) cl s3.heap.objs.size fp s3 H3) [] σ0 H' s'/\tn i s'.heap/\(∀b∈fp,H' b=none)/\W i n ys H') ?_ m0
   ⟨0,[],H3,Ic,T.keep _ _ _ st2 (λb hb o e=>keep34 b o (keep23 b o e)),λb hb=>by rw[<- hH3,aH (by intro z;rw[z]at hb;exact hDf hb)];exact(f2 b hb).1,w0⟩
  rintro n s5 ⟨i,ys,H5,I5,st5,fr5,w5⟩;obtain⟨hD,hw⟩:=turn i n ys H5 w5;rcases hw with⟨stop,qq⟩|⟨go,hlen,step⟩
  . refine thn (T.done (bH X scope (aL++tgN) cl s3.heap.objs.size fp s3 H3) rfl rfl rfl hc i [] s5 σ0 H5 _ I5 (fpc fr5) st5 stop) λr s6 ⟨hr,I6⟩=>?_;subst hr;obtain⟨m,hm,_⟩:=id I6.loc;refine hend s2.heap.objs.size s3.heap.objs.size s6 H5 ⟨m,hm⟩ (λh'' hsb2=>?_) I6.free I3.sz (λz=>?_) (λx c ec z=>?_) (λp hp z=>?_) qq;rotate_left
    . obtain⟨m,⟨o,es,ep,ho,_⟩,_⟩:=id I3.loc;rw[<- z]at ho;exact aTL _ (aTJ ho)
    . obtain⟨v,o,ho,_⟩:=I3.cell x c ec;rw[z]at ho;exact aTL _ (aTJ ho)
    . have:=(I3.pin p hp).1;rw[z]at this;exact aTL _ (aTJ this)
    have u:=I6.base;have neC:∀b o,s3.heap.get? b=some o->b≠s3.heap.objs.size:=λb o e=>aTM (aTJ e);have un:Un (frs X.stack) fp H3 H5 s3.heap h'':=by
     refine⟨λb o e n hb hx=>hsb2.extBut b o (neC b o e) (u.keep b o e n hb hx),λb o e n hb hx=>?_,u.free,λb o e hx=>?_,u.tups,u.frzs,u.tbls⟩
     . obtain⟨sl,q⟩:=u.slot b o e n hb hx;exact⟨sl,hsb2.extBut b _ (neC b o e) q⟩
     . obtain⟨o',q⟩:=u.there b o e hx;exact⟨o',hsb2.extBut b _ (neC b o e) q⟩
    have hok : HOk X.prog X.w H5 h'' := fun a o e => (I6.hok a o e).stay (fun b v hb q => hsb2.extBut b v (by
        intro z;have fr:=I6.free;rcases hb with hb|hb
        . rw[hb]at z;rw[z]at e;rw[show H5 s3.heap.objs.size=none from fr]at e;cases e
        . rw[z,show H5 s3.heap.objs.size=none from fr]at hb;cases hb) q) (λ_ q=>q) λ_ _ q=>q
    have os6:=I6.os;obtain⟨hh,g6,d6,t6,o6⟩:=s6;obtain rfl:o6=s3.os:=os6;have I8:=I3.call (h':=h'') (g':=g6) (d':=d6) (t':=t6) (ch:=fp) un hok I6.bare λb hb=>by obtain⟨_,f1,_,f3,f4,f5⟩:=f2 b hb;exact⟨f3,f1,f4,f5⟩
    exact I8
  . refine thn (T.item (bH X scope (aL++tgN) cl s3.heap.objs.size fp s3 H3) rfl rfl rfl hc i [] s5 σ0 H5 _ I5 (fpc fr5) st5 go) λr s6 ⟨u,hr,h6⟩=>?_;subst hr;refine thn h6 λ_ s7 ⟨x,H7,I7,r7,y7,st7,fr7⟩=>?_;have I7':=I7.pinned (fpc fr7) (T.obj _ _ st7);refine thn (hg cl s3.heap.objs.size fp s3 H3 _ s7 σ0 H7 x u _ I7' r7 (step x H7 y7)) λ_ s8 ⟨σ8,H8,I8,wk,q8⟩=>?_;have back:∀{H':Hp}{s':aZO}{m':Nat}{ys':List V},Inv (bH X scope (aL++tgN) cl s3.heap.objs.size fp s3 H3) ([]++lD fp s7.heap) σ8 H' s'->m'<n->W (i+1) m' ys' H' ->
        ∃m,m<n/\∃i ys H',Inv (bH X scope (aL++tgN) cl s3.heap.objs.size fp s3 H3) [] σ0 H' s'/\tn i s'.heap/\(∀b∈fp,H' b=none)/\W i m ys H':=λ{H' s' m' ys'} I' hm w'=>by
      have pinned:∀b∈fp,∀o,s7.heap.get? b=some o->s'.heap.get? b=some o/\H' b=none:=λb hb o e=>by have:=I'.pin (b,o) (aUE _ (aUE _ (qT hb e)));exact⟨this.1,this.2.1⟩
      refine⟨m',hm,i+1,ys',H',I'.unpinned.weak wk.1 wk.2,T.keep _ _ _ st7 λb hb o e=>(pinned b hb o e).1,λb hb=>?_,w'⟩;obtain⟨o,e,_⟩:=T.obj _ _ st7 b hb;exact(pinned b hb o e).2
    refine thn (hf cl s3.heap.objs.size fp s3 H3 _ s8 σ8 H8 _ I8 q8) λb s9 ⟨H9,I9,q9⟩=>?_;cases b with
    |false=>rw[if_neg aT5]at q9 ⊢;obtain⟨m',hm,w9⟩:=q9;exact back I9 hm w9
    |true =>
     rw[if_pos rfl]at q9 ⊢;refine thn (he cl s3.heap.objs.size fp s3 H3 _ s9 σ8 H9 _ I9 q9) λy s10 ⟨yv,H10,I10,r10,hD10,m',hm,w10⟩=>?_;refine thn (rA (X:=bH X scope (aL++tgN) cl s3.heap.objs.size fp s3 H3) _ s10 σ8 H10 (.ref s2.heap.objs.size) [yv] (.ref s2.heap.objs.size) [y] (λv H'=>v=.non/\H'=upd H10 s2.heap.objs.size (.lst (ys++[yv]))) I10 rfl (.cons r10 .nil)
      ⟨s2.heap.objs.size,ys,yv,rfl,rfl,hD10,hlen,rfl,rfl⟩) λ_ s11 ⟨v,H11,I11,_,_,e11⟩=>?_
     subst e11;exact back I11 hm w10
 exact codeAny_compStart_list loop (T.self _ 0 _ _ _ (T.keep _ _ _ st2 (λb hb o e=>keep34 b o (keep23 b o e))) loop)
def aID{gt:TG}(hc:X.calm=true)(hi:PI X tg aV wi)(c7:∀y∈scope.names,y.2 ≠ .cell)(c8:scope.kind=.function)(fJ:∀y∈scope.names,y.2=.local->scope.names.lookup y.1=some .local)(dU:∀y∈scope.names,y.2=.free->X.env.kindOf y.1=some .cell\/X.env.kindOf y.1=some .free)(eJ:aL.map some=aG.map λi=>X.N[i]?)(fL:∀y∈aL,(y,NameKind.free)∈scope.names)(fK:∀y∈aL,(relabel scope X.env).names.lookup y=some .cell\/(relabel scope X.env).names.lookup y=some .free)(hg:∀cl C fp s3 H3,PG (bH X scope (aL++tgN) cl C fp s3 H3) tg gt)(hf:∀cl C fp s3 H3,dL (bH X scope (aL++tgN) cl C fp s3 H3) ifs tt)(he:∀cl C fp s3 H3,PE (bH X scope (aL++tgN) cl C fp s3 H3) elt te)(hs:∀x,foldedSetIterable aV X.env x=pure x:=by intro _;rfl):PE X (.ListComp elt [⟨tg,aV,ifs,0⟩] scope pos) (lT aG tgN.length wi gt tt te):=by intro aA s σ H Q I h;rw[eval_ListComp];exact wS (use:=none) hc hi c7 c8 fJ dU eJ fL fK hg hf he hs I h λD Z s6 H5 hm hI _ _ _ _ _ q=>by obtain⟨m,hm⟩:=hm;exact⟨m,hm,λh'' hs=>⟨.ref D,H5,hI h'' hs,rfl,q⟩⟩
def Inv.dropped{σ:St}{h'':Heap}{Z:Addr}(I:Inv X aA σ H s)(hs:Heap.SameBut Z s.heap h'')(hz:H Z=none)(h0:X.s₀.heap.objs.size<=Z)(h1:Z≠X.env.locals)(h2:∀x c,X.env.cells.lookup x=some c->c≠Z)(h3:∀p∈X.pn++aA,p.1≠Z):Inv X aA σ H {s with heap:=h''}:=by
 have un:Un (frs X.stack) [Z] H H s.heap h'':=by
  have k:∀b o,s.heap.get? b=some o->b∉[Z]->h''.get? b=some o:=λb o e hb=>hs.extBut b o (λz=>hb (by rw[z];exact mcs)) e
  exact⟨λb o e _ _ hx=>k b o e hx,λb o e _ _ hx=>⟨o.slots,k b o e hx⟩,λ_ _ _ n _=>n,λb o e hx=>⟨o,k b o e hx⟩,λ_ _ q=>q,λ_ _ _ q=>q,λ_ ps q=>⟨#[],by simpa using q⟩⟩
 have hok:HOk X.prog X.w H h'':=λa o e=>(I.hok a o e).stay (λb v hb q=>hs.extBut b v (by
  rintro rfl;rcases hb with hb|hb
  . rw[hb,e]at hz;cases hz
  . rw[hz]at hb;cases hb) q) (λ_ q=>q) λ_ _ q=>q
 obtain⟨hh,g,d,t,o⟩:=s;exact I.call (g':=g) (d':=d) (t':=t) (ch:=[Z]) un hok I.bare λb hb=>by
  obtain rfl:b=Z:=by simpa using hb
  exact⟨.inr h0,h1,h2,h3⟩
def aIE{x:Str}{spos:Pos}{gt:TG}(hc:X.calm=true)(hi:PI X tg aV wi)(c7:∀y∈scope.names,y.2 ≠ .cell)(c8:scope.kind=.function)(fJ:∀y∈scope.names,y.2=.local->scope.names.lookup y.1=some .local)(dU:∀y∈scope.names,y.2=.free->X.env.kindOf y.1=some .cell\/X.env.kindOf y.1=some .free)(eJ:aL.map some=aG.map λi=>X.N[i]?)(fL:∀y∈aL,(y,NameKind.free)∈scope.names)(fK:∀y∈aL,(relabel scope X.env).names.lookup y=some .cell\/(relabel scope X.env).names.lookup y=some .free)(hg:∀cl C fp s3 H3,PG (bH X scope (aL++tgN) cl C fp s3 H3) tg gt)(hf:∀cl C fp s3 H3,dL (bH X scope (aL++tgN) cl C fp s3 H3) ifs tt)(he:∀cl C fp s3 H3,PE (bH X scope (aL++tgN) cl C fp s3 H3) elt te)(hN:X.N.Nodup)(hx:X.N[i]? = some x)(hk:X.env.scope.names.lookup x=some .local)(hsw:swapsWith (.ListComp elt [⟨tg,aV,ifs,0⟩] scope pos) (some (.Name x pos')) spos.line X.env=pure true)(hs:∀x,foldedSetIterable aV X.env x=pure x:=by intro _;rfl):PS X (.Assign [.Name x pos'] (.ListComp elt [⟨tg,aV,ifs,0⟩] scope pos) spos) (nL (lT aG tgN.length wi gt tt te) (lC i)):=by
 intro aA s σ H En I h;rw[exec_Assign_Name_used _ _ _ _ hsw];refine aT8 (aUT (aT8 ?_));show wpAny _ X.A (comprehension (.ListComp elt [⟨tg,aV,ifs,0⟩] scope pos) scope X.env (firstIterPos [⟨tg,aV,ifs,0⟩] pos) (newList []) (firstAsync [⟨tg,aV,ifs,0⟩]) (firstIter [⟨tg,aV,ifs,0⟩] X.env) (some (assign (.Name x pos') X.env))>>=_) _ _ s;refine aT8 (wS (use:=some (assign (.Name x pos') X.env)) hc hi c7 c8 fJ dU eJ fL fK hg hf he hs I h λD Z s6 H5 hm hI hz h0 h1 h2 h3 q=>?_);obtain⟨m,hm⟩:=hm;have I6:=hI s6.heap (aWZ _ _);refine wpAny_assign_Name (u5 I6 hN hx (.inl hk) (show aI (.ref D) (.ref D)from rfl) (λs' I' hch=>?_) (.inr hk))
 obtain⟨a,sb,ha⟩:=hch;have na:Z≠a:=by
  rcases ha with rfl|ha
  . exact h1
  . exact λz=>h2 x a ha z.symm
 exact⟨m,hm.sameBut sb na,λh'' hs2=>aT7 (aT7 ⟨_,H5,I'.dropped hs2 hz h0 h1 h2 h3,q⟩)⟩
end L2
namespace D3
def bZ(aG:List Nat)(ρ:Rho):Rho:=aG.map λi=>match ρ[i]? with|some (some (false,d))=>some (false,d)|_=>none
def fA(k:D->Rho->Option Rho)(t e:Rho->Res)(ρ0:Rho):List D->Option (List D)
 |[]=>some []
 |d::ds=>match k d ρ0 with
  |none=>none
  |some ρ1=>match t ρ1 with
   |.ok _ (.bl true)=>(match aK (e ρ1)with|.ok _ y=>(fA k t e ρ0 ds).map (y :: ·)|_=>none)
   |.ok _ (.bl false)=>fA k t e ρ0 ds
   |_=>none
def bU(src:Res)(ρ:Rho)(aG:List Nat)(n:Nat)(k:D->Rho->Option Rho)(t e:Rho->Res):Res:=src.thn λ_ d=>match d with
 |.lst ds=>if ds.length<sizeLine then(match fA k t e (bZ aG ρ++List.replicate n none) ds with|some ys=>.ok .fr (.lst ys)|none=>.stuck)else .stuck
 |_=>.stuck
abbrev Cw.nox(C:Cw):Cw:={C with EE:=λ_ _ _=>False}
theorem aE.upd{F:Hp}{x:Addr}{o:HO}(st:aE F H F' H')(hx:H x=none)(hx':F' x=none):aE F H F' (L2.upd H' x o) :=
 ⟨λb u q=>by rw[aH (bL q hx)];exact st.same b u q,st.fsame,λb u q=>by rw[aH (bL q hx')];exact st.sub b u q,st.new⟩
def aIF:dL X [] (tT (C.at X) λ_=>.ok .fz (.bl true)):=λaA s σ H Q I h=>by obtain⟨ρ,F,R,w⟩:=h;exact aIA aA s σ H Q I (w F H (.refl R.sub))
def aIG{c:Expr}{cs:List Expr}(hc:PTv C X c ga)(hr:dL X cs (tT (C.at X) gb)):dL X (c::cs) (tT (C.at X) λρ=>eM (ga ρ) (gb ρ)):=λaA s σ H Q I h =>
 aIB hc hr aA s σ H Q I (wJ h)
def aIH{F:Hp}(aG:List Nat)(n:Nat)(R:aM K F0 H0 F H σ ρ):aM K F0 H0 F H (d5 aG σ++List.replicate n none) (bZ aG ρ++List.replicate n none):=by
 have low:∀(i:Nat) (m:Bool) (d:D),(bZ aG ρ++List.replicate n none)[i]? = some (some (m,d))->m=false/\∃v,(d5 aG σ++List.replicate n none)[i]? = some (some v)/\aB K F d v:=λi m d e=>by
  by_cases hi:i<aG.length
  . rw[aU1 (by simpa[bZ]using hi)]at e
    rw[aU1 (by simpa[d5]using hi)]
    unfold bZ at e;unfold d5;rw[aU2,aWL hi]at e ⊢;simp only[aWQ,Option.some.injEq]at e;cases z:ρ[aG[i]]? with
    |none=>rw[z]at e;cases e
    |some o =>
     rw[z]at e;cases o with
     |none=>cases e
     |some q =>
      obtain⟨b,d'⟩:=q;cases b with
      |true=>cases e
      |false=>cases e;obtain⟨v,e1,r,_⟩:=R.slot _ _ _ z;exact⟨rfl,v,by simp[e1],r⟩
  . rw[aUZ (by simpa[bZ]using hi),aU0]at e
    split at e <;> cases e
 refine⟨R.st,λi m d e=>?_,λi j d d' a _ e1 _ _ _=>?_,by simp[d5,bZ]⟩
 . obtain⟨rfl,v,e1,r⟩:=low i m d e;exact⟨v,e1,r,by nofun⟩
 . have:=(low i true d e1).1;cases this
mutual
def aS:D->Option PyData
 |.non=>some .none
 |.bl b=>some (.bool b)
 |.int i=>some (.int i)
 |.str x=>some (.str x)
 |.tup ds=>(cQ ds).map .tuple
 |.lst ds=>(cQ ds).map .list
 |_=>none
def cQ:List D->Option (List PyData)
 |[]=>some []
 |d::ds=>match aS d,cQ ds with
  |some p,some ps=>some (p::ps)
  |_,_=>none
end
section
variable  {F:Hp}
mutual
theorem wT(I:Inv X aA σ H s)(sF:aD F H):∀(d:D) (p:PyData) (v:V) (u:aZN),aB X.K F d v->aI v u->aS d=some p->(∃as,Reads s.heap u p as)/\p.canLay0=true
 |.non,p,v,u,h,r,e=>by simp only[aB]at h;subst h;cases r;simp only[aS]at e;cases e;exact⟨⟨_,.none⟩,rfl⟩
 |.bl b,p,v,u,h,r,e=>by simp only[aB]at h;subst h;cases r;simp only[aS]at e;cases e;exact⟨⟨_,.bool b⟩,rfl⟩
 |.int i,p,v,u,h,r,e=>by simp only[aB]at h;subst h;obtain⟨t,rfl⟩:=r;simp only[aS]at e;cases e;exact⟨⟨_,.int i t⟩,rfl⟩
 |.str x,p,v,u,h,r,e=>by simp only[aB]at h;obtain⟨rfl,_,hk⟩:=h;obtain⟨t,rfl⟩:=r;simp only[aS]at e;cases e;exact⟨⟨_,.str x t⟩,by simpa only [PyData.canLay0]using hk⟩
 |.tup ds,p,v,u,h,r,e=>by
  simp only[aB]at h;obtain⟨a,xs,rfl,q,rl⟩:=h;cases r;simp only[aS]at e;cases ep:cQ ds with
  |none=>rw[ep]at e;cases e
  |some ps=>rw[ep]at e;cases e;obtain⟨its,rv,⟨o,h1,h2,n,h3⟩,_⟩:=I.tuple (aD.seqT sF q);obtain⟨⟨as,ra⟩,hc⟩:=n6 I sF ds ps xs its rl rv ep;exact⟨⟨_,.tuple h1 h2 h3 (by simpa using ra)⟩,by simpa only [PyData.canLay0]using hc⟩
 |.lst ds,p,v,u,h,r,e=>by
  simp only[aB]at h;obtain⟨a,xs,rfl,q,rl⟩:=h;cases r;simp only[aS]at e;cases ep:cQ ds with
  |none=>rw[ep]at e;cases e
  |some ps=>rw[ep]at e;cases e;obtain⟨its,rv,⟨o,n,h1,h2,_,h3⟩,_⟩:=I.list (sF.seq q);obtain⟨⟨as,ra⟩,hc⟩:=n6 I sF ds ps xs its rl rv ep;exact⟨⟨_,.list h1 h2 h3 (by simpa using ra)⟩,by simpa only [PyData.canLay0]using hc⟩
 |.dct _,p,v,u,h,r,e=>by simp only[aS]at e;cases e
 |.ty _,p,v,u,h,r,e=>by simp only[aS]at e;cases e
 |.ob _,p,v,u,h,r,e=>by simp only[aS]at e;cases e
 |.ins _ _,p,v,u,h,r,e=>by simp only[aS]at e;cases e
 |.fn _,p,v,u,h,r,e=>by simp only[aS]at e;cases e
 |.exn _,p,v,u,h,r,e=>by simp only[aS]at e;cases e
 |.set _,p,v,u,h,r,e=>by simp only[aS]at e;cases e
 |.dtn _,p,v,u,h,r,e=>by simp only[aS]at e;cases e
 |.dtf _,p,v,u,h,r,e=>by simp only[aS]at e;cases e
theorem n6(I:Inv X aA σ H s)(sF:aD F H):∀(ds:List D) (ps:List PyData) (xs:List V) (us:List aZN),aC X.K F ds xs->aJ xs us->cQ ds=some ps->(∃as,ReadsAll s.heap us ps as)/\PyData.canLayAll0 ps=true
 |[],ps,xs,us,h,r,e=>by simp only[aC]at h;subst h;cases r;simp only[cQ]at e;cases e;exact⟨⟨_,.nil⟩,rfl⟩
 |d::ds,ps,xs,us,h,r,e=>by
  simp only[aC]at h;obtain⟨y,ys,rfl,hd,hl⟩:=h;cases r with
  |cons r1 r2 =>
   simp only[cQ]at e;cases e1:aS d with
   |none=>rw[e1]at e;cases e
   |some p =>
    cases e2:cQ ds with
    |none=>rw[e1,e2]at e;cases e
    |some ps'=>rw[e1,e2]at e;cases e;obtain⟨⟨as,ra⟩,hc⟩:=wT I sF d p y _ hd r1 e1;obtain⟨⟨bs,rb⟩,hc'⟩:=n6 I sF ds ps' ys _ hl r2 e2;exact⟨⟨_,.cons ra rb⟩,by simp only[PyData.canLayAll0,hc,hc',Bool.and_self]⟩
end
def wU(I:Inv X aA σ H s)(sF:aD F H){m:Md}{d:D}{p:PyData}(h:Rp X.K F H m d v)(r:aI v u)(e:aS d=some p):(∃as,Reads s.heap u p as)/\p.canLay0=true:=by
 cases m with
 |fz=>exact wT I sF d p v u h r e
 |_ =>
  obtain⟨a,rfl,n,t⟩:=h;cases d with
  |lst ds =>
   obtain⟨xs,q,rl⟩:=t;cases r;simp only[aS]at e;cases ep:cQ ds with
   |none=>rw[ep]at e;cases e
   |some ps=>rw[ep]at e;cases e;obtain⟨its,rv,⟨o,n,h1,h2,_,h3⟩,_⟩:=I.list (SqL.of q);obtain⟨⟨as,ra⟩,hc⟩:=n6 I sF ds ps xs its rl rv ep;exact⟨⟨_,.list h1 h2 h3 (by simpa using ra)⟩,by simpa only [PyData.canLay0]using hc⟩
  |dct ds=>simp only[aS]at e;cases e
  |ins _ _=>simp only[aS]at e;cases e
  |set _=>simp only[aS]at e;cases e
  |dtn _=>simp only[aS]at e;cases e
  |dtf _=>simp only[aS]at e;cases e
  |_=>exact t.elim
end
def jD(p:PyData):Bool:=decide (p.depth<=50)
noncomputable def eqF(neg:Bool):Md->D->Md->D->Option (Md×D):=λ_ x _ y=>match aS x,aS y with
 |some p,some q=>if(jD p&&jD q)=true then some (.fz,.bl (if neg then !PyData.eqv p q else PyData.eqv p q))else none
 |_,_=>none
def wV{f:aZN->aZN->Sem aZN}(hu:X.A.units+64<cLine)(rule:∀(s:aZO) (a b:aZN) (da db:PyData) (as bs:List Addr) (Q:VSP),Reads s.heap a da as->Reads s.heap b db bs->da.canLay0=true->db.canLay0=true->X.A.units+min da.depth db.depth<cLine->Q (.bool (if neg then !PyData.eqv da db else PyData.eqv da db)) s->wpAny (model X.prog X.w) X.A (f a b) Q X.xe s):OpD C X f (eqF neg):=by
 refine⟨λx y H Q=>∃F m n d e p q,aD F H/\Rp X.K F H m d x/\Rp X.K F H n e y/\aS d=some p/\aS e=some q/\(jD p&&jD q)=true/\Q (.bl (if neg then !PyData.eqv p q else PyData.eqv p q)) H,?_,?_⟩
 . intro aA s σ H x y v u Q I rx ry h;obtain⟨F,m,n,d,e,p,q,sF,hd,he,ep,eq,hs,hQ⟩:=h;obtain⟨⟨as,ra⟩,ca⟩:=wU I sF hd rx ep;obtain⟨⟨bs,rb⟩,cb⟩:=wU I sF he ry eq;rw[aVL]at hs;have h1:=aWA hs.1;refine rule s v u p q as bs _ ra rb ca cb (by have:=aV3 p.depth q.depth;omega) ⟨.bl _,H,I,rfl,hQ⟩
 . intro F H m x n y v u k d Q s rx ry e w;unfold eqF at e;split at e
   . rename_i p q ep eq;split at e
     . rename_i hc;cases e;exact⟨F,m,n,x,y,p,q,s,rx,ry,ep,eq,hc,w _ F H (.refl s) (cH _) (by nofun)⟩
     . cases e
   . cases e
def aII(hu:X.A.units+64<cLine):OpD C X (compareOp .Eq) (eqF false):=wV hu λs a b da db as bs Q ra rb ca cb hd q=>SeqAt.compareEq_reads ra rb ca cb hd q
def aIJ(hu:X.A.units+64<cLine):OpD C X (compareOp .NotEq) (eqF true):=wV hu λs a b da db as bs Q ra rb ca cb hd q=>SeqAt.compareNe_reads ra rb ca cb hd q
section
variable  {o:Expr}{es:List Expr}{go:Rho->Res}{T id:String}{name:Str}
def wW:List D->Option (List Str)
 |[]=>some []
 |.str x::r=>(wW r).map (x :: ·)
 |_=>none
noncomputable def joinD:Md->D->List (Md×D)->Option (Md×D):=λ_ x xs=>match x,xs with
 |.str z,[(_,.lst ds)]=>(match wW ds with
  |some ys=>if(ys.map (·.length)).sum+ys.length * z.length<=sizeLine then some (.fz,.str (Txt.join z ys))else none
  |none=>none)
 |_,_=>none
theorem rE:∀{ys:List Str}{us:List aZN},aJ (ys.map V.str) us->StrsAre us ys
 |[],_,h=>by cases h;exact .nil
 |y::ys,_,h=>by
  cases h with
  |cons r t=>obtain⟨tk,rfl⟩:=r;exact .cons y tk (rE t)
end
def spV(K:Fg)(mg:SOV)(n:Nat)(Φ:List D->Res):Sp:=λvs H Q E=>vs.length=n/\∃F ds,aD F H/\aC K F ds vs/\match Φ ds with
 |.ok m d=>m ≠ .bo/\∀v F' H',aE F H F' H'->Rp K F' H' m d v->(m=.fr->∀a,v=.ref a->H a=none)->Q v H'
 |.exc c=>∀F' H' u,aE F H F' H'->mg c=some u->E u none H'
 |.stuck=>False
structure FnV(P:aZR)(w:aZQ)(K:Fg)(mg:SOV)(base:Heap)(CX:CXT)(k:Nat)(x:Str)(n:Nat)(Φ:List D->Res):Prop where
 ex:∃f fd ps,cR P w K mg base CX k f fd ps (spV K mg n Φ)/\mg x=some (.ref f)/\W.keepIn K (.ref f)=true/\eL K fd ps []
noncomputable def aO(n:Nat)(Φ:List D->Res)(r:bE):Res:=r.thn λxs=>match cP xs with
 |some ds=>if ds.length=n then(match Φ ds with|.ok .bo _=>.stuck|r=>r)else .stuck
 |none=>.stuck
def XOk(CX:CXT)(C:Cw)(X:Cx):Prop:=∀(aA:LAO) (σ:L2.St) (H:Hp) (s:aZO) (e:aZN) (s':aZO),Inv X aA σ H s->CX X.stack H s (λu _ H'=>∃c,X.mg c=some u/\C.EE c σ H') e s'->X.xe e s'
section
variable {es:List Expr}{x:Str}
def wX{f:Addr}{Q:VK}{us:List aZN}{vs:List V}{E:XK}(F:cR X.prog X.w X.K X.mg X.base CX k f fd ps (spV X.K X.mg n Φ))(hr:bD k X.A)(hb:eL X.K fd ps [])(hx:∀e s',CX X.stack H s E e s'->X.xe e s')(I:Inv X aA σ H s)(r:aJ vs us)(h:spV X.K X.mg n Φ vs H Q E):wpAny (model X.prog X.w) X.A (call (.ref f) us) (EP X aA σ Q) X.xe s:=by
 have hl:(us++[]).length=ps.length:=by rw[aUS,<- r.length];exact F.len _ _ _ _ h
 have hb':=hb s us I.kIn hl;rw[aUS]at hb';refine aW0 (aVW (F.run X.A X.stack s H ⟨us,[]⟩ us vs Q E hr I.env0 hb' r h) λr s' hq=>?_);cases r with
 |error e=>exact hx e s' hq
 |ok fl =>
  cases fl with
  |ret u=>exact I.after hq
  |next=>exact False.elim hq
  |brk=>exact False.elim hq
  |cont=>exact False.elim hq
def aIK(F:FnV X.prog X.w X.K X.mg X.base CX k x n Φ)(hr:bD k X.A)(hx:XOk CX (C.at X) X)(hg:Gl X x)(ha:PAv C X (e::es) gs)(hdb:(x==("__debug__":Str))=false:=by decide)(he:starEach (e::es) X.env=(false,eval e X.env)::starEach es X.env:=by rfl)(hpl:(backTo pos (starEach es X.env)).any (·.1)=false:=by rfl):PV C X (.Call (.Name x p) (e::es) [] pos) (λρ=>aO n Φ (gs ρ)):=by
 obtain⟨f,fd,ps,FF,hm,hk,hb⟩:=F.ex;intro aA s σ H Q I h;rw[aR]at h;obtain⟨ρ,F,R,w⟩:=h;refine aU5 (nK I hg hm ?_ hdb);refine W.callWith_K (h₀:=X.base) I.ok.mod.kin hk (thn (ha pos aA s σ H (λvs H1=>spV X.K X.mg n Φ vs H1 Q λu _ H'=>∃c,X.mg c=some u/\C.EE c σ H') I ?_) λus s1 ⟨vs,H1,I1,r,q⟩=>⟨I1.kIn,wX FF hr hb (λe s' hc=>hx aA σ H1 s1 e s' I1 hc) I1 r q⟩) he hpl;refine⟨ρ,F,R,?_⟩;cases er:gs ρ with
 |stuck=>rw[er]at w;exact w
 |exc c=>rw[er]at w;exact w
 |ok xs =>
  rw[er]at w;intro vs F1 H1 s1 r1;have w1:aQ (C.at X) F1 H1 σ (aO n Φ (.ok xs)) Q:=aQ.step s1 w;unfold aO at w1;rw[bE.thn_ok]at w1;cases ef:cP xs with
  |none=>rw[ef]at w1;exact w1.elim
  |some ds =>
   rw[ef]at w1;dsimp only at w1;split at w1
   . rename_i hn;have rl:=r1.fz ef;refine⟨by rw[rl.length];exact hn,F1,ds,s1.sub,rl,?_⟩
     cases ep:Φ ds with
     |stuck=>rw[ep]at w1;exact w1
     |exc c=>rw[ep]at w1;exact λF' H' u st hu=>⟨c,hu,w1 F' H' st⟩
     |ok m d =>
      rw[ep]at w1;cases m with
      |bo=>exact w1.elim
      |fz=>exact⟨by decide,w1⟩
      |fr=>exact⟨by decide,w1⟩
   . exact w1.elim
end
def endR:aF->Res
 |.nx _=>.ok .fz .non
 |.rt m d=>.ok m d
 |.exc c _=>.exc c
 |_=>.stuck
def dM(n:Nat)(ds:List D):Rho:=ds.map (λd=>some (false,d))++List.replicate (n-ds.length) none
def wY{F:Hp}{N:List Str}{vs:List V}(s:aD F H)(r:aC K F ds vs):aM K F H F H (cN N vs) (dM N.length ds):=by
 have low:∀(i:Nat) (m:Bool) (d:D),(dM N.length ds)[i]? = some (some (m,d))->m=false/\∃v,(cN N vs)[i]? = some (some v)/\aB K F d v:=λi m d e=>by
  unfold dM at e;unfold L2.cN;by_cases hi:i<ds.length
  . rw[aU1 (by simpa using hi),aU2,aWL hi]at e
    cases e;obtain⟨v,ev,rv⟩:=r.get' (aWL hi);exact⟨rfl,v,by rw[aU1 (by simpa[r.length]using hi),aU2,ev];rfl,rv⟩
  . rw[aUZ (by simpa using hi),aU0]at e
    split at e <;> cases e
 refine⟨.refl s,λi m d e=>?_,λi j d d' a _ e1 _ _ _=>?_,by simp[L2.cN,dM,r.length]⟩
 . obtain⟨rfl,v,e1,rv⟩:=low i m d e;exact⟨v,e1,rv,by nofun⟩
 . have:=(low i true d e1).1;cases this
def n8(ns:List Int):List D:=[.lst (ns.map .int)]
theorem wZ{K:Fg}{F:Hp}:∀ns:List Int,aC K F (ns.map D.int) (ns.map V.int)
 |[]=>aC.nil
 |n::ns=>aC.cons (by simp only[aB]) (wZ ns)
def noK:Md->D->Md->D->Option (Md×D):=λ_ _ _ _=>none
abbrev fAdd:Md->D->Md->D->Option (Md×D):=orO (fI (λ_ _=>true) λi j=>.int (i+j)) (fS (λi j=>decide (i.length+j.length<=sizeLine)) λi j=>.str (i++j))
abbrev fSub:Md->D->Md->D->Option (Md×D):=fI (λ_ _=>true) λi j=>.int (i-j)
abbrev fMul:Md->D->Md->D->Option (Md×D):=orO (fI (λi j=>(bits i&&bits j)||(w64 i||w64 j)) λi j=>.int (i * j)) noK
abbrev fMod:Md->D->Md->D->Option (Md×D):=fI (λ_ j=>decide (0<j)) λi j=>.int (i % j)
abbrev fDiv:Md->D->Md->D->Option (Md×D):=fI (λ_ j=>decide (0<j)&&bits j) λi j=>.int (i / j)
abbrev fPow:Md->D->Md->D->Option (Md×D):=fI (λi j=>decide (0<=j)&&decide (j<=1000000)&&decide (i.natAbs<2 ^ 64)) λi j=>.int (i ^ j.toNat)
abbrev fLt:Md->D->Md->D->Option (Md×D):=fI (λ_ _=>true) λi j=>.bl (decide (i<j))
abbrev fLe:Md->D->Md->D->Option (Md×D):=fI (λ_ _=>true) λi j=>.bl (decide (i<=j))
abbrev fGt:Md->D->Md->D->Option (Md×D):=fI (λ_ _=>true) λi j=>.bl (decide (j<i))
abbrev fGe:Md->D->Md->D->Option (Md×D):=fI (λ_ _=>true) λi j=>.bl (decide (j<=i))
abbrev fEq:Md->D->Md->D->Option (Md×D):=orO (eqF false) noK
abbrev fNe:Md->D->Md->D->Option (Md×D):=orO (eqF true) noK
abbrev fIn:Md->D->Md->D->Option (Md×D):=fS (λ_ _=>true) λi j=>.bl (eZ i j)
abbrev aIL:Md->D->Md->D->Option (Md×D):=fS (λ_ _=>true) λi j=>.bl (!eZ i j)
def IsB(φ:Md->D->Md->D->Option (Md×D)):Prop:=∀m x n y k d,φ m x n y=some (k,d)->∃t,k=.fz/\d=.bl t
def n9{c:Int->Int->Bool}{g:Int->Int->Bool}:IsB (fI c λi j=>.bl (g i j)):=λm x n y k d e=>by
 unfold fI at e;split at e
 . split at e
   . cases e;exact⟨_,rfl,rfl⟩
   . cases e
 . cases e
def w6{c:Str->Str->Bool}{g:Str->Str->Bool}:IsB (fS c λi j=>.bl (g i j)):=λm x n y k d e=>by
 unfold fS at e;split at e
 . split at e
   . cases e;exact⟨_,rfl,rfl⟩
   . cases e
 . cases e
def lU{φ ψ:_}(h:IsB φ)(h':IsB ψ):IsB (orO φ ψ):=λm x n y k d e=>by
 unfold orO at e;cases e1:φ m x n y with
 |none=>rw[e1]at e;exact h' _ _ _ _ _ _ e
 |some p=>rw[e1]at e;cases e;exact h _ _ _ _ _ _ e1
def w8:IsB (eqF neg):=λm x n y k d e=>by
 unfold eqF at e;split at e
 . split at e
   . cases e;exact⟨_,rfl,rfl⟩
   . cases e
 . cases e
def oA{f:aZN->aZN->Sem aZN}:OpD C X f noK:=⟨λ_ _ _ _=>False,λ_ _ _ _ _ _ _ _ _ _ _ _ h=>h.elim,λ_ _ _ _ _ _ _ _ _ _ _ _ _ _ e _=>by cases e⟩
def o_add:OpD C X (binaryOp .Add) fAdd:=aGP.or aG2
def o_mul:OpD C X (binaryOp .Mult) fMul:=aGS.or oA
def o_eq(hu:X.A.units+64<cLine):OpD C X (compareOp .Eq) fEq:=(aII hu).or oA
def o_ne(hu:X.A.units+64<cLine):OpD C X (compareOp .NotEq) fNe:=(aIJ hu).or oA
def phi(n N:Nat)(g:Rho->aF):List D->Res:=λds=>if ds.length=n then endR (g (dM N ds))else .stuck
def lW(scope sc:Scope):List (Str×NameKind):=scope.names.map λ(n,k)=>if(k == .free&&sc.kind == .function&&sc.names.lookup n==some .cell)then(n,.cell)else(n,k)
def aIM:bootBuiltins "len" = some (.builtin "len"):=by decide +kernel
def aIN:bootBuiltins "isinstance" = some (.builtin "isinstance"):=by decide +kernel
def aIO:bootBuiltins "all" = some (.builtin "all"):=by decide +kernel
def aIP:bootBuiltins "int" = some (.type "int"):=by decide +kernel
def aIQ:bootBuiltins "bool" = some (.type "bool"):=by decide +kernel
def aIR:bootBuiltins "str" = some (.type "str"):=by decide +kernel
def aIS:bootBuiltins "tuple" = some (.type "tuple"):=by decide +kernel
def aIT:bootBuiltins "list" = some (.type "list"):=by decide +kernel
def aIU:bootBuiltins "dict" = some (.type "dict"):=by decide +kernel
structure CI where
 name:Str
 ups:List Str
 flds:List Str
 meths:List (Str×Str×Nat)
def bC:Expr->Bool|.Starred ..=>false|_=>true
end D3
variable {cl:List D3.CI}
namespace D3
def jE:Expr->Bool|.Call (.Name x _) [] [] _=>x != "super" |_=>true
def bG{x:Expr}{es:List Expr}(h:bC x=true):starEach (x::es) env=(false,eval x env)::starEach es env:=by cases x <;> first|rfl|cases h
theorem jF(pos:Pos)(env:Env):∀{es:List Expr},(∀x∈es,bC x=true)->(backTo pos (starEach es env)).any (·.1)=false
 |[],_=>rfl
 |x::es,h=>by rw[bG (h x mcs)];show((false||(backTo pos (starEach es env)).any (·.1))=false);rw[jF pos env λy hy=>h y (mcm hy)];rfl
theorem j7(pos:Pos)(env:Env):∀{es:List Expr},(∀x∈es,bC x=true)->(backTo pos (starEach es env)).all (λx=>!x.1)=true
 |[],_=>rfl
 |x::es,h=>by rw[bG (h x mcs)];show((true&&(backTo pos (starEach es env)).all (λx=>!x.1))=true);rw[j7 pos env λy hy=>h y (mcm hy)];rfl
def j8{o:Expr}{n:Str}{w:Sem aZN}(h:jE o=true):attributeBase o n env w=w:=by
 cases o with
 |Call f as ks pos =>
  cases f with
  |Name x p =>
   cases as with
   |nil =>
    cases ks with
    |nil=>show(if x != "super" || n == "__class__" || env.kindOf "super" != some .globalImplicit||env.kindOf "__class__" != some .free then w else _)=w;have:(x != ("super":Str))=true:=h;rw[if_pos (by rw[this];rfl)]
    |cons _ _=>rfl
   |cons _ _=>rfl
  |_=>rfl
 |_=>rfl
def aIV {o : Expr} {m : Str} {apos pos : Pos} {args : List Expr} {env : Env} (hb : jE o = true) (hst : ∀ x ∈ args, bC x = true) (hn : args.length < 30) (hl : apos.endLine = pos.line) :
    eval (.Call (.Attribute o m apos) args [] pos) env=(do
     let ov <- eval o env
     standAt apos.atName
     let(f,first) <- holding [ov] (getMethod ov m (do return (<- importBound o env).getD true))
     callWith pos f first (backTo pos (starEach args env)) (backToKw pos (keywordEach [] env))):=by
 have few:methodCallForm (args.length+([]:List Keyword).length) (backTo pos (starEach args env)) (backToKw pos (keywordEach [] env))=true:=by unfold methodCallForm;rw[j7 pos env hst];show(true&&true&&decide (args.length+0+0<30))=true;rw[aVV (by omega)];rfl
 show(do
  let ov <- attributeBase o m env (eval o env)
  standAt apos.atName
  methodCall o m apos pos env ov (args.length+([]:List Keyword).length) (backTo pos (starEach args env)) (backToKw pos (keywordEach [] env)))=_
 rw[j8 hb];unfold methodCall;rw[few];have hp:methodCallPos true o env apos pos=pure pos:=by unfold methodCallPos;rw[if_pos (by rw[hl];simp)]
 rw[hp];show(do
  let ov <- eval o env
  standAt apos.atName
  let(f,first) <- holding [ov] (getMethod ov m (do return (<- importBound o env).getD true))
  let callPos <- pure pos
  callWith callPos f first (backTo pos (starEach args env)) (backToKw pos (keywordEach [] env)))=_
 simp only[aWV]
structure MtV(P:aZR)(w:aZQ)(K:Fg)(mg:SOV)(base:Heap)(CX:CXT)(k:Nat)(c m:Str)(n:Nat)(Φ:List D->Res):Prop where
 ex:∃C f fd ps,W.nsIn K mainGlobals c=some (some (.ref C))/\Cls K C/\lG K C m f/\cR P w K mg base CX k f fd ps (spV K mg n Φ)/\eL K fd ps []
structure FlV(K:Fg)(c f:Str):Prop where
 ex:∃C,W.nsIn K mainGlobals c=some (some (.ref C))/\Cls K C/\gL K C f
def CI.meth(cl:List CI)(c m:Str):Option (Str×Nat):=match cl.find? (λi=>i.name==c)with
 |some i=>i.meths.lookup m
 |none=>none
def j9(cl:List CI)(f:Str)(r:Res):Res:=r.thn λ_ d=>match d with
 |.ins c fs=>(match cl.find? (λi=>i.name==c)with
  |some i=>if i.flds.contains f=true then(match fs.lookup f with|some d=>.ok .fz d|none=>.stuck)else .stuck
  |none=>.stuck)
 |_=>.stuck
def gP(cl:List CI)(Φ:Str->List D->Res)(m:Str)(o:Res)(as:bE):Res:=o.thn λmd d=>match md,d with
 |.fz,.ins c fs=>(match CI.meth cl c m with
  |some (key,n)=>if fs.lookup m=none then aO n (Φ key) (aX (.ok .fz (.ins c fs)) as)else .stuck
  |none=>.stuck)
 |_,_=>.stuck
section
variable  {o:Expr}{es:List Expr}{go:Rho->Res}{m f:Str}{Φ:Str->List D->Res}
def aIW(hF:∀i f,i∈cl->f∈i.flds->FlV X.K i.name f)(ho:PV C X o go)(hb:jE o=true):PV C X (.Attribute o f pos) (λρ=>j9 cl f (go ρ)):=by
 refine PE.imp (aFE ho (j8 hb)) λσ H Q q=>?_;unfold tFld;rw[aR]at q ⊢;obtain⟨ρ,F,R,w⟩:=q;refine⟨ρ,F,R,?_⟩;cases er:go ρ with
 |stuck=>rw[er]at w;exact w
 |exc c=>rw[er]at w;exact w
 |ok md d =>
  rw[er]at w;intro v F1 H1 s1 r1 _;have w1:aQ (C.at X) F1 H1 σ (j9 cl f (.ok md d)) Q:=aQ.step s1 w;unfold j9 at w1;rw[Res.thn_ok]at w1;cases d with
  |ins c fs =>
   dsimp only at w1;cases ef:cl.find? (λi=>i.name==c)with
   |none=>rw[ef]at w1;exact w1.elim
   |some i =>
    rw[ef]at w1;dsimp only at w1;split at w1
    . rename_i hf;cases el:fs.lookup f with
      |none=>rw[el]at w1;exact w1.elim
      |some d' =>
       rw[el]at w1;have hi:i.name=c:=by simpa using aW1 ef
       obtain⟨C',n1,cl',na⟩:=(hF i f (aW2 ef) (by simpa using hf)).ex
       rw[hi]at n1;obtain⟨a,C2,dx,gs',ev,n2,ea,rf⟩:=r1.ins s1.sub;rw[n1]at n2;cases n2;obtain⟨u,lu,ru⟩:=rf.look el;exact⟨a,C',dx,gs',u,ev,ea,cl',na,lu,w1 u F1 H1 (.refl s1.sub) ru (by nofun)⟩
    . exact w1.elim
  |_=>exact w1.elim
def aIX(hM:∀c m key n,CI.meth cl c m=some (key,n)->MtV X.prog X.w X.K X.mg X.base CX k c m n (Φ key))(hr:bD k X.A)(hx:XOk CX (C.at X) X)(ho:PV C X o go)(ha:PAv C X es gs)(hb:jE o=true)(hst:∀x∈es,bC x=true)(hn:es.length<30)(hl:apos.endLine=pos.line)(hes:es=[]->gs=λ_=>.ok []):PV C X (.Call (.Attribute o m apos) es [] pos) (λρ=>gP cl Φ m (go ρ) (gs ρ)):=by
 intro aA s σ H Q I q;rw[aR]at q;obtain⟨ρ,F,R,w⟩:=q;refine aFG (pl:=(do return (<- importBound o X.env).getD true)) ho I ?_ (aIV hb hst hn hl)
 show tG (C.at X) go σ H _;rw[aR];refine⟨ρ,F,R,?_⟩;cases er:go ρ with
 |stuck=>rw[er]at w;exact w
 |exc c=>rw[er]at w;exact w
 |ok md d =>
  rw[er]at w;intro v F1 H1 s1 r1 _;have w1:aQ (C.at X) F1 H1 σ (gP cl Φ m (.ok md d) (gs ρ)) Q:=aQ.step s1 w;unfold gP at w1;rw[Res.thn_ok]at w1;cases md with
  |fr=>exact w1.elim
  |bo=>exact w1.elim
  |fz =>
  cases d with
  |ins c fs =>
   dsimp only at w1;cases em:CI.meth cl c m with
   |none=>rw[em]at w1;exact w1.elim
   |some kn =>
    obtain⟨key,n⟩:=kn;rw[em]at w1;dsimp only at w1;split at w1
    . rename_i hnl;obtain⟨C',f',fd,ps,n1,cl',me,FO,hbd⟩:=(hM c m key n em).ex;have r1':=r1;obtain⟨a,C2,dx,gs',ev,n2,ea,rf⟩:=r1.ins s1.sub;rw[n1]at n2;cases n2;subst ev;refine⟨a,C',dx,gs',f',rfl,ea,cl',me,rf.lookN hnl,λs1' I1=>?_⟩;have fin:∀(vs:List V) (us:List aZN) (s2:aZO) (F2 H2:Hp) (xs:List (Md×D)),aE F1 H1 F2 H2->RpL X.K F2 H2 xs vs->Inv X aA σ H2 s2->aJ vs us->gs ρ=.ok xs->wpAny (model X.prog X.w) X.A (call (.ref f') (.ref a::us)) (EP X aA σ Q) X.xe s2:=by
        intro vs us s2 F2 H2 xs s2' rl I2 rv eg;rw[eg]at w1;have w2:aQ (C.at X) F2 H2 σ (aO n (Φ key) (aX (.ok .fz (.ins c fs)) (.ok xs))) Q:=aQ.step s2' w1;rw[aHI]at w2;unfold aO at w2;rw[bE.thn_ok]at w2;have rl2:RpL X.K F2 H2 ((.fz,.ins c fs)::xs) (.ref a::vs):=⟨_,_,rfl,r1'.step s2',rl⟩;cases ef:cP ((.fz,.ins c fs)::xs)with
        |none=>rw[ef]at w2;exact w2.elim
        |some ds =>
         rw[ef]at w2;dsimp only at w2;split at w2
         . rename_i hnn;have rl3:=rl2.fz ef;refine wX (E:=λu _ H'=>∃c,X.mg c=some u/\C.EE c σ H') (vs:=.ref a::vs) (us:=.ref a::us) FO hr hbd (λe s' hc=>hx aA σ H2 s2 e s' I2 hc) I2 (.cons rfl rv) ⟨by rw[rl3.length];exact hnn,F2,ds,s2'.sub,rl3,?_⟩
           cases ep:Φ key ds with
           |stuck=>rw[ep]at w2;exact w2
           |exc c=>rw[ep]at w2;exact λF' H' u st hu=>⟨c,hu,w2 F' H' st⟩
           |ok m d =>
            rw[ep]at w2;cases m with
            |bo=>exact w2.elim
            |fz=>exact⟨by decide,w2⟩
            |fr=>exact⟨by decide,w2⟩
         . exact w2.elim
      cases es with
      |nil =>
       refine W.callWith_K0 (first:=[.ref a]) I1.kIn me.kp ?_
       have eg:gs ρ=.ok []:=by rw[hes rfl]
       exact fin [] [] s1' F1 H1 [] (.refl s1.sub) rfl I1 .nil eg
      |cons e es =>
       refine W.callWith_K (first:=[.ref a]) (h₀:=X.base) I.ok.mod.kin me.kp (thn (ha pos aA s1' σ H1 (λvs H2=>∃F2 xs,aE F1 H1 F2 H2/\RpL X.K F2 H2 xs vs/\gs ρ=.ok xs) I1 ?_) λus s2 ⟨vs,H2,I2,r,F2,xs,st2,rl,eg⟩=>⟨I2.kIn,?_⟩) (bG (hst e mcs)) (jF _ _ λy hy=>hst y (mcm hy))
       . refine⟨ρ,F1,R.step s1,?_⟩;cases eg:gs ρ with
         |stuck=>rw[eg]at w1;exact w1
         |exc c=>rw[eg]at w1;exact w1
         |ok xs=>exact λvs F2 H2 s2 rl=>⟨F2,xs,s2,rl,rfl⟩
       . exact fin vs us s2 F2 H2 xs st2 rl I2 r eg
    . exact w1.elim
  |_=>exact w1.elim
end
def aM.mut{F:Hp}{d d':D}{a:Addr}{o:HO}(R:aM K F0 H0 F H σ ρ)(e:ρ[i]? = some (some (true,d)))(ev:σ[i]? = some (some (.ref a)))(t:Top K F (upd H a o) a d'):aM K F0 H0 F (upd H a o) σ (ρ.set i (some (true,d'))):=by
 obtain⟨v,ev',rp,hn⟩:=R.slot i true d e;rw[ev]at ev';cases ev';have h0:H0 a=none:=hn rfl a rfl;obtain⟨a',ea,hf,tt⟩:=rp;cases ea;have hl:i<ρ.length:=(aTW.mp e).1;have st:aE F0 H0 F (upd H a o):=⟨λb u q=>by rw[aH (bL q h0)];exact R.st.same b u q,R.st.fsame,λb u q=>by rw[aH (bL q hf)];exact R.st.sub b u q,R.st.new⟩
 refine⟨st,λj m d2 e2=>?_,λj l d1 d2 b hjl e1 e2 q1 q2=>?_,by rw[aWN];exact R.len⟩
 . by_cases hj:j=i
   . subst hj;rw[aTX hl]at e2;cases e2;exact⟨.ref a,ev,⟨a,rfl,hf,t⟩,λ_ b eb=>by cases eb;exact h0⟩
   . rw[aTY (λz=>hj z.symm)]at e2;obtain⟨u,eu,ru,hu⟩:=R.slot j m d2 e2;refine⟨u,eu,?_,hu⟩;cases m with
     |false=>exact ru
     |true =>
      obtain⟨b,eb,hb,tb⟩:=ru;subst eb;have hba:b≠a:=λz=>by subst z;exact R.apart j i d2 d b hj e2 e eu ev
      refine⟨b,rfl,hb,?_⟩;cases d2 with
      |lst ds=>obtain⟨xs,q,r⟩:=tb;exact⟨xs,by rw[aH hba];exact q,r⟩
      |dct ds=>obtain⟨xs,q,r⟩:=tb;exact⟨xs,by rw[aH hba];exact q,r⟩
      |ins c fs=>obtain⟨C,dx,gs,n,q,r⟩:=tb;exact⟨C,dx,gs,n,by rw[aH hba];exact q,r⟩
      |set ks=>obtain⟨S,q,r⟩:=tb;exact⟨S,by rw[aH hba];exact q,r⟩
      |dtn ds=>obtain⟨xs,q,r⟩:=tb;exact⟨xs,by rw[aH hba];exact q,r⟩
      |_=>exact tb.elim
 . have back:∀(l:Nat) (d2:D),(ρ.set i (some (true,d')))[l]? = some (some (true,d2))->∃d3,ρ[l]? = some (some (true,d3)):=λl d2 q=>by
     by_cases hl':l=i
     . subst hl';exact⟨d,e⟩
     . rw[aTY (λz=>hl' z.symm)]at q;exact⟨d2,q⟩
   obtain⟨d3,q3⟩:=back j d1 e1;obtain⟨d4,q4⟩:=back l d2 e2;exact R.apart j l d3 d4 b hjl q3 q4 q1 q2
def lX(f:Str)(v:D):List (Str×D)->List (Str×D)
 |[]=>[(f,v)]
 |(g,u)::r=>if g=f then(g,v)::r else(g,u)::lX f v r
theorem aZ.put{K:Fg}{F:Hp}{f:Str}{d:D}{v:V}(rv:aB K F d v):∀{fs:List (Str×D)}{gs:List (Str×V)},aZ K F fs gs->aZ K F (lX f d fs) (cM f v gs)
 |[],_,h=>by simp only[aZ]at h;subst h;show aZ K F [(f,d)] [(f,v)];simp only[aZ];exact⟨v,[],rfl,rv,rfl⟩
 |(g,u)::r,_,h=>by
  simp only[aZ]at h;obtain⟨y,ys,rfl,q,t⟩:=h;unfold lX cM;by_cases hg:g=f
  . rw[if_pos hg,if_pos hg];simp only[aZ];exact⟨v,ys,rfl,rv,t⟩
  . rw[if_neg hg,if_neg hg];simp only[aZ];exact⟨y,_,rfl,q,aZ.put rv t⟩
section
variable {f x:Str}
end
structure rF(K:Fg)(mg:SOV)(c:Str):Prop where
 ex:∃C,W.nsIn K mainGlobals c=some (some (.ref C))/\mg c=some (.ref C)/\W.makesIn K C=true/\W.findIn K (.ref C) "__init__" = some (some (.builtin "object.__init__"))/\W.keepIn K (.ref C)=true
def aIY{C:Addr}{x:Str}(hm:X.mg x=some (.ref C))(h1:W.makesIn X.K C=true)(h2:W.findIn X.K (.ref C) "__init__" = some (some (.builtin "object.__init__")))(h3:W.keepIn X.K (.ref C)=true)(hg:Gl X x)(hdb:(x==("__debug__":Str))=false):PE X (.Call (.Name x p) [] [] pos) (λσ H Q=>∀a dx,H a=none->H dx=none->dx≠a->Q (.ref a) (upd (upd H dx (.own a)) a (.ins C dx []))):=by
 intro aA s σ H Q I h;refine aU5 (nK I hg hm ?_ hdb);refine W.callWith_K0 I.kIn h3 (aW0 (aE8 I.kIn h1 h2 (λself=>W.Looks.of_pure (W.oi_bind self)) ?_));have I2:=Inv.made (C:=C) I;have Y:=W.makes_of (M:=model X.prog X.w) I.kIn h1;have hh:((s.heap.push W.emptyDict).push (W.instObj C s.heap.objs.size)).get? (s.heap.objs.size+1)=some (W.instObj C s.heap.objs.size):=by
  have:=aTI (s.heap.push W.emptyDict) (o:=W.instObj C s.heap.objs.size) rfl
  rwa [aUM]at this
 have t1:W.Looks (model X.prog X.w) ((s.heap.push W.emptyDict).push (W.instObj C s.heap.objs.size)) (typeOf (.ref (s.heap.objs.size+1))) (.ref C):=(W.Looks.ld hh).andThen .now;have t2:W.Looks (model X.prog X.w) ((s.heap.push W.emptyDict).push (W.instObj C s.heap.objs.size)) (isInstance (.ref (s.heap.objs.size+1)) (.type "object")) true:=t1.andThen (Y.top.keeps λb o e=>hps (hps e));refine codeAny_call_builtin W.oi_plain W.entry_oi (@W.check_slot (model X.prog X.w) _ _ _ "object.__init__" "object" "__init__" (.ref (s.heap.objs.size+1)) [] [] _ W.oi_kind W.oi_split t2 (W.oi_args (.ref (s.heap.objs.size+1))) ?_);rw[W.oi_run];refine aT7 (And.intro rfl ⟨.ref (s.heap.objs.size+1),_,I2,rfl,?_⟩);exact h (s.heap.objs.size+1) s.heap.objs.size (I.hok.fresh (aW3 _)) (I.hok.fresh (aUA _)) (aTM (aUO _))
def xA{F:Hp}{a C:Addr}(s:aD F H)(ha:H a=none)(hd:H dx=none)(hne:dx≠a):aE F H F (upd (upd H dx (.own a)) a (.ins C dx [])):=by have s1:=aE.fresh (.own a) s hd;refine s1.trans (aE.fresh _ s1.sub ?_);rw[aH (λz=>hne z.symm)];exact ha
def aIZ{c:Str}(M:rF X.K X.mg c)(hg:Gl X c)(hdb:(c==("__debug__":Str))=false):PV C X (.Call (.Name c p) [] [] pos) (λ_=>.ok .fr (.ins c [])):=by
 obtain⟨C',n,hm,h1,h2,h3⟩:=M.ex;refine PE.imp (aIY hm h1 h2 h3 hg hdb) λσ H Q q=>?_;rw[aR]at q;obtain⟨ρ,F,R,w⟩:=q;intro a dx ha hd hne;refine w (.ref a) F _ (xA R.sub ha hd hne) ⟨a,rfl,R.sub.free ha,C',dx,[],n,aT,?_⟩ λ_ b eb=>by cases eb;exact ha
 simp only[aZ]
def spI(K:Fg)(mg:SOV)(c:Str)(n:Nat)(Φ:List D->Res):Sp:=λvs H Q E=>∃x us dx C H1 F ds,vs=.ref x::us/\us.length=n/\W.nsIn K mainGlobals c=some (some (.ref C)) /\
 H=upd (upd H1 dx (.own x)) x (.ins C dx [])/\H1 x=none/\H1 dx=none/\dx≠x/\aD F H1/\aC K F ds us/\match Φ ds with
 |.ok _ d=>∀F' H',aE F H1 F' H'->Rp K F' H' .fr d (.ref x)->Q .non H'
 |.exc c=>∀F' H' u,aE F H1 F' H'->mg c=some u->E u none H'
 |.stuck=>False
structure InV(P:aZR)(w:aZQ)(K:Fg)(mg:SOV)(base:Heap)(CX:CXT)(k:Nat)(c:Str)(n:Nat)(Φ:List D->Res):Prop where
 ex:∃C f fd ps,W.nsIn K mainGlobals c=some (some (.ref C))/\mg c=some (.ref C)/\Mk K C f/\cR P w K mg base CX k f fd ps (spI K mg c n Φ)/\eL K fd ps []
noncomputable def fR(n:Nat)(Φ:List D->Res)(r:bE):Res:=r.thn λxs=>match cP xs with
 |some ds=>if ds.length=n then(match Φ ds with|.ok _ d=>.ok .fr d|r=>r)else .stuck
 |none=>.stuck
section
variable {es:List Expr}{x c:Str}
def aI0{C' f:Addr}{F:Hp}{Q:VK}{us:List aZN}{vs:List V}(ns:W.nsIn X.K mainGlobals c=some (some (.ref C')))(M:Mk X.K C' f)(FO:cR X.prog X.w X.K X.mg X.base CX k f fd ps (spI X.K X.mg c n Φ))(hr:bD (k+1) X.A)(hb:eL X.K fd ps [])(hx:XOk CX (C.at X) X)(I:Inv X aA σ H s)(r:aJ vs us)(sF:aD F H)(rl:aC X.K F ds vs)(hn:ds.length=n)(w:aQ (C.at X) F H σ (match Φ ds with|.ok _ d=>.ok .fr d|r=>r) Q):wpAny (model X.prog X.w) X.A (call (.ref C') us) (EP X aA σ Q) X.xe s:=by
 have hfx:H (s.heap.objs.size+1)=none:=I.hok.fresh (aW3 _);have hfd:H s.heap.objs.size=none:=I.hok.fresh (aUA _);have hne:s.heap.objs.size≠s.heap.objs.size+1:=aTM (aUO _);have I2:=Inv.made (C:=C') I;have hsp:spI X.K X.mg c n Φ (V.ref (s.heap.objs.size+1)::vs) (upd (upd H s.heap.objs.size (.own (s.heap.objs.size+1))) (s.heap.objs.size+1) (.ins C' s.heap.objs.size [])) (λv H2=>v=.non/\Q (.ref (s.heap.objs.size+1)) H2) (λu _ H'=>∃c,X.mg c=some u/\C.EE c σ H'):=by
  refine⟨_,vs,s.heap.objs.size,C',H,F,ds,rfl,by rw[rl.length];exact hn,ns,rfl,hfx,hfd,hne,sF,rl,?_⟩
  cases ep:Φ ds with
  |stuck=>rw[ep]at w;exact w
  |exc c=>rw[ep]at w;exact λF' H' u st hu=>⟨c,hu,w F' H' st⟩
  |ok m d=>rw[ep]at w;exact λF' H' st rp=>⟨rfl,w _ F' H' st rp λ_ a ea=>by cases ea;exact hfx⟩
 have r2:aJ (V.ref (s.heap.objs.size+1)::vs) (Value.ref (s.heap.objs.size+1)::us):=.cons rfl r;have hl:(Value.ref (s.heap.objs.size+1)::us++[]).length=ps.length:=by have e:=r2.length;rw[FO.len _ _ _ _ hsp]at e;rw[aUS];exact e.symm
 have hb':=hb _ (Value.ref (s.heap.objs.size+1)::us) I2.kIn hl;rw[aUS]at hb';refine aW0 (aE7 (f:=f) I.kIn M.makes M.init (aUI.mp M.fn) (aVW (FO.run _ X.stack _ _ ⟨Value.ref (s.heap.objs.size+1)::us,[]⟩ (Value.ref (s.heap.objs.size+1)::us) _ _ _ (hr.make C' us [])
  (I2.env0.make C' us []) hb' r2 hsp) λr s' hq'=>?_))
 cases r with
 |error e=>exact hx aA σ _ _ e s' I2 hq'
 |ok fl =>
  cases fl with
  |ret u=>obtain⟨v,H',I3,rv,ev,q3⟩:=I2.after hq';subst ev;exact⟨rv,⟨V.ref (s.heap.objs.size+1),H',I3,rfl,q3⟩⟩
  |next=>exact False.elim hq'
  |brk=>exact False.elim hq'
  |cont=>exact False.elim hq'
def aI1(M:InV X.prog X.w X.K X.mg X.base CX k c n Φ)(hr:bD (k+1) X.A)(hx:XOk CX (C.at X) X)(hg:Gl X c)(ha:PAv C X (e::es) gs)(hdb:(c==("__debug__":Str))=false)(hst:∀x∈e::es,bC x=true):PV C X (.Call (.Name c p) (e::es) [] pos) (λρ=>fR n Φ (gs ρ)):=by
 obtain⟨C',f,fd,ps,ns,hm,M,FO,hb⟩:=M.ex;intro aA s σ H Q I h;rw[aR]at h;obtain⟨ρ,F,R,w⟩:=h;refine aU5 (nK I hg hm ?_ hdb);refine W.callWith_K (h₀:=X.base) I.ok.mod.kin M.kp (thn (ha pos aA s σ H (λvs H1=>∃F1 xs,aE F H F1 H1/\RpL X.K F1 H1 xs vs/\gs ρ=.ok xs) I ?_) λus s1 ⟨vs,H1,I1,r,F1,xs,st1,rl,eg⟩=>⟨I1.kIn,?_⟩) (bG (hst e mcs)) (jF _ _ λy hy=>hst y (mcm hy))
 . refine⟨ρ,F,R,?_⟩;cases eg:gs ρ with
   |stuck=>rw[eg]at w;exact w
   |exc c=>rw[eg]at w;exact w
   |ok xs=>exact λvs F2 H2 s2 rl=>⟨F2,xs,s2,rl,rfl⟩
 . rw[eg]at w;have w1:aQ (C.at X) F1 H1 σ (fR n Φ (.ok xs)) Q:=aQ.step st1 w;unfold fR at w1;rw[bE.thn_ok]at w1;cases ef:cP xs with
   |none=>rw[ef]at w1;exact w1.elim
   |some ds =>
    rw[ef]at w1;dsimp only at w1;split at w1
    . rename_i hn;exact aI0 ns M FO hr hb hx I1 r st1.sub (rl.fz ef) hn w1
    . exact w1.elim
end
structure IsV(K:Fg)(mg:SOV)(cl:List CI)(c:Str):Prop where
 ex:∃C,mg c=some (.ref C)/\(∀t∈["NoneType", "bool", "int", "str", "tuple", "list", "dict"],W.kitOne K (.type t) (.ref C)=some false) /\
  ∀i∈cl,∃C',W.nsIn K mainGlobals i.name=some (some (.ref C'))/\Cls K C'/\W.findIn K (.ref C') "__class__" = some (some (.builtin "object.__class__")) /\
   W.specialIn K (.builtin "object.__class__") "__get__" = some (some (.builtin "getset_descriptor.__get__"))/\W.takesIn K (.builtin "object.__class__")=some true/\W.mroIn K C' (.type "object")=some true /\
   W.kitOne K (.ref C') (.ref C)=some (i.ups.contains c)
section
variable  {q:Pos}{c:Str}
end
section
variable  {a b c:Expr}{gc:Rho->Res}
def cU:D->Bool|.non=>true|_=>false
def xB{F:Hp}{m:Md}{d:D}(s:aD F H)(r:Rp K F H m d v):decide (v=.non)=cU d:=by
 cases d with
 |non=>cases r.non;rfl
 |bl _=>cases r.bl;rfl
 |int _=>cases r.int;rfl
 |str _=>cases r.str.1;rfl
 |tup _=>obtain⟨_,_,rfl,_⟩:=r.seqT s;rfl
 |lst _=>obtain⟨_,_,rfl,_⟩:=r.seqL s;rfl
 |dct _=>obtain⟨_,_,rfl,_⟩:=r.dict s;rfl
 |ty _=>cases r.ty;rfl
 |ob _=>cases r.ob;rfl
 |ins _ _=>obtain⟨_,_,_,_,rfl,_⟩:=r.ins s;rfl
 |fn _ =>
  cases m with
  |fz=>have r:aB K F _ v:=r;simp only[aB]at r;obtain⟨_,rfl,_⟩:=r;rfl
  |fr=>obtain⟨_,_,_,q⟩:=r;exact q.elim
  |bo=>obtain⟨_,_,_,q⟩:=r;exact q.elim
 |exn _ =>
  cases m with
  |fz=>have r:aB K F _ v:=r;simp only[aB]at r;obtain⟨_,_,rfl,_⟩:=r;rfl
  |fr=>obtain⟨_,_,_,q⟩:=r;exact q.elim
  |bo=>obtain⟨_,_,_,q⟩:=r;exact q.elim
 |set _ =>
  cases m with
  |fz=>have r:aB K F _ v:=r;simp only[aB]at r;obtain⟨_,_,rfl,_⟩:=r;rfl
  |fr=>obtain⟨_,rfl,_,_⟩:=r;rfl
  |bo=>obtain⟨_,rfl,_,_⟩:=r;rfl
 |dtn _ =>
  cases m with
  |fz=>have r:aB K F _ v:=r;simp only[aB]at r;obtain⟨_,_,rfl,_⟩:=r;rfl
  |fr=>obtain⟨_,rfl,_,_⟩:=r;rfl
  |bo=>obtain⟨_,rfl,_,_⟩:=r;rfl
 |dtf _ =>
  cases m with
  |fz=>have r:aB K F _ v:=r;simp only[aB]at r;obtain⟨_,_,_,rfl,_⟩:=r;rfl
  |fr=>obtain⟨_,rfl,_,_⟩:=r;rfl
  |bo=>obtain⟨_,rfl,_,_⟩:=r;rfl
noncomputable def fIs(neg:Bool):Md->D->Md->D->Option (Md×D):=λ_ x _ y=>match y with
 |.non=>some (.fz,.bl (if neg then !cU x else cU x))
 |_=>none
def aI2:OpD C X (compareOp .Is) (fIs false):=by
 refine⟨_,aEO,λF H m x n y v u k d Q s rx ry e w=>?_⟩;unfold fIs at e;split at e
 . cases e;cases ry.non;exact⟨rfl,by rw[xB s rx];exact w _ F H (.refl s) (cH _) (by nofun)⟩
 . cases e
def aI3:OpD C X (compareOp .IsNot) (fIs true):=by
 refine⟨_,aEP,λF H m x n y v u k d Q s rx ry e w=>?_⟩;unfold fIs at e;split at e
 . cases e;cases ry.non;exact⟨rfl,by rw[xB s rx];exact w _ F H (.refl s) (cH _) (by nofun)⟩
 . cases e
def xC:IsB (fIs neg):=λm x n y k d e=>by
 unfold fIs at e;split at e
 . cases e;exact⟨_,rfl,rfl⟩
 . cases e
def dE(φ ψ:Md->D->Md->D->Option (Md×D))(x y z:Res):Res:=x.thn λm d=>y.thn λn e=>(Res.of (φ m d n e)).thn λ_ t=>match t with
 |.bl true=>z.thn λk f=>Res.of (ψ n e k f)
 |.bl false=>.ok .fz (.bl false)
 |_=>.stuck
def xD{ψ:Md->D->Md->D->Option (Md×D)}{r r':R2}(hφ:IsB φ)(h:∀F H m x n y v u k d Q,aD F H->Rp C.K F H m x v->Rp C.K F H n y u->φ m x n y=some (k,d)->(∀v' F' H',aE F H F' H'->Rp C.K F' H' k d v'->(k=.fr->∀a,v'=.ref a->H a=none)->Q v' H')->r v u H Q)(h':∀F H m x n y v u k d Q,aD F H->Rp C.K F H m x v->Rp C.K F H n y u->ψ m x n y=some (k,d)->(∀v' F' H',aE F H F' H'->Rp C.K F' H' k d v'->(k=.fr->∀a,v'=.ref a->H a=none)->Q v' H')->r' v u H Q){Q:VK}(q:tG C (λρ=>dE φ ψ (ga ρ) (gb ρ) (gc ρ)) σ H Q):nO r r' (tG C ga) (tG C gb) (tG C gc) σ H Q:=by
 unfold nO;rw[aR]at q ⊢;obtain⟨ρ,F,R,w⟩:=q;refine⟨ρ,F,R,?_⟩;cases ea:ga ρ with
 |stuck=>simp only[dE,ea,Res.thn]at w;exact w
 |exc c=>simp only[dE,ea,Res.thn]at w;exact w
 |ok m d =>
  intro v F1 H1 s1 r1 _;rw[aR];refine⟨ρ,F1,R.step s1,?_⟩;have w1:aQ C F1 H1 σ (dE φ ψ (ga ρ) (gb ρ) (gc ρ)) Q:=w.step s1;rw[ea]at w1;cases eb:gb ρ with
  |stuck=>rw[eb]at w1;exact w1
  |exc c=>rw[eb]at w1;exact w1
  |ok n e =>
   rw[eb]at w1;intro u F2 H2 s2 r2 _;have w2:aQ C F2 H2 σ ((Res.of (φ m d n e)).thn λ_ t=>match t with|.bl true=>(gc ρ).thn λk f=>Res.of (ψ n e k f)|.bl false=>.ok .fz (.bl false)|_=>.stuck) Q:=aQ.step s2 w1
   cases ef:φ m d n e with
   |none=>rw[ef]at w2;exact w2.elim
   |some kd =>
    obtain⟨k,d'⟩:=kd;rw[ef]at w2;obtain⟨t,rfl,rfl⟩:=hφ _ _ _ _ _ _ ef;refine h F2 H2 m d n e v u _ _ _ s2.sub (r1.step s2) r2 ef λv' F3 H3 s3 r3 _=>?_;cases r3.bl;refine⟨t,rfl,?_⟩;cases t with
    |false=>rw[if_neg aT5];exact w2 (.bl false) F3 H3 s3 (cH _) (by nofun)
    |true =>
     rw[if_pos rfl,aR];refine⟨ρ,F3,((R.step s1).step s2).step s3,?_⟩;have w3:aQ C F3 H3 σ ((gc ρ).thn λk f=>Res.of (ψ n e k f)) Q:=aQ.step s3 w2;cases ec:gc ρ with
     |stuck=>rw[ec]at w3;exact w3
     |exc c=>rw[ec]at w3;exact w3
     |ok k f =>
      rw[ec]at w3;intro w' F4 H4 s4 r4 _;have w4:aQ C F4 H4 σ (Res.of (ψ n e k f)) Q:=aQ.step s4 w3;cases eg:ψ n e k f with
      |none=>rw[eg]at w4;exact w4.elim
      |some kd=>obtain⟨k',d''⟩:=kd;rw[eg]at w4;exact h' F4 H4 n e k f u w' k' d'' Q s4.sub ((r2.step s3).step s4) r4 eg w4
def aI4{op op':CmpOp}{φ ψ:_}(o:OpD C X (compareOp op) φ)(o':OpD C X (compareOp op') ψ)(hφ:IsB φ)(ha:PV C X a ga)(hb:PV C X b gb)(hc:PV C X c gc)(hm:behindInMarks op' c=false):PV C X (.Compare a [op,op'] [b,c] pos) (λρ=>dE φ ψ (ga ρ) (gb ρ) (gc ρ)):=by obtain⟨r,h1,h2⟩:=o;obtain⟨r',h1',h2'⟩:=o';exact PE.imp (aET h1 h1' ha hb hc hm) λσ H Q q=>xD hφ h2 h2' q
def aI5{ψ:Md->D->Md->D->Option (Md×D)}(hψ:IsB ψ){x y z:Res}{m:Md}{d:D}(h:dE φ ψ x y z=.ok m d):∃t,m=.fz/\d=.bl t:=by
 unfold dE at h;cases x with
 |stuck=>cases h
 |exc _=>cases h
 |ok m1 d1 =>
  cases y with
  |stuck=>cases h
  |exc _=>cases h
  |ok m2 d2 =>
   simp only[Res.thn_ok]at h;cases e:φ m1 d1 m2 d2 with
   |none=>rw[e]at h;cases h
   |some kd =>
    obtain⟨k,t⟩:=kd;rw[e]at h;simp only[Res.of_some,Res.thn_ok]at h;split at h
    . cases z with
      |stuck=>cases h
      |exc _=>cases h
      |ok m3 d3 =>
       simp only[Res.thn_ok]at h;cases e2:ψ m2 d2 m3 d3 with
       |none=>rw[e2]at h;cases h
       |some kd=>obtain⟨k',t'⟩:=kd;rw[e2]at h;cases h;exact hψ _ _ _ _ _ _ e2
    . cases h;exact⟨_,rfl,rfl⟩
    . cases h
def aI6{op op':CmpOp}{φ ψ:_}(o:OpD C X (compareOp op) φ)(o':OpD C X (compareOp op') ψ)(hφ:IsB φ)(hψ:IsB ψ)(ha:PV C X a ga)(hb:PV C X b gb)(hc:PV C X c gc)(hm:behindInMarks op' c=false):PTv C X (.Compare a [op,op'] [b,c] pos) (λρ=>dE φ ψ (ga ρ) (gb ρ) (gc ρ)):=by
 obtain⟨r,h1,h2⟩:=o;obtain⟨r',h1',h2'⟩:=o';refine PT.imp (aEU h1 h1' ha hb hc hm) λσ H Q q=>?_;obtain⟨ρ,F,R,w⟩:=q;unfold nN;refine xD hφ h2 h2' ?_;rw[aR];refine⟨ρ,F,R,?_⟩;dsimp only at w ⊢;cases er:dE φ ψ (ga ρ) (gb ρ) (gc ρ)with
 |stuck=>rw[er]at w;exact w
 |exc c=>rw[er]at w;exact w
 |ok m d=>rw[er]at w;obtain⟨t,rfl,rfl⟩:=aI5 hψ er;intro v F' H' st rp _;cases rp.bl;exact⟨t,rfl,w F' H' st⟩
def aI7:OpR X (binaryOp .Add) (λx y H Q=>∃l b xs ys,x=.ref l/\y=.ref b/\SqL X.K H l xs/\SqL X.K H b ys/\xs.length+ys.length<=sizeLine/\∀p,H p=none->Q (.ref p) (upd H p (.lst (xs++ys)))):=by
 intro aA s σ H x y v u Q I rx ry h;obtain⟨l,b,xs,ys,rfl,rfl,hl,hb,hz,q⟩:=h;cases rx;cases ry;obtain⟨its,r1,p1,_⟩:=I.list hl;obtain⟨its2,r2,p2,_⟩:=I.list hb;obtain⟨⟨cls,dd,data,sl⟩,n,ho,hc,hd1,hd⟩:=p1;obtain⟨⟨cls2,dd2,data2,sl2⟩,n2,ho2,hc2,hd2',hd2⟩:=p2;simp only at hc hd hc2 hd2;subst hc hd hc2 hd2;have e:its.toArray++its2.toArray=(its++its2).toArray:=by simp
 have l1:=r1.length;have l2:=r2.length;refine aU6 ⟨_,ho,rfl⟩ ⟨_,ho2,rfl⟩ noFill_list_add seq_list_add PySem.F.slot_list_add PySem.F.entry_list_add (PySem.F.args_list_add_2 _ _) (list_addW l b its.toArray its2.toArray n n2 dd dd2 sl sl2 (by simp;omega)) ⟨ho,ho2,?_⟩
 rw[e];refine⟨.ref s.heap.objs.size,_,I.laid (t':=s.toks) (o:=.lst (xs++ys)) (λb ob q=>hps q) (aUA _) ?_,rfl,q _ (I.hok.fresh (aUA _))⟩;exact⟨by rw[aU4];exact hz,_,0,r1.append r2,aTI _ rfl⟩
def aI8:OpR X (binaryOp .Add) (λx y H Q=>∃l b xs ys,x=.ref l/\y=.ref b/\SqT X.K H l xs/\SqT X.K H b ys/\xs.length+ys.length<=sizeLine/\(xs=[]->Q (.ref b) H)/\(xs≠[]->ys=[]->Q (.ref l) H)/\(xs≠[]->ys≠[]->∀p,H p=none->Q (.ref p) (upd H p (.tup (xs++ys))))):=by
 intro aA s σ H x y v u Q I rx ry h;obtain⟨l,b,xs,ys,rfl,rfl,hl,hb,hz,q0,q1,q2⟩:=h;cases rx;cases ry;obtain⟨its,r1,p1,_⟩:=I.tuple hl;obtain⟨its2,r2,p2,_⟩:=I.tuple hb;have n1:=r1.nil_iff;have n2:=r2.nil_iff;have l1:=r1.length;have l2:=r2.length;by_cases hv:its=[]
 . obtain⟨⟨cls,dd,data,sl⟩,ho,hc,n,hd⟩:=id p1;obtain⟨⟨cls2,dd2,data2,sl2⟩,ho2,hc2,n2',hd2⟩:=id p2;simp only at hc hd hc2 hd2;subst hc hd hc2 hd2;exact aU6 ⟨_,ho,rfl⟩ ⟨_,ho2,rfl⟩ aU7 seq_tuple_add aU8 aU9 (aVA _ _)
     (tuple_addW0 l b its.toArray its2.toArray n n2' dd dd2 sl sl2 (by simp[hv])) ⟨ho,ho2,⟨.ref b,H,I,rfl,q0 (n1.mp hv)⟩⟩
 . refine HT.aFM p1 p2 hv (λz=>⟨.ref l,H,I,rfl,q1 (λw=>hv (n1.mpr w)) (n2.mp z)⟩) (λz=>?_) (by omega)
   refine⟨.ref s.heap.objs.size,_,I.laid (t':=s.toks) (o:=.tup (xs++ys)) (λb ob q=>hps q) (aUA _) ?_,rfl,q2 (λw=>hv (n1.mpr w)) (λw=>z (n2.mpr w)) _ (I.hok.fresh (aUA _))⟩;exact⟨by rw[aU4];exact hz,_,r1.append r2,fM.new _ _⟩
noncomputable def oB:Md->D->Md->D->Option (Md×D):=λm x n y=>match x,y with
 |.lst xs,.lst ys=>if xs.length+ys.length<=sizeLine then some (.fr,.lst (xs++ys))else none
 |.tup xs,.tup ys=>if xs.length+ys.length<=sizeLine then some (.fz,.tup (xs++ys))else none
 |_,_=>none
def aC.nilIff{F:Hp}{xs:List V}(h:aC K F ds xs):xs=[]↔ds=[]:=by
 have:=h.length;constructor
 . intro e;subst e;cases ds with|nil=>rfl|cons _ _=>simp at this
 . intro e;subst e;cases xs with|nil=>rfl|cons _ _=>simp at this
def aI9:OpD C X (binaryOp .Add) oB:=by
 refine⟨_,aI7.or aI8,λF H m x n y v u k d Q s rx ry e w=>?_⟩;unfold oB at e;split at e
 . rename_i xs ys;split at e
   . rename_i hz;cases e;obtain⟨a,us,rfl,q1,r1⟩:=rx.seqL s;obtain⟨b,vs,rfl,q2,r2⟩:=ry.seqL s;refine .inl ⟨a,b,us,vs,rfl,rfl,q1,q2,by rw[r1.length,r2.length];exact hz,λp hp=>?_⟩
     exact w (.ref p) F _ (aE.fresh _ s hp) ⟨p,rfl,s.free hp,_,aT,r1.append r2⟩ λ_ a ea=>by cases ea;exact hp
   . cases e
 . rename_i xs ys;split at e
   . rename_i hz;cases e;have ex:=rx;have ey:=ry;obtain⟨a,us,rfl,q1,r1⟩:=rx.seqT s;obtain⟨b,vs,rfl,q2,r2⟩:=ry.seqT s;have fz:∀{m:Md}{zs:List D}{c:Addr},Rp X.K F H m (.tup zs) (.ref c)->aB X.K F (.tup zs) (.ref c):=λ{m zs c} h=>by
       cases m with
       |fz=>exact h
       |fr=>obtain⟨_,_,_,q⟩:=h;exact q.elim
       |bo=>obtain⟨_,_,_,q⟩:=h;exact q.elim
     refine .inr ⟨a,b,us,vs,rfl,rfl,q1,q2,by rw[r1.length,r2.length];exact hz,λz=>?_,λ_ z=>?_,λ_ _ p hp=>?_⟩
     . have:xs=[]:=r1.nilIff.mp z;subst this;exact w (.ref b) F H (.refl s) (fz ey) (by nofun)
     . have:ys=[]:=r2.nilIff.mp z;subst this;rw[aUS]at w;exact w (.ref a) F H (.refl s) (fz ex) (by nofun)
     . exact w (.ref p) _ _ (aE.laid (.tup (us++vs)) s hp) (aB.tup_of (s.free hp) (r1.append r2)) (by nofun)
   . cases e
 . cases e
def cD:D->Bool|.non|.bl _|.int _|.str _=>true|_=>false
noncomputable def eqD:D->D->Bool
 |.non,.non=>true
 |.bl a,.bl b=>a==b
 |.bl a,.int b=>(if a then 1 else 0)==b
 |.int a,.bl b=>a==(if b then 1 else 0)
 |.int a,.int b=>a==b
 |.str a,.str b=>a==b
 |_,_=>false
noncomputable def hX(neg:Bool):Md->D->Md->D->Option (Md×D):=λ_ x _ y=>match y with
 |.lst ys=>if(cD x&&ys.all cD)=true then some (.fz,.bl (if neg then !(ys.any λy=>eqD y x)else(ys.any λy=>eqD y x)))else none
 |.tup ys=>if(cD x&&ys.all cD)=true then some (.fz,.bl (if neg then !(ys.any λy=>eqD y x)else(ys.any λy=>eqD y x)))else none
 |_=>none
def vOf:D->V|.non=>.non|.bl b=>.bl b|.int i=>.int i|.str x=>.str x|_=>.non
def rG{F:Hp}{m:Md}{d:D}(h:cD d=true)(r:Rp K F H m d v):v=vOf d:=by
 cases d with
 |non=>exact r.non
 |bl _=>exact r.bl
 |int _=>exact r.int
 |str _=>exact r.str.1
 |_=>cases h
theorem lY{K:Fg}{F:Hp}:∀{ds:List D}{xs:List V},ds.all cD=true->aC K F ds xs->xs=ds.map vOf
 |[],_,_,r=>by simp only[aC]at r;exact r
 |d::ds,_,h,r=>by simp only[aC]at r;obtain⟨y,ys,rfl,r1,r2⟩:=r;rw[aVP,aVL]at h;rw[aUK,rG (H:=F) (m:=.fz) h.1 r1,lY h.2 r2]
def rH{d:D}(h:cD d=true):dY (vOf d)=true:=by cases d <;> first|rfl|cases h
def xE{x y:D}(hx:cD x=true)(hy:cD y=true):eqV (vOf x) (vOf y)=eqD x y:=by cases x <;> cases y <;> first|rfl|(cases hx;done)|(cases hy;done)
theorem rJ{x:D}(hx:cD x=true):∀{ds:List D},ds.all cD=true->inV (vOf x) (ds.map vOf)=ds.any λy=>eqD y x
 |[],_=>rfl
 |d::ds,h=>by rw[aVP,aVL]at h;show(eqV (vOf d) (vOf x)||inV (vOf x) (ds.map vOf))=(eqD d x||ds.any _);rw[xE h.1 hx,rJ hx h.2]
theorem lZ:∀{ds:List D},ds.all cD=true->(ds.map vOf).all dY=true
 |[],_=>rfl
 |d::ds,h=>by rw[aVP,aVL]at h;rw[aUK,aVP,rH h.1,lZ h.2];rfl
def xF{f:aZN->aZN->Sem aZN}(o:OpR X f (rIn X.K neg)):OpD C X f (hX neg):=by
 refine⟨_,o,λF H m x n y v u k d Q s rx ry e w=>?_⟩;unfold hX at e;split at e
 . rename_i ys;split at e
   . rename_i hf;rw[aVL]at hf;cases e;obtain⟨b,vs,rfl,q2,r2⟩:=ry.seqL s;have ev:=rG hf.1 rx;have es:=lY hf.2 r2;subst ev;subst es;exact⟨b,_,rfl,.inl q2,rH hf.1,lZ hf.2,by rw[rJ hf.1 hf.2];exact w _ F H (.refl s) (cH _) (by nofun)⟩
   . cases e
 . rename_i ys;split at e
   . rename_i hf;rw[aVL]at hf;cases e;obtain⟨b,vs,rfl,q2,r2⟩:=ry.seqT s;have ev:=rG hf.1 rx;have es:=lY hf.2 r2;subst ev;subst es;exact⟨b,_,rfl,.inr q2,rH hf.1,lZ hf.2,by rw[rJ hf.1 hf.2];exact w _ F H (.refl s) (cH _) (by nofun)⟩
   . cases e
 . cases e
def xG:IsB (hX neg):=λm x n y k d e=>by
 unfold hX at e;split at e
 . split at e
   . cases e;exact⟨_,rfl,rfl⟩
   . cases e
 . split at e
   . cases e;exact⟨_,rfl,rfl⟩
   . cases e
 . cases e
def eP:List (Md×D)->Option (Md×D)
 |[(_,.lst ds)]=>some (.fz,.tup ds)
 |[(.fz,.tup ds)]=>some (.fz,.tup ds)
 |_=>none
def hZ:List (Md×D)->Option (Md×D)
 |[(_,.lst ds)]=>some (.fr,.lst ds)
 |[(_,.tup ds)]=>some (.fr,.lst ds)
 |_=>none
def rK:List (Md×D)->Option (Md×D)
 |[(_,.int i)]=>some (.fz,.int i)
 |[(_,.bl b)]=>some (.fz,.int (if b then 1 else 0))
 |_=>none
def small(i:Int):Bool:=decide (i.natAbs.log2<1920)
noncomputable def rL(i:Int):Str:=Str.ofString (toString i)
def l4:List (Md×D)->Option (Md×D)
 |[(_,.int i)]=>if small i=true then some (.fz,.str (rL i))else none
 |_=>none
def aJA:dB X (.type "tuple") eP:=by
 refine⟨_,aF8,λF H xs vs k d Q s rx e w=>?_⟩;unfold eP at e;split at e
 . rename_i m ds;cases e;obtain⟨v,rfl,r⟩:=rx.one;obtain⟨a,xs,rfl,q,rl⟩:=r.seqL s;exact⟨a,xs,rfl,.inl ⟨q,λl hl=>w (.ref l) _ _ (aE.laid (.tup xs) s hl) (aB.tup_of (s.free hl) rl) (by nofun)⟩⟩
 . rename_i ds;cases e;obtain⟨v,rfl,r⟩:=rx.one;have r0:=r;obtain⟨a,xs,rfl,q,rl⟩:=r.seqT s;exact⟨a,xs,rfl,.inr ⟨q,w (.ref a) F H (.refl s) r0 (by nofun)⟩⟩
 . cases e
def aJB:dB X (.type "list") hZ:=by
 refine⟨_,aF7,λF H xs vs k d Q s rx e w=>?_⟩;unfold hZ at e;split at e
 . rename_i m ds;cases e;obtain⟨v,rfl,r⟩:=rx.one;obtain⟨a,xs,rfl,q,rl⟩:=r.seqL s;exact⟨a,xs,rfl,.inl q,λl hl=>w (.ref l) F _ (aE.fresh _ s hl) ⟨l,rfl,s.free hl,xs,aT,rl⟩ λ_ a ea=>by cases ea;exact hl⟩
 . rename_i m ds;cases e;obtain⟨v,rfl,r⟩:=rx.one;obtain⟨a,xs,rfl,q,rl⟩:=r.seqT s;exact⟨a,xs,rfl,.inr q,λl hl=>w (.ref l) F _ (aE.fresh _ s hl) ⟨l,rfl,s.free hl,xs,aT,rl⟩ λ_ a ea=>by cases ea;exact hl⟩
 . cases e
def aJC:dB X (.type "int") rK:=by
 refine⟨_,aE0,λF H xs vs k d Q s rx e w=>?_⟩;unfold rK at e;split at e
 . cases e;obtain⟨v,rfl,r⟩:=rx.one;cases r.int;exact .inl ⟨_,rfl,w _ F H (.refl s) (dA _) (by nofun)⟩
 . cases e;obtain⟨v,rfl,r⟩:=rx.one;cases r.bl;exact .inr ⟨_,rfl,w _ F H (.refl s) (dA _) (by nofun)⟩
 . cases e
def l5:List (Md×D)->Option (Md×D)
 |[(_,.int i),(_,.int j)]=>some (.fz,.int (if j<i then j else i))
 |_=>none
def aJD(hc:X.calm=true):dB X (.builtin "min") l5:=by
 refine⟨_,aEZ hc,λF H xs vs k d Q s rx e w=>?_⟩;unfold l5 at e;split at e
 . cases e;obtain⟨v,u,rfl,r,r'⟩:=rx.two;cases r.int;cases r'.int;exact⟨_,_,rfl,w _ F H (.refl s) (dA _) (by nofun)⟩
 . cases e
end
def aJE(i:Int):PyData.strOk (Str.ofString (toString i))=true:=by
 unfold PyData.strOk;rw[aWC];intro c hc;have hc':c∈(Str.ofString (toString i)).cps.toList:=by rw[aUH];exact hc
 have:¬ (c≠45/\(c<48\/57<c)):=λh=>int_text_free' c h i hc';have hb:c<58:=by omega
 simp;omega
def aJF:dB X (.type "str") l4:=by
 refine⟨_,aE1,λF H xs vs k d Q s rx e w=>?_⟩;unfold l4 at e;split at e
 . rename_i m i;split at e
   . rename_i hs;cases e;obtain⟨v,rfl,r⟩:=rx.one;cases r.int;have hl:i.natAbs.log2<1920:=aWA hs;have h1:(rL i).length<=1921:=int_text_len_1921 hl;have hz:sizeLine=16777216:=aUF;exact⟨i,rfl,hl,w _ F H (.refl s) (j2 ⟨by omega,aJE i⟩) (by nofun)⟩
   . cases e
 . cases e
def aJG:bootBuiltins "min" = some (.builtin "min"):=by decide +kernel
def aJH{T:String}{φ:_}{x:Str}{es:List Expr}(o:dB X (.type T) φ)(hg:Gl X x)(hm:X.mg x=none)(hv:bootBuiltins x=some (.type T))(ha:PAv C X (e::es) gs)(hn:x ≠ "__name__")(hdb:(x==("__debug__":Str))=false)(hst:∀x∈e::es,bC x=true):PV C X (.Call (.Name x p) (e::es) [] pos) (λρ=>cE φ (gs ρ)):=by obtain⟨r,h1,h2⟩:=o;exact PE.imp (nQ h1 hg hm hv ha hn hdb (bG (hst e mcs)) (jF _ _ λy hy=>hst y (mcm hy))) λσ H Q q=>wN h2 q
section
variable {A:aZP}{E:VSP}
def aJI{Q:List aZN->aZO->Prop}(hA:A.handled=none)(ht:s.heap.IsList l items)(h:∀h',Heap.ExtBut s.heap.objs.size s.heap h'->∀tk,Q items.toList {s with heap:=h',toks:=tk}):wpAny (model prog w) A (unpackItems (.ref l) items.size none) Q E s:=by
 unfold unpackItems notIterableAtAll;refine aT8 (aT8 (aVZ ht.typeIs PySem.F.slot_list_iter.lookup ?_));refine aT7 ?_;dsimp only;rw[if_neg aT5];refine aT8 (aVG (aT9 ht ?_));have hlt:l<s.heap.objs.size:=by obtain⟨o,e,_⟩:=ht;exact aTJ e
 have hne:l≠s.heap.objs.size:=aTM hlt;have keep:∀b o,s.heap.get? b=some o->(s.heap.push { cls:=Value.type "list_iterator", data:=Data.fields #[Value.ref l,Value.int 0 0] }).get? b=some o:=λb o q=>hps q;have ht':(s.heap.push { cls:=Value.type "list_iterator", data:=Data.fields #[Value.ref l,Value.int 0 0] }).IsList l items:=by obtain⟨o,e,c⟩:=ht;exact⟨o,keep l o e,c⟩
 have hi':(s.heap.push { cls:=Value.type "list_iterator", data:=Data.fields #[Value.ref l,Value.int 0 0] }).IsListIter s.heap.objs.size l 0:=⟨_,aTI _ rfl,rfl,rfl⟩;refine aT8 (aVG (W.kun_draw hne items.size 0 _ _ hi' ht' (by omega) λh' hi hsb=>?_))
 have ei:List.take items.size (List.drop 0 items.toList)=items.toList:=by rw[aW4];exact aW5 (by simp)
 rw[ei];rw[if_neg (by simp)]
 have hl2:h'.IsList l items:=by obtain⟨o,e,c⟩:=ht';exact⟨o,by rw[hsb.2 l hne];exact e,c⟩
 rw[aW6]at hi;refine aT8 (aVG ((Walks.list hA s.heap.objs.size l hne items).done _ _ _ ⟨hi,hl2⟩ λh2 tk k2=>?_));rw[if_neg (by simp)]
 refine aT7 (h h2 (λb o hb e=>k2 b o (by simpa using hb) ?_) tk)
 show h'.get? b=some o;rw[hsb.2 b hb];exact keep b o e
def aJJ(hA:A.handled=none)(ht:s.heap.IsList l items)(hn:(assignEach elts env).length=items.size)(hst:(assignEach elts env).findIdx? (·.1)=none)(h:∀h',Heap.ExtBut s.heap.objs.size s.heap h'->∀tk,wpAny (model prog w) A (assignInOrder ((assignEach elts env).map (·.2)) items.toList) Q E {s with heap:=h',toks:=tk}):wpAny (model prog w) A (assign (.Tuple elts k pos) env (.ref l)) Q E s:=by rw[assign_Tuple];refine aT8 (aUT ?_);unfold unpack;rw[hst,hn];exact aT8 (aVG (aJI hA ht h))
def aJK{t sl:Addr}{vl vu:aZN}{hi:Option Int}{Q:VSP}(ht:IsTup s.heap t items)(hs:s.heap.IsSliceOf sl vl vu .none)(pl:IsPart vl lo)(pu:IsPart vu hi)(h0:HT.sIx items.size 0 lo=0)(h1:HT.sIx items.size items.size hi=items.size)(h:Q (.ref t) s):wpAny (model prog w) A (getItem (.ref t) (.ref sl)) Q E s:=by
 obtain⟨os,hos,hcs,hds⟩:=id hs;have tS:s.TypeIs (.ref sl) "slice" := ⟨os,hos,hcs⟩;unfold getItem
 try with_reducible refine aVG ?_
 first|refine aT8 (aT7 ?_)|skip
 refine aT8 (wpAny_sequenceKey ht.typeIs (by decide) (aT8 (aVH (name:=Str.ofString "__getitem__") ht.typeIs aVI (aVJ aVI ht.typeIs entry_tuple_getitem ?_ (args_tuple_getitem _ _)))))
 show wpAny _ _ (Builtin.Tuple.tupleItemsOf (.ref t)>>=_) _ _ s;refine aT8 (tupleItemsOf_ ht (aT8 (aVK tS ?_)));rw[if_pos (by decide)]
 refine aT8 (HT.vV hs pl pu ?_);have yes:(((HT.sIx items.size 0 lo:Nat):Int)==0&&(1:Int)==1&&(HT.sIx items.size items.size hi-HT.sIx items.size 0 lo)==items.size)=true:=by rw[h0,h1];simp
 show wpAny _ _ (if(((HT.sIx items.size 0 lo:Nat):Int)==0&&(1:Int)==1&&(HT.sIx items.size items.size hi-HT.sIx items.size 0 lo)==items.size)=true then _ else _) _ _ s;rw[if_pos yes];unfold Builtin.Tuple.tupleIsExact;refine aT8 (aT8 (aVK ht.typeIs (aT7 ?_)));rw[if_pos (by decide)]
 refine aT8 (aV2 ?_)
 first
  |exact aT7 ⟨_,rfl,aT7 h⟩
  |exact⟨_,rfl,aT7 h⟩
end
def rSlW(K:Fg):V->Option Int->Option Int->Hp->VK->Prop:=λx lo hi H Q=>∃a xs,x=.ref a/\SqT K H a xs/\(HT.sIx xs.length 0 lo=0/\HT.sIx xs.length xs.length hi=xs.length)/\Q x H
def aJL:SlR X (rSlW X.K):=by
 intro aA s σ H x v vl vu lo hi sl Q I rx hs pl pu h;obtain⟨a,xs,rfl,hx,hw,q⟩:=h;cases rx;obtain⟨its,r,ht,hz⟩:=I.tuple hx;have hlen:its.toArray.size=xs.length:=by rw[aUG];exact r.length.symm
 exact⟨"tuple", _,PyProof.Rows.slot_tuple_getitem.lookup,ht.typeIs,aJK ht hs pl pu (by rw[hlen];exact hw.1) (by rw[hlen];exact hw.2) ⟨.ref a,H,I,rfl,q⟩⟩
def gSeq(K:Fg)(n:Nat)(t:TGs):TG:=λv σ H Q=>∃a xs,v=.ref a/\(SqT K H a xs\/SqL K H a xs)/\xs.length=n/\t xs σ H Q
def aJM{es:List Expr}{t:TGs}(hc:X.calm=true)(h:PGs X es t)(hn:(assignEach es X.env).length=n)(hst:(assignEach es X.env).findIdx? (·.1)=none):PG X (.Tuple es k pos) (gSeq X.K n t):=by
 intro aA s σ H v u Q I r hw;obtain⟨a,xs,e1,hq,hl,hw⟩:=hw;rcases hq with hq|hq
 . exact aD6 hc h hn hst aA s σ H v u Q I r ⟨a,xs,e1,hq,hl,hw⟩
 . subst e1;cases r;obtain⟨its,rv,ht,hz⟩:=I.list hq;refine aJJ (I.ok.hd hc) ht.isList (by simp[hn,<- hl,rv.length]) hst λh' hx tk=>?_
   have I1:Inv X aA σ H {s with heap:=h',toks:=tk}:=I.kept (t':=tk) λb o e=>hx b o (aTM (aTJ e)) e
   exact h aA _ σ H xs _ Q I1 (by simpa using rv) hw
inductive Tg where
 |nm (i:Nat)|tp (ts:List Tg)
mutual
def aP:Tg->D->Rho->Option Rho
 |.nm i,d,ρ=>some (ρ.set i (some (false,d)))
 |.tp ts,d,ρ=>match d with
  |.tup ds=>dF ts ds ρ
  |.lst ds=>dF ts ds ρ
  |_=>none
def dF:List Tg->List D->Rho->Option Rho
 |[],ds,ρ=>if ds.isEmpty then some ρ else none
 |t::ts,ds,ρ=>match ds with
  |d::ds=>(match aP t d ρ with|some ρ1=>dF ts ds ρ1|none=>none)
  |[]=>none
end
mutual
def eE:Tg->List Nat
 |.nm i=>[i]
 |.tp ts=>oC ts
def oC:List Tg->List Nat
 |[]=>[]
 |t::ts=>eE t++oC ts
end
mutual
def gOf(K:Fg):Tg->TG
 |.nm i=>lC i
 |.tp ts=>gSeq K ts.length (iA K ts)
def iA(K:Fg):List Tg->TGs
 |[]=>gNil
 |t::ts=>vB (gOf K t) (iA K ts)
end
def PGw(X:Cx)(tg:Expr)(t:Tg):Prop:=PG X tg (gOf X.K t)
def jG(X:Cx)(tgs:List Expr)(ts:List Tg):Prop:=PGs X tgs (iA X.K ts)
def kA:Expr->Bool|.Starred ..=>false|_=>true
def xH{es:List Expr}(h:kA e=true):assignEach (e::es) env=(false,assign e env)::assignEach es env:=by cases e <;> first|rfl|cases h
theorem rM:∀{ts:List Tg}{ds:List D}{ρ ρ':Rho},dF ts ds ρ=some ρ'->ds.length=ts.length
 |[],ds,ρ,ρ',e=>by
  simp only[dF]at e;split at e
  . rename_i h;have:ds=[]:=by simpa using h
    subst this;rfl
  . cases e
 |t::ts,ds,ρ,ρ',e=>by
  simp only[dF]at e;split at e
  . split at e
    . rw[aUJ,aUJ,rM e]
    . cases e
  . cases e
mutual
theorem oE{K:Fg}{F0 H0:Hp}:∀(t:Tg) {F H:Hp}{σ:L2.St}{ρ ρ':Rho}{d:D}{v:V}{Q:L2.St->Hp->Prop},aM K F0 H0 F H σ ρ->aB K F d v->aP t d ρ=some ρ'->(∀σ',aM K F0 H0 F H σ' ρ'->σ'.length=σ.length->(∀j,j∉eE t->σ'[j]? = σ[j]?)->Q σ' H)->gOf K t v σ H Q
 |.nm i,F,H,σ,ρ,ρ',d,v,Q,R,r,e,w=>by
  simp only[aP]at e;cases e;simp only[gOf];refine w _ (R.set (m:=false) (.refl R.sub) r (by nofun)) (by rw[aWN]) λj hj=>?_
  simp only[eE,aW7]at hj;rw[aTY (λz=>hj z.symm)]
 |.tp ts,F,H,σ,ρ,ρ',d,v,Q,R,r,e,w=>by
  simp only[aP]at e;split at e
  . rename_i ds;simp only[aB]at r;obtain⟨a,xs,rfl,hq,rl⟩:=r;simp only[gOf];refine⟨a,xs,rfl,.inl (aD.seqT R.sub hq),by rw[rl.length];exact rM e,rN ts R rl e ?_⟩
    simp only[eE]at w;exact w
  . rename_i ds;simp only[aB]at r;obtain⟨a,xs,rfl,hq,rl⟩:=r;simp only[gOf];refine⟨a,xs,rfl,.inr (R.sub.seq hq),by rw[rl.length];exact rM e,rN ts R rl e ?_⟩
    simp only[eE]at w;exact w
  . cases e
theorem rN{K:Fg}{F0 H0:Hp}:∀(ts:List Tg) {F H:Hp}{σ:L2.St}{ρ ρ':Rho}{ds:List D}{vs:List V}{Q:L2.St->Hp->Prop},aM K F0 H0 F H σ ρ->aC K F ds vs->dF ts ds ρ=some ρ'->(∀σ',aM K F0 H0 F H σ' ρ'->σ'.length=σ.length->(∀j,j∉oC ts->σ'[j]? = σ[j]?)->Q σ' H)->iA K ts vs σ H Q
 |[],F,H,σ,ρ,ρ',ds,vs,Q,R,r,e,w=>by
  simp only[dF]at e;split at e
  . cases e;rename_i hd;have:ds=[]:=by simpa using hd
    subst this;simp only[aC]at r;simp only[iA];exact⟨r,w σ R rfl λ_ _=>rfl⟩
  . cases e
 |t::ts,F,H,σ,ρ,ρ',ds,vs,Q,R,r,e,w=>by
  simp only[dF]at e;split at e
  . rename_i d ds';split at e
    . rename_i ρ1 e1;simp only[aC]at r;obtain⟨y,ys,rfl,r1,r2⟩:=r;simp only[iA];refine⟨y,ys,rfl,oE t R r1 e1 λσ1 R1 l1 k1=>rN ts R1 r2 e λσ2 R2 l2 k2=>w σ2 R2 (l2.trans l1) λj hj=>?_⟩;simp only[oC,aTU,not_or]at hj;rw[k2 j hj.2,k1 j hj.1]
    . cases e
  . cases e
end
def aJN{x:Str}(hN:X.N.Nodup)(hi:X.N[i]? = some x)(hx:L2.Loc X.env.scope x)(hf:X.fn x=true\/X.env.scope.names.lookup x=some .local):PGw X (.Name x pos) (.nm i):=by unfold PGw;simp only[gOf];exact aD3 hN hi hx hf
def aJO:jG X [] []:=by unfold jG;simp only[iA];exact aD4
def aJP{es:List Expr}{t:Tg}{ts:List Tg}(h1:PGw X e t)(h2:jG X es ts)(hs:kA e=true):jG X (e::es) (t::ts):=by unfold jG;simp only[iA];exact aD5 h1 h2 (by rw[xH hs];rfl)
def aJQ{es:List Expr}(hs:∀e∈es,kA e=true):(assignEach es env).length=es.length/\(assignEach es env).findIdx? (·.1)=none:=by
 induction es with
 |nil=>exact⟨rfl,rfl⟩
 |cons e es ih =>
  obtain⟨h1,h2⟩:=ih λx hx=>hs x (mcm hx);rw[xH (hs e mcs)];refine⟨by rw[aUJ,aUJ,h1],?_⟩
  rw[List.findIdx?_cons];simp[h2]
def aJR{es:List Expr}{ts:List Tg}(hc:X.calm=true)(h:jG X es ts)(hs:∀e∈es,kA e=true)(hl:es.length=ts.length):PGw X (.Tuple es k pos) (.tp ts):=by have st:=aJQ (env:=X.env) hs;unfold PGw;simp only[gOf];exact aJM (n:=ts.length) hc h (by rw[st.1,hl]) st.2
def aJS{t:Tg}(h:PGw X tg t):PGv C X tg (aP t) :=
 ⟨_,h,λF H σ ρ ρ' d v Q R r e w=>oE t R r e λσ' R' _ _=>w σ' F H (aD.refl _) R'⟩
noncomputable def cZ(t:Rho->Res)(b:Rho->aF):Nat->Rho->aF
 |0,_=>.stuck
 |n+1,ρ=>(t ρ).thS ρ λ_ d=>match d with
  |.bl true=>(match b ρ with
   |.nx ρ'=>cZ t b n ρ'
   |.ct ρ'=>cZ t b n ρ'
   |.bk ρ'=>.nx ρ'
   |r=>r)
  |.bl false=>.nx ρ
  |_=>.stuck
def aJT{c:Expr}{b:Rho->aF}(n:Nat)(hp:PassesOwn (model X.prog X.w) X.A X.env X.xe)(hc:PTv C X c t)(hb:PBv C X body b):PSv C X (.While c body [] pos) (cZ t b n):=by
 refine PS.imp (aD8 hp hc hb) λEn σ H q=>?_;obtain⟨ρ,F,R,w⟩:=q;refine⟨λm σ H=>∃ρ F,aM X.K C.F0 C.H0 F H σ ρ/\bT (C.at X) F (cZ t b m ρ) En,⟨n,ρ,F,R,w⟩,?_⟩;rintro m σ H ⟨ρ,F,R,w⟩;refine⟨ρ,F,R,?_⟩;cases m with
 |zero=>exact w.elim
 |succ m =>
  unfold cZ at w;cases et:t ρ with
  |stuck=>rw[et]at w;exact w
  |exc c=>rw[et]at w;exact λF' H' s=>w σ F' H' s.fsame (R.step s)
  |ok md d =>
   rw[et]at w;cases d with
   |bl k =>
    intro F' H' s;cases k with
    |false=>rw[if_neg aT5];exact w σ F' H' s.fsame (R.step s)
    |true =>
     rw[if_pos rfl];have w:bT (C.at X) F (match b ρ with|.nx ρ'=>cZ t b m ρ'|.ct ρ'=>cZ t b m ρ'|.bk ρ'=>.nx ρ'|r=>r) En:=w
     refine⟨λσ' H'=>∃ρ F,aM X.K C.F0 C.H0 F H' σ' ρ/\bT (C.at X) F (cZ t b m ρ) En,λσ' H' h=>⟨m,aUO _,h⟩,ρ,F',R.step s,?_⟩;cases eb:b ρ with
     |nx ρ'=>rw[eb]at w;exact λσ2 F2 H2 z R2=>⟨ρ',F2,R2,bT.mono (s.fsame.trans z) w⟩
     |ct ρ'=>rw[eb]at w;exact λσ2 F2 H2 z R2=>⟨ρ',F2,R2,bT.mono (s.fsame.trans z) w⟩
     |bk ρ'=>rw[eb]at w;exact λσ2 F2 H2 z R2=>w σ2 F2 H2 (s.fsame.trans z) R2
     |rt md d=>rw[eb]at w;exact w
     |exc c ρ'=>rw[eb]at w;exact λσ2 F2 H2 z R2=>w σ2 F2 H2 (s.fsame.trans z) R2
     |stuck=>rw[eb]at w;exact w.elim
   |_=>exact w.elim
def xI{t:Tg}{gt:Rho->Res}(hsl:∀j∈eE t,aG.length<=j){Q:VK}(q:tG (C.at X) (λρ=>bU (gi ρ) ρ aG tgN.length (aP t) gt ge) σ H Q):lT aG tgN.length (tIv (C.at X) gi) (gOf X.K t) (tT (C.nox.at X) gt) (tG (C.nox.at X) λρ=>aK (ge ρ)) σ H Q:=by
 rw[aR]at q;obtain⟨ρ,F,RS,w⟩:=q;unfold lT;refine⟨ρ,F,RS,?_⟩;cases er:gi ρ with
 |stuck=>rw[er]at w;exact w
 |exc c=>rw[er]at w;exact w
 |ok m d =>
  rw[er]at w;cases d with
  |lst ds =>
   unfold bU at w;rw[Res.thn_ok]at w;dsimp only at w;split at w
   . rename_i hsz;intro J F1 H1 s1 hJ Da hDa;cases et:fA (aP t) gt ge (bZ aG ρ++List.replicate tgN.length none) ds with
     |none=>rw[et]at w;exact w.elim
     |some total =>
      rw[et]at w;have hD0:H Da=none:=s1.same.free hDa;have hF1:F1 Da=none:=s1.sub.free hDa;have R0:=aIH aG tgN.length RS;refine⟨λi m ys H'=>m=ds.length-i/\i<=ds.length/\H' Da=some (.lst ys)/\∃F' zs,aE F H F' H'/\aD F1 F'/\F' Da=none/\aC X.K F' zs ys/\zs.length<=i /\
       ∃rest,fA (aP t) gt ge (bZ aG ρ++List.replicate tgN.length none) (ds.drop i)=some rest/\total=zs++rest,
       ⟨ds.length,by simp,aUP _,aT,F1,[],s1.upd hD0 hF1,aD.refl _,hF1,aC.nil,aUA _,total,by simpa using et,rfl⟩,?_⟩
      rintro i m ys H' ⟨rfl,hile,hD,F',zs,st,sF,hFD,rz,hzl,rest,ec,etot⟩;refine⟨hD,?_⟩;by_cases hlt:i<ds.length
      . refine .inr ⟨hJ.go i H' (sF.trans st.sub) hlt,by rw[rz.length];omega,λv H2 y=>?_⟩
        obtain⟨F2,d,ed,s2,rd⟩:=hJ.yld i F' H' v H2 sF st.sub hlt y;have hd:ds.drop i=d::ds.drop (i+1):=by rw[aWR hlt];rw[aWL hlt]at ed;cases ed;rfl
        rw[hd]at ec;unfold fA at ec;have hD2:H2 Da=some (.lst ys):=s2.same _ _ hD;have hF2:F2 Da=none:=s2.new _ hFD (by rw[hD];exact λz=>nomatch z)
        cases eg:aP t d (bZ aG ρ++List.replicate tgN.length none)with
        |none=>rw[eg]at ec;cases ec
        |some ρ1 =>
        rw[eg]at ec;dsimp only at ec;have R2:=(R0.step st).step s2;refine oE t R2 rd eg λσ1 R1 len1 keep1=>?_;refine⟨⟨len1.symm,λj u ej=>?_⟩,ρ1,F2,R1,?_⟩
        . by_cases hj:j∈eE t
          . have:=hsl j hj;rw[aUZ (by simpa[d5]using this),aU0]at ej
            split at ej <;> cases ej
          . rw[keep1 j hj];exact ej
        cases ett:gt ρ1 with
        |stuck=>rw[ett]at ec;cases ec
        |exc c=>rw[ett]at ec;cases ec
        |ok mt dt =>
         cases dt with
         |bl b =>
          rw[ett]at ec;intro F3 H3 s3;have hD3:H3 Da=some (.lst ys):=s3.same _ _ hD2;have hF3:F3 Da=none:=s3.new _ hF2 (by rw[hD2];exact λz=>nomatch z)
          cases b with
          |false=>rw[if_neg aT5];exact⟨ds.length-(i+1),by omega,rfl,hlt,hD3,F3,zs,(st.trans s2).trans s3,(sF.trans s2.fsame).trans s3.fsame,hF3,rz.mono (s2.fsame.trans s3.fsame) _ _,Nat.le_succ_of_le hzl,rest,ec,etot⟩
          |true =>
           rw[if_pos rfl,aR];refine⟨_,F3,R1.step s3,?_⟩;dsimp only at ec;cases ee:aK (ge ρ1)with
           |stuck=>rw[ee]at ec;cases ec
           |exc c=>rw[ee]at ec;cases ec
           |ok me ye =>
            rw[ee]at ec;dsimp only at ec;have hme:me=.fz:=by
             cases h:ge ρ1 with
             |ok m' d'=>rw[h]at ee;cases m' <;> cases ee <;> rfl
             |exc c=>rw[h]at ee;cases ee
             |stuck=>rw[h]at ee;cases ee
            subst hme;cases er2:fA (aP t) gt ge (bZ aG ρ++List.replicate tgN.length none) (ds.drop (i+1))with
            |none=>rw[er2]at ec;cases ec
            |some rest' =>
             rw[er2]at ec;cases ec;intro u F4 H4 s4 ru _;have hD4:H4 Da=some (.lst ys):=s4.same _ _ hD3;have hF4:F4 Da=none:=s4.new _ hF3 (by rw[hD3];exact λz=>nomatch z)
             refine⟨hD4,ds.length-(i+1),by omega,rfl,hlt,aT,F4,zs++[ye],(((st.trans s2).trans s3).trans s4).upd hD0 hF4,((sF.trans s2.fsame).trans s3.fsame).trans s4.fsame,hF4,?_,by simp;omega,rest',er2,by rw[etot];simp⟩
             exact aC.append (rz.mono ((s2.fsame.trans s3.fsame).trans s4.fsame) _ _) (aC.cons ru aC.nil)
         |_=>rw[ett]at ec;cases ec
      . have ei:i=ds.length:=by omega
        subst ei;rw[aWS]at ec;cases ec;rw[aUS]at etot;subst etot;exact .inl ⟨hJ.stop _ H' (sF.trans st.sub) (aUA _),w (.ref Da) F' H' st ⟨Da,rfl,hFD,ys,hD,rz⟩ λ_ a ea=>by cases ea;exact hD0⟩
   . exact w.elim
  |_=>exact w.elim
def aJU{t:Tg}{gt:Rho->Res}(hc:X.calm=true)(hi:PIv C X tg aV gi)(c7:∀y∈scope.names,y.2 ≠ .cell)(c8:scope.kind=.function)(fJ:∀y∈scope.names,y.2=.local->scope.names.lookup y.1=some .local)(dU:∀y∈scope.names,y.2=.free->X.env.kindOf y.1=some .cell\/X.env.kindOf y.1=some .free)(eJ:aL.map some=aG.map λi=>X.N[i]?)(fL:∀y∈aL,(y,NameKind.free)∈scope.names)(fK:∀y∈aL,(relabel scope X.env).names.lookup y=some .cell\/(relabel scope X.env).names.lookup y=some .free)(hsl:∀j∈eE t,aG.length<=j)(hg:∀cl A fp s3 H3,PGw (bH X scope (aL++tgN) cl A fp s3 H3) tg t)(hf:∀cl A fp s3 H3,dL (bH X scope (aL++tgN) cl A fp s3 H3) ifs (tT (C.nox.at X) gt))(he:∀cl A fp s3 H3,PV C.nox (bH X scope (aL++tgN) cl A fp s3 H3) elt ge)(hs:∀x,foldedSetIterable aV X.env x=pure x:=by intro _;rfl):PV C X (.ListComp elt [⟨tg,aV,ifs,0⟩] scope pos) (λρ=>bU (gi ρ) ρ aG tgN.length (aP t) gt ge):=by
 have capLen:aL.length=aG.length:=by simpa using congrArg List.length eJ
 refine PE.imp (aID (aL:=aL) (tgN:=tgN) (gt:=gOf X.K t) (tt:=tT (C.nox.at X) gt) (te:=tG (C.nox.at X) λρ=>aK (ge ρ)) hc hi c7 c8 fJ dU eJ fL fK
  hg hf (λcl A fp s3 H3=>fP (he cl A fp s3 H3)) hs) λσ H Q q=>xI hsl q
def aJV(fz:Bool){x:Str}{spos:Pos}{t:Tg}{gt:Rho->Res}(hc:X.calm=true)(hi:PIv C X tg aV gi)(c7:∀y∈scope.names,y.2 ≠ .cell)(c8:scope.kind=.function)(fJ:∀y∈scope.names,y.2=.local->scope.names.lookup y.1=some .local)(dU:∀y∈scope.names,y.2=.free->X.env.kindOf y.1=some .cell\/X.env.kindOf y.1=some .free)(eJ:aL.map some=aG.map λi=>X.N[i]?)(fL:∀y∈aL,(y,NameKind.free)∈scope.names)(fK:∀y∈aL,(relabel scope X.env).names.lookup y=some .cell\/(relabel scope X.env).names.lookup y=some .free)(hsl:∀j∈eE t,aG.length<=j)(hg:∀cl A fp s3 H3,PGw (bH X scope (aL++tgN) cl A fp s3 H3) tg t)(hf:∀cl A fp s3 H3,dL (bH X scope (aL++tgN) cl A fp s3 H3) ifs (tT (C.nox.at X) gt))(he:∀cl A fp s3 H3,PV C.nox (bH X scope (aL++tgN) cl A fp s3 H3) elt ge)(hN:X.N.Nodup)(hx:X.N[i]? = some x)(hk:X.env.scope.names.lookup x=some .local)(hsw:swapsWith (.ListComp elt [⟨tg,aV,ifs,0⟩] scope pos) (some (.Name x pos')) spos.line X.env=pure true)(hs:∀x,foldedSetIterable aV X.env x=pure x:=by intro _;rfl):PSv C X (.Assign [.Name x pos'] (.ListComp elt [⟨tg,aV,ifs,0⟩] scope pos) spos) (λρ=>dJ ρ i (if fz=true then aK (bU (gi ρ) ρ aG tgN.length (aP t) gt ge)else bU (gi ρ) ρ aG tgN.length (aP t) gt ge)):=by
 refine PS.imp (aIE (aL:=aL) (tgN:=tgN) (gt:=gOf X.K t) (tt:=tT (C.nox.at X) gt) (te:=tG (C.nox.at X) λρ=>aK (ge ρ)) hc hi c7 c8 fJ dU eJ fL fK
  hg hf (λcl A fp s3 H3=>fP (he cl A fp s3 H3)) hN hx hk hsw hs) λE σ H q=>xI hsl ?_
 cases fz with
 |false=>exact rC q
 |true=>have q:=rC q;unfold nL at q;rw[aR]at q ⊢;obtain⟨ρ,F,R,w⟩:=q;exact⟨ρ,F,R,aQ.frz w⟩
inductive PVL(C:Cw)(X:Cx):List Expr->List (Rho->Res)->Prop where
 |nil:PVL C X [] []
 |cons {e:Expr}{g:Rho->Res}{es:List Expr}{gs:List (Rho->Res)} (h:PV C X e g) (r:PVL C X es gs):PVL C X (e::es) (g::gs)
inductive LtI(A:aZP)(s:aZO):List aZN->List aZN->Bool->Prop where
 |nn:LtI A s [] [] false
 |nc {w:aZN}{ws:List aZN}:LtI A s [] (w::ws) true
 |cn {v:aZN}{vs:List aZN}:LtI A s (v::vs) [] false
 |eq {v w:aZN}{vs ws:List aZN}{b:Bool} (h:SeqAt.EqAt A s v w true) (r:LtI A s vs ws b):LtI A s (v::vs) (w::ws) b
 |ne {v w:aZN}{vs ws:List aZN}{b:Bool} (h:SeqAt.EqAt A s v w false) (l:∀(prog:aZR) (w':aZQ) (E:VSP) (Q:VSP),Q (.bool b) s->wpAny (model prog w') A (richCompare .Lt v w) Q E s):LtI A s (v::vs) (w::ws) b
section
open PySem.SeqAt
open PySem.AutoSeq1 (wpAny_loadPart')
open PySem.MeetsSeq PySem.MeetsSeq2 PySem.MeetsSeq3
def aJW(l b:Addr)(items items2:Array aZN)(n n2:Nat)(dd dd2:Option Addr)(sl sl2:Array (Option aZN))(r:Bool):Meets (Builtin.«tuple.__lt__» ⟨[.ref l,.ref b],[]⟩) (λA R s=>s.heap.get? l=some { cls:=.type "tuple", dict:=dd,data:=.seq items n,slots:=sl }/\s.heap.get? b=some { cls:=.type "tuple", dict:=dd2,data:=.seq items2 n2,slots:=sl2 }/\LtI A.in1 s items.toList items2.toList r/\R (.ok (.ret (.bool r))) s) :=
 .of_wp λprog w A R s h=>by
  obtain⟨hp,g,d,tk,os⟩:=s;obtain⟨hl,hb,hi,h⟩:=h;have f2:=AutoSeq1.sub_tuple_tuple
  wp_walk using wpAny_loadPart' hl,wpAny_loadPart' hb,aV0 _ (λrest b s'=>b.1=none/\s'=⟨hp,g,d,tk,os⟩/\∃(vs ws:List aZN),rest=vs.zip ws /\
   LtI A.in1 ⟨hp,g,d,tk,os⟩ vs ws r/\vs.length+items2.size=ws.length+items.size) _
  case turn =>
   rintro⟨y,x⟩ rest b s' ⟨hb',rfl,vs,ws,hz,hvi,hlen⟩;cases hvi with
   |nn=>rw[List.zip_nil_left]at hz;cases hz
   |nc=>rw[List.zip_nil_left]at hz;cases hz
   |cn=>rw[List.zip_nil_right]at hz;cases hz
   |eq he hr =>
    rw[aW8]at hz;injection hz with hyx hrest
    injection hyx with hy hx
    subst hy hx;simp only[aUJ]at hlen;refine aT8 (he prog w _ _ ?_)
    wp_walk
    exact⟨rfl,rfl,_,_,hrest,hr,by omega⟩
   |ne he hr =>
    rw[aW8]at hz;injection hz with hyx hrest
    injection hyx with hy hx
    subst hy hx;refine aT8 (he prog w _ _ ?_);have hri:=hr prog w
    wp_walk using hri
    exact⟨_,rfl,by simpa using h⟩
  case fin =>
   rintro⟨b1,b2⟩ s' ⟨hb',rfl,vs,ws,hz,hvi,hlen⟩;simp only at hb';subst hb';have hv:r=decide (items.size<items2.size):=by
    cases hvi with
    |nn=>simp only[aW9]at hlen;exact(aTF (by omega)).symm
    |nc=>simp only[aW9,aUJ]at hlen;exact(aVV (by omega)).symm
    |cn=>simp only[aW9,aUJ]at hlen;exact(aTF (by omega)).symm
    |eq he hr=>rw[aW8]at hz;cases hz
    |ne he hr=>rw[aW8]at hz;cases hz
   rw[hv]at h
   wp_walk
   exact⟨_,rfl,by simpa[Builtin.Tuple.tupleCompareSizes]using h⟩
  case h=>exact⟨rfl,rfl,items.toList,items2.toList,rfl,hi,by simp[Nat.add_comm]⟩
end
section
variable {A:aZP}{E:VSP}
def xJ{items2:Array aZN}{r:Bool}{Q:VSP}(hl:IsTup s.heap l items)(hb:IsTup s.heap b items2)(hi:LtI (A.in1) s items.toList items2.toList r)(hu:A.units<cLine)(h:Q (.bool r) s):wpAny (model prog w) A (compareOp .Lt (.ref l) (.ref b)) Q E s:=by
 obtain⟨⟨cls,dd,data,sl⟩,ho,hc,n,hd⟩:=id hl;obtain⟨⟨cls2,dd2,data2,sl2⟩,ho2,hc2,n2,hd2⟩:=id hb;simp only at hc hd hc2 hd2;subst hc hd hc2 hd2;exact richCompare_meets_room (op:=.Lt) ⟨_,ho,rfl⟩ ⟨_,ho2,rfl⟩ PySem.F.slot_tuple_lt PySem.F.entry_tuple_lt (PySem.F.args_tuple_lt_2 _ _) (aJW l b items items2 n n2 dd dd2 sl sl2 r)
  ⟨ho,ho2,hi,show Value.bool r≠Value.notImplemented/\Q (.bool r) s from⟨(λx=>nomatch x),h⟩⟩ hu
end
def ltS(x y:Str):Bool:=decide (x.cps.toList<y.cps.toList)
def rO:V->V->Option Bool
 |.int i,.int j=>some (decide (i<j))
 |.str i,.str j=>some (ltS i j)
 |_,_=>none
def kB:List V->List V->Option Bool
 |[],[]=>some false
 |[],_::_=>some true
 |_::_,[]=>some false
 |x::xs,y::ys=>if eqV x y=true then kB xs ys else rO x y
theorem xK{A:aZP}{s:aZO}{r:Bool}:∀{xs ys:List V}{us vs:List aZN},aJ xs us->aJ ys vs->xs.all dY=true->ys.all dY=true->kB xs ys=some r->LtI A s us vs r
 |_,_,_,_,.nil,.nil,_,_,h=>by cases h;exact .nn
 |_,_,_,_,.nil,.cons _ _,_,_,h=>by cases h;exact .nc
 |_,_,_,_,.cons _ _,.nil,_,_,h=>by cases h;exact .cn
 |x::xs,y::ys,u::us,v::vs,.cons r1 t1,.cons r2 t2,f,g,h=>by
  rw[aVP,aVL]at f g;unfold kB at h;cases e:eqV x y with
  |true=>rw[e,if_pos rfl]at h;exact .eq (by rw[<- e];exact qZ r1 r2 f.1 g.1) (xK t1 t2 f.2 g.2 h)
  |false =>
   rw[e,if_neg aT5]at h;refine .ne (by rw[<- e];exact qZ r1 r2 f.1 g.1) λprog w' E Q q=>?_
   unfold rO at h;split at h
   . cases h;obtain⟨t,rfl⟩:=r1;obtain⟨t',rfl⟩:=r2;exact lt_int q
   . cases h;obtain⟨t,rfl⟩:=r1;obtain⟨t',rfl⟩:=r2;exact lt_str q
   . cases h
def aJX(hu:X.A.units+64<cLine):OpR X (compareOp .Lt) (λx y H Q=>∃l b xs ys r,x=.ref l/\y=.ref b/\SqT X.K H l xs/\SqT X.K H b ys/\xs.all dY=true/\ys.all dY=true/\kB xs ys=some r/\Q (.bl r) H):=by intro aA s σ H x y v u Q I rx ry h;obtain⟨l,b,xs,ys,r,rfl,rfl,hl,hb,f,g,e,q⟩:=h;cases rx;cases ry;obtain⟨us,r1,p1,_⟩:=I.tuple hl;obtain⟨vs,r2,p2,_⟩:=I.tuple hb;exact xJ p1 p2 (by simpa using xK r1 r2 f g e) (by omega) ⟨.bl r,H,I,rfl,q⟩
def ltD1:D->D->Option Bool
 |.int i,.int j=>some (decide (i<j))
 |.str i,.str j=>some (ltS i j)
 |_,_=>none
def ltL:List D->List D->Option Bool
 |[],[]=>some false
 |[],_::_=>some true
 |_::_,[]=>some false
 |x::xs,y::ys=>if eqD x y=true then ltL xs ys else ltD1 x y
theorem xL:∀{xs ys:List D},xs.all cD=true->ys.all cD=true->kB (xs.map vOf) (ys.map vOf)=ltL xs ys
 |[],[],_,_=>rfl
 |[],_::_,_,_=>rfl
 |_::_,[],_,_=>rfl
 |x::xs,y::ys,f,g=>by rw[aVP,aVL]at f g;show(if eqV (vOf x) (vOf y)=true then kB (xs.map vOf) (ys.map vOf)else rO (vOf x) (vOf y))=if eqD x y=true then ltL xs ys else ltD1 x y;rw[xE f.1 g.1,xL f.2 g.2];congr 1;cases x <;> cases y <;> first|rfl|(cases f.1;done)|(cases g.1;done)
def ltF:Md->D->Md->D->Option (Md×D):=λ_ x _ y=>match x,y with
 |.str i,.str j=>some (.fz,.bl (ltS i j))
 |.tup xs,.tup ys=>if(xs.all cD&&ys.all cD)=true then(ltL xs ys).map λb=>(.fz,.bl b)else none
 |_,_=>none
def aJY(hu:X.A.units+64<cLine):OpD C X (compareOp .Lt) ltF:=by
 refine⟨_,aEM.or (aJX hu),λF H m x n y v u k d Q s rx ry e w=>?_⟩;unfold ltF at e;split at e
 . rename_i i j;cases e;obtain⟨rfl,_⟩:=rx.str;obtain⟨rfl,_⟩:=ry.str;exact .inl ⟨i,j,rfl,rfl,w _ F H (.refl s) (cH _) (by nofun)⟩
 . rename_i xs ys;split at e
   . rename_i hf;rw[aVL]at hf;obtain⟨a,us,rfl,q1,r1⟩:=rx.seqT s;obtain⟨b,vs,rfl,q2,r2⟩:=ry.seqT s;have e1:=lY hf.1 r1;have e2:=lY hf.2 r2;subst e1;subst e2;cases el:ltL xs ys with
     |none=>rw[el]at e;cases e
     |some r=>rw[el]at e;cases e;exact .inr ⟨a,b,_,_,r,rfl,rfl,q1,q2,lZ hf.1,lZ hf.2,by rw[xL hf.1 hf.2];exact el,w _ F H (.refl s) (cH _) (by nofun)⟩
   . cases e
 . cases e
def aJZ:IsB ltF:=λm x n y k d e=>by
 unfold ltF at e;split at e
 . cases e;exact⟨_,rfl,rfl⟩
 . split at e
   . rename_i xs ys _;cases el:ltL xs ys with
     |none=>rw[el]at e;cases e
     |some r=>rw[el]at e;cases e;exact⟨_,rfl,rfl⟩
   . cases e
 . cases e
def kC:List (Md×D)->Option (Md×D):=λxs=>match xs with
 |[(_,.str z)]=>if z.length<=640 then(PySem.intText? z).map λn=>(.fz,.int n)else none
 |_=>rK xs
def aJ0:dB X (.type "int") kC:=by
 obtain⟨r,h1,h2⟩:=aJC (X:=X);refine⟨λxs H Q=>r xs H Q\/∃z n,xs=[.str z]/\z.length<=640/\PySem.intText? z=some n/\Q (.int n) H,?_,λF H xs vs k d Q s rx e w=>?_⟩
 . intro aA s σ H xs us Q I rr h;rcases h with h|⟨z,n,rfl,hl,hn,q⟩
   . exact h1 aA s σ H xs us Q I rr h
   . obtain⟨u,rfl,t,rfl⟩:=dX rr;exact W.KIN.call_text hn hl ⟨.int n,H,I.tok _,⟨_,rfl⟩,q⟩
 . unfold kC at e;split at e
   . rename_i m z;split at e
     . rename_i hl;cases en:PySem.intText? z with
       |none=>rw[en]at e;cases e
       |some n=>rw[en]at e;cases e;obtain⟨v,rfl,r0⟩:=rx.one;obtain⟨rfl,_⟩:=r0.str;exact .inr ⟨z,n,rfl,hl,en,w _ F H (.refl s) (dA _) (by nofun)⟩
     . cases e
   . exact .inl (h2 F H xs vs k d Q s rx e w)
section
open PySem.SeqAt
open PySem.AutoSeq1 (wpAny_loadPart')
open PySem.MeetsSeq PySem.MeetsSeq2 PySem.MeetsSeq3
variable {A:aZP}{E:VSP}
def aJ1{t:Addr}{xs:Array aZN}{x:aZN}{Q:VSP}(hi:s.heap.IsTupleIter it t i)(ht:IsTup s.heap t xs)(hx:xs[i]? = some x)(q:∀h',h'.IsTupleIter it t (i+1)->Heap.SameBut it s.heap h'->Q x {s with heap:=h'}):wpAny (model prog w) A (Builtin.SmallTypes.nextOf (.ref it)) Q E s:=by
 have ty:=hi.typeIs;obtain⟨o,ho,hc,hd⟩:=hi;obtain⟨p,hp,_,n,hs⟩:=ht
 delta Builtin.SmallTypes.nextOf
 apply aT8;apply aVH (name:=Str.ofString "__next__") ty aXA;refine aVJ aXA ty aXB ?w (aXC _)
 case w =>
  refine aT8 (m:=field (.ref it) 0) (aVE ho hd (x:=.ref t) rfl ?_);rw[show(Value.ref t==Value.none)=false from rfl,if_neg aT5]
  refine aT8 (m:=field (.ref it) 1) (aVE ho hd (x:=.int i 0) rfl ?_);apply aT8;apply aV7 hp hs;rw[aVB];simp only[hx];apply aT8;apply aXD ho hd (by simp)
  refine aT7 ⟨x,rfl,aT7 (q _ ⟨_,aXE _ ho (aXF (aXG hd _)),?_,?_⟩ (aXH ..))⟩
  . rw[aXI,hc]
  . rw[aXG hd];simp[rawInt]
def xM{t:Addr}{xs:Array aZN}{Q:VSP}(h0:A.handled=none)(hi:s.heap.IsTupleIter it t i)(ht:IsTup s.heap t xs)(hx:xs[i]? = none)(q:∀h' e,Heap.ExtBut it s.heap h'->(∃o,h'.get? e=some o/\o.cls=.type "StopIteration")->E (.ref e) {s with heap:=h'}):wpAny (model prog w) A (Builtin.SmallTypes.nextOf (.ref it)) Q E s:=by
 have ty:=hi.typeIs;obtain⟨o,ho,hc,hd⟩:=hi;obtain⟨p,hp,_,n,hs⟩:=ht
 delta Builtin.SmallTypes.nextOf
 apply aT8;apply aVH (name:=Str.ofString "__next__") ty aXA;refine aVJ aXA ty aXB ?w (aXC _)
 case w =>
  refine aT8 (m:=field (.ref it) 0) (aVE ho hd (x:=.ref t) rfl ?_);rw[show(Value.ref t==Value.none)=false from rfl,if_neg aT5]
  refine aT8 (m:=field (.ref it) 1) (aVE ho hd (x:=.int i 0) rfl ?_);apply aT8;apply aV7 hp hs;rw[aVB];simp only[hx];apply aT8;apply aV2;apply aT8;apply aXD ho hd (by simp)
  refine aT8 (m:=newExc (.type "StopIteration") []) ?_;simp only[newExc,newTuple];apply aT8;refine aVM ?_ (by size_fits)
  apply aT8 (m:=firstArgMember _ _);refine aXJ (a:=.none) ?_ ?_
  . first|rfl|(unfold firstArgMember;rfl)
  refine aVM (hd:=by size_fits) ?_
  simp only[raiseNew];apply aT8;apply wpAny_handled
  first|rw[show A.in1.handled=none from h0]|rw[h0]
  refine wpAny_throw ?_;exact q _ _ ((Heap.SameBut.extBut (aXH ..)).push _ |>.push _) ⟨_,aTI _ rfl,rfl⟩
def xN{a:Addr}{xs:Array aZN}(x:IsTup h a xs)(k:∀o,h.get? a=some o->h'.get? a=some o):IsTup h' a xs:=by obtain⟨o,ho,r⟩:=x;exact⟨o,k o ho,r⟩
def tIt(l:Addr):Obj:={ cls:=.type "tuple_iterator", data:=.fields #[.ref l,.int 0 0] }
def zp2(h:Heap)(l m:Addr):Heap:=(h.push (tIt l)).push (tIt m)
end
def aJ2{its:List Addr}{n:Addr}{xs:List V}(I:Inv X aA σ H s)(k:∀b o,b∉its->s.heap.get? b=some o->h'.get? b=some o)(hf:∀b∈its,cF X aA H b)(hn:s.heap.objs.size<=n)(new:∃us,aJ xs us/\fM h' n us.toArray)(hz:xs.length<=sizeLine):Inv X aA σ (upd H n (.tup xs)) {s with heap:=h',toks:=t'}:=by
 have fr:H n=none:=I.hok.fresh hn;have lt:∀{b o},s.heap.get? b=some o->b≠n:=λe z=>absurd (aTJ e) (by rw[z];exact aWY.mpr hn)
 have nb:∀{b u},H b=some u->b≠n:=λe z=>by rw[z,fr]at e;cases e
 have ni:∀{b u},H b=some u->b∉its:=λe z=>by rw[(hf _ z).1]at e;cases e
 refine I.call (g':=s.gens) (d':=s.drawn) (ch:=its) ⟨λb o e _ _ hx=>k b o hx e,λb o e _ _ hx=>⟨o.slots,k b o hx e⟩,λb o e h0 _=>by rw[aH (lt e)];exact h0,λb o e hx=>⟨o,k b o hx e⟩,
  λb u e=>by rw[aH (nb e)];exact e,λb u v e=>by rw[aH (nb e)];exact e,λb u e=>⟨#[],by rw[aH (nb e),e];simp⟩⟩ (λb u e=>?_) I.bare λb hb=>?_
 . by_cases hb:b=n
   . subst hb;rw[aT]at e;cases e;exact⟨hz,new⟩
   . rw[aH hb]at e;refine(I.hok b u e).stay (λc v hc q=>k c v ?_ q) (λc q=>?_) λc v q=>?_
     . rcases hc with z|z
       . rw[z];exact ni e
       . exact ni z
     . rw[aH (nb q)];exact q
     . rw[aH (nb q)];exact q
 . obtain⟨f0,f1,f2,f3,f4,f5⟩:=hf b hb;exact⟨f3,f1,f4,f5⟩
def oF{its:List Addr}(I:Inv X aA σ H s)(k:∀b o,b∉its->s.heap.get? b=some o->h'.get? b=some o)(hf:∀b∈its,cF X aA H b):Inv X aA σ H {s with heap:=h',toks:=t'}:=by
 have ni:∀{b u},H b=some u->b∉its:=λe z=>by rw[(hf _ z).1]at e;cases e
 refine I.call (g':=s.gens) (d':=s.drawn) (ch:=its) ⟨λb o e _ _ hx=>k b o hx e,λb o e _ _ hx=>⟨o.slots,k b o hx e⟩,λb o e h0 _=>h0,λb o e hx=>⟨o,k b o hx e⟩,
  λb u e=>e,λb u v e=>e,λb u e=>⟨#[],by rw[e];simp⟩⟩ (λb u e=>?_) I.bare λb hb=>?_
 . refine(I.hok b u e).stay (λc v hc q=>k c v ?_ q) (λ_ q=>q) λ_ _ q=>q;rcases hc with z|z
   . rw[z];exact ni e
   . exact ni z
 . obtain⟨f0,f1,f2,f3,f4,f5⟩:=hf b hb;exact⟨f3,f1,f4,f5⟩
def aJ3{F:Hp}{m:Md}(h:Rp K F H m (.tup ds) v):∃a xs,v=.ref a/\SqT K F a xs/\aC K F ds xs:=by
 cases m with
 |fz=>exact(show aB K F (.tup ds) v from h) |> λh=>by simp only[aB]at h;exact h
 |fr=>obtain⟨_,_,_,q⟩:=h;exact q.elim
 |bo=>obtain⟨_,_,_,q⟩:=h;exact q.elim
open PySem.AutoSeq1 (wpAny_loadPart')
def aJ4{A:aZP}(hh:A.handled=none)(it t:Addr)(hne:t≠it)(items:Array aZN):Draws prog w A it [it,t] items.size (λi v=>items[i]? = some v) (λi h=>h.IsTupleIter it t i/\IsTup h t items) where
 live:=λ_ _ st=>let⟨o,ho,_⟩:=st.1;⟨o,ho⟩
 frame:=λ_ _ _ st hk=>⟨st.1.at λo e=>hk it (by simp) o e,xN st.2 λo e=>hk t (by simp) o e⟩
 item:=λi s Q E hi st hQ=>by
  refine aJ1 st.1 st.2 (x:=items[i]) (by simp[hi]) λh' hit' hs'=>?_
  exact hQ _ h' s.toks (by simp[hi]) ⟨hit',xN st.2 λo e=>hs'.extBut _ o hne e⟩ hs'
 done:=λs Q E st hE=>xM hh st.1 st.2 (by simp) hE
def aJ5(l:Addr)(items:Array aZN):Meets (Builtin.«enumerate.__new__» ⟨[.type "enumerate", .ref l],[]⟩) (λ_ R s=>s.heap.IsTuple l items/\R (.ok (.ret (.ref (s.heap.push { cls:=.type "tuple_iterator", data:=.fields #[.ref l,.int 0 0] }).objs.size))) { s with heap:=(s.heap.push { cls:=.type "tuple_iterator", data:=.fields #[.ref l,.int 0 0] }).push { cls:=.type "enumerate", data:=.fields #[.none,.bool false,.ref s.heap.objs.size,rawInt 0,.none,.none] } }) :=
 .of_wp λprog w A R s h=>by
  obtain⟨hp,g,d,tk,os⟩:=s;obtain⟨hL,h⟩:=h;have hsub:=sub_enumerate;have hL:Heap.IsTuple (Shared.heap ⟨hp,g,d,tk,os⟩) l items:=hL;obtain⟨o,ho,hc,n,hd⟩:=id hL
  wp_walk using wpAny_loadPart' ho
  refine wpAny_stack_any λst=>aT7 ?_;split
  . rename_i c _ _ _ _ _;cases(c==Value.type "enumerate")
    . wp_walk using wpAny_loadPart' ho,aUB hL
      exact⟨_,rfl,h⟩
    . wp_walk using wpAny_loadPart' ho,aUB hL
      exact⟨_,rfl,h⟩
  . wp_walk using wpAny_loadPart' ho,aUB hL
    exact⟨_,rfl,h⟩
section
variable {A:aZP}{E:VSP}
def aJ6{a:Addr}{us:Array aZN}{Q:VSP}(ha:s.heap.IsTuple a us)(q:∀g,IsEnum g (s.heap.objs.size+1) s.heap.objs.size 0 .none->g.IsTupleIter s.heap.objs.size a 0->(∀c u,s.heap.get? c=some u->g.get? c=some u)->Q (.ref (s.heap.objs.size+1)) {s with heap:=g}):wpAny (model prog w) A (call (.type "enumerate") [.ref a]) Q E s:=by
 let i0:Obj:={ cls:=.type "tuple_iterator", data:=.fields #[.ref a,.int 0 0] }
 let e0:Obj:={ cls:=.type "enumerate", data:=.fields #[.none,.bool false,.ref s.heap.objs.size,rawInt 0,.none,.none] }
 have z1:(s.heap.push i0).objs.size=s.heap.objs.size+1:=aUM ..;have g1:((s.heap.push i0).push e0).get? (s.heap.objs.size+1)=some e0:=by rw[<- z1];exact aTI _ rfl
 have g0:((s.heap.push i0).push e0).get? s.heap.objs.size=some i0:=hps (aTI _ rfl);have up:∀c u,s.heap.get? c=some u->((s.heap.push i0).push e0).get? c=some u:=λc u z=>hps (hps z);have fin:(∃o,((s.heap.push i0).push e0).get? (s.heap.objs.size+1)=some o/\o.cls=.type "enumerate")/\Q (.ref (s.heap.objs.size+1)) {s with heap:=(s.heap.push i0).push e0}:=⟨⟨e0,g1,rfl⟩,q _ g1 ⟨i0,g0,rfl,rfl⟩ up⟩
 rw[<- z1]at fin;exact callType_new F.called_enumerate (by decide) (F.typeCall_enumerate_1 _) (F.newCall_enumerate_1 _) (λo=>F.args_object_init_2 o _) F.entry_enumerate_new (aJ5 a us) ⟨ha,fin⟩
end
def Ite(Sq:Hp->List V->Prop):It :=
 ⟨fun i H => ∃ xs x, Sq H xs ∧ xs[i]? = some x,
  λi H v H'=>∃p x,v=.ref p/\H p=none/\H'=upd H p (.tup [.int i,x])/\∀xs,Sq H xs->xs[i]? = some x,
  λi H=>∃xs,Sq H xs/\xs.length<=i⟩
section
variable {cx:Nat}
def xO{Sq:Hp->List V->Prop}(e it l:Addr)(hei:e≠it)(hel:e≠l)(hli:l≠it)(It':Nat->Heap->Prop)(At:Heap->Array aZN->Prop)(live:∀i h,It' i h->∃o,h.get? it=some o/\∀v,o.data ≠ .cell v)(keep:∀i h h',It' i h->(∀o,h.get? it=some o->h'.get? it=some o)->It' i h')(dr:∀A:aZP,A.handled=none->∀items:Array aZN,Draws P w A it [it,l] items.size (λi v=>items[i]? = some v) (λi h=>It' i h/\At h items))(dn:∀(A:aZP) (s:aZO) (items:Array aZN) (k:Nat) (Q E:VSP),A.handled=none->It' k s.heap->At s.heap items->items[k]? = none->(∀h' x,Heap.ExtBut it s.heap h'->(∃o,h'.get? x=some o/\o.cls=.type "StopIteration")->E (.ref x) {s with heap:=h'})->wpAny (model P w) A (Builtin.SmallTypes.nextOf (.ref it)) Q E s)(look:∀(X:Cx) (aA:LAO) (s:aZO) (σ:L2.St) (H:Hp) (xs:List V),X.prog=P->X.w=w->X.K=K->Inv X aA σ H s->Sq H xs->∃us,aJ xs us/\At s.heap us.toArray)(inj:∀(X:Cx) (aA:LAO) (s:aZO) (σ:L2.St) (H:Hp) (xs ys:List V),X.prog=P->X.w=w->X.K=K->Inv X aA σ H s->Sq H xs->Sq H ys->ys=xs):fN P w K (.Tuple elts cx pos) (Ite Sq) [e,it] e (λk h=>(∃old,IsEnum h e it k old)/\It' k h) where
 mem:=by simp
 obj:=λk h st b hb=>by
  obtain⟨⟨old,he⟩,hi⟩:=st;simp only[aTT,aXK,aXL]at hb;rcases hb with rfl|rfl
  . exact⟨_,he,λv e=>by cases e⟩
  . obtain⟨o,e,d⟩:=live k h hi;exact⟨o,e,d⟩
 keep:=λk h h' st q=>by obtain⟨⟨old,he⟩,hi⟩:=st;exact⟨⟨old,q e (by simp) _ he⟩,keep k h h' hi λo e=>q it (by simp) o e⟩
 item:=by
  intro X hP hw hK hc k aA s σ H E I hf st hg;obtain⟨⟨old,he⟩,hi⟩:=st;obtain⟨xs,x,ql,hx⟩:=hg;obtain⟨us,r1,p1⟩:=look X aA s σ H xs hP hw hK I ql;obtain⟨u,hu,ru⟩:=r1.get hx;have hlt:k<us.toArray.size:=by rw[aUG];exact(aTW.mp hu).1
  refine wpAny_pyNext_enum_itemD (dr X.A.in1 (I.ok.hd hc) us.toArray) he ⟨hi,p1⟩ hlt hei (by simp[hei,hel]) λx' h' tk hx' a1 a2 a3 a4 a5=>?_
  have:x'=u:=by rw[aXM]at hx';rw[hu]at hx';exact(aTZ hx').symm
  subst this;refine⟨_,rfl,wpAny_letOwnedTupleGo_enum (s:={s with heap:=h',toks:=tk+1}) a1 λh2 b1 b2=>?_⟩
  have en:s.heap.objs.size≠e:=λq=>absurd (aTJ he) (by rw[<- q];exact aTL _)
  have up:∀b o,b∉[e,it]->s.heap.get? b=some o->h2.get? b=some o:=λb o hb z=>by simp only[aTT,aXK,aXL,not_or]at hb;exact b2.extBut _ _ hb.1 (a5 b o hb.1 hb.2 z)
  have I2:=aJ2 (t':=tk+1) (xs:=[.int k,x]) I up hf (aUA _) ⟨[.int k tk,x'],.cons ⟨tk,rfl⟩ (.cons ru .nil),⟨_,b2.extBut _ _ en a3,rfl,rfl,_,rfl⟩⟩ (show 2<=sizeLine by decide +kernel)
  refine⟨.ref s.heap.objs.size,_,I2,rfl,⟨_,x,rfl,I.hok.fresh (aUA _),rfl,λzs q=>by rw[inj X aA s σ H xs zs hP hw hK I ql q];exact hx⟩,?_,λb hb=>?_⟩
  . have ek:((k:Int)+1)=((k+1:Nat):Int):=by omega
    rw[ek]at b1;exact⟨⟨x',b1⟩,keep _ _ _ a2.1 λo z=>b2.extBut _ o hei.symm z⟩
  . have hb0:=hb;obtain⟨o,z⟩:∃o,s.heap.get? b=some o:=by
      simp only[aTT,aXK,aXL]at hb;rcases hb with rfl|rfl
      . exact⟨_,he⟩
      . obtain⟨o,z,_⟩:=live _ _ hi;exact⟨o,z⟩
    rw[aH λq=>absurd (aTJ z) (by rw[q];exact aTL _)]
    exact(hf b hb0).1
 done:=by
  intro X hP hw hK hc k aA s σ H E I hf st hg;obtain⟨⟨old,he⟩,hi⟩:=st;obtain⟨xs,ql,hn⟩:=hg;obtain⟨us,r1,p1⟩:=look X aA s σ H xs hP hw hK I ql;have e1:=r1.length;have te:s.TypeIs (.ref e) "enumerate" := ⟨_,he,rfl⟩
  delta pyNext
  apply aT8;apply aXN;apply aVH (name:=Str.ofString "__next__") te F.slot_enumerate_next;refine aVJ F.slot_enumerate_next te F.entry_enumerate_next ?nx (F.args_enumerate_next_1 _);refine aT8 (m:=field (.ref e) 2) (aVE he rfl (x:=.ref it) rfl ?_);refine aT8 (dn X.A.in1 s us.toArray k _ _ (I.ok.hd hc) hi p1 (by simp;omega) λh' x he' hx'=>?_)
  obtain⟨o,ho,hc'⟩:=hx';refine aT8 (aV4 (T := "StopIteration") (b:=true) ⟨o,ho,hc'⟩ isSubtype_stop ?_);refine aT7 ⟨rfl,oF (t':=s.toks) I (λb o hb z=>he' b o (by
   simp only[aTT,aXK,aXL,not_or]at hb;exact hb.2) z) hf⟩
 self:=λ_ _ _ _ _ st h=>by obtain⟨⟨old,he⟩,_⟩:=st;exact aXO he h
def aJ7(e it l:Addr)(hei:e≠it)(hel:e≠l)(hli:l≠it):fN P w K (.Tuple elts cx pos) (Ite λH=>SqL K H l) [e,it] e (λk h=>(∃old,IsEnum h e it k old)/\h.IsListIter it l k) :=
 xO e it l hei hel hli (fun k h => h.IsListIter it l k) (fun h xs => h.IsList l xs) (fun i h st => by
     obtain⟨o,e,_,d⟩:=st;exact⟨o,e,λv q=>by rw[d]at q;cases q⟩) (λi h h' st k=>st.at k) (λA hA items=>Draws.list hA it l hli items)
  (λA s items k Q E hA st ha hx q=>wpAny_nextOf_list_end hA st ha hx q)
  (λX aA s σ H xs hP hw hK I q=>by
   subst hK;obtain⟨us,r,p,_⟩:=I.list q;exact⟨us,r,p.isList⟩)
  (λX aA s σ H xs ys hP hw hK I q q'=>by subst hK;exact I.list_inj q' q)
def aJ8(e it l:Addr)(hei:e≠it)(hel:e≠l)(hli:l≠it):fN P w K (.Tuple elts cx pos) (Ite λH=>SqT K H l) [e,it] e (λk h=>(∃old,IsEnum h e it k old)/\h.IsTupleIter it l k) :=
 xO e it l hei hel hli (fun k h => h.IsTupleIter it l k) (fun h xs => IsTup h l xs) (fun i h st => by
     obtain⟨o,e,_,d⟩:=st;exact⟨o,e,λv q=>by rw[d]at q;cases q⟩) (λi h h' st k=>st.at k) (λA hA items=>aJ4 hA it l hli items)
  (λA s items k Q E hA st ha hx q=>xM hA st ha hx q)
  (λX aA s σ H xs hP hw hK I q=>by
   subst hK;obtain⟨us,r,p,_⟩:=I.tuple q;exact⟨us,r,p⟩)
  (λX aA s σ H xs ys hP hw hK I q q'=>by subst hK;exact I.tuple_inj q' q)
end
def aJ9:bootBuiltins ("enumerate":Str)=some (.type "enumerate"):=by first|rfl|decide +kernel|kernel_rfl
def xP(K:Fg)(ta:TA):TI:=λσ H R=>ta σ H λvs H1=>∃a xs,vs=[.ref a]/\((SqL K H1 a xs/\R (Ite λH=>SqL K H a) H1)\/(SqT K H1 a xs/\R (Ite λH=>SqT K H a) H1))
def aKA{a:Expr}{ta:TA}{cx}{pp:Pos}(hg:Gl X "enumerate")(hm:X.mg "enumerate" = none)(ha:PA X [a] ta)(hs:starEach [a] X.env=[(false,eval a X.env)]:=by rfl):PI X (.Tuple elts cx pp) (.Call (.Name "enumerate" p) [a] [] pos) (xP X.K ta):=by
 intro aA s σ H R I h;refine Call_ (iY I hg hm aJ9 (aUC (thn (ha pos aA s σ H _ I h) λus s1 q1=>?_) (by rw[hs];rfl) (by rfl)))
 obtain⟨vs,H1,I1,r1,l,xs,rfl,q⟩:=q1;cases r1 with
 |cons r rr =>
  cases rr;cases r;have fb:∀b:Addr,s1.heap.objs.size<=b->cF X aA H1 b:=λb hb=>I1.fpOk hb (I1.hok.fresh hb);have fin:∀b:Addr,b∈[s1.heap.objs.size+1,s1.heap.objs.size]->cF X aA H1 b:=λb hb=>by
   simp only[aTT,aXK,aXL]at hb;rcases hb with rfl|rfl
   . exact fb _ (aW3 _)
   . exact fb _ (aUA _)
  rcases q with⟨ql,q⟩|⟨ql,q⟩
  . obtain⟨ls,_,p1,_⟩:=I1.list ql;have ll:l<s1.heap.objs.size:=by obtain⟨o,n,e,_⟩:=id p1;exact aTJ e
    refine call_enumerate_list p1.isList λh' a1 a2 a3 a4=>aXO (s:={s1 with heap:=h'}) a1 ?_
    exact⟨_,[s1.heap.objs.size+1,s1.heap.objs.size],_,_,H1,rfl,I1.kept (t':=s1.toks) a4,aJ7 _ _ l (Nat.succ_ne_self _) (aT6 (aWX ll)) (aTM ll),⟨⟨_,a1⟩,a2⟩,fin,q⟩
  . obtain⟨ls,_,p1,_⟩:=I1.tuple ql;have ll:l<s1.heap.objs.size:=by obtain⟨o,e,_⟩:=id p1;exact aTJ e
    refine aJ6 (show s1.heap.IsTuple l ls.toArray from p1) λh' a1 a2 a4=>aXO (s:={s1 with heap:=h'}) a1 ?_
    exact⟨_,[s1.heap.objs.size+1,s1.heap.objs.size],_,_,H1,rfl,I1.kept (t':=s1.toks) a4,aJ8 _ _ l (Nat.succ_ne_self _) (aT6 (aWX ll)) (aTM ll),⟨⟨_,a1⟩,a2⟩,fin,q⟩
def fB:Nat->List D->List D
 |_,[]=>[]
 |i,d::ds=>.tup [.int i,d]::fB (i+1) ds
theorem oG:∀{ds:List D}{i:Nat},(fB i ds).length=ds.length
 |[],_=>rfl
 |d::ds,i=>by simp only[fB,aUJ,oG]
theorem xQ:∀{ds:List D}{j i:Nat}{d:D},ds[i]? = some d->(fB j ds)[i]? = some (.tup [.int ((j+i:Nat):Int),d])
 |[],_,_,_,h=>by simp at h
 |x::ds,j,0,d,h=>by simp at h;subst h;rfl
 |x::ds,j,i+1,d,h=>by
  have:=xQ (ds:=ds) (j:=j+1) (i:=i) (by simpa using h)
  have e:j+1+i=j+(i+1):=by omega
  rw[e]at this;simpa[fB]using this
def xR{F:Hp}{Sq:Hp->List V->Prop}{xs:List V}(qa:∀H,aD F H->Sq H xs)(ra:aC K F ds xs):jC K F (Ite Sq) (fB 0 ds) where
 go:=λi H s hi=>by
  rw[oG]at hi;have h1:i<xs.length:=by rw[ra.length];omega
  exact⟨xs,xs[i],qa H s,by simp[h1]⟩
 stop:=λi H s hi=>by rw[oG]at hi;exact⟨xs,qa H s,by rw[ra.length];omega⟩
 yld:=λi Fc H x H' s1 s2 hi y=>by rw[oG]at hi;obtain⟨p,u,rfl,hp,rfl,hx⟩:=y;have ex:=hx xs (qa H (s1.trans s2));obtain⟨u',e1,r1⟩:=ra.get' (aWL hi);rw[ex]at e1;cases e1;refine⟨_,_,xQ (aWL hi),aE.laid (.tup [.int i,u]) s2 hp,?_⟩;refine aB.tup_of (s2.free hp) ?_;simp only[aC];exact⟨.int i,[u],rfl,by simp only[aB,aW6],u,[],rfl,r1.mono s1 _ _,rfl⟩
def oH(r:bE):Res:=r.thn λxs=>match xs with
 |[(.fz,.lst ds)]=>.ok .fz (.lst (fB 0 ds))
 |[(.fz,.tup ds)]=>.ok .fz (.lst (fB 0 ds))
 |_=>.stuck
def aKB{a:Expr}{cx}{pp:Pos}(hg:Gl X "enumerate")(hm:X.mg "enumerate" = none)(ha:PAv C X [a] gs)(hs:starEach [a] X.env=[(false,eval a X.env)]:=by rfl):PIv C X (.Tuple elts cx pp) (.Call (.Name "enumerate" p) [a] [] pos) (λρ=>oH (gs ρ)):=by
 refine PI.imp (aKA hg hm ha hs) λσ H R q=>?_;obtain⟨ρ,F,RS,w⟩:=q;dsimp only at w;unfold xP;refine⟨ρ,F,RS,?_⟩;cases er:gs ρ with
 |stuck=>rw[er]at w;exact w
 |exc c=>rw[er]at w;exact w
 |ok xs =>
  rw[er]at w;intro vs F' H' st rp;unfold oH at w;rw[bE.thn_ok]at w;split at w
  . rename_i ds;obtain⟨v,rfl,r⟩:=rp.one;have r:aB X.K F' (.lst ds) v:=r;simp only[aB]at r;obtain⟨a1,x1,rfl,q1,l1⟩:=r;exact⟨a1,x1,rfl,.inl ⟨st.sub.seq q1,w _ F' H' st (xR (λH s=>s.seq q1) l1)⟩⟩
  . rename_i ds;obtain⟨v,rfl,r⟩:=rp.one;have r:aB X.K F' (.tup ds) v:=r;simp only[aB]at r;obtain⟨a1,x1,rfl,q1,l1⟩:=r;exact⟨a1,x1,rfl,.inr ⟨aD.seqT st.sub q1,w _ F' H' st (xR (λH s=>aD.seqT s q1) l1)⟩⟩
  . exact w.elim
open PySem.Calls PySem.W
section
variable {A:aZP}{E:VSP}{x D:Addr}{ox:Obj}{od:Option Obj}
def XAt(h:Heap)(x:Addr)(ox:Obj)(D:Addr):Prop:=h.get? x=some ox/\ox.cls=.ref D
structure XCls(K:Fg)(D:Addr):Prop where
 ga:W.findIn K (.ref D) "__getattribute__" = some (some (.builtin "BaseException.__getattribute__"))
 gn:W.findIn K (.ref D) "__getattr__" = some none
 ca:W.findIn K (.ref D) "__class__" = some (some (.builtin "object.__class__"))
 bx:W.mroIn K D (.type "BaseException")=some true
 ob:W.mroIn K D (.type "object")=some true
 hn:W.specialIn K (.builtin "object.__class__") "__get__" = some (some (.builtin "getset_descriptor.__get__"))
 tk:W.takesIn K (.builtin "object.__class__")=some true
end
open PySem.Calls
structure Fly(P:aZR)(w:aZQ)(outer:List Env)(H:Hp)(s:aZO)(H1:Hp)(B hp:Heap):Prop where
 un:Un (frs outer) [] H H1 s.heap hp
 ok:HOk P w H1 hp
 kb:∀b o,hp.get? b=some o->s.heap.get? b≠none->b∉frs outer->B.get? b=some o
 kh:∀b u,H1 b=some u->∃o,hp.get? b=some o/\B.get? b=some o
 fr:∀b∈frs outer,H b=none/\∃o,s.heap.get? b=some o/\∀vs,o.data ≠ .fields vs
section
variable  {H1:Hp}{B:Heap}
def gQ:b∉([]:List Addr):=by simp
theorem Fly.slots(f:Fly P w outer H s H1 B hp)(up:hp.UpToSlots h')(hb:b∈frs outer):∃o sl sl',s.heap.get? b=some o/\hp.get? b=some {o with slots:=sl}/\h'.get? b=some {o with slots:=sl'}:=by obtain⟨hn,o,e,nf⟩:=f.fr b hb;obtain⟨sl,e1⟩:=f.un.slot b o e hn hb gQ;obtain⟨sl',e2⟩:=up b _ e1 nf;exact⟨o,sl,sl',e,e1,e2⟩
def Fly.on(f:Fly P w outer H s H1 B hp)(st:B.StaysIn h')(up:hp.UpToSlots h'):Fly P w outer H s H1 B h' where
 un:={
  keep:=λb o e n hb _=>st b o (f.kb b o (f.un.keep b o e n hb gQ) (by rw[e];exact λz=>nomatch z) hb)
  slot:=λb o e n hb _=>by obtain⟨o',sl,sl',e0,_,e2⟩:=f.slots up hb;rw[e]at e0;cases e0;exact⟨sl',e2⟩
  free:=f.un.free
  there:=λb o e _=>by
   by_cases hb:b∈frs outer
   . obtain⟨o',sl,sl',e0,_,e2⟩:=f.slots up hb;exact⟨_,e2⟩
   . obtain⟨o',e1⟩:=f.un.there b o e gQ;exact⟨o',st b o' (f.kb b o' e1 (by rw[e];exact λz=>nomatch z) hb)⟩
  tups:=f.un.tups
  frzs:=f.un.frzs
  tbls:=f.un.tbls }
 ok := fun a o e => (f.ok a o e).stay (fun b u hb q => by
     have:∃u',H1 b=some u':=by
      rcases hb with rfl|hb
      . exact⟨o,e⟩
      . exact⟨_,hb⟩
     obtain⟨u',eu⟩:=this;obtain⟨o',e1,e2⟩:=f.kh b u' eu;rw[q]at e1;cases e1;exact st b u e2) (λ_ q=>q) λ_ _ q=>q
 kb:=λb o e ns hb=>by
  cases e0:s.heap.get? b with
  |none=>exact absurd e0 ns
  |some o0=>obtain⟨o',e1⟩:=f.un.there b o0 e0 gQ;have e2:=f.kb b o' e1 ns hb;have e3:=st b o' e2;rw[e]at e3;cases e3;exact e2
 kh:=λb u e=>by obtain⟨o,_,e2⟩:=f.kh b u e;exact⟨o,st b o e2,e2⟩
 fr:=f.fr
end
def CX1(P:aZR)(w:aZQ):CXT:=λouter H s E ev s'=>∃(e C:Addr) (a0:aZN) (H1:Hp) (B:Heap),
 ev=.ref e/\s'.os=s.os/\AllBare s'.gens/\Heap.FlyingW B outer e (.ref C) a0 s'.heap/\Fly P w outer H s H1 B s'.heap/\E (.ref C) none H1
section
variable  {H1:Hp}{B:Heap}{E:XK}
def aKC(I:Inv X aA σ H s):∀b∈frs X.stack,H b=none/\∃o,s.heap.get? b=some o/\∀vs,o.data ≠ .fields vs:=λb hb =>
 ⟨I.stkFree b hb,(I.stack.mem hb).2⟩
def Fly.inv(I:Inv X aA σ H s)(f:Fly X.prog X.w X.stack H s H1 B s'.heap)(ho:s'.os=s.os)(hg:AllBare s'.gens):Inv X aA σ H1 s' :=
 Inv.call' (ch:=[]) I ho f.un f.ok hg (λb z=>absurd z gQ)
def Fly.out(I:Inv X aA σ H s)(f:Fly X.prog X.w X.stack H s H1 B s'.heap)(ho:s'.os=s.os)(hg:AllBare s'.gens)(hx:X.ex=[])(hs:X.stack=X.env::X.outer)(hf:X.env.frame=some X.env.locals)(st:B.StaysIn h')(up:s'.heap.UpToSlots h'):Fly X.prog X.w X.outer X.H₀ X.s₀ H1 B h':=by
 have I1:=f.inv I ho hg;have f1:=f.on st up;have ub:=I1.base;rw[hx]at ub;have old:∀b o,X.s₀.heap.get? b=some o->∃o',s.heap.get? b=some o':=λb o e=>I.base.there b o e (by rw[hx];exact gQ)
 have nl:∀b o,X.s₀.heap.get? b=some o->b≠X.env.locals:=λb o e z=>absurd (aTJ e) (by rw[z];exact aWY.mpr I.ok.above)
 have sub:∀b,b∉frs X.outer->b≠X.env.locals->b∉frs X.stack:=λb h1 h2 z=>by
  rcases aTT.mp (I.stkSub b z)with q|q
  . exact h2 q
  . exact h1 q
 have sup:∀b,b∈frs X.outer->b∈frs X.stack:=λb hb=>by rw[hs];unfold frs;rw[aTS,hf];exact mcm hb
 refine⟨⟨λb o e n hb _=>?_,λb o e n hb _=>?_,ub.free,λb o e _=>?_,ub.tups,ub.frzs,ub.tbls⟩,f1.ok,λb o e ns hb=>?_,f1.kh,λb hb=>?_⟩
 . have e1:=ub.keep b o e n hb gQ;obtain⟨o',e0⟩:=old b o e;exact st b o (f.kb b o e1 (by rw[e0];exact λz=>nomatch z) (sub b hb (nl b o e)))
 . obtain⟨sl,e1⟩:=ub.slot b o e n hb gQ;obtain⟨o',sl1,sl2,e0,e1',e2⟩:=f.slots up (sup b hb);have q:=aTZ (e1.symm.trans e1');refine⟨sl2,?_⟩;rw[e2];obtain⟨c1,d1,t1,l1⟩:=o;obtain⟨c2,d2,t2,l2⟩:=o';simp only[Obj.mk.injEq]at q;obtain⟨rfl,rfl,rfl,_⟩:=q;rfl
 . obtain⟨o',e0⟩:=old b o e;exact f1.un.there b o' e0 gQ
 . cases e0:X.s₀.heap.get? b with
   |none=>exact absurd e0 ns
   |some o0=>obtain⟨o',e1⟩:=old b o0 e0;exact f1.kb b o e (by rw[e1];exact λz=>nomatch z) (sub b hb (nl b o0 e0))
 . exact⟨I.ok.frf b hb,(I.ok.funs.mem hb).2⟩
def l7(h:Heap)(l:List Env):Heap:=W.hideAll h (frs l)
def Fly.raise(I:Inv X aA σ H s)(hx:X.ex=[])(hs:X.stack=X.env::X.outer)(hf:X.env.frame=some X.env.locals)(st:(l7 s.heap X.stack).StaysIn h')(up:s.heap.UpToSlots h'):Fly X.prog X.w X.outer X.H₀ X.s₀ H (l7 s.heap X.stack) h':=by
 have f:Fly X.prog X.w X.stack H s H (l7 s.heap X.stack) s.heap :=
  ⟨Un.refl,I.hok,λb o e _ hb=>W.hideAll_get _ e hb,λb u e=>by
   have hn:b∉frs X.stack:=λz=>by rw[I.stkFree b z]at e;cases e
   have:∃o,s.heap.get? b=some o:=by
    have:=I.hok b u e;cases u with
    |lst xs=>obtain⟨_,_,_,_,e⟩:=this;exact⟨_,e⟩
    |tup xs=>obtain⟨_,_,_,o,e,_⟩:=this;exact⟨_,e⟩
    |dK kvs=>obtain⟨_,_,_,_,o,_,_,e,_⟩:=this;exact⟨_,e⟩
    |dT kvs=>obtain⟨_,_,_,_,o,_,_,e,_⟩:=this;exact⟨_,e⟩
    |dN kvs=>obtain⟨_,_,_,_,o,_,_,e,_⟩:=this;exact⟨_,e⟩
    |set S n=>obtain⟨o,_,_,_,e,_⟩:=this;exact⟨_,e⟩
    |ins C dx fs=>obtain⟨_,_,_,e,_⟩:=this;exact⟨_,e⟩
    |own y=>obtain⟨_,e⟩:=this;exact⟨_,e⟩
    |xd fs=>obtain⟨_,⟨_,_,_,e,_⟩,_⟩:=this;exact⟨_,e⟩
    |rng lo hi=>obtain⟨_,_,_,e⟩:=this;exact⟨_,e⟩
    |frz ob u=>obtain⟨e,_⟩:=this;exact⟨_,e⟩
    |tbl ps=>obtain⟨_,_,_,e,_⟩:=this;exact⟨_,e⟩
    |crec q=>obtain⟨_,_,_,e,_⟩:=this;exact⟨_,e⟩
    |met f y=>exact⟨_,this⟩
    |ext φ=>obtain⟨_,⟨_,e⟩,_⟩:=this;exact⟨_,e⟩
   obtain⟨o,eo⟩:=this;exact⟨o,eo,W.hideAll_get _ eo hn⟩,aKC I⟩
 exact f.out I rfl I.bare hx hs hf st up
end
noncomputable def vErr:List aZN:=[.type "ValueError", .type "Exception", .type "BaseException", .type "object"]
def xS(K:Fg)(C:Addr):Prop:=W.excIn K C vErr "ValueError.__new__" = true
def RzOk(C:Cw)(X:Cx):Prop:=∀(aA:LAO) (σ:L2.St) (H:Hp) (s:aZO) (c:Str) (Cc:Addr) (vs:List aZN) (h':Heap) (e:Addr),Inv X aA σ H s->X.mg c=some (.ref Cc)->C.EE c σ H ->
 Heap.MadeExcOf s.heap h' e (.ref Cc) vs->X.xe (.ref e) {s with heap:=h'}
section
variable {es:List Expr}{x:Str}{np:Pos}
structure FnCx(X:Cx):Prop where
 hx:X.ex=[]
 hs:X.stack=X.env::X.outer
 hf:X.env.frame=some X.env.locals
end
section
variable {N:List Str}{f:Addr}{A:aZP}{E:XK}
def fnCx:FnCx (cO (CX1 P w) P w K mg base N qual scope f cdv A outer s H E):=⟨rfl,rfl,rfl⟩
def iB(mg:SOV)(E:XK):XE:=λc _ H'=>∀u,mg c=some u->E u none H'
def rP(hE:C.EE=iB mg E):XOk (CX1 P w) C (cO (CX1 P w) P w K mg base N qual scope f cdv A outer s H E):=by intro aA σ H1 s1 ev s' I h;obtain⟨e,Cc,a0,H2,B,rfl,ho,hg,fl,fy,c,hm,he⟩:=h;rw[hE]at he;have I0:=I.ok.frames;refine wpAny_leaves_onW I0 rfl fl λh' fl' up=>?_;exact⟨e,Cc,a0,H2,B,rfl,ho.trans I.os,hg,fl',fy.out I ho hg rfl rfl rfl fl'.1 up,he _ hm⟩
def xT(hE:C.EE=iB mg E):RzOk C (cO (CX1 P w) P w K mg base N qual scope f cdv A outer s H E):=by
 intro aA σ H1 s1 c Cc vs h1 e I hm he made;rw[hE]at he;have I0:=I.ok.frames;have hin:∀env∈(cO (CX1 P w) P w K mg base N qual scope f cdv A outer s H E).stack,∀a,env.frame=some a->a∈frs (cO (CX1 P w) P w K mg base N qual scope f cdv A outer s H E).stack:=λenv he a ha=>aUD.mpr ⟨env,he,ha⟩;have FF:s1.heap.FunFrames (l7 s1.heap (cO (CX1 P w) P w K mg base N qual scope f cdv A outer s H E).stack) _:=W.funFrames_hide I.stack hin;have st0:(l7 s1.heap (cO (CX1 P w) P w K mg base N qual scope f cdv A outer s H E).stack).StaysIn s1.heap:=λb o q=>W.of_hideAll _ q;refine wpAny_leaves_madeW (s:={s1 with heap:=h1}) I0 rfl st0 FF made λh' t fl _ _ up=>?_
 have up0:s1.heap.UpToSlots h':=(Heap.UpToSlots.of_keeps made.keeps).trans up;exact⟨e,Cc,.ref t,H1,_,rfl,I.os,I.bare,fl,Fly.raise I rfl rfl rfl fl.1 up0,he _ hm⟩
end
structure HX where
 cls:Str
 slot:Option Nat
 g:Rho->aF
def rQ(K:Fg)(mg:SOV)(xt:Str->Str->Option Bool):Prop:=∀c x b,xt c x=some b->∃C C2,W.nsIn K mainGlobals c=some (some (.ref C))/\mg c=some (.ref C)/\mg x=some (.ref C2) /\
 W.mroIn K C2 (.type "BaseException")=some true/\W.typeIn K (.ref C2)=some (.type "type")/\W.mroIn K C (.ref C2)=some b
section
variable {e:Addr}
end
section
variable  {H1:Hp}{s0:aZO}{e Cc:Addr}{a0:aZN}{B:Heap}
end
section
variable {D:eX}{hs:List ExceptHandler}{hx:List HX}{xt:Str->Str->Option Bool}
end
def oJ(mg:SOV)(n:Str)(cv:V):Prop:=(∃C,mg n=some (.ref C)/\cv=.ref C)\/(mg n=none/\n ≠ "__name__" /\ ∃T,bootBuiltins n=some (.type T)/\cv=.ty T)
def xU:V->aZN|.ref a=>.ref a|.ty T=>.type T|_=>.none
def rR(K:Fg)(mg:SOV)(xis:Str->Str->Option Bool):Prop:=∀c n b,xis c n=some b->∃C cv,W.nsIn K mainGlobals c=some (some (.ref C))/\XCls K C/\oJ mg n cv/\W.kitOne K (.ref C) (xU cv)=some b
section
variable  {q tp:Pos}{n:Str}{xis:Str->Str->Option Bool}
end
def aKD{x:Str}{f:Addr}{N:List Str}{g:Rho->aF}(F:Fun K x qual st f fd)(S:jZ N ps (dZ st))(hbody:∀(C:Cw) (cdv:aZN),W.codeIn K cdv qual=true->∀(A:aZP) (outer:List Env) (s:aZO) (H:Hp) (E:XK),C.EE=iB mg E->bD k (A.deeper (envOfC qual (dZ st) s.heap.objs.size f cdv))->PBv C (cO (CX1 P w) P w K mg base N qual (dZ st) f cdv A outer s H E) (i6 st) g):cR P w K mg base (CX1 P w) (k+1) f fd ps (spV K mg ps.length (phi ps.length N.length g)):=by
 obtain⟨oc,od,kV,doc,pm,an,cdv,ct,osl,rfl,lk,hcd⟩:=F.ex;refine vR lk hcd S (λvs H Q E h=>h.1) λA outer s H vs Q E hr h=>?_;obtain⟨hl,F0,ds,sF,rl,h⟩:=h;have hl':ds.length=ps.length:=by rw[<- rl.length];exact hl
 let C:Cw:=⟨K,F0,H,iB mg E⟩
 refine⟨_,hbody C cdv hcd A outer s H E rfl hr,dM N.length ds,F0,wY sF rl,?_⟩;unfold phi at h;rw[if_pos hl']at h;cases er:g (dM N.length ds)with
 |nx ρ=>rw[er]at h;exact λσ' F' H' _ R=>h.2 .non F' H' R.st wG (by nofun)
 |rt m d=>rw[er]at h;exact λv F' H' s rp fr=>h.2 v F' H' s rp fr
 |bk ρ=>rw[er]at h;exact h.elim
 |ct ρ=>rw[er]at h;exact h.elim
 |exc c ρ=>rw[er]at h;exact λσ' F' H' _ R u hu=>h F' H' u R.st hu
 |stuck=>rw[er]at h;exact h.elim
noncomputable def eF(ρ:Rho)(i:Nat)(r:Res):aF:=match ρ[i]? with
 |some (some (true,.lst ds))=>(aK r).thS ρ λm d=>match m with|.fz=>if ds.length<sizeLine then .nx (ρ.set i (some (true,.lst (ds++[d]))))else .stuck|_=>.stuck
 |_=>.stuck
def rS{r:Res}{m:Md}{d:D}(h:aK r=.ok m d):m=.fz:=by
 cases r with
 |ok m' d'=>cases m' <;> cases h <;> rfl
 |exc c=>cases h
 |stuck=>cases h
section
variable {x:Str}{cp:Pos}
def aKE(i:Nat)(hv:PE X (.Name x p) (jW i))(he:PV C X e g)(hs:bC e=true)(hline:ap.endLine=cp.line):PSv C X (.Expr (.Call (.Attribute (.Name x p) "append" ap) [e] [] cp) pos) (λρ=>eF ρ i (g ρ)):=by
 have h1 := wA (X := X) (o := .Name x p) (e := e) (es := []) (apos := ap) (cpos := cp) PySem.F.plainAttrs_list PySem.F.slot_list_append PySem.F.type_list_append rA hv (gN (fP he) fO (bG hs)) (j8 rfl) (by
     rw[j7 _ _ (λy hy=>by simp only[aTT,aXK,aXL]at hy;subst hy;exact hs)];rfl) (aUI.mpr hline) (bG hs) rfl
 refine PS.imp (qQ h1) λE σ H q=>?_;obtain⟨ρ,F,R,w⟩:=q;dsimp only at w;unfold qP tBM;cases e0:ρ[i]? with
 |none=>unfold eF at w;rw[e0]at w;exact w.elim
 |some o =>
  cases o with
  |none=>unfold eF at w;rw[e0]at w;exact w.elim
  |some bd =>
   obtain⟨b,d0⟩:=bd;cases b with
   |false=>unfold eF at w;rw[e0]at w;exact w.elim
   |true =>
    cases d0 with
    |lst ds =>
     unfold eF at w;rw[e0]at w;dsimp only at w;obtain⟨v0,ev0,rp0,hn0⟩:=R.slot i true _ e0;obtain⟨a,ea,hfa,xs,hh,rl⟩:=rp0;subst ea;refine⟨.ref a,ev0,.inl ⟨rfl,xs,SqL.of hh⟩,?_⟩;unfold eB;refine j5 R w λm d v F' H' w' s R' rp fr=>?_;cases m with
     |fr=>exact(show False from w').elim
     |bo=>exact(show False from w').elim
     |fz =>
     dsimp only at w';split at w'
     . rename_i hl;have hh':H' a=some (.lst xs):=s.same _ _ hh;refine⟨a,xs,v,rfl,rfl,hh',by rw[rl.length];exact hl,?_⟩
       exact w' σ F' _ (aD.refl _) (R'.mut e0 ev0 ⟨_,aT,aC.append (rl.mono s.fsame _ _) (aC.cons rp aC.nil)⟩)
     . exact w'.elim
    |_=>unfold eF at w;rw[e0]at w;exact w.elim
end
def Hld(B:Heap)(l:List Env)(e:Addr)(cls a0:aZN)(h:Heap):Prop:=B.StaysIn h/\B.get? e=none/\h.FunFrames B l/\∃fl,h.TracedAtW B e cls a0 fl
section
variable {M:Model}{A:aZP}{E:VSP}{B:Heap}{L e:Addr}{cls a0:aZN}
def aKF(hfr:A.frames=some (env::outer))(hf:env.frame=some L)(hh:Hld B (env::outer) e cls a0 s.heap)(hQ:∀h',Heap.HeldW B (env::outer) e cls a0 L h'->s.heap.UpToSlots h'->Q () {s with heap:=h'}):wpAny M A (noteFrame (.ref e) env) Q E s:=by
 obtain⟨k1,k2,k3,fl,ht⟩:=hh;by_cases hl:fl=rawInt L
 . subst hl;exact wpAny_noteFrame_againW hf ht (hQ s.heap ⟨k1,k2,k3,ht⟩ (Heap.UpToSlots.refl _))
 obtain⟨oe,xs,T,oT,ys,q1,⟨q2,q3⟩,q4,q5,q6,q7,q8,q9,q10⟩:=ht;subst q2;unfold noteFrame;simp only[hf];refine aT8 (aVE q1 q4 q5 ?_);have n1:(Value.ref T != Value.none)=true:=by simp
 have n2:¬ ((fl==rawInt L)=true):=by rw[aUI];exact hl
 rw[if_pos n1];refine aT8 (aVE q8 q9 q10 ?_);rw[if_neg n2];obtain⟨lt3,_⟩:=aTP.mp q10;obtain⟨lt1,_⟩:=aTP.mp q5;refine aT8 (aXD q8 q9 lt3 ?_);generalize hg:s.heap.update T (Obj.mapFields λz=>z.setIfInBounds 3 Value.none)=g;have oth:∀b,b≠T->g.get? b=s.heap.get? b:=λb hb=>by rw[<- hg];exact aVS _ _ (Ne.symm hb)
 have plain:∀b o,s.heap.get? b=some o->(∀z,o.data ≠ .fields z)->g.get? b=some o:=λb o w1 w2=>by rw[oth b (by rintro rfl;rw[q8]at w1;cases w1;exact w2 ys q9)];exact w1
 have inB:∀b o,B.get? b=some o->g.get? b=some o:=λb o w=>by rw[oth b (by rintro rfl;rw[q6]at w;cases w)];exact k1 b o w
 refine wpAny_entryW (s:={s with heap:=g}) hfr (k3.of_keeps λb o w1 w2=>⟨o,plain b o w1 w2,rfl⟩) hf (by show g.get? e=_;rw[oth e (Ne.symm q7)];exact q1) inB k2 q4 lt1 q3 λh' hn=>?_
 obtain⟨m1,m2,m3,m4⟩:=hn;exact hQ h' ⟨m1,k2,m2,m3⟩ λb o w1 w2=>m4 b o (plain b o w1 w2) w2
def aKG(hfr:A.frames=some (env::outer))(hf:env.frame=some L)(hh:Hld B (env::outer) e cls a0 s.heap)(hQ:∀h',Heap.FlyingW B outer e cls a0 h'->s.heap.UpToSlots h'->Q () {s with heap:=h'}):wpAny M A (leaving env (.ref e)) Q E s:=by
 unfold leaving;refine aT8 (aKF hfr hf hh λh4 held up4=>?_);refine wpAny_landsW (s:={s with heap:=h4}) held λh5 fl up5=>?_
 obtain⟨w1,w2,w3,w4⟩:=fl;exact hQ h5 ⟨w1,w2,w3.2.2,w4⟩ (up4.trans up5)
end
def HX1(P:aZR)(w:aZQ):CXT:=λouter H s E ev s'=>∃(e C:Addr) (a0:aZN) (H1:Hp) (B:Heap),
 ev=.ref e/\s'.os=s.os/\AllBare s'.gens/\Hld B outer e (.ref C) a0 s'.heap/\Fly P w outer H s H1 B s'.heap/\E (.ref C) none H1
section
variable {N:List Str}{f:Addr}{A:aZP}{E:XK}
def xV(hE:C.EE=iB mg E):XOk (HX1 P w) C (cO (CX1 P w) P w K mg base N qual scope f cdv A outer s H E):=by intro aA σ H1 s1 ev s' I h;obtain⟨e,Cc,a0,H2,B,rfl,ho,hg,fl,fy,c,hm,he⟩:=h;rw[hE]at he;refine aKG I.ok.frames rfl fl λh' fl' up=>?_;exact⟨e,Cc,a0,H2,B,rfl,ho.trans I.os,hg,fl',fy.out I ho hg rfl rfl rfl fl'.1 up,he _ hm⟩
end
section
variable {D:eX}{hs:List ExceptHandler}{hx:List HX}{xt:Str->Str->Option Bool}
end
section
variable  {H1:Hp}{B:Heap}{Z:Addr}
end
section
variable {XE:VSP}
end
end D3
namespace L2
open D3
section
variable {A:aZP}{R:Result->aZO->Prop}
end
end L2
namespace D3
end D3
namespace PySem
open PySem.Sem (wp)
open Builtin
end PySem
namespace L2
end L2
namespace D3
open PySem.Calls
section
variable  {gk:Rho->Res}{x:Str}{cp:Pos}
end
section
variable {A:aZP}{R:Result->aZO->Prop}{J:Addr}{wr:List Addr}{P:Nat->aZN->Prop}{St:Nat->Heap->Prop}{ns:List Int}{S:Addr}
end
section
variable {A:aZP}{E:VSP}
end
section
variable  {q kp:Pos}{j:_}
end
theorem aC.drop{K:Fg}{F:Hp}:∀(n:Nat) {ds:List D}{xs:List V},aC K F ds xs->aC K F (ds.drop n) (xs.drop n)
 |0,_,_,h=>h
 |n+1,[],xs,h=>by simp only[aC]at h;subst h;simp[aC]
 |n+1,d::ds,xs,h=>by simp only[aC]at h;obtain⟨v,vs,rfl,_,t⟩:=h;exact aC.drop n t
theorem aC.take{K:Fg}{F:Hp}:∀(n:Nat) {ds:List D}{xs:List V},aC K F ds xs->aC K F (ds.take n) (xs.take n)
 |0,_,_,_=>by simp[aC]
 |n+1,[],xs,h=>by simp only[aC]at h;subst h;simp[aC]
 |n+1,d::ds,xs,h=>by simp only[aC]at h;obtain⟨v,vs,rfl,r,t⟩:=h;simp only[List.take_succ_cons,aC];exact⟨v,_,rfl,r,aC.take n t⟩
def dO(xs:List D)(lo hi:Option Int):List D:=(xs.drop (HT.sIx xs.length 0 lo)).take (HT.sIx xs.length xs.length hi-HT.sIx xs.length 0 lo)
def aC.cut{F:Hp}{xs:List V}(h:aC K F ds xs)(lo hi:Option Int):aC K F (dO ds lo hi) (gO xs lo hi):=by unfold dO gO;rw[h.length];exact(h.drop _).take _
def l8(n:Nat)(lo hi:Option Int):Bool:=HT.sIx n 0 lo==0&&HT.sIx n n hi==n
noncomputable def slP(x:Res)(lo hi:Option (Rho->Res))(ρ:Rho):Res:=x.thn λm d=>match d with
 |.str z=>cS lo ρ λl=>cS hi ρ λh=>.ok .fz (.str (Txt.slice z l h))
 |.lst ds=>cS lo ρ λl=>cS hi ρ λh=>.ok .fr (.lst (dO ds l h))
 |.tup ds=>cS lo ρ λl=>cS hi ρ λh=>if(l8 ds.length l h&&m != .fz)=true then .stuck else .ok .fz (.tup (dO ds l h))
 |_=>.stuck
section
variable {a:Expr}
def aKH{lo hi:Option Expr}{gl gh:Option (Rho->Res)}(ha:PV C X a ga)(hl:POv C X lo gl)(hh:POv C X hi gh):PV C X (.Subscript a (.Slice lo hi none p2) pos) (λρ=>slP (ga ρ) gl gh ρ):=by
 refine PE.imp (aFU (aHG.or (aF4.or (aFV.or aJL))) ha (wM hl) (wM hh)) λσ H Q q=>?_;unfold tSl;rw[aR]at q ⊢;obtain⟨ρ,F,R,w⟩:=q
 try dsimp only at w
 refine⟨ρ,F,R,?_⟩;cases er:ga ρ with
 |stuck=>rw[er]at w;exact w
 |exc c=>rw[er]at w;exact w
 |ok m d =>
  rw[er]at w;intro v F1 H1 s1 rp _;cases d with
  |str z=>obtain⟨rfl,hz,hk⟩:=rp.str;have w1:aQ (C.at X) F1 H1 σ (cS gl ρ λl=>cS gh ρ λh=>.ok .fz (.str (Txt.slice z l h))) Q:=aQ.step s1 w;refine j4 (R.step s1) w1 λl F2 H2 s2 R2 w2=>j4 R2 w2 λh F3 H3 s3 R3 w3=>.inl ?_;exact⟨z,rfl,hz,w3 _ F3 H3 (.refl R3.sub) (j2 ⟨aTQ (aWF z _ _) hz,aHH hk⟩) (by nofun)⟩
  |lst ds=>have w1:aQ (C.at X) F1 H1 σ (cS gl ρ λl=>cS gh ρ λh=>.ok .fr (.lst (dO ds l h))) Q:=aQ.step s1 w;refine j4 (R.step s1) w1 λl F2 H2 s2 R2 w2=>j4 R2 w2 λh F3 H3 s3 R3 w3=>.inr (.inl ?_);obtain⟨p,xs,rfl,hq,rl⟩:=((rp.step s2).step s3).seqL R3.sub;exact⟨p,xs,rfl,hq,λp' hp'=>w3 (.ref p') F3 _ (aE.fresh _ R3.sub hp') ⟨p',rfl,R3.sub.free hp',_,aT,rl.cut l h⟩ λ_ a ea=>by cases ea;exact hp'⟩
  |tup ds =>
   have w1:aQ (C.at X) F1 H1 σ (cS gl ρ λl=>cS gh ρ λh=>if(l8 ds.length l h&&m != .fz)=true then .stuck else .ok .fz (.tup (dO ds l h))) Q:=aQ.step s1 w;refine j4 (R.step s1) w1 λl F2 H2 s2 R2 w2=>j4 R2 w2 λh F3 H3 s3 R3 w3=>.inr (.inr ?_);obtain⟨p,xs,rfl,hq,rl⟩:=((rp.step s2).step s3).seqT R3.sub;have lw:l8 ds.length l h=true↔HT.sIx xs.length 0 l=0/\HT.sIx xs.length xs.length h=xs.length:=by rw[rl.length];unfold l8;simp
   cases hw:l8 ds.length l h with
   |true =>
    cases m with
    |fz =>
     rw[hw,if_neg (by decide)]at w3
     have e:=lw.mp hw;have ec:dO ds l h=ds:=by unfold dO;rw[<- rl.length,e.1,e.2,rl.length,aW4,Nat.sub_zero];exact aXP
     rw[ec]at w3;exact .inr ⟨p,xs,rfl,hq,e,w3 (.ref p) F3 H3 (.refl R3.sub) ((rp.step s2).step s3) (by nofun)⟩
    |fr=>rw[hw,if_pos (by decide)]at w3;exact w3.elim
    |bo=>rw[hw,if_pos (by decide)]at w3;exact w3.elim
   |false =>
    rw[hw,if_neg (by simp)]at w3
    refine .inl ⟨p,xs,rfl,hq,λz=>?_,λp' hp'=>w3 (.ref p') _ _ (aE.laid (.tup (gO xs l h)) R3.sub hp') (aB.tup_of (R3.sub.free hp') (rl.cut l h)) (by nofun)⟩
    rw[lw.mpr z]at hw;cases hw
  |_=>exact(show False from w).elim
end
section
variable {a b:Expr}
def oK:List (Md×D)->Option (Md×D)
 |[(_,.dct kvs)]=>some (.fr,.dct kvs)
 |_=>none
def aKI:dB X (.type "dict") oK:=by
 refine⟨λvs H Q=>∃a xs,vs=[.ref a]/\H a=some (.dK xs)/\∀p,H p=none->Q (.ref p) (upd H p (.dK xs)),?_,?_⟩
 . intro aA s σ H vs us Q I r h;obtain⟨a,xs,rfl,hh,q⟩:=h;obtain⟨u,rfl,ru⟩:=dX r;cases(show u=Value.ref a from ru)
   exact aGC I (.inl hh) λp s' hp I'=>⟨.ref p,_,I',rfl,q p hp⟩
 . intro F H xs vs k d Q s rx e w;unfold oK at e;split at e
   . rename_i m kvs;cases e;obtain⟨v,rfl,r⟩:=rx.one;obtain⟨a,ys,rfl,hh,rk⟩:=r.dict s;exact⟨a,ys,rfl,hh,λp hp=>w (.ref p) F _ (aE.fresh _ s hp) ⟨p,rfl,s.free hp,ys,aT,rk⟩ λ_ b eb=>by cases eb;exact hp⟩
   . cases e
end
section
variable  {gk:Rho->Res}{x:Str}{sp:Pos}
end
section
variable {a b:Expr}
end
open PySem.SeqAt PySem.MeetsSeq
def SqT.plain{a:Addr}{xs:List V}(I:L2.Inv X aA σ H s)(h:SqT X.K H a xs):∃its:List aZN,aJ xs its/\fM s.heap a its.toArray/\xs.length<=sizeLine:=by
 rcases h with h|⟨o,its,n,hk,hc,hd,hs,hz,r⟩
 . obtain⟨z,its,r,p⟩:=h.ok I.hok;exact⟨its,r,p,z⟩
 . exact⟨its.toList,r,⟨o,I.kIn a o hk,hc,hd,n,by simpa using hs⟩,by rw[r.length,aT2];exact hz⟩
section
variable  {o:Expr}{ty:TE}
end
section
variable  {o:Expr}{go:Rho->Res}
end
def TabE(w:aZQ)(K:Fg):List (Str×Str)->List DictEntry->Prop
 |[],es=>es=[]
 |(z,f)::r,es=>∃t a es',es=⟨PyData.keyHash w.params z,.str z t,.ref a⟩::es'/\W.nsIn K mainGlobals f=some (some (.ref a))/\TabE w K r es'
structure kD(w:aZQ)(K:Fg)(mg:SOV)(x:Str)(tb:List (Str×Str)):Prop where
 ex:∃a ob es ep,mg x=some (.ref a)/\K.lookup a=some ob/\ob.ExactDict/\ob.data=.dict es ep/\TabE w K tb es.toList
 nd:(tb.map (·.1)).Nodup
section
variable  {b:Expr}{es:List Expr}{x:Str}{tb:List (Str×Str)}
end
def aM.frz{F:Hp}(R:aM K F0 H0 F H σ ρ){d:D}(e:ρ[i]? = some (some (true,d))):∃F',aD F F'/\aM K F0 H0 F' H σ (ρ.set i (some (false,d))):=by
 obtain⟨v,ev,rp,hn⟩:=R.slot i true d e;obtain⟨x,rfl,nx,t⟩:=rp;obtain⟨o,ho,r⟩:=t.freeze nx;have sm:aD F (upd F x o):=λb u q=>by rw[aH (bL q nx)];exact q
 have hi:i<ρ.length:=(aTW.mp e).1;refine⟨upd F x o,sm,R.st.freeze (hn rfl x rfl) nx ho,λj m d' ej=>?_,λj k d1 d2 a hjk e1 e2 q1 q2=>?_,by rw[aWN];exact R.len⟩
 . by_cases hj:j=i
   . subst hj;rw[aTX hi]at ej;cases ej;exact⟨.ref x,ev,r,by nofun⟩
   . rw[aTY (λz=>hj z.symm)]at ej;obtain⟨v',ev',rp',hn'⟩:=R.slot j m d' ej;refine⟨v',ev',?_,hn'⟩;cases m with
     |false=>exact aB.mono sm _ _ rp'
     |true =>
      obtain⟨a,rfl,na,t'⟩:=rp';have ax:a≠x:=λz=>by subst z;exact R.apart j i d' d a hj ej e ev' ev
      refine⟨a,rfl,by rw[aH ax];exact na,?_⟩
      cases d' with
      |lst ds=>obtain⟨xs,q,rr⟩:=t';exact⟨xs,q,rr.mono sm _ _⟩
      |dct ds=>obtain⟨xs,q,rr⟩:=t';exact⟨xs,q,rr.mono sm _ _⟩
      |ins c fs=>obtain⟨C,dx,gs,n,q,rr⟩:=t';exact⟨C,dx,gs,n,q,rr.mono sm _ _⟩
      |set ks=>obtain⟨S,q,rr⟩:=t';exact⟨S,q,rr⟩
      |dtn ds=>obtain⟨xs,q,rr⟩:=t';exact⟨xs,q,rr.mono sm _ _⟩
      |_=>exact t'.elim
 . have own:∀{j:Nat}{d1:D},(ρ.set i (some (false,d)))[j]? = some (some (true,d1))->ρ[j]? = some (some (true,d1)):=λ{j d1} z=>by
     by_cases hj:j=i
     . subst hj;rw[aTX hi]at z;cases z
     . rw[aTY (λy=>hj y.symm)]at z;exact z
   exact R.apart j k d1 d2 a hjk (own e1) (own e2) q1 q2
def l9(ρ:Rho)(i:Nat):aF:=match ρ[i]? with
 |some (some (true,d))=>.nx (ρ.set i (some (false,d)))
 |_=>.stuck
def aKJ{g:Rho->aF}(h:PBv C X sts g):PBv C X sts (λρ=>(l9 ρ i).thn g):=by
 refine PSs.imp h λE σ H q=>?_;obtain⟨ρ,F,R,w⟩:=q;dsimp only at w;unfold l9 at w;split at w
 . rename_i d e;obtain⟨F',sm,R'⟩:=R.frz e;exact⟨_,F',R',bT.mono sm w⟩
 . exact w.elim
def Ent(w:aZQ):List Str->List (Int×aZN)->Prop
 |[],l=>l=[]
 |x::xs,l=>∃t r,l=(hashStr w x,.str x t)::r/\Ent w xs r
theorem Ent.mem:∀{xs:List Str}{l:List (Int×aZN)},Ent w xs l->∀e∈l,∃x t,x∈xs/\e=(hashStr w x,.str x t)
 |[],l,h,e,he=>by have h:l=[]:=h;subst h;cases he
 |x::xs,l,h,e,he=>by
  obtain⟨t,r,rfl,hr⟩:=h;rcases aTT.mp he with rfl|he
  . exact⟨x,t,mcs,rfl⟩
  . obtain⟨y,u,hy,e1⟩:=hr.mem e he;exact⟨y,u,mcm hy,e1⟩
theorem Ent.mem':∀{xs:List Str}{l:List (Int×aZN)},Ent w xs l->∀x∈xs,∃t,(hashStr w x,.str x t)∈l
 |x::xs,l,h,y,hy=>by
  obtain⟨t,r,rfl,hr⟩:=h;rcases aTT.mp hy with rfl|hy
  . exact⟨t,mcs⟩
  . obtain⟨u,hu⟩:=hr.mem' y hy;exact⟨u,mcm hu⟩
theorem Ent.length:∀{xs:List Str}{l:List (Int×aZN)},Ent w xs l->l.length=xs.length
 |[],l,h=>by have h:l=[]:=h;subst h;rfl
 |x::xs,l,h=>by obtain⟨t,r,rfl,hr⟩:=h;simp[hr.length]
theorem Ent.snoc:∀{xs:List Str}{l:List (Int×aZN)}{x:Str}{t:Tok},Ent w xs l->Ent w (xs++[x]) (l++[(hashStr w x,.str x t)])
 |[],l,x,t,h=>by have h:l=[]:=h;subst h;exact⟨t,[],rfl,rfl⟩
 |y::xs,l,x,t,h=>by obtain⟨u,r,rfl,hr⟩:=h;exact⟨u,_,rfl,hr.snoc⟩
def Ent.perm{l l':List (Int×aZN)}(p:l'.Perm l):∀{xs:List Str},Ent w xs l->∃ys:List Str,ys.Perm xs/\Ent w ys l':=by
 induction p with
 |nil=>exact λh=>⟨_,.refl _,h⟩
 |cons e _ ih =>
  intro xs h;cases xs with
  |nil=>cases(show _::_=[]from h)
  |cons x xs=>obtain⟨t,r,e1,hr⟩:=h;cases e1;obtain⟨ys,p1,h1⟩:=ih hr;exact⟨x::ys,p1.cons x,t,_,rfl,h1⟩
 |swap a b l =>
  intro xs h;cases xs with
  |nil=>cases(show _::_=[]from h)
  |cons x xs =>
   obtain⟨t,r,e1,hr⟩:=h;cases e1;cases xs with
   |nil=>cases(show _::_=[]from hr)
   |cons y xs=>obtain⟨u,r',e2,hr'⟩:=hr;cases e2;exact⟨y::x::xs,.swap x y xs,u,_,rfl,t,_,rfl,hr'⟩
 |trans _ _ ih1 ih2=>intro xs h;obtain⟨ys,p1,h1⟩:=ih2 h;obtain⟨zs,p2,h2⟩:=ih1 h1;exact⟨zs,p2.trans p1,h2⟩
def mD{x:Str}{t:Tok}:(PySem.strKind P w).is x (.str y t)=decide (y=x):=by show Value.isStrOf x (.str y t)=_;rw[Bool.eq_iff_iff];simp[Value.isStrOf]
def Ent.elems{l:List (Int×aZN)}(h:Ent w xs l):ElemsOf (PySem.strKind P w) l:=λe he=>by obtain⟨x,t,_,rfl⟩:=h.mem e he;exact⟨⟨x,by rw[mD];simp,rfl⟩,rfl⟩
def dG(w:aZQ):Bool:=w.params.followText "set-order"
def aU(w:aZQ)(h:Heap)(a:Addr)(xs:List Str):Prop:=∃o es ep t,h.get? a=some o/\o.ExactSet/\o.data=.set es ep t/\Ent w xs es.toList/\xs.Nodup/\xs.length<scanBound/\t.fits es.size=true/\t.led = !dG w/\(xs=[]\/t.plain=false)
def aKK{t:SetTable}:(t.orStandIn n).led=t.led/\((t.orStandIn n).plain=true->t.plain=true):=by
 unfold SetTable.orStandIn;split
 . exact⟨rfl,id⟩
 . exact⟨rfl,λh=>by cases h⟩
def aKL{t:SetTable}{es:Array (Int×aZN)}{h:Int}{x:aZN}:(layNew t es h x).2.1.led=t.led/\((layNew t es h x).2.1.plain=true->t.plain=true):=by
 unfold layNew;split
 . exact aKK (t:=(t.put _).1)
 . exact⟨rfl,λh=>by cases h⟩
def aKM{t:SetTable}{es:Array (Int×aZN)}:(relayAll t es n).2.1.led=t.led/\((relayAll t es n).2.1.plain=true->t.plain=true):=by
 unfold relayAll;split
 . rename_i t' order e;have e':t'.led=t.led/\t'.plain=t.plain:=by
     unfold SetTable.relaid SetTable.laid at e;cases hl:SetTable.layClean (SetTable.sizeAbove n-1) (es.map (·.1))with
     |none=>rw[hl]at e;cases e
     |some ow=>rw[hl]at e;cases e;exact⟨rfl,rfl⟩
   dsimp only;split
   . exact⟨e'.1,λh=>by rw[<- e'.2];exact h⟩
   . exact⟨rfl,λh=>by cases h⟩
 . exact⟨rfl,λh=>by cases h⟩
section
variable {A:aZP}{E:VSP}
def aKN(b:Bool){s₁:aZO}{Q':Unit->aZO->Prop}(hq:Q' () s₁):wpAny (model prog w) A (match b with|true=>rule "set.scan.the-table-gave-way" |false=>pure ()) Q' E s₁:=by
 cases b with
 |true=>exact aV2 hq
 |false=>exact aT7 hq
def oM(P:aZR){a:Addr}{o:Obj}{es:Array (Int×aZN)}{t:SetTable}(ho:h.get? a=some o)(hex:o.ExactSet)(hd:o.data=.set es ep t){es':Array (Int×aZN)}{t':SetTable}(he:Ent w xs es'.toList)(hn:xs.Nodup)(hb:xs.length<scanBound)(hf:t'.fits es'.size=true)(hl:t'.led = !dG w)(hp:xs=[]\/t'.plain=false):(h.update a (Obj.putSet es' t')).get? a=some {o with data:=.set es' (ep+1) t'}/\aU w (h.update a (Obj.putSet es' t')) a xs:=by
 have hs:es'.size=xs.length:=by rw[<- aT2];exact he.length
 have g:=(SetOf_store (knd:=PySem.strKind P w) (S':=λk=>decide (∃e∈es'.toList,(PySem.strKind P w).is k e.2=true)) ho hex hd he.elems (λk=>by simp) (by rw[hs];exact hb) hf).1
 exact⟨g,_,es',ep+1,t',g,hex,rfl,he,hn,hb,hf,hl,hp⟩
def xW (g : Bool → Sem Unit) (hg : ∀ (b : Bool) {s₁ : aZO} {Q' : Unit → aZO → Prop}, Q' () s₁ → wpAny (model prog w) A (g b) Q' E s₁) {a : Addr} {o : Obj} {es : Array (Int × aZN)} {ep : Nat} {t : SetTable} (ho : s.heap.get? a = some o) (hex : o.ExactSet) (hd : o.data = .set es ep t) {es1 : Array (Int × aZN)} {t2 : SetTable} {xs : List Str} (he : Ent w xs es1.toList) (hn : xs.Nodup) (hb : xs.length < scanBound) (hf : t2.fits es1.size = true) (hl : t2.led = !dG w) (hp : t2.plain = false) {wasDummy : Bool} {R : Option Bool → aZO → Prop} (h : ∀ h' ys, Heap.SameBut a s.heap h' → aU w h' a ys → ys.Perm xs → R (some true) { s with heap := h' }) :
    wpAny (model prog w) A (do
        storeSet a es1 t2
        if (!wasDummy && t2.tooFull) = true then do
            g (relayAll t2 es1 (SetTable.grown es1.size)).2.2
            storeSet a (relayAll t2 es1 (SetTable.grown es1.size)).1 (relayAll t2 es1 (SetTable.grown es1.size)).2.1
            pure (some true)
         else pure (some true)) R E s:=by
 have z:∀{l:Array (Int×aZN)}{ys:List Str},Ent w ys l.toList->ys.length<scanBound->l.size<=sizeLine:=λq1 q2=>aXQ (by rw[<- aT2,q1.length];exact q2)
 obtain⟨g1,X1⟩:=oM prog ho hex hd he hn hb hf hl (.inr hp);refine aT8 (aXR ho hd ?_ (z he hb));have sb:=aXH s.heap a (Obj.putSet es1 t2);split
 . have pm:=relayAll_perm t2 es1 (SetTable.grown es1.size);have ft:=relayAll_fits t2 es1 (SetTable.grown es1.size);have fl:=aKM (t:=t2) (es:=es1) (n:=SetTable.grown es1.size);generalize relayAll t2 es1 (SetTable.grown es1.size)=R1 at *;obtain⟨es2,t3,gv⟩:=R1;dsimp only at pm ft fl ⊢;obtain⟨ys,p1,e2⟩:=he.perm pm;have pl:t3.plain=false:=by
     cases q:t3.plain with
     |false=>rfl
     |true=>rw[fl.2 q]at hp;cases hp
   have yb:ys.length<scanBound:=by rw[p1.length_eq];exact hb
   obtain⟨_,X2⟩:=oM prog g1 hex rfl e2 (p1.symm.nodup hn) yb ft (fl.1.trans hl) (.inr pl);refine aT8 (hg gv ?_);exact aT8 (aXR g1 rfl (aT7 (h _ ys (sb.trans (aXH _ a _)) X2 p1)) (z e2 yb))
 . exact aT7 (h _ xs sb X1 (.refl _))
def xX{a:Addr}{x:Str}{tk:Tok}{Q:Bool->aZO->Prop}(h:aU w s.heap a xs)(hr:xs.length+1<scanBound)(hq:∀h' ys,Heap.SameBut a s.heap h'->aU w h' a ys->ys.Perm (if x∈xs then xs else xs++[x])->Q (!decide (x∈xs)) {s with heap:=h'}):wpAny (model prog w) A (setAddHashed a (.str x tk) (hashStr w x)) Q E s:=by
 obtain⟨o,es,ep,t,ho,hex,hd,he,hn,hb,hf,hl,hp⟩:=id h;have el:ElemsOf (PySem.strKind prog w) es.toList:=he.elems;have hz:es.size=xs.length:=by rw[<- aT2];exact he.length
 have hk:(PySem.strKind prog w).is x (.str x tk)=true:=by rw[mD];simp
 unfold setAddHashed setAddHashedIn;refine aVG (aT8 (aXS ho hd hf ?_));dsimp only;rw[byScan_of (knd:=PySem.strKind prog w) (x:=.str x tk) rfl (by rw[hz];exact hb) el]
 simp only[↓reduceIte];unfold setAddByScan;refine aT8 (aT8 (aV2 (aT8 (wpAny_setScan_of (knd:=PySem.strKind prog w) hk ho hd hf el ?_))));cases hf':List.findIdx? (λe=>(PySem.strKind prog w).is x e.2) es.toList with
 |some j =>
  dsimp only;obtain⟨hj,hpj,_⟩:=List.findIdx?_eq_some_iff_getElem.mp hf';obtain⟨y,u,hy,ey⟩:=he.mem _ (aWM hj);rw[ey,mD,aV9]at hpj;subst hpj;have:=hq s.heap xs (aWZ a s.heap) h (by rw[if_pos hy])
  rw[aVV hy]at this;exact aT7 (aT7 this)
 |none =>
  dsimp only;have nx:¬ x∈xs:=λhx=>by obtain⟨u,hu⟩:=he.mem' x hx;have:=List.findIdx?_eq_none_iff.mp hf' _ hu;rw[mD]at this;simp at this
  have pm:=layNew_perm t es (hashStr w x) (.str x tk);have ft:=layNew_fits t es (hashStr w x) (.str x tk);have fl:=aKL (t:=t) (es:=es) (h:=hashStr w x) (x:=.str x tk);show wpAny _ _ (match layNew t es (hashStr w x) (.str x tk)with|(es,t,wasDummy,gave)=>_) _ _ _
  generalize layNew t es (hashStr w x) (.str x tk)=L at *;obtain⟨es1,t1,wd,gv⟩:=L;dsimp only at pm ft fl ⊢;rw[aV1]at pm;obtain⟨ys,p1,e1⟩:=(he.snoc (x:=x) (t:=tk)).perm pm;have yn:ys.Nodup:=p1.symm.nodup (aXT.mpr ⟨hn,by simp,λa ha b hb e=>by rw[aW7]at hb;subst hb;subst e;exact nx ha⟩)
  have yb:ys.length<scanBound:=by rw[p1.length_eq,aU4];simpa using hr
  have fin:∀h' zs,Heap.SameBut a s.heap h'->aU w h' a zs->zs.Perm ys->Q true {s with heap:=h'}:=λh' zs q1 q2 q3=>by
   have:=hq h' zs q1 q2 (by rw[if_neg nx];exact q3.trans p1)
   rw[aTF nx]at this;exact this
  refine aT8 ?_;have gg:∀(b:Bool) {s₁:aZO}{Q':Unit->aZO->Prop},Q' () s₁->wpAny (model prog w) A (match b with|true=>rule "set.scan.the-table-gave-way" |false=>pure ()) Q' E s₁:=λb _ _ q=>aKN b q
  refine gg _ ?_;split
  . refine aT8 ?_;rw[hashByValue_scannable 8 (x:=.str x tk) rfl];refine aT7 ?_;refine xW _ gg (t2:={t1 with plain:=false}) ho hex hd e1 yn yb (SetTable.fits_plain_off ft) (fl.1.trans hl) rfl ?_
    exact λh' zs q1 q2 q3=>aT7 (fin h' zs q1 q2 q3)
  . rename_i np;refine aT8 (aT7 ?_);refine xW _ gg (t2:=t1) ho hex hd e1 yn yb ft (fl.1.trans hl) (by cases q:t1.plain with|true=>exact absurd q np|false=>rfl) ?_
    exact λh' zs q1 q2 q3=>aT7 (fin h' zs q1 q2 q3)
end
def rT:plainId "set.update.loop" = true:=by decide +kernel
def xY:entryFor table "set.update.loop" = some Builtin.«set.update.loop»:=entryFor_of_tree (by kernel_rfl)
def aKO(a:aZN):checkTypeCall "set" ⟨[a],[]⟩=pure ():=by kernel_rfl
def aKP(a:aZN):checkBuiltinCall "set.__new__" ⟨[.type "set", a],[]⟩=pure ():=by kernel_rfl
def aU.kept{a:Addr}(x:aU w h a xs)(k:∀o,h.get? a=some o->h'.get? a=some o):aU w h' a xs:=by obtain⟨o,es,ep,t,ho,r⟩:=x;exact⟨o,es,ep,t,k o ho,r⟩
def aU.there{a:Addr}(x:aU w h a xs):a<h.objs.size:=by obtain⟨o,es,ep,t,ho,r⟩:=x;exact aTJ ho
section
variable {A:aZP}{E:VSP}
def aKQ{a:Addr}{x:Str}{tk:Tok}{Q:Bool->aZO->Prop}(h:aU w s.heap a xs)(hr:xs.length+1<scanBound)(hq:∀h' ys,Heap.SameBut a s.heap h'->aU w h' a ys->ys.Perm (if x∈xs then xs else xs++[x])->Q (!decide (x∈xs)) {s with heap:=h',toks:=s.toks+1}):wpAny (model prog w) A (setAdd a (.str x tk)) Q E s:=by
 unfold setAdd;refine aVG (aT8 ((PySem.strKind prog w).pyHash (k:=x) (v:=.str x tk) (by rw[mD];simp) ?_))
 exact xX (s:={s with toks:=s.toks+1}) h hr hq
def aKR{R:Result->aZO->Prop}{wr:List Addr}{P:Nat->aZN->Prop}{St:Nat->Heap->Prop}(W:Walks prog w A.in1 I fp wr n P St){ns:List Str}(hn:ns.length=n)(hb:n<scanBound)(hP:∀i v,P i v->∃x t,ns[i]? = some x/\v=.str x t)(S:Addr)(hSf:S∉fp):∀(k i:Nat) (s:aZO) (xs:List Str),n-i=k->i<=n->St i s.heap->aU w s.heap S xs->xs.length<=i->(∀y,y∈xs↔y∈ns.take i)->(∀h' tk ys,(∀b o,b≠S->b∉wr->s.heap.get? b=some o->h'.get? b=some o)->aU w h' S ys->(∀y,y∈ys↔y∈ns)->R (.ok (.ret .none)) {s with heap:=h',toks:=tk})->codeAny (model prog w) A (.builtin "set.update.loop" ⟨[.ref S,.ref I],[]⟩) R s:=by
 have hSw:S∉wr:=λh=>hSf (W.sub _ h);intro k
 induction k with
 |zero =>
  intro i s xs hk hi hst hS hl hm hR;have hin:i=n:=by omega
  subst hin;refine aXU xY ?_;rw[aXV rT _];show wpAny _ A.in1 (pyNext (.ref I)>>=_) _ _ s;refine aT8 (W.done s _ _ hst λh' tk hk'=>?_);exact aT7 (hR h' tk xs (λb o _ hb e=>hk' b o hb e) (hS.kept λo e=>hk' S o hSw e) λy=>by rw[hm,aW5 (aUN hn)])
 |succ k ih =>
  intro i s xs hk hi hst hS hl hm hR;have hlt:i<n:=by omega
  refine aXU xY ?_;rw[aXV rT _];show wpAny _ A.in1 (pyNext (.ref I)>>=_) _ _ s;refine aT8 (W.item i s _ _ hlt hst λv h1 tk hP1 hst1 hk1=>?_);obtain⟨x,t,hx,rfl⟩:=hP i v hP1;have hS1:=hS.kept λo e=>hk1 S o hSw e;show wpAny _ A.in1 (holding [.str x t] (setAdd S (.str x t))>>=_) _ _ _;refine aT8 (aVG (aKQ (s:={s with heap:=h1,toks:=tk}) hS1 (by omega) λh2 ys sb X2 pm=>?_))
  refine aT7 ⟨aXW rT _,ih (i+1) _ ys (by omega) hlt (W.frame _ _ _ hst1 λb hb o e=>?_) X2 ?_ ?_ λh3 tk3 zs kp X3 m3=>?_⟩
  . exact sb.extBut b o (λe'=>hSf (e' ▸ hb)) e
  . rw[pm.length_eq];split
    . omega
    . rw[aU4];simp;omega
  . intro y;rw[pm.mem_iff,List.take_add_one,hx,aTU];split
    . rename_i hxx;simp only[Option.toList_some,aW7];exact⟨λh=>.inl ((hm y).mp h),λh=>h.elim (hm y).mpr λe=>e ▸ hxx⟩
    . rw[aTU,hm y];simp
  . exact hR h3 tk3 zs (λb o h1' h2' e=>kp b o h1' h2' (sb.extBut b o h1' (hk1 b o h2' e))) X3 m3
end
def sob(w:aZQ):Obj:={ cls:=.type "set", dict:=none,data:=.set #[] 0 (.fresh 0 0 (!dG w)) }
def sob_x{a:Addr}(g:h.get? a=some (sob w)):aU w h a [] :=
 ⟨_,#[],0,_,g,⟨rfl,rfl,rfl⟩,rfl,rfl,aXX,by decide,rfl,rfl,.inl rfl⟩
def aKS:isSubtype (.type "tuple") (.type "set")=pure false:=by rw[aXY];kernel_rfl
def aKT:isSubtype (.type "tuple") (.type "frozenset")=pure false:=by rw[aXY];kernel_rfl
theorem xZ:∀{vs:List aZN}{ns:List Str},StrsAre vs ns->∀{i:Nat}{v:aZN},vs[i]? = some v->∃x t,ns[i]? = some x/\v=.str x t
 |_,_,.nil,i,v,h=>by simp at h
 |_,_,.cons x t r,0,v,h=>by cases h;exact⟨x,t,rfl,rfl⟩
 |_,_,.cons x t r,i+1,v,h=>xZ r (i:=i) h
section
variable {A:aZP}{E:VSP}
def aKU(v:aZN){Q1:VSP}(h:Q1 (.ref s.heap.objs.size) {s with heap:=s.heap.push (sob w)}):codeAny (model prog w) A (.call (.builtin "set.__new__") ⟨[.type "set", v],[]⟩) (wants Q1 E) s:=by
 refine codeAny_call_builtin_code (aXW PySem.F.plain_set_new _) (aXJ (aKP v) (aXU PySem.F.entry_set_new ?_));rw[aXV PySem.F.plain_set_new _];have sub:=aXZ;obtain⟨hp,g,d,tk,os⟩:=s;unfold Builtin.«set.__new__» Builtin.Frozenset.newClass;dsimp only
 wp_walk
 refine aX0 (aT7 ?_);dsimp only;simp only[newObj];exact aT8 (wpAny_alloc (aT7 (aT7 h)))
def aKV{M:Model}{self v:aZN}(ty:s.TypeIs self "set")(q:Q () s):wpAny M A (checkBuiltinCall "set.__init__" ⟨[self,v],[]⟩) Q E s:=by
 unfold checkBuiltinCall;simp only[kind_set_init,split_set_init,sig_set_init];refine aT8 (aV4 ty aXZ ?_);simp only[aV5,aV6,↓reduceIte];unfold Bind.checkArgs;dsimp only;refine aT8 (m:=Bind.printed "set" true _ _) (printed_name (by decide) (aT8 (m:=Bind.printed "*" false _ _) (printed_star (self:=self) rfl ty λsh=>?_)))
 have e1:(if(Manifest.Receiver.self==Manifest.Receiver.none)=true then[self,v].length else[self,v].length-1)=1:=rfl;rw[e1,aVU,show Bind.check ⟨.positional,"set", "*", .self,[⟨"iterable", .posOnly,false⟩]⟩ "set" sh 1 []=pure ()from by kernel_rfl]
 exact aT7 q
def aKW{M:Model}{p:Addr}{Q:Bool->aZO->Prop}(tp:s.TypeIs (.ref p) "tuple")(q:Q false s):wpAny M A (isInstance (.ref p) (.type "set") <||> isInstance (.ref p) (.type "frozenset")) Q E s:=by unfold orM;exact aT8 (aV4 tp aKS (aV4 tp aKT q))
def aKX{a p:Addr}{ns:List Str}{K:Fin->aZO->Prop}(hh:A.handled=none)(g0:s.heap.get? a=some (sob w))(hp:s.heap.IsTuple p its)(ne:a≠p)(hv:PyProof.Rows.StrsAre its.toList ns)(hb:ns.length<scanBound)(h:∀h' tk ys,(∀b o,b≠a->s.heap.get? b=some o->h'.get? b=some o)->aU w h' a ys->(∀y,y∈ys↔y∈ns)->K (.done (.ret .none)) {s with heap:=h',toks:=tk}):wpAny (model prog w) A (Builtin.«set.__init__» ⟨[.ref a,.ref p],[]⟩) K E s:=by
 have ty:s.TypeIs (.ref a) "set" := ⟨_,g0,rfl⟩;have tp:s.TypeIs (.ref p) "tuple" := hp.typeIs;unfold Builtin.«set.__init__»;refine aT8 (m:=noKeywords _ _) (aT7 ?_);dsimp only;unfold typeNameOfCut shownTypeOf;refine aT8 (aT8 (aT8 (aVK ty ?_)));have e1:(Value.type "set" == Value.type "builtin_function_or_method")=false:=by decide
 simp only[e1,aV6,↓reduceIte];refine aT7 ?_;refine aT7 (aT8 (m:=checkCount _ 0 1 _) (aT7 (aT8 (m:=Builtin.Frozenset.addrOf _) (aT7 (aT8 ?_)))));unfold setUsed;refine aT8 (aXS g0 rfl rfl (aT7 ?_));have e2:((SetTable.fresh 0 0 (!dG w)).fill != 0)=false:=rfl;dsimp only;rw[e2];simp only[aV6,↓reduceIte];refine aT8 ?_;unfold Builtin.Frozenset.updateFrom Builtin.Frozenset.isAnySet;refine aT8 (aKW tp ?_);simp only[aV6,↓reduceIte];refine aT8 (aVK tp ?_);have e3:(Value.type "tuple" == Value.type "dict")=false:=by decide
 simp only[e3,aV6,↓reduceIte];refine aT8 (aUB hp (aT8 (wpAny_runValue ?_)));obtain⟨op,ho,hrest⟩:=id hp;have lp:p<s.heap.objs.size:=aTJ ho;have la:a<s.heap.objs.size:=aTJ g0;have hz:its.size=ns.length:=by rw[<- aT2];exact hv.length
 refine aKR (A:=A) (Walks.tuple (A:=A.in1) hh s.heap.objs.size p (aTM lp) its) (ns:=ns) hz.symm (by rw[hz];exact hb) (λi v q=>xZ hv (by rw[aX1];exact q)) a
  (by simp only[aTT,aX2,aXL,not_or];exact⟨aTM la,ne⟩) _ 0 _ [] rfl (aUP _) ⟨⟨_,aTI _ rfl,rfl,rfl⟩,hp.push _⟩ (sob_x (hps g0)) (aUP _) (λy=>by simp) λh' tk ys kp X m=>?_
 exact aT7 (aT7 (h h' tk ys (λb o hb e=>kp b o hb (by simp only[aTT,aX2,aXL];exact aTM (aTJ e)) (hps e)) X m))
def aKY{p:Addr}{ns:List Str}{Q:VSP}(hh:A.handled=none)(hp:s.heap.IsTuple p its)(hv:PyProof.Rows.StrsAre its.toList ns)(hb:ns.length<scanBound)(h:∀h' tk ys,(∀b o,s.heap.get? b=some o->h'.get? b=some o)->aU w h' s.heap.objs.size ys->(∀y,y∈ys↔y∈ns)->Q (.ref s.heap.objs.size) {s with heap:=h',toks:=tk}):wpAny (model prog w) A (call (.type "set") [.ref p]) Q E s:=by
 obtain⟨c,tl,hmro⟩:=PySem.F.called_set.mro;have hmade:=PySem.F.called_set.made;have hsub:=PySem.F.called_set.sub;have h1:=PySem.F.called_set.notType;have h2:=PySem.F.called_set.canCreate;have hct:=aKO (.ref p);refine aW0 (codeAny_of_tree (show wpAny _ _ (callAny (.type "set") _) _ _ _ from aT7 ⟨Code.quiet_builtin _ (by decide +kernel),aXU PySem.F.entry_type_call ?_⟩))
 rw[Around.under_plain (weight_type_call_type "set" [.ref p] []) rfl]
 repeat (any_goals (first|assumption|wp_step))
 refine aVW (aKU (E:=E) (.ref p) (Q1:=λr s1=>r=.ref s.heap.objs.size/\s1={s with heap:=s.heap.push (sob w)}) ⟨rfl,rfl⟩) λr s1 hr=>?_
 cases r with
 |error e=>exact hr
 |ok fl =>
  cases fl with
  |ret obj =>
   obtain⟨rfl,rfl⟩:=hr;have g0:(s.heap.push (sob w)).get? s.heap.objs.size=some (sob w):=aTI _ rfl;have ty:Shared.TypeIs {s with heap:=s.heap.push (sob w)} (.ref s.heap.objs.size) "set" := ⟨_,g0,rfl⟩
   have hli:=PySem.F.called_set.init.lookup;have hbi:=PySem.F.called_set.init.bind (.ref s.heap.objs.size)
   repeat (any_goals (first|assumption|wp_step))
   refine aVW (codeAny_call_builtin (R:=wants (λr s2=>r=.none/\Q (.ref s.heap.objs.size) s2) E) PySem.F.called_set.init.plain PySem.F.entry_set_init (aKV ty ?_)) λr2 s2 hr2=>?_
   . refine aKX (A:=A.in1.in1) (s:={s with heap:=s.heap.push (sob w)}) hh g0 (hp.push _) (aT6 (aTJ hp.choose_spec.1)) hv hb λh' tk ys kp X m=>⟨rfl,h h' tk ys (λb o e=>kp b o (aTM (aTJ e)) (hps e)) X m⟩
   . cases r2 with
     |error e=>exact hr2
     |ok f2 =>
      cases f2 with
      |ret r =>
       obtain⟨rfl,hq⟩:=hr2
       repeat (any_goals (first|assumption|wp_step))
      |_=>exact hr2.elim
  |_=>exact hr.elim
end
def lcg(n i:Nat):Nat->Nat
 |0=>i
 |k+1=>(lcg n i k * 5+1) % n
def fT(m:Nat):Prop:=m=7\/m=15\/m=31
def aKZ{m:Nat}(h:fT m)(hi:i<=m)(hj:j<=m):∃k,k<=m/\lcg (m+1) i k=j:=by
 have d8:∀i:Fin 8,∀j:Fin 8,∃k:Fin 8,lcg 8 i.1 k.1=j.1:=by decide +kernel
 have d16:∀i:Fin 16,∀j:Fin 16,∃k:Fin 16,lcg 16 i.1 k.1=j.1:=by decide +kernel
 have d32:∀i:Fin 32,∀j:Fin 32,∃k:Fin 32,lcg 32 i.1 k.1=j.1:=by decide +kernel
 rcases h with rfl|rfl|rfl
 . obtain⟨k,hk⟩:=d8 ⟨i,by omega⟩ ⟨j,by omega⟩
   exact⟨k.1,by have:=k.2;omega,hk⟩
 . obtain⟨k,hk⟩:=d16 ⟨i,by omega⟩ ⟨j,by omega⟩
   exact⟨k.1,by have:=k.2;omega,hk⟩
 . obtain⟨k,hk⟩:=d32 ⟨i,by omega⟩ ⟨j,by omega⟩
   exact⟨k.1,by have:=k.2;omega,hk⟩
def aK0(m i:Nat):i<=SetTable.runEnd m i:=by unfold SetTable.runEnd;split <;> omega
section
variable {m:Nat}
theorem yA:∀{f i p j:Nat},SetTable.layClean.free m ow f i p=some j->ow.getD j (some 0)=none
 |0,i,p,j,h=>by cases h
 |f+1,i,p,j,h=>by
  unfold SetTable.layClean.free at h;split at h
  . rename_i k hk;cases h;have:=aW1 hk;simpa using this
  . exact yA h
def oN{f p:Nat}(h:SetTable.layClean.free m ow (f+1) i p=none):(ow.getD i (some 0)).isSome=true/\SetTable.layClean.free m ow f (SetTable.leap m i p).1 (SetTable.leap m i p).2=none:=by
 unfold SetTable.layClean.free at h;split at h
 . cases h
 . rename_i hk;refine⟨?_,h⟩;have:=List.find?_eq_none.mp hk 0 (by rw[aTO];have:=aK0 m i;omega)
   cases q:ow.getD i (some 0)with
   |none=>rw[Nat.add_zero,q]at this;simp at this
   |some _=>rfl
theorem yB:∀{k f i:Nat},k<f->SetTable.layClean.free m ow f i 0=none->(ow.getD (lcg (m+1) i k) (some 0)).isSome=true/\SetTable.layClean.free m ow (f-k) (lcg (m+1) i k) 0=none
 |0,f+1,i,hk,h=>⟨(oN h).1,h⟩
 |k+1,f+1,i,hk,h=>by
  have ih:=(yB (k:=k) (Nat.lt_of_succ_lt hk) h).2;obtain⟨g,e⟩:∃g,f+1-k=g+1+1:=⟨f+1-k-2,by omega⟩
  rw[e]at ih;have n1:=(oN ih).2;have e1:SetTable.leap m (lcg (m+1) i k) 0=(lcg (m+1) i (k+1),0):=rfl;rw[e1]at n1;exact⟨(oN n1).1,by rw[show f+1-(k+1)=g+1 by omega];exact n1⟩
def aK1{g p:Nat}(hm:fT m)(hp:p<32 ^ g)(hj:j<=m)(hi:i<=m)(e:ow.getD j (some 0)=none):∃j',SetTable.layClean.free m ow (m+2+g) i p=some j':=by
 induction g generalizing i p with
 |zero =>
  have:p=0:=by simpa using hp
  subst this;cases q:SetTable.layClean.free m ow (m+2+0) i 0 with
  |some j'=>exact⟨j',rfl⟩
  |none =>
   obtain⟨k,hk,ek⟩:=aKZ hm hi hj;have:=(yB (k:=k) (by omega) q).1
   rw[ek,e]at this;cases this
 |succ g ih =>
  cases q:SetTable.layClean.free m ow (m+2+(g+1)) i p with
  |some j'=>exact⟨j',rfl⟩
  |none =>
   have n1:=(oN (f:=m+2+g) q).2;have hl:(SetTable.leap m i p).1<=m:=Nat.le_of_lt_succ (Nat.mod_lt _ (Nat.succ_pos m));have hp':(SetTable.leap m i p).2<32 ^ g:=by
    show p / 32<32 ^ g;rw[Nat.div_lt_iff_lt_mul (by decide)]
    rwa [Nat.pow_succ]at hp
   obtain⟨j',e'⟩:=ih hp' hl;rw[n1]at e';cases e'
end
def aK2(h:Int):SetTable.bits h<32 ^ 13:=by
 unfold SetTable.bits;have h1:h % (2 ^ 64:Int)<2 ^ 64:=aX3 _ (by decide)
 have h2:0<=h % (2 ^ 64:Int):=aX4 _ (by decide)
 generalize h % (2 ^ 64:Int)=z at *;have:z.toNat<2 ^ 64:=by omega
 exact Nat.lt_trans this (by decide)
def inn(ow:Array (Option Nat)):List Nat:=ow.toList.filterMap id
theorem yC{k:Nat}:∀{l:List (Option Nat)}{j:Nat},l[j]? = some none->((l.set j (some k)).filterMap id).Perm (k::l.filterMap id)
 |[],j,h=>by simp at h
 |a::l,0,h=>by cases h;simp
 |a::l,j+1,h=>by
  have ih:=yC (k:=k) (l:=l) (j:=j) (by simpa using h)
  rw[List.set_cons_succ];cases a with
  |none=>simpa using ih
  |some x=>simp only[aTS,id];exact(ih.cons x).trans (List.Perm.swap k x _)
def aK3{m:Nat}(hz:ow.size=m+1)(hl:(inn ow).length<=m):∃j,j<=m/\ow.getD j (some 0)=none:=by
 by_cases hx:∃j,j<=m/\ow.getD j (some 0)=none
 . exact hx
 . exfalso;have all:∀x∈ow.toList,x.isSome=true:=λx hx'=>by
     obtain⟨j,hj,e⟩:=List.mem_iff_getElem.mp hx';cases q:x with
     |some _=>rfl
     |none =>
      refine absurd ⟨j,?_,?_⟩ hx
      . rw[aT2,hz]at hj;omega
      . rw[aT2]at hj;rw[aX5,aX6 hj];rw[Array.getElem_toList]at e;rw[e,q];rfl
   have:(inn ow).length=ow.toList.length:=by
    unfold inn;generalize ow.toList=l at all
    induction l with
    |nil=>rfl
    |cons a l ih =>
     have h1:=all a mcs;cases a with
     |none=>cases h1
     |some x=>simp[ih λy hy=>all y (mcm hy)]
   rw[show ow.toList.length=m+1 from by rw[aT2,hz]]at this
   omega
def aK4{m:Nat}(hm:fT m)(hz:ow.size=m+1)(hp:(inn ow).Perm (List.range k))(hk:k<=m)(h:Int):∃j,SetTable.layClean.free m ow (SetTable.turns m) (SetTable.bits h % (m+1)) (SetTable.bits h)=some j/\(ow.setIfInBounds j (some k)).size=m+1/\(inn (ow.setIfInBounds j (some k))).Perm (List.range (k+1)):=by
 obtain⟨j0,hj0,e0⟩:=aK3 hz (by rw[hp.length_eq,aX7];exact hk)
 obtain⟨j,e⟩:=aK1 (g:=13) hm (aK2 h) hj0 (Nat.le_of_lt_succ (Nat.mod_lt _ (Nat.succ_pos m))) e0;have ej:=yA e;refine⟨j,e,by rw[Array.size_setIfInBounds,hz],?_⟩
 unfold inn;rw[Array.toList_setIfInBounds];have hj:ow.toList[j]? = some none:=by
  rw[aX1];rw[aX5]at ej;cases q:ow[j]? with
  |none=>rw[q]at ej;cases ej
  |some x=>rw[q]at ej;exact congrArg some ej
 refine(yC hj).trans ?_;rw[List.range_succ];exact(hp.cons k).trans (List.perm_append_singleton k _).symm
def jH(m:Nat)(acc:Option (Array (Option Nat)×Nat))(h:Int):Option (Array (Option Nat)×Nat):=do
 let(owner,k) <- acc
 let j <- SetTable.layClean.free m owner (SetTable.turns m) (SetTable.bits h % (m+1)) (SetTable.bits h)
 pure (owner.setIfInBounds j (some k),k+1)
theorem yD{m:Nat}(hm:fT m):∀(l:List Int) {ow:Array (Option Nat)}{k:Nat},ow.size=m+1->(inn ow).Perm (List.range k)->k+l.length<=m->∃ow',l.foldl (jH m) (some (ow,k))=some (ow',k+l.length)/\ow'.size=m+1/\(inn ow').Perm (List.range (k+l.length))
 |[],ow,k,hz,hp,hk=>⟨ow,rfl,hz,hp⟩
 |h::l,ow,k,hz,hp,hk=>by
  rw[aUJ]at hk;obtain⟨j,e,z1,p1⟩:=aK4 hm hz hp (by omega) h
  obtain⟨ow',e2,z2,p2⟩:=yD hm l z1 p1 (by omega)
  refine⟨ow',?_,z2,?_⟩
  . rw[List.foldl_cons,show jH m (some (ow,k)) h=some (ow.setIfInBounds j (some k),k+1)from by simp[jH,e],e2,aUJ]
    congr 2;omega
  . rw[aUJ,show k+(l.length+1)=k+1+l.length by omega];exact p2
def aK5{m:Nat}(hm:fT m)(hs:Array Int)(hz:hs.size<=m):∃ow,SetTable.layClean m hs=some ow/\ow.size=m+1/\(inn ow).Perm (List.range hs.size):=by
 obtain⟨ow,e,z,p⟩:=yD hm hs.toList (ow:=Array.replicate (m+1) none) (k:=0) (by simp) (by simp[inn]) (by simpa using hz)
 refine⟨ow,?_,z,by simpa using p⟩
 unfold SetTable.layClean;rw[<- Array.foldl_toList];show(hs.toList.foldl (jH m) (some (Array.replicate (m+1) none,0))).map (·.1)=some ow;rw[e];rfl
def aK6{m:Nat}(hz:ow.size=m+1):((List.range (m+1)).filterMap λj=>(ow.getD j none).map (j,·)).map (·.2)=inn ow:=by
 rw[List.map_filterMap,<- hz];have:∀(l:List (Option Nat)),(List.range l.length).filterMap (λj=>((l[j]?).getD none))=l.filterMap id:=by
  intro l
  induction l with
  |nil=>rfl
  |cons a l ih =>
   rw[aUJ,List.range_succ_eq_map,aTS,List.filterMap_map];have e:(List.range l.length).filterMap ((λj=>(((a::l)[j]?).getD none)) ∘ Nat.succ)=(List.range l.length).filterMap (λj=>((l[j]?).getD none)):=by congr 1
   rw[e,ih];cases a <;> simp
 rw[inn,<- this ow.toList,aT2];congr 1;funext j;rw[aX1,aX5];cases(ow[j]?.getD none) <;> rfl
def yE{m f mv:Nat}{led pl:Bool}(hm:fT m)(hs:Array Int)(hz:hs.size<=m):∃t od,SetTable.laid m f mv led pl hs=some (t,od)/\od.toList.Perm (List.range hs.size)/\t.fits hs.size=true/\t.mask=m/\t.dummies = #[]/\t.led=led/\t.plain=pl:=by
 obtain⟨ow,e,z,p⟩:=aK5 hm hs hz;have lv:=aK6 z;unfold SetTable.laid;rw[e];refine⟨_,_,rfl,?_,?_,rfl,rfl,rfl,rfl⟩
 . rw[lv];exact p
 . have hl:(((List.range (m+1)).filterMap λj=>(ow.getD j none).map (j,·)).map (·.1)).length=hs.size:=by rw[aUL,<- aUL (f:=(·.2)),lv,p.length_eq,aX7]
   unfold SetTable.fits SetTable.fill;dsimp only;rw[aUG,hl];simp;exact hz
def fU(w:aZQ)(h:Heap)(a:Addr)(xs:List Str):Prop:=∃o es ep t,h.get? a=some o/\o.ExactSet/\o.data=.set es ep t/\Ent w xs es.toList/\xs.Nodup/\xs.length<scanBound/\t.fits es.size=true/\t.led = !dG w/\(xs=[]\/t.plain=false)/\fT t.mask/\t.dummies = #[]
def fU.x{a:Addr}(m:fU w h a xs):aU w h a xs:=by obtain⟨o,es,ep,t,h1,h2,h3,h4,h5,h6,h7,h8,h9,_,_⟩:=m;exact⟨o,es,ep,t,h1,h2,h3,h4,h5,h6,h7,h8,h9⟩
def sob_m{a:Addr}(g:h.get? a=some (sob w)):fU w h a [] :=
 ⟨_,#[],0,_,g,⟨rfl,rfl,rfl⟩,rfl,rfl,aXX,by decide,rfl,rfl,.inl rfl,.inl rfl,rfl⟩
theorem rV{α:Type}:∀{l:List α}{i:Nat} (h:i<l.length),(l[i]::l.eraseIdx i).Perm l
 |[],i,h=>by simp at h
 |a::l,0,h=>.refl _
 |a::l,i+1,h=>by
  have hi:i<l.length:=by simpa using h
  exact(List.Perm.swap a l[i] _).trans ((rV hi).cons a)
theorem yF{α:Type}{next:Nat->Nat}:∀{f k:Nat}{left:List α}{out:Array α},left.length=f->(pickOrder.go next f k left out).toList.Perm (out.toList++left)
 |0,k,left,out,h=>by have:left=[]:=aX8.mp h;subst this;unfold pickOrder.go;simp
 |f+1,k,left,out,h=>by
  have hl:next k % left.length<left.length:=Nat.mod_lt _ (by omega)
  unfold pickOrder.go;rw[aWL hl];dsimp only;refine(yF (by rw[List.length_eraseIdx,if_pos hl];omega)).trans ?_
  rw[aV1,List.append_assoc];exact List.Perm.append_left _ (rV hl)
def mH{next:Nat->Nat}{xs:Array α}:(pickOrder next xs).toList.Perm xs.toList:=by unfold pickOrder;simpa using yF (next:=next) (f:=xs.size) (k:=0) (left:=xs.toList) (out:=#[]) rfl
section
variable {A:aZP}{E:VSP}
def fV{Q:Bool->aZO->Prop}(q:Q (dG w) s):wpAny (model prog w) A setsByText Q E s:=by unfold setsByText;exact aT8 (aX0 (aT7 q))
def rW(P:aZR){a:Addr}{o:Obj}{es:Array (Int×aZN)}{t:SetTable}(ho:h.get? a=some o)(hex:o.ExactSet)(hd:o.data=.set es ep t){es':Array (Int×aZN)}{t':SetTable}(he:Ent w xs es'.toList)(hn:xs.Nodup)(hb:xs.length<scanBound)(hf:t'.fits es'.size=true)(hl:t'.led = !dG w)(hp:xs=[]\/t'.plain=false)(hm:fT t'.mask)(hu:t'.dummies = #[]):fU w (h.update a (Obj.putSet es' t')) a xs :=
 ⟨_,es',ep+1,t',(oM P ho hex hd he hn hb hf hl hp).1,hex,rfl,he,hn,hb,hf,hl,hp,hm,hu⟩
def aK7(h:n<=30):fT (SetTable.sizeAbove n-1)/\n<SetTable.sizeAbove n/\SetTable.sizeAbove n<=32:=by
 have d:∀i:Fin 31,(SetTable.sizeAbove i.1-1=7\/SetTable.sizeAbove i.1-1=15\/SetTable.sizeAbove i.1-1=31)/\i.1<SetTable.sizeAbove i.1/\SetTable.sizeAbove i.1<=32:=by decide +kernel
 exact d ⟨n,by omega⟩
def Wide(h:Heap)(a:Addr)(n:Nat):Prop:=∀o es ep t,h.get? a=some o->o.data=.set es ep t->n<=t.mask
def aK8{a:Addr}(h:fU w s.heap a xs)(hn:n<=30)(hx:xs.length<=n)(q:∀h' ys,Heap.SameBut a s.heap h'->fU w h' a ys->ys.Perm xs->Wide h' a n->Q () {s with heap:=h'}):wpAny (model prog w) A (setRelay a n) Q E s:=by
 obtain⟨o,es,ep,t,ho,hex,hd,he,hnd,hb,hf,hl,hp,hm,hu⟩:=h;obtain⟨sm,lt,le⟩:=aK7 hn;have hz:es.size=xs.length:=by rw[<- aT2];exact he.length
 obtain⟨t2,od,e2,p2,f2,m2,u2,l2,pl2⟩:=yE (f:=t.finger) (mv:=t.movedTo (SetTable.sizeAbove n-1)) (led:=t.led) (pl:=t.plain) sm (es.map (·.1)) (by rw[aX9,hz];omega)
 rw[aX9]at p2 f2;have pe:(od.filterMap (es[·]?)).toList.Perm es.toList:=by rw[Array.toList_filterMap];exact(p2.filterMap _).trans (by rw[filterMap_getElem?_range])
 have ze:(od.filterMap (es[·]?)).size=es.size:=by rw[<- aT2,pe.length_eq,aT2]
 obtain⟨ys,py,ey⟩:=he.perm pe;have by':ys.length<scanBound:=by rw[py.length_eq];exact hb
 unfold setRelay;refine aT8 (aXS ho hd hf ?_);dsimp only;rw[if_neg (by rw[aUF];omega)]
 unfold SetTable.relaid;rw[e2];refine aT8 ?_;show wpAny _ _ (if((od.filterMap (es[·]?)).size != es.size)=true then _ else _) _ _ _;rw[if_neg (by rw[ze];simp)]
 refine aT7 (aXR ho hd (q _ ys (aXH s.heap a _) ?_ py ?_) (by dsimp only;rw[ze,hz];exact aXQ hb))
 . exact rW prog ho hex hd ey (py.symm.nodup hnd) by' (by rw[ze];exact f2) (l2.trans hl) (hp.imp (λe=>by subst e;exact py.eq_nil) λe=>pl2.trans e) (by rw[m2];exact sm) u2
 . intro o' es' ep' t' g1 g2;rw[(oM prog ho hex hd ey (py.symm.nodup hnd) by' (by rw[ze];exact f2) (l2.trans hl) (hp.imp (λe=>by subst e;exact py.eq_nil) λe=>pl2.trans e)).1]at g1
   cases g1;cases g2;rw[m2];omega
def aK9{a:Addr}(h:fU w s.heap a xs)(hn:xs.length+n<=15)(q:∀h' ys,Heap.SameBut a s.heap h'->fU w h' a ys->ys.Perm xs->Wide h' a n->Q () {s with heap:=h'}):wpAny (model prog w) A (setRoomFor a n) Q E s:=by
 obtain⟨o,es,ep,t,ho,hex,hd,he,hnd,hb,hf,hl,hp,hm,hu⟩:=id h;have hz:es.size=xs.length:=by rw[<- aT2];exact he.length
 have hpl:t.place.size=es.size:=by unfold SetTable.fits at hf;rw[aVL,aUI]at hf;exact hf.1
 unfold setRoomFor;refine aT8 (aXS ho hd hf ?_);dsimp only;unfold SetTable.roomFor;split
 . rename_i k e;split at e
   . cases e;exact aK8 h (by rw[hpl,hz];omega) (by rw[hpl,hz];omega) λh' ys r1 r2 r3 r4=>q h' ys r1 r2 r3 λo' es' ep' t' g1 g2=>aTQ (by omega) (r4 o' es' ep' t' g1 g2)
   . cases e
 . rename_i e;refine aT7 (q s.heap xs (aWZ a s.heap) h (.refl _) λo' es' ep' t' g1 g2=>?_);rw[ho]at g1;cases g1;rw[hd]at g2;cases g2;split at e
   . exact(e _ rfl).elim
   . rename_i lt;omega
def aLA{a:Addr}{Q:Bool->aZO->Prop}(ha:aU w s.heap a xs)(hb:aU w s.heap b ys)(q:Q true s):wpAny (model prog w) A (setsQuiet [a,b]) Q E s:=by
 unfold setsQuiet;refine aT8 (aV0 _ (λrest c s'=>c.1=none/\s'=s/\∀d∈rest,∃zs,aU w s.heap d zs) (λc s'=>wpAny _ A _ Q E s') ?_ ?_ _ _ ⟨rfl,rfl,λd hd=>?_⟩)
 . rintro d rest c s' ⟨hc,rfl,hr⟩;obtain⟨zs,o,es,ep,t,ho,hex,hd,he,_,_,hf,_⟩:=hr d mcs;refine aT8 (aYA ho hd hf (aT8 (aYB _ (λr2 c2 s2=>c2.1=none/\s2=s'/\∀e∈r2,∃x t,e.2=.str x t) _ ?_ ?_ _ _ ⟨rfl,rfl,λe he'=>?_⟩)))
   . rintro⟨hx,v⟩ r2 c2 s2 ⟨h1,rfl,h2⟩;obtain⟨x,t',e'⟩:=h2 _ mcs;have e':v=.str x t':=e';subst e';exact aT7 ⟨rfl,rfl,λe' he''=>h2 e' (mcm he'')⟩
   . rintro c2 s2 ⟨h1,rfl,_⟩;dsimp only;rw[h1];exact aT7 ⟨rfl,rfl,λd' hd'=>hr d' (mcm hd')⟩
   . obtain⟨x,t',_,e'⟩:=he.mem e he';exact⟨x,t',by rw[e']⟩
 . rintro c s' ⟨hc,rfl,_⟩;dsimp only;rw[hc];exact aT7 q
 . simp only[aTT,aX2,aXL]at hd;rcases hd with rfl|rfl
   . exact⟨xs,ha⟩
   . exact⟨ys,hb⟩
def aLB{a:Addr}{o:Obj}{es:Array (Int×aZN)}{t:SetTable}{Q:Array (Int×aZN)->aZO->Prop}(ha:aU w s.heap a xs)(nx:xs≠[])(hb:aU w s.heap b ys)(ny:ys≠[])(ho:s.heap.get? b=some o)(hd:o.data=.set es ep t)(q:∀es',es'.toList.Perm es.toList->Q es' s):wpAny (model prog w) A (setWalkUnseen b [a] (some a)) Q E s:=by
 obtain⟨o',es',ep',t',ho',hex,hd',he,hn,hz,hf,hl,hp⟩:=id hb;rw[ho]at ho';cases ho';rw[hd]at hd';cases hd';have pl:t.plain=false:=hp.resolve_left ny;have walk:(dG w=true\/es.size<=1)->wpAny (model prog w) A (setWalk b) Q E s:=by
  intro hc;unfold setWalk;refine aT8 (aXS ho hd hf (aT8 (fV ?_)));cases bt:dG w with
  |true=>simp only[↓reduceIte];exact aT8 (aX0 (aT7 (q _ mH)))
  |false =>
   simp only[aV6,↓reduceIte];have z1:es.size<=1:=hc.resolve_left (by rw[bt];decide)
   have nd:(!t.plain&&decide (es.size > 1))=false:=by rw[pl];simp;omega
   have nl:(!t.led&&decide (es.size > 1))=false:=by rw[hl,bt];rfl
   split
   . rename_i hc';have hc':(!t.plain&&decide (es.size > 1))=true:=hc';rw[nd]at hc';cases hc'
   . show wpAny _ _ ((if(!t.led&&decide (es.size > 1))=true then _ else _)>>=_) _ _ _;rw[nl];exact aT8 (aT7 (aT7 (q es (.refl _))))
 unfold setWalkUnseen;refine aT8 (aXS ho hd hf (aT8 (fV ?_)));dsimp only;split
 . rename_i hc;rw[pl]at hc;simp only[Bool.and_false,aVN,aWB,aV9]at hc;exact walk hc
 . refine aT8 (aLA hb ha ?_);simp only[aV5,aV6,↓reduceIte];obtain⟨oa,ea,epa,ta,hoa,_,hda,_,_,_,hfa,hla,hpa⟩:=ha;refine aT8 (aV2 (aT8 (aXS hoa hda hfa ?_)));dsimp only;rw[if_neg (by rw[hpa.resolve_left nx,hla,hl];cases dG w <;> simp)]
   exact aT7 (q es (.refl _))
def yG{a:Addr}{each:Sem Unit}(ha:fU w s.heap a xs)(hb:aU w s.heap b ys)(ne:a≠b)(hz:xs.length+ys.length<=15)(he:∀h' {Q':Unit->aZO->Prop},Heap.SameBut a s.heap h'->Q' () {s with heap:=h'} -> wpAny (model prog w) A each Q' E {s with heap:=h'})(q:∀h' zs,Heap.SameBut a s.heap h'->aU w h' a zs->(xs=[]->fU w h' a zs/\zs.length=ys.length)->(∀y,y∈zs↔y∈xs\/y∈ys)->Q () {s with heap:=h'}):wpAny (model prog w) A (setMerge a b each) Q E s:=by
 obtain⟨o,es,ep,t,ho,hex,hd,hen,hn,hbd,hf,hl,hp⟩:=id hb;have ez:es.size=ys.length:=by rw[<- aT2];exact hen.length
 unfold setMerge;rw[if_neg (by simpa using ne)]
 refine aT8 (aXS ho hd hf ?_);dsimp only;split
 . rename_i hc;have y0:ys=[]:=aX8.mp (by rw[<- ez];simpa[Array.isEmpty]using hc)
   subst y0;exact aT7 (q s.heap xs (aWZ a s.heap) ha.x (λe=>by subst e;exact⟨ha,rfl⟩) λy=>by simp)
 . rename_i hc;have ny:ys≠[]:=λe=>hc (by subst e;simpa[Array.isEmpty]using ez)
   refine aT8 (aK9 ha (by rw[ez];exact hz) λh1 xs1 sb1 hm1 p1 wd=>?_)
   have hob:h1.get? b=some o:=sb1.extBut b o (Ne.symm ne) ho;have hb1:aU w h1 b ys:=hb.kept λo' e=>sb1.extBut b o' (Ne.symm ne) e;obtain⟨oa,ea,epa,ta,hoa,hexa,hda,hea,hna,hba,hfa,hla,hpa,hma,hua⟩:=id hm1;have ezA:ea.size=xs1.length:=by rw[<- aT2];exact hea.length
   have fill:ta.fill=xs1.length:=by unfold SetTable.fits at hfa;rw[aVL,aUI]at hfa;unfold SetTable.fill;rw[hfa.1,hua,ezA];rfl
   refine aT8 (aXS (s:={s with heap:=h1}) hoa hda hfa ?_)
   dsimp only;have pl:t.plain=false:=hp.resolve_left ny;have ll:(ta.led&&t.led) = !dG w:=by rw[hla,hl,Bool.and_self]
   have lp:(ta.plain&&t.plain)=false:=by rw[pl,Bool.and_false]
   have wm:ys.length<=ta.mask:=by rw[<- ez];exact wd oa ea epa ta hoa hda
   have nil1:xs1.length=0->xs=[]:=λe=>aX8.mp (by rw[<- p1.length_eq];exact e)
   unfold SetTable.road;rw[fill];by_cases f0:xs1.length=0
   . have x0:=nil1 f0;subst x0;rw[f0];simp only[aYC,aV6,↓reduceIte];split
     . rename_i e;split at e
       . rename_i e2;rw[aVL,aUI]at e2;have sm:=rW prog hoa hexa hda (t':={t with finger:=ta.finger,led:=ta.led&&t.led,moves:=ta.moves,plain:=ta.plain&&t.plain}) hen hn hbd hf ll (.inr lp) (by show fT t.mask;rw[<- e2.1];exact hma) (by simpa[Array.isEmpty]using e2.2)
         exact aXR (s:={s with heap:=h1}) hoa hda (q _ ys (sb1.trans (aXH _ a _)) sm.x (λ_=>⟨sm,rfl⟩) λy=>by simp) (aXQ (by rw[ez];exact hbd))
       . cases e
     . rename_i e;obtain⟨t2,od,e2,p2,f2,m2,u2,l2,pl2⟩:=yE (f:=ta.finger) (mv:=ta.moves) (led:=ta.led&&t.led) (pl:=ta.plain&&t.plain) hma (es.map (·.1)) (by rw[aX9,ez];exact wm)
       rw[aX9]at p2 f2;have pe:(od.filterMap (es[·]?)).toList.Perm es.toList:=by rw[Array.toList_filterMap];exact(p2.filterMap _).trans (by rw[filterMap_getElem?_range])
       have ze:(od.filterMap (es[·]?)).size=es.size:=by rw[<- aT2,pe.length_eq,aT2]
       obtain⟨zs,py,ey⟩:=hen.perm pe;rw[e2];refine aT8 ?_;show wpAny _ _ (if((od.filterMap (es[·]?)).size != es.size)=true then _ else _) _ _ _;rw[if_neg (by rw[ze];simp)]
       have sm:=rW prog hoa hexa hda (t':=t2) ey (py.symm.nodup hn) (by rw[py.length_eq];exact hbd) (by rw[ze];exact f2) (l2.trans ll) (.inr (pl2.trans lp)) (by rw[m2];exact hma) u2
       exact aT7 (aXR (s:={s with heap:=h1}) hoa hda (q _ zs (sb1.trans (aXH _ a _)) sm.x (λ_=>⟨sm,py.length_eq⟩) λy=>by simp[py.mem_iff]) (by dsimp only;rw[ze];exact aXQ (by rw[ez];exact hbd)))
     . rename_i e;split at e <;> cases e
   . have n1:xs1≠[]:=λe=>f0 (by rw[e];rfl)
     have nx:xs≠[]:=λe=>by subst e;exact n1 p1.eq_nil
     rw[if_pos (by simpa using f0)]
     dsimp only;refine aT8 (aLB (s:={s with heap:=h1}) hm1.x n1 hb1 ny hob hd λes' pe=>?_)
     obtain⟨ds,pd,ed⟩:=hen.perm pe;refine aT8 (aYB _ (λrest _ s'=>∃h' zs ds,s'={s with heap:=h'}/\Heap.SameBut a s.heap h'/\aU w h' a zs/\Ent w ds rest/\(∀y,(y∈zs\/y∈ds)↔(y∈xs\/y∈ys))/\zs.length+ds.length<=15) _ ?_ ?_ _ _ ⟨h1,xs1,ds,rfl,sb1,hm1.x,ed,λy=>by rw[p1.mem_iff,pd.mem_iff],by rw[p1.length_eq,pd.length_eq];exact hz⟩)
     . rintro x rest u s' ⟨h',zs,ds,rfl,sb,X,en,mm,zz⟩;cases ds with
       |nil=>cases(show x::rest=[]from en)
       |cons y ds =>
        obtain⟨tk,r,e1,en⟩:=en;cases e1;rw[aUJ]at zz;refine aT8 (aVG (xX (s:={s with heap:=h'}) X (aYD (m:=15) (by omega) (by decide)) λh2 zs2 sb2 X2 pm=>?_))
        have sb3:=sb.trans sb2;refine aT8 (he h2 sb3 (aT8 (aXS (s:={s with heap:=h2}) (sb3.extBut b o (Ne.symm ne) ho) hd hf ?_)))
        simp only[aYC,aV6,↓reduceIte];refine aT7 ⟨h2,zs2,ds,rfl,sb3,X2,en,λv=>?_,?_⟩
        . rw[<- mm v,pm.mem_iff];split
          . rename_i hy;simp only[aTT];exact⟨λh=>h.imp id .inr,λh=>h.elim .inl λh=>h.elim (λe=>.inl (e ▸ hy)) .inr⟩
          . simp only[aTU,aTT,aX2,aXL];exact or_assoc
        . rw[pm.length_eq];split
          . omega
          . rw[aU4];simp;omega
     . rintro u s' ⟨h',zs,ds,rfl,sb,X,en,mm,zz⟩;have d0:ds=[]:=aX8.mp (by rw[<- en.length];rfl)
       subst d0;exact aT7 (q h' zs sb X (λe=>absurd e nx) λy=>by rw[<- mm y];simp)
end
def aLC:entryFor table "set.__or__" = some Builtin.«frozenset.__or__»:=entryFor_alias (id' := "frozenset.__or__") (by kernel_rfl) rfl (by decide +kernel) (by kernel_rfl)
def aU.ty{a:Addr}(x:aU w s.heap a xs):s.TypeIs (.ref a) "set" := by obtain⟨o,es,ep,t,ho,hex,r⟩:=x;exact⟨o,ho,hex.1⟩
section
variable {A:aZP}{E:VSP}
def rX{M:Model}{p:Addr}{Q:Bool->aZO->Prop}(tp:s.TypeIs (.ref p) "set")(q:Q true s):wpAny M A (Builtin.Frozenset.isAnySet (.ref p)) Q E s:=by unfold Builtin.Frozenset.isAnySet orM;exact aT8 (aV4 tp aXZ (aT7 q))
def aLD{Q:VSP}(q:Q (.ref s.heap.objs.size) {s with heap:=s.heap.push (sob w)}):wpAny (model prog w) A (newSet (.type "set")) Q E s:=by unfold newSet;refine aT8 (fV ?_);dsimp only;simp only[newObj];exact aT8 (wpAny_alloc (aT7 q))
def yH{a:Addr}{Q:Nat->aZO->Prop}(h:aU w s.heap a xs)(q:∀n,(∀o es ep t,s.heap.get? a=some o->o.data=.set es ep t->n=ep)->Q n s):wpAny (model prog w) A (setEpoch a) Q E s:=by obtain⟨o,es,ep,t,ho,hex,hd,he,hn,hb,hf,hl,hp⟩:=h;exact aYE ho hd hf (q ep λo' es' ep' t' e1 e2=>by rw[ho]at e1;cases e1;rw[hd]at e2;cases e2;rfl)
def or_x{a:Addr}{Q:VSP}(ha:aU w s.heap a xs)(hb:aU w s.heap b ys)(ne:a≠b)(hz:xs.length+ys.length<=15)(h:∀h' zs,(∀c o,s.heap.get? c=some o->h'.get? c=some o)->aU w h' s.heap.objs.size zs->(∀y,y∈zs↔y∈xs\/y∈ys)->Q (.ref s.heap.objs.size) {s with heap:=h'}):wpAny (model prog w) A (binaryOp .BitOr (.ref a) (.ref b)) Q E s:=by
 have la:=ha.there;have lb:=hb.there;refine wpAny_binaryOp_same ha.ty hb.ty PySem.F.fills_set_or PySem.F.slot_set_or (aVJ PySem.F.slot_set_or ha.ty aLC ?_ (PySem.F.args_set_or_2 _ _));unfold Builtin.«frozenset.__or__»;show wpAny _ _ (Builtin.Frozenset.slot1 "__or__" _>>=_) _ _ _;refine aT8 (m:=Builtin.Frozenset.slot1 _ _) (aT7 ?_);show wpAny _ _ (andM (Builtin.Frozenset.isAnySet (.ref a)) (Builtin.Frozenset.isAnySet (.ref b))>>=_) _ _ _;unfold andM;refine aT8 (aT8 (rX ha.ty (rX hb.ty ?_)));simp only[aV5,aV6,↓reduceIte];refine aT8 (m:=Builtin.Frozenset.addrOf _) (aT7 (aT8 ?_));show wpAny _ _ (Builtin.Frozenset.copyOf a>>=_) _ _ _;unfold Builtin.Frozenset.copyOf Builtin.Frozenset.baseOf;refine aT8 (aT8 (aT8 (aV4 ha.ty aXZ (aT7 ?_))));simp only[↓reduceIte];refine aT8 (aLD (aT8 (m:=Builtin.Frozenset.addrOf _) (aT7 (aT8 ?_))));have g0:(s.heap.push (sob w)).get? s.heap.objs.size=some (sob w):=aTI _ rfl;refine yG (s:={s with heap:=s.heap.push (sob w)}) (sob_m g0) (ha.kept λo e=>hps e) (aT6 la) (by simp;omega) (λh' Q' _ q=>aT7 q) λh1 zs sb1 X1 m1 mm1=>?_
 obtain⟨m1,lz⟩:=m1 rfl;refine aT7 ?_;have nb:(Value.ref b != Value.ref a)=true:=by simpa using Ne.symm ne
 rw[if_pos nb];have hb1:aU w h1 b ys:=hb.kept λo e=>sb1.extBut b o (aTM lb) (hps e);refine aT8 (m:=Builtin.Frozenset.addrOf _) (aT7 (aT8 (aVG ?_)));unfold Builtin.Frozenset.updateFrom;refine aT8 (rX (s:={s with heap:=h1}) hb1.ty ?_)
 simp only[↓reduceIte];refine aT8 (m:=Builtin.Frozenset.addrOf _) (aT7 ?_);unfold Builtin.Frozenset.merge;refine aT8 (yH (s:={s with heap:=h1}) hb1 λn hn=>?_)
 refine yG (s:={s with heap:=h1}) m1 hb1 (aT6 lb) (by rw[lz];exact hz) (λh' Q' sb q=>?_) λh2 us sb2 X2 _ mm2=>?_
 . unfold Builtin.Frozenset.unchanged;have kb:∀o,h1.get? b=some o->h'.get? b=some o:=λo e=>sb.extBut b o (aTM lb) e;refine aT8 (yH (s:={s with heap:=h'}) (hb1.kept kb) λk hk=>?_)
   obtain⟨o,es,ep,t,ho,_,hd,_⟩:=hb1;have e1:n=ep:=hn o es ep t ho hd;have e2:k=ep:=hk o es ep t (kb o ho) hd;rw[e1,e2];simp only[aYC,aV6,↓reduceIte];exact aT7 q
 . refine aT7 (aT7 ⟨_,rfl,(by intro e;cases e),h h2 us (λc o e=>sb2.extBut c o (aTM (aTJ e)) (sb1.extBut c o (aTM (aTJ e)) (hps e))) X2 λy=>?_⟩)
   rw[mm2,mm1];simp
end
def fC:Slot "set_iterator" "__next__" "set_iterator.__next__" := .of (owner := "set_iterator") (n := "__next__") (by rw[typeLookup_type,builtinLookup_eq_fast];kernel_rfl) (by decide +kernel) (by decide +kernel) (by decide +kernel) (by first|exact .inl (by decide +kernel)|exact .inr (by decide +kernel)) (by rw[aXY];kernel_rfl)
def oO:entryFor table "set_iterator.__next__" = some Builtin.«set_iterator.__next__»:=entryFor_of_tree (by kernel_rfl)
def yI:Manifest.owners.lookup (String.ofList "rotareti_tes".toList.reverse)=some Manifest.sig_set_iterator:=by kernel_rfl
def oP(a:aZN):argsOk "set_iterator.__next__" ⟨[a],[]⟩:=by unfold argsOk;rw[signature?_of (id := "set_iterator.__next__") (n := "__txen__".toList) (o := "rotareti_tes".toList) (by kernel_rfl) yI];kernel_rfl
def yJ:Slot "set_iterator" "__iter__" "set_iterator.__iter__" := .of (owner := "set_iterator") (n := "__iter__") (by rw[typeLookup_type,builtinLookup_eq_fast];kernel_rfl) (by decide +kernel) (by decide +kernel) (by decide +kernel) (by first|exact .inl (by decide +kernel)|exact .inr (by decide +kernel)) (by rw[aXY];kernel_rfl)
def aLE(a:aZN):argsOk "set_iterator.__iter__" ⟨[a],[]⟩:=by unfold argsOk;rw[signature?_of (id := "set_iterator.__iter__") (n := "__reti__".toList) (o := "rotareti_tes".toList) (by kernel_rfl) yI];kernel_rfl
def aLF:entryFor table "set.__iter__" = some Builtin.«frozenset.__iter__»:=entryFor_alias (id' := "frozenset.__iter__") (by kernel_rfl) rfl (by decide +kernel) (by kernel_rfl)
def aLG:entryFor table "set_iterator.__iter__" = some Builtin.«dict_keyiterator.__iter__»:=entryFor_alias (id' := "dict_keyiterator.__iter__") (by kernel_rfl) rfl (by decide +kernel) (by kernel_rfl)
def SIt(h:Heap)(I a:Addr)(f:aZN)(i n ep:Nat):Prop:=∃o,h.get? I=some o/\o.cls=.type "set_iterator" /\ o.data=.fields #[f,.int i 0,.ref a,.int n 0,.int ep 0]
def SIt.ty{a:Addr}{f:aZN}(x:SIt s.heap I a f i n ep):s.TypeIs (.ref I) "set_iterator" := let⟨o,h1,h2,_⟩:=x;⟨o,h1,h2⟩
def SIt.at{a:Addr}{f:aZN}(x:SIt h I a f i n ep)(k:∀o,h.get? I=some o->h'.get? I=some o):SIt h' I a f i n ep:=let⟨o,h1,r⟩:=x;⟨o,k o h1,r⟩
section
variable {A:aZP}{E:VSP}{a:Addr}{o:Obj}{es:Array (Int×aZN)}{t:SetTable}
def rY{f:aZN}{Q:VSP}(x:SIt s.heap I a f i n ep)(q:Q (.ref I) s):wpAny (model prog w) A (pyIter (.ref I)) Q E s:=by refine aYF x.ty yJ (aVJ yJ x.ty aLG ?_ (aLE _));show wpAny _ _ (ret (.ref I)) _ _ s;exact aT7 ⟨_,rfl,"set_iterator", _,x.ty,fC.lookup,q⟩
def aLH {β : Type} {m : Sem β} {f f' : aZN} {o : Obj} (h0 : s.heap.get? I = some o) (hc : o.cls = .type "set_iterator") (hd : o.data = .fields #[f, .int i 0, .ref a, .int n 0, .int ep 0]) {Q : β → aZO → Prop}
    (q:∀h',Heap.SameBut I s.heap h'->SIt h' I a f' (i+1) n ep->wpAny (model prog w) A m Q E {s with heap:=h'}):wpAny (model prog w) A (do setField (.ref I) 0 f';setField (.ref I) 1 (rawInt (i+1));m) Q E s:=by
 refine aT8 (aXD h0 hd (by simp) ?_)
 have g1:=aXE (Obj.mapFields (·.setIfInBounds 0 f')) h0 (aXF (aXG hd _));have d1:=aXG hd (·.setIfInBounds 0 f');refine aT8 (aXD (s:={s with heap:=s.heap.update I (Obj.mapFields (·.setIfInBounds 0 f'))}) g1 d1 (by simp) (q _ ((aXH _ I _).trans (aXH _ I _)) ?_))
 refine⟨_,aXE _ g1 (aXF (aXG d1 _)),(aXI ..).trans ((aXI ..).trans hc),?_⟩;rw[aXG d1];simp[rawInt]
def aLI{f:aZN}{o:Obj}(h0:s.heap.get? I=some o)(hc:o.cls=.type "set_iterator")(hd:o.data=.fields #[f,.int i 0,.ref a,.int n 0,.int ep 0])(q:∀h',Heap.SameBut I s.heap h'->SIt h' I a f (i+1) n ep->Q () {s with heap:=h'}):wpAny (model prog w) A (setField (.ref I) 1 (rawInt (i+1))) Q E s:=by
 refine aXD h0 hd (by simp) (q _ (aXH _ I _) ⟨_,aXE _ h0 (aXF (aXG hd _)),(aXI ..).trans hc,?_⟩)
 rw[aXG hd];simp[rawInt]
def yK {P : PySem.Fin → aZO → Prop} {Q : Option aZN → aZO → Prop} (hh : A.handled = none) (q : ∀ h', (∀ b o, s.heap.get? b = some o → h'.get? b = some o) → Q none { s with heap := h' }) :
    wpAny (model prog w) A.in1 (do let e <- newExc (.type "StopIteration") [];raiseNew e) P (λe s'=>wpAny (model prog w) A (do let c <- isInstance e (.type "StopIteration");if c=true then pure none else throw e) Q E s') s:=by
 refine aT8 ?_;simp only[newExc,newTuple];refine aT8 (aVM (aT8 (m:=firstArgMember _ _) (aXJ (a:=Value.none) (by first|rfl|(simp only[firstArgMember];rfl)) (aVM ?_ (by size_fits)))) (by size_fits))
 simp only[raiseNew];refine aT8 (wpAny_handled ?_);rw[show A.in1.handled=none from hh]
 refine aT8 (aT7 (wpAny_throw (aT8 ?_)));exact aV4 (T := "StopIteration") (b:=true) ⟨_,aTI _ rfl,rfl⟩ isSubtype_stop (aT7 (q _ λb o e=>hps (hps e)))
def yL{k':Nat}{x:aZN}{Q:Option aZN->aZO->Prop}(X:SIt s.heap I a (.int k 0) i es.size ep)(ho:s.heap.get? a=some o)(hd:o.data=.set es ep t)(hf:t.fits es.size=true)(hn:∀{A':aZP}{E':VSP}{Q':Option (aZN×Nat)->aZO->Prop},Q' (some (x,k')) s->wpAny (model prog w) A' (setNext a k i ep) Q' E' s)(q:∀h',Heap.SameBut I s.heap h'->SIt h' I a (.int k' 0) (i+1) es.size ep->Q (some x) {s with heap:=h'}):wpAny (model prog w) A (pyNext (.ref I)) Q E s:=by obtain⟨oI,h0,hc,hdI⟩:=id X;unfold pyNext;refine aT8 (aXN (aVH (name:=Str.ofString "__next__") X.ty fC (aVJ fC X.ty oO ?_ (oP _))));unfold Builtin.«set_iterator.__next__»;refine aT8 (m:=slotArgs _ _ _) (aT7 (aT8 (aYG h0 hdI ?_)));dsimp only;refine aT8 (aYA ho hd hf ?_);simp only[aYC,aV6,↓reduceIte,aVB];refine aT8 (hn ?_);dsimp only;exact aLH h0 hc hdI λh' sb X'=>aT7 ⟨_,rfl,aT7 (q h' sb X')⟩
def yM{Q:Option aZN->aZO->Prop}(hh:A.handled=none)(X:SIt s.heap I a (.int k 0) i es.size ep)(ho:s.heap.get? a=some o)(hd:o.data=.set es ep t)(hf:t.fits es.size=true)(hn:∀{A':aZP}{E':VSP}{Q':Option (aZN×Nat)->aZO->Prop},Q' none s->wpAny (model prog w) A' (setNext a k i ep) Q' E' s)(q:∀h',(∀b o,b≠I->s.heap.get? b=some o->h'.get? b=some o)->Q none {s with heap:=h'}):wpAny (model prog w) A (pyNext (.ref I)) Q E s:=by
 obtain⟨oI,h0,hc,hdI⟩:=id X;unfold pyNext;refine aT8 (aXN (aVH (name:=Str.ofString "__next__") X.ty fC (aVJ fC X.ty oO ?_ (oP _))));unfold Builtin.«set_iterator.__next__»;refine aT8 (m:=slotArgs _ _ _) (aT7 (aT8 (aYG h0 hdI ?_)));dsimp only;refine aT8 (aYA ho hd hf ?_);simp only[aYC,aV6,↓reduceIte,aVB];refine aT8 (hn ?_);dsimp only;refine aT8 (aXD h0 hdI (by simp) (yK hh λh' k'=>q h' λb o' nb e=>k' b o' ?_))
 exact(aXH s.heap I _).extBut b o' nb e
def aLJ{ps:Array aZN}{p:Nat}{u:Tok}{hx:Int}{x:aZN}{Q:Option aZN->aZO->Prop}(X:SIt s.heap I a (.ref tp) i es.size ep)(ht:s.heap.IsTuple tp ps)(hp:ps[i]? = some (.int p u))(ho:s.heap.get? a=some o)(hd:o.data=.set es ep t)(hf:t.fits es.size=true)(hx:es[p]? = some (hx,x))(q:∀h',Heap.SameBut I s.heap h'->SIt h' I a (.ref tp) (i+1) es.size ep->Q (some x) {s with heap:=h'}):wpAny (model prog w) A (pyNext (.ref I)) Q E s:=by obtain⟨oI,h0,hc,hdI⟩:=id X;obtain⟨ot,hot,hct,nt,hdt⟩:=ht;unfold pyNext;refine aT8 (aXN (aVH (name:=Str.ofString "__next__") X.ty fC (aVJ fC X.ty oO ?_ (oP _))));unfold Builtin.«set_iterator.__next__»;refine aT8 (m:=slotArgs _ _ _) (aT7 (aT8 (aYG h0 hdI ?_)));dsimp only;refine aT8 (aYA ho hd hf ?_);simp only[aYC,aV6,↓reduceIte,aVB];refine aT8 (aV7 hot hdt ?_);dsimp only;rw[hp];dsimp only;unfold setNextDrawn;refine aT8 (aT8 (aXS ho hd hf ?_));simp only[aYC,aV6,↓reduceIte,aVB,hx];refine aT7 (aT8 (aLI h0 hc hdI λh' sb X'=>aT7 ⟨_,rfl,aT7 (q h' sb X')⟩))
def aLK{ps:Array aZN}{Q:Option aZN->aZO->Prop}(hh:A.handled=none)(X:SIt s.heap I a (.ref tp) i es.size ep)(ht:s.heap.IsTuple tp ps)(hp:ps[i]? = none)(ho:s.heap.get? a=some o)(hd:o.data=.set es ep t)(hf:t.fits es.size=true)(q:∀h',(∀b o,b≠I->s.heap.get? b=some o->h'.get? b=some o)->Q none {s with heap:=h'}):wpAny (model prog w) A (pyNext (.ref I)) Q E s:=by
 obtain⟨oI,h0,hc,hdI⟩:=id X;obtain⟨ot,hot,hct,nt,hdt⟩:=ht;unfold pyNext;refine aT8 (aXN (aVH (name:=Str.ofString "__next__") X.ty fC (aVJ fC X.ty oO ?_ (oP _))));unfold Builtin.«set_iterator.__next__»;refine aT8 (m:=slotArgs _ _ _) (aT7 (aT8 (aYG h0 hdI ?_)));dsimp only;refine aT8 (aYA ho hd hf ?_);simp only[aYC,aV6,↓reduceIte,aVB];refine aT8 (aV7 hot hdt ?_);dsimp only;rw[hp];dsimp only;refine aT8 (aXD h0 hdI (by simp) ?_)
 have g1:=aXE (Obj.mapFields (·.setIfInBounds 0 (rawInt 0))) h0 (aXF (aXG hdI _));have d1:=aXG hdI (·.setIfInBounds 0 (rawInt 0));refine aT8 (aXD (s:={s with heap:=s.heap.update I (Obj.mapFields (·.setIfInBounds 0 (rawInt 0)))}) g1 d1 (by simp) (yK hh λh' k'=>q h' λb o' nb e=>k' b o' ?_))
 exact(aXH _ I _).extBut b o' nb ((aXH s.heap I _).extBut b o' nb e)
end
section
variable {A:aZP}{E:VSP}
def aLL{M:Model}{src:Source}{Q:Nat->aZO->Prop}(hn:n≠0)(h:∀i,i<n->Q i {s with drawn:=s.drawn.bump src}):wpAny M A (choose src n) Q E s :=
 λ_ _ _=>⟨hn,h _ (Nat.mod_lt _ (Nat.pos_of_ne_zero hn))⟩
theorem yN{M:Model}{α:Type}:∀{n:Nat}{l:List α}{s:aZO}{Q:List α->aZO->Prop},l.length=n->(∀d l',l'.Perm l->Q l' {s with drawn:=d})->wpAny M A (drawOrder n l) Q E s
 |0,l,s,Q,hl,h=>by have:l=[]:=aX8.mp hl;subst this;unfold drawOrder;exact aT7 (h s.drawn [] (.refl _))
 |n+1,[],s,Q,hl,h=>by cases hl
 |n+1,x::l,s,Q,hl,h=>by
  unfold drawOrder;refine aT8 (aLL (by simp) λi hi=>?_)
  rw[aWL hi];dsimp only;refine aT8 (yN (by rw[List.length_eraseIdx,if_pos hi];omega) λd l' p=>aT7 (h d _ ?_))
  exact(p.cons _).trans (rV hi)
variable  {a:Addr}{o:Obj}{es:Array (Int×aZN)}{t:SetTable}
def aLM(hh:A.handled=none)(hne:a≠I)(hd:o.data=.set es ep t)(hf:t.fits es.size=true)(bt:dG w=true):Walks prog w A I [I,a] [I] es.size (λi v=>((pickOrder (w.params.setOrder a ep) es).map (·.2))[i]? = some v) (λi h=>SIt h I a (.int (0:Nat) 0) i es.size ep/\h.get? a=some o) where
 sub:=λb hb=>by simp at hb;simp[hb]
 frame:=λ_ _ _ st hk=>⟨st.1.at λo e=>hk I (by simp) o e,hk a (by simp) o st.2⟩
 item:=λi s Q E hi st hQ=>by
  have hz:(pickOrder (w.params.setOrder a ep) es).size=es.size:=by rw[<- aT2,mH.length_eq,aT2]
  have hx:(pickOrder (w.params.setOrder a ep) es)[i]? = some (pickOrder (w.params.setOrder a ep) es)[i]:=aX6 (by rw[hz];exact hi)
  refine yL (k:=0) (k':=0) st.1 st.2 hd hf (x:=((pickOrder (w.params.setOrder a ep) es)[i]).2) (λ{A' E' Q'} q=>?_) λh' sb X'=>?_
  . unfold setNext setWalk;refine aT8 (aXS st.2 hd hf (aT8 (fV ?_)));simp only[bt,↓reduceIte,aYC,aV6];refine aT8 (aT8 (aXS st.2 hd hf (aT8 (fV ?_))));simp only[bt,↓reduceIte];refine aT8 (aX0 (aT7 (aT7 ?_)));show Q' (Option.map _ (pickOrder (w.params.setOrder a ep) es)[i]?) _;rw[hx];exact q
  . exact hQ _ h' s.toks (by rw[Array.getElem?_map,hx];rfl) ⟨X',sb.extBut a o hne st.2⟩ λb o' hb e=>sb.extBut b o' (λh=>hb (by simp[h])) e
 done:=λs Q E st hQ=>by
  have hz:(pickOrder (w.params.setOrder a ep) es).size=es.size:=by rw[<- aT2,mH.length_eq,aT2]
  have hx:(pickOrder (w.params.setOrder a ep) es)[es.size]? = none:=aYH (by rw[hz];exact aUA _)
  refine yM (k:=0) hh st.1 st.2 hd hf (λ{A' E' Q'} q=>?_) λh' kp=>hQ h' s.toks λb o' hb e=>kp b o' (λh=>hb (by simp[h])) e
  unfold setNext setWalk;refine aT8 (aXS st.2 hd hf (aT8 (fV ?_)));simp only[bt,↓reduceIte,aYC,aV6];refine aT8 (aT8 (aXS st.2 hd hf (aT8 (fV ?_))));simp only[bt,↓reduceIte];refine aT8 (aX0 (aT7 (aT7 ?_)));show Q' (Option.map _ (pickOrder (w.params.setOrder a ep) es)[es.size]?) _;rw[hx];exact q
 self:=λ_ _ _ _ st hQ=>rY st.1 hQ
def aLN{ps:Array aZN}(hh:A.handled=none)(hne:a≠I)(hnt:tp≠I)(hd:o.data=.set es ep t)(hf:t.fits es.size=true){qs:List Nat}(hq:ps=(qs.map λ(i:Nat)=>rawInt i).toArray)(hp:qs.Perm (List.range es.size)):Walks prog w A I [I,a,tp] [I] es.size (λi v=>∃p hx,qs[i]? = some p/\es[p]? = some (hx,v)) (λi h=>SIt h I a (.ref tp) i es.size ep/\h.get? a=some o/\h.IsTuple tp ps) where
 sub:=λb hb=>by simp at hb;simp[hb]
 frame:=λ_ _ _ st hk=>⟨st.1.at λo e=>hk I (by simp) o e,hk a (by simp) o st.2.1,st.2.2.at λo e=>hk tp (by simp) o e⟩
 item:=λi s Q E hi st hQ=>by
  have hz:qs.length=es.size:=by rw[hp.length_eq,aX7]
  have hi':i<qs.length:=by rw[hz];exact hi
  have hx:qs[i]? = some qs[i]:=aWL hi';have hm:qs[i]<es.size:=aTO.mp (hp.mem_iff.mp (aWM hi'));have he:es[qs[i]]? = some (es[qs[i]].1,es[qs[i]].2):=aX6 hm;refine aLJ st.1 st.2.2 (p:=qs[i]) (u:=0) (by rw[hq,aXM,aU2,hx];rfl) st.2.1 hd hf he λh' sb X'=>?_
  exact hQ _ h' s.toks ⟨_,_,hx,he⟩ ⟨X',sb.extBut a o hne st.2.1,st.2.2.extBut sb.extBut hnt⟩ λb o' hb e=>sb.extBut b o' (λh=>hb (by simp[h])) e
 done:=λs Q E st hQ=>by
  have hz:qs.length=es.size:=by rw[hp.length_eq,aX7]
  refine aLK hh st.1 st.2.2 (by rw[hq,aXM,aU2,aYI (by rw[hz];exact aUA _)];rfl) st.2.1 hd hf λh' kp=>hQ h' s.toks λb o' hb e=>kp b o' (λh=>hb (by simp[h])) e
 self:=λ_ _ _ _ st hQ=>rY st.1 hQ
def yO{p:Nat}:SetTable.below #[p] j=if p<j then 1 else 0:=by
 show SetTable.below.go #[p] j 1 0 1=_;unfold SetTable.below.go;rw[if_pos (by decide)]
 show(if(#[p].getD 0 j)<j then SetTable.below.go #[p] j 0 1 1 else SetTable.below.go #[p] j 0 0 0)=_;rfl
def aLO(hh:A.handled=none)(hne:a≠I)(hd:o.data=.set es ep t)(hf:t.fits es.size=true)(bt:dG w=false)(hl:t.led=true)(h1:es.size<=1):Walks prog w A I [I,a] [I] es.size (λi v=>(es.map (·.2))[i]? = some v) (λi h=>SIt h I a (.int ((if i=0 then 0 else t.place.getD 0 0+1:Nat):Int) 0) i es.size ep/\h.get? a=some o) where
 sub:=λb hb=>by simp at hb;simp[hb]
 frame:=λ_ _ _ st hk=>⟨st.1.at λo e=>hk I (by simp) o e,hk a (by simp) o st.2⟩
 item:=λi s Q E hi st hQ=>by
  have i0:i=0:=by omega
  subst i0;have hz:t.place.size=es.size:=by unfold SetTable.fits at hf;rw[aVL,aUI]at hf;exact hf.1
  have e1:es.size=1:=by omega
  obtain⟨p,hp⟩:∃p,t.place = #[p]:=⟨t.place[0]'(by omega),by apply Array.ext <;> simp[hz,e1];intro k hk;subst hk;rfl⟩
  obtain⟨⟨hx,x⟩,hes⟩:∃e,es = #[e]:=⟨es[0]'(by omega),by apply Array.ext <;> simp[e1];intro k hk;subst hk;rfl⟩
  subst hes;refine yL (k:=0) (k':=p+1) st.1 st.2 hd hf (x:=x) (λ{A' E' Q'} q=>?_) λh' sb X'=>?_
  . unfold setNext;refine aT8 (aXS st.2 hd hf (aT8 (fV ?_)));simp only[bt,↓reduceIte,aV6];split
    . rename_i hc;have hc:(!t.plain&&decide (#[(hx,x)].size > 1))=true:=hc;simp at hc
    . show wpAny _ _ ((if(!t.led&&!(#[(hx,x)].isEmpty))=true then _ else _)>>=_) _ _ _;rw[hl];refine aT8 (aT7 ?_);rw[hp,yO];exact aT7 q
  . exact hQ _ h' s.toks (by simp) ⟨by simpa[hp]using X',sb.extBut a o hne st.2⟩ λb o' hb e=>sb.extBut b o' (λh=>hb (by simp[h])) e
 done:=λs Q E st hQ=>by
  have hz:t.place.size=es.size:=by unfold SetTable.fits at hf;rw[aVL,aUI]at hf;exact hf.1
  refine yM hh st.1 st.2 hd hf (λ{A' E' Q'} q=>?_) λh' kp=>hQ h' s.toks λb o' hb e=>kp b o' (λh=>hb (by simp[h])) e
  unfold setNext;refine aT8 (aXS st.2 hd hf (aT8 (fV ?_)));simp only[bt,↓reduceIte,aV6];split
  . rename_i hc;have hc:(!t.plain&&decide (es.size > 1))=true:=hc;simp at hc;omega
  . show wpAny _ _ ((if(!t.led&&!(es.isEmpty))=true then _ else _)>>=_) _ _ _;rw[hl];refine aT8 (aT7 ?_);have hnone:es[SetTable.below t.place (if es.size=0 then 0 else t.place.getD 0 0+1)]? = none:=by
      refine aYH ?_;by_cases e0:es.size=0
      . rw[e0];exact aUP _
      . have e1:es.size=1:=by omega
        obtain⟨p,hp⟩:∃p,t.place = #[p]:=⟨t.place[0]'(by omega),by apply Array.ext <;> simp[hz,e1];intro k hk;subst hk;rfl⟩
        rw[if_neg e0,hp,yO];simp[e1]
    rw[hnone];exact aT7 q
 self:=λ_ _ _ _ st hQ=>rY st.1 hQ
def rZ{wr:List Addr}{n':Nat}{P P':Nat->aZN->Prop}{St:Nat->Heap->Prop}(W:Walks prog w A I fp wr n P St)(e:n=n')(h:∀i v,P i v->P' i v):Walks prog w A I fp wr n' P' St:=by subst e;exact⟨W.sub,W.frame,λi s Q E hi st hQ=>W.item i s Q E hi st λv h' tk p=>hQ v h' tk (h i v p),W.done,W.self⟩
theorem oQ:∀{xs:List Str}{l:List (Int×aZN)},Ent w xs l->StrsAre (l.map (·.2)) xs
 |[],l,h=>by have h:l=[]:=h;subst h;exact .nil
 |x::xs,l,h=>by obtain⟨t,r,rfl,hr⟩:=h;exact .cons x t (oQ hr)
def aLP{Q:VSP}(hh:A.handled=none)(X:aU w s.heap a xs)(q:∀(I:Addr) (h':Heap) d (fp:List Addr) (items:List aZN) (ys:List Str) (St:Nat->Heap->Prop),Walks prog w A I fp [I] items.length (λi v=>items[i]? = some v) St->St 0 h'->StrsAre items ys->ys.Perm xs->(∀b o,s.heap.get? b=some o->h'.get? b=some o)->s.heap.objs.size<=I->(∀b∈fp,b=a\/s.heap.objs.size<=b)->Q (.ref I) {s with heap:=h',drawn:=d}):wpAny (model prog w) A (pyIter (.ref a)) Q E s:=by
 obtain⟨o,es,ep,t,ho,hex,hd,he,hn,hb,hf,hl,hp⟩:=id X;have la:=X.there;have hz:es.size=xs.length:=by rw[<- aT2];exact he.length
 refine aYF X.ty PySem.F.slot_set_iter (aVJ PySem.F.slot_set_iter X.ty aLF ?_ (PySem.F.args_set_iter_1 _));unfold Builtin.«frozenset.__iter__»;refine aT8 (m:=Builtin.Frozenset.slot0 _ _) (aT7 (aT8 ?_));unfold Builtin.Frozenset.sizeOf;refine aT8 (aYA ho hd hf (aT7 (aT8 ?_)));unfold setDrawn;refine aT8 (aXS ho hd hf (aT8 (fV (aT7 ?_))));dsimp only;have sz:es.size<=sizeLine:=by rw[hz];exact aXQ hb
 split
 . rename_i hc;refine aT8 (yN (by simp) λd l' pl=>aT8 (wpAny_newTuple ?_ (by rw[aUL,pl.length_eq,aX7];exact sz)))
   have ho1:=Heap.get?_push_of_some (seqObj "tuple" (l'.map λ(i:Nat)=>rawInt i).toArray 0) ho;refine aT8 (aYE (s:={ s with heap:=s.heap.push (seqObj "tuple" (l'.map λ(i:Nat)=>rawInt i).toArray 0),drawn:=d }) ho1 hd hf (aT8 (aVM (aT7 ⟨_,rfl,"set_iterator", _,⟨_,aTI _ rfl,rfl⟩,fC.lookup,?_⟩))))
   have ls:(s.heap.push (seqObj "tuple" (l'.map λ(i:Nat)=>rawInt i).toArray 0)).objs.size=s.heap.objs.size+1:=aYJ _ _;have pe:(l'.map λp=>es.getD p (0,.none)).Perm es.toList:=by
    refine(pl.map _).trans (.of_eq ?_);apply aYK
    . simp
    . intro k k1 k2;simp at k1 ⊢;rw[aX6 k1];rfl
   obtain⟨ys,py,ey⟩:=he.perm pe;have W:=aLN (prog:=prog) (w:=w) (A:=A) (I:=(s.heap.push (seqObj "tuple" (l'.map λ(i:Nat)=>rawInt i).toArray 0)).objs.size) (tp:=s.heap.objs.size) hh (by rw[ls];exact aTM (aWX la)) (by rw[ls];exact aTM (aUO _)) hd hf rfl pl
   refine q _ _ d _ ((l'.map λp=>es.getD p (0,.none)).map (·.2)) ys _ (rZ W (by simp[pl.length_eq]) λi v hv=>?_) ⟨⟨_,aTI _ rfl,rfl,rfl⟩,hps ho1,⟨_,hps (aTI _ rfl),rfl,_,rfl⟩⟩ (oQ ey) py
    (λb o' e=>hps (hps e)) (by rw[ls];exact aW3 _) λb hb=>?_
   . obtain⟨p,hx,e1,e2⟩:=hv;rw[aU2,aU2,e1];simp[aX5,e2]
   . simp only[aTT,aX2,aXL]at hb;rcases hb with rfl|rfl|rfl
     . right;rw[ls];exact aW3 _
     . left;rfl
     . right;exact aUA _
 . rename_i hc;refine aT8 (aT7 (aT8 (aYE ho hd hf (aT8 (aVM (aT7 ⟨_,rfl,"set_iterator", _,⟨_,aTI _ rfl,rfl⟩,fC.lookup,?_⟩))))));have fpx:∀b∈[s.heap.objs.size,a],b=a\/s.heap.objs.size<=b:=λb hb=>by
     simp only[aTT,aX2,aXL]at hb;rcases hb with rfl|rfl
     . right;exact aUA _
     . left;rfl
   cases bt:dG w with
   |true =>
    obtain⟨ys,py,ey⟩:=he.perm (mH (next:=w.params.setOrder a ep) (xs:=es));have W:=aLM (prog:=prog) (w:=w) (A:=A) (I:=s.heap.objs.size) hh (aTM la) hd hf bt;refine q _ _ s.drawn _ ((pickOrder (w.params.setOrder a ep) es).toList.map (·.2)) ys _ (rZ W (by rw[aUL,mH.length_eq,aT2]) λi v hv=>?_) ⟨⟨_,aTI _ rfl,rfl,rfl⟩,hps ho⟩ (oQ ey) py (λb o' e=>hps e) (aUA _) fpx
    rw[<- hv];simp
   |false =>
    have h1:es.size<=1:=by
     have hc:¬ (!dG w&&(!t.plain&&decide (es.size > 1)))=true:=hc;rw[bt]at hc;rcases hp with rfl|hp
     . rw[hz];exact aUP _
     . rw[hp]at hc;simp at hc;omega
    have W:=aLO (prog:=prog) (w:=w) (A:=A) (I:=s.heap.objs.size) hh (aTM la) hd hf bt (by rw[hl,bt];rfl) h1
    refine q _ _ s.drawn _ (es.toList.map (·.2)) xs _ (rZ W (by simp) λi v hv=>?_) ⟨⟨_,aTI _ rfl,rfl,rfl⟩,hps ho⟩ (oQ he) (.refl _) (λb o' e=>hps e) (aUA _) fpx
    rw[<- hv];simp
end
section
variable {A:aZP}{E:VSP}{a:Addr}
def aLQ{Q:Bool->aZO->Prop}(ty:s.TypeIs (.ref a) "set")(q:Q false s):wpAny (model prog w) A (Builtin.List.listLengthHint (.ref a)) Q E s:=by
 unfold Builtin.List.listLengthHint;refine aT8 (aVZ ty PySem.F.slot_set_len.lookup ?_);generalize hi:("set.__len__":String)=j
 wp_delta
 rw[show splitId j=some ("set", "__len__")from by subst hi;decide +kernel]
 subst hi;refine aT8 (aV4 ty aXZ ?_);refine aYL (λx=>absurd x (by decide)) (λ_=>aYL (λ_=>?_) (λx=>absurd (by decide +kernel) x))
 exact aT8 (aVK ty (aT7 q))
def aLR{items:List aZN}{acc:Array aZN}(h:ItemsOf (λi v=>items[i]? = some v) acc items.length):acc.toList=items:=by
 apply List.ext_getElem?;intro j;by_cases hj:j<items.length
 . have e1:acc[j]? = some (acc[j]'(by rw[h.1];exact hj)):=aX6 _
   rw[aX1,e1];exact(h.2 j _ e1).symm
 . have z1:acc.toList.length=items.length:=by rw[aT2];exact h.1
   rw[aYI (l:=acc.toList) (by omega),aYI (l:=items) (by omega)]
def ext_x{R:Result->aZO->Prop}(hh:A.handled=none)(X:aU w s.heap a xs)(S:Addr)(hSa:S≠a)(res:aZN)(hS:s.heap.get? S=some { cls:=.type "list", data:=.seq #[] })(hR:∀h' d tk vs ys c,(∀b o,b≠S->s.heap.get? b=some o->h'.get? b=some o)->h'.get? S=some { cls:=.type "list", dict:=none,data:=.seq vs c,slots:=#[] } -> StrsAre vs.toList ys->ys.Perm xs->R (.ok (.ret res)) {s with heap:=h',drawn:=d,toks:=tk}):wpAny (model prog w) A.in1 (Builtin.List.listExtendWith (.ref S) (.ref a) res) (λfin s'=>match fin with|.done f=>R (.ok f) s'|.again c'=>c'.quiet=true/\codeAny (model prog w) A c' R s') (λe s'=>R (.error e) s') s:=by
 have hb:xs.length<=sizeLine:=by obtain⟨o,es,ep,t,ho,hex,hd,he,hn,hb,r⟩:=X;exact aXQ hb
 unfold Builtin.List.listExtendWith;refine aT8 (aVK X.ty ?_);have n1:Builtin.List.listSameRef (.ref S) (.ref a)=false:=by simp[Builtin.List.listSameRef,hSa]
 have n2:(Value.type "set" == Value.type "list")=false:=by decide
 have n3:(Value.type "set" == Value.type "tuple")=false:=by decide
 simp only[n1,n2,n3,aVN,aV6,↓reduceIte];refine aT8 (aLP (A:=A.in1) hh X λI h1 d fp items ys St W st sa py kp hI hfp=>?_);have lS:S<s.heap.objs.size:=aTJ hS;have hSf:S∉fp:=λhm=>(hfp S hm).elim hSa λh=>absurd lS (aWY.mpr h);have hSI:S≠I:=λe=>absurd lS (aWY.mpr (e ▸ hI));have hil:items.length<=sizeLine:=by rw[sa.length,py.length_eq];exact hb
 have hS1 := kp S _ hS; have key : ∀ (h : Heap) (c : Nat), St 0 h → (∀ b o, b ≠ S → s.heap.get? b = some o → h.get? b = some o) → h.get? S = some { cls := .type "list", data := .seq #[] c } →
     codeAny (model prog w) A (.builtin "list.extend.loop" ⟨[.ref S,.ref I,res],[]⟩) R {s with heap:=h,drawn:=d}:=by
  intro h c st' k' hS';refine codeAny_extend_loopS W.toS hil S hSf res items.length 0 _ #[] c rfl (aUP _) st' hS' (ItemsOf.nil _) λs' acc c' hm hS2 hacc=>?_;rw[Moved.eq_with hm];refine hR s'.heap d s'.toks acc ys c' (λb o nb e=>hm.heap b o (λhx=>?_) (k' b o nb e)) hS2 (by rw[aLR hacc];exact sa) py
  rcases aTT.mp hx with e'|hx
  . exact nb e'
  . exact absurd (aTJ e) (by rw[aW7.mp hx];exact aWY.mpr hI)
 refine aT8 (aVG (aLQ (s:={s with heap:=h1,drawn:=d}) (aU.ty (s:={s with heap:=h1,drawn:=d}) (X.kept λo e=>kp a o e)) ?_))
 refine aYL (λ_=>?_) (λ_=>aT7 ⟨aXW PySem.F.plain_extend_loop _,key h1 0 st (λb o _ e=>kp b o e) hS1⟩);refine aT8 (aV2 (aT8 ?_));show wpAny _ _ (updateSeq S (·.push Value.none)>>=λ_=>updateSeq S (·.pop)) _ _ {s with heap:=h1,drawn:=d}
 refine aT8 (wpAny_updateSeq (s:={s with heap:=h1,drawn:=d}) hS1 rfl ?_)
 have hS2:=aXE (Obj.mapSeq (·.push Value.none)) hS1 rfl;refine wpAny_updateSeq (hz:=by seq_fits) hS2 rfl ?_
 have hS3:=aXE (Obj.mapSeq (·.pop)) hS2 rfl;have oth:∀b,b≠S->∀o,h1.get? b=some o->((h1.update S (Obj.mapSeq (·.push Value.none))).update S (Obj.mapSeq (·.pop))).get? b=some o:=λb nb o e =>
  (aVS _ _ (Ne.symm nb)).trans ((aVS _ _ (Ne.symm nb)).trans e)
 exact aT7 ⟨aXW PySem.F.plain_extend_loop _,key _ _ (W.frame 0 _ _ st λb hb o e=>oth b (λh=>hSf (h ▸ hb)) o e) (λb o nb e=>oth b nb o (kp b o e)) hS3⟩
def aLS{R:List aZN->aZO->Prop}(hh:A.handled=none)(X:aU w s.heap a xs)(h:∀h' d tk vs ys,(∀b o,s.heap.get? b=some o->h'.get? b=some o)->s.heap.objs.size<h'.objs.size->StrsAre vs ys->ys.Perm xs->R vs {s with heap:=h',drawn:=d,toks:=tk}):wpAny (model prog w) A (collect (.ref a)) R E s:=by
 have la:=X.there;unfold collect;refine aT8 (wpAny_runValue (aXU PySem.F.entry_proto_collect ?_));rw[aXV PySem.F.plain_proto_collect _];show wpAny (model prog w) A.in1 (newList []>>=λl=>again (.builtin "list.__iadd__" ⟨[l,.ref a],[]⟩)) _ _ s;refine aT8 (aVM (aT7 ⟨aXW PySem.F.plain_list_iadd _,aXU PySem.F.entry_list_iadd ?_⟩));rw[aXV PySem.F.plain_list_iadd _];have g0:(s.heap.push { cls:=.type "list", data:=.seq ([]:List Value).toArray }).get? s.heap.objs.size=some { cls:=.type "list", data:=.seq #[] }:=aTI _ rfl;show wpAny (model prog w) A.in1 (Builtin.List.listExtendWith (.ref s.heap.objs.size) (.ref a) (.ref s.heap.objs.size)) _ _ _;have key:=ext_x (A:=A) (prog:=prog) (s:={ s with heap:=s.heap.push { cls:=.type "list", data:=.seq ([]:List Value).toArray } })
  (R:=λq s'=>∃h' d tk vs ys c,q=.ok (.ret (.ref s.heap.objs.size))/\s'={s with heap:=h',drawn:=d,toks:=tk}/\(∀b o,s.heap.get? b=some o->h'.get? b=some o)/\h'.get? s.heap.objs.size=some { cls:=.type "list", dict:=none,data:=.seq vs c,slots:=#[] }/\StrsAre vs.toList ys/\ys.Perm xs)
  hh (X.kept λo e=>hps e) s.heap.objs.size (aT6 la) (.ref s.heap.objs.size) g0
  λh' d tk vs ys c kp gS sa py=>⟨h',d,tk,vs,ys,c,rfl,rfl,λb o e=>kp b o (aTM (aTJ e)) (hps e),gS,sa,py⟩
 refine aT0 key (λf s' x=>?_) λe s' x=>?_
 . cases f with
   |done f=>obtain⟨h',d,tk,vs,ys,c,e,rfl,kp,gS,sa,py⟩:=x;cases e;show wpAny _ A (load s.heap.objs.size>>=_) _ _ _;exact aT8 (wpAny_load gS (aT7 (h h' d tk vs.toList ys kp (aTJ gS) sa py)))
   |again c1=>refine⟨x.1,aVW x.2 λq s2 y=>?_⟩;obtain⟨h',d,tk,vs,ys,c,rfl,rfl,kp,gS,sa,py⟩:=y;show wpAny _ A (load s.heap.objs.size>>=_) _ _ _;exact aT8 (wpAny_load gS (aT7 (h h' d tk vs.toList ys kp (aTJ gS) sa py)))
 . obtain⟨_,_,_,_,_,_,e',_⟩:=x;cases e'
def aLT{Q:VSP}(hh:A.handled=none)(X:aU w s.heap a xs)(h64:xs.length<64)(h:∀h' d tk D out e ys,(∀b o,s.heap.get? b=some o->h'.get? b=some o)->s.heap.objs.size<=D->h'.get? D=some (seqObj "list" out e)->StrsAre out.toList ys->ys.Perm xs->PyProof.Rows.sortedS ys=true->Q (.ref D) {s with heap:=h',drawn:=d,toks:=tk}):wpAny (model prog w) A (call (.builtin "sorted") [.ref a]) Q E s:=by
 refine Calls.call_function_entry kind_sorted plain_sorted entry_sorted (args_sorted1 (.ref a)) ?_;unfold Builtin.«sorted»;refine aT8 (m:=checkCount "sorted" 1 1 [Value.ref a].length) (aT7 (aT8 (aLS (A:=A.in1) hh X λh1 d tk vs ys kp lh sa py=>?_)));have lv:vs.length=xs.length:=by rw[sa.length,py.length_eq]
 refine aT8 (aYM ?_ (by rw[lv,aUF];omega))
 have g1:(h1.push (seqObj "list" vs.toArray 0)).get? h1.objs.size=some (seqObj "list" vs.toArray 0):=aTI _ rfl;have k1:∀b o,s.heap.get? b=some o->b<h1.objs.size:=λb o e=>aTJ (kp b o e);refine aT8 (aVG (aVJ slot_list_sort ⟨_,g1,rfl⟩ entry_list_sort (list_sort_treeK strKind_oneLt (s:={ s with heap:=h1.push (seqObj "list" vs.toArray 0),drawn:=d,toks:=tk }) g1 sa.keysOf (λv1 v2 r e=>keyKind_strs (by rw[<- e];exact sa)) (by rw[lv];exact h64) λst' p1 p2=>⟨_,rfl,?_⟩) (args_list_sort _)))
 obtain⟨zs,z1,z2,z3⟩:=sorted_out_str sa p1 p2;obtain⟨e,he⟩:=sortedHeap_at (out:=(arrOf st').map (·.2)) g1;refine aT7 ⟨_,rfl,h _ d tk _ _ e zs (λb o hb=>?_) (aTR lh) he z1 (z2.trans py) z3⟩;have lb:=k1 b o hb;rw[sortedHeap_old (aTM lb) (by rw[aYJ];exact aWX lb)]
 exact hps (kp b o hb)
end
noncomputable def lts(x y:Str):Bool:=ltCps x.cps.toList y.cps.toList
def kE{x:Str}:lts x y=true↔x.cps.toList<y.cps.toList:=by unfold lts;rw[ltCps_eq,aV9]
def iC(x:Str):lts x x=false:=by
 cases h:lts x x with
 |false=>rfl
 |true=>exact absurd (kE.mp h) (List.lt_irrefl _)
def mJ{x:Str}(a:lts x y=true)(b:lts y z=true):lts x z=true:=kE.mpr (List.lt_trans (kE.mp a) (kE.mp b))
def kG{x:Str}(a:lts x y=false)(b:lts y x=false):x=y:=by
 have h1:¬ x.cps.toList<y.cps.toList:=λh=>by rw[kE.mpr h]at a;cases a
 have h2:¬ y.cps.toList<x.cps.toList:=λh=>by rw[kE.mpr h]at b;cases b
 have e:=List.le_antisymm (List.not_lt.mp h2) (List.not_lt.mp h1);cases x;cases y;exact congrArg Str.mk (Array.ext' e)
def dP(l:List Str):Prop:=l.Pairwise λx y=>lts x y=true
theorem r8:∀{l:List Str}{p:Str},risingS p l=true->∀x∈l,lts x p=false
 |y::l,p,h,x,hx=>by
  have h:(!lts y p&&risingS y l)=true:=h;rw[aVL,aYN]at h;rcases aTT.mp hx with rfl|hx
  . exact h.1
  . have h2:=r8 h.2 x hx;cases q:lts x p with
    |false=>rfl
    |true =>
     cases q2:lts p y with
     |true=>rw[mJ q q2]at h2;cases h2
     |false=>have:=kG q2 h.1;subst this;rw[q]at h2;cases h2
theorem yP:∀{l:List Str},sortedS l=true->l.Nodup->dP l
 |[],_,_=>.nil
 |x::l,h,n=>by
  obtain⟨n1,n2⟩:=aUU.mp n;refine aYO.mpr ⟨λy hy=>?_,yP ?_ n2⟩
  . have h1:=r8 (show risingS x l=true from h) y hy
    cases q:lts x y with
    |true=>rfl
    |false=>exact absurd (kG q h1 ▸ hy) n1
  . cases l with
    |nil=>rfl
    |cons y l=>have h:(!lts y x&&risingS y l)=true:=h;rw[aVL]at h;exact h.2
theorem mK:∀{l l':List Str},dP l->dP l'->(∀y,y∈l↔y∈l')->l=l'
 |[],[],_,_,_=>rfl
 |[],x::l',_,_,h=>absurd ((h x).mpr mcs) (by simp)
 |x::l,[],_,_,h=>absurd ((h x).mp mcs) (by simp)
 |x::l,y::l',s,s',h=>by
  obtain⟨s1,s2⟩:=aYO.mp s;obtain⟨t1,t2⟩:=aYO.mp s';have e:x=y:=by
   rcases aTT.mp ((h x).mp mcs)with e|hx
   . exact e
   . rcases aTT.mp ((h y).mpr mcs)with e|hy
     . exact e.symm
     . have:=mJ (t1 x hx) (s1 y hy);rw[iC]at this;cases this
  subst e;rw[mK s2 t2 λz=>?_];constructor
  . intro hz;rcases aTT.mp ((h z).mp (mcm hz))with e|h'
    . subst e;have:=s1 z hz;rw[iC]at this;cases this
    . exact h'
  . intro hz;rcases aTT.mp ((h z).mpr (mcm hz))with e|h'
    . subst e;have:=t1 z hz;rw[iC]at this;cases this
    . exact h'
def iD(x:Str):List Str->List Str
 |[]=>[x]
 |y::l=>if x=y then y::l else if lts x y=true then x::y::l else y::iD x l
theorem sC{x z:Str}:∀{l:List Str},z∈iD x l↔z=x\/z∈l
 |[]=>by simp[iD]
 |y::l=>by
  unfold iD;split
  . rename_i e;subst e;simp
  . split
    . simp
    . rw[aTT,sC,aTT];exact⟨λh=>h.elim (λe=>.inr (.inl e)) λh=>h.imp id .inr,λh=>h.elim (λe=>.inr (.inl e)) λh=>h.imp id .inr⟩
theorem yQ{x:Str}:∀{l:List Str},dP l->dP (iD x l)
 |[],_=>aYP _ _
 |y::l,s=>by
  obtain⟨s1,s2⟩:=aYO.mp s;unfold iD;split
  . exact s
  . rename_i ne;split
    . rename_i lt;exact aYO.mpr ⟨λz hz=>(aTT.mp hz).elim (λe=>e ▸ lt) λh=>mJ lt (s1 z h),s⟩
    . rename_i nl;refine aYO.mpr ⟨λz hz=>?_,yQ s2⟩;rcases sC.mp hz with rfl|hz
      . cases q:lts y z with
        |true=>rfl
        |false=>exact absurd (kG (by simpa using nl) q) ne
      . exact s1 z hz
def uni(l:List Str):List Str:=l.foldr iD []
theorem eQ{z:Str}:∀{l:List Str},z∈uni l↔z∈l
 |[]=>by simp[uni]
 |x::l=>by show z∈iD x (uni l)↔_;rw[sC,eQ,aTT]
theorem fW:∀(l:List Str),dP (uni l)
 |[]=>.nil
 |x::l=>yQ (fW l)
def sx(w:aZQ)(l:Addr)(ys:List Str):HO:=.ext λh=>aU w h l ys
def yR(x:aU w h l ys):bM P w H h l (sx w l ys):=by
 refine⟨x,?_,λh1 h2 x1 k=>aU.kept (show aU w h1 l ys from x1) k⟩
 obtain⟨o,es,ep,t,ho,r⟩:=x;exact⟨o,ho⟩
def aU.nodup{a:Addr}(x:aU w h a xs):xs.Nodup:=by obtain⟨o,es,ep,t,ho,hex,hd,he,hn,r⟩:=x;exact hn
theorem sD:∀{ys:List Str}{us:List aZN},StrsAre us ys->aJ (ys.map V.str) us
 |[],_,.nil=>.nil
 |_::ys,_,.cons y t h=>.cons ⟨t,rfl⟩ (sD h)
def Inv.drew(I:L2.Inv X aA σ H s)(d:Drawn):L2.Inv X aA σ H {s with drawn:=d} :=
 ⟨I.ok,I.os,I.bare,I.base,I.loc,I.cell,I.free,I.freeC,I.pin,I.hok,I.len⟩
def jI(X:Cx):List V->Hp->VK->Prop:=λxs H Q=>∃(p:Addr) (ns:List Str),xs=[.ref p]/\SqT X.K H p (ns.map V.str)/\ns.length<scanBound/\∀(l:Addr) (ys:List Str),H l=none->ys.Nodup->(∀y,y∈ys↔y∈ns)->Q (.ref l) (upd H l (sx X.w l ys))
def sH(hc:X.calm=true):eK X (.type "set") (jI X):=by
 intro aA s σ H xs us Q I r h;obtain⟨p,ns,rfl,hp,hb,q⟩:=h;obtain⟨u,rfl,rx⟩:=dX r;cases rx;obtain⟨its,rv,tp,_⟩:=I.tuple hp;refine aKY (I.ok.hd hc) tp (by simpa using rE rv) hb λh' tk ys kp SX m=>?_
 exact⟨.ref s.heap.objs.size,_,I.laid (t':=tk) kp (aUA _) (yR SX),rfl,q _ ys (I.hok.fresh (aUA _)) SX.nodup m⟩
def rOr(X:Cx):R2:=λx y H Q=>∃(a b:Addr) (xs ys:List Str),x=.ref a/\y=.ref b/\a≠b/\H a=some (sx X.w a xs)/\H b=some (sx X.w b ys)/\xs.length+ys.length<=15 /\
 ∀(l:Addr) (zs:List Str),H l=none->zs.Nodup->(∀y,y∈zs↔y∈xs\/y∈ys)->Q (.ref l) (upd H l (sx X.w l zs))
def aLU:OpR X (binaryOp .BitOr) (rOr X):=by intro aA s σ H x y v u Q I rx ry h;obtain⟨a,b,xs,ys,rfl,rfl,ne,ha,hb,hz,q⟩:=h;cases rx;cases ry;have xa:aU X.w s.heap a xs:=(I.hok a _ ha).1;have xb:aU X.w s.heap b ys:=(I.hok b _ hb).1;refine or_x xa xb ne hz λh' zs kp SX m=>?_;exact⟨.ref s.heap.objs.size,_,I.laid (t':=s.toks) kp (aUA _) (yR SX),rfl,q _ zs (I.hok.fresh (aUA _)) SX.nodup m⟩
def mL(X:Cx):List V->Hp->VK->Prop:=λxs H Q=>∃(a:Addr) (zs:List Str),xs=[.ref a]/\H a=some (sx X.w a zs)/\zs.Nodup/\zs.length<64/\∀l,H l=none->Q (.ref l) (upd H l (.lst ((uni zs).map V.str)))
def yS(hc:X.calm=true):eK X (.builtin "sorted") (mL X):=by
 intro aA s σ H xs us Q I r h;obtain⟨a,zs,rfl,ha,hn,hz,q⟩:=h;obtain⟨u,rfl,rx⟩:=dX r;cases rx;have xa:aU X.w s.heap a zs:=(I.hok a _ ha).1;refine aLT (I.ok.hd hc) xa hz λh' d tk D out e ys kp hD g sa py so=>?_;have e1:uni zs=ys:=mK (fW zs) (yP so (py.symm.nodup hn)) λy=>by rw[eQ,py.mem_iff]
 have rv:aJ (ys.map V.str) out.toList:=sD sa;have le:((uni zs).map V.str).length<=sizeLine:=by rw[aUL,e1,py.length_eq,aUF];omega
 exact⟨.ref D,_,Inv.drew (I.laid (t':=tk) kp hD (show bM X.prog X.w _ h' D (.lst ((uni zs).map V.str))from⟨le,out.toList,e,by rw[e1];exact rv,by simpa using g⟩)) d,rfl,q D (I.hok.fresh hD)⟩
def sJ:bootBuiltins "set" = some (.type "set"):=by decide +kernel
def oR:bootBuiltins "sorted" = some (.builtin "sorted"):=by decide +kernel
def txD:List D->Option (List Str)
 |[]=>some []
 |.str x::ds=>(txD ds).map (x :: ·)
 |_::_=>none
def txT:D->Option (List Str)
 |.tup ds=>txD ds
 |_=>none
def usR(ra rb:Res):Res:=ra.thn λ_ d=>match txT d with
 | some ns => if ns.length ≤ 7 then rb.thn fun _ d' => match txT d' with
     |some ms=>if ms.length<=7 then .ok .fr (.lst ((uni (ns++ms)).map .str))else .stuck
     |none=>.stuck
  else .stuck
 |none=>.stuck
theorem sK{K:Fg}{F:Hp}:∀{ds:List D}{xs:List V}{ns:List Str},txD ds=some ns->aC K F ds xs->xs=ns.map V.str/\∀x∈ns,x.length<=sizeLine/\PyData.strOk x=true
 |[],xs,ns,e,r=>by cases e;simp only[aC]at r;subst r;exact⟨rfl,λx hx=>by cases hx⟩
 |d::ds,xs,ns,e,r=>by
  cases d with
  |str x =>
   simp only[txD]at e;cases q:txD ds with
   |none=>rw[q]at e;cases e
   |some ms=>rw[q]at e;cases e;simp only[aC]at r;obtain⟨v,vs,rfl,rv,rr⟩:=r;obtain⟨rfl,h2⟩:=sK q rr;simp only[aB]at rv;obtain⟨rfl,h1⟩:=rv;exact⟨rfl,λy hy=>(aTT.mp hy).elim (λe=>by subst e;exact h1) (h2 y)⟩
  |_=>cases e
theorem oS{K:Fg}{F:Hp}:∀{ns:List Str},(∀x∈ns,x.length<=sizeLine/\PyData.strOk x=true)->aC K F (ns.map .str) (ns.map V.str)
 |[],_=>by simp[aC]
 |x::ns,h=>by simp only[aUK,aC,aB];exact⟨_,_,rfl,⟨rfl,h x mcs⟩,oS λy hy=>h y (mcm hy)⟩
theorem mM:∀{ys ns:List Str},ys.Nodup->(∀y∈ys,y∈ns)->ys.length<=ns.length
 |[],ns,_,_=>aUP _
 |y::ys,ns,n,h=>by
  obtain⟨n1,n2⟩:=aUU.mp n;have hy:=h y mcs;have:=mM (ns:=ns.erase y) n2 λz hz=>(List.mem_erase_of_ne (λe:z=y=>n1 (by rw[<- e];exact hz))).mpr (h z (mcm hz))
  rw[List.length_erase_of_mem hy]at this;have:0<ns.length:=List.length_pos_of_mem hy;rw[aUJ];omega
section
variable  {eb:Expr}
def sL{F:Hp}{m:Md}{d:D}{ns:List Str}(s:aD F H)(r:Rp K F H m d v)(e:txT d=some ns):(∃a,v=.ref a/\SqT K H a (ns.map V.str))/\∀x∈ns,x.length<=sizeLine/\PyData.strOk x=true:=by
 cases d with
 |tup ds=>obtain⟨a,xs,rfl,h1,h2⟩:=aJ3 r;obtain⟨rfl,h3⟩:=sK e h2;exact⟨⟨a,rfl,aD.seqT s h1⟩,h3⟩
 |_=>cases e
def tG_us{Q:VK}(hK:C.K=X.K)(q:tG C (λρ=>usR (ga ρ) (gb ρ)) σ H Q):tCB (mL X) (eB (tOp (rOr X) (tCB (jI X) (eB (tG C ga) gM)) (tCB (jI X) (eB (tG C gb) gM))) gM) σ H Q:=by
 show tG C ga σ H λv H1=>jI X [v] H1 λsv H2=>tG C gb σ H2 λu H3=>jI X [u] H3 λsu H4=>rOr X sv su H4 λr H5=>mL X [r] H5 Q;rw[aR]at q ⊢;obtain⟨ρ,F,R,w⟩:=q;refine⟨ρ,F,R,?_⟩;cases e1:ga ρ with
 |stuck=>simp only[usR,e1,Res.thn_stuck]at w;exact w
 |exc c=>simp only[usR,e1,Res.thn_exc]at w;exact w
 |ok m d =>
  simp only[usR,e1,Res.thn_ok]at w;intro v F1 H1 s1 r1 _;cases t1:txT d with
  |none=>rw[t1]at w;exact w.elim
  |some ns =>
   rw[t1]at w;dsimp only at w;have l1:ns.length<=7:=by
    by_cases h:ns.length<=7
    . exact h
    . rw[if_neg h]at w;exact w.elim
   rw[if_pos l1]at w;obtain⟨⟨a,rfl,sq⟩,k1⟩:=sL s1.sub r1 t1;rw[hK]at sq;refine⟨a,ns,rfl,sq,aYD l1 (by decide),λA1 ys hA1 yn ym=>?_⟩
   have s2:aE F H F1 (upd H1 A1 (sx X.w A1 ys)):=s1.trans (aE.fresh _ s1.sub hA1);have hy:ys.length<=ns.length:=mM yn λy h=>(ym y).mp h;show tG C gb σ _ _;rw[aR];refine⟨ρ,F1,R.step s2,?_⟩;cases e2:gb ρ with
   |stuck=>rw[e2]at w;exact w.elim
   |exc c=>rw[e2]at w;exact λF' H' s'=>w F' H' (s2.trans s')
   |ok m' d' =>
    rw[e2]at w;simp only[Res.thn_ok]at w;intro u F3 H3 s3 r3 _;cases t2:txT d' with
    |none=>rw[t2]at w;exact w.elim
    |some ms =>
     rw[t2]at w;dsimp only at w;have l2:ms.length<=7:=by
      by_cases h:ms.length<=7
      . exact h
      . rw[if_neg h]at w;exact w.elim
     rw[if_pos l2]at w;obtain⟨⟨b,rfl,sq2⟩,k2⟩:=sL s3.sub r3 t2;rw[hK]at sq2;refine⟨b,ms,rfl,sq2,aYD l2 (by decide),λB1 us hB1 un um=>?_⟩
     have hA3:H3 A1=some (sx X.w A1 ys):=s3.same _ _ aT;have nAB:A1≠B1:=bL hA3 hB1;have hu:us.length<=ms.length:=mM un λy h=>(um y).mp h;refine⟨A1,B1,ys,us,rfl,rfl,nAB,by rw[aH nAB];exact hA3,aT,by omega,λD1 zs hD1 zn zm=>?_⟩
     have hz:zs.length<=(ns++ms).length:=mM zn λy h=>aTU.mpr (((zm y).mp h).imp (ym y).mp (um y).mp);rw[aU4]at hz;refine⟨D1,zs,rfl,aT,zn,by omega,λL hL=>?_⟩
     have eu:uni zs=uni (ns++ms):=mK (fW _) (fW _) λy=>by rw[eQ,eQ,zm,ym,um,aTU]
     have s4:aE F3 H3 F3 (upd H3 B1 (sx X.w B1 us)):=aE.fresh _ s3.sub hB1;have s5:=s4.trans (aE.fresh (sx X.w D1 zs) s4.sub hD1);have s6:=s5.trans (aE.fresh (.lst ((uni zs).map V.str)) s5.sub hL);have sA:=(s2.trans s3).trans s6;refine w (.ref L) F3 _ sA ⟨L,rfl,s5.sub.free hL,_,aT,?_⟩ λ_ a' ea'=>?_
     . rw[eu];exact oS λx hx=>(aTU.mp (eQ.mp hx)).elim (k1 x) (k2 x)
     . cases ea';cases q:H L with
       |none=>rfl
       |some o=>rw[((s2.trans s3).trans s5).same _ _ q]at hL;cases hL
end
section
variable  {eb:Expr}{q q2:Pos}
def aLV(hc:X.calm=true)(gs:Gl X "sorted")(ns:X.mg "sorted" = none)(gt:Gl X "set")(nt:X.mg "set" = none)(ha:PV C X ea ga)(hb:PV C X eb gb)(sa:bC ea=true)(sb:bC eb=true):PV C X (.Call (.Name "sorted" p) [.BinOp (.Call (.Name "set" p1) [ea] [] q1) .BitOr (.Call (.Name "set" p2) [eb] [] q2) q] [] pos) (λρ=>usR (ga ρ) (gb ρ)):=by
 refine PE.imp (qY (yS hc) gs ns oR (gN (vF aLU (nQ (sH hc) gt nt sJ (gN ha fO (bG sa)) (by decide) (by decide) (bG sa) rfl) (nQ (sH hc) gt nt sJ (gN hb fO (bG sb)) (by decide) (by decide) (bG sb) rfl)) fO)) λσ H Q w=>?_
 exact tG_us (X:=X) rfl w
end
section
variable {A:aZP}{E:VSP}
end
section
variable {A:aZP}{R:Result->aZO->Prop}{b:Bool}{tg2 u0:Expr}{it acc:aZN}
end
def AllF(ρ:Rho):Prop:=∀(i:Nat) (m:Bool) (d:D),ρ[i]? = some (some (m,d))->m=false
def isStrD:D->Bool|.str _=>true|_=>false
section
variable  {u0 tg2:Expr}{gt gi2:Rho->Res}
variable (hc : X.calm = true) (hi : PIv C X tg aV gi) (c7 : ∀ y ∈ scope.names, y.2 ≠ .cell) (c8 : scope.kind = .function) (fJ : ∀ y ∈ scope.names, y.2 = .local → scope.names.lookup y.1 = some .local)
    (dU:∀y∈scope.names,y.2=.free->X.env.kindOf y.1=some .cell\/X.env.kindOf y.1=some .free)
    (eJ:aL.map some=aG.map λi=>X.N[i]?) (fL:∀y∈aL,(y,NameKind.free)∈scope.names)
    (fK:∀y∈aL,(relabel scope X.env).names.lookup y=some .cell\/(relabel scope X.env).names.lookup y=some .free)
    (hn:tgN.length=2)
    (hg:∀cl A fp s3 H3,PGw (bH X scope (aL++tgN) cl A fp s3 H3) tg (.nm aG.length)) (hf:∀cl A fp s3 H3,dL (bH X scope (aL++tgN) cl A fp s3 H3) ifs (tT (C.nox.at X) gt))
    (hi2:∀cl A fp s3 H3,PIv C.nox (bH X scope (aL++tgN) cl A fp s3 H3) tg2 u0 gi2) (hg2:∀cl A fp s3 H3,PGw (bH X scope (aL++tgN) cl A fp s3 H3) tg2 (.nm (aG.length+1)))
    (he:∀cl A fp s3 H3,PV C.nox (bH X scope (aL++tgN) cl A fp s3 H3) elt ge)
    (hs:∀x,foldedSetIterable aV X.env x=pure x) (hs2:∀env x,foldedSetIterable u0 env x=pure x)
include hc hi c7 c8 fJ dU eJ fL fK hn hg hf hi2 hg2 he hs hs2
end
open PySem.W
structure PP(n:Nat)(p:Array Nat):Prop where
 size:p.size=n
 below:∀k,p.getD k 0<n
 inj:∀i j,i<n->j<n->p.getD i 0=p.getD j 0->i=j
section
variable {lt:Nat->Nat->Bool}{cmp:Nat->Nat->(Bool->aZO->Prop)->aZO->Prop}{J:aZO->Prop}
def Upto(lt:Nat->Nat->Bool)(p:Array Nat)(b:Nat):Prop:=∀i j,i<j->j<b->lt (p.getD i 0) (p.getD j 0)=true
def gR(n:Nat)(lt:Nat->Nat->Bool)(cmp:Nat->Nat->(Bool->aZO->Prop)->aZO->Prop)(J:aZO->Prop):Prop:=∀i j s C,i<n->j<n->J s->(∀s',J s'->C (lt i j) s')->cmp i j C s
end
section
variable {A:aZP}{E:VSP}
end
def aLW(d:α):∀(l:List α),(List.range l.length).map (λi=>l.getD i d)=l:=λl=>by
 apply aYK
 . simp
 . intro i h1 h2;simp at h1;simp[h1]
section
variable {A:aZP}{E:VSP}
end
theorem yT{α:Type}{K:Fg}{F:Hp}{f:α->D}{g:α->V}:∀{q:List α},(∀i∈q,aB K F (f i) (g i))->aC K F (q.map f) (q.map g)
 |[],_=>aC.nil
 |i::q,h=>aC.cons (h i mcs) (yT λj hj=>h j (mcm hj))
open PySem.SeqAt PySem.MeetsSeq
section
variable  {o:Expr}{ty:TE}
end
section
variable  {o:Expr}{go:Rho->Res}
end
def epO(o:Obj):Nat:=match o.data with|.dict _ ep=>ep|_=>0
section
variable {x d m:Str}{p0 p3 p4 p5 p6 p7 p8 p9:Pos}{jd jm k0:Nat}
end
end D3
namespace L2
open D3
end L2
namespace D3
section
variable {A:aZP}{E:VSP}
end
section
variable {A:aZP}{E:VSP}
end
section
variable {A:aZP}{E:VSP}
end
section
variable {A:aZP}{E:VSP}
variable  {a:Addr}{o:Obj}{es:Array (Int×aZN)}{t:SetTable}
end
section
variable {A:aZP}{E:VSP}{a:Addr}{xs:List Int}
end
def iE(ra:Res):Res:=ra.thn λ_ d=>match d with
 |.tup ds=>(match txD ds with
  |some ns=>if ns.length<scanBound/\(uni ns).length<64 then .ok .fr (.lst ((uni ns).map .str))else .stuck
  |none=>.stuck)
 |_=>.stuck
def aLX{Q:VK}(hK:C.K=X.K)(q:tG C (λρ=>iE (ga ρ)) σ H Q):tCB (mL X) (eB (tCB (jI X) (eB (tG C ga) gM)) gM) σ H Q:=by
 show tG C ga σ H λv H1=>jI X [v] H1 λsv H2=>mL X [sv] H2 Q;rw[aR]at q ⊢;obtain⟨ρ,F,R,w⟩:=q;refine⟨ρ,F,R,?_⟩;cases e1:ga ρ with
 |stuck=>simp only[iE,e1,Res.thn_stuck]at w;exact w
 |exc c=>simp only[iE,e1,Res.thn_exc]at w;exact w
 |ok m d =>
  simp only[iE,e1,Res.thn_ok]at w;intro v F1 H1 s1 r1 _;cases d with
  |tup ds =>
   dsimp only at w;cases t1:txD ds with
   |none=>rw[t1]at w;exact w.elim
   |some ns =>
    rw[t1]at w;dsimp only at w;by_cases hl:ns.length<scanBound/\(uni ns).length<64
    . rw[if_pos hl]at w;obtain⟨⟨a,rfl,sq⟩,hs⟩:=sL s1.sub r1 (show txT (.tup ds)=some ns from t1)
      rw[hK]at sq;refine⟨a,ns,rfl,sq,hl.1,λA1 ys hA1 yn ym=>?_⟩;have eu:uni ys=uni ns:=mK (fW _) (fW _) λy=>by rw[eQ,eQ,ym]
      have hz:ys.length<64:=aYD (mM yn λy hy=>eQ.mpr ((ym y).mp hy)) hl.2;refine⟨A1,ys,rfl,aT,yn,hz,λL hL=>?_⟩;have s2:aE F H F1 (upd H1 A1 (sx X.w A1 ys)):=s1.trans (aE.fresh _ s1.sub hA1);have s3:=s2.trans (aE.fresh (.lst ((uni ys).map V.str)) s2.sub hL);refine w (.ref L) F1 _ s3 ⟨L,rfl,s2.sub.free hL,_,aT,?_⟩ λ_ a' ea'=>?_
      . rw[eu];exact oS λx hx=>hs x (eQ.mp hx)
      . cases ea';cases q:H L with
        |none=>rfl
        |some o=>rw[s2.same _ _ q]at hL;cases hL
    . rw[if_neg hl]at w;exact w.elim
  |_=>exact w.elim
def aLY(hc:X.calm=true)(gs:Gl X "sorted")(ns:X.mg "sorted" = none)(gt:Gl X "set")(nt:X.mg "set" = none)(ha:PV C X ea ga)(sa:bC ea=true):PV C X (.Call (.Name "sorted" p) [.Call (.Name "set" p1) [ea] [] q1] [] pos) (λρ=>iE (ga ρ)):=by
 refine PE.imp (qY (yS hc) gs ns oR (gN (nQ (sH hc) gt nt sJ (gN ha fO (bG sa)) (by decide) (by decide) (bG sa) rfl) fO)) λσ H Q w=>?_
 exact aLX (X:=X) rfl w
section
variable {es:List Expr}{x:Str}
end
section
variable  {gk:Rho->Res}{x:Str}{cp sp:Pos}
end
section
open PySem.SeqAt
open PySem.AutoSeq1 (wpAny_loadPart')
open PySem.MeetsSeq PySem.MeetsSeq2 PySem.MeetsSeq3
variable {A:aZP}{E:VSP}
end
section
variable {A:aZP}{E:VSP}
end
section
variable {K:Type}[DecidableEq K]{knd:KeyKind prog w K}{A:aZP}{E:VSP}
end
section
variable  {eb:Expr}
end
open PySem.Calls
section
variable  {o f:Expr}{go gf:Rho->Res}
end
end D3
namespace PySem
open PySem.Sem (wp)
def aLZ(a b c:aZN):checkTypeCall "range" ⟨[a,b,c],[]⟩=pure ():=by kernel_rfl
def aL0(a b c:aZN):checkBuiltinCall "range.__new__" ⟨[.type "range", a,b,c],[]⟩=pure ():=by kernel_rfl
def aL1(obj a b c:aZN):argsOk "object.__init__" ⟨[obj,a,b,c],[]⟩:=by unfold argsOk;rw[signature?_of (id := "object.__init__") (n:=['_','_','t','i','n','i','_','_']) (o:=['t','c','e','j','b','o']) (by kernel_rfl) F.owner_object];kernel_rfl
section
variable {A:aZP}{E:VSP}
def aL2{a b:Int}{t u v:Tok}{Q:VSP}(hc:¬ (some c==some (0:Int))=true)(hp:Builtin.divisionGoesByPylong (b-a) c=false)(h:Q (.ref s.heap.objs.size) { s with heap:=s.heap.push { cls:=.type "range", data:=.fields #[.int a t,.int b u,.int c v] } }):wpAny (model prog w) A (call (.type "range") [.int a t,.int b u,.int c v]) Q E s :=
 callType_new F.called_range (by decide) (aLZ _ _ _) (aL0 _ _ _) (λobj=>aL1 obj _ _ _) F.entry_range_new
  (AutoRange.range___new___type_int_int_int_1 a b c t u v F.called_range.sub hc) ⟨hp,⟨_,aTI _ rfl,rfl⟩,h⟩
end
end PySem
namespace L2
def nSt(lo hi c:Int):Nat:=(Builtin.Range.rangeSize lo hi c).toNat
def ItS(lo c:Int)(n:Nat):It:=⟨λi _=>i<n,λi H x H'=>H'=H/\x=.int (lo+i * c),λi _=>n<=i⟩
def aL3(it:Addr)(lo c:Int)(n:Nat):fN P w K tg (ItS lo c n) [it] it (λi h=>IsRangeIter h it (lo+(i:Nat) * c) ((n:Int)-(i:Nat)) c) where
 mem:=by simp
 obj:=λi h st b hb=>by
  have e:b=it:=by simpa using hb
  subst e;exact⟨_,st,λv z=>by
   have z':Data.fields _=Data.cell v:=z;cases z'⟩
 keep:=λi h h' st k=>k it (by simp) _ st
 item:=by
  intro X hP hw hK hc i aA s σ H E I hf st hg;subst hP hw hK;obtain⟨f0,f1,f2,f3,f4,f5⟩:=hf it (by simp)
  have W:=Walks.range (prog:=X.prog) (w:=X.w) (I.ok.hd hc) it lo c n;refine W.item i s _ _ hg st λv h' tk hv st' kk=>?_;obtain⟨t,rfl⟩:=hv;have I1:Inv X aA σ H {s with heap:=h',toks:=tk}:=I.turned (λb o hb e=>kk b o (by simpa using hb) e) f0 f1 f3 f4 f5
  exact⟨_,rfl,jY (s:={s with heap:=h',toks:=tk}) (n := "range_iterator") st' rfl rfl (by decide) ⟨.int (lo+i * c),H,I1,⟨t,rfl⟩,⟨rfl,rfl⟩,st',λb hb=>(hf b hb).1⟩⟩
 done:=by
  intro X hP hw hK hc i aA s σ H E I hf st hg;subst hP hw hK;obtain⟨f0,f1,f2,f3,f4,f5⟩:=hf it (by simp)
  exact wpAny_pyNext_range_end (I.ok.hd hc) st (by have:n<=i:=hg;omega) λh' eb=>⟨rfl,I.turned (t':=s.toks) (λb o hb e=>eb b o hb e) f0 f1 f3 f4 f5⟩
 self:=λ_ _ _ _ _ st h=>wpAny_pyIter_rangeiter st h
def aL4{lo hi:Int}(h:0<c):0<=Builtin.Range.rangeSize lo hi c:=by
 unfold Builtin.Range.rangeSize;rw[if_pos h];split
 . have:=Int.ediv_nonneg (show 0<=hi-lo-1 by omega) (show 0<=c by omega);omega
 . omega
def aL5{σ:St}{R:It->Hp->Prop}{E:VSP}{lo hi:Int}{t u v:Tok}{tk:Nat}(I:Inv X aA σ H s)(hc:0<c)(hs:Builtin.Range.small lo hi c=true)(q:R (ItS lo c (nSt lo hi c)) H):wpAny (model X.prog X.w) X.A (pyIter (.ref s.heap.objs.size)) (PIE X aA σ tg R) E { s with heap:=s.heap.push { cls:=.type "range", data:=.fields #[.int lo t,.int hi u,.int c v] },toks:=tk }:=by
 refine wpAny_pyIter_range (IsRange.new ..) hs ?_;have I1:Inv X aA σ H { s with heap:=s.heap.push { cls:=.type "range", data:=.fields #[.int lo t,.int hi u,.int c v] },toks:=tk }:=I.kept λb o e=>hps e
 refine⟨(s.heap.push { cls:=.type "range", data:=.fields #[.int lo t,.int hi u,.int c v] }).objs.size,[(s.heap.push { cls:=.type "range", data:=.fields #[.int lo t,.int hi u,.int c v] }).objs.size],_,_,H,rfl,
  I1.kept (t':=tk) λb o e=>hps e,aL3 _ lo c (nSt lo hi c),?_,λb hb=>?_,q⟩
 . have e1:lo+((0:Nat):Int) * c=lo:=by simp
   have e2:((nSt lo hi c:Nat):Int)-((0:Nat):Int)=Builtin.Range.rangeSize lo hi c:=by have:=aL4 (lo:=lo) (hi:=hi) hc;unfold nSt;omega
   show IsRangeIter _ _ (lo+((0:Nat):Int) * c) (((nSt lo hi c:Nat):Int)-((0:Nat):Int)) c;rw[e1,e2];exact aTI _ rfl
 . have e:b=(s.heap.push { cls:=.type "range", data:=.fields #[.int lo t,.int hi u,.int c v] }).objs.size:=by simpa using hb
   subst e;exact I1.fpOk (aUA _) (I1.hok.fresh (aUA _))
def yU(ta:TA):TI:=λσ H R=>ta σ H λvs H1=>∃i j c:Int,vs=[.int i,.int j,.int c]/\(0<=i/\i<=1000000/\0<=j+1000/\j<=1000000/\0<c/\c<=1000000)/\R (ItS i c (nSt i j c)) H1
def aL6{i j:Int}(h:0<=i/\i<=1000000/\0<=j+1000/\j<=1000000/\0<c/\c<=1000000):Builtin.Range.small i j c=true:=by
 have q:0<=(j-i-1) / c\/¬ i<j:=by
  by_cases hh:i<j
  . exact .inl (Int.ediv_nonneg (by omega) (by omega))
  . exact .inr hh
 have q2:i<j->(j-i-1) / c<=j-i-1:=λhh=>Int.ediv_le_self _ (by omega)
 unfold Builtin.Range.small;simp only[Builtin.Range.rangeSize,Builtin.Range.rangeFitsLong,aVL,aWB,aV9,aUI,if_pos h.2.2.2.2.1];by_cases hh:i<j
 . have b1:=q2 hh;have b0:=q.resolve_right (λz=>z hh);simp only[if_pos hh];generalize (j-i-1) / c=z at *;omega
 . simp only[if_neg hh];omega
def aL7{a b d:Expr}{ta:TA}(hg:Gl X "range")(hm:X.mg "range" = none)(ha:PA X [a,b,d] ta)(hs:starEach [a,b,d] X.env=(false,eval a X.env)::starEach [b,d] X.env)(hs2:(backTo pos (starEach [b,d] X.env)).any (·.1)=false):PI X tg (.Call (.Name "range" p) [a,b,d] [] pos) (yU ta):=by
 intro aA s σ H R I h;refine Call_ (iY I hg hm boot_range (aUC (thn (ha pos aA s σ H _ I h) λus s1 ⟨vs,H1,I1,r1,q1⟩=>?_) hs hs2));obtain⟨i,j,c,e,hq,q⟩:=q1;subst e;cases r1 with
 |cons r rr =>
  cases rr with
  |cons r' rr =>
   cases rr with
   |cons r'' rr=>cases rr;obtain⟨t,rfl⟩:=r;obtain⟨t',rfl⟩:=r';obtain⟨t'',rfl⟩:=r'';exact aL2 (by simp;omega) (PyProof.noPylong_small (by omega)) (aL5 I1 hq.2.2.2.2.1 (aL6 hq) q)
end L2
namespace D3
open PySem.Calls
def iF(lo hi c:Int):List D:=(List.range (nSt lo hi c)).map λ(i:Nat)=>.int (lo+(i:Int) * c)
def kH(r:bE):Res:=r.thn λxs=>match xs with
 |[(_,.int i),(_,.int j),(_,.int c)]=>if(decide (0<=i)&&decide (i<=1000000)&&decide (0<=j+1000)&&decide (j<=1000000)&&decide (0<c)&&decide (c<=1000000))=true then .ok .fz (.lst (iF i j c))else .stuck
 |_=>.stuck
def aL8{F:Hp}{lo hi:Int}:jC K F (ItS lo c (nSt lo hi c)) (iF lo hi c) where
 go:=λi H s h=>by simpa[iF,ItS]using h
 stop:=λi H s h=>by simpa[iF,ItS]using h
 yld:=λi Fc H x H' s1 s2 h y=>by
  obtain⟨rfl,rfl⟩:=y;have h':i<nSt lo hi c:=by simpa[iF]using h
  refine⟨Fc,.int (lo+i * c),?_,.refl s2,by simp only[aB]⟩
  simp only[iF,aU2,aWP h',aWQ]
def RpL.three{F:Hp}{a b c:Md×D}{vs:List V}(h:RpL K F H [a,b,c] vs):∃u v w,vs=[u,v,w]/\Rp K F H a.1 a.2 u/\Rp K F H b.1 b.2 v/\Rp K F H c.1 c.2 w:=by obtain⟨u,us,rfl,r1,r2⟩:=h;obtain⟨v,w,rfl,r3,r4⟩:=RpL.two r2;exact⟨u,v,w,rfl,r1,r3,r4⟩
def aL9{a b d:Expr}(hg:Gl X "range")(hm:X.mg "range" = none)(ha:PAv C X [a,b,d] gs)(hs:starEach [a,b,d] X.env=(false,eval a X.env)::starEach [b,d] X.env)(hs2:(backTo pos (starEach [b,d] X.env)).any (·.1)=false):PIv C X tg (.Call (.Name "range" p) [a,b,d] [] pos) (λρ=>kH (gs ρ)):=by
 refine PI.imp (aL7 hg hm ha hs hs2) λσ H R q=>?_;obtain⟨ρ,F,RS,w⟩:=q;dsimp only at w;unfold yU;refine⟨ρ,F,RS,?_⟩;cases er:gs ρ with
 |stuck=>rw[er]at w;exact w
 |exc c=>rw[er]at w;exact w
 |ok xs =>
  rw[er]at w;intro vs F' H' st rp;unfold kH at w;rw[bE.thn_ok]at w;split at w
  . rename_i m1 i m2 j m3 c;split at w
    . rename_i hc;simp only[aVL,aV9]at hc;obtain⟨v,u,x,rfl,r,r',r''⟩:=rp.three;cases r.int;cases r'.int;cases r''.int;exact⟨i,j,c,rfl,⟨hc.1.1.1.1.1,hc.1.1.1.1.2,hc.1.1.1.2,hc.1.1.2,hc.1.2,hc.2⟩,w _ F' H' st aL8⟩
    . exact w.elim
  . exact w.elim
theorem bY.is:∀{xs:List N}{ys:List V}{us:List aZN},(∀x∈xs,∀v u,NAt X.K H x v->aI v u->IsN s.heap x u)->bY X.K H xs ys->aJ ys us->aY s.heap xs us
 |[],ys,us,_,h,r=>by rw[bY]at h;subst h;cases r;rw[aY]
 |x::xs,ys,us,k,h,r=>by
  rw[bY]at h;obtain⟨y,zs,rfl,h1,h2⟩:=h;cases r with
  |cons r1 r2=>rw[aY];exact⟨_,_,rfl,k x mcs _ _ h1 r1,bY.is (λz hz=>k z (mcm hz)) h2 r2⟩
theorem NAt.is(I:L2.Inv X aA σ H s)(k:N):∀v u,NAt X.K H k v->aI v u->IsN s.heap k u:=by
 induction k using N.ind with
 |hi n=>intro v u h r;rw[NAt]at h;subst h;obtain⟨t,rfl⟩:=r;rw[IsN];exact⟨t,rfl⟩
 |hs x=>intro v u h r;rw[NAt]at h;obtain⟨rfl,_,hk⟩:=h;obtain⟨t,rfl⟩:=r;rw[IsN];exact⟨⟨t,rfl⟩,hk⟩
 |ht xs ih=>intro v u h r;rw[NAt]at h;obtain⟨a,ys,rfl,hq,hl⟩:=h;cases r;obtain⟨its,rv,⟨o,e,c,_,n,d⟩,_⟩:=SqT.plain I hq;rw[IsN];exact⟨a,o,its.toArray,n,rfl,e,c,d,by simpa using bY.is ih hl rv⟩
abbrev KN:=Paired (λ(p:N×Addr×V) (q:N×Addr×aZN)=>p.1=q.1/\p.2.1=q.2.1/\aI p.2.2 q.2.2)
def fX(K:Fg)(H:Hp)(kvs:List (N×Addr×V)):Prop:=∀p∈kvs,NAt K H p.1 (.ref p.2.1)/\p.1.dp<=8
noncomputable def bQ(kvs:List (N×Addr×V))(k:N):Option V:=(kvs.find? λp=>decide (p.1=k)).map (·.2.2)
def iG(kvs:List (N×Addr×V))(k:N)(b:Addr)(v:V):List (N×Addr×V):=if(bQ kvs k).isSome=true then kvs.map (λp=>if p.1=k then(p.1,p.2.1,v)else p)else kvs++[(k,b,v)]
def oU{p:N×Addr×V}{r:List (N×Addr×V)}{k:N}(e:p.1=k):bQ (p::r) k=some p.2.2:=by simp[bQ,aYQ,e]
def oV{p:N×Addr×V}{r:List (N×Addr×V)}{k:N}(e:¬ p.1=k):bQ (p::r) k=bQ r k:=by simp[bQ,aYQ,e]
def KN.val{xs:List (N×Addr×aZN)}(r:KN kvs xs)(k:N):c9 (bQ kvs k) ((atKey xs k).map (·.2)):=by
 induction r with
 |nil=>exact True.intro
 | @cons p q ps qs h t ih =>
  by_cases e:p.1=k
  . have b:atKey (q::qs) k=some q.2:=by simp[atKey,aYQ,h.1.symm.trans e]
    rw[oU e,b];exact h.2.2
  . have e':¬ q.1=k:=λz=>e (h.1.trans z);have b:atKey (q::qs) k=atKey qs k:=by simp[atKey,aYQ,e']
    rw[oV e,b];exact ih
def KN.repl{xs:List (N×Addr×aZN)}(r:KN kvs xs)(k:N){y:V}(ry:aI y u):KN (kvs.map λp=>if p.1=k then(p.1,p.2.1,y)else p) (xs.map (putAt k u)):=by
 induction r with
 |nil=>exact .nil
 | @cons p q ps qs h t ih =>
  rw[aUK,aUK];refine .cons ?_ ih;unfold putAt;by_cases e:p.1=k
  . rw[if_pos e,if_pos (h.1.symm.trans e)];exact⟨h.1,h.2.1,ry⟩
  . rw[if_neg e,if_neg (λz=>e (h.1.trans z))];exact h
def KN.put{xs:List (N×Addr×aZN)}(r:KN kvs xs)(k:N)(b:Addr){y:V}(ry:aI y u):KN (iG kvs k b y) (storedH xs k b u):=by
 have e:(bQ kvs k).isSome=(atKey xs k).isSome:=by rw[(r.val k).isSome_eq,Option.isSome_map]
 unfold iG storedH;rw[e];by_cases q:(atKey xs k).isSome=true
 . rw[if_pos q,if_pos q];exact r.repl k ry
 . rw[if_neg q,if_neg q];exact Paired.snoc r ⟨rfl,rfl,ry⟩
def aMA(kvs:List (N×Addr×V))(k:N)(b:Addr)(v:V):(iG kvs k b v).length<=kvs.length+1:=by
 unfold iG;split
 . rw[aUL];omega
 . rw[aU4];exact aUA _
def KN.is{xs:List (N×Addr×aZN)}{P:N->Addr->Prop}(r:KN kvs xs)(h:∀p∈kvs,P p.1 p.2.1):∀x∈xs,P x.1 x.2.1:=by
 induction r with
 |nil=>intro x hx;cases hx
 | @cons p q ps qs hq t ih =>
  intro x hx;rcases aTT.mp hx with e|hx
  . subst e;have:=h p mcs;rw[hq.1,hq.2.1]at this;exact this
  . exact ih (λp hp=>h p (mcm hp)) x hx
def mN{a:Addr}(I:L2.Inv X aA σ H s)(e:Rd H a (.dN kvs))(hk:fX X.K H kvs):kvs.length<=sizeLine/\(a==sysModules)=false/\∃xs,KN kvs xs/\s.heap.DictOfH (lJ X.prog X.w) a xs:=by
 obtain⟨z,y,xs,r,o,es,ep,h1,h2,h3,h4,h5⟩:=(show bM X.prog X.w H s.heap a (.dN kvs)from e.ok I.hok)
 exact⟨z,y,xs,r,o,es,ep,h1,h2,h3,h4,KN.is (P:=λk b=>(lJ X.prog X.w).is s.heap k b) r λp hp=>⟨NAt.is I _ _ _ (hk p hp).1 rfl,(hk p hp).2⟩,h5⟩
def kI(K:Fg)(H:Hp)(a:Addr)(y:V)(r:Option V):Prop:=∃kvs k b,Rd H a (.dN kvs)/\fX K H kvs/\y=.ref b/\(NAt K H k (.ref b)/\k.dp<=8)/\r=bQ kvs k
def NPut(K:Fg)(H:Hp)(a:Addr)(y v:V)(H':Hp):Prop:=∃kvs k b,H a=some (.dN kvs)/\fX K H kvs/\y=.ref b/\(NAt K H k (.ref b)/\k.dp<=8)/\kvs.length<sizeLine/\H'=upd H a (.dN (iG kvs k b v))
section
variable {a:Addr}{y d:V}{r:aZN}{o:Option V}{A:aZP}{E:VSP}
def oW(hu:A.units+64<cLine):(lJ X.prog X.w).room A.in1:=by show A.units+1+8<cLine;omega
def aMB{Q:VSP}(hu:A.units+64<cLine)(I:L2.Inv X aA σ H s)(g:kI X.K H a y (some v))(ry:aI y u)(h:∀w' s',L2.Inv X aA σ H s'->aI v w'->Q w' s'):wpAny (model X.prog X.w) A (getItem (.ref a) u) Q E s:=by
 obtain⟨kvs,k,b,e,hk,rfl,kb,l⟩:=g;cases ry;obtain⟨z,hd,xs,rel,dd⟩:=mN I e hk;obtain⟨w',hw,rw'⟩:=c9.some_of (v:=v) (o:=(atKey xs k).map (·.2)) (by rw[l];exact rel.val k)
 obtain⟨p,hp,hp2⟩:=aYR.mp hw;refine wpAny_getItem_heap (oW hu) (k:=k) ⟨NAt.is I _ _ _ kb.1 rfl,kb.2⟩ dd hp ?_;rw[hp2];exact h w' _ (I.tok _) rw'
def aMC{Q:VSP}(hu:A.units+64<cLine)(I:L2.Inv X aA σ H s)(g:kI X.K H a y o)(ry:aI y u)(rd:aI d r)(h:∀w' s',L2.Inv X aA σ H s'->aI (o.getD d) w'->Q w' s'):wpAny (model X.prog X.w) A (call (.builtin "dict.get") [.ref a,u,r]) Q E s:=by obtain⟨kvs,k,b,e,hk,rfl,kb,l⟩:=g;cases ry;obtain⟨z,hd,xs,rel,dd⟩:=mN I e hk;refine call_meetsIn PySem.F.slot_dict_get dd.typeIs PySem.F.entry_dict_get (PySem.F.args_dict_get_3 _ _ _) (meetsH_dict_get_default (lJ X.prog X.w) a b hd r) ⟨oW hu,k,xs,⟨NAt.is I _ _ _ kb.1 rfl,kb.2⟩,dd,h _ _ (I.tok _) ?_⟩;rw[l];exact(rel.val k).getD rd
def aMD(hu:A.units+64<cLine)(I:L2.Inv X aA σ H s)(g:NPut X.K H a y v H')(ry:aI y u)(rv:aI v r)(h:∀s',L2.Inv X aA σ H' s'->Q () s'):wpAny (model X.prog X.w) A (setItem (.ref a) u r) Q E s:=by
 obtain⟨kvs,k,b,e,hk,rfl,kb,l,rfl⟩:=g;cases ry;obtain⟨z,hd,xs,rel,dd⟩:=mN I (.inl e) hk;have hz:xs.length<=sizeLine:=by rw[<- aTH rel];exact z
 have hl:(iG kvs k b v).length<=sizeLine:=by have:=aMA kvs k b v;omega
 refine wpAny_setItem_heap (hsz:=hz) (oW hu) (k:=k) ⟨NAt.is I _ _ _ kb.1 rfl,kb.2⟩ dd λh' dd' hs=>h _ ?_;obtain⟨q,es,ep,hq,h2,h3,h4,_,h5⟩:=dd';exact wB I (by rw[e];exact True.intro) hs ⟨q,hq⟩ ⟨hl,hd,_,rel.put k b rv,q,es,ep,hq,h2,h3,h4,h5⟩
def aME(I:L2.Inv X aA σ H s)(g:kI X.K H a y o):s.TypeIs (.ref a) "dict" := by obtain⟨kvs,k,b,e,hk,_⟩:=g;obtain⟨_,_,xs,_,dd⟩:=mN I e hk;exact dd.typeIs
end
open PySem.Calls
mutual
def nD:N->D
 |.i n=>.int n
 |.s x=>.str x
 |.t xs=>.tup (nDL xs)
def nDL:List N->List D
 |[]=>[]
 |x::xs=>nD x::nDL xs
end
mutual
def cA:D->Option N
 |.int i=>some (.i i)
 |.str x=>some (.s x)
 |.tup ds=>(cV ds).map .t
 |_=>none
def cV:List D->Option (List N)
 |[]=>some []
 |d::ds=>match cA d,cV ds with
  |some k,some ks=>some (k::ks)
  |_,_=>none
end
def eG(d:D):Option N:=match d with
 |.tup ds=>match cV ds with
  |some ks=>if(N.t ks).dp<=8 then some (.t ks)else none
  |none=>none
 |_=>none
section
variable  {F:Hp}
mutual
theorem yV:∀{d:D}{k:N}{v:V},cA d=some k->aB K F d v->NAt K F k v
 |.int i,k,v,e,r=>by simp only[cA]at e;cases e;simpa only [aB,NAt]using r
 |.str x,k,v,e,r=>by simp only[cA]at e;cases e;simpa only [aB,NAt]using r
 |.tup ds,k,v,e,r=>by simp only[cA]at e;obtain⟨ks,ek,rfl⟩:=aYR.mp e;simp only[aB]at r;obtain⟨a,xs,rfl,hq,rl⟩:=r;rw[NAt];exact⟨a,xs,rfl,hq,oX ek rl⟩
 |.non,_,_,e,_=>by simp only[cA]at e;cases e
 |.bl _,_,_,e,_=>by simp only[cA]at e;cases e
 |.lst _,_,_,e,_=>by simp only[cA]at e;cases e
 |.dct _,_,_,e,_=>by simp only[cA]at e;cases e
 |.ty _,_,_,e,_=>by simp only[cA]at e;cases e
 |.ob _,_,_,e,_=>by simp only[cA]at e;cases e
 |.ins _ _,_,_,e,_=>by simp only[cA]at e;cases e
 |.fn _,_,_,e,_=>by simp only[cA]at e;cases e
 |.exn _,_,_,e,_=>by simp only[cA]at e;cases e
 |.set _,_,_,e,_=>by simp only[cA]at e;cases e
 |.dtn _,_,_,e,_=>by simp only[cA]at e;cases e
 |.dtf _,_,_,e,_=>by simp only[cA]at e;cases e
theorem oX:∀{ds:List D}{ks:List N}{xs:List V},cV ds=some ks->aC K F ds xs->bY K F ks xs
 |[],ks,xs,e,r=>by simp only[cV]at e;cases e;simpa only [aC,bY]using r
 |d::ds,ks,xs,e,r=>by
  simp only[cV]at e;simp only[aC]at r;obtain⟨y,ys,rfl,r1,r2⟩:=r;cases e1:cA d with
  |none=>rw[e1]at e;cases e
  |some k =>
   cases e2:cV ds with
   |none=>rw[e1,e2]at e;cases e
   |some ks'=>rw[e1,e2]at e;cases e;rw[bY];exact⟨y,ys,rfl,yV e1 r1,oX e2 r2⟩
end
def sM{d:D}{k:N}{m:Md}(e:eG d=some k)(r:Rp K F H m d v):∃b,v=.ref b/\NAt K F k (.ref b)/\k.dp<=8:=by
 unfold eG at e;split at e
 . rename_i ds;split at e
   . rename_i ks ek;split at e
     . rename_i hd;cases e;cases m with
       |fz =>
        have r:aB K F (.tup ds) v:=r;have h:=yV (k:=.t ks) (by simp only[cA];rw[ek];rfl) r
        simp only[aB]at r;obtain⟨a,xs,rfl,_⟩:=r;exact⟨a,rfl,h,hd⟩
       |fr=>obtain⟨a,_,_,q⟩:=r;exact q.elim
       |bo=>obtain⟨a,_,_,q⟩:=r;exact q.elim
     . cases e
   . cases e
 . cases e
theorem yW:∀{xs:List N}{ys:List V},(∀x∈xs,∀v,NAt K F x v->aB K F (nD x) v)->bY K F xs ys->aC K F (nDL xs) ys
 |[],ys,_,h=>by rw[bY]at h;subst h;rw[nDL];exact aC.nil
 |x::xs,ys,k,h=>by rw[bY]at h;obtain⟨y,zs,rfl,h1,h2⟩:=h;rw[nDL];exact aC.cons (k x mcs y h1) (yW (λz hz=>k z (mcm hz)) h2)
def aMF(k:N):∀v,NAt K F k v->aB K F (nD k) v:=by
 induction k using N.ind with
 |hi n=>intro v h;rw[NAt]at h;rw[nD];simpa only [aB]using h
 |hs x=>intro v h;rw[NAt]at h;rw[nD];simpa only [aB]using h
 |ht xs ih=>intro v h;rw[NAt]at h;obtain⟨a,ys,rfl,hq,hl⟩:=h;rw[nD];simp only[aB];exact⟨a,ys,rfl,hq,yW ih hl⟩
def bV(kvs:List (N×D))(k:N):Option D:=(kvs.find? λkv=>decide (kv.1=k)).map (·.2)
def kJ(kvs:List (N×D))(k:N)(d:D):List (N×D):=if(bV kvs k).isSome=true then kvs.map (λkv=>if kv.1=k then(kv.1,d)else kv)else kvs++[(k,d)]
def sN{p:N×D}{r:List (N×D)}{k:N}(e:p.1=k):bV (p::r) k=some p.2:=by simp[bV,aYQ,e]
def sO{p:N×D}{r:List (N×D)}{k:N}(e:¬ p.1=k):bV (p::r) k=bV r k:=by simp[bV,aYQ,e]
theorem aN.val:∀{kvs:List (N×D)}{xs:List (N×Addr×V)} (k:N),aN K F kvs xs->match bV kvs k with|some d=>∃v,bQ xs k=some v/\aB K F d v|none=>bQ xs k=none
 |[],xs,k,h=>by simp only[aN]at h;subst h;rfl
 |(k',d)::kvs,xs,k,h=>by
  simp only[aN]at h;obtain⟨b,y,ys,rfl,_,r,t⟩:=h;by_cases e:k'=k
  . rw[sN (p:=(k',d)) e];exact⟨y,oU (p:=(k',b,y)) e,r⟩
  . rw[sO (p:=(k',d)) e,oV (p:=(k',b,y)) e];exact aN.val k t
def aN.hasK{kvs:List (N×D)}{xs:List (N×Addr×V)}(k:N)(h:aN K F kvs xs):(bQ xs k).isSome=(bV kvs k).isSome:=by
 have:=aN.val k h;cases e:bV kvs k with
 |none=>rw[e]at this;dsimp only at this;rw[this];rfl
 |some d=>rw[e]at this;obtain⟨v,ev,_⟩:=this;rw[ev];rfl
theorem aN.keys:∀{kvs:List (N×D)}{xs:List (N×Addr×V)},aN K F kvs xs->fX K F xs
 |[],xs,h=>by simp only[aN]at h;subst h;intro p hp;cases hp
 |(k',d)::kvs,xs,h=>by
  simp only[aN]at h;obtain⟨b,y,ys,rfl,q,r,t⟩:=h;intro p hp;rcases aTT.mp hp with rfl|hp
  . exact q
  . exact t.keys p hp
theorem fX.mono{xs:List (N×Addr×V)}(s:aD F F')(h:fX K F xs):fX K F' xs:=λp hp=>⟨NAt.mono s _ _ (h p hp).1,(h p hp).2⟩
theorem aN.len:∀{kvs:List (N×D)}{xs:List (N×Addr×V)},aN K F kvs xs->xs.length=kvs.length
 |[],xs,h=>by simp only[aN]at h;subst h;rfl
 |(k',d)::kvs,xs,h=>by simp only[aN]at h;obtain⟨b,y,ys,rfl,q,r,t⟩:=h;rw[aUJ,aUJ,t.len]
theorem aN.repl{k:N}{d:D}(rv:aB K F d v):∀{kvs:List (N×D)}{xs:List (N×Addr×V)},aN K F kvs xs->aN K F (kvs.map λkv=>if kv.1=k then(kv.1,d)else kv) (xs.map λp=>if p.1=k then(p.1,p.2.1,v)else p)
 |[],xs,h=>by simp only[aN]at h;subst h;simp only[aN,aVU]
 |(k',d')::kvs,xs,h=>by
  simp only[aN]at h;obtain⟨b,y,ys,rfl,q,r,t⟩:=h;rw[aUK,aUK];by_cases e:k'=k
  . rw[if_pos e,if_pos e];simp only[aN];exact⟨b,v,_,rfl,q,rv,t.repl rv⟩
  . rw[if_neg e,if_neg e];simp only[aN];exact⟨b,y,_,rfl,q,r,t.repl rv⟩
theorem aN.snoc{k:N}{d:D}(hk:NAt K F k (.ref b)/\k.dp<=8)(rv:aB K F d v):∀{kvs:List (N×D)}{xs:List (N×Addr×V)},aN K F kvs xs->aN K F (kvs++[(k,d)]) (xs++[(k,b,v)])
 |[],xs,h=>by simp only[aN]at h;subst h;simp only[aN,aYS];exact⟨b,v,[],rfl,hk,rv,rfl⟩
 |(k',d')::kvs,xs,h=>by simp only[aN]at h;obtain⟨b',y,ys,rfl,q,r,t⟩:=h;rw[aVX,aVX];simp only[aN];exact⟨b',y,_,rfl,q,r,t.snoc hk rv⟩
def aN.put{k:N}{d:D}{kvs:List (N×D)}{xs:List (N×Addr×V)}(hk:NAt K F k (.ref b)/\k.dp<=8)(rv:aB K F d v)(h:aN K F kvs xs):aN K F (kJ kvs k d) (iG xs k b v):=by
 unfold kJ iG;rw[h.hasK k];split
 . exact h.repl rv
 . exact h.snoc hk rv
def asN:D->Option (List (N×D))
 |.dtn kvs=>some kvs
 |.dtf kvs=>some kvs
 |_=>none
theorem Rp.asN{m:Md}{d:D}{kvs:List (N×D)}(s:aD F H)(r:Rp K F H m d v)(e:asN d=some kvs):∃a xs,v=.ref a/\Rd H a (.dN xs)/\aN K F kvs xs:=by
 cases d with
 |dtn ks =>
  cases e;cases m with
  |fz=>have r:aB K F (.dtn kvs) v:=r;simp only[aB]at r;obtain⟨a,xs,rfl,q,t⟩:=r;exact⟨a,xs,rfl,.inl (s _ _ q),t⟩
  |fr=>obtain⟨a,rfl,_,xs,q,t⟩:=r;exact⟨a,xs,rfl,.inl q,t⟩
  |bo=>obtain⟨a,rfl,_,xs,q,t⟩:=r;exact⟨a,xs,rfl,.inl q,t⟩
 |dtf ks =>
  cases e;cases m with
  |fz=>have r:aB K F (.dtf kvs) v:=r;simp only[aB]at r;obtain⟨a,o,xs,rfl,q,t⟩:=r;exact⟨a,xs,rfl,.inr ⟨o,s _ _ q⟩,t⟩
  |fr=>obtain⟨a,_,_,q⟩:=r;exact q.elim
  |bo=>obtain⟨a,_,_,q⟩:=r;exact q.elim
 |_=>cases e
def yX{m n:Md}{x y:D}{kvs:List (N×D)}{k:N}{u:V}(s:aD F H)(rx:Rp K F H m x v)(ex:D3.asN x=some kvs)(ry:Rp K F H n y u)(ey:eG y=some k):∃a xs,v=.ref a/\Rd H a (.dN xs)/\aN K F kvs xs/\kI K H a u (bQ xs k):=by obtain⟨a,xs,rfl,hr,t⟩:=Rp.asN s rx ex;obtain⟨b,rfl,hn,hd⟩:=sM ey ry;exact⟨a,xs,rfl,hr,t,xs,k,b,hr,t.keys.mono s,rfl,⟨NAt.mono s _ _ hn,hd⟩,rfl⟩
end
def rIxN(K:Fg):R2:=λx y H Q=>∃a v,x=.ref a/\kI K H a y (some v)/\Q v H
def ix_dn(hu:X.A.units+64<cLine):IxR X (rIxN X.K):=by
 intro value slice aA s σ H x y v u Q I rx ry h hsub;obtain⟨a,w',rfl,g,q⟩:=h;cases(show v=Value.ref a from rx)
 have hT:=aME I g;unfold subscriptTail;refine aT8 ?_;rw[getitemInPython_of_ne hT.not_modules];refine aT8 (aVZ hT PySem.F.slot_dict_getitem.lookup ?_);have fin:wpAny (model X.prog X.w) X.A (subscripted slice false (.ref a) u) (λr s3=>wpAny (model X.prog X.w) X.A (letTemporaryGo value (.ref a) r>>=λ_=>pure r) (EP X aA σ Q) X.xe s3) X.xe s:=by rw[hsub];exact wpAny_operating (aMB hu I g ry λz s3 I3 rz=>aT8 (wpAny_letTemporaryGo (aT7 ⟨w',H,I3,rz,q⟩)))
 first
  |exact aT7 (aT8 fin)
  |exact aT8 (aT7 (aT8 fin))
  |exact aT8 fin
noncomputable def fD:Md->D->Md->D->Option (Md×D):=λ_ x _ y=>match asN x,eG y with
 |some kvs,some k=>(bV kvs k).map λd=>(.fz,d)
 |_,_=>none
def kK(ra rk rd:Res):Res:=ra.thn λ_ da=>match asN da with
 |some kvs=>rk.thn λ_ dk=>(aK rd).thn λm d=>(match m,eG dk with
  |.fz,some k=>.ok .fz ((bV kvs k).getD d)
  |_,_=>.stuck)
 |none=>.stuck
noncomputable def oY(ρ:Rho)(i:Nat)(rk rv:Res):aF:=match ρ[i]? with
 |some (some (true,.dtn kvs))=>(aK rv).thS ρ λm d=>match m with
  |.fz=>rk.thS ρ λ_ kd=>(match eG kd with
   |some k=>if kvs.length<sizeLine then .nx (ρ.set i (some (true,.dtn (kJ kvs k d))))else .stuck
   |none=>.stuck)
  |_=>.stuck
 |_=>.stuck
def tNNew:TE:=λ_ H Q=>∀p,H p=none->Q (.ref p) (upd H p (.dN []))
def yY:PE X (.Dict [] [] pos) tNNew:=λaA s σ H Q I h =>
 wpAny_Dict_empty ⟨.ref s.heap.objs.size,_,I.laid (a:=s.heap.objs.size) (o:=.dN []) (t':=s.toks) (λ_ _ q=>hps q) (aUA _)
  ⟨aUP _,aTG.mpr (Ne.symm (aTM I.big)),[],.nil,_,#[],0,aTI _ rfl,⟨rfl,rfl,rfl⟩,rfl,rfl,aXX⟩,rfl,h _ (I.hok.fresh (aUA _))⟩
section
variable  {a b o f:Expr}{go gf:Rho->Res}
def aMG:PV C X (.Dict [] [] pos) (λ_=>.ok .fr (.dtn [])):=by refine PE.imp yY λσ H Q q=>?_;rw[aR]at q;obtain⟨ρ,F,R,w⟩:=q;intro p hp;exact w (.ref p) F _ (aE.fresh _ R.sub hp) ⟨p,rfl,R.sub.free hp,[],aT,by simp[aN]⟩ λ_ a ea=>by cases ea;exact hp
def aMH(hu:X.A.units+64<cLine)(ha:PV C X a ga)(hb:PV C X b gb)(hs:nV b):PV C X (.Subscript a b pos) (λρ=>op2 fD (ga ρ) (gb ρ)):=by
 refine PE.imp (vY (ix_dn hu) ha hb hs) λσ H Q q=>lK (λF H m x n y v u k d Q s rx ry e w=>?_) q;unfold fD at e;split at e
 . rename_i kvs ky ek1 ek2;obtain⟨p,xs,rfl,hh,rk,g⟩:=yX s rx ek1 ry ek2;have hv:=aN.val ky rk;cases eg:bV kvs ky with
   |none=>rw[eg]at e;cases e
   |some d'=>rw[eg]at e hv;cases e;obtain⟨v',ev,rv⟩:=hv;rw[ev]at g;exact⟨p,v',rfl,g,w v' F H (.refl s) rv (by nofun)⟩
 . cases e
def sQ(H:Hp)(a:Addr):Prop:=∃kvs,Rd H a (.dN kvs)
def oZ{a:Addr}(I:L2.Inv X aA σ H s)(d:sQ H a):s.TypeIs (.ref a) "dict" /\ ∀b,Value.ref a=.ref b->∃ob,s.heap.get? b=some ob/\ob.dict=none:=by
 obtain⟨kvs,e⟩:=d;obtain⟨_,_,xs,_,ob,es,ep,h1,h2,_⟩:=(show bM X.prog X.w H s.heap a (.dN kvs)from e.ok I.hok)
 exact⟨⟨ob,h1,h2.1⟩,λb q=>by cases q;exact⟨ob,h1,h2.2.1⟩⟩
def yZ(K:Fg)(td ty tx:TE):TE:=λσ H Q=>td σ H λx H1=>∃a,x=.ref a/\sQ H1 a/\ty σ H1 λy H2=>tx σ H2 λz H3=>∃o,kI K H3 a y o/\Q (o.getD z) H3
def aMI{ty tx:TE}(hu:X.A.units+64<cLine)(ho:PE X o td)(he:PE X e ty)(hf:PE X f tx)(m:M2 X o "get" apos e f cpos):PE X (.Call (.Attribute o "get" apos) [e,f] [] cpos) (yZ X.K td ty tx):=by
 intro aA s σ H Q I h;refine wpAny_Call_method m.base m.few m.line PySem.F.plainAttrs_dict PySem.F.slot_dict_get PySem.F.type_dict_get (thn (ho aA s σ H _ I h) λu s1 ⟨x,H1,I1,rx,a,ex,d,q1⟩=>?_);subst ex;obtain rfl:u=Value.ref a:=rx;refine⟨(oZ I1 d).1,(oZ I1 d).2,?_⟩;rw[m.trees];refine aVQ rfl (aVR (aUR (thn (he aA s1 σ H1 _ I1 q1) λiv s2 ⟨y,H2,I2,ry,q2⟩ =>
  aUR (thn (hf aA s2 σ H2 _ I2 q2) λfv s3 ⟨z,H3,I3,rz,ov,g,q3⟩=>aUQ ?_))))
 exact aMC hu I3 g ry rz λw' s4 I4 rw'=>⟨_,H3,I4,rw',q3⟩
def aMJ(hu:X.A.units+64<cLine)(ho:PV C X o go)(he:PV C X e ge)(hf:PV C X f gf)(m:M2 X o "get" apos e f cpos):PV C X (.Call (.Attribute o "get" apos) [e,f] [] cpos) (λρ=>kK (go ρ) (ge ρ) (gf ρ)):=by
 refine PE.imp (aMI hu ho he (fP hf) m) λσ H Q q=>?_;unfold yZ;rw[aR]at q ⊢;obtain⟨ρ,F,R,w⟩:=q;refine⟨ρ,F,R,?_⟩;unfold kK at w;cases ea:go ρ with
 |stuck=>rw[ea]at w;exact w
 |exc c=>rw[ea]at w;exact w
 |ok ma da =>
  rw[ea,Res.thn_ok]at w;intro v F1 H1 s1 r1 _;have w1:=aQ.step s1 w;cases en:asN da with
  |none=>rw[en]at w1;exact w1.elim
  |some kvs =>
   rw[en]at w1;dsimp only at w1;obtain⟨a,xs,rfl,hh,rk⟩:=Rp.asN s1.sub r1 en;refine⟨a,rfl,⟨xs,hh⟩,?_⟩;rw[aR];refine⟨ρ,F1,R.step s1,?_⟩;cases ek:ge ρ with
   |stuck=>rw[ek]at w1;exact w1
   |exc c=>rw[ek]at w1;exact w1
   |ok mk dk =>
    rw[ek,Res.thn_ok]at w1;intro y F2 H2 s2 r2 _;have w2:=aQ.step s2 w1;rw[aR];refine⟨ρ,F2,(R.step s1).step s2,?_⟩;cases ed:aK (gf ρ)with
    |stuck=>rw[ed]at w2;exact w2
    |exc c=>rw[ed]at w2;exact w2
    |ok md d =>
     rw[ed,Res.thn_ok]at w2;intro z F3 H3 s3 r3 _;have w3:=aQ.step s3 w2;have hm:md=.fz:=rS ed;subst hm;cases ek2:eG dk with
     |none=>rw[ek2]at w3;exact w3.elim
     |some k =>
      rw[ek2]at w3;dsimp only at w3;obtain⟨a',xs',ea',hh',rk',g⟩:=yX s3.sub ((r1.step s2).step s3) en (r2.step s3) ek2;cases ea';refine⟨_,g,?_⟩;have hv:=aN.val k rk';cases eg:bV kvs k with
      |none=>rw[eg]at hv w3;dsimp only at hv;rw[hv];exact w3 z F3 H3 (.refl s3.sub) r3 (by nofun)
      |some d'=>rw[eg]at hv w3;obtain⟨v',ev,rv⟩:=hv;rw[ev];exact w3 v' F3 H3 (.refl s3.sub) rv (by nofun)
def zA(K:Fg)(td ty tv:TE):TS:=λD σ H=>tv σ H λv H1=>td σ H1 λx H2=>ty σ H2 λy H3=>∃a H4,x=.ref a/\NPut K H3 a y v H4/\D.nx σ H4
def aMK{i value:Expr}{ty tv:TE}(hu:X.A.units+64<cLine)(ho:PE X o td)(hi:PE X i ty)(hv:PE X value tv)(hs:swapsWith value (some (.Subscript o i pos')) pos.line X.env=pure false):PS X (.Assign [.Subscript o i pos'] value pos) (zA X.K td ty tv):=by intro aA s σ H D I h;refine wpAny_Assign_Subscript (thn (hv aA s σ H _ I h) λr s1 ⟨v,H1,I1,rv,q1⟩=>thn (ho aA s1 σ H1 _ I1 q1) λu s2 ⟨x,H2,I2,rx,q2⟩=>thn (hi aA s2 σ H2 _ I2 q2) λiv s3 ⟨y,H3,I3,ry,a,H4,ex,g,q3⟩=>?_) hs;subst ex;obtain rfl:u=Value.ref a:=rx;exact aMD hu I3 g ry rv λs4 I4=>⟨σ,H4,I4,q3⟩
end
section
variable  {gk:Rho->Res}{x:Str}{sp:Pos}
def aML(i:Nat)(hu:X.A.units+64<cLine)(hv:PE X (.Name x p) (jW i))(hk:PV C X ke gk)(he:PV C X e g)(hsw:swapsWith e (some (.Subscript (.Name x p) ke sp)) pos.line X.env=pure false):PSv C X (.Assign [.Subscript (.Name x p) ke sp] e pos) (λρ=>oY ρ i (gk ρ) (g ρ)):=by
 refine PS.imp (aMK hu hv hk (fP he) hsw) λE σ H q=>?_;obtain⟨ρ,F,R,w⟩:=q;dsimp only at w;unfold zA;unfold oY at w;split at w
 . rename_i kvs e0;obtain⟨v0,ev0,rp0,hn0⟩:=R.slot i true _ e0;obtain⟨a,ea,hfa,xs,hh,rk⟩:=rp0;subst ea;refine j5 R w λm d v F' H' w' s R' rp fr=>?_;cases m with
   |fr=>exact(show False from w').elim
   |bo=>exact(show False from w').elim
   |fz =>
   dsimp only at w';refine⟨.ref a,ev0,?_⟩;refine j5 R' w' λm2 kd u F2 H2 w2 s2 R2 rp2 _=>?_;cases ek:eG kd with
   |none=>rw[ek]at w2;exact w2.elim
   |some k =>
    rw[ek]at w2;dsimp only at w2;split at w2
    . rename_i hl;have hh2:H2 a=some (.dN xs):=s2.same _ _ (s.same _ _ hh);obtain⟨b,rfl,hn,hd⟩:=sM ek rp2;have rk2:=rk.mono (s.fsame.trans s2.fsame) _ _;refine⟨a,_,rfl,⟨xs,k,b,hh2,rk2.keys.mono s2.sub,rfl,⟨NAt.mono s2.sub _ _ hn,hd⟩,by rw[rk.len];exact hl,rfl⟩,?_⟩
      exact w2 σ F2 _ (aD.refl _) (R2.mut e0 ev0 ⟨_,aT,aN.put ⟨hn,hd⟩ (aB.mono s2.fsame _ _ rp) rk2⟩)
    . exact w2.elim
 . exact w.elim
end
open PySem.W
structure WkO(lt:Nat->Nat->Bool):Prop where
 ntr:∀{i j k},lt i j=false->lt j k=false->lt i k=false
 asy:∀{i j},lt i j=true->lt j i=false
def WkO.irr{lt:Nat->Nat->Bool}(O:WkO lt)(i:Nat):lt i i=false:=by
 cases e:lt i i with
 |false=>rfl
 |true=>have:=O.asy e;rw[e]at this;cases this
structure PW(n:Nat)(p:Array Nat):Prop where
 size:p.size=n
 below:∀k,p.getD k 0<n
def PW.perm{p q:Array Nat}(h:PW n p)(e:q.Perm p):PW n q:=by
 refine⟨by rw[e.size_eq,h.size],λk=>?_⟩
 simp only[aX5];cases z:q[k]? with
 |none=>have:=h.below p.size;simp only[aX5,Array.getElem?_size]at this;exact this
 |some v =>
  have hm:v∈p.toList:=(Array.perm_iff_toList_perm.mp e).mem_iff.mp (by rw[aUH];exact aWG z)
  obtain⟨i,hi⟩:=List.getElem?_of_mem hm;have:=h.below i;rw[aX1]at hi;simp only[aX5,hi]at this;exact this
section
variable {lt:Nat->Nat->Bool}{cmp:Nat->Nat->(Bool->aZO->Prop)->aZO->Prop}{J:aZO->Prop}
def Wup(lt:Nat->Nat->Bool)(p:Array Nat)(b:Nat):Prop:=∀i j,i<j->j<b->lt (p.getD j 0) (p.getD i 0)=false
def Wdn(lt:Nat->Nat->Bool)(p:Array Nat)(b:Nat):Prop:=∀i j,i<j->j<b->lt (p.getD i 0) (p.getD j 0)=false
def Weq(lt:Nat->Nat->Bool)(p:Array Nat)(a b:Nat):Prop:=∀i j,a<=i->i<b->a<=j->j<b->lt (p.getD i 0) (p.getD j 0)=false
def Wup.more(O:WkO lt){p:Array Nat}{m:Nat}(h:Wup lt p m)(hm:1<=m)(e:lt (p.getD m 0) (p.getD (m-1) 0)=false):Wup lt p (m+1):=λi j hij hj=>by
 by_cases hjm:j<m
 . exact h i j hij hjm
 . have:j=m:=by omega
   subst this;by_cases hi:i=j-1
   . rw[hi];exact e
   . exact O.ntr e (h i (j-1) (by omega) (by omega))
def Wdn.more(O:WkO lt){p:Array Nat}{m:Nat}(h:Wdn lt p m)(hm:1<=m)(e:lt (p.getD (m-1) 0) (p.getD m 0)=false):Wdn lt p (m+1):=λi j hij hj=>by
 by_cases hjm:j<m
 . exact h i j hij hjm
 . have:j=m:=by omega
   subst this;by_cases hi:i=j-1
   . rw[hi];exact e
   . exact O.ntr (h i (j-1) (by omega) (by omega)) e
def iH{p:Array Nat}(a b:Nat)(hb:b<=p.size)(k:Nat):(kas_rev p a b).getD k 0=if a<=k/\k<b then p.getD (a+b-1-k) 0 else p.getD k 0:=by simp only[aX5];unfold kas_rev;rw[getElem?_mirror_all hb];split <;> rfl
def o4{p:Array Nat}(pp:PW n p)(a b:Nat):PW n (kas_rev p a b)/\(kas_rev p a b).Perm p:=by have pe:(kas_rev p a b).Perm p:=mirror_perm _ _ _ _;exact⟨pp.perm pe,pe⟩
theorem sR(O:WkO lt)(hc:gR n lt cmp J){p:Array Nat}(pp:PW n p):∀(f m:Nat) (s:aZO) (Q:Nat->aZO->Prop),m+f=n->1<=m->Wup lt p m->J s->(∀m' s',m<=m'->m'<=n->Wup lt p m'->(m'<n->lt (p.getD m' 0) (p.getD (m'-1) 0)=true)->J s'->Q m' s')->(kas_asc p f m).kasWp cmp Q s
 |0,m,s,Q,e,h1,u,hJ,q=>q m s (aUA _) (by omega) u (λz=>by omega) hJ
 |f+1,m,s,Q,e,h1,u,hJ,q=>by
  refine hc _ _ s _ (pp.below m) (pp.below (m-1)) hJ λs' hJ'=>?_;cases ec:lt (p.getD m 0) (p.getD (m-1) 0)with
  |true=>exact q m s' (aUA _) (by omega) u (λ_=>ec) hJ'
  |false=>exact sR O hc pp f (m+1) s' Q (by omega) (by omega) (u.more O h1 ec) hJ' λm' s2 a b c d e=>q m' s2 (by omega) b c d e
def Wdn.turn{p:Array Nat}{a m:Nat}(hp:m<=p.size)(d:Wdn lt p m)(e:Weq lt p a m):Wdn lt (kas_rev p a m) m:=λi j hij hj=>by
 rw[iH a m hp,iH a m hp];by_cases hi:a<=i
 . rw[if_pos ⟨hi,by omega⟩,if_pos ⟨by omega,hj⟩]
   exact e _ _ (by omega) (by omega) (by omega) (by omega)
 . rw[if_neg (by omega)]
   by_cases hj2:a<=j
   . rw[if_pos ⟨hj2,hj⟩];exact d _ _ (by omega) (by omega)
   . rw[if_neg (by omega)];exact d i j hij hj
theorem o5(O:WkO lt)(hc:gR n lt cmp J)(p0:Array Nat):∀(f m q:Nat) (p:Array Nat) (s:aZO) (Q:Array Nat×Nat×Nat->aZO->Prop),PW n p->p.Perm p0->m+f=n->q+1<=m->Wdn lt p m->Weq lt p (m-(q+1)) m->J s->(∀p' m' q' s',PW n p'->p'.Perm p0->q'+1<=m'->1<=m'->m'<=n->Wdn lt p' m'->Weq lt p' (m'-(q'+1)) m'->J s'->Q (p',m',q') s')->(kas_desc f p m q).kasWp cmp Q s
 |0,m,q,p,s,Q,pp,pe,e,h1,u,we,hJ,k=>k p m q s pp pe h1 (by omega) (by omega) u we hJ
 |f+1,m,q,p,s,Q,pp,pe,e,h1,u,we,hJ,k=>by
  unfold kas_desc;refine hc _ _ s _ (pp.below m) (pp.below (m-1)) hJ λs' hJ'=>?_;have sz:=pp.size;cases ec:lt (p.getD m 0) (p.getD (m-1) 0)with
  |true =>
   have e1:=O.asy ec;have one:∀(r:Array Nat),Weq lt r (m+1-(0+1)) (m+1):=λr i j a b c d=>by
    have:i=j:=by omega
    subst this;exact O.irr _
   dsimp only;rw[if_pos rfl];by_cases hq:q > 0
   . rw[if_pos hq];obtain⟨pp2,pe2⟩:=o4 pp (m-(q+1)) m;refine o5 O hc p0 f (m+1) 0 _ s' Q pp2 (pe2.trans pe) (by omega) (by omega) ?_ (one _) hJ' k
     refine(u.turn (by omega) we).more O (by omega) ?_
     rw[iH _ _ (by omega),iH _ _ (by omega),if_pos ⟨by omega,by omega⟩,if_neg (by omega)]
     exact O.ntr (we _ (m-1) (by omega) (by omega) (by omega) (by omega)) e1
   . rw[if_neg hq];exact o5 O hc p0 f (m+1) 0 p s' Q pp pe (by omega) (by omega) (u.more O (by omega) e1) (one _) hJ' k
  |false =>
   dsimp only;rw[if_neg aT5];refine hc _ _ s' _ (pp.below (m-1)) (pp.below m) hJ' λs2 hJ2=>?_;cases ed:lt (p.getD (m-1) 0) (p.getD m 0)with
   |true=>dsimp only;rw[if_pos rfl];exact k p m q s2 pp pe h1 (by omega) (by omega) u we hJ2
   |false =>
    dsimp only;rw[if_neg aT5];refine o5 O hc p0 f (m+1) (q+1) p s2 Q pp pe (by omega) (by omega) (u.more O (by omega) ed) (λi j a b c d=>?_) hJ2 k
    by_cases hi:i<m
    . by_cases hj:j<m
      . exact we i j (by omega) hi (by omega) hj
      . have:j=m:=by omega
        subst this;exact O.ntr (we i (j-1) (by omega) hi (by omega) (by omega)) ed
    . have:i=m:=by omega
      subst this;by_cases hj:j<i
      . exact O.ntr ec (we (i-1) j (by omega) (by omega) (by omega) hj)
      . have:j=i:=by omega
        subst this;exact O.irr _
def zB(O:WkO lt)(hc:gR n lt cmp J){p:Array Nat}(pp:PW n p){m:Nat}(h1:1<=m)(hm:m<=n)(d:Wdn lt p m){Q:Nat×Array Nat->aZO->Prop}(hJ:J s)(q:∀m' p' s',1<=m'->m'<=n->PW n p'->p'.Perm p->Wup lt p' m'->J s'->Q (m',p') s'):(kas_tail3 m n p).kasWp cmp Q s:=by
 unfold kas_tail3;rw[KasT.kasWp_bind];obtain⟨pp2,pe2⟩:=o4 pp 0 m;have sz:=pp.size;refine sR O hc pp2 (n-m) m s _ (by omega) h1 (λi j hij hj=>?_) hJ λm2 s3 a2 b2 u2 _ hJ3=>q m2 _ s3 (by omega) b2 pp2 pe2 u2 hJ3
 rw[iH _ _ (by omega),iH _ _ (by omega),if_pos ⟨by omega,by omega⟩,if_pos ⟨by omega,by omega⟩]
 exact d _ _ (by omega) (by omega)
def zC(O:WkO lt)(hc:gR n lt cmp J){p:Array Nat}(pp:PW n p){m:Nat}(hm:m<n)(d:Wdn lt p (m+1)){Q:Nat×Array Nat->aZO->Prop}(hJ:J s)(q:∀m' p' s',1<=m'->m'<=n->PW n p'->p'.Perm p->Wup lt p' m'->J s'->Q (m',p') s'):(kas_descPart m n p).kasWp cmp Q s:=by
 unfold kas_descPart;rw[KasT.kasWp_bind];refine o5 O hc p (n-(m+1)) (m+1) 0 p s _ pp (aYT _) (by omega) (by omega) d (λi j a b c d=>?_) hJ λp' m' q' s' pp' pe' h1 h2 h3 d' e' hJ'=>?_
 . have:i=j:=by omega
   subst this;exact O.irr _
 . dsimp only;have sz:=pp'.size;by_cases hq:q' > 0
   . rw[if_pos hq];obtain⟨pp2,pe2⟩:=o4 pp' (m'-(q'+1)) m';exact zB O hc pp2 h2 h3 (d'.turn (by omega) e') hJ' λm2 p2 s2 x1 x2 x3 x4 x5 x6=>q m2 p2 s2 x1 x2 x3 ((x4.trans pe2).trans pe') x5 x6
   . rw[if_neg hq];exact zB O hc pp' h2 h3 d' hJ' λm2 p2 s2 x1 x2 x3 x4 x5 x6=>q m2 p2 s2 x1 x2 x3 (x4.trans pe') x5 x6
def aMM(O:WkO lt)(hc:gR n lt cmp J)(hn:2<=n){p:Array Nat}(pp:PW n p){Q:Nat×Array Nat->aZO->Prop}(hJ:J s)(q:∀m' p' s',1<=m'->m'<=n->PW n p'->p'.Perm p->Wup lt p' m'->J s'->Q (m',p') s'):(kas_count n p).kasWp cmp Q s:=by
 unfold kas_count;rw[KasT.kasWp_bind];have sz:=pp.size;refine sR O hc pp (n-1) 1 s _ (by omega) (aUA _) (λi j h1 h2=>by omega) hJ λm s1 a b u d hJ1=>?_
 by_cases em:m=n
 . rw[if_pos (by simpa using em)]
   exact q m p s1 a b pp (aYT _) u hJ1
 . rw[if_neg (by simpa using em)]
   have dm:=O.asy (d (by omega))
   by_cases h1:m > 1
   . rw[if_pos h1];refine hc _ _ s1 _ (pp.below 0) (pp.below (m-1)) hJ1 λs2 hJ2=>?_;cases ec:lt (p.getD 0 0) (p.getD (m-1) 0)with
     |true=>dsimp only;rw[if_pos rfl];exact q m p s2 a b pp (aYT _) u hJ2
     |false =>
      dsimp only;rw[if_neg aT5];obtain⟨pp2,pe2⟩:=o4 pp 0 m;have ge:∀i,i<m->lt (p.getD i 0) (p.getD 0 0)=false:=λi hi=>by
       by_cases h0:i=0
       . rw[h0];exact O.irr _
       . exact u 0 i (by omega) hi
      have le:∀i,i<m->lt (p.getD (m-1) 0) (p.getD i 0)=false:=λi hi=>by
       by_cases h0:i=m-1
       . rw[h0];exact O.irr _
       . exact u i (m-1) (by omega) (by omega)
      have all:Weq lt p 0 m:=λi j _ hi _ hj=>O.ntr (O.ntr (ge i hi) ec) (le j hj);refine zC O hc pp2 (by omega) (Wdn.more O (Wdn.turn (by omega) (λi j hij hj=>all i j (by omega) (by omega) (by omega) hj) all) (by omega) ?_) hJ2 λm2 p2 s3 x1 x2 x3 x4 x5 x6=>q m2 p2 s3 x1 x2 x3 (x4.trans pe2) x5 x6
      rw[iH _ _ (by omega),iH _ _ (by omega),if_pos ⟨by omega,by omega⟩,if_neg (by omega)]
      exact O.ntr (all _ (m-1) (by omega) (by omega) (by omega) (by omega)) dm
   . rw[if_neg h1];have e1:m=1:=by omega
     subst e1
     exact zC O hc pp (by omega) (λi j hij hj=>by
      have:i=0/\j=1:=by omega
      rw[this.1,this.2];exact dm) hJ1 q
theorem sS(O:WkO lt)(hc:gR n lt cmp J){p:Array Nat}(pp:PW n p){k:Nat}(hk:k<n)(u:Wup lt p k):∀(f l r:Nat) (s:aZO) (Q:Nat->aZO->Prop),l<=r->r<=k->r-l<=f->J s->(∀i,i<l->lt (p.getD k 0) (p.getD i 0)=false)->(∀i,r<=i->i<k->lt (p.getD i 0) (p.getD k 0)=false)->(∀l' s',l'<=k->(∀i,i<l'->lt (p.getD k 0) (p.getD i 0)=false)->(∀i,l'<=i->i<k->lt (p.getD i 0) (p.getD k 0)=false)->J s'->Q l' s')->(kas_place p k f l r).kasWp cmp Q s
 |0,l,r,s,Q,h1,h2,h3,hJ,a,b,q=>q l s (by omega) a (λi hi=>b i (by omega)) hJ
 |f+1,l,r,s,Q,h1,h2,h3,hJ,a,b,q=>by
  unfold kas_place;by_cases hlr:l ≥ r
  . rw[if_pos hlr];exact q l s (by omega) a (λi hi=>b i (by omega)) hJ
  . rw[if_neg hlr];refine hc _ _ s _ (pp.below k) (pp.below ((l+r) / 2)) hJ λs' hJ'=>?_;cases ec:lt (p.getD k 0) (p.getD ((l+r) / 2) 0)with
    |true =>
     refine sS O hc pp hk u f l ((l+r) / 2) s' Q (by omega) (by omega) (by omega) hJ' a (λi h4 h5=>?_) q
     by_cases e:i=(l+r) / 2
     . rw[e];exact O.asy ec
     . exact O.ntr (u _ i (by omega) h5) (O.asy ec)
    |false =>
     refine sS O hc pp hk u f ((l+r) / 2+1) r s' Q (by omega) h2 (by omega) hJ' (λi h4=>?_) b q
     by_cases e:i=(l+r) / 2
     . rw[e];exact ec
     . exact O.ntr ec (u i _ (by omega) (by omega))
theorem zD(O:WkO lt)(hc:gR n lt cmp J):∀(f k:Nat) (p:Array Nat) (s:aZO) (Q:Array Nat->aZO->Prop),k+f=n->PW n p->Wup lt p k->J s->(∀p' s',PW n p'->p'.Perm p->Wup lt p' n->J s'->Q p' s')->(kas_bin f p k).kasWp cmp Q s
 |0,k,p,s,Q,e,pp,u,hJ,q=>by
  have:k=n:=by omega
  subst this;exact q p s pp (aYT _) u hJ
 |f+1,k,p,s,Q,e,pp,u,hJ,q=>by
  unfold kas_bin;rw[KasT.kasWp_bind];refine sS O hc pp (by omega) u k 0 k s _ (aUP _) (aUA _) (by omega) hJ (λi h=>by omega) (λi h1 h2=>by omega) λl s1 hl a b hJ1=>?_
  have pe:(bubble p k (k-l)).Perm p:=bubble_perm _ _ _;have g:=getElem?_bubble (xs:=p) (src:=k) (by rw[pp.size];omega) (k-l) (by omega)
  refine zD O hc f (k+1) _ s1 Q (by omega) (pp.perm pe) (λi j hij hj=>?_) hJ1 λp' s2 x y z w=>q p' s2 x (y.trans pe) z w
  have el:k-(k-l)=l:=by omega
  rw[el]at g;have gd:∀i,(bubble p k (k-l)).getD i 0=if i=l then p.getD k 0 else if l<i/\i<=k then p.getD (i-1) 0 else p.getD i 0:=λi=>by
   simp only[aX5];rw[g i];split
   . rfl
   . split <;> rfl
  rw[gd i,gd j];by_cases h1:i<l
  . rw[if_neg (show ¬ i=l by omega),if_neg (show ¬ (l<i/\i<=k) by omega)]
    by_cases h2:j=l
    . rw[if_pos h2];exact a i h1
    . rw[if_neg h2];split
      . exact u i (j-1) (by omega) (by omega)
      . exact u i j hij (by omega)
  . by_cases h2:i=l
    . rw[if_pos h2,if_neg (show ¬ j=l by omega),if_pos (show l<j/\j<=k by omega)]
      exact b (j-1) (by omega) (by omega)
    . rw[if_neg h2,if_pos (show l<i/\i<=k by omega),if_neg (show ¬ j=l by omega),if_pos (show l<j/\j<=k by omega)]
      exact u (i-1) (j-1) (by omega) (by omega)
def aMN(O:WkO lt)(hc:gR n lt cmp J)(hn:2<=n){Q:Array Nat->aZO->Prop}(hJ:J s)(q:∀p s',PW n p->p.Perm (List.toArray (List.range n))->Wup lt p n->J s'->Q p s'):(kas_sort n).kasWp cmp Q s:=by
 unfold kas_sort;rw[KasT.kasWp_bind];have pp:PW n (List.toArray (List.range n)):=by
  refine⟨by simp,λk=>?_⟩
  simp only[aX5,aXM,aWP];by_cases hk:k<n
  . simp[hk]
  . simp[hk];omega
 refine aMM O hc hn pp hJ λm p s1 a b pp' pe u hJ1=>?_;by_cases h:m<n
 . rw[if_pos h];have em:max m 1=m:=by omega
   rw[em];exact zD O hc (n-m) m p s1 Q (by omega) pp' u hJ1 λp' s2 x y z w=>q p' s2 x (y.trans pe) z w
 . rw[if_neg h];have em:m=n:=by omega
   subst em;exact q p s1 pp' pe u hJ1
end
def gU:Nat:=64
def zE:gU<=1000000:=by decide
def zF:64<=gU:=aUA _
section
variable {A:aZP}{E:VSP}{κ:SortKind}{ks:List aZN}{lt:Nat->Nat->Bool}
def aMO(O:WkO lt)(hl:ks.length=vs.length)(h1:2<=vs.length)(hb:vs.length<gU)(ask:∀i j (C:Bool->aZO->Prop),i<vs.length->j<vs.length->C (lt i j) s->wpAny (model prog w) A (keyLt' κ (ks.getD i .none) (ks.getD j .none)) C (λ_ _=>False) s){Q:SortSt->aZO->Prop}(q:∀p st',PW vs.length p->p.Perm (List.toArray (List.range vs.length))->Wup lt p vs.length->arrOf st'=p.map (kas_item (ks.toArray.zip vs.toArray))->failedOf st'=none->Q st' s):wpAny (model prog w) A ((sortRuns').run (SortSt.mk' κ (ks.toArray.zip vs.toArray) #[] 7 none)) (λr s'=>Q r.2 s') E s:=by
 have a:gR vs.length lt (kas_ask prog w A κ ks) (λs2=>s2=s):=λi j s2 C hi hj hJ q=>by subst hJ;unfold kas_ask;exact ask i j _ hi hj (q _ rfl)
 exact kat_run (G:=λp s2=>s2=s/\PW vs.length p/\p.Perm (List.toArray (List.range vs.length))/\Wup lt p vs.length) hl h1 hb (λp st' s2 a1 a2 a3 a4=>by
  obtain⟨rfl,b1,b2,b3⟩:=a4;exact q p st' b1 b2 b3 a2 a3) (aMN O a h1 rfl λp s2 b1 b2 b3 b4=>⟨b4,b1,b2,b3⟩)
end
mutual
def ltN:N->N->Bool
 |.i n,.i m=>decide (n<m)
 |.i _,.s _=>true
 |.i _,.t _=>true
 |.s _,.i _=>false
 |.s x,.s y=>lts x y
 |.s _,.t _=>true
 |.t _,.i _=>false
 |.t _,.s _=>false
 |.t xs,.t ys=>bO xs ys
def bO:List N->List N->Bool
 |[],[]=>false
 |[],_::_=>true
 |_::_,[]=>false
 |x::xs,y::ys=>if x=y then bO xs ys else ltN x y
end
mutual
def okN:N->N->Bool
 |.i _,.i _=>true
 |.s _,.s _=>true
 |.t xs,.t ys=>eH xs ys
 |.i _,.s _=>false
 |.i _,.t _=>false
 |.s _,.i _=>false
 |.s _,.t _=>false
 |.t _,.i _=>false
 |.t _,.s _=>false
def eH:List N->List N->Bool
 |[],_=>true
 |_::_,[]=>true
 |x::xs,y::ys=>if x=y then eH xs ys else okN x y
end
theorem zG:∀(xs:List N),bO xs xs=false
 |[]=>by rw[bO]
 |x::xs=>by rw[bO,if_pos rfl,zG xs]
def o7(k:N):ltN k k=false:=by
 cases k with
 |i n=>rw[ltN];simp
 |s x=>rw[ltN];exact iC x
 |t xs=>rw[ltN];exact zG xs
theorem zH:∀{xs ys:List N},(∀x∈xs,∀y,ltN x y=false->ltN y x=false->x=y)->bO xs ys=false->bO ys xs=false->xs=ys
 |[],[],_,_,_=>rfl
 |[],_::_,_,h,_=>by rw[bO]at h;cases h
 |_::_,[],_,_,h=>by rw[bO]at h;cases h
 |x::xs,y::ys,k,h1,h2=>by
  rw[bO]at h1 h2;by_cases e:x=y
  . subst e;rw[if_pos rfl]at h1 h2;rw[zH (λz hz=>k z (mcm hz)) h1 h2]
  . rw[if_neg e]at h1;rw[if_neg (λz=>e z.symm)]at h2;exact absurd (k x mcs y h1 h2) e
def zI(k:N):∀y,ltN k y=false->ltN y k=false->k=y:=by
 induction k using N.ind with
 |hi n =>
  intro y h1 h2;cases y with
  |i m =>
   rw[ltN]at h1 h2;have:n=m:=by have a1:=of_decide_eq_false h1;have a2:=of_decide_eq_false h2;omega
   rw[this]
  |s x=>rw[ltN]at h1;cases h1
  |t xs=>rw[ltN]at h1;cases h1
 |hs x =>
  intro y h1 h2;cases y with
  |i m=>rw[ltN]at h2;cases h2
  |s z=>rw[ltN]at h1 h2;rw[kG h1 h2]
  |t xs=>rw[ltN]at h1;cases h1
 |ht xs ih =>
  intro y h1 h2;cases y with
  |i m=>rw[ltN]at h2;cases h2
  |s z=>rw[ltN]at h2;cases h2
  |t ys=>rw[ltN]at h1 h2;rw[zH ih h1 h2]
theorem zJ:∀{xs ys zs:List N},(∀x∈xs,∀y z,ltN x y=true->ltN y z=true->ltN x z=true)->bO xs ys=true->bO ys zs=true->bO xs zs=true
 |[],[],_,_,h,_=>by rw[bO]at h;cases h
 |[],_::_,[],_,_,h=>by rw[bO]at h;cases h
 |[],_::_,_::_,_,_,_=>by rw[bO]
 |_::_,[],_,_,h,_=>by rw[bO]at h;cases h
 |_::_,_::_,[],_,_,h=>by rw[bO]at h;cases h
 |x::xs,y::ys,z::zs,k,h1,h2=>by
  rw[bO]at h1 h2 ⊢;by_cases e1:x=y
  . subst e1;rw[if_pos rfl]at h1;by_cases e2:x=z
    . rw[if_pos e2]at h2 ⊢;exact zJ (λz hz=>k z (mcm hz)) h1 h2
    . rw[if_neg e2]at h2 ⊢;exact h2
  . rw[if_neg e1]at h1;by_cases e2:y=z
    . subst e2;rw[if_neg e1];exact h1
    . rw[if_neg e2]at h2;have h3:=k x mcs y z h1 h2;by_cases e3:x=z
      . rw[<- e3]at h2;have:=k x mcs y x h1 h2;rw[o7]at this;cases this
      . rw[if_neg e3];exact h3
def zK(k:N):∀y z,ltN k y=true->ltN y z=true->ltN k z=true:=by
 induction k using N.ind with
 |hi n =>
  intro y z h1 h2;cases z with
  |i l =>
   cases y with
   |i m=>rw[ltN]at h1 h2 ⊢;have a1:=aWA h1;have a2:=aWA h2;exact aVV (by omega)
   |s x=>rw[ltN]at h2;cases h2
   |t xs=>rw[ltN]at h2;cases h2
  |s x=>rw[ltN]
  |t xs=>rw[ltN]
 |hs x =>
  intro y z h1 h2;cases y with
  |i m=>rw[ltN]at h1;cases h1
  |s x2 =>
   cases z with
   |i l=>rw[ltN]at h2;cases h2
   |s x3=>rw[ltN]at h1 h2 ⊢;exact mJ h1 h2
   |t xs=>rw[ltN]
  |t xs =>
   cases z with
   |i l=>rw[ltN]at h2;cases h2
   |s x3=>rw[ltN]at h2;cases h2
   |t xs=>rw[ltN]
 |ht xs ih =>
  intro y z h1 h2;cases y with
  |i m=>rw[ltN]at h1;cases h1
  |s x2=>rw[ltN]at h1;cases h1
  |t ys =>
   cases z with
   |i l=>rw[ltN]at h2;cases h2
   |s x3=>rw[ltN]at h2;cases h2
   |t zs=>rw[ltN]at h1 h2 ⊢;exact zJ ih h1 h2
def zL{a b:N}(h:ltN a b=true):ltN b a=false:=by
 cases e:ltN b a with
 |false=>rfl
 |true=>have:=zK a b a h e;rw[o7]at this;cases this
def sU{a b c:N}(h1:ltN a b=false)(h2:ltN b c=false):ltN a c=false:=by
 cases e:ltN a c with
 |false=>rfl
 |true =>
  cases e1:ltN b a with
  |true=>have:=zK b a c e1 e;rw[h2]at this;cases this
  |false=>have:=zI a b h1 e1;subst this;rw[e]at h2;cases h2
def aMP{A:aZP}{x y:N}{v:aZN}(hu:A.units+x.dp<cLine)(hx:IsN s.heap x u)(hy:IsN s.heap y v):SeqAt.EqAt A s u v (decide (x=y)):=by
 obtain⟨⟨as,ra⟩,ca⟩:=IsN.reads x u hx;obtain⟨⟨bs,rb⟩,cb⟩:=IsN.reads y v hy;have:=SeqAt.eqAt_reads x.py y.py A s u v as bs ra rb ca cb (by rw[N.py_depth];have:=aV3 x.dp y.py.depth;omega)
 rw[N.py_eqv]at this;exact this
theorem sV{A:aZP}:∀{xs ys:List N}{us vs:List aZN},(∀x∈xs,∀(y:N) (u v:aZN),IsN s.heap x u->IsN s.heap y v->okN x y=true->∀(prog:aZR) (w':aZQ) (E:VSP) (Q:VSP),Q (.bool (ltN x y)) s->wpAny (model prog w') A (compareOp .Lt u v) Q E s)->A.units+N.dpL xs<cLine->aY s.heap xs us->aY s.heap ys vs->eH xs ys=true->LtI A s us vs (bO xs ys)
 |[],[],us,vs,_,_,h1,h2,_=>by rw[aY]at h1 h2;subst h1;subst h2;rw[bO];exact .nn
 |[],y::ys,us,vs,_,_,h1,h2,_=>by rw[aY]at h1;rw[aY]at h2;subst h1;obtain⟨v,ws,rfl,_⟩:=h2;rw[bO];exact .nc
 |x::xs,[],us,vs,_,_,h1,h2,_=>by rw[aY]at h1;rw[aY]at h2;subst h2;obtain⟨v,ws,rfl,_⟩:=h1;rw[bO];exact .cn
 |x::xs,y::ys,us,vs,k,hu,h1,h2,ok=>by
  rw[aY]at h1 h2;obtain⟨u,us,rfl,p1,p2⟩:=h1;obtain⟨v,vs,rfl,q1,q2⟩:=h2;rw[N.dpL]at hu;rw[eH]at ok;have e:=aMP (A:=A) (by omega) p1 q1
  rw[bO];by_cases exy:x=y
  . rw[aVV exy]at e;rw[if_pos exy]at ok ⊢;exact .eq e (sV (λz hz=>k z (mcm hz)) (by omega) p2 q2 ok)
  . rw[aTF exy]at e;rw[if_neg exy]at ok ⊢;exact .ne e λprog w' E Q q=>k x mcs y u v p1 q1 ok prog w' E Q q
def n_lt(k:N):∀{A:aZP}{E:VSP}{y:N}{u v:aZN}{Q:VSP}{prog:aZR}{w:aZQ},A.units+k.dp+1<cLine->IsN s.heap k u->IsN s.heap y v->okN k y=true->Q (.bool (ltN k y)) s->wpAny (model prog w) A (compareOp .Lt u v) Q E s:=by
 induction k using N.ind with
 |hi n =>
  intro A E y u v Q prog w hu h1 h2 ok q;cases y with
  |i m=>rw[IsN]at h1 h2;obtain⟨t,rfl⟩:=h1;obtain⟨t',rfl⟩:=h2;rw[ltN]at q;exact lt_int q
  |s x=>rw[okN]at ok;cases ok
  |t xs=>rw[okN]at ok;cases ok
 |hs x =>
  intro A E y u v Q prog w hu h1 h2 ok q;cases y with
  |s z=>rw[IsN]at h1 h2;obtain⟨⟨t,rfl⟩,_⟩:=h1;obtain⟨⟨t',rfl⟩,_⟩:=h2;rw[ltN]at q;unfold lts at q;rw[ltCps_eq]at q;exact lt_str q
  |i m=>rw[okN]at ok;cases ok
  |t xs=>rw[okN]at ok;cases ok
 |ht xs ih =>
  intro A E y u v Q prog w hu h1 h2 ok q;cases y with
  |i m=>rw[okN]at ok;cases ok
  |s x=>rw[okN]at ok;cases ok
  |t ys=>rw[IsN]at h1 h2;obtain⟨a,o,its,n,rfl,g1,c1,d1,l1⟩:=h1;obtain⟨b,o',its',n',rfl,g2,c2,d2,l2⟩:=h2;rw[ltN]at q;rw[okN]at ok;rw[N.dp]at hu;exact xJ ⟨o,g1,c1,n,d1⟩ ⟨o',g2,c2,n',d2⟩ (sV (A:=A.in1) (λx hx y u v p1 p2 ok prog w' E Q q=>ih x hx (by have:=N.dp_mem hx;show A.units+1+_+1<_;omega) p1 p2 ok q) (by show A.units+1+_<_;omega) l1 l2 ok) (by omega) q
section
variable {A:aZP}{E:VSP}
def zM{Q:List aZN->aZO->Prop}(hl:IsTup s.heap l vs.toArray)(hz:vs.length<=sizeLine)(h:Q vs { s with heap:=(s.heap.push (seqObj "list" #[] 0)).update s.heap.objs.size (Obj.mapSeq (·++vs.toArray)) }):wpAny (model prog w) A (collect (.ref l)) Q E s:=by
 obtain⟨o,ho,hc,n,hd⟩:=id hl;have g0:=Heap.get?_push_of_some (seqObj "list" #[] 0) ho;have g1:(s.heap.push (seqObj "list" #[] 0)).get? s.heap.objs.size=some (seqObj "list" #[] 0):=aTI _ rfl;unfold collect;refine aT8 (wpAny_runValue (aXU entry_proto_collect' ?_));show wpAny _ _ (do let l' <- newList [];again (.builtin "list.__iadd__" ⟨[l',.ref l],[]⟩)) _ _ s
 refine aT8 (aYM (aT7 ⟨Code.quiet_builtin _ (by decide +kernel),aXU entry_list_iadd' ?_⟩))
 show wpAny (model prog w) _ (Builtin.List.listExtendWith (.ref s.heap.objs.size) (.ref l) (.ref s.heap.objs.size)) _ _ _;unfold Builtin.List.listExtendWith;refine aT8 (aVK (T := "tuple") (s:={ s with heap:=s.heap.push (seqObj "list" #[] 0) }) ⟨o,g0,hc⟩ ?_)
 rw[if_pos (by rw[show(Value.type "tuple" == Value.type "tuple")=true from rfl,Bool.or_true])]
 refine aT8 (listItems_at (s:={ s with heap:=s.heap.push (seqObj "list" #[] 0) }) g0 hd (aT8 (listItems_at (xs:=#[]) (n:=0) g1 rfl ?_)))
 rw[if_neg (by simp)]
 refine aT8 (aYU (xs:=#[]) (n:=0) g1 rfl (aT7 ?_) (aUP _) (by show(#[]++vs.toArray).size<=sizeLine+1;simp only[Array.size_append,aUG,aW9];omega))
 show wpAny (model prog w) A (do match(<- load s.heap.objs.size).data with|.seq xs _=>pure xs.toList|_=>unsupported "internal:collect") Q E _
 refine aT8 (wpAny_load (aYV g1 _) ?_);show wpAny _ A (pure ((#[]:Array aZN)++vs.toArray).toList) Q E _;rw[show((#[]:Array aZN)++vs.toArray).toList=vs by simp]
 exact aT7 h
end
theorem iI:∀(ks:List N),nDL ks=ks.map nD
 |[]=>by rw[nDL];rfl
 |k::ks=>by rw[nDL,iI ks];rfl
def jJ(l:List Str):Prop:=l.Pairwise λx y=>lts y x=false
def kL(x:Str):List Str->List Str
 |[]=>[x]
 |y::l=>if lts y x=true then y::kL x l else x::y::l
def bF(l:List Str):List Str:=l.foldr kL []
def aMQ{x:Str}(h:lts x y=true):lts y x=false:=by
 cases e:lts y x with
 |false=>rfl
 |true=>have:=mJ h e;rw[iC]at this;cases this
def aMR{a b c:Str}(h1:lts a b=false)(h2:lts b c=false):lts a c=false:=by
 have:=sU (a:=.s a) (b:=.s b) (c:=.s c) (by rw[ltN];exact h1) (by rw[ltN];exact h2)
 rw[ltN]at this;exact this
theorem sW(x:Str):∀(l:List Str),(kL x l).Perm (x::l)
 |[]=>aYW _
 |y::l=>by
  unfold kL;split
  . exact((sW x l).cons y).trans (List.Perm.swap x y l)
  . exact aYW _
theorem kM:∀(l:List Str),(bF l).Perm l
 |[]=>aYW _
 |x::l=>(sW x (bF l)).trans ((kM l).cons x)
theorem zN{x:Str}:∀{l:List Str},jJ l->jJ (kL x l)
 |[],_=>aYP _ _
 |y::l,h=>by
  unfold kL;split
  . rename_i e;refine aYO.mpr ⟨λz hz=>?_,zN (aYO.mp h).2⟩;rcases aTT.mp ((sW x l).mem_iff.mp hz)with rfl|hz
    . exact aMQ e
    . exact(aYO.mp h).1 z hz
  . rename_i e;have e:lts y x=false:=by simpa using e
    refine aYO.mpr ⟨λz hz=>?_,h⟩;rcases aTT.mp hz with rfl|hz
    . exact e
    . exact aMR ((aYO.mp h).1 z hz) e
theorem sX:∀(l:List Str),jJ (bF l)
 |[]=>List.Pairwise.nil
 |x::l=>zN (sX l)
theorem zO:∀{l l':List Str},jJ l->jJ l'->l.Perm l'->l=l'
 |[],l',_,_,p=>p.symm.eq_nil.symm
 |x::l,[],_,_,p=>p.eq_nil
 |x::l,y::l',h,h',p=>by
  have h1:=aYO.mp h;have h2:=aYO.mp h';have exy:x=y:=by
   have a:lts y x=false:=by
    rcases aTT.mp (p.mem_iff.mpr mcs)with e|e
    . rw[e];exact iC _
    . exact h1.1 y e
   have b:lts x y=false:=by
    rcases aTT.mp (p.mem_iff.mp mcs)with e|e
    . rw[e];exact iC _
    . exact h2.1 x e
   exact kG b a
  subst exy;rw[zO h1.2 h2.2 p.cons_inv]
def aMS{l l':List Str}(h:jJ l')(p:l'.Perm l):l'=bF l:=zO h (sX l) (p.trans (kM l).symm)
theorem zP:∀{l:List Str},sortedS l=true->jJ l
 |[],_=>.nil
 |x::l,h=>by
  refine aYO.mpr ⟨λy hy=>r8 (show risingS x l=true from h) y hy,zP ?_⟩
  cases l with
  |nil=>rfl
  |cons y l=>have h:(!lts y x&&risingS y l)=true:=h;rw[aVL]at h;exact h.2
section
variable {A:aZP}{E:VSP}
def aMT{ns:List Str}{Q:VSP}(hl:s.heap.IsList l vs.toArray\/IsTup s.heap l vs.toArray)(sa:StrsAre vs ns)(h64:vs.length<64)(h:∀(out:Array aZN) ys,StrsAre out.toList ys->ys.Perm ns->sortedS ys=true->Q (.ref (s.heap.objs.size+1)) {s with heap:=sortedAll s.heap vs out}):wpAny (model prog w) A (call (.builtin "sorted") [.ref l]) Q E s:=by
 refine Calls.call_function_entry kind_sorted plain_sorted entry_sorted (args_sorted1 (.ref l)) ?_;unfold Builtin.«sorted»;have col:∀{R:List aZN->aZO->Prop}{E':VSP},R vs { s with heap:=(s.heap.push (seqObj "list" #[] 0)).update s.heap.objs.size (Obj.mapSeq (·++vs.toArray)) } -> wpAny (model prog w) A.in1 (collect (.ref l)) R E' s:=λ{R E'} r=>by
  rcases hl with hl|hl
  . exact collect_list hl r (by rw[aUF];omega)
  . exact zM hl (by rw[aUF];omega) r
 refine aT8 (m:=checkCount "sorted" 1 1 [Value.ref l].length) (aT7 (aT8 (col (aT8 (aYM ?_ (by rw[aUF];omega))))))
 have z1:((s.heap.push (seqObj "list" #[] 0)).update s.heap.objs.size (Obj.mapSeq (·++vs.toArray))).objs.size=s.heap.objs.size+1:=(aYX ..).trans (aYJ ..);have g1:(((s.heap.push (seqObj "list" #[] 0)).update s.heap.objs.size (Obj.mapSeq (·++vs.toArray))).push (seqObj "list" vs.toArray 0)).get? (s.heap.objs.size+1)=some (seqObj "list" vs.toArray 0):=z1 ▸ aTI _ rfl;show wpAny _ _ _ _ _ { s with heap:=((s.heap.push (seqObj "list" #[] 0)).update s.heap.objs.size (Obj.mapSeq (·++vs.toArray))).push (seqObj "list" vs.toArray 0) }
 rw[z1];refine aT8 (aVG (aVJ slot_list_sort ⟨_,g1,rfl⟩ entry_list_sort (list_sort_treeK strKind_oneLt (s:={ s with heap:=((s.heap.push (seqObj "list" #[] 0)).update s.heap.objs.size (Obj.mapSeq (·++vs.toArray))).push (seqObj "list" vs.toArray 0) }) g1 sa.keysOf (λv1 v2 r e=>keyKind_strs (by rw[<- e];exact sa)) h64 λst' p1 p2=>⟨_,rfl,?_⟩) (args_list_sort _)))
 obtain⟨zs,y1,y2,y3⟩:=sorted_out_str sa p1 p2;exact aT7 ⟨_,rfl,h _ zs y1 y2 y3⟩
end
def zQ{p:Addr}{vs:List V}(I:L2.Inv X aA σ H s)(h:SqL X.K H p vs\/SqT X.K H p vs):∃its:List aZN,aJ vs its/\(s.heap.IsList p its.toArray\/IsTup s.heap p its.toArray):=by
 rcases h with h|h
 . obtain⟨its,rv,pl,_⟩:=I.list h;exact⟨its,rv,.inl pl.isList⟩
 . obtain⟨its,rv,pl,_⟩:=SqT.plain I h;exact⟨its,rv,.inr pl.isTup⟩
def rSrtS(K:Fg):List V->Hp->VK->Prop:=λxs H Q=>∃(p:Addr) (ns:List Str),xs=[.ref p]/\(SqL K H p (ns.map V.str)\/SqT K H p (ns.map V.str))/\ns.length<64/\∀l,H l=none->Q (.ref l) (upd H l (.lst ((bF ns).map V.str)))
def aMU:eK X (.builtin "sorted") (rSrtS X.K):=by
 intro aA s σ H xs us Q I r h;obtain⟨p,ns,rfl,hp,hz,q⟩:=h;obtain⟨u,rfl,rx⟩:=dX r;cases rx;obtain⟨its,rv,pl⟩:=zQ I hp;have sa:=rE rv;have lz:its.length=ns.length:=sa.length;refine aMT pl sa (by rw[lz];exact hz) λout ys oa py so=>?_
 obtain⟨e,he⟩:=sortedAll_at s.heap its out;have e1:ys=bF ns:=aMS (zP so) py;have le:((bF ns).map V.str).length<=sizeLine:=by rw[aUL,<- e1,py.length_eq,aUF];omega
 exact⟨.ref (s.heap.objs.size+1),_,I.laid (t':=s.toks) (λb o e=>sortedAll_old e) (aW3 _) (show bM X.prog X.w _ _ _ (.lst ((bF ns).map V.str))from⟨le,out.toList,e,by rw[<- e1];exact sD oa,by simpa using he⟩),rfl,q _ (I.hok.fresh (aW3 _))⟩
def seqD:D->Option (List D)
 |.lst ds=>some ds
 |.tup ds=>some ds
 |_=>none
def iJ:List (Md×D)->Option (Md×D)
 |[(_,d)]=>match seqD d with
  |some ds=>match txD ds with
   |some ns=>if ns.length<64 then some (.fr,.lst ((bF ns).map .str))else none
   |none=>none
  |none=>none
 |_=>none
theorem Rp.seqD{F:Hp}{m:Md}{d:D}(s:aD F H)(e:D3.seqD d=some ds)(r:Rp K F H m d v):∃a xs,v=.ref a/\(SqL K H a xs\/SqT K H a xs)/\aC K F ds xs:=by
 cases d with
 |lst es=>cases e;obtain⟨a,xs,rfl,q,rl⟩:=r.seqL s;exact⟨a,xs,rfl,.inl q,rl⟩
 |tup es=>cases e;obtain⟨a,xs,rfl,q,rl⟩:=r.seqT s;exact⟨a,xs,rfl,.inr q,rl⟩
 |_=>cases e
def aMV(hu:X.A.units+64<cLine):dB X (.builtin "sorted") iJ:=by
 refine⟨_,aMU,λF H xs vs k d Q s rx e w=>?_⟩;unfold iJ at e;split at e
 . rename_i m d0;obtain⟨v,rfl,r⟩:=rx.one;split at e
   . rename_i ds ed;obtain⟨a,xs,rfl,q,rl⟩:=Rp.seqD s ed r;split at e
     . rename_i ns en;split at e
       . rename_i hc;cases e;obtain⟨rfl,k1⟩:=sK en rl;exact⟨a,ns,rfl,q,hc,λl hl=>w (.ref l) F _ (aE.fresh _ s hl) ⟨l,rfl,s.free hl,_,aT,oS λx hx=>k1 x ((kM ns).mem_iff.mp hx)⟩ λ_ a ea=>by cases ea;exact hl⟩
       . cases e
     . cases e
   . cases e
 . cases e
section
variable {A:aZP}{E:VSP}{d:Addr}{o:Obj}{es:Array DictEntry}
def aMW{Q:VSP}(hm:(d==sysModules)=false)(ho:s.heap.get? d=some o)(hc:o.ExactDict)(hd:o.data=.dict es ep)(q:Q (.ref s.heap.objs.size) { s with heap:=s.heap.push { cls:=.type "dict_keyiterator", data:=.fields #[.ref d,.int 0 0,.int es.size 0,.int ep 0] } }):wpAny (model prog w) A (pyIter (.ref d)) Q E s:=by
 have hT:s.TypeIs (.ref d) "dict" := ⟨o,ho,hc.1⟩;refine aYF hT F.slot_dict_iter (aVJ F.slot_dict_iter hT F.entry_dict_iter ?_ (F.args_dict_iter_1 (.ref d)));unfold Builtin.«dict.__iter__» Builtin.Dict.dictSlotNone;refine aT8 (aT8 (wpAny_notOrdered_dict hT (aT7 ?_)));show wpAny (model prog w) _ (Builtin.Dict.showsAll d>>=_) _ _ s;unfold Builtin.Dict.showsAll;rw[if_neg (λz=>by rw[hm]at z;cases z)]
 refine aT8 (aT7 (aT8 (aYY ho hd (aT8 (aYZ ho hd ?_)))));refine aT8 (aVM (aT7 ⟨.ref s.heap.objs.size,rfl,"dict_keyiterator", _,⟨_,aTI _ rfl,rfl⟩,F.slot_dict_keyiterator_next.lookup,?_⟩));simpa[rawInt]using q
def aMX{e:DictEntry}{Q:Option aZN->aZO->Prop}(hit:s.heap.IsKeyIter it d i es.size ep)(ho:s.heap.get? d=some o)(hd:o.data=.dict es ep)(he:es[i]? = some e)(q:∀h',h'.IsKeyIter it d (i+1) es.size ep->Heap.SameBut it s.heap h'->Q (some e.key) {s with heap:=h'}):wpAny (model prog w) A (pyNext (.ref it)) Q E s:=by
 obtain⟨io,hio,hic,hid⟩:=id hit;obtain⟨hlt,rfl⟩:=aTP.mp he;unfold pyNext;refine aT8 (aXN (aVH (name:=Str.ofString "__next__") hit.typeIs aY0 (aVJ aY0 hit.typeIs aY1 ?_ (aY2 (.ref it)))));refine aT8 (aT7 (aT8 (aT8 ?_)))
 first|refine aT8 (aY3 hit.typeIs (aT7 (aT8 (aYG hio hid ?_))))|refine aT8 (aY4 hit.typeIs (aT7 (aT8 (aYG hio hid ?_))))
 simp only[show Builtin.Dict_items.ownsTuple "dict_keyiterator" = false by decide,aV6,aVC]
 show wpAny _ _ (if(Value.ref d==Value.none)=true then _ else _) _ _ s;rw[if_neg (λ(z:(Value.ref d==Value.none)=true)=>aT5 z)];refine aT8 (aT7 (aT8 (aYY ho hd ?_)));rw[if_neg (by simp)]
 refine aT8 (aT7 (aT8 (aYZ ho hd ?_)));rw[if_neg (by simp)]
 refine aT7 ?_;simp only[show ¬ ((i:Int)<0)from by omega,aVC,aVB,aX6 hlt]
 refine aT8 ?_
 first|refine aT8 (aY3 hit.typeIs (aT7 (aT8 (aY5 hit.typeIs ?_))))|refine aT8 (aY4 hit.typeIs (aT7 (aT8 (aY5 hit.typeIs ?_))))
 show wpAny _ _ (setField (.ref it) 1 (rawInt ((i:Int)+1))>>=_) _ _ s;refine aT8 (aXD hio hid (by simp) ?_)
 have hit2:(s.heap.update it (Obj.mapFields (·.setIfInBounds 1 (rawInt ((i:Int)+1))))).IsKeyIter it d (i+1) es.size ep :=
  ⟨_,aXE _ hio (aXF (aXG hid _)),(aXI ..).trans hic,by rw[aXG hid];simp[rawInt]⟩
 refine aT8 (aVG (aT8 (aY5 (s:={s with heap:=s.heap.update it (Obj.mapFields (·.setIfInBounds 1 (rawInt ((i:Int)+1))))}) hit2.typeIs ?_)))
 show wpAny _ _ (pure es[i].key) _ _ _;exact aT7 (aT7 ⟨_,rfl,aT7 (q _ hit2 (aXH ..))⟩)
end
def aMY{A:aZP}{E:VSP}{d:Addr}{o:Obj}{es:Array DictEntry}{Q:Option aZN->aZO->Prop}(hh:A.handled=none)(hit:s.heap.IsKeyIter it d i es.size ep)(ho:s.heap.get? d=some o)(hd:o.data=.dict es ep)(hi:es.size<=i)(q:∀h',Heap.ExtBut it s.heap h'->Q none {s with heap:=h'}):wpAny (model prog w) A (pyNext (.ref it)) Q E s:=by
 obtain⟨io,hio,hic,hid⟩:=id hit;unfold pyNext;refine aT8 (aXN (aVH (name:=Str.ofString "__next__") hit.typeIs aY0 (aVJ aY0 hit.typeIs aY1 ?_ (aY2 (.ref it)))));refine aT8 (aT7 (aT8 (aT8 ?_)))
 first|refine aT8 (aY3 hit.typeIs (aT7 (aT8 (aYG hio hid ?_))))|refine aT8 (aY4 hit.typeIs (aT7 (aT8 (aYG hio hid ?_))))
 simp only[show Builtin.Dict_items.ownsTuple "dict_keyiterator" = false by decide,aV6,aVC]
 show wpAny _ _ (if(Value.ref d==Value.none)=true then _ else _) _ _ s;rw[if_neg (λ(z:(Value.ref d==Value.none)=true)=>aT5 z)];refine aT8 (aT7 (aT8 (aYY ho hd ?_)));rw[if_neg (by simp)]
 refine aT8 (aT7 (aT8 (aYZ ho hd ?_)));rw[if_neg (by simp)]
 refine aT7 ?_;simp only[show ¬ ((i:Int)<0)from by omega,aVC,aVB,aYH hi]
 refine aT8 ?_
 first|refine aT8 (aY3 hit.typeIs (aT7 ?_))|refine aT8 (aY4 hit.typeIs (aT7 ?_))
 show wpAny (model prog w) _ (setField (.ref it) 0 .none>>=_) _ _ s;refine aT8 (aXD hio hid (by simp) ?_)
 show wpAny (model prog w) _ (newExc (.type "StopIteration") []>>=_) _ _ _;refine aT8 ?_;simp only[newExc,newTuple];refine aT8 (aVM (aT8 (m:=firstArgMember _ _) (aXJ (a:=Value.none) (by first|rfl|(simp only[firstArgMember];rfl)) (aVM ?_ (by size_fits)))) (by size_fits))
 simp only[raiseNew];refine aT8 (wpAny_handled ?_);rw[show A.in1.handled=none from hh]
 refine aT8 (aT7 (wpAny_throw ?_));refine aT8 (aV4 (b:=true) (T := "StopIteration") ⟨_,aTI _ rfl,rfl⟩ isSubtype_stop ?_);exact aT7 (q _ (((aXH ..).extBut.push _).push _))
def Itn(d:Addr)(o:Obj)(xs:List (N×Addr×V)):It :=
 ⟨λi H=>H d=some (.frz o (.dN xs))/\i<xs.length,λi H x H'=>H'=H/\∃p,xs[i]? = some p/\x=.ref p.2.1,λi H=>H d=some (.frz o (.dN xs))/\xs.length<=i⟩
def KN.nth{xs:List (N×Addr×aZN)}(r:KN kvs xs):xs.length=kvs.length/\∀(i:Nat) (p:N×Addr×V),kvs[i]? = some p->∃u,xs[i]? = some (p.1,p.2.1,u):=by
 induction r with
 |nil=>exact⟨rfl,λi p h=>by simp at h⟩
 | @cons a b as bs h t ih =>
  refine⟨by simp[ih.1],λi p hp=>?_⟩
  cases i with
  |zero =>
   have hp:a=p:=by simpa using hp
   subst hp;refine⟨b.2.2,?_⟩;rw[h.1,h.2.1];rfl
  |succ i=>have:=ih.2 i p (by simpa using hp);simpa using this
def sY{d:Addr}{o:Obj}{xs:List (N×Addr×V)}(ok:HOk P w H h)(hd:H d=some (.frz o (.dN xs))):(d==sysModules)=false/\∃es,h.get? d=some o/\o.ExactDict/\o.data=.dict es (epO o)/\es.size=xs.length/\∀(i:Nat) (p:N×Addr×V),xs[i]? = some p->∃e,es[i]? = some e/\e.key=.ref p.2.1:=by
 obtain⟨g,z,y,vs,r,o',es,ep,h1,h2,h3,h4,h5⟩:=ok d _ hd;rw[g]at h1;cases h1;obtain⟨l,n⟩:=KN.nth r;refine⟨y,es,g,h2,by unfold epO;rw[h3],by rw[<- aT2,h4,aUL,l],λi p hp=>?_⟩
 obtain⟨u,hu⟩:=n i p hp;refine⟨u3 w (p.1,p.2.1,u),?_,rfl⟩;rw[<- aX1,h4,aU2,hu];rfl
def aMZ(d it:Addr)(o:Obj)(xs:List (N×Addr×V)):fN P w K tg (Itn d o xs) [it] it (λi h=>h.IsKeyIter it d i xs.length (epO o)) where
 mem:=by simp
 obj:=λi h st b hb=>by
  have e:b=it:=by simpa using hb
  subst e;obtain⟨o,e,c,d⟩:=st;exact⟨o,e,λv z=>by rw[d]at z;cases z⟩
 keep:=λi h h' st k=>st.at λo e=>k it (by simp) o e
 item:=by
  intro X hP hw hK hc i aA s σ H E I hf st hg;subst hP hw hK;obtain⟨hd,hi⟩:=hg;obtain⟨ns,es,g,hx,dt,sz,n⟩:=sY I.hok hd;obtain⟨f0,f1,f2,f3,f4,f5⟩:=hf it (by simp)
  obtain⟨e,he,ke⟩:=n i xs[i] (by simp[hi])
  rw[<- sz]at st;refine aMX st g dt he λh' hit' hs'=>?_;have I1:L2.Inv X aA σ H {s with heap:=h'}:=I.turned (t':=s.toks) (λb o hb e=>hs'.extBut b o hb e) f0 f1 f3 f4 f5
  rw[sz]at hit';obtain⟨o1,e1,c1,d1⟩:=id hit';refine⟨e.key,rfl,jY (s:={s with heap:=h'}) e1 c1 d1 (by decide) ⟨.ref xs[i].2.1,H,I1,ke,⟨rfl,xs[i],by simp[hi],rfl⟩,hit',λb hb=>(hf b hb).1⟩⟩
 done:=by
  intro X hP hw hK hc i aA s σ H E I hf st hg;subst hP hw hK;obtain⟨hd,hi⟩:=hg;obtain⟨ns,es,g,hx,dt,sz,n⟩:=sY I.hok hd;obtain⟨f0,f1,f2,f3,f4,f5⟩:=hf it (by simp)
  exact aMY (I.ok.hd hc) (by rw[sz];exact st) g dt (by omega) λh' eb=>⟨rfl,I.turned (t':=s.toks) (λb o hb e=>eb b o hb e) f0 f1 f3 f4 f5⟩
 self:=λ_ _ _ _ _ st h=>wpAny_pyIter_keyiter st h
def iDn(tl:TE):TI:=λσ H R=>tl σ H λx H1=>∃d o xs,x=.ref d/\H1 d=some (.frz o (.dN xs))/\R (Itn d o xs) H1
def pi_dn{l:Expr}(hl:PE X l tl):PI X tg l (iDn tl):=by
 intro aA s σ H R I h;refine thn (hl aA s σ H _ I h) λv s1 ⟨x,H1,I1,r1,q1⟩=>?_;obtain⟨d,o,xs,e,hd,q⟩:=q1;subst e;cases r1;obtain⟨ns,es,g,hx,dt,sz,n⟩:=sY I1.hok hd;refine aMW ns g hx dt ?_;rw[sz];have I2:L2.Inv X aA σ H1 { s1 with heap:=s1.heap.push { cls:=.type "dict_keyiterator", data:=.fields #[.ref d,.int 0 0,.int xs.length 0,.int (epO o) 0] } }:=I1.kept (t':=s1.toks) λb o e=>hps e
 refine⟨s1.heap.objs.size,[s1.heap.objs.size],_,_,_,rfl,I2,aMZ d _ o xs,⟨_,aTI _ rfl,rfl,rfl⟩,λb hb=>?_,q⟩;have e:b=s1.heap.objs.size:=by simpa using hb
 subst e;exact I1.fpOk (aUA _) (I1.hok.fresh (aUA _))
theorem aN.nth{F:Hp}:∀{kvs:List (N×D)}{xs:List (N×Addr×V)},aN K F kvs xs->∀(i:Nat) (p:N×Addr×V),xs[i]? = some p->∃d,kvs[i]? = some (p.1,d)/\NAt K F p.1 (.ref p.2.1)
 |[],xs,h,i,p,e=>by simp only[aN]at h;subst h;simp at e
 |(k,d)::kvs,xs,h,i,p,e=>by
  simp only[aN]at h;obtain⟨b,y,ys,rfl,q,r,t⟩:=h;cases i with
  |zero =>
   have e:(k,b,y)=p:=by simpa using e
   subst e;exact⟨d,rfl,q.1⟩
  |succ i=>have:=t.nth i p (by simpa using e);simpa using this
def aM0{F:Hp}{a:Addr}{o:Obj}{kvs:List (N×D)}{xs:List (N×Addr×V)}(hf:F a=some (.frz o (.dN xs)))(r:aN K F kvs xs):jC K F (Itn a o xs) (kvs.map λkv=>nD kv.1) where
 go:=λi H s hi=>⟨s _ _ hf,by rw[r.len];simpa using hi⟩
 stop:=λi H s hi=>⟨s _ _ hf,by rw[r.len];simpa using hi⟩
 yld:=λi Fc H x H' s1 s2 hi y=>by obtain⟨rfl,p,hp,rfl⟩:=y;obtain⟨d,hd,hn⟩:=r.nth i p hp;exact⟨Fc,nD p.1,by rw[aU2,hd];rfl,.refl s2,aMF _ _ (NAt.mono s1 _ _ hn)⟩
def mO(r:Res):Res:=r.thn λ_ d=>match d with
 |.dtf kvs=>.ok .fz (.lst (kvs.map λkv=>nD kv.1))
 |_=>.stuck
def aM1(h:PV C X e g):PIv C X tg e (λρ=>mO (g ρ)):=by
 refine PI.imp (pi_dn h) λσ H R q=>?_;obtain⟨ρ,F,RS,w⟩:=q;dsimp only at w;unfold iDn;rw[aR];refine⟨ρ,F,RS,?_⟩;unfold mO at w;cases er:g ρ with
 |stuck=>rw[er]at w;exact w.elim
 |exc c=>rw[er]at w;exact w
 |ok m d =>
  rw[er,Res.thn_ok]at w;intro v F' H' st rp _;cases d with
  |dtf kvs =>
   cases m with
   |fz=>have rp:aB X.K F' (.dtf kvs) v:=rp;simp only[aB]at rp;obtain⟨a,o,xs,rfl,hf,r⟩:=rp;exact⟨a,o,xs,rfl,st.sub _ _ hf,w _ F' H' st (aM0 hf r)⟩
   |fr=>obtain⟨a,_,_,q⟩:=rp;exact q.elim
   |bo=>obtain⟨a,_,_,q⟩:=rp;exact q.elim
  |_=>exact w.elim
def mP(ρ:Rho)(i:Nat):aF:=match ρ[i]? with
 |some (some (true,.dtn kvs))=>.nx (ρ.set i (some (false,.dtf kvs)))
 |_=>.stuck
def aM.nfrz{F:Hp}{kvs:List (N×D)}{a:Addr}{xs:List (N×Addr×V)}(o:Obj)(R:aM K F0 H0 F H σ ρ)(e:ρ[i]? = some (some (true,.dtn kvs)))(ev:σ[i]? = some (some (.ref a)))(hF:F a=none)(hH:H a=some (.dN xs))(h0:H0 a=none)(r:aN K F kvs xs):aD F (upd F a (.frz o (.dN xs)))/\aM K F0 H0 (upd F a (.frz o (.dN xs))) (upd H a (.frz o (.dN xs))) σ (ρ.set i (some (false,.dtf kvs))):=by
 have sm:aD F (upd F a (.frz o (.dN xs))):=λb u q=>by rw[aH (bL q hF)];exact q
 have hi:i<ρ.length:=(aTW.mp e).1;have own:∀{j:Nat}{d1:D},(ρ.set i (some (false,.dtf kvs)))[j]? = some (some (true,d1))->j≠i/\ρ[j]? = some (some (true,d1)):=λ{j d1} z=>by
  by_cases hj:j=i
  . subst hj;rw[aTX hi]at z;cases z
  . rw[aTY (λy=>hj y.symm)]at z;exact⟨hj,z⟩
 refine⟨sm,⟨λb u q=>?_,λb u q=>?_,λb u q=>?_,λb q1 q2=>?_⟩,λj m d' ej=>?_,λj k d1 d2 b hjk e1 e2 q1 q2=>R.apart j k d1 d2 b hjk (own e1).2 (own e2).2 q1 q2,by rw[aWN];exact R.len⟩
 . rw[aH (bL q h0)];exact R.st.same b u q
 . rw[aH (bL (R.st.fsame b u q) hF)];exact R.st.fsame b u q
 . by_cases hb:b=a
   . subst hb;rw[aT]at q ⊢;exact q
   . rw[aH hb]at q ⊢;exact R.sub b u q
 . have:b≠a:=λz=>q2 (by rw[z];exact h0)
   rw[aH this];exact R.st.new b q1 q2
 . by_cases hj:j=i
   . subst hj;rw[aTX hi]at ej;cases ej;refine⟨.ref a,ev,?_,by nofun⟩
     show aB K _ (.dtf kvs) _;simp only[aB];exact⟨a,o,xs,rfl,aT,r.mono sm _ _⟩
   . rw[aTY (λz=>hj z.symm)]at ej;obtain⟨v',ev',rp',hn'⟩:=R.slot j m d' ej;refine⟨v',ev',?_,hn'⟩;cases m with
     |false=>exact aB.mono sm _ _ rp'
     |true =>
      obtain⟨b,rfl,nb,t'⟩:=rp';have ab:b≠a:=λz=>by subst z;exact R.apart j i d' _ b hj ej e ev' ev
      refine⟨b,rfl,by rw[aH ab];exact nb,?_⟩
      cases d' with
      |lst ds=>obtain⟨ys,q,rr⟩:=t';exact⟨ys,by rw[aH ab];exact q,rr.mono sm _ _⟩
      |dct ds=>obtain⟨ys,q,rr⟩:=t';exact⟨ys,by rw[aH ab];exact q,rr.mono sm _ _⟩
      |ins c fs=>obtain⟨C,dx,gs,n,q,rr⟩:=t';exact⟨C,dx,gs,n,by rw[aH ab];exact q,rr.mono sm _ _⟩
      |set ks=>obtain⟨S,q,rr⟩:=t';exact⟨S,by rw[aH ab];exact q,rr⟩
      |dtn ds=>obtain⟨ys,q,rr⟩:=t';exact⟨ys,by rw[aH ab];exact q,rr.mono sm _ _⟩
      |_=>exact t'.elim
def aM2{g:Rho->aF}(h:PBv C X sts g):PBv C X sts (λρ=>(mP ρ i).thn g):=by
 intro aA s σ H E I q;obtain⟨ρ,F,R,w⟩:=q;dsimp only at w;unfold mP at w;split at w
 . rename_i kvs e;obtain⟨v,ev,rp,hn⟩:=R.slot i true _ e;obtain⟨a,rfl,hF,xs,hH,r⟩:=rp;have ok:=I.hok a _ hH;obtain⟨_,_,_,_,o,_,_,g1,_⟩:=id ok;have I2:=I.write (x:=a) (e:=a) (o:=.frz o (.dN xs)) (t':=s.toks) (h':=s.heap) (by rw[hH];exact trivial) (.inl rfl) (λ_ _ _ q=>q) ⟨_,g1⟩ ⟨g1,ok.stay (λ_ _ _ q=>q) (λc q=>by rw[aH (λz=>by rw[z,hH]at q;cases q)];exact q) λc ys q=>by rw[aH (λz=>by rw[z,hH]at q;cases ys <;> cases q)];exact q⟩
   obtain⟨sm,R2⟩:=aM.nfrz o R e ev hF hH (hn rfl a rfl) r;exact h aA s σ _ E I2 ⟨_,_,R2,bT.mono sm w⟩
 . exact w.elim
section
variable {A:aZP}{E:VSP}
end
section
variable {A:aZP}{E:VSP}{a c:Addr}{x y:N}
end
section
variable {A:aZP}{E:VSP}{k1 k2:N}{b1 b2:Addr}
end
section
variable {A:aZP}{E:VSP}
variable  {a:Addr}{o:Obj}{es:Array (Int×aZN)}{t:SetTable}
end
section
variable {A:aZP}{E:VSP}{a:Addr}{xs:List (N×Addr)}
end
open PySem.W
section
variable {A:aZP}{E:VSP}{a:Addr}{xs:List (N×Addr)}
end
end D3
namespace L2
def gW(f:Addr)(o:Obj):HO:=.ext λh=>h.get? f=some o
def zR{f:Addr}{o:Obj}(e:h.get? f=some o):bM P w H h f (gW f o):=⟨e,⟨o,e⟩,λ_ _ p k=>k o p⟩
def aM3{f:Addr}{o:Obj}(ok:HOk P w H h)(e:H f=some (gW f o)):h.get? f=some o:=(ok f _ e).1
def aM4{c:Addr}(ok:HOk P w H h)(e:H c=some (.crec q)):h.CodeRec (.ref c) q:=by obtain⟨oc,vs,t,e1,e2,e3⟩:=ok c _ e;exact⟨c,oc,vs,t,rfl,e1,e2,e3⟩
def aM5{z:Pos}{c' cv:aZN}:∀{l:List aZN},TriplesOk l->codeAmong z (l++[rawInt pos.line,rawInt pos.col,c'])=some cv->codeAmong z l=some cv\/cv=c':=by
 intro l
 fun_induction TriplesOk l with
 |case1 =>
  intro _ h;simp only[aYS,codeAmong,rawInt]at h;split at h
  . cases h;exact .inr rfl
  . cases h
 |case2 a t b u x rest ih =>
  intro h1 h;simp only[aVX,codeAmong]at h ⊢;split at h
  . rename_i hc;rw[if_pos hc];exact .inl h
  . rename_i hc;rw[if_neg hc];exact ih h1 h
 |case3 l h1 h2=>intro h;exact h.elim
section
variable {σ:St}{E:VSP}
def aM6(I:Inv X aA σ H s)(hcd:W.codeIn X.K X.env.code q=true)(hq:X.env.qual=q ++ ".<locals>.")(hin:lA q="<lambda>"){as:List Arg}{body:Expr}(hf:∀y∈scope.names,y.2 ≠ .free){Q:VSP}(h:∀f c pm ct s' H',Inv X aA σ H' s'->(∀b o,H b=some o->H' b=some o)->H f=none->H' c=some (.crec (X.env.qual ++ "<lambda>"))->H' f=some (gW f (W.kla_obj "<lambda>" (X.env.qual ++ "<lambda>") ⟨[],as,none,[],[],none,[]⟩ body scope [] pm c ct))->Q (.ref f) s'):wpAny (model X.prog X.w) X.A (eval (.Lambda ⟨[],as,none,[],[],none,[]⟩ body scope pos) X.env) Q E s:=by
 obtain⟨c,T,ps,e1,hd,hT0,htag⟩:=I.ok.tabs _ _ hcd;obtain⟨more,hT⟩:=I.base.tbls T ps hT0;obtain⟨q',m,g1,g2,g3,g4⟩:=I.hok T _ hT;obtain rfl:q'=X.env.qual ++ "<lambda>" := by rw[Array.getElem?_append_left (aTP.mp htag).1,htag,hin,<- hq]at g1;cases g1;rfl
 have hcl:closureFor scope X.env=pure []:=closureFor_none hf;have hbk:=I.bk;obtain⟨bm,ob,b1,b2,b3,b4,b5,b6⟩:=I.mod.bmod;have gT:X.base.get? T=none:=by
  cases z:X.base.get? T with
  |none=>rfl
  |some o=>have:=(I.bs T o z).2;rw[hT]at this;cases this
 have hbT:bm≠T:=λz=>by rw[z,gT]at b3;cases b3
 have hns:=I.mod.glob;have hgT:mainGlobals≠T:=λz=>by obtain⟨o,es,ep,e,_⟩:=hns;rw[z,gT]at e;cases e
 have hbG:bm≠mainGlobals:=λz=>by obtain⟨o,es,ep,e,hd,_⟩:=hns;rw[z,e]at b3;cases b3;rw[hd]at b6;cases b6
 have hB:s.heap.BuiltinsAt X.mg T:=⟨bm,ob,b1,b2,hbG,hbT,hbk _ _ b3,b4,b5,b6⟩;show wpAny (model X.prog X.w) X.A (do
  let dv <- evalAll []
  let kdv <- holding dv (evalAllOpt [])
  makeFunction "<lambda>" (X.env.qual ++ "<lambda>") ⟨[],as,none,[],[],none,[]⟩ (.expr body) scope X.env dv kdv [] pos pos.line) Q E s
 refine aT8 (aT7 (aT8 (aVG (aT7 ?_))));have nT:∀{b:Addr}{o:HO},H b=some o->(∀ps,o ≠ .tbl ps)->b≠T:=λ{b o} e n z=>by rw[z,hT]at e;cases e;exact n _ rfl
 cases hm:codeAmong pos m.toList with
 |none =>
  refine W.kla_makeFunction (mg:=X.mg) hcl I.ok.glob (hns.keeps hbk) e1 (hd.keeps hbk) g2 g3 hm hgT hB λc' ctv h' tk hx hge hlt hrec htb=>?_;obtain⟨c₂,oc,vs,t,e2,hoc,hd2,hv⟩:=hrec;cases e2;have cT:c'≠T:=aT6 (aTK (aTJ g2) hge);have sz:s.heap.objs.size<=h'.objs.size:=by omega
  let H1:Hp:=upd H c' (.crec (X.env.qual ++ "<lambda>"))
  let fo:Obj:=W.kla_obj "<lambda>" (X.env.qual ++ "<lambda>") ⟨[],as,none,[],[],none,[]⟩ body scope [] ((X.mg "__name__").getD .none) c' ctv
  let H2:Hp:=upd H1 h'.objs.size (gW h'.objs.size fo)
  have f0:H h'.objs.size=none:=I.hok.fresh sz;have c0:H c'=none:=I.hok.fresh hge;have s1:∀b o,H b=some o->H1 b=some o:=λb o e=>by show upd H c' _ b=_;rw[aH (bL e c0)];exact e
  have fc:h'.objs.size≠c':=λz=>by rw[z]at hlt;exact absurd hlt (aTL _)
  have s2:∀b o,H1 b=some o->H2 b=some o:=λb o e=>by
   have hb:b≠h'.objs.size:=λz=>by subst z;have e:upd H c' _ h'.objs.size=some o:=e;rw[aH fc,f0]at e;cases e
   show upd H1 _ _ b=_;rw[aH hb];exact e
  have keep:∀b o,b≠T->s.heap.get? b=some o->(h'.push fo).get? b=some o:=λb o hb e=>hps (hx b o hb e);have gT':(h'.push fo).get? T=some (W.tabObj (m++#[rawInt pos.line,rawInt pos.col,.ref c'])):=hps htb;have un:Un (frs X.stack) [] H H2 s.heap (h'.push fo):=by
   refine⟨λb o e n _ _=>keep b o (λz=>by rw[z,hT]at n;cases n) e,λb o e n _ _=>⟨o.slots,keep b o (λz=>by rw[z,hT]at n;cases n) e⟩,λb o e n _=>?_,λb o e _=>?_,λb xs e=>s2 _ _ (s1 _ _ e),λb o u e=>s2 _ _ (s1 _ _ e),λb ps e=>⟨#[],by rw[s2 _ _ (s1 _ _ e)];simp⟩⟩
   . have hb:=aTJ e;show upd (upd H c' _) h'.objs.size _ b=none;rw[aH (aTM (aTK hb sz)),aH (aTM (aTK hb hge))];exact n
   . by_cases hb:b=T
     . exact⟨_,hb ▸ gT'⟩
     . exact⟨o,keep b o hb e⟩
  have hok:HOk X.prog X.w H2 (h'.push fo):=λb u e=>by
   by_cases hb:b=h'.objs.size
   . subst hb;have e:upd H1 h'.objs.size (gW h'.objs.size fo) h'.objs.size=some u:=e;rw[aT]at e;cases e;exact zR (aTI _ rfl)
   have e:upd H1 h'.objs.size (gW h'.objs.size fo) b=some u:=e;rw[aH hb]at e;by_cases hc:b=c'
   . subst hc;have e:upd H b _ b=some u:=e;rw[aT]at e;cases e;exact⟨oc,vs,t,hps hoc,hd2,hv⟩
   have e:upd H c' _ b=some u:=e;rw[aH hc]at e;by_cases hbT2:b=T
   . subst hbT2;rw[hT]at e;cases e;refine⟨_,_,g1,gT',?_,λz cv f=>?_⟩
     . rw[Array.toList_append];exact TriplesOk_snoc _ _ _ _ g3
     . rw[Array.toList_append]at f;rcases aM5 g3 f with f|f
       . obtain⟨c3,z1,z2⟩:=g4 z cv f;exact⟨c3,z1,s2 _ _ (s1 _ _ z2)⟩
       . exact⟨c',f,s2 _ _ aT⟩
   . refine(I.hok b u e).stay (λd v hd q=>keep d v ?_ q) (λd q=>s2 _ _ (s1 _ _ q)) λd v q=>s2 _ _ (s1 _ _ q);rcases hd with rfl|hd
     . exact hbT2
     . exact nT hd λps z=>by cases z
  exact h _ c' _ ctv _ H2 (I.call (g':=s.gens) (d':=s.drawn) (t':=tk) (ch:=[]) un hok I.bare (λb z=>absurd z (by simp))) (λb o e=>s2 _ _ (s1 _ _ e)) f0 (s2 _ _ aT) aT
 |some cv =>
  obtain⟨c',rfl,hc'⟩:=g4 pos cv hm;refine W.kla_makeFunctionHit (mg:=X.mg) hcl I.ok.glob (hns.keeps hbk) e1 (hd.keeps hbk) g2 g3 hm hB λctv h' tk hx hge=>?_
  let fo:Obj:=W.kla_obj "<lambda>" (X.env.qual ++ "<lambda>") ⟨[],as,none,[],[],none,[]⟩ body scope [] ((X.mg "__name__").getD .none) c' ctv
  have f0:H h'.objs.size=none:=I.hok.fresh hge;exact h _ c' _ ctv _ _ (I.laid (a:=h'.objs.size) (o:=gW h'.objs.size fo) (h':=h'.push fo) (t':=tk) (λb u e=>hps (hx b u e)) hge (zR (aTI _ rfl))) (λb o e=>by rw[aH (bL e f0)];exact e) f0 (by rw[aH (bL hc' f0)];exact hc') aT
end
def aM7{f c:Addr}{args:Arguments}{x:Str}{body:Expr}{pm ct:aZN}{A:aZP}{Q:VK}{E:XK}{t:TE}(S:jZ [x] [x] scope)(hb:bindArgs (W.kla_fn "<lambda>" qual args body scope [] pm (.ref c) ct) ⟨[u],[]⟩=pure [(x,u)])(hd:A.handled=none)(hdp:A.depth<recursionLimit)(e0:eY P w K mg base A outer s H)(hf:H f=some (gW f (W.kla_obj "<lambda>" qual args body scope [] pm c ct)))(hc:H c=some (.crec qual))(r:aI v u)(hbody:PE (cO CX P w K mg base [x] qual scope f (.ref c) A outer s H E) body t)(hq:t (cN [x] [v]) H Q):codeAny (model P w) A (.call (.ref f) ⟨[u],[]⟩) (CR CX outer P w H s Q E) s:=by
 have lim:s.heap.NoLimit:=e0.mod.nolimit.keeps λb o e=>(e0.bs b o e).1;have c8:∀y∈[x].zip [u],scope.names.lookup y.1=some .local\/(scope.names.lookup y.1=some .cell/\((cellsFrom (s.heap.objs.size+1) scope.names []).lookup y.1).isSome=true):=λ⟨n,v⟩ hy=>by
  rcases S.par n (aUV hy).1 with q|q
  . exact .inl q
  . exact .inr ⟨q,aUW _ _ _ (.inl q)⟩
 refine W.kla_callFunE hdp (aM3 e0.hok hf) rfl S.co S.gen rfl (aM4 e0.hok hc) ?_;rw[hb];refine aT7 (wpAny_newFunctionEnv_cells S.kind c8 λenv he s1 y=>?_);subst he;refine⟨lim.keeps y.toInCall.keep,W.kla_codeExpr ?_⟩;have I:Inv (cO CX P w K mg base [x] qual scope f (.ref c) A outer s H E) [] (cN [x] [v]) H s1:=vQ S hd e0 rfl (.cons r .nil) y;refine aT0 (hbody [] s1 (cN [x] [v]) H _ I hq) (λu' s' hs=>?_) λe s' hs=>hs;obtain⟨v',H',J,rv,q⟩:=hs;exact⟨v',H',J.os,J.bare,J.base,J.hok,rv,q⟩
end L2
namespace D3
section
open PySem.SeqAt
open PySem.AutoSeq1 (wpAny_loadPart')
open PySem.MeetsSeq PySem.MeetsSeq2 PySem.MeetsSeq3
def aM8(l b:Addr)(items items2:Array aZN)(n n2:Nat)(dd dd2:Option Addr)(sl sl2:Array (Option aZN))(r:Bool):∀(us vs:List aZN) (i:Nat),items.toList.drop i=us->items2.toList.drop i=vs->i<=items.size->i<=items2.size->Meets (Builtin.«list.__eq__.loop» ⟨[.ref l,.ref b,rawInt i,rawInt 0],[]⟩) (λA R s=>s.heap.get? l=some { cls:=.type "list", dict:=dd,data:=.seq items n,slots:=sl }/\s.heap.get? b=some { cls:=.type "list", dict:=dd2,data:=.seq items2 n2,slots:=sl2 }/\LtI A.in1 s us vs r/\R (.ok (.ret (.bool r))) s):=by
 intro us
 induction us with
 |nil =>
  intro vs i h1 h2 l1 l2 prog w A R s h;obtain⟨hp,g,d,tk,os⟩:=s;obtain⟨hl,hb,he,h⟩:=h;have z1:items.size=i:=by have:=congrArg List.length h1;simp at this;omega
  wp_walk using wpAny_loadPart' hl,wpAny_loadPart' hb
  have hi1:items[((i:Nat):Int).toNat]? = none:=by simp;omega
  rw[hi1];have hv:r=decide (items.size<items2.size):=by
   cases he with
   |nn=>have:=congrArg List.length h2;simp at this;exact(aTF (by omega)).symm
   |nc=>have:=congrArg List.length h2;simp at this;exact(aVV (by omega)).symm
  rw[hv]at h
  wp_walk using wpAny_loadPart' hl,wpAny_loadPart' hb
  exact h
 |cons u us ih =>
  intro vs i h1 h2 l1 l2 prog w A R s h;obtain⟨hp,g,d,tk,os⟩:=s;obtain⟨hl,hb,he,h⟩:=h;have lt1:i<items.size:=by have:=congrArg List.length h1;simp at this;omega
  have hi1:items[((i:Nat):Int).toNat]? = some u:=by
   have:items.toList[i]? = some u:=by have:=congrArg (λl=>l[0]?) h1;simpa using this
   simpa using this
  have h1':items.toList.drop (i+1)=us:=by have:=congrArg List.tail h1;simpa using this
  wp_walk using wpAny_loadPart' hl,wpAny_loadPart' hb
  cases vs with
  |nil =>
   have z2:items2.size=i:=by have:=congrArg List.length h2;simp at this;omega
   have hi2:items2[((i:Nat):Int).toNat]? = none:=by simp;omega
   rw[hi1,hi2];have hv:r=decide (items.size<items2.size):=by
    cases he with
    |cn=>exact(aTF (by omega)).symm
   rw[hv]at h
   wp_walk using wpAny_loadPart' hl,wpAny_loadPart' hb
   exact h
  |cons v vs =>
   have lt2:i<items2.size:=by have:=congrArg List.length h2;simp at this;omega
   have hi2:items2[((i:Nat):Int).toNat]? = some v:=by
    have:items2.toList[i]? = some v:=by have:=congrArg (λl=>l[0]?) h2;simpa using this
    simpa using this
   have h2':items2.toList.drop (i+1)=vs:=by have:=congrArg List.tail h2;simpa using this
   have hc:((i:Int)+1)=((i+1:Nat):Int):=by push_cast;rfl
   rw[hi1,hi2];cases he with
   |eq he hr =>
    refine aT8 (he prog w _ _ ?_)
    wp_walk
    rw[hc];exact⟨aXW plain_eq_loop _,aXU entry_eq_loop (by
     rw[aXV plain_eq_loop _];exact ih vs (i+1) h1' h2' lt1 lt2 prog w A R _ ⟨hl,hb,hr,h⟩)⟩
   |ne he hr =>
    refine aT8 (he prog w _ _ ?_);have hri:=hr prog w
    wp_walk using wpAny_loadPart' hl,wpAny_loadPart' hb
    rw[hi1,hi2]
    wp_walk using hri
    exact h
def aM9(l b:Addr)(items items2:Array aZN)(n n2:Nat)(dd dd2:Option Addr)(sl sl2:Array (Option aZN))(r:Bool):Meets (Builtin.«list.__lt__» ⟨[.ref l,.ref b],[]⟩) (λA R s=>s.heap.get? l=some { cls:=.type "list", dict:=dd,data:=.seq items n,slots:=sl }/\s.heap.get? b=some { cls:=.type "list", dict:=dd2,data:=.seq items2 n2,slots:=sl2 }/\LtI A.in1 s items.toList items2.toList r/\R (.ok (.ret (.bool r))) s):=by
 intro prog w A R s h;obtain⟨hp,g,d,tk,os⟩:=s;obtain⟨hl,hb,he,h⟩:=h;have f3:=AutoSeq1.sub_list_list
 wp_walk using wpAny_loadPart' hl,wpAny_loadPart' hb
 exact⟨aXW plain_eq_loop _,aXU entry_eq_loop (by
  rw[aXV plain_eq_loop _];exact aM8 l b items items2 n n2 dd dd2 sl sl2 r _ _ 0 rfl rfl (aUP _) (aUP _) prog w A R _ ⟨hl,hb,by simpa using he,h⟩)⟩
end
section
variable {A:aZP}{E:VSP}
def aNA{a:Addr}{xs ys:List N}{its':Array aZN}{Q:Bool->aZO->Prop}(hu:A.units+N.dpL xs+4<cLine)(ha:s.heap.IsList a its)(hb:s.heap.IsList b its')(hx:aY s.heap xs its.toList)(hy:aY s.heap ys its'.toList)(ok:eH xs ys=true)(q:Q (bO xs ys) s):wpAny (model prog w) A (keyLt' oneType' (.ref a) (.ref b)) Q E s:=by
 obtain⟨⟨cls,dd,data,sl⟩,ga,hc,n,hd⟩:=ha;obtain⟨⟨cls2,dd2,data2,sl2⟩,gb,hc2,n2,hd2⟩:=hb;simp only at hc hd hc2 hd2;subst hc hd hc2 hd2;rw[keyLt'_oneType,oneLt'_eq];simp only[aVD];refine aT8 (wpAny_cRoomFor (by omega) ?_)
 refine aT8 (wpAny_callSpecialIfBound?_slot ⟨_,ga,rfl⟩ PySem.F.slot_list_lt ?_);have hi:LtI A.in1 s its.toList its'.toList (bO xs ys):=sV (A:=A.in1) (λx hx y u v p1 p2 ok prog w' E Q q=>n_lt x (by have:=N.dp_mem hx;show A.units+1+_+1<_;omega) p1 p2 ok q) (by show A.units+1+_<_;omega) hx hy ok
 refine call_meets PySem.F.slot_list_lt ⟨_,ga,rfl⟩ PySem.F.entry_list_lt (PySem.F.args_list_lt_2 _ _) (aM9 a b its its' n n2 dd dd2 sl sl2 (bO xs ys)) ⟨ga,gb,hi,?_⟩;exact aT1 q
end
open PySem.W
structure sZ(prog:aZR)(w:aZQ)(A:aZP)(n:Nat)(lt:Nat->Nat->Bool)(ks:List aZN)(s:aZO):Prop where
 ex:2<=n->∃κ,(∀(Q:SortKind->aZO->Prop) (E:VSP),Q κ s->wpAny (model prog w) A (keyKind' ks.toArray) Q E s) /\
  ∀i j (Q:Bool->aZO->Prop),i<n->j<n->Q (lt i j) s->wpAny (model prog w) A (keyLt' κ (ks.getD i .none) (ks.getD j .none)) Q (λ_ _=>False) s
section
variable {E:VSP}
def o8{a:Addr}{o:Obj}(I:Inv X aA σ H s)(hf:cF X aA H a)(e:s.heap.get? a=some o)(hd:∀v,o.data ≠ .cell v):Inv X ((a,o)::aA) σ H s:=by
 refine I.pins_of λp hp=>?_;rcases aTT.mp hp with rfl|hp
 . exact⟨e,hf.1,hf.2.1,hf.2.2.1,hd⟩
 . exact I.pin p (aUE _ hp)
def iK{p:Addr×Obj}(I:Inv X (p::aA) σ H s):Inv X aA σ H s:=I.pins_of λq hq=>I.pin q (aUE _ (mcm hq))
def o9{p:Addr×Obj}(I:Inv X (p::aA) σ H s):H p.1=none:=(I.pin p (aUE _ mcs)).2.1
def pA{p:Addr×Obj}(I:Inv X (p::aA) σ H s):s.heap.get? p.1=some p.2:=(I.pin p (aUE _ mcs)).1
def pB{a:Addr}(hf:cF X aA H a)(hn:H' a=none):cF X aA H' a:=⟨hn,hf.2⟩
def Inv.track{a:Addr}{o:HO}(I:Inv X aA σ H s)(hf:cF X aA H a)(new:bM X.prog X.w (upd H a o) s.heap a o):Inv X aA σ (upd H a o) s:=by
 obtain⟨f0,f1,f2,f3,f4,f5⟩:=hf;have up:∀{b:Addr}{u:HO},H b=some u->upd H a o b=some u:=λ{b u} e=>by rw[aH (bL e f0)];exact e
 refine I.call (g':=s.gens) (d':=s.drawn) (t':=s.toks) (ch:=[a]) ⟨λb o e _ _ _=>e,λb o e _ _ _=>⟨o.slots,e⟩,λb o e n hb=>by rw[aH (by simpa using hb)];exact n,λb o e _=>⟨o,e⟩,λb xs e=>up e,λb o u e=>up e,λb ps e=>⟨#[],by rw[up e];simp⟩⟩ (λb u e=>?_) I.bare λb hb=>by
  obtain rfl:b=a:=by simpa using hb
  exact⟨f3,f1,f4,f5⟩
 by_cases hb:b=a
 . subst hb;rw[aT]at e;cases e;exact new
 . rw[aH hb]at e;exact(I.hok b u e).stay (λ_ _ _ q=>q) (λc q=>up q) λc v q=>up q
def aNB{f:aZN}{a kS:Addr}{xs:List V}{e1:Nat}{lt:Nat->Nat->Bool}{A:aZP}{P:Nat->List V->Hp->Prop}{R:PySem.Fin->aZO->Prop}(O:WkO lt)(hv:aJ xs vs)(hb64:xs.length<gU)(ne:a≠kS)(fa:cF X aA H a)(fk:cF X aA H kS)(I:Inv X ((kS,seqObj "list" #[] 0)::(a,seqObj "list" #[] e1)::aA) σ H s)(P0:P 0 [] H)(cl:∀i v u kvs H' pins' s',xs[i]? = some v->aI v u->Inv X pins' σ H' s'->P i kvs H'->wpAny (model X.prog X.w) A (call f [u]) (λku s''=>∃kv H'',Inv X pins' σ H'' s''/\aI kv ku/\P (i+1) (kvs++[kv]) H'') (λ_ _=>False) s')(kd:∀kvs ks H' pins' s',Inv X pins' σ H' s'->P xs.length kvs H'->aJ kvs ks->ks.length=xs.length->sZ X.prog X.w A xs.length lt ks s')(fin:∀(p:List Nat) H' s' kvs,p.Perm (List.range xs.length)->(p.Pairwise λi j=>lt j i=false)->P xs.length kvs H'->H' a=none->Inv X aA σ (upd H' a (.lst (p.map λi=>xs.getD i .non))) s'->R (.done (.ret .none)) s'):wpAny (model X.prog X.w) A (ksk_rest a f false vs.toArray e1 (.ref kS)) R E s:=by
 have h64:xs.length<1000000:=aTK hb64 zE;have lv:xs.length=vs.length:=hv.length;unfold ksk_rest;refine aT8 (aV2 ?_);rw[List.forIn_toArray]
 let J:Nat->aZO->Prop:=λi s'=>∃ks kvs e H',Inv X ((kS,seqObj "list" (List.toArray ks) e)::(a,seqObj "list" #[] e1)::aA) σ H' s'/\P i kvs H'/\aJ kvs ks/\ks.length=i
 refine aT8 (ksk_fold J vs 0 s ⟨[],[],0,H,I,P0,.nil,rfl⟩ (λj x s' hx hJ=>?_) λs' hJ=>?_)
 . rw[aW6]at hJ ⊢;obtain⟨ks,kvs,e,H',I',p,r,hl⟩:=hJ;have hjl:j<vs.length:=(aTW.mp hx).1;obtain⟨v,ev⟩:∃v,xs[j]? = some v:=⟨_,aWL (by omega)⟩
   obtain⟨u,eu,rv⟩:=hv.get ev;rw[hx]at eu;cases eu;refine aT8 (aXN (aT0 (cl j v x kvs H' _ s' ev rv I' p) (λku s2 hk=>?_) λ_ _ hF=>hF.elim));obtain⟨kv,H2,I2,rk,p2⟩:=hk;have gk:=pA I2;dsimp only at gk ⊢;have sm:=aXH s2.heap kS (Obj.mapSeq (·.push ku));have ea:(List.toArray ks).push ku=List.toArray (ks++[ku]):=by simp
   obtain⟨c2,hc2⟩:∃c2,(s2.heap.update kS (Obj.mapSeq (·.push ku))).get? kS=some (seqObj "list" (List.toArray (ks++[ku])) c2):=⟨_,by rw[<- ea];exact aYV gk (·.push ku)⟩
   refine aT8 (aYU gk rfl ?_ (by rw[aUG,aUF];omega) (aTQ (aUN (Array.size_push ..)) (by rw[aUG,aUF];omega)))
   have ga:=pA (iK I2);have fk2:=pB fk (o9 I2);have fa2:=pB fa (o9 (iK I2))
   have I3:=oF (t':=s2.toks) (its:=[kS]) (iK (iK I2)) (h':=s2.heap.update kS (Obj.mapSeq (·.push ku))) (λb o hb q=>(sm.2 b (by simpa using hb)).trans q) (λb hb=>by
    obtain rfl:b=kS:=by simpa using hb
    exact fk2)
   have I4:=o8 I3 fa2 ((sm.2 a ne).trans ga) (by intro v z;cases z)
   have I5:=o8 I4 ⟨fk2.1,fk2.2.1,fk2.2.2.1,fk2.2.2.2.1,fk2.2.2.2.2.1,λp hp=>by
    rcases aTU.mp hp with hp|hp
    . exact fk2.2.2.2.2.2 p (aTV _ hp)
    . rcases aTT.mp hp with rfl|hp
      . exact ne
      . exact fk2.2.2.2.2.2 p (aUE _ hp)⟩ hc2 (by intro v z;cases z)
   exact aT7 ⟨rfl,ks++[ku],kvs++[kv],c2,H2,I5,p2,aJ.append r (.cons rk .nil),by simp[hl]⟩
 . rw[aW6]at hJ;obtain⟨ks,kvs,e,H',I',p,r,hl⟩:=hJ;have gk:=pA I';dsimp only at gk ⊢;refine aT8 (listItems_at gk rfl ?_);rw[<- lv]at p hl;have KO:=kd kvs ks H' _ s' I' p r hl;have tail:∀(st:SortSt) (q:List Nat),q.Perm (List.range xs.length)->(q.Pairwise λi j=>lt j i=false)->(arrOf st).map (·.2)=(q.map λi=>vs.getD i Value.none).toArray->failedOf st=none->wpAny (model X.prog X.w) A (ksk_tail a false e1 (.ref kS) st) R E s':=by
     intro st q qp qs hout hf;have ql:q.length=xs.length:=by rw[qp.length_eq,aX7]
     unfold ksk_tail;dsimp only;rw[hout,if_neg aT5];have s1:=aXH s'.heap kS (Obj.mapSeq λ_=>(#[]:Array aZN));refine aT8 (aYU gk rfl ?_ (by rw[aUG,aUF];omega) (aUP _))
     refine aT8 (wpAny_letGo ?_);have ga:=pA (iK I');dsimp only at ga;have ga1:(s'.heap.update kS (Obj.mapSeq λ_=>(#[]:Array aZN))).get? a=some (seqObj "list" #[] e1):=(s1.2 a ne).trans ga;refine aT8 (seqEpoch_at ga1 rfl ?_);have hsz:((q.map λi=>vs.getD i Value.none).toArray).size=xs.length:=by rw[aUG,aUL,ql]
     refine aT8 (aYU ga1 rfl ?_ (aUP _) (aTQ (aUN hsz) (by rw[aUF];omega)))
     rw[hf];simp only[aYC,aV6,aVC];have s2:=aXH (s'.heap.update kS (Obj.mapSeq λ_=>(#[]:Array aZN))) a (Obj.mapSeq λ_=>(q.map λi=>vs.getD i Value.none).toArray);obtain⟨c2,hc2⟩:∃c2,((s'.heap.update kS (Obj.mapSeq λ_=>(#[]:Array aZN))).update a (Obj.mapSeq λ_=>(q.map λi=>vs.getD i Value.none).toArray)).get? a=some (seqObj "list" ((q.map λi=>vs.getD i Value.none).toArray) c2):=⟨_,aYV ga1 λ_=>(q.map λi=>vs.getD i Value.none).toArray⟩;have fk2:=pB fk (o9 I');have fa2:=pB fa (o9 (iK I'));have I3:=oF (t':=s'.toks) (its:=[kS,a]) (iK (iK I')) (h':=(s'.heap.update kS (Obj.mapSeq λ_=>(#[]:Array aZN))).update a (Obj.mapSeq λ_=>(q.map λi=>vs.getD i Value.none).toArray))
      (λb o hb z=>by
       simp only[aTT,aX2,aXL,not_or]at hb;exact(s2.2 b hb.2).trans ((s1.2 b hb.1).trans z)) (λb hb=>by
       simp only[aTT,aX2,aXL]at hb;rcases hb with rfl|rfl
       . exact fk2
       . exact fa2)
     have n0:H' a=none:=fa2.1;have vo:aJ (q.map λi=>xs.getD i .non) (q.map λi=>vs.getD i Value.none):=by
      have:∀q:List Nat,(∀i∈q,i<xs.length)->aJ (q.map λi=>xs.getD i .non) (q.map λi=>vs.getD i Value.none):=by
       intro q
       induction q with
       |nil=>intro _;exact .nil
       |cons i q ih =>
        intro hq;have hi:=hq i mcs;obtain⟨u,eu,ru⟩:=hv.get (aWL hi);refine .cons ?_ (ih λj hj=>hq j (mcm hj));have e1:xs.getD i .non=xs[i]:=by simp[hi]
        have e2:vs.getD i Value.none=u:=by simp[eu]
        show aI (xs.getD i .non) (vs.getD i Value.none);rw[e1,e2];exact ru
      exact this q λi hi=>by simpa using qp.mem_iff.mp hi
     have I4:=Inv.track I3 (o:=.lst (q.map λi=>xs.getD i .non)) fa2 ⟨by rw[aUL,ql,aUF];omega,_,c2,vo,hc2⟩
     exact aT7 (fin q H' _ kvs qp qs p n0 I4)
   unfold ksk_end;dsimp only;rw[if_neg aT5];simp only[aV6,aVC];by_cases h2:vs.toArray.size<2
   . rw[if_pos h2,if_pos h2];rw[aUG]at h2;refine aT8 (aT7 ?_);rw[StateT.run_pure];refine aT8 (aT7 ?_);refine tail _ (List.range xs.length) (aYW _) ?_ ?_ rfl
     . have hx:xs.length=0\/xs.length=1:=by omega
       rcases hx with hx|hx <;> rw[hx] <;> simp[List.range_succ]
     . rw[lv,aLW];show(((List.toArray ks).zip vs.toArray).map (·.2))=vs.toArray;apply Array.ext
       . simp;omega
       . intro i h1 h2;simp
   . rw[if_neg h2,if_neg h2];rw[aUG]at h2;obtain⟨κ,hk1,hk2⟩:=KO.ex (by omega)
     refine aT8 (hk1 _ _ ?_);have hkl:ks.length=vs.length:=by omega
     refine aT8 (aT0 (aMO (ks:=ks) (vs:=vs) (κ:=κ) O hkl (by omega) (by omega) (λi j C hi hj hq=>hk2 i j C (by omega) (by omega) hq)
      (Q:=λst' s2=>s2=s'/\∃p:Array Nat,PW vs.length p/\p.Perm (List.toArray (List.range vs.length))/\Wup lt p vs.length/\arrOf st'=p.map (kas_item ((List.toArray ks).zip vs.toArray))/\failedOf st'=none)
      λp st' a1 a2 a3 a4 a5=>⟨rfl,p,a1,a2,a3,a4,a5⟩) ?_ λ_ _ e=>e)
     rintro⟨⟨⟩,st'⟩ s2 ⟨rfl,p,pp,pe,u,ea,ef⟩;dsimp only;refine tail st' p.toList (by rw[lv];simpa using Array.perm_iff_toList_perm.mp pe) ?_ (kat_snds hkl ea) ef
     refine aY6.mpr λi j hi hj hij=>?_;rw[aT2]at hi hj;have:=u i j hij (by rw[<- pp.size];exact hj)
     simpa[Array.getD,hi,hj]using this
end
section
variable {E:VSP}
def aNC{f:aZN}{q:Addr}{xs:List V}{lt:Nat->Nat->Bool}{P:Nat->List V->Hp->Prop}{Q:VK}(hf:f=.ref q)(O:WkO lt)(hb64:xs.length<gU)(I:Inv X aA σ H s)(hl:SqL X.K H l xs\/SqT X.K H l xs)(P0:P 0 [] H)(cl:∀i v u kvs H' pins' s',xs[i]? = some v->aI v u->Inv X pins' σ H' s'->P i kvs H'->wpAny (model X.prog X.w) X.A.in1.in1 (call f [u]) (λku s''=>∃kv H'',Inv X pins' σ H'' s''/\aI kv ku/\P (i+1) (kvs++[kv]) H'') (λ_ _=>False) s')(kd:∀kvs ks H' pins' s',Inv X pins' σ H' s'->P xs.length kvs H'->aJ kvs ks->ks.length=xs.length->sZ X.prog X.w X.A.in1.in1 xs.length lt ks s')(fin:∀(p:List Nat) H' kvs l',p.Perm (List.range xs.length)->(p.Pairwise λi j=>lt j i=false)->P xs.length kvs H'->H' l'=none->H l'=none->Q (.ref l') (upd H' l' (.lst (p.map λi=>xs.getD i .non)))):wpAny (model X.prog X.w) X.A (call (.builtin "sorted") [.ref l] [(Str.ofString "key", f)]) (EP X aA σ Q) E s:=by
 subst hf;have h64:xs.length<1000000:=aTK hb64 zE;obtain⟨vs,rv,pl⟩:=zQ I hl;have lv:xs.length=vs.length:=rv.length;refine call_function_entry_kw kind_sorted plain_sorted entry_sorted (ksk_s1 _ _) ?_;unfold Builtin.«sorted»;have col:∀{R:List aZN->aZO->Prop}{E':VSP},R vs { s with heap:=(s.heap.push (seqObj "list" #[] 0)).update s.heap.objs.size (Obj.mapSeq (·++vs.toArray)) } -> wpAny (model X.prog X.w) X.A.in1 (collect (.ref l)) R E' s:=λ{R E'} r=>by
  rcases pl with hl|hl
  . exact collect_list hl r (by rw[aUF];omega)
  . exact zM hl (by rw[aUF];omega) r
 refine aT8 (m:=checkCount "sorted" 1 1 [Value.ref l].length) (aT7 (aT8 (col (aT8 (aYM ?_ (by rw[aUF];omega))))))
 have z1:((s.heap.push (seqObj "list" #[] 0)).update s.heap.objs.size (Obj.mapSeq (·++vs.toArray))).objs.size=s.heap.objs.size+1:=(aYX ..).trans (aYJ ..);have keep1:∀b o,s.heap.get? b=some o->(((s.heap.push (seqObj "list" #[] 0)).update s.heap.objs.size (Obj.mapSeq (·++vs.toArray))).push (seqObj "list" vs.toArray 0)).get? b=some o:=λb o e =>
  hps ((Heap.get?_update_ne _ _ _ _ (aTM (aTJ e))).trans (hps e))
 have g1:(((s.heap.push (seqObj "list" #[] 0)).update s.heap.objs.size (Obj.mapSeq (·++vs.toArray))).push (seqObj "list" vs.toArray 0)).get? (s.heap.objs.size+1)=some (seqObj "list" vs.toArray 0):=z1 ▸ aTI _ rfl;show wpAny _ _ _ _ _ { s with heap:=((s.heap.push (seqObj "list" #[] 0)).update s.heap.objs.size (Obj.mapSeq (·++vs.toArray))).push (seqObj "list" vs.toArray 0) }
 rw[z1];have z2:(((s.heap.push (seqObj "list" #[] 0)).update s.heap.objs.size (Obj.mapSeq (·++vs.toArray))).push (seqObj "list" vs.toArray 0)).objs.size=s.heap.objs.size+2:=by rw[aYJ,z1]
 generalize ((s.heap.push (seqObj "list" #[] 0)).update s.heap.objs.size (Obj.mapSeq (·++vs.toArray))).push (seqObj "list" vs.toArray 0)=h1 at keep1 g1 z2;have I1:Inv X aA σ H {s with heap:=h1}:=I.kept (t':=s.toks) keep1
 have ha0:s.heap.objs.size<=s.heap.objs.size+1:=aW3 _;generalize hA:s.heap.objs.size+1=a at g1 ha0;have fa:cF X aA H a:=I.fpOk ha0 (I.hok.fresh ha0);refine aT8 (aVG (wpAny_call_entry_kw slot_list_sort ⟨_,g1,rfl⟩ entry_list_sort ?body (ksk_l1 _ _)));show wpAny (model X.prog X.w) X.A.in1.in1 (Builtin.«list.sort» ⟨[.ref a],[(Str.ofString "key", .ref q)]⟩) _ _ _;rw[ksk_t1];unfold ksk_tree;refine aT8 (listItems_at g1 rfl (aT8 (aYU g1 rfl ?_ (by rw[aUG,aUF];omega) (aUP _))))
 have s1:=aXH h1 a (Obj.mapSeq λ_=>(#[]:Array aZN));obtain⟨e1,ho1⟩:∃c,(h1.update a (Obj.mapSeq λ_=>(#[]:Array aZN))).get? a=some (seqObj "list" #[] c):=⟨_,aYV g1 λ_=>#[]⟩;refine aT8 (seqEpoch_at ho1 rfl (aT8 (wpAny_newTuple (aT8 (aYM (aVG ?_) (aUP _))) (by show vs.length<=_;rw[aUF];omega))))
 have keep2:∀b o,b∉[a]->h1.get? b=some o->(((h1.update a (Obj.mapSeq λ_=>(#[]:Array aZN))).push (seqObj "tuple" vs.toArray 0)).push (seqObj "list" #[] 0)).get? b=some o:=λb o hb e =>
  hps (hps ((s1.2 b (by simpa using hb)).trans e))
 have ho2:(((h1.update a (Obj.mapSeq λ_=>(#[]:Array Value))).push (seqObj "tuple" vs.toArray 0)).push (seqObj "list" #[] 0)).get? a=some (seqObj "list" #[] e1):=hps (hps ho1);have gk:(((h1.update a (Obj.mapSeq λ_=>(#[]:Array Value))).push (seqObj "tuple" vs.toArray 0)).push (seqObj "list" #[] 0)).get? ((h1.update a (Obj.mapSeq λ_=>(#[]:Array Value))).push (seqObj "tuple" vs.toArray 0)).objs.size=some (seqObj "list" #[] 0):=aTI _ rfl;have z3:((h1.update a (Obj.mapSeq λ_=>(#[]:Array Value))).push (seqObj "tuple" vs.toArray 0)).objs.size=s.heap.objs.size+3:=by rw[aYJ,aYX,z2]
 rw[z3]at gk;rw[z3];show wpAny (model X.prog X.w) X.A.in1.in1 (ksk_rest a (.ref q) false vs.toArray e1 (.ref (s.heap.objs.size+3))) _ _ { s with heap:=((h1.update a (Obj.mapSeq λ_=>(#[]:Array aZN))).push (seqObj "tuple" vs.toArray 0)).push (seqObj "list" #[] 0) }
 have I2:Inv X aA σ H { s with heap:=((h1.update a (Obj.mapSeq λ_=>(#[]:Array aZN))).push (seqObj "tuple" vs.toArray 0)).push (seqObj "list" #[] 0) }:=oF (s:={s with heap:=h1}) (t':=s.toks) (its:=[a]) I1 keep2 λb hb=>by
  obtain rfl:b=a:=by simpa using hb
  exact fa
 have hk0:s.heap.objs.size<=s.heap.objs.size+3:=by omega
 have fk:cF X aA H (s.heap.objs.size+3):=I.fpOk hk0 (I.hok.fresh hk0);have ne:a≠s.heap.objs.size+3:=by rw[<- hA];exact aTM (by omega)
 have I3:=o8 I2 fa ho2 (by intro v z;cases z)
 have I4 := o8 I3 ⟨fk.1, fk.2.1, fk.2.2.1, fk.2.2.2.1, fk.2.2.2.2.1, fun p hp => by
     rcases aTU.mp hp with hp|hp
     . exact fk.2.2.2.2.2 p (aTV _ hp)
     . rcases aTT.mp hp with rfl|hp
       . exact ne
       . exact fk.2.2.2.2.2 p (aUE _ hp)⟩ gk (by intro v z;cases z)
 refine aNB O rv hb64 ne fa fk I4 P0 cl kd λp H' s' kvs pp ps hP hn I5=>?_;exact⟨_,rfl,aT7 ⟨_,rfl,.ref a,_,I5,rfl,fin p H' kvs a pp ps hP hn fa.1⟩⟩
end
def d7:D->Option (Bool×N)
 |.int i=>some (true,.i i)
 |.lst ds=>(cV ds).map λks=>(false,.t ks)
 |_=>none
noncomputable def eR(b:Bool):List D->Option (List N)
 |[]=>some []
 |d::ds=>match d7 d,eR b ds with
  |some (c,k),some ks=>if c=b then some (k::ks)else none
  |_,_=>none
def okK(ks:List N):Bool:=ks.all (λk=>decide (k.dp<=8))&&ks.all (λx=>ks.all λy=>okN x y)&&decide ks.Nodup
def gX(x:N×D):List (N×D)->List (N×D)
 |[]=>[x]
 |y::l=>if ltN y.1 x.1=true then y::gX x l else x::y::l
def fY(l:List (N×D)):List (N×D):=l.foldr gX []
def jK(l:List (N×D)):Prop:=l.Pairwise λx y=>ltN y.1 x.1=false
theorem tB(x:N×D):∀(l:List (N×D)),(gX x l).Perm (x::l)
 |[]=>aYW _
 |y::l=>by
  unfold gX;split
  . exact((tB x l).cons y).trans (List.Perm.swap x y l)
  . exact aYW _
theorem tD:∀(l:List (N×D)),(fY l).Perm l
 |[]=>aYW _
 |x::l=>(tB x (fY l)).trans ((tD l).cons x)
theorem zS{x:N×D}:∀{l:List (N×D)},jK l->jK (gX x l)
 |[],_=>aYP _ _
 |y::l,h=>by
  unfold gX;split
  . rename_i e;refine aYO.mpr ⟨λz hz=>?_,zS (aYO.mp h).2⟩;rcases aTT.mp ((tB x l).mem_iff.mp hz)with rfl|hz
    . exact zL e
    . exact(aYO.mp h).1 z hz
  . rename_i e;have e:ltN y.1 x.1=false:=by simpa using e
    refine aYO.mpr ⟨λz hz=>?_,h⟩;rcases aTT.mp hz with rfl|hz
    . exact e
    . exact sU ((aYO.mp h).1 z hz) e
theorem zT:∀(l:List (N×D)),jK (fY l)
 |[]=>List.Pairwise.nil
 |x::l=>zS (zT l)
theorem key_inj:∀{l:List (N×D)},(l.map (·.1)).Nodup->∀{x y:N×D},x∈l->y∈l->x.1=y.1->x=y
 |z::l,nd,x,y,hx,hy,e=>by
  rw[aUK,aUU]at nd;rcases aTT.mp hx with ex|mx
  . rcases aTT.mp hy with ey|my
    . rw[ex,ey]
    . exact absurd (aY7.mpr ⟨y,my,by rw[<- e,ex]⟩) nd.1
  . rcases aTT.mp hy with ey|my
    . exact absurd (aY7.mpr ⟨x,mx,by rw[e,ey]⟩) nd.1
    . exact key_inj nd.2 mx my e
theorem zU:∀{l l':List (N×D)},jK l->jK l'->l.Perm l'->(l.map (·.1)).Nodup->l=l'
 |[],l',_,_,p,_=>p.symm.eq_nil.symm
 |x::l,[],_,_,p,_=>p.eq_nil
 |x::l,y::l',h,h',p,nd=>by
  have h1:=aYO.mp h;have h2:=aYO.mp h';have my:y∈x::l:=p.mem_iff.mpr mcs;have mx:x∈y::l':=p.mem_iff.mp mcs;have exy:x.1=y.1:=by
   have a:ltN y.1 x.1=false:=by
    rcases aTT.mp my with e|e
    . rw[e];exact o7 _
    . exact h1.1 y e
   have b:ltN x.1 y.1=false:=by
    rcases aTT.mp mx with e|e
    . rw[e];exact o7 _
    . exact h2.1 x e
   exact zI x.1 y.1 b a
  have exy:x=y:=key_inj nd mcs my exy;subst exy;rw[aUK,aUU]at nd;rw[zU h1.2 h2.2 p.cons_inv nd.2]
def aND{l l':List (N×D)}(h:jK l')(p:l'.Perm l)(nd:(l.map (·.1)).Nodup):l'=fY l:=(zU (zT l) h ((tD l).trans p.symm) (((tD l).map _).nodup_iff.mpr nd)).symm
def aNE{p:List Nat}(hl:ks.length=ds.length)(nd:ks.Nodup)(pp:p.Perm (List.range ds.length))(ps:p.Pairwise λi j=>ltN (ks.getD j (.i 0)) (ks.getD i (.i 0))=false):(p.map λi=>ds.getD i .non)=(fY (ks.zip ds)).map (·.2):=by
 have ez:((List.range ds.length).map λi=>(ks.getD i (.i 0),ds.getD i .non))=ks.zip ds:=by
  apply aYK
  . simp[hl]
  . intro i h1 h2;simp at h1 h2 ⊢;have h3:i<ks.length:=by omega
    simp[h1,h3]
 have key:=aND (l:=ks.zip ds) (l':=p.map λi=>(ks.getD i (.i 0),ds.getD i .non)) (by unfold jK;rw[List.pairwise_map];exact ps) (by rw[<- ez];exact pp.map _) (by
  rw[List.map_fst_zip (by omega)];exact nd)
 rw[<- key,aY8];rfl
section
variable {A:aZP}{E:VSP}
theorem zV:∀(vs:List aZN) {Q:List (Option aZN)->aZO->Prop},(∀v∈vs,Looks (model prog w) s.heap (typeOf v) (.type "list"))->Q (vs.map λ_=>none) s->wpAny (model prog w) A (vs.mapM firstOfTuple') Q E s
 |[],_,_,h=>by rw[List.mapM_nil];exact aT7 h
 |v::vs,Q,t,h=>by
  rw[List.mapM_cons];refine aT8 ?_;rw[kas_first_eq];refine aT8 (Looks.here (t v mcs) ?_);rw[if_pos (by first|decide|simp)]
  refine aT7 ?_;exact aT8 (zV vs (Q:=λbs s'=>wpAny (model prog w) A (pure (none::bs)) Q E s') (λv hv=>t v (mcm hv)) (aT7 h))
def aNF{Q:SortKind->aZO->Prop}(t:∀v∈vs,Looks (model prog w) s.heap (typeOf v) (.type "list"))(hne:2<=vs.length)(h:Q oneType' s):wpAny (model prog w) A (keyKind' vs.toArray) Q E s:=by
 obtain⟨f₁,fr,rfl⟩:∃f₁ fr,vs=f₁::fr:=by
  match vs,hne with
  |f₁::fr,_=>exact⟨f₁,fr,rfl⟩
 rw[kat_kind_eq,List.mapM_toArray,map_eq_pure_bind];refine aT8 (aT8 (zV _ t (aT7 ?_)));rw[if_neg (by simp),if_neg (by simp)]
 rw[oneTypeOnly'_eq,List.mapM_toArray,map_eq_pure_bind];refine aT8 (aT8 (aT8 (kas_mapM (r:=Value.type "list") _ (λv hv Q' hq=>(t v hv).here hq) (aT7 ?_))));have hall2:((List.map (λ_=>Value.type "list") (f₁::fr)).toArray.all λx=>x==Value.type "list")=true:=by simp only[List.all_toArray,List.all_map,aWI];intro _ _;rfl
 have h0:(List.map (λ_=>Value.type "list") (f₁::fr)).toArray[0]? = some (Value.type "list"):=by simp
 rw[h0];simp only[hall2,aVD];exact aT7 (aT7 h)
end
def iL(kds:List D):Option (List N):=match eR true kds with|some ks=>some ks|none=>eR false kds
theorem tE{b:Bool}:∀{kds:List D}{ks:List N},eR b kds=some ks->ks.length=kds.length/\∀(i:Nat) d,kds[i]? = some d->∃k,ks[i]? = some k/\d7 d=some (b,k)
 |[],ks,e=>by cases e;exact⟨rfl,λi d h=>by simp at h⟩
 |d::ds,ks,e=>by
  unfold eR at e;split at e
  . rename_i c k ks' h1 h2;split at e
    . rename_i hc;cases e;subst hc;obtain⟨l,r⟩:=tE h2;refine⟨by simp[l],λi d' h=>?_⟩
      cases i with
      |zero=>simp at h;subst h;exact⟨k,rfl,h1⟩
      |succ i=>exact r i d' (by simpa using h)
    . cases e
  . cases e
def wkO_K(ks:List N):WkO λi j=>ltN (ks.getD i (.i 0)) (ks.getD j (.i 0)):=⟨λa b=>sU a b,λa=>zL a⟩
section
variable  {F:Hp}
def aNG{A:aZP}{b:Bool}{kds:List D}{kvs:List V}{us:List aZN}(hu:A.units+40<cLine)(e:eR b kds=some ks)(ok:okK ks=true)(I:Inv X aA σ H s)(sF:aD F H)(rl:aC X.K F kds kvs)(rv:aJ kvs us):sZ X.prog X.w A kds.length (λi j=>ltN (ks.getD i (.i 0)) (ks.getD j (.i 0))) us s:=by
 obtain⟨kl,kg⟩:=tE e;unfold okK at ok;simp only[aVL,aWI,aV9]at ok;obtain⟨⟨d8,ao⟩,nd⟩:=ok;have lk:kvs.length=kds.length:=rl.length;have lu:us.length=kds.length:=by rw[<- rv.length,lk]
 have at_:∀i,i<kds.length->∃d k v u,kds[i]? = some d/\ks.getD i (.i 0)=k/\k∈ks/\d7 d=some (b,k)/\aB X.K F d v/\aI v u/\us.getD i .none=u:=λi hi=>by obtain⟨k,ek,hk⟩:=kg i _ (aWL hi);obtain⟨v,ev,rd⟩:=rl.get' (aWL hi);obtain⟨u,eu,ru⟩:=rv.get ev;exact⟨_,k,v,u,aWL hi,by simp[ek],aU3 ek,hk,rd,ru,by simp[eu]⟩
 refine⟨λh2=>⟨oneType',λQ E q=>?_,λi j Q hi hj q=>?_⟩⟩
 . cases b with
   |true =>
    have ia:∃ns,IntsAre us ns:=by
     have:∀{kds:List D}{kvs:List V}{us:List aZN},(∀(i:Nat) d,kds[i]? = some d->∃k,d7 d=some (true,k))->aC X.K F kds kvs->aJ kvs us->∃ns,IntsAre us ns:=by
      intro kds
      induction kds with
      |nil=>intro kvs us _ r v;simp only[aC]at r;subst r;cases v;exact⟨[],.nil⟩
      |cons d ds ih =>
       intro kvs us hk r v;simp only[aC]at r;obtain⟨y,ys,rfl,q1,q2⟩:=r;cases v with
       |cons r1 r2 =>
        obtain⟨ns,hn⟩:=ih (λi d h=>hk (i+1) d (by simpa using h)) q2 r2
        obtain⟨k,ek⟩:=hk 0 d rfl;cases d with
        |int n=>simp only[aB]at q1;subst q1;obtain⟨t,rfl⟩:=r1;exact⟨n::ns,.cons n t hn⟩
        |lst es =>
         unfold d7 at ek;dsimp only at ek;cases z:cV es with
         |none=>rw[z]at ek;cases ek
         |some zs=>rw[z]at ek;cases ek
        |_=>cases ek
     exact this (λi d h=>let⟨k,_,z⟩:=kg i d h;⟨k,z⟩) rl rv
    obtain⟨ns,hn⟩:=ia
    match us,lu with
    |v1::v2::vs,_=>rw[keyKind_ints hn];exact aT7 q
    |[],z=>simp at z;omega
    |[_],z=>simp at z;omega
   |false =>
    refine aNF (λu hu=>?_) (by omega) q
    obtain⟨i,hi,rfl⟩:=List.mem_iff_getElem.mp hu;obtain⟨d,k,v,u,e1,e2,e3,e4,e5,e6,e7⟩:=at_ i (by omega)
    have e7:us[i]=u:=by rw[<- e7];simp[hi]
    rw[e7];cases d with
    |int n=>cases e4
    |lst es=>simp only[aB]at e5;obtain⟨a,xs,rfl,hq,r⟩:=e5;cases e6;obtain⟨its,_,pl,_⟩:=I.list (sF.seq hq);obtain⟨o,ho,hc,_⟩:=pl.isList;have L:Looks (model X.prog X.w) s.heap (typeOf (.ref a)) o.cls:=(Looks.ld ho).andThen .now;rw[hc]at L;exact L
    |_=>cases e4
 . obtain⟨d,k,v,u,e1,e2,e3,e4,e5,e6,e7⟩:=at_ i hi;obtain⟨d',k',v',u',f1,f2,f3,f4,f5,f6,f7⟩:=at_ j hj;rw[e7,f7];rw[e2,f2]at q;have okk:=ao k e3 k' f3;cases b with
   |true =>
    cases d with
    |int n =>
     cases d' with
     |int n'=>cases e4;cases f4;simp only[aB]at e5 f5;subst e5;subst f5;obtain⟨t,rfl⟩:=e6;obtain⟨t',rfl⟩:=f6;rw[ltN]at q;exact kat_lt_int q
     |lst es =>
      unfold d7 at f4;dsimp only at f4;cases z:cV es with
      |none=>rw[z]at f4;cases f4
      |some zs=>rw[z]at f4;cases f4
     |_=>cases f4
    |lst es =>
     unfold d7 at e4;dsimp only at e4;cases z:cV es with
     |none=>rw[z]at e4;cases e4
     |some zs=>rw[z]at e4;cases e4
    |_=>cases e4
   |false =>
    cases d with
    |int n=>cases e4
    |lst es =>
     cases d' with
     |int n=>cases f4
     |lst es' =>
      unfold d7 at e4 f4;dsimp only at e4 f4;cases z:cV es with
      |none=>rw[z]at e4;cases e4
      |some zs =>
       rw[z]at e4;cases e4;cases z':cV es' with
       |none=>rw[z']at f4;cases f4
       |some zs'=>rw[z']at f4;cases f4;simp only[aB]at e5 f5;obtain⟨a,xs,rfl,hq,r⟩:=e5;obtain⟨a',xs',rfl,hq',r'⟩:=f5;cases e6;cases f6;obtain⟨its,rv1,pl,_⟩:=I.list (sF.seq hq);obtain⟨its',rv1',pl',_⟩:=I.list (sF.seq hq');have n1:bY X.K H zs xs:=(oX z r).map λx _ v y=>NAt.mono sF x v y;have n2:bY X.K H zs' xs':=(oX z' r').map λx _ v y=>NAt.mono sF x v y;rw[okN]at okk;rw[ltN]at q;have dd:=d8 _ e3;rw[N.dp]at dd;exact aNA (by omega) pl.isList pl'.isList (by simpa using bY.is (λx _ v u a b=>NAt.is I x v u a b) n1 rv1) (by simpa using bY.is (λx _ v u a b=>NAt.is I x v u a b) n2 rv1') okk q
     |_=>cases f4
    |_=>cases e4
end
def gY(Φ:D->Res):List D->Option (List D)
 |[]=>some []
 |d::ds=>match aK (Φ d),gY Φ ds with
  |.ok .fz kd,some kds=>some (kd::kds)
  |_,_=>none
def cW(Φ:D->Res)(r:Res):Res:=r.thn λ_ d=>match seqD d with
 |some ds=>(match gY Φ ds with
  |some kds=>(match iL kds with
   |some ks=>if(okK ks&&decide (ds.length<gU))=true then .ok .fr (.lst ((fY (ks.zip ds)).map (·.2)))else .stuck
   |none=>.stuck)
  |none=>.stuck)
 |none=>.stuck
theorem zW{Φ:D->Res}:∀{ds kds:List D},gY Φ ds=some kds->kds.length=ds.length/\∀(i:Nat) d,ds[i]? = some d->∃kd,kds[i]? = some kd/\aK (Φ d)=.ok .fz kd
 |[],kds,e=>by cases e;exact⟨rfl,λi d h=>by simp at h⟩
 |d::ds,kds,e=>by
  unfold gY at e;split at e
  . rename_i kd kds' h1 h2;cases e;obtain⟨l,r⟩:=zW h2;refine⟨by simp[l],λi d' h=>?_⟩
    cases i with
    |zero=>simp at h;subst h;exact⟨kd,rfl,h1⟩
    |succ i=>exact r i d' (by simpa using h)
  . cases e
def aNH{kds:List D}(h:iL kds=some ks):∃b,eR b kds=some ks:=by
 unfold iL at h;split at h
 . rename_i z;cases h;exact⟨true,z⟩
 . exact⟨false,h⟩
section
variable  {F:Hp}{E:VSP}
def aNI{Φ:D->Res}{f:Addr}{m:Md}{d:D}{Q:VK}(hu:X.A.units+64<cLine)(I:Inv X aA σ H s)(sF:aD F H)(rp:Rp X.K F H m d v)(ru:aI v u)(cl:∀pins' H' F' s' v u d kd,Inv X pins' σ H' s'->aE F H F' H'->aB X.K F' d v->aI v u->aK (Φ d)=.ok .fz kd->wpAny (model X.prog X.w) X.A.in1.in1 (call (.ref f) [u]) (λku s''=>∃kv F'' H'',Inv X pins' σ H'' s''/\aI kv ku/\aE F' H' F'' H''/\aB X.K F'' kd kv) (λ_ _=>False) s')(w:aQ (C.at X) F H σ (cW Φ (.ok m d)) Q):wpAny (model X.prog X.w) X.A (call (.builtin "sorted") [u] [(Str.ofString "key", .ref f)]) (EP X aA σ Q) E s:=by
 have w:aQ (C.at X) F H σ (match seqD d with
  |some ds=>(match gY Φ ds with
   |some kds=>(match iL kds with
    |some ks=>if(okK ks&&decide (ds.length<gU))=true then .ok .fr (.lst ((fY (ks.zip ds)).map (·.2)))else .stuck
    |none=>.stuck)
   |none=>.stuck)
  |none=>.stuck) Q:=w
 cases e1:seqD d with
 |none=>rw[e1]at w;exact w.elim
 |some ds =>
  rw[e1]at w;dsimp only at w;cases e2:gY Φ ds with
  |none=>rw[e2]at w;exact w.elim
  |some kds =>
   rw[e2]at w;dsimp only at w;cases e3:iL kds with
   |none=>rw[e3]at w;exact w.elim
   |some ks =>
    rw[e3]at w;dsimp only at w;split at w
    . rename_i hc;rw[aVL,aV9]at hc;obtain⟨ok,h64⟩:=hc;obtain⟨b,eb⟩:=aNH e3;obtain⟨l,xs,rfl,hq,rl⟩:=Rp.seqD sF e1 rp;cases ru;have lx:xs.length=ds.length:=rl.length;obtain⟨kl,kg⟩:=zW e2;have kl2:=(tE eb).1;refine aNC rfl (wkO_K ks) (by omega) I hq (P:=λi kvs H'=>∃F',aE F H F' H'/\aC X.K F' (kds.take i) kvs) ⟨F,.refl sF,aC.nil⟩ ?_ ?_ ?_
      . rintro i v u kvs H' pins' s' ex ru I' ⟨F',st,rk⟩;obtain⟨d',ed,rd⟩:=rl.get ex;obtain⟨kd,ek,er⟩:=kg i d' ed;refine aT0 (cl pins' H' F' s' v u d' kd I' st (rd.mono st.fsame _ _) ru er) (λku s'' hk=>?_) λ_ _ x=>x;obtain⟨kv,F2,H2,I2,r2,st2,rv2⟩:=hk;refine⟨kv,H2,I2,r2,F2,st.trans st2,?_⟩;have:kds.take (i+1)=kds.take i++[kd]:=by rw[List.take_succ,ek];rfl
        rw[this];exact aC.append (rk.mono st2.fsame _ _) (aC.cons rv2 aC.nil)
      . rintro kvs us H' pins' s' I' ⟨F',st,rk⟩ rv hl;rw[aW5 (by omega)]at rk
        have:=aNG (A:=X.A.in1.in1) (by show X.A.units+1+1+40<_;omega) eb ok I' st.sub rk rv
        rw[kl,<- lx]at this;exact this
      . rintro p H' kvs l' pp ps ⟨F',st,_⟩ hn hn0;have nd:ks.Nodup:=by unfold okK at ok;simp only[aVL,aV9]at ok;exact ok.2
        rw[lx]at pp;have hz:ks.length=ds.length:=by omega
        refine w (.ref l') F' _ (st.trans (aE.fresh _ st.sub hn)) ⟨l',rfl,st.sub.free hn,_,aT,?_⟩ λ_ a ea=>by cases ea;exact hn0
        rw[<- aNE hz nd pp ps];exact yT λi hi=>by
         have hi':i<ds.length:=by simpa using pp.mem_iff.mp hi
         obtain⟨x,ex,rx⟩:=rl.get' (aWL hi');have a1:ds.getD i .non=ds[i]:=by simp[hi']
         have a2:xs.getD i .non=x:=by simp[ex]
         rw[a1,a2];exact rx.mono st.fsame _ _
    . exact w.elim
end
theorem zX:∀{ps:List Str}{us:List aZN},ps.Nodup->us.length=ps.length->ps.filterMap (λn=>((ps.zip us).lookup n).map (n,·))=ps.zip us/\∀n∈ps,((ps.zip us).lookup n).isNone=false
 |[],us,_,_=>⟨rfl,λ_ h=>by cases h⟩
 |p::ps,[],_,h=>by cases h
 |p::ps,u::us,nd,h=>by
  obtain⟨h1,h2⟩:=aUU.mp nd;obtain⟨i1,i2⟩:=zX (us:=us) h2 (Nat.succ.inj h);have e:∀n∈ps,((p,u)::ps.zip us).lookup n=(ps.zip us).lookup n:=λn hn=>by rw[aV8];have:(n==p)=false:=aTG.mpr λz=>h1 (z ▸ hn);rw[this]
  refine⟨?_,λn hn=>?_⟩
  . rw[aW8,aTS,aV8,aWW];dsimp only[Option.map];refine congrArg _ (Eq.trans ?_ i1);have c:∀l:List Str,(∀n∈l,n∈ps)->l.filterMap (λn=>(((p,u)::ps.zip us).lookup n).map (n,·))=l.filterMap (λn=>((ps.zip us).lookup n).map (n,·)):=by
      intro l hl
      induction l with
      |nil=>rfl
      |cons a l ih=>rw[aTS,aTS,e a (hl a mcs),ih λn hn=>hl n (mcm hn)]
    exact c ps λ_ h=>h
  . rw[aW8];rcases aTT.mp hn with rfl|hn
    . rw[aV8,aWW];rfl
    . rw[e n hn];exact i2 n hn
def zY(h1:fd.params.posonlyargs=[])(h2:fd.params.args.map (·.arg)=ps)(h3:fd.params.vararg=none)(h4:fd.params.kwonlyargs=[])(h5:fd.params.kwarg=none)(hd:fd.defaults=.none)(h6:ps.Nodup)(us:List aZN)(hl:us.length=ps.length):bindArgs fd ⟨us,[]⟩=pure (ps.zip us):=by
 obtain⟨z1,z2⟩:=zX h6 hl;have z3:(ps.take (ps.length-0)).filter (λn=>((ps.zip us).lookup n).isNone)=[]:=by rw[Nat.sub_zero,aXP,List.filter_eq_nil_iff];intro n hn;rw[z2 n hn];decide
 unfold bindArgs;simp only[h1,h2,h3,h4,h5,hd,aVU,aYS,aUS,aWT,aWV,hl,aTL,seqItems?];have q:(do notAStandIn Value.none;pure none:Sem (Option (Array aZN)))=pure none:=rfl
 rw[q];simp only[aWV,aVO,aW9,Nat.zero_sub,aW4,z3,decide_false,Bool.false_and,aV6,aVC,List.isEmpty_nil,aV5,List.zip_nil_right,aWT,z1,Array.toList_empty,List.drop_nil]
section
variable  {q kp:Pos}{Φ:D->Res}
def zZ(T:Addr->Hp->Prop)(hu:X.A.units+64<cLine)(hg:Gl X "sorted")(hm:X.mg "sorted" = none)(he:PV C X e g)(hs:bC e=true)(hk:PE X ke (λσ H Q=>∀f H',aD H H'->T f H'->Q (.ref f) H'))(cl:∀f pins' σ H F H' F' s' v u d kd,T f H->Inv X pins' σ H' s'->aE F H F' H'->aB X.K F' d v->aI v u->aK (Φ d)=.ok .fz kd->wpAny (model X.prog X.w) X.A.in1.in1 (call (.ref f) [u]) (λku s''=>∃kv F'' H'',Inv X pins' σ H'' s''/\aI kv ku/\aE F' H' F'' H''/\aB X.K F'' kd kv) (λ_ _=>False) s'):PV C X (.Call (.Name "sorted" p) [e] [⟨some "key", ke,kp⟩] pos) (λρ=>cW Φ (g ρ)):=by
 intro aA s σ H Q I h;rw[aR]at h;obtain⟨ρ,F,R,w⟩:=h;have st:starEach [e] X.env=[(false,eval e X.env)]:=bG hs;refine aU5 (iY I hg hm oR ?_ (by decide) (by decide))
 refine callWith_kw (e:=e) (rest:=[]) ?_ (by rw[st];rfl) (by rw[st];rfl) rfl rfl
 have PA1:PA X [e] (eB (tG (C.at X) g) gM):=gN he fO st;refine thn (PA1 pos aA s σ H (λvs H1=>∃v,vs=[v]/\∃F1,aE F H F1 H1/\∃m d,g ρ=.ok m d/\Rp X.K F1 H1 m d v) I ?_) λus s1 hz=>?_
 . show tG (C.at X) g σ H _;rw[aR];refine⟨ρ,F,R,?_⟩;cases er:g ρ with
   |stuck=>rw[show cW Φ (g ρ)=.stuck by rw[er];rfl]at w;exact w
   |exc c=>rw[show cW Φ (g ρ)=.exc c by rw[er];rfl]at w;exact w
   |ok m d=>exact λv F1 H1 s1 rp _=>⟨v,rfl,F1,s1,m,d,rfl,rp⟩
 . obtain⟨vs,H1,I1,rv,v,rfl,F1,st1,m,d,er,rp⟩:=hz;obtain⟨u,rfl,ru⟩:=dX rv;have PK1:PK X [⟨some "key", ke,kp⟩] (eB (λσ H Q=>∀f H',aD H H'->T f H'->Q (.ref f) H') gM):=aFL hk aFK;refine thn (PK1 pos aA s1 σ H1 (λws H2=>∃f,ws=[.ref f]/\aD H1 H2/\T f H2) I1 (λf H' sm t=>⟨f,rfl,sm,t⟩)) λws s2 hz2=>?_;obtain⟨zs,H2,I2,rz,f,rfl,sm,t⟩:=hz2;obtain⟨wv,rfl,rw2⟩:=dX rz;cases(show wv=Value.ref f from rw2)
   have st2:aE F1 H1 F1 H2:=⟨sm,aD.refl _,st1.sub.trans sm,λ_ h _=>h⟩;have w1:=aQ.step (st1.trans st2) w;rw[show cW Φ (g ρ)=cW Φ (.ok m d) by rw[er]]at w1
   exact aNI (C:=C) hu I2 st2.sub (rp.step st2) ru (λpins' H' F' s' v u d kd a b c d' e'=>cl f pins' σ H2 F1 H' F' s' v u d kd t a b c d' e') w1
def z5{F:Hp}{K:Frag}{m:Md}{d kd:D}(er:aK (.ok m d)=.ok .fz kd)(st:aE F H F' H')(rp:Rp K F' H' m d v)(fr:m=.fr->∀a,v=.ref a->H a=none):∃F'',aE F H F'' H'/\aB K F'' kd v:=by
 cases m with
 |fz=>cases er;exact⟨F',st,rp⟩
 |bo=>cases er
 |fr=>cases er;obtain⟨x,rfl,n,t⟩:=rp;obtain⟨o,ho,r⟩:=t.freeze n;exact⟨upd F' x o,st.freeze (fr rfl x rfl) n ho,r⟩
def cl_fn{n:Nat}{x:Str}{Ψ:List D->Res}(FV:FnV X.prog X.w X.K X.mg X.base (CX1 X.prog X.w) k x 1 Ψ)(hr:bD k X.A.in1.in1){f:Addr}(hf:X.mg x=some (.ref f)){d kd:D}(I:Inv X pins' σ H' s')(sF:aD F' H')(rd:aB X.K F' d v)(ru:aI v u)(er:aK (Ψ [d])=.ok .fz kd):wpAny (model X.prog X.w) X.A.in1.in1 (call (.ref f) [u]) (λku s''=>∃kv F'' H'',Inv X pins' σ H'' s''/\aI kv ku/\aE F' H' F'' H''/\aB X.K F'' kd kv) (λ_ _=>False) s':=by
 obtain⟨f',fd,ps,FF,hm,hk,hb⟩:=FV.ex;rw[hf]at hm;cases hm;have sp:spV X.K X.mg 1 Ψ [v] H' (λkv H''=>∃F'',aE F' H' F'' H''/\aB X.K F'' kd kv) (λ_ _ _=>False):=by
  refine⟨rfl,F',[d],sF,aC.cons rd aC.nil,?_⟩;cases ep:Ψ [d]with
  |stuck=>rw[ep]at er;cases er
  |exc c=>rw[ep]at er;cases er
  |ok m d'=>rw[ep]at er;exact⟨(by intro z;rw[z]at er;cases er),λv F2 H2 st rp fr=>z5 er st rp fr⟩
 have hl:([u]++[]).length=ps.length:=by rw[<- FF.len _ _ _ _ sp];rfl
 have hb':=hb s' [u] I.kIn hl;rw[aUS]at hb';refine aW0 (aVW (FF.run X.A.in1.in1 X.stack s' H' ⟨[u],[]⟩ [u] [v] _ _ hr I.env0.in1.in1 hb' (.cons ru .nil) sp) λr s2 hq=>?_);cases r with
 |error e=>obtain⟨_,_,_,_,_,_,_,_,_,_,z⟩:=hq;exact z
 |ok fl =>
  cases fl with
  |ret w=>obtain⟨kv,H2,I2,rk,F2,st2,rv2⟩:=I.after hq;exact⟨kv,F2,H2,I2,rk,st2,rv2⟩
  |next=>exact False.elim hq
  |brk=>exact False.elim hq
  |cont=>exact False.elim hq
def bD.in2{A:aZP}(r:bD (k+1) A):bD k A.in1.in1 :=
 ⟨r.hd,by have:=r.dp;show A.depth+3 * k+5<_;omega,by have:=r.un;show A.units+1+1+16 * k+200<_;omega⟩
def aNJ{x:Str}{Ψ:List D->Res}(hu:X.A.units+64<cLine)(hg:Gl X "sorted")(hm:X.mg "sorted" = none)(he:PV C X e g)(hs:bC e=true)(hgx:Gl X x)(hdb:(x==("__debug__":Str))=false)(FV:FnV X.prog X.w X.K X.mg X.base (CX1 X.prog X.w) k x 1 Ψ)(hr:bD (k+1) X.A):PV C X (.Call (.Name "sorted" p) [e] [⟨some "key", .Name x q,kp⟩] pos) (λρ=>cW (λd=>Ψ [d]) (g ρ)):=by obtain⟨f,fd,ps,FF,hmx,hk,hb⟩:=id FV.ex;refine zZ (λf' _=>f'=f) hu hg hm he hs (PE.imp (qM hgx hmx (v:=.ref f) rfl hdb) λσ H Q h=>h f H (aD.refl _) rfl) ?_;intro f' pins' σ H F H' F' s' v u d kd t I st rd ru er;subst t;exact cl_fn (n:=1) FV (bD.in2 hr) hmx I st.sub rd ru er
end
section
variable {K:Type}[DecidableEq K]{knd:HeapKind prog w K}{A:aZP}{E:VSP}
def aNK{d a:Addr}{xs:List (K×Addr×aZN)}{k:K}{v:aZN}{Q:VSP}(hu:knd.room A)(hkey:knd.is s.heap k a)(hm:s.heap.DictOfH knd d xs)(hthere:∀p,atKey xs k=some p->Q p.2 {s with toks:=s.toks+knd.draws k})(hnew:atKey xs k=none->∀h',h'.DictOfH knd d (xs++[(k,a,v)])->Heap.SameBut d s.heap h'->Q v {s with heap:=h',toks:=s.toks+knd.draws k})(hsz:xs.length<=sizeLine):wpAny (model prog w) A (dictSetDefault d (.ref a) v) Q E s:=by
 obtain⟨o,es,ep,ho,hc,hd,he,his,hn⟩:=hm;unfold dictSetDefault
 try with_reducible refine aVG ?_
 refine aT8 (knd.pyHash hu hkey (aT8 (wpAny_dictFind_heap (s:={s with toks:=s.toks+knd.draws k}) hu hkey ho hd he his hn ?_ ?_)))
 . intro hno;have hnot:k∉xs.map (·.1):=not_mem_keys_of_get hno;refine aT8 (aV2 (aT8 (wpAny_updateDictKeys (hz:=by have e:=size_of_entries he;omega) (s:={s with toks:=s.toks+knd.draws k}) ho hd (aT7 (hnew (atKey_none_of_get hno) _ ⟨_,_,ep+1,aXE _ ho (Obj.isFreed_of_dict (Obj.data_mapDictKeys hd _)),
     hc.mapDictKeys _,Obj.data_mapDictKeys hd _,?_,?_,?_⟩ (aXH ..))))))
   . simp[he,entryOfKey]
   . intro x hx;rcases aTU.mp hx with hx|hx
     . exact knd.keeps (his x hx) ho hd (aXH ..)
     . simp only[aW7]at hx;subst hx;exact knd.keeps hkey ho hd (aXH ..)
   . rw[aY9,aXT];refine⟨hn,by simp,λx hx y hy=>?_⟩
     simp only[aUK,aVU,aW7]at hy;subst hy;intro z;subst z;exact hnot hx
 . intro j p hj;have h:=hthere p (atKey_of_get hn hj);refine aT8 (aYY (s:={s with toks:=s.toks+knd.draws k}) ho hd ?_)
   rw[entry_at he j,hj];exact aT8 (aV2 (aT7 h))
end
section
variable {a:Addr}{A:aZP}{E:VSP}
def aNL{Q:VSP}{k:N}{z:V}{r:aZN}(hu:A.units+64<cLine)(I:L2.Inv X aA σ H s)(e:H a=some (.dN kvs))(hk:fX X.K H kvs)(kb:NAt X.K H k (.ref b)/\k.dp<=8)(hl:kvs.length<sizeLine)(rz:aI z r)(h1:∀v w' s',bQ kvs k=some v->L2.Inv X aA σ H s'->aI v w'->Q w' s')(h2:∀s',bQ kvs k=none->L2.Inv X aA σ (upd H a (.dN (kvs++[(k,b,z)]))) s'->Q r s'):wpAny (model X.prog X.w) A (call (.builtin "dict.setdefault") [.ref a,.ref b,r]) Q E s:=by
 obtain⟨z1,hd,xs,rel,dd⟩:=mN I (.inl e) hk;have hz:xs.length<=sizeLine:=by rw[<- aTH rel];exact z1
 refine aVJ aZA dd.typeIs PySem.F.entry_dict_setdefault ?_ (PySem.F.args_dict_setdefault_3 _ _ _);unfold Builtin.«dict.setdefault»;refine aT8 ?_;unfold Builtin.Dict.keyAndDefault;refine aT8 (wpAny_notOrdered_dict dd.typeIs ?_);show wpAny _ _ (pure (a,Value.ref b,some r)) _ _ s;refine aT7 ?_;show wpAny _ _ (if(a==sysModules)=true then _ else(dictSetDefault a (.ref b) r>>=_)) _ _ s;rw[if_neg (by rw[hd];exact aT5)]
 refine aT8 (aNK (knd:=lJ X.prog X.w) (oW hu) (k:=k) ⟨NAt.is I _ _ _ kb.1 rfl,kb.2⟩ dd (λp hp=>?_) (λhn h' dd' hs=>?_) hz)
 . have rv:=rel.val k;rw[hp]at rv;cases ev:bQ kvs k with
   |none=>rw[ev]at rv;exact rv.elim
   |some v=>rw[ev]at rv;exact aT7 ⟨_,rfl,h1 v p.2 _ ev (I.tok _) rv⟩
 . have rv:=rel.val k;rw[hn]at rv;cases ev:bQ kvs k with
   |some v=>rw[ev]at rv;exact rv.elim
   |none =>
    obtain⟨q,es,ep,hq,c2,c3,c4,_,c5⟩:=dd';refine aT7 ⟨_,rfl,h2 _ ev (wB I (by rw[e];exact True.intro) hs ⟨q,hq⟩ ⟨?_,hd,_,Paired.snoc rel ⟨rfl,rfl,rz⟩,q,es,ep,hq,c2,c3,c4,c5⟩)⟩
    rw[aU4];exact hl
end
section
variable  {o f:Expr}
def z6(K:Fg)(td ty tx:TE):TE:=λσ H Q=>td σ H λx H1=>∃a,x=.ref a/\sQ H1 a/\ty σ H1 λy H2=>tx σ H2 λz H3=>∃kvs k b,y=.ref b/\H3 a=some (.dN kvs)/\fX K H3 kvs/\(NAt K H3 k (.ref b)/\k.dp<=8)/\kvs.length<sizeLine /\
 (∀v,bQ kvs k=some v->Q v H3)/\(bQ kvs k=none->Q z (upd H3 a (.dN (kvs++[(k,b,z)]))))
def aNM{ty tx:TE}(hu:X.A.units+64<cLine)(ho:PE X o td)(he:PE X e ty)(hf:PE X f tx)(m:M2 X o "setdefault" apos e f cpos):PE X (.Call (.Attribute o "setdefault" apos) [e,f] [] cpos) (z6 X.K td ty tx):=by
 intro aA s σ H Q I h;refine wpAny_Call_method m.base m.few m.line PySem.F.plainAttrs_dict aZA PySem.F.type_dict_setdefault (thn (ho aA s σ H _ I h) λu s1 ⟨x,H1,I1,rx,a,ex,d,q1⟩=>?_);subst ex;obtain rfl:u=Value.ref a:=rx;refine⟨(oZ I1 d).1,(oZ I1 d).2,?_⟩;rw[m.trees];refine aVQ rfl (aVR (aUR (thn (he aA s1 σ H1 _ I1 q1) λiv s2 ⟨y,H2,I2,ry,q2⟩ =>
  aUR (thn (hf aA s2 σ H2 _ I2 q2) λfv s3 ⟨z,H3,I3,rz,kvs,k,b,ey,h3,hk,kb,hl,q3,q4⟩=>aUQ ?_))))
 subst ey;cases ry;exact aNL hu I3 h3 hk kb hl rz (λv w' s' ev I' rv=>⟨v,H3,I',rv,q3 v ev⟩) λs' ev I'=>⟨z,_,I',rz,q4 ev⟩
end
abbrev GX:=N×Addr×Addr×List V
abbrev GD:=List (N×List D)
def cJ(x:GX):N×Addr×V:=(x.1,x.2.1,.ref x.2.2.1)
def cB(K:Fg)(F:Hp):GD->List GX->Prop
 |[],xs=>xs=[]
 |(k,ds)::r,xs=>∃x ys,xs=x::ys/\x.1=k/\aC K F ds x.2.2.2/\cB K F r ys
structure GIn(K:Fg)(F H H0:Hp)(a:Addr)(kvs:GD)(xs:List GX):Prop where
 at_:H a=some (.dN (xs.map cJ))
 fa:F a=none
 ha:H0 a=none
 nd:(xs.map λx=>x.2.2.1).Nodup
 kn:(xs.map λx=>x.1).Nodup
 each:∀x∈xs,H x.2.2.1=some (.lst x.2.2.2)/\F x.2.2.1=none/\H0 x.2.2.1=none/\x.2.2.1≠a/\NAt K F x.1 (.ref x.2.1)/\x.1.dp<=8
 rep:cB K F kvs xs
theorem cB.mono{F:Hp}(s:aD F F'):∀{kvs:GD}{xs:List GX},cB K F kvs xs->cB K F' kvs xs
 |[],_,h=>h
 |(k,ds)::r,_,h=>by obtain⟨x,ys,rfl,e,q,t⟩:=h;exact⟨x,ys,rfl,e,q.mono s _ _,t.mono s⟩
theorem cB.len{F:Hp}:∀{kvs:GD}{xs:List GX},cB K F kvs xs->xs.length=kvs.length
 |[],_,h=>by have h:_=[]:=h;subst h;rfl
 |(k,ds)::r,_,h=>by obtain⟨x,ys,rfl,e,q,t⟩:=h;rw[aUJ,aUJ,t.len]
def GIn.step{F:Hp}{a:Addr}{kvs:GD}{xs:List GX}(g:GIn K F H H0 a kvs xs)(st:aE F H F' H'):GIn K F' H' H0 a kvs xs :=
 ⟨st.same _ _ g.at_,st.new _ g.fa (by rw[g.at_];exact λz=>nomatch z),g.ha,g.nd,g.kn,λx hx=>by
  obtain⟨e1,e2,e3,e4,e5,e6⟩:=g.each x hx
  exact⟨st.same _ _ e1,st.new _ e2 (by rw[e1];exact λz=>nomatch z),e3,e4,NAt.mono st.fsame _ _ e5,e6⟩,g.rep.mono st.fsame⟩
def GIn.keys{F:Hp}{a:Addr}{kvs:GD}{xs:List GX}(g:GIn K F H H0 a kvs xs)(s:aD F H):fX K H (xs.map cJ):=λp hp=>by obtain⟨x,hx,rfl⟩:=aY7.mp hp;obtain⟨_,_,_,_,e5,e6⟩:=g.each x hx;exact⟨NAt.mono s _ _ e5,e6⟩
def cK(kvs:GD)(k:N):Option (List D):=(kvs.find? λkv=>decide (kv.1=k)).map (·.2)
def pC(kvs:GD)(k:N)(ds:List D):GD:=kvs.map λkv=>if kv.1=k then(kv.1,ds)else kv
def eS(kvs:GD)(k:N)(d:D):GD:=match cK kvs k with
 |some ds=>pC kvs k (ds++[d])
 |none=>kvs++[(k,[d])]
theorem cB.find {K : W.Frag} {F : Hp} {k : N} : ∀ {kvs : GD} {xs : List GX}, cB K F kvs xs → match cK kvs k with
    |some ds=>∃x,x∈xs/\x.1=k/\aC K F ds x.2.2.2/\bQ (xs.map cJ) k=some (.ref x.2.2.1)
    |none=>bQ (xs.map cJ) k=none
 |[],_,h=>by have h:_=[]:=h;subst h;rfl
 |(k',ds)::r,_,h=>by
  obtain⟨x,ys,rfl,e,q,t⟩:=h;by_cases hk:k'=k
  . have:cK ((k',ds)::r) k=some ds:=by simp[cK,aYQ,hk]
    rw[this];exact⟨x,mcs,e.trans hk,q,by rw[aUK,oU (p:=cJ x) (e.trans hk)];rfl⟩
  . have:cK ((k',ds)::r) k=cK r k:=by simp[cK,aYQ,hk]
    rw[this];have ih:=cB.find (k:=k) t;have hv:bQ ((x::ys).map cJ) k=bQ (ys.map cJ) k:=by rw[aUK,oV (p:=cJ x) (λz=>hk (e.symm.trans z))]
    cases eg:cK r k with
    |some es=>rw[eg]at ih;obtain⟨y,hy,a,b,c⟩:=ih;exact⟨y,mcm hy,a,b,by rw[hv];exact c⟩
    |none=>rw[eg]at ih;show bQ ((x::ys).map cJ) k=none;rw[hv];exact ih
theorem cB.snoc{K:Fg}{F:Hp}{x:GX}{ds:List D}(r:aC K F ds x.2.2.2):∀{kvs:GD}{xs:List GX},cB K F kvs xs->cB K F (kvs++[(x.1,ds)]) (xs++[x])
 |[],_,h=>by have h:_=[]:=h;subst h;exact⟨x,[],rfl,rfl,r,rfl⟩
 |(k,es)::t,_,h=>by obtain⟨y,ys,rfl,e,q,s⟩:=h;exact⟨y,ys++[x],rfl,e,q,cB.snoc r s⟩
def dQ(c:Addr)(ys:List V)(x:GX):GX:=if x.2.2.1=c then(x.1,x.2.1,c,ys)else x
theorem z7(c:Addr)(ys:List V):∀xs:List GX,(xs.map (dQ c ys)).map cJ=xs.map cJ
 |[]=>rfl
 |x::xs=>by
  rw[aUK,aUK,aUK,z7 c ys xs];unfold dQ;split
  . rename_i h;unfold cJ;rw[h]
  . rfl
theorem z8(c:Addr)(ys:List V):∀xs:List GX,(xs.map (dQ c ys)).map (λx=>x.2.2.1)=xs.map λx=>x.2.2.1
 |[]=>rfl
 |x::xs=>by
  rw[aUK,aUK,aUK,z8 c ys xs];unfold dQ;split
  . rename_i h;rw[h]
  . rfl
theorem cB.put{K:Fg}{F:Hp}{k:N}{c:Addr}{ds:List D}{ys:List V}(r:aC K F ds ys):∀{kvs:GD}{xs:List GX},(∀x∈xs,x.1=k↔x.2.2.1=c)->cB K F kvs xs->cB K F (pC kvs k ds) (xs.map (dQ c ys))
 |[],_,_,h=>by have h:_=[]:=h;subst h;rfl
 |(k',es)::t,_,hk,h=>by
  obtain⟨y,zs,rfl,e,q,s⟩:=h;have ih:=cB.put r (λx hx=>hk x (mcm hx)) s;have hy:=hk y mcs;show cB K F ((if k'=k then(k',ds)else(k',es))::pC t k ds) (dQ c ys y::zs.map (dQ c ys));by_cases z:k'=k
  . rw[if_pos z];have hc:y.2.2.1=c:=hy.mp (e.trans z);refine⟨_,_,rfl,?_,?_,ih⟩
    . unfold dQ;rw[if_pos hc];exact e
    . unfold dQ;rw[if_pos hc];exact r
  . rw[if_neg z];have hc:y.2.2.1≠c:=λw=>z (e.symm.trans (hy.mpr w));refine⟨_,_,rfl,?_,?_,ih⟩
    . unfold dQ;rw[if_neg hc];exact e
    . unfold dQ;rw[if_neg hc];exact q
theorem z9:∀{xs:List GX},(xs.map λx=>x.2.2.1).Nodup->∀{x y:GX},x∈xs->y∈xs->x.2.2.1=y.2.2.1->x=y
 |z::l,nd,x,y,hx,hy,e=>by
  rw[aUK,aUU]at nd;rcases aTT.mp hx with ex|mx
  . rcases aTT.mp hy with ey|my
    . rw[ex,ey]
    . exact absurd (aY7.mpr ⟨y,my,by rw[<- e,ex]⟩) nd.1
  . rcases aTT.mp hy with ey|my
    . exact absurd (aY7.mpr ⟨x,mx,by rw[e,ey]⟩) nd.1
    . exact z9 nd.2 mx my e
def GIn.key_inj{F:Hp}{a:Addr}{kvs:GD}{xs:List GX}(g:GIn K F H H0 a kvs xs):∀{x y:GX},x∈xs->y∈xs->x.1=y.1->x=y:=by
 have key:∀{xs:List GX},(xs.map λx=>x.1).Nodup->∀{x y:GX},x∈xs->y∈xs->x.1=y.1->x=y:=by
  intro xs
  induction xs with
  |nil=>intro _ x y hx;cases hx
  |cons z l ih =>
   intro nd x y hx hy e;rw[aUK,aUU]at nd;rcases aTT.mp hx with ex|mx
   . rcases aTT.mp hy with ey|my
     . rw[ex,ey]
     . exact absurd (aY7.mpr ⟨y,my,by rw[<- e,ex]⟩) nd.1
   . rcases aTT.mp hy with ey|my
     . exact absurd (aY7.mpr ⟨x,mx,by rw[e,ey]⟩) nd.1
     . exact ih nd.2 mx my e
 intro x y hx hy e;exact key g.kn hx hy e
theorem aAA{k:N}:∀{xs:List GX},bQ (xs.map cJ) k=none->∀x∈xs,x.1≠k
 |[],_,x,hx=>by cases hx
 |y::ys,h,x,hx=>by
  by_cases e:y.1=k
  . rw[aUK,oU (p:=cJ y) e]at h;cases h
  . rw[aUK,oV (p:=cJ y) e]at h;rcases aTT.mp hx with rfl|hx
    . exact e
    . exact aAA h x hx
theorem aAB(c:Addr)(ys:List V):∀xs:List GX,(xs.map (dQ c ys)).map (λx=>x.1)=xs.map λx=>x.1
 |[]=>rfl
 |x::xs=>by rw[aUK,aUK,aUK,aAB c ys xs];unfold dQ;split <;> rfl
def fZ(ρ:Rho):Prop:=∀(j:Nat) d,ρ[j]?≠some (some (true,d))
def iM(ρ:Rho):Bool:=ρ.all λx=>match x with|some (true,_)=>false|_=>true
def aAC(h:iM ρ=true):fZ ρ:=λj d e=>by have:=aWI.mp h _ (aU3 e);cases this
def aM.other{F:Hp}{o:HO}(R:aM K F0 H0 F H σ ρ)(n:fZ ρ)(hf:F b=none)(h0:H0 b=none):aM K F0 H0 F (upd H b o) σ ρ:=by
 refine⟨⟨λc u q=>by rw[aH (bL q h0)];exact R.st.same c u q,R.st.fsame,λc u q=>by rw[aH (bL q hf)];exact R.st.sub c u q,R.st.new⟩,λj m d e=>?_,λi j d d' a _ e1 _ _ _=>(n i d e1).elim,R.len⟩
 obtain⟨v,e1,r,e3⟩:=R.slot j m d e;cases m with
 |true=>exact(n j d e).elim
 |false=>exact⟨v,e1,r,e3⟩
abbrev GM:=Rho->GD->Option (Rho×GD)
def PGb(C:Cw)(X:Cx)(st:Stmt)(i:Nat)(g:GM):Prop:=∀a:Addr,PS X st λE σ H=>∃ρ F kvs xs,aM X.K C.F0 C.H0 F H σ ρ/\fZ ρ/\σ[i]? = some (some (.ref a))/\GIn X.K F H C.H0 a kvs xs/\∃ρ' kvs',g ρ kvs=some (ρ',kvs') /\
 ∀σ' F' H' xs',aD F F'->aM X.K C.F0 C.H0 F' H' σ' ρ'->fZ ρ'->σ'[i]? = some (some (.ref a))->GIn X.K F' H' C.H0 a kvs' xs'->E.nx σ' H'
def iN(i:Nat)(gk gv:Rho->Res):GM:=λρ kvs=>match aK (gk ρ)with
 |.ok .fz kd=>(match eG kd with
  |some k=>(match aK (gv ρ)with
   |.ok .fz d=>if(decide (kvs.length<sizeLine)&&kvs.all λkv=>decide (kv.2.length<sizeLine))=true then some (ρ,eS kvs k d)else none
   |_=>none)
  |none=>none)
 |_=>none
section
variable  {ve:Expr}{gk gv:Rho->Res}{x:Str}{ap1 cp1 ap2 cp2 lp:Pos}
def aNN(i:Nat)(hu:X.A.units+64<cLine)(hv:PE X (.Name x p) (jW i))(hk:PV C X ke gk)(he:PV C X ve gv)(hs:bC ke=true)(hs2:bC ve=true)(l1:ap1.endLine=cp1.line)(l2:ap2.endLine=cp2.line):PGb C X (.Expr (.Call (.Attribute (.Call (.Attribute (.Name x p) "setdefault" ap1) [ke,.List [] lp] [] cp1) "append" ap2) [ve] [] cp2) pos) i (iN i gk gv):=by
 intro a; have uT := aNM (X := X) (o := .Name x p) (e := ke) (f := .List [] lp) (apos := ap1) (cpos := cp1) hu hv (fP hk) (vK fO) ⟨j8 rfl, by
     rw[j7 _ _ (λz hz=>by
      simp only[aTT,aXK,aXL]at hz;rcases hz with rfl|rfl
      . exact hs
      . rfl)];rfl,aUI.mpr l1,by rw[bG hs];rfl⟩
 have h1 := wA (X := X) (o := .Call (.Attribute (.Name x p) "setdefault" ap1) [ke, .List [] lp] [] cp1) (e := ve) (es := []) (apos := ap2) (cpos := cp2) PySem.F.plainAttrs_list PySem.F.slot_list_append PySem.F.type_list_append rA uT (gN (fP he) fO (bG hs2)) (j8 rfl) (by
     rw[j7 _ _ (λy hy=>by simp only[aTT,aXK,aXL]at hy;subst hy;exact hs2)];rfl) (aUI.mpr l2) (bG hs2) rfl
 refine PS.imp (qQ h1) λE σ H q=>?_;obtain⟨ρ,F,kvs,xs,R,no,ei,G,ρ',kvs',eg,w⟩:=q;unfold iN at eg;cases ek:aK (gk ρ)with
 |stuck=>rw[ek]at eg;cases eg
 |exc c=>rw[ek]at eg;cases eg
 |ok mk kd =>
 have:=rS ek;subst this;rw[ek]at eg;dsimp only at eg;cases e8:eG kd with
 |none=>rw[e8]at eg;cases eg
 |some k =>
 rw[e8]at eg;dsimp only at eg;cases ev:aK (gv ρ)with
 |stuck=>rw[ev]at eg;cases eg
 |exc c=>rw[ev]at eg;cases eg
 |ok mv d =>
 have:=rS ev;subst this;rw[ev]at eg;dsimp only at eg;have hc:(decide (kvs.length<sizeLine)&&kvs.all λkv=>decide (kv.2.length<sizeLine))=true:=by
  cases z:(decide (kvs.length<sizeLine)&&kvs.all λkv=>decide (kv.2.length<sizeLine))with
  |true=>rfl
  |false=>rw[z]at eg;cases eg
 rw[if_pos hc]at eg;rw[aVL,aV9,aWI]at hc;cases eg;unfold qP tBM z6;refine⟨.ref a,ei,a,rfl,⟨_,.inl G.at_⟩,?_⟩;rw[aR];refine⟨ρ,F,R,?_⟩;show aQ (C.at X) F H σ (aK (gk ρ)) _;rw[ek];intro kv F1 H1 st1 rk _;obtain⟨b,rfl,nb,dp⟩:=sM e8 rk;have G1:=G.step st1;have R1:=R.step st1;refine⟨aUP _,λc hc0=>?_⟩;have st2:aE F1 H1 F1 (upd H1 c (.lst [])):=aE.fresh _ st1.sub hc0;have G2:=G1.step st2;have R2:=R1.step st2;have cf:F1 c=none:=st1.sub.free hc0;have c0:C.H0 c=none:=R1.st.same.free hc0;have ca:c≠a:=λz=>by rw[z,G1.at_]at hc0;cases hc0
 have cx:∀x∈xs,x.2.2.1≠c:=λx hx z=>by have:=(G1.each x hx).1;rw[z,hc0]at this;cases this
 have lx:=G.rep.len;refine⟨xs.map cJ,k,b,rfl,G2.at_,G2.keys st2.sub,⟨NAt.mono st2.sub _ _ nb,dp⟩,by rw[aUL,lx];exact hc.1,λv ev2=>?_,λen=>?_⟩
 . -- it is there
   have fd:=G.rep.find (k:=k);cases eg:cK kvs k with
   |none=>rw[eg]at fd;rw[show bQ (xs.map cJ) k=none from fd]at ev2;cases ev2
   |some ds =>
    rw[eg]at fd;obtain⟨y,hy,ey,rl,vy⟩:=fd;rw[vy]at ev2;cases ev2;obtain⟨q1,q2,q3,q4,q5,q6⟩:=G2.each y hy;refine⟨.inl ⟨rfl,_,SqL.of q1⟩,?_⟩;unfold eB;rw[aR];refine⟨ρ,F1,R2,?_⟩;show aQ (C.at X) F1 _ σ (aK (gv ρ)) _;rw[ev];intro vv F3 H3 st3 rv _;have G3:=G2.step st3;have R3:=R2.step st3;obtain⟨p1,p2,p3,p4,p5,p6⟩:=G3.each y hy;have rl3:aC X.K F3 ds y.2.2.2:=rl.mono ((st1.fsame.trans st2.fsame).trans st3.fsame) _ _;have ly:ds.length<sizeLine:=by
     have hm:∃kv∈kvs,kv.2=ds:=by unfold cK at eg;obtain⟨kv,h1,h2⟩:=aYR.mp eg;exact⟨kv,aW2 h1,h2⟩
     obtain⟨kv,hkv,rfl⟩:=hm;simpa using hc.2 kv hkv
    refine⟨y.2.2.1,y.2.2.2,vv,rfl,rfl,p1,by rw[rl3.length];exact ly,?_⟩
    have kc:∀x∈xs,x.1=k↔x.2.2.1=y.2.2.1:=λx hx=>⟨λz=>by
     have:=G.key_inj hx hy (z.trans ey.symm);rw[this],λz=>by rw[z9 G.nd hx hy z];exact ey⟩
    refine w σ F3 _ (xs.map (dQ y.2.2.1 (y.2.2.2++[vv]))) ((st1.fsame.trans st2.fsame).trans st3.fsame) (R3.other no p2 p3) no ei ?_;refine⟨by rw[aH (λz=>p4 z.symm),z7];exact G3.at_,G3.fa,G3.ha,by rw[z8];exact G3.nd,by rw[aAB];exact G3.kn,λz hz=>?_,?_⟩
    . obtain⟨u,hu',rfl⟩:=aY7.mp hz;obtain⟨t1,t2,t3,t4,t5,t6⟩:=G3.each u hu';unfold dQ;by_cases hc':u.2.2.1=y.2.2.1
      . rw[if_pos hc'];exact⟨aT,p2,p3,p4,t5,t6⟩
      . rw[if_neg hc'];exact⟨by rw[aH hc'];exact t1,t2,t3,t4,t5,t6⟩
    . unfold eS;rw[eg];exact cB.put (aC.append rl3 (aC.cons rv aC.nil)) kc G3.rep
 . -- it is new
   have fd:=G.rep.find (k:=k);cases eg:cK kvs k with
   |some ds=>rw[eg]at fd;obtain⟨y,hy,ey,rl,vy⟩:=fd;rw[vy]at en;cases en
   |none =>
    let H3:Hp:=upd (upd H1 c (.lst [])) a (.dN (xs.map cJ++[(k,b,.ref c)]))
    have R3:aM X.K C.F0 C.H0 F1 H3 σ ρ:=R2.other no G2.fa G2.ha;have hcc:H3 c=some (.lst []):=by show upd (upd H1 c (.lst [])) a _ c=_;rw[aH ca,aT]
    let nx:GX:=(k,b,c,[])
    have G3:GIn X.K F1 H3 C.H0 a (kvs++[(k,[])]) (xs++[nx]):=by
     refine⟨?_,G2.fa,G2.ha,?_,?_,λz hz=>?_,cB.snoc (x:=nx) aC.nil G2.rep⟩
     . show upd _ a _ a=_;rw[aT,aY9];rfl
     . rw[aY9,aXT];refine⟨G.nd,by simp,λp hp q hq=>?_⟩
       simp only[aUK,aVU,aW7]at hq;subst hq;obtain⟨u,hu',rfl⟩:=aY7.mp hp;exact cx u hu'
     . rw[aY9,aXT];refine⟨G.kn,by simp,λp hp q hq=>?_⟩
       simp only[aUK,aVU,aW7]at hq;subst hq;obtain⟨u,hu',rfl⟩:=aY7.mp hp;exact aAA en u hu'
     . rcases aTU.mp hz with hz|hz
       . obtain⟨t1,t2,t3,t4,t5,t6⟩:=G2.each z hz;exact⟨by show upd _ a _ _=_;rw[aH t4];exact t1,t2,t3,t4,t5,t6⟩
       . obtain rfl:z=nx:=by simpa using hz
         exact⟨hcc,cf,c0,ca,nb,dp⟩
    refine⟨.inl ⟨rfl,_,SqL.of hcc⟩,?_⟩;unfold eB;rw[aR];refine⟨ρ,F1,R3,?_⟩;show aQ (C.at X) F1 _ σ (aK (gv ρ)) _;rw[ev];intro vv F4 H4 st4 rv _;have G4:=G3.step st4;have R4:=R3.step st4;have hn:nx∈xs++[nx]:=aUE _ mcs;obtain⟨p1,p2,p3,p4,p5,p6⟩:=G4.each nx hn;refine⟨c,[],vv,rfl,rfl,p1,by rw[aUF];decide,?_⟩
    refine w σ F4 _ (xs++[(k,b,c,[vv])]) ((st1.fsame.trans st2.fsame).trans st4.fsame) (R4.other no p2 p3) no ei ?_;refine⟨?_,G4.fa,G4.ha,?_,?_,λz hz=>?_,?_⟩
    . rw[aH (λz=>p4 z.symm),G4.at_];rw[aY9,aY9];rfl
    . have:=G4.nd;rw[aY9]at this ⊢;exact this
    . have:=G4.kn;rw[aY9]at this ⊢;exact this
    . rcases aTU.mp hz with hz|hz
      . obtain⟨t1,t2,t3,t4,t5,t6⟩:=G4.each z (aTV _ hz);exact⟨by rw[aH (cx z hz)];exact t1,t2,t3,t4,t5,t6⟩
      . obtain rfl:z=(k,b,c,[vv]):=by simpa using hz
        exact⟨aT,p2,p3,p4,p5,p6⟩
    . unfold eS;rw[eg];exact cB.snoc (x:=(k,b,c,[vv])) (aC.cons rv aC.nil) (G2.rep.mono st4.fsame)
end
def jL(t:Tg)(g:GM):List D->GM
 |[],ρ,kvs=>some (ρ,kvs)
 |d::ds,ρ,kvs=>match aP t d ρ with
  |some ρ1=>if iM ρ1=true then(match g ρ1 kvs with|some (ρ2,kvs2)=>jL t g ds ρ2 kvs2|none=>none)else none
  |none=>none
def kN(t:Tg)(gi:Rho->Res)(g:GM):GM:=λρ kvs=>match gi ρ with
 |.ok _ (.lst ds)=>jL t g ds ρ kvs
 |_=>none
section
variable {t:Tg}{g:GM}
def aNO(hp:PassesOwn (model X.prog X.w) X.A X.env X.xe)(hc:X.calm=true)(hi:PIv C X tg e gi)(hg:PGw X tg t)(hit:i∉eE t)(hb:PGb C X st i g)(hs:∀x,foldedSetIterable e X.env x=pure x):PGb C X (.For tg e [st] [] pos) i (kN t gi g):=by
 intro a;refine PS.imp (vE hp hc hi hg (aD2 (hb a)) hs) λE σ H q=>?_;obtain⟨ρ,F,kvs,xs,R,no,ei,G,ρE,kvsE,eg,w⟩:=q;unfold qS;refine⟨ρ,F,R,?_⟩;unfold kN at eg;cases er:gi ρ with
 |stuck=>rw[er]at eg;cases eg
 |exc c=>rw[er]at eg;cases eg
 |ok m d =>
  rw[er]at eg;cases d with
  |lst ds =>
   dsimp only at eg;intro J F1 H1 s1 hJ;refine⟨λj m σ' H'=>m=ds.length-j/\j<=ds.length/\∃ρ' F' kvs' xs',aD F1 F'/\aM X.K C.F0 C.H0 F' H' σ' ρ'/\fZ ρ'/\σ'[i]? = some (some (.ref a))/\GIn X.K F' H' C.H0 a kvs' xs'/\jL t g (ds.drop j) ρ' kvs'=some (ρE,kvsE),
    ⟨ds.length,by simp,aUP _,ρ,F1,kvs,xs,aD.refl _,R.step s1,no,ei,G.step s1,by simpa using eg⟩,?_⟩
   rintro j m σ' H' ⟨rfl,hj,ρ',F',kvs',xs',sF,R',no',ei',G',eg'⟩;by_cases hlt:j<ds.length
   . refine .inr ⟨hJ.go j H' (sF.trans R'.sub) hlt,λσ2 H2=>∃ρ2 F2 kvs2 xs2,aD F1 F2/\aM X.K C.F0 C.H0 F2 H2 σ2 ρ2/\fZ ρ2/\σ2[i]? = some (some (.ref a))/\GIn X.K F2 H2 C.H0 a kvs2 xs2/\jL t g (ds.drop (j+1)) ρ2 kvs2=some (ρE,kvsE),
       λσ2 H2 ⟨ρ2,F2,k2,x2,a1,a2,a3,a4,a5,a6⟩=>⟨ds.length-(j+1),by omega,rfl,hlt,ρ2,F2,k2,x2,a1,a2,a3,a4,a5,a6⟩,λx H2 y=>?_⟩
     obtain⟨F2,d,ed,s2,rd⟩:=hJ.yld j F' H' x H2 sF R'.sub hlt y;have hd:ds.drop j=d::ds.drop (j+1):=by rw[aWR hlt];rw[aWL hlt]at ed;cases ed;rfl
     rw[hd]at eg';unfold jL at eg';cases es:aP t d ρ' with
     |none=>rw[es]at eg';cases eg'
     |some ρ1 =>
      rw[es]at eg';dsimp only at eg';cases en:iM ρ1 with
      |false=>rw[en]at eg';cases eg'
      |true =>
       rw[en,if_pos rfl]at eg';cases eb:g ρ1 kvs' with
       |none=>rw[eb]at eg';cases eg'
       |some q =>
        obtain⟨ρ2,kvs2⟩:=q;rw[eb]at eg';dsimp only at eg';refine oE t (R'.step s2) rd es λσ3 R3 l3 k3=>?_;refine⟨ρ1,F2,kvs',xs',R3,aAC en,by rw[k3 i hit];exact ei',G'.step s2,ρ2,kvs2,eb,?_⟩
        exact λσ4 F4 H4 xs4 z4 R4 n4 e4 G4=>⟨ρ2,F4,kvs2,xs4,(sF.trans s2.fsame).trans z4,R4,n4,e4,G4,eg'⟩
   . have ej:j=ds.length:=by omega
     subst ej;refine .inl ⟨hJ.stop _ H' (sF.trans R'.sub) (aUA _),?_⟩;rw[aWS]at eg';cases eg';exact w σ' F' H' xs' (s1.fsame.trans sF) R' no' ei' G'
  |_=>cases eg
end
def kP(i:Nat)(g:GM)(ρ:Rho):aF:=if(decide (i<ρ.length)&&iM (ρ.set i none))=true then(match g (ρ.set i none) []with
 |some (ρ',kvs)=>.nx (ρ'.set i (some (true,.dtn (kvs.map λkv=>(kv.1,.lst kv.2)))))
 |none=>.stuck)else .stuck
def aM.hide{F:Hp}(i:Nat)(v:V)(R:aM K F0 H0 F H σ ρ)(n:fZ (ρ.set i none)):aM K F0 H0 F H (σ.set i (some v)) (ρ.set i none):=by
 refine⟨R.st,λj m d e=>?_,λj k d d' a _ e1 _ _ _=>(n j d e1).elim,by rw[aWN,aWN];exact R.len⟩
 by_cases hj:j=i
 . subst hj;rw[aWO]at e;split at e
   . split at e <;> cases e
   . rename_i z;exact absurd rfl z
 . rw[aTY (λz=>hj z.symm)]at e ⊢;exact R.slot j m d e
theorem aAD{K:Fg}{F H:Hp}:∀{kvs:GD}{xs:List GX},cB K F kvs xs->(∀x∈xs,F x.2.2.1=some (.lst x.2.2.2)/\NAt K F x.1 (.ref x.2.1)/\x.1.dp<=8)->aN K F (kvs.map λkv=>(kv.1,.lst kv.2)) (xs.map cJ)
 |[],_,h,_=>by have h:_=[]:=h;subst h;simp only[aVU,aN]
 |(k,ds)::r,_,h,each=>by
  obtain⟨x,ys,rfl,e,q,t⟩:=h;obtain⟨e1,e2,e3⟩:=each x mcs;have ih:=aAD (H:=H) t λy hy=>each y (mcm hy);rw[aUK,aUK];simp only[aN];refine⟨x.2.1,.ref x.2.2.1,ys.map cJ,by rw[<- e];rfl,⟨by rw[<- e];exact e2,by rw[<- e];exact e3⟩,?_,ih⟩
  simp only[aB];exact⟨x.2.2.1,x.2.2.2,rfl,SqL.of e1,q⟩
def aNP{F:Hp}{a:Addr}{kvs:GD}{xs:List GX}(R:aM K F0 H0 F H σ ρ)(n:fZ ρ)(ei:σ[i]? = some (some (.ref a)))(G:GIn K F H H0 a kvs xs):∃F',aD F F'/\aM K F0 H0 F' H σ (ρ.set i (some (true,.dtn (kvs.map λkv=>(kv.1,.lst kv.2))))):=by
 let F':Hp:=λb=>if b∈xs.map (λx=>x.2.2.1)then H b else F b
 have inL:∀{b:Addr},b∈xs.map (λx=>x.2.2.1)->F' b=H b:=λhb=>if_pos hb;have out:∀{b:Addr},b∉xs.map (λx=>x.2.2.1)->F' b=F b:=λhb=>if_neg hb;have sF:aD F F':=λb o e=>by
  by_cases hb:b∈xs.map (λx=>x.2.2.1)
  . obtain⟨x,hx,rfl⟩:=aY7.mp hb;have:=(G.each x hx).2.1;rw[e]at this;cases this
  . rw[out hb];exact e
 have sub:aD F' H:=λb o e=>by
  by_cases hb:b∈xs.map (λx=>x.2.2.1)
  . rw[inL hb]at e;exact e
  . rw[out hb]at e;exact R.sub b o e
 have na:a∉xs.map (λx=>x.2.2.1):=λhb=>by obtain⟨x,hx,e⟩:=aY7.mp hb;exact(G.each x hx).2.2.2.1 e
 refine⟨F',sF,⟨R.st.same,R.st.fsame.trans sF,sub,λb h1 h2=>?_⟩,λj m d e=>?_,λj k d d' b hjk e1 e2 q1 q2=>?_,by rw[aWN];exact R.len⟩
 . by_cases hb:b∈xs.map (λx=>x.2.2.1)
   . obtain⟨x,hx,rfl⟩:=aY7.mp hb;exact absurd (G.each x hx).2.2.1 h2
   . rw[out hb];exact R.st.new b h1 h2
 . by_cases hj:j=i
   . subst hj;rw[aWO]at e;rw[if_pos rfl]at e;split at e
     . cases e;refine⟨.ref a,ei,⟨a,rfl,by rw[out na];exact G.fa,_,G.at_,?_⟩,λ_ b eb=>by cases eb;exact G.ha⟩
       exact aAD (H:=H) (G.rep.mono sF) λx hx=>by obtain⟨t1,_,_,_,t5,t6⟩:=G.each x hx;exact⟨by rw[inL (aY7.mpr ⟨x,hx,rfl⟩)];exact t1,NAt.mono sF _ _ t5,t6⟩
     . cases e
   . rw[aTY (λz=>hj z.symm)]at e;obtain⟨v,e1,r,e3⟩:=R.slot j m d e;cases m with
     |true=>exact(n j d e).elim
     |false=>exact⟨v,e1,aB.mono sF _ _ r,e3⟩
 . by_cases hj:j=i
   . by_cases hk:k=i
     . exact hjk (hj.trans hk.symm)
     . rw[aTY (λz=>hk z.symm)]at e2;exact n k d' e2
   . rw[aTY (λz=>hj z.symm)]at e1;exact n j d e1
section
variable {g:GM}{x:Str}{sp:Pos}{rest:List Stmt}{h:Rho->aF}
def aNQ(hN:X.N.Nodup)(hi:X.N[i]? = some x)(hx:Loc X.env.scope x)(hf:X.fn x=true\/X.env.scope.names.lookup x=some .local)(hb:PGb C X st i g)(hr:PBv C X rest h)(hs:swapsWith (.Dict [] [] p2) (some (.Name x p1)) sp.line X.env=pure false):PBv C X (.Assign [.Name x p1] (.Dict [] [] p2) sp::st::rest) (λρ=>(kP i g ρ).thn h):=by
 have b2 : PS X st (fun E σ H => ∃ a : Addr, ∃ ρ F kvs xs, aM X.K C.F0 C.H0 F H σ ρ ∧ fZ ρ ∧ σ[i]? = some (some (.ref a)) ∧ GIn X.K F H C.H0 a kvs xs ∧ ∃ ρ' kvs', g ρ kvs = some (ρ', kvs') ∧
     ∀σ' F' H' xs',aD F F'->aM X.K C.F0 C.H0 F' H' σ' ρ'->fZ ρ'->σ'[i]? = some (some (.ref a))->GIn X.K F' H' C.H0 a kvs' xs'->E.nx σ' H'):=λaA s σ H D I ⟨a,q⟩=>hb a aA s σ H D I q
 refine PSs.imp (lB (vC hN hi hx yY hs hf) (lB b2 hr)) λE σ H q=>?_;obtain⟨ρ,F,R,w⟩:=q;dsimp only at w;unfold kP at w;cases en':(decide (i<ρ.length)&&iM (ρ.set i none))with
 |false=>rw[en']at w;exact w.elim
 |true =>
  rw[en',if_pos rfl]at w;rw[aVL,aV9]at en';obtain⟨hil,en⟩:=en';cases eg:g (ρ.set i none) []with
  |none=>rw[eg]at w;exact w.elim
  |some q =>
   obtain⟨ρ',kvs'⟩:=q;rw[eg]at w;dsimp only at w;rw[aF.thn_nx]at w;have no:=aAC en;intro a ha;have st1:aE F H F (upd H a (.dN [])):=aE.fresh _ R.sub ha;have R1:aM X.K C.F0 C.H0 F (upd H a (.dN [])) (σ.set i (some (.ref a))) (ρ.set i none):=(R.step st1).hide i (.ref a) no;refine⟨a,ρ.set i none,F,[],[],R1,no,?_,⟨aT,R.sub.free ha,R.st.same.free ha,aXX,aXX,λx hx=>(nomatch hx),rfl⟩,ρ',kvs',eg,?_⟩
   . rw[aTX (by rw[R.len];exact hil)]
   . intro σ' F' H' xs' z R' n' e' G';obtain⟨F2,s2,R2⟩:=aNP R' n' e' G';exact⟨_,F2,R2,bT.mono (z.trans s2) w⟩
end
end D3
set_option genSizeOfSpec false
set_option genInjectivity false
namespace D3
inductive KC where|s (y:Str)|i (n:Int)|t (tb:List (Str×Str))
 deriving DecidableEq
def KC.d:KC->D|.s y=>.str y|.i n=>.int n|.t _=>.non
inductive GV where|con (c:KC)|fn (n:Nat)|no|cls
 deriving DecidableEq
inductive Bn where|len|isinstance|all|min
 deriving DecidableEq
noncomputable def Bn.name:Bn->Str
 |.len => "len" |.isinstance => "isinstance" |.all => "all" |.min => "min"
def Bn.f:Bn->List (Md×D)->Option (Md×D)
 |.len=>dC|.isinstance=>bN|.all=>jB|.min=>l5
def Bn.id:Bn->String
 |.len => "len" |.isinstance => "isinstance" |.all => "all" |.min => "min"
inductive Ty where|int|bool|str|tuple|list|dict
 deriving DecidableEq
def Ty.f:Ty->List (Md×D)->Option (Md×D)
 |.tuple=>eP|.list=>hZ|.int=>kC|.str=>l4|.dict=>oK|_=>λ_=>none
def Ty.id:Ty->String
 |.int => "int" |.bool => "bool" |.str => "str" |.tuple => "tuple" |.list => "list" |.dict => "dict"
structure WD where
 Φ:Str->List D->Res
 Ψ:Str->List D->Res
 I:Str->Option (List D->Res)
 cl:List CI
 xt:List ((Str×Str)×Bool)
 xi:List ((Str×Str)×Bool)
 dp:Bool
noncomputable def WD.pred(W:WD):WD:=⟨W.Ψ,λ_ _=>.stuck,λ_=>none,[],W.xt,W.xi,false⟩
def WD.xf(W:WD):Str->Str->Option Bool:=λc x=>W.xt.lookup (c,x)
def WD.xg(W:WD):Str->Str->Option Bool:=λc x=>W.xi.lookup (c,x)
inductive E where
 |var (i:Nat)|non|bl (b:Bool)|int (i:Int)|str (x:Str)
 |glob (x:Str) (c:KC)|ty (t:Ty)
 |bin (op:Operator) (a b:E)|cmp (op:CmpOp) (a b:E)
 |andL (es:List E)|orL (es:List E)|not (a:E)|neg (a:E)|tru (a:E)|frz (a:E)
 |ix (a b:E)|slice (a:E) (lo hi:Option E)
 |tup (es:List E)|lst (es:List E)
 |call (f:Str) (n:Nat) (es:List E)|bcall (b:Bn) (es:List E)
 |items (a:E)|rng1 (a:E)|enum1 (a:E)
 |comp (elt it:E) (ts:List E) (aG:List Nat) (t:Tg) (n:Nat)
 |chain (op op':CmpOp) (a b c:E)|tcall (t:Ty) (es:List E)
 |usort (a b:E)|usi (a:E)
 |fld (a:E) (f:Str)|meth (o:E) (m:Str) (es:List E)|mk0 (c:Str)|make (c key:Str) (n:Nat) (es:List E)
 |rng3 (a b c:E)|never
 |nnew|nix (a b:E)|nget (a k d:E)|nkeys (a:E)|srtw (a:E)|srtf (f:Str) (a:E)|srtl (a b:E)
def noF:Md->D->Md->D->Option (Md×D):=λ_ _ _ _=>none
def bW:Operator->Md->D->Md->D->Option (Md×D)
 |.Add=>orO fAdd oB|.Sub=>fSub|.Mult=>orO fMul noK|.Mod=>fMod|.FloorDiv=>fDiv|.Pow=>fPow|_=>noF
def aW:CmpOp->Md->D->Md->D->Option (Md×D)
 |.Lt=>orO fLt ltF|.LtE=>fLe|.Gt=>fGt|.GtE=>fGe|.Eq=>fEq|.NotEq=>fNe|.In=>orO fIn (hX false)|.NotIn=>orO aIL (hX true)|.Is=>fIs false|.IsNot=>fIs true
mutual
def evE(W:WD):E->Rho->Res
 |.var i,ρ=>bB ρ i
 |.non,_=>.ok .fz .non
 |.bl b,_=>.ok .fz (.bl b)
 |.int i,_=>.ok .fz (.int i)
 |.str x,_=>.ok .fz (.str x)
 |.glob _ c,_=>.ok .fz c.d
 |.ty t,_=>.ok .fz (.ty t.id)
 |.bin op a b,ρ=>op2 (bW op) (evE W a ρ) (evE W b ρ)
 |.cmp op a b,ρ=>op2 (aW op) (evE W a ρ) (evE W b ρ)
 |.andL es,ρ=>evA W es ρ
 |.orL es,ρ=>dH W es ρ
 |.not a,ρ=>lM (evE W a ρ)
 |.neg a,ρ=>nZ (evE W a ρ)
 |.tru a,ρ=>lL (evE W a ρ)
 |.frz a,ρ=>aK (evE W a ρ)
 |.ix a b,ρ=>op2 ixD (evE W a ρ) (evE W b ρ)
 |.slice a lo hi,ρ=>slP (evE W a ρ) (evO W lo) (evO W hi) ρ
 |.tup es,ρ=>jA (bI W es ρ)
 |.lst es,ρ=>eN (bI W es ρ)
 |.call f n es,ρ=>aO n (W.Φ f) (bI W es ρ)
 |.bcall b es,ρ=>cE b.f (bI W es ρ)
 |.items a,ρ=>eD (aK (evE W a ρ))
 |.rng1 a,ρ=>e9 (aX (evE W a ρ) (.ok []))
 |.rng3 a b c,ρ=>kH (aX (evE W a ρ) (aX (evE W b ρ) (aX (evE W c ρ) (.ok []))))
 |.enum1 a,ρ=>oH (aX (aK (evE W a ρ)) (.ok []))
 |.comp elt it ts aG t n,ρ=>bU (evE W it ρ) ρ aG n (aP t) (λρ=>evF W ts ρ) (λρ=>evE W elt ρ)
 |.chain op op' a b c,ρ=>dE (aW op) (aW op') (evE W a ρ) (evE W b ρ) (evE W c ρ)
 |.tcall t es,ρ=>cE t.f (bI W es ρ)
 |.usort a b,ρ=>usR (evE W a ρ) (evE W b ρ)
 |.usi a,ρ=>iE (evE W a ρ)
 |.fld a f,ρ=>j9 W.cl f (evE W a ρ)
 |.meth o m es,ρ=>gP W.cl W.Φ m (evE W o ρ) (bI W es ρ)
 |.mk0 c,_=>.ok .fr (.ins c [])
 |.make c key n es,ρ=>match W.I key with|some Φ=>fR n Φ (bI W es ρ)|none=>.stuck
 |.never,_=>.stuck
 |.nnew,_=>.ok .fr (.dtn [])
 |.nix a b,ρ=>op2 fD (evE W a ρ) (evE W b ρ)
 |.nget a k d,ρ=>kK (evE W a ρ) (evE W k ρ) (evE W d ρ)
 |.nkeys a,ρ=>mO (evE W a ρ)
 |.srtw a,ρ=>cE iJ (aX (evE W a ρ) (.ok []))
 |.srtf f a,ρ=>if W.dp=true then cW (λd=>W.Ψ f [d]) (evE W a ρ)else .stuck
 |.srtl a b,ρ=>if W.dp=true then cW (λd=>evE W.pred b [some (false,d)]) (evE W a ρ)else .stuck
def bI(W:WD):List E->Rho->bE
 |[],_=>.ok []
 |e::es,ρ=>aX (evE W e ρ) (bI W es ρ)
def evA(W:WD):List E->Rho->Res
 |[],_=>.stuck
 |[e],ρ=>evE W e ρ
 |e::es,ρ=>eM (evE W e ρ) (evA W es ρ)
def dH(W:WD):List E->Rho->Res
 |[],_=>.stuck
 |[e],ρ=>evE W e ρ
 |e::es,ρ=>orR (evE W e ρ) (dH W es ρ)
def evF(W:WD):List E->Rho->Res
 |[],_=>.ok .fz (.bl true)
 |e::es,ρ=>eM (evE W e ρ) (evF W es ρ)
def evL(W:WD):List E->List (Rho->Res)
 |[]=>[]
 |e::es=>evE W e::evL W es
def evO(W:WD):Option E->Option (Rho->Res)
 |none=>none
 |some e=>some (evE W e)
end
structure MG where
 G:List (Str×GV)
 mk0:List Str
 mki:List (Str×Str×Nat)
 iso:List Str
 xcs:List Str
 xns:List Str
structure MC where
 N:List Str
 sc:Scope
 g:MG
 fn:Bool
 calm:Bool
 rz:Bool
 q:Str
noncomputable def MC.kind(m:MC)(x:Str):Option NameKind:=m.sc.names.lookup x
end D3
variable {m:D3.MC}
namespace D3
def MC.vis(m:MC)(x:Str):Bool:=(m.kind x==some .local||m.kind x==some .cell||m.kind x==some .free)&&x != "__debug__" && x != "__classdict__"
def MC.glob(m:MC)(x:Str)(v:GV):Bool:=m.kind x==some .globalImplicit&&m.g.G.lookup x==some v&&x != "__debug__" && x != "__name__"
def MC.gk(m:MC)(x:Str):Bool:=m.kind x==some .globalImplicit&&x != "__debug__"
def strK(x:Str):Bool:=decide (x.length<=sizeLine)&&PyData.strOk x
def tF:Expr->Bool|.Slice ..=>false|_=>true
def aNR:Expr->Bool|.Tuple ..=>true|_=>false
def f8:Expr->Bool|.Set ..=>false|_=>true
def aAE:Expr->Bool|.UnaryOp .Not _ _=>false|.BoolOp ..=>false|.IfExp ..=>false|.Compare ..=>false|_=>true
def MC.sub(m:MC)(scope:Scope)(aL tgN:List Str):MC:={ m with N:=aL++tgN,sc:={scope with names:=lW scope m.sc},fn:=false,rz:=false,q := "" }
def MC.lam(m:MC)(x:Str)(scope:Scope):MC:=⟨[x],scope,{m.g with mk0:=[],mki:=[],iso:=[],xcs:=[],xns:=[]},true,true,false,""⟩
def MC.loc(m:MC)(i:Nat)(x:Str):Bool:=m.N[i]?==some x&&(m.kind x==some .local||(m.fn&&m.kind x==some .cell))
mutual
def mG(m:MC):Tg->Expr->Bool
 |.nm i,e=>match e with|.Name x _=>m.loc i x|_=>false
 |.tp ts,e=>match e with|.Tuple es _ _=>m.calm&&es.all kA&&mGs m ts es|_=>false
def mGs(m:MC):List Tg->List Expr->Bool
 |[],es=>es.isEmpty
 |t::ts,l=>match l with|e::es=>mG m t e&&mGs m ts es|_=>false
end
def fE:Nat->Expr->List Str
 |_,.Name x _=>[x]
 |n+1,.Tuple es _ _=>es.flatMap (fE n)
 |_,_=>[]
def pD(scope sc:Scope)(N:List Str)(aG:List Nat)(aL tgN:List Str):Bool :=
 scope.names.all (λy=>y.2 != .cell)&&scope.kind == .function&&scope.names.all (λy=>y.2 != .local||scope.names.lookup y.1==some .local) &&
 scope.names.all (λy=>y.2 != .free||sc.names.lookup y.1==some .cell||sc.names.lookup y.1==some .free)&&(aL.map some==aG.map λi=>N[i]?)&&aL.all (λy=>scope.names.contains (y,.free)) &&
 aL.all (λy=>(lW scope sc).lookup y==some .cell||(lW scope sc).lookup y==some .free)&&decide (aL++tgN).Nodup
def strK':KC->Bool|.s y=>strK y|.i _=>true|.t _=>false
structure SX(k:Nat)(W:WD)(m:MC)(C:Cw)(X:Cx):Prop where
 hN:X.N=m.N
 hs:X.env.scope=m.sc
 cm:m.calm=true->X.calm=true
 rm:m.calm=true->bD k X.A
 un:X.A.units+64<cLine
 xo:m.calm=true->XOk (CX1 X.prog X.w) (C.at X) X
 xt:rQ X.K X.mg W.xf
 xi:rR X.K X.mg W.xg
 xc:∀c,c∈m.g.xcs->∃Cc,X.mg c=some (.ref Cc)/\xS X.K Cc
 xn:∀n,n∈m.g.xns->∃cv,oJ X.mg n cv
 con:∀x c,m.g.G.lookup x=some (.con c)->match c with|.s y=>∃t,X.mg x=some (.str y t)|.i n=>∃t,X.mg x=some (.int n t)|.t tb=>kD X.w X.K X.mg x tb
 no:∀x,m.g.G.lookup x=some .no->X.mg x=none
 mk0:∀c,c∈m.g.mk0->rF X.K X.mg c
 mki:∀c key n,(c,key,n)∈m.g.mki->∀Φ,W.I key=some Φ->∃j,j+1<=k/\InV X.prog X.w X.K X.mg X.base (CX1 X.prog X.w) j c n Φ
 iso:∀c,c∈m.g.iso->IsV X.K X.mg W.cl c
 fl:∀i f,i∈W.cl->f∈i.flds->FlV X.K i.name f
 mt:∀c m key n,CI.meth W.cl c m=some (key,n)->MtV X.prog X.w X.K X.mg X.base (CX1 X.prog X.w) k c m n (W.Φ key)
 fn:∀x n,m.g.G.lookup x=some (.fn n)->FnV X.prog X.w X.K X.mg X.base (CX1 X.prog X.w) k x n (W.Φ x)
 fnn:m.fn=true->∀x,X.fn x=true
 fp:W.dp=true->∃j,j+1=k/\∀x n,m.g.G.lookup x=some (.fn n)->FnV X.prog X.w X.K X.mg X.base (CX1 X.prog X.w) j x n (W.Ψ x)
 cd:m.q="" \/ (PySem.W.codeIn X.K X.env.code m.q=true/\X.env.qual=m.q ++ ".<locals>.")
section
variable {W:WD}{x y:Expr}
def SX.gl(S:SX k W m C X){v:GV}(h:m.glob z v=true):Gl X z/\m.g.G.lookup z=some v/\(z==("__debug__":Str))=false/\z ≠ "__name__" := by
 unfold MC.glob MC.kind at h;simp only[aVL,aUI,aZB]at h;obtain⟨⟨⟨h1,h2⟩,h3⟩,h4⟩:=h;refine⟨?_,h2,by simpa using h3,h4⟩
 show X.env.scope.names.lookup z=_;rw[S.hs];exact h1
theorem SX.vis(S:SX k W m C X)(h:m.vis z=true):Vis X.env.scope z/\(z==("__debug__":Str))=false/\(z==("__classdict__":Str))=false:=by
 unfold MC.vis MC.kind at h;simp only[aVL,aWB,aUI,aZB]at h;obtain⟨⟨h1,h2⟩,h3⟩:=h;refine⟨?_,by simpa using h2,by simpa using h3⟩
 unfold Vis;rw[S.hs];rcases h1 with(h1|h1)|h1
 . exact .inl h1
 . exact .inr (.inl h1)
 . exact .inr (.inr h1)
def aNS(b:Bn):bootBuiltins b.name=some (.builtin b.id):=by
 cases b
 . exact aIM
 . exact aIN
 . exact aIO
 . exact aJG
def aNT(b:Bn){c:Bool}(hc:c=true->X.calm=true)(h:(c||b == .len||b == .isinstance)=true):dB X (.builtin b.id) b.f:=by
 have hc:(b == .len||b == .isinstance)=false->X.calm=true:=λz=>hc (by cases c with|true=>rfl|false=>rw[Bool.false_or]at h;rw[h]at z;cases z)
 cases b
 . exact aHL
 . exact aHN
 . exact aHS (hc rfl)
 . exact aJD (hc rfl)
def aNU{f:aZN}:dB X f (λ_=>none):=⟨λ_ _ _=>False,λ_ _ _ _ _ _ _ _ _ h=>h.elim,λ_ _ _ _ _ _ _ _ _ e _=>by cases e⟩
def aNV(t:Ty):dB X (.type t.id) t.f:=by
 cases t
 . exact aJ0
 . exact aNU
 . exact aJF
 . exact aJA
 . exact aJB
 . exact aKI
def aAF(t:Ty):bootBuiltins (t.id:Str)=some (.type t.id):=by
 cases t
 . exact aIP
 . exact aIQ
 . exact aIR
 . exact aIS
 . exact aIT
 . exact aIU
def aNW(op:Operator):(∃φ,bW op=φ/\OpD C X (binaryOp op) φ)\/bW op=noF:=by
 cases op
 case Add=>exact .inl ⟨_,rfl,o_add.or aI9⟩
 case Sub=>exact .inl ⟨_,rfl,aGQ⟩
 case Mult=>exact .inl ⟨_,rfl,o_mul.or oA⟩
 case Mod=>exact .inl ⟨_,rfl,aGT⟩
 case FloorDiv=>exact .inl ⟨_,rfl,aGV⟩
 case Pow=>exact .inl ⟨_,rfl,aGW⟩
 all_goals exact .inr rfl
def aAG:IsB noK:=λ_ _ _ _ _ _ z=>by cases z
def aNX(op:CmpOp)(hu:X.A.units+64<cLine):(OpD C X (compareOp op) (aW op)/\IsB (aW op))\/aW op=noF:=by
 cases op
 case Lt=>exact .inl ⟨aGX.or (aJY hu),lU n9 aJZ⟩
 case LtE=>exact .inl ⟨aGY,n9⟩
 case Gt=>exact .inl ⟨aGZ,n9⟩
 case GtE=>exact .inl ⟨aG0,n9⟩
 case Eq=>exact .inl ⟨o_eq hu,lU w8 aAG⟩
 case NotEq=>exact .inl ⟨o_ne hu,lU w8 aAG⟩
 case In=>exact .inl ⟨aG3.or (xF aF5),lU w6 xG⟩
 case NotIn=>exact .inl ⟨aG4.or (xF aF6),lU w6 xG⟩
 case Is=>exact .inl ⟨aI2,xC⟩
 case IsNot=>exact .inl ⟨aI3,xC⟩
def aAH{f:aZN->aZN->Sem aZN}:OpD C X f noF:=⟨λ_ _ _ _=>False,λ_ _ _ _ _ _ _ _ _ _ _ _ h=>h.elim,λ_ _ _ _ _ _ _ _ _ _ _ _ _ _ e _=>by cases e⟩
def aNY(op:Operator):OpD C X (binaryOp op) (bW op):=by
 rcases aNW (C:=C) (X:=X) op with⟨φ,e,h⟩|e
 . rw[e];exact h
 . rw[e];exact aAH
def f9(op:CmpOp)(hu:X.A.units+64<cLine):OpD C X (compareOp op) (aW op)/\IsB (aW op):=by
 rcases aNX (C:=C) op hu with h|e
 . exact h
 . rw[e];exact⟨aAH,λ_ _ _ _ _ _ z=>by cases z⟩
def pE(op:CmpOp)(h:f8 e=true):behindInMarks op e=false:=by cases e <;> first|rfl|cases h
def pF(h:f8 e=true):∀v,foldedSetIterable e env v=pure v:=by intro v;cases e <;> first|rfl|cases h
def aAI(h:tF e=true):nV e:=by intro o i;cases e <;> first|rfl|cases h
def aNZ(h:aAE e=true):∀cY,isTrue e env cY=(do let v <- cY;standAt e.pos;holding [v] (truthy v)):=by
 intro cY;cases e
 case UnaryOp op _ _=>cases op <;> first|rfl|cases h
 all_goals first|rfl|cases h
theorem SX.sub(S:SX k W m C X)(cl:List (Str×Addr))(A:Addr)(fp:List Addr)(s3:aZO)(H3:Hp):SX k W (m.sub scope aL tgN) C.nox (bH X scope (aL++tgN) cl A fp s3 H3):=by
 refine⟨rfl,?_,S.cm,S.rm,S.un,λ_ aA σ H s e s' I h=>?_,S.xt,S.xi,S.xc,S.xn,S.con,S.no,S.mk0,S.mki,S.iso,S.fl,S.mt,S.fn,(λz=>by cases z),S.fp,.inl rfl⟩
 rotate_left
 . obtain⟨_,_,_,_,_,_,_,_,_,_,_,_,z⟩:=h;exact z.elim
 show(compEnvC scope cl A X.env).scope=_;unfold MC.sub;rw[<- S.hs];rfl
theorem SX.loc(S:SX k W m C X)(h:m.loc i z=true):X.N[i]? = some z/\L2.Loc X.env.scope z/\(X.fn z=true\/X.env.scope.names.lookup z=some .local):=by
 unfold MC.loc MC.kind at h;simp only[aVL,aWB,aUI]at h;refine⟨by rw[S.hN];exact h.1,?_,?_⟩
 . unfold L2.Loc;rw[S.hs];rcases h.2 with q|q
   . exact .inl q
   . exact .inr q.2
 . rw[S.hs];rcases h.2 with q|q
   . exact .inr q
   . exact .inl (S.fnn q.1 z)
theorem SX.lam(S:SX k W m C X)(hd:W.dp=true){x:Str}{f:Addr}{A:aZP}{F:Hp}{E:XK}(hj:j+1=k)(hr:bD j (A.deeper (envOfC qual scope s.heap.objs.size f cdv))):SX j W.pred (m.lam x scope) ⟨X.K,F,H,iB X.mg E⟩ (cO (CX1 X.prog X.w) X.prog X.w X.K X.mg X.base [x] qual scope f cdv A outer s H E):=by
 obtain⟨j',hj',fp⟩:=S.fp hd;obtain rfl:j'=j:=by omega
 exact⟨rfl,rfl,λ_=>rfl,λ_=>hr,hr.units,λ_=>rP rfl,S.xt,S.xi,(λc h=>by cases h),(λc h=>by cases h),S.con,S.no,(λc h=>by cases h),(λc key n h=>by cases h),(λc h=>by cases h),(λi f' h=>by cases h),(λc m' key n e=>by cases e),fp,λ_ _=>rfl,(λz=>by cases z),.inl rfl⟩
def aN0{body:Expr}{pm cv ct:aZN}:bindArgs (PySem.W.kla_fn "<lambda>" qual ⟨[],[⟨z,none,ap⟩],none,[],[],none,[]⟩ body scope [] pm cv ct) ⟨[u],[]⟩=pure [(z,u)] :=
 zY (ps:=[z]) rfl rfl rfl rfl rfl rfl (aUU.mpr ⟨aX2,aXX⟩) [u] rfl
def aAJ:PV C X e (λ_=>.stuck):=λaA s σ H Q I h=>by rw[aR]at h;obtain⟨_,_,_,w⟩:=h;exact w.elim
def aN1(S:SX k W m C X)(hc:m.calm=true)(hd:W.dp=true)(hq:m.q ≠ "")(hin:lA m.q="<lambda>")(hg:Gl X "sorted")(hm:X.mg "sorted" = none){body:Expr}{a b:E}{lp kp:Pos}(he:PV C X e (evE W a))(hs:bC e=true)(sc:jZ [z] [z] scope)(rb:∀{k:Nat}{W:WD}{C:Cw}{X:Cx},SX k W (m.lam z scope) C X->PV C X body (evE W b)):PV C X (.Call (.Name "sorted" p) [e] [⟨some "key", .Lambda ⟨[],[⟨z,none,ap⟩],none,[],[],none,[]⟩ body scope lp,kp⟩] pos) (λρ=>cW (λd=>evE W.pred b [some (false,d)]) (evE W a ρ)):=by
 obtain⟨hcd,hql⟩:=S.cd.resolve_left hq;obtain⟨j,hj,_⟩:=id (S.fp hd);have hr:bD (j+1) X.A:=by rw[hj];exact S.rm hc
 refine zZ (λf H=>∃c pm ct,H c=some (.crec (X.env.qual ++ "<lambda>"))/\H f=some (gW f (PySem.W.kla_obj "<lambda>" (X.env.qual ++ "<lambda>") ⟨[],[⟨z,none,ap⟩],none,[],[],none,[]⟩ body scope [] pm c ct))) S.un hg hm he hs ?_ ?_
 . intro aA s σ H Q I h;exact aM6 I hcd hql hin sc.nofree λf c pm ct s' H' I' sm f0 hc' hf'=>⟨.ref f,H',I',rfl,h f H' sm ⟨c,pm,ct,hc',hf'⟩⟩
 . rintro f pins' σ H F H' F' s' v u d kd ⟨c,pm,ct,hcr,hf⟩ I st rd ru er;have hr3:bD j (X.A.in1.in1.deeper (envOfC (X.env.qual ++ "<lambda>") scope s'.heap.objs.size f (.ref c))) :=
     ⟨hr.hd,by have:=hr.dp;show X.A.depth+1+3 * j+5<_;omega,by have:=hr.un;show X.A.units+1+1+3+16 * j+200<_;omega⟩
   have body:=rb (S.lam hd hj (F:=F') (H:=H') (outer:=X.stack) (E:=λ_ _ _=>False) (x:=z) hr3);have want:tG ((⟨X.K,F',H',iB X.mg (λ_ _ _=>False)⟩:Cw).at (cO (CX1 X.prog X.w) X.prog X.w X.K X.mg X.base [z] (X.env.qual ++ "<lambda>") scope f (.ref c) X.A.in1.in1 X.stack s' H' (λ_ _ _=>False))) (evE W.pred b) (L2.cN [z] [v]) H' (λkv H''=>∃F'',aE F' H' F'' H''/\aB X.K F'' kd kv):=by
    rw[aR];refine⟨[some (false,d)],F',wY (N:=[z]) (ds:=[d]) st.sub (aC.cons rd aC.nil),?_⟩;cases ep:evE W.pred b [some (false,d)]with
    |stuck=>rw[ep]at er;cases er
    |exc c=>rw[ep]at er;cases er
    |ok m' d'=>rw[ep]at er;exact λv F2 H2 st rp fr=>z5 er st rp fr
   refine aW0 (aVW (aM7 sc aN0 hr.hd (by have:=hr.dp;show X.A.depth<_;omega) I.env0.in1.in1 (st.same _ _ hf) (st.same _ _ hcr) ru body want) λr s2 hq=>?_)
   cases r with
   |error e=>obtain⟨_,_,_,_,_,_,_,_,_,_,z⟩:=hq;exact z.elim
   |ok fl =>
    cases fl with
    |ret w=>obtain⟨kv,H2,I2,rk,F2,st2,rv2⟩:=I.after hq;exact⟨kv,F2,H2,I2,rk,st2,rv2⟩
    |next=>exact False.elim hq
    |brk=>exact False.elim hq
    |cont=>exact False.elim hq
mutual
theorem sG(S:SX k W m C X)(hN:m.N.Nodup):∀(t:Tg) {e:Expr},mG m t e=true->PGw X e t
 |.nm i,e,h=>by
  simp only[mG]at h;split at h
  . obtain⟨a,b,c⟩:=S.loc h;exact aJN (by rw[S.hN];exact hN) a b c
  . cases h
 |.tp ts,e,h=>by
  simp only[mG]at h;split at h
  . rw[aVL,aVL,aWI]at h;obtain⟨p,l⟩:=sGs S hN ts h.2 h.1.2;exact aJR (S.cm h.1.1) p h.1.2 l
  . cases h
theorem sGs(S:SX k W m C X)(hN:m.N.Nodup):∀(ts:List Tg) {es:List Expr},mGs m ts es=true->(∀e∈es,kA e=true)->jG X es ts/\es.length=ts.length
 |[],[],h,_=>⟨aJO,rfl⟩
 |[],_::_,h,_=>by simp[mGs]at h
 |t::ts,[],h,_=>by simp[mGs]at h
 |t::ts,e::es,h,hs=>by simp only[mGs,aVL]at h;obtain⟨p,l⟩:=sGs S hN ts h.2 λx hx=>hs x (mcm hx);exact⟨aJP (sG S hN t h.1) p (hs e mcs),by rw[aUJ,aUJ,l]⟩
end
end
def aAK:PV C X e (λ_=>.stuck):=λaA s σ H Q I q=>by rw[aR]at q;obtain⟨ρ,F,R,w⟩:=q;exact w.elim
abbrev PE(m:MC)(f:E)(e:Expr):Prop:=∀{k:Nat}{W:WD}{C:Cw}{X:Cx},SX k W m C X->PV C X e (evE W f)
abbrev PTE(m:MC)(f:E)(e:Expr):Prop:=∀{k:Nat}{W:WD}{C:Cw}{X:Cx},SX k W m C X->PTv C X e (evE W f)
abbrev PIE(m:MC)(tg:Expr)(f:E)(e:Expr):Prop:=∀{k:Nat}{W:WD}{C:Cw}{X:Cx},SX k W m C X->PIv C X tg e (evE W f)
inductive d9(m:MC):List E->List Expr->Prop
 |nil:d9 m [] []
 |cons {f fs x xs:_}:bC x=true->PE m f x->d9 m fs xs->d9 m (f::fs) (x::xs)
inductive eT(m:MC):List E->List Expr->Prop
 |nil:eT m [] []
 |cons {f fs x xs:_}:PTE m f x->eT m fs xs->eT m (f::fs) (x::xs)
abbrev CkE(m:MC)(f:E)(e:Expr):Type:=Option (PLift (PE m f e))
abbrev CkT(m:MC)(f:E)(e:Expr):Type:=Option (PLift (PTE m f e))
abbrev CkI(m:MC)(tg:Expr)(f:E)(e:Expr):Type:=Option (PLift (PIE m tg f e))
abbrev eI(m:MC)(f:List E)(e:List Expr):Type:=Option (PLift (d9 m f e))
abbrev CkF(m:MC)(f:List E)(e:List Expr):Type:=Option (PLift (eT m f e))
abbrev CkO(m:MC)(f:Option E)(e:Option Expr):Type:=Option (PLift (∀{k:Nat}{W:WD}{C:Cw}{X:Cx},SX k W m C X->POv C X e (evO W f)))
def got{P:Prop}:∀{o:Option (PLift P)},o.isSome=true->P
 |some p,_=>p.down
 |none,h=>nomatch h
section
variable {W:WD}
theorem d9.star:∀{fs:List E}{es:List Expr},d9 m fs es->∀x∈es,bC x=true
 |_,_,.nil=>λx hx=>by cases hx
 |_,_,.cons s _ q=>λx hx=>by
  rcases aTT.mp hx with rfl|hx
  . exact s
  . exact q.star x hx
theorem d9.es(S:SX k W m C X):∀{fs:List E}{es:List Expr},d9 m fs es->PAv C X es (bI W fs)
 |_,_,.nil=>by simp only[bI];exact lO
 |_,_,.cons s p q=>by simp only[bI];exact i9 (p S) (q.es S) (bG s)
theorem d9.a{pos:Pos}(S:SX k W m C X):∀{fs:List E}{es:List Expr},d9 m fs es->PV C X (.BoolOp .And es pos) (evA W fs)
 |_,_,.nil=>λaA s σ H Q I q=>by rw[aR]at q;obtain⟨ρ,F,R,w⟩:=q;exact w.elim
 |_,_,.cons s p .nil=>by simp only[evA];exact wK (p S)
 |_,_,.cons s p (.cons s' p' q)=>by simp only[evA];exact aHB (p S) (d9.a S (.cons s' p' q))
theorem d9.o{pos:Pos}(S:SX k W m C X):∀{fs:List E}{es:List Expr},d9 m fs es->PV C X (.BoolOp .Or es pos) (dH W fs)
 |_,_,.nil=>λaA s σ H Q I q=>by rw[aR]at q;obtain⟨ρ,F,R,w⟩:=q;exact w.elim
 |_,_,.cons s p .nil=>by simp only[dH];exact wK (p S)
 |_,_,.cons s p (.cons s' p' q)=>by simp only[dH];exact aHC (p S) (d9.o S (.cons s' p' q))
theorem eT.a{pos:Pos}(S:SX k W m C X):∀{fs:List E}{es:List Expr},eT m fs es->PWv C X (.BoolOp .And es pos) (evA W fs)
 |_,_,.nil=>λcY aA s σ H Q I q=>by obtain⟨ρ,F,R,w⟩:=q;exact w.elim
 |_,_,.cons p .nil=>by simp only[evA];exact wI (p S)
 |_,_,.cons p (.cons p' q)=>by simp only[evA];exact aG9 (p S) (eT.a S (.cons p' q))
theorem eT.o{pos:Pos}(S:SX k W m C X):∀{fs:List E}{es:List Expr},eT m fs es->PWv C X (.BoolOp .Or es pos) (dH W fs)
 |_,_,.nil=>λcY aA s σ H Q I q=>by obtain⟨ρ,F,R,w⟩:=q;exact w.elim
 |_,_,.cons p .nil=>by simp only[dH];exact wI (p S)
 |_,_,.cons p (.cons p' q)=>by simp only[dH];exact aHA (p S) (eT.o S (.cons p' q))
theorem eT.f(S:SX k W m C X):∀{fs:List E}{es:List Expr},eT m fs es->dL X es (tT (C.at X) (evF W fs))
 |_,_,.nil=>by
  have:evF W []=λ_=>.ok .fz (.bl true):=by funext ρ;simp only[evF]
  rw[this];exact aIF
 |f::fs,_,.cons p q=>by
  have:evF W (f::fs)=λρ=>eM (evE W f ρ) (evF W fs ρ):=by funext ρ;simp only[evF]
  rw[this];exact aIG (p S) (q.f S)
section
variable {fs:List E}{es:List Expr}{r:eI m fs es}{t:CkF m fs es}
def gSt(h:r.isSome=true):∀x∈es,bC x=true:=(got h).star
def gEs(h:r.isSome=true)(S:SX k W m C X):PAv C X es (bI W fs):=(got h).es S
def gA(h:r.isSome=true)(S:SX k W m C X):PV C X (.BoolOp .And es pos) (evA W fs):=(got h).a S
def gOr(h:r.isSome=true)(S:SX k W m C X):PV C X (.BoolOp .Or es pos) (dH W fs):=(got h).o S
def gWA(h:t.isSome=true)(S:SX k W m C X):PWv C X (.BoolOp .And es pos) (evA W fs):=(got h).a S
def gWO(h:t.isSome=true)(S:SX k W m C X):PWv C X (.BoolOp .Or es pos) (dH W fs):=(got h).o S
def gF(h:t.isSome=true)(S:SX k W m C X):dL X es (tT (C.at X) (evF W fs)):=(got h).f S
end
end
def aN2:PTv C X e (λ_=>.stuck):=by intro aA s σ H Q I q;obtain⟨ρ,F,R,w⟩:=q;exact w.elim
def aN3:PIv C X tg e (λ_=>.stuck):=by intro aA s σ H R I q;obtain⟨ρ,F,RS,w⟩:=q;exact w.elim
noncomputable def aN4{a e:_}(r1:CkE m a e):CkE m (.frz a) e:=if h:r1.isSome=true then some ⟨λS=>fP (got h S)⟩else none
noncomputable def aN5{a e:_}(r1:CkE m a e):CkT m (.tru a) e:=if h:(aAE e&&r1.isSome)=true then some ⟨λS=>by
 simp only[aVL]at h;exact aG6 (got h.2 S) (aNZ h.1)⟩else none
noncomputable def aN6{tg a e:_}(r1:CkE m a e):CkI m tg (.items a) e:=if h:r1.isSome=true then some ⟨λS=>aH4 (got h S)⟩else none
noncomputable def aN7{tg a e:_}(r1:CkE m a e):CkI m tg (.nkeys a) e:=if h:r1.isSome=true then some ⟨λS=>aM1 (got h S)⟩else none
noncomputable def aN8{i:_}{x}{p1:_}:CkE m (.var i) (.Name x p1):=if h:(m.N[i]?==some x&&m.vis x)=true then some ⟨λS=>by
 simp only[aVL,aUI]at h;obtain⟨h1,h2,h3⟩:=S.vis h.2
 exact aGK i (jX (by rw[S.hN];exact h.1) h1 h2 h3)⟩else none
noncomputable def aN9{y:_}{c:_}{x}{p1:_}:CkE m (.glob y c) (.Name x p1):=if h:(x==y&&m.glob x (.con c)&&strK' c)=true then some ⟨λS=>by
 simp only[aVL,aUI]at h;obtain⟨⟨rfl,h1⟩,h2⟩:=h;obtain⟨g,l,hd,hn⟩:=S.gl h1;have:=S.con _ _ l;cases c with
 |s y=>obtain⟨t,ht⟩:=this;exact aHO g ht h2 hd
 |i n=>obtain⟨t,ht⟩:=this;exact aHP g ht hd
 |t tb=>cases h2⟩else none
noncomputable def kE_ty{t:_}{x}{p1:_}:CkE m (.ty t) (.Name x p1):=if h:(x==(t.id:Str)&&m.glob x .no)=true then some ⟨λS=>by
 simp only[aVL,aUI]at h;obtain⟨rfl,h1⟩:=h;obtain⟨g,l,hd,hn⟩:=S.gl h1;exact pv_ty g (S.no _ l) (aAF t) hn hd⟩else none
noncomputable def aOA{p0}{p1:_}:CkE m (.non) (.Constant .none p0 p1):=if h:(true)=true then some ⟨λS=>by
 exact aGM⟩else none
noncomputable def kE_bl{c:_}{b:_}{p1:_}{p2:_}:CkE m (.bl c) (.Constant (.bool b) p1 p2):=if h:(b==c)=true then some ⟨λS=>by
 simp only[aUI]at h;subst h;exact pv_bl⟩else none
noncomputable def aOB{c:_}{b:_}{p1:_}{p2:_}:CkE m (.int c) (.Constant (.int b) p1 p2):=if h:(b==c)=true then some ⟨λS=>by
 simp only[aUI]at h;subst h;exact aGL⟩else none
noncomputable def aOC{c:_}{b:_}{p1:_}{p2:_}:CkE m (.str c) (.Constant (.str b) p1 p2):=if h:(b==c&&strK b)=true then some ⟨λS=>by
 simp only[aVL,aUI]at h;obtain⟨rfl,h⟩:=h;exact aGN h⟩else none
noncomputable def aOD{op}{a}{b:_}{x}{o}{y:_}{p3}(r1:CkE m a x)(r2:CkE m b y):CkE m (.bin op a b) (.BinOp x o y p3):=if h:(o==op&&(r1.isSome&&r2.isSome))=true then some ⟨λS=>by
 simp only[aVL,aUI]at h;obtain⟨rfl,h1,h2⟩:=h;exact pv_op (aNY _) (got h1 S) (got h2 S)⟩else none
noncomputable def aOE{op}{a}{b:_}{x}{o}{y:_}{p3}(r1:CkE m a x)(r2:CkE m b y):CkE m (.cmp op a b) (.Compare x [o] [y] p3):=if h:(o==op&&f8 y&&(r1.isSome&&r2.isSome))=true then some ⟨λS=>by
 simp only[aVL,aUI]at h;obtain⟨⟨rfl,hs⟩,h1,h2⟩:=h;exact aGO (f9 _ S.un).1 (got h1 S) (got h2 S) (pE _ hs)⟩else none
noncomputable def aOF{es}{xs:_}{p1:_}(r1:eI m es xs):CkE m (.andL es) (.BoolOp .And xs p1):=if h:(r1.isSome)=true then some ⟨λS=>by
 exact gA h S⟩else none
noncomputable def aOG{es}{xs:_}{p1:_}(r1:eI m es xs):CkE m (.orL es) (.BoolOp .Or xs p1):=if h:(r1.isSome)=true then some ⟨λS=>by
 exact gOr h S⟩else none
noncomputable def aOH{a}{x}{p1:_}(r1:CkE m a x):CkE m (.not a) (.UnaryOp .Not x p1):=if h:(r1.isSome)=true then some ⟨λS=>by
 exact aHD (got h S)⟩else none
noncomputable def aOI{a}{x}{p1:_}(r1:CkE m a x):CkE m (.neg a) (.UnaryOp .USub x p1):=if h:(r1.isSome)=true then some ⟨λS=>by
 exact aHE (got h S)⟩else none
noncomputable def aOJ{a}{l:_}{u:_}{x}{lo:_}{hi}{p3}{p4}(r1:CkE m a x)(r2:CkO m l lo)(r3:CkO m u hi):CkE m (.slice a l u) (.Subscript x (.Slice lo hi none p3) p4):=if h:(r1.isSome&&(r2.isSome&&r3.isSome))=true then some ⟨λS=>by
 simp only[aVL]at h;obtain⟨h0,h1,h2⟩:=h;exact aKH (got h0 S) (got h1 S) (got h2 S)⟩else none
noncomputable def kE_ix{a}{b:_}{x}{y:_}{p2:_}(r1:CkE m a x)(r2:CkE m b y):CkE m (.ix a b) (.Subscript x y p2):=if h:(tF y&&(r1.isSome&&r2.isSome))=true then some ⟨λS=>by
 simp only[aVL]at h;obtain⟨h0,h1,h2⟩:=h;exact pv_ix (got h1 S) (got h2 S) (aAI h0)⟩else none
noncomputable def aOK{es}{es0}{p1:_}{p2:_}(r1:eI m es es0):CkE m (.tup es) (.Tuple es0 p1 p2):=if h:(r1.isSome)=true then some ⟨λS=>by
 exact aHJ (gEs h S)⟩else none
noncomputable def aOL{es}{es0}{p1:_}(r1:eI m es es0):CkE m (.lst es) (.List es0 p1):=if h:(r1.isSome)=true then some ⟨λS=>by
 exact aHK (gEs h S)⟩else none
noncomputable def aOM{g:_}{n:_}{es}{f}{p:_}{x}{xs:_}{cp}(r1:eI m es (x::xs)):CkE m (.call g n es) (.Call (.Name f p) (x::xs) [] cp):=if h:(m.calm&&f==g&&m.glob f (.fn n)&&r1.isSome)=true then some ⟨λS=>by
 simp only[aVL,aUI]at h;obtain⟨⟨⟨hq,rfl⟩,h1⟩,h2⟩:=h;obtain⟨gl,l,hd,hn⟩:=S.gl h1;have st:=gSt h2;exact aIK (S.fn _ _ l) (S.rm hq) (S.xo hq) gl (gEs h2 S) hd (bG (st x mcs)) (jF _ _ λy hy=>st y (mcm hy))⟩else none
noncomputable def aON{b:_}{es}{f}{p:_}{x}{xs:_}{cp}(r1:eI m es (x::xs)):CkE m (.bcall b es) (.Call (.Name f p) (x::xs) [] cp):=if h:((m.calm||b == .len||b == .isinstance)&&f==b.name&&m.glob f .no&&r1.isSome)=true then some ⟨λS=>by
 rw[aVL,aVL,aVL]at h;obtain⟨⟨⟨hq,hz⟩,h1⟩,h2⟩:=h;cases(aUI.mp hz);obtain⟨gl,l,hd,hn⟩:=S.gl h1;have st:=gSt h2;exact wO (aNT b S.cm hq) gl (S.no _ l) (aNS b) (gEs h2 S) hn hd (bG (st x mcs)) (jF _ _ λy hy=>st y (mcm hy))⟩else none
noncomputable def aOO{op}{op'}{a}{b:_}{c:_}{x}{o}{o'}{y:_}{z:_}{p5}(r1:CkE m a x)(r2:CkE m b y)(r3:CkE m c z):CkE m (.chain op op' a b c) (.Compare x [o,o'] [y,z] p5):=if h:(o==op&&o'==op'&&f8 z&&(r1.isSome&&(r2.isSome&&r3.isSome)))=true then some ⟨λ{k}{W}{C}{X} S=>by
 simp only[aVL,aUI]at h;obtain⟨⟨⟨rfl,rfl⟩,hs⟩,h1,h2,h3⟩:=h;exact aI4 (f9 _ S.un).1 (f9 _ S.un).1 (f9 (C:=C) _ S.un).2 (got h1 S) (got h2 S) (got h3 S) (pE _ hs)⟩else none
noncomputable def aOP{t:_}{es}{f}{p1:_}{x}{xs:_}{p4}(r1:eI m es (x::xs)):CkE m (.tcall t es) (.Call (.Name f p1) (x::xs) [] p4):=if h:(f==(t.id:Str)&&m.glob f .no&&r1.isSome)=true then some ⟨λS=>by
 simp only[aVL,aUI]at h;obtain⟨⟨rfl,h1⟩,h2⟩:=h;obtain⟨gl,l,hd,hn⟩:=S.gl h1;exact aJH (aNV t) gl (S.no _ l) (aAF t) (gEs h2 S) hn hd (gSt h2)⟩else none
noncomputable def aOQ{a}{f}{x}{g:_}{p2:_}(r1:CkE m a x):CkE m (.fld a f) (.Attribute x g p2):=if h:(g==f&&jE x&&r1.isSome)=true then some ⟨λS=>by
 simp only[aVL,aUI]at h;obtain⟨⟨rfl,h1⟩,h2⟩:=h;exact aIW S.fl (got h2 S) h1⟩else none
noncomputable def aOR{a}{f}{es}{o}{g:_}{ap:_}{xs:_}{cp}(r1:CkE m a o)(r2:eI m es xs):CkE m (.meth a f es) (.Call (.Attribute o g ap) xs [] cp):=if h:(m.calm&&g==f&&ap.endLine==cp.line&&decide (xs.length<30)&&jE o&&(r1.isSome&&r2.isSome))=true then some ⟨λS=>by
 simp only[aVL,aUI,aV9]at h;obtain⟨⟨⟨⟨⟨hq,rfl⟩,h1⟩,h2⟩,h3⟩,h4,h5⟩:=h;exact aIX S.mt (S.rm hq) (S.xo hq) (got h4 S) (gEs h5 S) h3 (gSt h5) h2 h1 λe0=>by
  subst e0;cases es with
  |nil=>funext ρ;simp only[bI]
  |cons _ _=>cases got h5⟩else none
noncomputable def aOS{c:_}{f}{p1:_}{p2:_}:CkE m (.mk0 c) (.Call (.Name f p1) [] [] p2):=if h:(f==c&&m.glob f .cls&&m.g.mk0.contains f)=true then some ⟨λS=>by
 simp only[aVL,aUI,aZC]at h;obtain⟨⟨rfl,h1⟩,h2⟩:=h;obtain⟨gl,l,hd,hn⟩:=S.gl h1;exact aIZ (S.mk0 _ h2) gl hd⟩else none
noncomputable def aOT{c:_}{key}{n:_}{es}{f}{p:_}{x}{xs:_}{cp}(r1:eI m es (x::xs)):CkE m (.make c key n es) (.Call (.Name f p) (x::xs) [] cp):=if h:(m.calm&&f==c&&m.glob f .cls&&m.g.mki.contains (f,key,n)&&r1.isSome)=true then some ⟨λ{k}{W}{C}{X} S=>by
 simp only[aVL,aUI,aZC]at h;obtain⟨⟨⟨⟨hq,rfl⟩,h1⟩,h2⟩,h3⟩:=h;obtain⟨gl,l,hd,hn⟩:=S.gl h1;cases ei:W.I key with
 |none =>
  have:evE W (.make f key n es)=λ_=>.stuck:=by funext ρ;show(match W.I key with|some Φ=>fR n Φ (bI W es ρ)|none=>.stuck)=_;rw[ei]
  rw[this];exact aAK
 |some Φ =>
  obtain⟨j,hj,M⟩:=S.mki _ _ _ h2 Φ ei;have:evE W (.make f key n es)=λρ=>fR n Φ (bI W es ρ):=by funext ρ;show(match W.I key with|some Φ=>fR n Φ (bI W es ρ)|none=>.stuck)=_;rw[ei]
  rw[this];exact aI1 M ((S.rm hq).mono hj) (S.xo hq) gl (gEs h3 S) hd (gSt h3)⟩else none
noncomputable def aOU{a}{b:_}{f}{p1:_}{g:_}{p3}{x}{p5}{g'}{p7}{y:_}{p9}{p10}{p11}(r1:CkE m a x)(r2:CkE m b y):CkE m (.usort a b) (.Call (.Name f p1) [.BinOp (.Call (.Name g p3) [x] [] p5) .BitOr (.Call (.Name g' p7) [y] [] p9) p10] [] p11):=if h:(m.calm&&f == "sorted" && g == "set" && g' == "set" && m.glob f .no&&m.glob g .no&&bC x&&bC y&&(r1.isSome&&r2.isSome))=true then some ⟨λS=>by
 simp only[aVL,aUI]at h;obtain⟨⟨⟨⟨⟨⟨⟨⟨hq,rfl⟩,rfl⟩,rfl⟩,h1⟩,h2⟩,s1⟩,s2⟩,h3,h4⟩:=h;obtain⟨gl,l,hd,hn⟩:=S.gl h1;obtain⟨gl',l',hd',hn'⟩:=S.gl h2;exact aLV (S.cm hq) gl (S.no _ l) gl' (S.no _ l') (got h3 S) (got h4 S) s1 s2⟩else none
noncomputable def aOV{a}{f}{p1:_}{g:_}{p3}{x}{p5}{p6}(r1:CkE m a x):CkE m (.usi a) (.Call (.Name f p1) [.Call (.Name g p3) [x] [] p5] [] p6):=if h:(m.calm&&f == "sorted" && g == "set" && m.glob f .no&&m.glob g .no&&bC x&&r1.isSome)=true then some ⟨λS=>by
 simp only[aVL,aUI]at h;obtain⟨⟨⟨⟨⟨⟨hq,rfl⟩,rfl⟩,h1⟩,h2⟩,s1⟩,h3⟩:=h;obtain⟨gl,l,hd,hn⟩:=S.gl h1;obtain⟨gl',l',hd',hn'⟩:=S.gl h2;exact aLY (S.cm hq) gl (S.no _ l) gl' (S.no _ l') (got h3 S) s1⟩else none
noncomputable def aOW{el}{it:_}{ts}{aG:_}{t:_}{n:_}{elt:_}{tg:_}{aV:_}{ifs:_}{scope:_}{cp}(r1:CkI m tg it aV)(r2:CkE (m.sub scope (aG.filterMap λi=>m.N[i]?) (fE 4 tg)) el elt)(r3:CkF (m.sub scope (aG.filterMap λi=>m.N[i]?) (fE 4 tg)) ts ifs):CkE m (.comp el it ts aG t n) (.ListComp elt [⟨tg,aV,ifs,0⟩] scope cp):=if h:(m.calm&&pD scope m.sc m.N aG (aG.filterMap λi=>m.N[i]?) (fE 4 tg)&&f8 aV&&decide ((fE 4 tg).length=n)&&(eE t).all (λj=>decide (aG.length<=j))&&mG (m.sub scope (aG.filterMap λi=>m.N[i]?) (fE 4 tg)) t tg&&(r1.isSome&&(r2.isSome&&r3.isSome)))=true then some ⟨λ{k}{W}{C}{X} S=>by
 simp only[aVL,aV9,aWI]at h;obtain⟨⟨⟨⟨⟨⟨hq,ho⟩,hn⟩,hl⟩,hs⟩,hg⟩,h1,h2,h3⟩:=h;unfold pD at ho;simp only[aVL,aWI,aWB,aZB,aUI,aV9,aZC]at ho;obtain⟨⟨⟨⟨⟨⟨⟨g1,g2⟩,g3⟩,g4⟩,g5⟩,g6⟩,g7⟩,g8⟩:=ho;have er:(relabel scope X.env).names=lW scope m.sc:=by rw[<- S.hs];rfl
 have := aJU (pos := cp) (tgN := fE 4 tg) (t := t) (S.cm hq) (got h1 S) g1 g2 (fun y hy e => (g3 y hy).resolve_left fun z => z e) (fun y hy e => by
     have:=g4 y hy;show X.env.scope.names.lookup y.1=_\/X.env.scope.names.lookup y.1=_;rw[S.hs];rcases this with(z|z)|z
     . exact absurd e z
     . exact .inl z
     . exact .inr z) (by rw[S.hN];exact g5) g6 (λy hy=>by rw[er];exact g7 y hy) (λj hj=>hs j hj) (λcl A fp s3 H3=>sG (S.sub cl A fp s3 H3) g8 t hg)
     (λcl A fp s3 H3=>gF h3 (S.sub cl A fp s3 H3)) (λcl A fp s3 H3=>got h2 (S.sub cl A fp s3 H3)) (pF hn)
 rw[hl]at this;exact this⟩else none
noncomputable def aOX{p0}:CkE m (.nnew) (.Dict [] [] p0):=if h:(true)=true then some ⟨λS=>by
 exact aMG⟩else none
noncomputable def aOY{a}{b:_}{x}{y:_}{p2:_}(r1:CkE m a x)(r2:CkE m b y):CkE m (.nix a b) (.Subscript x y p2):=if h:(tF y&&(r1.isSome&&r2.isSome))=true then some ⟨λS=>by
 simp only[aVL]at h;obtain⟨h0,h1,h2⟩:=h;exact aMH S.un (got h1 S) (got h2 S) (aAI h0)⟩else none
noncomputable def aOZ{a}{b:_}{d}{o}{f}{ap:_}{x}{y:_}{cp}(r1:CkE m a o)(r2:CkE m b x)(r3:CkE m d y):CkE m (.nget a b d) (.Call (.Attribute o f ap) [x,y] [] cp):=if h:(f == "get" && ap.endLine==cp.line&&jE o&&bC x&&bC y&&(r1.isSome&&(r2.isSome&&r3.isSome)))=true then some ⟨λS=>by
 simp only[aVL,aUI]at h;obtain⟨⟨⟨⟨⟨rfl,hl⟩,hc⟩,hs⟩,hs2⟩,h1,h2,h3⟩:=h;exact aMJ S.un (got h1 S) (got h2 S) (got h3 S) ⟨j8 hc,by
  rw[j7 _ _ (λz hz=>by
   simp only[aTT,aXK,aXL]at hz;rcases hz with rfl|rfl
   . exact hs
   . exact hs2)];rfl,aUI.mpr hl,by rw[bG hs,bG hs2];rfl⟩⟩else none
noncomputable def aO0{a}{f}{p1:_}{x}{p3}(r1:CkE m a x):CkE m (.srtw a) (.Call (.Name f p1) [x] [] p3):=if h:(f == "sorted" && m.glob f .no&&bC x&&r1.isSome)=true then some ⟨λS=>by
 simp only[aVL,aUI]at h;obtain⟨⟨⟨rfl,h1⟩,hs⟩,h2⟩:=h;obtain⟨gl,l,hd,hn⟩:=S.gl h1;exact wO (aMV S.un) gl (S.no _ l) oR (i9 (got h2 S) lO (bG hs)) hn hd (bG hs) rfl⟩else none
noncomputable def mQ(N ps:List Str)(sc:Scope):Bool:=sc.kind == .function&&!sc.isCoroutine&&!sc.isGenerator&&decide N.Nodup&&(N.take ps.length==ps)&&ps.all (λx=>sc.names.lookup x==some .local||sc.names.lookup x==some .cell)&&sc.names.all (λy=>y.2 != .free)
def tI{N:List Str}(h:mQ N ps sc=true):jZ N ps sc:=by unfold mQ at h;simp only[aVL,aWI,aWB,aZB,aUI,aV9,aYN]at h;obtain⟨⟨⟨⟨⟨⟨h1,h2⟩,h3⟩,h4⟩,h5⟩,h6⟩,h7⟩:=h;exact⟨h1,h2,h3,h4,h5,h6,h7⟩
noncomputable def aO1{g:_}{a}{f}{p1:_}{x}{kw:_}{y:_}{q:_}{kp}{p3}(r1:CkE m a x):CkE m (.srtf g a) (.Call (.Name f p1) [x] [⟨some kw,.Name y q,kp⟩] p3):=if h:(m.calm&&f == "sorted" && m.glob f .no&&kw == "key" && bC x&&y==g&&m.glob g (.fn 1)&&r1.isSome)=true then some ⟨λ{k}{W}{C}{X} S=>by
 simp only[aVL,aUI]at h;obtain⟨⟨⟨⟨⟨⟨⟨hc,rfl⟩,h1⟩,rfl⟩,h2⟩,rfl⟩,h4⟩,h3⟩:=h;obtain⟨gl,l,_,_⟩:=S.gl h1;obtain⟨gl',l',hdb,_⟩:=S.gl h4;cases hd:W.dp with
 |false=>rw[show evE W (.srtf y a)=λ_=>.stuck by funext ρ;show(if W.dp=true then _ else _)=_;rw[hd];rfl];exact aAJ
 |true =>
  obtain⟨j,hj,fp⟩:=S.fp hd;rw[show evE W (.srtf y a)=λρ=>cW (λd=>W.Ψ y [d]) (evE W a ρ) by funext ρ;show(if W.dp=true then _ else _)=_;rw[hd];rfl]
  exact aNJ S.un gl (S.no _ l) (got h3 S) h2 gl' hdb (fp y 1 l') (by rw[hj];exact S.rm hc)⟩else none
noncomputable def aO2{a}{b:_}{f}{p1:_}{x}{kw:_}{z:_}{ap:_}{body:_}{scope:_}{lp}{kp}{p3}(r1:CkE m a x)(r2:CkE (m.lam z scope) b body):CkE m (.srtl a b) (.Call (.Name f p1) [x] [⟨some kw,.Lambda ⟨[],[⟨z,none,ap⟩],none,[],[],none,[]⟩ body scope lp,kp⟩] p3):=if h:(m.calm&&f == "sorted" && m.glob f .no&&kw == "key" && bC x&&m.q != "" && lA m.q == "<lambda>" && mQ [z] [z] scope&&(r1.isSome&&r2.isSome))=true then some ⟨λ{k}{W}{C}{X} S=>by
 simp only[aVL,aUI,aZB]at h;obtain⟨⟨⟨⟨⟨⟨⟨⟨hc,rfl⟩,h1⟩,rfl⟩,h2⟩,hq⟩,hin⟩,hsc⟩,h3,h4⟩:=h;obtain⟨gl,l,_,_⟩:=S.gl h1;cases hd:W.dp with
 |false=>rw[show evE W (.srtl a b)=λ_=>.stuck by funext ρ;show(if W.dp=true then _ else _)=_;rw[hd];rfl];exact aAJ
 |true =>
  rw[show evE W (.srtl a b)=λρ=>cW (λd=>evE W.pred b [some (false,d)]) (evE W a ρ) by funext ρ;show(if W.dp=true then _ else _)=_;rw[hd];rfl]
  exact aN1 S hc hd hq hin gl (S.no _ l) (got h3 S) h2 (tI hsc) (λS'=>got h4 S')⟩else none
noncomputable def aO3{op}{a}{b:_}{x}{o}{y:_}{p3}(r1:CkE m a x)(r2:CkE m b y):CkT m (.cmp op a b) (.Compare x [o] [y] p3):=if h:(o==op&&f8 y&&(r1.isSome&&r2.isSome))=true then some ⟨λ{k}{W}{C}{X} S=>by
 simp only[aVL,aUI]at h;obtain⟨⟨rfl,hs⟩,h1,h2⟩:=h;exact aG7 (f9 _ S.un).1 (f9 (C:=C) _ S.un).2 (got h1 S) (got h2 S) (pE _ hs)⟩else none
noncomputable def aO4{op}{op'}{a}{b:_}{c:_}{x}{o}{o'}{y:_}{z:_}{p5}(r1:CkE m a x)(r2:CkE m b y)(r3:CkE m c z):CkT m (.chain op op' a b c) (.Compare x [o,o'] [y,z] p5):=if h:(o==op&&o'==op'&&f8 z&&(r1.isSome&&(r2.isSome&&r3.isSome)))=true then some ⟨λ{k}{W}{C}{X} S=>by
 simp only[aVL,aUI]at h;obtain⟨⟨⟨rfl,rfl⟩,hs⟩,h1,h2,h3⟩:=h;exact aI6 (f9 _ S.un).1 (f9 _ S.un).1 (f9 (C:=C) _ S.un).2 (f9 (C:=C) _ S.un).2 (got h1 S) (got h2 S) (got h3 S) (pE _ hs)⟩else none
noncomputable def aO5{es}{xs:_}{p1:_}(r1:CkF m es xs):CkT m (.andL es) (.BoolOp .And xs p1):=if h:(r1.isSome)=true then some ⟨λS=>by
 exact pt_w (gWA h S)⟩else none
noncomputable def aO6{es}{xs:_}{p1:_}(r1:CkF m es xs):CkT m (.orL es) (.BoolOp .Or xs p1):=if h:(r1.isSome)=true then some ⟨λS=>by
 exact pt_w (gWO h S)⟩else none
noncomputable def aO7{a}{x}{p1:_}(r1:CkT m a x):CkT m (.not a) (.UnaryOp .Not x p1):=if h:(r1.isSome)=true then some ⟨λS=>by
 exact aG8 (got h S)⟩else none
noncomputable def aO8{tg0}{a}{f}{p1:_}{x}{p3}(r1:CkE m a x):CkI m tg0 (.rng1 a) (.Call (.Name f p1) [x] [] p3):=if h:(f == "range" && m.glob f .no&&bC x&&r1.isSome)=true then some ⟨λS=>by
 simp only[aVL,aUI]at h;obtain⟨⟨⟨rfl,h1⟩,h2⟩,h3⟩:=h;obtain⟨gl,l,hd,hn⟩:=S.gl h1;exact aH6 gl (S.no _ l) (i9 (got h3 S) lO (bG h2)) (bG h2)⟩else none
noncomputable def aO9{tg0}{a}{b:_}{c:_}{f}{p1:_}{x}{y:_}{z:_}{p4}(r1:CkE m a x)(r2:CkE m b y)(r3:CkE m c z):CkI m tg0 (.rng3 a b c) (.Call (.Name f p1) [x,y,z] [] p4):=if h:(f == "range" && m.glob f .no&&bC x&&bC y&&bC z&&(r1.isSome&&(r2.isSome&&r3.isSome)))=true then some ⟨λS=>by
 simp only[aVL,aUI]at h;obtain⟨⟨⟨⟨⟨rfl,h1⟩,h2⟩,h2'⟩,h2''⟩,h3,h4,h5⟩:=h;obtain⟨gl,l,hd,hn⟩:=S.gl h1;exact aL9 gl (S.no _ l) (i9 (got h3 S) (i9 (got h4 S) (i9 (got h5 S) lO (bG h2'')) (bG h2')) (bG h2)) (bG h2) (jF _ _ λw hw=>by
  simp only[aTT,aXK,aXL]at hw;rcases hw with rfl|rfl
  . exact h2'
  . exact h2'')⟩else none
noncomputable def aPA{tg0}{a}{f}{p1:_}{x}{p3}(r1:CkE m a x):CkI m tg0 (.enum1 a) (.Call (.Name f p1) [x] [] p3):=if h:(f == "enumerate" && aNR tg0&&m.glob f .no&&bC x&&r1.isSome)=true then some ⟨λS=>by
 simp only[aVL,aUI]at h;obtain⟨⟨⟨⟨rfl,ht⟩,h1⟩,h2⟩,h3⟩:=h;obtain⟨gl,l,hd,hn⟩:=S.gl h1;cases tg0 <;> first
  |(cases ht;done)
  |exact aKB gl (S.no _ l) (i9 (fP (got h3 S)) lO (bG h2)) (bG h2)⟩else none
noncomputable def kEs{f fs x xs:_}(r1:CkE m f x)(r2:eI m fs xs):eI m (f::fs) (x::xs):=if h:(bC x&&r1.isSome&&r2.isSome)=true then some ⟨by
 simp only[aVL]at h;exact .cons h.1.1 (@got _ r1 h.1.2) (got h.2)⟩else none
noncomputable def kO{f x}(r1:CkE m f x):CkO m (some f) (some x):=if h:r1.isSome=true then some ⟨λS=>by simp only[evO];exact got h S⟩else none
noncomputable def kF{f fs x xs:_}(r1:CkT m f x)(r2:CkF m fs xs):CkF m (f::fs) (x::xs):=if h:(r1.isSome&&r2.isSome)=true then some ⟨by
 simp only[aVL]at h;exact .cons (@got _ r1 h.1) (got h.2)⟩else none
set_option maxHeartbeats 4000000 in
mutual
noncomputable def ckE:(m:MC)->(f:E)->(e:Expr)->CkE m f e
 |m,.frz a,e=>aN4 (ckE m a e)
 |m,.never,e=>some ⟨λ_=>aAK⟩
 |m,.var i,e=>match e with|.Name x p1=>aN8|_=>none
 |m,.glob y c,e=>match e with|.Name x p1=>aN9|_=>none
 |m,.ty t,e=>match e with|.Name x p1=>kE_ty|_=>none
 |m,.non,e=>match e with|.Constant .none p0 p1=>aOA|_=>none
 |m,.bl c,e=>match e with|.Constant (.bool b) p1 p2=>kE_bl|_=>none
 |m,.int c,e=>match e with|.Constant (.int b) p1 p2=>aOB|_=>none
 |m,.str c,e=>match e with|.Constant (.str b) p1 p2=>aOC|_=>none
 |m,.bin op a b,e=>match e with|.BinOp x o y p3=>aOD (ckE m a x) (ckE m b y)|_=>none
 |m,.cmp op a b,e=>match e with|.Compare x [o] [y] p3=>aOE (ckE m a x) (ckE m b y)|_=>none
 |m,.andL es,e=>match e with|.BoolOp .And xs p1=>aOF (gB m es xs)|_=>none
 |m,.orL es,e=>match e with|.BoolOp .Or xs p1=>aOG (gB m es xs)|_=>none
 |m,.not a,e=>match e with|.UnaryOp .Not x p1=>aOH (ckE m a x)|_=>none
 |m,.neg a,e=>match e with|.UnaryOp .USub x p1=>aOI (ckE m a x)|_=>none
 |m,.slice a l u,e=>match e with|.Subscript x (.Slice lo hi none p3) p4=>aOJ (ckE m a x) (ckO m l lo) (ckO m u hi)|_=>none
 |m,.ix a b,e=>match e with|.Subscript x y p2=>kE_ix (ckE m a x) (ckE m b y)|_=>none
 |m,.tup es,e=>match e with|.Tuple es0 p1 p2=>aOK (gB m es es0)|_=>none
 |m,.lst es,e=>match e with|.List es0 p1=>aOL (gB m es es0)|_=>none
 |m,.call g n es,e=>match e with|.Call (.Name f p) (x::xs) [] cp=>aOM (gB m es (x::xs))|_=>none
 |m,.bcall b es,e=>match e with|.Call (.Name f p) (x::xs) [] cp=>aON (gB m es (x::xs))|_=>none
 |m,.chain op op' a b c,e=>match e with|.Compare x [o,o'] [y,z] p5=>aOO (ckE m a x) (ckE m b y) (ckE m c z)|_=>none
 |m,.tcall t es,e=>match e with|.Call (.Name f p1) (x::xs) [] p4=>aOP (gB m es (x::xs))|_=>none
 |m,.fld a f,e=>match e with|.Attribute x g p2=>aOQ (ckE m a x)|_=>none
 |m,.meth a f es,e=>match e with|.Call (.Attribute o g ap) xs [] cp=>aOR (ckE m a o) (gB m es xs)|_=>none
 |m,.mk0 c,e=>match e with|.Call (.Name f p1) [] [] p2=>aOS|_=>none
 |m,.make c key n es,e=>match e with|.Call (.Name f p) (x::xs) [] cp=>aOT (gB m es (x::xs))|_=>none
 |m,.nnew,e=>match e with|.Dict [] [] p0=>aOX|_=>none
 |m,.usort a b,e=>match e with|.Call (.Name f p1) [.BinOp (.Call (.Name g p3) [x] [] p5) .BitOr (.Call (.Name g' p7) [y] [] p9) p10] [] p11=>aOU (ckE m a x) (ckE m b y)|_=>none
 |m,.usi a,e=>match e with|.Call (.Name f p1) [.Call (.Name g p3) [x] [] p5] [] p6=>aOV (ckE m a x)|_=>none
 |m,.srtw a,e=>match e with|.Call (.Name f p1) [x] [] p3=>aO0 (ckE m a x)|_=>none
 |m,.srtf g a,e=>match e with|.Call (.Name f p1) [x] [⟨some kw,.Name y q,kp⟩] p3=>aO1 (ckE m a x)|_=>none
 |m,.srtl a b,e=>match e with|.Call (.Name f p1) [x] [⟨some kw,.Lambda ⟨[],[⟨z,none,ap⟩],none,[],[],none,[]⟩ body scope lp,kp⟩] p3=>aO2 (ckE m a x) (ckE (m.lam z scope) b body)|_=>none
 |m,.nix a b,e=>match e with|.Subscript x y p2=>aOY (ckE m a x) (ckE m b y)|_=>none
 |m,.comp el it ts aG t n,e=>match e with|.ListComp elt [⟨tg,aV,ifs,0⟩] scope cp=>aOW (ckI m tg it aV) (ckE (m.sub scope (aG.filterMap λi=>m.N[i]?) (fE 4 tg)) el elt) (ckF (m.sub scope (aG.filterMap λi=>m.N[i]?) (fE 4 tg)) ts ifs)|_=>none
 |m,.nget a b d,e=>match e with|.Call (.Attribute o f ap) [x,y] [] cp=>aOZ (ckE m a o) (ckE m b x) (ckE m d y)|_=>none
 |_,.tru _,_=>none
 |_,.items _,_=>none
 |_,.nkeys _,_=>none
 |_,.rng1 _,_=>none
 |_,.rng3 _ _ _,_=>none
 |_,.enum1 _,_=>none
noncomputable def ckT:(m:MC)->(f:E)->(e:Expr)->CkT m f e
 |m,.tru a,e=>aN5 (ckE m a e)
 |m,.never,e=>some ⟨λ_=>aN2⟩
 |m,.cmp op a b,e=>match e with|.Compare x [o] [y] p3=>aO3 (ckE m a x) (ckE m b y)|_=>none
 |m,.chain op op' a b c,e=>match e with|.Compare x [o,o'] [y,z] p5=>aO4 (ckE m a x) (ckE m b y) (ckE m c z)|_=>none
 |m,.andL es,e=>match e with|.BoolOp .And xs p1=>aO5 (ckF m es xs)|_=>none
 |m,.orL es,e=>match e with|.BoolOp .Or xs p1=>aO6 (ckF m es xs)|_=>none
 |m,.not a,e=>match e with|.UnaryOp .Not x p1=>aO7 (ckT m a x)|_=>none
 |_,_,_=>none
noncomputable def ckI:(m:MC)->(tg:Expr)->(f:E)->(e:Expr)->CkI m tg f e
 |m,tg,.items a,e=>aN6 (ckE m a e)
 |m,tg,.nkeys a,e=>aN7 (ckE m a e)
 |m,tg,.never,e=>some ⟨λ_=>aN3⟩
 |m,tg0,.rng1 a,e=>match e with|.Call (.Name f p1) [x] [] p3=>aO8 (ckE m a x)|_=>none
 |m,tg0,.rng3 a b c,e=>match e with|.Call (.Name f p1) [x,y,z] [] p4=>aO9 (ckE m a x) (ckE m b y) (ckE m c z)|_=>none
 |m,tg0,.enum1 a,e=>match e with|.Call (.Name f p1) [x] [] p3=>aPA (ckE m a x)|_=>none
 |_,_,_,_=>none
noncomputable def gB:(m:MC)->(fs:List E)->(es:List Expr)->eI m fs es
 |m,[],es=>match es with|[]=>some ⟨.nil⟩|_=>none
 |m,f::fs,l=>match l with|x::xs=>kEs (ckE m f x) (gB m fs xs)|_=>none
noncomputable def ckO:(m:MC)->(f:Option E)->(e:Option Expr)->CkO m f e
 |m,none,e=>match e with|none=>some ⟨λ_=>True.intro⟩|_=>none
 |m,some f,l=>match l with|some x=>kO (ckE m f x)|_=>none
noncomputable def ckF:(m:MC)->(fs:List E)->(es:List Expr)->CkF m fs es
 |m,[],es=>match es with|[]=>some ⟨.nil⟩|_=>none
 |m,f::fs,l=>match l with|x::xs=>kF (ckT m f x) (ckF m fs xs)|_=>none
end
noncomputable def mE(m:MC)(f:E)(e:Expr):Bool:=(ckE m f e).isSome
noncomputable def mT(m:MC)(f:E)(e:Expr):Bool:=(ckT m f e).isSome
noncomputable def mI(m:MC)(tg:Expr)(f:E)(e:Expr):Bool:=(ckI m tg f e).isSome
noncomputable def mF(m:MC)(f:List E)(e:List Expr):Bool:=(ckF m f e).isSome
section
variable {W:WD}
def sE(f:E)(S:SX k W m C X)(h:mE m f e=true):PV C X e (evE W f):=got h S
def sT(f:E)(S:SX k W m C X)(h:mT m f e=true):PTv C X e (evE W f):=got h S
def sI(f:E)(S:SX k W m C X)(h:mI m tg f e=true):PIv C X tg e (evE W f):=got h S
def sF(fs:List E){es:List Expr}(S:SX k W m C X)(h:mF m fs es=true):dL X es (tT (C.at X) (evF W fs)):=gF h S
end
inductive G where|app (k v:E)|for (it:E) (t:Tg) (g:G)
inductive S where
 |ret (e:E)|retV (i:Nat)|set (i:Nat) (e:E)|ite (c:E) (a b:List S)|for (it:E) (t:Tg) (body:List S)
 |expr (e:E)|never|whl (n:Nat) (c:E) (body:List S)
 |app (i:Nat) (e:E)|setC (i:Nat) (fz:Bool) (e:E)|nput (i:Nat) (k e:E)|frzV (i:Nat)|nfrz (i:Nat)|grp (i:Nat) (g:G)
noncomputable def evG(W:WD)(i:Nat):G->GM
 |.app k v=>iN i (evE W k) (evE W v)
 |.for it t g=>kN t (evE W it) (evG W i g)
mutual
noncomputable def evS(W:WD):S->Rho->aF
 |.ret e,ρ=>j6 (evE W e ρ) ρ
 |.retV i,ρ=>fQ ρ i
 |.set i e,ρ=>dJ ρ i (evE W e ρ)
 |.ite c a b,ρ=>ifS (evE W c ρ) ρ (evB W a ρ) (evB W b ρ)
 |.for it t body,ρ=>eO (evE W it ρ) ρ (aP t) (evB W body)
 |.whl n c body,ρ=>cZ (evE W c) (evB W body) n ρ
 |.expr e,ρ=>(evE W e ρ).thS ρ λ_ _=>.nx ρ
 |.app i e,ρ=>eF ρ i (evE W e ρ)
 |.frzV i,ρ=>l9 ρ i
 |.nfrz i,ρ=>mP ρ i
 |.grp i g,ρ=>kP i (evG W i g) ρ
 |.nput i k e,ρ=>oY ρ i (evE W k ρ) (evE W e ρ)
 |.setC i fz e,ρ=>dJ ρ i (if fz=true then aK (evE W e ρ)else evE W e ρ)
 |.never,_=>.stuck
noncomputable def evB(W:WD):List S->Rho->aF
 |[],ρ=>.nx ρ
 |s::r,ρ=>(evS W s ρ).thn (evB W r)
end
noncomputable def jM:Expr->Bool|.ListComp ..=>false|.SetComp ..=>false|.DictComp ..=>false|_=>true
noncomputable def mC(m:MC)(elt:Expr)(scope:Scope):E->List Comprehension->Bool
 |.comp el it ts aG t n,gens=>match gens with
  |[⟨tg,aV,ifs,0⟩] =>
   let aL:=aG.filterMap λi=>m.N[i]?
   let tgN:=fE 4 tg
   m.calm&&pD scope m.sc m.N aG aL tgN&&f8 aV&&decide (tgN.length=n)&&(eE t).all (λj=>decide (aG.length<=j))&&mG (m.sub scope aL tgN) t tg&&(mI m tg it aV&&(mE (m.sub scope aL tgN) el elt&&mF (m.sub scope aL tgN) ts ifs))
  |_=>false
 |_,_=>false
def mS{t:Option Expr}(h:jM e=true):swapsWith e t n env=pure false:=by cases e <;> first|rfl|cases h
def aPB{x:Str}(hs:env.scope=m.sc)(h:(jM e||m.kind x==some .cell)=true):swapsWith e (some (.Name x p)) n env=pure false:=by
 rw[aWB,aUI]at h;rcases h with h|h
 . exact mS h
 . have hk:env.kindOf x=some .cell:=by show env.scope.names.lookup x=_;rw[hs];exact h
   unfold swapsWith;have kc:(NameKind.cell==NameKind.local)=false:=by decide
   cases e <;> first|rfl|(simp[hk,kc])
def aPC:PSv C X st (λ_=>.stuck):=λaA s σ H En I q=>by obtain⟨ρ,F,R,w⟩:=q;exact w.elim
section
variable {W:WD}
structure SB(k:Nat)(W:WD)(m:MC)(C:Cw)(X:Cx):Prop extends SX k W m C X where
 nd:m.N.Nodup
 hp:PassesOwn (model X.prog X.w) X.A X.env X.xe
 ro:m.rz=true->RzOk (C.at X) X/\FnCx X/\XOk (HX1 X.prog X.w) (C.at X) X
end
def aPD{W:WD}(S:SB k W m C X)(fz:Bool){el it:E}{ts:List E}{t:Tg}{x:Str}{px cp sp:Pos}{gens:List Comprehension}(h1:m.N[i]? = some x)(h2:m.kind x=some .local)(h3:m.sc.kind=.function)(h4:px.line=cp.line)(h5:(scope.names.any λy=>y.1==x&&(y.2 == .local||y.2 == .cell))=false)(h:mC m elt scope (.comp el it ts aG t n) gens=true):PSv C X (.Assign [.Name x px] (.ListComp elt gens scope cp) sp) (λρ=>dJ ρ i (if fz=true then aK (evE W (.comp el it ts aG t n) ρ)else evE W (.comp el it ts aG t n) ρ)):=by
 have hk:X.env.scope.names.lookup x=some .local:=by rw[S.hs];exact h2
 conv at h=>lhs;whnf
 split at h
 . rename_i tg aV ifs;simp only[aVL,aV9,aWI]at h;obtain⟨⟨⟨⟨⟨⟨hq,ho⟩,hn⟩,hl⟩,hs⟩,hg⟩,k1,k2,k3⟩:=h;unfold pD at ho;simp only[aVL,aWI,aWB,aZB,aUI,aV9,aZC]at ho;obtain⟨⟨⟨⟨⟨⟨⟨g1,g2⟩,g3⟩,g4⟩,g5⟩,g6⟩,g7⟩,g8⟩:=ho;have er:(relabel scope X.env).names=lW scope m.sc:=by rw[<- S.hs];rfl
   have bk:X.env.blockKind=.function:=by unfold Env.blockKind;rw[S.hs,h3];rfl
   have hsw:swapsWith (.ListComp elt [⟨tg,aV,ifs,0⟩] scope cp) (some (.Name x px)) sp.line X.env=pure true:=by
    have kx:X.env.kindOf x=some .local:=hk;unfold swapsWith;have k1:(ScopeKind.function==ScopeKind.function)=true:=by decide
    have k2:(some NameKind.local==some NameKind.local)=true:=by decide
    have ep:(Expr.ListComp elt [⟨tg,aV,ifs,0⟩] scope cp).pos=cp:=rfl;simp only[bk,kx,ep,h4,h5,k1,k2,aWW];rfl
   have := aJV fz (pos := cp) (pos' := px) (spos := sp) (i := i) (x := x) (tgN := fE 4 tg) (t := t) (S.cm hq) (sI it S.toSX k1) g1 g2 (fun y hy e => (g3 y hy).resolve_left fun z => z e) (fun y hy e => by
       have:=g4 y hy;show X.env.scope.names.lookup y.1=_\/X.env.scope.names.lookup y.1=_;rw[S.hs];rcases this with(z|z)|z
       . exact absurd e z
       . exact .inl z
       . exact .inr z) (by rw[S.hN];exact g5) g6 (λy hy=>by rw[er];exact g7 y hy) (λj hj=>hs j hj) (λcl A fp s3 H3=>sG (S.toSX.sub cl A fp s3 H3) g8 t hg)
       (λcl A fp s3 H3=>sF ts (S.toSX.sub cl A fp s3 H3) k3) (λcl A fp s3 H3=>sE el (S.toSX.sub cl A fp s3 H3) k2) (by rw[S.hN];exact S.nd) (by rw[S.hN];exact h1) hk hsw (pF hn)
   rw[hl]at this;exact this
 . cases h
abbrev CkS(m:MC)(f:D3.S)(st:Stmt):Type:=Option (PLift (∀{k:Nat}{W:WD}{C:Cw}{X:Cx},SB k W m C X->PSv C X st (evS W f)))
abbrev CkB(m:MC)(f:List D3.S)(sts:List Stmt):Type:=Option (PLift (∀{k:Nat}{W:WD}{C:Cw}{X:Cx},SB k W m C X->PBv C X sts (evB W f)))
noncomputable def aPE{f}{e:_}{p1:_}:CkS m (.ret f) (.Return (some e) p1):=if h:(mE m f e)=true then some ⟨λS=>by
 exact aHX (sE f S.toSX h)⟩else none
noncomputable def aPF{i:_}{x}{p1:_}{p2:_}:CkS m (.retV i) (.Return (some (.Name x p1)) p2):=if h:(m.N[i]?==some x&&m.vis x)=true then some ⟨λS=>by
 simp only[aVL,aUI]at h;obtain⟨h1,h2,h3⟩:=S.toSX.vis h.2
 exact aHY i (jX (by rw[S.hN];exact h.1) h1 h2 h3)⟩else none
noncomputable def aPG{i:_}{f}{x}{p1:_}{e:_}{p3}:CkS m (.set i f) (.Assign [.Name x p1] e p3):=if h:(m.loc i x&&(jM e||m.kind x==some .cell)&&mE m f e)=true then some ⟨λS=>by
 simp only[aVL]at h;obtain⟨⟨h1,h2⟩,h3⟩:=h;obtain⟨b,c,d⟩:=S.toSX.loc h1
 exact aH0 (by rw[S.hN];exact S.nd) b c (sE f S.toSX h3) (aPB S.hs h2) d⟩else none
noncomputable def aPH{i:_}{f}{g:_}{x}{p1:_}{k:_}{p3}{e:_}{p5}:CkS m (.nput i f g) (.Assign [.Subscript (.Name x p1) k p3] e p5):=if h:(m.N[i]?==some x&&m.vis x&&jM e&&mE m f k&&mE m g e)=true then some ⟨λS=>by
 simp only[aVL,aUI]at h;obtain⟨⟨⟨⟨h1,h2⟩,h3⟩,h4⟩,h5⟩:=h;obtain⟨v1,v2,v3⟩:=S.toSX.vis h2
 exact aML i S.un (jX (by rw[S.hN];exact h1) v1 v2 v3) (sE f S.toSX h4) (sE g S.toSX h5) (mS h3)⟩else none
noncomputable def aPI{i:_}{fz}{f}{x}{px}{elt:_}{gens}{scope:_}{cp}{p6}:CkS m (.setC i fz f) (.Assign [.Name x px] (.ListComp elt gens scope cp) p6):=if h:(m.N[i]?==some x&&m.kind x==some .local&&m.sc.kind == .function&&px.line==cp.line&&!(scope.names.any λy=>y.1==x&&(y.2 == .local||y.2 == .cell))&&mC m elt scope f gens)=true then some ⟨λS=>by
 simp only[aVL,aUI,aYN]at h;obtain⟨⟨⟨⟨⟨h1,h2⟩,h3⟩,h4⟩,h5⟩,h7⟩:=h;cases f with
 |comp el it ts aG t n=>exact aPD S fz h1 h2 h3 h4 h5 h7
 |_=>cases h7⟩else none
noncomputable def aPJ{f}{a}{b:_}{c:_}{x}{y:_}{p3}(r1:CkB m a x)(r2:CkB m b y):CkS m (.ite f a b) (.If c x y p3):=if h:(mT m f c&&(r1.isSome&&r2.isSome))=true then some ⟨λS=>by
 simp only[aVL]at h;obtain⟨h1,h2,h3⟩:=h;exact aHZ (sT f S.toSX h1) (got h2 S) (got h3 S)⟩else none
noncomputable def aPK{f}{t:_}{b:_}{tg:_}{e:_}{body:_}{p3}(r1:CkB m b body):CkS m (.for f t b) (.For tg e body [] p3):=if h:(m.calm&&mG m t tg&&f8 e&&(mI m tg f e&&r1.isSome))=true then some ⟨λS=>by
 simp only[aVL]at h;obtain⟨⟨⟨hq,h1⟩,h2⟩,h3,h4⟩:=h;exact aH7 S.hp (S.cm hq) (sI f S.toSX h3) (aJS (sG S.toSX S.nd t h1)) (got h4 S) (pF h2)⟩else none
noncomputable def aPL{n:_}{f}{b:_}{c:_}{body:_}{p2:_}(r1:CkB m b body):CkS m (.whl n f b) (.While c body [] p2):=if h:(mT m f c&&r1.isSome)=true then some ⟨λ{k}{W}{C}{X} S=>by
 simp only[aVL]at h;have:evS W (.whl n f b)=cZ (evE W f) (evB W b) n:=by funext ρ;rfl
 rw[this];exact aJT n S.hp (sT f S.toSX h.1) (got h.2 S)⟩else none
noncomputable def aPM{f}{e:_}{p1:_}:CkS m (.expr f) (.Expr e p1):=if h:(jM e&&mE m f e)=true then some ⟨λS=>by
 simp only[aVL]at h;exact aHW (sE f S.toSX h.2) (mS h.1)⟩else none
noncomputable def aPN{i:_}{f}{x}{p1:_}{a}{ap:_}{e:_}{cp}{p6}:CkS m (.app i f) (.Expr (.Call (.Attribute (.Name x p1) a ap) [e] [] cp) p6):=if h:(m.N[i]?==some x&&m.vis x&&a == "append" && ap.endLine==cp.line&&bC e&&mE m f e)=true then some ⟨λS=>by
 simp only[aVL,aUI]at h;obtain⟨⟨⟨⟨⟨h1,h2⟩,rfl⟩,h3⟩,h4⟩,h5⟩:=h;obtain⟨v1,v2,v3⟩:=S.toSX.vis h2
 exact aKE i (jX (by rw[S.hN];exact h1) v1 v2 v3) (sE f S.toSX h5) h4 h3⟩else none
def aPO{W:WD}(S:SB k W m C X):PBv C X [] (evB W []):=by
 have:evB W []=λρ=>.nx ρ:=by funext ρ;simp only[evB]
 rw[this];exact aHT
noncomputable def aPP{i fs sts:_}(r:CkB m fs sts):CkB m (.frzV i::fs) sts:=if h:r.isSome=true then some ⟨λ{k}{W}{C}{X} S=>by
 have:evB W (.frzV i::fs)=λρ=>(l9 ρ i).thn (evB W fs):=by funext ρ;rfl
 rw[this];exact aKJ (got h S)⟩else none
noncomputable def aPQ{i fs sts:_}(r:CkB m fs sts):CkB m (.nfrz i::fs) sts:=if h:r.isSome=true then some ⟨λ{k}{W}{C}{X} S=>by
 have:evB W (.nfrz i::fs)=λρ=>(mP ρ i).thn (evB W fs):=by funext ρ;rfl
 rw[this];exact aM2 (got h S)⟩else none
abbrev CkG(m:MC)(i:Nat)(g:G)(st:Stmt):Type:=Option (PLift (∀{k:Nat}{W:WD}{C:Cw}{X:Cx},SB k W m C X->PGb C X st i (evG W i g)))
noncomputable def aPR{i:_}{f}{g:_}{x}{p:_}{sd}{ap1}{ke:_}{lp}{cp1}{an}{ap2}{ve}{cp2}{pos:_}:CkG m i (.app f g) (.Expr (.Call (.Attribute (.Call (.Attribute (.Name x p) sd ap1) [ke,.List [] lp] [] cp1) an ap2) [ve] [] cp2) pos):=if h:(m.N[i]?==some x&&m.vis x&&sd == "setdefault" && an == "append" && ap1.endLine==cp1.line&&ap2.endLine==cp2.line&&bC ke&&bC ve&&mE m f ke&&mE m g ve)=true then some ⟨λS=>by
 simp only[aVL,aUI]at h;obtain⟨⟨⟨⟨⟨⟨⟨⟨⟨h1,h2⟩,rfl⟩,rfl⟩,l1⟩,l2⟩,s1⟩,s2⟩,h3⟩,h4⟩:=h;obtain⟨v1,v2,v3⟩:=S.toSX.vis h2
 exact aNN i S.un (jX (by rw[S.hN];exact h1) v1 v2 v3) (sE f S.toSX h3) (sE g S.toSX h4) s1 s2 l1 l2⟩else none
noncomputable def aPS{i:_}{f}{t:_}{g:_}{tg:_}{e:_}{st:_}{p3}(r1:CkG m i g st):CkG m i (.for f t g) (.For tg e [st] [] p3):=if h:(m.calm&&mG m t tg&&f8 e&&!(eE t).contains i&&(mI m tg f e&&r1.isSome))=true then some ⟨λS=>by
 simp only[aVL,aYN]at h;obtain⟨⟨⟨⟨hq,h1⟩,h2⟩,h5⟩,h3,h4⟩:=h;exact aNO S.hp (S.cm hq) (sI f S.toSX h3) (sG S.toSX S.nd t h1) (λz=>by rw[aZC.mpr z]at h5;cases h5) (got h4 S) (pF h2)⟩else none
noncomputable def ckG(m:MC)(i:Nat):(g:G)->(st:Stmt)->CkG m i g st
 |.app f g,st=>match st with|.Expr (.Call (.Attribute (.Call (.Attribute (.Name x p) sd ap1) [ke,.List [] lp] [] cp1) an ap2) [ve] [] cp2) pos=>aPR|_=>none
 |.for f t g,st=>match st with|.For tg e [st] [] p3=>aPS (ckG m i g st)|_=>none
noncomputable def aPT{i g fs x p1 p2 sp st sts:_}(r1:CkG m i g st)(r:CkB m fs sts):CkB m (.grp i g::fs) (.Assign [.Name x p1] (.Dict [] [] p2) sp::st::sts):=if h:(m.loc i x&&(r1.isSome&&r.isSome))=true then some ⟨λ{k}{W}{C}{X} S=>by
 simp only[aVL]at h;obtain⟨h1,h2,h3⟩:=h;obtain⟨b,c,d⟩:=S.toSX.loc h1;have:evB W (.grp i g::fs)=λρ=>(kP i (evG W i g) ρ).thn (evB W fs):=by funext ρ;rfl
 rw[this];exact aNQ (by rw[S.hN];exact S.nd) b c d (got h2 S) (got h3 S) (mS rfl)⟩else none
noncomputable def aPU{f fs st sts:_}(r:CkS m f st)(r2:CkB m fs sts):CkB m (f::fs) (st::sts):=if h:(r.isSome&&r2.isSome)=true then some ⟨λ{k}{W}{C}{X} S=>by
 rw[aVL]at h;have:evB W (f::fs)=λρ=>(evS W f ρ).thn (evB W fs):=by funext ρ;simp only[evB]
 rw[this];exact aHV (got h.1 S) (got h.2 S)⟩else none
set_option maxHeartbeats 4000000 in
mutual
noncomputable def ckS:(m:MC)->(f:D3.S)->(st:Stmt)->CkS m f st
 |m,.never,st=>some ⟨λ_=>aPC⟩
 |_,.frzV _,_=>none
 |_,.nfrz _,_=>none
 |_,.grp _ _,_=>none
 |m,.ret f,st=>match st with|.Return (some e) p1=>aPE|_=>none
 |m,.retV i,st=>match st with|.Return (some (.Name x p1)) p2=>aPF|_=>none
 |m,.set i f,st=>match st with|.Assign [.Name x p1] e p3=>aPG|_=>none
 |m,.nput i f g,st=>match st with|.Assign [.Subscript (.Name x p1) k p3] e p5=>aPH|_=>none
 |m,.setC i fz f,st=>match st with|.Assign [.Name x px] (.ListComp elt gens scope cp) p6=>aPI|_=>none
 |m,.ite f a b,st=>match st with|.If c x y p3=>aPJ (ckB m a x) (ckB m b y)|_=>none
 |m,.for f t b,st=>match st with|.For tg e body [] p3=>aPK (ckB m b body)|_=>none
 |m,.whl n f b,st=>match st with|.While c body [] p2=>aPL (ckB m b body)|_=>none
 |m,.expr f,st=>match st with|.Expr e p1=>aPM|_=>none
 |m,.app i f,st=>match st with|.Expr (.Call (.Attribute (.Name x p1) a ap) [e] [] cp) p6=>aPN|_=>none
noncomputable def ckB:(m:MC)->(f:List D3.S)->(sts:List Stmt)->CkB m f sts
 |m,[],sts=>match sts with|[]=>some ⟨λS=>aPO S⟩|_=>none
 |m,.frzV i::fs,sts=>aPP (ckB m fs sts)
 |m,.nfrz i::fs,sts=>aPQ (ckB m fs sts)
 |m,.grp i g::fs,sts=>match sts with|.Assign [.Name x p1] (.Dict [] [] p2) sp::st::sts=>aPT (ckG m i g st) (ckB m fs sts)|_=>none
 |m,f::fs,sts=>match sts with|st::sts=>aPU (ckS m f st) (ckB m fs sts)|_=>none
end
noncomputable def mB(m:MC)(f:List D3.S)(sts:List Stmt):Bool:=(ckB m f sts).isSome
def sB{W:WD}(S:SB k W m C X)(f:List D3.S)(h:mB m f sts=true):PBv C X sts (evB W f):=got h S
inductive IB where
 |done|guard (c:E) (b:List D3.S) (r:IB)|fset (f:Str) (e:E) (r:IB)
inductive IR where|ok (fs:List (Str×D))|exc (c:Str)|stuck
noncomputable def gZ(W:WD)(c:Str):IB->Rho->List (Str×D)->IR
 |.done,_,fs=>.ok fs
 |.guard t b r,ρ,fs=>match evE W t ρ with
  |.ok _ (.bl false)=>gZ W c r ρ fs
  |.ok _ (.bl true)=>(match evB W b ρ with|.exc x _=>.exc x|_=>.stuck)
  |_=>.stuck
 |.fset f e r,ρ,fs=>match evE W e ρ with
  |.ok .fz d=>(match W.cl.find? (λi=>i.name==c)with
   |some j=>if(j.flds.contains f&&decide (fs.length<1000))=true then gZ W c r ρ (lX f d fs)else .stuck
   |none=>.stuck)
  |_=>.stuck
noncomputable def tIB(C:Cw)(W:WD)(c:Str)(ib:IB):TS:=λEn σ H=>∃ρ F fs x dx C' gs,aM C.K C.F0 C.H0 F H σ ρ/\σ[0]? = some (some (.ref x))/\(∀(i:Nat) (d:D),ρ[i]?≠some (some (true,d)))/\C.H0 x=none/\F x=none/\H x=some (.ins C' dx gs) /\
 PySem.W.nsIn C.K mainGlobals c=some (some (.ref C'))/\aZ C.K F fs gs/\match gZ W c ib ρ fs with
 |.ok fs'=>∀F' H' gs',aE C.F0 C.H0 F' H'->F' x=none->H' x=some (.ins C' dx gs')->aZ C.K F' fs' gs'->En.nx σ H'
 |.exc c'=>∀σ' F' H',aE C.F0 C.H0 F' H'->C.EE c' σ' H'
 |.stuck=>False
section
variable {W:WD}
def aPV{c:Str}:PSs X [] (tIB (C.at X) W c .done):=PSs.imp qO λEn σ H q=>by obtain⟨ρ,F,fs,x,dx,C',gs,R,e0,_,h0,hf,hh,ns,rf,w⟩:=q;exact w F H gs R.st hf hh rf
def aPW(S:SB k W m C X)(c:Str){t:E}{b:List D3.S}{r:IB}{y:List Stmt}(h1:mT m t e=true)(h2:mB m b y=true)(hr:PSs X sts (tIB (C.at X) W c r)):PSs X (.If e y [] p::sts) (tIB (C.at X) W c (.guard t b r)):=by
 refine PSs.imp (lB (vA (sT t S.toSX h1) (sB S b h2) qO) hr) λEn σ H q=>?_;obtain⟨ρ,F,fs,x,dx,C',gs,R,e0,e0',h0,hf,hh,ns,rf,w⟩:=q;refine⟨ρ,F,R,?_⟩;unfold gZ at w;cases et:evE W t ρ with
 |stuck=>rw[et]at w;exact w.elim
 |exc c'=>rw[et]at w;exact w.elim
 |ok m' d' =>
  cases d' with
  |bl bb =>
   intro F' H' st;cases bb with
   |false=>rw[et]at w;rw[if_neg aT5];exact⟨ρ,F',fs,x,dx,C',gs,R.step st,e0,e0',h0,st.new x hf (by rw[hh];exact λz=>nomatch z),st.same _ _ hh,ns,rf.mono st.fsame _ _,w⟩
   |true =>
    rw[et]at w;rw[if_pos rfl];refine⟨ρ,F',R.step st,?_⟩;dsimp only at w;cases eb:evB W b ρ with
    |exc c' ρ'=>rw[eb]at w;exact λσ2 F2 H2 _ R2=>w σ2 F2 H2 R2.st
    |_=>rw[eb]at w;exact w.elim
  |_=>rw[et]at w;exact w.elim
def aPX(S:SB k W m C X)(c:Str){f:Str}{e:E}{r:IB}{x0 g0:Str}{p0:Pos}{v0:Expr}(h:(m.N[0]?==some x0&&m.vis x0&&g0==f&&jM v0&&mE m e v0)=true)(hr:PSs X sts (tIB (C.at X) W c r)):PSs X (.Assign [.Attribute (.Name x0 p0) g0 p1] v0 p2::sts) (tIB (C.at X) W c (.fset f e r)):=by
 simp only[aVL,aUI]at h;obtain⟨⟨⟨⟨h1,h2⟩,hgf⟩,h3⟩,h4⟩:=h;subst hgf;obtain⟨v1,v2,v3⟩:=S.toSX.vis h2;refine PSs.imp (lB (aFF (jX (i:=0) (by rw[S.hN];exact h1) v1 v2 v3) (sE e S.toSX h4) (mS h3)) hr) λEn σ H q=>?_
 obtain⟨ρ,F,fs,x,dx,C',gs,R,e0,e0',h0,hf,hh,ns,rf,w⟩:=q;unfold gZ at w;cases et:evE W e ρ with
 |stuck=>rw[et]at w;exact w.elim
 |exc c'=>rw[et]at w;exact w.elim
 |ok md d =>
  rw[et]at w;cases md with
  |fr=>exact w.elim
  |bo=>exact w.elim
  |fz =>
  dsimp only at w;cases ej:W.cl.find? (λi=>i.name==c)with
  |none=>rw[ej]at w;exact w.elim
  |some j =>
   rw[ej]at w;dsimp only at w;by_cases hc:(j.flds.contains g0&&decide (fs.length<1000))=true
   . rw[if_pos hc]at w;rw[aVL,aV9]at hc;show tG (C.at X) (evE W e) σ H _;rw[aR];refine⟨ρ,F,R,?_⟩;rw[et];intro v F1 H1 s1 rp _;have hj:j.name=c:=by simpa using aW1 ej
     obtain⟨C2,n1,cl',na⟩:=(S.fl j _ (aW2 ej) (by simpa using hc.1)).ex
     rw[hj]at n1;have ns':PySem.W.nsIn X.K mainGlobals c=some (some (.ref C')):=ns;rw[n1]at ns';cases ns';have hh1:H1 x=some (.ins C' dx gs):=s1.same _ _ hh;have hf1:F1 x=none:=s1.new x hf (by rw[hh];exact λz=>nomatch z)
     refine⟨.ref x,e0,x,C',dx,gs,rfl,hh1,cl',na,by rw[rf.length];exact hc.2,?_⟩
     have R1:=R.step s1;have st:aE C.F0 C.H0 F1 (upd H1 x (.ins C' dx (cM g0 v gs))):=R1.st.upd h0 hf1;refine⟨ρ,F1,lX g0 d fs,x,dx,C',_,⟨st,λi b d' ei=>?_,λi l d1 d2 a hil q1 q2=>?_,R1.len⟩,e0,e0',h0,hf1,aT,ns,aZ.put rp (rf.mono s1.fsame _ _),w⟩
     . obtain⟨u,eu,ru,hu⟩:=R1.slot i b d' ei;refine⟨u,eu,?_,hu⟩;cases b with
       |false=>exact ru
       |true=>exact absurd ei (e0' i d')
     . exact R1.apart i l d1 d2 a hil q1 q2
   . rw[if_neg hc]at w;exact w.elim
end
abbrev mU(m:MC)(ib:IB)(l:List Stmt):Type:=Option (PLift (∀{k:Nat}{W:WD}{C:Cw}{X:Cx},SB k W m C X->∀c:Str,PSs X l (tIB (C.at X) W c ib)))
noncomputable def aPY{t b r e y p sts:_}(r1:mU m r sts):mU m (.guard t b r) (.If e y [] p::sts):=if h:(mT m t e&&mB m b y&&r1.isSome)=true then some ⟨λS c=>by
 rw[aVL,aVL]at h;exact aPW S c h.1.1 h.1.2 (got h.2 S c)⟩else none
noncomputable def aPZ{f e r x0 p0 g0 p1 v0 p2 sts:_}(r1:mU m r sts):mU m (.fset f e r) (.Assign [.Attribute (.Name x0 p0) g0 p1] v0 p2::sts):=if h:(m.N[0]?==some x0&&m.vis x0&&g0==f&&jM v0&&mE m e v0&&r1.isSome)=true then some ⟨λS c=>by
 rw[aVL]at h;exact aPX S c h.1 (got h.2 S c)⟩else none
noncomputable def tJ(m:MC):(ib:IB)->(l:List Stmt)->mU m ib l
 |.done,l=>match l with|[]=>some ⟨λ_ _=>aPV⟩|_=>none
 |.guard t b r,l=>match l with|.If e y [] p::sts=>aPY (tJ m r sts)|_=>none
 |.fset f e r,l=>match l with|.Assign [.Attribute (.Name x0 p0) g0 p1] v0 p2::sts=>aPZ (tJ m r sts)|_=>none
noncomputable def mIB(m:MC)(ib:IB)(l:List Stmt):Bool:=(tJ m ib l).isSome
def sIB{W:WD}(S:SB k W m C X)(c:Str)(ib:IB)(h:mIB m ib sts=true):PSs X sts (tIB (C.at X) W c ib):=got h S c
structure FD where
 ps:List Str
 N:List Str
 b:List D3.S
structure ID where
 c:Str
 ps:List Str
 N:List Str
 ib:IB
structure TB where
 T:List (Str×FD)
 I:List (Str×ID)
 cl:List CI
 xt:List ((Str×Str)×Bool)
 xi:List ((Str×Str)×Bool)
noncomputable def iO(W:WD)(i:ID):List D->Res:=λds=>if ds.length+1=i.ps.length then(match gZ W i.c i.ib (none::dM (i.N.length-1) ds) []with
 |.ok fs=>.ok .fr (.ins i.c fs)
 |.exc c=>.exc c
 |.stuck=>.stuck)else .stuck
noncomputable def mV(t:TB)(W:WD)(f:Str):List D->Res:=match t.T.lookup f with
 |some d=>phi d.ps.length d.N.length (evB W d.b)
 |none=>λ_=>.stuck
noncomputable def WT(t:TB):Nat->WD
 |0=>⟨λ_ _=>.stuck,λ_ _=>.stuck,λ_=>none,t.cl,t.xt,t.xi,false⟩
 |1=>⟨λf=>mV t ⟨λ_ _=>.stuck,λ_ _=>.stuck,λ_=>none,t.cl,t.xt,t.xi,false⟩ f,λ_ _=>.stuck,λ_=>none,t.cl,t.xt,t.xi,true⟩
 |k+2=>⟨λf=>mV t (WT t (k+1)) f,(WT t (k+1)).Φ,λkey=>match t.I.lookup key with|some i=>some (iO (WT t k) i)|none=>none,t.cl,t.xt,t.xi,true⟩
def pG(t:TB):∀k,(WT t k).cl=t.cl
 |0=>rfl
 |1=>rfl
 |k+2=>rfl
def aAL(t:TB):∀k,(WT t k).xt=t.xt
 |0=>rfl
 |1=>rfl
 |k+2=>rfl
def aAM(t:TB):∀k,(WT t k).xi=t.xi
 |0=>rfl
 |1=>rfl
 |k+2=>rfl
def WT_Φ(t:TB):∀k f,(WT t (k+1)).Φ f=mV t (WT t k) f
 |0,f=>rfl
 |k+1,f=>rfl
noncomputable def jN(g:MG)(key:Str)(st:Stmt)(d:FD):Bool:=mQ d.N d.ps (dZ st)&&mB ⟨d.N,dZ st,g,true,true,true,key⟩ d.b (i6 st)
noncomputable def tK(g:MG)(st:Stmt)(d:ID):Bool:=mQ d.N d.ps (dZ st)&&mIB ⟨d.N,dZ st,g,true,true,true,""⟩ d.ib (i6 st)&&decide (0<d.ps.length)
noncomputable def aAN(K:Fg)(g:MG)(fa:Str->Addr)(key:Str)(d:FD):Prop :=
 ∃name st fd,Fun K name key st (fa key) fd/\eL K fd d.ps []/\jN g key st d=true
noncomputable def mW(K:Fg)(g:MG)(fa:Str->Addr):List (Str×FD)->Prop
 |[]=>True
 |(x,d)::r=>aAN K g fa x d/\mW K g fa r
theorem mW.at{g:MG}:∀{T:List (Str×FD)}{x:Str}{d:FD},mW K g fa T->T.lookup x=some d->aAN K g fa x d
 |[],_,_,_,e=>by cases e
 |(y,d')::r,x,d,h,e=>by
  rw[aV8]at e;split at e
  . rename_i hb;cases e;rw[aUI]at hb;subst hb;exact h.1
  . exact h.2.at e
noncomputable def aAO(K:Fg)(mg:SOV)(g:MG)(key:Str)(d:ID):Prop :=
 ∃name st C f fd,W.nsIn K mainGlobals d.c=some (some (.ref C))/\mg d.c=some (.ref C)/\Mk K C f/\Fun K name key st f fd/\eL K fd d.ps []/\tK g st d=true
noncomputable def mX(K:Fg)(mg:SOV)(g:MG):List (Str×ID)->Prop
 |[]=>True
 |(x,d)::r=>aAO K mg g x d/\mX K mg g r
theorem mX.at{g:MG}:∀{T:List (Str×ID)}{x:Str}{d:ID},mX K mg g T->T.lookup x=some d->aAO K mg g x d
 |[],_,_,_,e=>by cases e
 |(y,d')::r,x,d,h,e=>by
  rw[aV8]at e;split at e
  . rename_i hb;cases e;rw[aUI]at hb;subst hb;exact h.1
  . exact h.2.at e
noncomputable def GVOk(w:aZQ)(K:Fg)(mg:SOV)(fa:Str->Addr)(x:Str):GV->Prop
 |.con (.s y)=>∃t,mg x=some (.str y t)
 |.con (.i n)=>∃t,mg x=some (.int n t)
 |.con (.t tb)=>kD w K mg x tb
 |.no=>mg x=none
 |.fn _=>mg x=some (.ref (fa x))
 |.cls=>True
noncomputable def mY(w:aZQ)(K:Fg)(mg:SOV)(fa:Str->Addr):List (Str×GV)->Prop
 |[]=>True
 |(x,v)::r=>GVOk w K mg fa x v/\mY w K mg fa r
theorem mY.at:∀{G:List (Str×GV)}{x:Str}{v:GV},mY w K mg fa G->G.lookup x=some v->GVOk w K mg fa x v
 |[],_,_,_,e=>by cases e
 |(y,v')::r,x,v,h,e=>by
  rw[aV8]at e;split at e
  . rename_i hb;cases e;rw[aUI]at hb;subst hb;exact h.1
  . exact h.2.at e
noncomputable def gOk(G:List (Str×GV))(T:List (Str×FD)):Bool:=G.all λ(x,v)=>match v with|.fn n=>(match T.lookup x with|some d=>d.ps.length==n|none=>false)|_=>true
theorem tL{T:List (Str×FD)}:∀{G:List (Str×GV)}{x:Str}{n:Nat},gOk G T=true->G.lookup x=some (.fn n)->∃d,T.lookup x=some d/\d.ps.length=n
 |[],_,_,_,e=>by cases e
 |(y,v')::r,x,n,h,e=>by
  unfold gOk at h;rw[aVP,aVL]at h;rw[aV8]at e;split at e
  . rename_i hb;cases e;rw[aUI]at hb;subst hb;have h1:=h.1;dsimp only at h1;cases q:T.lookup x with
    |none=>rw[q]at h1;cases h1
    |some d=>rw[q]at h1;exact⟨d,rfl,by simpa using h1⟩
  . exact tL (G:=r) h.2 e
noncomputable def mtOk(cl:List CI)(T:List (Str×FD)):Bool:=cl.all λi=>i.meths.all λ(_,key,n)=>match T.lookup key with|some d=>d.ps.length==n|none=>false
noncomputable def aAP(mki:List (Str×Str×Nat))(I:List (Str×ID)):Bool:=mki.all λ(c,key,n)=>match I.lookup key with|some d=>d.c==c&&d.ps.length==n+1|none=>false
noncomputable def kQ(K:Fg)(fa:Str->Addr)(C:Addr):List (Str×Str×Nat)->Prop
 |[]=>True
 |(m,key,_)::r=>lG K C m (fa key)/\kQ K fa C r
noncomputable def kR(K:Fg)(C:Addr):List Str->Prop
 |[]=>True
 |f::r=>gL K C f/\kR K C r
noncomputable def mZ(K:Fg)(fa:Str->Addr):List CI->Prop
 |[]=>True
 |i::r=>(∃C,W.nsIn K mainGlobals i.name=some (some (.ref C))/\Cls K C/\kQ K fa C i.meths/\kR K C i.flds)/\mZ K fa r
theorem mZ.at:∀{cl:List CI}{i:CI},mZ K fa cl->i∈cl->∃C,W.nsIn K mainGlobals i.name=some (some (.ref C))/\Cls K C/\kQ K fa C i.meths/\kR K C i.flds
 |[],_,_,h=>by cases h
 |j::r,i,h,hi=>by
  rcases aTT.mp hi with rfl|hi
  . exact h.1
  . exact h.2.at hi
theorem kR.at{C:Addr}:∀{l:List Str}{f:Str},kR K C l->f∈l->gL K C f
 |[],_,_,h=>by cases h
 |j::r,i,h,hi=>by
  rcases aTT.mp hi with rfl|hi
  . exact h.1
  . exact h.2.at hi
theorem kQ.at{C:Addr}:∀{l:List (Str×Str×Nat)}{m key:Str}{n:Nat},kQ K fa C l->l.lookup m=some (key,n)->lG K C m (fa key)
 |[],_,_,_,_,e=>by cases e
 |(m',key',n')::r,m,key,n,h,e=>by
  rw[aV8]at e;split at e
  . rename_i hb;cases e;rw[aUI]at hb;subst hb;exact h.1
  . exact h.2.at e
structure GF(w:aZQ)(K:Fg)(mg:SOV)(g:MG)(t:TB)(fa:Str->Addr):Prop where
 con:mY w K mg fa g.G
 gok:gOk g.G t.T=true
 all:mW K g fa t.T
 alli:mX K mg g t.I
 mk0:∀c,c∈g.mk0->rF K mg c
 mkok:aAP g.mki t.I=true
 iso:∀c,c∈g.iso->IsV K mg t.cl c
 cls:mZ K fa t.cl
 mtok:mtOk t.cl t.T=true
 xtok:rQ K mg (λc x=>t.xt.lookup (c,x))
 xiok:rR K mg (λc x=>t.xi.lookup (c,x))
 xcok:∀c,c∈g.xcs->∃Cc,mg c=some (.ref Cc)/\xS K Cc
 xnok:∀n,n∈g.xns->∃cv,oJ mg n cv
def aAQ{vs:List V}{Q:VK}{E:XK}(hz:∀ds,Φ ds=.stuck)(h:spV K mg n Φ vs H Q E):False:=by obtain⟨_,F,ds,_,_,h⟩:=h;rw[hz]at h;exact h
section
variable {g:MG}{t:TB}
structure kT(P:aZR)(w:aZQ)(K:Fg)(mg:SOV)(base:Heap)(t:TB)(fa:Str->Addr)(k:Nat):Prop where
 fn:∀key d,t.T.lookup key=some d->∃fd,cR P w K mg base (CX1 P w) k (fa key) fd d.ps (spV K mg d.ps.length ((WT t k).Φ key))/\eL K fd d.ps []/\W.keepIn K (.ref (fa key))=true
 fp:(WT t k).dp=true->∃j,j+1=k/\∀key d,t.T.lookup key=some d->∃fd,cR P w K mg base (CX1 P w) j (fa key) fd d.ps (spV K mg d.ps.length ((WT t k).Ψ key))/\eL K fd d.ps []/\W.keepIn K (.ref (fa key))=true
 ini:∀key d Φ,t.I.lookup key=some d->(WT t k).I key=some Φ->∃j,j+1<=k/\InV P w K mg base (CX1 P w) j d.c (d.ps.length-1) Φ
def aAR(f:GF w K mg g t fa)(A:kT P w K mg base t fa k){N:List Str}(hP:X.prog=P)(hw:X.w=w)(hK:X.K=K)(hmg:X.mg=mg)(hb:X.base=base)(hN:X.N=N)(hs:X.env.scope=sc)(cm:X.calm=true)(rm:bD k X.A)(hfn:∀x,X.fn x=true)(cd:q="" \/ (W.codeIn X.K X.env.code q=true/\X.env.qual=q ++ ".<locals>."))(xo:XOk (CX1 X.prog X.w) (C.at X) X):SX k (WT t k) ⟨N,sc,g,true,true,true,q⟩ C X:=by
 subst hP hw hK hmg hb;refine⟨hN,hs,λ_=>cm,λ_=>rm,rm.units,λ_=>xo,?_,?_,f.xcok,f.xnok,λy c l=>?_,λy l=>f.con.at l,λc hc=>f.mk0 c hc,λc key n hm Φ e=>?_,λc hc=>by rw[pG];exact f.iso c hc,λi f' hi hf=>?_,λc m key n e=>?_,λy n l=>?_,λ_=>hfn,λhd=>?_,cd⟩
 . unfold WD.xf;rw[aAL];exact f.xtok
 . unfold WD.xg;rw[aAM];exact f.xiok
 . have:=f.con.at l;cases c <;> exact this
 . have h1:=aWI.mp f.mkok (c,key,n) hm;dsimp only at h1;cases q:t.I.lookup key with
   |none=>rw[q]at h1;cases h1
   |some d=>rw[q]at h1;simp only[aVL,aUI]at h1;obtain⟨j,hj,M⟩:=A.ini key d Φ q e;rw[h1.1,h1.2]at M;exact⟨j,hj,M⟩
 . rw[pG]at hi;obtain⟨C',h1,h2,_,h4⟩:=f.cls.at hi;exact⟨C',h1,h2,h4.at hf⟩
 . rw[pG]at e;unfold CI.meth at e;split at e
   . rename_i i ei;have hi:=aW2 ei;have hn:i.name=c:=by simpa using aW1 ei
     obtain⟨C',h1,h2,h3,_⟩:=f.cls.at hi;have hmo:=aWI.mp (aWI.mp f.mtok i hi) (m,key,n) (aUY e);dsimp only at hmo;cases q:t.T.lookup key with
     |none=>rw[q]at hmo;cases hmo
     |some d=>rw[q]at hmo;rw[aUI]at hmo;obtain⟨fd,FO,hb,_⟩:=A.fn key d q;rw[hmo]at FO;exact⟨C',fa key,fd,d.ps,by rw[<- hn];exact h1,h2,h3.at e,FO,hb⟩
   . cases e
 . obtain⟨d,e,rfl⟩:=tL f.gok l;obtain⟨fd,FO,hb,hk⟩:=A.fn y d e;exact⟨fa y,fd,d.ps,FO,f.con.at l,hk,hb⟩
 . obtain⟨j,hj,fp⟩:=A.fp hd;refine⟨j,hj,λy n l=>?_⟩;obtain⟨d,e,rfl⟩:=tL f.gok l;obtain⟨fd,FO,hb,hk⟩:=fp y d e;exact⟨fa y,fd,d.ps,FO,f.con.at l,hk,hb⟩
def tM(f:GF w K mg g t fa)(A:kT P w K mg base t fa k){key:Str}{d:FD}{name:Str}{a:Addr}(F:Fun K name key st a fd)(e:t.T.lookup key=some d)(ok:jN g key st d=true):cR P w K mg base (CX1 P w) (k+1) a fd d.ps (spV K mg d.ps.length ((WT t (k+1)).Φ key)):=by
 unfold jN at ok;rw[aVL]at ok;have sc:=tI ok.1;have:(WT t (k+1)).Φ key=phi d.ps.length d.N.length (evB (WT t k) d.b):=by rw[WT_Φ];unfold mV;rw[e]
 rw[this];exact aKD (k:=k) F sc λC cdv hcd A' outer s H En hE hr=>sB (m:=⟨d.N,dZ st,g,true,true,true,key⟩) (X:=cO (CX1 P w) P w K mg base d.N key (dZ st) a cdv A' outer s H En) ⟨aAR f A rfl rfl rfl rfl rfl rfl rfl rfl hr (λ_=>rfl) (.inr ⟨hcd,rfl⟩) (rP (K:=K) (H:=H) (outer:=outer) hE),sc.nd,PassesOwn.leaving,λ_=>⟨xT (K:=K) (H:=H) (outer:=outer) hE,fnCx,xV (K:=K) (H:=H) (outer:=outer) hE⟩⟩ d.b ok.2
def aP0(f:GF w K mg g t fa)(A:kT P w K mg base t fa k){key:Str}{d:ID}(e:t.I.lookup key=some d):InV P w K mg base (CX1 P w) (k+1) d.c (d.ps.length-1) (iO (WT t k) d):=by
 obtain⟨name,st,C',a,fd,ns,hm,M,F,hb,ok⟩:=f.alli.at e;refine⟨C',a,fd,d.ps,ns,hm,M,?_,hb⟩;unfold tK at ok;rw[aVL,aVL,aV9]at ok;have sc:=tI ok.1.1;obtain⟨oc,od,kV,doc,pm,an,cdv,ct,osl,rfl,lk,hcd⟩:=F.ex;refine vR lk hcd sc (λvs H Q E h=>?_) λA' outer s H vs Q E hr h=>?_
 . obtain⟨x,us,dx,C,H1,F1,ds,rfl,hl,_⟩:=h;rw[aUJ,hl];have:=ok.2;omega
 . obtain⟨x,us,dx,C2,H1,F1,ds,rfl,hl,ns2,rfl,hx,hd,hne,sF,rl,h⟩:=h;rw[ns]at ns2;cases ns2
   let Cw0:Cw:=⟨K,F1,H1,iB mg E⟩
   have hN:0<d.N.length:=by have:=congrArg List.length sc.pre;rw[aUX]at this;omega
   refine⟨_,sIB (m:=⟨d.N,dZ st,g,true,true,true,""⟩) (C:=Cw0) ⟨aAR f A rfl rfl rfl rfl rfl rfl rfl rfl hr (λ_=>rfl) (.inl rfl) (rP rfl),sc.nd,PassesOwn.leaving,λ_=>⟨xT rfl,fnCx,xV rfl⟩⟩ d.c d.ib ok.1.2,?_⟩;unfold iO at h;rw[if_pos (by have:=rl.length;omega)]at h
   have low:∀(i:Nat) (m:Bool) (e:D),(none::dM (d.N.length-1) ds:Rho)[i]? = some (some (m,e))->m=false/\∃v,(cN d.N (.ref x::us))[i]? = some (some v)/\aB K F1 e v:=λi m e' ei=>by
    cases i with
    |zero=>cases ei
    |succ i =>
     rw[aZD]at ei;unfold dM at ei;unfold L2.cN;by_cases hi:i<ds.length
     . rw[aU1 (by simpa using hi),aU2,aWL hi]at ei
       cases ei;obtain⟨v,ev,rv⟩:=rl.get' (aWL hi);exact⟨rfl,v,by rw[aU1 (by simpa[rl.length]using hi),aU2,aZD,ev];rfl,rv⟩
     . rw[aUZ (by simpa using hi),aU0]at ei
       split at ei <;> cases ei
   refine⟨none::dM (d.N.length-1) ds,F1,[],x,dx,C',[],⟨xA sF hx hd hne,λi m e' ei=>?_,λi j d1 d2 a _ e1 _ _ _=>?_,by simp[L2.cN,dM,rl.length];omega⟩,by simp[L2.cN],λi d' ei=>?_,hx,sF.free hx,aT,ns,by simp only[aZ],?_⟩
   . obtain⟨rfl,v,e1,rv⟩:=low i m e' ei;exact⟨v,e1,rv,by nofun⟩
   . have:=(low i true d1 e1).1;cases this
   . have:=(low i true d' ei).1;cases this
   . cases er:gZ (WT t k) d.c d.ib (none::dM (d.N.length-1) ds) []with
     |stuck=>rw[er]at h;exact h.elim
     |exc c'=>rw[er]at h;exact λσ' F' H' st' u hu=>h F' H' u st' hu
     |ok fs=>rw[er]at h;exact λF' H' gs' st' hf hh rf=>h F' H' st' ⟨x,rfl,hf,C',dx,gs',ns,hh,rf⟩
theorem aAS(f:GF w K mg g t fa):∀k,kT P w K mg base t fa k/\kT P w K mg base t fa (k+1)
 |0=>by
  have A0:kT P w K mg base t fa 0:=⟨λkey d e=>by
   obtain⟨name,st,fd,F,hb,_⟩:=f.all.at e;exact⟨fd,⟨λvs H Q En h=>(aAQ (λ_=>rfl) h).elim,λA outer s H args us vs Q En _ _ _ _ h=>(aAQ (λ_=>rfl) h).elim⟩,hb,F.kp⟩,(λz=>by cases z),λkey d Φ _ e=>by cases e⟩
  refine⟨A0,λkey d e=>?_,λ_=>⟨0,rfl,A0.fn⟩,λkey d Φ _ e=>by cases e⟩
  obtain⟨name,st,fd,F,hb,ok⟩:=f.all.at e;exact⟨fd,tM f A0 F e ok,hb,F.kp⟩
 |k+1=>by
  obtain⟨A0,A1⟩:=aAS f k;refine⟨A1,λkey d e=>?_,λ_=>⟨k+1,rfl,A1.fn⟩,λkey d Φ e ei=>?_⟩
  . obtain⟨name,st,fd,F,hb,ok⟩:=f.all.at e;exact⟨fd,tM f A1 F e ok,hb,F.kp⟩
  . have ei:(match t.I.lookup key with|some i=>some (iO (WT t k) i)|none=>none)=some Φ:=ei
    rw[e]at ei;cases ei;exact⟨k+1,aUA _,aP0 f A0 e⟩
end
noncomputable def tN(K:Fg)(Φ:List D->Res):Sp:=λvs H Q E=>∃a ns,vs=[.ref a]/\SqL K H a (ns.map V.int)/\Φ (n8 ns)=.ok .fz (.bl true)/\∀H',Q (.bl true) H'
def aP1{f:Addr}(h:cR P w K mg base CX k f fd ps (spV K mg 1 Φ)):cR P w K mg base CX k f fd ps (tN K Φ) :=
 h.imp λvs H Q E ⟨a,ns,e,hq,hp,q⟩=>by
  subst e;refine⟨rfl,H,n8 ns,aD.refl _,aC.cons ?_ aC.nil,?_⟩
  . simp only[aB];exact⟨a,_,rfl,hq,wZ ns⟩
  . rw[hp];exact⟨by decide,λv F' H' s rp _=>by rw[rp.bl];exact q H'⟩
def aP2{g:MG}{t:TB}(f:GF w K mg g t fa)(k:Nat){a:Addr}{d:FD}(F:Fun K "law" "law" st a fd)(e:t.T.lookup ("law":Str)=some d)(ok:jN g "law" st d=true)(hl:d.ps.length=1):cR P w K mg base (CX1 P w) (k+1) a fd d.ps (tN K ((WT t (k+1)).Φ ("law":Str))):=by have:=tM (P:=P) (w:=w) (base:=base) f (aAS f k).1 F e ok;rw[hl]at this;exact aP1 this
section
variable {W:WD}{a b c:E}{es:List E}
@[simp] theorem fF{i:_}:evE W (.var i) ρ=bB ρ i:=Eq.trans rfl rfl
@[simp] theorem e_non:evE W .non ρ=.ok .fz .non:=Eq.trans rfl rfl
@[simp] theorem e_bl{b:_}:evE W (.bl b) ρ=.ok .fz (.bl b):=Eq.trans rfl rfl
@[simp] theorem e_int{i:_}:evE W (.int i) ρ=.ok .fz (.int i):=Eq.trans rfl rfl
@[simp] theorem e_str{x}:evE W (.str x) ρ=.ok .fz (.str x):=Eq.trans rfl rfl
@[simp] theorem e_globS{x y:_}:evE W (.glob x (.s y)) ρ=.ok .fz (.str y):=Eq.trans rfl rfl
@[simp] theorem e_globI{x y:_}:evE W (.glob x (.i y)) ρ=.ok .fz (.int y):=Eq.trans rfl rfl
@[simp] theorem e_ty{t:Ty}:evE W (.ty t) ρ=.ok .fz (.ty t.id):=Eq.trans rfl rfl
@[simp] theorem e_bin{op}:evE W (.bin op a b) ρ=op2 (bW op) (evE W a ρ) (evE W b ρ):=Eq.trans rfl rfl
@[simp] theorem e_cmp{op}:evE W (.cmp op a b) ρ=op2 (aW op) (evE W a ρ) (evE W b ρ):=Eq.trans rfl rfl
@[simp] theorem e_andL:evE W (.andL es) ρ=evA W es ρ:=Eq.trans rfl rfl
@[simp] theorem e_orL:evE W (.orL es) ρ=dH W es ρ:=Eq.trans rfl rfl
@[simp] theorem e_not:evE W (.not a) ρ=lM (evE W a ρ):=Eq.trans rfl rfl
@[simp] theorem e_neg:evE W (.neg a) ρ=nZ (evE W a ρ):=Eq.trans rfl rfl
@[simp] theorem e_tru:evE W (.tru a) ρ=lL (evE W a ρ):=Eq.trans rfl rfl
@[simp] theorem gC:evE W (.frz a) ρ=aK (evE W a ρ):=Eq.trans rfl rfl
@[simp] theorem tO:evE W (.ix a b) ρ=op2 ixD (evE W a ρ) (evE W b ρ):=Eq.trans rfl rfl
@[simp] theorem pH{l h:_}:evE W (.slice a l h) ρ=slP (evE W a ρ) (evO W l) (evO W h) ρ:=Eq.trans rfl rfl
@[simp] theorem e_tup:evE W (.tup es) ρ=jA (bI W es ρ):=Eq.trans rfl rfl
@[simp] theorem aAT:evE W (.lst es) ρ=eN (bI W es ρ):=Eq.trans rfl rfl
@[simp] theorem e_call{f n:_}:evE W (.call f n es) ρ=aO n (W.Φ f) (bI W es ρ):=Eq.trans rfl rfl
@[simp] theorem e_bcall{f:Bn}:evE W (.bcall f es) ρ=cE f.f (bI W es ρ):=Eq.trans rfl rfl
@[simp] theorem aP3:evE W (.items a) ρ=eD (aK (evE W a ρ)):=Eq.trans rfl rfl
@[simp] theorem tP:evE W (.rng1 a) ρ=e9 (aX (evE W a ρ) (.ok [])):=Eq.trans rfl rfl
@[simp] theorem e_enum1:evE W (.enum1 a) ρ=oH (aX (aK (evE W a ρ)) (.ok [])):=Eq.trans rfl rfl
@[simp] theorem e_nnew:evE W .nnew ρ=.ok .fr (.dtn []):=Eq.trans rfl rfl
@[simp] theorem e_nix:evE W (.nix a b) ρ=op2 fD (evE W a ρ) (evE W b ρ):=Eq.trans rfl rfl
@[simp] theorem e_nget{k d:E}:evE W (.nget a k d) ρ=kK (evE W a ρ) (evE W k ρ) (evE W d ρ):=Eq.trans rfl rfl
@[simp] theorem e_nkeys:evE W (.nkeys a) ρ=mO (evE W a ρ):=Eq.trans rfl rfl
@[simp] theorem aP4:evE W (.srtw a) ρ=cE iJ (aX (evE W a ρ) (.ok [])):=Eq.trans rfl rfl
@[simp] theorem e_usi:evE W (.usi a) ρ=iE (evE W a ρ):=Eq.trans rfl rfl
@[simp] theorem e_usort:evE W (.usort a b) ρ=usR (evE W a ρ) (evE W b ρ):=Eq.trans rfl rfl
@[simp] theorem e_rng3{c:E}:evE W (.rng3 a b c) ρ=kH (aX (evE W a ρ) (aX (evE W b ρ) (aX (evE W c ρ) (.ok [])))):=Eq.trans rfl rfl
@[simp] theorem jO{ts:List E}{aG t n:_}:evE W (.comp a b ts aG t n) ρ=bU (evE W b ρ) ρ aG n (aP t) (λρ=>evF W ts ρ) (λρ=>evE W a ρ):=Eq.trans rfl rfl
@[simp] theorem el_nil:evL W []=[]:=by simp only[evL]
@[simp] theorem el_cons:evL W (a::es)=evE W a::evL W es:=by simp only[evL]
@[simp] theorem sg_nm{d:D}:aP (.nm i) d ρ=some (ρ.set i (some (false,d))):=by simp only[aP]
@[simp] theorem sg_tp{ts:List Tg}:aP (.tp ts) (.tup ds) ρ=dF ts ds ρ:=by simp only[aP]
@[simp] theorem sg_tpl{ts:List Tg}:aP (.tp ts) (.lst ds) ρ=dF ts ds ρ:=by simp only[aP]
@[simp] theorem sgs_nil:dF [] [] ρ=some ρ:=by simp[dF]
@[simp] theorem sgs_cons{t:Tg}{ts:List Tg}{d:D}:dF (t::ts) (d::ds) ρ=(aP t d ρ).bind (dF ts ds):=by simp only[dF];cases aP t d ρ <;> rfl
@[simp] theorem e_chain{op op'}:evE W (.chain op op' a b c) ρ=dE (aW op) (aW op') (evE W a ρ) (evE W b ρ) (evE W c ρ):=Eq.trans rfl rfl
@[simp] theorem tQ{t:Ty}:evE W (.tcall t es) ρ=cE t.f (bI W es ρ):=Eq.trans rfl rfl
@[simp] theorem e_fld{x}:evE W (.fld a x) ρ=j9 W.cl x (evE W a ρ):=Eq.trans rfl rfl
@[simp] theorem e_meth{x}:evE W (.meth a x es) ρ=gP W.cl W.Φ x (evE W a ρ) (bI W es ρ):=Eq.trans rfl rfl
@[simp] theorem e_mk0{x}:evE W (.mk0 x) ρ=.ok .fr (.ins x []):=Eq.trans rfl rfl
def aP5{x key n Φ:_}(h:W.I key=some Φ):evE W (.make x key n es) ρ=fR n Φ (bI W es ρ):=by show(match W.I key with|some Φ=>fR n Φ (bI W es ρ)|none=>.stuck)=_;rw[h]
@[simp] theorem m5:bI W [] ρ=.ok []:=by simp only[bI]
@[simp] theorem gD:bI W (a::es) ρ=aX (evE W a ρ) (bI W es ρ):=by simp only[bI]
@[simp] theorem ea_one:evA W [a] ρ=evE W a ρ:=by simp only[evA]
@[simp] theorem ea_cons:evA W (a::b::es) ρ=eM (evE W a ρ) (evA W (b::es) ρ):=by simp only[evA]
@[simp] theorem eo_one:dH W [a] ρ=evE W a ρ:=by simp only[dH]
@[simp] theorem eo_cons:dH W (a::b::es) ρ=orR (evE W a ρ) (dH W (b::es) ρ):=by simp only[dH]
@[simp] theorem ef_nil:evF W [] ρ=.ok .fz (.bl true):=by simp only[evF]
@[simp] theorem ef_cons:evF W (a::es) ρ=eM (evE W a ρ) (evF W es ρ):=by simp only[evF]
@[simp] theorem eo_none:evO W none=none:=by simp only[evO]
@[simp] theorem eo_some:evO W (some a)=some (evE W a):=by simp only[evO]
@[simp] theorem m6:evS W (.ret a) ρ=j6 (evE W a ρ) ρ:=Eq.trans rfl rfl
@[simp] theorem aP6{i:_}:evS W (.retV i) ρ=fQ ρ i:=Eq.trans rfl rfl
@[simp] theorem g9{i:_}:evS W (.set i a) ρ=dJ ρ i (evE W a ρ):=Eq.trans rfl rfl
@[simp] theorem pI{x y:List S}:evS W (.ite a x y) ρ=ifS (evE W a ρ) ρ (evB W x ρ) (evB W y ρ):=Eq.trans rfl rfl
@[simp] theorem kU{t:Tg}{y:List S}:evS W (.for a t y) ρ=eO (evE W a ρ) ρ (aP t) (evB W y):=Eq.trans rfl rfl
@[simp] theorem s_whl{n:_}{y:List S}:evS W (.whl n a y) ρ=cZ (evE W a) (evB W y) n ρ:=Eq.trans rfl rfl
@[simp] theorem s_expr:evS W (.expr a) ρ=(evE W a ρ).thS ρ λ_ _=>.nx ρ:=Eq.trans rfl rfl
@[simp] theorem aAU{i:_}:evS W (.app i a) ρ=eF ρ i (evE W a ρ):=Eq.trans rfl rfl
@[simp] theorem s_frzV{i:_}:evS W (.frzV i) ρ=l9 ρ i:=Eq.trans rfl rfl
@[simp] theorem s_nfrz{i:_}:evS W (.nfrz i) ρ=mP ρ i:=Eq.trans rfl rfl
@[simp] theorem aP7{i:_}:evS W (.nput i a b) ρ=oY ρ i (evE W a ρ) (evE W b ρ):=Eq.trans rfl rfl
@[simp] theorem aP8{i:_}:evS W (.setC i false a) ρ=dJ ρ i (evE W a ρ):=Eq.trans rfl rfl
@[simp] theorem aP9{i:_}:evS W (.setC i true a) ρ=dJ ρ i (aK (evE W a ρ)):=Eq.trans rfl rfl
@[simp] theorem iP:evB W [] ρ=.nx ρ:=by simp only[evB]
@[simp] theorem cX{s:S}{r:List S}:evB W (s::r) ρ=(evS W s ρ).thn (evB W r):=by simp only[evB]
end
section
variable {m n:Md}{i j:Int}{d:D}
@[simp] theorem x_add:op2 (bW .Add) (.ok m (.int i)) (.ok n (.int j))=.ok .fz (.int (i+j)):=rfl
@[simp] theorem x_sub:op2 (bW .Sub) (.ok m (.int i)) (.ok n (.int j))=.ok .fz (.int (i-j)):=rfl
@[simp] theorem x_lt:op2 (aW .Lt) (.ok m (.int i)) (.ok n (.int j))=.ok .fz (.bl (decide (i<j))):=rfl
@[simp] theorem x_le:op2 (aW .LtE) (.ok m (.int i)) (.ok n (.int j))=.ok .fz (.bl (decide (i<=j))):=rfl
@[simp] theorem x_gt:op2 (aW .Gt) (.ok m (.int i)) (.ok n (.int j))=.ok .fz (.bl (decide (j<i))):=rfl
@[simp] theorem x_ge:op2 (aW .GtE) (.ok m (.int i)) (.ok n (.int j))=.ok .fz (.bl (decide (j<=i))):=rfl
@[simp] theorem hO(h:0<j):op2 (bW .Mod) (.ok m (.int i)) (.ok n (.int j))=.ok .fz (.int (i % j)):=by show Res.of (if decide (0<j)=true then _ else _)=_;rw[if_pos (aVV h)];rfl
def x_div(h:0<j)(hb:bits j=true):op2 (bW .FloorDiv) (.ok m (.int i)) (.ok n (.int j))=.ok .fz (.int (i / j)):=by show Res.of (if(decide (0<j)&&bits j)=true then _ else _)=_;rw[if_pos (by rw[hb,aVV h];rfl)];rfl
def aQA(h:i.natAbs<10 ^ 2000):bits i=true:=by
 unfold bits;refine aVV ?_;by_cases h0:i.natAbs=0
 . rw[h0];decide
 . refine(Nat.log2_lt h0).mpr (Nat.lt_trans h ?_);decide +kernel
def aQB{N:Nat}(h:i.natAbs<=N)(hN:N<10 ^ 2000:=by decide +kernel):bits i=true:=aQA (aYD h hN)
@[simp] theorem pJ(h:0<j)(hb:j.natAbs<=1000000000):op2 (bW .FloorDiv) (.ok m (.int i)) (.ok n (.int j))=.ok .fz (.int (i / j)):=x_div h (aQB hb)
def aQC(h:((bits i&&bits j)||(w64 i||w64 j))=true):op2 (bW .Mult) (.ok m (.int i)) (.ok n (.int j))=.ok .fz (.int (i * j)):=by show Res.of (((if((bits i&&bits j)||(w64 i||w64 j))=true then _ else _:Option (Md×D)).orElse _).orElse _)=_;rw[if_pos h];rfl
def aAV(h:i.natAbs<9000000000000000000):op2 (bW .Mult) (.ok m (.int i)) (.ok n (.int j))=.ok .fz (.int (i * j)):=aQC (by
 have:w64 i=true:=aVV (by omega)
 rw[this];simp)
def cC{x y d:D}{k:Md}(h:φ m x n y=some (k,d)):op2 φ (.ok m x) (.ok n y)=.ok k d:=by show Res.of (φ m x n y)=_;rw[h];rfl
@[simp] theorem aAW:op2 (aW .Eq) (.ok m (.int i)) (.ok n (.int j))=.ok .fz (.bl (i==j)):=cC rfl
@[simp] theorem x_neI:op2 (aW .NotEq) (.ok m (.int i)) (.ok n (.int j))=.ok .fz (.bl (i != j)):=cC rfl
@[simp] theorem x_eqB{a b:Bool}:op2 (aW .Eq) (.ok m (.bl a)) (.ok n (.bl b))=.ok .fz (.bl (a==b)):=cC rfl
@[simp] theorem x_neB{a b:Bool}:op2 (aW .NotEq) (.ok m (.bl a)) (.ok n (.bl b))=.ok .fz (.bl (a != b)):=cC rfl
@[simp] theorem x_eqS{a b:Str}:op2 (aW .Eq) (.ok m (.str a)) (.ok n (.str b))=.ok .fz (.bl (a==b)):=cC (by rfl)
@[simp] theorem x_neS{a b:Str}:op2 (aW .NotEq) (.ok m (.str a)) (.ok n (.str b))=.ok .fz (.bl (a != b)):=cC (by rfl)
@[simp] theorem x_inS{a b:Str}:op2 (aW .In) (.ok m (.str a)) (.ok n (.str b))=.ok .fz (.bl (eZ a b)):=cC rfl
@[simp] theorem x_notinS{a b:Str}:op2 (aW .NotIn) (.ok m (.str a)) (.ok n (.str b))=.ok .fz (.bl (!eZ a b)):=cC rfl
@[simp] theorem tR{a b:Str}(h:a.length+b.length<=sizeLine):op2 (bW .Add) (.ok m (.str a)) (.ok n (.str b))=.ok .fz (.str (a++b)) :=
 cC (by
  have:fS (λi j=>decide (i.length+j.length<=sizeLine)) (λi j=>D.str (i++j)) m (.str a) n (.str b)=some (Md.fz,D.str (a++b)):=by show(if decide (a.length+b.length<=sizeLine)=true then some (Md.fz,D.str (a++b))else none)=_;rw[if_pos (aVV h)]
  show orO (orO (fI (λ_ _=>true) λi j=>.int (i+j)) (fS (λi j=>decide (i.length+j.length<=sizeLine)) λi j=>.str (i++j))) oB m (.str a) n (.str b)=_;simp only[orO,this];rfl)
@[simp] theorem x_isN{d:D}:op2 (aW .Is) (.ok m d) (.ok n .non)=.ok .fz (.bl (cU d)):=cC rfl
@[simp] theorem x_isnotN{d:D}:op2 (aW .IsNot) (.ok m d) (.ok n .non)=.ok .fz (.bl (!cU d)):=cC rfl
@[simp] theorem aQD{ψ:Md->D->Md->D->Option (Md×D)}{x y z:D}{k k' k'':Md}{t:Bool}(h:φ k x k' y=some (.fz,.bl t)):dE φ ψ (.ok k x) (.ok k' y) (.ok k'' z)=if t=true then Res.of (ψ k' y k'' z)else .ok .fz (.bl false):=by unfold dE;simp only[Res.thn_ok,h,Res.of_some];cases t <;> rfl
def aAX{a b:Int}{k k' k'':Md}{op op':CmpOp}{f f':Int->Int->Bool}(h:∀k i k' j,aW op k (.int i) k' (.int j)=some (.fz,.bl (f i j)))(h':∀k i k' j,aW op' k (.int i) k' (.int j)=some (.fz,.bl (f' i j))):dE (aW op) (aW op') (.ok k (.int a)) (.ok k' (.int b)) (.ok k'' (.int c))=.ok .fz (.bl (f a b&&f' b c)):=by rw[aQD (t:=f a b) (h k a k' b),h' k' b k'' c];cases f a b <;> rfl
@[simp] theorem x_leLe{a b:Int}{k k' k'':Md}:dE (aW .LtE) (aW .LtE) (.ok k (.int a)) (.ok k' (.int b)) (.ok k'' (.int c))=.ok .fz (.bl (decide (a<=b)&&decide (b<=c))):=aAX (f:=λi j=>decide (i<=j)) (f':=λi j=>decide (i<=j)) (λ_ _ _ _=>rfl) (λ_ _ _ _=>rfl)
@[simp] theorem x_leLt{a b:Int}{k k' k'':Md}:dE (aW .LtE) (aW .Lt) (.ok k (.int a)) (.ok k' (.int b)) (.ok k'' (.int c))=.ok .fz (.bl (decide (a<=b)&&decide (b<c))):=aAX (f:=λi j=>decide (i<=j)) (f':=λi j=>decide (i<j)) (λ_ _ _ _=>rfl) (λ_ _ _ _=>rfl)
@[simp] theorem x_catL{x y:List D}(h:x.length+y.length<=sizeLine):op2 (bW .Add) (.ok m (.lst x)) (.ok n (.lst y))=.ok .fr (.lst (x++y)):=cC (by
 show(if x.length+y.length<=sizeLine then some (Md.fr,D.lst (x++y))else none)=_;rw[if_pos h])
@[simp] theorem aQE{x y:List D}(h:x.length+y.length<=sizeLine):op2 (bW .Add) (.ok m (.tup x)) (.ok n (.tup y))=.ok .fz (.tup (x++y)):=cC (by
 show(if x.length+y.length<=sizeLine then some (Md.fz,D.tup (x++y))else none)=_;rw[if_pos h])
@[simp] theorem isn_n:cU .non=true:=rfl
@[simp] theorem isn_i{i:Int}:cU (.int i)=false:=rfl
@[simp] theorem isn_b{i:Bool}:cU (.bl i)=false:=rfl
@[simp] theorem isn_s{i:Str}:cU (.str i)=false:=rfl
@[simp] theorem isn_t{i:List D}:cU (.tup i)=false:=rfl
@[simp] theorem isn_l{i:List D}:cU (.lst i)=false:=rfl
@[simp] theorem x_andT{y:Res}:eM (.ok m (.bl true)) y=y:=rfl
@[simp] theorem x_andF{y:Res}:eM (.ok m (.bl false)) y=.ok .fz (.bl false):=rfl
@[simp] theorem x_orT{y:Res}:orR (.ok m (.bl true)) y=.ok .fz (.bl true):=rfl
@[simp] theorem x_orF{y:Res}:orR (.ok m (.bl false)) y=y:=rfl
@[simp] theorem x_and{a b:Bool}:eM (.ok m (.bl a)) (.ok .fz (.bl b))=.ok .fz (.bl (a&&b)):=by cases a <;> rfl
@[simp] theorem x_or{a b:Bool}:orR (.ok m (.bl a)) (.ok .fz (.bl b))=.ok .fz (.bl (a||b)):=by cases a <;> rfl
@[simp] theorem x_not{a:Bool}:lM (.ok m (.bl a))=.ok .fz (.bl (!a)):=rfl
@[simp] theorem x_tru{a:Bool}:lL (.ok m (.bl a))=.ok .fz (.bl a):=rfl
@[simp] theorem x_truI:lL (.ok m (.int i))=.ok .fz (.bl (i != 0)):=rfl
@[simp] theorem x_neg:nZ (.ok m (.int i))=.ok .fz (.int (-i)):=rfl
@[simp] theorem x_ifT{x y:aF}:ifS (.ok m (.bl true)) ρ x y=x:=rfl
@[simp] theorem tU{x y:aF}:ifS (.ok m (.bl false)) ρ x y=y:=rfl
@[simp] theorem x_frz:aK (.ok .fz d)=.ok .fz d:=rfl
@[simp] theorem x_frr:aK (.ok .fr d)=.ok .fz d:=rfl
@[simp] theorem x_set:dJ ρ k (.ok .fz d)=.nx (ρ.set k (some (false,d))):=rfl
@[simp] theorem x_setr:dJ ρ k (.ok .fr d)=.nx (ρ.set k (some (true,d))):=rfl
@[simp] theorem x_ret:j6 (.ok .fz d) ρ=.rt .fz d:=rfl
@[simp] theorem x_retr:j6 (.ok .fr d) ρ=.rt .fr d:=rfl
@[simp] theorem g_0{r:Rho}:bB (some (false,d)::r) 0=.ok .fz d:=rfl
@[simp] theorem g_0b{r:Rho}:bB (some (true,d)::r) 0=.ok .bo d:=rfl
@[simp] theorem g_s{x:Option (Bool×D)}{r:Rho}{i:Nat}:bB (x::r) (i+1)=bB r i:=rfl
@[simp] theorem g_1{x:Option (Bool×D)}{r:Rho}:bB (x::r) 1=bB r 0:=rfl
@[simp] theorem rs_0{r:Rho}:fQ (some (false,d)::r) 0=.rt .fz d:=rfl
@[simp] theorem rs_0b{r:Rho}:fQ (some (true,d)::r) 0=.rt .fr d:=rfl
@[simp] theorem rs_1{x:Option (Bool×D)}{r:Rho}:fQ (x::r) 1=fQ r 0:=rfl
@[simp] theorem rs_s{x:Option (Bool×D)}{r:Rho}{i:Nat}:fQ (x::r) (i+1)=fQ r i:=rfl
@[simp] theorem r_set0{x y:Option (Bool×D)}{r:Rho}:(x::r).set 0 y=y::r:=rfl
@[simp] theorem x_callR{f:List (Md×D)->Option (Md×D)}{xs:List (Md×D)}:cE f (.ok xs)=Res.of (f xs):=rfl
@[simp] theorem bn_len:Bn.f .len=dC:=rfl
@[simp] theorem bn_isi:Bn.f .isinstance=bN:=rfl
@[simp] theorem bn_min:Bn.f .min=l5:=rfl
@[simp] theorem min_i{i j:Int}:l5 [(m,.int i),(n,.int j)]=some (.fz,.int (if j<i then j else i)):=rfl
@[simp] theorem ty_int:Ty.f .int=kC:=rfl
@[simp] theorem ty_str:Ty.f .str=l4:=rfl
@[simp] theorem ty_tuple:Ty.f .tuple=eP:=rfl
@[simp] theorem ty_dict:Ty.f .dict=oK:=rfl
@[simp] theorem ty_list:Ty.f .list=hZ:=rfl
@[simp] theorem tci_i{i:Int}:kC [(m,.int i)]=some (.fz,.int i):=rfl
@[simp] theorem tci_b{i:Bool}:kC [(m,.bl i)]=some (.fz,.int (if i then 1 else 0)):=rfl
@[simp] theorem tct_l{i:List D}:eP [(m,.lst i)]=some (.fz,.tup i):=rfl
@[simp] theorem tct_t{i:List D}:eP [(.fz,.tup i)]=some (.fz,.tup i):=rfl
@[simp] theorem tcl_l{i:List D}:hZ [(m,.lst i)]=some (.fr,.lst i):=rfl
@[simp] theorem tcl_t{i:List D}:hZ [(m,.tup i)]=some (.fr,.lst i):=rfl
@[simp] theorem tcs_i{i:Int}(h:small i=true):l4 [(m,.int i)]=some (.fz,.str (rL i)):=by show(if small i=true then _ else _)=_;rw[if_pos h]
@[simp] theorem bn_all:Bn.f .all=jB:=rfl
@[simp] theorem len_s:dC [(m,.str z)]=some (.fz,.int z.length):=rfl
@[simp] theorem len_l{z:List D}:dC [(m,.lst z)]=some (.fz,.int z.length):=rfl
@[simp] theorem len_t{z:List D}:dC [(m,.tup z)]=some (.fz,.int z.length):=rfl
@[simp] theorem itm_l{z:List D}:eD (.ok m (.lst z))=.ok .fz (.lst z):=rfl
@[simp] theorem itm_t{z:List D}:eD (.ok m (.tup z))=.ok .fz (.lst z):=rfl
@[simp] theorem itm_s:eD (.ok m (.str z))=.ok .fz (.lst (dD z)):=rfl
end
@[simp] theorem WT_xf{t:TB}:(WT t k).xf=λc x=>t.xt.lookup (c,x):=by unfold WD.xf;rw[aAL]
@[simp] theorem WT_xg{t:TB}:(WT t k).xg=λc x=>t.xi.lookup (c,x):=by unfold WD.xg;rw[aAM]
section
variable {c x:Str}{ρ':Rho}{m:Md}{d:D}{xt:Str->Str->Option Bool}{hs:List HX}{g:Rho->aF}
@[simp] theorem x_frx:aK (.exc c)=.exc c:=rfl
@[simp] theorem x_setx:dJ ρ k (.exc c)=.exc c ρ:=rfl
@[simp] theorem x_retx:j6 (.exc c) ρ=.exc c ρ:=rfl
end
def bK{N:Nat}{g:Rho->aF}{m:Md}{d:D}(hl:ds.length=n)(h:g (dM N ds)=.rt m d):phi n N g ds=.ok m d:=by unfold phi;rw[if_pos hl,h];rfl
def kW{xs:List (Md×D)}{d:D}(hl:ds.length=n)(ha:cP xs=some ds)(h:Φ ds=.ok .fz d):aO n Φ (.ok xs)=.ok .fz d:=by
 show(match cP xs with|some ds=>if ds.length=n then(match Φ ds with|.ok .bo _=>Res.stuck|r=>r)else .stuck|none=>.stuck)=_
 rw[ha];show(if ds.length=n then _ else _)=_;rw[if_pos hl,h]
@[simp] theorem eU{a d:D}(h:Φ [a]=.ok .fz d):aO 1 Φ (.ok [(.fz,a)])=.ok .fz d:=kW (ds:=[a]) rfl rfl h
@[simp] theorem iQ{a b d:D}(h:Φ [a,b]=.ok .fz d):aO 2 Φ (.ok [(.fz,a),(.fz,b)])=.ok .fz d:=kW (ds:=[a,b]) rfl rfl h
@[simp] theorem call3{a b c d:D}(h:Φ [a,b,c]=.ok .fz d):aO 3 Φ (.ok [(.fz,a),(.fz,b),(.fz,c)])=.ok .fz d:=kW (ds:=[a,b,c]) rfl rfl h
@[simp] theorem x_meth{Φ:Str->List D->Res}{c m key:Str}{fs:List (Str×D)}{as:bE}(h:CI.meth cl c m=some (key,n))(hl:fs.lookup m=none):gP cl Φ m (.ok .fz (.ins c fs)) as=aO n (Φ key) (aX (.ok .fz (.ins c fs)) as):=by
 show(match CI.meth cl c m with|some (key,n)=>if fs.lookup m=none then aO n (Φ key) (aX (.ok .fz (.ins c fs)) as)else .stuck|none=>.stuck)=_
 rw[h];show(if fs.lookup m=none then _ else _)=_;rw[if_pos hl]
@[simp] theorem wt_cl{t:TB}:(WT t k).cl=t.cl:=pG t k
def bA{t:TB}{f:Str}{d:FD}(h:t.T.lookup f=some d):(WT t (k+1)).Φ f=phi d.ps.length d.N.length (evB (WT t k) d.b):=by rw[WT_Φ];unfold mV;rw[h]
@[simp] theorem call4{a b c e d:D}(h:Φ [a,b,c,e]=.ok .fz d):aO 4 Φ (.ok [(.fz,a),(.fz,b),(.fz,c),(.fz,e)])=.ok .fz d:=kW (ds:=[a,b,c,e]) rfl rfl h
theorem hU{W:WD}:∀{x y:List D3.S}{ρ:Rho},evB W (x++y) ρ=(evB W x ρ).thn (evB W y)
 |[],y,ρ=>by simp
 |s::x,y,ρ=>by
  show evB W (s::(x++y)) ρ=_;rw[cX,cX];cases evS W s ρ with
  |nx ρ'=>exact hU
  |_=>rfl
def bR{W:WD}{s:D3.S}{r:List D3.S}{ρ':Rho}(h:evS W s ρ=.nx ρ'):evB W (s::r) ρ=evB W r ρ':=by rw[cX,h];rfl
theorem aAY{k:D->Rho->Option Rho}{body:Rho->aF}(I:Rho->Prop):∀{ds:List D}{ρ:Rho},(∀d∈ds,∀ρ,I ρ->∃ρ1 ρ2,k d ρ=some ρ1/\(body ρ1=.nx ρ2\/body ρ1=.ct ρ2)/\I ρ2)->I ρ->∃ρ',cI k body ds ρ=.nx ρ'/\I ρ'
 |[],ρ,_,h=>⟨ρ,rfl,h⟩
 |d::ds,ρ,hs,h=>by obtain⟨ρ1,ρ2,e1,e2,h2⟩:=hs d mcs ρ h;obtain⟨ρ',e3,h3⟩:=aAY I (λd hd=>hs d (mcm hd)) h2;refine⟨ρ',?_,h3⟩;unfold cI;rw[e1];dsimp only;rcases e2 with e2|e2 <;> rw[e2] <;> exact e3
def aQF{k:D->Rho->Option Rho}{body:Rho->aF}{m:Md}(I:Rho->Prop)(hs:∀d∈ds,∀ρ,I ρ->∃ρ1 ρ2,k d ρ=some ρ1/\(body ρ1=.nx ρ2\/body ρ1=.ct ρ2)/\I ρ2)(h:I ρ):∃ρ',eO (.ok m (.lst ds)) ρ k body=.nx ρ'/\I ρ':=aAY I hs h
theorem aAZ{k:D->Rho->Option Rho}{t e:Rho->Res}{ρ0:Rho}{f:D->D}:∀{ds:List D},(∀d∈ds,∃ρ1 m,k d ρ0=some ρ1/\t ρ1=.ok m (.bl true)/\∃m',aK (e ρ1)=.ok m' (f d))->fA k t e ρ0 ds=some (ds.map f)
 |[],_=>rfl
 |d::ds,h=>by obtain⟨ρ1,m,e1,e2,m',e3⟩:=h d mcs;unfold fA;rw[e1];dsimp only;rw[e2];dsimp only;rw[e3];dsimp only;rw[aAZ λd hd=>h d (mcm hd)];rfl
def aQG{k:D->Rho->Option Rho}{e:Rho->Res}{m:Md}(f:D->D)(hl:ds.length<sizeLine)(h:∀d∈ds,∃ρ1 m,k d (bZ aG ρ++List.replicate n none)=some ρ1/\t ρ1=.ok m (.bl true)/\∃m',aK (e ρ1)=.ok m' (f d)):bU (.ok m (.lst ds)) ρ aG n k t e=.ok .fr (.lst (ds.map f)):=by unfold bU;rw[Res.thn_ok];dsimp only;rw[if_pos hl,aAZ h]
end D3
namespace Tp
open PySem.W PySem.Calls
structure S where
 t:BT
 n:Nat
 k:Nat
 nm:aZN
 g:List DictEntry
 tb:List aZN
def tupO(vs:List aZN):Obj:=⟨.type "tuple", none,.seq vs.toArray 0,#[]⟩
def fldO(c:aZN)(vs:List aZN):Obj:=⟨c,none,.fields vs.toArray,#[]⟩
def dicO(es:List DictEntry)(e:Nat):Obj:=⟨.type "dict", none,.dict es.toArray e,#[]⟩
def en(P:Params)(x:Str)(k:Nat)(v:aZN):DictEntry:=⟨PyData.keyHash P x,.str x k,v⟩
def fH:List Str->Nat->List aZN
 |[],_=>[]
 |x::xs,k=>.str x k::fH xs (k+1)
def fileS:Str := "/claim/cut.py"
noncomputable def codeO(name qual:Str)(k line argc fl:Nat)(isF:Bool)(a:Nat)(ls cs tm:aZN)(j:Nat):Obj :=
 fldO (.type "code") [.str name k,.str qual (k+1),.str fileS (k+2),.int line 0,.int argc 0,.int 0 0,.int 0 0,.int fl 0,.ref a,.bool isF,.int 181 0,.ref (a+1),.none,ls,cs,tm,.int j 0,.int line 0,.str fileS (j+1)]
noncomputable def frmO(code ns:Nat)(nm:aZN):Obj:=⟨.type "frame", none,.plain,#[some (.ref code),some (.ref 3),some (.ref ns),none,some nm,none,some (.ref 0)]⟩
def fnD(name qual:Str)(args:Arguments)(body:List Stmt)(sc:Scope)(gl:Nat)(nm cd:aZN):FuncData:=⟨name,qual,args,.stmts body,sc,gl,[],.none,.none,.none,nm,none,cd,.none,0⟩
def insL:List Obj->BT->Nat->BT
 |[],t,_=>t
 |o::os,t,n=>insL os (t.ins n o) (n+1)
def jH(name qual:Str)(args:Arguments)(body:List Stmt)(sc:Scope)(line n k:Nat)(nm:aZN):List Obj×Nat×Nat :=
 match localNames args sc (.stmts body)with
 |some (ls,cs) =>
  let a:=ls.length
  let b:=cs.length
  ([tupO [],fldO .none [],tupO (fH ls (k+3)),tupO (fH cs (k+3+a)),⟨.none,none,.func (fnD name qual args body sc 0 .none .none),#[]⟩,
   codeO name qual k line args.args.length 3 true n (.ref (n+2)) (.ref (n+3)) (.ref (n+4)) (k+3+a+b),⟨.type "function", none,.func (fnD name qual args body sc 3 nm (.ref (n+5))),#[]⟩],n+5,k+5+a+b)
 |none =>
  ([tupO [],fldO .none [],⟨.none,none,.func (fnD name qual args body sc 0 .none .none),#[]⟩,
   codeO name qual k line args.args.length 3 true n .none .none (.ref (n+2)) (k+3),⟨.type "function", none,.func (fnD name qual args body sc 3 nm (.ref (n+3))),#[]⟩],n+3,k+5)
def look(x:Str):List DictEntry->Option aZN
 |[]=>none
 |⟨_,.str y _,v⟩::es=>match decide (x=y)with|true=>some v|false=>look x es
 |_::es=>look x es
structure B where
 t:BT
 n:Nat
 k:Nat
 es:List DictEntry
 tb:List aZN
def layB(P:Params)(cn:Str)(nm:aZN):List Stmt->B->B
 |.FunctionDef name args body _ _ _ sc _ _ pos::r,⟨t,n,k,es,tb⟩ =>
  match jH name (cn ++ "." ++ name) args body sc pos.line n k nm with
  |(os,c,j)=>layB P cn nm r ⟨insL os t n,n+os.length,j+1,en P name j (.ref (c+1))::es,.ref c :: .int pos.col 0 :: .int pos.line 0::tb⟩
 |_::r,b=>layB P cn nm r b
 |[],b=>b
def mroOf(t:BT)(a:Nat):List aZN×aZN:=match t.get a with
 |some ⟨_,_,.cls c,sl⟩=>(c.mro,(sl.getD 4 none).getD .none)
 |_=>([],.none)
def subTo(a:Nat):Obj->Obj
 |⟨c,d,.cls k,sl⟩=>⟨c,d,.cls {k with subclasses:=k.subclasses++[.ref a]},sl⟩
 |o=>o
noncomputable def layC(P:Params)(name:Str)(bases:List PySem.Expr)(body:List Stmt)(st:List Str)(line:Nat):S->S
 |⟨t,n,k,nm,g,tb⟩ =>
  let bs:List aZN:=match bases with
   |.Name b _::_=>(match look b g with|some v=>[v]|none=>[.type "ValueError"])
   |_=>[]
  let n2:=n+2
  let t1:=insL [tupO bs,fldO (.type "builtin_function_or_method") [.builtin "type.__prepare__", .type "type"],dicO [] 0,tupO [],fldO .none [],codeO name name (k+2) line 0 0 false (n+3) .none .none .none (k+5),frmO (n+5) n2 nm] t n
  match layB P name nm body ⟨t1,n+7,k+12,[en P "__firstlineno__" (k+11) (.int line (k+10)),en P "__qualname__" (k+9) (.str name (k+8)),en P "__module__" (k+7) nm],[]⟩with
  |⟨t2,m,j,es,ct⟩ =>
   let es1:=en P "__static_attributes__" (j+st.length) (.ref m)::es
   let j1:=j+st.length+1
   let t3:=(t2.set n2 λ_=>dicO es1.reverse es1.length).set (n+4) λ_=>fldO .none ct.reverse
   let cl:=m+2
   let cp:=(es1.reverse.take 1)++(es1.reverse.drop 2)
   let fin (mro:List aZN) (nw:aZN) (bv:List aZN) (sl0:Option aZN) (xs:List DictEntry) (gs:List Obj) (t:BT) (j:Nat):S :=
    let os:=[tupO (fH st (m-m+(j1-1-st.length))),dicO (cp++xs++[en P "__doc__" j .none]) (2+xs.length),⟨.type "type", none,.cls ⟨name,bv,.ref cl::mro,m+1,name,true,[],[],false,none,false⟩,#[sl0,none,some (.str name k),some (.str name (k+8)),some nw,some (.bool true)]⟩]
     ++ gs++[fldO (.type "super") [.ref cl,.ref cl,.ref cl],fldO (.type "builtin_function_or_method") [.builtin "object.__init_subclass__", .ref cl]]
    ⟨insL os t m,m+os.length,j+3,nm,en P name (j+2) (.ref cl)::g,.ref (n+5) :: .int 0 0 :: .int line 0::tb⟩
   let gw (j a:Nat):=fldO (.type "getset_descriptor") [.str "__weakref__" j,.ref cl,.builtin "ExceptionGroup.__weakref__", .none]
   match bs with
   | [] => fin [.type "object"] (.builtin "object.__new__") [.type "object"] none [en P "__dict__" (j1 + 1) (.ref (m + 3)), en P "__weakref__" (j1 + 3) (.ref (m + 4))]
       [fldO (.type "getset_descriptor") [.str "__dict__" j1,.ref cl,.builtin "function.__dict__", .builtin "function.__dict__#set"],gw (j1+2) 0] t3 (j1+4)
   |.ref a::_=>match mroOf t3 a with
    |(mro,nw)=>fin mro nw bs (some (.ref n)) [] [] (t3.set a (subTo cl)) j1
   |_=>fin [.type "ValueError", .type "Exception", .type "BaseException", .type "object"] (.builtin "ValueError.__new__") bs (some (.ref n)) [en P "__weakref__" (j1+1) (.ref (m+3))] [gw j1 0] t3 (j1+2)
def keysD(P:Params)(g:List DictEntry):List (Option PySem.Expr)->List PySem.Expr->Nat->List DictEntry
 |some (.Constant (.str x) _ _)::ks,.Name y _::vs,k=>en P x k ((look y g).getD .none)::keysD P g ks vs (k+1)
 |_,_,_=>[]
def put(P:Params)(x:Str)(v:aZN)(t:BT)(n k:Nat)(nm:aZN)(g:List DictEntry)(tb:List aZN):S:=match decide (x="__name__")with
 |true=>⟨t,n,k+1,v,g,tb⟩
 |false=>⟨t,n,k+1,nm,en P x k v::g,tb⟩
def lay1(P:Params):Stmt->S->S
 |.FunctionDef name args body _ _ _ sc _ _ pos,⟨t,n,k,nm,g,tb⟩=>match jH name name args body sc pos.line n k nm with
  |(os,c,j)=>⟨insL os t n,n+os.length,j+1,nm,en P name j (.ref (c+1))::g,.ref c :: .int pos.col 0 :: .int pos.line 0::tb⟩
 |.ClassDef name bases _ body _ _ _ _ _ st pos,s=>layC P name bases body st pos.line s
 |.Assign [.Name x _] (.Constant (.str v) _ _) _,⟨t,n,k,nm,g,tb⟩=>put P x (.str v k) t n (k+1) nm g tb
 |.Assign [.Name x _] (.Constant (.int v) _ _) _,⟨t,n,k,nm,g,tb⟩=>put P x (.int v k) t n (k+1) nm g tb
 |.Assign [.Name x _] (.Dict ks vs _) _,⟨t,n,k,nm,g,tb⟩=>put P x (.ref n) (t.ins n (dicO (keysD P g ks vs k) vs.length)) (n+1) (k+2 * vs.length) nm g tb
 |_,s=>s
def lay(P:Params):List Stmt->S->S
 |[],s=>s
 |st::r,s=>lay P r (lay1 P st s)
noncomputable def s0(os:List Obj):S :=
 ⟨insL [tupO [],fldO .none [],codeO "<module>" "<module>" 182 1 0 0 false 11 .none .none .none 185,frmO 13 3 (.str "__main__" 164)] (insL os .nil 0) 11,15,187,.str "__main__" 164,[],[]⟩
def nameTo(nm:aZN):List DictEntry->List DictEntry
 |e::es=>{e with val:=nm}::es
 |[]=>[]
def mainTo(nm:aZN)(g:List DictEntry):Obj->Obj
 |⟨c,d,.dict es e,sl⟩=>⟨c,d,.dict (nameTo nm es.toList++g.reverse).toArray (e+g.length),sl⟩
 |o=>o
noncomputable def S.bt(s:S):BT:=(s.t.set 3 (mainTo s.nm s.g)).set 12 λ_=>fldO .none s.tb.reverse
def z0:Pos:=⟨0,0,0,0⟩
def an:Option aZN:=some (.ref 6)
def ev(p:aZR):Env:={scope:=p.main.scope,locals:=mainNs,globals:=mainNs,cells:=[],code:=.ref 13,frame:=some 14}
noncomputable def cd(p:aZR):Code:=.body (behindTheImports p) (ev p)
noncomputable def go(tb:String->Option Builtin)(p:aZR)(w:aZQ)(F:Nat):List Stmt->SharedT->Code->Pos->Option (SharedT×Code×Pos)
 |[],s,c,q=>some (s,c,q)
 |st::l,s,c,q=>match segRunT tb p w 11 an 1 F s (pieceOf st (ev p) c q [topFrame z0])with
  |some (.next,s',c',q')=>go tb p w F l s' c' q'
  |_=>none
def ns(F N:Nat):List Stmt->Nat
 |[]=>N
 |_::l=>F+ns F N l
section
variable {tb:String->Option Builtin}{p:aZR}
def one{N:Nat}{r:aZO}{rest:List Stmt}{c c':Code}{e:Env}{q:Pos}(h:segRun tb p w 11 an 1 n s (pieceOf st e c q [topFrame z0])=some (.next,s',c',q'))(k:topRun tb p w 11 an N s' (restOf rest e c' q' [topFrame z0])=some r):topRun tb p w 11 an (n+N) s (restOf (st::rest) e c q [topFrame z0])=some r:=by
 obtain⟨a,ha,hN⟩:=seg_top (B:=[topFrame z0]) (res:=id)
  (K':=λf=>match f with
   |.next=>(execs rest e).wrap doneF (leaveH e) id id
   |f=>doneF f)
  (H':=leaveH e) rfl n s (pieceOf st e c q [topFrame z0])
  ⟨(exec st e).wrap (λf=>match f with
   |.next=>(execs rest e).wrap doneF (leaveH e) id id
   |f=>doneF f) (leaveH e) id id,c,q,[topFrame z0]⟩ _ _ _ _ ⟨rfl,rfl,.inl ⟨rfl,rfl,_,rfl,rfl⟩⟩ h
 cases ha;unfold restOf;rw[execs_cons_wrap];exact hN N r k
theorem go_top'{F:Nat}:∀(l:List Stmt) {s s':SharedT}{c c':Code}{q q':Pos},go tb p w F l s c q=some (s',c',q')->∀{N:Nat}{r:aZO}{rest:List Stmt},topRun tb p w 11 an N s'.abs (restOf rest (ev p) c' q' [topFrame z0])=some r->topRun tb p w 11 an (ns F N l) s.abs (restOf (l++rest) (ev p) c q [topFrame z0])=some r
 |[],_,_,_,_,_,_,h,_,_,_,k=>by cases h;exact k
 |st::l,s,s',c,c',q,q',h,N,r,rest,k=>by
  unfold go at h;split at h
  . rename_i x e;exact one (segRun_of e) (go_top' l h k)
  . cases h
def fin2(s:aZO)(c:Code)(q:Pos):topRun tb p w 11 an 2 s (restOf [] (ev p) c q [topFrame z0])=some s:=by obtain⟨h,g,d,k,o⟩:=s;rfl
noncomputable def sh(P:Params)(S:S)(n k:Nat)(os:OsState):SharedT:=⟨S.bt,n,(boot_heap P).life,#[],boot_drawn,k,os⟩
noncomputable def sA(P:Params):S:=s0 (boot_heap P).objs.toList
def run_of{l:List Stmt}{c':Code}(hl:behindTheImports p=l)(pre:∀(w:aZQ) (os:OsState),topGo treeTable p w 11 an 12 ⟨boot_heap w.params,#[],boot_drawn,boot_toks,os⟩ (topStub p)=some ((sh w.params (sA w.params) 15 187 os).abs,⟨denote treeTable (cd p),cd p,z0,[topFrame z0]⟩))(blk:∀(w:aZQ) (s:aZO),segRun treeTable p w 11 an 1 1 s (blockOf l (ev p) (cd p) z0 [topFrame z0])=some (.next,s,cd p,z0))(run:∀(w:aZQ) (os:OsState),go treeTable p w 1000 l (sh w.params (sA w.params) 15 187 os) (cd p) z0=some (sh w.params (lay w.params l (sA w.params)) n k os,c',q')):∀(w:aZQ) (os:OsState),topRun treeTable p w 11 an (12+(1+ns 1000 2 l)) ⟨boot_heap w.params,#[],boot_drawn,boot_toks,os⟩ (topStub p)=some (sh w.params (lay w.params l (sA w.params)) n k os).abs:=by
 intro w os;refine go_top (pre w os) ?_;unfold cd;rw[hl];refine piece_block (n:=1) (by have:=blk w (sh w.params (sA w.params) 15 187 os).abs;unfold cd at this;rw[hl]at this;exact this) ?_
 have:=go_top' l (run w os) (rest:=[]) (fin2 _ _ _);rw[aUS]at this;unfold cd at this;rw[hl]at this;exact this
end
noncomputable def KK(l:List Stmt)(as:List Addr)(P:Params):Frag:=as.map λa=>(a,((lay P l (sA P)).bt.get a).getD default)
def KK_e(l:List Stmt)(as:List Addr)(P:Params):as=(KK l as P).map (·.1):=by unfold KK;rw[aY8];exact(List.map_id as).symm
noncomputable def hk(l:List Stmt)(as:List Addr):Hook:=kHook (KK l as) as (KK_e l as)
noncomputable def H1(l:List Stmt)(n:Nat)(P:Params):Heap:=absHeap (lay P l (sA P)).bt n (boot_heap P).life
noncomputable def S1(l:List Stmt)(n k:Nat)(P:Params)(os:OsState):aZO:=⟨H1 l n P,#[],boot_drawn,k,os⟩
def bnd(n:Str):Stmt->List Str
 |.FunctionDef x ..=>if x==n then[]else[x]
 |.ClassDef x ..=>[x]
 |.Assign [.Name x _] _ _=>if x == "__name__" then[]else[x]
 |_=>[]
def los(l:List Stmt):List Str:=l.flatMap (bnd "law")
def vw(p:aZR):aZR:={ p with main:={ p.main with body:=p.main.body.filter λst=>match st with|.FunctionDef x ..=>x == "law" |_=>false } }
def xt(r:OpenRow)(s:aZO):Bool:=xlAt (vw r.prog) [] s&&recOk r.toRowW.records s
def size1(w:aZQ):((boot_heap w.params).isNs mainGlobals&&(#[]:Array GenState).size==0,(boot_heap w.params).objs.size,(boot_heap w.params).nsMap mainGlobals "__annotations__")=(true,11,an):=by kernel_rfl
end Tp
def Tp.twA:Prod.fst (true,(@Tp.go,@Tp.lay,@Tp.sh,@Tp.sA,@Tp.cd,@Tp.ev,@Tp.S.bt,@Tp.KK,@Tp.hk,@Tp.H1,@Tp.S1,@Tp.los,@Tp.vw,@Tp.xt))=true:=by k_qdec
namespace D3
open PySem.Calls
def tV(q:Str):Str:=q ++ ".<locals>." ++ lA q
def cdT:aZN->aZN->aZN->aZN->aZN->aZN->Option Addr
 |.type "code", .ref T,.str _ _,.int _ _,.bool _,.int _ _=>some T
 |_,_,_,_,_,_=>none
def iR:Obj->Option (Str×Option Addr)
 |⟨cl,_,.fields vs,_⟩=>match vs.toList with
  |_ :: .str q _::_=>some (q,cdT cl (vs.getD 11 .none) (vs.getD 18 .none) (vs.getD 7 .none) (vs.getD 9 .none) (vs.getD 10 .none))
  |_=>none
 |_=>none
def tq(b:Addr):Fg->Option Str
 |[]=>none
 |(_,o)::r=>match iR o with
  |some (q,some T)=>if T=b then some q else tq b r
  |_=>tq b r
def tW:Option Obj->Bool
 |some ⟨.none,none,.fields vs,sl⟩=>vs.size==0&&sl.size==0
 |_=>false
noncomputable def pK(K Kf:Fg):Bool:=K.all λ(c,o)=>match iR o with
 |none=>true
 |some (q,some T)=>tq T K==some q&&(K.lookup T).isNone&&tW (Kf.lookup T)&&c != T
 |some (_,none)=>false
def aQH{o:Option Obj}(h:tW o=true):o=some ⟨.none,none,.fields #[],#[]⟩:=by
 unfold tW at h;split at h
 . rename_i vs sl;simp only[aVL,aUI]at h;obtain rfl:vs = #[]:=aZE h.1;obtain rfl:sl = #[]:=aZE h.2;rfl
 . cases h
def aA0{o:Obj}{T:Addr}(h:iR o=some (q,some T)){c:Addr}(e:hp.get? c=some o)(ne:c≠T):W.CodeHd hp c T:=by
 obtain⟨cl,od,dt,sl⟩:=o;unfold iR at h;split at h
 . rename_i cl' od' vs sl' he;cases he;split at h
   . rename_i a q' t r hv;have h1:=aTZ h;have h2:cdT cl (vs.getD 11 .none) (vs.getD 18 .none) (vs.getD 7 .none) (vs.getD 9 .none) (vs.getD 10 .none)=some T:=congrArg Prod.snd h1;unfold cdT at h2;split at h2
     . rename_i e1 e2 e3 e4 e5;cases h2;refine⟨_,vs,_,_,_,_,_,_,_,e,rfl,rfl,?_,e1,e2,e3,e4,e5,ne⟩;rw[aX5]at e1;cases q:vs[11]? with
       |none=>rw[q]at e1;cases e1
       |some v=>rw[q]at e1;exact congrArg some e1
     . cases h2
   . cases h
 . cases h
def aQI{cd:aZN}(h:W.codeIn K cd q=true):∃c o,cd=.ref c/\K.lookup c=some o/\∃x,iR o=some (q,x):=by
 unfold W.codeIn at h;split at h
 . rename_i c;split at h
   . rename_i e;split at h
     . rename_i a n t r hv;refine⟨c,_,rfl,e,?_⟩;rw[aUI]at h;subst h;unfold iR;dsimp only;rw[hv];exact⟨_,rfl⟩
     . cases h
   . cases h
 . cases h
theorem aA1{c:Addr}{o:Obj}:∀{K:Fg},K.lookup c=some o->(c,o)∈K
 |[],h=>by cases h
 |(b,u)::r,h=>by
  rw[aV8]at h;split at h
  . rename_i hb;cases h;have hb:=aUI.mp hb;subst hb;exact mcs
  . exact mcm (aA1 h)
theorem tX{b:Addr}{q:Str}:∀{K:Fg},tq b K=some q->∃c o,(c,o)∈K/\iR o=some (q,some b)
 |[],h=>by cases h
 |(c,o)::r,h=>by
  unfold tq at h;split at h
  . rename_i q' T e;split at h
    . rename_i ht;cases h;subst ht;exact⟨c,o,mcs,e⟩
    . obtain⟨c',o',m,x⟩:=tX h;exact⟨c',o',mcm m,x⟩
  . obtain⟨c',o',m,x⟩:=tX h;exact⟨c',o',mcm m,x⟩
structure TabF(K Kf:Fg):Prop where
 all:∀c o,(c,o)∈K->∀q x,iR o=some (q,x)->∃T,x=some T/\tq T K=some q/\K.lookup T=none/\Kf.lookup T=some ⟨.none,none,.fields #[],#[]⟩/\c≠T
def aQJ{Kf:Fg}(h:pK K Kf=true):TabF K Kf:=⟨λc o m q x e=>by
 have h1:=aWI.mp h (c,o) m;dsimp only at h1;rw[e]at h1;cases x with
 |none=>cases h1
 |some T =>
  dsimp only at h1;simp only[aVL,aUI,aZB,Option.isNone_iff_eq_none]at h1;exact⟨T,rfl,h1.1.1.1,h1.1.1.2,aQH h1.1.2,h1.2⟩⟩
def aQK{Kf:Fg}{mb:SOV}{fa a:Addr}{x:Str}{s₁:aZO}{ns:List Int}(KX:Kf.In s₁.heap)(sub:∀b o,K.lookup b=some o->Kf.lookup b=some o)(tb:TabF K Kf)(nd:∀b o,(b,o)∈K->K.lookup b=some o)(hns:s₁.heap.Ns mainGlobals mg)(hb:s₁.heap.Ns builtinsNs mb)(hbb:∀x:Str,x ≠ "__name__" -> mb x=bootBuiltins x)(hlim:s₁.heap.NoLimit)(hbm:∃bm ob,mg "__builtins__" = some (.ref bm)/\bm≠builtinsNs/\s₁.heap.get? bm=some ob/\ob.cls=.type "module" /\ ob.dict=some builtinsNs/\ob.data=.plain)(hg:s₁.gens = #[])(ha:s₁.heap.get? a=some { cls:=.type "list", data:=.seq vs.toArray })(hi:IntsAre vs ns)(hl:ns.length<=sizeLine)(hr:bD k callerA)(F:∀base:Heap,K.In base->base.Ns mainGlobals mg->cR P w K mg base CX k fa fd [x] sp)(hbind:∀(s:aZO) (u:aZN),BindsTo s fd ⟨[u],[]⟩ [(x,u)])(hsp:∀H:Hp,SqL K H a (ns.map V.int)->sp [.ref a] H (λv _=>v=.bl true) λ_ _ _=>False)(hCX:∀H e s',CX [] H s₁ (λ_ _ _=>False) e s'->False):codeAny (model P w) callerA (.call (.ref fa) ⟨[.ref a],[]⟩) (λr s'=>r=.ok (.ret (.bool true))/\OldK s₁.heap s'.heap/\s'.os=s₁.os/\AllBare s'.gens) s₁:=by
 have KX':K.In s₁.heap:=λb o e=>KX b o (sub b o e);have rv:=wC hi;have lenV:=hi.length
 let sob:Obj:={ cls:=.type "list", data:=.seq vs.toArray }
 let H:Hp:=λb=>match tq b K with
  |some q=>some (.tbl #[.str (tV q) 0])
  |none=>if b=a/\K.lookup a=none then some (.frz sob (.lst (ns.map V.int)))else none
 have tabAt:∀{b:Addr}{q:Str},tq b K=some q->K.lookup b=none/\s₁.heap.get? b=some ⟨.none,none,.fields #[],#[]⟩/\isCodeTable s₁.heap b:=λ{b q} e=>by obtain⟨c,o,m,x⟩:=tX e;obtain⟨T,e1,_,e3,e4,e5⟩:=tb.all c o m q _ x;cases e1;obtain⟨o',vs',_,_,_,_,_,_,_,g1,g2,g3,g4,_⟩:=aA0 x (KX' c o (nd c o m)) e5;exact⟨e3,KX _ _ e4,c,o',vs',g1,g2,g3,g4⟩
 have nota:tq a K=none:=by
  cases e:tq a K with
  |none=>rfl
  |some q=>have:=(tabAt e).2.1;rw[ha]at this;cases this
 have Htab:∀{b:Addr}{q:Str},tq b K=some q->H b=some (.tbl #[.str (tV q) 0]):=λ{b q} e=>by
  show(match tq b K with|some q=>_|none=>_)=_
  rw[e]
 have Hno:∀{b:Addr},tq b K=none->H b=if b=a/\K.lookup a=none then some (.frz sob (.lst (ns.map V.int)))else none:=λ{b} e=>by
  show(match tq b K with|some q=>_|none=>_)=_
  rw[e]
 have HK:∀{b:Addr}{o:Obj},K.lookup b=some o->H b=none:=λ{b o} e=>by
  cases q:tq b K with
  |some x=>have:=(tabAt q).1;rw[e]at this;cases this
  |none=>rw[Hno q,if_neg];rintro⟨rfl,z⟩;rw[e]at z;cases z
 have noD:∀{b:Addr}{o:Obj}{es:Array DictEntry}{ep:Nat},s₁.heap.get? b=some o->o.data=.dict es ep->H b=none:=λ{b o es ep} e d=>by
  cases q:tq b K with
  |some x=>have:=(tabAt q).2.1;rw[e]at this;cases this;cases d
  |none=>rw[Hno q,if_neg];rintro⟨rfl,z⟩;rw[ha]at e;cases e;cases d
 have noM:∀{b:Addr}{o:Obj},s₁.heap.get? b=some o->o.cls=.type "module" -> H b=none:=λ{b o} e d=>by
  cases q:tq b K with
  |some x=>have:=(tabAt q).2.1;rw[e]at this;cases this;cases d
  |none=>rw[Hno q,if_neg];rintro⟨rfl,z⟩;rw[ha]at e;cases e;injection d with d;exact absurd d (by decide)
 have hok:HOk P w H s₁.heap:=λb u e=>by
  cases q:tq b K with
  |some x=>rw[Htab q]at e;cases e;refine⟨tV x,#[],rfl,(tabAt q).2.1,trivial,λz cv f=>?_⟩;cases f
  |none =>
   rw[Hno q]at e;split at e
   . rename_i hc;cases e;obtain⟨rfl,_⟩:=hc;exact⟨ha,by rw[aUL];exact hl,vs,_,rv,ha⟩
   . cases e
 have hS:SqL K H a (ns.map V.int):=by
  cases hk:K.lookup a with
  |some o=>have e:=KX' a o hk;rw[ha]at e;cases e;exact .inr ⟨_,vs.toArray,_,hk,rfl,rfl,rfl,by rw[aUG,lenV];exact hl,by simpa using rv⟩
  |none=>exact .inl (.inr ⟨sob,by rw[Hno nota,if_pos ⟨rfl,hk⟩]⟩)
 have nsK:∀{b:Addr}{m:SOV},s₁.heap.Ns b m->(gK s₁.heap H).Ns b m:=λ{b m} ⟨o,es,ep,e,d,r⟩=>⟨o,es,ep,qL e (noD e d),d,r⟩;have hKb:K.In (gK s₁.heap H):=λb o e=>qL (KX' b o e) (HK e);have hM:Mod K mg (gK s₁.heap H):=⟨hKb,nsK hns,⟨mb,nsK hb,hbb⟩,let⟨mc,h1,h2⟩:=hlim;⟨mc,nsK h1,h2⟩,let⟨bm,ob,b1,b2,b3,b4,b5,b6⟩:=hbm;⟨bm,ob,b1,b2,qL b3 (noM b3 b4),b4,b5,b6⟩⟩
 have hT:jV K (gK s₁.heap H) H:=λcd q e=>by obtain⟨c,o,rfl,lk,y,hy⟩:=aQI e;obtain⟨T,rfl,e2,_,_,e5⟩:=tb.all c o (aA1 lk) q y hy;exact⟨c,T,_,rfl,aA0 hy (hKb c o lk) e5,Htab e2,rfl⟩
 have e0:eY P w K mg (gK s₁.heap H) callerA [] s₁ H:=⟨rfl,hM,λb o e=>aDP e,aUN (aDO _ _),trivial,λb hb=>absurd (show b∈([]:List Addr)from hb) (by simp),hok,.of_eq hg,hT⟩
 refine aVW ((F _ hKb (nsK hns)).run callerA [] s₁ H ⟨[.ref a],[]⟩ [.ref a] [.ref a] _ _ hr e0 (hbind s₁ (.ref a)) (.cons rfl .nil) (hsp H hS)) λr s' h=>?_;cases r with
 |error e=>exact(hCX H e s' h).elim
 |ok fl =>
  cases fl with
  |next=>exact False.elim h
  |brk=>exact False.elim h
  |cont=>exact False.elim h
  |ret u =>
   obtain⟨v,H',os,bare,un,hok',r',q⟩:=h;have q':v=.bl true:=q;subst q';obtain rfl:u=Value.bool true:=r';have was:∀b o,s₁.heap.get? b=some o->asItWas s₁.heap s'.heap b o/\∃o',s'.heap.get? b=some o':=λb o e=>by
    cases q:tq b K with
    |some x=>obtain⟨more,z⟩:=un.tbls b _ (Htab q);obtain⟨_,m,_,g,_⟩:=hok' b _ z;obtain⟨_,t2,t3⟩:=tabAt q;rw[e]at t2;cases t2;exact⟨.inr (.inl ⟨t3,rfl,#[],m,rfl,by rw[g];simp⟩),_,g⟩
    |none =>
     have hn:=Hno q;split at hn
     . rename_i hc;obtain⟨rfl,_⟩:=hc;have z2:=un.frzs _ _ _ hn;obtain⟨e2,_⟩:=hok' _ _ z2;rw[ha]at e;cases e;exact⟨.inl e2,_,e2⟩
     . have:=un.keep b o e hn (by intro z;exact absurd (show b∈([]:List Addr)from z) (by simp)) (by simp)
       exact⟨.inl this,o,this⟩
   exact⟨rfl,⟨λb o e=>(was b o e).1,λb o e=>(was b o e).2⟩,os,bare⟩
def aQL{l:W.OpenLaw}{q:aZR}{d:DefRec}{K Kf:Params->Fg}{CX:aZQ->CXT}{sp:aZQ->Sp}{x:Str}(hn:l.most=some n)(hn2:n<=sizeLine)(hdf:d.params.defaults=[])(hr:bD k callerA)(hY:∀(w:aZQ) (h:Heap),YP w h->(Kf w.params).In h)(sub:∀P b o,(K P).lookup b=some o->(Kf P).lookup b=some o)(nd:∀P b o,(b,o)∈K P->(K P).lookup b=some o)(tb:∀P,pK (K P) (Kf P)=true)(F:∀(w:aZQ) (mg:SOV) (fa:Addr) (h:Heap),(K w.params).In h->h.Ns mainGlobals mg->mg d.name=some (.ref fa)->∃fd:FuncData,(∀(s:aZO) (u:aZN),BindsTo s fd ⟨[u],[]⟩ [(x,u)])/\∀base:Heap,(K w.params).In base->base.Ns mainGlobals mg->cR l.prog w (K w.params) mg base (CX w) k fa fd [x] (sp w))(hsp:∀(w:aZQ) (H:Hp) (a:Addr) (ns:List Int),ns.length<=n->SqL (K w.params) H a (ns.map V.int)->sp w [.ref a] H (λv _=>v=.bl true) λ_ _ _=>False)(hCX:∀(w:aZQ) (H:Hp) (s:aZO) (e:aZN) (s':aZO),CX w [] H s (λ_ _ _=>False) e s'->False):W.WalkO q loose XP YP l.row.toRowW d [] (λf vs=>PySem.call f vs):=by refine Att.aGG hn hdf λw s₀ s₁ mg mb fa o pm cd doc a vs ns G Y ho hd hcd hmg hobj hints hlen hg=>?_;have KX:=hY w _ Y;obtain⟨fd,hb,hF⟩:=F w mg fa _ (λb o e=>KX b o (sub _ b o e)) G.T.g hmg;exact aQK KX (sub w.params) (aQJ (tb w.params)) (nd w.params) G.T.g G.T.b G.T.builtins G.T.nolimit G.T.bmain hg hobj hints (aTQ hlen hn2) hr hF hb (λH hS=>hsp w H a ns hlen hS) λH e s'=>hCX w H s₁ e s'
noncomputable def adB(K:Fg)(x:Str):Option Addr:=match W.nsIn K mainGlobals x with|some (some (.ref a))=>some a|_=>none
def eV{x:Str}{a:Addr}(h:adB K x=some a):W.nsIn K mainGlobals x=some (some (.ref a)):=by
 unfold adB at h;split at h
 . rename_i b e;cases h;exact e
 . cases h
noncomputable def isKey(key:Str):Addr×Obj->Bool
 |(_,⟨.type t,_,.func fd,_⟩)=>t == "function" && fd.qualname==key
 |_=>false
noncomputable def faK(K:Fg)(key:Str):Addr:=match K.find? (isKey key)with|some p=>p.1|none=>0
noncomputable def stOf(fd:FuncData)(b:List Stmt):Stmt:=.FunctionDef fd.name fd.params b [] none [] fd.scope none fd.name ⟨0,0,0,0⟩
noncomputable def parB(p:Arguments)(ps:List Str):Bool:=p.posonlyargs.isEmpty&&(p.args.map (·.arg)==ps)&&p.vararg.isNone&&p.kwonlyargs.isEmpty&&p.kwarg.isNone&&decide ps.Nodup
noncomputable def fdB(K:Fg)(nm:Option Str)(key:Str)(a:Addr)(ps:List Str)(f:Stmt->Bool)(fd:FuncData)(b:List Stmt):Bool :=
 (nm.getD fd.name==fd.name)&&((fd.qualname==key)&&(fd.globals==mainGlobals&&(fd.closure.isEmpty&&((fd.defaults == .none)&&(fd.builtins==builtinsNs&&(W.codeIn K fd.code key&&(W.keepIn K (.ref a)&&(parB fd.params ps&&f (stOf fd b)))))))))
noncomputable def kX(K:Fg)(nm:Option Str)(key:Str)(a:Addr)(ps:List Str)(f:Stmt->Bool):Bool:=match K.lookup a with
 |some ⟨_,_,.func fd,_⟩=>(match fd.body with
  |.stmts b=>fdB K nm key a ps f fd b
  |_=>false)
 |_=>false
def tY{nm:Option Str}{key:Str}{a:Addr}{f:Stmt->Bool}(h:kX K nm key a ps f=true):∃name st fd,Fun K name key st a fd/\eL K fd ps []/\f st=true/\nm.getD name=name/\∀us:List aZN,us.length=ps.length->bindArgs fd ⟨us,[]⟩=pure (ps.zip us):=by
 unfold kX at h;split at h
 . rename_i oc od fd sl el;split at h
   . rename_i b eb;unfold fdB at h;simp only[aVL]at h;obtain⟨h1,h2,h3,h4,h5,h6,h7,h8,h9,h10⟩:=h;obtain⟨name,qualname,params,body,scope,globals,closure,defaults,kwdefaults,doc,pm,an,code,ct,bl⟩:=fd;dsimp only at *;obtain rfl:=eb;obtain rfl:=aUI.mp h2;obtain rfl:=aUI.mp h3;obtain rfl:=List.isEmpty_iff.mp h4;obtain rfl:=aUI.mp h5;obtain rfl:=aUI.mp h6;unfold parB at h9;simp only[aVL,List.isEmpty_iff,aUI,Option.isNone_iff_eq_none,aV9]at h9;obtain⟨⟨⟨⟨⟨p1,p2⟩,p3⟩,p4⟩,p5⟩,p6⟩:=h9;have bp:=zY (fd:=W.fnOf name qualname params b scope .none kwdefaults doc pm an code ct) p1 p2 p3 p4 p5 rfl p6;exact⟨name,_,_,aGH (st:=stOf ⟨name,qualname,params,.stmts b,scope,mainGlobals,[],.none,kwdefaults,doc,pm,an,code,ct,builtinsNs⟩ b) el h7 h8,.all bp,h10,aUI.mp h1,bp⟩
   . cases h
 . cases h
noncomputable def gvB(K:Fg)(x:Str):GV->Bool
 |.con (.s y)=>(match W.nsIn K mainGlobals x with|some (some (.str z _))=>z==y|_=>false)
 |.con (.i n)=>(match W.nsIn K mainGlobals x with|some (some (.int z _))=>z==n|_=>false)
 |.con (.t _)=>true
 |.no=>W.nsIn K mainGlobals x==some none
 |.fn _=>W.nsIn K mainGlobals x==some (some (.ref (faK K x)))
 |.cls=>true
noncomputable def pL(K:Fg)(C:Addr):Bool:=W.plainGet K C Str.empty&&(W.hasDictIn K C&&(W.plainOver K C&&W.findIn K (.ref C) "__setattr__" == some (some (.builtin "object.__setattr__"))))
def aA2{C:Addr}(h:pL K C=true):Cls K C:=by unfold pL at h;simp only[aVL,aUI]at h;exact⟨h.1,h.2.1,h.2.2.1,h.2.2.2⟩
noncomputable def tZ(K:Fg)(C:Addr)(x:Str×Str×Nat):Bool:=W.findIn K (.ref C) x.1==some (some (.ref (faK K x.2.1)))&&(W.isFn K (.ref (faK K x.2.1))&&W.keepIn K (.ref (faK K x.2.1)))
noncomputable def ciB(K:Fg)(i:CI):Bool:=match adB K i.name with
 |some C=>pL K C&&(i.meths.all (tZ K C)&&i.flds.all λf=>W.findIn K (.ref C) f==some none)
 |none=>false
noncomputable def mk0B(K:Fg)(c:Str):Bool:=match adB K c with
 |some C=>W.makesIn K C&&(W.findIn K (.ref C) "__init__" == some (some (.builtin "object.__init__"))&&W.keepIn K (.ref C))
 |none=>false
noncomputable def clB(K:Fg)(C:Addr):Bool:=W.findIn K (.ref C) "__class__" == some (some (.builtin "object.__class__"))&&(W.specialIn K (.builtin "object.__class__") "__get__" == some (some (.builtin "getset_descriptor.__get__"))&&(W.takesIn K (.builtin "object.__class__")==some true&&W.mroIn K C (.type "object")==some true))
noncomputable def isoB(K:Fg)(cl:List CI)(c:Str):Bool:=match adB K c with
 |some C=>["NoneType", "bool", "int", "str", "tuple", "list", "dict"].all (λt=>W.kitOne K (.type t) (.ref C)==some false)&&cl.all λi=>match adB K i.name with
  |some C'=>pL K C'&&(clB K C'&&W.kitOne K (.ref C') (.ref C)==some (i.ups.contains c))
  |none=>false
 |none=>false
noncomputable def inB(K:Fg)(g:MG)(x:Str×ID):Bool:=match adB K x.2.c with
 |some C=>W.makesIn K C&&(W.findIn K (.ref C) "__init__" == some (some (.ref (faK K x.1)))&&(W.isFn K (.ref (faK K x.1))&&(W.keepIn K (.ref C)&&kX K none x.1 (faK K x.1) x.2.ps (λst=>tK g st x.2))))
 |none=>false
noncomputable def xtB(K:Fg)(x:(Str×Str)×Bool):Bool:=match adB K x.1.1,adB K x.1.2 with
 |some C,some C2=>W.mroIn K C2 (.type "BaseException")==some true&&(W.typeIn K (.ref C2)==some (.type "type")&&W.mroIn K C (.ref C2)==some x.2)
 |_,_=>false
noncomputable def xcB(K:Fg)(C:Addr):Bool:=W.findIn K (.ref C) "__getattribute__" == some (some (.builtin "BaseException.__getattribute__"))&&(W.findIn K (.ref C) "__getattr__" == some none&&(W.mroIn K C (.type "BaseException")==some true&&clB K C))
noncomputable def cvB(K:Fg)(n:Str):Option V:=match W.nsIn K mainGlobals n with
 |some (some (.ref C))=>some (.ref C)
 |some none=>if n == "__name__" then none else(match bootBuiltins n with|some (.type T)=>some (.ty T)|_=>none)
 |_=>none
noncomputable def xiB(K:Fg)(x:(Str×Str)×Bool):Bool:=match adB K x.1.1,cvB K x.1.2 with
 |some C,some cv=>xcB K C&&W.kitOne K (.ref C) (xU cv)==some x.2
 |_,_=>false
noncomputable def rzB(K:Fg)(c:Str):Bool:=match adB K c with
 |some C=>W.excIn K C vErr "ValueError.__new__"
 |none=>false
noncomputable def gfB(K:Fg)(g:MG)(t:TB):Bool :=
 g.G.all (λx=>gvB K x.1 x.2)&&(gOk g.G t.T&&(t.T.all (λx=>kX K (if x.1 == "law" then some "law" else none) x.1 (faK K x.1) x.2.ps (λst=>jN g x.1 st x.2))&&(t.I.all (inB K g)&&(g.mk0.all (mk0B K)&&(aAP g.mki t.I&&(g.iso.all (isoB K t.cl)&&(t.cl.all (ciB K)&&(mtOk t.cl t.T&&(t.xt.all (xtB K)&&(t.xi.all (xiB K)&&(g.xcs.all (rzB K)&&g.xns.all (λn=>(cvB K n).isSome))))))))))))
section
variable (Xi:K.In h)(G:h.Ns mainGlobals mg)
include Xi G
theorem aA3:∀{l:List (Str×GV)},(∀x tb,(x,GV.con (.t tb))∈l->kD w K mg x tb)->l.all (λx=>gvB K x.1 x.2)=true->mY w K mg (faK K) l
 |[],_,_=>trivial
 |(x,v)::l,ht,b=>by
  rw[aVP,aVL]at b;refine⟨?_,aA3 (λx tb hx=>ht x tb (mcm hx)) b.2⟩;have b:=b.1;dsimp only at b;cases v with
  |con c =>
   cases c with
   |s y =>
    have b:(match W.nsIn K mainGlobals x with|some (some (.str z _))=>z==y|_=>false)=true:=b
    split at b
    . rename_i z t e;cases aUI.mp b;exact⟨t,aZF Xi G e⟩
    . cases b
   |i y =>
    have b:(match W.nsIn K mainGlobals x with|some (some (.int z _))=>z==y|_=>false)=true:=b
    split at b
    . rename_i z t e;cases aUI.mp b;exact⟨t,aZF Xi G e⟩
    . cases b
   |t tb=>exact ht x tb mcs
  |fn n=>exact aZF Xi G (aUI.mp b)
  |no=>exact W.mg_none_of Xi G (aUI.mp b)
  |cls=>trivial
def aA4{n:Str}{cv:V}(e:cvB K n=some cv):oJ mg n cv:=by
 unfold cvB at e;split at e
 . rename_i C q;cases e;exact .inl ⟨C,aZF Xi G q,rfl⟩
 . rename_i q;split at e
   . cases e
   . rename_i hn;split at e
     . rename_i T hb;cases e;exact .inr ⟨W.mg_none_of Xi G q,by simpa using hn,T,hb,rfl⟩
     . cases e
 . cases e
end
theorem aA5{K:Fg}{g:MG}:∀{l:List (Str×FD)},l.all (λx=>kX K (if x.1 == "law" then some "law" else none) x.1 (faK K x.1) x.2.ps (λst=>jN g x.1 st x.2))=true->mW K g (faK K) l
 |[],_=>trivial
 |(x,d)::l,b=>by rw[aVP,aVL]at b;obtain⟨name,st,fd,F,hb,ok,_,_⟩:=tY b.1;exact⟨⟨name,st,fd,F,hb,ok⟩,aA5 b.2⟩
theorem aA6{K:Fg}{C:Addr}:∀{l:List (Str×Str×Nat)},l.all (tZ K C)=true->kQ K (faK K) C l
 |[],_=>trivial
 |(m,key,n)::l,b=>by rw[aVP,aVL]at b;have b1:=b.1;unfold tZ at b1;simp only[aVL,aUI]at b1;exact⟨⟨b1.1,b1.2.1,b1.2.2⟩,aA6 b.2⟩
theorem aA7{K:Fg}{C:Addr}:∀{l:List Str},l.all (λf=>W.findIn K (.ref C) f==some none)=true->kR K C l
 |[],_=>trivial
 |f::l,b=>by rw[aVP,aVL]at b;exact⟨aUI.mp b.1,aA7 b.2⟩
theorem aA8{K:Fg}:∀{l:List CI},l.all (ciB K)=true->mZ K (faK K) l
 |[],_=>trivial
 |i::l,b=>by
  rw[aVP,aVL]at b;refine⟨?_,aA8 b.2⟩;have b:=b.1;unfold ciB at b;split at b
  . rename_i C e;simp only[aVL]at b;exact⟨C,eV e,aA2 b.1,aA6 b.2.1,aA7 b.2.2⟩
  . cases b
section
variable (Xi:K.In h)(G:h.Ns mainGlobals mg)
include Xi G
theorem aA9{g:MG}:∀{l:List (Str×ID)},l.all (inB K g)=true->mX K mg g l
 |[],_=>trivial
 |(x,d)::l,b=>by
  rw[aVP,aVL]at b;refine⟨?_,aA9 b.2⟩;have b:=b.1;unfold inB at b;split at b
  . rename_i C e;simp only[aVL,aUI]at b;obtain⟨b1,b2,b3,b4,b5⟩:=b;obtain⟨name,st,fd,F,hb,ok,_,_⟩:=tY b5;exact⟨name,st,C,_,fd,eV e,aZF Xi G (eV e),⟨b1,b2,b3,b4⟩,F,hb,ok⟩
  . cases b
omit Xi G in
theorem t0{c x:Str}{v:Bool}:∀{l:List ((Str×Str)×Bool)},l.lookup (c,x)=some v->((c,x),v)∈l
 |[],e=>by cases e
 |(y,b)::l,e=>by
  rw[aV8]at e;split at e
  . rename_i hb;cases e;rw[<- aUI.mp hb];exact mcs
  . exact mcm (t0 e)
def xt_of{l:List ((Str×Str)×Bool)}(b:l.all (xtB K)=true):rQ K mg (λc x=>l.lookup (c,x)):=λc x v e=>by
 have b:=aWI.mp b ((c,x),v) (t0 e);unfold xtB at b;split at b
 . rename_i C C2 e1 e2;simp only[aVL,aUI]at b;exact⟨C,C2,eV e1,aZF Xi G (eV e1),aZF Xi G (eV e2),b.1,b.2.1,b.2.2⟩
 . cases b
def xi_of{l:List ((Str×Str)×Bool)}(b:l.all (xiB K)=true):rR K mg (λc x=>l.lookup (c,x)):=λc x v e=>by
 have b:=aWI.mp b ((c,x),v) (t0 e);unfold xiB at b;split at b
 . rename_i C cv e1 e2;unfold xcB clB at b;simp only[aVL,aUI]at b;obtain⟨⟨b1,b2,b3,b4,b5,b6,b7⟩,b8⟩:=b;exact⟨C,cv,eV e1,⟨b1,b2,b4,b3,b7,b5,b6⟩,aA4 Xi G e2,b8⟩
 . cases b
def gf_of{g:MG}{t:TB}(b:gfB K g t=true)(ht:∀x tb,(x,GV.con (.t tb))∈g.G->kD w K mg x tb):GF w K mg g t (faK K):=by
 unfold gfB at b;simp only[aVL]at b;obtain⟨b1,b2,b3,b4,b5,b6,b7,b8,b9,b10,b11,b12,b13⟩:=b;refine⟨aA3 Xi G ht b1,b2,aA5 b3,aA9 Xi G b4,λc hc=>?_,b6,λc hc=>?_,aA8 b8,b9,xt_of Xi G b10,xi_of Xi G b11,λc hc=>?_,λn hn=>?_⟩
 . have b:=aWI.mp b5 c hc;unfold mk0B at b;split at b
   . rename_i C e;simp only[aVL,aUI]at b;exact⟨C,eV e,aZF Xi G (eV e),b.1,b.2.1,b.2.2⟩
   . cases b
 . have b:=aWI.mp b7 c hc;unfold isoB at b;split at b
   . rename_i C e;rw[aVL]at b;refine⟨C,aZF Xi G (eV e),λt ht=>aUI.mp (aWI.mp b.1 t ht),λi hi=>?_⟩;have b:=aWI.mp b.2 i hi;split at b
     . rename_i C' e';unfold clB at b;simp only[aVL,aUI]at b;obtain⟨c1,⟨c2,c3,c4,c5⟩,c6⟩:=b;exact⟨C',eV e',aA2 c1,c2,c3,c4,c5,c6⟩
     . cases b
   . cases b
 . have b:=aWI.mp b12 c hc;unfold rzB at b;split at b
   . rename_i C e;exact⟨C,aZF Xi G (eV e),b⟩
   . cases b
 . have b:=aWI.mp b13 n hn;cases e:cvB K n with
   |none=>rw[e]at b;cases b
   |some cv=>exact⟨cv,aA4 Xi G e⟩
end
noncomputable def t7(K:Fg)(g:MG)(t:TB):Bool:=gfB K g t&&W.nsIn K mainGlobals "law" == some (some (.ref (faK K "law")))
theorem aBA{x:Str}{d:FD}:∀{l:List (Str×FD)},l.lookup x=some d->(x,d)∈l
 |[],e=>by cases e
 |(y,b)::l,e=>by
  rw[aV8]at e;split at e
  . rename_i hb;cases e;rw[<- aUI.mp hb];exact mcs
  . exact mcm (aBA e)
noncomputable def noT(g:MG):Bool:=g.G.all λx=>match x.2 with|.con (.t _)=>false|_=>true
def aQM{g:MG}{K:Params->Fg}(b:noT g=true)(w:aZQ)(mg:SOV)(h:Heap)(_:(K w.params).In h)(_:h.Ns mainGlobals mg)(x:Str)(tb:List (Str×Str))(hm:(x,GV.con (.t tb))∈g.G):kD w (K w.params) mg x tb:=by have:=aWI.mp b _ hm;cases this
def walkG{l:W.OpenLaw}{q:aZR}{d:DefRec}{K Kf:Params->Fg}{g:MG}{t:TB}{kk:Nat}{x:Str}{e:FD}(hn:l.most=some 63)(hdf:d.params.defaults=[])(hdn:d.name="law")(hY:∀(w:World) (h:Heap),YP w h->(Kf w.params).In h)(sub:∀P b o,(K P).lookup b=some o->(Kf P).lookup b=some o)(nd:∀P b o,(b,o)∈K P->(K P).lookup b=some o)(tb:∀P,pK (K P) (Kf P)=true)(b:∀P,t7 (K P) g t=true)(ht:∀(w:World) (mg:SOV) (h:Heap),(K w.params).In h->h.Ns mainGlobals mg->∀x tb,(x,GV.con (.t tb))∈g.G->kD w (K w.params) mg x tb)(hT:t.T.lookup ("law":Str)=some e)(hps:e.ps=[x])(hr:bD (kk+1) callerA)(main:∀ns:List Int,ns.length<=63->(WT t (kk+1)).Φ "law" (n8 ns)=.ok .fz (.bl true)):W.WalkO q loose XP YP l.row.toRowW d [] (λf vs=>PySem.call f vs):=by
 refine aQL (K:=K) (Kf:=Kf) (n:=63) (k:=kk+1) (x:=x) (CX:=λw=>CX1 l.prog w) (sp:=λw=>tN (K w.params) ((WT t (kk+1)).Φ ("law":Str))) hn (by decide) hdf hr hY sub nd tb (λw mg fa h KX G hmg=>?_)
  (λ_ _ a ns hl hS=>⟨a,ns,rfl,hS,main ns hl,λ_=>rfl⟩) λ_ _ _ _ _ z=>by obtain⟨_,_,_,_,_,_,_,_,_,_,z⟩:=z;exact z
 have b:=b w.params;unfold t7 at b;rw[aVL,aUI]at b;have f:=gf_of (w:=w) KX G b.1 (ht w mg h KX G);have e1:=aZF KX G b.2;rw[hdn,e1]at hmg;cases hmg;have b3:t.T.all (λx=>kX (K w.params) (if x.1 == "law" then some "law" else none) x.1 (faK (K w.params) x.1) x.2.ps (λst=>jN g x.1 st x.2))=true:=by have:=b.1;unfold gfB at this;simp only[aVL]at this;exact this.2.2.1
 obtain⟨name,st,fd,F,hb,ok,hnm,bp⟩:=tY (aWI.mp b3 (("law":Str),e) (aBA hT));have hnm:name="law" := hnm.symm;subst hnm;refine⟨fd,λs u=>.of_eq ?_,λbase _ _=>?_⟩
 . have:=bp [u] (by rw[hps];rfl)
   rw[hps]at this;exact this
 . have:=aP2 (P:=l.prog) (base:=base) f kk F hT ok (by rw[hps];rfl)
   rw[hps]at this;exact this
end D3
namespace Tp
open PySem.W PySem.Calls
theorem KK_look(l:List Stmt)(P:Params)(b:Addr):∀as:List Addr,(KK l as P).lookup b=if b∈as then some (((lay P l (sA P)).bt.get b).getD default)else none
 |[]=>rfl
 |a::as=>by
  show((a,((lay P l (sA P)).bt.get a).getD default)::KK l as P).lookup b=_;rw[aV8,KK_look l P b as];by_cases h:b=a
  . subst h;simp
  . have:(b==a)=false:=aTG.mpr h;rw[this];simp[h]
def KK_sub(l:List Stmt)(as ts:List Addr)(P:Params)(b:Addr)(o:Obj)(h:(KK l as P).lookup b=some o):(KK l (as++ts) P).lookup b=some o:=by
 rw[KK_look]at h ⊢;split at h
 . rename_i hb;rw[if_pos (aTV _ hb)];exact h
 . cases h
def KK_nd(l:List Stmt)(as:List Addr)(P:Params)(b:Addr)(o:Obj)(h:(b,o)∈KK l as P):(KK l as P).lookup b=some o:=by rw[KK_look];unfold KK at h;obtain⟨a,ha,e⟩:=aY7.mp h;cases e;rw[if_pos ha]
def left{p:aZR}{r:OpenRow}{l:List Stmt}{as:List Addr}{c':Code}(hl:behindTheImports p=l)(pre:∀(w:aZQ) (os:OsState),topGo treeTable p w 11 an 12 ⟨boot_heap w.params,#[],boot_drawn,boot_toks,os⟩ (topStub p)=some ((sh w.params (sA w.params) 15 187 os).abs,⟨denote treeTable (cd p),cd p,z0,[topFrame z0]⟩))(blk:∀(w:aZQ) (s:aZO),segRun treeTable p w 11 an 1 1 s (blockOf l (ev p) (cd p) z0 [topFrame z0])=some (.next,s,cd p,z0))(run:∀(w:aZQ) (os:OsState),go treeTable p w 1000 l (sh w.params (sA w.params) 15 187 os) (cd p) z0=some (sh w.params (lay w.params l (sA w.params)) n k os,c',q'))(le:Nat.ble (12+(1+ns 1000 2 l)) 1000000=true)(e1:opening p=plainProg p.main.scope.names)(e2:∀s,fenceModules? p s=some s)(uZ:∀w:aZQ,(λos=>((staticsOk (importedModules p.main.body) (boot_heap w.params) (H1 l n w.params)&&namesBound p (H1 l n w.params)&&gensDone (S1 l n k w.params os)&&laidKept (boot_heap w.params) (H1 l n w.params)),openSeen (vw p) (los l) (importedModules p.main.body) (xt r) true (S1 l n k w.params os),(hk l as).obs (S1 l n k w.params os)))=λ_=>(true,openGood (vw p) (los l),(hk l as).val w)):LeftO p (vw p) (los l) (xt r) (hk l as).obs (hk l as).val 1000000 :=
 LeftO.of_pieces (H₀:=boot_heap) (H₁:=H1 l n) (m₀:=11) (ann:=an) (boot_open e1 rfl e2) size1 (run_of hl pre blk run) le uZ
def head{p:OpenLaw}{l:List Stmt}{as:List Addr}{d:DefRec}(left:LeftO p.prog (vw p.prog) (los l) (xt p.row) (hk l as).obs (hk l as).val 1000000)(said:p.row.wellSaid=true)(h1:defOf (vw p.prog) p.name=some (d,[]))(h2:p.prog.theDef p.name=some (d.params,d.body,d.scope))(h3:kwWritten? d.params.kwonlyargs d.params.kw_defaults=some [])(h4:(!p.row.writes||p.row.records.isEmpty)=true)(ok:(chainsOk (vw p.prog)&&opensWell p.prog&&(frees p.row.toRowW&&p.row.within.isEmpty))=true)(hb:p.prog.bare)(hw:p.row.toRowW.promised)(call:WalkO (vw p.prog) (los l) (XL (vw p.prog) []) (hk l as).says p.row.toRowW d [] λf vs=>PySem.call f vs):p.row.Holds :=
 holds_open (r:=p.row) (XP:=XL (vw p.prog) []) (YP:=(hk l as).says) left (hk l as).of (hk l as).keeps (λs e=>xl_of s (Bool.and_eq_true_iff.mp e).1) XL.keeps h1 h2 h3
  (λs e=>recFacts_of (Bool.and_eq_true_iff.mp e).2) h4 said ok hb hw call
end Tp
namespace D3
open PySem.Calls
end D3
namespace K31
open D3
abbrev n1:E:=.int 1
abbrev n0:E:=.int 0
abbrev n2:E:=.int 2
abbrev n5:E:=.int 5
abbrev n3:E:=.int 3
abbrev n4:E:=.int 4
abbrev n10:E:=.int 10
abbrev n50:E:=.int 50
abbrev sf(d:D):Option (Bool×D):=some (false,d)
abbrev si(i:Int):Option (Bool×D):=some (false,.int i)
noncomputable abbrev v0:E:=.var 0
noncomputable abbrev v1:E:=.var 1
noncomputable abbrev v2:E:=.var 2
abbrev v3:E:=.var 3
abbrev v4:E:=.var 4
abbrev v5:E:=.var 5
abbrev v6:E:=.var 6
abbrev v7:E:=.var 7
abbrev v8:E:=.var 8
abbrev v9:E:=.var 9
abbrev v10:E:=.var 10
abbrev v11:E:=.var 11
abbrev v12:E:=.var 12
abbrev v13:E:=.var 13
abbrev v14:E:=.var 14
abbrev v15:E:=.var 15
abbrev v16:E:=.var 16
abbrev v17:E:=.var 17
abbrev v18:E:=.var 18
abbrev v19:E:=.var 19
abbrev v20:E:=.var 20
def pM:List D3.S:=[.setC 3 false (.comp (.meth v0 "plus" [(.ix v1 v2),(.ix v1 (.bin .Add v2 n1))]) (.rng3 n0 (.bin .Sub (.bcall .len [v2]) n1) n2) [] [0,2] (.nm 2) 1),.ite (.cmp .Eq (.bin .Mod (.bcall .len [v2]) n2) n1) [.app 3 (.ix v2 (.neg n1))] [],.frzV 3,.set 2 v3]
def m7:List D3.S:=[.ite (.cmp .NotEq (.bcall .len [v3]) (.bcall .len [v1])) [.never] [],.ite (.not (.tru (.meth v0 "holds" [v4]))) [.never] []]
def pN:List D3.S:=[.ite (.not (.tru (.call "is_name" 1 [v2]))) [.never] [],.expr (.call "refuse_twice" 2 [v0,v1])]
def iS:List D3.S:=[.set 9 (.ix (.lst [(.int 26),(.int 36)]) (.tcall .int [(.cmp .Gt v8 n0)])),.set 10 (.frz (.bin .FloorDiv (.bin .FloorDiv v0 (.int 7)) (.bin .Add v8 n1))),.ite (.cmp .Eq v8 v4) [.set 10 (.frz (.bin .Add (.bin .FloorDiv v0 (.int 240)) (.bin .Mult n5 v6)))] [],.set 7 (.frz (.bin .Add v7 (.ix v2 (.bin .Mod v10 v9))))]
def dR:List D3.S:=[.set 7 (.str ""),.for (.rng1 v3) (.nm 8) iS,.app 5 (.ix (.lst [v7,(.frz (.slice v7 none (some (.bin .Add v4 n1))))]) (.tcall .int [(.andL [(.cmp .Eq (.bin .Mod (.bin .FloorDiv v0 n5) n3) n1),(.cmp .Eq (.bin .Mod v6 n2) n1)])]))]
def kY:List D3.S:=[.ite (.not (.tru (.call "_law_alike" 2 [(.ix v0 v2),(.ix v1 v2)]))) [.ret (.bl false)] []]
def iT:List D3.S:=[.ite (.tru (.bcall .isinstance [v2,(.ty .str)])) [.app 1 (.tup [n1,n0,v2])] [.app 1 (.tup [n0,v2,(.str "")])]]
def kZ:List D3.S:=[.set 14 (.frz (.tcall .tuple [(.comp (.ix v0 (.bin .Mod (.bin .FloorDiv v1 (.ix (.lst [n1,n4,(.int 16),(.int 64),(.int 256),(.int 1024)]) v2)) n4)) (.rng1 v3) [] [9,13] (.nm 2) 1)])),.set 15 (.frz (.call "_law_note" 4 [v2,v4,v8,(.frz (.bin .FloorDiv v13 (.ix (.lst [(.int 64),(.int 4096)]) (.tcall .int [(.cmp .Gt v3 n3)]))))])),.app 11 (.tup [v14,v15]),.nput 12 v14 (.call "_law_sum" 4 [v2,v4,(.frz (.nget v12 v14 v6)),v15])]
def pO:List D3.S:=[.ret (.andL [(.bcall .isinstance [v0,(.ty .int)]),(.not (.bcall .isinstance [v0,(.ty .bool)]))])]
def m8:List D3.S:=[.ite (.not (.tru (.bcall .isinstance [v0,(.ty .str)]))) [.ret (.bl false)] [],.ite (.orL [(.cmp .Lt (.bcall .len [v0]) n1),(.cmp .Gt (.bcall .len [v0]) (.glob "LONGEST" (.i 40)))]) [.ret (.bl false)] [],.ret (.andL [(.cmp .In (.ix v0 n0) (.glob "LETTERS" (.s "abcdefghijklmnopqrstuvwxyz"))),(.bcall .all [(.comp (.call "is_name_sign" 1 [v0]) (.items v0) [] [] (.nm 0) 1)])])]
def pP:List D3.S:=[.ret (.orL [(.cmp .In v0 (.glob "LETTERS" (.s "abcdefghijklmnopqrstuvwxyz"))),(.cmp .In v0 (.glob "FIGURES" (.s "0123456789")))])]
def pQ:List D3.S:=[.ite (.orL [(.not (.tru (.bcall .isinstance [v0,(.ty .tuple)]))),(.not (.tru (.bcall .all [(.comp (.call "is_name" 1 [v0]) (.items v0) [] [] (.nm 0) 1)])))]) [.ret (.bl false)] [],.ret (.call "is_rising" 1 [v0])]
def pR:List D3.S:=[.ret (.bcall .all [(.comp (.cmp .Lt (.ix v0 v1) (.ix v0 (.bin .Add v1 n1))) (.rng1 (.bin .Sub (.bcall .len [v0]) n1)) [] [0] (.nm 1) 1)])]
def pS:List D3.S:=[.ret (.tcall .tuple [(.usort v0 v1)])]
def pT:List D3.S:=[.ite (.cmp .Eq (.bcall .len [v1]) n0) [.ret (.meth v0 "nought" [])] [],.set 2 (.frz (.tcall .list [v1])),.whl 1000000 (.cmp .Gt (.bcall .len [v2]) n1) pM,.ret (.ix v2 n0)]
def pU:List D3.S:=[.setC 2 true (.comp (.tup [v2,(.frz (.call "poured" 2 [v0,(.nix v1 v2)]))]) (.nkeys v1) [] [0,1] (.nm 2) 1),.ret (.call "without_noughts" 2 [v0,v2])]
def pV:List D3.S:=[.set 2 (.frz (.meth v0 "nought" [])),.ret (.comp (.tup [v1,v2]) (.items v1) [(.cmp .NotEq v2 v0)] [2] (.tp [(.nm 1),(.nm 2)]) 2)]
def k4:List D3.S:=[.ite (.tru (.call "is_whole" 1 [v0])) [.ret (.tup [n0,v0,(.str "")])] [],.ret (.tup [n1,n0,v0])]
def pW:List D3.S:=[.ret (.comp (.call "rank" 1 [v0]) (.items v0) [] [] (.nm 0) 1)]
def pX:List D3.S:=[.expr (.call "refuse_columns" 1 [v1]),.for (.items v2) (.tp [(.nm 3),(.nm 4)]) m7,.ret (.tup [(.frz (.tcall .tuple [v1])),(.frz (.call "gathered" 2 [v0,v2]))])]
def pY:List D3.S:=[.grp 2 (.for (.items v1) (.tp [(.nm 3),(.nm 4)]) (.app v3 v4)),.nfrz 2,.ret (.tcall .tuple [(.srtl (.call "poured_groups" 2 [v0,v2]) (.call "rank_of_row" 1 [(.ix v0 n0)]))])]
def pZ:List D3.S:=[.for (.enum1 v0) (.tp [(.nm 1),(.nm 2)]) pN]
def qA:List D3.S:=[.ite (.cmp .In (.ix v0 v1) (.slice v0 none (some v1))) [.never] []]
def m9:List D3.S:=[.ite (.cmp .Lt v1 (.bcall .len [v0])) [.ret (.ix v0 v1)] [],.ret n0]
def gE:List D3.S:=[.set 2 (.str "abcdefghijklmnopqrstuvwxyz0123456789"),.set 3 (.ix (.lst [n1,n2,n3,n5,(.int 8),(.int 40)]) (.bin .Mod v0 (.int 6))),.set 4 (.frz (.bin .Mod (.bin .FloorDiv v0 (.int 6)) v3)),.set 5 (.lst []),.for (.rng1 v1) (.nm 6) dR,.retV 5]
def bX:List D3.S:=[.ite (.cmp .Is v1 .non) [.ret (.cmp .Is v0 .non)] [],.ite (.tru (.bcall .isinstance [v1,(.ty .bool)])) [.ret (.andL [(.bcall .isinstance [v0,(.ty .bool)]),(.cmp .Eq v0 v1)])] [],.ite (.tru (.bcall .isinstance [v1,(.ty .int)])) [.ret (.andL [(.bcall .isinstance [v0,(.ty .int)]),(.not (.bcall .isinstance [v0,(.ty .bool)])),(.cmp .Eq v0 v1)])] [],.ite (.tru (.bcall .isinstance [v1,(.ty .str)])) [.ret (.andL [(.bcall .isinstance [v0,(.ty .str)]),(.cmp .Eq v0 v1)])] [],.ite (.tru (.bcall .isinstance [v1,(.ty .list)])) [.ite (.orL [(.not (.tru (.bcall .isinstance [v0,(.ty .list)]))),(.cmp .NotEq (.bcall .len [v0]) (.bcall .len [v1]))]) [.ret (.bl false)] []] [.ite (.orL [(.not (.tru (.bcall .isinstance [v0,(.ty .tuple)]))),(.cmp .NotEq (.bcall .len [v0]) (.bcall .len [v1]))]) [.ret (.bl false)] []],.for (.rng1 (.bcall .len [v1])) (.nm 2) kY,.ret (.bl true)]
def gG:List D3.S:=[.set 1 (.frz (.bin .Add (.bin .Mod v0 (.bin .Pow n10 n50)) n10)),.ite (.cmp .Eq (.bin .Mod (.bin .FloorDiv v0 n3) n2) n1) [.set 1 (.neg v1)] [],.set 2 (.frz (.lst [(.str ""),(.str "a"),(.str "Z z"),(.str "0"),(.str "b2c~")])),.set 3 (.ix v2 (.bin .Mod (.bin .FloorDiv v0 (.int 42)) n5)),.ret (.lst [v1,(.frz (.bin .Sub (.bin .Mod (.bin .FloorDiv v0 (.int 6)) (.int 7)) n2)),v3,(.frz (.bin .Add v3 (.str "a")))])]
def qB:List D3.S:=[.set 1 (.lst []),.for (.items v0) (.nm 2) iT,.retV 1]
def hW:List D3.S:=[.ite (.cmp .Eq v0 n0) [.ret (.ix (.lst [n0,n1,(.frz (.bin .Mod (.bin .FloorDiv v3 n4) n3)),(.frz (.bin .Mod (.bin .FloorDiv v3 n4) (.bin .Pow n10 n50)))]) (.bin .Mod v3 n4))] [],.ite (.cmp .Eq v0 n1) [.ret (.cmp .Gt (.bin .Mod v3 n3) n0)] [],.ite (.cmp .Eq v0 n2) [.ret (.ix (.lst [.non,(.frz (.bin .Sub (.bin .Mod (.bin .FloorDiv v3 n4) (.int 7)) n3)),(.frz (.bin .Sub (.bin .Mod (.bin .FloorDiv v3 n4) (.bin .Mult n2 (.bin .Pow n10 n50))) (.bin .Pow n10 n50))),n0]) (.bin .Mod v3 n4))] [],.ite (.cmp .Eq v0 n3) [.ret (.bin .Mod v3 v1)] [],.ite (.cmp .Eq (.bin .Mod v3 n5) n0) [.ret .non] [],.ret (.tcall .tuple [(.comp (.ix v0 v2) (.rng1 n3) [(.cmp .Eq (.bin .Mod (.bin .FloorDiv (.bin .FloorDiv v1 n5) (.ix (.lst [n1,n2,n4]) v2)) n2) n1)] [2,3] (.nm 2) 1)])]
def eW:List D3.S:=[.ite (.cmp .Eq v0 n0) [.ret (.bin .Add v2 v3)] [],.ite (.cmp .Eq v0 n1) [.ret (.orL [v2,v3])] [],.ite (.cmp .Eq v0 n3) [.ret (.bin .Mod (.bin .Add v2 v3) v1)] [],.ite (.cmp .Is v2 .non) [.retV 3] [],.ite (.cmp .Is v3 .non) [.retV 2] [],.ite (.cmp .Eq v0 n2) [.ret (.bcall .min [v2,v3])] [],.ret (.tcall .tuple [(.usi (.bin .Add v2 v3))])]
def fG:List D3.S:=[.set 1 (.frz (.call "_law_cell_at" 2 [v0,n0])),.set 2 (.frz (.bin .Mod v1 n5)),.set 3 (.frz (.bin .Mod (.bin .FloorDiv v1 n5) (.int 7))),.set 4 (.frz (.bin .Add n2 (.bin .Mod (.bin .FloorDiv v1 (.int 35)) (.int 9)))),.set 5 (.ix (.lst [(.frz (.mk0 "Counts")),(.frz (.mk0 "Truth")),(.frz (.mk0 "Costs")),(.frz (.make "Wheel" "Wheel.__init__" 1 [v4])),(.frz (.mk0 "Voices"))]) v2),.set 6 (.ix (.lst [n0,(.bl false),.non,n0,.non]) v2),.set 7 (.frz (.call "_law_names" 2 [(.frz (.call "_law_cell_at" 2 [v0,n1])),(.int 6)])),.set 8 (.frz (.srtw (.slice v7 (some n3) none))),.set 9 (.frz (.call "_law_pool" 1 [(.frz (.call "_law_cell_at" 2 [v0,n2]))])),.set 10 (.frz (.slice v7 none (some v3))),.set 11 (.lst []),.set 12 .nnew,.for (.items (.slice v0 (some n3) (some (.int 203)))) (.nm 13) kZ,.frzV 11,.nfrz 12,.set 16 (.frz (.srtf "_law_ranked" (.comp v2 (.nkeys v12) [(.cmp .NotEq (.nix v1 v2) v0)] [6,12] (.nm 2) 1))),.set 17 (.tup [(.frz (.tcall .tuple [v10])),(.frz (.tcall .tuple [(.comp (.tup [v1,(.nix v0 v1)]) (.items v16) [] [12] (.nm 1) 1)]))]),.set 18 (.frz (.tcall .list [v11])),.set 19 (.frz (.tcall .list [v10])),.set 20 (.frz (.call "table" 3 [v5,v19,v18])),.ite (.orL [(.not (.tru (.call "_law_alike" 2 [v20,v17]))),(.cmp .NotEq v18 v11),(.cmp .NotEq v19 v10)]) [.ret (.bl false)] [],.ret (.call "_law_alike" 2 [(.frz (.call "table" 3 [v5,(.frz (.tcall .tuple [v10])),(.frz (.tcall .tuple [v11]))])),v17])]
def t8:List D3.S:=[.ret n0]
def t9:List D3.S:=[.ret (.bin .Add v1 v2)]
def uA:List D3.S:=[.ret (.andL [(.call "is_whole" 1 [v1]),(.cmp .GtE v1 n0)])]
def uB:List D3.S:=[.ret (.bl false)]
def uC:List D3.S:=[.ret (.orL [v1,v2])]
def uD:List D3.S:=[.ret (.bcall .isinstance [v1,(.ty .bool)])]
def uE:List D3.S:=[.ret .non]
def nA:List D3.S:=[.ite (.cmp .Is v1 .non) [.retV 2] [],.ite (.cmp .Is v2 .non) [.retV 1] [],.ret (.bcall .min [v1,v2])]
def qC:List D3.S:=[.ret (.orL [(.cmp .Is v1 .non),(.call "is_whole" 1 [v1])])]
def uF:List D3.S:=[.ret .non]
def nB:List D3.S:=[.ite (.cmp .Is v1 .non) [.retV 2] [],.ite (.cmp .Is v2 .non) [.retV 1] [],.ret (.call "names_of_both" 2 [v1,v2])]
def qD:List D3.S:=[.ret (.orL [(.cmp .Is v1 .non),(.call "is_name_set" 1 [v1])])]
def uG:List D3.S:=[.ret n0]
def uH:List D3.S:=[.ret (.bin .Mod (.bin .Add v1 v2) (.fld v0 "size"))]
def uI:List D3.S:=[.ret (.andL [(.call "is_whole" 1 [v1]),(.chain .LtE .Lt n0 v1 (.fld v0 "size"))])]
def aBB:FD:=⟨["thing"],["thing"],pO⟩
def aBC:FD:=⟨["thing"],["thing"],m8⟩
def aBD:FD:=⟨["sign"],["sign"],pP⟩
def aBE:FD:=⟨["thing"],["thing"],pQ⟩
def aBF:FD:=⟨["things"],["things"],pR⟩
def aBG:FD:=⟨["one", "other"],["one", "other"],pS⟩
def aBH:FD:=⟨["kind", "notes"],["kind", "notes", "sums", "halves"],pT⟩
def aBI:FD:=⟨["kind", "groups"],["kind", "groups", "sums"],pU⟩
def aBJ:FD:=⟨["kind", "pairs"],["kind", "pairs", "nought"],pV⟩
def aBK:FD:=⟨["value"],["value"],k4⟩
def aBL:FD:=⟨["row"],["row"],pW⟩
def aBM:FD:=⟨["kind", "columns", "pairs"],["kind", "columns", "pairs", "row", "note"],pX⟩
def aBN:FD:=⟨["kind", "pairs"],["kind", "pairs", "groups", "row", "note"],pY⟩
def aBO:FD:=⟨["columns"],["columns", "at", "column"],pZ⟩
def aBP:FD:=⟨["columns", "at"],["columns", "at"],qA⟩
def aBQ:FD:=⟨["_law_script", "_law_k"],["_law_script", "_law_k"],m9⟩
def aBR:FD:=⟨["_law_cell", "_law_many"],["_law_cell", "_law_many", "_law_letters", "_law_size", "_law_at", "_law_names_here", "_law_k", "_law_name", "_law_j", "_law_most", "_law_drift"],gE⟩
def aBS:FD:=⟨["_law_found", "_law_due"],["_law_found", "_law_due", "_law_k"],bX⟩
def aBT:FD:=⟨["_law_cell"],["_law_cell", "_law_far", "_law_some", "_law_word"],gG⟩
def aBU:FD:=⟨["_law_row"],["_law_row", "_law_keys", "_law_value"],qB⟩
def aBV:FD:=⟨["_law_way", "_law_size", "_law_words", "_law_cell"],["_law_way", "_law_size", "_law_words", "_law_cell"],hW⟩
def aBW:FD:=⟨["_law_way", "_law_size", "_law_one", "_law_other"],["_law_way", "_law_size", "_law_one", "_law_other"],eW⟩
def uJ:FD:=⟨["_law_script"],["_law_script", "_law_head", "_law_way", "_law_width", "_law_size", "_law_kind", "_law_nought", "_law_names_here", "_law_words", "_law_pool_here", "_law_columns", "_law_pairs", "_law_notes", "_law_cell", "_law_row", "_law_note_here", "_law_rows", "_law_due", "_law_handed", "_law_heads", "_law_found"],fG⟩
def aBX:FD:=⟨["self"],["self"],t8⟩
def aBY:FD:=⟨["self", "a", "b"],["self", "a", "b"],t9⟩
def aBZ:FD:=⟨["self", "thing"],["self", "thing"],uA⟩
def aB0:FD:=⟨["self"],["self"],uB⟩
def aB1:FD:=⟨["self", "a", "b"],["self", "a", "b"],uC⟩
def aB2:FD:=⟨["self", "thing"],["self", "thing"],uD⟩
def aB3:FD:=⟨["self"],["self"],uE⟩
def aB4:FD:=⟨["self", "a", "b"],["self", "a", "b"],nA⟩
def aB5:FD:=⟨["self", "thing"],["self", "thing"],qC⟩
def aB6:FD:=⟨["self"],["self"],uF⟩
def aB7:FD:=⟨["self", "a", "b"],["self", "a", "b"],nB⟩
def aB8:FD:=⟨["self", "thing"],["self", "thing"],qD⟩
def aB9:FD:=⟨["self"],["self"],uG⟩
def aCA:FD:=⟨["self", "a", "b"],["self", "a", "b"],uH⟩
def aCB:FD:=⟨["self", "thing"],["self", "thing"],uI⟩
def nC:ID:=⟨"Wheel", ["self", "size"],["self", "size"],(.guard (.orL [(.not (.tru (.call "is_whole" 1 [v1]))),(.cmp .Lt v1 n2)]) [.never] (.fset "size" v1 .done))⟩
def aQN:CI:=⟨"Kind", ["Kind"],[],[]⟩
def aQO:CI:=⟨"Single", ["Single", "Kind"],[],[]⟩
def aQP:CI:=⟨"Counts", ["Counts", "Kind"],[],[("nought", "Counts.nought", 1),("plus", "Counts.plus", 3),("holds", "Counts.holds", 2)]⟩
def aQQ:CI:=⟨"Truth", ["Truth", "Single", "Kind"],[],[("nought", "Truth.nought", 1),("plus", "Truth.plus", 3),("holds", "Truth.holds", 2)]⟩
def aQR:CI:=⟨"Costs", ["Costs", "Single", "Kind"],[],[("nought", "Costs.nought", 1),("plus", "Costs.plus", 3),("holds", "Costs.holds", 2)]⟩
def aQS:CI:=⟨"Voices", ["Voices", "Single", "Kind"],[],[("nought", "Voices.nought", 1),("plus", "Voices.plus", 3),("holds", "Voices.holds", 2)]⟩
def aQT:CI:=⟨"Wheel", ["Wheel", "Kind"],["size"],[("nought", "Wheel.nought", 1),("plus", "Wheel.plus", 3),("holds", "Wheel.holds", 2)]⟩
abbrev pFD(s:Str)(d:FD):Str×FD:=(s,d)
abbrev pGV(s:Str)(d:GV):Str×GV:=(s,d)
def T:List (Str×FD):=[pFD "is_whole" aBB,pFD "is_name" aBC,pFD "is_name_sign" aBD,pFD "is_name_set" aBE,pFD "is_rising" aBF,pFD "names_of_both" aBG,pFD "poured" aBH,pFD "poured_groups" aBI,pFD "without_noughts" aBJ,pFD "rank" aBK,pFD "rank_of_row" aBL,pFD "table" aBM,pFD "gathered" aBN,pFD "refuse_columns" aBO,pFD "refuse_twice" aBP,pFD "_law_cell_at" aBQ,pFD "_law_names" aBR,pFD "_law_alike" aBS,pFD "_law_pool" aBT,pFD "_law_ranked" aBU,pFD "_law_note" aBV,pFD "_law_sum" aBW,pFD "law" uJ,pFD "Counts.nought" aBX,pFD "Counts.plus" aBY,pFD "Counts.holds" aBZ,pFD "Truth.nought" aB0,pFD "Truth.plus" aB1,pFD "Truth.holds" aB2,pFD "Costs.nought" aB3,pFD "Costs.plus" aB4,pFD "Costs.holds" aB5,pFD "Voices.nought" aB6,pFD "Voices.plus" aB7,pFD "Voices.holds" aB8,pFD "Wheel.nought" aB9,pFD "Wheel.plus" aCA,pFD "Wheel.holds" aCB]
def TT:TB:=⟨T,[("Wheel.__init__", nC)],[aQN,aQO,aQP,aQQ,aQR,aQS,aQT],[],[]⟩
abbrev okf(d:D):Res:=.ok .fz d
noncomputable abbrev Wk(k:Nat):WD:=WT TT k
noncomputable def GG:MG:=⟨[pGV "Costs" .cls,pGV "Counts" .cls,pGV "FIGURES" (.con (.s "0123456789")),pGV "LETTERS" (.con (.s "abcdefghijklmnopqrstuvwxyz")),pGV "LONGEST" (.con (.i 40)),pGV "Truth" .cls,pGV "Voices" .cls,pGV "Wheel" .cls,pGV "_law_alike" (.fn 2),pGV "_law_cell_at" (.fn 2),pGV "_law_names" (.fn 2),pGV "_law_note" (.fn 4),pGV "_law_pool" (.fn 1),pGV "_law_ranked" (.fn 1),pGV "_law_sum" (.fn 4),pGV "all" .no,pGV "bool" .no,pGV "enumerate" .no,pGV "gathered" (.fn 2),pGV "int" .no,pGV "is_name" (.fn 1),pGV "is_name_set" (.fn 1),pGV "is_name_sign" (.fn 1),pGV "is_rising" (.fn 1),pGV "is_whole" (.fn 1),pGV "isinstance" .no,pGV "len" .no,pGV "list" .no,pGV "min" .no,pGV "names_of_both" (.fn 2),pGV "poured" (.fn 2),pGV "poured_groups" (.fn 2),pGV "range" .no,pGV "rank" (.fn 1),pGV "rank_of_row" (.fn 1),pGV "refuse_columns" (.fn 1),pGV "refuse_twice" (.fn 2),pGV "set" .no,pGV "sorted" .no,pGV "str" .no,pGV "table" (.fn 3),pGV "tuple" .no,pGV "without_noughts" (.fn 2)],["Counts", "Truth", "Costs", "Voices"],[("Wheel", "Wheel.__init__", 1)],[],[],[]⟩
def top(i:Nat):Stmt:=aZS.main.body.getD i (.Pass ⟨0,0,0,0⟩)
abbrev uK:Stmt:=top 43
def aQU(k:Nat):(Wk (k+1)).Φ "is_whole" = phi 1 1 (evB (Wk k) pO):=bA (d:=aBB) rfl
def aQV(k:Nat):(Wk (k+1)).Φ "is_name" = phi 1 1 (evB (Wk k) m8):=bA (d:=aBC) rfl
def aQW(k:Nat):(Wk (k+1)).Φ "is_name_sign" = phi 1 1 (evB (Wk k) pP):=bA (d:=aBD) rfl
def aQX(k:Nat):(Wk (k+1)).Φ "is_name_set" = phi 1 1 (evB (Wk k) pQ):=bA (d:=aBE) rfl
def aQY(k:Nat):(Wk (k+1)).Φ "is_rising" = phi 1 1 (evB (Wk k) pR):=bA (d:=aBF) rfl
def aQZ(k:Nat):(Wk (k+1)).Φ "names_of_both" = phi 2 2 (evB (Wk k) pS):=bA (d:=aBG) rfl
def aQ0(k:Nat):(Wk (k+1)).Φ "poured" = phi 2 4 (evB (Wk k) pT):=bA (d:=aBH) rfl
def aQ1(k:Nat):(Wk (k+1)).Φ "poured_groups" = phi 2 3 (evB (Wk k) pU):=bA (d:=aBI) rfl
def aQ2(k:Nat):(Wk (k+1)).Φ "without_noughts" = phi 2 3 (evB (Wk k) pV):=bA (d:=aBJ) rfl
def aQ3(k:Nat):(Wk (k+1)).Φ "rank" = phi 1 1 (evB (Wk k) k4):=bA (d:=aBK) rfl
def aQ4(k:Nat):(Wk (k+1)).Φ "rank_of_row" = phi 1 1 (evB (Wk k) pW):=bA (d:=aBL) rfl
def aQ5(k:Nat):(Wk (k+1)).Φ "table" = phi 3 5 (evB (Wk k) pX):=bA (d:=aBM) rfl
def aQ6(k:Nat):(Wk (k+1)).Φ "gathered" = phi 2 5 (evB (Wk k) pY):=bA (d:=aBN) rfl
def aQ7(k:Nat):(Wk (k+1)).Φ "refuse_columns" = phi 1 3 (evB (Wk k) pZ):=bA (d:=aBO) rfl
def aQ8(k:Nat):(Wk (k+1)).Φ "refuse_twice" = phi 2 2 (evB (Wk k) qA):=bA (d:=aBP) rfl
def aQ9(k:Nat):(Wk (k+1)).Φ "_law_cell_at" = phi 2 2 (evB (Wk k) m9):=bA (d:=aBQ) rfl
def aRA(k:Nat):(Wk (k+1)).Φ "_law_names" = phi 2 11 (evB (Wk k) gE):=bA (d:=aBR) rfl
def nE(k:Nat):(Wk (k+1)).Φ "_law_alike" = phi 2 3 (evB (Wk k) bX):=bA (d:=aBS) rfl
def aRB(k:Nat):(Wk (k+1)).Φ "_law_pool" = phi 1 4 (evB (Wk k) gG):=bA (d:=aBT) rfl
def aRC(k:Nat):(Wk (k+1)).Φ "_law_ranked" = phi 1 3 (evB (Wk k) qB):=bA (d:=aBU) rfl
def aRD(k:Nat):(Wk (k+1)).Φ "_law_note" = phi 4 4 (evB (Wk k) hW):=bA (d:=aBV) rfl
def aRE(k:Nat):(Wk (k+1)).Φ "_law_sum" = phi 4 4 (evB (Wk k) eW):=bA (d:=aBW) rfl
def u_law(k:Nat):(Wk (k+1)).Φ "law" = phi 1 21 (evB (Wk k) fG):=bA (d:=uJ) rfl
def aRF(k:Nat):(Wk (k+1)).Φ "Counts.nought" = phi 1 1 (evB (Wk k) t8):=bA (d:=aBX) rfl
def aRG(k:Nat):(Wk (k+1)).Φ "Counts.plus" = phi 3 3 (evB (Wk k) t9):=bA (d:=aBY) rfl
def aRH(k:Nat):(Wk (k+1)).Φ "Counts.holds" = phi 2 2 (evB (Wk k) uA):=bA (d:=aBZ) rfl
def aRI(k:Nat):(Wk (k+1)).Φ "Truth.nought" = phi 1 1 (evB (Wk k) uB):=bA (d:=aB0) rfl
def aRJ(k:Nat):(Wk (k+1)).Φ "Truth.plus" = phi 3 3 (evB (Wk k) uC):=bA (d:=aB1) rfl
def aRK(k:Nat):(Wk (k+1)).Φ "Truth.holds" = phi 2 2 (evB (Wk k) uD):=bA (d:=aB2) rfl
def aRL(k:Nat):(Wk (k+1)).Φ "Costs.nought" = phi 1 1 (evB (Wk k) uE):=bA (d:=aB3) rfl
def aRM(k:Nat):(Wk (k+1)).Φ "Costs.plus" = phi 3 3 (evB (Wk k) nA):=bA (d:=aB4) rfl
def aRN(k:Nat):(Wk (k+1)).Φ "Costs.holds" = phi 2 2 (evB (Wk k) qC):=bA (d:=aB5) rfl
def aRO(k:Nat):(Wk (k+1)).Φ "Voices.nought" = phi 1 1 (evB (Wk k) uF):=bA (d:=aB6) rfl
def aRP(k:Nat):(Wk (k+1)).Φ "Voices.plus" = phi 3 3 (evB (Wk k) nB):=bA (d:=aB7) rfl
def aRQ(k:Nat):(Wk (k+1)).Φ "Voices.holds" = phi 2 2 (evB (Wk k) qD):=bA (d:=aB8) rfl
def aRR(k:Nat):(Wk (k+1)).Φ "Wheel.nought" = phi 1 1 (evB (Wk k) uG):=bA (d:=aB9) rfl
def aRS(k:Nat):(Wk (k+1)).Φ "Wheel.plus" = phi 3 3 (evB (Wk k) uH):=bA (d:=aCA) rfl
def aRT(k:Nat):(Wk (k+1)).Φ "Wheel.holds" = phi 2 2 (evB (Wk k) uI):=bA (d:=aCB) rfl
def aRU(k:Nat):(Wk (k+2)).I "Wheel.__init__" = some (iO (Wk k) nC):=rfl
def bP{m:Md}{i:Int}{d:D}(h:atI ds i=some d):op2 ixD (.ok m (.lst ds)) (.ok m' (.int i))=okf d:=cC (by show(atI ds i).map _=_;rw[h];rfl)
def qE{m:Md}{i:Int}{d:D}(h:atI ds i=some d):op2 ixD (.ok m (.tup ds)) (.ok m' (.int i))=okf d:=cC (by show(atI ds i).map _=_;rw[h];rfl)
def nF(xs:List α)(v:Int)(n:Int)(hn:n=xs.length)(h:0<n):∃c,c∈xs/\atI xs (v % n)=some c:=by
 have h0:=aX4 v (show n≠0 by omega)
 have h1:=aX3 v h;obtain⟨j,hj⟩:=aZG h0;have hl:j<xs.length:=by omega
 exact⟨xs[j],aWM hl,by rw[hj];exact cG (aWL hl)⟩
theorem aCC:∀(ds:List D),eC (ds.map λ_=>D.bl true)=some (ds.map λ_=>true)
 |[]=>rfl
 |d::ds=>by show eC (.bl true::ds.map λ_=>.bl true)=_;simp only[eC,aCC ds];rfl
def aRV{m:Md}(ds:List D):jB [(m,.lst (ds.map λ_=>D.bl true))]=some (.fz,.bl true):=by
 show(eC (ds.map λ_=>D.bl true)).map _=_;rw[aCC];show some (Md.fz,D.bl ((ds.map λ_=>true).all id))=_;have:(ds.map λ_=>true).all id=true:=by simp
 rw[this]
inductive Pl:Nat->D->Prop where
 |non {n:_}:Pl n .non
 |bl {n:_} (b:Bool):Pl n (.bl b)
 |int {n:_} (i:Int):Pl n (.int i)
 |str {n:_} (s:Str):Pl n (.str s)
 |tup {n:_}{ds:List D} (h:∀d∈ds,Pl n d) (hl:ds.length<=999):Pl (n+1) (.tup ds)
def Pl.mono{d:D}(h:Pl n d):∀{n':Nat},n<=n'->Pl n' d:=by
 induction h with
 |non=>intro _ _;exact .non
 |bl b=>intro _ _;exact .bl b
 |int b=>intro _ _;exact .int b
 |str b=>intro _ _;exact .str b
 |tup _ hl ih =>
  intro n' hn;cases n' with
  |zero=>omega
  |succ n'=>exact .tup (λd hd=>ih d hd (by omega)) hl
def pl2{x y:D}(h1:Pl n x)(h2:Pl n y):Pl (n+1) (.tup [x,y]):=.tup (λd hd=>by
 simp only[aTT,aX2,aXL]at hd;rcases hd with rfl|rfl
 . exact h1
 . exact h2) (show 2<=999 by decide)
theorem uL:∀{n:Nat} (ds:List D),(∀d∈ds,∃p,aS d=some p/\p.depth<=n)->∃ps,cQ ds=some ps/\PyData.depthAll ps<=n
 |n,[],_=>⟨[],by simp[cQ],by simp[PyData.depthAll]⟩
 |n,d::ds,h=>by obtain⟨p,e,l⟩:=h d mcs;obtain⟨ps,e2,l2⟩:=uL ds λx hx=>h x (mcm hx);exact⟨p::ps,by simp[cQ,e,e2],by simp only[PyData.depthAll];omega⟩
def uM{d:D}(h:Pl n d):∃p,aS d=some p/\p.depth<=n:=by
 induction h with
 |non=>exact⟨.none,by simp[aS],by simp[PyData.depth]⟩
 |bl b=>exact⟨.bool b,by simp[aS],by simp[PyData.depth]⟩
 |int b=>exact⟨.int b,by simp[aS],by simp[PyData.depth]⟩
 |str b=>exact⟨.str b,by simp[aS],by simp[PyData.depth]⟩
 | @tup n ds h hl ih=>obtain⟨ps,e,l⟩:=uL ds ih;exact⟨.tuple ps,by simp[aS,e],by simp only[PyData.depth];omega⟩
def eqB(x y:D):Bool:=match aS x,aS y with
 |some p,some q=>PyData.eqv p q
 |_,_=>false
def aRW{x y:D}{m:Md}(hx:Pl n x)(hy:Pl n y)(hn:n<=50):eqF neg m x m' y=some (.fz,.bl (if neg then !eqB x y else eqB x y)):=by obtain⟨p,ep,lp⟩:=uM hx;obtain⟨q,eq,lq⟩:=uM hy;unfold eqF eqB;rw[ep,eq];dsimp only;rw[if_pos (by unfold jD;rw[aVL,aV9,aV9];omega)]
def aCD{x y:D}{m:Md}(hx:Pl n x)(hy:Pl n y)(hn:n<=50):op2 (aW .NotEq) (.ok m x) (.ok m' y)=okf (.bl (!eqB x y)):=cC (by
 show orO (eqF true) _ m x m' y=_;unfold orO;rw[aRW hx hy hn];rfl)
def aCE{xs:List (Md×D)}{d:D}(hl:ds.length=n)(ha:cP xs=some ds)(h:Φ ds=.ok .fr d):aO n Φ (.ok xs)=.ok .fr d:=by
 show(match cP xs with|some ds=>if ds.length=n then(match Φ ds with|.ok .bo _=>Res.stuck|r=>r)else .stuck|none=>.stuck)=_
 rw[ha];show(if ds.length=n then _ else _)=_;rw[if_pos hl,h]
def aCF{a d:D}(h:Φ [a]=.ok .fr d):aO 1 Φ (.ok [(.fz,a)])=.ok .fr d:=aCE (ds:=[a]) rfl rfl h
def uN{a b d:D}(h:Φ [a,b]=.ok .fr d):aO 2 Φ (.ok [(.fz,a),(.fz,b)])=.ok .fr d:=aCE (ds:=[a,b]) rfl rfl h
def qF{x y z:D}:jA (.ok [(.fz,x),(.fz,y),(.fz,z)])=okf (.tup [x,y,z]):=rfl
def cY(k:Nat){d:D}{a b:Bool}(h1:bN [(.fz,d),(.fz,.ty "int")]=some (.fz,.bl a))(h2:bN [(.fz,d),(.fz,.ty "bool")]=some (.fz,.bl b)):(Wk (k+1)).Φ "is_whole" [d]=okf (.bl (a&&!b)):=by rw[aQU];refine bK rfl ?_;show evB _ pO [sf d]=_;simp[pO,h1,h2,Ty.id]
def nG(k:Nat)(i:Int):(Wk (k+1)).Φ "is_whole" [.int i]=okf (.bl true):=cY k (d:=.int i) rfl rfl
theorem aCG{α:Type}{enc:α->D}{p:α->Bool}{g:α->D}{k:D->Rho->Option Rho}{t e:Rho->Res}{ρ0:Rho}:∀{xs:List α},(∀x∈xs,∃ρ1 m,k (enc x) ρ0=some ρ1/\t ρ1=.ok m (.bl (p x))/\(p x=true->∃m',aK (e ρ1)=.ok m' (g x)))->fA k t e ρ0 (xs.map enc)=some ((xs.filter p).map g)
 |[],_=>rfl
 |x::xs,h=>by
  obtain⟨ρ1,m,e1,e2,e3⟩:=h x mcs;have ih:=aCG λy hy=>h y (mcm hy);rw[aUK];unfold fA;rw[e1];dsimp only;rw[e2];cases q:p x with
  |true=>obtain⟨m',e3⟩:=e3 q;simp[e3,ih,List.filter_cons,q]
  |false=>simp[ih,List.filter_cons,q]
def qG{enc:α->D}(p:α->Bool)(g:α->D){k:D->Rho->Option Rho}{e:Rho->Res}{m:Md}{xs:List α}(hl:xs.length<sizeLine)(h:∀x∈xs,∃ρ1 m,k (enc x) (bZ aG ρ++List.replicate n none)=some ρ1/\t ρ1=.ok m (.bl (p x))/\(p x=true->∃m',aK (e ρ1)=.ok m' (g x))):bU (.ok m (.lst (xs.map enc))) ρ aG n k t e=.ok .fr (.lst ((xs.filter p).map g)):=by unfold bU;rw[Res.thn_ok];dsimp only;rw[if_pos (by simpa using hl),aCG h]
def jP{enc:α->D}(g:α->D){k:D->Rho->Option Rho}{e:Rho->Res}{m:Md}{xs:List α}(hl:xs.length<sizeLine)(h:∀x∈xs,∃ρ1 m,k (enc x) (bZ aG ρ++List.replicate n none)=some ρ1/\t ρ1=.ok m (.bl true)/\∃m',aK (e ρ1)=.ok m' (g x)):bU (.ok m (.lst (xs.map enc))) ρ aG n k t e=.ok .fr (.lst (xs.map g)):=by
 have:=qG (enc:=enc) (λ_=>true) g (ρ:=ρ) (aG:=aG) (n:=n) (k:=k) (t:=t) (e:=e) (m:=m) hl λx hx=>by obtain⟨ρ1,m,e1,e2,e3⟩:=h x hx;exact⟨ρ1,m,e1,e2,λ_=>e3⟩
 rw[this,List.filter_eq_self.mpr λ_ _=>rfl]
def ph1{key:Str}{b:List D3.S}{x d:D}(u:(Wk (k+1)).Φ key=phi 1 1 (evB (Wk k) b))(h:evB (Wk k) b [sf x]=.rt .fz d):aO 1 ((Wk (k+1)).Φ key) (.ok [(.fz,x)])=okf d:=eU (by rw[u];exact bK rfl h)
def ph2{key:Str}{b:List D3.S}{x y d:D}(u:(Wk (k+1)).Φ key=phi 2 2 (evB (Wk k) b))(h:evB (Wk k) b [sf x,sf y]=.rt .fz d):aO 2 ((Wk (k+1)).Φ key) (.ok [(.fz,x),(.fz,y)])=okf d:=iQ (by rw[u];exact bK rfl h)
def ph3{key:Str}{b:List D3.S}{x y z d:D}(u:(Wk (k+1)).Φ key=phi 3 3 (evB (Wk k) b))(h:evB (Wk k) b [sf x,sf y,sf z]=.rt .fz d):aO 3 ((Wk (k+1)).Φ key) (.ok [(.fz,x),(.fz,y),(.fz,z)])=okf d:=call3 (by rw[u];exact bK rfl h)
def fS{m:Md}{n:Int}:j9 TT.cl "size" (.ok m (.ins "Wheel" [("size", .int n)]))=okf (.int n):=by rfl
def up{m:Nat}(h:n<m):∃k,m=k+1:=⟨m-1,by omega⟩
def cL{d:D}{as:List (Md×D)}:aX (okf d) (.ok as)=.ok ((.fz,d)::as):=rfl
def whl_t{b:Rho->aF}{ρ':Rho}{m:Md}(h:t ρ=.ok m (.bl true))(h':b ρ=.nx ρ'):cZ t b (n+1) ρ=cZ t b n ρ':=by
 show(t ρ).thS ρ _=_;rw[h];show(match b ρ with|.nx ρ'=>cZ t b n ρ'|.ct ρ'=>cZ t b n ρ'|.bk ρ'=>.nx ρ'|r=>r)=_
 rw[h']
def whl_f{b:Rho->aF}{m:Md}(h:t ρ=.ok m (.bl false)):cZ t b (n+1) ρ=.nx ρ:=by show(t ρ).thS ρ _=_;rw[h];rfl
structure KO(Kd No:D)(way sz:Int)(Ok:D->Prop)(pl:D->D->D):Prop where
 nought:∀k,gP TT.cl (Wk (k+1)).Φ "nought" (okf Kd) (.ok [])=okf No
 plus:∀k a b,Ok a->Ok b->gP TT.cl (Wk (k+3)).Φ "plus" (okf Kd) (.ok [(.fz,a),(.fz,b)])=okf (pl a b)
 holds:∀k a,Ok a->gP TT.cl (Wk (k+5)).Φ "holds" (okf Kd) (.ok [(.fz,a)])=okf (.bl true)
 sum:∀k a b,Ok a->Ok b->(Wk (k+2)).Φ "_law_sum" [.int way,.int sz,a,b]=okf (pl a b)
 okn:Ok No
 okp:∀a b,Ok a->Ok b->Ok (pl a b)
 assoc:∀a b c,Ok a->Ok b->Ok c->pl (pl a b) c=pl a (pl b c)
 left:∀a,Ok a->pl No a=a
 plain:∀a,Ok a->Pl 2 a
section
variable  {sz:Int}{Ok:D->Prop}
def pr(pl:D->D->D):List D->List D
 |a::b::l=>pl a b::pr pl l
 |_=>[]
def up2(pl:D->D->D):List D->List D
 |a::b::l=>pl a b::up2 pl l
 |l=>l
theorem KO.okf(K:KO Kd No way sz Ok pl):∀(l:List D) (x:D),Ok x->(∀d∈l,Ok d)->Ok (l.foldl pl x)
 |[],_,h,_=>h
 |a::l,x,h,hl=>K.okf l _ (K.okp _ _ h (hl a mcs)) λd hd=>hl d (mcm hd)
theorem KO.fold(K:KO Kd No way sz Ok pl):∀(l:List D) (x:D),Ok x->(∀d∈l,Ok d)->(up2 pl l).foldl pl x=l.foldl pl x
 |[],_,_,_=>rfl
 |[a],_,_,_=>rfl
 |a::b::l,x,h,hl=>by have ha:=hl a mcs;have hb:=hl b (mcm mcs);show(up2 pl l).foldl pl (pl x (pl a b))=l.foldl pl (pl (pl x a) b);rw[K.assoc x a b h ha hb];exact K.fold l _ (K.okp _ _ h (K.okp _ _ ha hb)) λd hd=>hl d (mcm (mcm hd))
theorem KO.ok2(K:KO Kd No way sz Ok pl):∀(l:List D),(∀d∈l,Ok d)->∀d∈up2 pl l,Ok d
 |[],h=>h
 |[a],h=>h
 |a::b::l,h=>λd hd=>by
  have hd:d∈pl a b::up2 pl l:=hd;rcases aTT.mp hd with rfl|hd
  . exact K.okp _ _ (h a mcs) (h b (mcm mcs))
  . exact K.ok2 l (λd hd=>h d (mcm (mcm hd))) d hd
theorem aCH:∀(l:List D),(up2 pl l).length=(l.length+1) / 2
 |[]=>rfl
 |[a]=>by show 1=(1+1) / 2;rfl
 |a::b::l=>by show(up2 pl l).length+1=(l.length+1+1+1) / 2;rw[aCH l];omega
theorem uO:∀(l:List D),pr pl l=(List.range (l.length / 2)).map λk=>pl (l.getD (2 * k) .non) (l.getD (2 * k+1) .non)
 |[]=>rfl
 |[a]=>by show([]:List D)=((List.range (1 / 2)).map _);rfl
 |a::b::l=>by
  have:(a::b::l).length / 2=l.length / 2+1:=by show(l.length+1+1) / 2=_;omega
  rw[this,List.range_succ_eq_map,aUK,aY8];show pl a b::pr pl l=_;rw[uO l];refine congrArg (pl a b :: ·) (aZH λk _=>?_);show pl _ _=pl ((a::b::l).getD (2 * (k+1)) .non) ((a::b::l).getD (2 * (k+1)+1) .non);rw[show 2 * (k+1)=2 * k+1+1 by omega,show 2 * k+1+1+1=(2 * k+1)+1+1 by omega]
  simp
theorem aCI:∀(l:List D),up2 pl l=pr pl l++(if l.length % 2=1 then[l.getD (l.length-1) .non]else[])
 |[]=>rfl
 |[a]=>rfl
 |a::b::l=>by
  show pl a b::up2 pl l=pl a b::(pr pl l++_);rw[aCI l];have e1:(a::b::l).length % 2=l.length % 2:=by show(l.length+1+1) % 2=_;omega
  rw[e1];split
  . rename_i h;have:(a::b::l).length-1=(l.length-1)+1+1:=by show l.length+1+1-1=_;omega
    rw[this];simp
  . rfl
def rng2s(h1:1<=n)(h2:n<=1000):kH (.ok [(.fz,.int 0),(.fz,.int ((n:Int)-1)),(.fz,.int 2)])=okf (.lst ((List.range (n / 2)).map λ(i:Nat)=>.int ((2 * i:Nat):Int))):=by
 have hs:nSt 0 ((n:Int)-1) 2=n / 2:=by unfold nSt Builtin.Range.rangeSize;split <;> omega
 show(if(decide ((0:Int)<=0)&&decide ((0:Int)<=1000000)&&decide (0<=(n:Int)-1+1000)&&decide ((n:Int)-1<=1000000)&&decide ((0:Int)<2)&&decide ((2:Int)<=1000000))=true then Res.ok .fz (.lst (iF 0 ((n:Int)-1) 2))else .stuck)=_;rw[if_pos (by simp only[aVL,aV9];omega)]
 unfold iF;rw[hs];congr 2;exact aZH λi _=>by congr 1;omega
def ix_n{l:List D}(h:i<l.length){m:Md}:op2 ixD (.ok m (.lst l)) (.ok m' (.int (i:Int)))=okf (l.getD i .non):=by
 have e:l.getD i .non=l[i]:=by simp[h]
 rw[e];exact bP (cG (aWL h))
def aRX(K:KO Kd No way sz Ok pl)(k:Nat){l:List D}(hl:∀d∈l,Ok d)(h1:2<=l.length)(h2:l.length<=1000)(x1:Option (Bool×D))(x3:Option (Bool×D)):evB (Wk (k+3)) pM [sf Kd,x1,sf (.lst l),x3]=.nx [sf Kd,x1,sf (.lst (up2 pl l)),sf (.lst (up2 pl l))]:=by
 have hz:sizeLine=16777216:=aUF;have c1:bU (okf (.lst ((List.range (l.length / 2)).map λ(i:Nat)=>.int ((2 * i:Nat):Int)))) [sf Kd,x1,sf (.lst l),x3] [0,2] 1 (aP (.nm 2)) (λρ=>evF (Wk (k+3)) [] ρ) (λρ=>evE (Wk (k+3)) (.meth v0 "plus" [(.ix v1 v2),(.ix v1 (.bin .Add v2 (.int 1)))]) ρ)=.ok .fr (.lst (pr pl l)):=by
  rw[uO];refine jP (enc:=λ(i:Nat)=>D.int ((2 * i:Nat):Int)) (λi=>pl (l.getD (2 * i) .non) (l.getD (2 * i+1) .non)) (by simp;omega) λi hi=>?_
  have hi':i<l.length / 2:=by simpa using hi
  refine⟨[sf Kd,sf (.lst l),si ((2 * i:Nat):Int)],.fz,rfl,rfl,.fz,?_⟩;have a1:op2 ixD (okf (.lst l)) (okf (.int ((2 * i:Nat):Int)))=okf (l.getD (2 * i) .non):=ix_n (by omega)
  have a2:op2 ixD (okf (.lst l)) (okf (.int (((2 * i:Nat):Int)+1)))=okf (l.getD (2 * i+1) .non):=by
   have:(((2 * i:Nat):Int)+1)=((2 * i+1:Nat):Int):=by omega
   rw[this];exact ix_n (by omega)
  have o1:Ok (l.getD (2 * i) .non):=by
   have:l.getD (2 * i) .non=l[2 * i]:=by simp[show 2 * i<l.length by omega]
   rw[this];exact hl _ (aWM _)
  have o2:Ok (l.getD (2 * i+1) .non):=by
   have:l.getD (2 * i+1) .non=l[2 * i+1]:=by simp[show 2 * i+1<l.length by omega]
   rw[this];exact hl _ (aWM _)
  have:=K.plus k _ _ o1 o2;generalize l.getD (2 * i) .non=u at a1 this ⊢;generalize l.getD (2 * i+1) .non=v at a2 this ⊢;generalize ((2 * i:Nat):Int)=z at a1 a2 ⊢;simp[a1,a2,this,cL]
 have g1:kH (.ok [(.fz,.int 0),(.fz,.int ((l.length:Int)-1)),(.fz,.int 2)])=okf (.lst ((List.range (l.length / 2)).map λ(i:Nat)=>.int ((2 * i:Nat):Int))):=rng2s (by omega) (by omega)
 have len:∀m,dC [(m,.lst l)]=some (.fz,.int (l.length:Int)):=λm=>rfl;have e3:((l.length:Int) % 2)=((l.length % 2:Nat):Int):=by omega
 have pl2:=aCI (pl:=pl) l;have s1:evS (Wk (k+3)) (.setC 3 false (.comp (.meth v0 "plus" [(.ix v1 v2),(.ix v1 (.bin .Add v2 (.int 1)))]) (.rng3 (.int 0) (.bin .Sub (.bcall .len [v2]) (.int 1)) (.int 2)) [] [0,2] (.nm 2) 1)) [sf Kd,x1,sf (.lst l),x3]=.nx [sf Kd,x1,sf (.lst l),some (true,.lst (pr pl l))]:=by
  rw[aP8,jO];have:evE (Wk (k+3)) (.rng3 (.int 0) (.bin .Sub (.bcall .len [v2]) (.int 1)) (.int 2)) [sf Kd,x1,sf (.lst l),x3]=okf (.lst ((List.range (l.length / 2)).map λ(i:Nat)=>.int ((2 * i:Nat):Int))):=by generalize (List.range (l.length / 2)).map (λ(i:Nat)=>D.int ((2 * i:Nat):Int))=q at g1 ⊢;simp[Bn.f,len,cL,g1]
  rw[this,c1];rfl
 unfold pM;rw[bR s1];have t1:evE (Wk (k+3)) (.cmp .Eq (.bin .Mod (.bcall .len [v2]) (.int 2)) (.int 1)) [sf Kd,x1,sf (.lst l),some (true,.lst (pr pl l))]=okf (.bl (decide (l.length % 2=1))):=by
  have hx:op2 (aW .Eq) (okf (.int ((l.length:Int) % 2))) (okf (.int 1))=okf (.bl (decide (l.length % 2=1))):=by
   rw[aAW];congr 2;by_cases h:l.length % 2=1
   . rw[aVV h,e3,h];rfl
   . rw[aTF h];have:l.length % 2=0:=by omega
     rw[e3,this];rfl
  simp[Bn.f,len,hx]
 by_cases hodd:l.length % 2=1
 . rw[aVV hodd]at t1;rw[if_pos hodd]at pl2;have ap:evB (Wk (k+3)) [.app 3 (.ix v2 (.neg (.int 1)))] [sf Kd,x1,sf (.lst l),some (true,.lst (pr pl l))]=.nx [sf Kd,x1,sf (.lst l),some (true,.lst (up2 pl l))]:=by
     have a3:op2 ixD (okf (.lst l)) (okf (.int (-1)))=okf (l.getD (l.length-1) .non):=by
      have hne:l≠[]:=λz=>by rw[z]at h1;exact absurd h1 (by decide)
      obtain⟨l',v,rfl⟩:∃l' v,l=l'++[v]:=⟨l.dropLast,l.getLast hne,(List.dropLast_concat_getLast hne).symm⟩;have:(l'++[v]).getD ((l'++[v]).length-1) .non=v:=by simp
      rw[this];exact bP (aFX l' v)
     have pz:(pr pl l).length<sizeLine:=by rw[uO,aUL,aX7];omega
     rw[pl2];simp[a3,eF,aK,pz]
   rw[cX,pI,t1,x_ifT,ap,aF.thn_nx];rfl
 . rw[aTF hodd]at t1;rw[if_neg hodd,aUS]at pl2;rw[cX,pI,t1,tU,iP,aF.thn_nx,<- pl2];rfl
end
section
variable  {sz:Int}{Ok:D->Prop}
theorem turns(K:KO Kd No way sz Ok pl)(k:Nat)(x1:Option (Bool×D)):∀(n m:Nat) (l:List D) (x3:Option (Bool×D)),(∀d∈l,Ok d)->1<=l.length->l.length<=n->n<=1000->n+1<=m->∃y3,cZ (evE (Wk (k+3)) (.cmp .Gt (.bcall .len [v2]) (.int 1))) (evB (Wk (k+3)) pM) m [sf Kd,x1,sf (.lst l),x3]=.nx [sf Kd,x1,sf (.lst [l.foldl pl No]),y3]
 |n,0,l,x3,_,_,_,_,hm=>by omega
 |n,m+1,l,x3,hl,h1,hn,h100,hm=>by
  have len:∀m,dC [(m,.lst l)]=some (.fz,.int (l.length:Int)):=λm=>rfl;have t:evE (Wk (k+3)) (.cmp .Gt (.bcall .len [v2]) (.int 1)) [sf Kd,x1,sf (.lst l),x3]=okf (.bl (decide ((1:Int)<(l.length:Int)))):=by simp[Bn.f,len]
  by_cases h2:2<=l.length
  . rw[aVV (by omega)]at t
    have b:=aRX K k hl h2 (by omega) x1 x3
    rw[whl_t t b];have l2:=aCH (pl:=pl) l;obtain⟨y3,e⟩:=turns K k x1 (n-1) m (up2 pl l) (sf (.lst (up2 pl l))) (K.ok2 l hl) (by omega) (by omega) (by omega) (by omega)
    rw[K.fold l No K.okn hl]at e;exact⟨y3,e⟩
  . rw[aTF (by omega)]at t
    rw[whl_f t]
    match l,h1,h2 with
    |[a],_,_=>refine⟨x3,?_⟩;show aF.nx [sf Kd,x1,sf (.lst [a]),x3]=.nx [sf Kd,x1,sf (.lst [pl No a]),x3];rw[K.left a (hl a mcs)]
    |[],z,_=>exact absurd z (by decide)
    |_::_::_,_,z=>exact absurd (by simp) z
def aRY(K:KO Kd No way sz Ok pl)(k:Nat){l:List D}(hl:∀d∈l,Ok d)(h1:1<=l.length)(h2:l.length<=1000):(Wk (k+4)).Φ "poured" [Kd,.lst l]=okf (l.foldl pl No):=by
 rw[aQ0];refine bK rfl ?_;show evB _ pT [sf Kd,sf (.lst l),none,none]=_;have len:∀m,dC [(m,.lst l)]=some (.fz,.int (l.length:Int)):=λm=>rfl;have t:evE (Wk (k+3)) (.cmp .Eq (.bcall .len [v1]) (.int 0)) [sf Kd,sf (.lst l),none,none]=okf (.bl false):=by
  have:op2 (aW .Eq) (okf (.int (l.length:Int))) (okf (.int 0))=okf (.bl false):=by rw[aAW];congr 2;exact aTG.mpr (by omega)
  simp[Bn.f,len,this]
 obtain⟨y3,w⟩:=turns K k (sf (.lst l)) l.length 1000000 l none hl h1 (aUA _) h2 (by omega)
 have s1:evS (Wk (k+3)) (.set 2 (.frz (.tcall .list [v1]))) [sf Kd,sf (.lst l),none,none]=.nx [sf Kd,sf (.lst l),sf (.lst l),none]:=by rfl
 unfold pT;rw[cX,pI,t,tU,iP,aF.thn_nx,bR s1,cX,s_whl,w,aF.thn_nx];have a:op2 ixD (okf (.lst [l.foldl pl No])) (okf (.int 0))=okf (l.foldl pl No):=bP rfl;generalize l.foldl pl No=q at a ⊢;simp[a]
abbrev enc(e:N×D):D:=.tup [nD e.1,e.2]
def aRZ(K:KO Kd No way sz Ok pl)(k:Nat){es:List (N×D)}(hl:es.length<=1000)(h:∀e∈es,Ok e.2):(Wk (k+2)).Φ "without_noughts" [Kd,.lst (es.map enc)]=.ok .fr (.lst ((es.filter λe=>!eqB e.2 No).map enc)):=by
 have hz:sizeLine=16777216:=aUF;rw[aQ2];refine bK rfl ?_;show evB _ pV [sf Kd,sf (.lst (es.map enc)),none]=_;have n1:=K.nought k;have c1:bU (okf (.lst (es.map enc))) [sf Kd,sf (.lst (es.map enc)),sf No] [2] 2 (aP (.tp [.nm 1,.nm 2])) (λρ=>evF (Wk (k+1)) [(.cmp .NotEq v2 v0)] ρ) (λρ=>evE (Wk (k+1)) (.tup [v1,v2]) ρ)=.ok .fr (.lst ((es.filter λe=>!eqB e.2 No).map enc)):=by
  refine qG (enc:=enc) (λe=>!eqB e.2 No) enc (by omega) λe he=>?_
  have ne:op2 (aW .NotEq) (okf e.2) (okf No)=okf (.bl (!eqB e.2 No)):=aCD (K.plain _ (h e he)) (K.plain _ K.okn) (by decide)
  refine⟨[sf No,sf (nD e.1),sf e.2],.fz,rfl,?_,λ_=>⟨.fz,rfl⟩⟩;simp[ne]
 have i1:∀m,eD (.ok m (.lst (es.map enc)))=okf (.lst (es.map enc)):=λm=>rfl;unfold pV;have s1:evS (Wk (k+1)) (.set 2 (.frz (.meth v0 "nought" []))) [sf Kd,sf (.lst (es.map enc)),none]=.nx [sf Kd,sf (.lst (es.map enc)),sf No]:=by simp[n1]
 rw[bR s1,cX,m6,jO];have it:evE (Wk (k+1)) (.items v1) [sf Kd,sf (.lst (es.map enc)),sf No]=okf (.lst (es.map enc)):=rfl;rw[it,c1];rfl
def aR0(K:KO Kd No way sz Ok pl)(k:Nat){gs:GD}(hl:gs.length<=1000)(hk:∀kv∈gs,eG (nD kv.1)=some kv.1)(nd:(gs.map (·.1)).Nodup)(h:∀kv∈gs,(∀d∈kv.2,Ok d)/\1<=kv.2.length/\kv.2.length<=1000):(Wk (k+5)).Φ "poured_groups" [Kd,.dtf (gs.map λkv=>(kv.1,.lst kv.2))]=.ok .fr (.lst (((gs.map λkv=>(kv.1,kv.2.foldl pl No)).filter λe=>!eqB e.2 No).map enc)):=by
 have hz:sizeLine=16777216:=aUF;rw[aQ1];refine bK rfl ?_;generalize hg:(gs.map λkv=>((kv.1,.lst kv.2):N×D))=gd;show evB _ pU [sf Kd,sf (.dtf gd),none]=_;have hm:∀kv∈gs,bV gd kv.1=some (.lst kv.2):=by
  subst hg;have key:∀{gs:GD},(gs.map (·.1)).Nodup->∀kv∈gs,bV (gs.map λkv=>((kv.1,.lst kv.2):N×D)) kv.1=some (.lst kv.2):=by
   intro gs
   induction gs with
   |nil=>intro _ kv h;cases h
   |cons g gs ih =>
    intro nd kv hkv;rw[aUK,aUU]at nd;rcases aTT.mp hkv with rfl|hkv
    . rw[aUK,sN (p:=(kv.1,D.lst kv.2)) rfl]
    . rw[aUK,sO (p:=(g.1,D.lst g.2)) (λz=>nd.1 (aY7.mpr ⟨kv,hkv,z.symm⟩))];exact ih nd.2 kv hkv
  exact key nd
 have c1:bU (okf (.lst (gs.map λkv=>nD kv.1))) [sf Kd,sf (.dtf gd),none] [0,1] 1 (aP (.nm 2)) (λρ=>evF (Wk (k+4)) [] ρ) (λρ=>evE (Wk (k+4)) (.tup [v2,(.frz (.call "poured" 2 [v0,(.nix v1 v2)]))]) ρ)=.ok .fr (.lst (gs.map λkv=>enc (kv.1,kv.2.foldl pl No))):=by
  refine jP (enc:=λ(kv:N×List D)=>nD kv.1) (λkv=>enc (kv.1,kv.2.foldl pl No)) (by omega) λkv hkv=>?_
  refine⟨[sf Kd,sf (.dtf gd),sf (nD kv.1)],.fz,rfl,rfl,.fz,?_⟩;obtain⟨o1,o2,o3⟩:=h kv hkv;have p:=aRY K k o1 o2 o3;have p2:aO 2 ((Wk (k+4)).Φ "poured") (.ok [(.fz,Kd),(.fz,.lst kv.2)])=okf (kv.2.foldl pl No):=iQ p;have a1:op2 fD (okf (.dtf gd)) (okf (nD kv.1))=okf (.lst kv.2):=cC (by
   show fD .fz (.dtf gd) .fz (nD kv.1)=_;unfold fD;rw[hk kv hkv];show(bV gd kv.1).map _=_;rw[hm kv hkv];rfl)
  show aK (evE (Wk (k+4)) (.tup [v2,(.frz (.call "poured" 2 [v0,(.nix v1 v2)]))]) [sf Kd,sf (.dtf gd),sf (nD kv.1)])=okf (.tup [nD kv.1,kv.2.foldl pl No]);generalize nD kv.1=z at a1 ⊢;generalize kv.2.foldl pl No=q at p2 ⊢;generalize kv.2=q2 at p2 a1;simp[a1,p2,cL];rfl
 have wo:=aRZ K (k+2) (es:=gs.map λkv=>(kv.1,kv.2.foldl pl No)) (by simpa using hl) (λe he=>by
  obtain⟨kv,hkv,rfl⟩:=aY7.mp he;exact K.okf _ _ K.okn (h kv hkv).1)
 rw[aY8]at wo;have it:evE (Wk (k+4)) (.nkeys v1) [sf Kd,sf (.dtf gd),none]=okf (.lst (gs.map λkv=>nD kv.1)):=by show Res.ok .fz (.lst (gd.map λkv=>nD kv.1))=_;rw[<- hg,aY8];rfl
 have s1:evS (Wk (k+4)) (.setC 2 true (.comp (.tup [v2,(.frz (.call "poured" 2 [v0,(.nix v1 v2)]))]) (.nkeys v1) [] [0,1] (.nm 2) 1)) [sf Kd,sf (.dtf gd),none]=.nx [sf Kd,sf (.dtf gd),sf (.lst (gs.map λkv=>enc (kv.1,kv.2.foldl pl No)))]:=by rw[aP9,jO,it,c1];rfl
 unfold pU;rw[bR s1,cX,m6];have cw:aO 2 ((Wk (k+4)).Φ "without_noughts") (.ok [(.fz,Kd),(.fz,.lst (gs.map λkv=>enc (kv.1,kv.2.foldl pl No)))])=.ok .fr (.lst (((gs.map λkv=>(kv.1,kv.2.foldl pl No)).filter λe=>!eqB e.2 No).map enc)):=uN wo;have:evE (Wk (k+4)) (.call "without_noughts" 2 [v0,v2]) [sf Kd,sf (.dtf gd),sf (.lst (gs.map λkv=>enc (kv.1,kv.2.foldl pl No)))]=.ok .fr (.lst (((gs.map λkv=>(kv.1,kv.2.foldl pl No)).filter λe=>!eqB e.2 No).map enc)):=cw;rw[this];rfl
end
def qH{k:D->Rho->Option Rho}{body:Rho->aF}{d:D}{ρ1 ρ2:Rho}(h1:k d ρ=some ρ1)(h2:body ρ1=.nx ρ2):cI k body (d::ds) ρ=cI k body ds ρ2:=by
 conv=>lhs;unfold cI
 rw[h1];dsimp only;rw[h2]
inductive bS:N->Prop
 |i (n:Int):bS (.i n)
 |s (x:Str):bS (.s x)
def rk:N->N
 |.i n=>.t [.i 0,.i n,.s ""]
 |.s x=>.t [.i 1,.i 0,.s x]
 |.t ks=>.t ks
def rkK:N->N
 |.t vs=>.t (vs.map rk)
 |k=>k
def rank_(k:Nat){v:N}(h:bS v):(Wk (k+2)).Φ "rank" [nD v]=okf (nD (rk v)):=by
 rw[aQ3];refine bK rfl ?_;cases h with
 |i n=>show evB _ k4 [si n]=.rt .fz (.tup [.int 0,.int n,.str ""]);have w:=eU (nG k n);unfold k4;simp[w,cL,qF]
 |s x=>show evB _ k4 [sf (.str x)]=.rt .fz (.tup [.int 1,.int 0,.str x]);have w:=eU (cY k (d:=.str x) (a:=false) (b:=false) rfl rfl);unfold k4;simp[w,cL,qF]
def aR1(k:Nat){vs:List N}(h:∀v∈vs,bS v)(hl:vs.length<=10):(Wk (k+3)).Φ "rank_of_row" [nD (.t vs)]=.ok .fr (.lst (vs.map λv=>nD (rk v))):=by
 have hz:sizeLine=16777216:=aUF;rw[aQ4];refine bK rfl ?_;show evB _ pW [sf (nD (.t vs))]=_;have it:evE (Wk (k+2)) (.items v0) [sf (nD (.t vs))]=okf (.lst (vs.map nD)):=by show Res.ok .fz (.lst (nDL vs))=_;rw[iI]
 have c1:bU (okf (.lst (vs.map nD))) [sf (nD (.t vs))] [] 1 (aP (.nm 0)) (λρ=>evF (Wk (k+2)) [] ρ) (λρ=>evE (Wk (k+2)) (.call "rank" 1 [v0]) ρ)=.ok .fr (.lst (vs.map λv=>nD (rk v))):=by
  refine jP (enc:=nD) (λv=>nD (rk v)) (by omega) λv hv=>?_
  have c:=eU (rank_ k (h v hv));generalize nD (rk v)=q at c ⊢;generalize nD v=z at c ⊢;refine⟨[sf z],.fz,rfl,rfl,.fz,?_⟩;simp[c,cL]
 unfold pW;rw[cX,m6,jO,it,c1];rfl
theorem aCJ(W:WD){A:Option (Bool×D)}:∀(vs acc:List N) (x:Option (Bool×D)),(∀v∈vs,bS v)->acc.length+vs.length<=10->∃y,cI (aP (.nm 2)) (evB W iT) (vs.map nD) [A,some (true,.lst (acc.map nD)),x]=.nx [A,some (true,.lst ((acc++vs.map rk).map nD)),y]
 |[],acc,x,_,_=>⟨x,by simp[cI]⟩
 |v::vs,acc,x,h,hl=>by
  have hz:sizeLine=16777216:=aUF;have hl:acc.length+(vs.length+1)<=10:=hl;have la:acc.length<sizeLine:=by omega
  have b1:evB W iT [A,some (true,.lst (acc.map nD)),sf (nD v)]=.nx [A,some (true,.lst ((acc++[rk v]).map nD)),sf (nD v)]:=by
   have e:(acc++[rk v]).map nD=acc.map nD++[nD (rk v)]:=by simp
   rw[e];cases h v mcs with
   |i n=>have i1:bN [(.fz,.int n),(.fz,.ty Ty.str.id)]=some (.fz,.bl false):=rfl;show evB W iT [A,some (true,.lst (acc.map nD)),si n]=.nx [A,some (true,.lst (acc.map nD++[.tup [.int 0,.int n,.str ""]])),si n];unfold iT;simp[Bn.f,i1,cL,qF,eF,aK,la]
   |s y=>have i1:bN [(.fz,.str y),(.fz,.ty Ty.str.id)]=some (.fz,.bl true):=rfl;show evB W iT [A,some (true,.lst (acc.map nD)),sf (.str y)]=.nx [A,some (true,.lst (acc.map nD++[.tup [.int 1,.int 0,.str y]])),sf (.str y)];unfold iT;simp[Bn.f,i1,cL,qF,eF,aK,la]
  rw[aUK,qH (show aP (.nm 2) (nD v) [A,some (true,.lst (acc.map nD)),x]=some [A,some (true,.lst (acc.map nD)),sf (nD v)]from rfl) b1]
  obtain⟨y,e⟩:=aCJ W vs (acc++[rk v]) (sf (nD v)) (λu hu=>h u (mcm hu)) (by simp;omega)
  exact⟨y,by rw[e];simp⟩
def aR2(k:Nat){vs:List N}(h:∀v∈vs,bS v)(hl:vs.length<=10):(Wk (k+1)).Φ "_law_ranked" [nD (.t vs)]=.ok .fr (.lst (vs.map λv=>nD (rk v))):=by
 rw[aRC];refine bK rfl ?_;show evB _ qB [sf (nD (.t vs)),none,none]=_;have it:evE (Wk k) (.items v0) [sf (nD (.t vs)),some (true,.lst []),none]=okf (.lst (vs.map nD)):=by show Res.ok .fz (.lst (nDL vs))=_;rw[iI]
 obtain⟨y,e⟩:=aCJ (Wk k) (A:=sf (nD (.t vs))) vs [] none h (by simpa using hl)
 unfold qB;have s1:evS (Wk k) (.set 1 (.lst [])) [sf (nD (.t vs)),none,none]=.nx [sf (nD (.t vs)),some (true,.lst []),none]:=rfl;have s2:evS (Wk k) (.for (.items v0) (.nm 2) iT) [sf (nD (.t vs)),some (true,.lst []),none]=.nx [sf (nD (.t vs)),some (true,.lst ((vs.map rk).map nD)),y]:=by rw[kU,it];exact e
 rw[bR s1,bR s2,aY8];rfl
mutual
theorem aR3:∀(k:N),cA (nD k)=some k
 |.i n=>by simp[nD,cA]
 |.s x=>by simp[nD,cA]
 |.t ks=>by rw[nD,cA,qI ks];rfl
theorem qI:∀(ks:List N),cV (nDL ks)=some ks
 |[]=>by rw[nDL,cV]
 |k::ks=>by rw[nDL,cV,aR3 k,qI ks]
end
theorem aCK:∀{vs:List N},(∀v∈vs,bS v)->N.dpL vs=0
 |[],_=>by rw[N.dpL]
 |v::vs,h=>by rw[N.dpL,aCK λu hu=>h u (mcm hu)];cases h v mcs <;> simp[N.dp]
structure Row(k:N):Prop where
 ex:∃vs,k=.t vs/\(∀v∈vs,bS v)/\vs.length<=10
def Row.key{k:N}(h:Row k):eG (nD k)=some k:=by
 obtain⟨vs,rfl,hv,_⟩:=h.ex;rw[nD];show(match cV (nDL vs)with|some ks=>if(N.t ks).dp<=8 then some (N.t ks)else none|none=>none)=_
 rw[qI];dsimp only;rw[N.dp,aCK hv,if_pos (by omega)]
section
variable  {sz:Int}{Ok:D->Prop}
structure Gi(Ok:D->Prop)(kvs:GD)(n:Nat):Prop where
 len:kvs.length<=n
 nd:(kvs.map (·.1)).Nodup
 each:∀kv∈kvs,Row kv.1/\(∀d∈kv.2,Ok d)/\1<=kv.2.length/\kv.2.length<=n
theorem uP:∀{kvs:GD}{k:N}{ds:List D},cK kvs k=some ds->(k,ds)∈kvs
 |[],k,ds,h=>by cases h
 |kv::kvs,k,ds,h=>by
  unfold cK at h;rw[aYQ]at h;by_cases e:kv.1=k
  . rw[aVV e]at h;have:kv.2=ds:=by simpa using h
    rw[<- e,<- this];exact mcs
  . rw[aTF e]at h;exact mcm (uP h)
def aR4:∀{kvs:GD}{k:N},cK kvs k=none->∀kv∈kvs,kv.1≠k:=by intro kvs k h kv hkv e;unfold cK at h;rw[Option.map_eq_none_iff,List.find?_eq_none]at h;exact h kv hkv (by simpa using e)
def Gi.add{kvs:GD}(g:Gi Ok kvs n){k:N}{d:D}(hk:Row k)(hd:Ok d):Gi Ok (eS kvs k d) (n+1):=by
 unfold eS;cases e:cK kvs k with
 |some ds =>
  have m:=uP e;obtain⟨_,m2,m3,m4⟩:=g.each _ m;have fs:(λkv:N×List D=>((if kv.1=k then(kv.1,ds++[d])else kv:N×List D)).1)=λkv=>kv.1:=by funext kv;split <;> rfl
  refine⟨by show(kvs.map _).length<=_;rw[aUL];have:=g.len;omega,by show((kvs.map _).map _).Nodup;rw[aY8];show(kvs.map λkv=>((if kv.1=k then(kv.1,ds++[d])else kv:N×List D)).1).Nodup;rw[fs];exact g.nd,λkv hkv=>?_⟩
  obtain⟨kv',h1,rfl⟩:=aY7.mp hkv;obtain⟨a1,a2,a3,a4⟩:=g.each _ h1;split
  . refine⟨a1,λx hx=>?_,by simp,by simp;exact m4⟩
    rcases aTU.mp hx with hx|hx
    . exact m2 x hx
    . rw[aW7.mp hx];exact hd
  . exact⟨a1,a2,a3,by omega⟩
 |none =>
  have nn:=aR4 e;refine⟨by rw[aU4];have:=g.len;simp;omega,?_,λkv hkv=>?_⟩
  . rw[aY9,aXT];refine⟨g.nd,by simp,λx hx y hy z=>?_⟩
    obtain⟨kv,h1,rfl⟩:=aY7.mp hx;have:y=k:=by simpa using hy
    exact nn kv h1 (z.trans this)
  . rcases aTU.mp hkv with hkv|hkv
    . obtain⟨a1,a2,a3,a4⟩:=g.each _ hkv;exact⟨a1,a2,a3,by omega⟩
    . rw[aW7.mp hkv];exact⟨hk,λx hx=>by rw[aW7.mp hx];exact hd,by simp,by simp⟩
def val(pl:D->D->D)(No:D)(kvs:GD):List (N×D):=kvs.map λkv=>(kv.1,kv.2.foldl pl No)
def aCL(kvs:GD)(k:N):bV (val pl No kvs) k=(cK kvs k).map λds=>ds.foldl pl No:=by
 unfold bV cK val
 induction kvs with
 |nil=>rfl
 |cons kv kvs ih =>
  rw[aUK,aYQ,aYQ];by_cases e:kv.1=k
  . simp[e]
  . simp only[e,decide_false];exact ih
def aR5(kvs:GD)(k:N)(d:D):val pl No (eS kvs k d)=kJ (val pl No kvs) k (pl ((bV (val pl No kvs) k).getD No) d):=by
 unfold kJ;rw[aCL];unfold eS;cases e:cK kvs k with
 |some ds =>
  rw[aWQ,if_pos (show(some (ds.foldl pl No)).isSome=true from rfl)]
  unfold val pC;rw[aY8,aY8];refine aZH λkv _=>?_;show(_,_)=_;by_cases z:kv.1=k
  . simp[z,List.foldl_append]
  . simp[z]
 |none =>
  rw[Option.map_none,if_neg (by simp)]
  unfold val;simp
def gaG(prs:List (N×D))(kvs:GD):GD:=prs.foldl (λkvs e=>eS kvs e.1 e.2) kvs
theorem qJ(W:WD){P:D}:∀(prs:List (N×D)) (kvs:GD) (n:Nat) (x3 x4:Option (Bool×D)),(∀e∈prs,Row e.1/\Ok e.2)->Gi Ok kvs n->n+prs.length<=1000->iM [x3,x4]=true->∃y3 y4,jL (.tp [.nm 3,.nm 4]) (iN 2 (evE W v3) (evE W v4)) (prs.map enc) [sf Kd,sf P,none,x3,x4] kvs=some ([sf Kd,sf P,none,y3,y4],gaG prs kvs)/\Gi Ok (gaG prs kvs) (n+prs.length)
 |[],kvs,n,x3,x4,_,g,_,_=>⟨x3,x4,rfl,g⟩
 |e::prs,kvs,n,x3,x4,h,g,hl,ho=>by
  have hz:sizeLine=16777216:=aUF;obtain⟨r,o⟩:=h e mcs;have hl:n+(prs.length+1)<=1000:=hl;obtain⟨y3,y4,e1,e2⟩:=qJ W (P:=P) prs (eS kvs e.1 e.2) (n+1) (sf (nD e.1)) (sf e.2) (λu hu=>h u (mcm hu)) (g.add r o) (by omega) rfl
  refine⟨y3,y4,?_,by
   show Gi Ok (gaG prs (eS kvs e.1 e.2)) (n+(prs.length+1));rw[show n+(prs.length+1)=n+1+prs.length by omega];exact e2⟩
  rw[aUK];unfold jL;have sg:aP (.tp [.nm 3,.nm 4]) (enc e) [sf Kd,sf P,none,x3,x4]=some [sf Kd,sf P,none,sf (nD e.1),sf e.2]:=rfl;rw[sg];dsimp only;rw[if_pos (show iM [sf Kd,sf P,none,sf (nD e.1),sf e.2]=true from rfl)]
  have ga:iN 2 (evE W v3) (evE W v4) [sf Kd,sf P,none,sf (nD e.1),sf e.2] kvs=some ([sf Kd,sf P,none,sf (nD e.1),sf e.2],eS kvs e.1 e.2):=by have f3:aK (evE W v3 [sf Kd,sf P,none,sf (nD e.1),sf e.2])=okf (nD e.1):=rfl;have f4:aK (evE W v4 [sf Kd,sf P,none,sf (nD e.1),sf e.2])=okf e.2:=rfl;unfold iN;rw[f3];dsimp only;rw[r.key];dsimp only;rw[f4];dsimp only;rw[if_pos];rw[aVL];refine⟨aVV (by have:=g.len;omega),aWI.mpr λkv hkv=>aVV (by have:=(g.each kv hkv).2.2.2;omega)⟩
  rw[ga];exact e1
end
def jQ(κ:α->N)(x:α):List α->List α
 |[]=>[x]
 |y::l=>if ltN (κ y) (κ x)=true then y::jQ κ x l else x::y::l
def eA(κ:α->N)(l:List α):List α:=l.foldr (jQ κ) []
theorem aCM(κ:α->N)(f:α->D)(x:α):∀(l:List α),gX (κ x,f x) (l.map λe=>(κ e,f e))=(jQ κ x l).map λe=>(κ e,f e)
 |[]=>rfl
 |y::l=>by
  rw[aUK];unfold gX jQ;dsimp only;split
  . rw[aCM κ f x l];rfl
  . rfl
theorem aCN(κ:α->N)(f:α->D):∀(l:List α),fY (l.map λe=>(κ e,f e))=(eA κ l).map λe=>(κ e,f e)
 |[]=>rfl
 |x::l=>by show gX (κ x,f x) (fY (l.map λe=>(κ e,f e)))=(jQ κ x (eA κ l)).map _;rw[aCN κ f l,aCM]
theorem aCO(κ:α->N)(x:α):∀(l:List α),(jQ κ x l).Perm (x::l)
 |[]=>aYW _
 |y::l=>by
  unfold jQ;split
  . exact((aCO κ x l).cons y).trans (List.Perm.swap x y l)
  . exact aYW _
theorem uQ(κ:α->N):∀(l:List α),(eA κ l).Perm l
 |[]=>aYW _
 |x::l=>(aCO κ x (eA κ l)).trans ((uQ κ l).cons x)
theorem aCP{f:α->D}{κ:α->N}{kd:α->D}{Φ:D->Res}:∀{es:List α},(∀e∈es,aK (Φ (f e))=okf (kd e))->gY Φ (es.map f)=some (es.map kd)
 |[],_=>rfl
 |e::es,h=>by rw[aUK];unfold gY;rw[h e mcs,aCP (f:=f) (κ:=κ) (kd:=kd) λu hu=>h u (mcm hu)];rfl
theorem aCQ{κ:α->N}{kd:α->D}:∀{es:List α},(∀e∈es,d7 (kd e)=some (false , κ e))->eR false (es.map kd)=some (es.map κ)
 |[],_=>rfl
 |e::es,h=>by rw[aUK];unfold eR;rw[h e mcs,aCQ (κ:=κ) λu hu=>h u (mcm hu)];rfl
def aR6{κ:α->N}{kd:α->D}{e:α}{es:List α}(h:d7 (kd e)=some (false , κ e)):eR true ((e::es).map kd)=none:=by rw[aUK];unfold eR;rw[h];cases eR true (es.map kd) <;> rfl
def aCR{f:α->D}{κ:α->N}{kd:α->D}{Φ:D->Res}{m:Md}{es:List α}(h1:∀e∈es,aK (Φ (f e))=okf (kd e))(h2:∀e∈es,d7 (kd e)=some (false , κ e))(ok:okK (es.map κ)=true)(hl:es.length<gU):cW Φ (.ok m (.lst (es.map f)))=.ok .fr (.lst ((eA κ es).map f)):=by
 have k2:iL (es.map kd)=some (es.map κ):=by
  unfold iL;cases es with
  |nil=>rfl
  |cons e es=>rw[aR6 (κ:=κ) (h2 e mcs)];exact aCQ h2
 show(match seqD (.lst (es.map f))with
  |some ds=>(match gY Φ ds with
   |some kds=>(match iL kds with
    |some ks=>if(okK ks&&decide (ds.length<gU))=true then Res.ok .fr (.lst ((fY (ks.zip ds)).map λp:N×D=>p.2))else .stuck
    |none=>.stuck)
   |none=>.stuck)
  |none=>.stuck)=_
 have sq:seqD (.lst (es.map f))=some (es.map f):=rfl;rw[sq];dsimp only;rw[aCP (κ:=κ) h1];dsimp only;rw[k2];dsimp only;rw[ok,if_pos (by rw[aUL];simpa using hl),List.zip_map',aCN,aY8]
 rfl
def rk_dp{v:N}(h:bS v):(rk v).dp<=1:=by cases h <;> simp[rk,N.dp,N.dpL]
def aR7{u v:N}(hu:bS u)(hv:bS v)(e:rk u=rk v):u=v:=by cases hu <;> cases hv <;> simp_all[rk]
def rk_ok{u v:N}(hu:bS u)(hv:bS v):okN (rk u) (rk v)=true:=by
 cases hu with
 |i n=>cases hv with
  |i m =>
   simp only[rk,okN,eH];split
   . split
     . rfl
     . rfl
   . rfl
  |s y=>simp[rk,okN,eH]
 |s x=>cases hv with
  |i m=>simp[rk,okN,eH]
  |s y =>
   simp only[rk,okN,eH]
   repeat (first|rfl|split)
theorem aCS:∀{us vs:List N},(∀u∈us,bS u)->(∀v∈vs,bS v)->eH (us.map rk) (vs.map rk)=true
 |[],_,_,_=>by rw[aVU,eH]
 |_::_,[],_,_=>by rw[aVU,aUK,eH]
 |u::us,v::vs,hu,hv=>by
  rw[aUK,aUK,eH];split
  . exact aCS (λx hx=>hu x (mcm hx)) λx hx=>hv x (mcm hx)
  . exact rk_ok (hu u mcs) (hv v mcs)
theorem aCT:∀{vs:List N},(∀v∈vs,bS v)->N.dpL (vs.map rk)<=1
 |[],_=>by rw[aVU,N.dpL];omega
 |v::vs,h=>by rw[aUK,N.dpL];have:=aCT λu hu=>h u (mcm hu);have:=rk_dp (h v mcs);omega
theorem aCU:∀{us vs:List N},(∀u∈us,bS u)->(∀v∈vs,bS v)->us.map rk=vs.map rk->us=vs
 |[],[],_,_,_=>rfl
 |[],_::_,_,_,e=>by cases e
 |_::_,[],_,_,e=>by cases e
 |u::us,v::vs,hu,hv,e=>by rw[aUK,aUK]at e;obtain⟨e1,e2⟩:=List.cons.inj e;rw[aR7 (hu u mcs) (hv v mcs) e1,aCU (λx hx=>hu x (mcm hx)) (λx hx=>hv x (mcm hx)) e2]
def aCV(h:∀k∈ks,Row k)(nd:ks.Nodup):okK (ks.map rkK)=true:=by
 unfold okK;rw[aVL,aVL];refine⟨⟨aWI.mpr λk hk=>?_,aWI.mpr λk hk=>aWI.mpr λk' hk'=>?_⟩,aVV ?_⟩
 . obtain⟨r,hr,rfl⟩:=aY7.mp hk;obtain⟨vs,rfl,hv,_⟩:=(h r hr).ex;refine aVV ?_;show(N.t (vs.map rk)).dp<=8;rw[N.dp];have:=aCT hv;omega
 . obtain⟨r,hr,rfl⟩:=aY7.mp hk;obtain⟨vs,rfl,hv,_⟩:=(h r hr).ex;obtain⟨r',hr',rfl⟩:=aY7.mp hk';obtain⟨us,rfl,hu,_⟩:=(h r' hr').ex;show okN (.t (vs.map rk)) (.t (us.map rk))=true;rw[okN];exact aCS hv hu
 . refine List.pairwise_map.mpr (List.Pairwise.imp_of_mem ?_ nd);intro a b ha hb hab e;obtain⟨vs,rfl,hv,_⟩:=(h a ha).ex;obtain⟨us,rfl,hu,_⟩:=(h b hb).ex;have e:N.t (vs.map rk)=N.t (us.map rk):=e;injection e with e
   exact hab (by rw[aCU hv hu e])
def aCW{k:N}(h:Row k):∃vs,k=.t vs/\d7 (.lst (vs.map λv=>nD (rk v)))=some (false , rkK k):=by
 obtain⟨vs,rfl,hv,_⟩:=h.ex;refine⟨vs,rfl,?_⟩;have e:(vs.map λv=>nD (rk v))=nDL (vs.map rk):=by rw[iI,aY8];rfl
 rw[e];show(cV (nDL (vs.map rk))).map _=_;rw[qI];rfl
section
variable  {sz:Int}{Ok:D->Prop}
def aR8{W:WD}{a b:E}(h:W.dp=true):evE W (.srtl a b) ρ=cW (λd=>evE W.pred b [sf d]) (evE W a ρ):=by show(if W.dp=true then _ else _)=_;rw[if_pos h]
def aR9{W:WD}{f:Str}{a:E}(h:W.dp=true):evE W (.srtf f a) ρ=cW (λd=>W.Ψ f [d]) (evE W a ρ):=by show(if W.dp=true then _ else _)=_;rw[if_pos h]
def gH(pl:D->D->D)(No:D)(prs:List (N×D)):List (N×D):=(val pl No (gaG prs [])).filter λe=>!eqB e.2 No
def aSA(K:KO Kd No way sz Ok pl)(k:Nat){P:D}{prs:List (N×D)}(hP:∀m,eD (.ok m P)=okf (.lst (prs.map enc)))(h:∀e∈prs,Row e.1/\Ok e.2)(hl:prs.length<=60):(Wk (k+6)).Φ "gathered" [Kd,P]=okf (.tup ((eA (λe=>rkK e.1) (gH pl No prs)).map enc)):=by
 have hz:sizeLine=16777216:=aUF;rw[aQ6];have g0:Gi Ok ([]:GD) 0:=⟨aUA _,aXX,λkv hkv=>nomatch hkv⟩;obtain⟨y3,y4,e1,g⟩:=qJ (Wk (k+5)) (Kd:=Kd) (P:=P) prs [] 0 none none h g0 (by omega) rfl
 rw[aW6]at g;have s1:evS (Wk (k+5)) (.grp 2 (.for (.items v1) (.tp [(.nm 3),(.nm 4)]) (.app v3 v4))) [sf Kd,sf P,none,none,none]=.nx [sf Kd,sf P,some (true,.dtn ((gaG prs []).map λkv=>(kv.1,.lst kv.2))),y3,y4]:=by
  show kP 2 (kN (.tp [(.nm 3),(.nm 4)]) (evE (Wk (k+5)) (.items v1)) (iN 2 (evE (Wk (k+5)) v3) (evE (Wk (k+5)) v4))) _=_;unfold kP;rw[if_pos (show(decide (2<[sf Kd,sf P,none,none,none].length)&&iM ([sf Kd,sf P,none,none,none].set 2 none))=true from rfl)]
  have gf:kN (.tp [(.nm 3),(.nm 4)]) (evE (Wk (k+5)) (.items v1)) (iN 2 (evE (Wk (k+5)) v3) (evE (Wk (k+5)) v4)) ([sf Kd,sf P,none,none,none].set 2 none) []=some ([sf Kd,sf P,none,y3,y4],gaG prs []):=by unfold kN;have it:evE (Wk (k+5)) (.items v1) ([sf Kd,sf P,none,none,none].set 2 none)=okf (.lst (prs.map enc)):=hP _;rw[it];exact e1
  rw[gf];rfl
 generalize hG:gaG prs []=G at *;have pg:=aR0 K k (gs:=G) (by have:=g.len;omega) (λkv hkv=>(g.each kv hkv).1.key) g.nd (λkv hkv=>⟨(g.each kv hkv).2.1,(g.each kv hkv).2.2.1,by have:=(g.each kv hkv).2.2.2;omega⟩)
 have ef:((G.map λkv=>(kv.1,kv.2.foldl pl No)).filter λe=>!eqB e.2 No)=gH pl No prs:=by unfold gH;rw[hG];rfl
 rw[ef]at pg;have fr:∀e∈gH pl No prs,Row e.1:=λe he=>by rw[<- ef]at he;obtain⟨kv,hkv,rfl⟩:=aY7.mp (aTN.mp he).1;exact(g.each kv hkv).1
 have fn:((gH pl No prs).map λe=>e.1).Nodup:=by rw[<- ef];have:List.Sublist (((G.map λkv=>(kv.1,kv.2.foldl pl No)).filter λe=>!eqB e.2 No).map λe=>e.1) ((G.map λkv=>(kv.1,kv.2.foldl pl No)).map λe=>e.1):=aZI _ (aZJ);refine this.nodup ?_;rw[aY8];exact g.nd
 have fl:(gH pl No prs).length<=60:=by rw[<- ef];have:=aZK (λe=>!eqB e.2 No) (G.map λkv=>(kv.1,kv.2.foldl pl No));rw[aUL]at this;have:=g.len;omega
 generalize gH pl No prs=es at *;have so:cW (λd=>evE (Wk (k+5)).pred (.call "rank_of_row" 1 [(.ix v0 (.int 0))]) [sf d]) (.ok .fr (.lst (es.map enc)))=.ok .fr (.lst ((eA (λe=>rkK e.1) es).map enc)):=by
  have kds:∀e:N×D,∃kd:D,e∈es->aK (evE (Wk (k+5)).pred (.call "rank_of_row" 1 [(.ix v0 (.int 0))]) [some (false,enc e)])=okf kd/\d7 kd=some (false , rkK e.1):=λe=>by
   by_cases he:e∈es
   . obtain⟨vs,ev,e2⟩:=aCW (fr e he);obtain⟨vs',ev',hv,hn⟩:=(fr e he).ex;have:vs'=vs:=by rw[ev]at ev';injection ev' with z;exact z.symm
     subst this;refine⟨_,λ_=>⟨?_,e2⟩⟩;have r:=aR1 (k+1) hv hn;have c:aO 1 ((Wk (k+4)).Φ "rank_of_row") (.ok [(.fz,nD e.1)])=.ok .fr (.lst (vs'.map λv=>nD (rk v))):=by rw[ev];exact aCF r
     have x:evE (Wk (k+5)).pred (.call "rank_of_row" 1 [(.ix v0 (.int 0))]) [sf (enc e)]=aO 1 ((Wk (k+4)).Φ "rank_of_row") (.ok [(.fz,nD e.1)]):=rfl;rw[x,c];rfl
   . exact⟨.non,λz=>absurd z he⟩
  exact aCR (κ:=λe:N×D=>rkK e.1) (kd:=λe=>(kds e).choose) (λe he=>((kds e).choose_spec he).1) (λe he=>((kds e).choose_spec he).2) (by
   have:=aCV (ks:=es.map λe=>e.1) (λk hk=>by obtain⟨e,he,rfl⟩:=aY7.mp hk;exact fr e he) fn
   rw[aY8]at this
   exact this) (aTK (by omega:es.length<64) zF)
 have s2:evS (Wk (k+5)) (.nfrz 2) [sf Kd,sf P,some (true,.dtn (G.map λkv=>(kv.1,.lst kv.2))),y3,y4]=.nx [sf Kd,sf P,sf (.dtf (G.map λkv=>(kv.1,.lst kv.2))),y3,y4]:=rfl;have c1:evE (Wk (k+5)) (.call "poured_groups" 2 [v0,v2]) [sf Kd,sf P,sf (.dtf (G.map λkv=>(kv.1,.lst kv.2))),y3,y4]=.ok .fr (.lst (es.map enc)):=uN pg;have c2:evE (Wk (k+5)) (.srtl (.call "poured_groups" 2 [v0,v2]) (.call "rank_of_row" 1 [(.ix v0 (.int 0))])) [sf Kd,sf P,sf (.dtf (G.map λkv=>(kv.1,.lst kv.2))),y3,y4]=.ok .fr (.lst ((eA (λe=>rkK e.1) es).map enc)):=by rw[aR8 rfl,c1];exact so
 have c3:evE (Wk (k+5)) (.tcall .tuple [(.srtl (.call "poured_groups" 2 [v0,v2]) (.call "rank_of_row" 1 [(.ix v0 (.int 0))]))]) [sf Kd,sf P,sf (.dtf (G.map λkv=>(kv.1,.lst kv.2))),y3,y4]=okf (.tup ((eA (λe=>rkK e.1) es).map enc)):=by show cE _ (aX (evE _ _ _) (.ok []))=_;rw[c2];rfl
 refine bK rfl ?_;show evB _ pY [sf Kd,sf P,none,none,none]=_;unfold pY;rw[bR s1,bR s2,cX,m6,c3];rfl
end
def ix_s{m:Md}{i:Int}{c:Nat}(h:atI z.cps.toList i=some c):op2 ixD (.ok m (.str z)) (.ok m' (.int i))=okf (.str ⟨#[c]⟩):=cC (by show(atI z.cps.toList i).map _=_;rw[h];rfl)
def ce(ns:List Int)(i:Int):Int:=if 0<=i then(ns[i.toNat]?).getD 0 else 0
def cell(k:Nat)(ns:List Int){i:Int}(h0:0<=i):(Wk (k+1)).Φ "_law_cell_at" [.lst (ns.map .int),.int i]=okf (.int (ce ns i)):=by
 rw[aQ9];refine bK rfl ?_;show evB _ m9 [sf (.lst (ns.map .int)),si i]=_;obtain⟨j,rfl⟩:=aZG h0;unfold ce;rw[if_pos h0];by_cases h:j<ns.length
 . have hx:op2 ixD (okf (.lst (ns.map .int))) (okf (.int j))=okf (.int ns[j]):=bP (cG (by rw[aU2,aWL h];rfl))
   have h':((j:Int)<(ns.length:Int)):=by omega
   simp[m9,h',hx,h]
 . have h':¬ ((j:Int)<(ns.length:Int)):=by omega
   simp[m9,h',aYI (Nat.le_of_not_lt h)]
def uR(k:Nat)(ns:List Int){i:Int}(h0:0<=i):aO 2 ((Wk (k+1)).Φ "_law_cell_at") (.ok [(.fz,.lst (ns.map .int)),(.fz,.int i)])=okf (.int (ce ns i)):=iQ (cell k ns h0)
def qK{n:Int}(h0:0<=n)(h1:n<=1000){m:Md}:e9 (.ok [(m,.int n)])=okf (.lst (bJ 0 n)):=by unfold e9;rw[bE.thn_ok];dsimp only;rw[if_pos];simp only[aVL,aV9];omega
def mem_range{d:D}{n:Int}(h:d∈bJ 0 n):∃i:Nat,(i:Int)<n/\d=.int i:=by simp only[bJ,aY7,aTO]at h;obtain⟨i,hi,rfl⟩:=h;exact⟨i,by omega,by simp⟩
def aSB(k:Nat):(Wk (k+1)).Φ "_law_alike" [.non,.non]=okf (.bl true):=by rw[nE];refine bK rfl ?_;show evB _ bX [sf .non,sf .non,none]=_;simp[bX]
def al_bl(k:Nat)(b:Bool):(Wk (k+1)).Φ "_law_alike" [.bl b,.bl b]=okf (.bl true):=by rw[nE];refine bK rfl ?_;show evB _ bX [sf (.bl b),sf (.bl b),none]=_;have i1:bN [(.fz,.bl b),(.fz,.ty "bool")]=some (.fz,.bl true):=rfl;simp[bX,i1,Ty.id]
def aSC(k:Nat)(i:Int):(Wk (k+1)).Φ "_law_alike" [.int i,.int i]=okf (.bl true):=by rw[nE];refine bK rfl ?_;show evB _ bX [si i,si i,none]=_;have i1:bN [(.fz,.int i),(.fz,.ty "bool")]=some (.fz,.bl false):=rfl;have i2:bN [(.fz,.int i),(.fz,.ty "int")]=some (.fz,.bl true):=rfl;simp[bX,i1,i2,Ty.id]
def aSD(k:Nat)(z:Str):(Wk (k+1)).Φ "_law_alike" [.str z,.str z]=okf (.bl true):=by rw[nE];refine bK rfl ?_;show evB _ bX [sf (.str z),sf (.str z),none]=_;have i1:bN [(.fz,.str z),(.fz,.ty "bool")]=some (.fz,.bl false):=rfl;have i2:bN [(.fz,.str z),(.fz,.ty "int")]=some (.fz,.bl false):=rfl;have i3:bN [(.fz,.str z),(.fz,.ty "str")]=some (.fz,.bl true):=rfl;simp[bX,i1,i2,i3,Ty.id]
def aSE(k:Nat){c:D}(hx:∀i:Nat,∀hi:i<ds.length,op2 ixD (okf c) (okf (.int (i:Int)))=okf ds[i])(hp:∀d∈ds,(Wk k).Φ "_law_alike" [d,d]=okf (.bl true)):∃x,eO (okf (.lst (bJ 0 (ds.length:Int)))) [sf c,sf c,none] (aP (.nm 2)) (evB (Wk k) kY)=.nx [sf c,sf c,x]:=by
 obtain⟨ρ',e,x,rfl⟩:=aQF (m:=.fz) (ds:=bJ 0 (ds.length:Int)) (k:=aP (.nm 2)) (body:=evB (Wk k) kY) (ρ:=[sf c,sf c,none])
  (λρ=>∃x,ρ=[sf c,sf c,x]) (λd hd ρ hρ=>by
   obtain⟨x,rfl⟩:=hρ;obtain⟨i,hi,rfl⟩:=mem_range hd;have hi':i<ds.length:=by omega
   have xx:=hx i hi';have a':aO 2 ((Wk k).Φ "_law_alike") (.ok [(.fz,ds[i]),(.fz,ds[i])])=okf (.bl true):=iQ (hp ds[i] (aWM hi'));refine⟨[sf c,sf c,si (i:Int)],[sf c,sf c,si (i:Int)],by simp,.inl ?_,_,rfl⟩
   simp[kY,xx,a']) ⟨_,rfl⟩
 exact⟨x,e⟩
def aSF{c:D}(h0:cU c=false)(i1:bN [(.fz,c),(.fz,.ty "bool")]=some (.fz,.bl false))(i2:bN [(.fz,c),(.fz,.ty "int")]=some (.fz,.bl false))(i3:bN [(.fz,c),(.fz,.ty "str")]=some (.fz,.bl false)):evB (Wk k) (bX.take 4) [sf c,sf c,none]=.nx [sf c,sf c,none]:=by simp[bX,h0,i1,i2,i3,Ty.id]
def aSG{c:D}{n:Int}{b:Bool}(i4:bN [(.fz,c),(.fz,.ty "list")]=some (.fz,.bl b))(i5:bN [(.fz,c),(.fz,.ty "tuple")]=some (.fz,.bl !b))(hn:dC [(.fz,c)]=some (.fz,.int n)):evB (Wk k) ((bX.drop 4).take 1) [sf c,sf c,none]=.nx [sf c,sf c,none]:=by
 cases b with
 |true=>simp[bX,i4,hn,Ty.id]
 |false=>simp[bX,i4,i5,hn,Ty.id]
def aSH{c:D}{x:Option (Bool×D)}(hn:dC [(.fz,c)]=some (.fz,.int (n:Int)))(hl:n<=999)(e:eO (okf (.lst (bJ 0 (n:Int)))) [sf c,sf c,none] (aP (.nm 2)) (evB (Wk k) kY)=.nx [sf c,sf c,x]):evB (Wk k) (bX.drop 5) [sf c,sf c,none]=.rt .fz (.bl true):=by
 have er:=qK (m:=.fz) (n:=(n:Int)) (by omega) (by omega)
 simp[bX,hn,er,e]
def aSI{c:D}{b:Bool}{x:Option (Bool×D)}(h0:cU c=false)(i1:bN [(.fz,c),(.fz,.ty "bool")]=some (.fz,.bl false))(i2:bN [(.fz,c),(.fz,.ty "int")]=some (.fz,.bl false))(i3:bN [(.fz,c),(.fz,.ty "str")]=some (.fz,.bl false))(i4:bN [(.fz,c),(.fz,.ty "list")]=some (.fz,.bl b))(i5:bN [(.fz,c),(.fz,.ty "tuple")]=some (.fz,.bl !b))(hn:dC [(.fz,c)]=some (.fz,.int (n:Int)))(hl:n<=999)(e:eO (okf (.lst (bJ 0 (n:Int)))) [sf c,sf c,none] (aP (.nm 2)) (evB (Wk k) kY)=.nx [sf c,sf c,x]):(Wk (k+1)).Φ "_law_alike" [c,c]=okf (.bl true):=by rw[nE];refine bK rfl ?_;show evB (Wk k) bX [sf c,sf c,none]=_;have ea:bX=bX.take 4++((bX.drop 4).take 1++bX.drop 5):=rfl;rw[ea,hU,aSF h0 i1 i2 i3];show evB (Wk k) ((bX.drop 4).take 1++bX.drop 5) [sf c,sf c,none]=_;rw[hU,aSG i4 i5 hn];exact aSH hn hl e
def aSJ(k:Nat)(hl:ds.length<=999)(hp:∀d∈ds,(Wk k).Φ "_law_alike" [d,d]=okf (.bl true)):(Wk (k+1)).Φ "_law_alike" [.tup ds,.tup ds]=okf (.bl true):=by obtain⟨x,e⟩:=aSE k (c:=.tup ds) (λi hi=>qE (cG (aWL hi))) hp;exact aSI (b:=false) rfl rfl rfl rfl rfl rfl rfl hl e
def alike:∀(n:Nat) {d:D},Pl n d->∀K,n<K->(Wk K).Φ "_law_alike" [d,d]=okf (.bl true):=by
 intro n d h
 induction h with
 |non=>intro K hk;obtain⟨K,rfl⟩:=up hk;exact aSB K
 |bl b=>intro K hk;obtain⟨K,rfl⟩:=up hk;exact al_bl K b
 |int i=>intro K hk;obtain⟨K,rfl⟩:=up hk;exact aSC K i
 |str z=>intro K hk;obtain⟨K,rfl⟩:=up hk;exact aSD K z
 |tup h hl ih=>intro K hk;obtain⟨K,rfl⟩:=up hk;exact aSJ K hl λd hd=>ih d hd K (by omega)
def nth(f:List Str)(k:Nat):Str:=f.getD k Str.empty
def l0:eN (.ok [])=.ok .fr (.lst []):=by rfl
def aSK{g:Nat}:(z++⟨#[g]⟩:Str).length=z.length+1:=by show(z.cps++#[g]).size=_;rw[Array.size_append];rfl
theorem uS{k:D->Rho->Option Rho}{body:Rho->aF}(I:Nat->Rho->Prop):∀(ds:List D) (i:Nat) {ρ:Rho},(∀j d,ds[j]? = some d->∀ρ,I (i+j) ρ->∃ρ1 ρ2,k d ρ=some ρ1/\body ρ1=.nx ρ2/\I (i+j+1) ρ2)->I i ρ->∃ρ',cI k body ds ρ=.nx ρ'/\I (i+ds.length) ρ'
 |[],i,ρ,_,h=>⟨ρ,rfl,h⟩
 |d::ds,i,ρ,hs,h=>by
  obtain⟨ρ1,ρ2,e1,e2,h2⟩:=hs 0 d rfl ρ h;obtain⟨ρ',e3,h3⟩:=uS (k:=k) (body:=body) I ds (i+1) (λj d hd ρ hρ=>by
   have:=hs (j+1) d (by rw[aZD];exact hd) ρ (by rw[show i+(j+1)=i+1+j by omega];exact hρ)
   rw[show i+(j+1)+1=i+1+j+1 by omega]at this
   exact this) h2
  refine⟨ρ',?_,by rw[show i+(d::ds).length=i+1+ds.length by rw[aUJ];omega];exact h3⟩
  unfold cI;rw[e1];dsimp only;rw[e2];exact e3
def aCX{d:D}(h:(bJ 0 (n:Int))[j]? = some d):j<n/\d=.int (j:Int):=by
 simp only[bJ,aU2]at h;by_cases hj:j<n
 . refine⟨hj,?_⟩;rw[aWP (by omega)]at h
   simp at h;exact h.symm
 . rw[aYI (by simp;omega)]at h
   cases h
def aCY(n:Nat):(bJ 0 (n:Int)).length=n:=by simp[bJ]
def L36:Str:=Str.ofString "abcdefghijklmnopqrstuvwxyz0123456789"
def mst(j:Nat):Int:=if j=0 then 26 else 36
def m_l:eN (.ok [(.fz,.int 26),(.fz,.int 36)])=.ok .fr (.lst [.int 26,.int 36]):=by rfl
def nH(j:Nat):0<mst j/\mst j<=36:=by unfold mst;split <;> decide
def l36:(L36.cps.toList).length=36:=by decide +kernel
def aCZ(v:Int)(j:Nat):∃g,L36.cps.toList[(v % mst j).toNat]? = some g/\∀m m':Md,op2 ixD (.ok m (.str L36)) (.ok m' (.int (v % mst j)))=okf (.str ⟨#[g]⟩):=by
 obtain⟨p,q⟩:=nH j;have h0:=aX4 v (show mst j≠0 by omega)
 have h1:=aX3 v p;have hl:=l36;obtain⟨i,hi⟩:=aZG h0;have hx:i<L36.cps.toList.length:=by omega
 refine⟨L36.cps.toList[i],by rw[hi];exact aWL hx,λm m'=>?_⟩
 rw[hi];exact ix_s (cG (aWL hx))
def aC0(j:Nat):op2 ixD (.ok .fr (.lst [.int 26,.int 36])) (okf (.int (if 0<j then 1 else 0)))=okf (.int (mst j)):=by
 cases j with
 |zero=>exact bP (cG (j:=0) rfl)
 |succ j=>rw[if_pos (Nat.succ_pos j)];exact bP (cG (j:=1) rfl)
def iU(c:Int)(a k:Nat):Option Nat:=L36.cps.toList[((c / 240+5 * (k:Int)) % mst a).toNat]?
def gdS(i g:Nat):Prop:=∃v:Nat,v<(mst i).toNat/\L36.cps.toList[v]? = some g
def aC1{v:Int}{g:Nat}(h:L36.cps.toList[(v % mst j).toNat]? = some g):gdS j g:=by
 obtain⟨p,q⟩:=nH j;have h0:=aX4 v (show mst j≠0 by omega)
 have h1:=aX3 v p;exact⟨_,by omega,h⟩
def inv(c:Int)(a k j:Nat)(z:Str):Prop:=z.length=j/\(a<j->z.cps.toList[a]? = iU c a k)/\∀i g,z.cps.toList[i]? = some g->gdS i g
def aC2{a:Nat}{g:Nat}(h:inv c a k j z)(hg:a=j->iU c a k=some g)(hq:gdS j g):inv c a k (j+1) (z++⟨#[g]⟩):=by
 have ec:(z++⟨#[g]⟩:Str).cps.toList=z.cps.toList++[g]:=by show(z.cps++#[g]).toList=_;simp
 have el:z.cps.toList.length=j:=by rw[aT2];exact h.1
 refine⟨by rw[aSK,h.1],λha=>?_,λi g' hi=>?_⟩
 . rw[ec];by_cases e:a=j
   . rw[aUZ (by omega),hg e]
     rw[show a-z.cps.toList.length=0 by omega];rfl
   . rw[aU1 (by omega)]
     exact h.2.1 (by omega)
 . rw[ec]at hi;by_cases e:i<j
   . rw[aU1 (by omega)]at hi
     exact h.2.2 i g' hi
   . rw[aUZ (by omega)]at hi
     by_cases e2:i=j
     . subst e2;rw[show i-z.cps.toList.length=0 by omega]at hi
       have:g=g':=by simpa using hi
       rw[<- this];exact hq
     . rw[aYI (by rw[aVT];omega)]at hi;cases hi
def uT(K:Nat){a s:Nat}(hs:s<=40)(hk:k<8)(x1:Option (Bool×D))(x5:Option (Bool×D))(x8 x9 x10:Option (Bool×D)):∃z y8 y9 y10,inv c a k s z/\eO (okf (.lst (bJ 0 (s:Int)))) [si c,x1,sf (.str L36),si (s:Int),si (a:Int),x5,si (k:Int),sf (.str (Str.ofString "")),x8,x9,x10] (aP (.nm 8)) (evB (Wk K) iS)=.nx [si c,x1,sf (.str L36),si (s:Int),si (a:Int),x5,si (k:Int),sf (.str z),y8,y9,y10]:=by
 obtain⟨ρ',e,I⟩:=uS (k:=aP (.nm 8)) (body:=evB (Wk K) iS)
  (λj ρ=>∃z y8 y9 y10,inv c a k j z/\ρ=[si c,x1,sf (.str L36),si (s:Int),si (a:Int),x5,si (k:Int),sf (.str z),y8,y9,y10])
  (bJ 0 (s:Int)) 0 (ρ:=[si c,x1,sf (.str L36),si (s:Int),si (a:Int),x5,si (k:Int),sf (.str (Str.ofString "")),x8,x9,x10])
  (λj d hd ρ hρ=>by
   obtain⟨z,y8,y9,y10,hz,rfl⟩:=hρ;obtain⟨hj,rfl⟩:=aCX hd;rw[aW6]at hz ⊢;have d1:op2 (bW .FloorDiv) (okf (.int (c / 7))) (okf (.int ((j:Int)+1)))=okf (.int (c / 7 / ((j:Int)+1))):=pJ (by omega) (by omega)
   have m1:op2 (bW .Mult) (okf (.int 5)) (okf (.int (k:Int)))=okf (.int (5 * (k:Int))):=aAV (by decide)
   have hsz:sizeLine=16777216:=aUF;have mp:=(nH j).1;by_cases e:j=a
   . obtain⟨g,hg,eg⟩:=aCZ (c / 240+5 * (k:Int)) j;have hla:z.length+(⟨#[g]⟩:Str).length<=sizeLine:=by have:(⟨#[g]⟩:Str).length=1:=rfl;have:=hz.1;omega
     have eb:((j:Int)==(a:Int))=true:=by rw[e];exact aWW _
     refine⟨[si c,x1,sf (.str L36),si (s:Int),si (a:Int),x5,si (k:Int),sf (.str z),si (j:Int),y9,y10],[si c,x1,sf (.str L36),si (s:Int),si (a:Int),x5,si (k:Int),sf (.str (z++⟨#[g]⟩)),si (j:Int),si (mst j),si (c / 240+5 * (k:Int))],by simp,?_,_,_,_,_,aC2 hz (λh=>by unfold iU;rw[h];exact hg) (aC1 hg),rfl⟩
     have mm:=hO (m:=.fz) (n:=.fz) (i:=c / 240+5 * (k:Int)) mp;have mi:=aC0 j;simp[iS,Ty.f,m_l,mi,d1,m1,eb,mm,eg,tR hla]
   . obtain⟨g,hg,eg⟩:=aCZ (c / 7 / ((j:Int)+1)) j;have hla:z.length+(⟨#[g]⟩:Str).length<=sizeLine:=by have:(⟨#[g]⟩:Str).length=1:=rfl;have:=hz.1;omega
     have eb:((j:Int)==(a:Int))=false:=aTG.mpr (by omega)
     refine⟨[si c,x1,sf (.str L36),si (s:Int),si (a:Int),x5,si (k:Int),sf (.str z),si (j:Int),y9,y10],[si c,x1,sf (.str L36),si (s:Int),si (a:Int),x5,si (k:Int),sf (.str (z++⟨#[g]⟩)),si (j:Int),si (mst j),si (c / 7 / ((j:Int)+1))],by simp,?_,_,_,_,_,aC2 hz (λh=>absurd h.symm e) (aC1 hg),rfl⟩
     have mm:=hO (m:=.fz) (n:=.fz) (i:=c / 7 / ((j:Int)+1)) mp;have mi:=aC0 j;simp[iS,Ty.f,m_l,mi,d1,m1,eb,mm,eg,tR hla])
  ⟨_,_,_,_,⟨by decide +kernel,λh=>absurd h (Nat.not_lt_zero _),λi g h=>by rw[show(Str.ofString "").cps.toList=[] by decide +kernel]at h;cases h⟩,rfl⟩
 rw[aW6,aCY]at I;obtain⟨z,y8,y9,y10,hz,rfl⟩:=I;exact⟨z,y8,y9,y10,hz,e⟩
def dS(z:Str):Prop:=1<=z.length/\z.length<=40/\∀i g,z.cps.toList[i]? = some g->gdS i g
abbrev tx(l:List Nat):Str:=⟨l.toArray⟩
def uU{l:List Nat}:(tx l).length=l.length:=by simp[tx,Str.length]
def aC3(z:Str):z=tx z.cps.toList:=by cases z;simp[tx]
def aC4{l:List Nat}{a:Nat}(h:a<l.length):Txt.slice (tx l) none (some ((a:Int)+1))=tx (l.take (a+1)):=by
 rw[eq_of_beq (PyProof.Rows.slice_closes_toL (x:=tx l) (j:=(a:Int)+1) (by omega) (by rw[uU];omega))]
 have:((a:Int)+1).toNat=a+1:=by omega
 simp[tx,this]
def cutz{a s:Nat}(h:inv c a k s z)(ha:a<s)(hs:s<=40):∃y,Txt.slice z none (some ((a:Int)+1))=y/\dS y/\y.cps.toList[a]? = iU c a k:=by
 have el:z.cps.toList.length=s:=by rw[aT2];exact h.1
 refine⟨_,rfl,?_,?_⟩
 . rw[aC3 z,aC4 (by omega)]
   refine⟨by rw[uU,aUX];omega,by rw[uU,aUX];omega,λi g hi=>?_⟩
   have hi:(z.cps.toList.take (a+1))[i]? = some g:=hi;rw[List.getElem?_take]at hi;split at hi
   . exact h.2.2 i g hi
   . cases hi
 . rw[aC3 z,aC4 (by omega)]
   show((z.cps.toList.take (a+1)).toArray).toList[a]? = _;rw[List.getElem?_take];rw[if_pos (by omega)]
   exact h.2.1 ha
def aSL{a k':Nat}(hk:k<8)(hk':k'<8)(h:iU c a k=iU c a k'):k=k':=by
 have nd:∀i<36,∀j<36,L36.cps.toList[i]? = L36.cps.toList[j]? -> i=j:=by decide +kernel
 obtain⟨p,q⟩:=nH a;have a0:=aX4 (c / 240+5 * (k:Int)) (show mst a≠0 by omega)
 have a1:=aX3 (c / 240+5 * (k:Int)) p;have b0:=aX4 (c / 240+5 * (k':Int)) (show mst a≠0 by omega)
 have b1:=aX3 (c / 240+5 * (k':Int)) p;have e:=nd _ (by omega) _ (by omega) h
 have e':(c / 240+5 * (k:Int)) % mst a=(c / 240+5 * (k':Int)) % mst a:=by omega
 have hm:mst a=26\/mst a=36:=by unfold mst;split <;> simp
 clear e h a0 a1 b0 b1 p q
 rcases hm with hm|hm <;> rw[hm]at e' <;> omega
def iV(c:Int)(a:Nat)(zs:List Str):Prop:=∀k,k<zs.length->dS (nth zs k)/\(nth zs k).cps.toList[a]? = iU c a k
def aC5{a:Nat}(h:iV c a zs)(h1:dS y)(h2:y.cps.toList[a]? = iU c a zs.length):iV c a (zs++[y]):=by
 intro k hk;rw[aU4]at hk;unfold nth;rw[aWK];by_cases e:k<zs.length
 . rw[aU1 e,<- aWK];exact h k e
 . have:k=zs.length:=by simp at hk;omega
   subst this;rw[aUZ (aUA _),Nat.sub_self];exact⟨h1,h2⟩
def aSM{W:WD}{s:Nat}(hs:s<=40){x0 x1 x2 x4 x5 x6 x7 x8 x9 x10 y8 y9 y10:Option (Bool×D)}(e:eO (okf (.lst (bJ 0 (s:Int)))) [x0,x1,x2,si (s:Int),x4,x5,x6,sf (.str (Str.ofString "")),x8,x9,x10] (aP (.nm 8)) (evB W iS)=.nx [x0,x1,x2,si (s:Int),x4,x5,x6,sf (.str z),y8,y9,y10]):evB W (dR.take 2) [x0,x1,x2,si (s:Int),x4,x5,x6,x7,x8,x9,x10]=.nx [x0,x1,x2,si (s:Int),x4,x5,x6,sf (.str z),y8,y9,y10]:=by
 have er:=qK (m:=.fz) (n:=(s:Int)) (by omega) (by omega)
 have ea:dR.take 2=[.set 7 (.str (Str.ofString "")),.for (.rng1 v3) (.nm 8) iS]:=rfl;rw[ea];generalize bJ 0 (s:Int)=R at *;generalize iS=B at *;generalize Str.ofString "" = E0 at *;have st:[x0,x1,x2,si (s:Int),x4,x5,x6,x7,x8,x9,x10].set 7 (sf (D.str E0))=[x0,x1,x2,si (s:Int),x4,x5,x6,sf (.str E0),x8,x9,x10]:=rfl;have g3:bB [x0,x1,x2,si (s:Int),x4,x5,x6,sf (.str E0),x8,x9,x10] 3=okf (.int (s:Int)):=rfl;have c1:aX (okf (.int (s:Int))) (.ok [])=.ok [(.fz,.int (s:Int))]:=rfl;rw[cX,g9,e_str,x_set,aF.thn_nx,st,cX,kU,tP,fF,g3,c1,er,e,aF.thn_nx,iP]
def aSN{a b:D}(t:Bool):op2 ixD (.ok .fr (.lst [a,b])) (okf (.int (if t=true then 1 else 0)))=okf (if t=true then b else a):=by
 cases t with
 |false=>exact bP (cG (j:=0) rfl)
 |true=>exact bP (cG (j:=1) rfl)
def aSO{W:WD}{a n:Int}{x1 x2 x3 y8 y9 y10:Option (Bool×D)}(hl:ds.length<sizeLine)(ey:Txt.slice z none (some (a+1))=y):evB W (dR.drop 2) [si c,x1,x2,x3,si a,some (true,.lst ds),si n,sf (.str z),y8,y9,y10]=.nx [si c,x1,x2,x3,si a,some (true,.lst (ds++[if((c / 5 % 3==1)&&(n % 2==1))=true then .str y else .str z])),si n,sf (.str z),y8,y9,y10]:=by
 have sl:∀ρ:Rho,ρ[4]? = some (si a)->aK (slP (okf (.str z)) (evO W none) (evO W (some (.bin .Add v4 (.int 1)))) ρ)=okf (.str y):=by
  intro ρ h;simp only[evO,slP,Res.thn_ok,cS];have:evE W (.bin .Add v4 (.int 1)) ρ=okf (.int (a+1)):=by simp[bB,h]
  rw[this];simp only[Res.thn_ok,ey];rfl
 have ea:dR.drop 2=[.app 5 (.ix (.lst [v7,(.frz (.slice v7 none (some (.bin .Add v4 (.int 1)))))]) (.tcall .int [(.andL [(.cmp .Eq (.bin .Mod (.bin .FloorDiv v0 (.int 5)) (.int 3)) (.int 1)),(.cmp .Eq (.bin .Mod v6 (.int 2)) (.int 1))])]))]:=rfl;rw[ea,cX,aAU,tO,aAT,tQ,gD,gD,m5,fF,gC,pH,fF];show((eF _ 5 (op2 ixD (eN (aX (okf (.str z)) (aX (aK (slP (okf (.str z)) (evO W none) (evO W (some (.bin .Add v4 (.int 1)))) _)) (.ok [])))) _))).thn _=_;rw[sl _ rfl];have ei:cE (Ty.f .int) (bI W [(.andL [(.cmp .Eq (.bin .Mod (.bin .FloorDiv v0 (.int 5)) (.int 3)) (.int 1)),(.cmp .Eq (.bin .Mod v6 (.int 2)) (.int 1))])] [si c,x1,x2,x3,si a,some (true,.lst ds),si n,sf (.str z),y8,y9,y10])=okf (.int (if((c / 5 % 3==1)&&(n % 2==1))=true then 1 else 0)):=by
  clear sl ea ey hl
  generalize ds=ds';simp
 rw[ei];show((eF _ 5 (op2 ixD (.ok .fr (.lst [.str z,.str y])) _))).thn _=_;rw[aSN];generalize (if((c / 5 % 3==1)&&(n % 2==1))=true then D.str y else D.str z)=v;show(if ds.length<sizeLine then _ else _:aF).thn _=_;rw[if_pos hl];show evB W [] _=_;rw[iP];rfl
def turn(K:Nat){a s:Nat}(hs:s<=40)(ha:a<s)(hz:iV c a zs)(hk:zs.length<8)(x1 x7 x8 x9 x10:Option (Bool×D)):∃y y7 y8 y9 y10,iV c a (zs++[y])/\evB (Wk K) dR [si c,x1,sf (.str L36),si (s:Int),si (a:Int),some (true,.lst (zs.map .str)),si (zs.length:Int),x7,x8,x9,x10]=.nx [si c,x1,sf (.str L36),si (s:Int),si (a:Int),some (true,.lst ((zs++[y]).map .str)),si (zs.length:Int),y7,y8,y9,y10]:=by
 obtain⟨z,y8,y9,y10,hi,e⟩:=uT K (c:=c) (a:=a) (k:=zs.length) hs hk x1 (some (true,.lst (zs.map .str))) x8 x9 x10;obtain⟨y,ey,y1,y2⟩:=cutz hi ha hs;have hsz:sizeLine=16777216:=aUF;have hl:(zs.map D.str).length<sizeLine:=by rw[aUL];omega
 have q:∀t:Bool,iV c a (zs++[if t=true then y else z]):=by
  intro t;cases t with
  |true=>exact aC5 hz y1 y2
  |false=>exact aC5 hz (show dS z from⟨by have:=hi.1;omega,by have:=hi.1;omega,hi.2.2⟩) (hi.2.1 ha)
 refine⟨_,sf (.str z),y8,y9,y10,q ((c / 5 % 3==1)&&((zs.length:Int) % 2==1)),?_⟩;have ea:dR=dR.take 2++dR.drop 2:=rfl;rw[ea,hU,aSM hs e];show evB (Wk K) (dR.drop 2) _=_;rw[aSO hl ey];rw[aY9];cases((c / 5 % 3==1)&&((zs.length:Int) % 2==1)) <;> rfl
def six:List D:=[.int 1,.int 2,.int 3,.int 5,.int 8,.int 40]
def six_l:eN (.ok [(.fz,.int 1),(.fz,.int 2),(.fz,.int 3),(.fz,.int 5),(.fz,.int 8),(.fz,.int 40)])=.ok .fr (.lst six):=by rfl
def six_n{d:D}(h:d∈six):∃s:Nat,0<s/\s<=40/\d=.int (s:Int):=by
 simp only[six,aTT,aX2,aXL]at h;rcases h with rfl|rfl|rfl|rfl|rfl|rfl
 . exact⟨1,by decide,by decide,rfl⟩
 . exact⟨2,by decide,by decide,rfl⟩
 . exact⟨3,by decide,by decide,rfl⟩
 . exact⟨5,by decide,by decide,rfl⟩
 . exact⟨8,by decide,by decide,rfl⟩
 . exact⟨40,by decide,by decide,rfl⟩
def aSP{W:WD}(c:Int):∃s a:Nat,s<=40/\a<s/\evB W (gE.take 4) [si c,si (6),none,none,none,none,none,none,none,none,none]=.nx [si c,si (6),sf (.str L36),si (s:Int),si (a:Int),some (true,.lst []),none,none,none,none,none]:=by
 obtain⟨d,hd,ed⟩:=nF six c 6 rfl (by decide)
 obtain⟨s,h0,h1,rfl⟩:=six_n hd;have ex:=bP (m:=.fr) (m':=.fz) ed;have a0:=aX4 (c / 6) (show(s:Int)≠0 by omega)
 have a1:=aX3 (c / 6) (show(0:Int)<(s:Int) by omega)
 obtain⟨a,ha⟩:=aZG a0;have em:op2 (bW .Mod) (okf (.int (c / 6))) (okf (.int (s:Int)))=okf (.int (a:Int)):=by rw[hO (by omega),ha]
 refine⟨s,a,h1,by omega,?_⟩
 have ea : gE.take 4 = [.set 2 (.str L36),
     .set 3 (.ix (.lst [(.int 1),(.int 2),(.int 3),(.int 5),(.int 8),(.int 40)]) (.bin .Mod v0 (.int 6))),
     .set 4 (.frz (.bin .Mod (.bin .FloorDiv v0 (.int 6)) v3)),
     .set 5 (.lst [])]:=rfl
 rw[ea];generalize L36=l;simp[six_l,ex,em,l0]
def aSQ(K:Nat){a s:Nat}(hs:s<=40)(ha:a<s)(x1:Option (Bool×D))(hn:n<=8):∃zs y6 y7 y8 y9 y10,zs.length=n/\iV c a zs/\eO (okf (.lst (bJ 0 (n:Int)))) [si c,x1,sf (.str L36),si (s:Int),si (a:Int),some (true,.lst []),none,none,none,none,none] (aP (.nm 6)) (evB (Wk K) dR)=.nx [si c,x1,sf (.str L36),si (s:Int),si (a:Int),some (true,.lst (zs.map .str)),y6,y7,y8,y9,y10]:=by
 obtain⟨ρ',e,I⟩:=uS (k:=aP (.nm 6)) (body:=evB (Wk K) dR)
  (λj ρ=>∃zs x6 x7 x8 x9 x10,zs.length=j/\iV c a zs/\ρ=[si c,x1,sf (.str L36),si (s:Int),si (a:Int),some (true,.lst (zs.map .str)),x6,x7,x8,x9,x10])
  (bJ 0 (n:Int)) 0 (ρ:=[si c,x1,sf (.str L36),si (s:Int),si (a:Int),some (true,.lst []),none,none,none,none,none])
  (λj d hd ρ hρ=>by
   obtain⟨zs,x6,x7,x8,x9,x10,hz,ht,rfl⟩:=hρ;obtain⟨hj,rfl⟩:=aCX hd;rw[aW6]at hz ⊢;subst hz;obtain⟨y,y7,y8,y9,y10,hy,ey⟩:=turn K hs ha ht (by omega) x1 x7 x8 x9 x10
   refine⟨[si c,x1,sf (.str L36),si (s:Int),si (a:Int),some (true,.lst (zs.map .str)),si (zs.length:Int),x7,x8,x9,x10],_,by rw[sg_nm];rfl,ey,zs++[y],_,y7,y8,y9,y10,by rw[aU4];rfl,hy,rfl⟩)
  ⟨[],none,none,none,none,none,rfl,λk hk=>absurd hk (Nat.not_lt_zero _),rfl⟩
 rw[aW6,aCY]at I;obtain⟨zs,y6,y7,y8,y9,y10,hz,ht,rfl⟩:=I;exact⟨zs,y6,y7,y8,y9,y10,hz,ht,e⟩
def aSR{W:WD}{x0 x2 x3 x4 y5 y6 y7 y8 y9 y10:Option (Bool×D)}{zs:List D}(e:eO (okf (.lst (bJ 0 ((6:Nat):Int)))) [x0,si (6),x2,x3,x4,y5,none,none,none,none,none] (aP (.nm 6)) (evB W dR)=.nx [x0,si (6),x2,x3,x4,some (true,.lst zs),y6,y7,y8,y9,y10]):evB W (gE.drop 4) [x0,si (6),x2,x3,x4,y5,none,none,none,none,none]=.rt .fr (.lst zs):=by
 have er:=qK (m:=.fz) (n:=(6:Int)) (by omega) (by omega)
 have ea:gE.drop 4=[.for (.rng1 v1) (.nm 6) dR,.retV 5]:=rfl;have e8:((6:Nat):Int)=6:=rfl;rw[e8]at e;rw[ea];generalize bJ 0 (6:Int)=R at *;generalize dR=B at *;rw[cX,kU,tP,fF];show(eO (e9 (.ok [(.fz,.int (6:Int))])) _ _ _).thn _=_;rw[er,e];rw[aF.thn_nx,cX,aP6];rfl
def aSS{a:Nat}(h:iV c a zs)(hl:zs.length=6):zs.Nodup:=by
 refine aY6.mpr λi j hi hj hij e=>?_;have n:∀k,∀hk:k<zs.length,nth zs k=zs[k]:=λk hk=>by unfold nth;rw[aWK,aWL hk];rfl
 have h1:=(h i hi).2;have h2:=(h j hj).2;rw[n i hi,e,<- n j hj,h2]at h1;have:=aSL (c:=c) (a:=a) (by omega) (by omega) h1
 omega
def names(K:Nat)(c:Int):∃zs:List Str,zs.length=6/\zs.Nodup/\(∀z∈zs,dS z)/\(Wk (K+1)).Φ "_law_names" [.int c,.int 6]=.ok .fr (.lst (zs.map .str)):=by
 obtain⟨s,a,hs,ha,e1⟩:=aSP (W:=Wk K) c;obtain⟨zs,y6,y7,y8,y9,y10,hz,ht,e2⟩:=aSQ K (c:=c) hs ha (si (6)) (n:=6) (by decide)
 refine⟨zs,hz,aSS ht hz,λz hm=>?_,?_⟩
 . obtain⟨i,hi,rfl⟩:=aWJ hm;have:=(ht i hi).1;unfold nth at this;rw[aWK,aWL hi]at this;exact this
 rw[aRA];refine bK rfl ?_;show evB (Wk K) gE [si c,si (6),none,none,none,none,none,none,none,none,none]=_;have ea:gE=gE.take 4++gE.drop 4:=rfl;rw[ea,hU,e1,aF.thn_nx];exact aSR e2
def k7(c:D):Bool:=match c with|.str x=>eZ x (Str.ofString "abcdefghijklmnopqrstuvwxyz")||eZ x (Str.ofString "0123456789")|_=>false
def hd(z:Str):Str:=⟨#[z.cps.toList.headD 0]⟩
def jR(z:Str):Bool:=!(decide (z.length<1)||decide (40<z.length))&&(eZ (hd z) (Str.ofString "abcdefghijklmnopqrstuvwxyz")&&(dD z).all k7)
def aST(k:Nat){x:Str}:(Wk (k+1)).Φ "is_name_sign" [.str x]=okf (.bl (k7 (.str x))):=by rw[aQW];refine bK rfl ?_;show evB _ pP [sf (.str x)]=_;simp[pP,k7]
def aSU{d:D}(h:d∈dD z):∃x:Str,d=.str x:=by simp only[dD,aY7]at h;obtain⟨c,_,rfl⟩:=h;exact⟨_,rfl⟩
theorem aC6{f:D->Bool}:∀{ds:List D},eC (ds.map λd=>.bl (f d))=some (ds.map f)
 |[]=>rfl
 |d::ds=>by show(eC (ds.map _)).map _=_;rw[aC6];rfl
def aSV:(dD z).length=z.length:=by simp[dD,Str.length]
def all_map{m:Md}{f:D->Bool}:jB [(m,.lst (ds.map λd=>.bl (f d)))]=some (.fz,.bl (ds.all f)):=by show(eC _).map _=_;rw[aC6];simp[Function.comp_def]
def aSW(h:1<=z.length){m:Md}:op2 ixD (.ok m (.str z)) (.ok m' (.int 0))=okf (.str (hd z)):=by
 refine cC ?_;show(atI z.cps.toList 0).map _=_;have:z.cps.toList≠[]:=by intro e;simp[Str.length,<- aT2,e]at h
 obtain⟨a,l,e⟩:=List.exists_cons_of_ne_nil this;rw[e,show atI (a::l) (0:Int)=some a from cG (j:=0) rfl]
 unfold hd;rw[e];rfl
def aSX(k:Nat):(Wk (k+2)).Φ "is_name" [.str z]=okf (.bl (jR z)):=by
 rw[aQV];refine bK rfl ?_;show evB _ m8 [sf (.str z)]=_;have ei:bN [(.fz,.str z),(.fz,.ty "str")]=some (.fz,.bl true):=rfl;by_cases h1:(decide (z.length<1)||decide (40<z.length))=true
 . have h1':(decide ((z.length:Int)<1)||decide (40<(z.length:Int)))=true:=by simp only[aWB,aV9]at h1 ⊢;omega
   have hn:jR z=false:=by unfold jR;rw[h1];rfl
   simp[m8,ei,h1',hn,Ty.id]
 . have h2:1<=z.length/\z.length<=40:=by simp at h1;omega
   have h1':(decide ((z.length:Int)<1)||decide (40<(z.length:Int)))=false:=by simp only[Bool.or_eq_false_iff,decide_eq_false_iff_not];omega
   rw[Bool.not_eq_true]at h1;have hl:(dD z).length<sizeLine:=by rw[aSV];have:sizeLine=16777216:=aUF;omega
   have ec:bU (okf (.lst (dD z))) [sf (.str z)] [] 1 (aP (.nm 0)) (λρ=>okf (.bl true)) (λρ=>aO 1 ((Wk (k+1)).Φ "is_name_sign") (aX (bB ρ 0) (.ok [])))=.ok .fr (.lst ((dD z).map λd=>.bl (k7 d))):=by refine aQG _ hl λd hd=>?_;obtain⟨x,rfl⟩:=aSU hd;exact⟨[sf (.str x)],.fz,by simp[bZ],rfl,.fz,by simp[aST k]⟩
   have hn:jR z=(eZ (hd z) (Str.ofString "abcdefghijklmnopqrstuvwxyz")&&(dD z).all k7):=by unfold jR;rw[h1];rfl
   simp[m8,ei,h1',hn,aSW h2.1,Ty.id,ec,all_map]
def aC7:∀v<36,∃g,L36.cps.toList[v]? = some g/\k7 (.str ⟨#[g]⟩)=true/\(v<26->eZ ⟨#[g]⟩ (Str.ofString "abcdefghijklmnopqrstuvwxyz")=true):=by decide +kernel
def aSY(h:dS z):jR z=true:=by
 obtain⟨h1,h2,h3⟩:=h;have hne:z.cps.toList≠[]:=by intro e;simp[Str.length,<- aT2,e]at h1
 obtain⟨a,l,e⟩:=List.exists_cons_of_ne_nil hne;unfold jR;rw[show(decide (z.length<1)||decide (40<z.length))=false by simp;omega]
 rw[Bool.not_false,Bool.true_and,aVL];constructor
 . obtain⟨v,hv,ev⟩:=h3 0 a (by rw[e];rfl)
   have hv:v<26:=hv;obtain⟨g,eg,_,h4⟩:=aC7 v (by omega)
   rw[ev]at eg;cases eg;unfold hd;rw[e];exact h4 hv
 . refine aWI.mpr λd hd=>?_;simp only[dD,aY7]at hd;obtain⟨c,hc,rfl⟩:=hd;obtain⟨i,hi⟩:=List.getElem?_of_mem hc;obtain⟨v,hv,ev⟩:=h3 i c (by simpa using hi)
   have:=(nH i).2;obtain⟨g,eg,h4,_⟩:=aC7 v (by omega)
   rw[ev]at eg;cases eg;exact h4
def aC8(k:Nat){z:Str}(h:dS z):(Wk (k+2)).Φ "is_name" [.str z]=okf (.bl true):=by rw[aSX,aSY h]
def p3{key:Str}{b:List D3.S}{x y z d:D}(u:(Wk (k+1)).Φ key=phi 3 3 (evB (Wk k) b))(h:evB (Wk k) b [sf x,sf y,sf z]=.rt .fz d):aO 3 ((Wk (k+1)).Φ key) (.ok [(.fz,x),(.fz,y),(.fz,z)])=okf d:=ph3 u h
def nI{w s a b d:D}(h:evB (Wk k) eW [sf w,sf s,sf a,sf b]=.rt .fz d):(Wk (k+1)).Φ "_law_sum" [w,s,a,b]=okf d:=by rw[aRE];exact bK rfl h
def okC(d:D):Prop:=∃i:Int,0<=i/\d=.int i
def plC:D->D->D
 |.int i,.int j=>.int (i+j)
 |d,_=>d
def aSZ{sz:Int}:KO (.ins "Counts" []) (.int 0) 0 sz okC plC where
 nought k:=by show aO 1 ((Wk (k+1)).Φ "Counts.nought") (.ok [(.fz,.ins "Counts" [])])=_;exact ph1 (aRF k) (by simp[t8])
 plus k a b ha hb:=by obtain⟨i,hi,rfl⟩:=ha;obtain⟨j,hj,rfl⟩:=hb;show aO 3 ((Wk (k+3)).Φ "Counts.plus") (.ok [(.fz,.ins "Counts" []),(.fz,.int i),(.fz,.int j)])=_;exact ph3 (aRG (k+2)) (by simp[t9,plC])
 holds k a ha:=by obtain⟨i,hi,rfl⟩:=ha;show aO 2 ((Wk (k+5)).Φ "Counts.holds") (.ok [(.fz,.ins "Counts" []),(.fz,.int i)])=_;have w:=eU (nG (k+3) i);exact ph2 (aRH (k+4)) (by simp[uA,w,cL,hi])
 sum k a b ha hb:=by obtain⟨i,hi,rfl⟩:=ha;obtain⟨j,hj,rfl⟩:=hb;exact nI (by simp[eW,plC])
 okn:=⟨0,by decide,rfl⟩
 okp a b ha hb:=by obtain⟨i,hi,rfl⟩:=ha;obtain⟨j,hj,rfl⟩:=hb;exact⟨i+j,by omega,rfl⟩
 assoc a b c ha hb hc:=by obtain⟨i,hi,rfl⟩:=ha;obtain⟨j,hj,rfl⟩:=hb;obtain⟨l,hl,rfl⟩:=hc;show D.int (i+j+l)=.int (i+(j+l));rw[Int.add_assoc]
 left a ha:=by obtain⟨i,hi,rfl⟩:=ha;show D.int (0+i)=_;rw[Int.zero_add]
 plain a ha:=by obtain⟨i,hi,rfl⟩:=ha;exact .int i
def okT(d:D):Prop:=∃b:Bool,d=.bl b
def plT:D->D->D
 |.bl a,.bl b=>.bl (a||b)
 |d,_=>d
def truth{sz:Int}:KO (.ins "Truth" []) (.bl false) 1 sz okT plT where
 nought k:=by show aO 1 ((Wk (k+1)).Φ "Truth.nought") (.ok [(.fz,.ins "Truth" [])])=_;exact ph1 (aRI k) (by simp[uB])
 plus k a b ha hb:=by obtain⟨i,rfl⟩:=ha;obtain⟨j,rfl⟩:=hb;show aO 3 ((Wk (k+3)).Φ "Truth.plus") (.ok [(.fz,.ins "Truth" []),(.fz,.bl i),(.fz,.bl j)])=_;exact ph3 (aRJ (k+2)) (by cases i <;> simp[uC,plT])
 holds k a ha:=by obtain⟨i,rfl⟩:=ha;show aO 2 ((Wk (k+5)).Φ "Truth.holds") (.ok [(.fz,.ins "Truth" []),(.fz,.bl i)])=_;have i1:bN [(.fz,.bl i),(.fz,.ty "bool")]=some (.fz,.bl true):=rfl;exact ph2 (aRK (k+4)) (by simp[uD,i1,Ty.id])
 sum k a b ha hb:=by obtain⟨i,rfl⟩:=ha;obtain⟨j,rfl⟩:=hb;exact nI (by cases i <;> simp[eW,plT])
 okn:=⟨false,rfl⟩
 okp a b ha hb:=by obtain⟨i,rfl⟩:=ha;obtain⟨j,rfl⟩:=hb;exact⟨_,rfl⟩
 assoc a b c ha hb hc:=by obtain⟨i,rfl⟩:=ha;obtain⟨j,rfl⟩:=hb;obtain⟨l,rfl⟩:=hc;show D.bl ((i||j)||l)=.bl (i||(j||l));rw[Bool.or_assoc]
 left a ha:=by obtain⟨i,rfl⟩:=ha;rfl
 plain a ha:=by obtain⟨i,rfl⟩:=ha;exact .bl i
def okO(d:D):Prop:=d=.non\/∃i:Int,d=.int i
def plO:D->D->D
 |.int i,.int j=>.int (if j<i then j else i)
 |.non,d=>d
 |d,_=>d
def min2{i j:Int}:cE Bn.min.f (.ok [(.fz,.int i),(.fz,.int j)])=okf (.int (if j<i then j else i)):=by rfl
def costs{sz:Int}:KO (.ins "Costs" []) .non 2 sz okO plO where
 nought k:=by show aO 1 ((Wk (k+1)).Φ "Costs.nought") (.ok [(.fz,.ins "Costs" [])])=_;exact ph1 (aRL k) (by simp[uE])
 plus k a b ha hb:=by
  show aO 3 ((Wk (k+3)).Φ "Costs.plus") (.ok [(.fz,.ins "Costs" []),(.fz,a),(.fz,b)])=_;refine ph3 (aRM (k+2)) ?_;rcases ha with rfl|⟨i,rfl⟩
  . simp[nA,plO]
  . rcases hb with rfl|⟨j,rfl⟩
    . simp[nA,plO]
    . simp[nA,plO,min2]
 holds k a ha:=by
  show aO 2 ((Wk (k+5)).Φ "Costs.holds") (.ok [(.fz,.ins "Costs" []),(.fz,a)])=_;refine ph2 (aRN (k+4)) ?_;rcases ha with rfl|⟨i,rfl⟩
  . simp[qC]
  . have w:=eU (nG (k+3) i);simp[qC,w,cL]
 sum k a b ha hb:=by
  refine nI ?_;rcases ha with rfl|⟨i,rfl⟩
  . simp[eW,plO]
  . rcases hb with rfl|⟨j,rfl⟩
    . simp[eW,plO]
    . simp[eW,plO,min2]
 okn:=.inl rfl
 okp a b ha hb:=by
  rcases ha with rfl|⟨i,rfl⟩
  . exact hb
  . rcases hb with rfl|⟨j,rfl⟩
    . exact .inr ⟨i,rfl⟩
    . exact .inr ⟨_,rfl⟩
 assoc a b c ha hb hc:=by
  rcases ha with rfl|⟨i,rfl⟩
  . rfl
  . rcases hb with rfl|⟨j,rfl⟩
    . rfl
    . rcases hc with rfl|⟨l,rfl⟩
      . rfl
      . simp only[plO];congr 1
        repeat' split
        all_goals omega
 left a ha:=rfl
 plain a ha:=by
  rcases ha with rfl|⟨i,rfl⟩
  . exact .non
  . exact .int i
def okW(n:Int)(d:D):Prop:=∃i:Int,0<=i/\i<n/\d=.int i
def plW(n:Int):D->D->D
 |.int i,.int j=>.int ((i+j) % n)
 |d,_=>d
def wheel{n:Int}(hn:2<=n):KO (.ins "Wheel" [("size", .int n)]) (.int 0) 3 n (okW n) (plW n) where
 nought k:=by show aO 1 ((Wk (k+1)).Φ "Wheel.nought") (.ok [(.fz,.ins "Wheel" [("size", .int n)])])=_;exact ph1 (aRR k) (by simp[uG])
 plus k a b ha hb:=by
  obtain⟨i,hi,hi2,rfl⟩:=ha;obtain⟨j,hj,hj2,rfl⟩:=hb;show aO 3 ((Wk (k+3)).Φ "Wheel.plus") (.ok [(.fz,.ins "Wheel" [("size", .int n)]),(.fz,.int i),(.fz,.int j)])=_;have f:=fS (m:=.fz) (n:=n);have md:=hO (m:=.fz) (n:=.fz) (i:=i+j) (j:=n) (by omega)
  exact ph3 (aRS (k+2)) (by simp[uH,plW,f,md])
 holds k a ha:=by obtain⟨i,hi,hi2,rfl⟩:=ha;show aO 2 ((Wk (k+5)).Φ "Wheel.holds") (.ok [(.fz,.ins "Wheel" [("size", .int n)]),(.fz,.int i)])=_;have w:=eU (nG (k+3) i);have f:=fS (m:=.fz) (n:=n);exact ph2 (aRT (k+4)) (by simp[uI,w,cL,f,hi,hi2])
 sum k a b ha hb:=by
  obtain⟨i,hi,hi2,rfl⟩:=ha;obtain⟨j,hj,hj2,rfl⟩:=hb;have md:=hO (m:=.fz) (n:=.fz) (i:=i+j) (j:=n) (by omega)
  exact nI (by simp[eW,plW,md])
 okn:=⟨0,by decide,by omega,rfl⟩
 okp a b ha hb:=by obtain⟨i,hi,hi2,rfl⟩:=ha;obtain⟨j,hj,hj2,rfl⟩:=hb;exact⟨_,aX4 _ (by omega),aX3 _ (by omega),rfl⟩
 assoc a b c ha hb hc:=by obtain⟨i,hi,hi2,rfl⟩:=ha;obtain⟨j,hj,hj2,rfl⟩:=hb;obtain⟨l,hl,hl2,rfl⟩:=hc;show D.int (((i+j) % n+l) % n)=.int ((i+(j+l) % n) % n);rw[Int.emod_add_emod,Int.add_emod_emod,Int.add_assoc]
 left a ha:=by obtain⟨i,hi,hi2,rfl⟩:=ha;show D.int ((0+i) % n)=_;rw[Int.zero_add,Int.emod_eq_of_lt hi hi2]
 plain a ha:=by obtain⟨i,hi,hi2,rfl⟩:=ha;exact .int i
abbrev tv(l:List Str):D:=.tup (l.map .str)
theorem jS:∀(l:List Str),txD (l.map D.str)=some l
 |[]=>rfl
 |x::l=>by show(txD (l.map D.str)).map _=_;rw[jS l];rfl
def us{a b:List Str}(ha:a.length<=7)(hb:b.length<=7){m:Md}:usR (.ok m (tv a)) (.ok m' (tv b))=.ok .fr (.lst ((uni (a++b)).map .str)):=by have e1:txT (tv a)=some a:=jS a;have e2:txT (tv b)=some b:=jS b;simp only[usR,Res.thn_ok,e1,e2,ha,hb,↓reduceIte]
def both(k:Nat){a b:List Str}(ha:a.length<=7)(hb:b.length<=7):(Wk (k+1)).Φ "names_of_both" [tv a,tv b]=okf (tv (uni (a++b))):=by rw[aQZ];refine bK rfl ?_;show evB _ pS [sf (tv a),sf (tv b)]=_;have u:=us ha hb (m:=.fz) (m':=.fz);have tt:eP [(.fr,.lst ((uni (a++b)).map .str))]=some (.fz,tv (uni (a++b))):=rfl;generalize tv a=A at *;generalize tv b=B at *;generalize tv (uni (a++b))=R at *;generalize D.lst ((uni (a++b)).map .str)=G at *;simp[pS,u,tt,Ty.f]
def usi{l:List Str}(h1:l.length<4096)(h2:(uni l).length<64){m:Md}:iE (.ok m (tv l))=.ok .fr (.lst ((uni l).map .str)):=by
 show(match txD (l.map D.str)with|some ns=>if ns.length<scanBound/\(uni ns).length<64 then Res.ok .fr (.lst ((uni ns).map .str))else .stuck|none=>.stuck)=_
 rw[jS];dsimp only;rw[if_pos ⟨h1,h2⟩]
theorem iW{α:Type}[BEq α][LawfulBEq α]:∀{l l':List α},l.Nodup->(∀y∈l,y∈l')->l.length<=l'.length
 |[],_,_,_=>aUP _
 |a::l,l',h1,h2=>by
  rw[aUU]at h1;have ha:=h2 a mcs;have:=iW (l':=l'.erase a) h1.2 λy hy=>by have hne:y≠a:=λe=>h1.1 (e ▸ hy);exact(List.mem_erase_of_ne hne).mpr (h2 y (mcm hy))
  rw[List.length_erase_of_mem ha]at this;have pos:0<l'.length:=List.length_pos_of_mem ha;rw[aUJ];omega
def jT{L:List Str}(h:dP L):L.Nodup:=h.imp λ{a b} h e=>by subst e;rw[iC]at h;cases h
def aC9{m:Md}(l:List α):jB [(m,.lst (l.map λ_=>D.bl true))]=some (.fz,.bl true):=by have:=aRV (m:=m) (l.map λ_=>D.non);rw[aY8]at this;exact this
def lt_s{x:Str}{m:Md}:op2 (aW .Lt) (.ok m (.str x)) (.ok m' (.str y))=okf (.bl (lts x y)):=by
 refine cC ?_;have e:ltF m (.str x) m' (.str y)=some (.fz,.bl (lts x y)):=by show some (Md.fz,D.bl (ltS x y))=_;rw[show ltS x y=lts x y from by unfold lts;rw[PyProof.Rows.ltCps_eq];rfl]
 show(orO fLt ltF) _ _ _ _=_;unfold orO;rw[e];rfl
def aS0(k:Nat){A:List Str}(h:dP A)(hl:A.length<=100):(Wk (k+1)).Φ "is_rising" [tv A]=okf (.bl true):=by
 rw[aQY];refine bK rfl ?_;show evB _ pR [sf (tv A)]=_;have zl:sizeLine=16777216:=aUF;have el:dC [(.fz,tv A)]=some (.fz,.int (A.length:Int)):=by show some (Md.fz,D.int ((A.map D.str).length:Nat))=_;simp
 have er:e9 (.ok [(.fz,.int ((A.length:Int)-1))])=okf (.lst ((List.range (A.length-1)).map λi:Nat=>D.int (i:Int))):=by
  unfold e9;rw[bE.thn_ok];dsimp only;rw[if_pos (by simp only[aVL,aV9];omega)]
  unfold bJ;rw[show((A.length:Int)-1-0).toNat=A.length-1 by omega]
  congr 2;exact aZH λi _=>by show D.int (0+(i:Int))=_;rw[Int.zero_add]
 have ec:bU (okf (.lst ((List.range (A.length-1)).map λi:Nat=>D.int (i:Int)))) [sf (tv A)] [0] 1 (aP (.nm 1)) (λρ=>evF (Wk k) [] ρ) (λρ=>evE (Wk k) (.cmp .Lt (.ix v0 v1) (.ix v0 (.bin .Add v1 (.int 1)))) ρ)=.ok .fr (.lst ((List.range (A.length-1)).map λ_=>.bl true)):=by
  refine jP (enc:=λi:Nat=>D.int (i:Int)) _ (by simp;omega) λj hj=>⟨[sf (tv A),si (j:Int)],.fz,by simp[bZ],by simp,.fz,?_⟩
  have hj:=aTO.mp hj;have h1:j<A.length:=by omega
  have h2:j+1<A.length:=by omega
  have i1:=qE (ds:=A.map D.str) (m:=.fz) (m':=.fz) (i:=(j:Int)) (d:=.str A[j]) (cG (by rw[aU2,aWL h1];rfl))
  have i2:=qE (ds:=A.map D.str) (m:=.fz) (m':=.fz) (i:=((j+1:Nat):Int)) (d:=.str A[j+1]) (cG (by rw[aU2,aWL h2];rfl))
  have lt:lts A[j] A[j+1]=true:=aY6.mp h j (j+1) h1 h2 (by omega)
  have l1:=lt_s (x:=A[j]) (y:=A[j+1]) (m:=.fz) (m':=.fz);rw[lt]at l1;have ec:(((j+1:Nat):Int))=(j:Int)+1:=by omega
  rw[ec]at i2;have i1:op2 ixD (okf (tv A)) _=_:=i1;have i2:op2 ixD (okf (tv A)) _=_:=i2;generalize A[j]=E1 at *;generalize A[j+1]=E2 at *;generalize tv A=SS at *;simp[i1,i2,l1]
 have ea:=aC9 (m:=.fr) (List.range (A.length-1));generalize ((List.range (A.length-1)).map λ_=>D.bl true)=BB at *;generalize ((List.range (A.length-1)).map λi:Nat=>D.int (i:Int))=R at *;generalize tv A=SS at *;simp at ec;simp[pR,el,er,ec,ea]
def aS1(k:Nat){A:List Str}(h:dP A)(hn:∀x∈A,dS x)(hl:A.length<=100):(Wk (k+3)).Φ "is_name_set" [tv A]=okf (.bl true):=by
 rw[aQX];refine bK rfl ?_;show evB _ pQ [sf (tv A)]=_;have zl:sizeLine=16777216:=aUF;have ei:bN [(.fz,tv A),(.fz,.ty "tuple")]=some (.fz,.bl true):=rfl;have ec:bU (okf (.lst (A.map D.str))) [sf (tv A)] [] 1 (aP (.nm 0)) (λρ=>evF (Wk (k+2)) [] ρ) (λρ=>evE (Wk (k+2)) (.call "is_name" 1 [v0]) ρ)=.ok .fr (.lst (A.map λ_=>.bl true)):=by
  refine jP (enc:=D.str) _ (by omega) λy hy=>⟨[sf (.str y)],.fz,by simp[bZ],by simp,.fz,?_⟩
  have e:=eU (aC8 k (hn y hy));simp[e]
 have ea:=aC9 (m:=.fr) A;have er:=eU (aS0 (k+1) h hl);have eit:eD (okf (tv A))=okf (.lst (A.map D.str)):=rfl;generalize (A.map λ_=>D.bl true)=BB at *;generalize A.map D.str=AA at *;generalize tv A=SS at *;simp at ec;simp[pQ,ei,Ty.id,eit,ec,ea,er]
def okV(P:List Str)(d:D):Prop:=d=.non\/∃l,d=tv l/\dP l/\∀x∈l,x∈P
def plV:D->D->D
 |.non,d=>d
 |d,.non=>d
 |.tup x,.tup y=>(match txD x,txD y with|some a,some b=>tv (uni (a++b))|_,_=>.non)
 |d,_=>d
def iX(a b:List Str):plV (tv a) (tv b)=tv (uni (a++b)):=by
 show(match txD (a.map D.str),txD (b.map D.str)with|some a,some b=>tv (uni (a++b))|_,_=>.non)=_
 rw[jS,jS]
def aS2{sz:Int}{P:List Str}(hP:P.length<=3)(hn:∀x∈P,dS x):KO (.ins "Voices" []) .non 4 sz (okV P) plV where
 nought k:=by show aO 1 ((Wk (k+1)).Φ "Voices.nought") (.ok [(.fz,.ins "Voices" [])])=_;exact ph1 (aRO k) (by simp[uF])
 plus k a b ha hb:=by
  show aO 3 ((Wk (k+3)).Φ "Voices.plus") (.ok [(.fz,.ins "Voices" []),(.fz,a),(.fz,b)])=_;refine ph3 (aRP (k+2)) ?_;rcases ha with rfl|⟨x,rfl,sx,mx⟩
  . simp[nB,plV]
  . have n1:cU (tv x)=false:=rfl;rcases hb with rfl|⟨y,rfl,sy,my⟩
    . have e:plV (tv x) .non=tv x:=rfl;rw[e];generalize tv x=A at *;simp[nB,n1]
    . have n2:cU (tv y)=false:=rfl;have lx:=iW (jT sx) mx;have ly:=iW (jT sy) my;have u:=iQ (both (k+1) (a:=x) (b:=y) (by omega) (by omega))
      rw[iX];generalize tv x=A at *;generalize tv y=B at *;generalize tv (uni (x++y))=G at *;simp[nB,n1,n2,u,cL]
 holds k a ha:=by
  show aO 2 ((Wk (k+5)).Φ "Voices.holds") (.ok [(.fz,.ins "Voices" []),(.fz,a)])=_;refine ph2 (aRQ (k+4)) ?_;rcases ha with rfl|⟨x,rfl,sx,mx⟩
  . simp[qD]
  . have n1:cU (tv x)=false:=rfl;have lx:=iW (jT sx) mx;have w:=eU (aS1 (k+1) sx (λz hz=>hn z (mx z hz)) (by omega))
    generalize tv x=A at *;simp[qD,n1,w,cL]
 sum k a b ha hb:=by
  refine nI ?_;rcases ha with rfl|⟨x,rfl,sx,mx⟩
  . simp[eW,plV]
  . have n1:cU (tv x)=false:=rfl;rcases hb with rfl|⟨y,rfl,sy,my⟩
    . have e:plV (tv x) .non=tv x:=rfl;rw[e];generalize tv x=A at *;simp[eW,n1]
    . have n2:cU (tv y)=false:=rfl;have zl:sizeLine=16777216:=aUF;have lx:=iW (jT sx) mx;have ly:=iW (jT sy) my;have lu:(uni (x++y)).length<=P.length:=iW (jT (fW _)) λz hz=>by
        rcases aTU.mp (eQ.mp hz)with h|h
        . exact mx z h
        . exact my z h
      have ca:op2 (bW .Add) (okf (tv x)) (okf (tv y))=okf (tv (x++y)):=by
       have:=aQE (m:=.fz) (n:=.fz) (x:=x.map D.str) (y:=y.map D.str) (by rw[aUL,aUL];omega)
       rw[<- aY9]at this;exact this
      have u:=usi (l:=x++y) (m:=.fz) (by rw[aU4];omega) (by omega)
      have tt:eP [(.fr,.lst ((uni (x++y)).map .str))]=some (.fz,tv (uni (x++y))):=rfl;rw[iX];generalize tv x=A at *;generalize tv y=B at *;generalize tv (x++y)=C at *;generalize tv (uni (x++y))=R at *;generalize D.lst ((uni (x++y)).map .str)=G at *;simp[eW,n1,n2,ca,u,tt,Ty.f]
 okn:=.inl rfl
 okp a b ha hb:=by
  rcases ha with rfl|⟨x,rfl,sx,mx⟩
  . exact hb
  . rcases hb with rfl|⟨y,rfl,sy,my⟩
    . exact .inr ⟨x,rfl,sx,mx⟩
    . refine .inr ⟨uni (x++y),iX x y,fW _,λz hz=>?_⟩;rcases aTU.mp (eQ.mp hz)with h|h
      . exact mx z h
      . exact my z h
 assoc a b c ha hb hc:=by
  rcases ha with rfl|⟨x,rfl,sx,mx⟩
  . rfl
  . rcases hb with rfl|⟨y,rfl,sy,my⟩
    . rfl
    . rcases hc with rfl|⟨z,rfl,sz,mz⟩
      . show plV (plV (tv x) (tv y)) .non=plV (tv x) (tv y);rw[iX];rfl
      . rw[iX,iX,iX,iX];refine congrArg tv (mK (fW _) (fW _) λu=>?_);simp only[eQ,aTU];exact or_assoc
 left a ha:=rfl
 plain a ha:=by
  rcases ha with rfl|⟨x,rfl,sx,mx⟩
  . exact .non
  . have lx:=iW (jT sx) mx;exact .tup (λd hd=>by
      obtain⟨z,_,rfl⟩:=aY7.mp hd
      exact .str z) (by rw[aUL];omega)
section
variable {W:WD}{e:E}{m:Md}
def aDA:dO ds none (some (i:Int))=ds.take i:=by
 unfold dO;rw[HT.vS,HT.nR,aW4,Nat.sub_zero];by_cases h:i<=ds.length
 . rw[Nat.min_eq_left h]
 . rw[Nat.min_eq_right (by omega),aXP,aW5 (by omega)]
def aS3:dO ds (some (i:Int)) none=ds.drop i:=by
 unfold dO;rw[HT.vS,HT.nR];by_cases h:i<=ds.length
 . rw[Nat.min_eq_left h];exact aW5 (by rw[aVF];omega)
 . rw[Nat.min_eq_right (by omega),aWS,List.drop_of_length_le (by omega)];simp
def sl_hi(h:evE W e ρ=.ok m (.int (i:Int))):slP (okf (.tup ds)) (evO W none) (evO W (some e)) ρ=okf (.tup (ds.take i)):=by simp only[evO,slP,Res.thn_ok,cS,h];rw[if_neg (by simp),aDA]
def aDB(h:evE W e ρ=.ok m (.int (i:Int))):slP (.ok m' (.lst ds)) (evO W none) (evO W (some e)) ρ=.ok .fr (.lst (ds.take i)):=by simp only[evO,slP,Res.thn_ok,cS,h];rw[aDA]
end
def sll{W:WD}{e e':E}{m:Md}(h:evE W e ρ=.ok m (.int (i:Int)))(h':evE W e' ρ=.ok m' (.int (j:Int))){m0:Md}:slP (.ok m0 (.lst ds)) (evO W (some e)) (evO W (some e')) ρ=.ok .fr (.lst (dO ds (some (i:Int)) (some (j:Int)))):=by simp only[evO,slP,Res.thn_ok,cS,h,h']
def aDC{N:Nat}{g:Rho->aF}(hl:ds.length=n)(h:g (dM N ds)=.nx ρ):phi n N g ds=okf .non:=by unfold phi;rw[if_pos hl,h];rfl
def aDD{W:WD}{s:D3.S}{ρ':Rho}(h:evS W s ρ=.nx ρ'):evB W [s] ρ=.nx ρ':=by rw[bR h,iP]
def x_inQ{x:D}{c:D}{m:Md}(hc:c=.lst ds\/c=.tup ds)(h1:cD x=true)(h2:ds.all cD=true):op2 (aW .In) (.ok m x) (.ok m' c)=okf (.bl (ds.any λy=>eqD y x)):=cC (by
 have e:hX false m x m' c=some (.fz,.bl (ds.any λy=>eqD y x)):=by
  rcases hc with rfl|rfl
  . show(if(cD x&&ds.all cD)=true then _ else _)=_;rw[h1,h2];rfl
  . show(if(cD x&&ds.all cD)=true then _ else _)=_;rw[h1,h2];rfl
 have f:fIn m x m' c=none:=by rcases hc with rfl|rfl <;> cases x <;> rfl
 show(orO fIn (hX false)) m x m' c=_;unfold orO;rw[f,e];rfl)
def Cs(f:List Str)(c:D):Prop:=c=.lst (f.map .str)\/c=.tup (f.map .str)
def Cs.ix{f:List Str}{c:D}(h:Cs f c)(hi:i<f.length){m:Md}:op2 ixD (.ok m c) (.ok m' (.int (i:Int)))=okf (.str f[i]):=by
 rcases h with rfl|rfl
 . exact bP (cG (by rw[aU2,aWL hi];rfl))
 . exact qE (cG (by rw[aU2,aWL hi];rfl))
def Cs.hi{f:List Str}{c:D}(h:Cs f c){W:WD}{e:E}{m:Md}(he:evE W e ρ=.ok m (.int (i:Int))):∃m' c',Cs (f.take i) c'/\slP (okf c) (evO W none) (evO W (some e)) ρ=.ok m' c':=by
 rcases h with rfl|rfl
 . exact⟨_,_,.inl (by rw[aZL]),aDB he⟩
 . exact⟨_,_,.inr (by rw[aZL]),sl_hi he⟩
def aS4(k:Nat){f:List Str}{c:D}(h:Cs f c)(nd:f.Nodup)(hi:i<f.length):(Wk (k+1)).Φ "refuse_twice" [c,.int (i:Int)]=okf .non:=by
 rw[aQ8];refine aDC rfl (ρ:=[sf c,si (i:Int)]) ?_;show evB _ qA [sf c,si (i:Int)]=_;obtain⟨m',c',hc',es⟩:=h.hi (W:=Wk k) (ρ:=[sf c,si (i:Int)]) (e:=.var 1) (i:=i) (m:=.fz) rfl;have ix:=h.ix hi (m:=.fz) (m':=.fz);have cn:op2 (aW .In) (okf (.str f[i])) (.ok m' c')=okf (.bl false):=by
  have e:=x_inQ (x:=.str f[i]) (ds:=(f.take i).map .str) (c:=c') (m:=.fz) (m':=m') hc' rfl (aWI.mpr λd hd=>by obtain⟨z,_,rfl⟩:=aY7.mp hd;rfl)
  rw[e];congr 2;rw[List.any_eq_false];intro d hd;obtain⟨z,hz,rfl⟩:=aY7.mp hd;have ne:z≠f[i]:=λe=>by obtain⟨j,hj,rfl⟩:=aWJ hz;rw[aUX]at hj;rw[List.getElem_take]at e;exact absurd (aY6.mp nd j i (by omega) hi (by omega)) (λz=>z e)
  show ¬ (z==f[i])=true;simpa using ne
 have t:evE (Wk k) (.cmp .In (.ix v0 v1) (.slice v0 none (some v1))) [sf c,si (i:Int)]=okf (.bl false):=by show op2 (aW .In) (op2 ixD (okf c) (okf (.int (i:Int)))) (slP (okf c) (evO (Wk k) none) (evO (Wk k) (some v1)) _)=_;rw[ix,es,cn]
 unfold qA;rw[cX,pI,t,tU,iP,aF.thn_nx,iP]
def aS5(k:Nat){f:List Str}{c:D}(h:Cs f c)(nd:f.Nodup)(hn:∀z∈f,dS z):(Wk (k+4)).Φ "refuse_columns" [c]=okf .non:=by
 rw[aQ7];have en:evE (Wk (k+3)) (.enum1 v0) [sf c,none,none]=okf (.lst (fB 0 (f.map .str))):=by rcases h with rfl|rfl <;> rfl
 have go:∀(l:List Str) (i:Nat) (x1 x2:Option (Bool×D)),(∀j,j<l.length->i+j<f.length/\l[j]? = f[i+j]?)->∃y1 y2,cI (aP (.tp [.nm 1,.nm 2])) (evB (Wk (k+3)) pN) (fB i (l.map .str)) [sf c,x1,x2]=.nx [sf c,y1,y2]:=by
  intro l
  induction l with
  |nil=>intro i x1 x2 _;exact⟨x1,x2,rfl⟩
  |cons z l ih =>
   intro i x1 x2 hl;have h0:=hl 0 (by simp)
   have hi:i<f.length:=by have:=h0.1;omega
   have ez:z=f[i]:=by have:=h0.2;rw[List.getElem?_cons_zero,Nat.add_zero,aWL hi]at this;exact aTZ this
   have nz:dS z:=by rw[ez];exact hn _ (aWM hi)
   have c1:=eU (aC8 (k+1) nz);have c2:=iQ (aS4 (k+2) h nd hi);have b1:evB (Wk (k+3)) pN [sf c,si (i:Int),sf (.str z)]=.nx [sf c,si (i:Int),sf (.str z)]:=by unfold pN;simp[c1,c2,cL]
   have st:aP (.tp [.nm 1,.nm 2]) (.tup [.int (i:Int),.str z]) [sf c,x1,x2]=some [sf c,si (i:Int),sf (.str z)]:=rfl;obtain⟨y1,y2,e⟩:=ih (i+1) (si (i:Int)) (sf (.str z)) (λj hj=>by
    have:=hl (j+1) (by simp;omega)
    rw[aZD,show i+(j+1)=i+1+j by omega]at this
    exact this)
   exact⟨y1,y2,by
    show cI _ _ (.tup [.int (i:Int),.str z]::fB (i+1) (l.map .str)) _=_;rw[qH st b1];exact e⟩
 obtain⟨y1,y2,e⟩:=go f 0 none none λj hj=>⟨by omega,by rw[aW6]⟩
 refine aDC rfl (ρ:=[sf c,y1,y2]) ?_;show evB _ pZ [sf c,none,none]=_;unfold pZ;refine aDD ?_;rw[kU,en];exact e
section
variable  {sz:Int}{Ok:D->Prop}
structure Pr(Ok:D->Prop)(n:Nat)(e:N×D):Prop where
 row:Row e.1
 ok:Ok e.2
 len:dC [(.fz,nD e.1)]=some (.fz,.int (n:Int))
def Cs.len{f:List Str}{c:D}(h:Cs f c){m:Md}:dC [(m,c)]=some (.fz,.int (f.length:Int)):=by
 rcases h with rfl|rfl
 . show some (Md.fz,D.int ((f.map D.str).length:Nat))=_;rw[aUL]
 . show some (Md.fz,D.int ((f.map D.str).length:Nat))=_;rw[aUL]
def tab_(K:KO Kd No way sz Ok pl)(k:Nat){f:List Str}{C P:D}(hC:Cs f C)(nd:f.Nodup)(hn:∀z∈f,dS z)(hP:∀m,eD (.ok m P)=okf (.lst (prs.map enc)))(h:∀e∈prs,Pr Ok f.length e)(hl:prs.length<=60):(Wk (k+7)).Φ "table" [Kd,C,P]=okf (.tup [.tup (f.map .str),.tup ((eA (λe=>rkK e.1) (gH pl No prs)).map enc)]):=by
 rw[aQ5];refine bK rfl ?_;show evB _ pX [sf Kd,sf C,sf P,none,none]=_;have c1:=eU (aS5 (k+2) hC nd hn);have s1:evS (Wk (k+6)) (.expr (.call "refuse_columns" 1 [v1])) [sf Kd,sf C,sf P,none,none]=.nx [sf Kd,sf C,sf P,none,none]:=by simp[c1,cL]
 have lp:∀(l:List (N×D)) (x3 x4:Option (Bool×D)),(∀e∈l,Pr Ok f.length e)->∃y3 y4,cI (aP (.tp [.nm 3,.nm 4])) (evB (Wk (k+6)) m7) (l.map enc) [sf Kd,sf C,sf P,x3,x4]=.nx [sf Kd,sf C,sf P,y3,y4]:=by
  intro l
  induction l with
  |nil=>intro x3 x4 _;exact⟨x3,x4,rfl⟩
  |cons e l ih =>
   intro x3 x4 hl;have pe:=hl e mcs;have l1:=pe.len;have l2:=hC.len (m:=.fz);have ho:=K.holds (k+1) e.2 pe.ok;have b1:evB (Wk (k+6)) m7 [sf Kd,sf C,sf P,sf (nD e.1),sf e.2]=.nx [sf Kd,sf C,sf P,sf (nD e.1),sf e.2]:=by generalize nD e.1=r at *;generalize e.2=v at *;unfold m7;simp[Bn.f,l1,l2,ho,cL]
   have st:aP (.tp [.nm 3,.nm 4]) (enc e) [sf Kd,sf C,sf P,x3,x4]=some [sf Kd,sf C,sf P,sf (nD e.1),sf e.2]:=rfl;obtain⟨y3,y4,e2⟩:=ih (sf (nD e.1)) (sf e.2) λu hu=>hl u (mcm hu);exact⟨y3,y4,by rw[aUK,qH st b1];exact e2⟩
 obtain⟨y3,y4,e⟩:=lp prs none none h;have s2:evS (Wk (k+6)) (.for (.items v2) (.tp [(.nm 3),(.nm 4)]) m7) [sf Kd,sf C,sf P,none,none]=.nx [sf Kd,sf C,sf P,y3,y4]:=by have it:evE (Wk (k+6)) (.items v2) [sf Kd,sf C,sf P,none,none]=okf (.lst (prs.map enc)):=hP _;rw[kU,it];exact e
 have ga:=iQ (aSA K k hP (λe he=>⟨(h e he).row,(h e he).ok⟩) hl);have tc:cE Ty.tuple.f (.ok [(.fz,C)])=okf (.tup (f.map .str)):=by rcases hC with rfl|rfl <;> rfl
 unfold pX;rw[bR s1,bR s2,cX,m6];generalize D.tup ((eA (λe=>rkK e.1) (gH pl No prs)).map enc)=G at *;generalize D.tup (f.map .str)=F at *;have r:evE (Wk (k+6)) (.tup [(.frz (.tcall .tuple [v1])),(.frz (.call "gathered" 2 [v0,v2]))]) [sf Kd,sf C,sf P,y3,y4]=okf (.tup [F,G]):=by show jA (aX (aK (cE Ty.tuple.f (.ok [(.fz,C)]))) (aX (aK (aO 2 ((Wk (k+6)).Φ "gathered") (.ok [(.fz,Kd),(.fz,P)]))) (.ok [])))=_;rw[tc,ga];rfl
 rw[r];rfl
end
def big:Int:=100000000000000000000000000000000000000000000000000
def pw{m:Md}:op2 (bW .Pow) (.ok m (.int 10)) (.ok m' (.int 50))=okf (.int big):=by rfl
def uV:0<big:=by decide
def ls4{a b c d:D}:eN (.ok [(.fz,a),(.fz,b),(.fz,c),(.fz,d)])=.ok .fr (.lst [a,b,c,d]):=rfl
def fH:List Str:=["", "a", "Z z", "0", "b2c~"]
def pool(k:Nat)(c:Int):∃vs:List N,vs.length=4/\(∀v∈vs,bS v)/\(Wk (k+1)).Φ "_law_pool" [.int c]=.ok .fr (.lst (vs.map nD)):=by
 have bp:=uV;have md:=hO (m:=.fz) (n:=.fz) (i:=c) bp;obtain⟨d,hd,ed⟩:=nF (fH.map D.str) (c / 42) 5 rfl (by decide)
 obtain⟨t,ht,rfl⟩:=aY7.mp hd;have ix:=bP (m:=.fz) (m':=.fz) ed;have zl:sizeLine=16777216:=aUF;have tl:t.length+(Str.ofString "a").length<=sizeLine:=by
  have:∀t∈fH,t.length+(Str.ofString "a").length<=10:=by decide +kernel
  have:=this t ht;omega
 have ca:=tR (m:=.fz) (n:=.fz) tl;have go:∀a:Int,evB (Wk k) (gG.drop 2) [si c,si a,none,none]=.rt .fr (.lst [.int a,.int (c / 6 % 7-2),.str t,.str (t++Str.ofString "a")]):=by
  intro a;have eb:gG.drop 2=[.set 2 (.frz (.lst [(.str ""),(.str "a"),(.str "Z z"),(.str "0"),(.str "b2c~")])),
   .set 3 (.ix v2 (.bin .Mod (.bin .FloorDiv v0 (.int 42)) (.int 5))),
   .ret (.lst [v1,(.frz (.bin .Sub (.bin .Mod (.bin .FloorDiv v0 (.int 6)) (.int 7)) (.int 2))),v3,(.frz (.bin .Add v3 (.str "a")))])]:=rfl
  rw[eb];have s2:evS (Wk k) (.set 2 (.frz (.lst [(.str ""),(.str "a"),(.str "Z z"),(.str "0"),(.str "b2c~")]))) [si c,si a,none,none]=.nx [si c,si a,sf (.lst (fH.map D.str)),none]:=rfl;rw[bR s2];generalize fH.map D.str=TX at *;generalize Str.ofString "a" = aa at *;simp[ix,ca,ls4]
 have pre:∃a:Int,evB (Wk k) (gG.take 2) [si c,none,none,none]=.nx [si c,si a,none,none]:=by
  have eb:gG.take 2=[.set 1 (.frz (.bin .Add (.bin .Mod v0 (.bin .Pow (.int 10) (.int 50))) (.int 10))),
   .ite (.cmp .Eq (.bin .Mod (.bin .FloorDiv v0 (.int 3)) (.int 2)) (.int 1)) [.set 1 (.neg v1)] []]:=rfl
  rw[eb];have p:=pw (m:=.fz) (m':=.fz);generalize big=B at *;cases z:(c / 3 % 2==1)with
  |true=>exact⟨-(c % B+10),by simp[p,md,z]⟩
  |false=>exact⟨c % B+10,by simp[p,md,z]⟩
 obtain⟨a,e1⟩:=pre;refine⟨[.i a,.i (c / 6 % 7-2),.s t,.s (t++Str.ofString "a")],rfl,λv hv=>?_,?_⟩
 . simp only[aTT,aX2,aXL]at hv;rcases hv with rfl|rfl|rfl|rfl
   . exact .i _
   . exact .i _
   . exact .s _
   . exact .s _
 . rw[aRB];refine bK rfl ?_;show evB (Wk k) gG [si c,none,none,none]=_;have ea:gG=gG.take 2++gG.drop 2:=rfl;rw[ea,hU,e1,aF.thn_nx];exact go a
def k8{w s p c d:D}(h:evB (Wk k) hW [sf w,sf s,sf p,sf c]=.rt .fz d):(Wk (k+1)).Φ "_law_note" [w,s,p,c]=okf d:=by rw[aRD];exact bK rfl h
def note0(k:Nat)(sz c:Int)(P:D):∃d,okC d/\(Wk (k+1)).Φ "_law_note" [.int 0,.int sz,P,.int c]=okf d:=by
 have bp:=uV;have md:=hO (m:=.fz) (n:=.fz) (i:=c / 4) bp;have p:=pw (m:=.fz) (m':=.fz);have nb:=aX4 (c / 4) (show big≠0 by omega)
 generalize big=B at *;obtain⟨d,hd,ed⟩:=nF [D.int 0,.int 1,.int (c / 4 % 3),.int (c / 4 % B)] c 4 rfl (by decide)
 have ix:=bP (m:=.fr) (m':=.fz) ed;refine⟨d,?_,k8 ?_⟩
 . simp only[aTT,aX2,aXL]at hd;rcases hd with rfl|rfl|rfl|rfl
   . exact⟨0,by decide,rfl⟩
   . exact⟨1,by decide,rfl⟩
   . exact⟨_,by omega,rfl⟩
   . exact⟨_,nb,rfl⟩
 . simp[hW,p,md,ls4,ix]
def note1(k:Nat)(sz c:Int)(P:D):∃d,okT d/\(Wk (k+1)).Φ "_law_note" [.int 1,.int sz,P,.int c]=okf d :=
 ⟨_,⟨decide (0<c % 3),rfl⟩,k8 (by simp[hW])⟩
def note2(k:Nat)(sz c:Int)(P:D):∃d,okO d/\(Wk (k+1)).Φ "_law_note" [.int 2,.int sz,P,.int c]=okf d:=by
 have bp:=uV;have p:=pw (m:=.fz) (m':=.fz);have ml:op2 (bW .Mult) (okf (.int 2)) (okf (.int big))=okf (.int (2 * big)):=aAV (by decide)
 have md:=hO (m:=.fz) (n:=.fz) (i:=c / 4) (j:=2 * big) (by omega)
 generalize big=B at *;obtain⟨d,hd,ed⟩:=nF [D.non,.int (c / 4 % 7-3),.int (c / 4 % (2 * B)-B),.int 0] c 4 rfl (by decide)
 have ix:=bP (m:=.fr) (m':=.fz) ed;refine⟨d,?_,k8 ?_⟩
 . simp only[aTT,aX2,aXL]at hd;rcases hd with rfl|rfl|rfl|rfl
   . exact .inl rfl
   . exact .inr ⟨_,rfl⟩
   . exact .inr ⟨_,rfl⟩
   . exact .inr ⟨_,rfl⟩
 . simp[hW,p,ml,md,ls4,ix]
def note3(k:Nat){sz:Int}(c:Int)(P:D)(h:2<=sz):∃d,okW sz d/\(Wk (k+1)).Φ "_law_note" [.int 3,.int sz,P,.int c]=okf d:=by
 have md:=hO (m:=.fz) (n:=.fz) (i:=c) (j:=sz) (by omega)
 exact⟨_,⟨c % sz,aX4 _ (by omega),aX3 _ (by omega),rfl⟩,k8 (by simp[hW,md])⟩
def sub3{a b c:Str}(h:dP [a,b,c])(p:Nat->Bool):dP (([0,1,2].filter p).map λi=>[a,b,c].getD i ""):=by have:(([0,1,2].filter p).map λi=>[a,b,c].getD i "").Sublist ([0,1,2].map λi=>[a,b,c].getD i ""):=aZI _ aZJ;exact List.Pairwise.sublist this h
def note4(k:Nat)(sz c:Int){P:List Str}(hP:P.length=3)(hs:dP P):∃d,okV P d/\(Wk (k+1)).Φ "_law_note" [.int 4,.int sz,.lst (P.map .str),.int c]=okf d:=by
 match P,hP,hs with
 |[x,y,z],_,hs =>
 cases e5:(c % 5==0)with
 |true=>exact⟨.non,.inl rfl,k8 (by simp[hW,e5])⟩
 |false =>
  let p:Nat->Bool:=λi=>c / 5 / (if i=0 then 1 else if i=1 then 2 else 4) % 2==1
  have zl:sizeLine=16777216:=aUF;have rg:e9 (.ok [(.fz,.int 3)])=okf (.lst ([0,1,2].map λi:Nat=>D.int (i:Int))):=rfl;have cm:bU (okf (.lst ([0,1,2].map λi:Nat=>D.int (i:Int)))) [si (4),si sz,sf (.lst ([x,y,z].map .str)),si c] [2,3] 1 (aP (.nm 2)) (λρ=>evF (Wk k) [(.cmp .Eq (.bin .Mod (.bin .FloorDiv (.bin .FloorDiv v1 (.int 5)) (.ix (.lst [(.int 1),(.int 2),(.int 4)]) v2)) (.int 2)) (.int 1))] ρ) (λρ=>evE (Wk k) (.ix v0 v2) ρ)=.ok .fr (.lst (([0,1,2].filter p).map λi=>D.str ([x,y,z].getD i ""))):=by
   refine qG (enc:=λi:Nat=>D.int (i:Int)) p (λi=>D.str ([x,y,z].getD i "")) (by rw[aUJ,aUJ,aUJ,aW9];omega) λi hi=>?_
   refine⟨[sf (.lst ([x,y,z].map .str)),si c,si (i:Int)],.fz,rfl,?_,λ_=>⟨.fz,?_⟩⟩
   . have l3:eN (.ok [(.fz,.int 1),(.fz,.int 2),(.fz,.int 4)])=.ok .fr (.lst [.int 1,.int 2,.int 4]):=rfl;simp only[aTT,aX2,aXL]at hi;rcases hi with rfl|rfl|rfl
     . have ix:op2 ixD (.ok .fr (.lst [.int 1,.int 2,.int 4])) (okf (.int 0))=okf (.int 1):=bP rfl;simp[l3,ix,cL,p]
     . have ix:op2 ixD (.ok .fr (.lst [.int 1,.int 2,.int 4])) (okf (.int 1))=okf (.int 2):=bP rfl;simp[l3,ix,cL,p]
     . have ix:op2 ixD (.ok .fr (.lst [.int 1,.int 2,.int 4])) (okf (.int 2))=okf (.int 4):=bP rfl;simp[l3,ix,cL,p]
   . simp only[aTT,aX2,aXL]at hi;rcases hi with rfl|rfl|rfl <;> rfl
  refine⟨tv (([0,1,2].filter p).map λi=>[x,y,z].getD i ""),.inr ⟨_,rfl,sub3 hs p,λu hu=>?_⟩,k8 ?_⟩
  . obtain⟨i,hi,rfl⟩:=aY7.mp hu;have hi:=(aTN.mp hi).1;simp only[aTT,aX2,aXL]at hi;rcases hi with rfl|rfl|rfl <;> simp
  . have tt:eP [(.fr,.lst (([0,1,2].filter p).map λi=>D.str ([x,y,z].getD i "")))]=some (.fz,tv (([0,1,2].filter p).map λi=>[x,y,z].getD i "")):=by show some (Md.fz,D.tup _)=some (Md.fz,D.tup (List.map D.str (List.map _ _)));rw[aY8];rfl
    generalize ([0,1,2].filter p).map (λi=>D.str ([x,y,z].getD i ""))=G at *;generalize tv (([0,1,2].filter p).map λi=>[x,y,z].getD i "")=R at *;generalize ([0,1,2].map λi:Nat=>D.int (i:Int))=L at *;generalize D.lst ([x,y,z].map .str)=PP at *;have r:evE (Wk k) (.tcall .tuple [(.comp (.ix v0 v2) (.rng1 (.int 3)) [(.cmp .Eq (.bin .Mod (.bin .FloorDiv (.bin .FloorDiv v1 (.int 5)) (.ix (.lst [(.int 1),(.int 2),(.int 4)]) v2)) (.int 2)) (.int 1))] [2,3] (.nm 2) 1)]) [si (4),si sz,sf PP,si c]=okf R:=by rw[tQ,gD,m5,jO];have:evE (Wk k) (.rng1 (.int 3)) [si (4),si sz,sf PP,si c]=okf (.lst L):=rg;rw[this,cm];show cE eP (.ok [(.fr,.lst G)])=_;simp[tt]
    simp[hW,e5,r]
theorem uW:∀(ds:List D),(∀d∈ds,∀p,aS d=some p->PyData.eqv p p=true)->∀ps,cQ ds=some ps->PyData.eqvAll ps ps=true
 |[],_,ps,h=>by simp[cQ]at h;subst h;simp[PyData.eqvAll]
 |d::ds,hd,ps,h=>by
  have h:(match aS d,cQ ds with|some p,some ps=>some (p::ps)|_,_=>none)=some ps:=by rw[cQ]at h;exact h
  cases e:aS d with
  |none=>rw[e]at h;cases h
  |some p =>
   cases e':cQ ds with
   |none=>rw[e,e']at h;cases h
   |some qs=>rw[e,e']at h;cases h;rw[PyData.eqvAll,hd d mcs p e,uW ds (λx hx=>hd x (mcm hx)) qs e'];rfl
def aS6{d:D}(h:Pl n d):∀p,aS d=some p->PyData.eqv p p=true:=by
 induction h with
 |non=>intro p h;simp[aS]at h;subst h;rfl
 |bl b=>intro p h;simp[aS]at h;subst h;simp[PyData.eqv]
 |int b=>intro p h;simp[aS]at h;subst h;simp[PyData.eqv]
 |str b=>intro p h;simp[aS]at h;subst h;simp[PyData.eqv]
 | @tup n ds h hl ih =>
  intro p hp;cases e:cQ ds with
  |none=>rw[aS,e]at hp;cases hp
  |some ps=>rw[aS,e]at hp;cases hp;rw[PyData.eqv];exact uW ds ih ps e
def ne_l{m:Md}(h:∀d∈ds,Pl n d)(hn:n<=40):op2 (aW .NotEq) (.ok m (.lst ds)) (.ok m' (.lst ds))=okf (.bl false):=cC (by
 obtain⟨ps,e,l⟩:=uL ds λd hd=>uM (h d hd);have t:aS (.lst ds)=some (.list ps):=by rw[aS,e];rfl
 have q:PyData.eqv (.list ps) (.list ps)=true:=by rw[PyData.eqv];exact uW ds (λd hd=>aS6 (h d hd)) ps e
 have s:jD (.list ps)=true:=by unfold jD;rw[aV9];simp only[PyData.depth];omega
 show orO (eqF true) _ m _ m' _=_;unfold orO eqF;rw[t];dsimp only;rw[s,q];rfl)
def uX:List D:=[.int 1,.int 4,.int 16,.int 64,.int 256,.int 1024]
def aS7:eN (.ok [(.fz,.int 1),(.fz,.int 4),(.fz,.int 16),(.fz,.int 64),(.fz,.int 256),(.fz,.int 1024)])=.ok .fr (.lst uX):=rfl
def aS8(h:i<6):∃q:Int,0<q/\q<=1024/\∀m m':Md,op2 ixD (.ok m (.lst uX)) (.ok m' (.int (i:Int)))=okf (.int q):=by
 have:i=0\/i=1\/i=2\/i=3\/i=4\/i=5:=by omega
 rcases this with rfl|rfl|rfl|rfl|rfl|rfl
 . exact⟨1,by decide,by decide,λm m'=>bP (cG (j:=0) rfl)⟩
 . exact⟨4,by decide,by decide,λm m'=>bP (cG (j:=1) rfl)⟩
 . exact⟨16,by decide,by decide,λm m'=>bP (cG (j:=2) rfl)⟩
 . exact⟨64,by decide,by decide,λm m'=>bP (cG (j:=3) rfl)⟩
 . exact⟨256,by decide,by decide,λm m'=>bP (cG (j:=4) rfl)⟩
 . exact⟨1024,by decide,by decide,λm m'=>bP (cG (j:=5) rfl)⟩
abbrev uY:E:=.frz (.tcall .tuple [(.comp (.ix v0 (.bin .Mod (.bin .FloorDiv v1 (.ix (.lst [(.int 1),(.int 4),(.int 16),(.int 64),(.int 256),(.int 1024)]) v2)) (.int 4))) (.rng1 v3) [] [9,13] (.nm 2) 1)])
def row_(W:WD){ps:List N}(h4:ps.length=4)(hp:∀v∈ps,bS v){w:Nat}(hw:w<=6)(c:Int)(r3:ρ[3]? = some (si (w:Int)))(r9:ρ[9]? = some (sf (.lst (ps.map nD))))(r13:ρ[13]? = some (si c)):∃vs:List N,vs.length=w/\(∀v∈vs,bS v)/\evE W uY ρ=okf (nD (.t vs)):=by
 have zl:sizeLine=16777216:=aUF;have one:∀i:Nat,∃v:N,bS v/\(i<6->evE W (.ix v0 (.bin .Mod (.bin .FloorDiv v1 (.ix (.lst [(.int 1),(.int 4),(.int 16),(.int 64),(.int 256),(.int 1024)]) v2)) (.int 4))) [sf (.lst (ps.map nD)),si c,si (i:Int)]=okf (nD v)):=by
  intro i;by_cases hi:i<6
  . obtain⟨q,q0,q1,qx⟩:=aS8 hi;obtain⟨d,hd,ed⟩:=nF (ps.map nD) (c / q) 4 (by rw[aUL,h4];rfl) (by decide)
    obtain⟨v,hv,rfl⟩:=aY7.mp hd;refine⟨v,hp v hv,λ_=>?_⟩;have ix:=bP (m:=.fz) (m':=.fz) ed;have dv:op2 (bW .FloorDiv) (okf (.int c)) (okf (.int q))=okf (.int (c / q)):=pJ q0 (by omega)
    have q2:=qx .fr .fz;have l6:=aS7;generalize uX=S4 at *;generalize ps.map nD=PS at *;generalize nD v=V0 at *;simp[l6,q2,dv,ix,cL]
  . exact⟨.i 0,.i 0,λz=>absurd z hi⟩
 obtain⟨vf,hvf⟩:∃vf:Nat->N,∀i,bS (vf i)/\(i<6->evE W (.ix v0 (.bin .Mod (.bin .FloorDiv v1 (.ix (.lst [(.int 1),(.int 4),(.int 16),(.int 64),(.int 256),(.int 1024)]) v2)) (.int 4))) [sf (.lst (ps.map nD)),si c,si (i:Int)]=okf (nD (vf i))):=⟨λi=>Classical.choose (one i),λi=>aZM (one i)⟩;have rg:bJ 0 (w:Int)=(List.range w).map λi:Nat=>D.int (i:Int):=by simp[bJ]
 have sub:bZ [9,13] ρ++List.replicate 1 none=[sf (.lst (ps.map nD)),si c,none]:=by simp[bZ,r9,r13]
 have cm:bU (okf (.lst (bJ 0 (w:Int)))) ρ [9,13] 1 (aP (.nm 2)) (λρ=>evF W [] ρ) (λρ=>evE W (.ix v0 (.bin .Mod (.bin .FloorDiv v1 (.ix (.lst [(.int 1),(.int 4),(.int 16),(.int 64),(.int 256),(.int 1024)]) v2)) (.int 4))) ρ)=.ok .fr (.lst ((List.range w).map λi=>nD (vf i))):=by
  rw[rg];refine jP (enc:=λi:Nat=>D.int (i:Int)) (λi=>nD (vf i)) (by rw[aX7];omega) λi hi=>?_
  have hi:=aTO.mp hi;refine⟨[sf (.lst (ps.map nD)),si c,si (i:Int)],.fz,by rw[sub];rfl,rfl,.fz,?_⟩
  rw[(hvf i).2 (by omega)]
  rfl
 refine⟨(List.range w).map λi=>vf i,by simp,λv hv=>?_,?_⟩
 . obtain⟨i,_,rfl⟩:=aY7.mp hv;exact(hvf i).1
 . have er:=qK (m:=.fz) (n:=(w:Int)) (by omega) (by omega)
   have g3:bB ρ 3=okf (.int (w:Int)):=by unfold bB;rw[r3]
   have e1:evE W (.comp (.ix v0 (.bin .Mod (.bin .FloorDiv v1 (.ix (.lst [(.int 1),(.int 4),(.int 16),(.int 64),(.int 256),(.int 1024)]) v2)) (.int 4))) (.rng1 v3) [] [9,13] (.nm 2) 1) ρ=.ok .fr (.lst ((List.range w).map λi=>nD (vf i))):=by rw[jO,tP,fF,g3];show bU (e9 (.ok [(.fz,.int (w:Int))])) _ _ _ _ _ _=_;rw[er,cm]
   rw[gC,tQ,gD,m5,e1];show Res.ok .fz (D.tup ((List.range w).map λi=>nD (vf i)))=_;rw[nD,iI,aY8];rfl
def aDE{a b c d r:D}(h:Φ [a,b,c,d]=okf r):aO 4 Φ (.ok [(.fz,a),(.fz,b),(.fz,c),(.fz,d)])=okf r:=kW (ds:=[a,b,c,d]) rfl rfl h
section
variable  {sz:Int}{Ok:D->Prop}
abbrev k9:E:=.frz (.bin .FloorDiv v13 (.ix (.lst [(.int 64),(.int 4096)]) (.tcall .int [(.cmp .Gt v3 (.int 3))])))
def cell_(W:WD){w:Nat}(c:Int)(r3:ρ[3]? = some (si (w:Int)))(r13:ρ[13]? = some (si c)):∃c2,evE W k9 ρ=okf (.int c2):=by
 have g3:bB ρ 3=okf (.int (w:Int)):=by unfold bB;rw[r3]
 have g13:bB ρ 13=okf (.int c):=by unfold bB;rw[r13]
 have l2:eN (.ok [(.fz,.int 64),(.fz,.int 4096)])=.ok .fr (.lst [.int 64,.int 4096]):=rfl;have x0:op2 ixD (.ok .fr (.lst [.int 64,.int 4096])) (okf (.int 0))=okf (.int 64):=bP rfl;have x1:op2 ixD (.ok .fr (.lst [.int 64,.int 4096])) (okf (.int 1))=okf (.int 4096):=bP rfl;have d0:op2 (bW .FloorDiv) (okf (.int c)) (okf (.int 64))=okf (.int (c / 64)):=pJ (by decide) (by decide)
 have d1:op2 (bW .FloorDiv) (okf (.int c)) (okf (.int 4096))=okf (.int (c / 4096)):=pJ (by decide) (by decide)
 have t:cE Ty.int.f (.ok [(.fz,.bl (decide ((3:Int)<(w:Int))))])=okf (.int (if decide ((3:Int)<(w:Int))=true then 1 else 0)):=rfl;have main:evE W k9 ρ=aK (op2 (bW .FloorDiv) (bB ρ 13) (op2 ixD (eN (.ok [(.fz,.int 64),(.fz,.int 4096)])) (cE Ty.int.f (aX (op2 (aW .Gt) (bB ρ 3) (okf (.int 3))) (.ok []))))):=rfl;rw[main,g3,g13,x_gt,cL,t,l2];cases decide ((3:Int)<(w:Int))with
 |true=>exact⟨c / 4096,by rw[if_pos rfl,x1,d1];rfl⟩
 |false=>exact⟨c / 64,by rw[if_neg aT5,x0,d0];rfl⟩
abbrev St(Kd No:D)(way sz:Int)(pl:D->D->D)(w:Nat)(Wd:D)(ps:List N)(prs:List (N×D))(x0 x1 x7 x10 x13 x14 x15:Option (Bool×D)):Rho :=
 [x0,x1,si way,si (w:Int),si sz,sf Kd,sf No,x7,sf Wd,sf (.lst (ps.map nD)),x10,some (true,.lst (prs.map enc)),some (true,.dtn (val pl No (gaG prs []))),x13,x14,x15,none,none,none,none,none]
def turn_(K:KO Kd No way sz Ok pl)(k:Nat){w:Nat}(hw:w<=6){ps:List N}(h4:ps.length=4)(hp:∀v∈ps,bS v)(hnote:∀c,∃d,Ok d/\(Wk (k+8)).Φ "_law_note" [.int way,.int sz,Wd,.int c]=okf d)(h:∀e∈prs,Pr Ok w e)(hl:prs.length<=60)(c:Int)(x0 x1 x7 x10 x14 x15:Option (Bool×D)):∃e y14 y15,Pr Ok w e/\evB (Wk (k+8)) kZ (St Kd No way sz pl w Wd ps prs x0 x1 x7 x10 (si c) x14 x15)=.nx (St Kd No way sz pl w Wd ps (prs++[e]) x0 x1 x7 x10 (si c) y14 y15):=by
 have zl:sizeLine=16777216:=aUF;obtain⟨vs,lv,hv,e1⟩:=row_ (Wk (k+8)) h4 hp hw c (ρ:=St Kd No way sz pl w Wd ps prs x0 x1 x7 x10 (si c) x14 x15) rfl rfl rfl;have hr:Row (.t vs):=⟨vs,rfl,hv,by omega⟩
 have s1:evS (Wk (k+8)) (.set 14 uY) (St Kd No way sz pl w Wd ps prs x0 x1 x7 x10 (si c) x14 x15)=.nx (St Kd No way sz pl w Wd ps prs x0 x1 x7 x10 (si c) (sf (nD (.t vs))) x15):=by rw[g9,e1];rfl
 obtain⟨c2,e2⟩:=cell_ (Wk (k+8)) (w:=w) c (ρ:=St Kd No way sz pl w Wd ps prs x0 x1 x7 x10 (si c) (sf (nD (.t vs))) x15) rfl rfl;obtain⟨d,hd,en⟩:=hnote c2;have s2:evS (Wk (k+8)) (.set 15 (.frz (.call "_law_note" 4 [v2,v4,v8,k9]))) (St Kd No way sz pl w Wd ps prs x0 x1 x7 x10 (si c) (sf (nD (.t vs))) x15)=.nx (St Kd No way sz pl w Wd ps prs x0 x1 x7 x10 (si c) (sf (nD (.t vs))) (sf d)):=by
  have ev:evE (Wk (k+8)) (.frz (.call "_law_note" 4 [v2,v4,v8,k9])) (St Kd No way sz pl w Wd ps prs x0 x1 x7 x10 (si c) (sf (nD (.t vs))) x15)=okf d:=by show aK (aO 4 ((Wk (k+8)).Φ "_law_note") (aX (okf (.int way)) (aX (okf (.int sz)) (aX (okf Wd) (aX (evE (Wk (k+8)) k9 _) (.ok []))))))=_;rw[e2,cL,cL,cL,cL,aDE en];rfl
  rw[g9,ev];rfl
 have g0:Gi Ok ([]:GD) 0:=⟨aUA _,aXX,λkv hkv=>nomatch hkv⟩;obtain⟨_,_,_,g⟩:=qJ (Wk (k+8)) (Kd:=Kd) (P:=Kd) prs [] 0 none none (λe he=>⟨(h e he).row,(h e he).ok⟩) g0 (by omega) rfl
 have lk:(val pl No (gaG prs [])).length<sizeLine:=by unfold val;rw[aUL];have:=g.len;omega
 refine⟨(N.t vs,d),sf (nD (.t vs)),sf d,⟨hr,hd,?_⟩,?_⟩
 . show some (Md.fz,D.int ((nDL vs).length:Nat))=_;rw[iI,aUL,lv]
 . have s3:evS (Wk (k+8)) (.app 11 (.tup [v14,v15])) (St Kd No way sz pl w Wd ps prs x0 x1 x7 x10 (si c) (sf (nD (.t vs))) (sf d))=.nx ([x0,x1,si way,si (w:Int),si sz,sf Kd,sf No,x7,sf Wd,sf (.lst (ps.map nD)),x10,some (true,.lst ((prs++[(N.t vs,d)]).map enc)),some (true,.dtn (val pl No (gaG prs []))),si c,sf (nD (.t vs)),sf d,none,none,none,none,none]):=by
     have la:(prs.map enc).length<sizeLine:=by rw[aUL];omega
     rw[aAU,aY9];show(if(prs.map enc).length<sizeLine then _ else _:aF)=_;rw[if_pos la];rfl
   have okv:Ok ((bV (val pl No (gaG prs [])) (.t vs)).getD No):=by
    rw[aCL];cases e:cK (gaG prs []) (.t vs)with
    |none=>exact K.okn
    |some ds=>exact K.okf ds No K.okn ((g.each _ (uP e)).2.1)
   have su:=K.sum (k+6) _ d okv hd;have s4:evS (Wk (k+8)) (.nput 12 v14 (.call "_law_sum" 4 [v2,v4,(.frz (.nget v12 v14 v6)),v15])) ([x0,x1,si way,si (w:Int),si sz,sf Kd,sf No,x7,sf Wd,sf (.lst (ps.map nD)),x10,some (true,.lst ((prs++[(N.t vs,d)]).map enc)),some (true,.dtn (val pl No (gaG prs []))),si c,sf (nD (.t vs)),sf d,none,none,none,none,none])=.nx (St Kd No way sz pl w Wd ps (prs++[(N.t vs,d)]) x0 x1 x7 x10 (si c) (sf (nD (.t vs))) (sf d)):=by
    have ge:gaG (prs++[(N.t vs,d)]) []=eS (gaG prs []) (.t vs) d:=by unfold gaG;rw[List.foldl_append];rfl
    have ee:val pl No (gaG (prs++[(N.t vs,d)]) [])=kJ (val pl No (gaG prs [])) (.t vs) (pl ((bV (val pl No (gaG prs [])) (.t vs)).getD No) d):=by rw[ge,aR5]
    unfold St;rw[ee];generalize val pl No (gaG prs [])=V at *;have ng:evE (Wk (k+8)) (.frz (.nget v12 v14 v6)) [x0,x1,si way,si (w:Int),si sz,sf Kd,sf No,x7,sf Wd,sf (.lst (ps.map nD)),x10,some (true,.lst ((prs++[(N.t vs,d)]).map enc)),some (true,.dtn V),si c,sf (nD (.t vs)),sf d,none,none,none,none,none]=okf ((bV V (.t vs)).getD No):=by show aK (kK (.ok .bo (.dtn V)) (okf (nD (.t vs))) (okf No))=_;unfold kK;have a1:asN (.dtn V)=some V:=rfl;simp only[Res.thn_ok,a1,hr.key];rfl
    have cs:evE (Wk (k+8)) (.call "_law_sum" 4 [v2,v4,(.frz (.nget v12 v14 v6)),v15]) [x0,x1,si way,si (w:Int),si sz,sf Kd,sf No,x7,sf Wd,sf (.lst (ps.map nD)),x10,some (true,.lst ((prs++[(N.t vs,d)]).map enc)),some (true,.dtn V),si c,sf (nD (.t vs)),sf d,none,none,none,none,none]=okf (pl ((bV V (.t vs)).getD No) d):=by show aO 4 ((Wk (k+8)).Φ "_law_sum") (aX (okf (.int way)) (aX (okf (.int sz)) (aX (evE (Wk (k+8)) (.frz (.nget v12 v14 v6)) _) (aX (okf d) (.ok [])))))=_;rw[ng,cL,cL,cL,cL,aDE su]
    rw[aP7,cs];show(match eG (nD (.t vs))with|some k=>if V.length<sizeLine then aF.nx _ else .stuck|none=>.stuck)=_
    rw[hr.key];dsimp only;rw[if_pos lk];rfl
   have eb:kZ=[.set 14 uY,.set 15 (.frz (.call "_law_note" 4 [v2,v4,v8,k9])),.app 11 (.tup [v14,v15]),.nput 12 v14 (.call "_law_sum" 4 [v2,v4,(.frz (.nget v12 v14 v6)),v15])]:=rfl;rw[eb,bR s1,bR s2,bR s3,bR s4,iP]
theorem aDF(K:KO Kd No way sz Ok pl)(k:Nat){w:Nat}(hw:w<=6){Wd:D}{ps:List N}(h4:ps.length=4)(hp:∀v∈ps,bS v)(hnote:∀c,∃d,Ok d/\(Wk (k+8)).Φ "_law_note" [.int way,.int sz,Wd,.int c]=okf d)(x0 x1 x7 x10:Option (Bool×D)):∀(cs:List Int) (prs:List (N×D)) (x13 x14 x15:Option (Bool×D)),(∀e∈prs,Pr Ok w e)->prs.length+cs.length<=60->∃prs' y13 y14 y15,(∀e∈prs',Pr Ok w e)/\prs'.length<=60/\cI (aP (.nm 13)) (evB (Wk (k+8)) kZ) (cs.map .int) (St Kd No way sz pl w Wd ps prs x0 x1 x7 x10 x13 x14 x15)=.nx (St Kd No way sz pl w Wd ps prs' x0 x1 x7 x10 y13 y14 y15)
 |[],prs,x13,x14,x15,h,hl=>⟨prs,x13,x14,x15,h,by simpa using hl,rfl⟩
 |c::cs,prs,x13,x14,x15,h,hl=>by
  have hl:prs.length+(cs.length+1)<=60:=hl;obtain⟨e,y14,y15,pe,eb⟩:=turn_ K k hw h4 hp hnote h (by omega) c x0 x1 x7 x10 x14 x15
  have st:aP (.nm 13) (.int c) (St Kd No way sz pl w Wd ps prs x0 x1 x7 x10 x13 x14 x15)=some (St Kd No way sz pl w Wd ps prs x0 x1 x7 x10 (si c) x14 x15):=rfl;obtain⟨prs',y13,y14',y15',a1,a2,a3⟩:=aDF K k hw h4 hp hnote x0 x1 x7 x10 cs (prs++[e]) (si c) y14 y15 (λu hu=>by
   rcases aTU.mp hu with hu|hu
   . exact h u hu
   . rw[aW7.mp hu];exact pe) (by rw[aU4,aVT];omega)
  exact⟨prs',y13,y14',y15',a1,a2,by rw[aUK,qH st eb];exact a3⟩
end
section
variable  {sz:Int}{Ok:D->Prop}
theorem aDG:∀{V:List (N×D)},(V.map (·.1)).Nodup->∀e∈V,bV V e.1=some e.2
 |[],_,e,h=>by cases h
 |g::V,nd,e,he=>by
  rw[aUK,aUU]at nd;rcases aTT.mp he with rfl|he
  . rw[sN (p:=e) rfl]
  . rw[sO (p:=g) (λz=>nd.1 (aY7.mpr ⟨e,he,z.symm⟩))];exact aDG nd.2 e he
def aDH{V:List (N×D)}(nd:(V.map (·.1)).Nodup){e:N×D}(he:e∈V)(hr:Row e.1):op2 fD (okf (.dtf V)) (okf (nD e.1))=okf e.2:=cC (by
 show fD .fz (.dtf V) .fz (nD e.1)=_;unfold fD;rw[hr.key];show(bV V e.1).map _=_;rw[aDG nd e he];rfl)
def aS9{k:N}(h:Row k):Pl 1 (nD k):=by
 obtain⟨vs,rfl,hv,hl⟩:=h.ex;rw[nD];refine .tup (λd hd=>?_) (by rw[iI,aUL];omega)
 rw[iI]at hd;obtain⟨v,hm,rfl⟩:=aY7.mp hd;cases hv v hm with
 |i n=>exact .int n
 |s x=>exact .str x
def aDI{e:N×D}(h1:Row e.1)(h2:Pl 2 e.2):Pl 3 (enc e):=pl2 ((aS9 h1).mono (by decide)) h2
abbrev Fn(Kd No:D)(way sz:Int)(w:Nat)(Wd:D)(ps:List N)(f:List Str)(prs V:List (N×D))(x0 x1 x7 x13 x14 x15 x16 x17 x18 x19 x20:Option (Bool×D)):Rho :=
 [x0,x1,si way,si (w:Int),si sz,sf Kd,sf No,x7,sf Wd,sf (.lst (ps.map nD)),sf (.lst (f.map .str)),sf (.lst (prs.map enc)),sf (.dtf V),x13,x14,x15,x16,x17,x18,x19,x20]
abbrev e16:E:=.frz (.srtf "_law_ranked" (.comp v2 (.nkeys v12) [(.cmp .NotEq (.nix v1 v2) v0)] [6,12] (.nm 2) 1))
abbrev e17:E:=.tup [(.frz (.tcall .tuple [v10])),(.frz (.tcall .tuple [(.comp (.tup [v1,(.nix v0 v1)]) (.items v16) [] [12] (.nm 1) 1)]))]
def vv16(K:KO Kd No way sz Ok pl)(k:Nat){V:List (N×D)}(hV:∀e∈V,Row e.1/\Ok e.2)(nd:(V.map (·.1)).Nodup)(hl:V.length<=60)(r6:ρ[6]? = some (sf No))(r12:ρ[12]? = some (sf (.dtf V))):evE (Wk (k+8)) e16 ρ=okf (.lst ((eA (λe=>rkK e.1) (V.filter λe=>!eqB e.2 No)).map λe=>nD e.1)):=by
 have zl:sizeLine=16777216:=aUF;have sub:bZ [6,12] ρ++List.replicate 1 none=[sf No,sf (.dtf V),none]:=by simp[bZ,r6,r12]
 have g12:bB ρ 12=okf (.dtf V):=by unfold bB;rw[r12]
 have c1:bU (okf (.lst (V.map λe=>nD e.1))) ρ [6,12] 1 (aP (.nm 2)) (λρ=>evF (Wk (k+8)) [(.cmp .NotEq (.nix v1 v2) v0)] ρ) (λρ=>evE (Wk (k+8)) v2 ρ)=.ok .fr (.lst ((V.filter λe=>!eqB e.2 No).map λe=>nD e.1)):=by
  refine qG (enc:=λe:N×D=>nD e.1) (λe=>!eqB e.2 No) (λe=>nD e.1) (by omega) λe he=>?_
  have ne:op2 (aW .NotEq) (okf e.2) (okf No)=okf (.bl (!eqB e.2 No)):=aCD (K.plain _ (hV e he).2) (K.plain _ K.okn) (by decide)
  have nx:=aDH nd he (hV e he).1;refine⟨[sf No,sf (.dtf V),sf (nD e.1)],.fz,by rw[sub];rfl,?_,λ_=>⟨.fz,rfl⟩⟩
  generalize nD e.1=z at *;generalize e.2=u at *;simp[nx,ne]
 have es:∀e∈V.filter (λe=>!eqB e.2 No),Row e.1:=λe he=>(hV e (aTN.mp he).1).1;have fn:((V.filter λe=>!eqB e.2 No).map λe=>e.1).Nodup:=(aZI (λe:N×D=>e.1) aZJ).nodup nd;have fl:=aZK (λe:N×D=>!eqB e.2 No) V;have so:cW (λd=>(Wk (k+7)).Φ "_law_ranked" [d]) (.ok .fr (.lst ((V.filter λe=>!eqB e.2 No).map λe=>nD e.1)))=.ok .fr (.lst ((eA (λe=>rkK e.1) (V.filter λe=>!eqB e.2 No)).map λe=>nD e.1)):=by
  generalize V.filter (λe=>!eqB e.2 No)=L at *;have kds:∀e:N×D,∃kd:D,e∈L->aK ((Wk (k+7)).Φ "_law_ranked" [nD e.1])=okf kd/\d7 kd=some (false , rkK e.1):=λe=>by
   by_cases he:e∈L
   . obtain⟨vs,ev,e2⟩:=aCW (es e he);obtain⟨vs',ev',hv,hn⟩:=(es e he).ex;have:vs'=vs:=by rw[ev]at ev';injection ev' with z;exact z.symm
     subst this;refine⟨_,λ_=>⟨?_,e2⟩⟩;rw[ev,aR2 (k+6) hv hn];rfl
   . exact⟨.non,λz=>absurd z he⟩
  exact aCR (f:=λe:N×D=>nD e.1) (κ:=λe:N×D=>rkK e.1) (kd:=λe=>Classical.choose (kds e)) (λe he=>(aZM (kds e) he).1) (λe he=>(aZM (kds e) he).2) (by
   have:=aCV (ks:=L.map λe=>e.1) (λk hk=>by obtain⟨e,he,rfl⟩:=aY7.mp hk;exact es e he) fn
   rw[aY8]at this
   exact this) (aTK (by omega:L.length<64) zF)
 have ek:evE (Wk (k+8)) (.nkeys v12) ρ=okf (.lst (V.map λe=>nD e.1)):=by show mO (bB ρ 12)=_;rw[g12];rfl
 rw[gC,aR9 rfl,jO,ek,c1];show aK (cW (λd=>(Wk (k+7)).Φ "_law_ranked" [d]) _)=_;rw[so];rfl
def vv17(W:WD){V R:List (N×D)}{f:List Str}(hR:∀e∈R,e∈V/\Row e.1)(nd:(V.map (·.1)).Nodup)(hl:R.length<=60)(r10:ρ[10]? = some (sf (.lst (f.map .str))))(r12:ρ[12]? = some (sf (.dtf V)))(r16:ρ[16]? = some (sf (.lst (R.map λe=>nD e.1)))):evE W e17 ρ=okf (.tup [.tup (f.map .str),.tup (R.map enc)]):=by
 have zl:sizeLine=16777216:=aUF;have sub:bZ [12] ρ++List.replicate 1 none=[sf (.dtf V),none]:=by simp[bZ,r12]
 have g10:bB ρ 10=okf (.lst (f.map .str)):=by unfold bB;rw[r10]
 have g16:bB ρ 16=okf (.lst (R.map λe=>nD e.1)):=by unfold bB;rw[r16]
 have c1:bU (okf (.lst (R.map λe=>nD e.1))) ρ [12] 1 (aP (.nm 1)) (λρ=>evF W [] ρ) (λρ=>evE W (.tup [v1,(.nix v0 v1)]) ρ)=.ok .fr (.lst (R.map enc)):=by
  refine jP (enc:=λe:N×D=>nD e.1) enc (by omega) λe he=>?_
  have nx:=aDH nd (hR e he).1 (hR e he).2;refine⟨[sf (.dtf V),sf (nD e.1)],.fz,by rw[sub];rfl,rfl,.fz,?_⟩
  show aK (jA (aX (okf (nD e.1)) (aX (op2 fD (okf (.dtf V)) (okf (nD e.1))) (.ok []))))=_;rw[nx];rfl
 have m1:evE W e17 ρ=jA (aX (aK (cE Ty.tuple.f (aX (bB ρ 10) (.ok [])))) (aX (aK (cE Ty.tuple.f (aX (bU (eD (aK (bB ρ 16))) ρ [12] 1 (aP (.nm 1)) (λρ=>evF W [] ρ) (λρ=>evE W (.tup [v1,(.nix v0 v1)]) ρ)) (.ok [])))) (.ok []))):=rfl;have it:eD (aK (okf (.lst (R.map λe=>nD e.1))))=okf (.lst (R.map λe=>nD e.1)):=rfl;rw[m1,g10,g16,it,c1];rfl
end
section
variable  {sz:Int}{Ok:D->Prop}
def aDJ{a b c r:D}(h:Φ [a,b,c]=okf r):aO 3 Φ (.ok [(.fz,a),(.fz,b),(.fz,c)])=okf r:=kW (ds:=[a,b,c]) rfl rfl h
def rest_(K:KO Kd No way sz Ok pl)(k:Nat){w:Nat}{ps:List N}{f:List Str}(hf:f.length=w)(fnd:f.Nodup)(fn:∀z∈f,dS z)(hw:w<=6)(h:∀e∈prs,Pr Ok w e)(hl:prs.length<=60)(x0 x1 x7 x13 x14 x15:Option (Bool×D)):evB (Wk (k+8)) (fG.drop 13) (St Kd No way sz pl w Wd ps prs x0 x1 x7 (sf (.lst (f.map .str))) x13 x14 x15)=.rt .fz (.bl true):=by
 have zl:sizeLine=16777216:=aUF;have g0:Gi Ok ([]:GD) 0:=⟨aUA _,aXX,λkv hkv=>nomatch hkv⟩;obtain⟨_,_,_,g⟩:=qJ (Wk (k+8)) (Kd:=Kd) (P:=Kd) prs [] 0 none none (λe he=>⟨(h e he).row,(h e he).ok⟩) g0 (by omega) rfl
 rw[aW6]at g;have hV:∀e∈val pl No (gaG prs []),Row e.1/\Ok e.2:=λe he=>by obtain⟨kv,hkv,rfl⟩:=aY7.mp he;exact⟨(g.each kv hkv).1,K.okf _ _ K.okn (g.each kv hkv).2.1⟩
 have nd:((val pl No (gaG prs [])).map (·.1)).Nodup:=by unfold val;rw[aY8];exact g.nd
 have lV:(val pl No (gaG prs [])).length<=60:=by unfold val;rw[aUL];have:=g.len;omega
 have ta:=tab_ K (k+1) (f:=f) (C:=.lst (f.map .str)) (P:=.lst (prs.map enc)) (prs:=prs) (.inl rfl) fnd fn (λ_=>rfl) (by rw[hf];exact h) (by omega)
 have tb:=tab_ K (k+1) (f:=f) (C:=.tup (f.map .str)) (P:=.tup (prs.map enc)) (prs:=prs) (.inr rfl) fnd fn (λ_=>rfl) (by rw[hf];exact h) (by omega)
 have ef:gH pl No prs=(val pl No (gaG prs [])).filter λe=>!eqB e.2 No:=rfl;rw[ef]at ta tb;generalize hVe:val pl No (gaG prs [])=V at *;have e1:evS (Wk (k+8)) (.frzV 11) (St Kd No way sz pl w Wd ps prs x0 x1 x7 (sf (.lst (f.map .str))) x13 x14 x15)=.nx [x0,x1,si way,si (w:Int),si sz,sf Kd,sf No,x7,sf Wd,sf (.lst (ps.map nD)),sf (.lst (f.map .str)),sf (.lst (prs.map enc)),some (true,.dtn V),x13,x14,x15,none,none,none,none,none]:=by unfold St;rw[hVe];rfl
 have e2:evS (Wk (k+8)) (.nfrz 12) [x0,x1,si way,si (w:Int),si sz,sf Kd,sf No,x7,sf Wd,sf (.lst (ps.map nD)),sf (.lst (f.map .str)),sf (.lst (prs.map enc)),some (true,.dtn V),x13,x14,x15,none,none,none,none,none]=.nx (Fn Kd No way sz w Wd ps f prs V x0 x1 x7 x13 x14 x15 none none none none none):=rfl;have a16:=vv16 K k hV nd lV (ρ:=Fn Kd No way sz w Wd ps f prs V x0 x1 x7 x13 x14 x15 none none none none none) rfl rfl;generalize hR:eA (λe=>rkK e.1) (V.filter λe=>!eqB e.2 No)=R at *;have mR:∀e∈R,e∈V/\Row e.1:=λe he=>by rw[<- hR]at he;have:=(aTN.mp ((uQ _ _).mem_iff.mp he)).1;exact⟨this,(hV e this).1⟩
 have lR:R.length<=60:=by rw[<- hR,(uQ _ _).length_eq];have:=aZK (λe:N×D=>!eqB e.2 No) V;omega
 have a17 := vv17 (Wk (k + 8)) (f := f) mR nd lR (ρ := Fn Kd No way sz w Wd ps f prs V x0 x1 x7 x13 x14 x15 (sf (.lst (R.map fun e => nD e.1))) none none none none) rfl rfl rfl; have plD : Pl 5 (.tup [.tup (f.map .str), .tup (R.map enc)]) := pl2 (.tup (fun d hd => by
     obtain⟨z,_,rfl⟩:=aY7.mp hd;exact .str z) (by rw[aUL];omega)) (.tup (λd hd=>by
     obtain⟨e,he,rfl⟩:=aY7.mp hd
     exact aDI (mR e he).2 (K.plain _ (hV e (mR e he).1).2)) (by rw[aUL];omega))
 have al:=iQ (alike 5 plD (k+8) (by omega))
 have n1:op2 (aW .NotEq) (okf (.lst (prs.map enc))) (okf (.lst (prs.map enc)))=okf (.bl false):=ne_l (n:=3) (λd hd=>by
  obtain⟨e,he,rfl⟩:=aY7.mp hd
  exact aDI (h e he).row (K.plain _ (h e he).ok)) (by decide)
 have n2:op2 (aW .NotEq) (okf (.lst (f.map .str))) (okf (.lst (f.map .str)))=okf (.bl false):=ne_l (n:=0) (λd hd=>by
  obtain⟨z,_,rfl⟩:=aY7.mp hd
  exact .str z) (by decide)
 have ta : aO 3 ((Wk (k + 8)).Φ "table") _ = _ := aDJ ta; have tb : aO 3 ((Wk (k + 8)).Φ "table") _ = _ := aDJ tb; have t1 : eP [(.fz, .lst (f.map .str))] = some (.fz, .tup (f.map .str)) := rfl; have t2 : eP [(.fz, .lst (prs.map enc))] = some (.fz, .tup (prs.map enc)) := rfl; have t3 : hZ [(.fz, .lst (f.map .str))] = some (.fr, .lst (f.map .str)) := rfl; have t4 : hZ [(.fz, .lst (prs.map enc))] = some (.fr, .lst (prs.map enc)) := rfl; have eb : fG.drop 13 = [.frzV 11, .nfrz 12, .set 16 e16, .set 17 e17, .set 18 (.frz (.tcall .list [v11])), .set 19 (.frz (.tcall .list [v10])), .set 20 (.frz (.call "table" 3 [v5, v19, v18])),
     .ite (.orL [(.not (.tru (.call "_law_alike" 2 [v20,v17]))),(.cmp .NotEq v18 v11),(.cmp .NotEq v19 v10)]) [.ret (.bl false)] [],
     .ret (.call "_law_alike" 2 [(.frz (.call "table" 3 [v5,(.frz (.tcall .tuple [v10])),(.frz (.tcall .tuple [v11]))])),v17])]:=rfl
 have s16:evS (Wk (k+8)) (.set 16 e16) (Fn Kd No way sz w Wd ps f prs V x0 x1 x7 x13 x14 x15 none none none none none)=.nx (Fn Kd No way sz w Wd ps f prs V x0 x1 x7 x13 x14 x15 (sf (.lst (R.map λe=>nD e.1))) none none none none):=by rw[g9,a16];rfl
 have s17:evS (Wk (k+8)) (.set 17 e17) (Fn Kd No way sz w Wd ps f prs V x0 x1 x7 x13 x14 x15 (sf (.lst (R.map λe=>nD e.1))) none none none none)=.nx (Fn Kd No way sz w Wd ps f prs V x0 x1 x7 x13 x14 x15 (sf (.lst (R.map λe=>nD e.1))) (sf (.tup [.tup (f.map .str),.tup (R.map enc)])) none none none):=by rw[g9,a17];rfl
 rw[eb,bR e1,bR e2,bR s16,bR s17];unfold Fn;generalize D.tup [.tup (f.map .str),.tup (R.map enc)]=DU at *;generalize D.tup (f.map .str)=TF at *;generalize D.lst (f.map .str)=LF at *;generalize D.tup (prs.map enc)=TP at *;generalize D.lst (prs.map enc)=LP at *;generalize D.lst (R.map λe=>nD e.1)=LR at *;generalize D.lst (ps.map nD)=LS at *;simp[t1,t2,t3,t4,ta,tb,al,n1,n2,cL]
end
def aTA(k:Nat){s:Int}(h:2<=s):fR 1 (iO (Wk (k+1)) nC) (.ok [(.fz,.int s)])=.ok .fr (.ins "Wheel" [("size", .int s)]):=by
 have w:=nG k s;have h':¬ s<2:=by omega
 have e:iO (Wk (k+1)) nC [.int s]=.ok .fr (.ins "Wheel" [("size", .int s)]):=by
  show(match gZ (WT TT (k+1)) "Wheel" (.guard (.orL [(.not (.tru (.call "is_whole" 1 [v1]))),(.cmp .Lt v1 (.int 2))]) [.never] (.fset "size" v1 .done)) [none,si s] []with|.ok fs=>Res.ok .fr (.ins "Wheel" fs)|.exc c=>.exc c|.stuck=>.stuck)=_
  simp[gZ,w,h'];rfl
 show(match iO (WT TT (k+1)) nC [.int s]with|.ok _ d=>Res.ok .fr d|r=>r)=_
 rw[e]
def KL(sz:Int):List D:=[.ins "Counts" [],.ins "Truth" [],.ins "Costs" [],.ins "Wheel" [("size", .int sz)],.ins "Voices" []]
def NL:List D:=[.int 0,.bl false,.non,.int 0,.non]
abbrev e5:E:=.ix (.lst [(.frz (.mk0 "Counts")),(.frz (.mk0 "Truth")),(.frz (.mk0 "Costs")),(.frz (.make "Wheel" "Wheel.__init__" 1 [v4])),(.frz (.mk0 "Voices"))]) v2
abbrev e6:E:=.ix (.lst [(.int 0),(.bl false),.non,(.int 0),.non]) v2
def vv5(k:Nat){sz:Int}(h:2<=sz){d:D}(r2:ρ[2]? = some (si way))(r4:ρ[4]? = some (si sz))(ed:atI (KL sz) way=some d):evE (Wk (k+8)) e5 ρ=okf d:=by
 have g2:bB ρ 2=okf (.int way):=by unfold bB;rw[r2]
 have g4:bB ρ 4=okf (.int sz):=by unfold bB;rw[r4]
 have mk:evE (Wk (k+8)) (.make "Wheel" "Wheel.__init__" 1 [v4]) ρ=.ok .fr (.ins "Wheel" [("size", .int sz)]):=by rw[aP5 (aRU (k+6)),gD,m5,fF,g4];exact aTA (k+5) h
 have ls:evE (Wk (k+8)) (.lst [(.frz (.mk0 "Counts")),(.frz (.mk0 "Truth")),(.frz (.mk0 "Costs")),(.frz (.make "Wheel" "Wheel.__init__" 1 [v4])),(.frz (.mk0 "Voices"))]) ρ=.ok .fr (.lst (KL sz)):=by rw[aAT,gD,gD,gD,gD,gD,m5,gC,gC,gC,gC,gC,mk];rfl
 rw[tO,ls,fF,g2];exact bP ed
def vv6(W:WD){d:D}(r2:ρ[2]? = some (si way))(ed:atI NL way=some d):evE W e6 ρ=okf d:=by
 have g2:bB ρ 2=okf (.int way):=by unfold bB;rw[r2]
 have ls:evE W (.lst [(.int 0),(.bl false),.non,(.int 0),.non]) ρ=.ok .fr (.lst NL):=rfl;rw[tO,ls,fF,g2];exact bP ed
def aTB{W:WD}{e:E}{m:Md}(h:evE W e ρ=.ok m (.int (i:Int))):slP (.ok m' (.lst ds)) (evO W (some e)) (evO W none) ρ=.ok .fr (.lst (ds.drop i)):=by simp only[evO,slP,Res.thn_ok,cS,h];rw[aS3]
def aTC{m:Md}{d:D}(hd:seqD d=some (xs.map .str))(h:xs.length<64):iJ [(m,d)]=some (.fr,.lst ((bF xs).map .str)):=by
 show(match seqD d with|some ds=>_|none=>none)=_
 rw[hd];dsimp only;rw[jS];dsimp only;rw[if_pos h]
def aTD{l:List Str}(nd:l.Nodup):dP (bF l):=by
 have s:=sX l;have n:(bF l).Nodup:=(kM l).symm.nodup nd;refine aY6.mpr λi j hi hj hij=>?_;have a:=aY6.mp s i j hi hj hij;have b:=aY6.mp n i j hi hj hij;cases e:lts (bF l)[i] (bF l)[j]with
 |true=>rfl
 |false=>exact absurd (kG e a) b
def aTE{ns:List Int}(hns:ns.length<=63):∃cs:List Int,cs.length<=60/\dO (ns.map D.int) (some ((3:Nat):Int)) (some ((203:Nat):Int))=cs.map D.int:=by unfold dO;rw[HT.nR,HT.nR,<- List.map_drop,<- aZL];refine⟨_,?_,rfl⟩;rw[aUX,aVF];omega
def pre_(k:Nat){sz:Int}(pl:D->D->D){w:Nat}{ps:List N}{S:D}{h c1 c2:Int}(hz:zs.length=6)(h2:2<=sz)(eh:aO 2 ((Wk (k+8)).Φ "_law_cell_at") (.ok [(.fz,S),(.fz,.int 0)])=okf (.int h))(e1:aO 2 ((Wk (k+8)).Φ "_law_cell_at") (.ok [(.fz,S),(.fz,.int 1)])=okf (.int c1))(e2:aO 2 ((Wk (k+8)).Φ "_law_cell_at") (.ok [(.fz,S),(.fz,.int 2)])=okf (.int c2))(hway:h % 5=way)(hw:h / 5 % 7=(w:Int))(hsz:2+h / 35 % 9=sz)(k5:atI (KL sz) way=some Kd)(k6:atI NL way=some No)(en:aO 2 ((Wk (k+8)).Φ "_law_names") (.ok [(.fz,.int c1),(.fz,.int 6)])=.ok .fr (.lst (zs.map .str)))(ep:aO 1 ((Wk (k+8)).Φ "_law_pool") (.ok [(.fz,.int c2)])=.ok .fr (.lst (ps.map nD))):evB (Wk (k+8)) (fG.take 12) [sf S,none,none,none,none,none,none,none,none,none,none,none,none,none,none,none,none,none,none,none,none]=.nx (St Kd No way sz pl w (.lst ((bF (zs.drop 3)).map .str)) ps [] (sf S) (si h) (sf (.lst (zs.map .str))) (sf (.lst ((zs.take w).map .str))) none none none):=by
 have eb : fG.take 12 = [.set 1 (.frz (.call "_law_cell_at" 2 [v0, (.int 0)])),
     .set 2 (.frz (.bin .Mod v1 (.int 5))),
     .set 3 (.frz (.bin .Mod (.bin .FloorDiv v1 (.int 5)) (.int 7))),
     .set 4 (.frz (.bin .Add (.int 2) (.bin .Mod (.bin .FloorDiv v1 (.int 35)) (.int 9)))),
     .set 5 e5,.set 6 e6,
     .set 7 (.frz (.call "_law_names" 2 [(.frz (.call "_law_cell_at" 2 [v0,(.int 1)])),(.int 6)])),
     .set 8 (.frz (.srtw (.slice v7 (some (.int 3)) none))),
     .set 9 (.frz (.call "_law_pool" 1 [(.frz (.call "_law_cell_at" 2 [v0,(.int 2)]))])),
     .set 10 (.frz (.slice v7 none (some v3))),
     .set 11 (.lst []),
     .set 12 .nnew]:=rfl
 rw [eb]; have a1 : evB (Wk (k + 8)) [.set 1 (.frz (.call "_law_cell_at" 2 [v0, (.int 0)])), .set 2 (.frz (.bin .Mod v1 (.int 5))), .set 3 (.frz (.bin .Mod (.bin .FloorDiv v1 (.int 5)) (.int 7))), .set 4 (.frz (.bin .Add (.int 2) (.bin .Mod (.bin .FloorDiv v1 (.int 35)) (.int 9))))] [sf S, none, none, none, none, none, none, none, none, none, none, none, none, none, none, none, none, none, none, none, none]
     = .nx [sf S,si h,si way,si (w:Int),si sz,none,none,none,none,none,none,none,none,none,none,none,none,none,none,none,none]:=by
  rw[<- hway,<- hw,<- hsz];simp[eh,cL]
 have a5:∀x:List (Option (Bool×D)),evS (Wk (k+8)) (.set 5 e5) [sf S,si h,si way,si (w:Int),si sz,none,none,none,none,none,none,none,none,none,none,none,none,none,none,none,none]=.nx [sf S,si h,si way,si (w:Int),si sz,sf Kd,none,none,none,none,none,none,none,none,none,none,none,none,none,none,none]:=λ_=>by rw[g9,vv5 k h2 rfl rfl k5];rfl
 have a6:evS (Wk (k+8)) (.set 6 e6) [sf S,si h,si way,si (w:Int),si sz,sf Kd,none,none,none,none,none,none,none,none,none,none,none,none,none,none,none]=.nx [sf S,si h,si way,si (w:Int),si sz,sf Kd,sf No,none,none,none,none,none,none,none,none,none,none,none,none,none,none]:=by rw[g9,vv6 _ rfl k6];rfl
 have a7:evS (Wk (k+8)) (.set 7 (.frz (.call "_law_names" 2 [(.frz (.call "_law_cell_at" 2 [v0,(.int 1)])),(.int 6)]))) [sf S,si h,si way,si (w:Int),si sz,sf Kd,sf No,none,none,none,none,none,none,none,none,none,none,none,none,none,none]=.nx [sf S,si h,si way,si (w:Int),si sz,sf Kd,sf No,sf (.lst (zs.map .str)),none,none,none,none,none,none,none,none,none,none,none,none,none]:=by generalize D.lst (zs.map .str)=Z at *;simp[e1,en,cL]
 have sl8:iJ [(.fr,.lst ((zs.map D.str).drop 3))]=some (.fr,.lst ((bF (zs.drop 3)).map .str)):=aTC (by rw[<- List.map_drop];rfl) (by rw[aVF];omega)
 have a8:evS (Wk (k+8)) (.set 8 (.frz (.srtw (.slice v7 (some (.int 3)) none)))) [sf S,si h,si way,si (w:Int),si sz,sf Kd,sf No,sf (.lst (zs.map .str)),none,none,none,none,none,none,none,none,none,none,none,none,none]=.nx [sf S,si h,si way,si (w:Int),si sz,sf Kd,sf No,sf (.lst (zs.map .str)),sf (.lst ((bF (zs.drop 3)).map .str)),none,none,none,none,none,none,none,none,none,none,none,none]:=by have sl:=aTB (W:=Wk (k+8)) (ρ:=[sf S,si h,si way,si (w:Int),si sz,sf Kd,sf No,sf (.lst (zs.map .str)),none,none,none,none,none,none,none,none,none,none,none,none,none]) (ds:=zs.map D.str) (e:=.int 3) (i:=3) (m:=.fz) (m':=.fz) rfl;rw[g9,gC,aP4,pH,fF];show dJ _ 8 (aK (cE iJ (aX (slP (okf (.lst (zs.map .str))) _ _ _) (.ok []))))=_;rw[sl];show dJ _ 8 (aK (Res.of (iJ [(.fr,.lst ((zs.map D.str).drop 3))])))=_;rw[sl8];rfl
 have a9:evS (Wk (k+8)) (.set 9 (.frz (.call "_law_pool" 1 [(.frz (.call "_law_cell_at" 2 [v0,(.int 2)]))]))) [sf S,si h,si way,si (w:Int),si sz,sf Kd,sf No,sf (.lst (zs.map .str)),sf (.lst ((bF (zs.drop 3)).map .str)),none,none,none,none,none,none,none,none,none,none,none,none]=.nx [sf S,si h,si way,si (w:Int),si sz,sf Kd,sf No,sf (.lst (zs.map .str)),sf (.lst ((bF (zs.drop 3)).map .str)),sf (.lst (ps.map nD)),none,none,none,none,none,none,none,none,none,none,none]:=by generalize D.lst (zs.map .str)=Z at *;generalize D.lst ((bF (zs.drop 3)).map .str)=Z3 at *;generalize D.lst (ps.map nD)=PP at *;simp[e2,ep,cL]
 have a10:evS (Wk (k+8)) (.set 10 (.frz (.slice v7 none (some v3)))) [sf S,si h,si way,si (w:Int),si sz,sf Kd,sf No,sf (.lst (zs.map .str)),sf (.lst ((bF (zs.drop 3)).map .str)),sf (.lst (ps.map nD)),none,none,none,none,none,none,none,none,none,none,none]=.nx [sf S,si h,si way,si (w:Int),si sz,sf Kd,sf No,sf (.lst (zs.map .str)),sf (.lst ((bF (zs.drop 3)).map .str)),sf (.lst (ps.map nD)),sf (.lst ((zs.take w).map .str)),none,none,none,none,none,none,none,none,none,none]:=by have sl:=aDB (W:=Wk (k+8)) (ρ:=[sf S,si h,si way,si (w:Int),si sz,sf Kd,sf No,sf (.lst (zs.map .str)),sf (.lst ((bF (zs.drop 3)).map .str)),sf (.lst (ps.map nD)),none,none,none,none,none,none,none,none,none,none,none]) (ds:=zs.map D.str) (e:=.var 3) (i:=w) (m:=.fz) (m':=.fz) rfl;rw[g9,gC,pH,fF];show dJ _ 10 (aK (slP (okf (.lst (zs.map .str))) _ _ _))=_;rw[sl,<- aZL];rfl
 rw[show([.set 1 (.frz (.call "_law_cell_at" 2 [v0,(.int 0)])),.set 2 (.frz (.bin .Mod v1 (.int 5))),.set 3 (.frz (.bin .Mod (.bin .FloorDiv v1 (.int 5)) (.int 7))),.set 4 (.frz (.bin .Add (.int 2) (.bin .Mod (.bin .FloorDiv v1 (.int 35)) (.int 9)))),.set 5 e5,.set 6 e6,.set 7 (.frz (.call "_law_names" 2 [(.frz (.call "_law_cell_at" 2 [v0,(.int 1)])),(.int 6)])),.set 8 (.frz (.srtw (.slice v7 (some (.int 3)) none))),.set 9 (.frz (.call "_law_pool" 1 [(.frz (.call "_law_cell_at" 2 [v0,(.int 2)]))])),.set 10 (.frz (.slice v7 none (some v3))),.set 11 (.lst []),.set 12 .nnew]:List D3.S)=[.set 1 (.frz (.call "_law_cell_at" 2 [v0,(.int 0)])),.set 2 (.frz (.bin .Mod v1 (.int 5))),.set 3 (.frz (.bin .Mod (.bin .FloorDiv v1 (.int 5)) (.int 7))),.set 4 (.frz (.bin .Add (.int 2) (.bin .Mod (.bin .FloorDiv v1 (.int 35)) (.int 9))))]++[.set 5 e5,.set 6 e6,.set 7 (.frz (.call "_law_names" 2 [(.frz (.call "_law_cell_at" 2 [v0,(.int 1)])),(.int 6)])),.set 8 (.frz (.srtw (.slice v7 (some (.int 3)) none))),.set 9 (.frz (.call "_law_pool" 1 [(.frz (.call "_law_cell_at" 2 [v0,(.int 2)]))])),.set 10 (.frz (.slice v7 none (some v3))),.set 11 (.lst []),.set 12 .nnew]from rfl]
 rw[hU,a1,aF.thn_nx,bR (a5 []),bR a6,bR a7,bR a8,bR a9,bR a10];rfl
def kk:Nat:=40
def nJ{sz:Int}{Ok:D->Prop}(K:KO Kd No way sz Ok pl){ns:List Int}(hns:ns.length<=63){w:Nat}(hw6:w<=6){ps:List N}{h c1 c2:Int}(hz:zs.length=6)(nd:zs.Nodup)(hn:∀z∈zs,dS z)(h4:ps.length=4)(hp:∀v∈ps,bS v)(h2:2<=sz)(eh:aO 2 ((Wk (32+8)).Φ "_law_cell_at") (.ok [(.fz,.lst (ns.map .int)),(.fz,.int 0)])=okf (.int h))(e1:aO 2 ((Wk (32+8)).Φ "_law_cell_at") (.ok [(.fz,.lst (ns.map .int)),(.fz,.int 1)])=okf (.int c1))(e2:aO 2 ((Wk (32+8)).Φ "_law_cell_at") (.ok [(.fz,.lst (ns.map .int)),(.fz,.int 2)])=okf (.int c2))(hway:h % 5=way)(hw:h / 5 % 7=(w:Int))(hsz:2+h / 35 % 9=sz)(k5:atI (KL sz) way=some Kd)(k6:atI NL way=some No)(en:aO 2 ((Wk (32+8)).Φ "_law_names") (.ok [(.fz,.int c1),(.fz,.int 6)])=.ok .fr (.lst (zs.map .str)))(ep:aO 1 ((Wk (32+8)).Φ "_law_pool") (.ok [(.fz,.int c2)])=.ok .fr (.lst (ps.map nD)))(hnote:∀c,∃d,Ok d/\(Wk (32+8)).Φ "_law_note" [.int way,.int sz,.lst ((bF (zs.drop 3)).map .str),.int c]=okf d):evB (Wk (32+8)) fG [sf (.lst (ns.map .int)),none,none,none,none,none,none,none,none,none,none,none,none,none,none,none,none,none,none,none,none]=.rt .fz (.bl true):=by
 have a:=pre_ 32 pl hz h2 eh e1 e2 hway hw hsz k5 k6 en ep;obtain⟨cs,lc,ec⟩:=aTE hns;obtain⟨prs,y13,y14,y15,hpr,lpr,el⟩:=aDF K 32 hw6 (Wd:=.lst ((bF (zs.drop 3)).map .str)) h4 hp hnote (sf (.lst (ns.map .int))) (si h) (sf (.lst (zs.map .str))) (sf (.lst ((zs.take w).map .str))) cs [] none none none (λe he=>nomatch he) (by simp;omega)
 have r:=rest_ K 32 (w:=w) (Wd:=.lst ((bF (zs.drop 3)).map .str)) (ps:=ps) (f:=zs.take w) (by rw[aUX];omega) ((List.take_sublist w zs).nodup nd) (λz hz'=>hn z (List.mem_of_mem_take hz')) hw6 hpr lpr (sf (.lst (ns.map .int))) (si h) (sf (.lst (zs.map .str))) y13 y14 y15
 have eb:fG=fG.take 12++([.for (.items (.slice v0 (some (.int 3)) (some (.int 203)))) (.nm 13) kZ]++fG.drop 13):=rfl;have s13:evB (Wk (32+8)) [.for (.items (.slice v0 (some (.int 3)) (some (.int 203)))) (.nm 13) kZ] (St Kd No way sz pl w (.lst ((bF (zs.drop 3)).map .str)) ps [] (sf (.lst (ns.map .int))) (si h) (sf (.lst (zs.map .str))) (sf (.lst ((zs.take w).map .str))) none none none)=.nx (St Kd No way sz pl w (.lst ((bF (zs.drop 3)).map .str)) ps prs (sf (.lst (ns.map .int))) (si h) (sf (.lst (zs.map .str))) (sf (.lst ((zs.take w).map .str))) y13 y14 y15):=by
  refine aDD ?_;have sl:=sll (W:=Wk (32+8)) (ρ:=St Kd No way sz pl w (.lst ((bF (zs.drop 3)).map .str)) ps [] (sf (.lst (ns.map .int))) (si h) (sf (.lst (zs.map .str))) (sf (.lst ((zs.take w).map .str))) none none none) (ds:=ns.map D.int) (e:=.int 3) (e':=.int 203) (i:=3) (j:=203) (m:=.fz) (m':=.fz) rfl rfl (m0:=.fz);rw[ec]at sl;have it:evE (Wk (32+8)) (.items (.slice v0 (some (.int 3)) (some (.int 203)))) (St Kd No way sz pl w (.lst ((bF (zs.drop 3)).map .str)) ps [] (sf (.lst (ns.map .int))) (si h) (sf (.lst (zs.map .str))) (sf (.lst ((zs.take w).map .str))) none none none)=okf (.lst (cs.map .int)):=by rw[aP3,pH,fF];show eD (aK (slP (okf (.lst (ns.map .int))) _ _ _))=_;rw[sl];rfl
  rw[kU,it];exact el
 rw[eb,hU,a,aF.thn_nx,hU,s13,aF.thn_nx];exact r
def main(ns:List Int)(hns:ns.length<=63):(Wk (kk+1)).Φ ("law":Str) (n8 ns)=okf (.bl true):=by
 rw[u_law];refine bK rfl ?_;show evB (Wk (32+8)) fG [sf (.lst (ns.map .int)),none,none,none,none,none,none,none,none,none,none,none,none,none,none,none,none,none,none,none,none]=_;have c0:=uR 39 ns (i:=0) (by decide)
 have c1:=uR 39 ns (i:=1) (by decide)
 have c2:=uR 39 ns (i:=2) (by decide)
 obtain⟨zs,hz,nd,hn,en⟩:=names 39 (ce ns 1);obtain⟨ps,h4,hp,ep⟩:=pool 39 (ce ns 2);have en:=uN en;have ep:=aCF ep;generalize ce ns 1=n1 at *;generalize ce ns 2=n2 at *;generalize ce ns 0=h at *;obtain⟨w,hw⟩:=aZG (show 0<=h / 5 % 7 by omega)
 have hw:h / 5 % 7=((w:Nat):Int):=hw;have hw6:w<=6:=by omega
 have h2:2<=2+h / 35 % 9:=by omega
 have sP:dP (bF (zs.drop 3)):=aTD ((List.drop_sublist 3 zs).nodup nd);have lP:(bF (zs.drop 3)).length=3:=by rw[(kM _).length_eq,aVF,hz]
 have nP:∀x∈bF (zs.drop 3),dS x:=λx hx=>hn x (List.mem_of_mem_drop ((kM _).mem_iff.mp hx));have hc:h % 5=0\/h % 5=1\/h % 5=2\/h % 5=3\/h % 5=4:=by omega
 rcases hc with hc|hc|hc|hc|hc
 . exact nJ aSZ hns hw6 hz nd hn h4 hp h2 c0 c1 c2 hc hw rfl rfl rfl en ep λc=>note0 39 _ c _
 . exact nJ truth hns hw6 hz nd hn h4 hp h2 c0 c1 c2 hc hw rfl rfl rfl en ep λc=>note1 39 _ c _
 . exact nJ costs hns hw6 hz nd hn h4 hp h2 c0 c1 c2 hc hw rfl rfl rfl en ep λc=>note2 39 _ c _
 . exact nJ (wheel h2) hns hw6 hz nd hn h4 hp h2 c0 c1 c2 hc hw rfl rfl rfl en ep λc=>note3 39 c _ h2
 . exact nJ (aS2 (sz:=2+h / 35 % 9) (P:=bF (zs.drop 3)) (by omega) nP) hns hw6 hz nd hn h4 hp h2 c0 c1 c2 hc hw rfl rfl rfl en ep λc=>note4 39 _ c lP sP
end K31
namespace K31
open PySem.W Tp
def tw:Prod.fst (true,aZS)=true:=by k_qdec
noncomputable def as:List Addr:=[2,3,15,22,23,24,25,28,35,36,37,40,47,48,49,52,59,60,61,64,71,72,73,76,83,84,85,88,90,91,93,94,95,98,99,100,102,103,105,106,114,116,117,119,120,121,122,123,124,125,128,135,137,138,140,141,142,143,144,147,154,156,157,159,160,161,163,164,166,167,168,170,171,173,174,175,177,178,180,181,182,184,185,187,188,189,191,192,194,195,196,198,199,201,202,203,204,205,208,215,217,218,220,221,222,224,225,227,228,229,231,232,234,235,236,238,239,241,242,243,245,246,248,249,250,252,253,255,256,257,258,259,262,269,271,272,274,275,276,278,279,281,282,283,285,286,288,289,290,292,293,295,296,297,299,300,302,303,304,306,307,309,310,311,312,313,316,323,325,326,328,329,330,332,333,335,336,337,339,340,342,343,344,346,347,349,350,351,353,354,356,357,358,360,361,363,364,365,366,367,370,377,379,380,382,383,384,386,387,389,390,391,393,394,396,397,398,400,401,403,404,405,407,408,410,411,412,414,415,417,418,419,421,422,424,425,426,428,429,431,432,433,434,435,438,441,442,443,446,447,448,450,451,453,454,455,458,459,460,463,464,465,468,469,470,472,473,475,476,477,480,481,482,484,485,487,488,489,491,492,494,495,496,498,499,501,502,503,505,506,508,509,510,512,513,515,516,517,519,520,522,523,524,526,527,529,530,531,533,534,536,537,538,540,541,543,544,545,548,549,550,552,553,555,556,557,560,561]
noncomputable def ts:List Addr:=[89,96,101,115,136,155,162,169,176,183,190,197,216,223,230,237,244,251,270,277,284,291,298,305,324,331,338,345,352,359,378,385,392,399,406,413,420,427,439,444,449,456,461,466,471,478,483,490,497,504,511,518,525,532,539,546,551,558]
def pre(w:aZQ)(os:OsState):topGo treeTable aZS w 11 an 12 ⟨boot_heap w.params,#[],boot_drawn,boot_toks,os⟩ (topStub aZS)=some ((sh w.params (sA w.params) 15 187 os).abs,⟨denote treeTable (cd aZS),cd aZS,z0,[topFrame z0]⟩):=by
 rw[aZS,Fast.te4391759863504851208,Fast.te203182992438928480,Fast.te13144403056285818395,Fast.te15667345088766844465,Fast.te14364793385576792824,Fast.te11892475500146522536]
 kernel_rfl
def blk(w:aZQ)(s:aZO):segRun treeTable aZS w 11 an 1 1 s (blockOf aZS.main.body (ev aZS) (cd aZS) z0 [topFrame z0])=some (.next,s,cd aZS,z0):=by kernel_rfl
def run(w:aZQ)(os:OsState):go treeTable aZS w 1000 aZS.main.body (sh w.params (sA w.params) 15 187 os) (cd aZS) z0=some (sh w.params (lay w.params aZS.main.body (sA w.params)) 562 886 os,cd aZS,⟨298,0,323,89⟩):=by
 rw[aZS,Fast.te4391759863504851208,Fast.te203182992438928480,Fast.te13144403056285818395,Fast.te5678740263434597267,Fast.te14364793385576792824,Fast.te10212481707522018265]
 kernel_rfl
def uZ(w:aZQ):(λos=>((staticsOk (importedModules aZS.main.body) (boot_heap w.params) (H1 aZS.main.body 562 w.params)&&namesBound aZS (H1 aZS.main.body 562 w.params)&&gensDone (S1 aZS.main.body 562 886 w.params os)&&laidKept (boot_heap w.params) (H1 aZS.main.body 562 w.params)),openSeen (vw aZS) (los aZS.main.body) (importedModules aZS.main.body) (xt PySem.Challenge.rw_whencewise_k31_table.row) true (S1 aZS.main.body 562 886 w.params os),(hk aZS.main.body (as++ts)).obs (S1 aZS.main.body 562 886 w.params os)))=λ_=>(true,openGood (vw aZS) (los aZS.main.body),(hk aZS.main.body (as++ts)).val w):=by
 rw[aZS,Fast.te14387180822208032119,Fast.te4391759863504851208,Fast.te5923862056798008813,Fast.te9407923862454927560,Fast.te15884229538025494872,Fast.te4187177175401517315,Fast.te18076920544200396443,Fast.te9318435048543301240,Fast.te17808466708180730929,Fast.te2368527892694137696]
 kernel_rfl
def tb(P:Params):D3.pK (KK aZS.main.body as P) (KK aZS.main.body (as++ts) P)=true:=by
 kernel_rfl
def gf(P:Params):D3.t7 (KK aZS.main.body as P) GG TT=true:=by
 kernel_rfl
abbrev dl:DefRec:=⟨"law", L2.nW uK,L2.i6 uK,L2.dZ uK,⟨298,0,323,89⟩⟩
end K31
open PySem.W
set_option maxRecDepth 100000 in
set_option maxHeartbeats 0 in
theorem PySem.Challenge.cw_whencewise_k31_table_holds : PySem.Challenge.rw_whencewise_k31_table.Holds := by
 w_on;o_law
 exact Tp.head (p:=PySem.Challenge.rw_whencewise_k31_table) (d:=K31.dl) (Tp.left (by kernel_rfl) K31.pre K31.blk K31.run (by kernel_rfl) (by kernel_rfl) (λ_=>by kernel_rfl) K31.uZ) (by assumption) (by kernel_rfl) (by kernel_rfl) rfl rfl (by decide +kernel) ⟨rfl,rfl,rfl,rfl,rfl,by decide +kernel⟩ (by w_witness2)
  (D3.walkG (K:=Tp.KK PySem.Challenge.pw_whencewise_k31_table.main.body K31.as) (Kf:=Tp.KK PySem.Challenge.pw_whencewise_k31_table.main.body (K31.as++K31.ts)) (kk:=K31.kk) (e:=K31.uJ) rfl rfl rfl (λw h Y=>W.kIn_of Y) (Tp.KK_sub _ _ _) (Tp.KK_nd _ _) K31.tb K31.gf (D3.aQM (g:=K31.GG) (by decide +kernel)) rfl rfl ⟨rfl,by decide,by decide⟩ K31.main)
