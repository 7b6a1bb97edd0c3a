import PyProof.Rows.All
import Wide.All
import OpenK.AllK
import Wide.FinOn
import Lean
import PyProof.EqAt
import PyProof.EqKinds
import PyProof.TupleCall
import PySem.Challenge.RW_whencewise_k27_reasons_shown
set_option compiler.extract_closed false
set_option bootstrap.genMatcherCode false
set_option maxHeartbeats 0
set_option linter.all false
section
open PySem PySem.Spec PyProof.Rows
def aQL:=@decide_eq_false
def aQM:=@beq_eq_false_iff_ne
def aQN:=@Paired.length
def aQO:=@Option.some.inj
def aQP:=@Heap.get?_push_size
def aQQ:=@Heap.lt_size
def aQR:=@Nat.lt_of_lt_of_le
def aQS:=@Nat.lt_irrefl
def aQT:=@Nat.ne_of_lt
def aQU:=@List.mem_range
def aQV:=@Array.getElem?_eq_some_iff
def aQW:=@Nat.le_trans
def aQX:=@Nat.le_of_lt
def aQY:=@List.filterMap_cons
def aQZ:=@List.mem_cons
def aQ0:=@List.mem_append
def aQ1:=@List.mem_append_left
def aQ2:=@List.getElem?_eq_some_iff
def aQ3:=@List.getElem?_set_self
def aQ4:=@List.getElem?_set_ne
def aQ5:=@wpAny_mono
def aQ6:=@wpAny_truthy_bool
def aQ7:=@Array.length_toList
def aQ8:=@wpAny_execs_nil
def aQ9:=@wpAny_passesOwn
def aRA:=@Bool.false_ne_true
def aRB:=@Nat.ne_of_gt
def aRC:=@wpAny_pure
def aRD:=@wpAny_bind
def aRE:=@wpAny_load
def aRF:=@wpAny_pyIter_list
def aRG:=@Nat.le_refl
def aRH:=@PyProof.Rows.callWith_type1
def aRI:=@List.mem_filterMap
def aRJ:=@List.mem_append_right
def aRK:=@sizeLine_eq
def aRL:=@List.size_toArray
def aRM:=@Array.mem_toList_iff
def aRN:=@beq_iff_eq
def aRO:=@Heap.size_push
def aRP:=@Nat.lt_succ_self
def aRQ:=@Nat.zero_le
def aRR:=@Calls.spliced_nil
def aRS:=@Calls.spliced_cons
def aRT:=@List.append_nil
def aRU:=@List.nodup_cons
def aRV:=@List.of_mem_zip
def aRW:=@List.length_take
def aRX:=@PySem.mem_of_lookup
def aRY:=@List.getElem?_append_right
def aRZ:=@List.getElem?_replicate
def aR0:=@List.getElem?_append_left
def aR1:=@List.getElem?_map
def aR2:=@List.mem_of_getElem?
def aR3:=@List.length_append
def aR4:=@List.length_map
def aR5:=@wpAny_Call_Name_kw
def aR6:=@concat_meets
def aR7:=@noFill_tuple_add
def aR8:=@F.slot_tuple_add
def aR9:=@F.entry_tuple_add
def aSA:=@F.args_tuple_add_2
def aSB:=@if_false
def aSC:=@wpAny_field
def aSD:=@List.length_drop
def aSE:=@wpAny_holding
def aSF:=@wpAny_callSpecial?_slot
def aSG:=@PyProof.Rows.slot_tuple_getitem
def aSH:=@wpAny_call_entry
def aSI:=@wpAny_typeOf
def aSJ:=@Bool.and_eq_true
def aSK:=@wpAny_newObj_type
def aSL:=@Bool.or_false
def aSM:=@Option.getD_none
def aSN:=@Calls.callWith_builtin
def aSO:=@Calls.evalArgs_plain
def aSP:=@Heap.get?_update_other
def aSQ:=@Array.getElem?_toList
def aSR:=@List.find?_cons
def aSS:=@decide_eq_true
def aST:=@List.length_cons
def aSU:=@List.length_nil
def aSV:=@List.map_cons
def aSW:=@List.map_nil
def aSX:=@Nat.lt_trans
def aSY:=@codeAny_mono
def aSZ:=@List.cons.injEq
def aS0:=@List.cons_append
def aS1:=@Nat.add_assoc
def aS2:=@wpAny_specialOf
def aS3:=@Array.forIn_toList
def aS4:=@wpAny_forIn_list
def aS5:=@Array.toList_push
def aS6:=@wpAny_rule
def aS7:=@Nat.min_le_left
def aS8:=@wpAny_isInstance
def aS9:=@Bool.not_true
def aTA:=@Bool.false_eq_true
def aTB:=@List.lookup_cons
def aTC:=@decide_eq_true_eq
def aTD:=@of_decide_eq_true
def aTE:=@Bool.or_eq_true
def aTF:=@Array.all_eq_true_iff_forall_mem
def aTG:=@wpAny_getItem_str_slice
def aTH:=@post_val_or_str
def aTI:=@Txt.slice_le
def aTJ:=@Array.mem_of_getElem?
def aTK:=@W.kia_one
def aTL:=@List.length_set
def aTM:=@List.getElem?_set
def aTN:=@Option.map_some
def aTO:=@List.drop_eq_getElem_cons
def aTP:=@List.getElem?_eq_getElem
def aTQ:=@List.drop_length
def aTR:=@List.forIn_nil
def aTS:=@List.forIn_cons
def aTT:=@LawfulMonad.pure_bind
def aTU:=@beq_self_eq_true
def aTV:=@Nat.lt_succ_of_lt
def aTW:=@Nat.not_lt
def aTX:=@Heap.SameBut.refl
def aTY:=@wpAny_call
def aTZ:=@codeAny_call_builtin
def aT0:=@Nat.le_succ
def aT1:=@List.take_of_length_le
def aT2:=@List.mem_singleton
def aT3:=@List.zip_cons_cons
def aT4:=@F.plainAttrs_list
def aT5:=@List.mem_nil_iff
def aT6:=@or_false
def aT7:=@wpAny_setField
def aT8:=@List.nil_append
def aT9:=@fits_of_scanBound
def aUA:=@wpAny_storeSet_of
def aUB:=@Heap.SameBut.update
def aUC:=@wpAny_setState_of
def aUD:=@List.getElem_mem
def aUE:=@List.nodup_append
def aUF:=@List.nodup_nil
def aUG:=@plainId_quiet
def aUH:=@F.plain_set_new
def aUI:=@wpAny_of_eq
def aUJ:=@codeAny_builtin
def aUK:=@Around.under_plainId
def aUL:=@sub_set_self
def aUM:=@wpAny_askSetting
def aUN:=@List.length_eq_zero_iff
def aUO:=@List.append_assoc
def aUP:=@isSubtype_type
def aUQ:=@wpAny_pyIter_slot
def aUR:=@Heap.get?_update_self
def aUS:=@Obj.isFreed_of_fields
def aUT:=@Obj.data_mapFields
def aUU:=@Obj.cls_mapFields
def aUV:=@wpAny_attempt
def aUW:=@wpAny_fieldsOf
def aUX:=@wpAny_setEntries_of
def aUY:=@bne_self_eq_false
def aUZ:=@Int.toNat_natCast
def aU0:=@Array.getElem?_eq_getElem
def aU1:=@Array.getElem?_eq_none
def aU2:=@List.length_range
def aU3:=@List.getElem?_toArray
def aU4:=@List.getElem?_eq_none
def aU5:=@F.slot_set_iter
def aU6:=@Heap.get?_push_of_some
def aU7:=@wpAny_setEpoch_of
def aU8:=@PyProof.Rows.size_push'
def aU9:=@List.ext_getElem
def aVA:=@Array.getD_eq_getD_getElem?
def aVB:=@List.not_mem_nil
def aVC:=@wpAny_ite_split
def aVD:=@F.plain_extend_loop
def aVE:=@wpAny_updateSeq
def aVF:=@wpAny_runValue
def aVG:=@F.entry_proto_collect
def aVH:=@F.plain_proto_collect
def aVI:=@F.plain_list_iadd
def aVJ:=@F.entry_list_iadd
def aVK:=@Calls.call_function_entry
def aVL:=@PyProof.Rows.kind_sorted
def aVM:=@PyProof.Rows.plain_sorted
def aVN:=@PyProof.Rows.entry_sorted
def aVO:=@PyProof.Rows.args_sorted1
def aVP:=@wpAny_newList
def aVQ:=@PyProof.Rows.slot_list_sort
def aVR:=@PyProof.Rows.entry_list_sort
def aVS:=@PyProof.Rows.args_list_sort
def aVT:=@Bool.not_eq_true'
def aVU:=@List.pairwise_cons
def aVV:=@List.pairwise_singleton
def aVW:=@Nat.lt_or_ge
def aVX:=@List.getElem_of_mem
def aVY:=@List.pairwise_append
def aVZ:=@Option.map_eq_some_iff
def aV0:=@Array.Perm.refl
def aV1:=@of_decide_eq_false
def aV2:=@List.Perm.refl
def aV3:=@List.pairwise_map
def aV4:=@PyProof.Rows.listItems_at
def aV5:=@PyProof.Rows.listUpdate_at
def aV6:=@Code.quiet_builtin
def aV7:=@Array.size_append
def aV8:=@List.all_eq_true
def aV9:=@List.map_map
def aWA:=@wpAny_dictEntries
def aWB:=@wpAny_dictEpoch
def aWC:=@F.slot_dict_keyiterator_next
def aWD:=@F.entry_dict_keyiterator_next
def aWE:=@F.args_dict_keyiterator_next_1
def aWF:=@wpAny_typeNameOfWhole_keyiter
def aWG:=@wpAny_typeNameOf_keyiter
def aWH:=@wpAny_isOneOf_keyiter
def aWI:=@List.mem_map
def aWJ:=@List.map_congr_left
def aWK:=@List.isEmpty_iff
def aWL:=@Nat.lt_of_le_of_lt
def aWM:=@bne_iff_ne
def aWN:=@F.plainAttrs_str
def aWO:=@List.contains_iff_mem
def aWP:=@List.all_cons
def aWQ:=@Array.eq_empty_of_size_eq_zero
def aWR:=@W.mg_of
def aWS:=@List.any_eq_true
def aWT:=@List.map_append
def aWU:=@Int.add_zero
def aWV:=@Int.zero_add
def aWW:=@Int.emod_nonneg
def aWX:=@Int.emod_lt_of_pos
def aWY:=@Int.eq_ofNat_of_zero_le
def aWZ:=@List.getD_eq_getElem?_getD
def aW0:=@Nat.mul_le_mul_right
def aW1:=@List.mem_flatMap
end
abbrev aW7:=PySem.Challenge.pw_whencewise_k27_reasons_shown
abbrev aW2:=PySem.Value
abbrev aW3:=PySem.Shared
abbrev aW4:=PySem.Around
abbrev aW5:=PySem.World
abbrev aW6:=PySem.Program
abbrev VSP := PySem.Value -> PySem.Shared -> Prop
abbrev Fg := PySem.W.Frag
abbrev LAO := List (PySem.Addr × PySem.Obj)
abbrev SOV := PySem.Str -> Option PySem.Value
def mcm {α : Type} {a b : α} {l : List α} (h : a ∈ l) : a ∈ b :: l := List.mem_cons_of_mem _ h
def mcs {α : Type} {a : α} {l : List α} : a ∈ a :: l := List.mem_cons_self
def hps {h : PySem.Heap} {o p : PySem.Obj} {b : PySem.Addr} (e : h.get? b = some o) : (h.push p).get? b = some o := PySem.Heap.get?_push_of_some _ e
set_option Elab.async false
set_option maxRecDepth 100000
noncomputable section
open PySem PySem.Spec PyProof.Rows
namespace L2
abbrev Key:=Sum Int Str
def jG:Key->aW2->Bool
 |.inl k,v=>Value.isInt k v
 |.inr x,v=>Value.isStrOf x v
def keyH(w:aW5):Key->Int
 |.inl k=>hashInt k
 |.inr x=>hashStr w x
def gD:∀{k:Key}{v:aW2},jG k v=true->(∃i t,k=Sum.inl i/\v=Value.int i t)\/(∃x t,k=Sum.inr x/\v=Value.str x t)
 |.inl i,v,h=>by obtain⟨t,e⟩:=Value.isInt_shape (k:=i) (v:=v) h;exact .inl ⟨i,t,rfl,e⟩
 |.inr x,v,h=>by obtain⟨t,e⟩:=Value.isStrOf_shape (x:=x) (v:=v) h;exact .inr ⟨x,t,rfl,e⟩
def aCI(i:Int)(t:Tok):jG (.inl i) (.int i t)=true:=by simp[jG,Value.isInt]
def aCJ(x:Str)(t:Tok):jG (.inr x) (.str x t)=true:=by simp[jG,Value.isStrOf]
def aCK(a b:Int):decide ((Sum.inl a:Key)=Sum.inl b)=(a==b):=by
 by_cases e:a=b
 . subst e;simp
 . have h:¬ (Sum.inl a:Key)=Sum.inl b:=λq=>e (Sum.inl.inj q);rw[aQL h];exact(aQM.mpr e).symm
def aCL(a b:Str):decide ((Sum.inr a:Key)=Sum.inr b)=decide (a=b):=by
 by_cases e:a=b
 . subst e;simp
 . have h:¬ (Sum.inr a:Key)=Sum.inr b:=λq=>e (Sum.inr.inj q);rw[aQL h,aQL e]
def aCM(a:Int)(b:Str):decide ((Sum.inl a:Key)=Sum.inr b)=false:=aQL (λq=>nomatch q)
def aCN(a:Str)(b:Int):decide ((Sum.inr a:Key)=Sum.inl b)=false:=aQL (λq=>nomatch q)
noncomputable def cJ(prog:aW6)(w:aW5):PySem.KeyKind prog w Key where
 is:=jG
 hash:=keyH w
 inj:=λv a b ha hb=>by
  rcases gD ha with⟨i,t,rfl,rfl⟩|⟨x,t,rfl,rfl⟩
  . rcases gD hb with⟨j,u,rfl,e⟩|⟨y,u,rfl,e⟩
    . injection e with e1 _;rw[e1]
    . exact nomatch e
  . rcases gD hb with⟨j,u,rfl,e⟩|⟨y,u,rfl,e⟩
    . exact nomatch e
    . injection e with e1 _;rw[e1]
 byValue:=λk v h=>by rcases gD h with⟨i,t,rfl,rfl⟩|⟨x,t,rfl,rfl⟩ <;> rfl
 pyHash:=λhv h=>by
  rcases gD hv with⟨i,t,rfl,rfl⟩|⟨x,t,rfl,rfl⟩
  . exact wpAny_pyHash_int h
  . exact wpAny_pyHash_str h
 eqBool:=λhu hv h=>by
  rcases gD hu with⟨i,t,rfl,rfl⟩|⟨x,t,rfl,rfl⟩
  . rcases gD hv with⟨j,u,rfl,rfl⟩|⟨y,u,rfl,rfl⟩
    . rw[aCK]at h;exact wpAny_eqBool_int h
    . rw[aCM]at h;exact SeqAt.EqAt.int_str i t y u _ _ _ _ h
  . rcases gD hv with⟨j,u,rfl,rfl⟩|⟨y,u,rfl,rfl⟩
    . rw[aCN]at h;exact SeqAt.EqAt.str_int x t j u _ _ _ _ h
    . rw[aCL]at h;exact wpAny_eqBool_str h
 «strs»:=λk x t v h=>by
  rcases gD h with⟨i,u,rfl,e⟩|⟨y,u,rfl,e⟩
  . exact nomatch e
  . injection e with e1 _
    subst e1;cases v <;> rfl
def aCO(prog:aW6)(w:aW5)(i:Int)(t:Tok):(cJ prog w).is (.inl i) (.int i t)=true:=aCI i t
def aCP(prog:aW6)(w:aW5)(x:Str)(t:Tok):(cJ prog w).is (.inr x) (.str x t)=true:=aCJ x t
inductive V where
 |non|bl (b:Bool)|int (i:Int)|str (x:Str)|byt (b:Array UInt8)|flt (b:UInt64)|ref (a:Addr)|ty (n:String)
 deriving DecidableEq
def aJ:V->aW2->Prop
 |.non,u=>u=Value.none
 |.bl b,u=>u=Value.bool b
 |.int i,u=>∃t,u=Value.int i t
 |.str x,u=>∃t,u=Value.str x t
 |.byt b,u=>∃t,u=Value.bytes b t
 |.flt b,u=>∃t,u=Value.float b t
 |.ref a,u=>u=Value.ref a
 |.ty n,u=>u=Value.type n
abbrev aH:List V->List aW2->Prop:=Paired aJ
theorem aH.length{xs:List V}{us:List aW2}(r:aH xs us):xs.length=us.length:=aQN r
theorem aH.get:∀{xs:List V}{us:List aW2}{i:Nat}{x:V},aH xs us->xs[i]? = some x->∃u,us[i]? = some u/\aJ x u
 |_,_,_,_,.nil,e=>by simp at e
 |_,_,0,_,.cons r _,e=>by simp at e;subst e;exact⟨_,rfl,r⟩
 |_,_,i+1,x,.cons _ t,e=>by
  obtain⟨u,h1,h2⟩:=aH.get (i:=i) (x:=x) t (by simpa using e)
  exact⟨u,by simpa using h1,h2⟩
theorem aH.append:∀{xs ys:List V}{us ws:List aW2},aH xs us->aH ys ws->aH (xs++ys) (us++ws)
 |_,_,_,_,.nil,s=>s
 |_,_,_,_,.cons r t,s=>.cons r (aH.append t s)
theorem aH.take:∀{xs:List V}{us:List aW2} (n:Nat),aH xs us->aH (xs.take n) (us.take n)
 |_,_,0,_=>.nil
 |_,_,_+1,.nil=>.nil
 |_,_,n+1,.cons r t=>.cons r (aH.take n t)
theorem aH.drop:∀{xs:List V}{us:List aW2} (n:Nat),aH xs us->aH (xs.drop n) (us.drop n)
 |_,_,0,r=>r
 |_,_,_+1,.nil=>.nil
 |_,_,n+1,.cons _ t=>aH.drop n t
def dD:Option V->Option aW2->Prop
 |some v,some u=>aJ v u
 |none,none=>True
 |_,_=>False
def KV{κ:Type}:List (κ×V)->List (κ×aW2)->Prop:=Paired λ(p:κ×V) (q:κ×aW2)=>p.1=q.1/\aJ p.2 q.2
def kV:Key->V
 |.inl i=>.int i
 |.inr x=>.str x
inductive N where|i (n:Int)|s (x:Str)|t (xs:List N)
mutual
def aY(w:aW5):N->Int
 |.i n=>hashInt n
 |.s x=>hashStr w x
 |.t xs=>reduceHash (Builtin.Tuple.tupleHashOf (dR w xs))
def dR(w:aW5):List N->List Int
 |[]=>[]
 |x::xs=>aY w x::dR w xs
end
def uR(w:aW5)(x:N×Addr×aW2):DictEntry:=⟨aY w x.1,.ref x.2.1,x.2.2⟩
inductive HO where
 /-- a list -/
 |lst (xs:List V)
 /-- a tuple (never changes) -/
 |tup (xs:List V)
 /-- a dict whose keys are ints and texts;one whose keys are tuples of ints and texts (the empty one is both) -/
 |dK (kvs:List (Key×V))|dT (kvs:List (List Key×V))
 |dN (kvs:List (N×Addr×V))
 /-- a set of ints: its members,its size -/
 |set (S:Key->Bool) (n:Nat)
 /-- an instance of the class at C,its dict at dx,its attributes -/
 |ins (C dx:Addr) (fs:List (Str×V))
 /-- the dict of the instance at x -/
 |own (x:Addr)
 /-- the dict of an exception -/
 |xd (fs:List (Str×V))
 /-- a bound method,f of x -/
 |met (f x:Addr)
 /-- a range object lo,lo+1,.. below hi -/
 |rng (lo hi:Int)
 /-- a thing that is known to the object (the script;a dict while a loop walks it): read,never written while it is so -/
 |frz (o:Obj) (u:HO)
 /-- a code object's table -/
 |tbl (ps:Array aW2)
 /-- a code record of that name -/
 |crec (q:Str)
 /-- any other thing,by what is true of its one object (a def of one's own: SetO a S n:=HO.ext λh=>..) -/
 |ext (φ:Heap->Prop)
abbrev Hp:=Addr->Option HO
inductive HT where|tup (xs:List V)|crec (q:Str)
end L2
open L2
variable {α κ β Z:Type}{xs ys ps zs loose aI tgN nms:List Str}{us vs:List aW2}{H H' F' F0 H0:L2.Hp}{b it dx tp I:Addr}{u cdv:aW2}{h h' base hp:Heap}{items:Array aW2}{P prog:aW6}{w:aW5}{x y qual z key:Str}{e c tg aT elt ke ea:Expr}{q pos pos' p apos p2 cpos ap cp p1 q1 q':Pos}{K:Fg}{aA:LAO}{s s':aW3}{t' i j n ep j1:Nat}{ch fp:List Addr}{v:L2.V}{Q:Bool->aW3->Prop}{st:Stmt}{body sts:List Stmt}{R:List aW2->aW3->Prop}{lo hi:Option Int}{mA mg:SOV}{fd:FuncData}{ks:List L2.N}{sc scope:Scope}{outer:List Env}{kvs:List (List L2.Key×L2.V)}{XP:(Str->Option aW2)->Heap->Prop}{YP:aW5->Heap->Prop}{env:Env}{ifs:List Expr}{aE:List Nat}{neg:Bool}{fa:Str->Addr}
namespace L2
def HT.ho:HT->HO|.tup xs=>.tup xs|.crec q=>.crec q
noncomputable def upd(H:Hp)(a:Addr)(o:HO):Hp:=λb=>if b=a then some o else H b
def aV{a:Addr}{o:HO}:upd H a o a=some o:=by unfold upd;rw[if_pos rfl]
def aL{a:Addr}{o:HO}(h:b≠a):upd H a o b=H b:=by unfold upd;rw[if_neg h]
def ne_of{a:Addr}{o u:HO}(h:H a=some o)(h':H b=some u)(d:o≠u):a≠b:=by intro e;subst e;rw[h]at h';exact d (aQO h')
def bR{a:Addr}{o:HO}(h:H a=some o)(h':H b=none):a≠b:=by intro e;subst e;rw[h]at h';cases h'
def gE(h:Heap)(a:Addr)(items:Array aW2):Prop:=∃o,h.get? a=some o/\o.cls=.type "tuple" /\ o.dict=none/\∃n,o.data=.seq items n
def gE.isTup{a:Addr}(x:gE h a items):IsTup h a items:=by obtain⟨o,e,c,_,n,d⟩:=x;exact⟨o,e,c,n,d⟩
def gE.new(h:Heap)(items:Array aW2):gE (h.push { cls:=.type "tuple", data:=.seq items }) h.objs.size items:=⟨_,aQP _ rfl,rfl,rfl,_,rfl⟩
section
variable (P:aW6)(w:aW5)
def bC(H:Hp)(h:Heap)(a:Addr):HO->Prop
 |.lst xs=>xs.length<=sizeLine/\∃(its:List aW2) (n:Nat),aH xs its/\h.get? a=some { cls:=.type "list", data:=.seq its.toArray n }
 |.tup xs=>xs.length<=sizeLine/\∃its:List aW2,aH xs its/\gE h a its.toArray
 |.dK kvs=>kvs.length<=sizeLine/\(a==sysModules)=false/\∃vs,KV kvs vs/\h.DictOf (cJ P w) a vs
 | .dT kvs => kvs.length ≤ sizeLine ∧ (a == sysModules) = false ∧ ∃ xs : List (List Key × Addr × aW2),
     Paired (λ(p:List Key×V) (q:List Key×Addr×aW2)=>p.1=q.1/\H q.2.1=some (.tup (p.1.map kV))/\aJ p.2 q.2.2) kvs xs /\
     ∃o es ep,h.get? a=some o/\o.ExactDict/\o.data=.dict es ep/\es.toList=xs.map (entryOfKey (tupleKind (cJ P w)))/\(xs.map (·.1)).Nodup
 | .dN kvs => kvs.length ≤ sizeLine ∧ (a == sysModules) = false ∧ ∃ xs : List (N × Addr × aW2), Paired (fun (p : N × Addr × V) (q : N × Addr × aW2) => p.1 = q.1 ∧ p.2.1 = q.2.1 ∧ aJ p.2.2 q.2.2) kvs xs ∧
     ∃o es ep,h.get? a=some o/\o.ExactDict/\o.data=.dict es ep/\es.toList=xs.map (uR w)/\(xs.map (·.1)).Nodup
 |.set S n=>h.SetOf (cJ P w) a S n
 | .ins C dx fs => H dx = some (.own a) ∧ fs.length ≤ 1000 ∧ dx ≠ a ∧ h.get? a = some (W.instObj C dx) ∧
     ∃mA,h.Ns1 dx mA/\(∀f,dD (fs.lookup f) (mA f))/\PySem.Within mA (fs.map (·.1))
 |.own _=>∃o,h.get? a=some o
 |.xd fs=>∃mA,h.Ns1 a mA/\∀f,dD (fs.lookup f) (mA f)
 |.rng lo hi=>∃t u v,h.get? a=some { cls:=.type "range", data:=.fields #[.int lo t,.int hi u,.int 1 v] }
 |.frz o u=>h.get? a=some o/\bC H h a u
 |.tbl ps=>∃(q:Str) (m:Array aW2),ps[0]? = some (.str q 0)/\h.get? a=some ⟨.none,none,.fields m,#[]⟩/\TriplesOk m.toList/\∀z cv,codeAmong z m.toList=some cv->∃c,cv=.ref c/\H c=some (.crec q)
 |.crec q=>∃oc vs t,h.get? a=some oc/\oc.data=.fields vs/\vs[1]? = some (.str q t)
 |.met f x=>h.get? a=some (W.methodObj (.ref f) (.ref x))
 |.ext φ=>φ h/\(∃o,h.get? a=some o)/\∀h1 h2:Heap,φ h1->(∀o,h1.get? a=some o->h2.get? a=some o)->φ h2
def HOk(H:Hp)(h:Heap):Prop:=∀a o,H a=some o->bC P w H h a o
end
section
variable {a:Addr}{o:HO}
theorem bC.lt(x:bC P w H h a o):a<h.objs.size:=by
 cases o with
 |lst xs=>obtain⟨_,_,_,_,e⟩:=x;exact aQQ e
 |tup xs=>obtain⟨_,_,_,p⟩:=x;exact p.isTup.lt
 |dK kvs=>obtain⟨_,_,_,_,o,_,_,e,_⟩:=x;exact aQQ e
 |dT kvs=>obtain⟨_,_,_,_,o,_,_,e,_⟩:=x;exact aQQ e
 |dN kvs=>obtain⟨_,_,_,_,o,_,_,e,_⟩:=x;exact aQQ e
 |set S n=>obtain⟨o,_,_,_,e,_⟩:=x;exact aQQ e
 |ins C dx fs=>obtain⟨_,_,_,e,_⟩:=x;exact aQQ e
 |own y=>obtain⟨_,e⟩:=x;exact aQQ e
 |xd fs=>obtain⟨_,⟨_,_,_,e,_⟩,_⟩:=x;exact aQQ e
 |rng lo hi=>obtain⟨_,_,_,e⟩:=x;exact aQQ e
 |frz ob u=>obtain⟨e,_⟩:=x;exact aQQ e
 |tbl ps=>obtain⟨_,_,_,e,_⟩:=x;exact aQQ e
 |crec q=>obtain⟨_,_,_,e,_⟩:=x;exact aQQ e
 |met f y=>exact aQQ (show h.get? a=some _ from x)
 |ext φ=>obtain⟨_,⟨_,e⟩,_⟩:=x;exact aQQ e
theorem Paired.mapP{α β:Type}{F G:α->β->Prop}:∀{l₁:List α}{l₂:List β},Paired F l₁ l₂->(∀a b,F a b->G a b)->Paired G l₁ l₂
 |_,_,.nil,_=>.nil
 |_,_,.cons r t,f=>.cons (f _ _ r) (Paired.mapP t f)
def bC.stay(x:bC P w H h a o)(k:∀b u,(b=a\/H b=some (.own a))->h.get? b=some u->h'.get? b=some u)(ho:∀b,H b=some (.own a)->H' b=some (.own a))(ht:∀(b:Addr) (u:HT),H b=some u.ho->H' b=some u.ho):bC P w H' h' a o:=by
 induction o with
 |lst xs=>obtain⟨z,its,n,r,e⟩:=x;exact⟨z,its,n,r,k _ _ (.inl rfl) e⟩
 |tup xs=>obtain⟨z,its,r,ob,e,c⟩:=x;exact⟨z,its,r,ob,k _ _ (.inl rfl) e,c⟩
 |dK kvs=>obtain⟨z,y,vs,r,ob,es,ep,e,c⟩:=x;exact⟨z,y,vs,r,ob,es,ep,k _ _ (.inl rfl) e,c⟩
 |dT kvs=>obtain⟨z,y,xs,r,ob,es,ep,e,c⟩:=x;exact⟨z,y,xs,Paired.mapP r λp q z=>⟨z.1,ht _ (.tup _) z.2.1,z.2.2⟩,ob,es,ep,k _ _ (.inl rfl) e,c⟩
 |dN kvs=>obtain⟨z,y,xs,r,ob,es,ep,e,c⟩:=x;exact⟨z,y,xs,r,ob,es,ep,k _ _ (.inl rfl) e,c⟩
 |set S n=>obtain⟨ob,es,ep,t,e,c⟩:=x;exact⟨ob,es,ep,t,k _ _ (.inl rfl) e,c⟩
 |ins C dx fs=>obtain⟨d,z,ne,e,mA,⟨od,es,ep,e2,c⟩,r⟩:=x;exact⟨ho _ d,z,ne,k _ _ (.inl rfl) e,mA,⟨od,es,ep,k _ _ (.inr d) e2,c⟩,r⟩
 |own y=>obtain⟨ob,e⟩:=x;exact⟨ob,k _ _ (.inl rfl) e⟩
 |xd fs=>obtain⟨mA,⟨od,es,ep,e,c⟩,r⟩:=x;exact⟨mA,⟨od,es,ep,k _ _ (.inl rfl) e,c⟩,r⟩
 |rng lo hi=>obtain⟨t,u,v,e⟩:=x;exact⟨t,u,v,k _ _ (.inl rfl) e⟩
 |frz ob u ih=>obtain⟨e,q⟩:=x;exact⟨k _ _ (.inl rfl) e,ih q⟩
 |tbl ps =>
  obtain⟨q,m,e1,e2,e3,e4⟩:=x;exact⟨q,m,e1,k _ _ (.inl rfl) e2,e3,λz cv f=>by
   obtain⟨c,g1,g2⟩:=e4 z cv f;exact⟨c,g1,ht _ (.crec q) g2⟩⟩
 |crec q=>obtain⟨oc,vs,t,e,r⟩:=x;exact⟨oc,vs,t,k _ _ (.inl rfl) e,r⟩
 |met f y=>have e:h.get? a=some (W.methodObj (.ref f) (.ref y)):=x;show h'.get? a=some (W.methodObj (.ref f) (.ref y));exact k a _ (.inl rfl) e
 |ext φ=>obtain⟨p,⟨o,e⟩,st⟩:=x;exact⟨st _ _ p λo q=>k _ _ (.inl rfl) q,⟨o,k _ _ (.inl rfl) e⟩,st⟩
theorem HOk.lt(x:HOk P w H h)(e:H a=some o):a<h.objs.size:=(x a o e).lt
def HOk.fresh(x:HOk P w H h)(e:h.objs.size<=a):H a=none:=by
 cases q:H a with
 |none=>rfl
 |some u=>exact absurd (aQR (x.lt q) e) (aQS _)
def HOk.kept(x:HOk P w H h)(k:∀b u,h.get? b=some u->h'.get? b=some u):HOk P w H h':=λa o e =>
 (x a o e).stay (λb u _ q=>k b u q) (λ_ q=>q) λ_ _ q=>q
def HOk.laid(x:HOk P w H h)(k:∀b u,h.get? b=some u->h'.get? b=some u)(hp:h.objs.size<=a)(new:bC P w (upd H a o) h' a o):HOk P w (upd H a o) h':=λb u e=>by
 have hn:=x.fresh hp;by_cases hb:b=a
 . subst hb;rw[aV]at e;cases e;exact new
 . rw[aL hb]at e;exact(x b u e).stay (λc v _ q=>k c v q) (λc q=>by rw[aL (bR q hn)];exact q) λc xs q=>by rw[aL (bR q hn)];exact q
end
def Rd(H:Hp)(a:Addr)(u:HO):Prop:=H a=some u\/∃o,H a=some (.frz o u)
def Rd.ok{a:Addr}{u:HO}(r:Rd H a u)(x:HOk P w H h):bC P w H h a u:=by
 rcases r with r|⟨o,r⟩
 . exact x a u r
 . obtain⟨_,q⟩:=x a _ r;exact q
def Mut:Option HO->Prop
 |some (.lst _)=>True
 |some (.dK _)=>True
 |some (.dT _)=>True
 |some (.dN _)=>True
 |some (.set _ _)=>True
 |some (.ins _ _ _)=>True
 |some (.ext _)=>True
 |_=>False
section
variable {x e:Addr}{o':HO}
def HOk.write(ok:HOk P w H h)(mu:Mut (H x))(he:e=x\/H e=some (.own x))(k:∀b u,b≠e->h.get? b=some u->h'.get? b=some u)(heo:∃u,h'.get? e=some u)(new:bC P w (upd H x o') h' x o'):HOk P w (upd H x o') h':=λb u q=>by
 have nown:∀c y,H c=some (.own y)->c≠x:=λc y r z=>by subst z;rw[r]at mu;exact mu
 have ntup:∀(c:Addr) (u:HT),H c=some u.ho->c≠x:=λc u r z=>by subst z;rw[r]at mu;cases u <;> exact mu
 by_cases hb:b=x
 . subst hb;rw[aV]at q;cases q;exact new
 . rw[aL hb]at q;by_cases hbe:b=e
   . have q':H b=some (.own x):=by
       rcases he with z|z
       . exact absurd (hbe.trans z) hb
       . rw[hbe];exact z
     rw[q]at q';cases q';obtain⟨v,hv⟩:=heo;exact⟨v,by rw[hbe];exact hv⟩
   . refine(ok b u q).stay (λc v hc r=>k c v ?_ r) (λc r=>by rw[aL (nown c b r)];exact r) λc xs r=>by rw[aL (ntup c xs r)];exact r
     rcases hc with rfl|hc
     . exact hbe
     . rintro rfl;rcases he with z|z
       . exact nown c b hc z
       . rw[hc]at z;cases z;exact hb rfl
end
structure Un(fs ex:List Addr)(H H':Hp)(h h':Heap):Prop where
 keep:∀b o,h.get? b=some o->H b=none->b∉fs->b∉ex->h'.get? b=some o
 slot:∀b o,h.get? b=some o->H b=none->b∈fs->b∉ex->∃sl,h'.get? b=some {o with slots:=sl}
 free:∀b o,h.get? b=some o->H b=none->b∉ex->H' b=none
 there:∀b o,h.get? b=some o->b∉ex->∃o',h'.get? b=some o'
 tups:∀b xs,H b=some (.tup xs)->H' b=some (.tup xs)
 frzs:∀b o u,H b=some (.frz o u)->H' b=some (.frz o u)
 tbls:∀b ps,H b=some (.tbl ps)->∃more,H' b=some (.tbl (ps++more))
section
variable {fs fs' ex ex':List Addr}{H1 H2:Hp}{h1 h2:Heap}{a x e:Addr}{o:HO}
def Un.any(u:Un fs ex H H1 h h1){ob:Obj}(q:h.get? b=some ob)(n:H b=none)(hx:b∉ex):∃sl,h1.get? b=some {ob with slots:=sl}:=by
 by_cases hb:b∈fs
 . exact u.slot b ob q n hb hx
 . exact⟨ob.slots,u.keep b ob q n hb hx⟩
def Un.kept(k:∀b u,h.get? b=some u->h'.get? b=some u):Un fs ex H H h h' :=
 ⟨λb ob q _ _ _=>k b ob q,λb ob q _ _ _=>⟨ob.slots,k b ob q⟩,λ_ _ _ n _=>n,λb ob q _=>⟨ob,k b ob q⟩,λ_ _ q=>q,λ_ _ _ q=>q,λ_ ps q=>⟨#[],by rw[q];simp⟩⟩
def Un.refl:Un fs ex H H h h:=Un.kept λ_ _ q=>q
def Un.laid(k:∀b u,h.get? b=some u->h'.get? b=some u)(hp:h.objs.size<=a)(hn:H a=none):Un fs ex H (upd H a o) h h' where
 keep:=λb u q _ _ _=>k b u q
 slot:=λb u q _ _ _=>⟨u.slots,k b u q⟩
 free:=λb u q n _=>by rw[aL (aQT (aQR (aQQ q) hp))];exact n
 there:=λb u q _=>⟨u,k b u q⟩
 tups:=λb xs q=>by rw[aL (bR q hn)];exact q
 frzs:=λb u xs q=>by rw[aL (bR q hn)];exact q
 tbls:=λb ps q=>⟨#[],by rw[aL (bR q hn),q];simp⟩
def Un.write(mu:Mut (H x))(he:e=x\/H e=some (.own x))(k:∀b u,b≠e->h.get? b=some u->h'.get? b=some u)(heo:∃u,h'.get? e=some u):Un fs ex H (upd H x o) h h':=by
 have hx:∀b,H b=none->b≠x:=λb n z=>by subst z;rw[n]at mu;exact mu
 have hb:∀b,H b=none->b≠e:=λb n z=>by
  subst z;rcases he with r|r
  . exact hx b n r
  . rw[n]at r;cases r
 have hm:∀b u,H b=some u -> ¬ Mut (some u)->b≠x:=λb u q nm z=>by subst z;rw[q]at mu;exact nm mu
 refine⟨λb u q n _ _=>k b u (hb b n) q,λb u q n _ _=>⟨u.slots,k b u (hb b n) q⟩,λb u q n _=>by rw[aL (hx b n)];exact n,λb u q _=>?_,
  λb xs q=>by rw[aL (hm b _ q λz=>z)];exact q,λb u xs q=>by rw[aL (hm b _ q λz=>z)];exact q,λb ps q=>⟨#[],by rw[aL (hm b _ q λz=>z),q];simp⟩⟩
 by_cases hbe:b=e
 . subst hbe;exact heo
 . exact⟨u,k b u hbe q⟩
end
def trk(h:Heap)(H:Hp):List Addr:=(List.range h.objs.size).filter λa=>(H a).isSome
def gG(h:Heap)(H:Hp):Heap:=W.hideAll h (trk h H)
def aCQ(h:Heap)(H:Hp):(gG h H).objs.size=h.objs.size:=W.hideAll_size _ _
def pU{o:Obj}(e:h.get? b=some o)(n:H b=none):(gG h H).get? b=some o :=
 W.hideAll_get _ e λhm=>by have q:(H b).isSome=true:=(List.mem_filter.mp hm).2;rw[n]at q;simp at q
def aCR{o:Obj}(e:(gG h H).get? b=some o):h.get? b=some o/\H b=none:=by
 have e':h.get? b=some o:=W.of_hideAll (trk h H) e;refine⟨e',?_⟩;cases q:H b with
 |none=>rfl
 |some x =>
  have hm:b∈trk h H:=List.mem_filter.mpr ⟨aQU.mpr (aQQ e'),by simp[q]⟩
  have z:(gG h H).get? b=none:=W.hideAll_none (trk h H) hm;rw[z]at e;cases e
def aCS(g h:Heap)(L:Addr):LAO:=(List.range h.objs.size).filterMap λa=>if a=L\/(g.get? a).isSome=true then none else(h.get? a).map λo=>(a,o)
def rest(g h:Heap)(L d:Addr):LAO:=(aCS g h L).filter λp=>decide (p.1≠d)
structure Mod(K:Fg)(mg:SOV)(base:Heap):Prop where
 kin:K.In base
 glob:base.Ns mainGlobals mg
 blt:∃mb,base.Ns builtinsNs mb/\∀x:Str,x ≠ "__name__" -> mb x=bootBuiltins x
 nolimit:base.NoLimit
 bmod:∃bm ob,mg "__builtins__" = some (.ref bm)/\bm≠builtinsNs/\base.get? bm=some ob/\ob.cls=.type "module" /\ ob.dict=some builtinsNs/\ob.data=.plain
noncomputable def uS(q:Str):Str:=if q="valued" then "worth" else if q="lifted" then "lift" else "<lambda>"
def CdT(base:Heap)(H:Hp)(q:Str)(cd:aW2):Prop:=∃c T ps,cd=.ref c/\W.CodeHd base c T/\H T=some (.tbl ps)/\ps[0]? = some (.str (q ++ ".<locals>." ++ uS q) 0)
def CdT.mono{q:Str}{cd:aW2}(x:CdT base H q cd)(t:∀b ps,H b=some (.tbl ps)->∃more,H' b=some (.tbl (ps++more))):CdT base H' q cd:=by
 obtain⟨c,T,ps,e1,e2,e3,e4⟩:=x;obtain⟨m,e5⟩:=t T ps e3;refine⟨c,T,_,e1,e2,e5,?_⟩;rw[Array.getElem?_append_left (by have:=(aQV.mp e4).1;exact this)]
 exact e4
def jH(K:Fg)(base:Heap)(H:Hp):Prop:=∀cd q,W.codeIn K cd q=true->CdT base H q cd
theorem jH.mono(x:jH K base H)(t:∀b ps,H b=some (.tbl ps)->∃more,H' b=some (.tbl (ps++more))):jH K base H':=λcd q e=>(x cd q e).mono t
structure Cx where
 prog:aW6
 w:aW5
 K:Fg
 mg:SOV
 base:Heap
 A:aW4
 N:List Str
 s₀:aW3
 H₀:Hp
 env:Env
 outer:List Env
 stack:List Env
 ex:List Addr
 fn:Str->Bool
 calm:Bool
 pn:LAO
 xe:VSP
def frs(l:List Env):List Addr:=l.filterMap (·.frame)
end L2
variable {X:L2.Cx}
namespace L2
abbrev Cx.fs(X:Cx):List Addr:=frs X.outer
def Vis(sc:Scope)(x:Str):Prop:=sc.names.lookup x=some .local\/sc.names.lookup x=some .cell\/sc.names.lookup x=some .free
def Loc(sc:Scope)(x:Str):Prop:=sc.names.lookup x=some .local\/sc.names.lookup x=some .cell
def Look(env:Env)(h:Heap)(m:SOV)(x:Str)(u:aW2):Prop :=
 (env.kindOf x=some .local/\m x=some u)\/((env.kindOf x=some .cell\/env.kindOf x=some .free)/\∃c,env.cells.lookup x=some c/\h.IsCell c (some u))
structure Cx.Ok(X:Cx):Prop where
 mod:Mod X.K X.mg X.base
 kind:X.env.scope.kind=.function
 glob:X.env.globals=mainGlobals
 blt:X.env.builtins=builtinsNs
 above:X.s₀.heap.objs.size<=X.env.locals
 inj:∀x y c,X.env.cells.lookup x=some c->X.env.cells.lookup y=some c->x=y
 has:∀x,(X.env.kindOf x=some .cell\/X.env.kindOf x=some .free)->∃c,X.env.cells.lookup x=some c
 cab:∀x c,X.fn x=true->X.env.cells.lookup x=some c->X.s₀.heap.objs.size<=c
 hd:X.calm=true->X.A.handled=none
 frames:X.A.frames=some X.stack
 stk:X.stack=X.outer\/(X.stack=X.env::X.outer/\X.env.frame=some X.env.locals)
 exf:∀b∈X.ex,b≠X.env.locals/\∀x c,X.env.cells.lookup x=some c->c≠b
 bs:∀b o,X.base.get? b=some o->X.s₀.heap.get? b=some o/\X.H₀ b=none
 bsz:X.base.objs.size<=X.s₀.heap.objs.size
 noex:∀b o,X.base.get? b=some o->b∉X.ex
 exfs:∀b∈X.ex,b∉X.fs
 funs:X.s₀.heap.FunFrames X.base X.outer
 frf:∀b∈X.fs,X.H₀ b=none
 tabs:jH X.K X.base X.H₀
structure Inv(X:Cx)(aA:LAO)(σ:List (Option V))(H:Hp)(s:aW3):Prop where
 ok:X.Ok
 os:s.os=X.s₀.os
 bare:AllBare s.gens
 base:Un X.fs X.ex X.H₀ H X.s₀.heap s.heap
 loc:∃m,s.heap.Ns X.env.locals m/\∀(i:Nat) (x:Str) (v:V),X.N[i]? = some x->σ[i]? = some (some v)->Vis X.env.scope x->∃u,aJ v u/\Look X.env s.heap m x u
 cell:∀x c,X.env.cells.lookup x=some c->∃v,s.heap.IsCell c v
 free:H X.env.locals=none
 freeC:∀x c,X.env.cells.lookup x=some c->H c=none
 pin:∀p∈X.pn++aA,s.heap.get? p.1=some p.2/\H p.1=none/\p.1≠X.env.locals/\p.1∉X.fs/\∀v,p.2.data ≠ .cell v
 hok:HOk X.prog X.w H s.heap
 len:σ.length=X.N.length
section
variable {σ:List (Option V)}
def Cx.Ok.nofr(ok:X.Ok){o:Obj}(e:X.base.get? b=some o):b∉X.fs:=λhb=>by have:=(ok.funs.mem hb).1;rw[e]at this;cases this
theorem Inv.bs(I:Inv X aA σ H s):∀b o,X.base.get? b=some o->s.heap.get? b=some o/\H b=none:=λb o e =>
 ⟨I.base.keep b o (I.ok.bs b o e).1 (I.ok.bs b o e).2 (I.ok.nofr e) (I.ok.noex b o e),I.base.free b o (I.ok.bs b o e).1 (I.ok.bs b o e).2 (I.ok.noex b o e)⟩
def Inv.bk(I:Inv X aA σ H s):∀b o,X.base.get? b=some o->s.heap.get? b=some o:=λb o e=>(I.bs b o e).1
theorem Inv.mod(I:Inv X aA σ H s):Mod X.K X.mg X.base:=I.ok.mod
def Inv.kIn(I:Inv X aA σ H s):X.K.In s.heap:=I.ok.mod.kin.keeps I.bk
theorem Inv.lt(I:Inv X aA σ H s):X.env.locals<s.heap.objs.size:=let⟨_,hn,_⟩:=I.loc;hn.lt
def Inv.sz(I:Inv X aA σ H s):X.s₀.heap.objs.size<=s.heap.objs.size:=aQW I.ok.above (aQX I.lt)
def Inv.nofs(I:Inv X aA σ H s){a:Addr}(h:s.heap.objs.size<=a):a∉X.fs:=λhb=>by obtain⟨_,o,ho,_⟩:=I.ok.funs.mem hb;exact absurd (aQR (aQQ ho) (aQW I.sz h)) (aQS _)
def Inv.cne(I:Inv X aA σ H s):∀x c,X.env.cells.lookup x=some c->c≠X.env.locals:=λx c e z=>by obtain⟨v,o,ho,hd⟩:=I.cell x c e;obtain⟨m,⟨o',es,ep,ho',hd',_⟩,_⟩:=I.loc;rw[z,ho']at ho;cases ho;rw[hd']at hd;cases hd
theorem Inv.funs(I:Inv X aA σ H s):s.heap.FunFrames X.base X.outer:=by
 have all:∀(l:List Env),(∀b∈frs l,b∈X.fs)->X.s₀.heap.FunFrames X.base l->s.heap.FunFrames X.base l:=by
  intro l
  induction l with
  |nil=>intro _ _;trivial
  |cons env r ih =>
   intro hs hl;obtain⟨hk,⟨L,o,hf,hn,ho,hd⟩,hr⟩:=hl;have hL:L∈X.fs:=hs L (by unfold frs;rw[aQY,hf];exact mcs)
   obtain⟨sl,e⟩:=I.base.slot L o ho (I.ok.frf L hL) hL λz=>I.ok.exfs L z hL;exact⟨hk,⟨L,_,hf,hn,e,hd⟩,ih (λb hb=>hs b (by unfold frs;rw[aQY,hf];exact mcm hb)) hr⟩
 exact all X.outer (λ_ hb=>hb) I.ok.funs
theorem Inv.stack(I:Inv X aA σ H s):s.heap.FunFrames X.base X.stack:=by
 rcases I.ok.stk with e|⟨e,hf⟩
 . rw[e];exact I.funs
 . rw[e];obtain⟨m,hn,_⟩:=I.loc;refine .cons (by rw[I.ok.kind];decide) hf hn ?_ I.funs
   exact Heap.get?_none_of_le (aQW I.ok.bsz I.ok.above)
def Inv.stkSub(I:Inv X aA σ H s):∀b∈frs X.stack,b∈X.env.locals::X.fs:=λb hb=>by
 rcases I.ok.stk with e|⟨e,hf⟩
 . rw[e]at hb;exact mcm hb
 . rw[e]at hb;unfold frs at hb;rw[aQY,hf]at hb;exact hb
def Inv.stkFree(I:Inv X aA σ H s):∀b∈frs X.stack,H b=none:=λb hb=>by
 rcases aQZ.mp (I.stkSub b hb)with e|hb
 . rw[e];exact I.free
 . obtain⟨_,o,ho,_⟩:=I.ok.funs.mem hb;exact I.base.free b o ho (I.ok.frf b hb) λz=>I.ok.exfs b z hb
def Inv.step{g':Array GenState}{d':Drawn}(I:Inv X aA σ H s)(hch:∀b∈ch,(b∈X.ex\/X.s₀.heap.objs.size<=b)/\b≠X.env.locals/\(∀x c,X.env.cells.lookup x=some c->c≠b)/\∀p∈X.pn++aA,p.1≠b)(keep:∀b o,b≠X.env.locals->b∉X.fs->b∉ch->s.heap.get? b=some o->H b=none->h'.get? b=some o)(slot:∀b o,b≠X.env.locals->b∈X.fs->b∉ch->s.heap.get? b=some o->H b=none->∃sl,h'.get? b=some {o with slots:=sl})(free:∀b o,b∉ch->s.heap.get? b=some o->H b=none->H' b=none)(there:∀b o,b∉ch->s.heap.get? b=some o->∃o',h'.get? b=some o')(tups:∀b xs,H b=some (.tup xs)->H' b=some (.tup xs))(frzs:∀b o u,H b=some (.frz o u)->H' b=some (.frz o u))(tbls:∀b ps,H b=some (.tbl ps)->∃more,H' b=some (.tbl (ps++more)))(ns:∀m,s.heap.Ns X.env.locals m->h'.Ns X.env.locals m)(hok:HOk X.prog X.w H' h')(hg:AllBare g'):Inv X aA σ H' {s with heap:=h',gens:=g',drawn:=d',toks:=t'}:=by
 have neL:∀b o,X.s₀.heap.get? b=some o->b≠X.env.locals:=λb o e=>aQT (aQR (aQQ e) I.ok.above);have neC:∀b o,X.s₀.heap.get? b=some o->b∉X.ex->b∉ch:=λb o e hx hb=>by
  rcases(hch b hb).1 with z|z
  . exact hx z
  . exact absurd (aQR (aQQ e) z) (aQS _)
 have cellK:∀x c,X.env.cells.lookup x=some c->∀v,s.heap.IsCell c v->h'.IsCell c v:=λx c e v ⟨o,ho,hd⟩=>by
  have nch:c∉ch:=λz=>(hch c z).2.2.1 x c e rfl;by_cases hc:c∈X.fs
  . obtain⟨sl,q⟩:=slot c o (I.cne x c e) hc nch ho (I.freeC x c e);exact⟨_,q,hd⟩
  . exact⟨o,keep c o (I.cne x c e) hc nch ho (I.freeC x c e),hd⟩
 refine⟨I.ok,I.os,hg,⟨λb o e n hb hx=>?_,λb o e n hb hx=>?_,λb o e n hx=>?_,λb o e hx=>?_,λb xs e=>tups b xs (I.base.tups b xs e),λb o xs e=>frzs b o xs (I.base.frzs b o xs e),λb ps e=>?_⟩,?_,λx c e=>?_,?_,λx c e=>?_,λp hp=>?_,hok,I.len⟩
 . exact keep b o (neL b o e) hb (neC b o e hx) (I.base.keep b o e n hb hx) (I.base.free b o e n hx)
 . obtain⟨sl,e1⟩:=I.base.slot b o e n hb hx;obtain⟨sl',e2⟩:=slot b _ (neL b o e) hb (neC b o e hx) e1 (I.base.free b o e n hx);exact⟨sl',e2⟩
 . obtain⟨o',e1⟩:=I.base.there b o e hx;exact free b o' (neC b o e hx) e1 (I.base.free b o e n hx)
 . obtain⟨o',e1⟩:=I.base.there b o e hx;exact there b o' (neC b o e hx) e1
 . obtain⟨m1,e1⟩:=I.base.tbls b ps e;obtain⟨m2,e2⟩:=tbls b _ e1;exact⟨m1++m2,by rw[e2,Array.append_assoc]⟩
 . obtain⟨m,hn,hl⟩:=I.loc;refine⟨m,ns m hn,λi x v e1 e2 e3=>?_⟩;obtain⟨u,r,l⟩:=hl i x v e1 e2 e3;refine⟨u,r,?_⟩;rcases l with l|⟨k,c,e,z⟩
   . exact .inl l
   . exact .inr ⟨k,c,e,cellK x c e _ z⟩
 . obtain⟨v,z⟩:=I.cell x c e;exact⟨v,cellK x c e v z⟩
 . obtain⟨m,⟨o,_,_,ho,_⟩,_⟩:=I.loc;exact free _ o (λz=>(hch _ z).2.1 rfl) ho I.free
 . obtain⟨v,o,ho,hd⟩:=I.cell x c e;exact free c o (λz=>(hch c z).2.2.1 x c e rfl) ho (I.freeC x c e)
 . obtain⟨e,n,ne,nf,d⟩:=I.pin p hp;have nch:p.1∉ch:=λz=>(hch p.1 z).2.2.2 p hp rfl;exact⟨keep p.1 p.2 ne nf nch e n,free p.1 p.2 nch e n,ne,nf,d⟩
def Inv.un(I:Inv X aA σ H s)(u:Un X.fs [] H H' s.heap h')(hok:HOk X.prog X.w H' h'):Inv X aA σ H' {s with heap:=h',toks:=t'}:=by
 obtain⟨m,⟨o,es,ep,ho,r⟩,_⟩:=id I.loc;obtain⟨sl,hL⟩:=u.any ho I.free (by simp)
 exact I.step (g':=s.gens) (d':=s.drawn) (ch:=[]) (λ_ z=>nomatch z) (λb o _ hb _ e n=>u.keep b o e n hb (by simp)) (λb o _ hb _ e n=>u.slot b o e n hb (by simp)) (λb o _ e n=>u.free b o e n (by simp)) (λb o _ e=>u.there b o e (by simp)) u.tups u.frzs u.tbls (λm' hm=>by
  obtain⟨o',es',ep',ho',r'⟩:=hm;rw[ho]at ho';cases ho';exact⟨_,es',ep',hL,r'⟩) hok I.bare
def Inv.call{g':Array GenState}{d':Drawn}(I:Inv X aA σ H s)(u:Un (frs X.stack) ch H H' s.heap h')(hok:HOk X.prog X.w H' h')(hg:AllBare g')(hch:∀b∈ch,(b∈X.ex\/X.s₀.heap.objs.size<=b)/\b≠X.env.locals/\(∀x c,X.env.cells.lookup x=some c->c≠b)/\∀p∈X.pn++aA,p.1≠b):Inv X aA σ H' {s with heap:=h',gens:=g',drawn:=d',toks:=t'}:=by
 obtain⟨m,⟨o,es,ep,ho,r⟩,_⟩:=id I.loc;obtain⟨sl,hL⟩:=u.any ho I.free λz=>(hch _ z).2.1 rfl;exact I.step (ch:=ch) hch (λb o hL hb hc e n=>u.keep b o e n (λz=>(aQZ.mp (I.stkSub b z)).elim hL hb) hc) (λb o _ _ hc e n=>u.any e n hc) (λb o hc e n=>u.free b o e n hc) (λb o hc e=>u.there b o e hc) u.tups u.frzs u.tbls (λm' hm=>by
  obtain⟨o',es',ep',ho',r'⟩:=hm;rw[ho]at ho';cases ho';exact⟨_,es',ep',hL,r'⟩) hok hg
def Inv.turned(I:Inv X aA σ H s)(k:∀b o,b≠it->s.heap.get? b=some o->h'.get? b=some o)(hn:H it=none)(hL:it≠X.env.locals)(h1:it∈X.ex\/X.s₀.heap.objs.size<=it)(h2:∀x c,X.env.cells.lookup x=some c->c≠it)(h3:∀p∈X.pn++aA,p.1≠it):Inv X aA σ H {s with heap:=h',toks:=t'}:=by
 have nit:∀b u,H b=some u->b≠it:=λb u e z=>by rw[z,hn]at e;cases e
 refine I.step (g':=s.gens) (d':=s.drawn) (ch:=[it]) (λb hb=>?_) (λb o _ _ hc e _=>k b o (λz=>hc (by simp[z])) e) (λb o _ _ hc e _=>⟨o.slots,k b o (λz=>hc (by simp[z])) e⟩) (λ_ _ _ _ n=>n)
  (λb o hc e=>⟨o,k b o (λz=>hc (by simp[z])) e⟩) (λ_ _ e=>e) (λ_ _ _ e=>e) (λb ps e=>⟨#[],by rw[e];simp⟩) (λm hm=>?_) (λb u e=>?_) I.bare
 . have e:b=it:=by simpa using hb
   subst e;exact⟨h1,hL,h2,h3⟩
 . obtain⟨o,es,ep,ho,r⟩:=hm;exact⟨o,es,ep,k _ o (Ne.symm hL) ho,r⟩
 . refine(I.hok b u e).stay (λc v hc q=>k c v ?_ q) (λ_ q=>q) λ_ _ q=>q;rcases hc with z|z
   . rw[z];exact nit b u e
   . exact nit c _ z
def Inv.tok(I:Inv X aA σ H s)(t:Nat):Inv X aA σ H {s with toks:=t}:=I.un (h':=s.heap) (t':=t) Un.refl I.hok
theorem Inv.kept(I:Inv X aA σ H s)(k:∀b u,s.heap.get? b=some u->h'.get? b=some u):Inv X aA σ H {s with heap:=h',toks:=t'}:=I.un (Un.kept k) (I.hok.kept k)
theorem Inv.laid{a:Addr}{o:HO}(I:Inv X aA σ H s)(k:∀b u,s.heap.get? b=some u->h'.get? b=some u)(hp:s.heap.objs.size<=a)(new:bC X.prog X.w (upd H a o) h' a o):Inv X aA σ (upd H a o) {s with heap:=h',toks:=t'}:=I.un (Un.laid k hp (I.hok.fresh hp)) (I.hok.laid k hp new)
theorem Inv.write{x e:Addr}{o:HO}(I:Inv X aA σ H s)(mu:Mut (H x))(he:e=x\/H e=some (.own x))(k:∀b u,b≠e->s.heap.get? b=some u->h'.get? b=some u)(heo:∃u,h'.get? e=some u)(new:bC X.prog X.w (upd H x o) h' x o):Inv X aA σ (upd H x o) {s with heap:=h',toks:=t'}:=I.un (Un.write mu he k heo) (I.hok.write mu he k heo new)
def Inv.weak{σ':List (Option V)}(I:Inv X aA σ H s)(hl:σ'.length=σ.length)(w:∀(i:Nat) v,σ'[i]? = some (some v)->σ[i]? = some (some v)):Inv X aA σ' H s :=
 ⟨I.ok,I.os,I.bare,I.base,let⟨m,hn,hl'⟩:=I.loc;⟨m,hn,λi x v e1 e2 e3=>hl' i x v e1 (w i v e2) e3⟩,I.cell,I.free,I.freeC,I.pin,I.hok,hl.trans I.len⟩
def Inv.pins_of{pins':LAO}(I:Inv X aA σ H s)(h:∀p∈pins',s.heap.get? p.1=some p.2/\H p.1=none/\p.1≠X.env.locals/\p.1∉X.fs/\∀v,p.2.data ≠ .cell v):Inv X pins' σ H s :=
 ⟨I.ok,I.os,I.bare,I.base,I.loc,I.cell,I.free,I.freeC,λp hp=>(aQ0.mp hp).elim (λz=>I.pin p (aQ1 _ z)) (h p),I.hok,I.len⟩
def uT{N:List Str}(hN:N.Nodup)(a:N[i]? = some x)(b:N[j]? = some x):i=j:=by obtain⟨h1,e1⟩:=aQ2.mp a;obtain⟨h2,e2⟩:=aQ2.mp b;exact(List.getElem_inj hN).mp (e1.trans e2.symm)
def uU{M:Model}{A:aW4}{E:VSP}{Q:Unit->aW3->Prop}(I:Inv X aA σ H s)(hN:X.N.Nodup)(hi:X.N[i]? = some x)(hx:Loc X.env.scope x)(r:aJ v u)(h:∀s',Inv X aA (σ.set i (some v)) H s'->(∃a,Heap.SameBut a s.heap s'.heap/\(a=X.env.locals\/X.env.cells.lookup x=some a))->Q () s')(hf:X.fn x=true\/X.env.scope.names.lookup x=some .local:=by first|exact .inl rfl|exact .inr rfl|assumption):wpAny M A (storeName X.env x u) Q E s:=by
 obtain⟨m,hn,hl⟩:=id I.loc;have hcls:(X.env.scope.kind == .class||(X.env.scope.kind == .module&&X.env.locals != X.env.globals))=false:=by rw[I.ok.kind];rfl
 have hiσ:i<σ.length:=by rw[I.len];exact(aQ2.mp hi).1
 have cne:=I.cne;have tracked:∀{a:Addr}{h':Heap},(∃o,s.heap.get? a=some o/\H a=none)->Heap.SameBut a s.heap h'->HOk X.prog X.w H h':=λ{a h'} ha hs b ob e=>by
  obtain⟨_,_,dQ⟩:=ha;refine(I.hok b ob e).stay (λc w' hc q=>(hs.2 c ?_).trans q) (λ_ q=>q) λ_ _ q=>q;rintro rfl;rcases hc with rfl|hc
  . rw[dQ]at e;cases e
  . rw[dQ]at hc;cases hc
 rcases hx with hk|hk
 . refine wpAny_storeName_local hk hn (λh' hn' hs=>?_) hcls;obtain⟨oL,_,_,hoL,_⟩:=id hn;refine h _ ⟨I.ok,I.os,I.bare,⟨λb o e n hb hx=>?_,λb o e n hb hx=>?_,I.base.free,λb o e hx=>?_,I.base.tups,I.base.frzs,I.base.tbls⟩,⟨_,hn',λj y v' e1 e2 e3=>?_⟩,λy c e=>?_,I.free,I.freeC,λp hp=>?_,tracked ⟨oL,hoL,I.free⟩ hs,by simpa using I.len⟩ ⟨_,hs,.inl rfl⟩
   . exact(hs.2 b (aQT (aQR (aQQ e) I.ok.above))).trans (I.base.keep b o e n hb hx)
   . obtain⟨sl,e1⟩:=I.base.slot b o e n hb hx;exact⟨sl,(hs.2 b (aQT (aQR (aQQ e) I.ok.above))).trans e1⟩
   . obtain⟨o',e1⟩:=I.base.there b o e hx;exact⟨o',(hs.2 b (aQT (aQR (aQQ e) I.ok.above))).trans e1⟩
   . by_cases hj:j=i
     . subst hj;rw[hi]at e1;cases e1;rw[aQ3 hiσ]at e2;cases e2;exact⟨u,r,.inl ⟨hk,by simp⟩⟩
     . rw[aQ4 (Ne.symm hj)]at e2;obtain⟨u',r',q⟩:=hl j y v' e1 e2 e3;refine⟨u',r',?_⟩;rcases q with⟨k,e⟩|⟨k,c,e,z⟩
       . refine .inl ⟨k,?_⟩;have:y≠x:=λe=>hj (uT hN e1 (e ▸ hi));simp[this,e]
       . exact .inr ⟨k,c,e,z.sameBut hs (cne y c e)⟩
   . obtain⟨w',z⟩:=I.cell y c e;exact⟨w',z.sameBut hs (cne y c e)⟩
   . obtain⟨e,n,ne,nf,d⟩:=I.pin p hp;exact⟨(hs.2 p.1 ne).trans e,n,ne,nf,d⟩
 . have hfn:X.fn x=true:=by
     rcases hf with z|z
     . exact z
     . rw[z]at hk;cases hk
   obtain⟨c,hc⟩:=I.ok.has x (.inl hk);obtain⟨w',z⟩:=I.cell x c hc;refine wpAny_storeName_cell I.ok.kind hk hc z (λh' hc' hs=>?_);obtain⟨oc,hoc,hocd⟩:=id z;refine h {s with heap:=h'} ⟨I.ok,I.os,I.bare,⟨λb o e n hb hx=>?_,λb o e n hb hx=>?_,I.base.free,λb o e hx=>?_,I.base.tups,I.base.frzs,I.base.tbls⟩,⟨m,hn.sameBut hs (Ne.symm (cne x c hc)),λj y v' e1 e2 e3=>?_⟩,λy c' e=>?_,I.free,I.freeC,λp hp=>?_,tracked ⟨oc,hoc,I.freeC x c hc⟩ hs,by simpa using I.len⟩ ⟨c,hs,.inr hc⟩
   . exact(hs.2 b (aQT (aQR (aQQ e) (I.ok.cab x c hfn hc)))).trans (I.base.keep b o e n hb hx)
   . obtain⟨sl,e1⟩:=I.base.slot b o e n hb hx;exact⟨sl,(hs.2 b (aQT (aQR (aQQ e) (I.ok.cab x c hfn hc)))).trans e1⟩
   . obtain⟨o',e1⟩:=I.base.there b o e hx;exact⟨o',(hs.2 b (aQT (aQR (aQQ e) (I.ok.cab x c hfn hc)))).trans e1⟩
   . by_cases hj:j=i
     . subst hj;rw[hi]at e1;cases e1;rw[aQ3 hiσ]at e2;cases e2;exact⟨u,r,.inr ⟨.inl hk,c,hc,hc'⟩⟩
     . rw[aQ4 (Ne.symm hj)]at e2;obtain⟨u',r',q⟩:=hl j y v' e1 e2 e3;refine⟨u',r',?_⟩;rcases q with q|⟨k,c',e,z'⟩
       . exact .inl q
       . refine .inr ⟨k,c',e,z'.sameBut hs ?_⟩;rintro rfl;exact hj (uT hN e1 (I.ok.inj _ _ _ e hc ▸ hi))
   . by_cases hcc:c'=c
     . subst hcc;exact⟨_,hc'⟩
     . obtain⟨w2,z2⟩:=I.cell y c' e;exact⟨w2,z2.sameBut hs hcc⟩
   . obtain⟨e,n,ne,nf,d⟩:=I.pin p hp;refine⟨(hs.2 p.1 ?_).trans e,n,ne,nf,d⟩;intro q;rw[q,hoc]at e;have q':oc=p.2:=aQO e;exact d w' (by rw[<- q'];exact hocd)
def uV{M:Model}{A:aW4}{E:VSP}{Q:Unit->aW3->Prop}(I:Inv X aA σ H s)(hN:X.N.Nodup)(hi:X.N[i]? = some x)(hx:Loc X.env.scope x)(r:aJ v u)(h:∀s',Inv X aA (σ.set i (some v)) H s'->Q () s')(hf:X.fn x=true\/X.env.scope.names.lookup x=some .local:=by first|exact .inl rfl|exact .inr rfl|assumption):wpAny M A (storeName X.env x u) Q E s :=
 uU I hN hi hx r (λs' I' _=>h s' I') hf
def Inv.call'(I:Inv X aA σ H s)(ho:s'.os=s.os)(u:Un (frs X.stack) ch H H' s.heap s'.heap)(hok:HOk X.prog X.w H' s'.heap)(hg:AllBare s'.gens)(hch:∀b∈ch,(b∈X.ex\/X.s₀.heap.objs.size<=b)/\b≠X.env.locals/\(∀x c,X.env.cells.lookup x=some c->c≠b)/\∀p∈X.pn++aA,p.1≠b):Inv X aA σ H' s':=by obtain⟨h',g',d',t',o'⟩:=s';have e:o'=s.os:=ho;subst e;exact I.call (g':=g') (t':=t') (d':=d') u hok hg hch
end
abbrev XK:=aW2->Option Addr->Hp->Prop
abbrev St:=List (Option V)
abbrev VK:=V->Hp->Prop
abbrev TE:=St->Hp->VK->Prop
abbrev TT:=St->Hp->(Bool->Hp->Prop)->Prop
abbrev TA:=St->Hp->(List V->Hp->Prop)->Prop
end L2
variable {σ:L2.St}{ta te tl td:L2.TE}{tt:L2.TT}
namespace L2
structure fE where
 nx:St->Hp->Prop
 rt:VK
 bk:St->Hp->Prop:=λ_ _=>False
 ct:St->Hp->Prop:=λ_ _=>False
abbrev TS:=fE->St->Hp->Prop
def EP(X:Cx)(aA:LAO)(σ:St)(Q:VK)(u:aW2)(s':aW3):Prop:=∃v H',Inv X aA σ H' s'/\aJ v u/\Q v H'
def TP(X:Cx)(aA:LAO)(σ:St)(Q:Bool->Hp->Prop)(b:Bool)(s':aW3):Prop:=∃H',Inv X aA σ H' s'/\Q b H'
def AP(X:Cx)(aA:LAO)(σ:St)(Q:List V->Hp->Prop)(us:List aW2)(s':aW3):Prop:=∃vs H',Inv X aA σ H' s'/\aH vs us/\Q vs H'
def SP(X:Cx)(aA:LAO)(D:fE)(f:Flow)(s':aW3):Prop :=
 match f with
 |.next=>∃σ' H',Inv X aA σ' H' s'/\D.nx σ' H'
 |.brk=>∃σ' H',Inv X aA σ' H' s'/\D.bk σ' H'
 |.cont=>∃σ' H',Inv X aA σ' H' s'/\D.ct σ' H'
 |.ret u=>∃v σ' H',Inv X aA σ' H' s'/\aJ v u/\D.rt v H'
def PE(X:Cx)(e:Expr)(t:TE):Prop :=
 ∀(aA:LAO) (s:aW3) (σ:St) (H:Hp) (Q:VK),Inv X aA σ H s->t σ H Q->wpAny (model X.prog X.w) X.A (eval e X.env) (EP X aA σ Q) X.xe s
def PT(X:Cx)(e:Expr)(t:TT):Prop :=
 ∀(aA:LAO) (s:aW3) (σ:St) (H:Hp) (Q:Bool->Hp->Prop),Inv X aA σ H s->t σ H Q->wpAny (model X.prog X.w) X.A (isTrue e X.env (eval e X.env)) (TP X aA σ Q) X.xe s
def PW(X:Cx)(e:Expr)(t:TT):Prop :=
 ∀(whole:Sem aW2) (aA:LAO) (s:aW3) (σ:St) (H:Hp) (Q:Bool->Hp->Prop),Inv X aA σ H s->t σ H Q->wpAny (model X.prog X.w) X.A (isTrue e X.env whole) (TP X aA σ Q) X.xe s
def PW.pt{t:TT}(h:PW X e t):PT X e t:=h _
def PA(X:Cx)(es:List Expr)(t:TA):Prop :=
 ∀(pos:Pos) (aA:LAO) (s:aW3) (σ:St) (H:Hp) (Q:List V->Hp->Prop),Inv X aA σ H s->t σ H Q->wpAny (model X.prog X.w) X.A (spliced (backTo pos (starEach es X.env))) (AP X aA σ Q) X.xe s
def PS(X:Cx)(st:Stmt)(t:TS):Prop :=
 ∀(aA:LAO) (s:aW3) (σ:St) (H:Hp) (D:fE),Inv X aA σ H s->t D σ H->wpAny (model X.prog X.w) X.A (exec st X.env) (SP X aA D) X.xe s
def PSs(X:Cx)(st:List Stmt)(t:TS):Prop :=
 ∀(aA:LAO) (s:aW3) (σ:St) (H:Hp) (D:fE),Inv X aA σ H s->t D σ H->wpAny (model X.prog X.w) X.A (execs st X.env) (SP X aA D) X.xe s
def thn{t:Sem α}{Q Q':α->aW3->Prop}{M:Model}{A:aW4}{E:VSP}(h:wpAny M A t Q E s)(hQ:∀a s,Q a s->Q' a s):wpAny M A t Q' E s:=aQ5 h hQ λ_ _ x=>x
section
def bX(i:Nat):TE:=λσ H Q=>∃v,σ[i]? = some (some v)/\Q v H
def tC(v:V):TE:=λ_ H Q=>Q v H
def jI(hN:X.N[i]? = some x)(hv:Vis X.env.scope x)(hd:(x==("__debug__":Str))=false:=by decide)(hcd:(x==("__classdict__":Str))=false:=by decide):PE X (.Name x pos) (bX i):=by
 intro aA s σ H Q I h;obtain⟨v,e,h⟩:=h;obtain⟨m,hn,hl⟩:=I.loc;obtain⟨u,r,l⟩:=hl i x v hN e hv;have fin:EP X aA σ Q u s:=⟨v,H,I,r,h⟩;rcases l with⟨hk,hm⟩|⟨hk,c,hc,cU⟩
 . exact wpAny_Name (wpAny_loadName_local I.ok.kind hk hn hm fin) hd
 . rcases hk with hk|hk
   . exact wpAny_Name (wpAny_loadName_cell I.ok.kind hk hc cU fin) hd
   . exact wpAny_Name (wpAny_loadName_free I.ok.kind hk hc cU fin hcd) hd
def uW{i j pos:_}:PE X (.Constant (.int i) j pos) (tC (.int i)):=λ_ _ _ H _ I h=>wpAny_Constant_int ⟨.int i,H,I.tok _,⟨_,rfl⟩,h⟩
def pe_bl{b j pos:_}:PE X (.Constant (.bool b) j pos) (tC (.bl b)):=λ_ _ _ H _ I h=>Constant_bool ⟨.bl b,H,I,rfl,h⟩
def aCT{j pos:_}:PE X (.Constant .none j pos) (tC .non):=λ_ _ _ H _ I h=>Constant_none ⟨.non,H,I,rfl,h⟩
def aCU{x j pos:_}:PE X (.Constant (.str x) j pos) (tC (.str x)):=λ_ _ _ H _ I h=>Calls.Constant_str ⟨.str x,H,I.tok _,⟨_,rfl⟩,h⟩
def Gl(X:Cx)(x:Str):Prop:=X.env.kindOf x=some .globalImplicit
def nE{E:VSP}{σ:St}{Q:VSP}(I:Inv X aA σ H s)(hg:Gl X x)(hm:X.mg x=some u)(h:Q u s)(hd:(x==("__debug__":Str))=false:=by decide):wpAny (model X.prog X.w) X.A (eval (.Name x pos) X.env) Q E s :=
 Calls.Name_function_global I.ok.kind hg (Calls.loadGlobal_global (by rw[I.ok.glob];exact I.mod.glob.keeps I.bk) hm h) hd
def k4{E:VSP}{σ:St}{Q:VSP}(I:Inv X aA σ H s)(hg:Gl X x)(hm:X.mg x=none)(hv:bootBuiltins x=some u)(h:Q u s)(hn:x ≠ "__name__" := by decide)(hd:(x==("__debug__":Str))=false:=by decide):wpAny (model X.prog X.w) X.A (eval (.Name x pos) X.env) Q E s:=by obtain⟨mb,h1,h2⟩:=I.mod.blt;exact Calls.Name_function_global I.ok.kind hg (Calls.loadGlobal_builtin (by rw[I.ok.glob];exact I.mod.glob.keeps I.bk) hm (by rw[I.ok.blt];exact h1.keeps I.bk) ((h2 x hn).trans hv) h) hd
def uX(hg:Gl X x)(hm:X.mg x=some u)(r:aJ v u)(hd:(x==("__debug__":Str))=false:=by decide):PE X (.Name x pos) (tC v) :=
 λ_ _ _ H _ I h=>nE I hg hm ⟨v,H,I,r,h⟩ hd
def aCV(hg:Gl X x)(hm:X.mg x=none)(hv:bootBuiltins x=some u)(r:aJ v u)(hn:x ≠ "__name__" := by decide)(hd:(x==("__debug__":Str))=false:=by decide):PE X (.Name x pos) (tC v) :=
 λ_ _ _ H _ I h=>k4 I hg hm hv ⟨v,H,I,r,h⟩ hn hd
variable {a b:Expr}{tb:TE}
variable {tA tB':TT}{rest:List Expr}
def pV(t u:TT):TT:=λσ H Q=>t σ H λc H1=>if c=true then u σ H1 Q else Q false H1
def tOr(t u:TT):TT:=λσ H Q=>t σ H λc H1=>if c=true then Q true H1 else u σ H1 Q
def tNot(t:TT):TT:=λσ H Q=>t σ H λc H1=>Q (!c) H1
def aCW(ha:PT X a tA):PW X (.BoolOp .And [a] pos) tA:=by
 intro wh aA s σ H Q I h;refine isTrue_and (thn (ha aA s σ H Q I h) λc s1 e=>?_);cases c with
 |true=>exact isTrue_and_nil e
 |false=>exact e
def aCX(ha:PT X a tA):PW X (.BoolOp .Or [a] pos) tA:=by
 intro wh aA s σ H Q I h;refine isTrue_or (thn (ha aA s σ H Q I h) λc s1 e=>?_);cases c with
 |false=>exact isTrue_or_nil e
 |true=>exact e
def aCY(ha:PT X a tA)(hb:PW X (.BoolOp .And (b::rest) pos) tB'):PW X (.BoolOp .And (a::b::rest) pos) (pV tA tB'):=by
 intro wh aA s σ H Q I h;refine isTrue_and (thn (ha aA s σ H _ I h) λc s1 ⟨H1,I1,q1⟩=>?_);cases c with
 |true=>exact hb wh aA s1 σ H1 Q I1 q1
 |false=>exact⟨H1,I1,q1⟩
def pw_or(ha:PT X a tA)(hb:PW X (.BoolOp .Or (b::rest) pos) tB'):PW X (.BoolOp .Or (a::b::rest) pos) (tOr tA tB'):=by
 intro wh aA s σ H Q I h;refine isTrue_or (thn (ha aA s σ H _ I h) λc s1 ⟨H1,I1,q1⟩=>?_);cases c with
 |true=>exact⟨H1,I1,q1⟩
 |false=>exact hb wh aA s1 σ H1 Q I1 q1
def aCZ(ha:PT X a tA):PT X (.UnaryOp .Not a pos) (tNot tA):=by intro aA s σ H Q I h;exact isTrue_not (ha aA s σ H (λc H1=>Q (!c) H1) I h)
def uY(ta tb:TE):TE:=λσ H Q=>ta σ H λx H1=>∃c,x=.bl c/\if c=true then tb σ H1 Q else Q (.bl false) H1
def tOrV(ta tb:TE):TE:=λσ H Q=>ta σ H λx H1=>∃c,x=.bl c/\if c=true then Q (.bl true) H1 else tb σ H1 Q
def uZ(ta:TE):TE:=λσ H Q=>ta σ H λx H1=>∃c,x=.bl c/\Q (.bl (!c)) H1
def aC0{op}{t:TE}(h:PE X a t):PE X (.BoolOp op [a] pos) t:=λaA s σ H Q I hw=>BoolOp_one (h aA s σ H Q I hw)
def aC1(ha:PE X a ta)(hb:PE X (.BoolOp .And (b::rest) pos) tb):PE X (.BoolOp .And (a::b::rest) pos) (uY ta tb):=by
 intro aA s σ H Q I h;refine BoolOp_and (thn (ha aA s σ H _ I h) λv s1 ⟨x,H1,I1,r1,q1⟩=>?_);obtain⟨c,rfl,q1⟩:=q1;cases r1;refine aQ6 ?_;cases c with
 |true=>exact hb aA s1 σ H1 Q I1 q1
 |false=>exact⟨.bl false,H1,I1,rfl,q1⟩
def pe_or(ha:PE X a ta)(hb:PE X (.BoolOp .Or (b::rest) pos) tb):PE X (.BoolOp .Or (a::b::rest) pos) (tOrV ta tb):=by
 intro aA s σ H Q I h;refine BoolOp_or (thn (ha aA s σ H _ I h) λv s1 ⟨x,H1,I1,r1,q1⟩=>?_);obtain⟨c,rfl,q1⟩:=q1;cases r1;refine aQ6 ?_;cases c with
 |false=>exact hb aA s1 σ H1 Q I1 q1
 |true=>exact⟨.bl true,H1,I1,rfl,q1⟩
def aC2(ha:PE X a ta):PE X (.UnaryOp .Not a pos) (uZ ta):=by intro aA s σ H Q I h;refine UnaryOp_ (thn (ha aA s σ H _ I h) λv s1 ⟨x,H1,I1,r1,q1⟩=>?_);obtain⟨c,rfl,q1⟩:=q1;cases r1;exact not_of (aQ6 ⟨.bl (!c),H1,I1,rfl,q1⟩)
end
def SqL(K:Fg)(H:Hp)(a:Addr)(xs:List V):Prop :=
 Rd H a (.lst xs) \/
  ∃(o:Obj) (its:Array aW2) (n:Nat),K.lookup a=some o/\o.cls=.type "list" /\ o.dict=none/\o.data=.seq its n/\its.size<=sizeLine/\aH xs its.toList
def SqT(K:Fg)(H:Hp)(a:Addr)(xs:List V):Prop :=
 Rd H a (.tup xs) \/
  ∃(o:Obj) (its:Array aW2) (n:Nat),K.lookup a=some o/\o.cls=.type "tuple" /\ o.dict=none/\o.data=.seq its n/\its.size<=sizeLine/\aH xs its.toList
def absV:aW2->Option V
 |.none=>some .non
 |.bool b=>some (.bl b)
 |.int i _=>some (.int i)
 |.str x _=>some (.str x)
 |.bytes b _=>some (.byt b)
 |.float b _=>some (.flt b)
 |.ref a=>some (.ref a)
 |.type n=>some (.ty n)
 |_=>none
def aJ.abs{x:V}(r:aJ x u):absV u=some x:=by
 cases x with
 |non=>cases r;rfl
 |bl _=>cases r;rfl
 |int _=>obtain⟨t,rfl⟩:=r;rfl
 |str _=>obtain⟨t,rfl⟩:=r;rfl
 |byt _=>obtain⟨t,rfl⟩:=r;rfl
 |flt _=>obtain⟨t,rfl⟩:=r;rfl
 |ref _=>cases r;rfl
 |ty _=>cases r;rfl
def aJ.inj{x y:V}(r:aJ x u)(q:aJ y u):x=y:=aQO (r.abs.symm.trans q.abs)
theorem aH.inj:∀{xs ys:List V}{us:List aW2},aH xs us->aH ys us->xs=ys
 |_,_,_,.nil,.nil=>rfl
 |_,_,_,.cons r t,.cons r' t'=>by rw[r.inj r',aH.inj t t']
section
variable {σ:St}{a:Addr}{xs ys:List V}
def SqL.of(h:H a=some (.lst xs)):SqL K H a xs:=.inl (.inl h)
def SqT.of(h:H a=some (.tup xs)):SqT K H a xs:=.inl (.inl h)
theorem Inv.list(I:Inv X aA σ H s)(h:SqL X.K H a xs):∃its:List aW2,aH xs its/\PlainL s.heap a its.toArray/\xs.length<=sizeLine:=by
 rcases h with h|⟨o,its,n,hk,hc,hd,hs,hz,r⟩
 . obtain⟨z,its,n,r,e⟩:=h.ok I.hok;exact⟨its,r,⟨_,n,e,rfl,rfl,rfl⟩,z⟩
 . refine⟨its.toList,r,⟨o,n,I.kIn a o hk,hc,hd,by simpa using hs⟩,?_⟩
   have e:=r.length;simp only[aQ7]at e;lia
theorem Inv.tuple(I:Inv X aA σ H s)(h:SqT X.K H a xs):∃its:List aW2,aH xs its/\IsTup s.heap a its.toArray/\xs.length<=sizeLine:=by
 rcases h with h|⟨o,its,n,hk,hc,hdt,hs,hz,r⟩
 . obtain⟨z,its,r,p⟩:=h.ok I.hok;exact⟨its,r,p.isTup,z⟩
 . refine⟨its.toList,r,⟨o,I.kIn a o hk,hc,n,by simpa using hs⟩,?_⟩
   have e:=r.length;simp only[aQ7]at e;lia
def Inv.list_inj(I:Inv X aA σ H s)(h:SqL X.K H a xs)(h':SqL X.K H a ys):xs=ys:=by
 obtain⟨its,r,⟨o,n,e,_,_,d⟩,_⟩:=I.list h;obtain⟨its',r',⟨o',n',e',_,_,d'⟩,_⟩:=I.list h';rw[e]at e';cases e';rw[d]at d';injection d' with d1 _
 have:its=its':=by simpa using congrArg Array.toList d1
 subst this;exact r.inj r'
def Inv.tuple_inj(I:Inv X aA σ H s)(h:SqT X.K H a xs)(h':SqT X.K H a ys):xs=ys:=by
 obtain⟨its,r,⟨o,e,_,n,d⟩,_⟩:=I.tuple h;obtain⟨its',r',⟨o',e',_,n',d'⟩,_⟩:=I.tuple h';rw[e]at e';cases e';rw[d]at d';injection d' with d1 _
 have:its=its':=by simpa using congrArg Array.toList d1
 subst this;exact r.inj r'
end
abbrev Cx.wish(X:Cx)(E:VSP):Cx:={X with xe:=E}
section
variable {σ:St}{E:VSP}
end
section
variable {rest:List Stmt}{t u:TS}
def tNext:TS:=λD σ H=>D.nx σ H
def tSeq(t u:TS):TS:=λD σ H=>t {D with nx:=u D} σ H
def aC3:PSs X [] tNext:=λ_ _ σ H _ I h=>aQ8 ⟨σ,H,I,h⟩
def iJ(h1:PS X st t)(h2:PSs X rest u):PSs X (st::rest) (tSeq t u):=by
 intro aA s σ H D I h;refine wpAny_execs_cons (thn (h1 aA s σ H {D with nx:=u D} I h) λf s1 q=>?_)
 cases f with
 |next=>obtain⟨σ',H',I',q⟩:=q;exact h2 aA s1 σ' H' D I' q
 |ret v=>exact q
 |brk=>exact q
 |cont=>exact q
def nF(h1:PS X st t):PSs X [st] t:=by
 intro aA s σ H D I h;refine wpAny_execs_cons (thn (h1 aA s σ H D I h) λf s1 q=>?_);cases f with
 |next=>exact aQ8 q
 |ret v=>exact q
 |brk=>exact q
 |cont=>exact q
def Inv.quiet{σ:St}(I:Inv X aA σ H s):interactive X.env=false:=by simp[interactive,I.ok.kind]
def pW(te:TE):TS:=λD σ H=>te σ H λ_ H1=>D.nx σ H1
def k5(he:PE X e te)(hs:swapsWith e none pos.line X.env=pure false:=by rfl):PS X (.Expr e pos) (pW te):=by intro aA s σ H D I h;exact wpAny_Expr_any (thn (he aA s σ H _ I h) λv s1 ⟨x,H1,I1,r1,q1⟩=>⟨σ,H1,I1,q1⟩) I.quiet hs
def tRet(te:TE):TS:=λD σ H=>te σ H D.rt
def nG(he:PE X e te):PS X (.Return (some e) pos) (tRet te):=by intro aA s σ H D I h;exact wpAny_Return_some (thn (he aA s σ H _ I h) λv s1 ⟨x,H1,I1,r1,q1⟩=>⟨x,σ,H1,I1,r1,q1⟩)
def tIfS(c:TT)(t u:TS):TS:=λD σ H=>c σ H λb H1=>if b=true then t D σ H1 else u D σ H1
def ps_if{a b:List Stmt}{tc:TT}(hc:PT X c tc)(ha:PSs X a t)(hb:PSs X b u):PS X (.If c a b pos) (tIfS tc t u):=by
 intro aA s σ H D I h;refine wpAny_If (thn (hc aA s σ H _ I h) λd s1 ⟨H1,I1,q1⟩=>?_);cases d with
 |true=>exact ha aA s1 σ H1 D I1 q1
 |false=>exact hb aA s1 σ H1 D I1 q1
end
abbrev TG:=V->St->Hp->(St->Hp->Prop)->Prop
abbrev TGs:=List V->St->Hp->(St->Hp->Prop)->Prop
def PG(X:Cx)(target:Expr)(t:TG):Prop :=
 ∀(aA:LAO) (s:aW3) (σ:St) (H:Hp) (v:V) (u:aW2) (Q:St->Hp->Prop),Inv X aA σ H s->aJ v u->t v σ H Q ->
  wpAny (model X.prog X.w) X.A (assign target X.env u) (λ_ s'=>∃σ' H',Inv X aA σ' H' s'/\Q σ' H') X.xe s
def PGs(X:Cx)(ts:List Expr)(t:TGs):Prop :=
 ∀(aA:LAO) (s:aW3) (σ:St) (H:Hp) (vs:List V) (us:List aW2) (Q:St->Hp->Prop),Inv X aA σ H s->aH vs us->t vs σ H Q ->
  wpAny (model X.prog X.w) X.A (assignInOrder ((assignEach ts X.env).map (·.2)) us) (λ_ s'=>∃σ' H',Inv X aA σ' H' s'/\Q σ' H') X.xe s
def k6(i:Nat):TG:=λv σ H Q=>Q (σ.set i (some v)) H
def aC4(hN:X.N.Nodup)(hi:X.N[i]? = some x)(hx:Loc X.env.scope x)(hf:X.fn x=true\/X.env.scope.names.lookup x=some .local:=by first|exact .inl rfl|exact .inr rfl|assumption):PG X (.Name x pos) (k6 i):=by intro aA s σ H v u Q I r h;exact wpAny_assign_Name (uV I hN hi hx r (λs' I'=>⟨_,H,I',h⟩) hf)
def gNil:TGs:=λvs σ H Q=>vs=[]/\Q σ H
def u8(t:TG)(u:TGs):TGs:=λvs σ H Q=>∃v r,vs=v::r/\t v σ H λσ' H'=>u r σ' H' Q
def aC5:PGs X [] gNil:=by intro aA s σ H vs us Q I r h;obtain⟨e,h⟩:=h;subst e;cases r;exact assignInOrder_nil ⟨σ,H,I,h⟩
def aC6{es:List Expr}{t:TG}{u:TGs}(h1:PG X e t)(h2:PGs X es u)(hs:(assignEach (e::es) X.env).map (·.2)=assign e X.env::(assignEach es X.env).map (·.2):=by rfl):PGs X (e::es) (u8 t u):=by
 intro aA s σ H vs us Q I r h;obtain⟨v,vr,e1,h⟩:=h;subst e1;cases r with
 |cons r rr=>rw[hs];refine assignInOrder_cons (thn (h1 aA s σ H _ _ _ I r h) λ_ s1 ⟨σ1,H1,I1,q1⟩=>?_);exact h2 aA s1 σ1 H1 _ _ Q I1 rr q1
def gTup(K:Fg)(n:Nat)(t:TGs):TG:=λv σ H Q=>∃a xs,v=.ref a/\SqT K H a xs/\xs.length=n/\t xs σ H Q
def aC7{es:List Expr}{k:Nat}{t:TGs}(hc:X.calm=true)(h:PGs X es t)(hn:(assignEach es X.env).length=n:=by rfl)(hst:(assignEach es X.env).findIdx? (·.1)=none:=by rfl):PG X (.Tuple es k pos) (gTup X.K n t):=by
 intro aA s σ H v u Q I r hw;obtain⟨a,xs,e1,hq,hl,hw⟩:=hw;subst e1;cases r;obtain⟨its,rv,ht,hz⟩:=I.tuple hq;refine assign_Tuple_tuple (I.ok.hd hc) ht (by simp[hn,<- hl,rv.length]) hst λh' hx=>?_
 have I1:Inv X aA σ H {s with heap:=h'}:=I.kept (t':=s.toks) λb o e=>hx b o (aQT (aQQ e)) e
 exact h aA _ σ H xs _ Q I1 (by simpa using rv) hw
def nH(te:TE)(g:TG):TS:=λD σ H=>te σ H λx H1=>g x σ H1 D.nx
def nI(hN:X.N.Nodup)(hi:X.N[i]? = some x)(hx:Loc X.env.scope x)(he:PE X e te)(hs:swapsWith e (some (.Name x pos')) pos.line X.env=pure false:=by rfl)(hf:X.fn x=true\/X.env.scope.names.lookup x=some .local:=by first|exact .inl rfl|exact .inr rfl|assumption):PS X (.Assign [.Name x pos'] e pos) (nH te (k6 i)):=by intro aA s σ H D I h;refine wpAny_Assign_Name (thn (he aA s σ H _ I h) λv s1 ⟨y,H1,I1,r1,q1⟩=>?_) hs;exact uV I1 hN hi hx r1 (λs2 I2=>⟨_,H1,I2,q1⟩) hf
def aC8(c:TT)(tb:TS):TS:=λD σ H=>∃W:Nat->St->Hp->Prop,(∃m,W m σ H)/\∀m σ H,W m σ H ->
 c σ H λb H1=>if b=true then ∃N:St->Hp->Prop,(∀σ' H',N σ' H'->∃m',m'<m/\W m' σ' H')/\tb {D with nx:=N,ct:=N,bk:=D.nx} σ H1 else D.nx σ H1
def aC9{tc:TT}{tb:TS}(hp:PassesOwn (model X.prog X.w) X.A X.env X.xe)(hc:PT X c tc)(hb:PSs X body tb):PS X (.While c body [] pos) (aC8 tc tb):=by
 intro aA s σ H D I h;obtain⟨W,⟨m0,w0⟩,turn⟩:=h;refine wpAny_While (codeAny_whileLoop (λn s'=>∃σ' H',Inv X aA σ' H' s'/\W n σ' H') ?_ m0 ⟨σ,H,I,w0⟩);rintro n s1 ⟨σ1,H1,I1,w1⟩;refine aQ9 hp (thn (hc aA s1 σ1 H1 _ I1 (turn n σ1 H1 w1)) λb s2 ⟨H2,I2,q2⟩=>?_);cases b with
 |true =>
  obtain⟨N,hN,q2⟩:=q2;rw[if_pos rfl];refine aQ9 hp (thn (hb aA s2 σ1 H2 _ I2 q2) λf s3 q3=>?_);cases f with
  |next=>obtain⟨σ3,H3,I3,n3⟩:=q3;obtain⟨m',hm,w3⟩:=hN σ3 H3 n3;exact⟨m',hm,σ3,H3,I3,w3⟩
  |cont=>obtain⟨σ3,H3,I3,n3⟩:=q3;obtain⟨m',hm,w3⟩:=hN σ3 H3 n3;exact⟨m',hm,σ3,H3,I3,w3⟩
  |brk=>exact q3
  |ret v=>exact q3
 |false=>rw[if_neg aRA];exact aQ8 ⟨σ1,H2,I2,q2⟩
structure It where
 go:Nat->Hp->Prop
 yld:Nat->Hp->V->Hp->Prop
 stop:Nat->Hp->Prop
def g9(X:Cx)(aA:LAO)(H:Hp)(b:Addr):Prop :=
 H b=none/\b≠X.env.locals/\b∉X.fs/\(b∈X.ex\/X.s₀.heap.objs.size<=b)/\(∀x c,X.env.cells.lookup x=some c->c≠b)/\∀p∈X.pn++aA,p.1≠b
def Inv.fpOk{σ:St}(I:Inv X aA σ H s)(hb:s.heap.objs.size<=b)(hn:H' b=none):g9 X aA H' b:=by
 refine⟨hn,aRB (aQR I.lt hb),I.nofs hb,.inr (aQW I.sz hb),λx c e z=>?_,λp hp z=>?_⟩
 . obtain⟨v,q⟩:=I.cell x c e;exact absurd (aQR q.lt (by rw[z];exact hb)) (aQS _)
 . exact absurd (aQR (aQQ (I.pin p hp).1) (by rw[z];exact hb)) (aQS _)
structure jJ(P:aW6)(w:aW5)(K:Fg)(tg:Expr)(J:It)(fp:List Addr)(it:Addr)(tn:Nat->Heap->Prop):Prop where
 mem:it∈fp
 obj:∀i h,tn i h->∀b∈fp,∃o,h.get? b=some o/\∀v,o.data ≠ .cell v
 keep:∀i h h',tn i h->(∀b∈fp,∀o,h.get? b=some o->h'.get? b=some o)->tn i h'
 item:∀(X:Cx),X.prog=P->X.w=w->X.K=K->X.calm=true->∀(i:Nat) (aA:LAO) (s:aW3) (σ:St) (H:Hp) (E:VSP),Inv X aA σ H s->(∀b∈fp,g9 X aA H b)->tn i s.heap->J.go i H ->
  wpAny (model P w) X.A (pyNext (.ref it)) (λr s1=>∃u,r=some u /\
   wpAny (model P w) X.A (letOwnedTupleGo tg (.ref it) u) (λ_ s2=>∃x H',Inv X aA σ H' s2/\aJ x u/\J.yld i H x H'/\tn (i+1) s2.heap/\∀b∈fp,H' b=none) E s1) E s
 done:∀(X:Cx),X.prog=P->X.w=w->X.K=K->X.calm=true->∀(i:Nat) (aA:LAO) (s:aW3) (σ:St) (H:Hp) (E:VSP),Inv X aA σ H s->(∀b∈fp,g9 X aA H b)->tn i s.heap->J.stop i H ->
  wpAny (model P w) X.A (pyNext (.ref it)) (λr s1=>r=none/\Inv X aA σ H s1) E s
 self:∀(A:aW4) (i:Nat) (s:aW3) (Q:VSP) (E:VSP),tn i s.heap->Q (.ref it) s->wpAny (model P w) A (pyIter (.ref it)) Q E s
abbrev TI:=St->Hp->(It->Hp->Prop)->Prop
def PIE(X:Cx)(aA:LAO)(σ:St)(tg:Expr)(R:It->Hp->Prop)(itv:aW2)(s2:aW3):Prop :=
 ∃(it:Addr) (fp:List Addr) (tn:Nat->Heap->Prop) (J:It) (H':Hp),itv=.ref it/\Inv X aA σ H' s2/\jJ X.prog X.w X.K tg J fp it tn/\tn 0 s2.heap/\(∀b∈fp,g9 X aA H' b)/\R J H'
def PI(X:Cx)(tg aT:Expr)(wi:TI):Prop :=
 ∀(aA:LAO) (s:aW3) (σ:St) (H:Hp) (R:It->Hp->Prop),Inv X aA σ H s->wi σ H R ->
  wpAny (model X.prog X.w) X.A (eval aT X.env) (λv s1=>wpAny (model X.prog X.w) X.A (pyIter v) (PIE X aA σ tg R) X.xe s1) X.xe s
def k7{M:Model}{A:aW4}{E:VSP}{o:Obj}{n:String}{vs:Array aW2}{Q:Unit->aW3->Prop}(ho:s.heap.get? it=some o)(hc:o.cls=.type n)(hd:o.data=.fields vs)(hn:["enumerate", "zip", "dict_itemiterator", "dict_reverseitemiterator", "odict_iterator", "itertools.zip_longest", "itertools.pairwise"].contains n=false)(hQ:Q () s):wpAny M A (letOwnedTupleGo tg (.ref it) u) Q E s:=by
 unfold letOwnedTupleGo;cases tg <;> first
  |exact aRC hQ
  | (cases u <;> first
      |exact aRC hQ
      | (refine aRD (aRE ho ?_)
         rw[hc,hd];show wpAny M A (if(["enumerate", "zip", "dict_itemiterator", "dict_reverseitemiterator", "odict_iterator", "itertools.zip_longest", "itertools.pairwise"].contains n&&vs[0]?==some (rawInt _))=true then _ else _) Q E s;rw[if_neg (by intro h;rw[hn,Bool.false_and]at h;cases h)]
         exact aRC hQ))
def Itl(K:Fg)(a:Addr):It :=
 ⟨λi H=>∃xs x,SqL K H a xs/\xs[i]? = some x,λi H x H'=>H'=H/\∀xs,SqL K H a xs->xs[i]? = some x,λi H=>∃xs,SqL K H a xs/\xs.length<=i⟩
def Itt(K:Fg)(a:Addr):It :=
 ⟨λi H=>∃xs x,SqT K H a xs/\xs[i]? = some x,λi H x H'=>H'=H/\∀xs,SqT K H a xs->xs[i]? = some x,λi H=>∃xs,SqT K H a xs/\xs.length<=i⟩
def Itr(lo:Int)(n:Nat):It:=⟨λi _=>i<n,λi H x H'=>H'=H/\x=.int (lo+i),λi _=>n<=i⟩
end L2
variable {wi:L2.TI}
namespace L2
theorem aDA(a it:Addr):jJ P w K tg (Itl K a) [it] it (λi h=>h.IsListIter it a i) where
 mem:=by simp
 obj:=λi h st b hb=>by
  have e:b=it:=by simpa using hb
  subst e;obtain⟨o,e,c,d⟩:=st;exact⟨o,e,λv z=>by rw[d]at z;cases z⟩
 keep:=λi h h' st k=>st.at λo e=>k it (by simp) o e
 item:=by
  intro X hP hw hK hc i aA s σ H E I hf st hg;subst hP hw hK;obtain⟨xs,x,hq,hx⟩:=hg;obtain⟨its,rv,p,hz⟩:=I.list hq;obtain⟨u,hu,ru⟩:=rv.get hx;obtain⟨f0,f1,f2,f3,f4,f5⟩:=hf it (by simp)
  refine wpAny_pyNext_list_item st p.isList (x:=u) (by simpa using hu) λh' st' sb=>?_
  have I1:Inv X aA σ H {s with heap:=h'}:=I.turned (t':=s.toks) (λb o hb e=>(sb.2 b hb).trans e) f0 f1 f3 f4 f5
  obtain⟨o,e,c,d⟩:=id st';exact⟨u,rfl,k7 (s:={s with heap:=h'}) e c d (by decide) ⟨x,H,I1,ru,⟨rfl,λys hy=>by rw[I.list_inj hy hq];exact hx⟩,st',λb hb=>(hf b hb).1⟩⟩
 done:=by
  intro X hP hw hK hc i aA s σ H E I hf st hg;subst hP hw hK;obtain⟨xs,hq,hx⟩:=hg;obtain⟨its,rv,p,hz⟩:=I.list hq;obtain⟨f0,f1,f2,f3,f4,f5⟩:=hf it (by simp)
  have hl:=rv.length;exact wpAny_pyNext_list_end (I.ok.hd hc) st p.isList (by simp;lia) λh' eb=>⟨rfl,I.turned (t':=s.toks) (λb o hb e=>eb b o hb e) f0 f1 f3 f4 f5⟩
 self:=λ_ _ _ _ _ st h=>wpAny_pyIter_listiter st h
theorem aDB(a it:Addr):jJ P w K tg (Itt K a) [it] it (λi h=>h.IsTupleIter it a i) where
 mem:=by simp
 obj:=λi h st b hb=>by
  have e:b=it:=by simpa using hb
  subst e;obtain⟨o,e,c,d⟩:=st;exact⟨o,e,λv z=>by rw[d]at z;cases z⟩
 keep:=λi h h' st k=>st.at λo e=>k it (by simp) o e
 item:=by
  intro X hP hw hK hc i aA s σ H E I hf st hg;subst hP hw hK;obtain⟨xs,x,hq,hx⟩:=hg;obtain⟨its,rv,p,hz⟩:=I.tuple hq;obtain⟨u,hu,ru⟩:=rv.get hx;obtain⟨f0,f1,f2,f3,f4,f5⟩:=hf it (by simp)
  refine wpAny_pyNext_tuple_item st (show s.heap.IsTuple a its.toArray from p) (x:=u) (by simpa using hu) λh' st' sb=>?_
  have I1:Inv X aA σ H {s with heap:=h'}:=I.turned (t':=s.toks) (λb o hb e=>(sb.2 b hb).trans e) f0 f1 f3 f4 f5
  obtain⟨o,e,c,d⟩:=id st';exact⟨u,rfl,k7 (s:={s with heap:=h'}) e c d (by decide) ⟨x,H,I1,ru,⟨rfl,λys hy=>by rw[I.tuple_inj hy hq];exact hx⟩,st',λb hb=>(hf b hb).1⟩⟩
 done:=by
  intro X hP hw hK hc i aA s σ H E I hf st hg;subst hP hw hK;obtain⟨xs,hq,hx⟩:=hg;obtain⟨its,rv,p,hz⟩:=I.tuple hq;obtain⟨f0,f1,f2,f3,f4,f5⟩:=hf it (by simp)
  have hl:=rv.length;exact wpAny_pyNext_tuple_end (I.ok.hd hc) st (show s.heap.IsTuple a its.toArray from p) (by simp;lia) λh' eb=>⟨rfl,I.turned (t':=s.toks) (λb o hb e=>eb b o hb e) f0 f1 f3 f4 f5⟩
 self:=λ_ _ _ _ _ st h=>wpAny_pyIter_tupleiter st h
theorem aDC(it:Addr)(lo:Int)(n:Nat):jJ P w K tg (Itr lo n) [it] it (λi h=>IsRangeIter h it (lo+(i:Nat) * 1) ((n:Int)-(i:Nat)) 1) where
 mem:=by simp
 obj:=λi h st b hb=>by
  have e:b=it:=by simpa using hb
  subst e;exact⟨_,st,λv z=>by
   have z':Data.fields _=Data.cell v:=z;cases z'⟩
 keep:=λi h h' st k=>k it (by simp) _ st
 item:=by
  intro X hP hw hK hc i aA s σ H E I hf st hg;subst hP hw hK;obtain⟨f0,f1,f2,f3,f4,f5⟩:=hf it (by simp)
  have W:=Walks.range (prog:=X.prog) (w:=X.w) (I.ok.hd hc) it lo 1 n;refine W.item i s _ _ hg st λv h' tk hv st' kk=>?_;obtain⟨t,rfl⟩:=hv;have I1:Inv X aA σ H {s with heap:=h',toks:=tk}:=I.turned (λb o hb e=>kk b o (by simpa using hb) e) f0 f1 f3 f4 f5
  refine⟨_,rfl,k7 (s:={s with heap:=h',toks:=tk}) (n := "range_iterator") st' rfl rfl (by decide) ⟨.int (lo+i),H,I1,⟨t,?_⟩,⟨rfl,rfl⟩,st',λb hb=>(hf b hb).1⟩⟩
  rw[Int.mul_one]
 done:=by
  intro X hP hw hK hc i aA s σ H E I hf st hg;subst hP hw hK;obtain⟨f0,f1,f2,f3,f4,f5⟩:=hf it (by simp)
  exact wpAny_pyNext_range_end (I.ok.hd hc) st (by have:n<=i:=hg;lia) λh' eb=>⟨rfl,I.turned (t':=s.toks) (λb o hb e=>eb b o hb e) f0 f1 f3 f4 f5⟩
 self:=λ_ _ _ _ _ st h=>wpAny_pyIter_rangeiter st h
def pX(K:Fg)(tl:TE):TI:=λσ H R=>tl σ H λx H1=>∃a,x=.ref a/\(∃xs,SqL K H1 a xs)/\R (Itl K a) H1
def iTup(K:Fg)(tl:TE):TI:=λσ H R=>tl σ H λx H1=>∃a,x=.ref a/\(∃xs,SqT K H1 a xs)/\R (Itt K a) H1
def aDD{l:Expr}(hl:PE X l tl):PI X tg l (pX X.K tl):=by
 intro aA s σ H R I h;refine thn (hl aA s σ H _ I h) λv s1 ⟨x,H1,I1,r1,q1⟩=>?_;obtain⟨a,e,⟨xs,hq⟩,q⟩:=q1;subst e;cases r1;obtain⟨its,rv,p,hz⟩:=I1.list hq;refine aRF p.isList ?_;refine⟨s1.heap.objs.size,[s1.heap.objs.size],_,_,H1,rfl,I1.kept (t':=s1.toks) λb o e=>hps e,aDA a _,⟨_,aQP _ rfl,rfl,rfl⟩,λb hb=>?_,q⟩;have e:b=s1.heap.objs.size:=by simpa using hb
 subst e;exact I1.fpOk (aRG _) (I1.hok.fresh (aRG _))
def aDE{l:Expr}(hl:PE X l tl):PI X tg l (iTup X.K tl):=by
 intro aA s σ H R I h;refine thn (hl aA s σ H _ I h) λv s1 ⟨x,H1,I1,r1,q1⟩=>?_;obtain⟨a,e,⟨xs,hq⟩,q⟩:=q1;subst e;cases r1;obtain⟨its,rv,p,hz⟩:=I1.tuple hq;refine wpAny_pyIter_tuple (show s1.heap.IsTuple a its.toArray from p) ?_
 refine⟨s1.heap.objs.size,[s1.heap.objs.size],_,_,H1,rfl,I1.kept (t':=s1.toks) λb o e=>hps e,aDB a _,⟨_,aQP _ rfl,rfl,rfl⟩,λb hb=>?_,q⟩;have e:b=s1.heap.objs.size:=by simpa using hb
 subst e;exact I1.fpOk (aRG _) (I1.hok.fresh (aRG _))
theorem aDF{σ:St}{R:It->Hp->Prop}{E:VSP}{lo hi:Int}{t u v:Tok}{tk:Nat}(I:Inv X aA σ H s)(h1:-(2 ^ 62)<=lo)(h2:lo<2 ^ 62)(h3:-(2 ^ 62)<=hi)(h4:hi<2 ^ 62)(q:R (Itr lo (hi-lo).toNat) H):wpAny (model X.prog X.w) X.A (pyIter (.ref s.heap.objs.size)) (PIE X aA σ tg R) E { s with heap:=s.heap.push { cls:=.type "range", data:=.fields #[.int lo t,.int hi u,.int 1 v] },toks:=tk }:=by
 refine wpAny_pyIter_range (IsRange.new ..) (small_one h1 h2 h3 h4) ?_;have I1:Inv X aA σ H { s with heap:=s.heap.push { cls:=.type "range", data:=.fields #[.int lo t,.int hi u,.int 1 v] },toks:=tk }:=I.kept λb o e=>hps e
 refine⟨(s.heap.push { cls:=.type "range", data:=.fields #[.int lo t,.int hi u,.int 1 v] }).objs.size,[(s.heap.push { cls:=.type "range", data:=.fields #[.int lo t,.int hi u,.int 1 v] }).objs.size],_,_,H,rfl,
  I1.kept (t':=tk) λb o e=>hps e,aDC _ lo (hi-lo).toNat,?_,λb hb=>?_,q⟩
 . have e1:lo+((0:Nat):Int) * 1=lo:=by simp
   have e2:(((hi-lo).toNat:Nat):Int)-((0:Nat):Int)=Builtin.Range.rangeSize lo hi 1:=by rw[rangeSize_one];split <;> lia
   show IsRangeIter _ _ (lo+((0:Nat):Int) * 1) ((((hi-lo).toNat:Nat):Int)-((0:Nat):Int)) 1;rw[e1,e2];exact aQP _ rfl
 . have e:b=(s.heap.push { cls:=.type "range", data:=.fields #[.int lo t,.int hi u,.int 1 v] }).objs.size:=by simpa using hb
   subst e;exact I1.fpOk (aRG _) (I1.hok.fresh (aRG _))
def u9(ta:TA):TI:=λσ H R=>ta σ H λvs H1=>∃j:Int,vs=[.int j] /\ -(2 ^ 62)<=j/\j<2 ^ 62/\R (Itr 0 j.toNat) H1
theorem aDG{a:Expr}{ta:TA}(hg:Gl X "range")(hm:X.mg "range" = none)(ha:PA X [a] ta)(hs:starEach [a] X.env=[(false,eval a X.env)]:=by rfl):PI X tg (.Call (.Name "range" p) [a] [] pos) (u9 ta):=by
 intro aA s σ H R I h;refine Call_ (k4 I hg hm boot_range (aRH (thn (ha pos aA s σ H _ I h) λus s1 ⟨vs,H1,I1,r1,q1⟩=>?_) hs rfl));obtain⟨j,e,q1,q2,q⟩:=q1;subst e;cases r1 with
 |cons r rr=>cases rr;obtain⟨t,rfl⟩:=r;exact call_range_1 (aDF I1 (by lia) (by lia) q1 q2 (by simpa using q))
def nJ(wi:TI)(g:TG)(tb:TS):TS:=λD σ H=>wi σ H λJ H1=>∃W:Nat->Nat->St->Hp->Prop,(∃m,W 0 m σ H1)/\∀i m σ H,W i m σ H ->
 (J.stop i H/\D.nx σ H)\/(J.go i H/\∃N:St->Hp->Prop,(∀σ' H',N σ' H'->∃m',m'<m/\W (i+1) m' σ' H')/\∀x H',J.yld i H x H'->g x σ H' λσ2 H2=>tb {D with nx:=N,ct:=N,bk:=D.nx} σ2 H2)
def k8(fp:List Addr)(h:Heap):LAO:=fp.filterMap λb=>(h.get? b).map λo=>(b,o)
def pY{o:Obj}(hb:b∈fp)(e:h.get? b=some o):(b,o)∈k8 fp h:=aRI.mpr ⟨b,hb,by rw[e];rfl⟩
def aDH{p:Addr×Obj}(hp:p∈k8 fp h):p.1∈fp/\h.get? p.1=some p.2:=by
 obtain⟨b,hb,e⟩:=aRI.mp hp;cases q:h.get? b with
 |none=>rw[q]at e;cases e
 |some o=>rw[q]at e;have e':(b,o)=p:=aQO e;subst e';exact⟨hb,q⟩
def Inv.pinned{σ:St}(I:Inv X aA σ H s)(hf:∀b∈fp,g9 X aA H b)(ho:∀b∈fp,∃o,s.heap.get? b=some o/\∀v,o.data ≠ .cell v):Inv X (aA++k8 fp s.heap) σ H s :=
 I.pins_of λp hp=>(aQ0.mp hp).elim (λz=>I.pin p (aRJ _ z)) λz=>by obtain⟨hb,e⟩:=aDH z;obtain⟨f0,f1,f2,_⟩:=hf p.1 hb;obtain⟨o,e',d⟩:=ho p.1 hb;rw[e]at e';cases e';exact⟨e,f0,f1,f2,d⟩
def Inv.unpinned{pl:LAO}{σ:St}(I:Inv X (aA++pl) σ H s):Inv X aA σ H s:=I.pins_of λp hp=>I.pin p (aRJ _ (aQ1 _ hp))
def pZ{g:TG}{tb:TS}(hp:PassesOwn (model X.prog X.w) X.A X.env X.xe)(hc:X.calm=true)(hi:PI X tg aT wi)(hg:PG X tg g)(hb:PSs X body tb)(hs:∀x,foldedSetIterable aT X.env x=pure x:=by intro _;rfl):PS X (.For tg aT body [] pos) (nJ wi g tb):=by
 intro aA s σ H D I h;refine wpAny_For (thn (hi aA s σ H _ I h) λv s1 h1=>thn h1 λitv s2 h2=>?_) hs;obtain⟨it,fp,tn,J,H2,e,I2,T,st2,f2,W,⟨m0,w0⟩,turn⟩:=h2;subst e;have stat:∀{H':Hp},(∀b∈fp,H' b=none)->∀b∈fp,g9 X aA H' b:=λhn b hb=>⟨hn b hb,(f2 b hb).2⟩;refine codeAny_forLoop_any (λn s'=>∃i σ' H',Inv X aA σ' H' s'/\tn i s'.heap/\(∀b∈fp,H' b=none)/\W i n σ' H') ?_ m0 ⟨0,σ,H2,I2,st2,λb hb=>(f2 b hb).1,w0⟩;rintro n s3 ⟨i,σ3,H3,I3,st3,fr3,w3⟩;rcases turn i n σ3 H3 w3 with⟨stop,qn⟩|⟨go,N,hN,step⟩
 . refine aQ9 hp (thn (T.done X rfl rfl rfl hc i aA s3 σ3 H3 X.xe I3 (stat fr3) st3 stop) λr s4 ⟨hr,I4⟩=>?_);subst hr;exact aQ8 ⟨σ3,H3,I4,qn⟩
 . refine aQ9 hp (thn (T.item X rfl rfl rfl hc i aA s3 σ3 H3 X.xe I3 (stat fr3) st3 go) λr s4 ⟨u,hr,h4⟩=>?_);subst hr;refine aQ9 hp (thn h4 λ_ s5 ⟨x,H5,I5,r5,y5,st5,fr5⟩=>?_);have I5':=I5.pinned (stat fr5) (T.obj _ _ st5);refine aQ9 hp (thn (hg _ s5 σ3 H5 x u _ I5' r5 (step x H5 y5)) λ_ s6 ⟨σ6,H6,I6,q6⟩=>?_);refine aQ9 hp (thn (hb _ s6 σ6 H6 _ I6 q6) λf s7 q7=>?_);have again:∀{σ7:St}{H7:Hp},Inv X (aA++k8 fp s5.heap) σ7 H7 s7->N σ7 H7->∃m,m<n/\∃i σ' H',Inv X aA σ' H' s7/\tn i s7.heap/\(∀b∈fp,H' b=none)/\W i m σ' H':=λ{σ7 H7} I7 n7=>by obtain⟨m',hm,w7⟩:=hN σ7 H7 n7;refine⟨m',hm,i+1,σ7,H7,I7.unpinned,T.keep _ _ _ st5 λb hb o e=>(I7.pin (b,o) (aRJ _ (aRJ _ (pY hb e)))).1,λb hb=>?_,w7⟩;obtain⟨o,e,d⟩:=T.obj _ _ st5 b hb;exact(I7.pin (b,o) (aRJ _ (aRJ _ (pY hb e)))).2.1
   cases f with
   |next=>obtain⟨σ7,H7,I7,n7⟩:=q7;exact again I7 n7
   |cont=>obtain⟨σ7,H7,I7,n7⟩:=q7;exact again I7 n7
   |brk=>obtain⟨σ7,H7,I7,q7⟩:=q7;exact⟨σ7,H7,I7.unpinned,q7⟩
   |ret v=>obtain⟨x7,σ7,H7,I7,r7,q7⟩:=q7;exact⟨x7,σ7,H7,I7.unpinned,r7,q7⟩
abbrev R2:=V->V->Hp->VK->Prop
def OpR(X:Cx)(f:aW2->aW2->Sem aW2)(r:R2):Prop :=
 ∀(aA:LAO) (s:aW3) (σ:St) (H:Hp) (x y:V) (v u:aW2) (Q:VK),Inv X aA σ H s->aJ x v->aJ y u->r x y H Q ->
  wpAny (model X.prog X.w) X.A (f v u) (EP X aA σ Q) X.xe s
def bY(X:Cx)(f:aW2)(r:List V->Hp->VK->Prop):Prop :=
 ∀(aA:LAO) (s:aW3) (σ:St) (H:Hp) (xs:List V) (us:List aW2) (Q:VK),Inv X aA σ H s->aH xs us->r xs H Q ->
  wpAny (model X.prog X.w) X.A (call f us) (EP X aA σ Q) X.xe s
def TruR(X:Cx)(r:V->Hp->(Bool->Hp->Prop)->Prop):Prop :=
 ∀(aA:LAO) (s:aW3) (σ:St) (H:Hp) (x:V) (v:aW2) (Q:Bool->Hp->Prop),Inv X aA σ H s->aJ x v->r x H Q ->
  wpAny (model X.prog X.w) X.A (truthy v) (TP X aA σ Q) X.xe s
def tOp(r:R2)(ta tb:TE):TE:=λσ H Q=>ta σ H λx H1=>tb σ H1 λy H2=>r x y H2 Q
def rI(C:Int->Int->Prop)(g:Int->Int->V):R2:=λx y H Q=>∃i j,x=.int i/\y=.int j/\C i j/\Q (g i j) H
def rI0(g:Int->Int->V):R2:=λx y H Q=>∃i j,x=.int i/\y=.int j/\Q (g i j) H
section
variable  {a b:Expr}{tb tc:TE}
def qA(ha:PE X a ta)(hb:PE X b tb){σ:St}{R:V->V->Hp->Prop}(I:Inv X aA σ H s)(h:ta σ H λx H1=>tb σ H1 λy H2=>R x y H2){Q:VSP}{f:aW2->aW2->Sem aW2}(hf:∀v u s2 x y H2,Inv X aA σ H2 s2->aJ x v->aJ y u->R x y H2->wpAny (model X.prog X.w) X.A (f v u) Q X.xe s2):wpAny (model X.prog X.w) X.A (eval a X.env) (λv s₁=>wpAny (model X.prog X.w) X.A (eval b X.env) (λu s₂=>wpAny (model X.prog X.w) X.A (f v u) Q X.xe s₂) X.xe s₁) X.xe s:=by refine thn (ha aA s σ H _ I h) λv s1 ⟨x,H1,I1,r1,q1⟩=>?_;refine thn (hb aA s1 σ H1 _ I1 q1) λu s2 ⟨y,H2,I2,r2,q2⟩=>?_;exact hf v u s2 x y H2 I2 r1 r2 q2
def pe_op{op:Operator}{r:R2}(ho:OpR X (binaryOp op) r)(ha:PE X a ta)(hb:PE X b tb):PE X (.BinOp a op b pos) (tOp r ta tb):=by intro aA s σ H Q I h;exact wpAny_BinOp (qA ha hb I h λv u s2 x y H2 I2 rx ry q=>ho aA s2 σ H2 x y v u Q I2 rx ry q)
def opI{f:aW2->aW2->Sem aW2}{C:Int->Int->Prop}{g:Int->Int->Int}(rule:∀(i j:Int) (t u:Tok) (s:aW3) (Q:VSP) (E:VSP),C i j->Q (.int (g i j) s.toks) {s with toks:=s.toks+1} -> wpAny (model X.prog X.w) X.A (f (.int i t) (.int j u)) Q E s):OpR X f (rI C λi j=>.int (g i j)):=by intro aA s σ H x y v u Q I rx ry h;obtain⟨i,j,rfl,rfl,hc,q⟩:=h;obtain⟨t,rfl⟩:=rx;obtain⟨t',rfl⟩:=ry;exact rule i j t t' s _ _ hc ⟨.int (g i j),H,I.tok _,⟨_,rfl⟩,q⟩
def opI0{f:aW2->aW2->Sem aW2}{g:Int->Int->Int}(rule:∀(i j:Int) (t u:Tok) (s:aW3) (Q:VSP) (E:VSP),Q (.int (g i j) s.toks) {s with toks:=s.toks+1} -> wpAny (model X.prog X.w) X.A (f (.int i t) (.int j u)) Q E s):OpR X f (rI0 λi j=>.int (g i j)):=by intro aA s σ H x y v u Q I rx ry h;obtain⟨i,j,rfl,rfl,q⟩:=h;obtain⟨t,rfl⟩:=rx;obtain⟨t',rfl⟩:=ry;exact rule i j t t' s _ _ ⟨.int (g i j),H,I.tok _,⟨_,rfl⟩,q⟩
def nK{f:aW2->aW2->Sem aW2}{g:Int->Int->Bool}(rule:∀(i j:Int) (t u:Tok) (s:aW3) (Q:VSP) (E:VSP),Q (.bool (g i j)) s->wpAny (model X.prog X.w) X.A (f (.int i t) (.int j u)) Q E s):OpR X f (rI0 λi j=>.bl (g i j)):=by intro aA s σ H x y v u Q I rx ry h;obtain⟨i,j,rfl,rfl,q⟩:=h;obtain⟨t,rfl⟩:=rx;obtain⟨t',rfl⟩:=ry;exact rule i j t t' s _ _ ⟨.bl (g i j),H,I,rfl,q⟩
def CPow(i j:Int):Prop:=0<=j/\j<=1000000/\i.natAbs<2 ^ 64
def aDI:OpR X (binaryOp .Add) (rI0 λi j=>.int (i+j)):=opI0 λ_ _ _ _ _ _ _ q=>add_int q
def aDJ:OpR X (binaryOp .Sub) (rI0 λi j=>.int (i-j)):=opI0 λ_ _ _ _ _ _ _ q=>sub_int q
theorem aDK:OpR X (binaryOp .Mod) (rI (λ_ j=>0<j) λi j=>.int (i % j)):=opI λi j _ _ _ _ _ hc q=>by have h1:(0:Int)<j:=hc;exact mod_int' (by lia) (by rw[Int.fmod_eq_emod_of_nonneg i (by lia)];exact q)
def aDL:OpR X (binaryOp .Pow) (rI CPow λi j=>.int (i ^ j.toNat)):=opI λ_ _ _ _ _ _ _ hc q=>pow_int_small hc.1 hc.2.1 hc.2.2 q
end
section
variable  {a b:Expr}{tb tc:TE}
def nL{σ:St}{Q:VK}{k k':Bool}(I:Inv X aA σ H s)(q:Q (.bl k) H)(e:k=k'):EP X aA σ Q (.bool k') s:=by subst e;exact⟨.bl k,H,I,rfl,q⟩
def op_lt:OpR X (compareOp .Lt) (rI0 λi j=>.bl (decide (i<j))):=nK λ_ _ _ _ _ _ _ q=>lt_int q
def op_le:OpR X (compareOp .LtE) (rI0 λi j=>.bl (decide (i<=j))):=nK λ_ _ _ _ _ _ _ q=>le_int q
def vA:OpR X (compareOp .Gt) (rI0 λi j=>.bl (decide (j<i))):=nK λ_ _ _ _ _ _ _ q=>gt_int q
def op_ge:OpR X (compareOp .GtE) (rI0 λi j=>.bl (decide (j<=i))):=nK λ_ _ _ _ _ _ _ q=>ge_int q
def aDM:OpR X (compareOp .In) (λx y H Q=>∃i j,x=.str i/\y=.str j/\Q (.bl (!(Builtin.Str.occurrences j i 0 j.length 1).isEmpty)) H):=by intro aA s σ H x y v u Q I rx ry h;obtain⟨i,j,rfl,rfl,q⟩:=h;obtain⟨t,rfl⟩:=rx;obtain⟨t',rfl⟩:=ry;exact in_str (nL I q rfl)
def aDN:OpR X (compareOp .Is) (λx y H Q=>y=.non/\Q (.bl (decide (x=.non))) H):=by
 intro aA s σ H x y v u Q I rx ry h;obtain⟨rfl,q⟩:=h;cases ry;refine is_none_gen (nL I q ?_);cases x <;> first
  |(cases rx;rfl)
  |(obtain⟨t,rfl⟩:=rx;rfl)
def aDO:OpR X (compareOp .IsNot) (λx y H Q=>y=.non/\Q (.bl (!decide (x=.non))) H):=by
 intro aA s σ H x y v u Q I rx ry h;obtain⟨rfl,q⟩:=h;cases ry;refine isnot_none_gen (nL I q ?_);cases x <;> first
  |(cases rx;rfl)
  |(obtain⟨t,rfl⟩:=rx;rfl)
def aDP:OpR X (compareOp .NotIn) (λx y H Q=>∃i j,x=.str i/\y=.str j/\Q (.bl (!(!(Builtin.Str.occurrences j i 0 j.length 1).isEmpty))) H):=by intro aA s σ H x y v u Q I rx ry h;obtain⟨i,j,rfl,rfl,q⟩:=h;obtain⟨t,rfl⟩:=rx;obtain⟨t',rfl⟩:=ry;exact notIn_str (nL I q rfl)
def OpR.or{f:aW2->aW2->Sem aW2}{r r':R2}(h:OpR X f r)(h':OpR X f r'):OpR X f (λx y H Q=>r x y H Q\/r' x y H Q):=by
 intro aA s σ H x y v u Q I rx ry q;rcases q with q|q
 . exact h aA s σ H x y v u Q I rx ry q
 . exact h' aA s σ H x y v u Q I rx ry q
def aDQ{op:CmpOp}{r:R2}(ho:OpR X (compareOp op) r)(ha:PE X a ta)(hb:PE X b tb)(hm:behindInMarks op b=false):PE X (.Compare a [op] [b] pos) (tOp r ta tb):=by intro aA s σ H Q I h;exact wpAny_Compare1 (qA ha hb I h λv u s2 x y H2 I2 rx ry q=>ho aA s2 σ H2 x y v u Q I2 rx ry q) hm
def vB(t:TE):TT:=λσ H Q=>t σ H λx H'=>∃k,x=.bl k/\Q k H'
def vC{op:CmpOp}{r:R2}(ho:OpR X (compareOp op) r)(ha:PE X a ta)(hb:PE X b tb)(hm:behindInMarks op b=false):PT X (.Compare a [op] [b] pos) (vB (tOp r ta tb)):=by
 intro aA s σ H Q I h;refine wpAny_isTrue_Compare1 (thn (ha aA s σ H _ I h) λv s1 ⟨x,H1,I1,r1,q1⟩=>thn (hb aA s1 σ H1 _ I1 q1) λu s2 ⟨y,H2,I2,r2,q2⟩ =>
  thn (ho aA s2 σ H2 x y v u _ I2 r1 r2 q2) λc s3 ⟨z,H3,I3,r3,k,e,q3⟩=>?_) hm
 subst e;cases r3;exact aQ6 ⟨H3,I3,q3⟩
def qB(K:Fg)(x:V)(H:Hp)(k:Bool):Prop :=
 match x with
 |.non=>k=false
 |.bl b=>k=b
 |.int i=>k=(i != 0)
 |.str y=>y.length<=sizeLine/\k=((y.length:Int) != 0)
 |.byt y=>y.size<=sizeLine/\k=((y.size:Int) != 0)
 |.ref p=>(∃xs,SqL K H p xs/\k = !xs.isEmpty)\/(∃xs,SqT K H p xs/\k = !xs.isEmpty)\/∃kvs,H p=some (.dK kvs)/\k = !kvs.isEmpty
 |_=>False
def aDR{kvs:List (κ×V)}{vs:List (κ×aW2)}(r:KV kvs vs):(!vs.isEmpty) = !kvs.isEmpty:=by cases r <;> rfl
def vD{xs:List V}{its:List aW2}(r:aH xs its):(!its.toArray.isEmpty) = !xs.isEmpty:=by cases r <;> simp
def jK:(sizeLine:Nat)<2 ^ 63:=by rw[aRK];decide
theorem aDS:TruR X (λx H Q=>∃k,qB X.K x H k/\Q k H):=by
 intro aA s σ H x v Q I rx h;obtain⟨k,e,q⟩:=h;have hl:=jK;have hs:sizeLine=16777216:=aRK;cases x with
 |non=>cases rx;have e':k=false:=e;subst e';exact truthy_none ⟨H,I,q⟩
 |bl b=>cases rx;have e':k=b:=e;subst e';exact aQ6 ⟨H,I,q⟩
 |int i=>obtain⟨t,rfl⟩:=rx;have e':k=(i != 0):=e;subst e';exact PySem.P.truthy_int ⟨H,I,q⟩
 |str y=>obtain⟨t,rfl⟩:=rx;obtain⟨hy,e'⟩:y.length<=sizeLine/\k=((y.length:Int) != 0):=e;subst e';exact PySem.P.truthy_str (by lia) ⟨H,I.tok _,q⟩
 |byt y=>obtain⟨t,rfl⟩:=rx;obtain⟨hy,e'⟩:y.size<=sizeLine/\k=((y.size:Int) != 0):=e;subst e';exact W.truthy_bytes (by lia) ⟨H,I.tok _,q⟩
 |ref p =>
  cases rx;have e':(∃xs,SqL X.K H p xs/\k = !xs.isEmpty)\/(∃xs,SqT X.K H p xs/\k = !xs.isEmpty)\/∃kvs,H p=some (.dK kvs)/\k = !kvs.isEmpty:=e;rcases e' with⟨xs,hx,e'⟩|⟨xs,hx,e'⟩|⟨kvs,hx,e'⟩
  . subst e';obtain⟨its,r,pl,hz⟩:=I.list hx;have hlen:=r.length;exact wpAny_truthy_list pl.isList (by simp only[aRL];lia) ⟨H,I.tok _,by rw[vD r];exact q⟩
  . subst e';obtain⟨its,r,pl,hz⟩:=I.tuple hx;have hlen:=r.length;exact truthy_tuple pl (by simp only[aRL];lia) ⟨H,I.tok _,by rw[vD r];exact q⟩
  . subst e';obtain⟨hz,hS,vs,r,m⟩:kvs.length<=sizeLine/\(p==sysModules)=false/\∃vs,KV kvs vs/\s.heap.DictOf (cJ X.prog X.w) p vs:=I.hok p _ hx;have hlen:kvs.length=vs.length:=aQN r;exact wpAny_truthy_dict hS m (by lia) ⟨H,I.tok _,by rw[aDR r];exact q⟩
 |_=>exact(show False from e).elim
def aDT (ha : PE X a ta) (he : ∀ whole, isTrue a X.env whole = (do let v ← whole; standAt a.pos; holding [v] (truthy v))) :
    PT X a (λσ H Q=>ta σ H λx H'=>∃k,qB X.K x H' k/\Q k H'):=by
 intro aA s σ H Q I h;exact isTrue_plain (thn (ha aA s σ H _ I h) λv s1 ⟨x,H1,I1,r1,q1⟩=>aDS aA s1 σ H1 x v Q I1 r1 q1) (he _)
def aDU:OpR X (binaryOp .Add) (λx y H Q=>∃i j,x=.str i/\y=.str j/\i.length+j.length<=sizeLine/\Q (.str (i++j)) H):=by intro aA s σ H x y v u Q I rx ry h;obtain⟨i,j,rfl,rfl,hz,q⟩:=h;obtain⟨t,rfl⟩:=rx;obtain⟨t',rfl⟩:=ry;exact add_str (λt' tk=>⟨.str (i++j),H,I.tok _,⟨_,rfl⟩,q⟩) hz
def cE{x:V}(r:aH [x] us):∃u,us=[u]/\aJ x u:=by
 cases r with
 |cons r1 r2=>cases r2;exact⟨_,rfl,r1⟩
def vals2{x y:V}(r:aH [x,y] us):∃u w',us=[u,w']/\aJ x u/\aJ y w':=by
 cases r with
 |cons r1 r2 =>
  cases r2 with
  |cons r3 r4=>cases r4;exact⟨_,_,rfl,r1,r3⟩
def aDV:bY X (.type "int") (λxs H Q=>(∃i,xs=[.int i]/\Q (.int i) H)\/∃k,xs=[.bl k]/\Q (.int (if k then 1 else 0)) H):=by
 intro aA s σ H xs us Q I r h;rcases h with⟨i,rfl,q⟩|⟨k,rfl,q⟩
 . obtain⟨u,rfl,t,rfl⟩:=cE r;exact call_int_int ⟨.int i,H,I,⟨_,rfl⟩,q⟩
 . obtain⟨u,rfl,r1⟩:=cE r;cases r1;exact call_int_bool ⟨.int (if k then 1 else 0),H,I.tok _,⟨_,rfl⟩,q⟩
def aDW:bY X (.type "str") (λxs H Q=>∃i,xs=[.int i]/\i.natAbs.log2<1920/\Q (.str (toString i)) H):=by intro aA s σ H xs us Q I r h;obtain⟨i,rfl,hz,q⟩:=h;obtain⟨u,rfl,t,rfl⟩:=cE r;exact PySem.P.str_of_int hz ⟨.str _,H,I.tok _,⟨_,rfl⟩,q⟩
def LenV(K:Fg)(x:V)(H:Hp)(n:Nat):Prop :=
 match x with
 |.str y=>y.length<=sizeLine/\n=y.length
 |.byt y=>y.size<=sizeLine/\n=y.size
 |.ref p=>(∃xs,SqL K H p xs/\n=xs.length)\/∃xs,SqT K H p xs/\n=xs.length
 |_=>False
theorem aDX:bY X (.builtin "len") (λxs H Q=>∃x n,xs=[x]/\LenV X.K x H n/\Q (.int n) H):=by
 intro aA s σ H xs us Q I r h;obtain⟨x,n,rfl,e,q⟩:=h;obtain⟨u,rfl,rx⟩:=cE r;have hl:=jK;have hs:sizeLine=16777216:=aRK;cases x with
 |str y=>obtain⟨t,rfl⟩:=rx;obtain⟨hy,e'⟩:y.length<=sizeLine/\n=y.length:=e;subst e';exact len_str (by lia) ⟨.int _,H,I.tok _,⟨_,rfl⟩,q⟩
 |byt y=>obtain⟨t,rfl⟩:=rx;obtain⟨hy,e'⟩:y.size<=sizeLine/\n=y.size:=e;subst e';exact W.len_bytes (by lia) ⟨.int _,H,I.tok _,⟨_,rfl⟩,q⟩
 |ref p =>
  cases rx;have e':(∃xs,SqL X.K H p xs/\n=xs.length)\/∃xs,SqT X.K H p xs/\n=xs.length:=e;rcases e' with⟨xs,hx,e'⟩|⟨xs,hx,e'⟩
  . subst e';obtain⟨its,r',pl,hz⟩:=I.list hx;have hlen:=r'.length;exact Calls.call_len_list pl.isList (by simp only[aRL];lia) ⟨.int xs.length,H,I.tok _,⟨_,by simp only[aRL];rw[hlen]⟩,q⟩
  . subst e';obtain⟨its,r',pl,hz⟩:=I.tuple hx;have hlen:=r'.length;exact len_tuple pl (by simp only[aRL];lia) ⟨.int xs.length,H,I.tok _,⟨_,by simp only[aRL];rw[hlen]⟩,q⟩
 |_=>exact(show False from e).elim
end
structure nM(h:Heap)(x dx C:Addr)(mA:SOV):Prop where
 obj:h.get? x=some (W.instObj C dx)
 ns:h.Ns1 dx mA
 ne:dx≠x
def aDY(n:h.Ns1 dx mA):∃od,h.get? dx=some od/\∀name,W.lookIn name od=some (mA name):=by
 obtain⟨o,es,ep,ho,hd,hk,_,hm⟩:=n;refine⟨o,ho,λname=>?_⟩;have e:=hm name;unfold nsFind findBy at e;rw[<- Array.find?_toList]at e;unfold W.lookIn;rw[hd];dsimp only;split
 . rename_i y q;rw[q]at e;exact congrArg some e
 . rename_i q;rw[q]at e;have a:es.toList.any (·.refKey)=false:=by rw[List.any_eq_false];intro y hy;obtain⟨z,t,hkey⟩:=hk y (aRM.mp hy);simp[DictEntry.refKey,hkey]
   have a':¬ es.toList.any (·.refKey)=true:=by rw[a];exact aRA
   rw[if_neg a'];exact congrArg some e
def nM.look{x C:Addr}(I:nM h x dx C mA):∃od,W.InstAt h x (W.instObj C dx) C (some od)/\∀name,W.lookIn name od=some (mA name) :=
 let⟨od,ho,hl⟩:=aDY I.ns
 ⟨od,⟨I.obj,rfl,rfl,ho⟩,hl⟩
section
variable {A:aW4}{E:VSP}{x C f:Addr}{name:Str}{v:aW2}
def aDZ{pl:Sem Bool}{Q:aW2×List aW2->aW3->Prop}(X:K.In s.heap)(I:nM s.heap x dx C mA)(hg:W.plainGet K C name=true)(hf:W.findIn K (.ref C) name=some (some (.ref f)))(ht:W.isFn K (.ref f)=true)(hv:mA name=none)(h:Q (.ref f,[.ref x]) s):wpAny (model prog w) A (getMethod (.ref x) name pl) Q E s:=by obtain⟨od,J,hl⟩:=I.look;exact W.method_fn X J (W.plainGet_of hg).1 (W.plainGet_of hg).2 hf (aRN.mp ht) (by show(W.lookIn name od).map (·.isSome)=some false;rw[hl,hv];rfl) h
def aD0{R:Result->aW3->Prop}(X:K.In s.heap)(hm:W.makesIn K C=true)(hi:W.findIn K (.ref C) "__init__" = some (some (.builtin "object.__init__")))(hb:∀self,W.Looks (model prog w) s.heap (bindSpecial (.builtin "object.__init__") self) (.builtin "object.__init__", [self]))(h:codeAny (model prog w) (A.under (.builtin "type.__call__" ⟨[.ref C],[]⟩)) (.call (.builtin "object.__init__") ⟨[.ref (s.heap.objs.size+1)],[]⟩) (W.InitBack (s.heap.objs.size+1) R) {s with heap:=(s.heap.push W.emptyDict).push (W.instObj C s.heap.objs.size)}):codeAny (model prog w) A (.call (.ref C) ⟨[],[]⟩) R s:=by obtain⟨hh,g,d,t,os⟩:=s;exact W.make_core (W.makes_of X hm) (W.looks_findIn X hi) hb (.inr ⟨rfl,rfl⟩) h
end
def dD.some_of{o:Option aW2}(r:dD (some v) o):∃u,o=some u/\aJ v u:=by
 cases o with
 |none=>exact(show False from r).elim
 |some u=>exact⟨u,rfl,r⟩
def dD.none_of{o:Option aW2}(r:dD none o):o=none:=by
 cases o with
 |none=>rfl
 |some u=>exact(show False from r).elim
section
variable  {a C:Addr}{fs fs':List (Str×V)}
def aD1(hok:HOk P w H h)(e:H a=some (.ins C dx fs)):∃mA,nM h a dx C mA/\(∀f,dD (fs.lookup f) (mA f))/\PySem.Within mA (fs.map (·.1))/\fs.length<=1000/\H dx=some (.own a):=by
 obtain⟨d,z,ne,ob,mA,n,r,q⟩:=(show bC P w H h a (.ins C dx fs)from hok a _ e)
 exact⟨mA,⟨ob,n,ne⟩,r,q,z,d⟩
end
structure Cls(K:Fg)(C:Addr):Prop where
 pg:W.plainGet K C Str.empty=true
 hd:W.hasDictIn K C=true
 po:W.plainOver K C=true
 sa:W.findIn K (.ref C) "__setattr__" = some (some (.builtin "object.__setattr__"))
def Cls.get{C:Addr}(c:Cls K C)(f:Str):W.plainGet K C f=true:=c.pg
def qC(K:Fg)(C:Addr)(f:Str):Prop:=W.findIn K (.ref C) f=some none
structure k9(K:Fg)(C:Addr)(m:Str)(f:Addr):Prop where
 at_:W.findIn K (.ref C) m=some (some (.ref f))
 fn:W.isFn K (.ref f)=true
 kp:W.keepIn K (.ref f)=true
section
variable {σ:St}{a C:Addr}{fs:List (Str×V)}{f:Str}{A:aW4}{E:VSP}
def aD2{m:Str}{g:Addr}{pl:Sem Bool}{Q:aW2×List aW2->aW3->Prop}(I:Inv X aA σ H s)(e:H a=some (.ins C dx fs))(c:Cls X.K C)(k:k9 X.K C m g)(l:fs.lookup m=none)(h:Q (.ref g,[.ref a]) s):wpAny (model X.prog X.w) A (getMethod (.ref a) m pl) Q E s:=by
 obtain⟨mA,O,r,_,_,_⟩:=aD1 I.hok e;have hn:mA m=none:=dD.none_of (by rw[<- l];exact r m)
 exact aDZ I.kIn O (c.get m) k.at_ k.fn hn h
def Inv.made(I:Inv X aA σ H s):Inv X aA σ (upd (upd H s.heap.objs.size (.own (s.heap.objs.size+1))) (s.heap.objs.size+1) (.ins C s.heap.objs.size [])) {s with heap:=(s.heap.push W.emptyDict).push (W.instObj C s.heap.objs.size)}:=by
 have e1:(s.heap.push W.emptyDict).get? s.heap.objs.size=some W.emptyDict:=aQP s.heap rfl;have e2:((s.heap.push W.emptyDict).push (W.instObj C s.heap.objs.size)).get? (s.heap.objs.size+1)=some (W.instObj C s.heap.objs.size):=by
  have:=aQP (s.heap.push W.emptyDict) (o:=W.instObj C s.heap.objs.size) rfl
  rwa [aRO]at this
 have e3:(s.heap.push W.emptyDict).Ns s.heap.objs.size (λ_=>none):=⟨W.emptyDict,#[],_,e1,rfl,(λe he=>absurd he (by simp)),λ_=>rfl⟩
 have I1:=I.laid (a:=s.heap.objs.size) (o:=.own (s.heap.objs.size+1)) (h':=s.heap.push W.emptyDict) (t':=s.toks) (λb u q=>hps q) (aRG _) ⟨_,e1⟩;refine I1.laid (a:=s.heap.objs.size+1) (o:=.ins C s.heap.objs.size []) (t':=s.toks) (λb u q=>hps q) (Nat.le_of_eq (aRO _ _)) ?_;have ne:s.heap.objs.size≠s.heap.objs.size+1:=aQT (aRP _);refine⟨by rw[aL ne,aV],aRQ _,ne,e2,λ_=>none,(Heap.Ns1.of_empty e3).at λo q=>hps q,λ_=>True.intro,λy hy=>absurd rfl hy⟩
end
section
variable  {o value:Expr}{f:Str}{tpos:Pos}{tv:TE}
def aD3 {pl : Sem Bool} {m : Str} {apos : Pos} {args : List Expr} {aA : List (Addr × Obj)} {s : aW3} {σ : St} {H : Hp} {Q : aW2 → aW3 → Prop} {te : TE} (he : PE X e te) (I : Inv X aA σ H s) (h : te σ H fun x H1 => ∃ a C dx fs g, x = .ref a ∧ H1 a = some (.ins C dx fs) ∧ Cls X.K C ∧ k9 X.K C m g ∧ fs.lookup m = none ∧ ∀ s1, Inv X aA σ H1 s1 → wpAny (model X.prog X.w) X.A (callWith pos (.ref g) [.ref a] (backTo pos (starEach args X.env)) (backToKw pos (keywordEach [] X.env))) Q X.xe s1)
    (ht:eval (.Call (.Attribute e m apos) args [] pos) X.env=(do
     let ov <- eval e X.env
     standAt apos.atName
     let(f,first) <- holding [ov] (getMethod ov m pl)
     callWith pos f first (backTo pos (starEach args X.env)) (backToKw pos (keywordEach [] X.env)))) :
    wpAny (model X.prog X.w) X.A (eval (.Call (.Attribute e m apos) args [] pos) X.env) Q X.xe s:=by
 refine W.methodCall_KW (pl:=pl) (thn (he aA s σ H _ I h) λu s1 ⟨x,H1,I1,rx,a,C,dx,fs,g,ex,ea,c,k,l,q⟩=>?_) ht;subst ex;obtain rfl:u=Value.ref a:=rx;exact aD2 I1 ea c k l (q s1 I1)
end
section
variable {σ:St}{A:aW4}{E:VSP}{Q:VSP}{c:aW2}{b:Bool}
end
structure bS(k:Nat)(A:aW4):Prop where
 hd:A.handled=none
 dp:A.depth+3 * k+5<recursionLimit
 un:A.units+16 * k+200<cLine
theorem bS.deeper{k:Nat}{A:aW4}(r:bS (k+1) A)(env:Env):bS k (A.deeper env) :=
 ⟨r.hd,by have:=r.dp;show A.depth+1+3 * k+5<_;lia,by have:=r.un;show A.units+3+16 * k+200<_;lia⟩
theorem bS.depth{k:Nat}{A:aW4}(r:bS k A):A.depth<recursionLimit:=by have:=r.dp;lia
theorem bS.units{k:Nat}{A:aW4}(r:bS k A):A.units+64<cLine:=by have:=r.un;lia
def nN:TA:=λ_ H Q=>Q [] H
def jL(ta:TE)(tr:TA):TA:=λσ H Q=>ta σ H λx H1=>tr σ H1 λxs H2=>Q (x::xs) H2
section
variable {es:List Expr}{t:TA}
def eN:PA X [] nN:=λ_ _ _ _ H Q I h=>aRR ⟨[],H,I,.nil,h⟩
def dE(ha:PE X e te)(hr:PA X es t)(hs:starEach (e::es) X.env=(false,eval e X.env)::starEach es X.env:=by rfl):PA X (e::es) (jL te t):=by intro pos aA s σ H Q I h;rw[hs];show wpAny _ _ (spliced ((false,eval e X.env)::backTo pos (starEach es X.env))) _ _ s;refine aRS (thn (ha aA s σ H _ I h) λu s1 ⟨x,H1,I1,r1,q1⟩=>?_);exact thn (hr pos aA s1 σ H1 _ I1 q1) λus s2 ⟨xs,H2,I2,r2,q2⟩=>⟨x::xs,H2,I2,.cons r1 r2,q2⟩
def tTup(t:TA):TE:=λσ H Q=>t σ H λxs H1=>xs.length<=sizeLine/\∀p,H1 p=none->Q (.ref p) (upd H1 p (.tup xs))
def tLst(t:TA):TE:=λσ H Q=>t σ H λxs H1=>xs.length<=sizeLine/\∀p,H1 p=none->Q (.ref p) (upd H1 p (.lst xs))
def aD4{x1}(h:PA X es t):PE X (.Tuple es x1 pos) (tTup t):=by
 intro aA s σ H Q I hq;refine wpAny_Tuple_spliced (thn (h pos aA s σ H _ I hq) λus s1 ⟨xs,H1,I1,r,z,q⟩=>⟨by rw[<- r.length];exact z,?_⟩)
 have hf:H1 s1.heap.objs.size=none:=I1.hok.fresh (aRG _);refine⟨.ref s1.heap.objs.size,upd H1 s1.heap.objs.size (.tup xs),I1.laid (t':=s1.toks) (λb u e=>hps e) (aRG _) ?_,rfl,q _ hf⟩;exact⟨z,us,r,⟨_,aQP _ rfl,rfl,rfl,_,rfl⟩⟩
def vE(h:PA X es t):PE X (.List es pos) (tLst t):=by
 intro aA s σ H Q I hq;refine wpAny_List_spliced (thn (h pos aA s σ H _ I hq) λus s1 ⟨xs,H1,I1,r,z,q⟩=>⟨by rw[<- r.length];exact z,?_⟩)
 have hf:H1 s1.heap.objs.size=none:=I1.hok.fresh (aRG _);refine⟨.ref s1.heap.objs.size,upd H1 s1.heap.objs.size (.lst xs),I1.laid (t':=s1.toks) (λb u e=>hps e) (aRG _) ?_,rfl,q _ hf⟩;exact⟨z,us,0,r,aQP _ rfl⟩
end
abbrev Sp:=List V->Hp->VK->XK->Prop
abbrev CXT:=List Env->Hp->aW3->XK->aW2->aW3->Prop
structure nO(P:aW6)(w:aW5)(K:Fg)(mg:SOV)(base:Heap)(A:aW4)(outer:List Env)(s:aW3)(H:Hp):Prop where
 frames:A.frames=some outer
 mod:Mod K mg base
 bs:∀b o,base.get? b=some o->s.heap.get? b=some o/\H b=none
 bsz:base.objs.size<=s.heap.objs.size
 funs:s.heap.FunFrames base outer
 frf:∀b∈frs outer,H b=none
 hok:HOk P w H s.heap
 bare:AllBare s.gens
 tabs:jH K base H
def CE(outer:List Env)(P:aW6)(w:aW5)(H:Hp)(s:aW3)(Q:VK)(u:aW2)(s':aW3):Prop :=
 ∃v H',s'.os=s.os/\AllBare s'.gens/\Un (frs outer) [] H H' s.heap s'.heap/\HOk P w H' s'.heap/\aJ v u/\Q v H'
def CR(CX:CXT)(outer:List Env)(P:aW6)(w:aW5)(H:Hp)(s:aW3)(Q:VK)(E:XK)(r:Result)(s':aW3):Prop :=
 match r with
 |.ok (.ret u)=>CE outer P w H s Q u s'
 |.ok _=>False
 |.error e=>CX outer H s E e s'
structure bT(P:aW6)(w:aW5)(K:Fg)(mg:SOV)(base:Heap)(CX:CXT)(k:Nat)(f:Addr)(fd:FuncData)(ps:List Str)(sp:Sp):Prop where
 len:∀vs H Q E,sp vs H Q E->vs.length=ps.length
 run:∀(A:aW4) (outer:List Env) (s:aW3) (H:Hp) (args:Args) (us:List aW2) (vs:List V) (Q:VK) (E:XK),bS k A->nO P w K mg base A outer s H->BindsTo s fd args (ps.zip us)->aH vs us->sp vs H Q E ->
  codeAny (model P w) A (.call (.ref f) args) (CR CX outer P w H s Q E) s
def bT.imp{CX:CXT}{k:Nat}{f:Addr}{sp sp':Sp}(F:bT P w K mg base CX k f fd ps sp)(h:∀vs H Q E,sp' vs H Q E->sp vs H Q E):bT P w K mg base CX k f fd ps sp' :=
 ⟨λvs H Q E q=>F.len vs H Q E (h _ _ _ _ q),λA outer s H args us vs Q E hr he hb hv hs=>F.run A outer s H args us vs Q E hr he hb hv (h _ _ _ _ hs)⟩
section
variable {σ:St}
def Inv.env0(I:Inv X aA σ H s):nO X.prog X.w X.K X.mg X.base X.A X.stack s H :=
 ⟨I.ok.frames,I.ok.mod,I.bs,aQW I.ok.bsz I.sz,I.stack,I.stkFree,I.hok,I.bare,I.ok.tabs.mono I.base.tbls⟩
def Inv.after{Q:VK}(I:Inv X aA σ H s)(h:CE X.stack X.prog X.w H s Q u s'):EP X aA σ Q u s':=by obtain⟨v,H',os,bare,un,hok,r,q⟩:=h;obtain⟨hh,g,d,t,os'⟩:=s';obtain rfl:os'=s.os:=os;exact⟨v,H',I.call (h':=hh) (g':=g) (d':=d) (t':=t) (ch:=[]) un hok bare (λb z=>absurd z (by simp)),r,q⟩
end
end L2
variable {CX:L2.CXT}{sp:L2.Sp}
namespace L2
def dF(K:Fg)(fd:FuncData)(ps:List Str)(ds:List aW2):Prop :=
 ∀(s:aW3) (us:List aW2),K.In s.heap->(us++ds).length=ps.length->BindsTo s fd ⟨us,[]⟩ (ps.zip (us++ds))
def dF.all(h:∀us:List aW2,us.length=ps.length->bindArgs fd ⟨us,[]⟩=pure (ps.zip us)):dF K fd ps []:=λs us _ hl=>by rw[aRT]at hl ⊢;exact .of_eq (h us hl)
section
variable {k:Nat}{f C:Addr}{dvs:List V}{ds:List aW2}{E:XK}{m:Str}{o:Expr}{es:List Expr}{t:TA}
structure Mk(K:Fg)(C f:Addr):Prop where
 makes:W.makesIn K C=true
 init:W.findIn K (.ref C) "__init__" = some (some (.ref f))
 fn:W.isFn K (.ref f)=true
 kp:W.keepIn K (.ref C)=true
end
section
variable {k:Nat}{f C:Addr}{ks:List Str}{E:XK}{m:Str}{kpos:Pos}{o:Expr}{es:List Expr}{kws:List Keyword}{t tk:TA}{nm:Option Str}
variable {g:List aW2->List aW2->List aW2}{gV:List V->List V->List V}
end
structure lA(N P:List Str)(sc:Scope):Prop where
 kind:sc.kind=.function
 co:sc.isCoroutine=false
 gen:sc.isGenerator=false
 nd:N.Nodup
 pre:N.take P.length=P
 par:∀x∈P,sc.names.lookup x=some .local\/sc.names.lookup x=some .cell
 nofree:∀y∈sc.names,y.2 ≠ .free
theorem vF{kindOf:Str->Option NameKind}{x:Str}:∀{binds:List (Str×aW2)}{m:SOV},(∀v,(x,v)∉binds)->bindL kindOf binds m x=m x
 |[],_,_=>rfl
 |(n,v)::r,m,h=>by
  unfold bindL;rw[vF λw hw=>h w (mcm hw)];split
  . have:x≠n:=by rintro rfl;exact h v mcs
    simp[this]
  . rfl
theorem vG{kindOf:Str->Option NameKind}{x:Str}:∀{binds:List (Str×aW2)}{m:SOV},(∀v,(x,v)∉binds)->bindC kindOf binds m x=m x
 |[],_,_=>rfl
 |(n,v)::r,m,h=>by
  unfold bindC;rw[vG λw hw=>h w (mcm hw)];split
  . rfl
  . have:x≠n:=by rintro rfl;exact h v mcs
    simp[this]
theorem vH{kindOf:Str->Option NameKind}{x:Str}{v:aW2}:∀{P:List Str}{vs:List aW2}{i:Nat}{m:SOV},P.Nodup->P[i]? = some x->vs[i]? = some v->kindOf x=some .local->bindL kindOf (P.zip vs) m x=some v
 |[],_,_,_,_,h,_,_=>by simp at h
 |_::_,[],_,_,_,_,h,_=>by simp at h
 |p::P,w::vs,0,m,nd,h1,h2,hk=>by simp at h1 h2;subst h1;subst h2;show bindL kindOf ((p,w)::P.zip vs) m p=_;unfold bindL;rw[vF λv hv=>(aRU.mp nd).1 (aRV hv).1,if_pos hk];simp
 |p::P,w::vs,i+1,m,nd,h1,h2,hk=>by show bindL kindOf ((p,w)::P.zip vs) m x=_;unfold bindL;exact vH (i:=i) (aRU.mp nd).2 (by simpa using h1) (by simpa using h2) hk
theorem vI{kindOf:Str->Option NameKind}{x:Str}{v:aW2}:∀{P:List Str}{vs:List aW2}{i:Nat}{m:SOV},P.Nodup->P[i]? = some x->vs[i]? = some v->kindOf x≠some .local->bindC kindOf (P.zip vs) m x=some v
 |[],_,_,_,_,h,_,_=>by simp at h
 |_::_,[],_,_,_,_,h,_=>by simp at h
 |p::P,w::vs,0,m,nd,h1,h2,hk=>by simp at h1 h2;subst h1;subst h2;show bindC kindOf ((p,w)::P.zip vs) m p=_;unfold bindC;rw[vG λv hv=>(aRU.mp nd).1 (aRV hv).1,if_neg hk];simp
 |p::P,w::vs,i+1,m,nd,h1,h2,hk=>by show bindC kindOf ((p,w)::P.zip vs) m x=_;unfold bindC;exact vI (i:=i) (aRU.mp nd).2 (by simpa using h1) (by simpa using h2) hk
def cC(N:List Str)(vs:List V):St:=vs.map some++List.replicate (N.length-vs.length) none
noncomputable def cK(CX:CXT)(P:aW6)(w:aW5)(K:Fg)(mg:SOV)(base:Heap)(N:List Str)(qual:Str)(scope:Scope)(f:Addr)(cd:aW2)(A:aW4)(outer:List Env)(s:aW3)(H:Hp)(E:XK):Cx where
 prog:=P
 w:=w
 K:=K
 mg:=mg
 base:=base
 A:=A.deeper (envOfC qual scope s.heap.objs.size f cd)
 N:=N
 s₀:=s
 H₀:=H
 env:=envOfC qual scope s.heap.objs.size f cd
 outer:=outer
 stack:=envOfC qual scope s.heap.objs.size f cd::outer
 ex:=[]
 calm:=true
 fn:=λ_=>true
 pn:=[]
 xe:=λe s'=>wpAny (model P w) (A.deeper (envOfC qual scope s.heap.objs.size f cd)) (leaving (envOfC qual scope s.heap.objs.size f cd) e) (λ_ s''=>CX outer H s E e s'') (λe' s''=>CX outer H s E e' s'') s'
def vJ(h:sc.names.lookup x=some .cell):∃c,(cellsFrom n sc.names []).lookup x=some c:=by have q:=W.cellsFrom_some sc.names n [] (.inl h);exact Option.isSome_iff_exists.mp q
theorem aD5{N:List Str}{f:Addr}{cd:aW2}{A:aW4}{s1:aW3}{E:XK}{vs:List V}(S:lA N ps scope)(hd:A.handled=none)(e0:nO P w K mg base A outer s H)(hl:vs.length=ps.length)(r:aH vs us)(x:InCallC s s.heap.objs.size (bindL (envOfC qual scope s.heap.objs.size f cd).kindOf (ps.zip us) λ_=>none) (cellsFrom (s.heap.objs.size+1) scope.names []) (bindC (envOfC qual scope s.heap.objs.size f cd).kindOf (ps.zip us) λ_=>none) s1):Inv (cK CX P w K mg base N qual scope f cd A outer s H E) [] (cC N vs) H s1:=by
 have hpl:ps.length<=N.length:=by have:=congrArg List.length S.pre;rw[aRW]at this;lia
 obtain⟨h1,tk,rfl,hk⟩:=x.done;have noA:∀b:Addr,b∉(cK CX P w K mg base N qual scope f cd A outer s H E).ex:=λb z=>absurd (show b∈([]:List Addr)from z) (by simp)
 refine⟨⟨e0.mod,S.kind,rfl,rfl,aRG _,λy z c h1 h2=>?_,λy hy=>?_,λy c _ h=>?_,λ_=>hd,Around.frames_deeper e0.frames,.inr ⟨rfl,rfl⟩,λb z=>absurd z (noA b),e0.bs,e0.bsz,λb _ _=>noA b,λb z=>absurd z (noA b),e0.funs,e0.frf,e0.tabs⟩,
  rfl,e0.bare,Un.kept hk,⟨_,x.toInCall.ns,λi y v h1 h2 h3=>?_⟩,λy c h=>⟨_,x.cell y c h⟩,e0.hok.fresh (aRG _),λy c h=>?_,λp hp=>absurd (show p∈([]:LAO)from hp) (by simp),e0.hok.kept hk,?_⟩
 . exact name_of_addr x.apart (aRX h1) (aRX h2)
 . have hy:scope.names.lookup y=some .cell\/scope.names.lookup y=some .free:=hy;rcases hy with hy|hy
   . exact vJ hy
   . exact absurd rfl (S.nofree _ (aRX hy))
 . exact aQX (x.above y c (aRX h))
 . have hi:i<vs.length:=by
     unfold cC at h2;by_cases hi:i<vs.length
     . exact hi
     . rw[aRY (by simpa using hi)]at h2
       rw[aRZ]at h2;split at h2 <;> cases h2
   have ha:vs[i]? = some v:=by
    unfold cC at h2;rw[aR0 (by simpa using hi),aR1]at h2
    cases e:vs[i]? with
    |none=>rw[e]at h2;cases h2
    |some a=>rw[e]at h2;cases h2;rfl
   obtain⟨u,hu,rv⟩:=r.get ha;have hp:ps[i]? = some y:=by rw[<- S.pre,List.getElem?_take_of_lt (by lia)];exact h1
   have ndP:ps.Nodup:=by rw[<- S.pre];exact S.nd.sublist (List.take_sublist _ _)
   refine⟨u,rv,?_⟩;rcases S.par y (aR2 hp)with k|k
   . exact .inl ⟨k,vH ndP hp hu k⟩
   . obtain⟨c,e⟩:=vJ (n:=s.heap.objs.size+1) k;refine .inr ⟨.inl k,c,e,?_⟩;have q:=x.cell y c e;rw[vI ndP hp hu (by show scope.names.lookup y≠_;rw[k];decide)]at q
     exact q
 . exact e0.hok.fresh (aQX (x.above y c (aRX h)))
 . unfold cC;show _=N.length;rw[aR3,aR4,List.length_replicate];lia
def vK{k:Nat}{f:Addr}{name:Str}{params:Arguments}{dV kV doc pm ct oc:aW2}{an od:Option Addr}{osl:Array (Option aW2)}{N:List Str}(lk:K.lookup f=some ⟨oc,od,.func (W.fnOf name qual params body scope dV kV doc pm an cdv ct),osl⟩)(hcd:W.codeIn K cdv qual=true)(S:lA N ps scope)(len:∀vs H Q E,sp vs H Q E->vs.length=ps.length)(hbody:∀(A:aW4) (outer:List Env) (s:aW3) (H:Hp) (vs:List V) (Q:VK) (E:XK),bS k (A.deeper (envOfC qual scope s.heap.objs.size f cdv))->sp vs H Q E->∃t,PSs (cK CX P w K mg base N qual scope f cdv A outer s H E) body t/\t {nx:=λ_ H'=>Q .non H',rt:=Q} (cC N vs) H):bT P w K mg base CX (k+1) f (W.fnOf name qual params body scope dV kV doc pm an cdv ct) ps sp:=by
 refine⟨len,λA outer s H args us vs Q E hr e0 hb r hsp=>?_⟩;have hl:=len _ _ _ _ hsp;have KX:K.In s.heap:=e0.mod.kin.keeps λb o e=>(e0.bs b o e).1;have lim:s.heap.NoLimit:=e0.mod.nolimit.keeps λb o e=>(e0.bs b o e).1;have dP:∀y∈ps.zip us,scope.names.lookup y.1=some .local\/(scope.names.lookup y.1=some .cell/\((cellsFrom (s.heap.objs.size+1) scope.names []).lookup y.1).isSome=true):=λ⟨n,v⟩ hy=>by
  rcases S.par n (aRV hy).1 with q|q
  . exact .inl q
  . exact .inr ⟨q,W.cellsFrom_some _ _ _ (.inl q)⟩
 refine codeAny_call_function hr.depth (KX _ _ lk) rfl S.co S.gen rfl (W.codeRec_of KX hcd) (hb _ _ _ _ ?_);refine wpAny_newFunctionEnv_cells S.kind dP λenv he s1 x=>?_;subst he;refine⟨lim.keeps x.toInCall.keep,codeAny_func ?_⟩;obtain⟨t,ht,hq⟩:=hbody A outer s H vs Q E (hr.deeper _) hsp;have I:Inv (cK CX P w K mg base N qual scope f cdv A outer s H E) [] (cC N vs) H s1:=aD5 S hr.hd e0 hl r x;refine aQ5 (ht [] s1 (cC N vs) H _ I hq) (λfl s' hs=>?_) λe s' hs=>hs;have fin:∀{σ':St}{H':Hp}{v:V}{u:aW2},Inv (cK CX P w K mg base N qual scope f cdv A outer s H E) [] σ' H' s'->aJ v u->Q v H'->CE outer P w H s Q u s' :=
  λ{σ' H' v u} J rv q=>⟨v,H',J.os,J.bare,J.base,J.hok,rv,q⟩
 cases fl with
 |ret u=>obtain⟨v,σ',H',J,rv,q⟩:=hs;exact fin J rv q
 |next=>obtain⟨σ',H',J,q⟩:=hs;exact fin (v:=V.non) (u:=Value.none) J rfl q
 |brk=>obtain⟨_,_,_,q⟩:=hs;exact False.elim q
 |cont=>obtain⟨_,_,_,q⟩:=hs;exact False.elim q
section
variable {es:List Expr}{t:TA}{id T:String}{r:List V->Hp->VK->Prop}
def tCB(r:List V->Hp->VK->Prop)(t:TA):TE:=λσ H Q=>t σ H λvs H1=>r vs H1 Q
def lB(hc:bY X (.builtin id) r)(hg:Gl X x)(hm:X.mg x=none)(hv:bootBuiltins x=some (.builtin id))(ha:PA X (e::es) t)(hn:x ≠ "__name__" := by decide)(hdb:(x==("__debug__":Str))=false:=by decide)(he:starEach (e::es) X.env=(false,eval e X.env)::starEach es X.env:=by rfl)(hpl:(backTo pos (starEach es X.env)).any (·.1)=false:=by rfl):PE X (.Call (.Name x p) (e::es) [] pos) (tCB r t):=by intro aA s σ H Q I h;refine aR5 (k4 I hg hm hv ?_ hn hdb);exact PyProof.Rows.callWith_builtin1 (thn (ha pos aA s σ H _ I h) λus s1 ⟨vs,H1,I1,r1,q1⟩=>hc aA s1 σ H1 vs us Q I1 r1 q1) he hpl
def vL(hc:bY X (.type T) r)(hg:Gl X x)(hm:X.mg x=none)(hv:bootBuiltins x=some (.type T))(ha:PA X (e::es) t)(hn:x ≠ "__name__" := by decide)(hdb:(x==("__debug__":Str))=false:=by decide)(he:starEach (e::es) X.env=(false,eval e X.env)::starEach es X.env:=by rfl)(hpl:(backTo pos (starEach es X.env)).any (·.1)=false:=by rfl):PE X (.Call (.Name x p) (e::es) [] pos) (tCB r t):=by intro aA s σ H Q I h;refine aR5 (k4 I hg hm hv ?_ hn hdb);exact aRH (thn (ha pos aA s σ H _ I h) λus s1 ⟨vs,H1,I1,r1,q1⟩=>hc aA s1 σ H1 vs us Q I1 r1 q1) he hpl
def aD6(hc:bY X (.type T) r)(hg:Gl X x)(hm:X.mg x=none)(hv:bootBuiltins x=some (.type T))(hn:x ≠ "__name__" := by decide)(hdb:(x==("__debug__":Str))=false:=by decide):PE X (.Call (.Name x p) [] [] pos) (tCB r nN):=by intro aA s σ H Q I h;refine aR5 (k4 I hg hm hv ?_ hn hdb);exact PyProof.Rows.callWith_type0 (hc aA s σ H [] [] Q I .nil h)
end
end L2
namespace HT
section
open PySem.SeqAt
open PySem.AutoSeq1 (wpAny_loadPart')
open PySem.MeetsSeq PySem.MeetsSeq2 PySem.MeetsSeq3
end
section
variable {A:aW4}{E:VSP}
def aD7{t:Addr}{ws:List aW2}{Q:VSP}(ht:IsTup s.heap t vs.toArray)(hb:IsTup s.heap b ws.toArray)(hv:vs≠[])(h1:ws=[]->Q (.ref t) s)(h2:ws≠[]->Q (.ref s.heap.objs.size) { s with heap:=s.heap.push { cls:=.type "tuple", data:=.seq (vs++ws).toArray } })(hsz:vs.length+ws.length<=sizeLine):wpAny (model prog w) A (binaryOp .Add (.ref t) (.ref b)) Q E s:=by
 obtain⟨⟨cls,dd,data,sl⟩,ho,hc,n,hd⟩:=id ht;obtain⟨⟨cls2,dd2,data2,sl2⟩,ho2,hc2,n2,hd2⟩:=id hb;simp only at hc hd hc2 hd2;subst hc hd hc2 hd2;have e:vs.toArray++ws.toArray=(vs++ws).toArray:=by simp
 by_cases hw:ws=[]
 . exact aR6 ⟨_,ho,rfl⟩ ⟨_,ho2,rfl⟩ aR7 seq_tuple_add aR8 aR9 (aSA _ _)
     (tuple_addW1 t b vs.toArray ws.toArray n n2 dd dd2 sl sl2 (by simpa using hv) (by simp[hw])) ⟨ho,ho2,h1 hw⟩
 . refine aR6 ⟨_,ho,rfl⟩ ⟨_,ho2,rfl⟩ aR7 seq_tuple_add aR8 aR9 (aSA _ _)
     (tuple_addW2 t b vs.toArray ws.toArray n n2 dd dd2 sl sl2 (by simpa using hv) (by simpa using hw) (by rw[aRL,aRL];exact hsz)) ⟨ho,ho2,?_⟩
   rw[e];exact h2 hw
def sIx(n d:Nat):Option Int->Nat
 |none=>d
 |some v=>if v<0 then(v+(n:Int)).toNat else min v.toNat n
theorem aD8(n d:Nat)(hd:d<=n)(o:Option Int):sIx n d o<=n:=by
 cases o with
 |none=>exact hd
 |some v =>
  show(if v<0 then(v+(n:Int)).toNat else min v.toNat n)<=n;by_cases hv:v<0
  . rw[if_pos hv];lia
  . rw[if_neg hv];exact Nat.min_le_right _ _
theorem vM(v:Int)(n d:Nat):(if v<0 then max (v+(n:Int)) 0 else min v (n:Int))=((sIx n d (some v):Nat):Int):=by
 show(if v<0 then max (v+(n:Int)) 0 else min v (n:Int))=(((if v<0 then(v+(n:Int)).toNat else min v.toNat n):Nat):Int);by_cases hv:v<0
 . simp only[if_pos hv];lia
 . simp only[if_neg hv];lia
theorem aD9(lo hi:Option Int)(n:Nat):Builtin.Slice.sliceAdjust lo hi 1 (n:Int)=(((sIx n 0 lo:Nat):Int),((sIx n n hi:Nat):Int)):=by
 have h1:¬ ((1:Int)<0):=by lia
 unfold Builtin.Slice.sliceAdjust;simp only[h1,aSB];refine Prod.ext ?_ ?_
 . cases lo with
   |none=>rfl
   |some v=>exact vM v n 0
 . cases hi with
   |none=>rfl
   |some v=>exact vM v n n
theorem aEA(i j:Nat):Builtin.Slice.slicePlaces (i:Int) (j:Int) 1=j-i:=by
 unfold Builtin.Slice.slicePlaces;have h1:(1:Int) > 0:=by lia
 simp only[h1,if_true,Int.ediv_one];split <;> lia
def vN{v:aW2}{o:Option Int}{Q:Option Int->aW3->Prop}(p:IsPart v o)(h:Q o s):wpAny (model prog w) A (Builtin.Slice.slicePartIndex v) Q E s:=by
 cases p with
 |none=>exact slicePart_none h
 |int i t=>exact slicePart_int h
def vO{sl:Addr}{vl vu:aW2}{Q:Int×Int×Nat->aW3->Prop}(hs:s.heap.IsSliceOf sl vl vu .none)(pl:IsPart vl lo)(pu:IsPart vu hi)(h:Q (((sIx n 0 lo:Nat):Int),1,sIx n n hi-sIx n 0 lo) s):wpAny (model prog w) A (Builtin.Slice.sliceApplied (.ref sl) (pure (n:Int))) Q E s:=by
 obtain⟨os,hos,hcs,hds⟩:=id hs;unfold Builtin.Slice.sliceApplied Builtin.Slice.sliceFields;refine aRD (aRD (aSC hos hds (x:=vl) rfl (aRD (aSC hos hds (x:=vu) rfl (aRD (aSC hos hds (x:=.none) rfl (aRC ?_)))))));refine aRD (slicePart_none ?_);show wpAny _ _ (if((1:Int)==0)=true then _ else _) _ _ s;rw[if_neg (by decide)]
 refine aRD (vN pl (aRD (vN pu (aRD (aRC ?_)))));show wpAny _ _ (match Builtin.Slice.sliceAdjust lo hi 1 (n:Int)with|(lo,hi)=>pure (lo,(1:Int),Builtin.Slice.slicePlaces lo hi 1)) _ _ s
 rw[aD9 lo hi n];show wpAny _ _ (pure (((sIx n 0 lo:Nat):Int),(1:Int),Builtin.Slice.slicePlaces ((sIx n 0 lo:Nat):Int) ((sIx n n hi:Nat):Int) 1)) _ _ s;rw[aEA];exact aRC h
theorem aEB(xs:Array aW2)(i k:Nat):((List.range k).filterMap λ(m:Nat)=>xs[((i:Int)+(m:Int) * 1).toNat]?).toArray=((xs.toList.drop i).take k).toArray:=by
 have e:(λ(m:Nat)=>xs[((i:Int)+(m:Int) * 1).toNat]?)=λm=>xs[i+m]?:=by
  funext m;have:((i:Int)+(m:Int) * 1).toNat=i+m:=by lia
  rw[this]
 rw[e];have:=pick_run xs i k;rw[List.filterMap_map]at this;have e2:((λx=>xs[x]?) ∘ λx=>i+x)=λm=>xs[i+m]?:=rfl;rw[e2]at this;rw[this]
theorem aEC{t sl:Addr}{vl vu:aW2}{Q:VSP}(ht:IsTup s.heap t items)(hs:s.heap.IsSliceOf sl vl vu .none)(pl:IsPart vl lo)(pu:IsPart vu hi)(hw:¬ (sIx items.size 0 lo=0/\sIx items.size items.size hi=items.size))(h:Q (.ref s.heap.objs.size) { s with heap:=s.heap.push { cls:=.type "tuple", data:=.seq ((items.toList.drop (sIx items.size 0 lo)).take (sIx items.size items.size hi-sIx items.size 0 lo)).toArray } })(hsz:items.size<=sizeLine):wpAny (model prog w) A (getItem (.ref t) (.ref sl)) Q E s:=by
 have htake:sizeOk (.seq ((items.toList.drop (sIx items.size 0 lo)).take (sIx items.size items.size hi-sIx items.size 0 lo)).toArray):=by show((items.toList.drop (sIx items.size 0 lo)).take (sIx items.size items.size hi-sIx items.size 0 lo)).toArray.size<=sizeLine;rw[aRL,aRW,aSD,aQ7];lia
 have hj:sIx items.size items.size hi<=items.size:=aD8 _ _ (aRG _) hi;obtain⟨os,hos,hcs,hds⟩:=id hs;have hTs:s.TypeIs (.ref sl) "slice" := ⟨os,hos,hcs⟩;unfold getItem
 try with_reducible refine aSE ?_
 first|refine aRD (aRC ?_)|skip
 refine aRD (wpAny_sequenceKey ht.typeIs (by decide) ?_)
 refine aRD (aSF (name:=Str.ofString "__getitem__") ht.typeIs aSG
  (aSH aSG ht.typeIs entry_tuple_getitem ?_ (args_tuple_getitem _ _)))
 show wpAny _ _ (Builtin.Tuple.tupleItemsOf (.ref t)>>=_) _ _ s;refine aRD (tupleItemsOf_ ht ?_);refine aRD (aSI hTs ?_);rw[if_pos (by decide)]
 refine aRD (vO hs pl pu ?_);have hno:¬ ((((sIx items.size 0 lo:Nat):Int)==0&&(1:Int)==1&&(sIx items.size items.size hi-sIx items.size 0 lo)==items.size)=true):=by intro q;rw[aSJ,aSJ]at q;have q1:((sIx items.size 0 lo:Nat):Int)=0:=eq_of_beq q.1.1;have q2:sIx items.size items.size hi-sIx items.size 0 lo=items.size:=eq_of_beq q.2;exact hw ⟨by lia,by lia⟩
 show wpAny _ _ (if(((sIx items.size 0 lo:Nat):Int)==0&&(1:Int)==1&&(sIx items.size items.size hi-sIx items.size 0 lo)==items.size)=true then _ else _) _ _ s;rw[if_neg hno,aEB]
 first
  |exact aRD (m:=Builtin.Tuple.tupleExact _) (aSK (aRC ⟨_,rfl,aRC h⟩) htake)
  |exact aRD (m:=Builtin.Tuple.tupleExact _) (aSK (aRD (aRC (aRC ⟨_,rfl,aRC h⟩))) htake)
  |exact aRD (aRD (m:=Builtin.Tuple.tupleExact _) (aSK (aRC (aRC ⟨_,rfl,aRC h⟩)) htake))
  |exact aRD (aRD (m:=Builtin.Tuple.tupleExact _) (aSK (aRC ⟨_,rfl,aRC h⟩) htake))
end
end HT
namespace L2
abbrev TO:=St->Hp->(Option Int->Hp->Prop)->Prop
def PO(X:Cx)(e:Option Expr)(t:TO):Prop :=
 ∀(aA:LAO) (s:aW3) (σ:St) (H:Hp) (Q:Option Int->Hp->Prop),Inv X aA σ H s->t σ H Q ->
  wpAny (model X.prog X.w) X.A (evalPart e X.env) (λu s'=>∃o H',Inv X aA σ H' s'/\IsPart u o/\Q o H') X.xe s
def vP:TO:=λ_ H Q=>Q none H
def nP(t:TE):TO:=λσ H Q=>t σ H λx H1=>∃i,x=.int i/\Q (some i) H1
section
variable {lo hi:Option Expr}{tl th:TO}
def aED:PO X none vP:=by intro aA s σ H Q I h;rw[evalPart_none];exact aRC ⟨none,H,I,.none,h⟩
def aEE(h:PE X e te):PO X (some e) (nP te):=by intro aA s σ H Q I hw;rw[evalPart_some];refine thn (h aA s σ H _ I hw) λu s1 ⟨x,H1,I1,r1,q1⟩=>?_;obtain⟨i,rfl,q⟩:=q1;obtain⟨t,rfl⟩:=r1;exact⟨some i,H1,I1,.int i t,q⟩
def SlR(X:Cx)(r:V->Option Int->Option Int->Hp->VK->Prop):Prop :=
 ∀(aA:LAO) (s:aW3) (σ:St) (H:Hp) (x:V) (v vl vu:aW2) (lo hi:Option Int) (sl:Addr) (Q:VK),Inv X aA σ H s->aJ x v->s.heap.IsSliceOf sl vl vu .none->IsPart vl lo->IsPart vu hi->r x lo hi H Q ->
  ∃T id,typeLookup (.type T) "__getitem__" = pure (some (.builtin id))/\s.TypeIs v T/\wpAny (model X.prog X.w) X.A (getItem v (.ref sl)) (EP X aA σ Q) X.xe s
def SlR.or{r r':V->Option Int->Option Int->Hp->VK->Prop}(h:SlR X r)(h':SlR X r'):SlR X (λx lo hi H Q=>r x lo hi H Q\/r' x lo hi H Q):=by
 intro aA s σ H x v vl vu lo hi sl Q I rx hs pl pu q;rcases q with q|q
 . exact h aA s σ H x v vl vu lo hi sl Q I rx hs pl pu q
 . exact h' aA s σ H x v vl vu lo hi sl Q I rx hs pl pu q
def tSl(r:V->Option Int->Option Int->Hp->VK->Prop)(te:TE)(tl th:TO):TE:=λσ H Q=>te σ H λx H1=>tl σ H1 λl H2=>th σ H2 λu H3=>r x l u H3 Q
def aEF{r:V->Option Int->Option Int->Hp->VK->Prop}(hr:SlR X r)(he:PE X e te)(hl:PO X lo tl)(hu:PO X hi th):PE X (.Subscript e (.Slice lo hi none p2) pos) (tSl r te tl th):=by
 intro aA s σ H Q I h;refine Subscript_ (thn (he aA s σ H _ I h) λv s1 ⟨x,H1,I1,r1,q1⟩=>?_);refine wpAny_Slice (thn (hl aA s1 σ H1 _ I1 q1) λvl s2 ⟨l,H2,I2,pl,q2⟩=>thn (hu aA s2 σ H2 _ I2 q2) λvu s3 ⟨u,H3,I3,pu,q3⟩=>?_);rw[evalPart_none];refine aRC ?_;have I4:Inv X aA σ H3 { s3 with heap:=s3.heap.push { cls:=.type "slice", data:=.fields #[vl,vu,.none] } }:=I3.kept (t':=s3.toks) λb ob q=>hps q
 obtain⟨T,id,hT,ht,hg⟩:=hr aA { s3 with heap:=s3.heap.push { cls:=.type "slice", data:=.fields #[vl,vu,.none] } } σ H3 x v vl vu l u s3.heap.objs.size Q I4 r1 (Heap.IsSliceOf.new ..) pl pu q3
 show wpAny (model X.prog X.w) X.A (subscriptTail e (.Slice lo hi none p2) v (.ref s3.heap.objs.size)) (EP X aA σ Q) X.xe { s3 with heap:=s3.heap.push { cls:=.type "slice", data:=.fields #[vl,vu,.none] } }
 exact tail_any (ops:=[.ref s3.heap.objs.size,v]) ht hT hg (by with_unfolding_all rfl)
def gH(xs:List V)(lo hi:Option Int):List V:=(xs.drop (HT.sIx xs.length 0 lo)).take (HT.sIx xs.length xs.length hi-HT.sIx xs.length 0 lo)
theorem vQ(xs:List V)(lo hi:Option Int):(gH xs lo hi).length<=xs.length:=by unfold gH;rw[aRW,aSD];lia
def rSlT(K:Fg):V->Option Int->Option Int->Hp->VK->Prop:=λx lo hi H Q=>∃a xs,x=.ref a/\SqT K H a xs /\
 ¬ (HT.sIx xs.length 0 lo=0/\HT.sIx xs.length xs.length hi=xs.length)/\∀p,H p=none->Q (.ref p) (upd H p (.tup (gH xs lo hi)))
def aEG:SlR X (rSlT X.K):=by
 intro aA s σ H x v vl vu lo hi sl Q I rx hs pl pu h;obtain⟨a,xs,rfl,hx,hw,q⟩:=h;cases rx;obtain⟨its,r,ht,hz⟩:=I.tuple hx;have hlen:its.toArray.size=xs.length:=by rw[aRL];exact r.length.symm
 refine⟨"tuple", _,PyProof.Rows.slot_tuple_getitem.lookup,ht.typeIs,?_⟩;refine HT.aEC ht hs pl pu (by rw[hlen];exact hw) ?_ (by rw[hlen];exact hz)
 rw[hlen];refine⟨.ref s.heap.objs.size,_,I.laid (t':=s.toks) (o:=.tup (gH xs lo hi)) (λb ob q=>hps q) (aRG _) ?_,rfl,q _ (I.hok.fresh (aRG _))⟩;exact⟨aQW (vQ xs lo hi) hz,_,(r.drop (HT.sIx xs.length 0 lo)).take (HT.sIx xs.length xs.length hi-HT.sIx xs.length 0 lo),gE.new _ _⟩
def aH.nil_iff{xs:List V}(r:aH xs us):us=[]↔xs=[]:=by
 cases r with
 |nil=>simp
 |cons _ _=>simp
end
def ixN(n:Nat)(i:Int):Option Nat:=if 0<=i then(if i<n then some i.toNat else none)else if -(n:Int)<=i then some (i+n).toNat else none
noncomputable def atI(xs:List α)(i:Int):Option α:=(ixN xs.length i).bind λj=>xs[j]?
theorem aEH{i:Int}(h:ixN n i=some j):seqIndex? i n=some j/\j<n /\ -(n:Int)<=i/\i<n:=by
 unfold ixN at h;by_cases h0:0<=i
 . rw[if_pos h0]at h;by_cases h1:i<n
   . rw[if_pos h1]at h;have e:i.toNat=j:=aQO h;exact⟨by rw[seqIndex_of h0 h1,e],by lia,by lia,h1⟩
   . rw[if_neg h1]at h;cases h
 . rw[if_neg h0]at h;by_cases h1:-(n:Int)<=i
   . rw[if_pos h1]at h;have e:(i+n).toNat=j:=aQO h;exact⟨by rw[seqIndex_neg (by lia) h1,e],by lia,h1,by lia⟩
   . rw[if_neg h1]at h;cases h
def nQ{xs:List α}{i:Int}{v:α}(h:atI xs i=some v):∃j,seqIndex? i xs.length=some j/\xs[j]? = some v/\j<xs.length /\ -(xs.length:Int)<=i/\i<xs.length:=by
 unfold atI at h;cases e:ixN xs.length i with
 |none=>rw[e]at h;cases h
 |some j=>rw[e]at h;obtain⟨h1,h2,h3,h4⟩:=aEH e;exact⟨j,h1,h,h2,h3,h4⟩
theorem lC{xs:List α}{v:α}(h:xs[j]? = some v):atI xs (j:Int)=some v:=by
 have hj:j<xs.length:=(aQ2.mp h).1;have e:ixN xs.length (j:Int)=some j:=by unfold ixN;rw[if_pos (by lia),if_pos (by lia)];simp
 unfold atI;rw[e];exact h
def nR(b:Expr):Prop:=∀o i,subscripted b false o i=operate [o,i] (getItem o i)
def IxR(X:Cx)(r:R2):Prop :=
 ∀(value slice:Expr) (aA:LAO) (s:aW3) (σ:St) (H:Hp) (x y:V) (v u:aW2) (Q:VK),Inv X aA σ H s->aJ x v->aJ y u->r x y H Q ->
  subscripted slice false v u=operate [v,u] (getItem v u)->wpAny (model X.prog X.w) X.A (subscriptTail value slice v u) (EP X aA σ Q) X.xe s
def MtR(X:Cx)(id:String)(r:V->List V->Hp->VK->Prop):Prop :=
 ∀(aA:LAO) (s:aW3) (σ:St) (H:Hp) (x:V) (xs:List V) (v:aW2) (us:List aW2) (Q:VK),Inv X aA σ H s->aJ x v->aH xs us->r x xs H Q ->
  wpAny (model X.prog X.w) X.A (call (.builtin id) (v::us)) (EP X aA σ Q) X.xe s
section
variable {a b:Expr}{tb:TE}
def IxR.or{r r':R2}(h:IxR X r)(h':IxR X r'):IxR X (λx y H Q=>r x y H Q\/r' x y H Q):=by
 intro value slice aA s σ H x y v u Q I rx ry q hs;rcases q with q|q
 . exact h value slice aA s σ H x y v u Q I rx ry q hs
 . exact h' value slice aA s σ H x y v u Q I rx ry q hs
def vR{r:R2}(hr:IxR X r)(ha:PE X a ta)(hb:PE X b tb)(hs:nR b):PE X (.Subscript a b pos) (tOp r ta tb):=by intro aA s σ H Q I h;exact Subscript_ (qA ha hb I h λv u s2 x y H2 I2 rx ry q=>hr a b aA s2 σ H2 x y v u Q I2 rx ry q (hs _ _))
def rIxL(K:Fg):R2:=λx y H Q=>∃p xs i v,x=.ref p/\y=.int i/\SqL K H p xs/\atI xs i=some v/\Q v H
def rIxT(K:Fg):R2:=λx y H Q=>∃p xs i v,x=.ref p/\y=.int i/\SqT K H p xs/\atI xs i=some v/\Q v H
def rIxS:R2:=λx y H Q=>∃z i c,x=.str z/\y=.int i/\z.length<=sizeLine/\atI z.cps.toList i=some c/\Q (.str ⟨#[c]⟩) H
theorem aEI:IxR X (rIxL X.K):=by
 intro value slice aA s σ H x y v u Q I rx ry h hs;obtain⟨p,xs,i,z,rfl,rfl,hq,he,q⟩:=h;cases rx;obtain⟨t,rfl⟩:=ry;obtain⟨its,r,pl,hz⟩:=I.list hq;obtain⟨j,h1,h2,h3,h4,h5⟩:=nQ he;obtain⟨w,ew,rw'⟩:=r.get h2;have hl:=r.length;have hn:=jK;have fin:EP X aA σ Q w s:=⟨z,H,I,rw',q⟩;by_cases h0:0<=i
 . have hj:i.toNat=j:=by rw[seqIndex_of h0 h5]at h1;exact aQO h1
   exact item_listR pl.isList h0 (by lia) (by rw[hj];simpa using ew) fin hs
 . have hj:(i+(its.toArray.size:Int)).toNat=j:=by
     rw[seqIndex_neg (by lia) h4]at h1
     rw[aRL,<- hl];exact aQO h1
   exact subscriptTail_builtinR (x:=w) pl.isList.typeIs slot_list_getitem.lookup
    (wpAny_getItem_list_neg (Q:=λr s'=>r=w/\EP X aA σ Q r s') pl.isList (by lia) (by rw[aRL] <;> lia) (by lia) (by rw[hj];simpa using ew) ⟨rfl,fin⟩) hs
theorem aEJ:IxR X (rIxT X.K):=by
 intro value slice aA s σ H x y v u Q I rx ry h hs;obtain⟨p,xs,i,z,rfl,rfl,hq,he,q⟩:=h;cases rx;obtain⟨t,rfl⟩:=ry;obtain⟨its,r,pl,hz⟩:=I.tuple hq;obtain⟨j,h1,h2,h3,h4,h5⟩:=nQ he;obtain⟨w,ew,rw'⟩:=r.get h2;have hl:=r.length;have hn:=jK;have fin:EP X aA σ Q w s:=⟨z,H,I,rw',q⟩;exact subscriptTail_builtinR (x:=w) pl.typeIs slot_tuple_getitem.lookup
  (getItem_tuple (j:=j) (Q:=λr s'=>r=w/\EP X aA σ Q r s') pl (by lia) (by lia) (by rw[aRL,<- hl];exact h1) (by simpa using ew) ⟨rfl,fin⟩) hs
theorem aEK:IxR X rIxS:=by
 intro value slice aA s σ H x y v u Q I rx ry h hs;obtain⟨z,i,c,rfl,rfl,hz,he,q⟩:=h;obtain⟨t,rfl⟩:=rx;obtain⟨t',rfl⟩:=ry;obtain⟨j,h1,h2,h3,h4,h5⟩:=nQ he;have hl:z.cps.toList.length=z.length:=by simp[Str.length]
 rw[hl]at h1 h4 h5;have hn:=jK;exact tail_any (typeIs_str s z t) slot_str_getitem.lookup (getItem_str (c:=c) (by
  have e1:decide (i < -(2 ^ 63:Int))=false:=aQL (by lia)
  have e2:decide (i ≥ 2 ^ 63)=false:=aQL (by lia)
  rw[e1,e2,aSL]) (by rw[h1];simpa using h2) ⟨.str ⟨#[c]⟩,H,I.tok _,⟨_,rfl⟩,q⟩) hs
def rIx(K:Fg):R2:=λx y H Q=>rIxL K x y H Q\/rIxT K x y H Q\/rIxS x y H Q
def aEL:IxR X (rIx X.K):=aEI.or (aEJ.or aEK)
theorem aEM(lo hi:Option Int)(n:Nat):(sliceBounds lo hi none n).1=((HT.sIx n 0 lo:Nat):Int)/\(sliceBounds lo hi none n).2.1=((HT.sIx n n hi:Nat):Int)/\(sliceBounds lo hi none n).2.2=1:=by
 refine⟨?_,?_,rfl⟩
 . cases lo with
   |none=>simp[sliceBounds,HT.sIx]
   |some i =>
    simp only[sliceBounds,HT.sIx,aSM,show(1:Int) > 0 by decide,if_true]
    by_cases h:i<0
    . simp only[h,if_true] <;> lia
    . simp only[h,aSB] <;> lia
 . cases hi with
   |none=>simp[sliceBounds,HT.sIx]
   |some i =>
    simp only[sliceBounds,HT.sIx,aSM,show(1:Int) > 0 by decide,if_true]
    by_cases h:i<0
    . simp only[h,if_true] <;> lia
    . simp only[h,aSB] <;> lia
def aEN(its:List aW2)(lo hi:Option Int):slicePick its.toArray lo hi none=((its.drop (HT.sIx its.length 0 lo)).take (HT.sIx its.length its.length hi-HT.sIx its.length 0 lo)).toArray:=by obtain⟨h1,h2,h3⟩:=aEM lo hi its.toArray.size;unfold slicePick;rw[h1,h2,h3];simp only[sliceRange_one,pick_run,aRL] <;> rfl
def rSlL(K:Fg):V->Option Int->Option Int->Hp->VK->Prop:=λx lo hi H Q=>∃a xs,x=.ref a/\SqL K H a xs/\∀p,H p=none->Q (.ref p) (upd H p (.lst (gH xs lo hi)))
theorem aEO:SlR X (rSlL X.K):=by
 intro aA s σ H x v vl vu lo hi sl Q I rx hs pl pu h;obtain⟨a,xs,rfl,hx,q⟩:=h;cases rx;obtain⟨its,r,ht,hz⟩:=I.list hx;have hlen:=r.length;refine⟨"list", _,slot_list_getitem.lookup,ht.isList.typeIs,?_⟩;refine wpAny_getItem_list_slice ht.isList hs pl pu .none (by simp) ?_ (by rw[aRL] <;> lia)
 rw[aEN,<- hlen];refine⟨.ref s.heap.objs.size,_,I.laid (t':=s.toks) (o:=.lst (gH xs lo hi)) (λb ob q=>hps q) (aRG _) ?_,rfl,q _ (I.hok.fresh (aRG _))⟩;exact⟨aQW (vQ xs lo hi) hz,_,0,(r.drop (HT.sIx xs.length 0 lo)).take (HT.sIx xs.length xs.length hi-HT.sIx xs.length 0 lo),aQP _ rfl⟩
theorem aEP:bY X (.builtin "len") (λxs H Q=>∃p ys,xs=[.ref p]/\(SqL X.K H p ys\/SqT X.K H p ys)/\Q (.int ys.length) H):=by
 intro aA s σ H xs us Q I r h;obtain⟨p,ys,rfl,hq,q⟩:=h;obtain⟨u,rfl,rx⟩:=cE r;cases rx;have hn:=jK;rcases hq with hq|hq
 . obtain⟨its,r',pl,hz⟩:=I.list hq;have hlen:=r'.length;exact Calls.call_len_list pl.isList (by simp only[aRL] <;> lia) ⟨.int ys.length,H,I.tok _,⟨s.toks+1,by rw[aRL,hlen]⟩,q⟩
 . obtain⟨its,r',pl,hz⟩:=I.tuple hq;have hlen:=r'.length;exact len_tuple pl (by simp only[aRL] <;> lia) ⟨.int ys.length,H,I.tok _,⟨s.toks+1,by rw[aRL,hlen]⟩,q⟩
theorem aEQ:bY X (.type "list") (λxs H Q=>∃p ys,xs=[.ref p]/\(SqL X.K H p ys\/SqT X.K H p ys)/\∀l,H l=none->Q (.ref l) (upd H l (.lst ys))):=by
 intro aA s σ H xs us Q I r h; obtain ⟨p, ys, rfl, hq, q⟩ := h; obtain ⟨u, rfl, rx⟩ := cE r; cases rx; have fin : ∀ (its : List aW2), aH ys its → ys.length ≤ sizeLine → ∀ (h' : Heap) (c' : Nat), (∀ b o', s.heap.get? b = some o' → h'.get? b = some o') →
     h'.get? s.heap.objs.size=some { cls:=.type "list", dict:=none,data:=.seq its.toArray c',slots:=#[] } -> EP X aA σ Q (.ref s.heap.objs.size) {s with heap:=h'}:=λits r' hz h' c' kp e =>
  ⟨.ref s.heap.objs.size,_,I.laid (t':=s.toks) kp (aRG _) (show bC X.prog X.w _ h' _ (.lst ys)from⟨hz,its,c',r',e⟩),rfl,q _ (I.hok.fresh (aRG _))⟩
 rcases hq with hq|hq
 . obtain⟨its,r',pl,hz⟩:=I.list hq;have hlen:=r'.length;obtain⟨o,ho,hc,n,hd⟩:=pl.isList;exact call_list_seq p (.inl rfl) ho hc hd (λh' c' kp e=>fin its r' hz h' c' kp e) (by simp only[aRL] <;> lia)
 . obtain⟨its,r',pl,hz⟩:=I.tuple hq;have hlen:=r'.length;obtain⟨o,ho,hc,n,hd⟩:=pl;exact call_list_seq p (.inr rfl) ho hc hd (λh' c' kp e=>fin its r' hz h' c' kp e) (by simp only[aRL] <;> lia)
theorem aER:bY X (.type "tuple") (λxs H Q=>∃p ys,xs=[.ref p]/\((SqL X.K H p ys/\∀l,H l=none->Q (.ref l) (upd H l (.tup ys)))\/(SqT X.K H p ys/\Q (.ref p) H))):=by
 intro aA s σ H xs us Q I r h;obtain⟨p,ys,rfl,h⟩:=h;obtain⟨u,rfl,rx⟩:=cE r;cases rx;rcases h with⟨hq,q⟩|⟨hq,q⟩
 . obtain⟨its,r',pl,hz⟩:=I.list hq;have hlen:=r'.length;refine call_tuple_list pl.isList (λh' kp=>?_) (by simp only[aRL] <;> lia)
   have I1:Inv X aA σ H {s with heap:=h'}:=I.kept (t':=s.toks) kp
   have I2:Inv X aA σ (upd H h'.objs.size (.tup ys)) { s with heap:=h'.push { cls:=.type "tuple", data:=.seq its.toArray } } :=
    I1.laid (t':=s.toks) (λb o e=>hps e) (aRG _) (show bC X.prog X.w _ _ _ (.tup ys)from⟨hz,its,r',gE.new _ _⟩)
   exact⟨.ref h'.objs.size,_,I2,rfl,q _ (I1.hok.fresh (aRG _))⟩
 . obtain⟨its,r',pl,hz⟩:=I.tuple hq;exact call_tuple_same pl ⟨.ref p,H,I,rfl,q⟩
def tyV(K:Fg)(T:String)(x:V)(H:Hp):Prop:=match x with
 |.str _=>T="str"
 |.int _=>T="int"
 | .ref p => (T = "list" ∧ ∃ xs, SqL K H p xs) ∨ (T = "tuple" ∧ ∃ o, K.lookup p = some o ∧ o.cls = .type "tuple" ∧ o.dict = none) ∨
     (T="dict" /\ ((∃kvs,H p=some (.dK kvs))\/∃kvs,H p=some (.dT kvs)))\/(T="set" /\ ∃S n,H p=some (.set S n))
 |_=>False
def vS{σ:St}{T:String}{x:V}{v:aW2}(I:Inv X aA σ H s)(r:aJ x v)(ty:tyV X.K T x H):s.TypeIs v T/\∀a,v=.ref a->∃ob,s.heap.get? a=some ob/\ob.dict=none:=by
 cases x with
 |str z =>
  obtain⟨t,rfl⟩:=r;cases(show T="str" from ty)
  exact⟨typeIs_str s z t,λ_ e=>nomatch e⟩
 |int i =>
  obtain⟨t,rfl⟩:=r;cases(show T="int" from ty)
  exact⟨typeIs_int s i t,λ_ e=>nomatch e⟩
 |ref p =>
  cases r;rcases ty with⟨rfl,xs,hq⟩|⟨rfl,o,hk,hc,hd⟩|⟨rfl,hk⟩|⟨rfl,S,n,hk⟩
  . obtain⟨its,_,pl,_⟩:=I.list hq;refine⟨pl.isList.typeIs,λa e=>?_⟩;cases e;obtain⟨o,n,e,c,hd,_⟩:=pl;exact⟨o,e,hd⟩
  . refine⟨⟨o,I.kIn p o hk,hc⟩,λa e=>?_⟩;cases e;exact⟨o,I.kIn _ o hk,hd⟩
  . have z:∃o,s.heap.get? p=some o/\o.ExactDict:=by
      rcases hk with⟨kvs,hk⟩|⟨kvs,hk⟩
      . obtain⟨_,_,_,_,o,_,_,e,ex,_⟩:=I.hok p _ hk;exact⟨o,e,ex⟩
      . obtain⟨_,_,_,_,o,_,_,e,ex,_⟩:=I.hok p _ hk;exact⟨o,e,ex⟩
    obtain⟨o,e,ex⟩:=z;refine⟨⟨o,e,ex.1⟩,λa e2=>?_⟩;cases e2;exact⟨o,e,ex.2.1⟩
  . obtain⟨o,_,_,_,e,ex,_⟩:=I.hok p _ hk;refine⟨⟨o,e,ex.1⟩,λa e2=>?_⟩;cases e2;exact⟨o,e,ex.2.1⟩
 |_=>exact False.elim ty
def tBM0(K:Fg)(T:String)(r:V->List V->Hp->VK->Prop)(to:TE):TE:=λσ H Q=>to σ H λx H1=>tyV K T x H1/\r x [] H1 Q
def tBM(K:Fg)(T:String)(r:V->List V->Hp->VK->Prop)(to:TE)(t:TA):TE:=λσ H Q=>to σ H λx H1=>tyV K T x H1/\t σ H1 λxs H2=>r x xs H2 Q
variable  {o:Expr}{es:List Expr}{to:TE}{t:TA}{name:Str}{T id:String}{r:V->List V->Hp->VK->Prop}
def aES(pa:PlainAttrs T)(slot:Slot T name id)(hty:typeOf (.builtin id)=pure (.type "method_descriptor"))(hm:MtR X id r)(ho:PE X o to)(hbase:attributeBase o name X.env (eval o X.env)=eval o X.env:=by rfl)(hline:(apos.endLine==cpos.line)=true:=by rfl):PE X (.Call (.Attribute o name apos) [] [] cpos) (tBM0 X.K T r to):=by intro aA s σ H Q I h;refine wpAny_Call_method0_late hbase hline (thn (ho aA s σ H _ I h) λv s1 ⟨x,H1,I1,r1,ty,q1⟩=>?_);obtain⟨h1,h2⟩:=vS I1 r1 ty;exact⟨T,id,pa,slot,hty,h1,h2,aSN rfl (PySem.evalArgs_none (hm aA s1 σ H1 x [] v [] Q I1 r1 .nil q1))⟩
def nS(pa:PlainAttrs T)(slot:Slot T name id)(hty:typeOf (.builtin id)=pure (.type "method_descriptor"))(hm:MtR X id r)(ho:PE X o to)(ha:PA X (e::es) t)(hbase:attributeBase o name X.env (eval o X.env)=eval o X.env:=by rfl)(hfew:((backTo cpos (starEach (e::es) X.env)).all (λx=>!x.1)&&(backToKw cpos (keywordEach [] X.env)).all (λx=>x.1.isSome)&&decide ((e::es).length+([]:List Keyword).length+(if([]:List Keyword).isEmpty then 0 else 1)<30))=true:=by rfl)(hline:(apos.endLine==cpos.line)=true:=by rfl)(hs:starEach (e::es) X.env=(false,eval e X.env)::starEach es X.env:=by rfl)(hplain:(backTo cpos (starEach es X.env)).any (·.1)=false:=by rfl):PE X (.Call (.Attribute o name apos) (e::es) [] cpos) (tBM X.K T r to t):=by
 intro aA s σ H Q I h;refine wpAny_Call_method_late hbase hfew hline rfl (thn (ho aA s σ H _ I h) λv s1 ⟨x,H1,I1,r1,ty,q1⟩=>?_);obtain⟨h1,h2⟩:=vS I1 r1 ty;refine⟨T,id,pa,slot,hty,h1,h2,?_⟩;have hA:=ha cpos aA s1 σ H1 _ I1 q1;rw[hs]at hA ⊢;refine aSN (by show(false||(backTo cpos (starEach es X.env)).any (·.1))=false;rw[hplain] <;> rfl) (aSO ?_)
 exact thn hA λus s2 ⟨vs,H2,I2,r2,q2⟩=>hm aA s2 σ H2 x vs v us Q I2 r1 r2 q2
end
def MtM(X:Cx)(id:String)(r:V->List V->Hp->VK->Prop):Prop :=
 ∀(aA:LAO) (s:aW3) (σ:St) (H:Hp) (x:V) (xs:List V) (v:aW2) (us:List aW2) (Q:VK),Inv X aA σ H s->aJ x v->aH xs us->r x xs H Q ->
  wpAny (model X.prog X.w) X.A (call (.builtin id) (v::us)) (EP X aA σ Q) X.xe s
def aH.one:∀{x:V}{us:List aW2},aH [x] us->∃u,us=[u]/\aJ x u
 |_,_,.cons r .nil=>⟨_,rfl,r⟩
def aH.two:∀{x y:V}{us:List aW2},aH [x,y] us->∃u v,us=[u,v]/\aJ x u/\aJ y v
 |_,_,_,.cons r (.cons q .nil)=>⟨_,_,rfl,r,q⟩
def aH.zero:∀{us:List aW2},aH [] us->us=[]
 |_,.nil=>rfl
theorem aH.dropLast{xs:List V}(h:aH xs us):aH xs.dropLast us.dropLast:=by
 induction h with
 |nil=>exact .nil
 |cons r t ih =>
  cases t with
  |nil=>exact .nil
  |cons q t'=>exact .cons r ih
theorem aET(l:List α):l.eraseIdx (l.length-1)=l.dropLast:=by
 induction l with
 |nil=>rfl
 |cons a r ih =>
  cases r with
  |nil=>rfl
  |cons b r =>
   have e:(a::b::r).length-1=((b::r).length-1)+1:=by have h1:(a::b::r).length=r.length+2:=rfl;have h2:(b::r).length=r.length+1:=rfl;lia
   rw[e,List.eraseIdx_cons_succ,ih]
   all_goals rfl
section
variable {σ:St}{l:Addr}{xs ys zs:List V}
def Inv.lset{its its':List aW2}{f:Array aW2->Array aW2}(I:Inv X aA σ H s)(hH:H l=some (.lst xs))(e:s.heap.get? l=some { cls:=.type "list", data:=.seq its.toArray n })(hf:f its.toArray=its'.toArray)(hv:aH ys its')(hz:ys.length<=sizeLine):Inv X aA σ (upd H l (.lst ys)) {s with heap:=s.heap.update l (Obj.mapSeq f),toks:=t'}:=by
 have q:=PySem.IsL.update e f;rw[hf]at q;refine I.write (x:=l) (e:=l) (by rw[hH];exact trivial) (.inl rfl) (λb' u hb hu=>(aSP s.heap (Obj.mapSeq f) (Ne.symm hb)).trans hu) ⟨_,q⟩ ?_
 exact⟨hz,its',_,hv,q⟩
def Inv.lstM(I:Inv X aA σ H s)(hH:H l=some (.lst xs)):xs.length<=sizeLine/\∃(its:List aW2) (n:Nat),aH xs its/\xs.length=its.length/\s.heap.get? l=some { cls:=.type "list", data:=.seq its.toArray n }:=by obtain⟨z,its,n,r,e⟩:=I.hok l _ hH;exact⟨z,its,n,r,r.length,e⟩
theorem aEU(h:n<=sizeLine):Builtin.List.listTooLong n=false:=by unfold Builtin.List.listTooLong;exact aQL (by lia)
end
def aEV:V->List V->Hp->VK->Prop:=λx vs H Q=>∃l xs y,x=.ref l/\vs=[y]/\H l=some (.lst xs)/\xs.length<sizeLine/\Q .non (upd H l (.lst (xs++[y])))
theorem vT:MtM X "list.append" aEV:=by
 intro aA s σ H x vs v us Q I rx rv h;obtain⟨l,xs,y,rfl,rfl,hH,hz,q⟩:=h;cases rx;obtain⟨u,rfl,ru⟩:=rv.one;obtain⟨z,its,n,r,hl,e⟩:=I.lstM hH;refine call_meets F.slot_list_append ⟨_,e,rfl⟩ F.entry_list_append (F.args_list_append_2 _ _) (PySem.list_append l its.toArray n u (by rw[aRL];lia)) ⟨e,?_⟩
 refine⟨.non,_,I.lset (its':=its++[u]) hH e (by simp) (r.append (.cons ru .nil)) ?_,rfl,q⟩
 rw[aR3,List.length_singleton];lia
def rPop:V->List V->Hp->VK->Prop:=λx vs H Q=>∃l xs y,x=.ref l/\vs=[]/\H l=some (.lst xs)/\xs[xs.length-1]? = some y/\Q y (upd H l (.lst xs.dropLast))
theorem aEW:MtM X "list.pop" rPop:=by
 intro aA s σ H x vs v us Q I rx rv h;obtain⟨l,xs,y,rfl,rfl,hH,hy,q⟩:=h;cases rx;have hus:=rv.zero;subst hus;obtain⟨z,its,n,r,hl,e⟩:=I.lstM hH;obtain⟨u,hu,ru⟩:=r.get hy;have hy':its.toArray[its.toArray.size-1]? = some u:=by show its.toArray[its.length-1]? = some u;rw[<- aSQ,<- hl];exact hu
 refine call_meets F.slot_list_pop ⟨_,e,rfl⟩ F.entry_list_pop (F.args_list_pop_1 _) (MeetsSeq.list_pop_last l its.toArray n u hy' (by rw[aRL];lia)) ⟨e,?_⟩
 refine⟨y,_,I.lset (its':=its.dropLast) hH e ?_ r.dropLast ?_,ru,q⟩
 . show its.toArray.eraseIdxIfInBounds (its.toArray.size-1)=its.dropLast.toArray;rw[aRL,List.eraseIdxIfInBounds_toArray,aET]
 . rw[List.length_dropLast];lia
section
variable {A:aW4}{E:VSP}
end
section
variable [DecidableEq κ]
noncomputable def gI(kvs:List (κ×V))(k:κ):Option V:=(kvs.find? λkv=>decide (kv.1=k)).map (·.2)
noncomputable def eE(kvs:List (κ×V))(k:κ)(v:V):List (κ×V) :=
 if(kvs.any λkv=>decide (kv.1=k))=true then kvs.map (λkv=>if kv.1=k then(kv.1,v)else kv)else kvs++[(k,v)]
def vU{p:κ×V}{r:List (κ×V)}{k:κ}(e:p.1=k):gI (p::r) k=some p.2:=by simp[gI,aSR,e]
def vV{p:κ×V}{r:List (κ×V)}{k:κ}(e:¬ p.1=k):gI (p::r) k=gI r k:=by simp[gI,aSR,e]
theorem vW(k:κ):∀kvs:List (κ×V),(kvs.any λkv=>decide (kv.1=k))=(gI kvs k).isSome
 |[]=>rfl
 |p::r=>by
  rw[List.any_cons];by_cases e:p.1=k
  . simp only[vU e,aSS e,Bool.true_or,Option.isSome_some]
  . rw[vV e,aQL e,Bool.false_or];exact vW k r
theorem vX(kvs:List (κ×V))(k:κ)(v:V):(eE kvs k v).length<=kvs.length+1:=by
 unfold eE;split
 . rw[aR4];lia
 . rw[aR3,aST,aSU];lia
def dD.isSome_eq{o:Option V}{u:Option aW2}(r:dD o u):o.isSome=u.isSome:=by
 cases o with
 |none=>cases u with
  |none=>rfl
  |some _=>exact(show False from r).elim
 |some _=>cases u with
  |none=>exact(show False from r).elim
  |some _=>rfl
theorem dD.getD{o:Option V}{u:Option aW2}{d:V}{d':aW2}(r:dD o u)(rd:aJ d d'):aJ (o.getD d) (u.getD d'):=by
 cases o with
 |none=>cases u with
  |none=>exact rd
  |some _=>exact(show False from r).elim
 |some _=>cases u with
  |none=>exact(show False from r).elim
  |some _=>exact r
theorem KV.any{kvs:List (κ×V)}{vs:List (κ×aW2)}(r:KV kvs vs)(k:κ):(kvs.any λkv=>decide (kv.1=k))=vs.any λkv=>decide (kv.1=k):=by
 unfold KV at r
 induction r with
 |nil=>rfl
 |cons h t ih=>rw[List.any_cons,List.any_cons,ih,h.1]
def KV.repl{kvs:List (κ×V)}{vs:List (κ×aW2)}(r:KV kvs vs)(k:κ){y:V}(ry:aJ y u):KV (kvs.map λkv=>if kv.1=k then(kv.1,y)else kv) (vs.map λkv=>if kv.1=k then(kv.1,u)else kv):=by
 unfold KV at r ⊢
 induction r with
 |nil=>exact .nil
 | @cons p q ps qs h t ih =>
  rw[aSV,aSV];refine .cons ?_ ih;obtain⟨h1,h2⟩:=h;by_cases e:p.1=k
  . rw[if_pos e,if_pos (h1.symm.trans e)];exact⟨h1,ry⟩
  . rw[if_neg e,if_neg (λz=>e (h1.trans z))];exact⟨h1,h2⟩
def KV.put{kvs:List (κ×V)}{vs:List (κ×aW2)}(r:KV kvs vs)(k:κ){y:V}(ry:aJ y u):KV (eE kvs k y) (stored vs k u):=by
 unfold eE stored;rw[r.any k];by_cases e:(vs.any λkv=>decide (kv.1=k))=true
 . rw[if_pos e,if_pos e];exact r.repl k ry
 . rw[if_neg e,if_neg e];exact Paired.snoc r ⟨rfl,ry⟩
def KV.keys{kvs:List (κ×V)}{vs:List (κ×aW2)}(r:KV kvs vs):kvs.map (·.1)=vs.map (·.1):=by
 unfold KV at r
 induction r with
 |nil=>rfl
 |cons h t ih=>rw[aSV,aSV,ih,h.1]
theorem KV.length{kvs:List (κ×V)}{vs:List (κ×aW2)}(r:KV kvs vs):kvs.length=vs.length:=aQN r
end
def vY{k:Key}(r:aJ (kV k) u):(cJ P w).is k u=true:=by
 cases k with
 |inl i=>obtain⟨t,e⟩:=(show ∃t,u=Value.int i t from r);subst e;exact aCO P w i t
 |inr x=>obtain⟨t,e⟩:=(show ∃t,u=Value.str x t from r);subst e;exact aCP P w x t
theorem vZ{P:aW6}{w:aW5}:∀{ks:List Key}{us:List aW2},aH (ks.map kV) us->ItemsAre (cJ P w) ks us
 |[],_,r=>by rw[aSW]at r;cases r;exact .nil
 |k::ks,_,r=>by
  rw[aSV]at r;cases r with
  |cons h t=>exact .cons (vY h) (vZ t)
abbrev KT(H:Hp):List (List Key×V)->List (List Key×Addr×aW2)->Prop:=Paired λp q=>p.1=q.1/\H q.2.1=some (.tup (p.1.map kV))/\aJ p.2 q.2.2
def KT.val{xs:List (List Key×Addr×aW2)}(r:KT H kvs xs)(k:List Key):dD (gI kvs k) ((atKey xs k).map (·.2)):=by
 induction r with
 |nil=>exact True.intro
 | @cons p q ps qs h t ih =>
  obtain⟨h1,_,h2⟩:=h;by_cases e:p.1=k
  . have e':q.1=k:=h1.symm.trans e;have b:atKey (q::qs) k=some q.2:=by simp[atKey,aSR,e']
    rw[vU e,b];exact h2
  . have e':¬ q.1=k:=λz=>e (h1.trans z);have b:atKey (q::qs) k=atKey qs k:=by simp[atKey,aSR,e']
    rw[vV e,b];exact ih
def KT.repl{xs:List (List Key×Addr×aW2)}(r:KT H kvs xs)(k:List Key){y:V}(ry:aJ y u):KT H (kvs.map λkv=>if kv.1=k then(kv.1,y)else kv) (xs.map (putAt k u)):=by
 induction r with
 |nil=>exact .nil
 | @cons p q ps qs h t ih =>
  rw[aSV,aSV];refine .cons ?_ ih;obtain⟨h1,h2,h3⟩:=h;unfold putAt;by_cases e:p.1=k
  . rw[if_pos e,if_pos (h1.symm.trans e)];exact⟨h1,h2,ry⟩
  . rw[if_neg e,if_neg (λz=>e (h1.trans z))];exact⟨h1,h2,h3⟩
def KT.put{xs:List (List Key×Addr×aW2)}(r:KT H kvs xs)(k:List Key){y:V}(hb:H b=some (.tup (k.map kV)))(ry:aJ y u):KT H (eE kvs k y) (storedH xs k b u):=by
 have e:(kvs.any λkv=>decide (kv.1=k))=(atKey xs k).isSome:=by rw[vW,(r.val k).isSome_eq,Option.isSome_map]
 unfold eE storedH;rw[e];by_cases q:(atKey xs k).isSome=true
 . rw[if_pos q,if_pos q];exact r.repl k ry
 . rw[if_neg q,if_neg q];exact Paired.snoc r ⟨rfl,hb,ry⟩
def KT.keeps{xs:List (List Key×Addr×aW2)}(r:KT H kvs xs)(ht:∀b ys,H b=some (.tup ys)->H' b=some (.tup ys)):KT H' kvs xs :=
 Paired.mapP r λ_ _ z=>⟨z.1,ht _ _ z.2.1,z.2.2⟩
section
variable {a:Addr}
def v4{u:HO}(ok:HOk P w H h)(e:Rd H a u):bC P w H h a u:=e.ok ok
def v5{kvs:List (Key×V)}(ok:HOk P w H h)(e:Rd H a (.dK kvs)):kvs.length<=sizeLine/\(a==sysModules)=false/\∃vs,KV kvs vs/\h.DictOf (cJ P w) a vs :=
 show bC P w H h a (.dK kvs)from v4 ok e
def v6{kvs:List (Key×V)}(ok:HOk P w H h)(e:H a=some (.dK kvs)):kvs.length<=sizeLine/\(a==sysModules)=false/\∃vs,KV kvs vs/\h.DictOf (cJ P w) a vs:=v5 ok (.inl e)
def v7{ks:List Key}(ok:HOk P w H h)(e:H a=some (.tup (ks.map kV))):(tupleKind (cJ P w)).is h ks a:=by
 obtain⟨_,its,r,o,h1,h2,_,n,h3⟩:=(show bC P w H h a (.tup (ks.map kV))from ok a _ e)
 exact⟨o,its.toArray,n,h1,h2,h3,by simpa using vZ r⟩
def dt_rd(ok:HOk P w H h)(e:Rd H a (.dT kvs)):kvs.length<=sizeLine/\(a==sysModules)=false/\∃xs,KT H kvs xs/\h.DictOfH (tupleKind (cJ P w)) a xs:=by
 obtain⟨z,y,xs,r,o,es,ep,h1,h2,h3,h4,h5⟩:=(show bC P w H h a (.dT kvs)from v4 ok e)
 refine⟨z,y,xs,r,o,es,ep,h1,h2,h3,h4,λx hx=>?_,h5⟩;have all:∀{l:List (List Key×V)}{m:List (List Key×Addr×aW2)},KT H l m->∀x∈m,(tupleKind (cJ P w)).is h x.1 x.2.1:=by
  intro l m q
  induction q with
  |nil=>intro x hx;exact nomatch hx
  | @cons p q ps qs hq t ih =>
   intro x hx;rcases aQZ.mp hx with e|hx
   . subst e;exact v7 ok (by rw[<- hq.1];exact hq.2.1)
   . exact ih x hx
 exact all r x hx
def dt_of(ok:HOk P w H h)(e:H a=some (.dT kvs)):kvs.length<=sizeLine/\(a==sysModules)=false/\∃xs,KT H kvs xs/\h.DictOfH (tupleKind (cJ P w)) a xs:=dt_rd ok (.inl e)
end
def DGet(H:Hp)(a:Addr)(y:V)(r:Option V):Prop :=
 (∃kvs k,Rd H a (.dK kvs)/\y=kV k/\r=gI kvs k)\/∃kvs k b,Rd H a (.dT kvs)/\y=.ref b/\H b=some (.tup (k.map kV))/\r=gI kvs k
def lD(H:Hp)(a:Addr)(y v:V)(H':Hp):Prop :=
 (∃kvs k,H a=some (.dK kvs)/\y=kV k/\kvs.length<sizeLine/\H'=upd H a (.dK (eE kvs k v))) \/
 ∃kvs k b,H a=some (.dT kvs)/\y=.ref b/\H b=some (.tup (k.map kV))/\kvs.length<sizeLine/\H'=upd H a (.dT (eE kvs k v))
theorem lD.k{a:Addr}{kvs:List (Key×V)}{k:Key}(e:H a=some (.dK kvs))(hl:kvs.length<sizeLine):lD H a (kV k) v (upd H a (.dK (eE kvs k v))):=.inl ⟨kvs,k,e,rfl,hl,rfl⟩
section
variable {σ:St}{a:Addr}{y:V}{r:aW2}{o:Option V}{A:aW4}{E:VSP}
def Inv.big(I:Inv X aA σ H s):sysModules<s.heap.objs.size:=by have h:mainGlobals<s.heap.objs.size:=(I.mod.glob.keeps I.bk).lt;exact aSX (by decide) h
def nT{ob:HO}(I:Inv X aA σ H s)(mu:Mut (H a))(hs:Heap.SameBut a s.heap h')(he:∃q,h'.get? a=some q)(new:bC X.prog X.w (upd H a ob) h' a ob):Inv X aA σ (upd H a ob) {s with heap:=h',toks:=t'} :=
 I.write (x:=a) (e:=a) mu (.inl rfl) (λb q hb z=>(hs.2 b hb).trans z) he new
def v8{kvs:List (Key×V)}{vs:List (Key×aW2)}(z:kvs.length<=sizeLine)(hd:(a==sysModules)=false)(rel:KV kvs vs)(dd:h'.DictOf (cJ P w) a vs):bC P w H' h' a (.dK kvs):=⟨z,hd,vs,rel,dd⟩
theorem aEX{Q:Unit->aW3->Prop}(hu:A.units+1<cLine)(I:Inv X aA σ H s)(g:lD H a y v H')(ry:aJ y u)(rv:aJ v r)(h:∀s',Inv X aA σ H' s'->Q () s'):wpAny (model X.prog X.w) A (setItem (.ref a) u r) Q E s:=by
 rcases g with⟨kvs,k,e,ey,l,eH⟩|⟨kvs,k,b,e,ey,eb,l,eH⟩
 . subst ey eH;obtain⟨z,hd,vs,rel,dd⟩:=v6 I.hok e;have hz:vs.length<=sizeLine:=by rw[<- rel.length];exact z
   have hl:(eE kvs k v).length<=sizeLine:=by have:=vX kvs k v;lia
   refine wpAny_setItem_pairs (hsz:=hz) (vY ry) dd λh' dd' hs=>h _ ?_;have he:∃q,h'.get? a=some q:=let⟨q,_,_,hq,_⟩:=dd';⟨q,hq⟩
   exact nT I (by rw[e];exact True.intro) hs he (v8 hl hd (rel.put k rv) dd')
 . subst ey eH;cases(show u=Value.ref b from ry)
   obtain⟨z,hd,xs,rel,dd⟩:=dt_of I.hok e;have hz:xs.length<=sizeLine:=by rw[<- aQN rel];exact z
   have hl:(eE kvs k v).length<=sizeLine:=by have:=vX kvs k v;lia
   refine wpAny_setItem_heap (hsz:=hz) (tupleKind_room_in1 hu) (v7 I.hok eb) dd λh' dd' hs=>h _ ?_;obtain⟨q,es,ep,hq,h2,h3,h4,_,h5⟩:=dd';refine nT I (by rw[e];exact True.intro) hs ⟨q,hq⟩ ⟨hl,hd,_,(rel.put k eb rv).keeps λc ys ec=>?_,q,es,ep,hq,h2,h3,h4,h5⟩
   rw[aL (ne_of ec e (λz=>nomatch z))];exact ec
end
section
variable {σ:St}{a:Addr}{kvs:List (Key×V)}{k:Key}{A:aW4}{E:VSP}
end
def sDPut(td ty tv:TE):TS:=λD σ H=>tv σ H λv H1=>td σ H1 λx H2=>ty σ H2 λy H3=>∃a H4,x=.ref a/\lD H3 a y v H4/\D.nx σ H4
section
variable  {o i value:Expr}{tpos:Pos}{ty tv:TE}
def aEY(hu:X.A.units+1<cLine)(ho:PE X o td)(hi:PE X i ty)(hv:PE X value tv)(hs:swapsWith value (some (.Subscript o i pos')) pos.line X.env=pure false):PS X (.Assign [.Subscript o i pos'] value pos) (sDPut td ty tv):=by intro aA s σ H D I h;refine wpAny_Assign_Subscript (thn (hv aA s σ H _ I h) λr s1 ⟨v,H1,I1,rv,q1⟩=>thn (ho aA s1 σ H1 _ I1 q1) λu s2 ⟨x,H2,I2,rx,q2⟩=>thn (hi aA s2 σ H2 _ I2 q2) λiv s3 ⟨y,H3,I3,ry,a,H4,ex,g,q3⟩=>?_) hs;subst ex;obtain rfl:u=Value.ref a:=rx;exact aEX hu I3 g ry rv λs4 I4=>⟨σ,H4,I4,q3⟩
end
def aEZ(h:Heap)(hb:sysModules<h.objs.size):bC P w H (h.push { cls:=.type "dict", data:=.dict #[] }) h.objs.size (.dK []) :=
 ⟨aRQ _,aQM.mpr (Ne.symm (aQT hb)),[],.nil,Heap.DictOf.new h⟩
def aE0:TE:=λ_ H Q=>∀p,H p=none->Q (.ref p) (upd H p (.dK []))
def aE1:PE X (.Dict [] [] pos) aE0:=λaA s σ H Q I h =>
 wpAny_Dict_empty ⟨.ref s.heap.objs.size,_,I.laid (a:=s.heap.objs.size) (o:=.dK []) (t':=s.toks) (λ_ _ q=>hps q) (aRG _) (aEZ s.heap I.big),rfl,h _ (I.hok.fresh (aRG _))⟩
structure M1(X:Cx)(o:Expr)(m:Str)(apos:Pos)(e:Expr)(cpos:Pos):Prop where
 base:attributeBase o m X.env (eval o X.env)=eval o X.env
 few:((backTo cpos (starEach [e] X.env)).all (λx=>!x.1)&&(backToKw cpos (keywordEach [] X.env)).all (λx=>x.1.isSome)
  && decide (([e]:List Expr).length+([]:List Keyword).length+(if([]:List Keyword).isEmpty then 0 else 1)<30))=true
 line:(apos.endLine==cpos.line)=true
 trees:backTo cpos (starEach [e] X.env)=[(false,eval e X.env)]
structure M2(X:Cx)(o:Expr)(m:Str)(apos:Pos)(e f:Expr)(cpos:Pos):Prop where
 base:attributeBase o m X.env (eval o X.env)=eval o X.env
 few:((backTo cpos (starEach [e,f] X.env)).all (λx=>!x.1)&&(backToKw cpos (keywordEach [] X.env)).all (λx=>x.1.isSome)
  && decide (([e,f]:List Expr).length+([]:List Keyword).length+(if([]:List Keyword).isEmpty then 0 else 1)<30))=true
 line:(apos.endLine==cpos.line)=true
 trees:backTo cpos (starEach [e,f] X.env)=[(false,eval e X.env),(false,eval f X.env)]
section
variable {σ:St}{a:Addr}{y d:V}{r:aW2}{o:Option V}{A:aW4}{E:VSP}
end
section
variable  {o f:Expr}{ty tx:TE}
end
section
variable {σ:St}{a:Addr}{kvs:List (Key×V)}{A:aW4}{E:VSP}
def aE2{Q:VSP}(I:Inv X aA σ H s)(e:Rd H a (.dK kvs))(h:∀p s',H p=none->Inv X aA σ (upd H p (.dK kvs)) s'->Q (.ref p) s'):wpAny (model X.prog X.w) A (call (.type "dict") [.ref a]) Q E s:=by
 obtain⟨z,hd,vs,rel,dd⟩:=v5 I.hok e;refine kt_call_dict hd dd (by rw[<- rel.length];exact z) λh' dd' hs=>?_
 refine h _ _ (I.hok.fresh (aRG _)) (I.laid (a:=s.heap.objs.size) (o:=.dK kvs) (t':=s.toks) (λb q hq=>?_) (aRG _) (v8 z (aQM.mpr (Ne.symm (aQT I.big))) rel dd'));exact(hs.2 b (aQT (aQQ hq))).trans (hps hq)
end
section
variable {σ:St}{a:Addr}{y:V}{A:aW4}{E:VSP}
end
end L2
namespace Att
open PySem.W PySem.Calls
def aE3{P:Params}:∀(ns:List Int) (vs:List aW2),WellAll P h vs (ns.map WData.int)->IntsAre vs ns:=by
 intro ns
 induction ns with
 |nil=>intro vs w;rw[aSW]at w;cases w;exact .nil
 |cons n ns ih =>
  intro vs w;rw[aSV]at w;cases w with
  |cons a b=>cases a;exact .cons _ _ (ih _ b)
theorem aE4{l:OpenLaw}(hn:l.most=some n){P:Params}{args:List WData}{vals:List aW2}(hpre:l.row.toRowW.claim.pre args=true)(hwl:WellAll P h vals args):∃a vs ns,vals=[Value.ref a]/\args=[WData.list (ns.map WData.int)]/\h.get? a=some { cls:=.type "list", data:=.seq vs.toArray }/\IntsAre vs ns/\ns.length<=n:=by
 have hsh:WShape.hasAll [] args [.list .int]=true:=(pre_splitW hpre).1;have hc:l.pre.holds [] {args:=args}=true:=(pre_splitW hpre).2;obtain⟨d,r,rfl,h1,h2⟩:=hasAllW_cons hsh;obtain rfl:=hasAllW_nil h2;obtain⟨xs,rfl,h3⟩:=hasW_list h1;obtain⟨ns,rfl⟩:=items_int h3;have hlen:ns.length<=n:=by
  unfold OpenLaw.pre at hc;have h4:(WTm.not (.lt (.lit (.int (n:Int))) (.len (.arg 0)))).holds [] {args:=[.list (ns.map .int)]}=true:=by have h4:=(holds_andW hc).1;rw[hn]at h4;exact h4
  have h5:=condW_of h4 (w_not (w_lt w_lit (w_len_list (w_arg rfl))));rw[aR4]at h5;refine Nat.le_of_not_lt λq=>?_;have q':(n:Int)<((ns.length:Nat):Int):=by lia
  first
   |(rw[aSS q']at h5;exact absurd h5 (by decide))
   |(simp at h5;lia)
 cases hwl with
 |cons w1 w2 =>
  cases w2;cases w1 with
  |list ho hall=>exact⟨_,_,ns,rfl,rfl,ho,aE3 ns _ hall,hlen⟩
def aE5(l:OpenLaw)(args:List WData):l.row.toRowW.claim.post args (.bool true) args=true :=
 postW_of (r:=l.row.toRowW) (X:=(true==true))
  (show WShape.has [] (.bool true) .bool=true by first|rfl|decide|simp[WShape.has,WShape.arms,WShape.armsAll])
  (show(WTm.eq .res (.lit (.bool true))).value [] {args:=args,res:=some (.bool true),after:=args}=some (.bool (true==true))from w_eq_bool (w_res rfl) w_lit) rfl
def aE6{l:OpenLaw}{q:aW6}{d:DefRec}(hn:l.most=some n)(hdf:d.params.defaults=[])(call:∀(w:aW5) (s₀ s₁:aW3) (mg mb:SOV) (fa:Addr) (o:Obj) (pm cd doc:aW2) (a:Addr) (vs:List aW2) (ns:List Int),Ground q loose [] XP w s₀ mg mb s₁.heap->YP w s₁.heap->s₁.heap.get? fa=some o->o.data=.func (docDef d.name d.params d.body d.scope pm cd doc)->s₁.heap.CodeRec cd d.name->mg d.name=some (.ref fa)->s₁.heap.get? a=some { cls:=.type "list", data:=.seq vs.toArray } -> IntsAre vs ns->ns.length<=n->s₁.gens = #[]->codeAny (model l.prog w) callerA (.call (.ref fa) ⟨[.ref a],[]⟩) (λr s'=>r=.ok (.ret (.bool true))/\OldK s₁.heap s'.heap/\s'.os=s₁.os/\AllBare s'.gens) s₁):WalkO q loose XP YP l.row.toRowW d [] (λf vs=>PySem.call f vs):=by intro w s₀ s₁ mg mb G Y fa o pm cd doc dV kV ho hd hcd hD hmg hg args vals as hpre hlay hrd hwl hlo;obtain rfl:dV=.none:=Dflts.none hD hdf;obtain rfl:kV=.none:=Dflts.noKw hD;obtain⟨a,vs,ns,rfl,rfl,hobj,hints,hlen⟩:=aE4 hn hpre hwl;refine enter_call (aSY (call w s₀ s₁ mg mb fa o pm cd doc a vs ns G Y ho (fd_plain hd) hcd hmg hobj hints hlen hg) λr s' hq=>?_);obtain⟨rfl,h2,h3,h4⟩:=hq;exact⟨.inl ⟨.bool true,.bool true,[],rfl,λ_=>rfl,.bool true,aE5 l _,λ_=>⟨List.Pairwise.nil,λ_ hm=>(nomatch hm)⟩⟩,h2,h3,h4⟩
section
variable {A:aW4}{E:VSP}{K:Frag}
def ledger(h:Heap)(L d:Addr):LAO:=(List.range h.objs.size).filterMap λa=>if a=L\/a=d then none else(h.get? a).map λo=>(a,o)
end
end Att
namespace L2
theorem v9:∀{vs:List aW2}{ns:List Int},IntsAre vs ns->aH (ns.map V.int) vs
 |_,_,.nil=>.nil
 |_,_,.cons n t h=>.cons ⟨t,rfl⟩ (v9 h)
noncomputable abbrev KOf(_:K.In h):Fg:=K
def nU(s:Stmt):Arguments:=match s with
 |.FunctionDef _ a _ _ _ _ _ _ _ _=>a
 |_=>{posonlyargs:=[],args:=[],vararg:=none,kwonlyargs:=[],kw_defaults:=[],kwarg:=none,defaults:=[]}
def iK(s:Stmt):List Stmt:=match s with
 |.FunctionDef _ _ b _ _ _ _ _ _ _=>b
 |_=>[]
def cV(s:Stmt):Scope:=match s with
 |.FunctionDef _ _ _ _ _ _ sc _ _ _=>sc
 |_=>{kind:=.function,names:=[],isGenerator:=false,isCoroutine:=false}
structure Fun(K:Fg)(x qual:Str)(st:Stmt)(f:Addr)(fd:FuncData):Prop where
 ex:∃(oc:aW2) (od:Option Addr) (kV doc pm:aW2) (an:Option Addr) (cdv ct:aW2) (osl:Array (Option aW2)),
  fd=W.fnOf x qual (nU st) (iK st) (cV st) .none kV doc pm an cdv ct/\K.lookup f=some ⟨oc,od,.func fd,osl⟩/\W.codeIn K cdv qual=true
 kp:W.keepIn K (.ref f)=true
def aE7{f:Addr}{oc:aW2}{od an:Option Addr}{osl:Array (Option aW2)}{kV doc pm ct:aW2}(l:K.lookup f=some ⟨oc,od,.func (W.fnOf x qual (nU st) (iK st) (cV st) .none kV doc pm an cdv ct),osl⟩)(c:W.codeIn K cdv qual=true)(k:W.keepIn K (.ref f)=true):Fun K x qual st f (W.fnOf x qual (nU st) (iK st) (cV st) .none kV doc pm an cdv ct):=⟨⟨oc,od,kV,doc,pm,an,cdv,ct,osl,rfl,l,c⟩,k⟩
def aD(H H':Hp):Prop:=∀b o,H b=some o->H' b=some o
def aD.refl(H:Hp):aD H H:=λ_ _ h=>h
def aD.trans{H1 H2:Hp}(a:aD H H1)(b:aD H1 H2):aD H H2:=λc o h=>b c o (a c o h)
def aD.free(e:aD H H'){l:Addr}(h:H' l=Option.none):H l=Option.none:=by
 cases q:H l with
 |none=>rfl
 |some o=>rw[e l o q]at h;cases h
def aD.seq{a:Addr}{xs:List V}(e:aD H H')(h:SqL K H a xs):SqL K H' a xs:=by
 rcases h with(h|⟨o,h⟩)|h
 . exact .inl (.inl (e _ _ h))
 . exact .inl (.inr ⟨o,e _ _ h⟩)
 . exact .inr h
section
variable [DecidableEq κ]
end
def N.ind{P:N->Prop}(hi:∀n,P (.i n))(hs:∀x,P (.s x))(ht:∀xs,(∀x∈xs,P x)->P (.t xs))(k:N):P k :=
 N.rec (motive_1:=P) (motive_2:=λxs=>∀x∈xs,P x) hi hs ht (λ_ h=>nomatch h) (λa l h1 h2 x hx=>by
  rcases aQZ.mp hx with rfl|hx
  . exact h1
  . exact h2 x hx) k
mutual
def N.eq:N->N->Bool
 |.i n,.i m=>n==m
 |.s x,.s y=>x==y
 |.t xs,.t ys=>N.eqL xs ys
 |_,_=>false
def N.eqL:List N->List N->Bool
 |[],[]=>true
 |x::xs,y::ys=>N.eq x y&&N.eqL xs ys
 |_,_=>false
end
theorem N.eqL_iff:∀{xs ys:List N},(∀x∈xs,∀y,N.eq x y=true↔x=y)->(N.eqL xs ys=true↔xs=ys)
 |[],[],_=>by simp[N.eqL]
 |[],_::_,_=>by simp[N.eqL]
 |_::_,[],_=>by simp[N.eqL]
 |x::xs,y::ys,h=>by rw[N.eqL,aSJ,h x mcs y,N.eqL_iff λz hz=>h z (mcm hz),aSZ]
def N.eq_iff(k:N):∀y,N.eq k y=true↔k=y:=by
 induction k using N.ind with
 |hi n=>intro y;cases y <;> simp[N.eq]
 |hs x=>intro y;cases y <;> simp[N.eq]
 |ht xs ih =>
  intro y;cases y with
  |t ys=>rw[N.eq,N.eqL_iff ih];simp
  |_=>simp[N.eq]
instance:DecidableEq N:=λa b=>decidable_of_iff _ (N.eq_iff a b)
mutual
def N.py:N->PyData
 |.i n=>.int n
 |.s x=>.str x
 |.t xs=>.tuple (N.pyL xs)
def N.pyL:List N->List PyData
 |[]=>[]
 |x::xs=>N.py x::N.pyL xs
end
mutual
def N.dp:N->Nat
 |.i _=>0
 |.s _=>0
 |.t xs=>N.dpL xs+1
def N.dpL:List N->Nat
 |[]=>0
 |x::xs=>max (N.dp x) (N.dpL xs)
end
theorem N.dp_mem:∀{xs:List N}{x:N},x∈xs->x.dp<=N.dpL xs
 |y::ys,x,h=>by
  rw[N.dpL];rcases aQZ.mp h with rfl|h
  . lia
  . have:=N.dp_mem h;lia
theorem N.py_depthL:∀{xs:List N},(∀x∈xs,x.py.depth=x.dp)->PyData.depthAll (N.pyL xs)=N.dpL xs
 |[],_=>by simp[N.pyL,N.dpL,PyData.depthAll]
 |x::xs,h=>by simp only[N.pyL,N.dpL,PyData.depthAll];rw[h x mcs,N.py_depthL λz hz=>h z (mcm hz)]
def N.py_depth(k:N):k.py.depth=k.dp:=by
 induction k using N.ind with
 |hi n=>simp[N.py,N.dp,PyData.depth]
 |hs x=>simp[N.py,N.dp,PyData.depth]
 |ht xs ih=>simp only[N.py,N.dp,PyData.depth];rw[N.py_depthL ih]
theorem N.py_eqvL:∀{xs ys:List N},(∀x∈xs,∀y:N,PyData.eqv x.py y.py=decide (x=y))->PyData.eqvAll (N.pyL xs) (N.pyL ys)=decide (xs=ys)
 |[],[],_=>by simp[N.pyL,PyData.eqvAll]
 |[],_::_,_=>by simp[N.pyL,PyData.eqvAll]
 |_::_,[],_=>by simp[N.pyL,PyData.eqvAll]
 |x::xs,y::ys,h=>by simp only[N.pyL,PyData.eqvAll];rw[h x mcs y,N.py_eqvL λz hz=>h z (mcm hz)];by_cases e1:x=y <;> by_cases e2:xs=ys <;> simp[e1,e2]
def N.py_eqv(k:N):∀y:N,PyData.eqv k.py y.py=decide (k=y):=by
 induction k using N.ind with
 |hi n =>
  intro y;cases y with
  |i m=>simp only[N.py,PyData.eqv];by_cases e:n=m <;> simp[e]
  |s x=>simp[N.py,PyData.eqv]
  |t xs=>simp[N.py,PyData.eqv]
 |hs x =>
  intro y;cases y with
  |i m=>simp[N.py,PyData.eqv]
  |s z=>simp only[N.py,PyData.eqv];by_cases e:x=z <;> simp[e]
  |t xs=>simp[N.py,PyData.eqv]
 |ht xs ih =>
  intro y;cases y with
  |i m=>simp[N.py,PyData.eqv]
  |s z=>simp[N.py,PyData.eqv]
  |t ys=>simp only[N.py,PyData.eqv];rw[N.py_eqvL ih];by_cases e:xs=ys <;> simp[e]
mutual
def IsN(h:Heap):N->aW2->Prop
 |.i n,v=>∃t,v=.int n t
 |.s x,v=>(∃t,v=.str x t)/\PyData.strOk x=true
 |.t xs,v=>∃a o items n,v=.ref a/\h.get? a=some o/\o.cls=.type "tuple" /\ o.data=.seq items n/\aQ h xs items.toList
def aQ(h:Heap):List N->List aW2->Prop
 |[],vs=>vs=[]
 |x::xs,vs=>∃v us,vs=v::us/\IsN h x v/\aQ h xs us
end
theorem aQ.mem:∀{h:Heap}{xs:List N}{vs:List aW2},aQ h xs vs->∀v∈vs,∃x∈xs,IsN h x v
 |h,[],vs,q,v,hv=>by rw[aQ]at q;subst q;cases hv
 |h,x::xs,vs,q,v,hv=>by
  rw[aQ]at q;obtain⟨u,us,rfl,q1,q2⟩:=q;rcases aQZ.mp hv with rfl|hv
  . exact⟨x,mcs,q1⟩
  . obtain⟨y,hy,e⟩:=q2.mem v hv;exact⟨y,mcm hy,e⟩
theorem aQ.map:∀{h h':Heap}{xs:List N}{vs:List aW2},aQ h xs vs->(∀x∈xs,∀v,IsN h x v->IsN h' x v)->aQ h' xs vs
 |h,h',[],vs,q,k=>by rw[aQ]at q ⊢;exact q
 |h,h',x::xs,vs,q,k=>by rw[aQ]at q ⊢;obtain⟨u,us,e,q1,q2⟩:=q;exact⟨u,us,e,k x mcs u q1,q2.map λy hy=>k y (mcm hy)⟩
def IsN.keeps{d:Addr}{o:Obj}{es ep:_}(ho:h.get? d=some o)(hd:o.data=.dict es ep)(hs:Heap.SameBut d h h')(k:N):∀v,IsN h k v->IsN h' k v:=by
 induction k using N.ind with
 |hi n=>intro v q;rw[IsN]at q ⊢;exact q
 |hs x=>intro v q;rw[IsN]at q ⊢;exact q
 |ht xs ih =>
  intro v q;rw[IsN]at q ⊢;obtain⟨a,o',items,n,e,ha,hc,hd',hi⟩:=q;have hne:a≠d:=by rintro rfl;obtain rfl:o'=o:=aQO (ha.symm.trans ho);rw[hd]at hd';exact nomatch hd'
  exact⟨a,o',items,n,e,(hs.2 a hne).trans ha,hc,hd',hi.map ih⟩
theorem aQ.readsL:∀{h:Heap}{xs:List N}{vs:List aW2},aQ h xs vs->(∀x∈xs,∀v,IsN h x v->(∃as,Reads h v x.py as)/\x.py.canLay0=true)->(∃as,ReadsAll h vs (N.pyL xs) as)/\PyData.canLayAll0 (N.pyL xs)=true
 |h,[],vs,q,k=>by rw[aQ]at q;subst q;exact⟨⟨_,.nil⟩,by simp[N.pyL,PyData.canLayAll0]⟩
 |h,x::xs,vs,q,k=>by rw[aQ]at q;obtain⟨u,us,rfl,q1,q2⟩:=q;obtain⟨⟨as,ra⟩,ca⟩:=k x mcs u q1;obtain⟨⟨bs,rb⟩,cb⟩:=q2.readsL λy hy=>k y (mcm hy);exact⟨⟨_,.cons ra rb⟩,by simp only[N.pyL,PyData.canLayAll0,ca,cb,Bool.and_self]⟩
def IsN.reads(k:N):∀v,IsN h k v->(∃as,Reads h v k.py as)/\k.py.canLay0=true:=by
 induction k using N.ind with
 |hi n=>intro v q;rw[IsN]at q;obtain⟨t,rfl⟩:=q;exact⟨⟨_,.int n t⟩,rfl⟩
 |hs x=>intro v q;rw[IsN]at q;obtain⟨⟨t,rfl⟩,hk⟩:=q;exact⟨⟨_,.str x t⟩,by simpa only [N.py,PyData.canLay0]using hk⟩
 |ht xs ih=>intro v q;rw[IsN]at q;obtain⟨a,o',items,n,rfl,ha,hc,hd',hi⟩:=q;obtain⟨⟨as,ra⟩,ca⟩:=hi.readsL ih;exact⟨⟨_,.tuple ha hc hd' ra⟩,by simpa only [N.py,PyData.canLay0]using ca⟩
theorem aQ.inj:∀{h:Heap}{xs ys:List N}{vs:List aW2},(∀x∈xs,∀y v,IsN h x v->IsN h y v->x=y)->aQ h xs vs->aQ h ys vs->xs=ys
 |h,[],[],vs,_,_,_=>rfl
 |h,[],y::ys,vs,_,p,q=>by rw[aQ]at p;subst p;rw[aQ]at q;obtain⟨_,_,e,_⟩:=q;cases e
 |h,x::xs,[],vs,_,p,q=>by rw[aQ]at q;subst q;rw[aQ]at p;obtain⟨_,_,e,_⟩:=p;cases e
 |h,x::xs,y::ys,vs,k,p,q=>by rw[aQ]at p q;obtain⟨u,us,rfl,p1,p2⟩:=p;obtain⟨_,_,e,q1,q2⟩:=q;cases e;rw[k x mcs y _ p1 q1,aQ.inj (λz hz=>k z (mcm hz)) p2 q2]
theorem IsN.inj(k:N):∀y v,IsN h k v->IsN h y v->k=y:=by
 induction k using N.ind with
 |hi n =>
  intro y v p q;rw[IsN]at p;obtain⟨t,rfl⟩:=p;cases y with
  |i m=>rw[IsN]at q;obtain⟨u,e⟩:=q;cases e;rfl
  |s x=>rw[IsN]at q;obtain⟨⟨u,e⟩,_⟩:=q;cases e
  |t xs=>rw[IsN]at q;obtain⟨_,_,_,_,e,_⟩:=q;cases e
 |hs x =>
  intro y v p q;rw[IsN]at p;obtain⟨⟨t,rfl⟩,_⟩:=p;cases y with
  |i m=>rw[IsN]at q;obtain⟨u,e⟩:=q;cases e
  |s x=>rw[IsN]at q;obtain⟨⟨u,e⟩,_⟩:=q;cases e;rfl
  |t xs=>rw[IsN]at q;obtain⟨_,_,_,_,e,_⟩:=q;cases e
 |ht xs ih =>
  intro y v p q;rw[IsN]at p;obtain⟨a,o,items,n,rfl,ha,hc,hd,hi⟩:=p;cases y with
  |i m=>rw[IsN]at q;obtain⟨u,e⟩:=q;cases e
  |s x=>rw[IsN]at q;obtain⟨⟨u,e⟩,_⟩:=q;cases e
  |t ys =>
   rw[IsN]at q;obtain⟨a',o',items',n',e,ha',_,hd',hi'⟩:=q;cases e;obtain rfl:o=o':=aQO (ha.symm.trans ha');rw[hd]at hd';injection hd' with h1 _
   subst h1;rw[aQ.inj ih hi hi']
mutual
def N.dr:N->Nat
 |.i _=>1
 |.s _=>1
 |.t xs=>N.drL xs+1
def N.drL:List N->Nat
 |[]=>0
 |x::xs=>N.dr x+N.drL xs
end
section
variable {A:aW4}{E:VSP}
theorem wA:∀(xs:List N) (y:N),N.drL (xs++[y])=N.drL xs+N.dr y
 |[],y=>by simp[N.drL]
 |x::xs,y=>by rw[aS0,N.drL,wA xs y,N.drL,aS1]
theorem wB:∀(xs:List N) (y:N),dR w (xs++[y])=dR w xs++[aY w y]
 |[],y=>by simp[dR]
 |x::xs,y=>by rw[aS0,dR,wB xs y,dR,aS0]
theorem qD(k:N):∀{A:aW4}{E:VSP}{s:aW3}{v:aW2}{Q:Int->aW3->Prop},A.units+k.dp<cLine->IsN s.heap k v->Q (aY w k) {s with toks:=s.toks+k.dr} -> wpAny (model prog w) A (pyHash v) Q E s:=by
 induction k using N.ind with
 |hi n=>intro A E s v Q hu hk h;rw[IsN]at hk;obtain⟨t,rfl⟩:=hk;rw[aY,N.dr]at h;exact wpAny_pyHash_int h
 |hs x=>intro A E s v Q hu hk h;rw[IsN]at hk;obtain⟨⟨t,rfl⟩,_⟩:=hk;rw[aY,N.dr]at h;exact wpAny_pyHash_str h
 |ht xs ih =>
  intro A E s v Q hu hk h;rw[IsN]at hk;obtain⟨a,o,items,n,rfl,ho,hc,hd,hi⟩:=hk;rw[N.dp]at hu;have hT:s.TypeIs (.ref a) "tuple" := ⟨o,ho,hc⟩;unfold pyHash
  first|unfold pyHashByItsType|skip
  first|refine aRD (wpAny_cRoomFor_or (.inr (by lia)) ?_)|skip
  refine aRD (aS2 hT F.slot_tuple_hash.lookup ?_);show wpAny _ _ (if(some (Value.builtin "tuple.__hash__")==some Value.none)=true then _ else _) Q E s;rw[if_neg (by rw[beq_builtin_none];exact aRA)]
  refine aRD (aS2 hT F.slot_tuple_hash.lookup ?_);show wpAny _ _ (callSpecialIfBoundUnlessNone? (.ref a) "__hash__" _>>=_) Q E s;refine aRD (wpAny_callSpecialIfBoundUnlessNone?_slot hT F.slot_tuple_hash (aSH F.slot_tuple_hash hT F.entry_tuple_hash ?_ (F.args_tuple_hash_1 _)));show wpAny _ _ (Builtin.Tuple.tupleItemsOf (.ref a)>>=_) _ _ s;refine aRD (wpAny_tupleItemsOf ho hd ?_);refine aRD ?_;rw[<- aS3];refine aS4 _
   (λrest (b:Array Int) s'=>∃done left,xs=done++left/\aQ s.heap left rest/\b.toList=dR w done/\s'={s with toks:=s.toks+N.drL done})
   _ ?_ ?_ _ _ ⟨[],xs,rfl,hi,by simp[dR],by simp[N.drL]⟩
  . rintro x rest b s' ⟨done,left,e,hl,hb,rfl⟩;cases left with
    |nil=>rw[aQ]at hl;cases hl
    |cons k ks =>
     rw[aQ]at hl;obtain⟨_,_,e',h1,hl'⟩:=hl;cases e';have hm:k∈xs:=by rw[e];simp
     refine aRD (ih k hm (A:=A.in1) (by have:=N.dp_mem hm;show A.units+1+_<_;lia) h1 ?_)
     have fin:∃done' left',xs=done'++left'/\aQ s.heap left' rest/\(b.push (aY w k)).toList=dR w done'/\({s with toks:=s.toks+N.drL done+k.dr}:aW3)={s with toks:=s.toks+N.drL done'} :=
      ⟨done++[k],ks,by rw[e];simp,hl',by rw[wB,aS5,hb],by rw[wA,aS1]⟩
     first
      |exact aRC fin
      |exact aRD (aRC (aRC fin))
  . rintro b s' ⟨done,left,e,hl,hb,rfl⟩;cases left with
    |cons k ks=>rw[aQ]at hl;obtain⟨_,_,e',_⟩:=hl;cases e'
    |nil =>
    rw[aRT]at e;subst e;show wpAny _ _ (retInt (Builtin.Tuple.tupleHashOf b.toList)) _ _ _;rw[hb];refine wpAny_ret_mkInt ?_;show wpAny _ _ (if(decide (-(2:Int) ^ 63<=Builtin.Tuple.tupleHashOf (dR w xs))&&decide (Builtin.Tuple.tupleHashOf (dR w xs)<2 ^ 63))=true then _ else _) Q E _;rw[aY,N.dr]at h;unfold reduceHash at h;by_cases hr:(decide (-(2:Int) ^ 63<=Builtin.Tuple.tupleHashOf (dR w xs))&&decide (Builtin.Tuple.tupleHashOf (dR w xs)<2 ^ 63))=true
    . rw[if_pos hr];rw[if_pos hr]at h;exact aRC (by simpa[aS1]using h)
    . rw[if_neg hr];rw[if_neg hr]at h;exact aRD (aS6 (aRC (by simpa[aS1]using h)))
theorem qE{x y:N}{v:aW2}(hu:A.units+x.dp<cLine)(hx:IsN s.heap x u)(hy:IsN s.heap y v)(h:Q (decide (x=y)) s):wpAny (model prog w) A (eqBool u v) Q E s:=by
 obtain⟨⟨as,ra⟩,ca⟩:=IsN.reads x u hx;obtain⟨⟨bs,rb⟩,cb⟩:=IsN.reads y v hy;refine SeqAt.eqAt_reads x.py y.py A s u v as bs ra rb ca cb (by rw[N.py_depth];have:=aS7 x.dp y.py.depth;lia) prog w E Q ?_
 rw[N.py_eqv];exact h
theorem qF(k:N):∀{n:Nat}{v:aW2}{Q:Bool->aW3->Prop},k.dp<=n->IsN s.heap k v->Q true s->wpAny (model prog w) A (eqIsQuiet n v) Q E s:=by
 induction k using N.ind with
 |hi m=>intro n v Q hn hk h;rw[IsN]at hk;obtain⟨t,rfl⟩:=hk;rw[eqIsQuiet_byValue n rfl];exact aRC h
 |hs x=>intro n v Q hn hk h;rw[IsN]at hk;obtain⟨⟨t,rfl⟩,_⟩:=hk;rw[eqIsQuiet_byValue n rfl];exact aRC h
 |ht xs ih =>
  intro n v Q hn hk h;rw[IsN]at hk;obtain⟨a,o,items,c,rfl,ho,hc,hd,hi⟩:=hk;rw[N.dp]at hn;cases n with
  |zero=>lia
  |succ n =>
   have hT:s.TypeIs (.ref a) "tuple" := ⟨o,ho,hc⟩;unfold eqIsQuiet;refine aRD (aS2 hT F.slot_tuple_eq.lookup ?_);show wpAny _ _ (isInstance (.ref a) (.type "tuple")>>=_) _ _ s;refine aRD (aS8 hT isSubtype_tuple_tuple ?_);simp only[aS9,aTA,aSB];refine aRD (wpAny_seqItems ho hd ?_);refine aRD ?_;show wpAny _ _ (forIn items _ _) _ _ s;rw[<- aS3];refine aS4 _ (λrest r s'=>r.1=none/\s'=s/\∀v∈rest,∃x∈xs,IsN s.heap x v) _ ?_ ?_ _ _ ⟨rfl,rfl,hi.mem⟩
   . rintro v rest r s' ⟨hr,rfl,hall⟩;obtain⟨x,hx,hv⟩:=hall v mcs;refine aRD (ih x hx (n:=n) (by have:=N.dp_mem hx;lia) hv ?_)
     simp only[aS9,aTA,aSB];exact aRC ⟨rfl,rfl,λu hu'=>hall u (mcm hu')⟩
   . rintro⟨r1,r2⟩ s' ⟨hr,rfl,_⟩;simp only at hr;subst hr;exact aRC h
end
noncomputable def nV(prog:aW6)(w:aW5):HeapKind prog w N where
 is:=λh k a=>IsN h k (.ref a)/\k.dp<=8
 hash:=aY w
 draws:=N.dr
 room:=λA=>A.units+8<cLine
 inj:=λhx hy=>IsN.inj _ _ _ hx.1 hy.1
 keeps:=λx ho hd hs=>⟨IsN.keeps ho hd hs _ _ x.1,x.2⟩
 pyHash:=λhu hk h=>qD _ (by have:=hk.2;omega) hk.1 h
 eqBool:=λhu hx hy h=>qE (by have:=hx.2;omega) hx.1 hy.1 h
 quiet:=λhk h=>qF _ hk.2 hk.1 h
end L2
namespace D3
inductive D where
 |non|bl (b:Bool)|int (i:Int)|str (x:Str)|tup (xs:List D)|lst (xs:List D)|dct (kvs:List (Key×D))|ty (n:String)|ob (a:Addr)|ins (c:Str) (fs:List (Str×D))|fn (x:Str)|exn (c:Str)|set (ks:List Key)|dtn (kvs:List (N×D))|dtf (kvs:List (N×D))|dcf (kvs:List (Key×D))
inductive Md where|fz|fr|bo
 deriving DecidableEq
inductive Res where
 |ok (m:Md) (d:D)|exc (c:Str)|stuck
def xobj(a C:Addr):HO:=.ext λh=>∃o,h.get? a=some o/\o.cls=.ref C
mutual
def NAt(K:Fg)(F:Hp):N->V->Prop
 |.i n,v=>v=.int n
 |.s x,v=>v=.str x/\x.length<=sizeLine/\PyData.strOk x=true
 |.t xs,v=>∃a ys,v=.ref a/\SqT K F a ys/\bK K F xs ys
def bK(K:Fg)(F:Hp):List N->List V->Prop
 |[],ys=>ys=[]
 |x::xs,ys=>∃y zs,ys=y::zs/\NAt K F x y/\bK K F xs zs
end
end D3
variable {ds ws L:List D3.D}{Φ:List D3.D->D3.Res}{m':D3.Md}{x1 x4 x6 x0:Option (Bool×D3.D)}{a3:Option D3.D}
namespace D3
def wC(S:Key->Bool)(ks:List Key):Prop:=ks.Nodup/\∀k,S k=true↔k∈ks
mutual
def aB(K:Fg)(F:Hp):D->V->Prop
 |.non,v=>v=.non
 |.bl b,v=>v=.bl b
 |.int i,v=>v=.int i
 |.str x,v=>v=.str x/\x.length<=sizeLine/\PyData.strOk x=true
 |.tup ds,v=>∃a xs,v=.ref a/\SqT K F a xs/\aC K F ds xs
 |.lst ds,v=>∃a xs,v=.ref a/\SqL K F a xs/\aC K F ds xs
 |.dct kvs,v=>∃a xs,v=.ref a/\F a=some (.dK xs)/\aO K F kvs xs
 |.ty n,v=>v=.ty n
 |.ob a,v=>v=.ref a
 |.ins c fs,v=>∃a C dx gs,v=.ref a/\W.nsIn K mainGlobals c=some (some (.ref C))/\F a=some (.ins C dx gs)/\cN K F fs gs
 |.fn x,v=>∃a,v=.ref a/\W.nsIn K mainGlobals x=some (some (.ref a))
 |.exn c,v=>∃a C,v=.ref a/\W.nsIn K mainGlobals c=some (some (.ref C))/\F a=some (xobj a C)
 |.set ks,v=>∃a S,v=.ref a/\F a=some (.set S ks.length)/\wC S ks
 |.dtn kvs,v=>∃a xs,v=.ref a/\F a=some (.dN xs)/\aM K F kvs xs
 |.dtf kvs,v=>∃a o xs,v=.ref a/\F a=some (.frz o (.dN xs))/\aM K F kvs xs
 |.dcf kvs,v=>∃a o xs,v=.ref a/\F a=some (.frz o (.dK xs))/\aO K F kvs xs
def aM(K:Fg)(F:Hp):List (N×D)->List (N×Addr×V)->Prop
 |[],xs=>xs=[]
 |(k,d)::ds,xs=>∃b y ys,xs=(k,b,y)::ys/\(NAt K F k (.ref b)/\k.dp<=8)/\aB K F d y/\aM K F ds ys
def aC(K:Fg)(F:Hp):List D->List V->Prop
 |[],xs=>xs=[]
 |d::ds,xs=>∃y ys,xs=y::ys/\aB K F d y/\aC K F ds ys
def aO(K:Fg)(F:Hp):List (Key×D)->List (Key×V)->Prop
 |[],xs=>xs=[]
 |(k,d)::ds,xs=>∃y ys,xs=(k,y)::ys/\aB K F d y/\aO K F ds ys
def cN(K:Fg)(F:Hp):List (Str×D)->List (Str×V)->Prop
 |[],xs=>xs=[]
 |(k,d)::ds,xs=>∃y ys,xs=(k,y)::ys/\aB K F d y/\cN K F ds ys
end
def aD.seqT{a:Addr}{xs:List V}(e:aD H H')(h:SqT K H a xs):SqT K H' a xs:=by
 rcases h with(h|⟨o,h⟩)|h
 . exact .inl (.inl (e _ _ h))
 . exact .inl (.inr ⟨o,e _ _ h⟩)
 . exact .inr h
section
variable  {F:Hp}
theorem bK.map:∀{xs:List N}{ys:List V},bK K F xs ys->(∀x∈xs,∀v,NAt K F x v->NAt K F' x v)->bK K F' xs ys
 |[],_,h,_=>by simpa only [bK]using h
 |x::xs,ys,h,k=>by simp only[bK]at h ⊢;obtain⟨y,zs,e,q,r⟩:=h;exact⟨y,zs,e,k x mcs y q,r.map λz hz=>k z (mcm hz)⟩
def NAt.mono(s:aD F F')(k:N):∀v,NAt K F k v->NAt K F' k v:=by
 induction k using N.ind with
 |hi n=>intro v h;simpa only [NAt]using h
 |hs x=>intro v h;simpa only [NAt]using h
 |ht xs ih=>intro v h;simp only[NAt]at h ⊢;obtain⟨a,ys,e,q,r⟩:=h;exact⟨a,ys,e,aD.seqT s q,r.map ih⟩
mutual
theorem aB.mono(s:aD F F'):∀(d:D) (v:V),aB K F d v->aB K F' d v
 |.non,_,h=>by simpa only [aB]using h
 |.bl _,_,h=>by simpa only [aB]using h
 |.int _,_,h=>by simpa only [aB]using h
 |.str _,_,h=>by simpa only [aB]using h
 |.tup ds,v,h=>by simp only[aB]at h ⊢;obtain⟨a,xs,e,q,r⟩:=h;exact⟨a,xs,e,aD.seqT s q,aC.mono s ds xs r⟩
 |.lst ds,v,h=>by simp only[aB]at h ⊢;obtain⟨a,xs,e,q,r⟩:=h;exact⟨a,xs,e,s.seq q,aC.mono s ds xs r⟩
 |.dct ds,v,h=>by simp only[aB]at h ⊢;obtain⟨a,xs,e,q,r⟩:=h;exact⟨a,xs,e,s _ _ q,aO.mono s ds xs r⟩
 |.ty _,_,h=>by simpa only [aB]using h
 |.ob _,_,h=>by simpa only [aB]using h
 |.fn _,_,h=>by simpa only [aB]using h
 |.exn _,_,h=>by simp only[aB]at h ⊢;obtain⟨a,C,e,n,q⟩:=h;exact⟨a,C,e,n,s _ _ q⟩
 |.set _,_,h=>by simp only[aB]at h ⊢;obtain⟨a,S,e,q,r⟩:=h;exact⟨a,S,e,s _ _ q,r⟩
 |.dtn ds,v,h=>by simp only[aB]at h ⊢;obtain⟨a,xs,e,q,r⟩:=h;exact⟨a,xs,e,s _ _ q,aM.mono s ds xs r⟩
 |.dtf ds,v,h=>by simp only[aB]at h ⊢;obtain⟨a,o,xs,e,q,r⟩:=h;exact⟨a,o,xs,e,s _ _ q,aM.mono s ds xs r⟩
 |.dcf ds,v,h=>by simp only[aB]at h ⊢;obtain⟨a,o,xs,e,q,r⟩:=h;exact⟨a,o,xs,e,s _ _ q,aO.mono s ds xs r⟩
 |.ins c fs,v,h=>by simp only[aB]at h ⊢;obtain⟨a,C,dx,gs,e,n,q,r⟩:=h;exact⟨a,C,dx,gs,e,n,s _ _ q,cN.mono s fs gs r⟩
theorem aC.mono(s:aD F F'):∀(ds:List D) (xs:List V),aC K F ds xs->aC K F' ds xs
 |[],_,h=>by simpa only [aC]using h
 |d::ds,xs,h=>by simp only[aC]at h ⊢;obtain⟨y,ys,e,q,r⟩:=h;exact⟨y,ys,e,aB.mono s d y q,aC.mono s ds ys r⟩
theorem aO.mono(s:aD F F'):∀(ds:List (Key×D)) (xs:List (Key×V)),aO K F ds xs->aO K F' ds xs
 |[],_,h=>by simpa only [aO]using h
 |(k,d)::ds,xs,h=>by simp only[aO]at h ⊢;obtain⟨y,ys,e,q,r⟩:=h;exact⟨y,ys,e,aB.mono s d y q,aO.mono s ds ys r⟩
theorem aM.mono(s:aD F F'):∀(ds:List (N×D)) (xs:List (N×Addr×V)),aM K F ds xs->aM K F' ds xs
 |[],_,h=>by simpa only [aM]using h
 |(k,d)::ds,xs,h=>by simp only[aM]at h ⊢;obtain⟨b,y,ys,e,n,q,r⟩:=h;exact⟨b,y,ys,e,⟨NAt.mono s k _ n.1,n.2⟩,aB.mono s d y q,aM.mono s ds ys r⟩
theorem cN.mono(s:aD F F'):∀(ds:List (Str×D)) (xs:List (Str×V)),cN K F ds xs->cN K F' ds xs
 |[],_,h=>by simpa only [cN]using h
 |(k,d)::ds,xs,h=>by simp only[cN]at h ⊢;obtain⟨y,ys,e,q,r⟩:=h;exact⟨y,ys,e,aB.mono s d y q,cN.mono s ds ys r⟩
end
theorem cN.lookN:∀{ds:List (Str×D)}{xs:List (Str×V)}{f:Str},cN K F ds xs->ds.lookup f=none->xs.lookup f=none
 |[],_,_,h,e=>by simp only[cN]at h;subst h;rfl
 |(k,d')::ds,_,f,h,e=>by
  simp only[cN]at h;obtain⟨y,ys,rfl,q,r⟩:=h;rw[aTB]at e ⊢;split at e
  . cases e
  . exact cN.lookN r e
theorem aC.length:∀{ds:List D}{xs:List V},aC K F ds xs->xs.length=ds.length
 |[],_,h=>by simp only[aC]at h;subst h;rfl
 |d::ds,_,h=>by simp only[aC]at h;obtain⟨y,ys,rfl,_,r⟩:=h;rw[aST,aST,aC.length r]
theorem aC.get:∀{ds:List D}{xs:List V}{i:Nat}{x:V},aC K F ds xs->xs[i]? = some x->∃d,ds[i]? = some d/\aB K F d x
 |[],_,_,_,h,e=>by simp only[aC]at h;subst h;simp at e
 |d::ds,_,0,_,h,e=>by simp only[aC]at h;obtain⟨y,ys,rfl,r,_⟩:=h;simp at e;subst e;exact⟨d,rfl,r⟩
 |d::ds,_,i+1,_,h,e=>by
  simp only[aC]at h;obtain⟨y,ys,rfl,_,r⟩:=h;obtain⟨d',e',r'⟩:=aC.get (i:=i) r (by simpa using e)
  exact⟨d',by simpa using e',r'⟩
theorem aC.get':∀{ds:List D}{xs:List V}{i:Nat}{d:D},aC K F ds xs->ds[i]? = some d->∃x,xs[i]? = some x/\aB K F d x
 |[],_,_,_,h,e=>by simp at e
 |d::ds,_,0,_,h,e=>by simp only[aC]at h;obtain⟨y,ys,rfl,r,_⟩:=h;simp at e;subst e;exact⟨y,rfl,r⟩
 |d::ds,_,i+1,_,h,e=>by
  simp only[aC]at h;obtain⟨y,ys,rfl,_,r⟩:=h;obtain⟨d',e',r'⟩:=aC.get' (i:=i) r (by simpa using e)
  exact⟨d',by simpa using e',r'⟩
theorem aC.append:∀{ds es:List D}{xs ys:List V},aC K F ds xs->aC K F es ys->aC K F (ds++es) (xs++ys)
 |[],_,_,_,h,r=>by simp only[aC]at h;subst h;exact r
 |d::ds,_,_,_,h,r=>by simp only[aC]at h;obtain⟨y,ys,rfl,q,t⟩:=h;show aC K F (d::(ds++_)) (y::(ys++_));simp only[aC];exact⟨y,_,rfl,q,aC.append t r⟩
def aC.nil:aC K F [] []:=by simp only[aC]
def aC.cons{d:D}{ds:List D}{x:V}{xs:List V}(h:aB K F d x)(r:aC K F ds xs):aC K F (d::ds) (x::xs):=by simp only[aC];exact⟨x,xs,rfl,h,r⟩
end
def Top(K:Fg)(F H:Hp)(a:Addr):D->Prop
 |.lst ds=>∃xs,H a=some (.lst xs)/\aC K F ds xs
 |.dct ds=>∃xs,H a=some (.dK xs)/\aO K F ds xs
 |.ins c fs=>∃C dx gs,W.nsIn K mainGlobals c=some (some (.ref C))/\H a=some (.ins C dx gs)/\cN K F fs gs
 |.set ks=>∃S,H a=some (.set S ks.length)/\wC S ks
 |.dtn ds=>∃xs,H a=some (.dN xs)/\aM K F ds xs
 |_=>False
def Rp(K:Fg)(F H:Hp)(m:Md)(d:D)(v:V):Prop :=
 match m with
 |.fz=>aB K F d v
 |_=>∃a,v=.ref a/\F a=none/\Top K F H a d
structure aF(F H F' H':Hp):Prop where
 same:aD H H'
 fsame:aD F F'
 sub:aD F' H'
 new:∀a,F a=none->H a≠none->F' a=none
theorem aF.refl{F:Hp}(h:aD F H):aF F H F H:=⟨aD.refl _,aD.refl _,h,λ_ h _=>h⟩
theorem aF.trans{F F1 H1 F2 H2:Hp}(a:aF F H F1 H1)(b:aF F1 H1 F2 H2):aF F H F2 H2 :=
 ⟨a.same.trans b.same,a.fsame.trans b.fsame,b.sub,λx h1 h2=>b.new x (a.new x h1 h2) (by
  cases e:H x with
  |none=>exact absurd e h2
  |some o=>rw[a.same x o e];exact λz=>nomatch z)⟩
def aF.laid{F:Hp}{p:Addr}(o:HO)(h:aD F H)(hp:H p=none):aF F H (upd F p o) (upd H p o):=by
 have hf:F p=none:=h.free hp;refine⟨λb u e=>?_,λb u e=>?_,λb u e=>?_,λa h1 h2=>?_⟩
 . rw[aL (bR e hp)];exact e
 . rw[aL (bR e hf)];exact e
 . by_cases hb:b=p
   . subst hb;rw[aV]at e ⊢;exact e
   . rw[aL hb]at e ⊢;exact h b u e
 . have:a≠p:=by rintro rfl;exact h2 hp
   rw[aL this];exact h1
def aF.fresh{F:Hp}{p:Addr}(o:HO)(h:aD F H)(hp:H p=none):aF F H F (upd H p o):=by
 refine⟨λb u e=>?_,aD.refl _,λb u e=>?_,λa h1 _=>h1⟩
 . rw[aL (bR e hp)];exact e
 . rw[aL (bR (h b u e) hp)];exact h b u e
def Top.step{F:Hp}{a:Addr}{d:D}(st:aF F H F' H')(h:Top K F H a d):Top K F' H' a d:=by
 cases d with
 |lst ds=>obtain⟨xs,e,r⟩:=h;exact⟨xs,st.same _ _ e,r.mono st.fsame _ _⟩
 |dct ds=>obtain⟨xs,e,r⟩:=h;exact⟨xs,st.same _ _ e,r.mono st.fsame _ _⟩
 |ins c fs=>obtain⟨C,dx,gs,n,e,r⟩:=h;exact⟨C,dx,gs,n,st.same _ _ e,r.mono st.fsame _ _⟩
 |set ks=>obtain⟨S,e,r⟩:=h;exact⟨S,st.same _ _ e,r⟩
 |dtn ds=>obtain⟨xs,e,r⟩:=h;exact⟨xs,st.same _ _ e,r.mono st.fsame _ _⟩
 |_=>exact h.elim
def Top.there{F:Hp}{a:Addr}{d:D}(h:Top K F H a d):H a≠none:=by
 cases d with
 |lst ds=>obtain⟨xs,e,r⟩:=h;rw[e];exact λz=>nomatch z
 |dct ds=>obtain⟨xs,e,r⟩:=h;rw[e];exact λz=>nomatch z
 |ins c fs=>obtain⟨C,dx,gs,n,e,r⟩:=h;rw[e];exact λz=>nomatch z
 |set ks=>obtain⟨S,e,r⟩:=h;rw[e];exact λz=>nomatch z
 |dtn ds=>obtain⟨xs,e,r⟩:=h;rw[e];exact λz=>nomatch z
 |_=>exact h.elim
theorem Rp.step{F:Hp}{m:Md}{d:D}(st:aF F H F' H')(h:Rp K F H m d v):Rp K F' H' m d v:=by
 cases m with
 |fz=>exact aB.mono st.fsame d v h
 |fr=>obtain⟨a,e,n,t⟩:=h;exact⟨a,e,st.new a n t.there,t.step st⟩
 |bo=>obtain⟨a,e,n,t⟩:=h;exact⟨a,e,st.new a n t.there,t.step st⟩
def Rp.seqL{F:Hp}{m:Md}(s:aD F H)(h:Rp K F H m (.lst ds) v):∃a xs,v=.ref a/\SqL K H a xs/\aC K F ds xs:=by
 cases m with
 |fz=>have h:aB K F (.lst ds) v:=h;simp only[aB]at h;obtain⟨a,xs,e,q,r⟩:=h;exact⟨a,xs,e,s.seq q,r⟩
 |fr=>obtain⟨a,e,n,xs,q,r⟩:=h;exact⟨a,xs,e,SqL.of q,r⟩
 |bo=>obtain⟨a,e,n,xs,q,r⟩:=h;exact⟨a,xs,e,SqL.of q,r⟩
theorem Rp.seqT{F:Hp}{m:Md}(s:aD F H)(h:Rp K F H m (.tup ds) v):∃a xs,v=.ref a/\SqT K H a xs/\aC K F ds xs:=by
 cases m with
 |fz=>have h:aB K F (.tup ds) v:=h;simp only[aB]at h;obtain⟨a,xs,e,q,r⟩:=h;exact⟨a,xs,e,aD.seqT s q,r⟩
 |fr=>obtain⟨a,e,n,q⟩:=h;exact q.elim
 |bo=>obtain⟨a,e,n,q⟩:=h;exact q.elim
def Rp.dict{F:Hp}{m:Md}{ds:List (Key×D)}(s:aD F H)(h:Rp K F H m (.dct ds) v):∃a xs,v=.ref a/\H a=some (.dK xs)/\aO K F ds xs:=by
 cases m with
 |fz=>have h:aB K F (.dct ds) v:=h;simp only[aB]at h;obtain⟨a,xs,e,q,r⟩:=h;exact⟨a,xs,e,s _ _ q,r⟩
 |fr=>obtain⟨a,e,n,xs,q,r⟩:=h;exact⟨a,xs,e,q,r⟩
 |bo=>obtain⟨a,e,n,xs,q,r⟩:=h;exact⟨a,xs,e,q,r⟩
theorem Rp.ins{F:Hp}{m:Md}{c:Str}{fs:List (Str×D)}(s:aD F H)(h:Rp K F H m (.ins c fs) v):∃a C dx gs,v=.ref a/\W.nsIn K mainGlobals c=some (some (.ref C))/\H a=some (.ins C dx gs)/\cN K F fs gs:=by
 cases m with
 |fz=>have h:aB K F (.ins c fs) v:=h;simp only[aB]at h;obtain⟨a,C,dx,gs,e,n,q,r⟩:=h;exact⟨a,C,dx,gs,e,n,s _ _ q,r⟩
 |fr=>obtain⟨a,e,n,C,dx,gs,z,q,r⟩:=h;exact⟨a,C,dx,gs,e,z,q,r⟩
 |bo=>obtain⟨a,e,n,C,dx,gs,z,q,r⟩:=h;exact⟨a,C,dx,gs,e,z,q,r⟩
theorem Rp.int{F:Hp}{m:Md}{i:Int}(h:Rp K F H m (.int i) v):v=.int i:=by
 cases m with
 |fz=>have h:aB K F (.int i) v:=h;simpa only [aB]using h
 |fr=>obtain⟨a,e,n,q⟩:=h;exact q.elim
 |bo=>obtain⟨a,e,n,q⟩:=h;exact q.elim
theorem Rp.bl{F:Hp}{m:Md}{i:Bool}(h:Rp K F H m (.bl i) v):v=.bl i:=by
 cases m with
 |fz=>have h:aB K F (.bl i) v:=h;simpa only [aB]using h
 |fr=>obtain⟨a,e,n,q⟩:=h;exact q.elim
 |bo=>obtain⟨a,e,n,q⟩:=h;exact q.elim
theorem Rp.non{F:Hp}{m:Md}(h:Rp K F H m .non v):v=.non:=by
 cases m with
 |fz=>have h:aB K F .non v:=h;simpa only [aB]using h
 |fr=>obtain⟨a,e,n,q⟩:=h;exact q.elim
 |bo=>obtain⟨a,e,n,q⟩:=h;exact q.elim
theorem Rp.str{F:Hp}{m:Md}(h:Rp K F H m (.str x) v):v=.str x/\x.length<=sizeLine/\PyData.strOk x=true:=by
 cases m with
 |fz=>have h:aB K F (.str x) v:=h;simpa only [aB]using h
 |fr=>obtain⟨a,e,n,q⟩:=h;exact q.elim
 |bo=>obtain⟨a,e,n,q⟩:=h;exact q.elim
theorem Rp.ty{F:Hp}{m:Md}{n:String}(h:Rp K F H m (.ty n) v):v=.ty n:=by
 cases m with
 |fz=>have h:aB K F (.ty n) v:=h;simpa only [aB]using h
 |fr=>obtain⟨a,e,n,q⟩:=h;exact q.elim
 |bo=>obtain⟨a,e,n,q⟩:=h;exact q.elim
theorem Rp.ob{F:Hp}{m:Md}{n:Addr}(h:Rp K F H m (.ob n) v):v=.ref n:=by
 cases m with
 |fz=>have h:aB K F (.ob n) v:=h;simpa only [aB]using h
 |fr=>obtain⟨a,e,n,q⟩:=h;exact q.elim
 |bo=>obtain⟨a,e,n,q⟩:=h;exact q.elim
def rp_ty{F:Hp}(i:String):Rp K F H .fz (.ty i) (.ty i):=by show aB K F _ _;simp only[aB]
def dS{F:Hp}(i:Int):Rp K F H .fz (.int i) (.int i):=by show aB K F _ _;simp only[aB]
def dG{F:Hp}(i:Bool):Rp K F H .fz (.bl i) (.bl i):=by show aB K F _ _;simp only[aB]
def wD{F:Hp}:Rp K F H .fz .non .non:=by show aB K F _ _;simp only[aB]
def eO{F:Hp}(h:x.length<=sizeLine/\PyData.strOk x=true):Rp K F H .fz (.str x) (.str x):=by show aB K F _ _;simp only[aB,true_and];exact h
abbrev Rho:=List (Option (Bool×D))
structure aN(K:Fg)(F0 H0 F H:Hp)(σ:L2.St)(ρ:Rho):Prop where
 st:aF F0 H0 F H
 slot:∀(i:Nat) (m:Bool) (d:D),ρ[i]? = some (some (m,d))->∃v,σ[i]? = some (some v)/\Rp K F H (if m then .bo else .fz) d v/\(m=true->∀a,v=.ref a->H0 a=none)
 apart:∀(i j:Nat) (d d':D) (a:Addr),i≠j->ρ[i]? = some (some (true,d))->ρ[j]? = some (some (true,d'))->σ[i]? = some (some (.ref a))->σ[j]? = some (some (.ref a))->False
 len:σ.length=ρ.length
theorem aN.step{F:Hp}{ρ:Rho}(r:aN K F0 H0 F H σ ρ)(st:aF F H F' H'):aN K F0 H0 F' H' σ ρ :=
 ⟨r.st.trans st,λi m d e=>by obtain⟨v,e1,e2,e3⟩:=r.slot i m d e;exact⟨v,e1,e2.step st,e3⟩,r.apart,r.len⟩
theorem aN.sub{F:Hp}{ρ:Rho}(r:aN K F0 H0 F H σ ρ):aD F H:=r.st.sub
abbrev XE:=Str->L2.St->Hp->Prop
structure Cw where
 K:Fg
 F0:Hp
 H0:Hp
 EE:XE
def tG(C:Cw)(g:Rho->Res):TE:=λσ H Q=>∃ρ F,aN C.K C.F0 C.H0 F H σ ρ/\match g ρ with
 |.ok m d=>∀v F' H',aF F H F' H'->Rp C.K F' H' m d v->(m=.fr->∀a,v=.ref a->H a=none)->Q v H'
 |.exc c=>∀F' H',aF F H F' H'->C.EE c σ H'
 |.stuck=>False
abbrev Cw.at(C:Cw)(X:Cx):Cw:={C with K:=X.K}
end D3
variable {g ga gb gi ge:D3.Rho->D3.Res}{C:D3.Cw}{ρ:D3.Rho}
namespace D3
def PV(C:Cw)(X:Cx)(e:Expr)(g:Rho->Res):Prop:=PE X e (tG (C.at X) g)
def PE.imp{t t':TE}(h:PE X e t)(i:∀σ H Q,t' σ H Q->t σ H Q):PE X e t':=λaA s σ H Q I q=>h aA s σ H Q I (i σ H Q q)
noncomputable def Res.thn(r:Res)(k:Md->D->Res):Res:=match r with
 |.ok m d=>k m d
 |.exc c=>.exc c
 |.stuck=>.stuck
@[simp] theorem Res.thn_ok(m:Md)(d:D)(k:Md->D->Res):(Res.ok m d).thn k=k m d:=rfl
@[simp] theorem Res.thn_exc(c:Str)(k:Md->D->Res):(Res.exc c).thn k=.exc c:=rfl
@[simp] theorem Res.thn_stuck(k:Md->D->Res):Res.stuck.thn k=.stuck:=rfl
def Res.of:Option (Md×D)->Res
 |some (m,d)=>.ok m d
 |none=>.stuck
@[simp] theorem Res.of_some(m:Md)(d:D):Res.of (some (m,d))=.ok m d:=rfl
@[simp] theorem Res.of_none:Res.of none=.stuck:=rfl
def aR(C:Cw)(F H:Hp)(σ:L2.St)(r:Res)(Q:VK):Prop:=match r with
 |.ok m d=>∀v F' H',aF F H F' H'->Rp C.K F' H' m d v->(m=.fr->∀a,v=.ref a->H a=none)->Q v H'
 |.exc c=>∀F' H',aF F H F' H'->C.EE c σ H'
 |.stuck=>False
def aS{Q:VK}:tG C g σ H Q=∃ρ F,aN C.K C.F0 C.H0 F H σ ρ/\aR C F H σ (g ρ) Q:=by unfold tG aR;rfl
def aR.step{F F1 H1:Hp}{r:Res}{Q:VK}(st:aF F H F1 H1)(h:aR C F H σ r Q):aR C F1 H1 σ r Q:=by
 cases r with
 |ok m d=>exact λv F' H' s2 rp hf=>h v F' H' (st.trans s2) rp λe a ea=>st.same.free (hf e a ea)
 |exc c=>exact λF' H' s2=>h F' H' (st.trans s2)
 |stuck=>exact h
section
variable {a b:Expr}
def eP(ρ:Rho)(i:Nat):Res:=match ρ[i]? with
 |some (some (false,d))=>.ok .fz d
 |some (some (true,d))=>.ok .bo d
 |_=>.stuck
def aE8(i:Nat)(h:PE X (.Name x pos) (bX i)):PV C X (.Name x pos) (λρ=>eP ρ i):=by
 refine PE.imp h λσ H Q q=>?_;rw[aS]at q;obtain⟨ρ,F,R,w⟩:=q;unfold eP at w;cases e:ρ[i]? with
 |none=>rw[e]at w;exact w.elim
 |some o =>
  cases o with
  |none=>rw[e]at w;exact w.elim
  |some p =>
   obtain⟨m,d⟩:=p;obtain⟨v,e1,r,_⟩:=R.slot i m d e;rw[e]at w;cases m with
   |false=>exact⟨v,e1,w v F H (.refl R.sub) r (by nofun)⟩
   |true=>exact⟨v,e1,w v F H (.refl R.sub) r (by nofun)⟩
def iL(d:D)(h:PE X e (tC v))(r:∀F H,Rp X.K F H .fz d v):PV C X e (λ_=>.ok .fz d):=by refine PE.imp h λσ H Q q=>?_;rw[aS]at q;obtain⟨ρ,F,R,w⟩:=q;exact w v F H (.refl R.sub) (r F H) (by nofun)
def aE9{i j:_}:PV C X (.Constant (.int i) j pos) (λ_=>.ok .fz (.int i)):=iL _ uW λ_ _=>dS i
def pv_bl{i j:_}:PV C X (.Constant (.bool i) j pos) (λ_=>.ok .fz (.bl i)):=iL _ pe_bl λ_ _=>dG i
def aFA{j:_}:PV C X (.Constant .none j pos) (λ_=>.ok .fz .non):=iL _ aCT λ_ _=>wD
def aFB{j:_}(h:(decide (x.length<=sizeLine)&&PyData.strOk x)=true:=by decide +kernel):PV C X (.Constant (.str x) j pos) (λ_=>.ok .fz (.str x)) :=
 iL _ aCU λ_ _=>eO (by rw[aSJ,aTC]at h;exact h)
noncomputable def op2(φ:Md->D->Md->D->Option (Md×D))(x y:Res):Res:=x.thn λm d=>y.thn λn e=>Res.of (φ m d n e)
def OpD(C:Cw)(X:Cx)(f:aW2->aW2->Sem aW2)(φ:Md->D->Md->D->Option (Md×D)):Prop :=
 ∃r:R2,OpR X f r/\∀F H m x n y v u k d Q,aD F H->Rp X.K F H m x v->Rp X.K F H n y u->φ m x n y=some (k,d) ->
  (∀v' F' H',aF F H F' H'->Rp X.K F' H' k d v'->(k=.fr->∀a,v'=.ref a->H a=none)->Q v' H')->r v u H Q
def lE{φ:Md->D->Md->D->Option (Md×D)}{r:R2}(h:∀F H m x n y v u k d Q,aD F H->Rp C.K F H m x v->Rp C.K F H n y u->φ m x n y=some (k,d)->(∀v' F' H',aF F H F' H'->Rp C.K F' H' k d v'->(k=.fr->∀a,v'=.ref a->H a=none)->Q v' H')->r v u H Q){Q:VK}(q:tG C (λρ=>op2 φ (ga ρ) (gb ρ)) σ H Q):tOp r (tG C ga) (tG C gb) σ H Q:=by
 unfold tOp;rw[aS]at q ⊢;obtain⟨ρ,F,R,w⟩:=q;refine⟨ρ,F,R,?_⟩;cases ea:ga ρ with
 |stuck=>simp only[op2,ea,Res.thn]at w;exact w
 |exc c=>simp only[op2,ea,Res.thn]at w;exact w
 |ok m d =>
  intro v F1 H1 s1 r1 _;rw[aS];refine⟨ρ,F1,R.step s1,?_⟩;have w1:=w.step s1;simp only[op2,ea,Res.thn]at w1;cases eb:gb ρ with
  |stuck=>rw[eb]at w1;exact w1
  |exc c=>rw[eb]at w1;exact w1
  |ok n e =>
   rw[eb]at w1;intro u F2 H2 s2 r2 _;have w2:aR C F2 H2 σ (Res.of (φ m d n e)) Q:=aR.step s2 w1;cases ef:φ m d n e with
   |none=>rw[ef]at w2;exact w2.elim
   |some kd=>obtain⟨k,d'⟩:=kd;rw[ef]at w2;exact h F2 H2 m d n e v u k d' Q s2.sub (r1.step s2) r2 ef w2
def pv_op{op:Operator}{φ}(o:OpD C X (binaryOp op) φ)(ha:PV C X a ga)(hb:PV C X b gb):PV C X (.BinOp a op b pos) (λρ=>op2 φ (ga ρ) (gb ρ)):=by obtain⟨r,h1,h2⟩:=o;exact PE.imp (pe_op h1 ha hb) λσ H Q q=>lE h2 q
def aFC{op:CmpOp}{φ}(o:OpD C X (compareOp op) φ)(ha:PV C X a ga)(hb:PV C X b gb)(hm:behindInMarks op b=false):PV C X (.Compare a [op] [b] pos) (λρ=>op2 φ (ga ρ) (gb ρ)):=by obtain⟨r,h1,h2⟩:=o;exact PE.imp (aDQ h1 ha hb hm) λσ H Q q=>lE h2 q
def orO(φ ψ:Md->D->Md->D->Option (Md×D)):Md->D->Md->D->Option (Md×D):=λm x n y=>(φ m x n y).orElse λ_=>ψ m x n y
theorem OpD.or{f:aW2->aW2->Sem aW2}{φ ψ}(h:OpD C X f φ)(h':OpD C X f ψ):OpD C X f (orO φ ψ):=by
 obtain⟨r,h1,h2⟩:=h;obtain⟨r',h1',h2'⟩:=h';refine⟨_,h1.or h1',λF H m x n y v u k d Q s rx ry e w=>?_⟩;unfold orO at e;cases e1:φ m x n y with
 |none=>rw[e1]at e;exact .inr (h2' F H m x n y v u k d Q s rx ry e w)
 |some p=>rw[e1]at e;cases e;exact .inl (h2 F H m x n y v u k d Q s rx ry e1 w)
noncomputable def fI(c:Int->Int->Bool)(g:Int->Int->D):Md->D->Md->D->Option (Md×D):=λ_ x _ y=>match x,y with
 |.int i,.int j=>if c i j=true then some (.fz,g i j)else none
 |_,_=>none
def nW{f:aW2->aW2->Sem aW2}{Cc:Int->Int->Prop}{c:Int->Int->Bool}{g:Int->Int->V}{g':Int->Int->D}(o:OpR X f (rI Cc g))(hc:∀i j,c i j=true->Cc i j)(hg:∀F H i j,Rp X.K F H .fz (g' i j) (g i j)):OpD C X f (fI c g'):=by
 refine⟨_,o,λF H m x n y v u k d Q s rx ry e w=>?_⟩;unfold fI at e;split at e
 . rename_i i j;cases rx.int;cases ry.int;split at e
   . rename_i hcc;cases e;exact⟨i,j,rfl,rfl,hc i j hcc,w _ F H (.refl s) (hg F H i j) (by nofun)⟩
   . cases e
 . cases e
def jM{f:aW2->aW2->Sem aW2}{g:Int->Int->V}{g':Int->Int->D}(o:OpR X f (rI0 g))(hg:∀F H i j,Rp X.K F H .fz (g' i j) (g i j)):OpD C X f (fI (λ_ _=>true) g'):=by
 refine⟨_,o,λF H m x n y v u k d Q s rx ry e w=>?_⟩;unfold fI at e;split at e
 . rename_i i j;cases rx.int;cases ry.int;rw[if_pos rfl]at e;cases e;exact⟨i,j,rfl,rfl,w _ F H (.refl s) (hg F H i j) (by nofun)⟩
 . cases e
def bits(i:Int):Bool:=decide (i.natAbs.log2<9000)
def aFD:OpD C X (binaryOp .Add) (fI (λ_ _=>true) λi j=>.int (i+j)):=jM aDI λ_ _ i j=>dS _
def aFE:OpD C X (binaryOp .Sub) (fI (λ_ _=>true) λi j=>.int (i-j)):=jM aDJ λ_ _ i j=>dS _
theorem aFF{i j:Int}(h:(bits i&&bits j)=true):IntMulOk i j:=by
 rw[aSJ]at h;have b:∀{i:Int},bits i=true->Builtin.Int.intBits i<=2 ^ 20:=λ{i} h=>by
  unfold bits at h;have:=aTD h;unfold Builtin.Int.intBits;split
  . exact aRQ _
  . have e:(2:Nat) ^ 20=1048576:=by decide
    lia
 exact IntMulOk.of_bits (b h.1) (b h.2)
def w64(i:Int):Bool:=decide (i.natAbs<2 ^ 63)
theorem wE{i:Int}(h:w64 i=true):Builtin.Int.intBits i<=64:=by
 have h:=aTD h;unfold Builtin.Int.intBits;split
 . exact aRQ _
 . rename_i hz;have:i.natAbs.log2<63:=(Nat.log2_lt (by simpa using hz)).mpr h
   lia
def aFG:OpD C X (binaryOp .Mult) (fI (λi j=>(bits i&&bits j)||(w64 i||w64 j)) λi j=>.int (i * j)) :=
 nW (Cc:=λi j=>IntMulOk i j) (opI λ_ _ _ _ _ _ _ hc q=>mul_int q hc) (λi j h=>by
  rcases(aTE _ _).mp h with h|h
  . exact aFF h
  . rcases(aTE _ _).mp h with h|h
    . exact IntMulOk.of_left (wE h)
    . exact IntMulOk.of_right (wE h)) λ_ _ i j=>dS _
def aFH:OpD C X (binaryOp .Mod) (fI (λ_ j=>decide (0<j)) λi j=>.int (i % j)):=nW aDK (λi j h=>aTD h) λ_ _ i j=>dS _
theorem aFI:OpR X (binaryOp .FloorDiv) (rI (λ_ j=>0<j/\bits j=true) λi j=>.int (i / j)):=opI λi j _ _ _ _ _ hc q=>by
 obtain⟨h1,h2⟩:=hc;refine floordiv_int (by lia) ?_ (.inl (PyProof.noPylong_of_log2 (aTD h2)))
 rw[Int.fdiv_eq_ediv_of_nonneg i (by lia)]
 exact q
def aFJ:OpD C X (binaryOp .FloorDiv) (fI (λ_ j=>decide (0<j)&&bits j) λi j=>.int (i / j)):=nW aFI (λi j h=>by rw[aSJ,aTC]at h;exact h) λ_ _ i j=>dS _
def aFK:OpD C X (binaryOp .Pow) (fI (λi j=>decide (0<=j)&&decide (j<=1000000)&&decide (i.natAbs<2 ^ 64)) λi j=>.int (i ^ j.toNat)) :=
 nW aDL (λi j h=>by simp only[aSJ,aTC]at h;exact⟨h.1.1,h.1.2,h.2⟩) λ_ _ i j=>dS _
def aFL:OpD C X (compareOp .Lt) (fI (λ_ _=>true) λi j=>.bl (decide (i<j))):=jM op_lt λ_ _ i j=>dG _
def aFM:OpD C X (compareOp .LtE) (fI (λ_ _=>true) λi j=>.bl (decide (i<=j))):=jM op_le λ_ _ i j=>dG _
def aFN:OpD C X (compareOp .Gt) (fI (λ_ _=>true) λi j=>.bl (decide (j<i))):=jM vA λ_ _ i j=>dG _
def aFO:OpD C X (compareOp .GtE) (fI (λ_ _=>true) λi j=>.bl (decide (j<=i))):=jM op_ge λ_ _ i j=>dG _
noncomputable def fS(c:Str->Str->Bool)(g:Str->Str->D):Md->D->Md->D->Option (Md×D):=λ_ x _ y=>match x,y with
 |.str i,.str j=>if c i j=true then some (.fz,g i j)else none
 |_,_=>none
def nX(hx:PyData.strOk x=true)(hy:PyData.strOk y=true):PyData.strOk (x++y)=true:=by unfold PyData.strOk at *;show(x.cps++y.cps).all _=true;rw[Array.all_append,hx,hy];rfl
def aFP:OpD C X (binaryOp .Add) (fS (λi j=>decide (i.length+j.length<=sizeLine)) λi j=>.str (i++j)):=by
 refine⟨_,aDU,λF H m x n y v u k d Q s rx ry e w=>?_⟩;unfold fS at e;split at e
 . rename_i i j;obtain⟨rfl,h1⟩:=rx.str;obtain⟨rfl,h2⟩:=ry.str;split at e
   . rename_i hc;cases e;have hc:=aTD hc;exact⟨i,j,rfl,rfl,hc,w _ F H (.refl s) (eO ⟨by rw[strLen_append];exact hc,nX h1.2 h2.2⟩) (by nofun)⟩
   . cases e
 . cases e
def jN(i j:Str):Bool:=!(Builtin.Str.occurrences j i 0 j.length 1).isEmpty
def aFQ:OpD C X (compareOp .In) (fS (λ_ _=>true) λi j=>.bl (jN i j)):=by
 refine⟨_,aDM,λF H m x n y v u k d Q s rx ry e w=>?_⟩;unfold fS at e;split at e
 . rename_i i j;obtain⟨rfl,h1⟩:=rx.str;obtain⟨rfl,h2⟩:=ry.str;rw[if_pos rfl]at e;cases e;exact⟨i,j,rfl,rfl,w _ F H (.refl s) (dG _) (by nofun)⟩
 . cases e
def aFR:OpD C X (compareOp .NotIn) (fS (λ_ _=>true) λi j=>.bl (!jN i j)):=by
 refine⟨_,aDP,λF H m x n y v u k d Q s rx ry e w=>?_⟩;unfold fS at e;split at e
 . rename_i i j;obtain⟨rfl,h1⟩:=rx.str;obtain⟨rfl,h2⟩:=ry.str;rw[if_pos rfl]at e;cases e;exact⟨i,j,rfl,rfl,w _ F H (.refl s) (dG _) (by nofun)⟩
 . cases e
end
section
variable  {a b:Expr}{gc:Rho->Res}
def aZ:Res->Res
 |.ok .bo _=>.stuck
 |.ok _ d=>.ok .fz d
 |r=>r
def aF.freeze{F:Hp}{x:Addr}{o:HO}(st:aF F H F' H')(hx:H x=none)(hx':F' x=none)(ho:H' x=some o):aF F H (upd F' x o) H':=by
 refine⟨st.same,λb u q=>?_,λb u q=>?_,λy h1 h2=>?_⟩
 . rw[aL (bR (st.fsame b u q) hx')];exact st.fsame b u q
 . by_cases hb:b=x
   . subst hb;rw[aV]at q;rw[<- q];exact ho
   . rw[aL hb]at q;exact st.sub b u q
 . have:y≠x:=by rintro rfl;exact h2 hx
   rw[aL this];exact st.new y h1 h2
def Top.freeze{F:Hp}{x:Addr}{d:D}(hx:F x=none)(h:Top K F H x d):∃o,H x=some o/\aB K (upd F x o) d (.ref x):=by
 have s:∀o,aD F (upd F x o):=λo b u q=>by rw[aL (bR q hx)];exact q
 cases d with
 |lst ds=>obtain⟨xs,q,r⟩:=h;refine⟨_,q,?_⟩;simp only[aB];exact⟨x,xs,rfl,SqL.of aV,r.mono (s _) _ _⟩
 |dct ds=>obtain⟨xs,q,r⟩:=h;refine⟨_,q,?_⟩;simp only[aB];exact⟨x,xs,rfl,aV,r.mono (s _) _ _⟩
 |ins c fs=>obtain⟨C,dx,gs,n,q,r⟩:=h;refine⟨_,q,?_⟩;simp only[aB];exact⟨x,C,dx,gs,rfl,n,aV,r.mono (s _) _ _⟩
 |set ks=>obtain⟨S,q,r⟩:=h;refine⟨_,q,?_⟩;simp only[aB];exact⟨x,S,rfl,aV,r⟩
 |dtn ds=>obtain⟨xs,q,r⟩:=h;refine⟨_,q,?_⟩;simp only[aB];exact⟨x,xs,rfl,aV,r.mono (s _) _ _⟩
 |_=>exact h.elim
def aR.frz{F:Hp}{r:Res}{Q:VK}(w:aR C F H σ (aZ r) Q):aR C F H σ r Q:=by
 cases r with
 |exc c=>exact w
 |stuck=>exact w
 |ok m d =>
  cases m with
  |fz=>exact w
  |bo=>exact(show False from w).elim
  |fr=>intro v F' H' st rp fr;obtain⟨x,rfl,n,t⟩:=rp;obtain⟨o,ho,r⟩:=t.freeze n;exact w (.ref x) (upd F' x o) H' (st.freeze (fr rfl x rfl) n ho) r (by nofun)
def gJ(h:PV C X e g):PV C X e (λρ=>aZ (g ρ)):=PE.imp h λσ H Q q=>by
 rw[aS]at q ⊢;obtain⟨ρ,F,R,w⟩:=q
 try dsimp only at w
 exact⟨ρ,F,R,w.frz⟩
def iM(C:Cw)(F H:Hp)(σ:L2.St)(r:Res)(Q:Bool->Hp->Prop):Prop:=match r with
 |.ok _ (.bl b)=>∀F' H',aF F H F' H'->Q b H'
 |.exc c=>∀F' H',aF F H F' H'->C.EE c σ H'
 |_=>False
def iM.step{F F1 H1:Hp}{r:Res}{Q:Bool->Hp->Prop}(st:aF F H F1 H1)(h:iM C F H σ r Q):iM C F1 H1 σ r Q:=by
 cases r with
 |ok m d =>
  cases d with
  |bl b=>exact λF' H' s2=>h F' H' (st.trans s2)
  |_=>exact h
 |exc c=>exact λF' H' s2=>h F' H' (st.trans s2)
 |stuck=>exact h
def tT(C:Cw)(g:Rho->Res):TT:=λσ H Q=>∃ρ F,aN C.K C.F0 C.H0 F H σ ρ/\iM C F H σ (g ρ) Q
def PTv(C:Cw)(X:Cx)(e:Expr)(g:Rho->Res):Prop:=PT X e (tT (C.at X) g)
def PWv(C:Cw)(X:Cx)(e:Expr)(g:Rho->Res):Prop:=PW X e (tT (C.at X) g)
def PT.imp{t t':TT}(h:PT X e t)(i:∀σ H Q,t' σ H Q->t σ H Q):PT X e t':=λaA s σ H Q I q=>h aA s σ H Q I (i σ H Q q)
def PW.imp{t t':TT}(h:PW X e t)(i:∀σ H Q,t' σ H Q->t σ H Q):PW X e t':=λwhole aA s σ H Q I q=>h whole aA s σ H Q I (i σ H Q q)
def nY:D->Option Bool
 |.non=>some false
 |.bl b=>some b
 |.int i=>some (i != 0)
 |.str x=>some ((x.length:Int) != 0)
 |.tup ds=>some (!ds.isEmpty)
 |.lst ds=>some (!ds.isEmpty)
 |.dct ds=>some (!ds.isEmpty)
 |_=>none
def lF(r:Res):Res:=r.thn λ_ d=>match nY d with|some b=>.ok .fz (.bl b)|none=>.stuck
theorem aC.isEmpty{F:Hp}{xs:List V}(h:aC K F ds xs):ds.isEmpty=xs.isEmpty:=by
 cases ds with
 |nil=>simp only[aC]at h;subst h;rfl
 |cons d ds=>simp only[aC]at h;obtain⟨y,ys,rfl,_⟩:=h;rfl
theorem aO.isEmpty{F:Hp}{ds:List (Key×D)}{xs:List (Key×V)}(h:aO K F ds xs):ds.isEmpty=xs.isEmpty:=by
 cases ds with
 |nil=>simp only[aO]at h;subst h;rfl
 |cons d ds=>obtain⟨k,d⟩:=d;simp only[aO]at h;obtain⟨y,ys,rfl,_⟩:=h;rfl
def aFS{F:Hp}{m:Md}{d:D}{k:Bool}(s:aD F H)(h:Rp K F H m d v)(e:nY d=some k):qB K v H k:=by
 cases d with
 |non=>cases h.non;cases e;rfl
 |bl b=>cases h.bl;cases e;rfl
 |int i=>cases h.int;cases e;rfl
 |str x=>obtain⟨rfl,hl,_⟩:=h.str;cases e;exact⟨hl,rfl⟩
 |tup ds=>obtain⟨a,xs,rfl,q,r⟩:=h.seqT s;cases e;exact .inr (.inl ⟨xs,q,by rw[r.isEmpty]⟩)
 |lst ds=>obtain⟨a,xs,rfl,q,r⟩:=h.seqL s;cases e;exact .inl ⟨xs,q,by rw[r.isEmpty]⟩
 |dct ds=>obtain⟨a,xs,rfl,q,r⟩:=h.dict s;cases e;exact .inr (.inr ⟨xs,q,by rw[r.isEmpty]⟩)
 |ty n=>cases e
 |ob n=>cases e
 |ins n=>cases e
 |fn n=>cases e
 |exn n=>cases e
 |set n=>cases e
 |dtn n=>cases e
 |dtf n=>cases e
 |dcf n=>cases e
def aFT(h:PV C X e g)(he:∀whole,isTrue e X.env whole=(do let v <- whole;standAt e.pos;holding [v] (truthy v)):=by intro _;rfl):PTv C X e (λρ=>lF (g ρ)):=by
 refine PT.imp (aDT h he) λσ H Q q=>?_;obtain⟨ρ,F,R,w⟩:=q
 try dsimp only at w
 rw[aS];refine⟨ρ,F,R,?_⟩;cases er:g ρ with
 |stuck=>rw[er]at w;exact w
 |exc c=>rw[er]at w;exact w
 |ok m d =>
  rw[er]at w;intro v F' H' st rp _;have w:iM (C.at X) F H σ (match nY d with|some b=>.ok .fz (.bl b)|none=>.stuck) Q:=w
  cases ed:nY d with
  |none=>rw[ed]at w;exact w.elim
  |some k=>rw[ed]at w;exact⟨k,aFS st.sub rp ed,w F' H' st⟩
def aFU{op:CmpOp}{φ}(o:OpD C X (compareOp op) φ)(hb':∀m x n y k d,φ m x n y=some (k,d)->∃t,k=.fz/\d=.bl t)(ha:PV C X a ga)(hb:PV C X b gb)(hm:behindInMarks op b=false):PTv C X (.Compare a [op] [b] pos) (λρ=>op2 φ (ga ρ) (gb ρ)):=by
 obtain⟨r,h1,h2⟩:=o;refine PT.imp (vC h1 ha hb hm) λσ H Q q=>?_;obtain⟨ρ,F,R,w⟩:=q
 try dsimp only at w
 unfold vB;refine lE h2 ?_;rw[aS];refine⟨ρ,F,R,?_⟩;cases er:op2 φ (ga ρ) (gb ρ)with
 |stuck=>rw[er]at w;exact w
 |exc c=>rw[er]at w;exact w
 |ok m d =>
  rw[er]at w;have:∃t,m=.fz/\d=.bl t:=by
   unfold op2 at er;cases e1:ga ρ with
   |stuck=>rw[e1]at er;cases er
   |exc c=>rw[e1]at er;cases er
   |ok m1 d1 =>
    cases e2:gb ρ with
    |stuck=>rw[e1,e2]at er;cases er
    |exc c=>rw[e1,e2]at er;cases er
    |ok m2 d2 =>
     rw[e1,e2]at er;have er:Res.of (φ m1 d1 m2 d2)=.ok m d:=er;cases e3:φ m1 d1 m2 d2 with
     |none=>rw[e3]at er;cases er
     |some kd=>rw[e3]at er;obtain⟨k,d'⟩:=kd;cases er;exact hb' _ _ _ _ _ _ e3
  obtain⟨t,rfl,rfl⟩:=this;intro v F' H' st rp _;cases rp.bl;exact⟨t,rfl,w F' H' st⟩
def eQ(x:Res)(y:Res):Res:=x.thn λ_ d=>match d with|.bl true=>y|.bl false=>.ok .fz (.bl false)|_=>.stuck
def orR(x:Res)(y:Res):Res:=x.thn λ_ d=>match d with|.bl true=>.ok .fz (.bl true)|.bl false=>y|_=>.stuck
def lG(x:Res):Res:=x.thn λ_ d=>match d with|.bl b=>.ok .fz (.bl (!b))|_=>.stuck
def aFV(ha:PTv C X a ga):PTv C X (.UnaryOp .Not a pos) (λρ=>lG (ga ρ)):=by
 refine PT.imp (aCZ ha) λσ H Q q=>?_;obtain⟨ρ,F,R,w⟩:=q
 try dsimp only at w
 refine⟨ρ,F,R,?_⟩;cases er:ga ρ with
 |stuck=>rw[er]at w;exact w
 |exc c=>rw[er]at w;exact w
 |ok m d =>
  rw[er]at w;cases d with
  |bl b=>exact w
  |_=>exact w
def wF{op:BoolOp}(h:PTv C X a ga):PWv C X (.BoolOp op [a] pos) ga:=by
 cases op with
 |And=>exact aCW h
 |Or=>exact aCX h
def wG{Q:Bool->Hp->Prop}(q:tT C (λρ=>eQ (ga ρ) (gb ρ)) σ H Q):pV (tT C ga) (tT C gb) σ H Q:=by
 obtain⟨ρ,F,R,w⟩:=q
 try dsimp only at w
 refine⟨ρ,F,R,?_⟩;cases er:ga ρ with
 |stuck=>rw[er]at w;exact w
 |exc c=>rw[er]at w;exact w
 |ok m d =>
  rw[er]at w;cases d with
  |bl b =>
   intro F' H' st;cases b with
   |true=>rw[if_pos rfl];exact⟨ρ,F',R.step st,iM.step st w⟩
   |false=>rw[if_neg aRA];exact w F' H' st
  |_=>exact w
def tT_or{Q:Bool->Hp->Prop}(q:tT C (λρ=>orR (ga ρ) (gb ρ)) σ H Q):tOr (tT C ga) (tT C gb) σ H Q:=by
 obtain⟨ρ,F,R,w⟩:=q
 try dsimp only at w
 refine⟨ρ,F,R,?_⟩;cases er:ga ρ with
 |stuck=>rw[er]at w;exact w
 |exc c=>rw[er]at w;exact w
 |ok m d =>
  rw[er]at w;cases d with
  |bl b =>
   intro F' H' st;cases b with
   |true=>rw[if_pos rfl];exact w F' H' st
   |false=>rw[if_neg aRA];exact⟨ρ,F',R.step st,iM.step st w⟩
  |_=>exact w
def aFW{rest:List Expr}(ha:PTv C X a ga)(hb:PWv C X (.BoolOp .And (b::rest) pos) gb):PWv C X (.BoolOp .And (a::b::rest) pos) (λρ=>eQ (ga ρ) (gb ρ)):=PW.imp (aCY ha hb) λ_ _ _ q=>wG q
def aFX{rest:List Expr}(ha:PTv C X a ga)(hb:PWv C X (.BoolOp .Or (b::rest) pos) gb):PWv C X (.BoolOp .Or (a::b::rest) pos) (λρ=>orR (ga ρ) (gb ρ)):=PW.imp (pw_or ha hb) λ_ _ _ q=>tT_or q
def pt_w(h:PWv C X e g):PTv C X e g:=PW.pt h
def wH{op}(h:PV C X a ga):PV C X (.BoolOp op [a] pos) ga:=aC0 h
def aFY{rest:List Expr}(ha:PV C X a ga)(hb:PV C X (.BoolOp .And (b::rest) pos) gb):PV C X (.BoolOp .And (a::b::rest) pos) (λρ=>eQ (ga ρ) (gb ρ)):=by
 refine PE.imp (aC1 ha hb) λσ H Q q=>?_;unfold uY;rw[aS]at q ⊢;obtain⟨ρ,F,R,w⟩:=q
 try dsimp only at w
 refine⟨ρ,F,R,?_⟩;cases er:ga ρ with
 |stuck=>rw[er]at w;exact w
 |exc c=>rw[er]at w;exact w
 |ok m d =>
  rw[er]at w;cases d with
  |bl k =>
   intro v F' H' st rp _;cases rp.bl;refine⟨k,rfl,?_⟩;cases k with
   |true=>rw[if_pos rfl,aS];exact⟨ρ,F',R.step st,aR.step st w⟩
   |false=>rw[if_neg aRA];exact w (.bl false) F' H' st (dG _) (by nofun)
  |_=>exact w.elim
def aFZ{rest:List Expr}(ha:PV C X a ga)(hb:PV C X (.BoolOp .Or (b::rest) pos) gb):PV C X (.BoolOp .Or (a::b::rest) pos) (λρ=>orR (ga ρ) (gb ρ)):=by
 refine PE.imp (pe_or ha hb) λσ H Q q=>?_;unfold tOrV;rw[aS]at q ⊢;obtain⟨ρ,F,R,w⟩:=q
 try dsimp only at w
 refine⟨ρ,F,R,?_⟩;cases er:ga ρ with
 |stuck=>rw[er]at w;exact w
 |exc c=>rw[er]at w;exact w
 |ok m d =>
  rw[er]at w;cases d with
  |bl k =>
   intro v F' H' st rp _;cases rp.bl;refine⟨k,rfl,?_⟩;cases k with
   |true=>rw[if_pos rfl];exact w (.bl true) F' H' st (dG _) (by nofun)
   |false=>rw[if_neg aRA,aS];exact⟨ρ,F',R.step st,aR.step st w⟩
  |_=>exact w.elim
def aF0(ha:PV C X a ga):PV C X (.UnaryOp .Not a pos) (λρ=>lG (ga ρ)):=by
 refine PE.imp (aC2 ha) λσ H Q q=>?_;unfold uZ;rw[aS]at q ⊢;obtain⟨ρ,F,R,w⟩:=q
 try dsimp only at w
 refine⟨ρ,F,R,?_⟩;cases er:ga ρ with
 |stuck=>rw[er]at w;exact w
 |exc c=>rw[er]at w;exact w
 |ok m d =>
  rw[er]at w;cases d with
  |bl k=>intro v F' H' st rp _;cases rp.bl;exact⟨k,rfl,w _ F' H' st (dG _) (by nofun)⟩
  |_=>exact w.elim
def ixD:Md->D->Md->D->Option (Md×D):=λ_ x _ y=>match x,y with
 |.lst ds,.int i=>(atI ds i).map λd=>(.fz,d)
 |.tup ds,.int i=>(atI ds i).map λd=>(.fz,d)
 |.str z,.int i=>(atI z.cps.toList i).map λc=>(.fz,.str ⟨#[c]⟩)
 |_,_=>none
theorem aC.atI{F:Hp}{xs:List V}{i:Int}{d:D}(h:aC K F ds xs)(e:atI ds i=some d):∃x,L2.atI xs i=some x/\aB K F d x:=by
 unfold L2.atI at *;rw[h.length];cases q:ixN ds.length i with
 |none=>rw[q]at e;cases e
 |some j=>rw[q]at e;exact h.get' e
def aF1{F:Hp}{m n k:Md}{x y d:D}{u:V}{Q:VK}(s:aD F H)(rx:Rp X.K F H m x v)(ry:Rp X.K F H n y u)(e:ixD m x n y=some (k,d))(w:∀v' F' H',aF F H F' H'->Rp X.K F' H' k d v'->(k=.fr->∀a,v'=.ref a->H a=none)->Q v' H'):rIx X.K v u H Q:=by
 unfold ixD at e;split at e
 . rename_i ds i;cases ry.int;obtain⟨p,xs,rfl,hq,r⟩:=rx.seqL s;cases ei:atI ds i with
   |none=>rw[ei]at e;cases e
   |some d'=>rw[ei]at e;cases e;obtain⟨x',ex,rx'⟩:=r.atI ei;exact .inl ⟨p,xs,i,x',rfl,rfl,hq,ex,w x' F H (.refl s) rx' (by nofun)⟩
 . rename_i ds i;cases ry.int;obtain⟨p,xs,rfl,hq,r⟩:=rx.seqT s;cases ei:atI ds i with
   |none=>rw[ei]at e;cases e
   |some d'=>rw[ei]at e;cases e;obtain⟨x',ex,rx'⟩:=r.atI ei;exact .inr (.inl ⟨p,xs,i,x',rfl,rfl,hq,ex,w x' F H (.refl s) rx' (by nofun)⟩)
 . rename_i z i;cases ry.int;obtain⟨rfl,hl,hk⟩:=rx.str;cases ei:atI z.cps.toList i with
   |none=>rw[ei]at e;cases e
   |some c =>
    rw[ei]at e;cases e;refine .inr (.inr ⟨z,i,c,rfl,rfl,hl,ei,w _ F H (.refl s) (eO ⟨?_,?_⟩) (by nofun)⟩)
    . show 1<=sizeLine;decide
    . obtain⟨j,_,hj,_⟩:=nQ ei;unfold PyData.strOk at hk ⊢;rw[aTF]at hk;have hc:=hk c (by rw[<- aRM];exact aR2 hj)
      simpa using hc
 . cases e
def pv_ix(ha:PV C X a ga)(hb:PV C X b gb)(hs:nR b:=by intro _ _;rfl):PV C X (.Subscript a b pos) (λρ=>op2 ixD (ga ρ) (gb ρ)):=by exact PE.imp (vR aEL ha hb hs) λσ H Q q=>lE (λF H m x n y v u k d Q s rx ry e w=>aF1 s rx ry e w) q
def aF2:SlR X (λx lo hi H Q=>∃z,x=.str z/\z.length<=sizeLine/\Q (.str (Txt.slice z lo hi)) H):=by
 intro aA s σ H x v vl vu lo hi sl Q I rx hs pl pu h;obtain⟨z,rfl,hz,q⟩:=h;obtain⟨t,rfl⟩:=rx;refine⟨"str", _,PySem.F.slot_str_getitem.lookup,typeIs_str _ _ _,?_⟩;have fin:∀t' k,EP X aA σ Q (.str (Txt.slice z lo hi) t') {s with toks:=k}:=λt' k=>⟨.str (Txt.slice z lo hi),H,I.tok _,⟨_,rfl⟩,q⟩
 cases pl with
 |none =>
  cases pu with
  |none=>exact aTG (l:=none) (u:=none) (st:=none) hs rfl (aTH ⟨aQW (aTI z _ _) hz,λt' k=>fin t' k⟩)
  |int j tj=>exact aTG (l:=none) (u:=some (j,tj)) (st:=none) hs rfl (aTH ⟨aQW (aTI z _ _) hz,λt' k=>fin t' k⟩)
 |int i ti =>
  cases pu with
  |none=>exact aTG (l:=some (i,ti)) (u:=none) (st:=none) hs rfl (aTH ⟨aQW (aTI z _ _) hz,λt' k=>fin t' k⟩)
  |int j tj=>exact aTG (l:=some (i,ti)) (u:=some (j,tj)) (st:=none) hs rfl (aTH ⟨aQW (aTI z _ _) hz,λt' k=>fin t' k⟩)
def aF3(h:PyData.strOk z=true):PyData.strOk (Txt.slice z lo hi)=true:=by
 unfold Txt.slice;split
 . exact h
 . unfold PyData.strOk at *;rw[aTF]at h ⊢;intro c hc;rw[<- aRM,List.toList_toArray,aRI]at hc;obtain⟨j,_,hj⟩:=hc;exact h c (aTJ hj)
def POv(C:Cw)(X:Cx):Option Expr->Option (Rho->Res)->Prop
 |none,none=>True
 |some e,some g=>PV C X e g
 |_,_=>False
def wI(C:Cw):Option (Rho->Res)->TO
 |none=>vP
 |some g=>nP (tG C g)
def wJ{e:Option Expr}{g:Option (Rho->Res)}(h:POv C X e g):PO X e (wI (C.at X) g):=by
 cases e with
 |none=>cases g with
  |none=>exact aED
  |some g=>exact h.elim
 |some e=>cases g with
  |none=>exact h.elim
  |some g=>exact aEE h
def cO(g:Option (Rho->Res))(ρ:Rho)(k:Option Int->Res):Res:=match g with
 |none=>k none
 |some g=>(g ρ).thn λ_ d=>match d with|.int i=>k (some i)|_=>.stuck
def jO{F:Hp}{g:Option (Rho->Res)}{k:Option Int->Res}{Q:VK}{R:Option Int->Hp->Prop}(RS:aN C.K C.F0 C.H0 F H σ ρ)(w:aR C F H σ (cO g ρ k) Q)(h:∀i F' H',aF F H F' H'->aN C.K C.F0 C.H0 F' H' σ ρ->aR C F' H' σ (k i) Q->R i H'):wI C g σ H R:=by
 cases g with
 |none=>exact h none F H (.refl RS.sub) RS w
 |some g =>
  show nP (tG C g) σ H R;unfold nP;rw[aS];refine⟨ρ,F,RS,?_⟩;have w:aR C F H σ ((g ρ).thn λ_ d=>match d with|.int i=>k (some i)|_=>.stuck) Q:=w
  cases er:g ρ with
  |stuck=>rw[er]at w;exact w
  |exc c=>rw[er]at w;exact w
  |ok m d =>
   rw[er]at w;intro v F' H' st rp _;cases d with
   |int i=>cases rp.int;exact⟨i,rfl,h (some i) F' H' st (RS.step st) (aR.step st w)⟩
   |_=>exact(show False from w).elim
end
inductive bG where
 |ok (xs:List (Md×D))|exc (c:Str)|stuck
def RpL(K:Fg)(F H:Hp):List (Md×D)->List V->Prop
 |[],vs=>vs=[]
 |(m,d)::r,vs=>∃v us,vs=v::us/\Rp K F H m d v/\RpL K F H r us
def bG.thn(r:bG)(k:List (Md×D)->Res):Res:=match r with
 |.ok xs=>k xs
 |.exc c=>.exc c
 |.stuck=>.stuck
@[simp] theorem bG.thn_ok(xs:List (Md×D))(k:List (Md×D)->Res):(bG.ok xs).thn k=k xs:=rfl
end D3
variable {gs:D3.Rho->D3.bG}
namespace D3
@[simp] theorem bG.thn_exc(c:Str)(k:List (Md×D)->Res):(bG.exc c).thn k=.exc c:=rfl
@[simp] theorem bG.thn_stuck(k:List (Md×D)->Res):bG.stuck.thn k=.stuck:=rfl
def lH(C:Cw)(F H:Hp)(σ:L2.St)(r:bG)(Q:List V->Hp->Prop):Prop:=match r with
 |.ok xs=>∀vs F' H',aF F H F' H'->RpL C.K F' H' xs vs->Q vs H'
 |.exc c=>∀F' H',aF F H F' H'->C.EE c σ H'
 |.stuck=>False
def lH.step{F F1 H1:Hp}{r:bG}{Q:List V->Hp->Prop}(st:aF F H F1 H1)(h:lH C F H σ r Q):lH C F1 H1 σ r Q:=by
 cases r with
 |ok m=>exact λv F' H' s2 rp=>h v F' H' (st.trans s2) rp
 |exc c=>exact λF' H' s2=>h F' H' (st.trans s2)
 |stuck=>exact h
def tAv(C:Cw)(g:Rho->bG):TA:=λσ H Q=>∃ρ F,aN C.K C.F0 C.H0 F H σ ρ/\lH C F H σ (g ρ) Q
def PAv(C:Cw)(X:Cx)(es:List Expr)(g:Rho->bG):Prop:=PA X es (tAv (C.at X) g)
def PA.imp{e:List Expr}{t t':TA}(h:PA X e t)(i:∀σ H Q,t' σ H Q->t σ H Q):PA X e t':=λp aA s σ H Q I q=>h p aA s σ H Q I (i σ H Q q)
def dH(x:Res)(y:bG):bG:=match x with
 |.ok m d=>(match y with|.ok r=>.ok ((m,d)::r)|.exc c=>.exc c|.stuck=>.stuck)
 |.exc c=>.exc c
 |.stuck=>.stuck
@[simp] theorem wK(m:Md)(d:D)(r:List (Md×D)):dH (.ok m d) (.ok r)=.ok ((m,d)::r):=rfl
section
variable  {a b:Expr}{es:List Expr}{gc:Rho->Res}
def qG:PAv C X [] (λ_=>.ok []):=PA.imp eN λσ H Q q=>by obtain⟨ρ,F,R,w⟩:=q;exact w [] F H (.refl R.sub) rfl
def qH(ha:PV C X e g)(hr:PAv C X es gs)(hs:starEach (e::es) X.env=(false,eval e X.env)::starEach es X.env:=by rfl):PAv C X (e::es) (λρ=>dH (g ρ) (gs ρ)):=by
 refine PA.imp (dE ha hr hs) λσ H Q q=>?_;unfold jL;obtain⟨ρ,F,R,w⟩:=q;dsimp only at w;rw[aS];refine⟨ρ,F,R,?_⟩;cases er:g ρ with
 |stuck=>rw[er]at w;exact w
 |exc c=>rw[er]at w;exact w
 |ok m d =>
  rw[er]at w;intro v F1 H1 s1 r1 _;refine⟨ρ,F1,R.step s1,?_⟩;have w1:=lH.step s1 w;cases es':gs ρ with
  |stuck=>rw[es']at w1;exact w1
  |exc c=>rw[es']at w1;exact w1
  |ok r=>rw[es']at w1;intro vs F2 H2 s2 r2;exact w1 (v::vs) F2 H2 s2 ⟨v,vs,rfl,r1.step s2,r2⟩
def cP:List (Md×D)->Option (List D)
 |[]=>some []
 |(.fz,d)::r=>(cP r).map (d :: ·)
 |_::_=>none
theorem RpL.fz{K:Fg}{F H:Hp}:∀{xs:List (Md×D)}{vs:List V}{ds:List D},RpL K F H xs vs->cP xs=some ds->aC K F ds vs
 |[],_,_,h,e=>by cases e;rw[show _=[]from h];exact aC.nil
 |(.fz,d)::r,_,_,h,e=>by
  obtain⟨v,us,rfl,r1,r2⟩:=h;unfold cP at e;cases q:cP r with
  |none=>rw[q]at e;cases e
  |some ds'=>rw[q]at e;cases e;exact aC.cons r1 (RpL.fz r2 q)
 |(.fr,d)::r,_,_,h,e=>by cases e
 |(.bo,d)::r,_,_,h,e=>by cases e
def iN(r:bG):Res:=r.thn λxs=>match cP xs with|some ds=>if ds.length<=sizeLine then .ok .fz (.tup ds)else .stuck|none=>.stuck
def iO(r:bG):Res:=r.thn λxs=>match cP xs with|some ds=>if ds.length<=sizeLine then .ok .fr (.lst ds)else .stuck|none=>.stuck
def aB.tup_of{F:Hp}{p:Addr}{xs:List V}(hp:F p=none)(r:aC K F ds xs):aB K (upd F p (.tup xs)) (.tup ds) (.ref p):=by simp only[aB];exact⟨p,xs,rfl,SqT.of aV,r.mono (λb u q=>by rw[aL (bR q hp)];exact q) _ _⟩
def aF4{x1:_}(h:PAv C X es gs):PV C X (.Tuple es x1 pos) (λρ=>iN (gs ρ)):=by
 refine PE.imp (aD4 h) λσ H Q q=>?_;unfold tTup;rw[aS]at q;obtain⟨ρ,F,R,w⟩:=q;refine⟨ρ,F,R,?_⟩;cases er:gs ρ with
 |stuck=>rw[er]at w;exact w
 |exc c=>rw[er]at w;exact w
 |ok xs =>
  rw[er]at w;intro vs F1 H1 s1 r1;have w1:aR (C.at X) F1 H1 σ (match cP xs with|some ds=>if ds.length<=sizeLine then .ok .fz (.tup ds)else .stuck|none=>.stuck) Q:=aR.step s1 w
  cases ef:cP xs with
  |none=>rw[ef]at w1;exact w1.elim
  |some ds =>
   rw[ef]at w1;dsimp only at w1;split at w1
   . rename_i hl;have r2:=r1.fz ef;refine⟨by rw[r2.length];exact hl,λp hp=>?_⟩
     exact w1 (.ref p) _ _ (aF.laid (.tup vs) s1.sub hp) (aB.tup_of (s1.sub.free hp) r2) (by nofun)
   . exact w1.elim
def aF5(h:PAv C X es gs):PV C X (.List es pos) (λρ=>iO (gs ρ)):=by
 refine PE.imp (vE h) λσ H Q q=>?_;unfold tLst;rw[aS]at q;obtain⟨ρ,F,R,w⟩:=q;refine⟨ρ,F,R,?_⟩;cases er:gs ρ with
 |stuck=>rw[er]at w;exact w
 |exc c=>rw[er]at w;exact w
 |ok xs =>
  rw[er]at w;intro vs F1 H1 s1 r1;have w1:aR (C.at X) F1 H1 σ (match cP xs with|some ds=>if ds.length<=sizeLine then .ok .fr (.lst ds)else .stuck|none=>.stuck) Q:=aR.step s1 w
  cases ef:cP xs with
  |none=>rw[ef]at w1;exact w1.elim
  |some ds =>
   rw[ef]at w1;dsimp only at w1;split at w1
   . rename_i hl;have r2:=r1.fz ef;refine⟨by rw[r2.length];exact hl,λp hp=>?_⟩
     refine w1 (.ref p) F1 _ (aF.fresh (.lst vs) s1.sub hp) ⟨p,rfl,s1.sub.free hp,vs,aV,r2⟩ λ_ a ea=>by cases ea;exact hp
   . exact w1.elim
def dU(X:Cx)(f:aW2)(φ:List (Md×D)->Option (Md×D)):Prop :=
 ∃r:List V->Hp->VK->Prop,bY X f r/\∀F H xs vs k d Q,aD F H->RpL X.K F H xs vs->φ xs=some (k,d) ->
  (∀v' F' H',aF F H F' H'->Rp X.K F' H' k d v'->(k=.fr->∀a,v'=.ref a->H a=none)->Q v' H')->r vs H Q
def eR(φ:List (Md×D)->Option (Md×D))(r:bG):Res:=r.thn λxs=>Res.of (φ xs)
def wL{φ:List (Md×D)->Option (Md×D)}{r:List V->Hp->VK->Prop}(h:∀F H xs vs k d Q,aD F H->RpL C.K F H xs vs->φ xs=some (k,d)->(∀v' F' H',aF F H F' H'->Rp C.K F' H' k d v'->(k=.fr->∀a,v'=.ref a->H a=none)->Q v' H')->r vs H Q){Q:VK}(q:tG C (λρ=>eR φ (gs ρ)) σ H Q):tCB r (tAv C gs) σ H Q:=by
 unfold tCB;rw[aS]at q;obtain⟨ρ,F,R,w⟩:=q;refine⟨ρ,F,R,?_⟩;cases er:gs ρ with
 |stuck=>rw[er]at w;exact w
 |exc c=>rw[er]at w;exact w
 |ok xs =>
  rw[er]at w;intro vs F1 H1 s1 r1;have w1:aR C F1 H1 σ (Res.of (φ xs)) Q:=aR.step s1 w;cases ef:φ xs with
  |none=>rw[ef]at w1;exact w1.elim
  |some kd=>obtain⟨k,d⟩:=kd;rw[ef]at w1;exact h F1 H1 xs vs k d Q s1.sub r1 ef w1
def wM{id:String}{φ}(o:dU X (.builtin id) φ)(hg:Gl X x)(hm:X.mg x=none)(hv:bootBuiltins x=some (.builtin id))(ha:PAv C X (e::es) gs)(hn:x ≠ "__name__" := by decide)(hdb:(x==("__debug__":Str))=false:=by decide)(he:starEach (e::es) X.env=(false,eval e X.env)::starEach es X.env:=by rfl)(hpl:(backTo pos (starEach es X.env)).any (·.1)=false:=by rfl):PV C X (.Call (.Name x p) (e::es) [] pos) (λρ=>eR φ (gs ρ)):=by obtain⟨r,h1,h2⟩:=o;exact PE.imp (lB h1 hg hm hv ha hn hdb he hpl) λσ H Q q=>wL h2 q
def eT:List (Md×D)->Option (Md×D)
 |[(_,.str z)]=>some (.fz,.int z.length)
 |[(_,.lst ds)]=>some (.fz,.int ds.length)
 |[(_,.tup ds)]=>some (.fz,.int ds.length)
 |_=>none
def RpL.one{F:Hp}{m:Md}{d:D}{vs:List V}(h:RpL K F H [(m,d)] vs):∃v,vs=[v]/\Rp K F H m d v:=by obtain⟨v,us,rfl,r,e⟩:=h;exact⟨v,by rw[show us=[]from e],r⟩
def RpL.two{F:Hp}{m n:Md}{d e:D}{vs:List V}(h:RpL K F H [(m,d),(n,e)] vs):∃v u,vs=[v,u]/\Rp K F H m d v/\Rp K F H n e u:=by obtain⟨v,us,rfl,r,v',us',rfl,r',e⟩:=h;exact⟨v,v',by rw[show us'=[]from e],r,r'⟩
def aF6:dU X (.builtin "len") eT:=by
 refine⟨_,aDX,λF H xs vs k d Q s rx e w=>?_⟩;unfold eT at e;split at e
 . rename_i m z;cases e;obtain⟨v,rfl,r⟩:=rx.one;obtain⟨rfl,hz,_⟩:=r.str;exact⟨_,z.length,rfl,⟨hz,rfl⟩,w _ F H (.refl s) (dS _) (by nofun)⟩
 . rename_i m ds;cases e;obtain⟨v,rfl,r⟩:=rx.one;obtain⟨a,xs,rfl,q,rl⟩:=r.seqL s;exact⟨_,xs.length,rfl,.inl ⟨xs,q,rfl⟩,by rw[rl.length];exact w _ F H (.refl s) (dS _) (by nofun)⟩
 . rename_i m ds;cases e;obtain⟨v,rfl,r⟩:=rx.one;obtain⟨a,xs,rfl,q,rl⟩:=r.seqT s;exact⟨_,xs.length,rfl,.inr ⟨xs,q,rfl⟩,by rw[rl.length];exact w _ F H (.refl s) (dS _) (by nofun)⟩
 . cases e
noncomputable def tyN:D->Option String
 |.non=>some "NoneType" |.bl _=>some "bool" |.int _=>some "int" |.str _=>some "str" |.tup _=>some "tuple" |.lst _=>some "list" |.dct _=>some "dict" |_=>none
noncomputable def lI(t c:String):Option Bool:=if["int", "bool", "str", "list", "tuple", "dict"].contains c=true then some (t==c||(t == "bool" && c == "int"))else none
def cL:List (Md×D)->Option (Md×D)
 |[(_,d),(_,.ty c)]=>match tyN d with|some t=>(lI t c).map λb=>(.fz,.bl b)|none=>none
 |_=>none
def aF7{d:D}{t c:String}{b:Bool}(ht:tyN d=some t)(e:lI t c=some b):W.kitOne K (.type t) (.type c)=some b:=by
 unfold lI at e;split at e
 . rename_i hc;simp only[List.contains_cons,List.contains_nil,aSL,aTE,aRN]at hc;cases e;have ht':t="NoneType" \/ t="bool" \/ t="int" \/ t="str" \/ t="tuple" \/ t="list" \/ t="dict" := by cases d <;> cases ht <;> simp
   rcases hc with rfl|rfl|rfl|rfl|rfl|rfl <;> rcases ht' with rfl|rfl|rfl|rfl|rfl|rfl|rfl <;> rfl
 . cases e
def aF8:dU X (.builtin "isinstance") cL:=by
 refine⟨λvs H Q=>∃(F:Hp) (m:Md) (d:D) (v:V) (t c:String) (b:Bool),aD F H/\Rp X.K F H m d v/\vs=[v,.ty c]/\tyN d=some t/\lI t c=some b/\Q (.bl b) H,?_,?_⟩
 . intro aA s σ H xs us Q I r h;obtain⟨F,m,d,v,t,c,b,sF,rp,rfl,ht,hb,q⟩:=h;obtain⟨u,u',rfl,ru,ru'⟩:=vals2 r;cases(show u'=Value.type c from ru')
   have e:=aF7 (K:=X.K) ht hb;have fin:∀tk,EP X aA σ Q (.bool b) {s with toks:=tk}:=λtk=>⟨.bl b,H,I.tok _,rfl,q⟩
   cases d with
   |non=>cases rp.non;cases ht;cases(show u=Value.none from ru);exact aTK W.kitx_none I.kIn True.intro e (λz=>nomatch z) fin
   |bl y=>cases rp.bl;cases ht;cases(show u=Value.bool y from ru);exact aTK W.kitx_bool I.kIn True.intro e (λz=>nomatch z) fin
   |int i=>cases rp.int;cases ht;obtain⟨t,q⟩:=(show ∃t,u=Value.int i t from ru);cases q;exact aTK W.kitx_int I.kIn True.intro e (λz=>nomatch z) fin
   |str y=>obtain⟨rfl,_⟩:=rp.str;cases ht;obtain⟨t,q⟩:=(show ∃t,u=Value.str y t from ru);cases q;exact aTK W.kitx_str I.kIn True.intro e (λz=>nomatch z) fin
   |tup ds =>
    obtain⟨a,xs,rfl,hq,_⟩:=rp.seqT sF;cases ht;cases(show u=Value.ref a from ru)
    obtain⟨its,_,⟨o,h1,h2,_⟩,_⟩:=I.tuple hq;exact aTK W.kitx_tuple I.kIn ⟨o,h1,h2⟩ e (λz=>nomatch z) fin
   |lst ds =>
    obtain⟨a,xs,rfl,hq,_⟩:=rp.seqL sF;cases ht;cases(show u=Value.ref a from ru)
    obtain⟨its,_,⟨o,n,h1,h2,_⟩,_⟩:=I.list hq;exact aTK W.kitx_list I.kIn ⟨o,h1,h2⟩ e (λz=>nomatch z) fin
   |dct ds =>
    obtain⟨a,xs,rfl,hq,_⟩:=rp.dict sF;cases ht;cases(show u=Value.ref a from ru)
    obtain⟨_,_,vs,_,p⟩:=(show bC X.prog X.w H s.heap a (.dK xs)from I.hok a _ hq)
    obtain⟨o,es,ep,h1,h2,_⟩:=p;exact aTK W.kitx_dict I.kIn ⟨o,h1,h2.1⟩ e (λz=>nomatch z) fin
   |_=>cases ht
 . intro F H xs vs k d Q s rx e w;unfold cL at e;split at e
   . rename_i m d' n c;obtain⟨v,u,rfl,r1,r2⟩:=rx.two;cases r2.ty;cases et:tyN d' with
     |none=>rw[et]at e;cases e
     |some t =>
      rw[et]at e;dsimp only at e;cases eb:lI t c with
      |none=>rw[eb]at e;cases e
      |some b=>rw[eb]at e;cases e;exact⟨F,m,d',v,t,c,b,s,r1,rfl,et,eb,w _ F H (.refl s) (dG _) (by nofun)⟩
   . cases e
def pv_ty{T:String}(hg:Gl X x)(hm:X.mg x=none)(hv:bootBuiltins x=some (.type T))(hn:x ≠ "__name__" := by decide)(hd:(x==("__debug__":Str))=false:=by decide):PV C X (.Name x pos) (λ_=>.ok .fz (.ty T)) :=
 iL _ (aCV (v:=.ty T) hg hm hv rfl hn hd) λ_ _=>rp_ty T
def aF9{t:Tok}(hg:Gl X x)(hm:X.mg x=some (.str y t))(h:(decide (y.length<=sizeLine)&&PyData.strOk y)=true:=by decide +kernel)(hd:(x==("__debug__":Str))=false:=by decide):PV C X (.Name x pos) (λ_=>.ok .fz (.str y)) :=
 iL _ (uX (v:=.str y) hg hm ⟨t,rfl⟩ hd) λ_ _=>eO (by rw[aSJ,aTC]at h;exact h)
def aGA{y:Int}{t:Tok}(hg:Gl X x)(hm:X.mg x=some (.int y t))(hd:(x==("__debug__":Str))=false:=by decide):PV C X (.Name x pos) (λ_=>.ok .fz (.int y)) :=
 iL _ (uX (v:=.int y) hg hm ⟨t,rfl⟩ hd) λ_ _=>dS _
end
inductive aG where
 |nx (ρ:Rho)|rt (m:Md) (d:D)|bk (ρ:Rho)|ct (ρ:Rho)|exc (c:Str) (ρ:Rho)|stuck
def cF(C:Cw)(Fa:Hp)(r:aG)(E:fE):Prop:=match r with
 |.nx ρ=>∀σ F H,aD Fa F->aN C.K C.F0 C.H0 F H σ ρ->E.nx σ H
 |.bk ρ=>∀σ F H,aD Fa F->aN C.K C.F0 C.H0 F H σ ρ->E.bk σ H
 |.ct ρ=>∀σ F H,aD Fa F->aN C.K C.F0 C.H0 F H σ ρ->E.ct σ H
 |.exc c ρ=>∀σ F H,aD Fa F->aN C.K C.F0 C.H0 F H σ ρ->C.EE c σ H
 |.rt m d=>∀v F H,aF C.F0 C.H0 F H->Rp C.K F H m d v->(m=.fr->∀a,v=.ref a->C.H0 a=none)->E.rt v H
 |.stuck=>False
def cF.mono{F F1:Hp}{r:aG}{E:fE}(s:aD F F1)(w:cF C F r E):cF C F1 r E:=by
 cases r with
 |nx ρ=>exact λσ F' H' z R=>w σ F' H' (s.trans z) R
 |bk ρ=>exact λσ F' H' z R=>w σ F' H' (s.trans z) R
 |ct ρ=>exact λσ F' H' z R=>w σ F' H' (s.trans z) R
 |exc c ρ=>exact λσ F' H' z R=>w σ F' H' (s.trans z) R
 |rt m d=>exact w
 |stuck=>exact w
def tH(C:Cw)(g:Rho->aG):TS:=λE σ H=>∃ρ F,aN C.K C.F0 C.H0 F H σ ρ/\cF C F (g ρ) E
def PSv(C:Cw)(X:Cx)(st:Stmt)(g:Rho->aG):Prop:=PS X st (tH (C.at X) g)
def PBv(C:Cw)(X:Cx)(st:List Stmt)(g:Rho->aG):Prop:=PSs X st (tH (C.at X) g)
def PS.imp{e:Stmt}{t t':TS}(h:PS X e t)(i:∀E σ H,t' E σ H->t E σ H):PS X e t':=λaA s σ H E I q=>h aA s σ H E I (i E σ H q)
def PSs.imp{e:List Stmt}{t t':TS}(h:PSs X e t)(i:∀E σ H,t' E σ H->t E σ H):PSs X e t':=λaA s σ H E I q=>h aA s σ H E I (i E σ H q)
def aG.thn(r:aG)(k:Rho->aG):aG:=match r with
 |.nx ρ=>k ρ
 |r=>r
@[simp] theorem aG.thn_nx(ρ:Rho)(k:Rho->aG):(aG.nx ρ).thn k=k ρ:=rfl
@[simp] theorem aG.thn_rt(m:Md)(d:D)(k:Rho->aG):(aG.rt m d).thn k=.rt m d:=rfl
@[simp] theorem aG.thn_bk(ρ:Rho)(k:Rho->aG):(aG.bk ρ).thn k=.bk ρ:=rfl
@[simp] theorem aG.thn_ct(ρ:Rho)(k:Rho->aG):(aG.ct ρ).thn k=.ct ρ:=rfl
@[simp] theorem aG.thn_exc(c:Str)(ρ:Rho)(k:Rho->aG):(aG.exc c ρ).thn k=.exc c ρ:=rfl
@[simp] theorem aG.thn_stuck(k:Rho->aG):aG.stuck.thn k=.stuck:=rfl
section
variable  {a b:Expr}{es:List Expr}{gc:Rho->Res}{h1 h2:Rho->aG}
def aGB:PBv C X [] (λρ=>.nx ρ):=PSs.imp aC3 λE σ H q=>by obtain⟨ρ,F,R,w⟩:=q;exact w σ F H (aD.refl _) R
def aGC{E:fE}(q:tH C (λρ=>(h1 ρ).thn h2) E σ H):tSeq (tH C h1) (tH C h2) E σ H:=by
 obtain⟨ρ,F,R,w⟩:=q;refine⟨ρ,F,R,?_⟩;dsimp only at w;cases er:h1 ρ with
 |nx ρ'=>rw[er]at w;exact λσ' F' H' z R'=>⟨ρ',F',R',cF.mono z w⟩
 |rt m d=>rw[er]at w;exact w
 |bk ρ'=>rw[er]at w;exact w
 |ct ρ'=>rw[er]at w;exact w
 |exc c ρ'=>rw[er]at w;exact w
 |stuck=>rw[er]at w;exact w
def aGD(ha:PSv C X st h1)(hb:PBv C X sts h2):PBv C X (st::sts) (λρ=>(h1 ρ).thn h2):=PSs.imp (iJ ha hb) λE σ H q=>aGC q
def Res.thS(r:Res)(ρ:Rho)(k:Md->D->aG):aG:=match r with
 |.ok m d=>k m d
 |.exc c=>.exc c ρ
 |.stuck=>.stuck
@[simp] theorem Res.thS_ok(m:Md)(d:D)(ρ:Rho)(k:Md->D->aG):(Res.ok m d).thS ρ k=k m d:=rfl
@[simp] theorem Res.thS_exc(c:Str)(ρ:Rho)(k:Md->D->aG):(Res.exc c).thS ρ k=.exc c ρ:=rfl
@[simp] theorem Res.thS_stuck(ρ:Rho)(k:Md->D->aG):Res.stuck.thS ρ k=.stuck:=rfl
def iP{F:Hp}{k:Md->D->aG}{E:fE}{Q:VK}(R:aN C.K C.F0 C.H0 F H σ ρ)(w:cF C F ((g ρ).thS ρ k) E)(h:∀m d v F' H',cF C F' (k m d) E->aF F H F' H'->aN C.K C.F0 C.H0 F' H' σ ρ->Rp C.K F' H' m d v->(m=.fr->∀a,v=.ref a->H a=none)->Q v H'):tG C g σ H Q:=by
 rw[aS];refine⟨ρ,F,R,?_⟩;cases er:g ρ with
 |stuck=>rw[er]at w;exact w
 |exc c=>rw[er]at w;exact λF' H' s=>w σ F' H' s.fsame (R.step s)
 |ok m d=>rw[er]at w;exact λv F' H' s rp fr=>h m d v F' H' (cF.mono s.fsame w) s (R.step s) rp fr
noncomputable def jP(r:Res)(ρ:Rho):aG:=r.thS ρ λm d=>match m with|.bo=>.stuck|m=>.rt m d
def aGE(he:PV C X e g):PSv C X (.Return (some e) pos) (λρ=>jP (g ρ) ρ):=PS.imp (nG he) λE σ H q=>by
 obtain⟨ρ,F,R,w⟩:=q;refine iP R w λm d v F' H' w' s R' rp fr=>?_;cases m with
 |bo=>exact(show False from w').elim
 |fz=>exact w' v F' H' R'.st rp (by nofun)
 |fr=>exact w' v F' H' R'.st rp λ_ a ea=>R.st.same.free (fr rfl a ea)
def fF(ρ:Rho)(i:Nat):aG:=match ρ[i]? with
 |some (some (false,d))=>.rt .fz d
 |some (some (true,d))=>.rt .fr d
 |_=>.stuck
def aGF(i:Nat)(h:PE X (.Name x p) (bX i)):PSv C X (.Return (some (.Name x p)) pos) (λρ=>fF ρ i):=PS.imp (nG h) λE σ H q=>by
 obtain⟨ρ,F,R,w⟩:=q;dsimp only at w;unfold fF at w;cases e:ρ[i]? with
 |none=>rw[e]at w;exact w.elim
 |some o =>
  cases o with
  |none=>rw[e]at w;exact w.elim
  |some q =>
   obtain⟨m,d⟩:=q;obtain⟨v,e1,r,hh⟩:=R.slot i m d e;rw[e]at w;cases m with
   |false=>exact⟨v,e1,w v F H R.st r (by nofun)⟩
   |true=>exact⟨v,e1,w v F H R.st r λ_=>hh rfl⟩
noncomputable def ifS(t:Res)(ρ:Rho)(x y:aG):aG:=t.thS ρ λ_ d=>match d with|.bl true=>x|.bl false=>y|_=>.stuck
def aGG{s1 s2:List Stmt}(hc:PTv C X c gc)(ha:PBv C X s1 h1)(hb:PBv C X s2 h2):PSv C X (.If c s1 s2 pos) (λρ=>ifS (gc ρ) ρ (h1 ρ) (h2 ρ)):=by
 refine PS.imp (ps_if hc ha hb) λE σ H q=>?_;obtain⟨ρ,F,R,w⟩:=q;dsimp only at w;refine⟨ρ,F,R,?_⟩;cases er:gc ρ with
 |stuck=>rw[er]at w;exact w
 |exc c=>rw[er]at w;exact λF' H' s=>w σ F' H' s.fsame (R.step s)
 |ok m d =>
  rw[er]at w;cases d with
  |bl k =>
   intro F' H' s;cases k with
   |true=>rw[if_pos rfl];exact⟨ρ,F',R.step s,cF.mono s.fsame w⟩
   |false=>rw[if_neg aRA];exact⟨ρ,F',R.step s,cF.mono s.fsame w⟩
  |_=>exact w.elim
noncomputable def eU(ρ:Rho)(i:Nat)(r:Res):aG:=r.thS ρ λm d=>match m with
 |.fz=>.nx (ρ.set i (some (false,d)))
 |.fr=>.nx (ρ.set i (some (true,d)))
 |.bo=>.stuck
theorem aN.set{F:Hp}{m:Bool}{d:D}(R0:aN K F0 H0 F H σ ρ)(s:aF F H F' H')(rp:Rp K F' H' (if m then .bo else .fz) d v)(fr:m=true->∀a,v=.ref a->H a=none):aN K F0 H0 F' H' (σ.set i (some v)) (ρ.set i (some (m,d))):=by
 have R:=R0.step s;refine⟨R.st,λj m' d' e=>?_,λj k d1 d2 a hjk e1 e2 q1 q2=>?_,by rw[aTL,aTL];exact R.len⟩
 . by_cases hj:j=i
   . subst hj;rw[aTM]at e;by_cases hl:j<ρ.length
     . rw[if_pos rfl,if_pos hl]at e;cases e;refine⟨v,by rw[aTM,if_pos rfl,if_pos (by rw[R.len];exact hl)],rp,λz a ea=>R0.st.same.free (fr z a ea)⟩
     . rw[if_pos rfl,if_neg hl]at e;cases e
   . rw[aQ4 (λz=>hj z.symm)]at e ⊢;exact R.slot j m' d' e
 . have old:∀(l:Nat) (d:D) (b:Addr),l≠i->ρ[l]? = some (some (true,d))->σ[l]? = some (some (.ref b))->H b≠none:=λl d b hl e q=>by obtain⟨u,q',r,_⟩:=R0.slot l true d e;rw[q]at q';cases q';obtain⟨b',eb,_,t⟩:=r;cases eb;exact t.there
   by_cases hj:j=i
   . subst hj;rw[aQ4 hjk]at e2 q2;rw[aTM]at e1 q1;by_cases hl:j<ρ.length
     . rw[if_pos rfl,if_pos hl]at e1;rw[if_pos rfl,if_pos (by rw[R.len];exact hl)]at q1
       cases e1;cases q1;exact old k d2 a (λz=>hjk z.symm) e2 q2 (fr rfl a rfl)
     . rw[if_pos rfl,if_neg hl]at e1;cases e1
   . by_cases hk:k=i
     . subst hk;rw[aQ4 (λz=>hjk z.symm)]at e1 q1;rw[aTM]at e2 q2;by_cases hl:k<ρ.length
       . rw[if_pos rfl,if_pos hl]at e2;rw[if_pos rfl,if_pos (by rw[R.len];exact hl)]at q2
         cases e2;cases q2;exact old j d1 a hjk e1 q1 (fr rfl a rfl)
       . rw[if_pos rfl,if_neg hl]at e2;cases e2
     . rw[aQ4 (λz=>hj z.symm)]at e1 q1;rw[aQ4 (λz=>hk z.symm)]at e2 q2;exact R.apart j k d1 d2 a hjk e1 e2 q1 q2
def qI{E:fE}(q:tH (C.at X) (λρ=>eU ρ i (g ρ)) E σ H):nH (tG (C.at X) g) (k6 i) E σ H:=by
 obtain⟨ρ,F,R,w⟩:=q;dsimp only at w;refine iP R w λm d v F' H' w' s R' rp fr=>?_;cases m with
 |bo=>exact(show False from w').elim
 |fz=>exact w' _ F' H' (aD.refl _) (R.set (m:=false) s rp (by nofun))
 |fr=>exact w' _ F' H' (aD.refl _) (R.set (m:=true) s rp λ_ a ea=>fr rfl a ea)
def aGH(hN:X.N.Nodup)(hi:X.N[i]? = some x)(hx:Loc X.env.scope x)(he:PV C X e g)(hs:swapsWith e (some (.Name x pos')) pos.line X.env=pure false:=by rfl)(hf:X.fn x=true\/X.env.scope.names.lookup x=some .local:=by first|exact .inl rfl|exact .inr rfl|assumption):PSv C X (.Assign [.Name x pos'] e pos) (λρ=>eU ρ i (g ρ)):=PS.imp (nI hN hi hx he hs hf) λE σ H q=>qI q
end
def Its(x:Str):It:=⟨λi _=>i<x.cps.size,λi H v H'=>H'=H/\∃c,x.cps[i]? = some c/\v=.str ⟨#[c]⟩,λi _=>x.cps.size<=i⟩
def wN(it:Addr)(x:Str)(t:Tok)(ty:String)(hty:["enumerate", "zip", "dict_itemiterator", "dict_reverseitemiterator", "odict_iterator", "itertools.zip_longest", "itertools.pairwise"].contains ty=false)(W:∀A':aW4,A'.handled=none->Walks P w A' it [it] [it] x.cps.size (SignAt x) (λi h=>h.IsStrIter it ty x t i))(Sf:∀(A:aW4) (i:Nat) (s:aW3) (Q:VSP) (E:VSP),s.heap.IsStrIter it ty x t i->Q (.ref it) s->wpAny (model P w) A (pyIter (.ref it)) Q E s):jJ P w K tg (Its x) [it] it (λi h=>i<=x.cps.size/\h.IsStrIter it ty x t i) where
 mem:=by simp
 obj:=λi h st b hb=>by
  have e:b=it:=by simpa using hb
  subst e;obtain⟨_,o,e,c,d⟩:=st;exact⟨o,e,λv z=>by rw[d]at z;cases z⟩
 keep:=λi h h' st k=>⟨st.1,let⟨o,e,r⟩:=st.2;⟨o,k it (by simp) o e,r⟩⟩
 item:=by
  intro X hP hw hK hc i aA s σ H E I hf st hg;subst hP hw hK;obtain⟨f0,f1,f2,f3,f4,f5⟩:=hf it (by simp)
  refine(W X.A (I.ok.hd hc)).item i s _ _ hg st.2 λv h' tk hv st' kk=>?_;obtain⟨c,u,hc',rfl⟩:=hv;have I1:Inv X aA σ H {s with heap:=h',toks:=tk}:=I.turned (λb o hb e=>kk b o (by simpa using hb) e) f0 f1 f3 f4 f5
  obtain⟨o,e,oc,d⟩:=id st';exact⟨_,rfl,k7 (s:={s with heap:=h',toks:=tk}) e oc d hty ⟨.str ⟨#[c]⟩,H,I1,⟨u,rfl⟩,⟨rfl,c,hc',rfl⟩,⟨hg,st'⟩,λb hb=>(hf b hb).1⟩⟩
 done:=by
  intro X hP hw hK hc i aA s σ H E I hf st hg;subst hP hw hK;obtain⟨f0,f1,f2,f3,f4,f5⟩:=hf it (by simp)
  have e:i=x.cps.size:=Nat.le_antisymm st.1 hg;subst e;exact(W X.A (I.ok.hd hc)).done s _ _ st.2 λh' tk kk=>⟨rfl,I.turned (λb o hb e=>kk b o (by simpa using hb) e) f0 f1 f3 f4 f5⟩
 self:=λA i s Q E st h=>Sf A i s Q E st.2 h
def iStr(te:TE):TI:=λσ H R=>te σ H λx H1=>∃z,x=.str z/\R (Its z) H1
def aGI{l:Expr}(hl:PE X l tl):PI X tg l (iStr tl):=by
 intro aA s σ H R I h;refine thn (hl aA s σ H _ I h) λv s1 ⟨x,H1,I1,r1,q1⟩=>?_;obtain⟨z,e,q⟩:=q1;subst e;obtain⟨t,rfl⟩:=r1;have fin:∀(ty:String) (o:Obj),o={cls:=.type ty,data:=.fields #[.str z t,.int ((0:Nat):Int) 0]} -> (∀b:Addr,b∈[s1.heap.objs.size]->g9 X aA H1 b)/\Inv X aA σ H1 {s1 with heap:=s1.heap.push o}/\(s1.heap.push o).IsStrIter s1.heap.objs.size ty z t 0:=λty o eo=>by
  refine⟨λb hb=>?_,I1.kept (t':=s1.toks) λb o e=>hps e,⟨o,aQP _ (by rw[eo];rfl),by rw[eo],by rw[eo]⟩⟩
  have e:b=s1.heap.objs.size:=by simpa using hb
  subst e;exact I1.fpOk (aRG _) (I1.hok.fresh (aRG _))
 cases ha:z.cps.all (· < 128)
 . refine wpAny_pyIter_wide ha ?_;obtain⟨f1,f2,f3⟩:=fin "str_iterator" _ rfl;exact⟨s1.heap.objs.size,[s1.heap.objs.size],_,Its z,H1,rfl,f2,wN _ z t "str_iterator" (by decide) (λA' hA=>Walks.strWide hA _ z t) (λA i s Q E st h=>wpAny_pyIter_striter_wide st h),⟨aRQ _,f3⟩,f1,q⟩
 . refine wpAny_pyIter_ascii ha ?_;obtain⟨f1,f2,f3⟩:=fin "str_ascii_iterator" _ rfl;exact⟨s1.heap.objs.size,[s1.heap.objs.size],_,Its z,H1,rfl,f2,wN _ z t "str_ascii_iterator" (by decide) (λA' hA=>Walks.strAscii hA _ z t) (λA i s Q E st h=>wpAny_pyIter_striter_ascii st h),⟨aRQ _,f3⟩,f1,q⟩
def PI.imp{t t':TI}(h:PI X tg e t)(i:∀σ H R,t' σ H R->t σ H R):PI X tg e t':=λaA s σ H R I q=>h aA s σ H R I (i σ H R q)
def PI.or{t t':TI}(h:PI X tg e t)(h':PI X tg e t'):PI X tg e (λσ H R=>t σ H R\/t' σ H R):=λaA s σ H R I q=>by
 rcases q with q|q
 . exact h aA s σ H R I q
 . exact h' aA s σ H R I q
structure lJ(K:Fg)(F:Hp)(J:It)(ds:List D):Prop where
 go:∀i H,aD F H->i<ds.length->J.go i H
 stop:∀i H,aD F H->ds.length<=i->J.stop i H
 yld:∀i Fc H x H',aD F Fc->aD Fc H->i<ds.length->J.yld i H x H'->∃F' d,ds[i]? = some d/\aF Fc H F' H'/\aB K F' d x
def WantI(C:Cw)(F H:Hp)(σ:L2.St)(r:Res)(R:It->Hp->Prop):Prop:=match r with
 |.ok _ (.lst ds)=>∀J F' H',aF F H F' H'->lJ C.K F' J ds->R J H'
 |.exc c=>∀F' H',aF F H F' H'->C.EE c σ H'
 |_=>False
def tIv(C:Cw)(g:Rho->Res):TI:=λσ H R=>∃ρ F,aN C.K C.F0 C.H0 F H σ ρ/\WantI C F H σ (g ρ) R
def PIv(C:Cw)(X:Cx)(tg e:Expr)(g:Rho->Res):Prop:=PI X tg e (tIv (C.at X) g)
def jQ(z:Str):List D:=z.cps.toList.map λc=>.str ⟨#[c]⟩
def fV(r:Res):Res:=r.thn λ_ d=>match d with
 |.lst ds=>.ok .fz (.lst ds)
 |.tup ds=>.ok .fz (.lst ds)
 |.str z=>.ok .fz (.lst (jQ z))
 |_=>.stuck
def aGJ{F:Hp}{a:Addr}{xs:List V}(hq:SqT K F a xs)(r:aC K F ds xs):lJ K F (Itt K a) ds where
 go:=λi H s hi=>by
  have hl:i<xs.length:=by rw[r.length];exact hi
  exact⟨xs,xs[i],aD.seqT s hq,by simp[hl]⟩
 stop:=λi H s hi=>⟨xs,aD.seqT s hq,by rw[r.length];exact hi⟩
 yld:=λi Fc H x H' s1 s2 hi y=>by obtain⟨rfl,y⟩:=y;have hx:=y xs (aD.seqT s2 (aD.seqT s1 hq));obtain⟨d,e,rd⟩:=r.get hx;exact⟨Fc,d,e,.refl s2,rd.mono s1 _ _⟩
def aGK{F:Hp}(hk:PyData.strOk z=true):lJ K F (Its z) (jQ z) where
 go:=λi H s hi=>by simpa[jQ,Its]using hi
 stop:=λi H s hi=>by simpa[jQ,Its]using hi
 yld:=λi Fc H x H' s1 s2 hi y=>by
  obtain⟨rfl,c,hc,rfl⟩:=y;refine⟨Fc,.str ⟨#[c]⟩,by simp[jQ,hc],.refl s2,?_⟩
  simp only[aB,true_and];refine⟨by show 1<=sizeLine;decide,?_⟩
  unfold PyData.strOk at hk ⊢;rw[aTF]at hk;simpa using hk c (aTJ hc)
def aGL(h:PV C X e g):PIv C X tg e (λρ=>fV (aZ (g ρ))):=by
 have h:=gJ h;refine PI.imp (PI.or (aDD h) (PI.or (aDE h) (aGI h))) λσ H R q=>?_;obtain⟨ρ,F,RS,w⟩:=q;dsimp only at w;cases er:aZ (g ρ)with
 |stuck=>rw[er]at w;exact w.elim
 |exc c=>refine .inl ?_;unfold pX;rw[aS];refine⟨ρ,F,RS,?_⟩;rw[er]at w ⊢;exact w
 |ok m d =>
  rw[er]at w;have hm:m=.fz:=by
   cases h:g ρ with
   |ok m' d'=>rw[h]at er;cases m' <;> cases er <;> rfl
   |exc c=>rw[h]at er;cases er
   |stuck=>rw[h]at er;cases er
  subst hm;cases d with
  |lst ds =>
   refine .inl ?_; unfold pX; rw [aS]; refine ⟨ρ, F, RS, ?_⟩; rw [er]; intro v F' H' st rp _; have rp : aB X.K F' (.lst ds) v := rp; simp only [aB] at rp; obtain ⟨a, xs, rfl, hq, r⟩ := rp; exact ⟨a, rfl, ⟨xs, st.sub.seq hq⟩, w _ F' H' st ⟨fun i H s hi => by
       have hl:i<xs.length:=by rw[r.length];exact hi
       exact⟨xs,xs[i],s.seq hq,by simp[hl]⟩,λi H s hi=>⟨xs,s.seq hq,by rw[r.length];exact hi⟩,λi Fc H x H' s1 s2 hi y=>by
       obtain⟨rfl,y⟩:=y;have hx:=y xs (s2.seq (s1.seq hq));obtain⟨d,e,rd⟩:=r.get hx;exact⟨Fc,d,e,.refl s2,rd.mono s1 _ _⟩⟩⟩
  |tup ds=>refine .inr (.inl ?_);unfold iTup;rw[aS];refine⟨ρ,F,RS,?_⟩;rw[er];intro v F' H' st rp _;have rp:aB X.K F' (.tup ds) v:=rp;simp only[aB]at rp;obtain⟨a,xs,rfl,hq,r⟩:=rp;exact⟨a,rfl,⟨xs,aD.seqT st.sub hq⟩,w _ F' H' st (aGJ hq r)⟩
  |str z=>refine .inr (.inr ?_);unfold iStr;rw[aS];refine⟨ρ,F,RS,?_⟩;rw[er];intro v F' H' st rp _;obtain⟨rfl,hz,hk⟩:=Rp.str rp;exact⟨z,rfl,w _ F' H' st (aGK hk)⟩
  |_=>exact w.elim
def bZ(lo hi:Int):List D:=(List.range (hi-lo).toNat).map λi=>.int (lo+(i:Nat))
def gK(r:bG):Res:=r.thn λxs=>match xs with
 |[(_,.int n)]=>if(decide (-(2 ^ 62)<=n)&&decide (n<2 ^ 62))=true then .ok .fz (.lst (bZ 0 n))else .stuck
 |_=>.stuck
def aGM{F:Hp}{lo hi:Int}:lJ K F (Itr lo (hi-lo).toNat) (bZ lo hi) where
 go:=λi H s h=>by simpa[bZ,Itr]using h
 stop:=λi H s h=>by simpa[bZ,Itr]using h
 yld:=λi Fc H x H' s1 s2 h y=>by
  obtain⟨rfl,rfl⟩:=y;have h':i<(hi-lo).toNat:=by simpa[bZ]using h
  refine⟨Fc,.int (lo+i),?_,.refl s2,by simp only[aB]⟩
  simp only[bZ,aR1,List.getElem?_range h',aTN]
def aGN{a:Expr}(hg:Gl X "range")(hm:X.mg "range" = none)(ha:PAv C X [a] gs)(hs:starEach [a] X.env=[(false,eval a X.env)]:=by rfl):PIv C X tg (.Call (.Name "range" p) [a] [] pos) (λρ=>gK (gs ρ)):=by
 refine PI.imp (aDG hg hm ha hs) λσ H R q=>?_;obtain⟨ρ,F,RS,w⟩:=q;dsimp only at w;unfold u9;refine⟨ρ,F,RS,?_⟩;cases er:gs ρ with
 |stuck=>rw[er]at w;exact w
 |exc c=>rw[er]at w;exact w
 |ok xs =>
  rw[er]at w;intro vs F' H' st rp;unfold gK at w;rw[bG.thn_ok]at w;split at w
  . rename_i m n;split at w
    . rename_i hc;rw[aSJ,aTC,aTC]at hc;obtain⟨v,rfl,r⟩:=rp.one;cases r.int;have:=aGM (K:=X.K) (F:=F') (lo:=0) (hi:=n);rw[Int.sub_zero]at this;exact⟨n,rfl,hc.1,hc.2,w _ F' H' st this⟩
    . exact w.elim
  . exact w.elim
def PGv(C:Cw)(X:Cx)(tg:Expr)(k:D->Rho->Option Rho):Prop:=∃t:TG,PG X tg t/\∀F H σ ρ ρ' d v Q,aN X.K C.F0 C.H0 F H σ ρ->aB X.K F d v->k d ρ=some ρ' ->
 (∀σ' F' H',aD F F'->aN X.K C.F0 C.H0 F' H' σ' ρ'->Q σ' H')->t v σ H Q
noncomputable def bP(k:D->Rho->Option Rho)(body:Rho->aG):List D->Rho->aG
 |[],ρ=>.nx ρ
 |d::ds,ρ=>match k d ρ with
  |none=>.stuck
  |some ρ1=>match body ρ1 with
   |.nx ρ2=>bP k body ds ρ2
   |.ct ρ2=>bP k body ds ρ2
   |.bk ρ2=>.nx ρ2
   |r=>r
def dI(r:Res)(ρ:Rho)(k:D->Rho->Option Rho)(body:Rho->aG):aG:=r.thS ρ λ_ d=>match d with|.lst ds=>bP k body ds ρ|_=>.stuck
theorem aGO{k:D->Rho->Option Rho}{h1:Rho->aG}(hp:PassesOwn (model X.prog X.w) X.A X.env X.xe)(hc:X.calm=true)(hi:PIv C X tg e g)(hg:PGv C X tg k)(hb:PBv C X body h1)(hs:∀x,foldedSetIterable e X.env x=pure x:=by intro _;rfl):PSv C X (.For tg e body [] pos) (λρ=>dI (g ρ) ρ k h1):=by
 obtain⟨t,ht,hk⟩:=hg;refine PS.imp (pZ hp hc hi ht hb hs) λE σ H q=>?_;obtain⟨ρ,F,RS,w⟩:=q;dsimp only at w;unfold nJ;refine⟨ρ,F,RS,?_⟩;cases er:g ρ with
 |stuck=>rw[er]at w;exact w
 |exc c=>rw[er]at w;exact λF' H' s=>w σ F' H' s.fsame (RS.step s)
 |ok m d =>
  rw[er]at w;cases d with
  |lst ds =>
   intro J F1 H1 s1 hJ;have w:cF (C.at X) F1 (bP k h1 ds ρ) E:=cF.mono s1.fsame w;refine⟨λi m σ' H'=>m=ds.length-i/\i<=ds.length/\∃ρ' F',aD F1 F'/\aN X.K C.F0 C.H0 F' H' σ' ρ'/\cF (C.at X) F' (bP k h1 (ds.drop i) ρ') E,⟨ds.length,by simp,aRQ _,ρ,F1,aD.refl _,RS.step s1,by simpa using w⟩,?_⟩
   rintro i m σ' H' ⟨rfl,hi,ρ',F',sF,R',w'⟩;by_cases hlt:i<ds.length
   . refine .inr ⟨hJ.go i H' (sF.trans R'.sub) hlt,λσ2 H2=>∃ρ2 F2,aD F1 F2/\aN X.K C.F0 C.H0 F2 H2 σ2 ρ2/\cF (C.at X) F2 (bP k h1 (ds.drop (i+1)) ρ2) E,λσ2 H2 ⟨ρ2,F2,a,b,c⟩=>⟨ds.length-(i+1),by lia,rfl,hlt,ρ2,F2,a,b,c⟩,λx H2 y=>?_⟩
     obtain⟨F2,d,ed,s2,rd⟩:=hJ.yld i F' H' x H2 sF R'.sub hlt y;have hd:ds.drop i=d::ds.drop (i+1):=by rw[aTO hlt];rw[aTP hlt]at ed;cases ed;rfl
     rw[hd]at w';unfold bP at w';cases ek:k d ρ' with
     |none=>rw[ek]at w';exact w'.elim
     |some ρ1 =>
      rw[ek]at w';dsimp only at w';refine hk F2 H2 σ' ρ' ρ1 d x _ (R'.step s2) rd ek λσ3 F3 H3 z3 R3=>?_;have z13:aD F1 F3:=(sF.trans s2.fsame).trans z3;have w3:=cF.mono (s2.fsame.trans z3) w';refine⟨ρ1,F3,R3,?_⟩;cases eb:h1 ρ1 with
      |nx ρ2=>rw[eb]at w3;exact λσ4 F4 H4 z4 R4=>⟨ρ2,F4,z13.trans z4,R4,cF.mono z4 w3⟩
      |ct ρ2=>rw[eb]at w3;exact λσ4 F4 H4 z4 R4=>⟨ρ2,F4,z13.trans z4,R4,cF.mono z4 w3⟩
      |bk ρ2=>rw[eb]at w3;exact λσ4 F4 H4 z4 R4=>w3 σ4 F4 H4 z4 R4
      |rt m d=>rw[eb]at w3;exact w3
      |exc c ρ2=>rw[eb]at w3;exact w3
      |stuck=>rw[eb]at w3;exact w3
   . have ei:i=ds.length:=by lia
     subst ei;refine .inl ⟨hJ.stop _ H' (sF.trans R'.sub) (aRG _),?_⟩;rw[aTQ]at w';exact w' σ' F' H' (aD.refl _) R'
  |_=>exact w.elim
end D3
namespace L2
theorem qJ {env : Env} : ∀ (names : List (Str × NameKind)) (acc : List (Str × Addr)), (∀ y ∈ names, y.2 = .free → ∃ c, env.cells.lookup y.1 = some c) → (∀ y c, acc.lookup y = some c → env.cells.lookup y = some c) →
    ∃cl,(forIn names acc λ(x:Str×NameKind) (cs:List (Str×Addr))=>(if x.2 == .free then(do let c <- cellOf env x.1;pure (ForInStep.yield ((x.1,c)::cs)))else pure (ForInStep.yield cs):Sem (ForInStep (List (Str×Addr)))))=pure cl /\
     (∀y c,cl.lookup y=some c->env.cells.lookup y=some c)/\(∀y c,acc.lookup y=some c->cl.lookup y=some c)/\∀y,(y,NameKind.free)∈names->∃c,cl.lookup y=some c
 |[],acc,_,ha=>⟨acc,by rw[aTR],ha,λ_ _ h=>h,λ_ h=>by cases h⟩
 |(n,k)::r,acc,h,ha=>by
  rw[aTS];by_cases hk:k=.free
  . subst hk;obtain⟨c,ec⟩:=h (n,.free) mcs rfl;have hc:cellOf env n=pure c:=by unfold cellOf;rw[ec]
    have e:((if(NameKind.free==NameKind.free)=true then(do let c <- cellOf env n;pure (ForInStep.yield ((n,c)::acc)))else pure (ForInStep.yield acc)):Sem (ForInStep (List (Str×Addr))))=pure (ForInStep.yield ((n,c)::acc)):=by rw[if_pos (by decide),hc,aTT]
    obtain⟨cl,e1,e2,e3,e4⟩:=qJ (env:=env) r ((n,c)::acc) (λy hy=>h y (mcm hy)) (λy c' q=>by
     rw[aTB]at q;cases hyn:y==n with
     |true=>rw[hyn]at q;cases q;rw[aRN.mp hyn];exact ec
     |false=>rw[hyn]at q;exact ha y c' q)
    refine⟨cl,?_,e2,λy c' q=>?_,λy hy=>?_⟩
    . dsimp only;rw[e,aTT];exact e1
    . cases hyn:y==n with
      |true=>have:=aRN.mp hyn;subst this;have q':=ha y c' q;rw[ec]at q';cases q';exact e3 y c (by rw[aTB,hyn])
      |false=>exact e3 y c' (by rw[aTB,hyn];exact q)
    . rcases aQZ.mp hy with z|z
      . cases z;exact⟨c,e3 n c (by rw[aTB,aTU])⟩
      . exact e4 y z
  . have e:((if(k==NameKind.free)=true then(do let c <- cellOf env n;pure (ForInStep.yield ((n,c)::acc)))else pure (ForInStep.yield acc)):Sem (ForInStep (List (Str×Addr))))=pure (ForInStep.yield acc):=by rw[if_neg (by simpa using hk)]
    obtain⟨cl,e1,e2,e3,e4⟩:=qJ (env:=env) r acc (λy hy=>h y (mcm hy)) ha;refine⟨cl,?_,e2,e3,λy hy=>?_⟩
    . dsimp only;rw[e,aTT];exact e1
    . rcases aQZ.mp hy with z|z
      . cases z;exact absurd rfl hk
      . exact e4 y z
def aGP(h:∀y∈scope.names,y.2=.free->∃c,env.cells.lookup y.1=some c):∃cl,closureFor scope env=pure cl/\(∀y c,cl.lookup y=some c->env.cells.lookup y=some c)/\∀y,(y,NameKind.free)∈scope.names->∃c,cl.lookup y=some c:=by
 obtain⟨cl,e1,e2,_,e4⟩:=qJ (env:=env) scope.names [] h (λy c q=>by simp at q)
 refine⟨cl,?_,e2,e4⟩;unfold closureFor;rw[bind_pure];exact e1
def aGQ(cU:∀y∈scope.names,y.2 ≠ .cell)(h:(relabel scope env).names.lookup x=some .cell\/(relabel scope env).names.lookup x=some .free):(x,NameKind.free)∈scope.names:=by
 unfold relabel at h;dsimp only at h;have go:∀(l:List (Str×NameKind)),(∀y∈l,y.2 ≠ .cell)->((l.map λ(n,k)=>if(k==NameKind.free&&env.scope.kind == .function&&env.kindOf n==some .cell)then(n,NameKind.cell)else(n,k)).lookup x=some .cell\/(l.map λ(n,k)=>if(k==NameKind.free&&env.scope.kind == .function&&env.kindOf n==some .cell)then(n,NameKind.cell)else(n,k)).lookup x=some .free)->(x,NameKind.free)∈l:=by
  intro l
  induction l with
  |nil=>intro _ h;simp at h
  |cons y l ih =>
   intro hc h;obtain⟨n,k⟩:=y;rw[aSV]at h;by_cases hx:x=n
   . subst hx;have hk:k=.free:=by
       by_cases hk:k=.free
       . exact hk
       . have e:(k==NameKind.free&&env.scope.kind == .function&&env.kindOf x==some .cell)=false:=by
           have:(k==NameKind.free)=false:=by simpa using hk
           rw[this];rfl
         simp only[e,aTA,aSB,aTB,aTU]at h;rcases h with h|h
         . cases h;exact absurd rfl (hc _ mcs)
         . cases h;exact absurd rfl hk
     subst hk;exact mcs
   . have hb:(x==n)=false:=by simpa using hx
     have hh:∀(kk:NameKind) (l':List (Str×NameKind)),((n,kk)::l').lookup x=l'.lookup x:=λkk l'=>by rw[aTB,hb]
     by_cases hcond:(k==NameKind.free&&env.scope.kind == .function&&env.kindOf n==some .cell)=true
     . dsimp only at h;rw[if_pos hcond,hh]at h;exact mcm (ih (λy hy=>hc y (mcm hy)) h)
     dsimp only at h;rw[if_neg hcond,hh]at h;exact mcm (ih (λy hy=>hc y (mcm hy)) h)
 exact go scope.names cU h
noncomputable def bE(X:Cx)(scope:Scope)(N:List Str)(cl:List (Str×Addr))(C:Addr)(fp:List Addr)(s3:aW3)(H3:Hp):Cx where
 prog:=X.prog
 w:=X.w
 K:=X.K
 mg:=X.mg
 base:=X.base
 A:=X.A
 N:=N
 s₀:=s3
 H₀:=H3
 env:=compEnvC scope cl C X.env
 outer:=X.stack
 stack:=X.stack
 ex:=fp
 fn:=λ_=>false
 calm:=X.calm
 pn:=[]
 xe:=λ_ _=>False
def dJ(X:Cx)(cs:List Expr)(t:TT):Prop :=
 ∀(aA:LAO) (s:aW3) (σ:St) (H:Hp) (Q:Bool->Hp->Prop),Inv X aA σ H s->t σ H Q ->
  wpAny (model X.prog X.w) X.A (forIn cs true λc r=>if r=true then do let ok <- isTrue c X.env (eval c X.env);pure (ForInStep.yield ok)else pure (ForInStep.yield r)) (TP X aA σ Q) X.xe s
def aGR:dJ X [] (λ_ H Q=>Q true H):=λaA s σ H Q I h=>by rw[aTR];exact aRC ⟨H,I,h⟩
theorem wO{X:Cx}:∀cs:List Expr,(forIn cs false λc r=>if r=true then do let ok <- isTrue c X.env (eval c X.env);pure (ForInStep.yield ok)else pure (ForInStep.yield r):Sem Bool)=pure false
 |[]=>by rw[aTR]
 |c::cs=>by rw[aTS,if_neg aRA,aTT];exact wO cs
def aGS{cs:List Expr}{t u:TT}(hc:PT X c t)(hr:dJ X cs u):dJ X (c::cs) (pV t u):=λaA s σ H Q I h=>by
 rw[aTS,if_pos rfl];refine aRD (aRD (thn (hc aA s σ H _ I h) λb s1 ⟨H1,I1,q1⟩=>aRC ?_));cases b with
 |true=>rw[if_pos rfl]at q1;exact hr aA s1 σ H1 Q I1 q1
 |false=>rw[if_neg aRA]at q1;dsimp only;rw[wO];exact aRC ⟨H1,I1,q1⟩
section
variable {A:aW4}{R:Result->aW3->Prop}
def aGT {elt target aT : Expr} {ifs : List Expr} {scope : Scope} {pos : Pos} {it acc : aW2} {env : Env} (I : Nat → aW3 → Prop) (turn : ∀ n s, I n s → wpAny (model prog w) A (pyNext it) (fun r s1 => match r with
      |none=>R (.ok .next) s1
      | some v => wpAny (model prog w) A (letOwnedTupleGo target it v) (fun _ s1' => wpAny (model prog w) A (assign target env v) (fun _ s2 =>
          wpAny (model prog w) A (forIn ifs true λc r=>if r=true then do let ok <- isTrue c env (eval c env);pure (ForInStep.yield ok)else pure (ForInStep.yield r)) (λok s3 =>
           if ok=true then wpAny (model prog w) A (eval elt env) (λx s4 =>
            wpAny (model prog w) A (call (.builtin "list.append") [acc,x]) (λ_ s5=>∃m,m<n/\I m s5) (λ_ _=>False) s4) (λ_ _=>False) s3
           else ∃ m, m < n ∧ I m s3) (fun _ _ => False) s2) (fun _ _ => False) s1') (fun _ _ => False) s1) (fun _ _ => False) s)
    (n:Nat) (h:I n s) :
    codeAny (model prog w) A (.compLoop (.ListComp elt [⟨target,aT,ifs,0⟩] scope pos) 0 it acc env) R s:=by
 refine codeAny_loop rfl I (λn s hI=>?_) n h;show wpAny _ A ((compTurn (.ListComp elt [⟨target,aT,ifs,0⟩] scope pos) 0 it acc env).onRaise (λx=>do noteFrame x env;theTreesLotGoes x)) _ _ s
 refine wpAny_noted ?_;rw[compTurn_list];refine aRD (wpAny_standAt (aRD (aQ5 (turn n s hI) (λr s1 h1=>?_) λ_ _ h'=>h'.elim)));cases r with
 |none=>exact aRC h1
 |some v =>
  refine aRD (aQ5 h1 (λ_ s1' h1'=>?_) λ_ _ h'=>h'.elim);refine aRD (aQ5 h1' (λ_ s2 h2=>aRD (aQ5 h2 (λok s3 h3=>?_) λ_ _ h'=>h'.elim)) λ_ _ h'=>h'.elim);cases ok with
  |false=>exact aRC ⟨rfl,h3⟩
  |true=>exact aRD (aRD (aQ5 h3 (λx s4 h4=>aRD (aQ5 h4 (λ_ s5 h5=>aRC (aRC ⟨rfl,h5⟩)) λ_ _ h'=>h'.elim)) λ_ _ h'=>h'.elim))
end
def dW(aE:List Nat)(σ:St):St:=aE.map λi=>(σ[i]?).getD none
def Weak(σ σ':St):Prop:=σ.length=σ'.length/\∀(j:Nat) v,σ[j]? = some (some v)->σ'[j]? = some (some v)
def lK(aE:List Nat)(k:Nat)(wi:TI)(gt:TG)(tt:TT)(te:TE):TE:=λσ H Q=>wi σ H λJ H1=>∀D,H1 D=none ->
 ∃W:Nat->Nat->List V->Hp->Prop,(∃m,W 0 m [] (upd H1 D (.lst [])))/\∀i m ys H,W i m ys H->H D=some (.lst ys) /\
  ((J.stop i H/\Q (.ref D) H)\/(J.go i H/\ys.length<sizeLine/\∀x H',J.yld i H x H'->gt x (dW aE σ++List.replicate k none) H' λσ2 H2=>Weak (dW aE σ++List.replicate k none) σ2/\tt σ2 H2 λb H3 =>
   if b=true then te σ2 H3 λy H4=>H4 D=some (.lst ys)/\∃m',m'<m/\W (i+1) m' (ys++[y]) (upd H4 D (.lst (ys++[y])))else ∃m',m'<m/\W (i+1) m' ys H3))
def wP{gt:TG}{use:Option (aW2->Sem Unit)}{QQ:VSP}{σ:St}{Q:VK}(hc:X.calm=true)(hi:PI X tg aT wi)(cU:∀y∈scope.names,y.2 ≠ .cell)(dP:scope.kind=.function)(fR:∀y∈scope.names,y.2=.local->scope.names.lookup y.1=some .local)(dQ:∀y∈scope.names,y.2=.free->X.env.kindOf y.1=some .cell\/X.env.kindOf y.1=some .free)(eM:aI.map some=aE.map λi=>X.N[i]?)(fU:∀y∈aI,(y,NameKind.free)∈scope.names)(fT:∀y∈aI,(relabel scope X.env).names.lookup y=some .cell\/(relabel scope X.env).names.lookup y=some .free)(hg:∀cl C fp s3 H3,PG (bE X scope (aI++tgN) cl C fp s3 H3) tg gt)(hf:∀cl C fp s3 H3,dJ (bE X scope (aI++tgN) cl C fp s3 H3) ifs tt)(he:∀cl C fp s3 H3,PE (bE X scope (aI++tgN) cl C fp s3 H3) elt te)(hs:∀x,foldedSetIterable aT X.env x=pure x)(I:Inv X aA σ H s)(h:lK aE tgN.length wi gt tt te σ H Q)(hend:∀(D Z:Addr) (s6:aW3) (H5:Hp),(∃m,s6.heap.Ns Z m)->(∀h'',Heap.SameBut Z s6.heap h''->Inv X aA σ H5 {s6 with heap:=h''})->H5 Z=none->X.s₀.heap.objs.size<=Z->Z≠X.env.locals->(∀x c,X.env.cells.lookup x=some c->c≠Z)->(∀p∈X.pn++aA,p.1≠Z)->Q (.ref D) H5->compPost (model X.prog X.w) X.A X.xe use QQ (.ref D) Z (.ok .next) s6):wpAny (model X.prog X.w) X.A (comprehension (.ListComp elt [⟨tg,aT,ifs,0⟩] scope pos) scope X.env (firstIterPos [⟨tg,aT,ifs,0⟩] pos) (newList []) (firstAsync [⟨tg,aT,ifs,0⟩]) (firstIter [⟨tg,aT,ifs,0⟩] X.env) use) QQ X.xe s:=by
 obtain⟨cl,hclos,clsub,clhas⟩:=aGP (scope:=scope) (env:=X.env) λy hy hk=>I.ok.has y.1 (dQ y hy hk);refine wpAny_comprehension_free (use:=use) rfl hs hclos dP fR (thn (hi aA s σ H _ I h) λv s1 h1=>thn h1 λitv s2 h2=>?_);obtain⟨it,fp,tn,J,H2,e,I2,T,st2,f2,q⟩:=h2;subst e;refine aSK ?_;have hn:H2 s2.heap.objs.size=none:=I2.hok.fresh (aRG _);obtain⟨W,⟨m0,w0⟩,turn⟩:=q s2.heap.objs.size hn;have I3:Inv X aA σ (upd H2 s2.heap.objs.size (.lst [])) { s2 with heap:=s2.heap.push { cls:=.type "list", dict:=none,data:=.seq ([]:List aW2).toArray } } :=
  I2.laid (t':=s2.toks) (λb u e=>hps e) (aRG _) ⟨aRQ _,[],0,.nil,aQP _ rfl⟩
 generalize hs3:({ s2 with heap:=s2.heap.push { cls:=.type "list", dict:=none,data:=.seq ([]:List aW2).toArray } }:aW3)=s3 at I3 ⊢
 generalize hH3:upd H2 s2.heap.objs.size (.lst [])=H3 at I3 w0;have fpl:∀b∈fp,b<s2.heap.objs.size:=λb hb=>by obtain⟨o,eo,_⟩:=T.obj 0 _ st2 b hb;exact aQQ eo
 have sz3:s3.heap.objs.size=s2.heap.objs.size+1:=by rw[<- hs3];exact aRO _ _
 have keep23:∀b o,s2.heap.get? b=some o->s3.heap.get? b=some o:=λb o e=>by rw[<- hs3];exact hps e
 have hDf:s2.heap.objs.size∉fp:=λhb=>aQS _ (fpl _ hb);refine wpAny_newFunctionEnv cU (by intro y hy;simp at hy) (λh4 hns hsb=>?_) dP
 try dsimp only at hns hsb ⊢
 have keep34:∀b o,s3.heap.get? b=some o->h4.get? b=some o:=λb o e=>hsb.extBut b o (aQT (aQQ e)) (hps e);have nostk:∀b∈fp,b∉frs X.stack:=λb hb z=>by
  obtain⟨_,f1,f2',_⟩:=f2 b hb;rcases aQZ.mp (I2.stkSub b z)with q|q
  . exact f1 q
  . exact f2' q
 have okc:(bE X scope (aI++tgN) cl s3.heap.objs.size fp s3 H3).Ok :=
  { mod:=I3.ok.mod
    kind:=dP
    glob:=I3.ok.glob
    blt:=I3.ok.blt
    above:=aRG _
    inj:=λx y c h1 h2=>I3.ok.inj x y c (clsub x c h1) (clsub y c h2)
    has:=λx hx=>clhas x (aGQ cU hx)
    cab:=λx c z=>by cases z
    hd:=I3.ok.hd
    frames:=I3.ok.frames
    stk:=.inl rfl
    exf:=λb hb=>⟨aQT (by show b<s3.heap.objs.size;rw[sz3];exact aTV (fpl b hb)),λx c e=>(f2 b hb).2.2.2.2.1 x c (clsub x c e)⟩
    bs:=I3.bs
    bsz:=aQW I3.ok.bsz I3.sz
    noex:=λb o e hb=>by
     obtain⟨_,_,_,f3,_⟩:=f2 b hb;rcases f3 with z|z
     . exact I2.ok.noex b o e z
     . exact absurd (aQQ (I2.ok.bs b o e).1) (aTW.mpr z)
    exfs:=nostk
    funs:=I3.stack
    frf:=I3.stkFree
    tabs:=I3.ok.tabs.mono I3.base.tbls }
 have capLen:aI.length=aE.length:=by have:=congrArg List.length eM;simpa using this
 generalize hσ0:dW aE σ++List.replicate tgN.length none=σ0 at turn;have Ic:Inv (bE X scope (aI++tgN) cl s3.heap.objs.size fp s3 H3) [] σ0 H3 {s3 with heap:=h4,toks:=s3.toks+([]:List (Str×aW2)).length}:=by
  refine⟨okc,rfl,I3.bare,Un.kept keep34,⟨_,hns,λi y v h1 h2 h3=>?_⟩,λx c e=>?_,I3.hok.fresh (aRG _),λx c e=>I3.freeC x c (clsub x c e),λp hp=>absurd (show p∈([]:LAO)from hp) (by simp),I3.hok.kept keep34,?_⟩
  . by_cases hi:i<aE.length
    . have ey:aI[i]? = some y:=by have h1:(aI++tgN)[i]? = some y:=h1;rw[aR0 (by rw[capLen];exact hi)]at h1;exact h1
      have hj:X.N[aE[i]]? = some y:=by
       have e1:(aI.map some)[i]? = (aE.map λi=>X.N[i]?)[i]?:=by rw[eM]
       rw[aR1,aR1,ey,aTP hi]at e1;simpa using e1.symm
      have ev:σ[aE[i]]? = some (some v):=by
       rw[<- hσ0,aR0 (by simpa[dW]using hi)]at h2
       unfold dW at h2;rw[aR1,aTP hi]at h2;simp only[aTN,Option.some.injEq]at h2;cases z:σ[aE[i]]? with
       |none=>rw[z]at h2;cases h2
       |some o=>rw[z]at h2;exact congrArg some h2
      have hyf:=fU y (aR2 ey);have hkX:=dQ _ hyf rfl;obtain⟨m,_,hl⟩:=I3.loc;obtain⟨u,ru,lk⟩:=hl aE[i] y v hj ev (by rcases hkX with z|z;exact .inr (.inl z);exact .inr (.inr z))
      refine⟨u,ru,.inr ⟨fT y (aR2 ey),?_⟩⟩;rcases lk with⟨hk,_⟩|⟨_,c,ec,ic⟩
      . rcases hkX with z|z
        . rw[show X.env.kindOf y=some .cell from z]at hk;cases hk
        . rw[show X.env.kindOf y=some .free from z]at hk;cases hk
      . obtain⟨c',ec'⟩:=clhas y hyf;have:=clsub y c' ec';rw[ec]at this;cases this;exact⟨c,ec',ic.keeps keep34⟩
    . rw[<- hσ0,aRY (by simpa[dW]using hi),aRZ]at h2
      split at h2 <;> cases h2
  . obtain⟨v,q⟩:=I3.cell x c (clsub x c e);exact⟨v,q.keeps keep34⟩
  . rw[<- hσ0];show(dW aE σ++List.replicate tgN.length none).length=(aI++tgN).length;simp[dW,capLen]
 have fpc:∀{H':Hp},(∀b∈fp,H' b=none)->∀b∈fp,g9 (bE X scope (aI++tgN) cl s3.heap.objs.size fp s3 H3) [] H' b:=λhn b hb =>
  ⟨hn b hb,(okc.exf b hb).1,nostk b hb,.inl hb,(okc.exf b hb).2,λp hp=>absurd (show p∈([]:LAO)from hp) (by simp)⟩
 have loop:codeAny (model X.prog X.w) X.A (.compLoop (.ListComp elt [⟨tg,aT,ifs,0⟩] scope pos) 0 (.ref it) (.ref s2.heap.objs.size) (compEnvC scope cl s3.heap.objs.size X.env)) (compPost (model X.prog X.w) X.A X.xe use QQ (.ref s2.heap.objs.size) s3.heap.objs.size) {s3 with heap:=h4,toks:=s3.toks+([]:List (Str×aW2)).length}:=by
  refine aGT (λn s'=>∃i ys H',Inv (bE X scope (aI++tgN) cl s3.heap.objs.size fp s3 H3) [] σ0 H' s'/\tn i s'.heap/\(∀b∈fp,H' b=none)/\W i n ys H') ?_ m0
   ⟨0,[],H3,Ic,T.keep _ _ _ st2 (λb hb o e=>keep34 b o (keep23 b o e)),λb hb=>by rw[<- hH3,aL (by intro z;rw[z]at hb;exact hDf hb)];exact(f2 b hb).1,w0⟩
  rintro n s5 ⟨i,ys,H5,I5,st5,fr5,w5⟩;obtain⟨hD,hw⟩:=turn i n ys H5 w5;rcases hw with⟨stop,qq⟩|⟨go,hlen,step⟩
  . refine thn (T.done (bE X scope (aI++tgN) cl s3.heap.objs.size fp s3 H3) rfl rfl rfl hc i [] s5 σ0 H5 _ I5 (fpc fr5) st5 stop) λr s6 ⟨hr,I6⟩=>?_;subst hr;obtain⟨m,hm,_⟩:=id I6.loc;refine hend s2.heap.objs.size s3.heap.objs.size s6 H5 ⟨m,hm⟩ (λh'' hsb2=>?_) I6.free I3.sz (λz=>?_) (λx c ec z=>?_) (λp hp z=>?_) qq;rotate_left
    . obtain⟨m,⟨o,es,ep,ho,_⟩,_⟩:=id I3.loc;rw[<- z]at ho;exact aQS _ (aQQ ho)
    . obtain⟨v,o,ho,_⟩:=I3.cell x c ec;rw[z]at ho;exact aQS _ (aQQ ho)
    . have:=(I3.pin p hp).1;rw[z]at this;exact aQS _ (aQQ this)
    have u:=I6.base;have neC:∀b o,s3.heap.get? b=some o->b≠s3.heap.objs.size:=λb o e=>aQT (aQQ e);have un:Un (frs X.stack) fp H3 H5 s3.heap h'':=by
     refine⟨λb o e n hb hx=>hsb2.extBut b o (neC b o e) (u.keep b o e n hb hx),λb o e n hb hx=>?_,u.free,λb o e hx=>?_,u.tups,u.frzs,u.tbls⟩
     . obtain⟨sl,q⟩:=u.slot b o e n hb hx;exact⟨sl,hsb2.extBut b _ (neC b o e) q⟩
     . obtain⟨o',q⟩:=u.there b o e hx;exact⟨o',hsb2.extBut b _ (neC b o e) q⟩
    have hok : HOk X.prog X.w H5 h'' := fun a o e => (I6.hok a o e).stay (fun b v hb q => hsb2.extBut b v (by
        intro z;have fr:=I6.free;rcases hb with hb|hb
        . rw[hb]at z;rw[z]at e;rw[show H5 s3.heap.objs.size=none from fr]at e;cases e
        . rw[z,show H5 s3.heap.objs.size=none from fr]at hb;cases hb) q) (λ_ q=>q) λ_ _ q=>q
    have os6:=I6.os;obtain⟨hh,g6,d6,t6,o6⟩:=s6;obtain rfl:o6=s3.os:=os6;have I8:=I3.call (h':=h'') (g':=g6) (d':=d6) (t':=t6) (ch:=fp) un hok I6.bare λb hb=>by obtain⟨_,f1,_,f3,f4,f5⟩:=f2 b hb;exact⟨f3,f1,f4,f5⟩
    exact I8
  . refine thn (T.item (bE X scope (aI++tgN) cl s3.heap.objs.size fp s3 H3) rfl rfl rfl hc i [] s5 σ0 H5 _ I5 (fpc fr5) st5 go) λr s6 ⟨u,hr,h6⟩=>?_;subst hr;refine thn h6 λ_ s7 ⟨x,H7,I7,r7,y7,st7,fr7⟩=>?_;have I7':=I7.pinned (fpc fr7) (T.obj _ _ st7);refine thn (hg cl s3.heap.objs.size fp s3 H3 _ s7 σ0 H7 x u _ I7' r7 (step x H7 y7)) λ_ s8 ⟨σ8,H8,I8,wk,q8⟩=>?_;have back:∀{H':Hp}{s':aW3}{m':Nat}{ys':List V},Inv (bE X scope (aI++tgN) cl s3.heap.objs.size fp s3 H3) ([]++k8 fp s7.heap) σ8 H' s'->m'<n->W (i+1) m' ys' H' ->
        ∃m,m<n/\∃i ys H',Inv (bE X scope (aI++tgN) cl s3.heap.objs.size fp s3 H3) [] σ0 H' s'/\tn i s'.heap/\(∀b∈fp,H' b=none)/\W i m ys H':=λ{H' s' m' ys'} I' hm w'=>by
      have pinned:∀b∈fp,∀o,s7.heap.get? b=some o->s'.heap.get? b=some o/\H' b=none:=λb hb o e=>by have:=I'.pin (b,o) (aRJ _ (aRJ _ (pY hb e)));exact⟨this.1,this.2.1⟩
      refine⟨m',hm,i+1,ys',H',I'.unpinned.weak wk.1 wk.2,T.keep _ _ _ st7 λb hb o e=>(pinned b hb o e).1,λb hb=>?_,w'⟩;obtain⟨o,e,_⟩:=T.obj _ _ st7 b hb;exact(pinned b hb o e).2
    refine thn (hf cl s3.heap.objs.size fp s3 H3 _ s8 σ8 H8 _ I8 q8) λb s9 ⟨H9,I9,q9⟩=>?_;cases b with
    |false=>rw[if_neg aRA]at q9 ⊢;obtain⟨m',hm,w9⟩:=q9;exact back I9 hm w9
    |true =>
     rw[if_pos rfl]at q9 ⊢;refine thn (he cl s3.heap.objs.size fp s3 H3 _ s9 σ8 H9 _ I9 q9) λy s10 ⟨yv,H10,I10,r10,hD10,m',hm,w10⟩=>?_;refine thn (vT (X:=bE X scope (aI++tgN) cl s3.heap.objs.size fp s3 H3) _ s10 σ8 H10 (.ref s2.heap.objs.size) [yv] (.ref s2.heap.objs.size) [y] (λv H'=>v=.non/\H'=upd H10 s2.heap.objs.size (.lst (ys++[yv]))) I10 rfl (.cons r10 .nil)
      ⟨s2.heap.objs.size,ys,yv,rfl,rfl,hD10,hlen,rfl,rfl⟩) λ_ s11 ⟨v,H11,I11,_,_,e11⟩=>?_
     subst e11;exact back I11 hm w10
 exact codeAny_compStart_list loop (T.self _ 0 _ _ _ (T.keep _ _ _ st2 (λb hb o e=>keep34 b o (keep23 b o e))) loop)
def aGU{gt:TG}(hc:X.calm=true)(hi:PI X tg aT wi)(cU:∀y∈scope.names,y.2 ≠ .cell)(dP:scope.kind=.function)(fR:∀y∈scope.names,y.2=.local->scope.names.lookup y.1=some .local)(dQ:∀y∈scope.names,y.2=.free->X.env.kindOf y.1=some .cell\/X.env.kindOf y.1=some .free)(eM:aI.map some=aE.map λi=>X.N[i]?)(fU:∀y∈aI,(y,NameKind.free)∈scope.names)(fT:∀y∈aI,(relabel scope X.env).names.lookup y=some .cell\/(relabel scope X.env).names.lookup y=some .free)(hg:∀cl C fp s3 H3,PG (bE X scope (aI++tgN) cl C fp s3 H3) tg gt)(hf:∀cl C fp s3 H3,dJ (bE X scope (aI++tgN) cl C fp s3 H3) ifs tt)(he:∀cl C fp s3 H3,PE (bE X scope (aI++tgN) cl C fp s3 H3) elt te)(hs:∀x,foldedSetIterable aT X.env x=pure x:=by intro _;rfl):PE X (.ListComp elt [⟨tg,aT,ifs,0⟩] scope pos) (lK aE tgN.length wi gt tt te):=by intro aA s σ H Q I h;rw[eval_ListComp];exact wP (use:=none) hc hi cU dP fR dQ eM fU fT hg hf he hs I h λD Z s6 H5 hm hI _ _ _ _ _ q=>by obtain⟨m,hm⟩:=hm;exact⟨m,hm,λh'' hs=>⟨.ref D,H5,hI h'' hs,rfl,q⟩⟩
def Inv.dropped{σ:St}{h'':Heap}{Z:Addr}(I:Inv X aA σ H s)(hs:Heap.SameBut Z s.heap h'')(hz:H Z=none)(h0:X.s₀.heap.objs.size<=Z)(h1:Z≠X.env.locals)(h2:∀x c,X.env.cells.lookup x=some c->c≠Z)(h3:∀p∈X.pn++aA,p.1≠Z):Inv X aA σ H {s with heap:=h''}:=by
 have un:Un (frs X.stack) [Z] H H s.heap h'':=by
  have k:∀b o,s.heap.get? b=some o->b∉[Z]->h''.get? b=some o:=λb o e hb=>hs.extBut b o (λz=>hb (by rw[z];exact mcs)) e
  exact⟨λb o e _ _ hx=>k b o e hx,λb o e _ _ hx=>⟨o.slots,k b o e hx⟩,λ_ _ _ n _=>n,λb o e hx=>⟨o,k b o e hx⟩,λ_ _ q=>q,λ_ _ _ q=>q,λ_ ps q=>⟨#[],by simpa using q⟩⟩
 have hok:HOk X.prog X.w H h'':=λa o e=>(I.hok a o e).stay (λb v hb q=>hs.extBut b v (by
  rintro rfl;rcases hb with hb|hb
  . rw[hb,e]at hz;cases hz
  . rw[hz]at hb;cases hb) q) (λ_ q=>q) λ_ _ q=>q
 obtain⟨hh,g,d,t,o⟩:=s;exact I.call (g':=g) (d':=d) (t':=t) (ch:=[Z]) un hok I.bare λb hb=>by
  obtain rfl:b=Z:=by simpa using hb
  exact⟨.inr h0,h1,h2,h3⟩
def aGV{spos:Pos}{gt:TG}(hc:X.calm=true)(hi:PI X tg aT wi)(cU:∀y∈scope.names,y.2 ≠ .cell)(dP:scope.kind=.function)(fR:∀y∈scope.names,y.2=.local->scope.names.lookup y.1=some .local)(dQ:∀y∈scope.names,y.2=.free->X.env.kindOf y.1=some .cell\/X.env.kindOf y.1=some .free)(eM:aI.map some=aE.map λi=>X.N[i]?)(fU:∀y∈aI,(y,NameKind.free)∈scope.names)(fT:∀y∈aI,(relabel scope X.env).names.lookup y=some .cell\/(relabel scope X.env).names.lookup y=some .free)(hg:∀cl C fp s3 H3,PG (bE X scope (aI++tgN) cl C fp s3 H3) tg gt)(hf:∀cl C fp s3 H3,dJ (bE X scope (aI++tgN) cl C fp s3 H3) ifs tt)(he:∀cl C fp s3 H3,PE (bE X scope (aI++tgN) cl C fp s3 H3) elt te)(hN:X.N.Nodup)(hx:X.N[i]? = some x)(hk:X.env.scope.names.lookup x=some .local)(hsw:swapsWith (.ListComp elt [⟨tg,aT,ifs,0⟩] scope pos) (some (.Name x pos')) spos.line X.env=pure true)(hs:∀x,foldedSetIterable aT X.env x=pure x:=by intro _;rfl):PS X (.Assign [.Name x pos'] (.ListComp elt [⟨tg,aT,ifs,0⟩] scope pos) spos) (nH (lK aE tgN.length wi gt tt te) (k6 i)):=by
 intro aA s σ H En I h;rw[exec_Assign_Name_used _ _ _ _ hsw];refine aRD (wpAny_standAt (aRD ?_));show wpAny _ X.A (comprehension (.ListComp elt [⟨tg,aT,ifs,0⟩] scope pos) scope X.env (firstIterPos [⟨tg,aT,ifs,0⟩] pos) (newList []) (firstAsync [⟨tg,aT,ifs,0⟩]) (firstIter [⟨tg,aT,ifs,0⟩] X.env) (some (assign (.Name x pos') X.env))>>=_) _ _ s;refine aRD (wP (use:=some (assign (.Name x pos') X.env)) hc hi cU dP fR dQ eM fU fT hg hf he hs I h λD Z s6 H5 hm hI hz h0 h1 h2 h3 q=>?_);obtain⟨m,hm⟩:=hm;have I6:=hI s6.heap (aTX _ _);refine wpAny_assign_Name (uU I6 hN hx (.inl hk) (show aJ (.ref D) (.ref D)from rfl) (λs' I' hch=>?_) (.inr hk))
 obtain⟨a,sb,ha⟩:=hch;have na:Z≠a:=by
  rcases ha with rfl|ha
  . exact h1
  . exact λz=>h2 x a ha z.symm
 exact⟨m,hm.sameBut sb na,λh'' hs2=>aRC (aRC ⟨_,H5,I'.dropped hs2 hz h0 h1 h2 h3,q⟩)⟩
end L2
namespace D3
def cW(aE:List Nat)(ρ:Rho):Rho:=aE.map λi=>match ρ[i]? with|some (some (false,d))=>some (false,d)|_=>none
def fG(k:D->Rho->Option Rho)(t e:Rho->Res)(ρ0:Rho):List D->Option (List D)
 |[]=>some []
 |d::ds=>match k d ρ0 with
  |none=>none
  |some ρ1=>match t ρ1 with
   |.ok _ (.bl true)=>(match aZ (e ρ1)with|.ok _ y=>(fG k t e ρ0 ds).map (y :: ·)|_=>none)
   |.ok _ (.bl false)=>fG k t e ρ0 ds
   |_=>none
def dX(src:Res)(ρ:Rho)(aE:List Nat)(n:Nat)(k:D->Rho->Option Rho)(t e:Rho->Res):Res:=src.thn λ_ d=>match d with
 |.lst ds=>if ds.length<sizeLine then(match fG k t e (cW aE ρ++List.replicate n none) ds with|some ys=>.ok .fr (.lst ys)|none=>.stuck)else .stuck
 |_=>.stuck
abbrev Cw.nox(C:Cw):Cw:={C with EE:=λ_ _ _=>False}
theorem aF.upd{F:Hp}{x:Addr}{o:HO}(st:aF F H F' H')(hx:H x=none)(hx':F' x=none):aF F H F' (L2.upd H' x o) :=
 ⟨λb u q=>by rw[aL (bR q hx)];exact st.same b u q,st.fsame,λb u q=>by rw[aL (bR q hx')];exact st.sub b u q,st.new⟩
def aGW:dJ X [] (tT (C.at X) λ_=>.ok .fz (.bl true)):=λaA s σ H Q I h=>by obtain⟨ρ,F,R,w⟩:=h;exact aGR aA s σ H Q I (w F H (.refl R.sub))
def aGX{cs:List Expr}(hc:PTv C X c ga)(hr:dJ X cs (tT (C.at X) gb)):dJ X (c::cs) (tT (C.at X) λρ=>eQ (ga ρ) (gb ρ)):=λaA s σ H Q I h =>
 aGS hc hr aA s σ H Q I (wG h)
def aGY{F:Hp}(aE:List Nat)(n:Nat)(R:aN K F0 H0 F H σ ρ):aN K F0 H0 F H (dW aE σ++List.replicate n none) (cW aE ρ++List.replicate n none):=by
 have low:∀(i:Nat) (m:Bool) (d:D),(cW aE ρ++List.replicate n none)[i]? = some (some (m,d))->m=false/\∃v,(dW aE σ++List.replicate n none)[i]? = some (some v)/\aB K F d v:=λi m d e=>by
  by_cases hi:i<aE.length
  . rw[aR0 (by simpa[cW]using hi)]at e
    rw[aR0 (by simpa[dW]using hi)]
    unfold cW at e;unfold dW;rw[aR1,aTP hi]at e ⊢;simp only[aTN,Option.some.injEq]at e;cases z:ρ[aE[i]]? with
    |none=>rw[z]at e;cases e
    |some o =>
     rw[z]at e;cases o with
     |none=>cases e
     |some q =>
      obtain⟨b,d'⟩:=q;cases b with
      |true=>cases e
      |false=>cases e;obtain⟨v,e1,r,_⟩:=R.slot _ _ _ z;exact⟨rfl,v,by simp[e1],r⟩
  . rw[aRY (by simpa[cW]using hi),aRZ]at e
    split at e <;> cases e
 refine⟨R.st,λi m d e=>?_,λi j d d' a _ e1 _ _ _=>?_,by simp[dW,cW]⟩
 . obtain⟨rfl,v,e1,r⟩:=low i m d e;exact⟨v,e1,r,by nofun⟩
 . have:=(low i true d e1).1;cases this
mutual
def aU:D->Option PyData
 |.non=>some .none
 |.bl b=>some (.bool b)
 |.int i=>some (.int i)
 |.str x=>some (.str x)
 |.tup ds=>(cQ ds).map .tuple
 |.lst ds=>(cQ ds).map .list
 |_=>none
def cQ:List D->Option (List PyData)
 |[]=>some []
 |d::ds=>match aU d,cQ ds with
  |some p,some ps=>some (p::ps)
  |_,_=>none
end
section
variable  {F:Hp}
mutual
theorem wQ(I:Inv X aA σ H s)(sF:aD F H):∀(d:D) (p:PyData) (v:V) (u:aW2),aB X.K F d v->aJ v u->aU d=some p->(∃as,Reads s.heap u p as)/\p.canLay0=true
 |.non,p,v,u,h,r,e=>by simp only[aB]at h;subst h;cases r;simp only[aU]at e;cases e;exact⟨⟨_,.none⟩,rfl⟩
 |.bl b,p,v,u,h,r,e=>by simp only[aB]at h;subst h;cases r;simp only[aU]at e;cases e;exact⟨⟨_,.bool b⟩,rfl⟩
 |.int i,p,v,u,h,r,e=>by simp only[aB]at h;subst h;obtain⟨t,rfl⟩:=r;simp only[aU]at e;cases e;exact⟨⟨_,.int i t⟩,rfl⟩
 |.str x,p,v,u,h,r,e=>by simp only[aB]at h;obtain⟨rfl,_,hk⟩:=h;obtain⟨t,rfl⟩:=r;simp only[aU]at e;cases e;exact⟨⟨_,.str x t⟩,by simpa only [PyData.canLay0]using hk⟩
 |.tup ds,p,v,u,h,r,e=>by
  simp only[aB]at h;obtain⟨a,xs,rfl,q,rl⟩:=h;cases r;simp only[aU]at e;cases ep:cQ ds with
  |none=>rw[ep]at e;cases e
  |some ps=>rw[ep]at e;cases e;obtain⟨its,rv,⟨o,h1,h2,n,h3⟩,_⟩:=I.tuple (aD.seqT sF q);obtain⟨⟨as,ra⟩,hc⟩:=nZ I sF ds ps xs its rl rv ep;exact⟨⟨_,.tuple h1 h2 h3 (by simpa using ra)⟩,by simpa only [PyData.canLay0]using hc⟩
 |.lst ds,p,v,u,h,r,e=>by
  simp only[aB]at h;obtain⟨a,xs,rfl,q,rl⟩:=h;cases r;simp only[aU]at e;cases ep:cQ ds with
  |none=>rw[ep]at e;cases e
  |some ps=>rw[ep]at e;cases e;obtain⟨its,rv,⟨o,n,h1,h2,_,h3⟩,_⟩:=I.list (sF.seq q);obtain⟨⟨as,ra⟩,hc⟩:=nZ I sF ds ps xs its rl rv ep;exact⟨⟨_,.list h1 h2 h3 (by simpa using ra)⟩,by simpa only [PyData.canLay0]using hc⟩
 |.dct _,p,v,u,h,r,e=>by simp only[aU]at e;cases e
 |.ty _,p,v,u,h,r,e=>by simp only[aU]at e;cases e
 |.ob _,p,v,u,h,r,e=>by simp only[aU]at e;cases e
 |.ins _ _,p,v,u,h,r,e=>by simp only[aU]at e;cases e
 |.fn _,p,v,u,h,r,e=>by simp only[aU]at e;cases e
 |.exn _,p,v,u,h,r,e=>by simp only[aU]at e;cases e
 |.set _,p,v,u,h,r,e=>by simp only[aU]at e;cases e
 |.dtn _,p,v,u,h,r,e=>by simp only[aU]at e;cases e
 |.dtf _,p,v,u,h,r,e=>by simp only[aU]at e;cases e
 |.dcf _,p,v,u,h,r,e=>by simp only[aU]at e;cases e
theorem nZ(I:Inv X aA σ H s)(sF:aD F H):∀(ds:List D) (ps:List PyData) (xs:List V) (us:List aW2),aC X.K F ds xs->aH xs us->cQ ds=some ps->(∃as,ReadsAll s.heap us ps as)/\PyData.canLayAll0 ps=true
 |[],ps,xs,us,h,r,e=>by simp only[aC]at h;subst h;cases r;simp only[cQ]at e;cases e;exact⟨⟨_,.nil⟩,rfl⟩
 |d::ds,ps,xs,us,h,r,e=>by
  simp only[aC]at h;obtain⟨y,ys,rfl,hd,hl⟩:=h;cases r with
  |cons r1 r2 =>
   simp only[cQ]at e;cases e1:aU d with
   |none=>rw[e1]at e;cases e
   |some p =>
    cases e2:cQ ds with
    |none=>rw[e1,e2]at e;cases e
    |some ps'=>rw[e1,e2]at e;cases e;obtain⟨⟨as,ra⟩,hc⟩:=wQ I sF d p y _ hd r1 e1;obtain⟨⟨bs,rb⟩,hc'⟩:=nZ I sF ds ps' ys _ hl r2 e2;exact⟨⟨_,.cons ra rb⟩,by simp only[PyData.canLayAll0,hc,hc',Bool.and_self]⟩
end
def wR(I:Inv X aA σ H s)(sF:aD F H){m:Md}{d:D}{p:PyData}(h:Rp X.K F H m d v)(r:aJ v u)(e:aU d=some p):(∃as,Reads s.heap u p as)/\p.canLay0=true:=by
 cases m with
 |fz=>exact wQ I sF d p v u h r e
 |_ =>
  obtain⟨a,rfl,n,t⟩:=h;cases d with
  |lst ds =>
   obtain⟨xs,q,rl⟩:=t;cases r;simp only[aU]at e;cases ep:cQ ds with
   |none=>rw[ep]at e;cases e
   |some ps=>rw[ep]at e;cases e;obtain⟨its,rv,⟨o,n,h1,h2,_,h3⟩,_⟩:=I.list (SqL.of q);obtain⟨⟨as,ra⟩,hc⟩:=nZ I sF ds ps xs its rl rv ep;exact⟨⟨_,.list h1 h2 h3 (by simpa using ra)⟩,by simpa only [PyData.canLay0]using hc⟩
  |dct ds=>simp only[aU]at e;cases e
  |ins _ _=>simp only[aU]at e;cases e
  |set _=>simp only[aU]at e;cases e
  |dtn _=>simp only[aU]at e;cases e
  |dtf _=>simp only[aU]at e;cases e
  |dcf _=>simp only[aU]at e;cases e
  |_=>exact t.elim
end
def jR(p:PyData):Bool:=decide (p.depth<=50)
noncomputable def eqF(neg:Bool):Md->D->Md->D->Option (Md×D):=λ_ x _ y=>match aU x,aU y with
 |some p,some q=>if(jR p&&jR q)=true then some (.fz,.bl (if neg then !PyData.eqv p q else PyData.eqv p q))else none
 |_,_=>none
theorem wS{f:aW2->aW2->Sem aW2}(hu:X.A.units+64<cLine)(rule:∀(s:aW3) (a b:aW2) (da db:PyData) (as bs:List Addr) (Q:VSP),Reads s.heap a da as->Reads s.heap b db bs->da.canLay0=true->db.canLay0=true->X.A.units+min da.depth db.depth<cLine->Q (.bool (if neg then !PyData.eqv da db else PyData.eqv da db)) s->wpAny (model X.prog X.w) X.A (f a b) Q X.xe s):OpD C X f (eqF neg):=by
 refine⟨λx y H Q=>∃F m n d e p q,aD F H/\Rp X.K F H m d x/\Rp X.K F H n e y/\aU d=some p/\aU e=some q/\(jR p&&jR q)=true/\Q (.bl (if neg then !PyData.eqv p q else PyData.eqv p q)) H,?_,?_⟩
 . intro aA s σ H x y v u Q I rx ry h;obtain⟨F,m,n,d,e,p,q,sF,hd,he,ep,eq,hs,hQ⟩:=h;obtain⟨⟨as,ra⟩,ca⟩:=wR I sF hd rx ep;obtain⟨⟨bs,rb⟩,cb⟩:=wR I sF he ry eq;rw[aSJ]at hs;have h1:=aTD hs.1;refine rule s v u p q as bs _ ra rb ca cb (by have:=aS7 p.depth q.depth;lia) ⟨.bl _,H,I,rfl,hQ⟩
 . intro F H m x n y v u k d Q s rx ry e w;unfold eqF at e;split at e
   . rename_i p q ep eq;split at e
     . rename_i hc;cases e;exact⟨F,m,n,x,y,p,q,s,rx,ry,ep,eq,hc,w _ F H (.refl s) (dG _) (by nofun)⟩
     . cases e
   . cases e
def aGZ(hu:X.A.units+64<cLine):OpD C X (compareOp .Eq) (eqF false):=wS hu λs a b da db as bs Q ra rb ca cb hd q=>SeqAt.compareEq_reads ra rb ca cb hd q
def aG0(hu:X.A.units+64<cLine):OpD C X (compareOp .NotEq) (eqF true):=wS hu λs a b da db as bs Q ra rb ca cb hd q=>SeqAt.compareNe_reads ra rb ca cb hd q
def MtD(X:Cx)(id:String)(φ:Md->D->List (Md×D)->Option (Md×D)):Prop :=
 ∃r:V->List V->Hp->VK->Prop,MtR X id r/\∀F H m x xs v vs k d Q,aD F H->Rp X.K F H m x v->RpL X.K F H xs vs->φ m x xs=some (k,d) ->
  (∀v' F' H',aF F H F' H'->Rp X.K F' H' k d v'->(k=.fr->∀a,v'=.ref a->H a=none)->Q v' H')->r v vs H Q
def n4(T:String)(d:D):Bool:=tyN d==some T
def lL(T:String)(φ:Md->D->List (Md×D)->Option (Md×D))(o:Res)(r:bG):Res:=o.thn λm x=>if n4 T x=true then r.thn λxs=>Res.of (φ m x xs)else .stuck
section
variable  {o:Expr}{es:List Expr}{go:Rho->Res}{T id:String}{name:Str}
def aG1{F:Hp}{m:Md}{d:D}(s:aD F H)(r:Rp K F H m d v)(h:n4 T d=true):T="str" \/ T="list" -> tyV K T v H:=by
 have h:tyN d=some T:=by simpa[n4]using h
 intro hT;cases d with
 |str x=>cases h;obtain⟨rfl,_⟩:=r.str;exact rfl
 |lst ds=>cases h;obtain⟨a,xs,rfl,q,_⟩:=r.seqL s;exact .inl ⟨rfl,xs,q⟩
 |tup ds=>cases h;rcases hT with z|z <;> exact absurd z (by decide)
 |non=>cases h;rcases hT with z|z <;> exact absurd z (by decide)
 |bl b=>cases h;rcases hT with z|z <;> exact absurd z (by decide)
 |int b=>cases h;rcases hT with z|z <;> exact absurd z (by decide)
 |dct b=>cases h;rcases hT with z|z <;> exact absurd z (by decide)
 |ty b=>cases h
 |ob b=>cases h
 |ins b _=>cases h
 |dtn b=>cases h
 |dtf b=>cases h
 |dcf b=>cases h
 |fn b=>cases h
 |exn b=>cases h
 |set b=>cases h
def n6{φ}(hT:T="str" \/ T="list")(pa:PlainAttrs T)(slot:Slot T name id)(hty:typeOf (.builtin id)=pure (.type "method_descriptor"))(hm:MtD X id φ)(ho:PV C X o go)(ha:PAv C X (e::es) gs)(hbase:attributeBase o name X.env (eval o X.env)=eval o X.env:=by rfl)(hfew:((backTo cpos (starEach (e::es) X.env)).all (λx=>!x.1)&&(backToKw cpos (keywordEach [] X.env)).all (λx=>x.1.isSome)&&decide ((e::es).length+([]:List Keyword).length+(if([]:List Keyword).isEmpty then 0 else 1)<30))=true:=by rfl)(hline:(apos.endLine==cpos.line)=true:=by rfl)(hs:starEach (e::es) X.env=(false,eval e X.env)::starEach es X.env:=by rfl)(hplain:(backTo cpos (starEach es X.env)).any (·.1)=false:=by rfl):PV C X (.Call (.Attribute o name apos) (e::es) [] cpos) (λρ=>lL T φ (go ρ) (gs ρ)):=by
 obtain⟨r,h1,h2⟩:=hm;refine PE.imp (nS pa slot hty h1 ho ha hbase hfew hline hs hplain) λσ H Q q=>?_;unfold tBM;rw[aS]at q ⊢;obtain⟨ρ,F,R,w⟩:=q;refine⟨ρ,F,R,?_⟩;cases er:go ρ with
 |stuck=>rw[er]at w;exact w
 |exc c=>rw[er]at w;exact w
 |ok m d =>
  rw[er]at w;intro v F1 H1 s1 r1 _;have w1:aR (C.at X) F1 H1 σ (if n4 T d=true then(gs ρ).thn λxs=>Res.of (φ m d xs)else .stuck) Q:=aR.step s1 w;split at w1
  . rename_i ht;refine⟨aG1 s1.sub r1 ht hT,ρ,F1,R.step s1,?_⟩;cases es':gs ρ with
    |stuck=>rw[es']at w1;exact w1
    |exc c=>rw[es']at w1;exact w1
    |ok xs =>
     rw[es']at w1;intro vs F2 H2 s2 r2;have w2:aR (C.at X) F2 H2 σ (Res.of (φ m d xs)) Q:=aR.step s2 w1;cases ef:φ m d xs with
     |none=>rw[ef]at w2;exact w2.elim
     |some kd=>obtain⟨k,d'⟩:=kd;rw[ef]at w2;exact h2 F2 H2 m d xs v vs k d' Q s2.sub (r1.step s2) r2 ef w2
  . exact w1.elim
def hC:List D->Option (List Str)
 |[]=>some []
 |.str x::r=>(hC r).map (x :: ·)
 |_=>none
noncomputable def hG:Md->D->List (Md×D)->Option (Md×D):=λ_ x xs=>match x,xs with
 |.str z,[(_,.lst ds)]=>(match hC ds with
  |some ys=>if(ys.map (·.length)).sum+ys.length * z.length<=sizeLine then some (.fz,.str (Txt.join z ys))else none
  |none=>none)
 |_,_=>none
theorem wT{K:Fg}{F:Hp}:∀{ds:List D}{xs:List V}{ys:List Str},aC K F ds xs->hC ds=some ys->xs=ys.map V.str/\∀y∈ys,PyData.strOk y=true
 |[],_,_,h,e=>by cases e;simp only[aC]at h;exact⟨h,λ_ z=>by cases z⟩
 |d::ds,_,_,h,e=>by
  simp only[aC]at h;obtain⟨y,ys,rfl,r,t⟩:=h;cases d with
  |str b =>
   unfold hC at e;cases q:hC ds with
   |none=>rw[q]at e;cases e
   |some bs =>
    rw[q]at e;cases e;simp only[aB]at r;obtain⟨rfl,_,hk⟩:=r;obtain⟨rfl,hh⟩:=wT t q;refine⟨rfl,λy hy=>?_⟩;rcases aQZ.mp hy with rfl|hy
    . exact hk
    . exact hh y hy
  |_=>cases e
theorem lM:∀{ys:List Str}{us:List aW2},aH (ys.map V.str) us->StrsAre us ys
 |[],_,h=>by cases h;exact .nil
 |y::ys,_,h=>by
  cases h with
  |cons r t=>obtain⟨tk,rfl⟩:=r;exact .cons y tk (lM t)
theorem qK{z:Str}(hz:PyData.strOk z=true):∀{ys:List Str},(∀y∈ys,PyData.strOk y=true)->PyData.strOk (Str.join z ys)=true
 |[],_=>by show PyData.strOk Str.empty=true;decide +kernel
 |[x],h=>h x mcs
 |x::y::r,h=>by show PyData.strOk (x++z++Str.join z (y::r))=true;exact nX (nX (h x mcs) hz) (qK hz λw hw=>h w (mcm hw))
def n8(z:Str)(ys:List Str):Txt.join z ys=Str.join z ys:=StrLaws.glued_eq_join z ys
theorem aG2:MtD X "str.join" hG:=by
 refine⟨λv vs H Q=>∃(z:Str) (a:Addr) (ys:List Str),v=.str z/\vs=[.ref a]/\SqL X.K H a (ys.map V.str)/\(ys.map (·.length)).sum+ys.length * z.length<=sizeLine/\Q (.str (Txt.join z ys)) H,?_,?_⟩
 . intro aA s σ H x xs v us Q I rx r h;obtain⟨z,a,ys,rfl,rfl,hq,hl,q⟩:=h;obtain⟨t,rfl⟩:=rx;obtain⟨u,rfl,ru⟩:=cE r;cases(show u=Value.ref a from ru)
   obtain⟨its,rv,p,hz⟩:=I.list hq;have hs:sizeLine=16777216:=aRK;exact join_list p.isList (by simpa using lM rv) (by lia) λt' k=>⟨.str (Txt.join z ys),H,I.tok _,⟨_,rfl⟩,q⟩
 . intro F H m x xs v vs k d Q s rx rl e w;unfold hG at e;split at e
   . rename_i z m' ds;obtain⟨rfl,hz,hk⟩:=rx.str;obtain⟨u,rfl,r⟩:=rl.one;obtain⟨a,ws,rfl,hq,rr⟩:=r.seqL s;split at e
     . rename_i ys ey;split at e
       . rename_i hl;cases e;obtain⟨rfl,hys⟩:=wT rr ey;refine⟨z,a,ys,rfl,rfl,hq,hl,w _ F H (.refl s) (eO ⟨?_,?_⟩) (by nofun)⟩
         . rw[n8];exact aQW (StrLaws.join_length_le z ys) hl
         . rw[n8];exact qK hk hys
       . cases e
     . cases e
   . cases e
end
def spV(K:Fg)(mg:SOV)(n:Nat)(Φ:List D->Res):Sp:=λvs H Q E=>vs.length=n/\∃F ds,aD F H/\aC K F ds vs/\match Φ ds with
 |.ok m d=>m ≠ .bo/\∀v F' H',aF F H F' H'->Rp K F' H' m d v->(m=.fr->∀a,v=.ref a->H a=none)->Q v H'
 |.exc c=>∀F' H' u,aF F H F' H'->mg c=some u->E u none H'
 |.stuck=>False
structure FnV(P:aW6)(w:aW5)(K:Fg)(mg:SOV)(base:Heap)(CX:CXT)(k:Nat)(x:Str)(n:Nat)(Φ:List D->Res):Prop where
 ex:∃f fd ps,bT P w K mg base CX k f fd ps (spV K mg n Φ)/\mg x=some (.ref f)/\W.keepIn K (.ref f)=true/\dF K fd ps []
noncomputable def bI(n:Nat)(Φ:List D->Res)(r:bG):Res:=r.thn λxs=>match cP xs with
 |some ds=>if ds.length=n then(match Φ ds with|.ok .bo _=>.stuck|r=>r)else .stuck
 |none=>.stuck
def XOk(CX:CXT)(C:Cw)(X:Cx):Prop:=∀(aA:LAO) (σ:L2.St) (H:Hp) (s:aW3) (e:aW2) (s':aW3),Inv X aA σ H s->CX X.stack H s (λu _ H'=>∃c,X.mg c=some u/\C.EE c σ H') e s'->X.xe e s'
section
variable {es:List Expr}{k:Nat}
def wU{f:Addr}{Q:VK}{vs:List V}{E:XK}(F:bT X.prog X.w X.K X.mg X.base CX k f fd ps (spV X.K X.mg n Φ))(hr:bS k X.A)(hb:dF X.K fd ps [])(hx:∀e s',CX X.stack H s E e s'->X.xe e s')(I:Inv X aA σ H s)(r:aH vs us)(h:spV X.K X.mg n Φ vs H Q E):wpAny (model X.prog X.w) X.A (call (.ref f) us) (EP X aA σ Q) X.xe s:=by
 have hl:(us++[]).length=ps.length:=by rw[aRT,<- r.length];exact F.len _ _ _ _ h
 have hb':=hb s us I.kIn hl;rw[aRT]at hb';refine aTY (aSY (F.run X.A X.stack s H ⟨us,[]⟩ us vs Q E hr I.env0 hb' r h) λr s' hq=>?_);cases r with
 |error e=>exact hx e s' hq
 |ok fl =>
  cases fl with
  |ret u=>exact I.after hq
  |next=>exact False.elim hq
  |brk=>exact False.elim hq
  |cont=>exact False.elim hq
def aG3(F:FnV X.prog X.w X.K X.mg X.base CX k x n Φ)(hr:bS k X.A)(hx:XOk CX (C.at X) X)(hg:Gl X x)(ha:PAv C X (e::es) gs)(hdb:(x==("__debug__":Str))=false:=by decide)(he:starEach (e::es) X.env=(false,eval e X.env)::starEach es X.env:=by rfl)(hpl:(backTo pos (starEach es X.env)).any (·.1)=false:=by rfl):PV C X (.Call (.Name x p) (e::es) [] pos) (λρ=>bI n Φ (gs ρ)):=by
 obtain⟨f,fd,ps,FF,hm,hk,hb⟩:=F.ex;intro aA s σ H Q I h;rw[aS]at h;obtain⟨ρ,F,R,w⟩:=h;refine aR5 (nE I hg hm ?_ hdb);refine W.callWith_K (h₀:=X.base) I.ok.mod.kin hk (thn (ha pos aA s σ H (λvs H1=>spV X.K X.mg n Φ vs H1 Q λu _ H'=>∃c,X.mg c=some u/\C.EE c σ H') I ?_) λus s1 ⟨vs,H1,I1,r,q⟩=>⟨I1.kIn,wU FF hr hb (λe s' hc=>hx aA σ H1 s1 e s' I1 hc) I1 r q⟩) he hpl;refine⟨ρ,F,R,?_⟩;cases er:gs ρ with
 |stuck=>rw[er]at w;exact w
 |exc c=>rw[er]at w;exact w
 |ok xs =>
  rw[er]at w;intro vs F1 H1 s1 r1;have w1:aR (C.at X) F1 H1 σ (bI n Φ (.ok xs)) Q:=aR.step s1 w;unfold bI at w1;rw[bG.thn_ok]at w1;cases ef:cP xs with
  |none=>rw[ef]at w1;exact w1.elim
  |some ds =>
   rw[ef]at w1;dsimp only at w1;split at w1
   . rename_i hn;have rl:=r1.fz ef;refine⟨by rw[rl.length];exact hn,F1,ds,s1.sub,rl,?_⟩
     cases ep:Φ ds with
     |stuck=>rw[ep]at w1;exact w1
     |exc c=>rw[ep]at w1;exact λF' H' u st hu=>⟨c,hu,w1 F' H' st⟩
     |ok m d =>
      rw[ep]at w1;cases m with
      |bo=>exact w1.elim
      |fz=>exact⟨by decide,w1⟩
      |fr=>exact⟨by decide,w1⟩
   . exact w1.elim
end
def endR:aG->Res
 |.nx _=>.ok .fz .non
 |.rt m d=>.ok m d
 |.exc c _=>.exc c
 |_=>.stuck
def hO(n:Nat)(ds:List D):Rho:=ds.map (λd=>some (false,d))++List.replicate (n-ds.length) none
def aG4{F:Hp}{N:List Str}{vs:List V}(s:aD F H)(r:aC K F ds vs):aN K F H F H (cC N vs) (hO N.length ds):=by
 have low:∀(i:Nat) (m:Bool) (d:D),(hO N.length ds)[i]? = some (some (m,d))->m=false/\∃v,(cC N vs)[i]? = some (some v)/\aB K F d v:=λi m d e=>by
  unfold hO at e;unfold L2.cC;by_cases hi:i<ds.length
  . rw[aR0 (by simpa using hi),aR1,aTP hi]at e
    cases e;obtain⟨v,ev,rv⟩:=r.get' (aTP hi);exact⟨rfl,v,by rw[aR0 (by simpa[r.length]using hi),aR1,ev];rfl,rv⟩
  . rw[aRY (by simpa using hi),aRZ]at e
    split at e <;> cases e
 refine⟨.refl s,λi m d e=>?_,λi j d d' a _ e1 _ _ _=>?_,by simp[L2.cC,hO,r.length]⟩
 . obtain⟨rfl,v,e1,rv⟩:=low i m d e;exact⟨v,e1,rv,by nofun⟩
 . have:=(low i true d e1).1;cases this
def n9(ns:List Int):List D:=[.lst (ns.map .int)]
theorem wV{K:Fg}{F:Hp}:∀ns:List Int,aC K F (ns.map D.int) (ns.map V.int)
 |[]=>aC.nil
 |n::ns=>aC.cons (by simp only[aB]) (wV ns)
def noK:Md->D->Md->D->Option (Md×D):=λ_ _ _ _=>none
abbrev fAdd:Md->D->Md->D->Option (Md×D):=orO (fI (λ_ _=>true) λi j=>.int (i+j)) (fS (λi j=>decide (i.length+j.length<=sizeLine)) λi j=>.str (i++j))
abbrev fSub:Md->D->Md->D->Option (Md×D):=fI (λ_ _=>true) λi j=>.int (i-j)
abbrev fMul:Md->D->Md->D->Option (Md×D):=orO (fI (λi j=>(bits i&&bits j)||(w64 i||w64 j)) λi j=>.int (i * j)) noK
abbrev fMod:Md->D->Md->D->Option (Md×D):=fI (λ_ j=>decide (0<j)) λi j=>.int (i % j)
abbrev fDiv:Md->D->Md->D->Option (Md×D):=fI (λ_ j=>decide (0<j)&&bits j) λi j=>.int (i / j)
abbrev fPow:Md->D->Md->D->Option (Md×D):=fI (λi j=>decide (0<=j)&&decide (j<=1000000)&&decide (i.natAbs<2 ^ 64)) λi j=>.int (i ^ j.toNat)
abbrev fLt:Md->D->Md->D->Option (Md×D):=fI (λ_ _=>true) λi j=>.bl (decide (i<j))
abbrev fLe:Md->D->Md->D->Option (Md×D):=fI (λ_ _=>true) λi j=>.bl (decide (i<=j))
abbrev fGt:Md->D->Md->D->Option (Md×D):=fI (λ_ _=>true) λi j=>.bl (decide (j<i))
abbrev fGe:Md->D->Md->D->Option (Md×D):=fI (λ_ _=>true) λi j=>.bl (decide (j<=i))
abbrev fEq:Md->D->Md->D->Option (Md×D):=orO (eqF false) noK
abbrev fNe:Md->D->Md->D->Option (Md×D):=orO (eqF true) noK
abbrev fIn:Md->D->Md->D->Option (Md×D):=fS (λ_ _=>true) λi j=>.bl (jN i j)
abbrev aG5:Md->D->Md->D->Option (Md×D):=fS (λ_ _=>true) λi j=>.bl (!jN i j)
def IsB(φ:Md->D->Md->D->Option (Md×D)):Prop:=∀m x n y k d,φ m x n y=some (k,d)->∃t,k=.fz/\d=.bl t
def oA{c:Int->Int->Bool}{g:Int->Int->Bool}:IsB (fI c λi j=>.bl (g i j)):=λm x n y k d e=>by
 unfold fI at e;split at e
 . split at e
   . cases e;exact⟨_,rfl,rfl⟩
   . cases e
 . cases e
def wW{c:Str->Str->Bool}{g:Str->Str->Bool}:IsB (fS c λi j=>.bl (g i j)):=λm x n y k d e=>by
 unfold fS at e;split at e
 . split at e
   . cases e;exact⟨_,rfl,rfl⟩
   . cases e
 . cases e
def lN{φ ψ}(h:IsB φ)(h':IsB ψ):IsB (orO φ ψ):=λm x n y k d e=>by
 unfold orO at e;cases e1:φ m x n y with
 |none=>rw[e1]at e;exact h' _ _ _ _ _ _ e
 |some p=>rw[e1]at e;cases e;exact h _ _ _ _ _ _ e1
def wX:IsB (eqF neg):=λm x n y k d e=>by
 unfold eqF at e;split at e
 . split at e
   . cases e;exact⟨_,rfl,rfl⟩
   . cases e
 . cases e
def iQ{f:aW2->aW2->Sem aW2}:OpD C X f noK:=⟨λ_ _ _ _=>False,λ_ _ _ _ _ _ _ _ _ _ _ _ h=>h.elim,λ_ _ _ _ _ _ _ _ _ _ _ _ _ _ e _=>by cases e⟩
def o_add:OpD C X (binaryOp .Add) fAdd:=aFD.or aFP
def o_mul:OpD C X (binaryOp .Mult) fMul:=aFG.or iQ
def o_eq(hu:X.A.units+64<cLine):OpD C X (compareOp .Eq) fEq:=(aGZ hu).or iQ
def o_ne(hu:X.A.units+64<cLine):OpD C X (compareOp .NotEq) fNe:=(aG0 hu).or iQ
def phi(n N:Nat)(g:Rho->aG):List D->Res:=λds=>if ds.length=n then endR (g (hO N ds))else .stuck
def lO(scope sc:Scope):List (Str×NameKind):=scope.names.map λ(n,k)=>if(k == .free&&sc.kind == .function&&sc.names.lookup n==some .cell)then(n,.cell)else(n,k)
def aG6:bootBuiltins "len" = some (.builtin "len"):=by decide +kernel
def aG7:bootBuiltins "isinstance" = some (.builtin "isinstance"):=by decide +kernel
def aG8:bootBuiltins "int" = some (.type "int"):=by decide +kernel
def aG9:bootBuiltins "bool" = some (.type "bool"):=by decide +kernel
def aHA:bootBuiltins "str" = some (.type "str"):=by decide +kernel
def aHB:bootBuiltins "tuple" = some (.type "tuple"):=by decide +kernel
def aHC:bootBuiltins "list" = some (.type "list"):=by decide +kernel
def aHD:bootBuiltins "dict" = some (.type "dict"):=by decide +kernel
structure CI where
 name:Str
 ups:List Str
 flds:List Str
 meths:List (Str×Str×Nat)
def bQ:Expr->Bool|.Starred ..=>false|_=>true
end D3
variable {cl:List D3.CI}
namespace D3
def jS:Expr->Bool|.Call (.Name x _) [] [] _=>x != "super" |_=>true
def aW{x:Expr}{es:List Expr}(h:bQ x=true):starEach (x::es) env=(false,eval x env)::starEach es env:=by cases x <;> first|rfl|cases h
theorem eV(pos:Pos)(env:Env):∀{es:List Expr},(∀x∈es,bQ x=true)->(backTo pos (starEach es env)).any (·.1)=false
 |[],_=>rfl
 |x::es,h=>by rw[aW (h x mcs)];show((false||(backTo pos (starEach es env)).any (·.1))=false);rw[eV pos env λy hy=>h y (mcm hy)];rfl
theorem fH(pos:Pos)(env:Env):∀{es:List Expr},(∀x∈es,bQ x=true)->(backTo pos (starEach es env)).all (λx=>!x.1)=true
 |[],_=>rfl
 |x::es,h=>by rw[aW (h x mcs)];show((true&&(backTo pos (starEach es env)).all (λx=>!x.1))=true);rw[fH pos env λy hy=>h y (mcm hy)];rfl
def fJ{o:Expr}{n:Str}{w:Sem aW2}(h:jS o=true):attributeBase o n env w=w:=by
 cases o with
 |Call f as ks pos =>
  cases f with
  |Name x p =>
   cases as with
   |nil =>
    cases ks with
    |nil=>show(if x != "super" || n == "__class__" || env.kindOf "super" != some .globalImplicit||env.kindOf "__class__" != some .free then w else _)=w;have:(x != ("super":Str))=true:=h;rw[if_pos (by rw[this];rfl)]
    |cons _ _=>rfl
   |cons _ _=>rfl
  |_=>rfl
 |_=>rfl
theorem aHE {o : Expr} {m : Str} {apos pos : Pos} {args : List Expr} {env : Env} (hb : jS o = true) (hst : ∀ x ∈ args, bQ x = true) (hn : args.length < 30) (hl : apos.endLine = pos.line) :
    eval (.Call (.Attribute o m apos) args [] pos) env=(do
     let ov <- eval o env
     standAt apos.atName
     let(f,first) <- holding [ov] (getMethod ov m (do return (<- importBound o env).getD true))
     callWith pos f first (backTo pos (starEach args env)) (backToKw pos (keywordEach [] env))):=by
 have few:methodCallForm (args.length+([]:List Keyword).length) (backTo pos (starEach args env)) (backToKw pos (keywordEach [] env))=true:=by unfold methodCallForm;rw[fH pos env hst];show(true&&true&&decide (args.length+0+0<30))=true;rw[aSS (by lia)];rfl
 show(do
  let ov <- attributeBase o m env (eval o env)
  standAt apos.atName
  methodCall o m apos pos env ov (args.length+([]:List Keyword).length) (backTo pos (starEach args env)) (backToKw pos (keywordEach [] env)))=_
 rw[fJ hb];unfold methodCall;rw[few];have hp:methodCallPos true o env apos pos=pure pos:=by unfold methodCallPos;rw[if_pos (by rw[hl];simp)]
 rw[hp];show(do
  let ov <- eval o env
  standAt apos.atName
  let(f,first) <- holding [ov] (getMethod ov m (do return (<- importBound o env).getD true))
  let callPos <- pure pos
  callWith callPos f first (backTo pos (starEach args env)) (backToKw pos (keywordEach [] env)))=_
 simp only[aTT]
structure MtV(P:aW6)(w:aW5)(K:Fg)(mg:SOV)(base:Heap)(CX:CXT)(k:Nat)(c m:Str)(n:Nat)(Φ:List D->Res):Prop where
 ex:∃C f fd ps,W.nsIn K mainGlobals c=some (some (.ref C))/\Cls K C/\k9 K C m f/\bT P w K mg base CX k f fd ps (spV K mg n Φ)/\dF K fd ps []
structure FlV(K:Fg)(c f:Str):Prop where
 ex:∃C,W.nsIn K mainGlobals c=some (some (.ref C))/\Cls K C/\qC K C f
def CI.meth(cl:List CI)(c m:Str):Option (Str×Nat):=match cl.find? (λi=>i.name==c)with
 |some i=>i.meths.lookup m
 |none=>none
def fW(cl:List CI)(Φ:Str->List D->Res)(m:Str)(o:Res)(as:bG):Res:=o.thn λmd d=>match md,d with
 |.fz,.ins c fs=>(match CI.meth cl c m with
  |some (key,n)=>if fs.lookup m=none then bI n (Φ key) (dH (.ok .fz (.ins c fs)) as)else .stuck
  |none=>.stuck)
 |_,_=>.stuck
section
variable  {o:Expr}{es:List Expr}{go:Rho->Res}{m f:Str}{k:Nat}{Φ:Str->List D->Res}
def aHF(hM:∀c m key n,CI.meth cl c m=some (key,n)->MtV X.prog X.w X.K X.mg X.base CX k c m n (Φ key))(hr:bS k X.A)(hx:XOk CX (C.at X) X)(ho:PV C X o go)(ha:PAv C X es gs)(hb:jS o=true)(hst:∀x∈es,bQ x=true)(hn:es.length<30)(hl:apos.endLine=pos.line)(hes:es=[]->gs=λ_=>.ok []):PV C X (.Call (.Attribute o m apos) es [] pos) (λρ=>fW cl Φ m (go ρ) (gs ρ)):=by
 intro aA s σ H Q I q;rw[aS]at q;obtain⟨ρ,F,R,w⟩:=q;refine aD3 (pl:=(do return (<- importBound o X.env).getD true)) ho I ?_ (aHE hb hst hn hl)
 show tG (C.at X) go σ H _;rw[aS];refine⟨ρ,F,R,?_⟩;cases er:go ρ with
 |stuck=>rw[er]at w;exact w
 |exc c=>rw[er]at w;exact w
 |ok md d =>
  rw[er]at w;intro v F1 H1 s1 r1 _;have w1:aR (C.at X) F1 H1 σ (fW cl Φ m (.ok md d) (gs ρ)) Q:=aR.step s1 w;unfold fW at w1;rw[Res.thn_ok]at w1;cases md with
  |fr=>exact w1.elim
  |bo=>exact w1.elim
  |fz =>
  cases d with
  |ins c fs =>
   dsimp only at w1;cases em:CI.meth cl c m with
   |none=>rw[em]at w1;exact w1.elim
   |some kn =>
    obtain⟨key,n⟩:=kn;rw[em]at w1;dsimp only at w1;split at w1
    . rename_i hnl;obtain⟨C',f',fd,ps,n1,cl',me,FO,hbd⟩:=(hM c m key n em).ex;have r1':=r1;obtain⟨a,C2,dx,gs',ev,n2,ea,rf⟩:=r1.ins s1.sub;rw[n1]at n2;cases n2;subst ev;refine⟨a,C',dx,gs',f',rfl,ea,cl',me,rf.lookN hnl,λs1' I1=>?_⟩;have fin:∀(vs:List V) (us:List aW2) (s2:aW3) (F2 H2:Hp) (xs:List (Md×D)),aF F1 H1 F2 H2->RpL X.K F2 H2 xs vs->Inv X aA σ H2 s2->aH vs us->gs ρ=.ok xs->wpAny (model X.prog X.w) X.A (call (.ref f') (.ref a::us)) (EP X aA σ Q) X.xe s2:=by
        intro vs us s2 F2 H2 xs s2' rl I2 rv eg;rw[eg]at w1;have w2:aR (C.at X) F2 H2 σ (bI n (Φ key) (dH (.ok .fz (.ins c fs)) (.ok xs))) Q:=aR.step s2' w1;rw[wK]at w2;unfold bI at w2;rw[bG.thn_ok]at w2;have rl2:RpL X.K F2 H2 ((.fz,.ins c fs)::xs) (.ref a::vs):=⟨_,_,rfl,r1'.step s2',rl⟩;cases ef:cP ((.fz,.ins c fs)::xs)with
        |none=>rw[ef]at w2;exact w2.elim
        |some ds =>
         rw[ef]at w2;dsimp only at w2;split at w2
         . rename_i hnn;have rl3:=rl2.fz ef;refine wU (E:=λu _ H'=>∃c,X.mg c=some u/\C.EE c σ H') (vs:=.ref a::vs) (us:=.ref a::us) FO hr hbd (λe s' hc=>hx aA σ H2 s2 e s' I2 hc) I2 (.cons rfl rv) ⟨by rw[rl3.length];exact hnn,F2,ds,s2'.sub,rl3,?_⟩
           cases ep:Φ key ds with
           |stuck=>rw[ep]at w2;exact w2
           |exc c=>rw[ep]at w2;exact λF' H' u st hu=>⟨c,hu,w2 F' H' st⟩
           |ok m d =>
            rw[ep]at w2;cases m with
            |bo=>exact w2.elim
            |fz=>exact⟨by decide,w2⟩
            |fr=>exact⟨by decide,w2⟩
         . exact w2.elim
      cases es with
      |nil =>
       refine W.callWith_K0 (first:=[.ref a]) I1.kIn me.kp ?_
       have eg:gs ρ=.ok []:=by rw[hes rfl]
       exact fin [] [] s1' F1 H1 [] (.refl s1.sub) rfl I1 .nil eg
      |cons e es =>
       refine W.callWith_K (first:=[.ref a]) (h₀:=X.base) I.ok.mod.kin me.kp (thn (ha pos aA s1' σ H1 (λvs H2=>∃F2 xs,aF F1 H1 F2 H2/\RpL X.K F2 H2 xs vs/\gs ρ=.ok xs) I1 ?_) λus s2 ⟨vs,H2,I2,r,F2,xs,st2,rl,eg⟩=>⟨I2.kIn,?_⟩) (aW (hst e mcs)) (eV _ _ λy hy=>hst y (mcm hy))
       . refine⟨ρ,F1,R.step s1,?_⟩;cases eg:gs ρ with
         |stuck=>rw[eg]at w1;exact w1
         |exc c=>rw[eg]at w1;exact w1
         |ok xs=>exact λvs F2 H2 s2 rl=>⟨F2,xs,s2,rl,rfl⟩
       . exact fin vs us s2 F2 H2 xs st2 rl I2 r eg
    . exact w1.elim
  |_=>exact w1.elim
end
def aN.mut{F:Hp}{d d':D}{a:Addr}{o:HO}(R:aN K F0 H0 F H σ ρ)(e:ρ[i]? = some (some (true,d)))(ev:σ[i]? = some (some (.ref a)))(t:Top K F (upd H a o) a d'):aN K F0 H0 F (upd H a o) σ (ρ.set i (some (true,d'))):=by
 obtain⟨v,ev',rp,hn⟩:=R.slot i true d e;rw[ev]at ev';cases ev';have h0:H0 a=none:=hn rfl a rfl;obtain⟨a',ea,hf,tt⟩:=rp;cases ea;have hl:i<ρ.length:=(aQ2.mp e).1;have st:aF F0 H0 F (upd H a o):=⟨λb u q=>by rw[aL (bR q h0)];exact R.st.same b u q,R.st.fsame,λb u q=>by rw[aL (bR q hf)];exact R.st.sub b u q,R.st.new⟩
 refine⟨st,λj m d2 e2=>?_,λj l d1 d2 b hjl e1 e2 q1 q2=>?_,by rw[aTL];exact R.len⟩
 . by_cases hj:j=i
   . subst hj;rw[aQ3 hl]at e2;cases e2;exact⟨.ref a,ev,⟨a,rfl,hf,t⟩,λ_ b eb=>by cases eb;exact h0⟩
   . rw[aQ4 (λz=>hj z.symm)]at e2;obtain⟨u,eu,ru,hu⟩:=R.slot j m d2 e2;refine⟨u,eu,?_,hu⟩;cases m with
     |false=>exact ru
     |true =>
      obtain⟨b,eb,hb,tb⟩:=ru;subst eb;have hba:b≠a:=λz=>by subst z;exact R.apart j i d2 d b hj e2 e eu ev
      refine⟨b,rfl,hb,?_⟩;cases d2 with
      |lst ds=>obtain⟨xs,q,r⟩:=tb;exact⟨xs,by rw[aL hba];exact q,r⟩
      |dct ds=>obtain⟨xs,q,r⟩:=tb;exact⟨xs,by rw[aL hba];exact q,r⟩
      |ins c fs=>obtain⟨C,dx,gs,n,q,r⟩:=tb;exact⟨C,dx,gs,n,by rw[aL hba];exact q,r⟩
      |set ks=>obtain⟨S,q,r⟩:=tb;exact⟨S,by rw[aL hba];exact q,r⟩
      |dtn ds=>obtain⟨xs,q,r⟩:=tb;exact⟨xs,by rw[aL hba];exact q,r⟩
      |_=>exact tb.elim
 . have back:∀(l:Nat) (d2:D),(ρ.set i (some (true,d')))[l]? = some (some (true,d2))->∃d3,ρ[l]? = some (some (true,d3)):=λl d2 q=>by
     by_cases hl':l=i
     . subst hl';exact⟨d,e⟩
     . rw[aQ4 (λz=>hl' z.symm)]at q;exact⟨d2,q⟩
   obtain⟨d3,q3⟩:=back j d1 e1;obtain⟨d4,q4⟩:=back l d2 e2;exact R.apart j l d3 d4 b hjl q3 q4 q1 q2
section
variable  {f:Str}
end
structure qL(K:Fg)(mg:SOV)(c:Str):Prop where
 ex:∃C,W.nsIn K mainGlobals c=some (some (.ref C))/\mg c=some (.ref C)/\W.makesIn K C=true/\W.findIn K (.ref C) "__init__" = some (some (.builtin "object.__init__"))/\W.keepIn K (.ref C)=true
def aHG{C:Addr}(hm:X.mg x=some (.ref C))(h1:W.makesIn X.K C=true)(h2:W.findIn X.K (.ref C) "__init__" = some (some (.builtin "object.__init__")))(h3:W.keepIn X.K (.ref C)=true)(hg:Gl X x)(hdb:(x==("__debug__":Str))=false):PE X (.Call (.Name x p) [] [] pos) (λσ H Q=>∀a dx,H a=none->H dx=none->dx≠a->Q (.ref a) (upd (upd H dx (.own a)) a (.ins C dx []))):=by
 intro aA s σ H Q I h;refine aR5 (nE I hg hm ?_ hdb);refine W.callWith_K0 I.kIn h3 (aTY (aD0 I.kIn h1 h2 (λself=>W.Looks.of_pure (W.oi_bind self)) ?_));have I2:=Inv.made (C:=C) I;have Y:=W.makes_of (M:=model X.prog X.w) I.kIn h1;have hh:((s.heap.push W.emptyDict).push (W.instObj C s.heap.objs.size)).get? (s.heap.objs.size+1)=some (W.instObj C s.heap.objs.size):=by
  have:=aQP (s.heap.push W.emptyDict) (o:=W.instObj C s.heap.objs.size) rfl
  rwa [aRO]at this
 have t1:W.Looks (model X.prog X.w) ((s.heap.push W.emptyDict).push (W.instObj C s.heap.objs.size)) (typeOf (.ref (s.heap.objs.size+1))) (.ref C):=(W.Looks.ld hh).andThen .now;have t2:W.Looks (model X.prog X.w) ((s.heap.push W.emptyDict).push (W.instObj C s.heap.objs.size)) (isInstance (.ref (s.heap.objs.size+1)) (.type "object")) true:=t1.andThen (Y.top.keeps λb o e=>hps (hps e));refine aTZ W.oi_plain W.entry_oi (@W.check_slot (model X.prog X.w) _ _ _ "object.__init__" "object" "__init__" (.ref (s.heap.objs.size+1)) [] [] _ W.oi_kind W.oi_split t2 (W.oi_args (.ref (s.heap.objs.size+1))) ?_);rw[W.oi_run];refine aRC (And.intro rfl ⟨.ref (s.heap.objs.size+1),_,I2,rfl,?_⟩);exact h (s.heap.objs.size+1) s.heap.objs.size (I.hok.fresh (aT0 _)) (I.hok.fresh (aRG _)) (aQT (aRP _))
def aHH{F:Hp}{a C:Addr}(s:aD F H)(ha:H a=none)(hd:H dx=none)(hne:dx≠a):aF F H F (upd (upd H dx (.own a)) a (.ins C dx [])):=by have s1:=aF.fresh (.own a) s hd;refine s1.trans (aF.fresh _ s1.sub ?_);rw[aL (λz=>hne z.symm)];exact ha
def aHI{c:Str}(M:qL X.K X.mg c)(hg:Gl X c)(hdb:(c==("__debug__":Str))=false):PV C X (.Call (.Name c p) [] [] pos) (λ_=>.ok .fr (.ins c [])):=by
 obtain⟨C',n,hm,h1,h2,h3⟩:=M.ex;refine PE.imp (aHG hm h1 h2 h3 hg hdb) λσ H Q q=>?_;rw[aS]at q;obtain⟨ρ,F,R,w⟩:=q;intro a dx ha hd hne;refine w (.ref a) F _ (aHH R.sub ha hd hne) ⟨a,rfl,R.sub.free ha,C',dx,[],n,aV,?_⟩ λ_ b eb=>by cases eb;exact ha
 simp only[cN]
def spI(K:Fg)(mg:SOV)(c:Str)(n:Nat)(Φ:List D->Res):Sp:=λvs H Q E=>∃x us dx C H1 F ds,vs=.ref x::us/\us.length=n/\W.nsIn K mainGlobals c=some (some (.ref C)) /\
 H=upd (upd H1 dx (.own x)) x (.ins C dx [])/\H1 x=none/\H1 dx=none/\dx≠x/\aD F H1/\aC K F ds us/\match Φ ds with
 |.ok _ d=>∀F' H',aF F H1 F' H'->Rp K F' H' .fr d (.ref x)->Q .non H'
 |.exc c=>∀F' H' u,aF F H1 F' H'->mg c=some u->E u none H'
 |.stuck=>False
structure InV(P:aW6)(w:aW5)(K:Fg)(mg:SOV)(base:Heap)(CX:CXT)(k:Nat)(c:Str)(n:Nat)(Φ:List D->Res):Prop where
 ex:∃C f fd ps,W.nsIn K mainGlobals c=some (some (.ref C))/\mg c=some (.ref C)/\Mk K C f/\bT P w K mg base CX k f fd ps (spI K mg c n Φ)/\dF K fd ps []
section
variable {es:List Expr}{c:Str}{k:Nat}
end
structure IsV(K:Fg)(mg:SOV)(cl:List CI)(c:Str):Prop where
 ex:∃C,mg c=some (.ref C)/\(∀t∈["NoneType", "bool", "int", "str", "tuple", "list", "dict"],W.kitOne K (.type t) (.ref C)=some false) /\
  ∀i∈cl,∃C',W.nsIn K mainGlobals i.name=some (some (.ref C'))/\Cls K C'/\W.findIn K (.ref C') "__class__" = some (some (.builtin "object.__class__")) /\
   W.specialIn K (.builtin "object.__class__") "__get__" = some (some (.builtin "getset_descriptor.__get__"))/\W.takesIn K (.builtin "object.__class__")=some true/\W.mroIn K C' (.type "object")=some true /\
   W.kitOne K (.ref C') (.ref C)=some (i.ups.contains c)
section
variable {c:Str}
end
section
variable  {a b:Expr}{gc:Rho->Res}
def dL:D->Bool|.non=>true|_=>false
def wY{F:Hp}{m:Md}{d:D}(s:aD F H)(r:Rp K F H m d v):decide (v=.non)=dL d:=by
 cases d with
 |non=>cases r.non;rfl
 |bl _=>cases r.bl;rfl
 |int _=>cases r.int;rfl
 |str _=>cases r.str.1;rfl
 |tup _=>obtain⟨_,_,rfl,_⟩:=r.seqT s;rfl
 |lst _=>obtain⟨_,_,rfl,_⟩:=r.seqL s;rfl
 |dct _=>obtain⟨_,_,rfl,_⟩:=r.dict s;rfl
 |ty _=>cases r.ty;rfl
 |ob _=>cases r.ob;rfl
 |ins _ _=>obtain⟨_,_,_,_,rfl,_⟩:=r.ins s;rfl
 |fn _ =>
  cases m with
  |fz=>have r:aB K F _ v:=r;simp only[aB]at r;obtain⟨_,rfl,_⟩:=r;rfl
  |fr=>obtain⟨_,_,_,q⟩:=r;exact q.elim
  |bo=>obtain⟨_,_,_,q⟩:=r;exact q.elim
 |exn _ =>
  cases m with
  |fz=>have r:aB K F _ v:=r;simp only[aB]at r;obtain⟨_,_,rfl,_⟩:=r;rfl
  |fr=>obtain⟨_,_,_,q⟩:=r;exact q.elim
  |bo=>obtain⟨_,_,_,q⟩:=r;exact q.elim
 |set _ =>
  cases m with
  |fz=>have r:aB K F _ v:=r;simp only[aB]at r;obtain⟨_,_,rfl,_⟩:=r;rfl
  |fr=>obtain⟨_,rfl,_,_⟩:=r;rfl
  |bo=>obtain⟨_,rfl,_,_⟩:=r;rfl
 |dtn _ =>
  cases m with
  |fz=>have r:aB K F _ v:=r;simp only[aB]at r;obtain⟨_,_,rfl,_⟩:=r;rfl
  |fr=>obtain⟨_,rfl,_,_⟩:=r;rfl
  |bo=>obtain⟨_,rfl,_,_⟩:=r;rfl
 |dtf _ =>
  cases m with
  |fz=>have r:aB K F _ v:=r;simp only[aB]at r;obtain⟨_,_,_,rfl,_⟩:=r;rfl
  |fr=>obtain⟨_,rfl,_,_⟩:=r;rfl
  |bo=>obtain⟨_,rfl,_,_⟩:=r;rfl
 |dcf _ =>
  cases m with
  |fz=>have r:aB K F _ v:=r;simp only[aB]at r;obtain⟨_,_,_,rfl,_⟩:=r;rfl
  |fr=>obtain⟨_,rfl,_,_⟩:=r;rfl
  |bo=>obtain⟨_,rfl,_,_⟩:=r;rfl
noncomputable def fIs(neg:Bool):Md->D->Md->D->Option (Md×D):=λ_ x _ y=>match y with
 |.non=>some (.fz,.bl (if neg then !dL x else dL x))
 |_=>none
def aHJ:OpD C X (compareOp .Is) (fIs false):=by
 refine⟨_,aDN,λF H m x n y v u k d Q s rx ry e w=>?_⟩;unfold fIs at e;split at e
 . cases e;cases ry.non;exact⟨rfl,by rw[wY s rx];exact w _ F H (.refl s) (dG _) (by nofun)⟩
 . cases e
def aHK:OpD C X (compareOp .IsNot) (fIs true):=by
 refine⟨_,aDO,λF H m x n y v u k d Q s rx ry e w=>?_⟩;unfold fIs at e;split at e
 . cases e;cases ry.non;exact⟨rfl,by rw[wY s rx];exact w _ F H (.refl s) (dG _) (by nofun)⟩
 . cases e
def wZ:IsB (fIs neg):=λm x n y k d e=>by
 unfold fIs at e;split at e
 . cases e;exact⟨_,rfl,rfl⟩
 . cases e
theorem aHL:OpR X (binaryOp .Add) (λx y H Q=>∃l b xs ys,x=.ref l/\y=.ref b/\SqL X.K H l xs/\SqL X.K H b ys/\xs.length+ys.length<=sizeLine/\∀p,H p=none->Q (.ref p) (upd H p (.lst (xs++ys)))):=by
 intro aA s σ H x y v u Q I rx ry h;obtain⟨l,b,xs,ys,rfl,rfl,hl,hb,hz,q⟩:=h;cases rx;cases ry;obtain⟨its,r1,p1,_⟩:=I.list hl;obtain⟨its2,r2,p2,_⟩:=I.list hb;obtain⟨⟨cls,dd,data,sl⟩,n,ho,hc,hd1,hd⟩:=p1;obtain⟨⟨cls2,dd2,data2,sl2⟩,n2,ho2,hc2,hd2',hd2⟩:=p2;simp only at hc hd hc2 hd2;subst hc hd hc2 hd2;have e:its.toArray++its2.toArray=(its++its2).toArray:=by simp
 have l1:=r1.length;have l2:=r2.length;refine aR6 ⟨_,ho,rfl⟩ ⟨_,ho2,rfl⟩ noFill_list_add seq_list_add PySem.F.slot_list_add PySem.F.entry_list_add (PySem.F.args_list_add_2 _ _) (list_addW l b its.toArray its2.toArray n n2 dd dd2 sl sl2 (by simp;lia)) ⟨ho,ho2,?_⟩
 rw[e];refine⟨.ref s.heap.objs.size,_,I.laid (t':=s.toks) (o:=.lst (xs++ys)) (λb ob q=>hps q) (aRG _) ?_,rfl,q _ (I.hok.fresh (aRG _))⟩;exact⟨by rw[aR3];exact hz,_,0,r1.append r2,aQP _ rfl⟩
theorem aHM:OpR X (binaryOp .Add) (λx y H Q=>∃l b xs ys,x=.ref l/\y=.ref b/\SqT X.K H l xs/\SqT X.K H b ys/\xs.length+ys.length<=sizeLine/\(xs=[]->Q (.ref b) H)/\(xs≠[]->ys=[]->Q (.ref l) H)/\(xs≠[]->ys≠[]->∀p,H p=none->Q (.ref p) (upd H p (.tup (xs++ys))))):=by
 intro aA s σ H x y v u Q I rx ry h;obtain⟨l,b,xs,ys,rfl,rfl,hl,hb,hz,q0,q1,q2⟩:=h;cases rx;cases ry;obtain⟨its,r1,p1,_⟩:=I.tuple hl;obtain⟨its2,r2,p2,_⟩:=I.tuple hb;have n1:=r1.nil_iff;have n2:=r2.nil_iff;have l1:=r1.length;have l2:=r2.length;by_cases hv:its=[]
 . obtain⟨⟨cls,dd,data,sl⟩,ho,hc,n,hd⟩:=id p1;obtain⟨⟨cls2,dd2,data2,sl2⟩,ho2,hc2,n2',hd2⟩:=id p2;simp only at hc hd hc2 hd2;subst hc hd hc2 hd2;exact aR6 ⟨_,ho,rfl⟩ ⟨_,ho2,rfl⟩ aR7 seq_tuple_add aR8 aR9 (aSA _ _)
     (tuple_addW0 l b its.toArray its2.toArray n n2' dd dd2 sl sl2 (by simp[hv])) ⟨ho,ho2,⟨.ref b,H,I,rfl,q0 (n1.mp hv)⟩⟩
 . refine HT.aD7 p1 p2 hv (λz=>⟨.ref l,H,I,rfl,q1 (λw=>hv (n1.mpr w)) (n2.mp z)⟩) (λz=>?_) (by lia)
   refine⟨.ref s.heap.objs.size,_,I.laid (t':=s.toks) (o:=.tup (xs++ys)) (λb ob q=>hps q) (aRG _) ?_,rfl,q2 (λw=>hv (n1.mpr w)) (λw=>z (n2.mpr w)) _ (I.hok.fresh (aRG _))⟩;exact⟨by rw[aR3];exact hz,_,r1.append r2,gE.new _ _⟩
noncomputable def oB:Md->D->Md->D->Option (Md×D):=λm x n y=>match x,y with
 |.lst xs,.lst ys=>if xs.length+ys.length<=sizeLine then some (.fr,.lst (xs++ys))else none
 |.tup xs,.tup ys=>if xs.length+ys.length<=sizeLine then some (.fz,.tup (xs++ys))else none
 |_,_=>none
def aC.nilIff{F:Hp}{xs:List V}(h:aC K F ds xs):xs=[]↔ds=[]:=by
 have:=h.length;constructor
 . intro e;subst e;cases ds with|nil=>rfl|cons _ _=>simp at this
 . intro e;subst e;cases xs with|nil=>rfl|cons _ _=>simp at this
def aHN:OpD C X (binaryOp .Add) oB:=by
 refine⟨_,aHL.or aHM,λF H m x n y v u k d Q s rx ry e w=>?_⟩;unfold oB at e;split at e
 . rename_i xs ys;split at e
   . rename_i hz;cases e;obtain⟨a,us,rfl,q1,r1⟩:=rx.seqL s;obtain⟨b,vs,rfl,q2,r2⟩:=ry.seqL s;refine .inl ⟨a,b,us,vs,rfl,rfl,q1,q2,by rw[r1.length,r2.length];exact hz,λp hp=>?_⟩
     exact w (.ref p) F _ (aF.fresh _ s hp) ⟨p,rfl,s.free hp,_,aV,r1.append r2⟩ λ_ a ea=>by cases ea;exact hp
   . cases e
 . rename_i xs ys;split at e
   . rename_i hz;cases e;have ex:=rx;have ey:=ry;obtain⟨a,us,rfl,q1,r1⟩:=rx.seqT s;obtain⟨b,vs,rfl,q2,r2⟩:=ry.seqT s;have fz:∀{m:Md}{zs:List D}{c:Addr},Rp X.K F H m (.tup zs) (.ref c)->aB X.K F (.tup zs) (.ref c):=λ{m zs c} h=>by
       cases m with
       |fz=>exact h
       |fr=>obtain⟨_,_,_,q⟩:=h;exact q.elim
       |bo=>obtain⟨_,_,_,q⟩:=h;exact q.elim
     refine .inr ⟨a,b,us,vs,rfl,rfl,q1,q2,by rw[r1.length,r2.length];exact hz,λz=>?_,λ_ z=>?_,λ_ _ p hp=>?_⟩
     . have:xs=[]:=r1.nilIff.mp z;subst this;exact w (.ref b) F H (.refl s) (fz ey) (by nofun)
     . have:ys=[]:=r2.nilIff.mp z;subst this;rw[aRT]at w;exact w (.ref a) F H (.refl s) (fz ex) (by nofun)
     . exact w (.ref p) _ _ (aF.laid (.tup (us++vs)) s hp) (aB.tup_of (s.free hp) (r1.append r2)) (by nofun)
   . cases e
 . cases e
def fK:List (Md×D)->Option (Md×D)
 |[(_,.lst ds)]=>some (.fz,.tup ds)
 |[(.fz,.tup ds)]=>some (.fz,.tup ds)
 |_=>none
def iR:List (Md×D)->Option (Md×D)
 |[(_,.lst ds)]=>some (.fr,.lst ds)
 |[(_,.tup ds)]=>some (.fr,.lst ds)
 |_=>none
def qM:List (Md×D)->Option (Md×D)
 |[(_,.int i)]=>some (.fz,.int i)
 |[(_,.bl b)]=>some (.fz,.int (if b then 1 else 0))
 |_=>none
def fX(i:Int):Bool:=decide (i.natAbs.log2<1920)
noncomputable def bU(i:Int):Str:=Str.ofString (toString i)
def lP:List (Md×D)->Option (Md×D)
 |[(_,.int i)]=>if fX i=true then some (.fz,.str (bU i))else none
 |_=>none
def aHO:dU X (.type "tuple") fK:=by
 refine⟨_,aER,λF H xs vs k d Q s rx e w=>?_⟩;unfold fK at e;split at e
 . rename_i m ds;cases e;obtain⟨v,rfl,r⟩:=rx.one;obtain⟨a,xs,rfl,q,rl⟩:=r.seqL s;exact⟨a,xs,rfl,.inl ⟨q,λl hl=>w (.ref l) _ _ (aF.laid (.tup xs) s hl) (aB.tup_of (s.free hl) rl) (by nofun)⟩⟩
 . rename_i ds;cases e;obtain⟨v,rfl,r⟩:=rx.one;have r0:=r;obtain⟨a,xs,rfl,q,rl⟩:=r.seqT s;exact⟨a,xs,rfl,.inr ⟨q,w (.ref a) F H (.refl s) r0 (by nofun)⟩⟩
 . cases e
def aHP:dU X (.type "list") iR:=by
 refine⟨_,aEQ,λF H xs vs k d Q s rx e w=>?_⟩;unfold iR at e;split at e
 . rename_i m ds;cases e;obtain⟨v,rfl,r⟩:=rx.one;obtain⟨a,xs,rfl,q,rl⟩:=r.seqL s;exact⟨a,xs,rfl,.inl q,λl hl=>w (.ref l) F _ (aF.fresh _ s hl) ⟨l,rfl,s.free hl,xs,aV,rl⟩ λ_ a ea=>by cases ea;exact hl⟩
 . rename_i m ds;cases e;obtain⟨v,rfl,r⟩:=rx.one;obtain⟨a,xs,rfl,q,rl⟩:=r.seqT s;exact⟨a,xs,rfl,.inr q,λl hl=>w (.ref l) F _ (aF.fresh _ s hl) ⟨l,rfl,s.free hl,xs,aV,rl⟩ λ_ a ea=>by cases ea;exact hl⟩
 . cases e
def aHQ:dU X (.type "int") qM:=by
 refine⟨_,aDV,λF H xs vs k d Q s rx e w=>?_⟩;unfold qM at e;split at e
 . cases e;obtain⟨v,rfl,r⟩:=rx.one;cases r.int;exact .inl ⟨_,rfl,w _ F H (.refl s) (dS _) (by nofun)⟩
 . cases e;obtain⟨v,rfl,r⟩:=rx.one;cases r.bl;exact .inr ⟨_,rfl,w _ F H (.refl s) (dS _) (by nofun)⟩
 . cases e
end
theorem w6(i:Int):PyData.strOk (Str.ofString (toString i))=true:=by
 unfold PyData.strOk;rw[aTF];intro c hc;have hc':c∈(Str.ofString (toString i)).cps.toList:=by rw[aRM];exact hc
 have:¬ (c≠45/\(c<48\/57<c)):=λh=>int_text_free' c h i hc';have hb:c<58:=by lia
 simp;lia
theorem aHR:dU X (.type "str") lP:=by
 refine⟨_,aDW,λF H xs vs k d Q s rx e w=>?_⟩;unfold lP at e;split at e
 . rename_i m i;split at e
   . rename_i hs;cases e;obtain⟨v,rfl,r⟩:=rx.one;cases r.int;have hl:i.natAbs.log2<1920:=aTD hs;have h1:(bU i).length<=1921:=int_text_len_1921 hl;have hz:sizeLine=16777216:=aRK;exact⟨i,rfl,hl,w _ F H (.refl s) (eO ⟨by lia,w6 i⟩) (by nofun)⟩
   . cases e
 . cases e
def aHS{T:String}{φ}{es:List Expr}(o:dU X (.type T) φ)(hg:Gl X x)(hm:X.mg x=none)(hv:bootBuiltins x=some (.type T))(ha:PAv C X (e::es) gs)(hn:x ≠ "__name__")(hdb:(x==("__debug__":Str))=false)(hst:∀x∈e::es,bQ x=true):PV C X (.Call (.Name x p) (e::es) [] pos) (λρ=>eR φ (gs ρ)):=by obtain⟨r,h1,h2⟩:=o;exact PE.imp (vL h1 hg hm hv ha hn hdb (aW (hst e mcs)) (eV _ _ λy hy=>hst y (mcm hy))) λσ H Q q=>wL h2 q
section
variable {A:aW4}{E:VSP}
theorem aHT{l:Addr}{Q:List aW2->aW3->Prop}(hA:A.handled=none)(ht:s.heap.IsList l items)(h:∀h',Heap.ExtBut s.heap.objs.size s.heap h'->∀tk,Q items.toList {s with heap:=h',toks:=tk}):wpAny (model prog w) A (unpackItems (.ref l) items.size none) Q E s:=by
 unfold unpackItems notIterableAtAll;refine aRD (aRD (aS2 ht.typeIs PySem.F.slot_list_iter.lookup ?_));refine aRC ?_;dsimp only;rw[if_neg aRA];refine aRD (aSE (aRF ht ?_));have hlt:l<s.heap.objs.size:=by obtain⟨o,e,_⟩:=ht;exact aQQ e
 have hne:l≠s.heap.objs.size:=aQT hlt;have keep:∀b o,s.heap.get? b=some o->(s.heap.push { cls:=Value.type "list_iterator", data:=Data.fields #[Value.ref l,Value.int 0 0] }).get? b=some o:=λb o q=>hps q;have ht':(s.heap.push { cls:=Value.type "list_iterator", data:=Data.fields #[Value.ref l,Value.int 0 0] }).IsList l items:=by obtain⟨o,e,c⟩:=ht;exact⟨o,keep l o e,c⟩
 have hi':(s.heap.push { cls:=Value.type "list_iterator", data:=Data.fields #[Value.ref l,Value.int 0 0] }).IsListIter s.heap.objs.size l 0:=⟨_,aQP _ rfl,rfl,rfl⟩;refine aRD (aSE (W.kun_draw hne items.size 0 _ _ hi' ht' (by lia) λh' hi hsb=>?_))
 have ei:List.take items.size (List.drop 0 items.toList)=items.toList:=by rw[List.drop_zero];exact aT1 (by simp)
 rw[ei];rw[if_neg (by simp)]
 have hl2:h'.IsList l items:=by obtain⟨o,e,c⟩:=ht';exact⟨o,by rw[hsb.2 l hne];exact e,c⟩
 rw[Nat.zero_add]at hi;refine aRD (aSE ((Walks.list hA s.heap.objs.size l hne items).done _ _ _ ⟨hi,hl2⟩ λh2 tk k2=>?_));rw[if_neg (by simp)]
 refine aRC (h h2 (λb o hb e=>k2 b o (by simpa using hb) ?_) tk)
 show h'.get? b=some o;rw[hsb.2 b hb];exact keep b o e
def aHU{elts:List Expr}{k:Nat}{l:Addr}{Q:Unit->aW3->Prop}(hA:A.handled=none)(ht:s.heap.IsList l items)(hn:(assignEach elts env).length=items.size)(hst:(assignEach elts env).findIdx? (·.1)=none)(h:∀h',Heap.ExtBut s.heap.objs.size s.heap h'->∀tk,wpAny (model prog w) A (assignInOrder ((assignEach elts env).map (·.2)) items.toList) Q E {s with heap:=h',toks:=tk}):wpAny (model prog w) A (assign (.Tuple elts k pos) env (.ref l)) Q E s:=by rw[assign_Tuple];refine aRD (wpAny_standAt ?_);unfold unpack;rw[hst,hn];exact aRD (aSE (aHT hA ht h))
def aHV{t sl:Addr}{vl vu:aW2}{Q:VSP}(ht:IsTup s.heap t items)(hs:s.heap.IsSliceOf sl vl vu .none)(pl:IsPart vl lo)(pu:IsPart vu hi)(h0:HT.sIx items.size 0 lo=0)(h1:HT.sIx items.size items.size hi=items.size)(h:Q (.ref t) s):wpAny (model prog w) A (getItem (.ref t) (.ref sl)) Q E s:=by
 obtain⟨os,hos,hcs,hds⟩:=id hs;have tS:s.TypeIs (.ref sl) "slice" := ⟨os,hos,hcs⟩;unfold getItem
 try with_reducible refine aSE ?_
 first|refine aRD (aRC ?_)|skip
 refine aRD (wpAny_sequenceKey ht.typeIs (by decide) (aRD (aSF (name:=Str.ofString "__getitem__") ht.typeIs aSG (aSH aSG ht.typeIs entry_tuple_getitem ?_ (args_tuple_getitem _ _)))))
 show wpAny _ _ (Builtin.Tuple.tupleItemsOf (.ref t)>>=_) _ _ s;refine aRD (tupleItemsOf_ ht (aRD (aSI tS ?_)));rw[if_pos (by decide)]
 refine aRD (HT.vO hs pl pu ?_);have yes:(((HT.sIx items.size 0 lo:Nat):Int)==0&&(1:Int)==1&&(HT.sIx items.size items.size hi-HT.sIx items.size 0 lo)==items.size)=true:=by rw[h0,h1];simp
 show wpAny _ _ (if(((HT.sIx items.size 0 lo:Nat):Int)==0&&(1:Int)==1&&(HT.sIx items.size items.size hi-HT.sIx items.size 0 lo)==items.size)=true then _ else _) _ _ s;rw[if_pos yes];unfold Builtin.Tuple.tupleIsExact;refine aRD (aRD (aSI ht.typeIs (aRC ?_)));rw[if_pos (by decide)]
 refine aRD (aS6 ?_)
 first
  |exact aRC ⟨_,rfl,aRC h⟩
  |exact⟨_,rfl,aRC h⟩
end
def rSlW(K:Fg):V->Option Int->Option Int->Hp->VK->Prop:=λx lo hi H Q=>∃a xs,x=.ref a/\SqT K H a xs/\(HT.sIx xs.length 0 lo=0/\HT.sIx xs.length xs.length hi=xs.length)/\Q x H
def aHW:SlR X (rSlW X.K):=by
 intro aA s σ H x v vl vu lo hi sl Q I rx hs pl pu h;obtain⟨a,xs,rfl,hx,hw,q⟩:=h;cases rx;obtain⟨its,r,ht,hz⟩:=I.tuple hx;have hlen:its.toArray.size=xs.length:=by rw[aRL];exact r.length.symm
 exact⟨"tuple", _,PyProof.Rows.slot_tuple_getitem.lookup,ht.typeIs,aHV ht hs pl pu (by rw[hlen];exact hw.1) (by rw[hlen];exact hw.2) ⟨.ref a,H,I,rfl,q⟩⟩
def gSeq(K:Fg)(n:Nat)(t:TGs):TG:=λv σ H Q=>∃a xs,v=.ref a/\(SqT K H a xs\/SqL K H a xs)/\xs.length=n/\t xs σ H Q
def aHX{es:List Expr}{k:Nat}{t:TGs}(hc:X.calm=true)(h:PGs X es t)(hn:(assignEach es X.env).length=n)(hst:(assignEach es X.env).findIdx? (·.1)=none):PG X (.Tuple es k pos) (gSeq X.K n t):=by
 intro aA s σ H v u Q I r hw;obtain⟨a,xs,e1,hq,hl,hw⟩:=hw;rcases hq with hq|hq
 . exact aC7 hc h hn hst aA s σ H v u Q I r ⟨a,xs,e1,hq,hl,hw⟩
 . subst e1;cases r;obtain⟨its,rv,ht,hz⟩:=I.list hq;refine aHU (I.ok.hd hc) ht.isList (by simp[hn,<- hl,rv.length]) hst λh' hx tk=>?_
   have I1:Inv X aA σ H {s with heap:=h',toks:=tk}:=I.kept (t':=tk) λb o e=>hx b o (aQT (aQQ e)) e
   exact h aA _ σ H xs _ Q I1 (by simpa using rv) hw
inductive Tg where
 |nm (i:Nat)|tp (ts:List Tg)
mutual
def aP:Tg->D->Rho->Option Rho
 |.nm i,d,ρ=>some (ρ.set i (some (false,d)))
 |.tp ts,d,ρ=>match d with
  |.tup ds=>cX ts ds ρ
  |.lst ds=>cX ts ds ρ
  |_=>none
def cX:List Tg->List D->Rho->Option Rho
 |[],ds,ρ=>if ds.isEmpty then some ρ else none
 |t::ts,ds,ρ=>match ds with
  |d::ds=>(match aP t d ρ with|some ρ1=>cX ts ds ρ1|none=>none)
  |[]=>none
end
mutual
def dY:Tg->List Nat
 |.nm i=>[i]
 |.tp ts=>oC ts
def oC:List Tg->List Nat
 |[]=>[]
 |t::ts=>dY t++oC ts
end
mutual
def gOf(K:Fg):Tg->TG
 |.nm i=>k6 i
 |.tp ts=>gSeq K ts.length (hU K ts)
def hU(K:Fg):List Tg->TGs
 |[]=>gNil
 |t::ts=>u8 (gOf K t) (hU K ts)
end
end D3
variable {t:D3.Tg}
namespace D3
def PGw(X:Cx)(tg:Expr)(t:Tg):Prop:=PG X tg (gOf X.K t)
def iS(X:Cx)(tgs:List Expr)(ts:List Tg):Prop:=PGs X tgs (hU X.K ts)
def jT:Expr->Bool|.Starred ..=>false|_=>true
def w8{es:List Expr}(h:jT e=true):assignEach (e::es) env=(false,assign e env)::assignEach es env:=by cases e <;> first|rfl|cases h
theorem qN:∀{ts:List Tg}{ds:List D}{ρ ρ':Rho},cX ts ds ρ=some ρ'->ds.length=ts.length
 |[],ds,ρ,ρ',e=>by
  simp only[cX]at e;split at e
  . rename_i h;have:ds=[]:=by simpa using h
    subst this;rfl
  . cases e
 |t::ts,ds,ρ,ρ',e=>by
  simp only[cX]at e;split at e
  . split at e
    . rw[aST,aST,qN e]
    . cases e
  . cases e
mutual
theorem lQ{K:Fg}{F0 H0:Hp}:∀(t:Tg) {F H:Hp}{σ:L2.St}{ρ ρ':Rho}{d:D}{v:V}{Q:L2.St->Hp->Prop},aN K F0 H0 F H σ ρ->aB K F d v->aP t d ρ=some ρ'->(∀σ',aN K F0 H0 F H σ' ρ'->σ'.length=σ.length->(∀j,j∉dY t->σ'[j]? = σ[j]?)->Q σ' H)->gOf K t v σ H Q
 |.nm i,F,H,σ,ρ,ρ',d,v,Q,R,r,e,w=>by
  simp only[aP]at e;cases e;simp only[gOf];refine w _ (R.set (m:=false) (.refl R.sub) r (by nofun)) (by rw[aTL]) λj hj=>?_
  simp only[dY,aT2]at hj;rw[aQ4 (λz=>hj z.symm)]
 |.tp ts,F,H,σ,ρ,ρ',d,v,Q,R,r,e,w=>by
  simp only[aP]at e;split at e
  . rename_i ds;simp only[aB]at r;obtain⟨a,xs,rfl,hq,rl⟩:=r;simp only[gOf];refine⟨a,xs,rfl,.inl (aD.seqT R.sub hq),by rw[rl.length];exact qN e,qO ts R rl e ?_⟩
    simp only[dY]at w;exact w
  . rename_i ds;simp only[aB]at r;obtain⟨a,xs,rfl,hq,rl⟩:=r;simp only[gOf];refine⟨a,xs,rfl,.inr (R.sub.seq hq),by rw[rl.length];exact qN e,qO ts R rl e ?_⟩
    simp only[dY]at w;exact w
  . cases e
theorem qO{K:Fg}{F0 H0:Hp}:∀(ts:List Tg) {F H:Hp}{σ:L2.St}{ρ ρ':Rho}{ds:List D}{vs:List V}{Q:L2.St->Hp->Prop},aN K F0 H0 F H σ ρ->aC K F ds vs->cX ts ds ρ=some ρ'->(∀σ',aN K F0 H0 F H σ' ρ'->σ'.length=σ.length->(∀j,j∉oC ts->σ'[j]? = σ[j]?)->Q σ' H)->hU K ts vs σ H Q
 |[],F,H,σ,ρ,ρ',ds,vs,Q,R,r,e,w=>by
  simp only[cX]at e;split at e
  . cases e;rename_i hd;have:ds=[]:=by simpa using hd
    subst this;simp only[aC]at r;simp only[hU];exact⟨r,w σ R rfl λ_ _=>rfl⟩
  . cases e
 |t::ts,F,H,σ,ρ,ρ',ds,vs,Q,R,r,e,w=>by
  simp only[cX]at e;split at e
  . rename_i d ds';split at e
    . rename_i ρ1 e1;simp only[aC]at r;obtain⟨y,ys,rfl,r1,r2⟩:=r;simp only[hU];refine⟨y,ys,rfl,lQ t R r1 e1 λσ1 R1 l1 k1=>qO ts R1 r2 e λσ2 R2 l2 k2=>w σ2 R2 (l2.trans l1) λj hj=>?_⟩;simp only[oC,aQ0,not_or]at hj;rw[k2 j hj.2,k1 j hj.1]
    . cases e
  . cases e
end
def aHY(hN:X.N.Nodup)(hi:X.N[i]? = some x)(hx:L2.Loc X.env.scope x)(hf:X.fn x=true\/X.env.scope.names.lookup x=some .local):PGw X (.Name x pos) (.nm i):=by unfold PGw;simp only[gOf];exact aC4 hN hi hx hf
def aHZ:iS X [] []:=by unfold iS;simp only[hU];exact aC5
def aH0{es:List Expr}{ts:List Tg}(h1:PGw X e t)(h2:iS X es ts)(hs:jT e=true):iS X (e::es) (t::ts):=by unfold iS;simp only[hU];exact aC6 h1 h2 (by rw[w8 hs];rfl)
def aH1{es:List Expr}(hs:∀e∈es,jT e=true):(assignEach es env).length=es.length/\(assignEach es env).findIdx? (·.1)=none:=by
 induction es with
 |nil=>exact⟨rfl,rfl⟩
 |cons e es ih =>
  obtain⟨h1,h2⟩:=ih λx hx=>hs x (mcm hx);rw[w8 (hs e mcs)];refine⟨by rw[aST,aST,h1],?_⟩
  rw[List.findIdx?_cons];simp[h2]
def aH2{es:List Expr}{ts:List Tg}{k:Nat}(hc:X.calm=true)(h:iS X es ts)(hs:∀e∈es,jT e=true)(hl:es.length=ts.length):PGw X (.Tuple es k pos) (.tp ts):=by have st:=aH1 (env:=X.env) hs;unfold PGw;simp only[gOf];exact aHX (n:=ts.length) hc h (by rw[st.1,hl]) st.2
def aH3(h:PGw X tg t):PGv C X tg (aP t) :=
 ⟨_,h,λF H σ ρ ρ' d v Q R r e w=>lQ t R r e λσ' R' _ _=>w σ' F H (aD.refl _) R'⟩
theorem xA{gt:Rho->Res}(hsl:∀j∈dY t,aE.length<=j){Q:VK}(q:tG (C.at X) (λρ=>dX (gi ρ) ρ aE tgN.length (aP t) gt ge) σ H Q):lK aE tgN.length (tIv (C.at X) gi) (gOf X.K t) (tT (C.nox.at X) gt) (tG (C.nox.at X) λρ=>aZ (ge ρ)) σ H Q:=by
 rw[aS]at q;obtain⟨ρ,F,RS,w⟩:=q;unfold lK;refine⟨ρ,F,RS,?_⟩;cases er:gi ρ with
 |stuck=>rw[er]at w;exact w
 |exc c=>rw[er]at w;exact w
 |ok m d =>
  rw[er]at w;cases d with
  |lst ds =>
   unfold dX at w;rw[Res.thn_ok]at w;dsimp only at w;split at w
   . rename_i hsz;intro J F1 H1 s1 hJ Da hDa;cases et:fG (aP t) gt ge (cW aE ρ++List.replicate tgN.length none) ds with
     |none=>rw[et]at w;exact w.elim
     |some total =>
      rw[et]at w;have hD0:H Da=none:=s1.same.free hDa;have hF1:F1 Da=none:=s1.sub.free hDa;have R0:=aGY aE tgN.length RS;refine⟨λi m ys H'=>m=ds.length-i/\i<=ds.length/\H' Da=some (.lst ys)/\∃F' zs,aF F H F' H'/\aD F1 F'/\F' Da=none/\aC X.K F' zs ys/\zs.length<=i /\
       ∃rest,fG (aP t) gt ge (cW aE ρ++List.replicate tgN.length none) (ds.drop i)=some rest/\total=zs++rest,
       ⟨ds.length,by simp,aRQ _,aV,F1,[],s1.upd hD0 hF1,aD.refl _,hF1,aC.nil,aRG _,total,by simpa using et,rfl⟩,?_⟩
      rintro i m ys H' ⟨rfl,hile,hD,F',zs,st,sF,hFD,rz,hzl,rest,ec,etot⟩;refine⟨hD,?_⟩;by_cases hlt:i<ds.length
      . refine .inr ⟨hJ.go i H' (sF.trans st.sub) hlt,by rw[rz.length];lia,λv H2 y=>?_⟩
        obtain⟨F2,d,ed,s2,rd⟩:=hJ.yld i F' H' v H2 sF st.sub hlt y;have hd:ds.drop i=d::ds.drop (i+1):=by rw[aTO hlt];rw[aTP hlt]at ed;cases ed;rfl
        rw[hd]at ec;unfold fG at ec;have hD2:H2 Da=some (.lst ys):=s2.same _ _ hD;have hF2:F2 Da=none:=s2.new _ hFD (by rw[hD];exact λz=>nomatch z)
        cases eg:aP t d (cW aE ρ++List.replicate tgN.length none)with
        |none=>rw[eg]at ec;cases ec
        |some ρ1 =>
        rw[eg]at ec;dsimp only at ec;have R2:=(R0.step st).step s2;refine lQ t R2 rd eg λσ1 R1 len1 keep1=>?_;refine⟨⟨len1.symm,λj u ej=>?_⟩,ρ1,F2,R1,?_⟩
        . by_cases hj:j∈dY t
          . have:=hsl j hj;rw[aRY (by simpa[dW]using this),aRZ]at ej
            split at ej <;> cases ej
          . rw[keep1 j hj];exact ej
        cases ett:gt ρ1 with
        |stuck=>rw[ett]at ec;cases ec
        |exc c=>rw[ett]at ec;cases ec
        |ok mt dt =>
         cases dt with
         |bl b =>
          rw[ett]at ec;intro F3 H3 s3;have hD3:H3 Da=some (.lst ys):=s3.same _ _ hD2;have hF3:F3 Da=none:=s3.new _ hF2 (by rw[hD2];exact λz=>nomatch z)
          cases b with
          |false=>rw[if_neg aRA];exact⟨ds.length-(i+1),by lia,rfl,hlt,hD3,F3,zs,(st.trans s2).trans s3,(sF.trans s2.fsame).trans s3.fsame,hF3,rz.mono (s2.fsame.trans s3.fsame) _ _,Nat.le_succ_of_le hzl,rest,ec,etot⟩
          |true =>
           rw[if_pos rfl,aS];refine⟨_,F3,R1.step s3,?_⟩;dsimp only at ec;cases ee:aZ (ge ρ1)with
           |stuck=>rw[ee]at ec;cases ec
           |exc c=>rw[ee]at ec;cases ec
           |ok me ye =>
            rw[ee]at ec;dsimp only at ec;have hme:me=.fz:=by
             cases h:ge ρ1 with
             |ok m' d'=>rw[h]at ee;cases m' <;> cases ee <;> rfl
             |exc c=>rw[h]at ee;cases ee
             |stuck=>rw[h]at ee;cases ee
            subst hme;cases er2:fG (aP t) gt ge (cW aE ρ++List.replicate tgN.length none) (ds.drop (i+1))with
            |none=>rw[er2]at ec;cases ec
            |some rest' =>
             rw[er2]at ec;cases ec;intro u F4 H4 s4 ru _;have hD4:H4 Da=some (.lst ys):=s4.same _ _ hD3;have hF4:F4 Da=none:=s4.new _ hF3 (by rw[hD3];exact λz=>nomatch z)
             refine⟨hD4,ds.length-(i+1),by lia,rfl,hlt,aV,F4,zs++[ye],(((st.trans s2).trans s3).trans s4).upd hD0 hF4,((sF.trans s2.fsame).trans s3.fsame).trans s4.fsame,hF4,?_,by simp;lia,rest',er2,by rw[etot];simp⟩
             exact aC.append (rz.mono ((s2.fsame.trans s3.fsame).trans s4.fsame) _ _) (aC.cons ru aC.nil)
         |_=>rw[ett]at ec;cases ec
      . have ei:i=ds.length:=by lia
        subst ei;rw[aTQ]at ec;cases ec;rw[aRT]at etot;subst etot;exact .inl ⟨hJ.stop _ H' (sF.trans st.sub) (aRG _),w (.ref Da) F' H' st ⟨Da,rfl,hFD,ys,hD,rz⟩ λ_ a ea=>by cases ea;exact hD0⟩
   . exact w.elim
  |_=>exact w.elim
def aH4{gt:Rho->Res}(hc:X.calm=true)(hi:PIv C X tg aT gi)(cU:∀y∈scope.names,y.2 ≠ .cell)(dP:scope.kind=.function)(fR:∀y∈scope.names,y.2=.local->scope.names.lookup y.1=some .local)(dQ:∀y∈scope.names,y.2=.free->X.env.kindOf y.1=some .cell\/X.env.kindOf y.1=some .free)(eM:aI.map some=aE.map λi=>X.N[i]?)(fU:∀y∈aI,(y,NameKind.free)∈scope.names)(fT:∀y∈aI,(relabel scope X.env).names.lookup y=some .cell\/(relabel scope X.env).names.lookup y=some .free)(hsl:∀j∈dY t,aE.length<=j)(hg:∀cl A fp s3 H3,PGw (bE X scope (aI++tgN) cl A fp s3 H3) tg t)(hf:∀cl A fp s3 H3,dJ (bE X scope (aI++tgN) cl A fp s3 H3) ifs (tT (C.nox.at X) gt))(he:∀cl A fp s3 H3,PV C.nox (bE X scope (aI++tgN) cl A fp s3 H3) elt ge)(hs:∀x,foldedSetIterable aT X.env x=pure x:=by intro _;rfl):PV C X (.ListComp elt [⟨tg,aT,ifs,0⟩] scope pos) (λρ=>dX (gi ρ) ρ aE tgN.length (aP t) gt ge):=by
 have capLen:aI.length=aE.length:=by simpa using congrArg List.length eM
 refine PE.imp (aGU (aI:=aI) (tgN:=tgN) (gt:=gOf X.K t) (tt:=tT (C.nox.at X) gt) (te:=tG (C.nox.at X) λρ=>aZ (ge ρ)) hc hi cU dP fR dQ eM fU fT
  hg hf (λcl A fp s3 H3=>gJ (he cl A fp s3 H3)) hs) λσ H Q q=>xA hsl q
def aH5(fz:Bool){spos:Pos}{gt:Rho->Res}(hc:X.calm=true)(hi:PIv C X tg aT gi)(cU:∀y∈scope.names,y.2 ≠ .cell)(dP:scope.kind=.function)(fR:∀y∈scope.names,y.2=.local->scope.names.lookup y.1=some .local)(dQ:∀y∈scope.names,y.2=.free->X.env.kindOf y.1=some .cell\/X.env.kindOf y.1=some .free)(eM:aI.map some=aE.map λi=>X.N[i]?)(fU:∀y∈aI,(y,NameKind.free)∈scope.names)(fT:∀y∈aI,(relabel scope X.env).names.lookup y=some .cell\/(relabel scope X.env).names.lookup y=some .free)(hsl:∀j∈dY t,aE.length<=j)(hg:∀cl A fp s3 H3,PGw (bE X scope (aI++tgN) cl A fp s3 H3) tg t)(hf:∀cl A fp s3 H3,dJ (bE X scope (aI++tgN) cl A fp s3 H3) ifs (tT (C.nox.at X) gt))(he:∀cl A fp s3 H3,PV C.nox (bE X scope (aI++tgN) cl A fp s3 H3) elt ge)(hN:X.N.Nodup)(hx:X.N[i]? = some x)(hk:X.env.scope.names.lookup x=some .local)(hsw:swapsWith (.ListComp elt [⟨tg,aT,ifs,0⟩] scope pos) (some (.Name x pos')) spos.line X.env=pure true)(hs:∀x,foldedSetIterable aT X.env x=pure x:=by intro _;rfl):PSv C X (.Assign [.Name x pos'] (.ListComp elt [⟨tg,aT,ifs,0⟩] scope pos) spos) (λρ=>eU ρ i (if fz=true then aZ (dX (gi ρ) ρ aE tgN.length (aP t) gt ge)else dX (gi ρ) ρ aE tgN.length (aP t) gt ge)):=by
 refine PS.imp (aGV (aI:=aI) (tgN:=tgN) (gt:=gOf X.K t) (tt:=tT (C.nox.at X) gt) (te:=tG (C.nox.at X) λρ=>aZ (ge ρ)) hc hi cU dP fR dQ eM fU fT
  hg hf (λcl A fp s3 H3=>gJ (he cl A fp s3 H3)) hN hx hk hsw hs) λE σ H q=>xA hsl ?_
 cases fz with
 |false=>exact qI q
 |true=>have q:=qI q;unfold nH at q;rw[aS]at q ⊢;obtain⟨ρ,F,R,w⟩:=q;exact⟨ρ,F,R,aR.frz w⟩
def qP:D->Option Str
 |.str z=>some z
 |.int i=>if fX i=true then some (bU i)else none
 |_=>none
def oD(r:Res):Res:=r.thn λ_ d=>match qP d with|some z=>.ok .fz (.str z)|none=>.stuck
theorem aH6(he:PV C X e g):PV C X (.FormattedValue e (-1) none pos) (λρ=>oD (g ρ)):=by
 intro aA s σ H Q I q;rw[aS]at q;obtain⟨ρ,F,R,w⟩:=q;refine FormattedValue_plain (thn (he aA s σ H (λv H1=>∃F1 m d,aF F H F1 H1/\Rp X.K F1 H1 m d v/\g ρ=.ok m d) I ?_) λu s1 ⟨v,H1,I1,rv,F1,m,d,st1,rp,eg⟩=>?_)
 . rw[aS];refine⟨ρ,F,R,?_⟩;cases er:g ρ with
   |stuck=>rw[er]at w;exact w
   |exc c=>rw[er]at w;exact w
   |ok m d=>exact λv F1 H1 s1 r1 _=>⟨F1,m,d,s1,r1,rfl⟩
 . rw[eg]at w;have w1:aR (C.at X) F1 H1 σ (match qP d with|some z=>.ok .fz (.str z)|none=>.stuck) Q:=aR.step st1 w
   cases d with
   |str z=>obtain⟨rfl,hz,hk⟩:=rp.str;obtain⟨t,rfl⟩:=rv;exact formatField_str (λt' tk=>⟨.str z,H1,I1.tok _,⟨_,rfl⟩,w1 _ F1 H1 (.refl st1.sub) (eO ⟨hz,hk⟩) (by nofun)⟩) hz
   |int i =>
    cases rp.int;obtain⟨t,rfl⟩:=rv;unfold qP at w1;dsimp only at w1;split at w1
    . rename_i z hz;split at hz
      . rename_i hs;cases hz;have hl:i.natAbs.log2<1920:=aTD hs;have h1:(bU i).length<=1921:=int_text_len_1921 hl;have hzz:sizeLine=16777216:=aRK;exact formatField_int_small hl ⟨.str (bU i),H1,I1.tok _,⟨_,rfl⟩,w1 _ F1 H1 (.refl st1.sub) (eO ⟨by lia,w6 i⟩) (by nofun)⟩
      . cases hz
    . exact w1.elim
   |_=>exact w1.elim
def eW(out:Str):List (Rho->Res)->Rho->Res
 |[],_=>if out.length<=sizeLine then .ok .fz (.str out)else .stuck
 |g::gs,ρ=>(g ρ).thn λ_ d=>match d with
  |.str y=>if(out++y).length<=sizeLine then eW (out++y) gs ρ else .stuck
  |_=>.stuck
inductive PVL(C:Cw)(X:Cx):List Expr->List (Rho->Res)->Prop where
 |nil:PVL C X [] []
 |cons {e:Expr}{g:Rho->Res}{es:List Expr}{gs:List (Rho->Res)} (h:PV C X e g) (r:PVL C X es gs):PVL C X (e::es) (g::gs)
theorem xB{C:Cw}{X:Cx}:∀{es:List Expr}{gs:List (Rho->Res)},PVL C X es gs->∀(out:Str) (aA:LAO) (s:aW3) (σ:L2.St) (H F:Hp) (ρ:Rho) (Q:VK),PyData.strOk out=true->Inv X aA σ H s->aN X.K C.F0 C.H0 F H σ ρ->aR (C.at X) F H σ (eW out gs ρ) Q->wpAny (model X.prog X.w) X.A (joinParts out (evalEach es X.env)) (EP X aA σ Q) X.xe s
 |_,_,.nil,out,aA,s,σ,H,F,ρ,Q,hk,I,R,w=>by
  unfold eW at w;split at w
  . rename_i hl;exact joinParts_nil ⟨.str out,H,I.tok _,⟨_,rfl⟩,w _ F H (.refl R.sub) (eO ⟨hl,hk⟩) (by nofun)⟩ hl
  . exact w.elim
 |_,_,.cons (e:=e) (g:=g) (gs:=gs) h r,out,aA,s,σ,H,F,ρ,Q,hk,I,R,w=>by
  refine joinParts_cons (thn (h aA s σ H (λv H1=>∃F1 m d,aF F H F1 H1/\Rp X.K F1 H1 m d v/\g ρ=.ok m d) I ?_) λu s1 ⟨v,H1,I1,rv,F1,m,d,st1,rp,eg⟩=>?_)
  . rw[aS];refine⟨ρ,F,R,?_⟩;unfold eW at w;cases er:g ρ with
    |stuck=>rw[er]at w;exact w
    |exc c=>rw[er]at w;exact w
    |ok m d=>exact λv F1 H1 s1 r1 _=>⟨F1,m,d,s1,r1,rfl⟩
  . unfold eW at w;rw[eg]at w;cases d with
    |str y =>
     have w1:aR (C.at X) F1 H1 σ (if(out++y).length<=sizeLine then eW (out++y) gs ρ else .stuck) Q:=aR.step st1 w;split at w1
     . rename_i hl;obtain⟨rfl,hz,hy⟩:=rp.str;obtain⟨t,rfl⟩:=rv;exact⟨hl,xB r (out++y) aA s1 σ H1 F1 ρ Q (nX hk hy) I1 (R.step st1) w1⟩
     . exact w1.elim
    |_=>exact(show False from w).elim
def aH7{e1 e2:Expr}{es:List Expr}{gs:List (Rho->Res)}(h:PVL C X (e1::e2::es) gs):PV C X (.JoinedStr (e1::e2::es) pos) (eW Str.empty gs):=by intro aA s σ H Q I q;rw[aS]at q;obtain⟨ρ,F,R,w⟩:=q;exact JoinedStr_many (xB h Str.empty aA s σ H F ρ Q (by decide +kernel) I R w)
inductive LtI(A:aW4)(s:aW3):List aW2->List aW2->Bool->Prop where
 |nn:LtI A s [] [] false
 |nc {w:aW2}{ws:List aW2}:LtI A s [] (w::ws) true
 |cn {v:aW2}{vs:List aW2}:LtI A s (v::vs) [] false
 |eq {v w:aW2}{vs ws:List aW2}{b:Bool} (h:SeqAt.EqAt A s v w true) (r:LtI A s vs ws b):LtI A s (v::vs) (w::ws) b
 |ne {v w:aW2}{vs ws:List aW2}{b:Bool} (h:SeqAt.EqAt A s v w false) (l:∀(prog:aW6) (w':aW5) (E:VSP) (Q:VSP),Q (.bool b) s->wpAny (model prog w') A (richCompare .Lt v w) Q E s):LtI A s (v::vs) (w::ws) b
section
open PySem.SeqAt
open PySem.AutoSeq1 (wpAny_loadPart')
open PySem.MeetsSeq PySem.MeetsSeq2 PySem.MeetsSeq3
theorem aH8(l b:Addr)(items items2:Array aW2)(n n2:Nat)(dd dd2:Option Addr)(sl sl2:Array (Option aW2))(r:Bool):Meets (Builtin.«tuple.__lt__» ⟨[.ref l,.ref b],[]⟩) (λA R s=>s.heap.get? l=some { cls:=.type "tuple", dict:=dd,data:=.seq items n,slots:=sl }/\s.heap.get? b=some { cls:=.type "tuple", dict:=dd2,data:=.seq items2 n2,slots:=sl2 }/\LtI A.in1 s items.toList items2.toList r/\R (.ok (.ret (.bool r))) s) :=
 .of_wp λprog w A R s h=>by
  obtain⟨hp,g,d,tk,os⟩:=s;obtain⟨hl,hb,hi,h⟩:=h;have f2:=AutoSeq1.sub_tuple_tuple
  wp_walk using wpAny_loadPart' hl,wpAny_loadPart' hb,aS4 _ (λrest b s'=>b.1=none/\s'=⟨hp,g,d,tk,os⟩/\∃(vs ws:List aW2),rest=vs.zip ws /\
   LtI A.in1 ⟨hp,g,d,tk,os⟩ vs ws r/\vs.length+items2.size=ws.length+items.size) _
  case turn =>
   rintro⟨y,x⟩ rest b s' ⟨hb',rfl,vs,ws,hz,hvi,hlen⟩;cases hvi with
   |nn=>rw[List.zip_nil_left]at hz;cases hz
   |nc=>rw[List.zip_nil_left]at hz;cases hz
   |cn=>rw[List.zip_nil_right]at hz;cases hz
   |eq he hr =>
    rw[aT3]at hz;injection hz with hyx hrest
    injection hyx with hy hx
    subst hy hx;simp only[aST]at hlen;refine aRD (he prog w _ _ ?_)
    wp_walk
    exact⟨rfl,rfl,_,_,hrest,hr,by lia⟩
   |ne he hr =>
    rw[aT3]at hz;injection hz with hyx hrest
    injection hyx with hy hx
    subst hy hx;refine aRD (he prog w _ _ ?_);have hri:=hr prog w
    wp_walk using hri
    exact⟨_,rfl,by simpa using h⟩
  case fin =>
   rintro⟨b1,b2⟩ s' ⟨hb',rfl,vs,ws,hz,hvi,hlen⟩;simp only at hb';subst hb';have hv:r=decide (items.size<items2.size):=by
    cases hvi with
    |nn=>simp only[aSU]at hlen;exact(aQL (by lia)).symm
    |nc=>simp only[aSU,aST]at hlen;exact(aSS (by lia)).symm
    |cn=>simp only[aSU,aST]at hlen;exact(aQL (by lia)).symm
    |eq he hr=>rw[aT3]at hz;cases hz
    |ne he hr=>rw[aT3]at hz;cases hz
   rw[hv]at h
   wp_walk
   exact⟨_,rfl,by simpa[Builtin.Tuple.tupleCompareSizes]using h⟩
  case h=>exact⟨rfl,rfl,items.toList,items2.toList,rfl,hi,by simp[Nat.add_comm]⟩
end
section
variable {A:aW4}{E:VSP}
def aH9{l:Addr}{items2:Array aW2}{r:Bool}{Q:VSP}(hl:IsTup s.heap l items)(hb:IsTup s.heap b items2)(hi:LtI (A.in1) s items.toList items2.toList r)(hu:A.units<cLine)(h:Q (.bool r) s):wpAny (model prog w) A (compareOp .Lt (.ref l) (.ref b)) Q E s:=by
 obtain⟨⟨cls,dd,data,sl⟩,ho,hc,n,hd⟩:=id hl;obtain⟨⟨cls2,dd2,data2,sl2⟩,ho2,hc2,n2,hd2⟩:=id hb;simp only at hc hd hc2 hd2;subst hc hd hc2 hd2;exact richCompare_meets_room (op:=.Lt) ⟨_,ho,rfl⟩ ⟨_,ho2,rfl⟩ PySem.F.slot_tuple_lt PySem.F.entry_tuple_lt (PySem.F.args_tuple_lt_2 _ _) (aH8 l b items items2 n n2 dd dd2 sl sl2 r)
  ⟨ho,ho2,hi,show Value.bool r≠Value.notImplemented/\Q (.bool r) s from⟨(λx=>nomatch x),h⟩⟩ hu
end
def jU:List (Md×D)->Option (Md×D):=λxs=>match xs with
 |[(_,.str z)]=>if z.length<=640 then(PySem.intText? z).map λn=>(.fz,.int n)else none
 |_=>qM xs
def aIA:dU X (.type "int") jU:=by
 obtain⟨r,h1,h2⟩:=aHQ (X:=X);refine⟨λxs H Q=>r xs H Q\/∃z n,xs=[.str z]/\z.length<=640/\PySem.intText? z=some n/\Q (.int n) H,?_,λF H xs vs k d Q s rx e w=>?_⟩
 . intro aA s σ H xs us Q I rr h;rcases h with h|⟨z,n,rfl,hl,hn,q⟩
   . exact h1 aA s σ H xs us Q I rr h
   . obtain⟨u,rfl,t,rfl⟩:=cE rr;exact W.KIN.call_text hn hl ⟨.int n,H,I.tok _,⟨_,rfl⟩,q⟩
 . unfold jU at e;split at e
   . rename_i m z;split at e
     . rename_i hl;cases en:PySem.intText? z with
       |none=>rw[en]at e;cases e
       |some n=>rw[en]at e;cases e;obtain⟨v,rfl,r0⟩:=rx.one;obtain⟨rfl,_⟩:=r0.str;exact .inr ⟨z,n,rfl,hl,en,w _ F H (.refl s) (dS _) (by nofun)⟩
     . cases e
   . exact .inl (h2 F H xs vs k d Q s rx e w)
section
open PySem.SeqAt
open PySem.AutoSeq1 (wpAny_loadPart')
open PySem.MeetsSeq PySem.MeetsSeq2 PySem.MeetsSeq3
variable {A:aW4}{E:VSP}
end
def aIB{F:Hp}{m:Md}(h:Rp K F H m (.tup ds) v):∃a xs,v=.ref a/\SqT K F a xs/\aC K F ds xs:=by
 cases m with
 |fz=>exact(show aB K F (.tup ds) v from h) |> λh=>by simp only[aB]at h;exact h
 |fr=>obtain⟨_,_,_,q⟩:=h;exact q.elim
 |bo=>obtain⟨_,_,_,q⟩:=h;exact q.elim
open PySem.AutoSeq1 (wpAny_loadPart')
section
variable {A:aW4}{E:VSP}
end
section
variable {elts:List Expr}{cx:Nat}
end
open PySem.Calls PySem.W
section
variable {A:aW4}{E:VSP}{x D:Addr}{ox:Obj}{od:Option Obj}
def XAt(h:Heap)(x:Addr)(ox:Obj)(D:Addr):Prop:=h.get? x=some ox/\ox.cls=.ref D
structure XCls(K:Fg)(D:Addr):Prop where
 ga:W.findIn K (.ref D) "__getattribute__" = some (some (.builtin "BaseException.__getattribute__"))
 gn:W.findIn K (.ref D) "__getattr__" = some none
 ca:W.findIn K (.ref D) "__class__" = some (some (.builtin "object.__class__"))
 bx:W.mroIn K D (.type "BaseException")=some true
 ob:W.mroIn K D (.type "object")=some true
 hn:W.specialIn K (.builtin "object.__class__") "__get__" = some (some (.builtin "getset_descriptor.__get__"))
 tk:W.takesIn K (.builtin "object.__class__")=some true
end
open PySem.Calls
structure Fly(P:aW6)(w:aW5)(outer:List Env)(H:Hp)(s:aW3)(H1:Hp)(B hp:Heap):Prop where
 un:Un (frs outer) [] H H1 s.heap hp
 ok:HOk P w H1 hp
 kb:∀b o,hp.get? b=some o->s.heap.get? b≠none->b∉frs outer->B.get? b=some o
 kh:∀b u,H1 b=some u->∃o,hp.get? b=some o/\B.get? b=some o
 fr:∀b∈frs outer,H b=none/\∃o,s.heap.get? b=some o/\∀vs,o.data ≠ .fields vs
section
variable  {H1:Hp}{B:Heap}
def gM:b∉([]:List Addr):=by simp
theorem Fly.slots(f:Fly P w outer H s H1 B hp)(up:hp.UpToSlots h')(hb:b∈frs outer):∃o sl sl',s.heap.get? b=some o/\hp.get? b=some {o with slots:=sl}/\h'.get? b=some {o with slots:=sl'}:=by obtain⟨hn,o,e,nf⟩:=f.fr b hb;obtain⟨sl,e1⟩:=f.un.slot b o e hn hb gM;obtain⟨sl',e2⟩:=up b _ e1 nf;exact⟨o,sl,sl',e,e1,e2⟩
def Fly.on(f:Fly P w outer H s H1 B hp)(st:B.StaysIn h')(up:hp.UpToSlots h'):Fly P w outer H s H1 B h' where
 un:={
  keep:=λb o e n hb _=>st b o (f.kb b o (f.un.keep b o e n hb gM) (by rw[e];exact λz=>nomatch z) hb)
  slot:=λb o e n hb _=>by obtain⟨o',sl,sl',e0,_,e2⟩:=f.slots up hb;rw[e]at e0;cases e0;exact⟨sl',e2⟩
  free:=f.un.free
  there:=λb o e _=>by
   by_cases hb:b∈frs outer
   . obtain⟨o',sl,sl',e0,_,e2⟩:=f.slots up hb;exact⟨_,e2⟩
   . obtain⟨o',e1⟩:=f.un.there b o e gM;exact⟨o',st b o' (f.kb b o' e1 (by rw[e];exact λz=>nomatch z) hb)⟩
  tups:=f.un.tups
  frzs:=f.un.frzs
  tbls:=f.un.tbls }
 ok := fun a o e => (f.ok a o e).stay (fun b u hb q => by
     have:∃u',H1 b=some u':=by
      rcases hb with rfl|hb
      . exact⟨o,e⟩
      . exact⟨_,hb⟩
     obtain⟨u',eu⟩:=this;obtain⟨o',e1,e2⟩:=f.kh b u' eu;rw[q]at e1;cases e1;exact st b u e2) (λ_ q=>q) λ_ _ q=>q
 kb:=λb o e ns hb=>by
  cases e0:s.heap.get? b with
  |none=>exact absurd e0 ns
  |some o0=>obtain⟨o',e1⟩:=f.un.there b o0 e0 gM;have e2:=f.kb b o' e1 ns hb;have e3:=st b o' e2;rw[e]at e3;cases e3;exact e2
 kh:=λb u e=>by obtain⟨o,_,e2⟩:=f.kh b u e;exact⟨o,st b o e2,e2⟩
 fr:=f.fr
end
def CX1(P:aW6)(w:aW5):CXT:=λouter H s E ev s'=>∃(e C:Addr) (a0:aW2) (H1:Hp) (B:Heap),
 ev=.ref e/\s'.os=s.os/\AllBare s'.gens/\Heap.FlyingW B outer e (.ref C) a0 s'.heap/\Fly P w outer H s H1 B s'.heap/\E (.ref C) none H1
section
variable  {H1:Hp}{B:Heap}{E:XK}
def aIC(I:Inv X aA σ H s):∀b∈frs X.stack,H b=none/\∃o,s.heap.get? b=some o/\∀vs,o.data ≠ .fields vs:=λb hb =>
 ⟨I.stkFree b hb,(I.stack.mem hb).2⟩
def Fly.inv(I:Inv X aA σ H s)(f:Fly X.prog X.w X.stack H s H1 B s'.heap)(ho:s'.os=s.os)(hg:AllBare s'.gens):Inv X aA σ H1 s' :=
 Inv.call' (ch:=[]) I ho f.un f.ok hg (λb z=>absurd z gM)
def Fly.out(I:Inv X aA σ H s)(f:Fly X.prog X.w X.stack H s H1 B s'.heap)(ho:s'.os=s.os)(hg:AllBare s'.gens)(hx:X.ex=[])(hs:X.stack=X.env::X.outer)(hf:X.env.frame=some X.env.locals)(st:B.StaysIn h')(up:s'.heap.UpToSlots h'):Fly X.prog X.w X.outer X.H₀ X.s₀ H1 B h':=by
 have I1:=f.inv I ho hg;have f1:=f.on st up;have ub:=I1.base;rw[hx]at ub;have old:∀b o,X.s₀.heap.get? b=some o->∃o',s.heap.get? b=some o':=λb o e=>I.base.there b o e (by rw[hx];exact gM)
 have nl:∀b o,X.s₀.heap.get? b=some o->b≠X.env.locals:=λb o e z=>absurd (aQQ e) (by rw[z];exact aTW.mpr I.ok.above)
 have sub:∀b,b∉frs X.outer->b≠X.env.locals->b∉frs X.stack:=λb h1 h2 z=>by
  rcases aQZ.mp (I.stkSub b z)with q|q
  . exact h2 q
  . exact h1 q
 have sup:∀b,b∈frs X.outer->b∈frs X.stack:=λb hb=>by rw[hs];unfold frs;rw[aQY,hf];exact mcm hb
 refine⟨⟨λb o e n hb _=>?_,λb o e n hb _=>?_,ub.free,λb o e _=>?_,ub.tups,ub.frzs,ub.tbls⟩,f1.ok,λb o e ns hb=>?_,f1.kh,λb hb=>?_⟩
 . have e1:=ub.keep b o e n hb gM;obtain⟨o',e0⟩:=old b o e;exact st b o (f.kb b o e1 (by rw[e0];exact λz=>nomatch z) (sub b hb (nl b o e)))
 . obtain⟨sl,e1⟩:=ub.slot b o e n hb gM;obtain⟨o',sl1,sl2,e0,e1',e2⟩:=f.slots up (sup b hb);have q:=aQO (e1.symm.trans e1');refine⟨sl2,?_⟩;rw[e2];obtain⟨c1,d1,t1,l1⟩:=o;obtain⟨c2,d2,t2,l2⟩:=o';simp only[Obj.mk.injEq]at q;obtain⟨rfl,rfl,rfl,_⟩:=q;rfl
 . obtain⟨o',e0⟩:=old b o e;exact f1.un.there b o' e0 gM
 . cases e0:X.s₀.heap.get? b with
   |none=>exact absurd e0 ns
   |some o0=>obtain⟨o',e1⟩:=old b o0 e0;exact f1.kb b o e (by rw[e1];exact λz=>nomatch z) (sub b hb (nl b o0 e0))
 . exact⟨I.ok.frf b hb,(I.ok.funs.mem hb).2⟩
def lR(h:Heap)(l:List Env):Heap:=W.hideAll h (frs l)
def Fly.raise(I:Inv X aA σ H s)(hx:X.ex=[])(hs:X.stack=X.env::X.outer)(hf:X.env.frame=some X.env.locals)(st:(lR s.heap X.stack).StaysIn h')(up:s.heap.UpToSlots h'):Fly X.prog X.w X.outer X.H₀ X.s₀ H (lR s.heap X.stack) h':=by
 have f:Fly X.prog X.w X.stack H s H (lR s.heap X.stack) s.heap :=
  ⟨Un.refl,I.hok,λb o e _ hb=>W.hideAll_get _ e hb,λb u e=>by
   have hn:b∉frs X.stack:=λz=>by rw[I.stkFree b z]at e;cases e
   have:∃o,s.heap.get? b=some o:=by
    have:=I.hok b u e;cases u with
    |lst xs=>obtain⟨_,_,_,_,e⟩:=this;exact⟨_,e⟩
    |tup xs=>obtain⟨_,_,_,o,e,_⟩:=this;exact⟨_,e⟩
    |dK kvs=>obtain⟨_,_,_,_,o,_,_,e,_⟩:=this;exact⟨_,e⟩
    |dT kvs=>obtain⟨_,_,_,_,o,_,_,e,_⟩:=this;exact⟨_,e⟩
    |dN kvs=>obtain⟨_,_,_,_,o,_,_,e,_⟩:=this;exact⟨_,e⟩
    |set S n=>obtain⟨o,_,_,_,e,_⟩:=this;exact⟨_,e⟩
    |ins C dx fs=>obtain⟨_,_,_,e,_⟩:=this;exact⟨_,e⟩
    |own y=>obtain⟨_,e⟩:=this;exact⟨_,e⟩
    |xd fs=>obtain⟨_,⟨_,_,_,e,_⟩,_⟩:=this;exact⟨_,e⟩
    |rng lo hi=>obtain⟨_,_,_,e⟩:=this;exact⟨_,e⟩
    |frz ob u=>obtain⟨e,_⟩:=this;exact⟨_,e⟩
    |tbl ps=>obtain⟨_,_,_,e,_⟩:=this;exact⟨_,e⟩
    |crec q=>obtain⟨_,_,_,e,_⟩:=this;exact⟨_,e⟩
    |met f y=>exact⟨_,this⟩
    |ext φ=>obtain⟨_,⟨_,e⟩,_⟩:=this;exact⟨_,e⟩
   obtain⟨o,eo⟩:=this;exact⟨o,eo,W.hideAll_get _ eo hn⟩,aIC I⟩
 exact f.out I rfl I.bare hx hs hf st up
end
noncomputable def vErr:List aW2:=[.type "ValueError", .type "Exception", .type "BaseException", .type "object"]
def xC(K:Fg)(C:Addr):Prop:=W.excIn K C vErr "ValueError.__new__" = true
def RzOk(C:Cw)(X:Cx):Prop:=∀(aA:LAO) (σ:L2.St) (H:Hp) (s:aW3) (c:Str) (Cc:Addr) (vs:List aW2) (h':Heap) (e:Addr),Inv X aA σ H s->X.mg c=some (.ref Cc)->C.EE c σ H ->
 Heap.MadeExcOf s.heap h' e (.ref Cc) vs->X.xe (.ref e) {s with heap:=h'}
section
variable {es:List Expr}{np:Pos}
structure FnCx(X:Cx):Prop where
 hx:X.ex=[]
 hs:X.stack=X.env::X.outer
 hf:X.env.frame=some X.env.locals
end
section
variable {N:List Str}{f:Addr}{A:aW4}{E:XK}
def fnCx:FnCx (cK (CX1 P w) P w K mg base N qual scope f cdv A outer s H E):=⟨rfl,rfl,rfl⟩
def iT(mg:SOV)(E:XK):XE:=λc _ H'=>∀u,mg c=some u->E u none H'
def xD(hE:C.EE=iT mg E):XOk (CX1 P w) C (cK (CX1 P w) P w K mg base N qual scope f cdv A outer s H E):=by intro aA σ H1 s1 ev s' I h;obtain⟨e,Cc,a0,H2,B,rfl,ho,hg,fl,fy,c,hm,he⟩:=h;rw[hE]at he;have I0:=I.ok.frames;refine wpAny_leaves_onW I0 rfl fl λh' fl' up=>?_;exact⟨e,Cc,a0,H2,B,rfl,ho.trans I.os,hg,fl',fy.out I ho hg rfl rfl rfl fl'.1 up,he _ hm⟩
def xE(hE:C.EE=iT mg E):RzOk C (cK (CX1 P w) P w K mg base N qual scope f cdv A outer s H E):=by
 intro aA σ H1 s1 c Cc vs h1 e I hm he made;rw[hE]at he;have I0:=I.ok.frames;have hin:∀env∈(cK (CX1 P w) P w K mg base N qual scope f cdv A outer s H E).stack,∀a,env.frame=some a->a∈frs (cK (CX1 P w) P w K mg base N qual scope f cdv A outer s H E).stack:=λenv he a ha=>aRI.mpr ⟨env,he,ha⟩;have FF:s1.heap.FunFrames (lR s1.heap (cK (CX1 P w) P w K mg base N qual scope f cdv A outer s H E).stack) _:=W.funFrames_hide I.stack hin;have st0:(lR s1.heap (cK (CX1 P w) P w K mg base N qual scope f cdv A outer s H E).stack).StaysIn s1.heap:=λb o q=>W.of_hideAll _ q;refine wpAny_leaves_madeW (s:={s1 with heap:=h1}) I0 rfl st0 FF made λh' t fl _ _ up=>?_
 have up0:s1.heap.UpToSlots h':=(Heap.UpToSlots.of_keeps made.keeps).trans up;exact⟨e,Cc,.ref t,H1,_,rfl,I.os,I.bare,fl,Fly.raise I rfl rfl rfl fl.1 up0,he _ hm⟩
end
structure HX where
 cls:Str
 slot:Option Nat
 g:Rho->aG
def qQ(K:Fg)(mg:SOV)(xt:Str->Str->Option Bool):Prop:=∀c x b,xt c x=some b->∃C C2,W.nsIn K mainGlobals c=some (some (.ref C))/\mg c=some (.ref C)/\mg x=some (.ref C2) /\
 W.mroIn K C2 (.type "BaseException")=some true/\W.typeIn K (.ref C2)=some (.type "type")/\W.mroIn K C (.ref C2)=some b
section
variable {e:Addr}
end
section
variable  {H1:Hp}{s0:aW3}{e Cc:Addr}{a0:aW2}{B:Heap}
end
section
variable {D:fE}{hs:List ExceptHandler}{hx:List HX}{xt:Str->Str->Option Bool}
end
def oE(mg:SOV)(n:Str)(cv:V):Prop:=(∃C,mg n=some (.ref C)/\cv=.ref C)\/(mg n=none/\n ≠ "__name__" /\ ∃T,bootBuiltins n=some (.type T)/\cv=.ty T)
def xF:V->aW2|.ref a=>.ref a|.ty T=>.type T|_=>.none
def qR(K:Fg)(mg:SOV)(xis:Str->Str->Option Bool):Prop:=∀c n b,xis c n=some b->∃C cv,W.nsIn K mainGlobals c=some (some (.ref C))/\XCls K C/\oE mg n cv/\W.kitOne K (.ref C) (xF cv)=some b
section
variable  {tp:Pos}{n:Str}{xis:Str->Str->Option Bool}
end
def aID{f:Addr}{N:List Str}{k:Nat}{g:Rho->aG}(F:Fun K x qual st f fd)(S:lA N ps (cV st))(hbody:∀(C:Cw) (cdv:aW2),W.codeIn K cdv qual=true->∀(A:aW4) (outer:List Env) (s:aW3) (H:Hp) (E:XK),C.EE=iT mg E->bS k (A.deeper (envOfC qual (cV st) s.heap.objs.size f cdv))->PBv C (cK (CX1 P w) P w K mg base N qual (cV st) f cdv A outer s H E) (iK st) g):bT P w K mg base (CX1 P w) (k+1) f fd ps (spV K mg ps.length (phi ps.length N.length g)):=by
 obtain⟨oc,od,kV,doc,pm,an,cdv,ct,osl,rfl,lk,hcd⟩:=F.ex;refine vK lk hcd S (λvs H Q E h=>h.1) λA outer s H vs Q E hr h=>?_;obtain⟨hl,F0,ds,sF,rl,h⟩:=h;have hl':ds.length=ps.length:=by rw[<- rl.length];exact hl
 let C:Cw:=⟨K,F0,H,iT mg E⟩
 refine⟨_,hbody C cdv hcd A outer s H E rfl hr,hO N.length ds,F0,aG4 sF rl,?_⟩;unfold phi at h;rw[if_pos hl']at h;cases er:g (hO N.length ds)with
 |nx ρ=>rw[er]at h;exact λσ' F' H' _ R=>h.2 .non F' H' R.st wD (by nofun)
 |rt m d=>rw[er]at h;exact λv F' H' s rp fr=>h.2 v F' H' s rp fr
 |bk ρ=>rw[er]at h;exact h.elim
 |ct ρ=>rw[er]at h;exact h.elim
 |exc c ρ=>rw[er]at h;exact λσ' F' H' _ R u hu=>h F' H' u R.st hu
 |stuck=>rw[er]at h;exact h.elim
noncomputable def dM(ρ:Rho)(i:Nat)(r:Res):aG:=match ρ[i]? with
 |some (some (true,.lst ds))=>(aZ r).thS ρ λm d=>match m with|.fz=>if ds.length<sizeLine then .nx (ρ.set i (some (true,.lst (ds++[d]))))else .stuck|_=>.stuck
 |_=>.stuck
def aIE{r:Res}{m:Md}{d:D}(h:aZ r=.ok m d):m=.fz:=by
 cases r with
 |ok m' d'=>cases m' <;> cases h <;> rfl
 |exc c=>cases h
 |stuck=>cases h
def aIF(i:Nat)(hv:PE X (.Name x p) (bX i))(he:PV C X e g)(hs:bQ e=true)(hline:ap.endLine=cp.line):PSv C X (.Expr (.Call (.Attribute (.Name x p) "append" ap) [e] [] cp) pos) (λρ=>dM ρ i (g ρ)):=by
 have h1 := nS (X := X) (o := .Name x p) (e := e) (es := []) (apos := ap) (cpos := cp) aT4 PySem.F.slot_list_append PySem.F.type_list_append vT hv (dE (gJ he) eN (aW hs)) (fJ rfl) (by
     rw[fH _ _ (λy hy=>by simp only[aQZ,aT5,aT6]at hy;subst hy;exact hs)];rfl) (aRN.mpr hline) (aW hs) rfl
 refine PS.imp (k5 h1) λE σ H q=>?_;obtain⟨ρ,F,R,w⟩:=q;dsimp only at w;unfold pW tBM;cases e0:ρ[i]? with
 |none=>unfold dM at w;rw[e0]at w;exact w.elim
 |some o =>
  cases o with
  |none=>unfold dM at w;rw[e0]at w;exact w.elim
  |some bd =>
   obtain⟨b,d0⟩:=bd;cases b with
   |false=>unfold dM at w;rw[e0]at w;exact w.elim
   |true =>
    cases d0 with
    |lst ds =>
     unfold dM at w;rw[e0]at w;dsimp only at w;obtain⟨v0,ev0,rp0,hn0⟩:=R.slot i true _ e0;obtain⟨a,ea,hfa,xs,hh,rl⟩:=rp0;subst ea;refine⟨.ref a,ev0,.inl ⟨rfl,xs,SqL.of hh⟩,?_⟩;unfold jL;refine iP R w λm d v F' H' w' s R' rp fr=>?_;cases m with
     |fr=>exact(show False from w').elim
     |bo=>exact(show False from w').elim
     |fz =>
     dsimp only at w';split at w'
     . rename_i hl;have hh':H' a=some (.lst xs):=s.same _ _ hh;refine⟨a,xs,v,rfl,rfl,hh',by rw[rl.length];exact hl,?_⟩
       exact w' σ F' _ (aD.refl _) (R'.mut e0 ev0 ⟨_,aV,aC.append (rl.mono s.fsame _ _) (aC.cons rp aC.nil)⟩)
     . exact w'.elim
    |_=>unfold dM at w;rw[e0]at w;exact w.elim
def Hld(B:Heap)(l:List Env)(e:Addr)(cls a0:aW2)(h:Heap):Prop:=B.StaysIn h/\B.get? e=none/\h.FunFrames B l/\∃fl,h.TracedAtW B e cls a0 fl
section
variable {M:Model}{A:aW4}{E:VSP}{B:Heap}{L e:Addr}{cls a0:aW2}{Q:Unit->aW3->Prop}
def aIG(hfr:A.frames=some (env::outer))(hf:env.frame=some L)(hh:Hld B (env::outer) e cls a0 s.heap)(hQ:∀h',Heap.HeldW B (env::outer) e cls a0 L h'->s.heap.UpToSlots h'->Q () {s with heap:=h'}):wpAny M A (noteFrame (.ref e) env) Q E s:=by
 obtain⟨k1,k2,k3,fl,ht⟩:=hh;by_cases hl:fl=rawInt L
 . subst hl;exact wpAny_noteFrame_againW hf ht (hQ s.heap ⟨k1,k2,k3,ht⟩ (Heap.UpToSlots.refl _))
 obtain⟨oe,xs,T,oT,ys,q1,⟨q2,q3⟩,q4,q5,q6,q7,q8,q9,q10⟩:=ht;subst q2;unfold noteFrame;simp only[hf];refine aRD (aSC q1 q4 q5 ?_);have n1:(Value.ref T != Value.none)=true:=by simp
 have n2:¬ ((fl==rawInt L)=true):=by rw[aRN];exact hl
 rw[if_pos n1];refine aRD (aSC q8 q9 q10 ?_);rw[if_neg n2];obtain⟨lt3,_⟩:=aQV.mp q10;obtain⟨lt1,_⟩:=aQV.mp q5;refine aRD (aT7 q8 q9 lt3 ?_);generalize hg:s.heap.update T (Obj.mapFields λz=>z.setIfInBounds 3 Value.none)=g;have oth:∀b,b≠T->g.get? b=s.heap.get? b:=λb hb=>by rw[<- hg];exact aSP _ _ (Ne.symm hb)
 have plain:∀b o,s.heap.get? b=some o->(∀z,o.data ≠ .fields z)->g.get? b=some o:=λb o w1 w2=>by rw[oth b (by rintro rfl;rw[q8]at w1;cases w1;exact w2 ys q9)];exact w1
 have inB:∀b o,B.get? b=some o->g.get? b=some o:=λb o w=>by rw[oth b (by rintro rfl;rw[q6]at w;cases w)];exact k1 b o w
 refine wpAny_entryW (s:={s with heap:=g}) hfr (k3.of_keeps λb o w1 w2=>⟨o,plain b o w1 w2,rfl⟩) hf (by show g.get? e=_;rw[oth e (Ne.symm q7)];exact q1) inB k2 q4 lt1 q3 λh' hn=>?_
 obtain⟨m1,m2,m3,m4⟩:=hn;exact hQ h' ⟨m1,k2,m2,m3⟩ λb o w1 w2=>m4 b o (plain b o w1 w2) w2
def aIH(hfr:A.frames=some (env::outer))(hf:env.frame=some L)(hh:Hld B (env::outer) e cls a0 s.heap)(hQ:∀h',Heap.FlyingW B outer e cls a0 h'->s.heap.UpToSlots h'->Q () {s with heap:=h'}):wpAny M A (leaving env (.ref e)) Q E s:=by
 unfold leaving;refine aRD (aIG hfr hf hh λh4 held up4=>?_);refine wpAny_landsW (s:={s with heap:=h4}) held λh5 fl up5=>?_
 obtain⟨w1,w2,w3,w4⟩:=fl;exact hQ h5 ⟨w1,w2,w3.2.2,w4⟩ (up4.trans up5)
end
def HX1(P:aW6)(w:aW5):CXT:=λouter H s E ev s'=>∃(e C:Addr) (a0:aW2) (H1:Hp) (B:Heap),
 ev=.ref e/\s'.os=s.os/\AllBare s'.gens/\Hld B outer e (.ref C) a0 s'.heap/\Fly P w outer H s H1 B s'.heap/\E (.ref C) none H1
section
variable {N:List Str}{f:Addr}{A:aW4}{E:XK}
def xG(hE:C.EE=iT mg E):XOk (HX1 P w) C (cK (CX1 P w) P w K mg base N qual scope f cdv A outer s H E):=by intro aA σ H1 s1 ev s' I h;obtain⟨e,Cc,a0,H2,B,rfl,ho,hg,fl,fy,c,hm,he⟩:=h;rw[hE]at he;refine aIH I.ok.frames rfl fl λh' fl' up=>?_;exact⟨e,Cc,a0,H2,B,rfl,ho.trans I.os,hg,fl',fy.out I ho hg rfl rfl rfl fl'.1 up,he _ hm⟩
end
section
variable {D:fE}{hs:List ExceptHandler}{hx:List HX}{xt:Str->Str->Option Bool}
end
section
variable  {H1:Hp}{B:Heap}{Z:Addr}
end
section
variable {XE:VSP}
end
end D3
namespace L2
open D3
section
variable {A:aW4}{R:Result->aW3->Prop}
end
end L2
namespace D3
end D3
namespace PySem
open PySem.Sem (wp)
open Builtin
end PySem
namespace L2
def aII:V->List V->Hp->VK->Prop:=λx vs H Q=>∃l xs i y,x=.ref l/\vs=[.int i,y]/\H l=some (.lst xs)/\0<=i/\i<=1000000/\xs.length<sizeLine/\Q .non (upd H l (.lst (xs.take i.toNat++y::xs.drop i.toNat)))
theorem aIJ:MtM X "list.insert" aII:=by
 intro aA s σ H x vs v us Q I rx rv h;obtain⟨l,xs,i,y,rfl,rfl,hH,h0,h1,hz,q⟩:=h;cases rx;obtain⟨u,w,rfl,ru,rw'⟩:=rv.two;obtain⟨t,rfl⟩:=ru;obtain⟨z,its,n,r,hl,e⟩:=I.lstM hH;refine call_meets F.slot_list_insert ⟨_,e,rfl⟩ F.entry_list_insert (F.args_list_insert_3 _ _ _) (AutoSeq1.list_insert_list_int_val_1 l its.toArray n i t w (by simp[Builtin.List.listFitsIndex];lia) (by rw[aRL];lia)) ⟨e,?_⟩
 refine⟨.non,_,I.lset (its':=its.take i.toNat++w::its.drop i.toNat) hH e ?_ ?_ ?_,rfl,q⟩
 . show(its.toArray.extract 0 (if i<0 then(i+(its.toArray.size:Int)).toNat else min i.toNat its.toArray.size)).push w++its.toArray.extract (if i<0 then(i+(its.toArray.size:Int)).toNat else min i.toNat its.toArray.size)=_;rw[if_neg (by lia),W.kl_ins_eq,aRL]
   congr 1;by_cases hh:i.toNat<=its.length
   . rw[Nat.min_eq_left hh]
   . rw[Nat.min_eq_right (by lia),aT1 (aRG _),aT1 (by lia),List.drop_of_length_le (aRG _),List.drop_of_length_le (by lia)]
 . exact(r.take _).append (.cons rw' (r.drop _))
 . rw[aR3,aST,aRW,aSD];lia
end L2
namespace D3
open PySem.Calls
def gN(ρ:Rho)(i:Nat)(rk rv:Res):aG:=match ρ[i]? with
 |some (some (true,.lst ds))=>rk.thS ρ λ_ kd=>(match kd with
  |.int k=>(aZ rv).thS ρ λm d=>(match m with
   |.fz=>if(decide (0<=k)&&decide (k<=1000000)&&decide (ds.length<sizeLine))=true then .nx (ρ.set i (some (true,.lst (ds.take k.toNat++d::ds.drop k.toNat))))else .stuck
   |_=>.stuck)
  |_=>.stuck)
 |_=>.stuck
theorem aC.takeX{K:Fg}{F:Hp}:∀{ds:List D}{xs:List V} (n:Nat),aC K F ds xs->aC K F (ds.take n) (xs.take n)
 |_,_,0,_=>by rw[List.take_zero,List.take_zero];exact aC.nil
 |[],_,n+1,h=>by simp only[aC]at h;subst h;exact aC.nil
 |d::ds,xs,n+1,h=>by simp only[aC]at h;obtain⟨v,us,rfl,h1,h2⟩:=h;exact aC.cons h1 (aC.takeX n h2)
theorem aC.dropX{K:Fg}{F:Hp}:∀{ds:List D}{xs:List V} (n:Nat),aC K F ds xs->aC K F (ds.drop n) (xs.drop n)
 |_,_,0,h=>h
 |[],_,n+1,h=>by simp only[aC]at h;subst h;exact aC.nil
 |d::ds,xs,n+1,h=>by simp only[aC]at h;obtain⟨v,us,rfl,h1,h2⟩:=h;exact aC.dropX n h2
section
variable  {gk:Rho->Res}
def aIK(i:Nat)(hv:PE X (.Name x p) (bX i))(hk:PV C X ke gk)(he:PV C X e g)(hs0:bQ ke=true)(hs:bQ e=true)(hline:ap.endLine=cp.line):PSv C X (.Expr (.Call (.Attribute (.Name x p) "insert" ap) [ke,e] [] cp) pos) (λρ=>gN ρ i (gk ρ) (g ρ)):=by
 have h1 := nS (X := X) (o := .Name x p) (e := ke) (es := [e]) (apos := ap) (cpos := cp) aT4 PySem.F.slot_list_insert PySem.F.type_list_insert aIJ hv (dE hk (dE (gJ he) eN (aW hs)) (aW hs0)) (fJ rfl) (by
     rw[fH _ _ (λy hy=>by
      simp only[aQZ,aT5,aT6]at hy;rcases hy with rfl|rfl
      . exact hs0
      . exact hs)];rfl) (aRN.mpr hline) (aW hs0) (eV _ _ λy hy=>by rw[aT2]at hy;subst hy;exact hs)
 refine PS.imp (k5 h1) λE σ H q=>?_;obtain⟨ρ,F,R,w⟩:=q;dsimp only at w;unfold pW tBM;cases e0:ρ[i]? with
 |none=>unfold gN at w;rw[e0]at w;exact w.elim
 |some o =>
  cases o with
  |none=>unfold gN at w;rw[e0]at w;exact w.elim
  |some bd =>
   obtain⟨b,d0⟩:=bd;cases b with
   |false=>unfold gN at w;rw[e0]at w;exact w.elim
   |true =>
    cases d0 with
    |lst ds =>
     unfold gN at w;rw[e0]at w;dsimp only at w;obtain⟨v0,ev0,rp0,hn0⟩:=R.slot i true _ e0;obtain⟨a,ea,hfa,xs,hh,rl⟩:=rp0;subst ea;refine⟨.ref a,ev0,.inl ⟨rfl,xs,SqL.of hh⟩,?_⟩;unfold jL;refine iP R w λm0 kd u F1 H1 w1 s1 R1 rp1 _=>?_;cases kd with
     |int k =>
      dsimp only at w1;refine iP R1 w1 λm d v F' H' w' s R' rp fr=>?_;cases m with
      |fr=>exact(show False from w').elim
      |bo=>exact(show False from w').elim
      |fz =>
      dsimp only at w';split at w'
      . rename_i hl;simp only[aSJ,aTC]at hl;have hh':H' a=some (.lst xs):=s.same _ _ (s1.same _ _ hh);cases rp1.int;refine⟨a,xs,k,v,rfl,rfl,hh',hl.1.1,hl.1.2,by rw[rl.length];exact hl.2,?_⟩
        have rl':=rl.mono (s1.fsame.trans s.fsame);exact w' σ F' _ (aD.refl _) (R'.mut e0 ev0 ⟨_,aV,aC.append (aC.takeX _ rl') (aC.cons rp (aC.dropX _ rl'))⟩)
      . exact w'.elim
     |_=>exact(show False from w1).elim
    |_=>unfold gN at w;rw[e0]at w;exact w.elim
end
section
variable {A:aW4}{R:Result->aW3->Prop}{J:Addr}{wr:List Addr}{P:Nat->aW2->Prop}{St:Nat->Heap->Prop}{ns:List Int}{S:Addr}
end
section
variable {A:aW4}{E:VSP}
end
section
variable  {kp:Pos}{j:_}
end
theorem aC.drop{K:Fg}{F:Hp}:∀(n:Nat) {ds:List D}{xs:List V},aC K F ds xs->aC K F (ds.drop n) (xs.drop n)
 |0,_,_,h=>h
 |n+1,[],xs,h=>by simp only[aC]at h;subst h;simp[aC]
 |n+1,d::ds,xs,h=>by simp only[aC]at h;obtain⟨v,vs,rfl,_,t⟩:=h;exact aC.drop n t
theorem aC.take{K:Fg}{F:Hp}:∀(n:Nat) {ds:List D}{xs:List V},aC K F ds xs->aC K F (ds.take n) (xs.take n)
 |0,_,_,_=>by simp[aC]
 |n+1,[],xs,h=>by simp only[aC]at h;subst h;simp[aC]
 |n+1,d::ds,xs,h=>by simp only[aC]at h;obtain⟨v,vs,rfl,r,t⟩:=h;simp only[List.take_succ_cons,aC];exact⟨v,_,rfl,r,aC.take n t⟩
def fL(xs:List D)(lo hi:Option Int):List D:=(xs.drop (HT.sIx xs.length 0 lo)).take (HT.sIx xs.length xs.length hi-HT.sIx xs.length 0 lo)
def aC.cut{F:Hp}{xs:List V}(h:aC K F ds xs)(lo hi:Option Int):aC K F (fL ds lo hi) (gH xs lo hi):=by unfold fL gH;rw[h.length];exact(h.drop _).take _
def lT(n:Nat)(lo hi:Option Int):Bool:=HT.sIx n 0 lo==0&&HT.sIx n n hi==n
noncomputable def slP(x:Res)(lo hi:Option (Rho->Res))(ρ:Rho):Res:=x.thn λm d=>match d with
 |.str z=>cO lo ρ λl=>cO hi ρ λh=>.ok .fz (.str (Txt.slice z l h))
 |.lst ds=>cO lo ρ λl=>cO hi ρ λh=>.ok .fr (.lst (fL ds l h))
 |.tup ds=>cO lo ρ λl=>cO hi ρ λh=>if(lT ds.length l h&&m != .fz)=true then .stuck else .ok .fz (.tup (fL ds l h))
 |_=>.stuck
section
variable {a:Expr}
def aIL{lo hi:Option Expr}{gl gh:Option (Rho->Res)}(ha:PV C X a ga)(hl:POv C X lo gl)(hh:POv C X hi gh):PV C X (.Subscript a (.Slice lo hi none p2) pos) (λρ=>slP (ga ρ) gl gh ρ):=by
 refine PE.imp (aEF (aF2.or (aEO.or (aEG.or aHW))) ha (wJ hl) (wJ hh)) λσ H Q q=>?_;unfold tSl;rw[aS]at q ⊢;obtain⟨ρ,F,R,w⟩:=q
 try dsimp only at w
 refine⟨ρ,F,R,?_⟩;cases er:ga ρ with
 |stuck=>rw[er]at w;exact w
 |exc c=>rw[er]at w;exact w
 |ok m d =>
  rw[er]at w;intro v F1 H1 s1 rp _;cases d with
  |str z=>obtain⟨rfl,hz,hk⟩:=rp.str;have w1:aR (C.at X) F1 H1 σ (cO gl ρ λl=>cO gh ρ λh=>.ok .fz (.str (Txt.slice z l h))) Q:=aR.step s1 w;refine jO (R.step s1) w1 λl F2 H2 s2 R2 w2=>jO R2 w2 λh F3 H3 s3 R3 w3=>.inl ?_;exact⟨z,rfl,hz,w3 _ F3 H3 (.refl R3.sub) (eO ⟨aQW (aTI z _ _) hz,aF3 hk⟩) (by nofun)⟩
  |lst ds=>have w1:aR (C.at X) F1 H1 σ (cO gl ρ λl=>cO gh ρ λh=>.ok .fr (.lst (fL ds l h))) Q:=aR.step s1 w;refine jO (R.step s1) w1 λl F2 H2 s2 R2 w2=>jO R2 w2 λh F3 H3 s3 R3 w3=>.inr (.inl ?_);obtain⟨p,xs,rfl,hq,rl⟩:=((rp.step s2).step s3).seqL R3.sub;exact⟨p,xs,rfl,hq,λp' hp'=>w3 (.ref p') F3 _ (aF.fresh _ R3.sub hp') ⟨p',rfl,R3.sub.free hp',_,aV,rl.cut l h⟩ λ_ a ea=>by cases ea;exact hp'⟩
  |tup ds =>
   have w1:aR (C.at X) F1 H1 σ (cO gl ρ λl=>cO gh ρ λh=>if(lT ds.length l h&&m != .fz)=true then .stuck else .ok .fz (.tup (fL ds l h))) Q:=aR.step s1 w;refine jO (R.step s1) w1 λl F2 H2 s2 R2 w2=>jO R2 w2 λh F3 H3 s3 R3 w3=>.inr (.inr ?_);obtain⟨p,xs,rfl,hq,rl⟩:=((rp.step s2).step s3).seqT R3.sub;have lw:lT ds.length l h=true↔HT.sIx xs.length 0 l=0/\HT.sIx xs.length xs.length h=xs.length:=by rw[rl.length];unfold lT;simp
   cases hw:lT ds.length l h with
   |true =>
    cases m with
    |fz =>
     rw[hw,if_neg (by decide)]at w3
     have e:=lw.mp hw;have ec:fL ds l h=ds:=by unfold fL;rw[<- rl.length,e.1,e.2,rl.length,List.drop_zero,Nat.sub_zero];exact List.take_length
     rw[ec]at w3;exact .inr ⟨p,xs,rfl,hq,e,w3 (.ref p) F3 H3 (.refl R3.sub) ((rp.step s2).step s3) (by nofun)⟩
    |fr=>rw[hw,if_pos (by decide)]at w3;exact w3.elim
    |bo=>rw[hw,if_pos (by decide)]at w3;exact w3.elim
   |false =>
    rw[hw,if_neg (by simp)]at w3
    refine .inl ⟨p,xs,rfl,hq,λz=>?_,λp' hp'=>w3 (.ref p') _ _ (aF.laid (.tup (gH xs l h)) R3.sub hp') (aB.tup_of (R3.sub.free hp') (rl.cut l h)) (by nofun)⟩
    rw[lw.mpr z]at hw;cases hw
  |_=>exact(show False from w).elim
def swD:Md->D->List (Md×D)->Option (Md×D):=λ_ x xs=>match x,xs with
 |.str z,[(_,.str y)]=>some (.fz,.bl (Txt.startswith z y))
 |_,_=>none
def aIM:MtD X "str.startswith" swD:=by
 refine⟨λv vs H Q=>∃z y:Str,v=.str z/\vs=[.str y]/\Q (.bl (Txt.startswith z y)) H,?_,?_⟩
 . intro aA s σ H x xs v us Q I rx r h;obtain⟨z,y,rfl,rfl,q⟩:=h;obtain⟨t,rfl⟩:=rx;obtain⟨u,rfl,t',rfl⟩:=cE r;exact SC.startswith ⟨.bl (Txt.startswith z y),H,I,rfl,q⟩
 . intro F H m x xs v vs k d Q s rx rl e w;unfold swD at e;split at e
   . rename_i z m' y;cases e;obtain⟨rfl,_⟩:=rx.str;obtain⟨u,rfl,r⟩:=rl.one;obtain⟨rfl,_⟩:=r.str;exact⟨z,y,rfl,rfl,w _ F H (.refl s) (dG _) (by nofun)⟩
   . cases e
def rpD:Md->D->List (Md×D)->Option (Md×D):=λ_ x xs=>match x,xs with
 |.str z,[(_,.str y)]=>some (.fz,.str (Txt.removeprefix z y))
 |_,_=>none
def aIN(h:PyData.strOk z=true):PyData.strOk (Txt.removeprefix z y)=true:=by
 rw[StrLaws.removeprefix_eq];split
 . unfold PyData.strOk at h ⊢;rw[aTF]at h ⊢;intro c hc;have:c∈z.cps.toList:=List.mem_of_mem_drop (List.mem_of_mem_take (by simpa using hc))
   exact h c (by simpa using this)
 . exact h
def aIO:MtD X "str.removeprefix" rpD:=by
 refine⟨λv vs H Q=>∃z y:Str,v=.str z/\vs=[.str y]/\z.length<=sizeLine/\Q (.str (Txt.removeprefix z y)) H,?_,?_⟩
 . intro aA s σ H x xs v us Q I rx r h;obtain⟨z,y,rfl,rfl,hz,q⟩:=h;obtain⟨t,rfl⟩:=rx;obtain⟨u,rfl,t',rfl⟩:=cE r;exact SC.removeprefix (λt' k=>⟨.str (Txt.removeprefix z y),H,I.tok _,⟨_,rfl⟩,q⟩) hz
 . intro F H m x xs v vs k d Q s rx rl e w;unfold rpD at e;split at e
   . rename_i z m' y;cases e;obtain⟨rfl,hz,hk⟩:=rx.str;obtain⟨u,rfl,r⟩:=rl.one;obtain⟨rfl,_⟩:=r.str;exact⟨z,y,rfl,rfl,hz,w _ F H (.refl s) (eO ⟨aQW (len_removeprefix z y) hz,aIN hk⟩) (by nofun)⟩
   . cases e
end
section
variable {a b:Expr}
def oF:List (Md×D)->Option (Md×D)
 |[(_,.dct kvs)]=>some (.fr,.dct kvs)
 |_=>none
def aIP:dU X (.type "dict") oF:=by
 refine⟨λvs H Q=>∃a xs,vs=[.ref a]/\H a=some (.dK xs)/\∀p,H p=none->Q (.ref p) (upd H p (.dK xs)),?_,?_⟩
 . intro aA s σ H vs us Q I r h;obtain⟨a,xs,rfl,hh,q⟩:=h;obtain⟨u,rfl,ru⟩:=cE r;cases(show u=Value.ref a from ru)
   exact aE2 I (.inl hh) λp s' hp I'=>⟨.ref p,_,I',rfl,q p hp⟩
 . intro F H xs vs k d Q s rx e w;unfold oF at e;split at e
   . rename_i m kvs;cases e;obtain⟨v,rfl,r⟩:=rx.one;obtain⟨a,ys,rfl,hh,rk⟩:=r.dict s;exact⟨a,ys,rfl,hh,λp hp=>w (.ref p) F _ (aF.fresh _ s hp) ⟨p,rfl,s.free hp,ys,aV,rk⟩ λ_ b eb=>by cases eb;exact hp⟩
   . cases e
end
def gO(kvs:List (Key×D))(k:Key)(d:D):List (Key×D):=if(kvs.any λkv=>decide (kv.1=k))=true then kvs.map (λkv=>if kv.1=k then(kv.1,d)else kv)else kvs++[(k,d)]
theorem aO.keys{K:Fg}{F:Hp}:∀{kvs:List (Key×D)}{xs:List (Key×V)},aO K F kvs xs->xs.map (·.1)=kvs.map (·.1)
 |[],xs,h=>by simp only[aO]at h;subst h;rfl
 |(k,d)::kvs,xs,h=>by simp only[aO]at h;obtain⟨y,ys,rfl,_,t⟩:=h;simp[aO.keys t]
theorem aO.snoc{K:Fg}{F:Hp}{k:Key}{d:D}{v:V}(r:aB K F d v):∀{kvs:List (Key×D)}{xs:List (Key×V)},aO K F kvs xs->aO K F (kvs++[(k,d)]) (xs++[(k,v)])
 |[],xs,h=>by simp only[aO]at h;subst h;simp only[aT8,aO];exact⟨v,[],rfl,r,rfl⟩
 |(k',d')::kvs,xs,h=>by simp only[aO]at h;obtain⟨y,ys,rfl,r',t⟩:=h;simp only[aS0,aO];exact⟨y,_,rfl,r',aO.snoc r t⟩
theorem aO.repl{K:Fg}{F:Hp}{k:Key}{d:D}{v:V}(r:aB K F d v):∀{kvs:List (Key×D)}{xs:List (Key×V)},aO K F kvs xs->aO K F (kvs.map λkv=>if kv.1=k then(kv.1,d)else kv) (xs.map λkv=>if kv.1=k then(kv.1,v)else kv)
 |[],xs,h=>by simp only[aO]at h;subst h;simp[aO]
 |(k',d')::kvs,xs,h=>by
  simp only[aO]at h;obtain⟨y,ys,rfl,r',t⟩:=h;have ih:=aO.repl (k:=k) r t;by_cases e:k'=k
  . simp only[aSV,e,if_true,aO];exact⟨v,_,rfl,r,ih⟩
  . simp only[aSV,e,aSB,aO];exact⟨y,_,rfl,r',ih⟩
def aO.put{F:Hp}{k:Key}{d:D}{kvs:List (Key×D)}{xs:List (Key×V)}(h:aO K F kvs xs)(r:aB K F d v):aO K F (gO kvs k d) (eE xs k v):=by
 have e:(xs.any λkv=>decide (kv.1=k))=(kvs.any λkv=>decide (kv.1=k)):=by
  have:=h.keys;have a1:∀{β:Type} (l:List (Key×β)),(l.any λkv=>decide (kv.1=k))=(l.map (·.1)).any (λx=>decide (x=k)):=λl=>by rw[List.any_map];rfl
  rw[a1,a1,this]
 unfold gO eE;rw[e];split
 . exact aO.repl r h
 . exact aO.snoc r h
def aO.len{F:Hp}{kvs:List (Key×D)}{xs:List (Key×V)}(h:aO K F kvs xs):xs.length=kvs.length:=by have:=congrArg List.length h.keys;simpa using this
section
variable  {gk:Rho->Res}{sp:Pos}
end
section
variable {a b:Expr}
end
open PySem.SeqAt PySem.MeetsSeq
def SqT.plain{a:Addr}{xs:List V}(I:L2.Inv X aA σ H s)(h:SqT X.K H a xs):∃its:List aW2,aH xs its/\gE s.heap a its.toArray/\xs.length<=sizeLine:=by
 rcases h with h|⟨o,its,n,hk,hc,hd,hs,hz,r⟩
 . obtain⟨z,its,r,p⟩:=h.ok I.hok;exact⟨its,r,p,z⟩
 . exact⟨its.toList,r,⟨o,I.kIn a o hk,hc,hd,n,by simpa using hs⟩,by rw[r.length,aQ7];exact hz⟩
section
variable  {o:Expr}{ty:TE}
end
section
variable  {o:Expr}{go:Rho->Res}
end
def TabE(w:aW5)(K:Fg):List (Str×Str)->List DictEntry->Prop
 |[],es=>es=[]
 |(z,f)::r,es=>∃t a es',es=⟨PyData.keyHash w.params z,.str z t,.ref a⟩::es'/\W.nsIn K mainGlobals f=some (some (.ref a))/\TabE w K r es'
structure jV(w:aW5)(K:Fg)(mg:SOV)(x:Str)(tb:List (Str×Str)):Prop where
 ex:∃a ob es ep,mg x=some (.ref a)/\K.lookup a=some ob/\ob.ExactDict/\ob.data=.dict es ep/\TabE w K tb es.toList
 nd:(tb.map (·.1)).Nodup
section
variable  {b:Expr}{es:List Expr}{k:Nat}{tb:List (Str×Str)}
end
def is_kV{k:Key}(h:(cJ P w).is k u=true):aJ (kV k) u:=by
 cases k with
 |inl i =>
  have h:Value.isInt i u=true:=h;cases u <;> simp[Value.isInt]at h
  subst h;exact⟨_,rfl⟩
 |inr x =>
  have h:Value.isStrOf x u=true:=h;cases u <;> simp[Value.isStrOf]at h
  subst h;exact⟨_,rfl⟩
theorem xH{P:aW6}{w:aW5}:∀{vs:List (Key×aW2)}{us:List aW2},us.length=vs.length->(∀(j:Nat) v,us[j]? = some v->∃k x,vs[j]? = some (k,x)/\(cJ P w).is k v=true)->aH (vs.map λkv=>kV kv.1) us
 |[],[],_,_=>.nil
 |[],_::_,h,_=>by simp at h
 |_::_,[],h,_=>by simp at h
 |kv::vs,u::us,h,q=>by obtain⟨k,x,e1,e2⟩:=q 0 u rfl;cases e1;exact .cons (is_kV e2) (xH (by simpa using h) λj v hv=>q (j+1) v hv)
def aN.frz{F:Hp}(R:aN K F0 H0 F H σ ρ){d:D}(e:ρ[i]? = some (some (true,d))):∃F',aD F F'/\aN K F0 H0 F' H σ (ρ.set i (some (false,d))):=by
 obtain⟨v,ev,rp,hn⟩:=R.slot i true d e;obtain⟨x,rfl,nx,t⟩:=rp;obtain⟨o,ho,r⟩:=t.freeze nx;have sm:aD F (upd F x o):=λb u q=>by rw[aL (bR q nx)];exact q
 have hi:i<ρ.length:=(aQ2.mp e).1;refine⟨upd F x o,sm,R.st.freeze (hn rfl x rfl) nx ho,λj m d' ej=>?_,λj k d1 d2 a hjk e1 e2 q1 q2=>?_,by rw[aTL];exact R.len⟩
 . by_cases hj:j=i
   . subst hj;rw[aQ3 hi]at ej;cases ej;exact⟨.ref x,ev,r,by nofun⟩
   . rw[aQ4 (λz=>hj z.symm)]at ej;obtain⟨v',ev',rp',hn'⟩:=R.slot j m d' ej;refine⟨v',ev',?_,hn'⟩;cases m with
     |false=>exact aB.mono sm _ _ rp'
     |true =>
      obtain⟨a,rfl,na,t'⟩:=rp';have ax:a≠x:=λz=>by subst z;exact R.apart j i d' d a hj ej e ev' ev
      refine⟨a,rfl,by rw[aL ax];exact na,?_⟩
      cases d' with
      |lst ds=>obtain⟨xs,q,rr⟩:=t';exact⟨xs,q,rr.mono sm _ _⟩
      |dct ds=>obtain⟨xs,q,rr⟩:=t';exact⟨xs,q,rr.mono sm _ _⟩
      |ins c fs=>obtain⟨C,dx,gs,n,q,rr⟩:=t';exact⟨C,dx,gs,n,q,rr.mono sm _ _⟩
      |set ks=>obtain⟨S,q,rr⟩:=t';exact⟨S,q,rr⟩
      |dtn ds=>obtain⟨xs,q,rr⟩:=t';exact⟨xs,q,rr.mono sm _ _⟩
      |_=>exact t'.elim
 . have own:∀{j:Nat}{d1:D},(ρ.set i (some (false,d)))[j]? = some (some (true,d1))->ρ[j]? = some (some (true,d1)):=λ{j d1} z=>by
     by_cases hj:j=i
     . subst hj;rw[aQ3 hi]at z;cases z
     . rw[aQ4 (λy=>hj y.symm)]at z;exact z
   exact R.apart j k d1 d2 a hjk (own e1) (own e2) q1 q2
def iU(ρ:Rho)(i:Nat):aG:=match ρ[i]? with
 |some (some (true,d))=>.nx (ρ.set i (some (false,d)))
 |_=>.stuck
def aIQ{g:Rho->aG}(h:PBv C X sts g):PBv C X sts (λρ=>(iU ρ i).thn g):=by
 refine PSs.imp h λE σ H q=>?_;obtain⟨ρ,F,R,w⟩:=q;dsimp only at w;unfold iU at w;split at w
 . rename_i d e;obtain⟨F',sm,R'⟩:=R.frz e;exact⟨_,F',R',cF.mono sm w⟩
 . exact w.elim
def Ent(w:aW5):List Str->List (Int×aW2)->Prop
 |[],l=>l=[]
 |x::xs,l=>∃t r,l=(hashStr w x,.str x t)::r/\Ent w xs r
theorem Ent.mem:∀{xs:List Str}{l:List (Int×aW2)},Ent w xs l->∀e∈l,∃x t,x∈xs/\e=(hashStr w x,.str x t)
 |[],l,h,e,he=>by have h:l=[]:=h;subst h;cases he
 |x::xs,l,h,e,he=>by
  obtain⟨t,r,rfl,hr⟩:=h;rcases aQZ.mp he with rfl|he
  . exact⟨x,t,mcs,rfl⟩
  . obtain⟨y,u,hy,e1⟩:=hr.mem e he;exact⟨y,u,mcm hy,e1⟩
theorem Ent.mem':∀{xs:List Str}{l:List (Int×aW2)},Ent w xs l->∀x∈xs,∃t,(hashStr w x,.str x t)∈l
 |x::xs,l,h,y,hy=>by
  obtain⟨t,r,rfl,hr⟩:=h;rcases aQZ.mp hy with rfl|hy
  . exact⟨t,mcs⟩
  . obtain⟨u,hu⟩:=hr.mem' y hy;exact⟨u,mcm hu⟩
theorem Ent.length:∀{xs:List Str}{l:List (Int×aW2)},Ent w xs l->l.length=xs.length
 |[],l,h=>by have h:l=[]:=h;subst h;rfl
 |x::xs,l,h=>by obtain⟨t,r,rfl,hr⟩:=h;simp[hr.length]
theorem Ent.snoc:∀{xs:List Str}{l:List (Int×aW2)}{x:Str}{t:Tok},Ent w xs l->Ent w (xs++[x]) (l++[(hashStr w x,.str x t)])
 |[],l,x,t,h=>by have h:l=[]:=h;subst h;exact⟨t,[],rfl,rfl⟩
 |y::xs,l,x,t,h=>by obtain⟨u,r,rfl,hr⟩:=h;exact⟨u,_,rfl,hr.snoc⟩
def Ent.perm{l l':List (Int×aW2)}(p:l'.Perm l):∀{xs:List Str},Ent w xs l->∃ys:List Str,ys.Perm xs/\Ent w ys l':=by
 induction p with
 |nil=>exact λh=>⟨_,.refl _,h⟩
 |cons e _ ih =>
  intro xs h;cases xs with
  |nil=>cases(show _::_=[]from h)
  |cons x xs=>obtain⟨t,r,e1,hr⟩:=h;cases e1;obtain⟨ys,p1,h1⟩:=ih hr;exact⟨x::ys,p1.cons x,t,_,rfl,h1⟩
 |swap a b l =>
  intro xs h;cases xs with
  |nil=>cases(show _::_=[]from h)
  |cons x xs =>
   obtain⟨t,r,e1,hr⟩:=h;cases e1;cases xs with
   |nil=>cases(show _::_=[]from hr)
   |cons y xs=>obtain⟨u,r',e2,hr'⟩:=hr;cases e2;exact⟨y::x::xs,.swap x y xs,u,_,rfl,t,_,rfl,hr'⟩
 |trans _ _ ih1 ih2=>intro xs h;obtain⟨ys,p1,h1⟩:=ih2 h;obtain⟨zs,p2,h2⟩:=ih1 h1;exact⟨zs,p2.trans p1,h2⟩
def lU{t:Tok}:(PySem.strKind P w).is x (.str y t)=decide (y=x):=by show Value.isStrOf x (.str y t)=_;rw[Bool.eq_iff_iff];simp[Value.isStrOf]
def Ent.elems{l:List (Int×aW2)}(h:Ent w xs l):ElemsOf (PySem.strKind P w) l:=λe he=>by obtain⟨x,t,_,rfl⟩:=h.mem e he;exact⟨⟨x,by rw[lU];simp,rfl⟩,rfl⟩
def b0(w:aW5):Bool:=w.params.followText "set-order"
def bH(w:aW5)(h:Heap)(a:Addr)(xs:List Str):Prop:=∃o es ep t,h.get? a=some o/\o.ExactSet/\o.data=.set es ep t/\Ent w xs es.toList/\xs.Nodup/\xs.length<scanBound/\t.fits es.size=true/\t.led = !b0 w/\(xs=[]\/t.plain=false)
def aIR{t:SetTable}:(t.orStandIn n).led=t.led/\((t.orStandIn n).plain=true->t.plain=true):=by
 unfold SetTable.orStandIn;split
 . exact⟨rfl,id⟩
 . exact⟨rfl,λh=>by cases h⟩
def aIS{t:SetTable}{es:Array (Int×aW2)}{h:Int}{x:aW2}:(layNew t es h x).2.1.led=t.led/\((layNew t es h x).2.1.plain=true->t.plain=true):=by
 unfold layNew;split
 . exact aIR (t:=(t.put _).1)
 . exact⟨rfl,λh=>by cases h⟩
def aIT{t:SetTable}{es:Array (Int×aW2)}:(relayAll t es n).2.1.led=t.led/\((relayAll t es n).2.1.plain=true->t.plain=true):=by
 unfold relayAll;split
 . rename_i t' order e;have e':t'.led=t.led/\t'.plain=t.plain:=by
     unfold SetTable.relaid SetTable.laid at e;cases hl:SetTable.layClean (SetTable.sizeAbove n-1) (es.map (·.1))with
     |none=>rw[hl]at e;cases e
     |some ow=>rw[hl]at e;cases e;exact⟨rfl,rfl⟩
   dsimp only;split
   . exact⟨e'.1,λh=>by rw[<- e'.2];exact h⟩
   . exact⟨rfl,λh=>by cases h⟩
 . exact⟨rfl,λh=>by cases h⟩
section
variable {A:aW4}{E:VSP}
def aIU(b:Bool){s₁:aW3}{Q':Unit->aW3->Prop}(hq:Q' () s₁):wpAny (model prog w) A (match b with|true=>rule "set.scan.the-table-gave-way" |false=>pure ()) Q' E s₁:=by
 cases b with
 |true=>exact aS6 hq
 |false=>exact aRC hq
def xI(P:aW6){a:Addr}{o:Obj}{es:Array (Int×aW2)}{t:SetTable}(ho:h.get? a=some o)(hex:o.ExactSet)(hd:o.data=.set es ep t){es':Array (Int×aW2)}{t':SetTable}(he:Ent w xs es'.toList)(hn:xs.Nodup)(hb:xs.length<scanBound)(hf:t'.fits es'.size=true)(hl:t'.led = !b0 w)(hp:xs=[]\/t'.plain=false):(h.update a (Obj.putSet es' t')).get? a=some {o with data:=.set es' (ep+1) t'}/\bH w (h.update a (Obj.putSet es' t')) a xs:=by
 have hs:es'.size=xs.length:=by rw[<- aQ7];exact he.length
 have g:=(SetOf_store (knd:=PySem.strKind P w) (S':=λk=>decide (∃e∈es'.toList,(PySem.strKind P w).is k e.2=true)) ho hex hd he.elems (λk=>by simp) (by rw[hs];exact hb) hf).1
 exact⟨g,_,es',ep+1,t',g,hex,rfl,he,hn,hb,hf,hl,hp⟩
def xJ (g : Bool → Sem Unit) (hg : ∀ (b : Bool) {s₁ : aW3} {Q' : Unit → aW3 → Prop}, Q' () s₁ → wpAny (model prog w) A (g b) Q' E s₁) {a : Addr} {o : Obj} {es : Array (Int × aW2)} {ep : Nat} {t : SetTable} (ho : s.heap.get? a = some o) (hex : o.ExactSet) (hd : o.data = .set es ep t) {es1 : Array (Int × aW2)} {t2 : SetTable} {xs : List Str} (he : Ent w xs es1.toList) (hn : xs.Nodup) (hb : xs.length < scanBound) (hf : t2.fits es1.size = true) (hl : t2.led = !b0 w) (hp : t2.plain = false) {wasDummy : Bool} {R : Option Bool → aW3 → Prop} (h : ∀ h' ys, Heap.SameBut a s.heap h' → bH w h' a ys → ys.Perm xs → R (some true) { s with heap := h' }) :
    wpAny (model prog w) A (do
        storeSet a es1 t2
        if (!wasDummy && t2.tooFull) = true then do
            g (relayAll t2 es1 (SetTable.grown es1.size)).2.2
            storeSet a (relayAll t2 es1 (SetTable.grown es1.size)).1 (relayAll t2 es1 (SetTable.grown es1.size)).2.1
            pure (some true)
         else pure (some true)) R E s:=by
 have z:∀{l:Array (Int×aW2)}{ys:List Str},Ent w ys l.toList->ys.length<scanBound->l.size<=sizeLine:=λq1 q2=>aT9 (by rw[<- aQ7,q1.length];exact q2)
 obtain⟨g1,X1⟩:=xI prog ho hex hd he hn hb hf hl (.inr hp);refine aRD (aUA ho hd ?_ (z he hb));have sb:=aUB s.heap a (Obj.putSet es1 t2);split
 . have pm:=relayAll_perm t2 es1 (SetTable.grown es1.size);have ft:=relayAll_fits t2 es1 (SetTable.grown es1.size);have fl:=aIT (t:=t2) (es:=es1) (n:=SetTable.grown es1.size);generalize relayAll t2 es1 (SetTable.grown es1.size)=R1 at *;obtain⟨es2,t3,gv⟩:=R1;dsimp only at pm ft fl ⊢;obtain⟨ys,p1,e2⟩:=he.perm pm;have pl:t3.plain=false:=by
     cases q:t3.plain with
     |false=>rfl
     |true=>rw[fl.2 q]at hp;cases hp
   have yb:ys.length<scanBound:=by rw[p1.length_eq];exact hb
   obtain⟨_,X2⟩:=xI prog g1 hex rfl e2 (p1.symm.nodup hn) yb ft (fl.1.trans hl) (.inr pl);refine aRD (hg gv ?_);exact aRD (aUA g1 rfl (aRC (h _ ys (sb.trans (aUB _ a _)) X2 p1)) (z e2 yb))
 . exact aRC (h _ xs sb X1 (.refl _))
def add_x{a:Addr}{tk:Tok}(h:bH w s.heap a xs)(hr:xs.length+1<scanBound)(hq:∀h' ys,Heap.SameBut a s.heap h'->bH w h' a ys->ys.Perm (if x∈xs then xs else xs++[x])->Q (!decide (x∈xs)) {s with heap:=h'}):wpAny (model prog w) A (setAddHashed a (.str x tk) (hashStr w x)) Q E s:=by
 obtain⟨o,es,ep,t,ho,hex,hd,he,hn,hb,hf,hl,hp⟩:=id h;have el:ElemsOf (PySem.strKind prog w) es.toList:=he.elems;have hz:es.size=xs.length:=by rw[<- aQ7];exact he.length
 have hk:(PySem.strKind prog w).is x (.str x tk)=true:=by rw[lU];simp
 unfold setAddHashed setAddHashedIn;refine aSE (aRD (aUC ho hd hf ?_));dsimp only;rw[byScan_of (knd:=PySem.strKind prog w) (x:=.str x tk) rfl (by rw[hz];exact hb) el]
 simp only[↓reduceIte];unfold setAddByScan;refine aRD (aRD (aS6 (aRD (wpAny_setScan_of (knd:=PySem.strKind prog w) hk ho hd hf el ?_))));cases hf':List.findIdx? (λe=>(PySem.strKind prog w).is x e.2) es.toList with
 |some j =>
  dsimp only;obtain⟨hj,hpj,_⟩:=List.findIdx?_eq_some_iff_getElem.mp hf';obtain⟨y,u,hy,ey⟩:=he.mem _ (aUD hj);rw[ey,lU,aTC]at hpj;subst hpj;have:=hq s.heap xs (aTX a s.heap) h (by rw[if_pos hy])
  rw[aSS hy]at this;exact aRC (aRC this)
 |none =>
  dsimp only;have nx:¬ x∈xs:=λhx=>by obtain⟨u,hu⟩:=he.mem' x hx;have:=List.findIdx?_eq_none_iff.mp hf' _ hu;rw[lU]at this;simp at this
  have pm:=layNew_perm t es (hashStr w x) (.str x tk);have ft:=layNew_fits t es (hashStr w x) (.str x tk);have fl:=aIS (t:=t) (es:=es) (h:=hashStr w x) (x:=.str x tk);show wpAny _ _ (match layNew t es (hashStr w x) (.str x tk)with|(es,t,wasDummy,gave)=>_) _ _ _
  generalize layNew t es (hashStr w x) (.str x tk)=L at *;obtain⟨es1,t1,wd,gv⟩:=L;dsimp only at pm ft fl ⊢;rw[aS5]at pm;obtain⟨ys,p1,e1⟩:=(he.snoc (x:=x) (t:=tk)).perm pm;have yn:ys.Nodup:=p1.symm.nodup (aUE.mpr ⟨hn,by simp,λa ha b hb e=>by rw[aT2]at hb;subst hb;subst e;exact nx ha⟩)
  have yb:ys.length<scanBound:=by rw[p1.length_eq,aR3];simpa using hr
  have fin:∀h' zs,Heap.SameBut a s.heap h'->bH w h' a zs->zs.Perm ys->Q true {s with heap:=h'}:=λh' zs q1 q2 q3=>by
   have:=hq h' zs q1 q2 (by rw[if_neg nx];exact q3.trans p1)
   rw[aQL nx]at this;exact this
  refine aRD ?_;have gg:∀(b:Bool) {s₁:aW3}{Q':Unit->aW3->Prop},Q' () s₁->wpAny (model prog w) A (match b with|true=>rule "set.scan.the-table-gave-way" |false=>pure ()) Q' E s₁:=λb _ _ q=>aIU b q
  refine gg _ ?_;split
  . refine aRD ?_;rw[hashByValue_scannable 8 (x:=.str x tk) rfl];refine aRC ?_;refine xJ _ gg (t2:={t1 with plain:=false}) ho hex hd e1 yn yb (SetTable.fits_plain_off ft) (fl.1.trans hl) rfl ?_
    exact λh' zs q1 q2 q3=>aRC (fin h' zs q1 q2 q3)
  . rename_i np;refine aRD (aRC ?_);refine xJ _ gg (t2:=t1) ho hex hd e1 yn yb ft (fl.1.trans hl) (by cases q:t1.plain with|true=>exact absurd q np|false=>rfl) ?_
    exact λh' zs q1 q2 q3=>aRC (fin h' zs q1 q2 q3)
end
def lV:plainId "set.update.loop" = true:=by decide +kernel
def qS:entryFor table "set.update.loop" = some Builtin.«set.update.loop»:=entryFor_of_tree (by kernel_rfl)
def aIV(a:aW2):checkTypeCall "set" ⟨[a],[]⟩=pure ():=by kernel_rfl
def aIW(a:aW2):checkBuiltinCall "set.__new__" ⟨[.type "set", a],[]⟩=pure ():=by kernel_rfl
def bH.kept{a:Addr}(x:bH w h a xs)(k:∀o,h.get? a=some o->h'.get? a=some o):bH w h' a xs:=by obtain⟨o,es,ep,t,ho,r⟩:=x;exact⟨o,es,ep,t,k o ho,r⟩
def bH.there{a:Addr}(x:bH w h a xs):a<h.objs.size:=by obtain⟨o,es,ep,t,ho,r⟩:=x;exact aQQ ho
section
variable {A:aW4}{E:VSP}
def aIX{a:Addr}{tk:Tok}(h:bH w s.heap a xs)(hr:xs.length+1<scanBound)(hq:∀h' ys,Heap.SameBut a s.heap h'->bH w h' a ys->ys.Perm (if x∈xs then xs else xs++[x])->Q (!decide (x∈xs)) {s with heap:=h',toks:=s.toks+1}):wpAny (model prog w) A (setAdd a (.str x tk)) Q E s:=by
 unfold setAdd;refine aSE (aRD ((PySem.strKind prog w).pyHash (k:=x) (v:=.str x tk) (by rw[lU];simp) ?_))
 exact add_x (s:={s with toks:=s.toks+1}) h hr hq
end
def sob(w:aW5):Obj:={ cls:=.type "set", dict:=none,data:=.set #[] 0 (.fresh 0 0 (!b0 w)) }
def sob_x{a:Addr}(g:h.get? a=some (sob w)):bH w h a [] :=
 ⟨_,#[],0,_,g,⟨rfl,rfl,rfl⟩,rfl,rfl,aUF,by decide,rfl,rfl,.inl rfl⟩
section
variable {A:aW4}{E:VSP}
def aIY(v:aW2){Q1:VSP}(h:Q1 (.ref s.heap.objs.size) {s with heap:=s.heap.push (sob w)}):codeAny (model prog w) A (.call (.builtin "set.__new__") ⟨[.type "set", v],[]⟩) (wants Q1 E) s:=by
 refine codeAny_call_builtin_code (aUG aUH _) (aUI (aIW v) (aUJ PySem.F.entry_set_new ?_));rw[aUK aUH _];have sub:=aUL;obtain⟨hp,g,d,tk,os⟩:=s;unfold Builtin.«set.__new__» Builtin.Frozenset.newClass;dsimp only
 wp_walk
 refine aUM (aRC ?_);dsimp only;simp only[newObj];exact aRD (wpAny_alloc (aRC (aRC h)))
def aIZ{M:Model}{self v:aW2}{Q:Unit->aW3->Prop}(ty:s.TypeIs self "set")(q:Q () s):wpAny M A (checkBuiltinCall "set.__init__" ⟨[self,v],[]⟩) Q E s:=by
 unfold checkBuiltinCall;simp only[kind_set_init,split_set_init,sig_set_init];refine aRD (aS8 ty aUL ?_);simp only[aS9,aTA,↓reduceIte];unfold Bind.checkArgs;dsimp only;refine aRD (m:=Bind.printed "set" true _ _) (printed_name (by decide) (aRD (m:=Bind.printed "*" false _ _) (printed_star (self:=self) rfl ty λsh=>?_)))
 have e1:(if(Manifest.Receiver.self==Manifest.Receiver.none)=true then[self,v].length else[self,v].length-1)=1:=rfl;rw[e1,aSW,show Bind.check ⟨.positional,"set", "*", .self,[⟨"iterable", .posOnly,false⟩]⟩ "set" sh 1 []=pure ()from by kernel_rfl]
 exact aRC q
end
def Small(m:Nat):Prop:=m=7\/m=15\/m=31
section
variable {m:Nat}{ow:Array (Option Nat)}
end
def SetM(w:aW5)(h:Heap)(a:Addr)(xs:List Str):Prop:=∃o es ep t,h.get? a=some o/\o.ExactSet/\o.data=.set es ep t/\Ent w xs es.toList/\xs.Nodup/\xs.length<scanBound/\t.fits es.size=true/\t.led = !b0 w/\(xs=[]\/t.plain=false)/\Small t.mask/\t.dummies = #[]
theorem qT{α:Type}:∀{l:List α}{i:Nat} (h:i<l.length),(l[i]::l.eraseIdx i).Perm l
 |[],i,h=>by simp at h
 |a::l,0,h=>.refl _
 |a::l,i+1,h=>by
  have hi:i<l.length:=by simpa using h
  exact(List.Perm.swap a l[i] _).trans ((qT hi).cons a)
theorem xK{α:Type}{next:Nat->Nat}:∀{f k:Nat}{left:List α}{out:Array α},left.length=f->(pickOrder.go next f k left out).toList.Perm (out.toList++left)
 |0,k,left,out,h=>by have:left=[]:=aUN.mp h;subst this;unfold pickOrder.go;simp
 |f+1,k,left,out,h=>by
  have hl:next k % left.length<left.length:=Nat.mod_lt _ (by lia)
  unfold pickOrder.go;rw[aTP hl];dsimp only;refine(xK (by rw[List.length_eraseIdx,if_pos hl];lia)).trans ?_
  rw[aS5,aUO];exact List.Perm.append_left _ (qT hl)
def jW{next:Nat->Nat}{xs:Array α}:(pickOrder next xs).toList.Perm xs.toList:=by unfold pickOrder;simpa using xK (next:=next) (f:=xs.size) (k:=0) (left:=xs.toList) (out:=#[]) rfl
section
variable {A:aW4}{E:VSP}
def fY(q:Q (b0 w) s):wpAny (model prog w) A setsByText Q E s:=by unfold setsByText;exact aRD (aUM (aRC q))
def Wide(h:Heap)(a:Addr)(n:Nat):Prop:=∀o es ep t,h.get? a=some o->o.data=.set es ep t->n<=t.mask
end
def bH.ty{a:Addr}(x:bH w s.heap a xs):s.TypeIs (.ref a) "set" := by obtain⟨o,es,ep,t,ho,hex,r⟩:=x;exact⟨o,ho,hex.1⟩
section
variable {A:aW4}{E:VSP}
end
def eF:Slot "set_iterator" "__next__" "set_iterator.__next__" := .of (owner := "set_iterator") (n := "__next__") (by rw[typeLookup_type,builtinLookup_eq_fast];kernel_rfl) (by decide +kernel) (by decide +kernel) (by decide +kernel) (by first|exact .inl (by decide +kernel)|exact .inr (by decide +kernel)) (by rw[aUP];kernel_rfl)
def oG:entryFor table "set_iterator.__next__" = some Builtin.«set_iterator.__next__»:=entryFor_of_tree (by kernel_rfl)
def xL:Manifest.owners.lookup (String.ofList "rotareti_tes".toList.reverse)=some Manifest.sig_set_iterator:=by kernel_rfl
def oH(a:aW2):argsOk "set_iterator.__next__" ⟨[a],[]⟩:=by unfold argsOk;rw[signature?_of (id := "set_iterator.__next__") (n := "__txen__".toList) (o := "rotareti_tes".toList) (by kernel_rfl) xL];kernel_rfl
def xM:Slot "set_iterator" "__iter__" "set_iterator.__iter__" := .of (owner := "set_iterator") (n := "__iter__") (by rw[typeLookup_type,builtinLookup_eq_fast];kernel_rfl) (by decide +kernel) (by decide +kernel) (by decide +kernel) (by first|exact .inl (by decide +kernel)|exact .inr (by decide +kernel)) (by rw[aUP];kernel_rfl)
def aI0(a:aW2):argsOk "set_iterator.__iter__" ⟨[a],[]⟩:=by unfold argsOk;rw[signature?_of (id := "set_iterator.__iter__") (n := "__reti__".toList) (o := "rotareti_tes".toList) (by kernel_rfl) xL];kernel_rfl
def xN:entryFor table "set.__iter__" = some Builtin.«frozenset.__iter__»:=entryFor_alias (id' := "frozenset.__iter__") (by kernel_rfl) rfl (by decide +kernel) (by kernel_rfl)
def aI1:entryFor table "set_iterator.__iter__" = some Builtin.«dict_keyiterator.__iter__»:=entryFor_alias (id' := "dict_keyiterator.__iter__") (by kernel_rfl) rfl (by decide +kernel) (by kernel_rfl)
def SIt(h:Heap)(I a:Addr)(f:aW2)(i n ep:Nat):Prop:=∃o,h.get? I=some o/\o.cls=.type "set_iterator" /\ o.data=.fields #[f,.int i 0,.ref a,.int n 0,.int ep 0]
def SIt.ty{a:Addr}{f:aW2}(x:SIt s.heap I a f i n ep):s.TypeIs (.ref I) "set_iterator" := let⟨o,h1,h2,_⟩:=x;⟨o,h1,h2⟩
def SIt.at{a:Addr}{f:aW2}(x:SIt h I a f i n ep)(k:∀o,h.get? I=some o->h'.get? I=some o):SIt h' I a f i n ep:=let⟨o,h1,r⟩:=x;⟨o,k o h1,r⟩
section
variable {A:aW4}{E:VSP}{a:Addr}{o:Obj}{es:Array (Int×aW2)}{t:SetTable}
def oJ{f:aW2}{Q:VSP}(x:SIt s.heap I a f i n ep)(q:Q (.ref I) s):wpAny (model prog w) A (pyIter (.ref I)) Q E s:=by refine aUQ x.ty xM (aSH xM x.ty aI1 ?_ (aI0 _));show wpAny _ _ (ret (.ref I)) _ _ s;exact aRC ⟨_,rfl,"set_iterator", _,x.ty,eF.lookup,q⟩
def aI2 {β : Type} {m : Sem β} {f f' : aW2} {o : Obj} (h0 : s.heap.get? I = some o) (hc : o.cls = .type "set_iterator") (hd : o.data = .fields #[f, .int i 0, .ref a, .int n 0, .int ep 0]) {Q : β → aW3 → Prop}
    (q:∀h',Heap.SameBut I s.heap h'->SIt h' I a f' (i+1) n ep->wpAny (model prog w) A m Q E {s with heap:=h'}):wpAny (model prog w) A (do setField (.ref I) 0 f';setField (.ref I) 1 (rawInt (i+1));m) Q E s:=by
 refine aRD (aT7 h0 hd (by simp) ?_)
 have g1:=aUR (Obj.mapFields (·.setIfInBounds 0 f')) h0 (aUS (aUT hd _));have d1:=aUT hd (·.setIfInBounds 0 f');refine aRD (aT7 (s:={s with heap:=s.heap.update I (Obj.mapFields (·.setIfInBounds 0 f'))}) g1 d1 (by simp) (q _ ((aUB _ I _).trans (aUB _ I _)) ?_))
 refine⟨_,aUR _ g1 (aUS (aUT d1 _)),(aUU ..).trans ((aUU ..).trans hc),?_⟩;rw[aUT d1];simp[rawInt]
def aI3{f:aW2}{o:Obj}(h0:s.heap.get? I=some o)(hc:o.cls=.type "set_iterator")(hd:o.data=.fields #[f,.int i 0,.ref a,.int n 0,.int ep 0]){Q:Unit->aW3->Prop}(q:∀h',Heap.SameBut I s.heap h'->SIt h' I a f (i+1) n ep->Q () {s with heap:=h'}):wpAny (model prog w) A (setField (.ref I) 1 (rawInt (i+1))) Q E s:=by
 refine aT7 h0 hd (by simp) (q _ (aUB _ I _) ⟨_,aUR _ h0 (aUS (aUT hd _)),(aUU ..).trans hc,?_⟩)
 rw[aUT hd];simp[rawInt]
def xO {P : PySem.Fin → aW3 → Prop} {Q : Option aW2 → aW3 → Prop} (hh : A.handled = none) (q : ∀ h', (∀ b o, s.heap.get? b = some o → h'.get? b = some o) → Q none { s with heap := h' }) :
    wpAny (model prog w) A.in1 (do let e <- newExc (.type "StopIteration") [];raiseNew e) P (λe s'=>wpAny (model prog w) A (do let c <- isInstance e (.type "StopIteration");if c=true then pure none else throw e) Q E s') s:=by
 refine aRD ?_;simp only[newExc,newTuple];refine aRD (aSK (aRD (m:=firstArgMember _ _) (aUI (a:=Value.none) (by first|rfl|(simp only[firstArgMember];rfl)) (aSK ?_ (by size_fits)))) (by size_fits))
 simp only[raiseNew];refine aRD (wpAny_handled ?_);rw[show A.in1.handled=none from hh]
 refine aRD (aRC (wpAny_throw (aRD ?_)));exact aS8 (T := "StopIteration") (b:=true) ⟨_,aQP _ rfl,rfl⟩ isSubtype_stop (aRC (q _ λb o e=>hps (hps e)))
def qU{k k':Nat}{x:aW2}{Q:Option aW2->aW3->Prop}(X:SIt s.heap I a (.int k 0) i es.size ep)(ho:s.heap.get? a=some o)(hd:o.data=.set es ep t)(hf:t.fits es.size=true)(hn:∀{A':aW4}{E':VSP}{Q':Option (aW2×Nat)->aW3->Prop},Q' (some (x,k')) s->wpAny (model prog w) A' (setNext a k i ep) Q' E' s)(q:∀h',Heap.SameBut I s.heap h'->SIt h' I a (.int k' 0) (i+1) es.size ep->Q (some x) {s with heap:=h'}):wpAny (model prog w) A (pyNext (.ref I)) Q E s:=by obtain⟨oI,h0,hc,hdI⟩:=id X;unfold pyNext;refine aRD (aUV (aSF (name:=Str.ofString "__next__") X.ty eF (aSH eF X.ty oG ?_ (oH _))));unfold Builtin.«set_iterator.__next__»;refine aRD (m:=slotArgs _ _ _) (aRC (aRD (aUW h0 hdI ?_)));dsimp only;refine aRD (aUX ho hd hf ?_);simp only[aUY,aTA,↓reduceIte,aUZ];refine aRD (hn ?_);dsimp only;exact aI2 h0 hc hdI λh' sb X'=>aRC ⟨_,rfl,aRC (q h' sb X')⟩
def qV{k:Nat}{Q:Option aW2->aW3->Prop}(hh:A.handled=none)(X:SIt s.heap I a (.int k 0) i es.size ep)(ho:s.heap.get? a=some o)(hd:o.data=.set es ep t)(hf:t.fits es.size=true)(hn:∀{A':aW4}{E':VSP}{Q':Option (aW2×Nat)->aW3->Prop},Q' none s->wpAny (model prog w) A' (setNext a k i ep) Q' E' s)(q:∀h',(∀b o,b≠I->s.heap.get? b=some o->h'.get? b=some o)->Q none {s with heap:=h'}):wpAny (model prog w) A (pyNext (.ref I)) Q E s:=by
 obtain⟨oI,h0,hc,hdI⟩:=id X;unfold pyNext;refine aRD (aUV (aSF (name:=Str.ofString "__next__") X.ty eF (aSH eF X.ty oG ?_ (oH _))));unfold Builtin.«set_iterator.__next__»;refine aRD (m:=slotArgs _ _ _) (aRC (aRD (aUW h0 hdI ?_)));dsimp only;refine aRD (aUX ho hd hf ?_);simp only[aUY,aTA,↓reduceIte,aUZ];refine aRD (hn ?_);dsimp only;refine aRD (aT7 h0 hdI (by simp) (xO hh λh' k'=>q h' λb o' nb e=>k' b o' ?_))
 exact(aUB s.heap I _).extBut b o' nb e
def aI4{ps:Array aW2}{p:Nat}{u:Tok}{hx:Int}{x:aW2}{Q:Option aW2->aW3->Prop}(X:SIt s.heap I a (.ref tp) i es.size ep)(ht:s.heap.IsTuple tp ps)(hp:ps[i]? = some (.int p u))(ho:s.heap.get? a=some o)(hd:o.data=.set es ep t)(hf:t.fits es.size=true)(hx:es[p]? = some (hx,x))(q:∀h',Heap.SameBut I s.heap h'->SIt h' I a (.ref tp) (i+1) es.size ep->Q (some x) {s with heap:=h'}):wpAny (model prog w) A (pyNext (.ref I)) Q E s:=by obtain⟨oI,h0,hc,hdI⟩:=id X;obtain⟨ot,hot,hct,nt,hdt⟩:=ht;unfold pyNext;refine aRD (aUV (aSF (name:=Str.ofString "__next__") X.ty eF (aSH eF X.ty oG ?_ (oH _))));unfold Builtin.«set_iterator.__next__»;refine aRD (m:=slotArgs _ _ _) (aRC (aRD (aUW h0 hdI ?_)));dsimp only;refine aRD (aUX ho hd hf ?_);simp only[aUY,aTA,↓reduceIte,aUZ];refine aRD (wpAny_seqItems hot hdt ?_);dsimp only;rw[hp];dsimp only;unfold setNextDrawn;refine aRD (aRD (aUC ho hd hf ?_));simp only[aUY,aTA,↓reduceIte,aUZ,hx];refine aRC (aRD (aI3 h0 hc hdI λh' sb X'=>aRC ⟨_,rfl,aRC (q h' sb X')⟩))
def aI5{ps:Array aW2}{Q:Option aW2->aW3->Prop}(hh:A.handled=none)(X:SIt s.heap I a (.ref tp) i es.size ep)(ht:s.heap.IsTuple tp ps)(hp:ps[i]? = none)(ho:s.heap.get? a=some o)(hd:o.data=.set es ep t)(hf:t.fits es.size=true)(q:∀h',(∀b o,b≠I->s.heap.get? b=some o->h'.get? b=some o)->Q none {s with heap:=h'}):wpAny (model prog w) A (pyNext (.ref I)) Q E s:=by
 obtain⟨oI,h0,hc,hdI⟩:=id X;obtain⟨ot,hot,hct,nt,hdt⟩:=ht;unfold pyNext;refine aRD (aUV (aSF (name:=Str.ofString "__next__") X.ty eF (aSH eF X.ty oG ?_ (oH _))));unfold Builtin.«set_iterator.__next__»;refine aRD (m:=slotArgs _ _ _) (aRC (aRD (aUW h0 hdI ?_)));dsimp only;refine aRD (aUX ho hd hf ?_);simp only[aUY,aTA,↓reduceIte,aUZ];refine aRD (wpAny_seqItems hot hdt ?_);dsimp only;rw[hp];dsimp only;refine aRD (aT7 h0 hdI (by simp) ?_)
 have g1:=aUR (Obj.mapFields (·.setIfInBounds 0 (rawInt 0))) h0 (aUS (aUT hdI _));have d1:=aUT hdI (·.setIfInBounds 0 (rawInt 0));refine aRD (aT7 (s:={s with heap:=s.heap.update I (Obj.mapFields (·.setIfInBounds 0 (rawInt 0)))}) g1 d1 (by simp) (xO hh λh' k'=>q h' λb o' nb e=>k' b o' ?_))
 exact(aUB _ I _).extBut b o' nb ((aUB s.heap I _).extBut b o' nb e)
end
section
variable {A:aW4}{E:VSP}
def aI6{M:Model}{src:Source}{Q:Nat->aW3->Prop}(hn:n≠0)(h:∀i,i<n->Q i {s with drawn:=s.drawn.bump src}):wpAny M A (choose src n) Q E s :=
 λ_ _ _=>⟨hn,h _ (Nat.mod_lt _ (Nat.pos_of_ne_zero hn))⟩
theorem qW{M:Model}{α:Type}:∀{n:Nat}{l:List α}{s:aW3}{Q:List α->aW3->Prop},l.length=n->(∀d l',l'.Perm l->Q l' {s with drawn:=d})->wpAny M A (drawOrder n l) Q E s
 |0,l,s,Q,hl,h=>by have:l=[]:=aUN.mp hl;subst this;unfold drawOrder;exact aRC (h s.drawn [] (.refl _))
 |n+1,[],s,Q,hl,h=>by cases hl
 |n+1,x::l,s,Q,hl,h=>by
  unfold drawOrder;refine aRD (aI6 (by simp) λi hi=>?_)
  rw[aTP hi];dsimp only;refine aRD (qW (by rw[List.length_eraseIdx,if_pos hi];lia) λd l' p=>aRC (h d _ ?_))
  exact(p.cons _).trans (qT hi)
variable  {a:Addr}{o:Obj}{es:Array (Int×aW2)}{t:SetTable}
def xP(hh:A.handled=none)(hne:a≠I)(hd:o.data=.set es ep t)(hf:t.fits es.size=true)(bt:b0 w=true):Walks prog w A I [I,a] [I] es.size (λi v=>((pickOrder (w.params.setOrder a ep) es).map (·.2))[i]? = some v) (λi h=>SIt h I a (.int (0:Nat) 0) i es.size ep/\h.get? a=some o) where
 sub:=λb hb=>by simp at hb;simp[hb]
 frame:=λ_ _ _ st hk=>⟨st.1.at λo e=>hk I (by simp) o e,hk a (by simp) o st.2⟩
 item:=λi s Q E hi st hQ=>by
  have hz:(pickOrder (w.params.setOrder a ep) es).size=es.size:=by rw[<- aQ7,jW.length_eq,aQ7]
  have hx:(pickOrder (w.params.setOrder a ep) es)[i]? = some (pickOrder (w.params.setOrder a ep) es)[i]:=aU0 (by rw[hz];exact hi)
  refine qU (k:=0) (k':=0) st.1 st.2 hd hf (x:=((pickOrder (w.params.setOrder a ep) es)[i]).2) (λ{A' E' Q'} q=>?_) λh' sb X'=>?_
  . unfold setNext setWalk;refine aRD (aUC st.2 hd hf (aRD (fY ?_)));simp only[bt,↓reduceIte,aUY,aTA];refine aRD (aRD (aUC st.2 hd hf (aRD (fY ?_))));simp only[bt,↓reduceIte];refine aRD (aUM (aRC (aRC ?_)));show Q' (Option.map _ (pickOrder (w.params.setOrder a ep) es)[i]?) _;rw[hx];exact q
  . exact hQ _ h' s.toks (by rw[Array.getElem?_map,hx];rfl) ⟨X',sb.extBut a o hne st.2⟩ λb o' hb e=>sb.extBut b o' (λh=>hb (by simp[h])) e
 done:=λs Q E st hQ=>by
  have hz:(pickOrder (w.params.setOrder a ep) es).size=es.size:=by rw[<- aQ7,jW.length_eq,aQ7]
  have hx:(pickOrder (w.params.setOrder a ep) es)[es.size]? = none:=aU1 (by rw[hz];exact aRG _)
  refine qV (k:=0) hh st.1 st.2 hd hf (λ{A' E' Q'} q=>?_) λh' kp=>hQ h' s.toks λb o' hb e=>kp b o' (λh=>hb (by simp[h])) e
  unfold setNext setWalk;refine aRD (aUC st.2 hd hf (aRD (fY ?_)));simp only[bt,↓reduceIte,aUY,aTA];refine aRD (aRD (aUC st.2 hd hf (aRD (fY ?_))));simp only[bt,↓reduceIte];refine aRD (aUM (aRC (aRC ?_)));show Q' (Option.map _ (pickOrder (w.params.setOrder a ep) es)[es.size]?) _;rw[hx];exact q
 self:=λ_ _ _ _ st hQ=>oJ st.1 hQ
def xQ{ps:Array aW2}(hh:A.handled=none)(hne:a≠I)(hnt:tp≠I)(hd:o.data=.set es ep t)(hf:t.fits es.size=true){qs:List Nat}(hq:ps=(qs.map λ(i:Nat)=>rawInt i).toArray)(hp:qs.Perm (List.range es.size)):Walks prog w A I [I,a,tp] [I] es.size (λi v=>∃p hx,qs[i]? = some p/\es[p]? = some (hx,v)) (λi h=>SIt h I a (.ref tp) i es.size ep/\h.get? a=some o/\h.IsTuple tp ps) where
 sub:=λb hb=>by simp at hb;simp[hb]
 frame:=λ_ _ _ st hk=>⟨st.1.at λo e=>hk I (by simp) o e,hk a (by simp) o st.2.1,st.2.2.at λo e=>hk tp (by simp) o e⟩
 item:=λi s Q E hi st hQ=>by
  have hz:qs.length=es.size:=by rw[hp.length_eq,aU2]
  have hi':i<qs.length:=by rw[hz];exact hi
  have hx:qs[i]? = some qs[i]:=aTP hi';have hm:qs[i]<es.size:=aQU.mp (hp.mem_iff.mp (aUD hi'));have he:es[qs[i]]? = some (es[qs[i]].1,es[qs[i]].2):=aU0 hm;refine aI4 st.1 st.2.2 (p:=qs[i]) (u:=0) (by rw[hq,aU3,aR1,hx];rfl) st.2.1 hd hf he λh' sb X'=>?_
  exact hQ _ h' s.toks ⟨_,_,hx,he⟩ ⟨X',sb.extBut a o hne st.2.1,st.2.2.extBut sb.extBut hnt⟩ λb o' hb e=>sb.extBut b o' (λh=>hb (by simp[h])) e
 done:=λs Q E st hQ=>by
  have hz:qs.length=es.size:=by rw[hp.length_eq,aU2]
  refine aI5 hh st.1 st.2.2 (by rw[hq,aU3,aR1,aU4 (by rw[hz];exact aRG _)];rfl) st.2.1 hd hf λh' kp=>hQ h' s.toks λb o' hb e=>kp b o' (λh=>hb (by simp[h])) e
 self:=λ_ _ _ _ st hQ=>oJ st.1 hQ
def xR{p:Nat}:SetTable.below #[p] j=if p<j then 1 else 0:=by
 show SetTable.below.go #[p] j 1 0 1=_;unfold SetTable.below.go;rw[if_pos (by decide)]
 show(if(#[p].getD 0 j)<j then SetTable.below.go #[p] j 0 1 1 else SetTable.below.go #[p] j 0 0 0)=_;rfl
theorem aI7(hh:A.handled=none)(hne:a≠I)(hd:o.data=.set es ep t)(hf:t.fits es.size=true)(bt:b0 w=false)(hl:t.led=true)(h1:es.size<=1):Walks prog w A I [I,a] [I] es.size (λi v=>(es.map (·.2))[i]? = some v) (λi h=>SIt h I a (.int ((if i=0 then 0 else t.place.getD 0 0+1:Nat):Int) 0) i es.size ep/\h.get? a=some o) where
 sub:=λb hb=>by simp at hb;simp[hb]
 frame:=λ_ _ _ st hk=>⟨st.1.at λo e=>hk I (by simp) o e,hk a (by simp) o st.2⟩
 item:=λi s Q E hi st hQ=>by
  have i0:i=0:=by lia
  subst i0;have hz:t.place.size=es.size:=by unfold SetTable.fits at hf;rw[aSJ,aRN]at hf;exact hf.1
  have e1:es.size=1:=by lia
  obtain⟨p,hp⟩:∃p,t.place = #[p]:=⟨t.place[0]'(by lia),by apply Array.ext <;> simp[hz,e1];intro k hk;subst hk;rfl⟩
  obtain⟨⟨hx,x⟩,hes⟩:∃e,es = #[e]:=⟨es[0]'(by lia),by apply Array.ext <;> simp[e1];intro k hk;subst hk;rfl⟩
  subst hes;refine qU (k:=0) (k':=p+1) st.1 st.2 hd hf (x:=x) (λ{A' E' Q'} q=>?_) λh' sb X'=>?_
  . unfold setNext;refine aRD (aUC st.2 hd hf (aRD (fY ?_)));simp only[bt,↓reduceIte,aTA];split
    . rename_i hc;have hc:(!t.plain&&decide (#[(hx,x)].size > 1))=true:=hc;simp at hc
    . show wpAny _ _ ((if(!t.led&&!(#[(hx,x)].isEmpty))=true then _ else _)>>=_) _ _ _;rw[hl];refine aRD (aRC ?_);rw[hp,xR];exact aRC q
  . exact hQ _ h' s.toks (by simp) ⟨by simpa[hp]using X',sb.extBut a o hne st.2⟩ λb o' hb e=>sb.extBut b o' (λh=>hb (by simp[h])) e
 done:=λs Q E st hQ=>by
  have hz:t.place.size=es.size:=by unfold SetTable.fits at hf;rw[aSJ,aRN]at hf;exact hf.1
  refine qV hh st.1 st.2 hd hf (λ{A' E' Q'} q=>?_) λh' kp=>hQ h' s.toks λb o' hb e=>kp b o' (λh=>hb (by simp[h])) e
  unfold setNext;refine aRD (aUC st.2 hd hf (aRD (fY ?_)));simp only[bt,↓reduceIte,aTA];split
  . rename_i hc;have hc:(!t.plain&&decide (es.size > 1))=true:=hc;simp at hc;lia
  . show wpAny _ _ ((if(!t.led&&!(es.isEmpty))=true then _ else _)>>=_) _ _ _;rw[hl];refine aRD (aRC ?_);have hnone:es[SetTable.below t.place (if es.size=0 then 0 else t.place.getD 0 0+1)]? = none:=by
      refine aU1 ?_;by_cases e0:es.size=0
      . rw[e0];exact aRQ _
      . have e1:es.size=1:=by lia
        obtain⟨p,hp⟩:∃p,t.place = #[p]:=⟨t.place[0]'(by lia),by apply Array.ext <;> simp[hz,e1];intro k hk;subst hk;rfl⟩
        rw[if_neg e0,hp,xR];simp[e1]
    rw[hnone];exact aRC q
 self:=λ_ _ _ _ st hQ=>oJ st.1 hQ
def jX{wr:List Addr}{n':Nat}{P P':Nat->aW2->Prop}{St:Nat->Heap->Prop}(W:Walks prog w A I fp wr n P St)(e:n=n')(h:∀i v,P i v->P' i v):Walks prog w A I fp wr n' P' St:=by subst e;exact⟨W.sub,W.frame,λi s Q E hi st hQ=>W.item i s Q E hi st λv h' tk p=>hQ v h' tk (h i v p),W.done,W.self⟩
theorem oK:∀{xs:List Str}{l:List (Int×aW2)},Ent w xs l->StrsAre (l.map (·.2)) xs
 |[],l,h=>by have h:l=[]:=h;subst h;exact .nil
 |x::xs,l,h=>by obtain⟨t,r,rfl,hr⟩:=h;exact .cons x t (oK hr)
theorem aI8{Q:VSP}(hh:A.handled=none)(X:bH w s.heap a xs)(q:∀(I:Addr) (h':Heap) d (fp:List Addr) (items:List aW2) (ys:List Str) (St:Nat->Heap->Prop),Walks prog w A I fp [I] items.length (λi v=>items[i]? = some v) St->St 0 h'->StrsAre items ys->ys.Perm xs->(∀b o,s.heap.get? b=some o->h'.get? b=some o)->s.heap.objs.size<=I->(∀b∈fp,b=a\/s.heap.objs.size<=b)->Q (.ref I) {s with heap:=h',drawn:=d}):wpAny (model prog w) A (pyIter (.ref a)) Q E s:=by
 obtain⟨o,es,ep,t,ho,hex,hd,he,hn,hb,hf,hl,hp⟩:=id X;have la:=X.there;have hz:es.size=xs.length:=by rw[<- aQ7];exact he.length
 refine aUQ X.ty aU5 (aSH aU5 X.ty xN ?_ (PySem.F.args_set_iter_1 _));unfold Builtin.«frozenset.__iter__»;refine aRD (m:=Builtin.Frozenset.slot0 _ _) (aRC (aRD ?_));unfold Builtin.Frozenset.sizeOf;refine aRD (aUX ho hd hf (aRC (aRD ?_)));unfold setDrawn;refine aRD (aUC ho hd hf (aRD (fY (aRC ?_))));dsimp only;have sz:es.size<=sizeLine:=by rw[hz];exact aT9 hb
 split
 . rename_i hc;refine aRD (qW (by simp) λd l' pl=>aRD (wpAny_newTuple ?_ (by rw[aR4,pl.length_eq,aU2];exact sz)))
   have ho1:=aU6 (seqObj "tuple" (l'.map λ(i:Nat)=>rawInt i).toArray 0) ho;refine aRD (aU7 (s:={ s with heap:=s.heap.push (seqObj "tuple" (l'.map λ(i:Nat)=>rawInt i).toArray 0),drawn:=d }) ho1 hd hf (aRD (aSK (aRC ⟨_,rfl,"set_iterator", _,⟨_,aQP _ rfl,rfl⟩,eF.lookup,?_⟩))))
   have ls:(s.heap.push (seqObj "tuple" (l'.map λ(i:Nat)=>rawInt i).toArray 0)).objs.size=s.heap.objs.size+1:=aU8 _ _;have pe:(l'.map λp=>es.getD p (0,.none)).Perm es.toList:=by
    refine(pl.map _).trans (.of_eq ?_);apply aU9
    . simp
    . intro k k1 k2;simp at k1 ⊢;rw[aU0 k1];rfl
   obtain⟨ys,py,ey⟩:=he.perm pe;have W:=xQ (prog:=prog) (w:=w) (A:=A) (I:=(s.heap.push (seqObj "tuple" (l'.map λ(i:Nat)=>rawInt i).toArray 0)).objs.size) (tp:=s.heap.objs.size) hh (by rw[ls];exact aQT (aTV la)) (by rw[ls];exact aQT (aRP _)) hd hf rfl pl
   refine q _ _ d _ ((l'.map λp=>es.getD p (0,.none)).map (·.2)) ys _ (jX W (by simp[pl.length_eq]) λi v hv=>?_) ⟨⟨_,aQP _ rfl,rfl,rfl⟩,hps ho1,⟨_,hps (aQP _ rfl),rfl,_,rfl⟩⟩ (oK ey) py
    (λb o' e=>hps (hps e)) (by rw[ls];exact aT0 _) λb hb=>?_
   . obtain⟨p,hx,e1,e2⟩:=hv;rw[aR1,aR1,e1];simp[aVA,e2]
   . simp only[aQZ,aVB,aT6]at hb;rcases hb with rfl|rfl|rfl
     . right;rw[ls];exact aT0 _
     . left;rfl
     . right;exact aRG _
 . rename_i hc;refine aRD (aRC (aRD (aU7 ho hd hf (aRD (aSK (aRC ⟨_,rfl,"set_iterator", _,⟨_,aQP _ rfl,rfl⟩,eF.lookup,?_⟩))))));have fpx:∀b∈[s.heap.objs.size,a],b=a\/s.heap.objs.size<=b:=λb hb=>by
     simp only[aQZ,aVB,aT6]at hb;rcases hb with rfl|rfl
     . right;exact aRG _
     . left;rfl
   cases bt:b0 w with
   |true =>
    obtain⟨ys,py,ey⟩:=he.perm (jW (next:=w.params.setOrder a ep) (xs:=es));have W:=xP (prog:=prog) (w:=w) (A:=A) (I:=s.heap.objs.size) hh (aQT la) hd hf bt;refine q _ _ s.drawn _ ((pickOrder (w.params.setOrder a ep) es).toList.map (·.2)) ys _ (jX W (by rw[aR4,jW.length_eq,aQ7]) λi v hv=>?_) ⟨⟨_,aQP _ rfl,rfl,rfl⟩,hps ho⟩ (oK ey) py (λb o' e=>hps e) (aRG _) fpx
    rw[<- hv];simp
   |false =>
    have h1:es.size<=1:=by
     have hc:¬ (!b0 w&&(!t.plain&&decide (es.size > 1)))=true:=hc;rw[bt]at hc;rcases hp with rfl|hp
     . rw[hz];exact aRQ _
     . rw[hp]at hc;simp at hc;lia
    have W:=aI7 (prog:=prog) (w:=w) (A:=A) (I:=s.heap.objs.size) hh (aQT la) hd hf bt (by rw[hl,bt];rfl) h1
    refine q _ _ s.drawn _ (es.toList.map (·.2)) xs _ (jX W (by simp) λi v hv=>?_) ⟨⟨_,aQP _ rfl,rfl,rfl⟩,hps ho⟩ (oK he) (.refl _) (λb o' e=>hps e) (aRG _) fpx
    rw[<- hv];simp
end
section
variable {A:aW4}{E:VSP}{a:Addr}
def xS(ty:s.TypeIs (.ref a) "set")(q:Q false s):wpAny (model prog w) A (Builtin.List.listLengthHint (.ref a)) Q E s:=by
 unfold Builtin.List.listLengthHint;refine aRD (aS2 ty PySem.F.slot_set_len.lookup ?_);generalize hi:("set.__len__":String)=j
 wp_delta
 rw[show splitId j=some ("set", "__len__")from by subst hi;decide +kernel]
 subst hi;refine aRD (aS8 ty aUL ?_);refine aVC (λx=>absurd x (by decide)) (λ_=>aVC (λ_=>?_) (λx=>absurd (by decide +kernel) x))
 exact aRD (aSI ty (aRC q))
theorem xT{items:List aW2}{acc:Array aW2}(h:ItemsOf (λi v=>items[i]? = some v) acc items.length):acc.toList=items:=by
 apply List.ext_getElem?;intro j;by_cases hj:j<items.length
 . have e1:acc[j]? = some (acc[j]'(by rw[h.1];exact hj)):=aU0 _
   rw[aSQ,e1];exact(h.2 j _ e1).symm
 . have z1:acc.toList.length=items.length:=by rw[aQ7];exact h.1
   rw[aU4 (l:=acc.toList) (by lia),aU4 (l:=items) (by lia)]
def ext_x{R:Result->aW3->Prop}(hh:A.handled=none)(X:bH w s.heap a xs)(S:Addr)(hSa:S≠a)(res:aW2)(hS:s.heap.get? S=some { cls:=.type "list", data:=.seq #[] })(hR:∀h' d tk vs ys c,(∀b o,b≠S->s.heap.get? b=some o->h'.get? b=some o)->h'.get? S=some { cls:=.type "list", dict:=none,data:=.seq vs c,slots:=#[] } -> StrsAre vs.toList ys->ys.Perm xs->R (.ok (.ret res)) {s with heap:=h',drawn:=d,toks:=tk}):wpAny (model prog w) A.in1 (Builtin.List.listExtendWith (.ref S) (.ref a) res) (λfin s'=>match fin with|.done f=>R (.ok f) s'|.again c'=>c'.quiet=true/\codeAny (model prog w) A c' R s') (λe s'=>R (.error e) s') s:=by
 have hb:xs.length<=sizeLine:=by obtain⟨o,es,ep,t,ho,hex,hd,he,hn,hb,r⟩:=X;exact aT9 hb
 unfold Builtin.List.listExtendWith;refine aRD (aSI X.ty ?_);have n1:Builtin.List.listSameRef (.ref S) (.ref a)=false:=by simp[Builtin.List.listSameRef,hSa]
 have n2:(Value.type "set" == Value.type "list")=false:=by decide
 have n3:(Value.type "set" == Value.type "tuple")=false:=by decide
 simp only[n1,n2,n3,aSL,aTA,↓reduceIte];refine aRD (aI8 (A:=A.in1) hh X λI h1 d fp items ys St W st sa py kp hI hfp=>?_);have lS:S<s.heap.objs.size:=aQQ hS;have hSf:S∉fp:=λhm=>(hfp S hm).elim hSa λh=>absurd lS (aTW.mpr h);have hSI:S≠I:=λe=>absurd lS (aTW.mpr (e ▸ hI));have hil:items.length<=sizeLine:=by rw[sa.length,py.length_eq];exact hb
 have hS1 := kp S _ hS; have key : ∀ (h : Heap) (c : Nat), St 0 h → (∀ b o, b ≠ S → s.heap.get? b = some o → h.get? b = some o) → h.get? S = some { cls := .type "list", data := .seq #[] c } →
     codeAny (model prog w) A (.builtin "list.extend.loop" ⟨[.ref S,.ref I,res],[]⟩) R {s with heap:=h,drawn:=d}:=by
  intro h c st' k' hS';refine codeAny_extend_loopS W.toS hil S hSf res items.length 0 _ #[] c rfl (aRQ _) st' hS' (ItemsOf.nil _) λs' acc c' hm hS2 hacc=>?_;rw[Moved.eq_with hm];refine hR s'.heap d s'.toks acc ys c' (λb o nb e=>hm.heap b o (λhx=>?_) (k' b o nb e)) hS2 (by rw[xT hacc];exact sa) py
  rcases aQZ.mp hx with e'|hx
  . exact nb e'
  . exact absurd (aQQ e) (by rw[aT2.mp hx];exact aTW.mpr hI)
 refine aRD (aSE (xS (s:={s with heap:=h1,drawn:=d}) (bH.ty (s:={s with heap:=h1,drawn:=d}) (X.kept λo e=>kp a o e)) ?_))
 refine aVC (λ_=>?_) (λ_=>aRC ⟨aUG aVD _,key h1 0 st (λb o _ e=>kp b o e) hS1⟩);refine aRD (aS6 (aRD ?_));show wpAny _ _ (updateSeq S (·.push Value.none)>>=λ_=>updateSeq S (·.pop)) _ _ {s with heap:=h1,drawn:=d}
 refine aRD (aVE (s:={s with heap:=h1,drawn:=d}) hS1 rfl ?_)
 have hS2:=aUR (Obj.mapSeq (·.push Value.none)) hS1 rfl;refine aVE (hz:=by seq_fits) hS2 rfl ?_
 have hS3:=aUR (Obj.mapSeq (·.pop)) hS2 rfl;have oth:∀b,b≠S->∀o,h1.get? b=some o->((h1.update S (Obj.mapSeq (·.push Value.none))).update S (Obj.mapSeq (·.pop))).get? b=some o:=λb nb o e =>
  (aSP _ _ (Ne.symm nb)).trans ((aSP _ _ (Ne.symm nb)).trans e)
 exact aRC ⟨aUG aVD _,key _ _ (W.frame 0 _ _ st λb hb o e=>oth b (λh=>hSf (h ▸ hb)) o e) (λb o nb e=>oth b nb o (kp b o e)) hS3⟩
def aI9(hh:A.handled=none)(X:bH w s.heap a xs)(h:∀h' d tk vs ys,(∀b o,s.heap.get? b=some o->h'.get? b=some o)->s.heap.objs.size<h'.objs.size->StrsAre vs ys->ys.Perm xs->R vs {s with heap:=h',drawn:=d,toks:=tk}):wpAny (model prog w) A (collect (.ref a)) R E s:=by
 have la:=X.there;unfold collect;refine aRD (aVF (aUJ aVG ?_));rw[aUK aVH _];show wpAny (model prog w) A.in1 (newList []>>=λl=>again (.builtin "list.__iadd__" ⟨[l,.ref a],[]⟩)) _ _ s;refine aRD (aSK (aRC ⟨aUG aVI _,aUJ aVJ ?_⟩));rw[aUK aVI _];have g0:(s.heap.push { cls:=.type "list", data:=.seq ([]:List Value).toArray }).get? s.heap.objs.size=some { cls:=.type "list", data:=.seq #[] }:=aQP _ rfl;show wpAny (model prog w) A.in1 (Builtin.List.listExtendWith (.ref s.heap.objs.size) (.ref a) (.ref s.heap.objs.size)) _ _ _;have key:=ext_x (A:=A) (prog:=prog) (s:={ s with heap:=s.heap.push { cls:=.type "list", data:=.seq ([]:List Value).toArray } })
  (R:=λq s'=>∃h' d tk vs ys c,q=.ok (.ret (.ref s.heap.objs.size))/\s'={s with heap:=h',drawn:=d,toks:=tk}/\(∀b o,s.heap.get? b=some o->h'.get? b=some o)/\h'.get? s.heap.objs.size=some { cls:=.type "list", dict:=none,data:=.seq vs c,slots:=#[] }/\StrsAre vs.toList ys/\ys.Perm xs)
  hh (X.kept λo e=>hps e) s.heap.objs.size (aRB la) (.ref s.heap.objs.size) g0
  λh' d tk vs ys c kp gS sa py=>⟨h',d,tk,vs,ys,c,rfl,rfl,λb o e=>kp b o (aQT (aQQ e)) (hps e),gS,sa,py⟩
 refine aQ5 key (λf s' x=>?_) λe s' x=>?_
 . cases f with
   |done f=>obtain⟨h',d,tk,vs,ys,c,e,rfl,kp,gS,sa,py⟩:=x;cases e;show wpAny _ A (load s.heap.objs.size>>=_) _ _ _;exact aRD (aRE gS (aRC (h h' d tk vs.toList ys kp (aQQ gS) sa py)))
   |again c1=>refine⟨x.1,aSY x.2 λq s2 y=>?_⟩;obtain⟨h',d,tk,vs,ys,c,rfl,rfl,kp,gS,sa,py⟩:=y;show wpAny _ A (load s.heap.objs.size>>=_) _ _ _;exact aRD (aRE gS (aRC (h h' d tk vs.toList ys kp (aQQ gS) sa py)))
 . obtain⟨_,_,_,_,_,_,e',_⟩:=x;cases e'
theorem aJA{Q:VSP}(hh:A.handled=none)(X:bH w s.heap a xs)(h64:xs.length<64)(h:∀h' d tk D out e ys,(∀b o,s.heap.get? b=some o->h'.get? b=some o)->s.heap.objs.size<=D->h'.get? D=some (seqObj "list" out e)->StrsAre out.toList ys->ys.Perm xs->PyProof.Rows.sortedS ys=true->Q (.ref D) {s with heap:=h',drawn:=d,toks:=tk}):wpAny (model prog w) A (call (.builtin "sorted") [.ref a]) Q E s:=by
 refine aVK aVL aVM aVN (aVO (.ref a)) ?_;unfold Builtin.«sorted»;refine aRD (m:=checkCount "sorted" 1 1 [Value.ref a].length) (aRC (aRD (aI9 (A:=A.in1) hh X λh1 d tk vs ys kp lh sa py=>?_)));have lv:vs.length=xs.length:=by rw[sa.length,py.length_eq]
 refine aRD (aVP ?_ (by rw[lv,aRK];lia))
 have g1:(h1.push (seqObj "list" vs.toArray 0)).get? h1.objs.size=some (seqObj "list" vs.toArray 0):=aQP _ rfl;have k1:∀b o,s.heap.get? b=some o->b<h1.objs.size:=λb o e=>aQQ (kp b o e);refine aRD (aSE (aSH aVQ ⟨_,g1,rfl⟩ aVR (list_sort_treeK strKind_oneLt (s:={ s with heap:=h1.push (seqObj "list" vs.toArray 0),drawn:=d,toks:=tk }) g1 sa.keysOf (λv1 v2 r e=>keyKind_strs (by rw[<- e];exact sa)) (by rw[lv];exact h64) λst' p1 p2=>⟨_,rfl,?_⟩) (aVS _)))
 obtain⟨zs,z1,z2,z3⟩:=sorted_out_str sa p1 p2;obtain⟨e,he⟩:=sortedHeap_at (out:=(arrOf st').map (·.2)) g1;refine aRC ⟨_,rfl,h _ d tk _ _ e zs (λb o hb=>?_) (aQX lh) he z1 (z2.trans py) z3⟩;have lb:=k1 b o hb;rw[sortedHeap_old (aQT lb) (by rw[aU8];exact aTV lb)]
 exact hps (kp b o hb)
end
noncomputable def lts(x y:Str):Bool:=ltCps x.cps.toList y.cps.toList
def jY:lts x y=true↔x.cps.toList<y.cps.toList:=by unfold lts;rw[ltCps_eq,aTC]
def hV(x:Str):lts x x=false:=by
 cases h:lts x x with
 |false=>rfl
 |true=>exact absurd (jY.mp h) (List.lt_irrefl _)
def lW(a:lts x y=true)(b:lts y z=true):lts x z=true:=jY.mpr (List.lt_trans (jY.mp a) (jY.mp b))
def jZ(a:lts x y=false)(b:lts y x=false):x=y:=by
 have h1:¬ x.cps.toList<y.cps.toList:=λh=>by rw[jY.mpr h]at a;cases a
 have h2:¬ y.cps.toList<x.cps.toList:=λh=>by rw[jY.mpr h]at b;cases b
 have e:=List.le_antisymm (List.not_lt.mp h2) (List.not_lt.mp h1);cases x;cases y;exact congrArg Str.mk (Array.ext' e)
def iV(l:List Str):Prop:=l.Pairwise λx y=>lts x y=true
theorem qX:∀{l:List Str}{p:Str},risingS p l=true->∀x∈l,lts x p=false
 |y::l,p,h,x,hx=>by
  have h:(!lts y p&&risingS y l)=true:=h;rw[aSJ,aVT]at h;rcases aQZ.mp hx with rfl|hx
  . exact h.1
  . have h2:=qX h.2 x hx;cases q:lts x p with
    |false=>rfl
    |true =>
     cases q2:lts p y with
     |true=>rw[lW q q2]at h2;cases h2
     |false=>have:=jZ q2 h.1;subst this;rw[q]at h2;cases h2
theorem xU:∀{l:List Str},sortedS l=true->l.Nodup->iV l
 |[],_,_=>.nil
 |x::l,h,n=>by
  obtain⟨n1,n2⟩:=aRU.mp n;refine aVU.mpr ⟨λy hy=>?_,xU ?_ n2⟩
  . have h1:=qX (show risingS x l=true from h) y hy
    cases q:lts x y with
    |true=>rfl
    |false=>exact absurd (jZ q h1 ▸ hy) n1
  . cases l with
    |nil=>rfl
    |cons y l=>have h:(!lts y x&&risingS y l)=true:=h;rw[aSJ]at h;exact h.2
theorem oM:∀{l l':List Str},iV l->iV l'->(∀y,y∈l↔y∈l')->l=l'
 |[],[],_,_,_=>rfl
 |[],x::l',_,_,h=>absurd ((h x).mpr mcs) (by simp)
 |x::l,[],_,_,h=>absurd ((h x).mp mcs) (by simp)
 |x::l,y::l',s,s',h=>by
  obtain⟨s1,s2⟩:=aVU.mp s;obtain⟨t1,t2⟩:=aVU.mp s';have e:x=y:=by
   rcases aQZ.mp ((h x).mp mcs)with e|hx
   . exact e
   . rcases aQZ.mp ((h y).mpr mcs)with e|hy
     . exact e.symm
     . have:=lW (t1 x hx) (s1 y hy);rw[hV]at this;cases this
  subst e;rw[oM s2 t2 λz=>?_];constructor
  . intro hz;rcases aQZ.mp ((h z).mp (mcm hz))with e|h'
    . subst e;have:=s1 z hz;rw[hV]at this;cases this
    . exact h'
  . intro hz;rcases aQZ.mp ((h z).mpr (mcm hz))with e|h'
    . subst e;have:=t1 z hz;rw[hV]at this;cases this
    . exact h'
def hW(x:Str):List Str->List Str
 |[]=>[x]
 |y::l=>if x=y then y::l else if lts x y=true then x::y::l else y::hW x l
theorem qY{x z:Str}:∀{l:List Str},z∈hW x l↔z=x\/z∈l
 |[]=>by simp[hW]
 |y::l=>by
  unfold hW;split
  . rename_i e;subst e;simp
  . split
    . simp
    . rw[aQZ,qY,aQZ];exact⟨λh=>h.elim (λe=>.inr (.inl e)) λh=>h.imp id .inr,λh=>h.elim (λe=>.inr (.inl e)) λh=>h.imp id .inr⟩
theorem xV{x:Str}:∀{l:List Str},iV l->iV (hW x l)
 |[],_=>aVV _ _
 |y::l,s=>by
  obtain⟨s1,s2⟩:=aVU.mp s;unfold hW;split
  . exact s
  . rename_i ne;split
    . rename_i lt;exact aVU.mpr ⟨λz hz=>(aQZ.mp hz).elim (λe=>e ▸ lt) λh=>lW lt (s1 z h),s⟩
    . rename_i nl;refine aVU.mpr ⟨λz hz=>?_,xV s2⟩;rcases qY.mp hz with rfl|hz
      . cases q:lts y z with
        |true=>rfl
        |false=>exact absurd (jZ (by simpa using nl) q) ne
      . exact s1 z hz
def uni(l:List Str):List Str:=l.foldr hW []
theorem gP{z:Str}:∀{l:List Str},z∈uni l↔z∈l
 |[]=>by simp[uni]
 |x::l=>by show z∈hW x (uni l)↔_;rw[qY,gP,aQZ]
theorem j0:∀(l:List Str),iV (uni l)
 |[]=>.nil
 |x::l=>xV (j0 l)
def sx(w:aW5)(l:Addr)(ys:List Str):HO:=.ext λh=>bH w h l ys
def xW{l:Addr}(x:bH w h l ys):bC P w H h l (sx w l ys):=by
 refine⟨x,?_,λh1 h2 x1 k=>bH.kept (show bH w h1 l ys from x1) k⟩
 obtain⟨o,es,ep,t,ho,r⟩:=x;exact⟨o,ho⟩
theorem oN:∀{ys:List Str}{us:List aW2},StrsAre us ys->aH (ys.map V.str) us
 |[],_,.nil=>.nil
 |_::ys,_,.cons y t h=>.cons ⟨t,rfl⟩ (oN h)
def Inv.drew(I:L2.Inv X aA σ H s)(d:Drawn):L2.Inv X aA σ H {s with drawn:=d} :=
 ⟨I.ok,I.os,I.bare,I.base,I.loc,I.cell,I.free,I.freeC,I.pin,I.hok,I.len⟩
def rSrt(X:Cx):List V->Hp->VK->Prop:=λxs H Q=>∃(a:Addr) (zs:List Str),xs=[.ref a]/\H a=some (sx X.w a zs)/\zs.Nodup/\zs.length<64/\∀l,H l=none->Q (.ref l) (upd H l (.lst ((uni zs).map V.str)))
theorem aJB(hc:X.calm=true):bY X (.builtin "sorted") (rSrt X):=by
 intro aA s σ H xs us Q I r h;obtain⟨a,zs,rfl,ha,hn,hz,q⟩:=h;obtain⟨u,rfl,rx⟩:=cE r;cases rx;have xa:bH X.w s.heap a zs:=(I.hok a _ ha).1;refine aJA (I.ok.hd hc) xa hz λh' d tk D out e ys kp hD g sa py so=>?_;have e1:uni zs=ys:=oM (j0 zs) (xU so (py.symm.nodup hn)) λy=>by rw[gP,py.mem_iff]
 have rv:aH (ys.map V.str) out.toList:=oN sa;have le:((uni zs).map V.str).length<=sizeLine:=by rw[aR4,e1,py.length_eq,aRK];lia
 exact⟨.ref D,_,Inv.drew (I.laid (t':=tk) kp hD (show bC X.prog X.w _ h' D (.lst ((uni zs).map V.str))from⟨le,out.toList,e,by rw[e1];exact rv,by simpa using g⟩)) d,rfl,q D (I.hok.fresh hD)⟩
def aJC:bootBuiltins "set" = some (.type "set"):=by decide +kernel
def xX:bootBuiltins "sorted" = some (.builtin "sorted"):=by decide +kernel
def txD:List D->Option (List Str)
 |[]=>some []
 |.str x::ds=>(txD ds).map (x :: ·)
 |_::_=>none
def txT:D->Option (List Str)
 |.tup ds=>txD ds
 |_=>none
theorem qZ{K:Fg}{F:Hp}:∀{ds:List D}{xs:List V}{ns:List Str},txD ds=some ns->aC K F ds xs->xs=ns.map V.str/\∀x∈ns,x.length<=sizeLine/\PyData.strOk x=true
 |[],xs,ns,e,r=>by cases e;simp only[aC]at r;subst r;exact⟨rfl,λx hx=>by cases hx⟩
 |d::ds,xs,ns,e,r=>by
  cases d with
  |str x =>
   simp only[txD]at e;cases q:txD ds with
   |none=>rw[q]at e;cases e
   |some ms=>rw[q]at e;cases e;simp only[aC]at r;obtain⟨v,vs,rfl,rv,rr⟩:=r;obtain⟨rfl,h2⟩:=qZ q rr;simp only[aB]at rv;obtain⟨rfl,h1⟩:=rv;exact⟨rfl,λy hy=>(aQZ.mp hy).elim (λe=>by subst e;exact h1) (h2 y)⟩
  |_=>cases e
theorem oO{K:Fg}{F:Hp}:∀{ns:List Str},(∀x∈ns,x.length<=sizeLine/\PyData.strOk x=true)->aC K F (ns.map .str) (ns.map V.str)
 |[],_=>by simp[aC]
 |x::ns,h=>by simp only[aSV,aC,aB];exact⟨_,_,rfl,⟨rfl,h x mcs⟩,oO λy hy=>h y (mcm hy)⟩
section
variable  {eb:Expr}
def aJD{F:Hp}{m:Md}{d:D}{ns:List Str}(s:aD F H)(r:Rp K F H m d v)(e:txT d=some ns):(∃a,v=.ref a/\SqT K H a (ns.map V.str))/\∀x∈ns,x.length<=sizeLine/\PyData.strOk x=true:=by
 cases d with
 |tup ds=>obtain⟨a,xs,rfl,h1,h2⟩:=aIB r;obtain⟨rfl,h3⟩:=qZ e h2;exact⟨⟨a,rfl,aD.seqT s h1⟩,h3⟩
 |_=>cases e
end
section
variable  {eb:Expr}{q2:Pos}
end
section
variable {A:aW4}{E:VSP}{l:Addr}
end
def joinT:Md->D->List (Md×D)->Option (Md×D):=λ_ x xs=>match x,xs with
 |.str z,[(_,d)]=>(match txT d with
  |some ys=>if(ys.map (·.length)).sum+ys.length * z.length<=sizeLine then some (.fz,.str (Txt.join z ys))else none
  |none=>none)
 |_,_=>none
theorem aJE:MtD X "str.join" joinT:=by
 refine⟨λv vs H Q=>∃(z:Str) (a:Addr) (ys:List Str),v=.str z/\vs=[.ref a]/\SqT X.K H a (ys.map V.str)/\(ys.map (·.length)).sum+ys.length * z.length<=sizeLine/\Q (.str (Txt.join z ys)) H,?_,?_⟩
 . intro aA s σ H x xs v us Q I rx r h;obtain⟨z,a,ys,rfl,rfl,hq,hl,q⟩:=h;obtain⟨t,rfl⟩:=rx;obtain⟨u,rfl,ru⟩:=cE r;cases(show u=Value.ref a from ru)
   obtain⟨its,rv,p,hz⟩:=I.tuple hq;have hs:sizeLine=16777216:=aRK;exact join_tuple p (by simpa using lM rv) (by lia) λt' k=>⟨.str (Txt.join z ys),H,I.tok _,⟨_,rfl⟩,q⟩
 . intro F H m x xs v vs k d Q s rx rl e w;unfold joinT at e;split at e
   . rename_i z m' dd;obtain⟨rfl,hz,hk⟩:=rx.str;obtain⟨u,rfl,r⟩:=rl.one;split at e
     . rename_i ys ey;obtain⟨⟨a,rfl,hq⟩,hys⟩:=aJD s r ey;split at e
       . rename_i hl;cases e;refine⟨z,a,ys,rfl,rfl,hq,hl,w _ F H (.refl s) (eO ⟨?_,?_⟩) (by nofun)⟩
         . rw[n8];exact aQW (StrLaws.join_length_le z ys) hl
         . rw[n8];exact qK hk λy hy=>(hys y hy).2
       . cases e
     . cases e
   . cases e
section
variable {A:aW4}{R:Result->aW3->Prop}{b:Bool}{tg2 uQ:Expr}{it acc:aW2}
end
def AllF(ρ:Rho):Prop:=∀(i:Nat) (m:Bool) (d:D),ρ[i]? = some (some (m,d))->m=false
def AR(K:Fg)(w:aW5)(b:Bool)(Da:Addr)(F:Hp)(zs:List D)(o:HO):Prop:=match b with
 |true=>∃ys,o=.lst ys/\aC K F zs ys
 |false=>∃(ns ys:List Str),zs=ns.map .str/\o=sx w Da ys/\ys.Nodup/\ys.length<=ns.length/\(∀x,x∈ys↔x∈ns)/\∀x∈ns,x.length<=sizeLine/\PyData.strOk x=true
def isStrD:D->Bool|.str _=>true|_=>false
def limA(b:Bool):Nat:=match b with|true=>sizeLine|false=>scanBound-1
def emK(w:aW5)(b:Bool)(Da:Addr)(y:V)(H4:Hp)(R:Hp->Prop):Prop:=match b with
 |true=>∃ys,H4 Da=some (.lst ys)/\ys.length<sizeLine/\R (upd H4 Da (.lst (ys++[y])))
 |false=>∃x ys,y=.str x/\H4 Da=some (sx w Da ys)/\ys.length+1<scanBound/\∀ys',ys'.Nodup->(∀z,z∈ys'↔z∈ys\/z=x)->ys'.length<=ys.length+1->R (upd H4 Da (sx w Da ys'))
section
variable  {uQ tg2:Expr}{gt gi2:Rho->Res}
variable (hc : X.calm = true) (hi : PIv C X tg aT gi) (cU : ∀ y ∈ scope.names, y.2 ≠ .cell) (dP : scope.kind = .function) (fR : ∀ y ∈ scope.names, y.2 = .local → scope.names.lookup y.1 = some .local)
    (dQ:∀y∈scope.names,y.2=.free->X.env.kindOf y.1=some .cell\/X.env.kindOf y.1=some .free)
    (eM:aI.map some=aE.map λi=>X.N[i]?) (fU:∀y∈aI,(y,NameKind.free)∈scope.names)
    (fT:∀y∈aI,(relabel scope X.env).names.lookup y=some .cell\/(relabel scope X.env).names.lookup y=some .free)
    (hn:tgN.length=2)
    (hg:∀cl A fp s3 H3,PGw (bE X scope (aI++tgN) cl A fp s3 H3) tg (.nm aE.length)) (hf:∀cl A fp s3 H3,dJ (bE X scope (aI++tgN) cl A fp s3 H3) ifs (tT (C.nox.at X) gt))
    (hi2:∀cl A fp s3 H3,PIv C.nox (bE X scope (aI++tgN) cl A fp s3 H3) tg2 uQ gi2) (hg2:∀cl A fp s3 H3,PGw (bE X scope (aI++tgN) cl A fp s3 H3) tg2 (.nm (aE.length+1)))
    (he:∀cl A fp s3 H3,PV C.nox (bE X scope (aI++tgN) cl A fp s3 H3) elt ge)
    (hs:∀x,foldedSetIterable aT X.env x=pure x) (hs2:∀env x,foldedSetIterable uQ env x=pure x)
include hc hi cU dP fR dQ eM fU fT hn hg hf hi2 hg2 he hs hs2
end
open PySem.W
section
variable {lt:Nat->Nat->Bool}{cmp:Nat->Nat->(Bool->aW3->Prop)->aW3->Prop}{J:aW3->Prop}
def Upto(lt:Nat->Nat->Bool)(p:Array Nat)(b:Nat):Prop:=∀i j,i<j->j<b->lt (p.getD i 0) (p.getD j 0)=true
def gQ(n:Nat)(lt:Nat->Nat->Bool)(cmp:Nat->Nat->(Bool->aW3->Prop)->aW3->Prop)(J:aW3->Prop):Prop:=∀i j s C,i<n->j<n->J s->(∀s',J s'->C (lt i j) s')->cmp i j C s
end
section
variable {A:aW4}{E:VSP}
end
def oP(d:α):∀(l:List α),(List.range l.length).map (λi=>l.getD i d)=l:=λl=>by
 apply aU9
 . simp
 . intro i h1 h2;simp at h1;simp[h1]
section
variable {A:aW4}{E:VSP}
end
theorem rA{α:Type}{K:Fg}{F:Hp}{f:α->D}{g:α->V}:∀{q:List α},(∀i∈q,aB K F (f i) (g i))->aC K F (q.map f) (q.map g)
 |[],_=>aC.nil
 |i::q,h=>aC.cons (h i mcs) (rA λj hj=>h j (mcm hj))
theorem xY{α:Type}{g:α->V}{u:α->aW2}:∀{q:List α},(∀i∈q,aJ (g i) (u i))->aH (q.map g) (q.map u)
 |[],_=>.nil
 |i::q,h=>.cons (h i mcs) (xY λj hj=>h j (mcm hj))
theorem xZ:∀{xs:List V}{us:List aW2}{i:Nat},aH xs us->i<xs.length->aJ (xs.getD i .non) (us.getD i .none)
 |[],_,i,h,e=>by simp at e
 |x::xs,_,0,h,e=>by cases h with|cons r t=>exact r
 |x::xs,_,i+1,h,e=>by
  cases h with
  |cons r t =>
   have:=xZ (i:=i) t (by simpa using e)
   simpa using this
open PySem.SeqAt PySem.MeetsSeq
section
variable  {o:Expr}{ty:TE}
end
section
variable  {o:Expr}{go:Rho->Res}
end
def epO(o:Obj):Nat:=match o.data with|.dict _ ep=>ep|_=>0
section
variable  {d m:Str}{p0 p3 p4 p5 p6 p7 p8 p9:Pos}{jd jm k0:Nat}
end
end D3
namespace L2
open D3
end L2
namespace D3
abbrev dO(xs:Array Nat):Prop:=xs.toList.Pairwise (· < ·)
def oQ{xs:Array Nat}(h:dO xs){v u:Nat}(hi:xs[i]? = some v)(hj:xs[j]? = some u)(hl:i<j):v<u:=by rw[<- aSQ]at hi hj;obtain⟨h1,e1⟩:=aQ2.mp hi;obtain⟨h2,e2⟩:=aQ2.mp hj;rw[<- e1,<- e2];exact List.pairwise_iff_getElem.mp h i j h1 h2 hl
theorem rB{xs:Array Nat}(h:dO xs)(j:Nat):∀(f lo hi:Nat),hi<=lo+f->lo<=hi->hi<=xs.size->(∀k v,k<lo->xs[k]? = some v->v<j)->(∀k v,hi<=k->xs[k]? = some v->j<=v)->SetTable.below.go xs j f lo hi<=xs.size/\(∀k v,k<SetTable.below.go xs j f lo hi->xs[k]? = some v->v<j)/\∀k v,SetTable.below.go xs j f lo hi<=k->xs[k]? = some v->j<=v
 |0,lo,hi,hf,hl,hs,h1,h2=>by
  have:lo=hi:=by lia
  subst this;exact⟨hs,h1,h2⟩
 |f+1,lo,hi,hf,hl,hs,h1,h2=>by
  unfold SetTable.below.go;split
  . rename_i hlt;dsimp only;have hm:(lo+hi) / 2<xs.size:=by lia
    have em:xs[(lo+hi) / 2]? = some xs[(lo+hi) / 2]:=aU0 hm;have eg:xs.getD ((lo+hi) / 2) j=xs[(lo+hi) / 2]:=by rw[aVA,em];rfl
    rw[eg];split
    . rename_i hv;refine rB h j f _ _ (by lia) (by lia) hs (λk v hk e=>?_) h2
      by_cases hk2:k=(lo+hi) / 2
      . subst hk2;rw[em]at e;cases e;exact hv
      . exact aSX (oQ h e em (by lia)) hv
    . rename_i hv;refine rB h j f _ _ (by lia) (by lia) (by lia) h1 λk v hk e=>?_
      by_cases hk2:k=(lo+hi) / 2
      . subst hk2;rw[em]at e;cases e;lia
      . have:=oQ h em e (by lia);lia
  . have:lo=hi:=by lia
    subst this;exact⟨hs,h1,h2⟩
theorem oR{xs:Array Nat}(h:dO xs)(j:Nat):SetTable.below xs j<=xs.size/\(∀k v,k<SetTable.below xs j->xs[k]? = some v->v<j)/\∀k v,SetTable.below xs j<=k->xs[k]? = some v->j<=v :=
 rB h j _ _ _ (by lia) (aRQ _) (aRG _) (λk v hk=>absurd hk (Nat.not_lt_zero _)) λk v hk e=>by rw[aU1 hk]at e;cases e
theorem aJF{xs:Array Nat}(h:dO xs):SetTable.below xs 0=0:=by
 obtain⟨a,b,c⟩:=oR h 0;by_cases h0:SetTable.below xs 0=0
 . exact h0
 . have:=b 0 (xs[0]'(by lia)) (by lia) (aU0 _)
   lia
theorem aJG{xs:Array Nat}(h:dO xs){p:Nat}(e:xs[i]? = some p):SetTable.below xs (p+1)=i+1:=by
 obtain⟨a,b,c⟩:=oR h (p+1);have hi:i<xs.size:=by
  rcases aVW i xs.size with q|q
  . exact q
  . rw[aU1 q]at e;cases e
 have h1:i<SetTable.below xs (p+1):=by
  rcases aVW i (SetTable.below xs (p+1))with q|q
  . exact q
  . have:=c i p q e;lia
 by_cases h2:SetTable.below xs (p+1)=i+1
 . exact h2
 . have hl:i+1<xs.size:=by lia
   have e2:xs[i+1]? = some xs[i+1]:=aU0 hl;have u1:=b (i+1) _ (by lia) e2
   have u2:=oQ h e e2 (aRP _);lia
def PlOk(t:SetTable):Prop:=t.plain=false\/(t.dummies = #[]/\dO t.place)
theorem aJH{xs:Array Nat}(h:dO xs)(hn:xs[SetTable.below xs j]?≠some j):j∉xs.toList:=λhm=>by
 obtain⟨k,hk,e⟩:=aVX hm;have ek:xs[k]? = some j:=by rw[<- aSQ,aTP hk,e]
 obtain⟨a,b,c⟩:=oR h j;have hk':k<xs.size:=by simpa using hk
 rcases aVW k (SetTable.below xs j)with q|q
 . have:=b k j q ek;lia
 . have hb:SetTable.below xs j<xs.size:=by lia
   have eb:xs[SetTable.below xs j]? = some xs[SetTable.below xs j]:=aU0 hb;have v1:=c _ _ (aRG _) eb;rcases aVW (SetTable.below xs j) k with q2|q2
   . have:=oQ h eb ek q2;lia
   . have:SetTable.below xs j=k:=by lia
     rw[this]at hn;exact hn ek
def aJI(j:Nat):SetTable.has #[] j=false:=rfl
theorem aJJ{t:SetTable}(hd:t.dummies = #[])(h:dO t.place)(hn:t.place[SetTable.below t.place j]?≠some j):(t.put j).1.dummies = #[]/\dO (t.put j).1.place:=by
 unfold SetTable.put;dsimp only;rw[hd,aJI];refine⟨rfl,?_⟩;show(SetTable.insertAt t.place (SetTable.below t.place j) j).toList.Pairwise _;have hj:=aJH h hn;obtain⟨a,b,c⟩:=oR h j;generalize SetTable.below t.place j=p at *;rw[SetTable.toList_insertAt];have ht:t.place.toList.length=t.place.size:=by simp
 have hlt:∀x∈t.place.toList.take p,x<j:=λx hx=>by obtain⟨k,hk,e⟩:=aVX hx;rw[List.getElem_take]at e;rw[aRW]at hk;exact b k x (by lia) (by rw[<- aSQ,aTP (by lia),e])
 have hgt:∀x∈t.place.toList.drop p,j<x:=λx hx=>by
  have hne:x≠j:=λe=>hj (e ▸ List.mem_of_mem_drop hx);obtain⟨k,hk,e⟩:=aVX hx;rw[List.getElem_drop]at e;rw[aSD]at hk;have:=c (p+k) x (by lia) (by rw[<- aSQ,aTP (by lia),e])
  lia
 have hs:t.place.toList.Pairwise (· < ·):=h;rw[<- List.take_append_drop p t.place.toList,aVY]at hs;rw[aVY,aVU];exact⟨hs.1,⟨hgt,hs.2.1⟩,λx hx y hy=>by
  rcases aQZ.mp hy with rfl|hy
  . exact hlt x hx
  . exact hs.2.2 x hx y hy⟩
def EntI(w:aW5):List Int->List (Int×aW2)->Prop
 |[],l=>l=[]
 |x::xs,l=>∃t r,l=(hashInt x,.int x t)::r/\EntI w xs r
def SetI(w:aW5)(h:Heap)(a:Addr)(xs:List Int):Prop:=∃o es ep t,h.get? a=some o/\o.ExactSet/\o.data=.set es ep t/\EntI w xs es.toList/\xs.Nodup/\xs.length<scanBound/\t.fits es.size=true/\t.led = !b0 w/\PlOk t
section
variable {A:aW4}{E:VSP}
end
section
variable {A:aW4}{E:VSP}
end
def aJK:isSubtype (.type "list") (.type "set")=pure false:=by rw[aUP];kernel_rfl
def aJL:isSubtype (.type "list") (.type "frozenset")=pure false:=by rw[aUP];kernel_rfl
section
variable {A:aW4}{E:VSP}
def aJM{M:Model}{p:Addr}(tp:s.TypeIs (.ref p) "list")(q:Q false s):wpAny M A (isInstance (.ref p) (.type "set") <||> isInstance (.ref p) (.type "frozenset")) Q E s:=by unfold orM;exact aRD (aS8 tp aJK (aS8 tp aJL q))
end
section
variable {A:aW4}{E:VSP}
variable  {a:Addr}{o:Obj}{es:Array (Int×aW2)}{t:SetTable}
def plc(t:SetTable):Nat->Nat
 |0=>0
 |i+1=>t.place.getD i 0+1
theorem yA(h:dO t.place)(hi:i<=t.place.size):SetTable.below t.place (plc t i)=i:=by
 cases i with
 |zero=>exact aJF h
 |succ i =>
  have e:t.place[i]? = some (t.place[i]'(by lia)):=aU0 _
  show SetTable.below t.place (t.place.getD i 0+1)=_;rw[aVA,e];exact aJG h e
theorem aJN(hh:A.handled=none)(hne:a≠I)(hd:o.data=.set es ep t)(hf:t.fits es.size=true)(bt:b0 w=false)(hl:t.led=true)(hr:dO t.place)(h1:(!t.plain&&decide (es.size > 1))=false):Walks prog w A I [I,a] [I] es.size (λi v=>(es.map (·.2))[i]? = some v) (λi h=>SIt h I a (.int ((plc t i:Nat):Int) 0) i es.size ep/\h.get? a=some o):=by
 have hz:t.place.size=es.size:=by unfold SetTable.fits at hf;rw[aSJ,aRN]at hf;exact hf.1
 refine⟨λb hb=>by simp at hb;simp[hb],λ_ _ _ st hk=>⟨st.1.at λo e=>hk I (by simp) o e,hk a (by simp) o st.2⟩,λi s Q E hi st hQ=>?_,λs Q E st hQ=>?_,λ_ _ _ _ st hQ=>oJ st.1 hQ⟩
 . have e1:es[i]? = some (es[i].1,es[i].2):=aU0 hi;have e2:t.place[i]? = some (t.place[i]'(by lia)):=aU0 _
   have e3:plc t (i+1)=t.place[i]'(by lia)+1:=by show t.place.getD i 0+1=_;rw[aVA,e2];rfl
   refine qU (k:=plc t i) (k':=plc t (i+1)) st.1 st.2 hd hf (x:=es[i].2) (λ{A' E' Q'} q=>?_) λh' sb X'=>?_
   . unfold setNext;refine aRD (aUC st.2 hd hf (aRD (fY ?_)));simp only[bt,↓reduceIte,aTA];split
     . rename_i hc;have hc:(!t.plain&&decide (es.size > 1))=true:=hc;rw[h1]at hc;cases hc
     . show wpAny _ _ ((if(!t.led&&!(es.isEmpty))=true then _ else _)>>=_) _ _ _;rw[hl];refine aRD (aRC ?_);rw[yA hr (by lia),e1,e2]
       rw[e3]at q;exact aRC q
   . exact hQ _ h' s.toks (by rw[Array.getElem?_map,e1];rfl) ⟨X',sb.extBut a o hne st.2⟩ λb o' hb e=>sb.extBut b o' (λh=>hb (by simp[h])) e
 . refine qV hh st.1 st.2 hd hf (λ{A' E' Q'} q=>?_) λh' kp=>hQ h' s.toks λb o' hb e=>kp b o' (λh=>hb (by simp[h])) e
   unfold setNext;refine aRD (aUC st.2 hd hf (aRD (fY ?_)));simp only[bt,↓reduceIte,aTA];split
   . rename_i hc;have hc:(!t.plain&&decide (es.size > 1))=true:=hc;rw[h1]at hc;cases hc
   . show wpAny _ _ ((if(!t.led&&!(es.isEmpty))=true then _ else _)>>=_) _ _ _;rw[hl];refine aRD (aRC ?_);rw[yA hr (by lia),aU1 (aRG _)]
     exact aRC q
end
section
variable {A:aW4}{E:VSP}{a:Addr}{xs:List Int}
end
section
variable {es:List Expr}{k:Nat}
end
section
variable  {gk:Rho->Res}{sp:Pos}
end
section
open PySem.SeqAt
open PySem.AutoSeq1 (wpAny_loadPart')
open PySem.MeetsSeq PySem.MeetsSeq2 PySem.MeetsSeq3
variable {A:aW4}{E:VSP}
end
section
variable {A:aW4}{E:VSP}
end
section
variable {K:Type}[DecidableEq K]{knd:KeyKind prog w K}{A:aW4}{E:VSP}
end
section
variable  {eb:Expr}
end
open PySem.Calls
section
variable  {o f:Expr}{go gf:Rho->Res}
end
end D3
namespace PySem
open PySem.Sem (wp)
section
variable {A:aW4}{E:VSP}
end
end PySem
namespace L2
end L2
namespace D3
open PySem.Calls
theorem bK.is:∀{xs:List N}{ys:List V}{us:List aW2},(∀x∈xs,∀v u,NAt X.K H x v->aJ v u->IsN s.heap x u)->bK X.K H xs ys->aH ys us->aQ s.heap xs us
 |[],ys,us,_,h,r=>by rw[bK]at h;subst h;cases r;rw[aQ]
 |x::xs,ys,us,k,h,r=>by
  rw[bK]at h;obtain⟨y,zs,rfl,h1,h2⟩:=h;cases r with
  |cons r1 r2=>rw[aQ];exact⟨_,_,rfl,k x mcs _ _ h1 r1,bK.is (λz hz=>k z (mcm hz)) h2 r2⟩
theorem NAt.is(I:L2.Inv X aA σ H s)(k:N):∀v u,NAt X.K H k v->aJ v u->IsN s.heap k u:=by
 induction k using N.ind with
 |hi n=>intro v u h r;rw[NAt]at h;subst h;obtain⟨t,rfl⟩:=r;rw[IsN];exact⟨t,rfl⟩
 |hs x=>intro v u h r;rw[NAt]at h;obtain⟨rfl,_,hk⟩:=h;obtain⟨t,rfl⟩:=r;rw[IsN];exact⟨⟨t,rfl⟩,hk⟩
 |ht xs ih=>intro v u h r;rw[NAt]at h;obtain⟨a,ys,rfl,hq,hl⟩:=h;cases r;obtain⟨its,rv,⟨o,e,c,_,n,d⟩,_⟩:=SqT.plain I hq;rw[IsN];exact⟨a,o,its.toArray,n,rfl,e,c,d,by simpa using bK.is ih hl rv⟩
abbrev KN:=Paired (λ(p:N×Addr×V) (q:N×Addr×aW2)=>p.1=q.1/\p.2.1=q.2.1/\aJ p.2.2 q.2.2)
def iW(K:Fg)(H:Hp)(kvs:List (N×Addr×V)):Prop:=∀p∈kvs,NAt K H p.1 (.ref p.2.1)/\p.1.dp<=8
noncomputable def eG(kvs:List (N×Addr×V))(k:N):Option V:=(kvs.find? λp=>decide (p.1=k)).map (·.2.2)
def hX(kvs:List (N×Addr×V))(k:N)(b:Addr)(v:V):List (N×Addr×V):=if(eG kvs k).isSome=true then kvs.map (λp=>if p.1=k then(p.1,p.2.1,v)else p)else kvs++[(k,b,v)]
def yB{p:N×Addr×V}{r:List (N×Addr×V)}{k:N}(e:p.1=k):eG (p::r) k=some p.2.2:=by simp[eG,aSR,e]
def yC{p:N×Addr×V}{r:List (N×Addr×V)}{k:N}(e:¬ p.1=k):eG (p::r) k=eG r k:=by simp[eG,aSR,e]
def KN.val{kvs:List (N×Addr×V)}{xs:List (N×Addr×aW2)}(r:KN kvs xs)(k:N):dD (eG kvs k) ((atKey xs k).map (·.2)):=by
 induction r with
 |nil=>exact True.intro
 | @cons p q ps qs h t ih =>
  by_cases e:p.1=k
  . have b:atKey (q::qs) k=some q.2:=by simp[atKey,aSR,h.1.symm.trans e]
    rw[yB e,b];exact h.2.2
  . have e':¬ q.1=k:=λz=>e (h.1.trans z);have b:atKey (q::qs) k=atKey qs k:=by simp[atKey,aSR,e']
    rw[yC e,b];exact ih
def KN.repl{kvs:List (N×Addr×V)}{xs:List (N×Addr×aW2)}(r:KN kvs xs)(k:N){y:V}(ry:aJ y u):KN (kvs.map λp=>if p.1=k then(p.1,p.2.1,y)else p) (xs.map (putAt k u)):=by
 induction r with
 |nil=>exact .nil
 | @cons p q ps qs h t ih =>
  rw[aSV,aSV];refine .cons ?_ ih;unfold putAt;by_cases e:p.1=k
  . rw[if_pos e,if_pos (h.1.symm.trans e)];exact⟨h.1,h.2.1,ry⟩
  . rw[if_neg e,if_neg (λz=>e (h.1.trans z))];exact h
def KN.put{kvs:List (N×Addr×V)}{xs:List (N×Addr×aW2)}(r:KN kvs xs)(k:N)(b:Addr){y:V}(ry:aJ y u):KN (hX kvs k b y) (storedH xs k b u):=by
 have e:(eG kvs k).isSome=(atKey xs k).isSome:=by rw[(r.val k).isSome_eq,Option.isSome_map]
 unfold hX storedH;rw[e];by_cases q:(atKey xs k).isSome=true
 . rw[if_pos q,if_pos q];exact r.repl k ry
 . rw[if_neg q,if_neg q];exact Paired.snoc r ⟨rfl,rfl,ry⟩
theorem aJO(kvs:List (N×Addr×V))(k:N)(b:Addr)(v:V):(hX kvs k b v).length<=kvs.length+1:=by
 unfold hX;split
 . rw[aR4];lia
 . rw[aR3];exact aRG _
def KN.is{kvs:List (N×Addr×V)}{xs:List (N×Addr×aW2)}{P:N->Addr->Prop}(r:KN kvs xs)(h:∀p∈kvs,P p.1 p.2.1):∀x∈xs,P x.1 x.2.1:=by
 induction r with
 |nil=>intro x hx;cases hx
 | @cons p q ps qs hq t ih =>
  intro x hx;rcases aQZ.mp hx with e|hx
  . subst e;have:=h p mcs;rw[hq.1,hq.2.1]at this;exact this
  . exact ih (λp hp=>h p (mcm hp)) x hx
def oS{a:Addr}{kvs:List (N×Addr×V)}(I:L2.Inv X aA σ H s)(e:Rd H a (.dN kvs))(hk:iW X.K H kvs):kvs.length<=sizeLine/\(a==sysModules)=false/\∃xs,KN kvs xs/\s.heap.DictOfH (nV X.prog X.w) a xs:=by
 obtain⟨z,y,xs,r,o,es,ep,h1,h2,h3,h4,h5⟩:=(show bC X.prog X.w H s.heap a (.dN kvs)from e.ok I.hok)
 exact⟨z,y,xs,r,o,es,ep,h1,h2,h3,h4,KN.is (P:=λk b=>(nV X.prog X.w).is s.heap k b) r λp hp=>⟨NAt.is I _ _ _ (hk p hp).1 rfl,(hk p hp).2⟩,h5⟩
def j2(K:Fg)(H:Hp)(a:Addr)(y:V)(r:Option V):Prop:=∃kvs k b,Rd H a (.dN kvs)/\iW K H kvs/\y=.ref b/\(NAt K H k (.ref b)/\k.dp<=8)/\r=eG kvs k
def NPut(K:Fg)(H:Hp)(a:Addr)(y v:V)(H':Hp):Prop:=∃kvs k b,H a=some (.dN kvs)/\iW K H kvs/\y=.ref b/\(NAt K H k (.ref b)/\k.dp<=8)/\kvs.length<sizeLine/\H'=upd H a (.dN (hX kvs k b v))
section
variable {a:Addr}{y d:V}{r:aW2}{o:Option V}{A:aW4}{E:VSP}
theorem rC(hu:A.units+64<cLine):(nV X.prog X.w).room A.in1:=by show A.units+1+8<cLine;lia
def aJP{Q:VSP}(hu:A.units+64<cLine)(I:L2.Inv X aA σ H s)(g:j2 X.K H a y (some v))(ry:aJ y u)(h:∀w' s',L2.Inv X aA σ H s'->aJ v w'->Q w' s'):wpAny (model X.prog X.w) A (getItem (.ref a) u) Q E s:=by
 obtain⟨kvs,k,b,e,hk,rfl,kb,l⟩:=g;cases ry;obtain⟨z,hd,xs,rel,dd⟩:=oS I e hk;obtain⟨w',hw,rw'⟩:=dD.some_of (v:=v) (o:=(atKey xs k).map (·.2)) (by rw[l];exact rel.val k)
 obtain⟨p,hp,hp2⟩:=aVZ.mp hw;refine wpAny_getItem_heap (rC hu) (k:=k) ⟨NAt.is I _ _ _ kb.1 rfl,kb.2⟩ dd hp ?_;rw[hp2];exact h w' _ (I.tok _) rw'
def aJQ{Q:VSP}(hu:A.units+64<cLine)(I:L2.Inv X aA σ H s)(g:j2 X.K H a y o)(ry:aJ y u)(rd:aJ d r)(h:∀w' s',L2.Inv X aA σ H s'->aJ (o.getD d) w'->Q w' s'):wpAny (model X.prog X.w) A (call (.builtin "dict.get") [.ref a,u,r]) Q E s:=by obtain⟨kvs,k,b,e,hk,rfl,kb,l⟩:=g;cases ry;obtain⟨z,hd,xs,rel,dd⟩:=oS I e hk;refine call_meetsIn PySem.F.slot_dict_get dd.typeIs PySem.F.entry_dict_get (PySem.F.args_dict_get_3 _ _ _) (meetsH_dict_get_default (nV X.prog X.w) a b hd r) ⟨rC hu,k,xs,⟨NAt.is I _ _ _ kb.1 rfl,kb.2⟩,dd,h _ _ (I.tok _) ?_⟩;rw[l];exact(rel.val k).getD rd
theorem aJR{Q:Unit->aW3->Prop}(hu:A.units+64<cLine)(I:L2.Inv X aA σ H s)(g:NPut X.K H a y v H')(ry:aJ y u)(rv:aJ v r)(h:∀s',L2.Inv X aA σ H' s'->Q () s'):wpAny (model X.prog X.w) A (setItem (.ref a) u r) Q E s:=by
 obtain⟨kvs,k,b,e,hk,rfl,kb,l,rfl⟩:=g;cases ry;obtain⟨z,hd,xs,rel,dd⟩:=oS I (.inl e) hk;have hz:xs.length<=sizeLine:=by rw[<- aQN rel];exact z
 have hl:(hX kvs k b v).length<=sizeLine:=by have:=aJO kvs k b v;lia
 refine wpAny_setItem_heap (hsz:=hz) (rC hu) (k:=k) ⟨NAt.is I _ _ _ kb.1 rfl,kb.2⟩ dd λh' dd' hs=>h _ ?_;obtain⟨q,es,ep,hq,h2,h3,h4,_,h5⟩:=dd';exact nT I (by rw[e];exact True.intro) hs ⟨q,hq⟩ ⟨hl,hd,_,rel.put k b rv,q,es,ep,hq,h2,h3,h4,h5⟩
def aJS(I:L2.Inv X aA σ H s)(g:j2 X.K H a y o):s.TypeIs (.ref a) "dict" := by obtain⟨kvs,k,b,e,hk,_⟩:=g;obtain⟨_,_,xs,_,dd⟩:=oS I e hk;exact dd.typeIs
end
open PySem.Calls
mutual
def nD:N->D
 |.i n=>.int n
 |.s x=>.str x
 |.t xs=>.tup (nDL xs)
def nDL:List N->List D
 |[]=>[]
 |x::xs=>nD x::nDL xs
end
mutual
def bM:D->Option N
 |.int i=>some (.i i)
 |.str x=>some (.s x)
 |.tup ds=>(eI ds).map .t
 |_=>none
def eI:List D->Option (List N)
 |[]=>some []
 |d::ds=>match bM d,eI ds with
  |some k,some ks=>some (k::ks)
  |_,_=>none
end
def cR(d:D):Option N:=match d with
 |.tup ds=>match eI ds with
  |some ks=>if(N.t ks).dp<=8 then some (.t ks)else none
  |none=>none
 |_=>none
section
variable  {F:Hp}
mutual
theorem yD:∀{d:D}{k:N}{v:V},bM d=some k->aB K F d v->NAt K F k v
 |.int i,k,v,e,r=>by simp only[bM]at e;cases e;simpa only [aB,NAt]using r
 |.str x,k,v,e,r=>by simp only[bM]at e;cases e;simpa only [aB,NAt]using r
 |.tup ds,k,v,e,r=>by simp only[bM]at e;obtain⟨ks,ek,rfl⟩:=aVZ.mp e;simp only[aB]at r;obtain⟨a,xs,rfl,hq,rl⟩:=r;rw[NAt];exact⟨a,xs,rfl,hq,rE ek rl⟩
 |.non,_,_,e,_=>by simp only[bM]at e;cases e
 |.bl _,_,_,e,_=>by simp only[bM]at e;cases e
 |.lst _,_,_,e,_=>by simp only[bM]at e;cases e
 |.dct _,_,_,e,_=>by simp only[bM]at e;cases e
 |.ty _,_,_,e,_=>by simp only[bM]at e;cases e
 |.ob _,_,_,e,_=>by simp only[bM]at e;cases e
 |.ins _ _,_,_,e,_=>by simp only[bM]at e;cases e
 |.fn _,_,_,e,_=>by simp only[bM]at e;cases e
 |.exn _,_,_,e,_=>by simp only[bM]at e;cases e
 |.set _,_,_,e,_=>by simp only[bM]at e;cases e
 |.dtn _,_,_,e,_=>by simp only[bM]at e;cases e
 |.dtf _,_,_,e,_=>by simp only[bM]at e;cases e
 |.dcf _,_,_,e,_=>by simp only[bM]at e;cases e
theorem rE:∀{ds:List D}{ks:List N}{xs:List V},eI ds=some ks->aC K F ds xs->bK K F ks xs
 |[],ks,xs,e,r=>by simp only[eI]at e;cases e;simpa only [aC,bK]using r
 |d::ds,ks,xs,e,r=>by
  simp only[eI]at e;simp only[aC]at r;obtain⟨y,ys,rfl,r1,r2⟩:=r;cases e1:bM d with
  |none=>rw[e1]at e;cases e
  |some k =>
   cases e2:eI ds with
   |none=>rw[e1,e2]at e;cases e
   |some ks'=>rw[e1,e2]at e;cases e;rw[bK];exact⟨y,ys,rfl,yD e1 r1,rE e2 r2⟩
end
def oU{d:D}{k:N}{m:Md}(e:cR d=some k)(r:Rp K F H m d v):∃b,v=.ref b/\NAt K F k (.ref b)/\k.dp<=8:=by
 unfold cR at e;split at e
 . rename_i ds;split at e
   . rename_i ks ek;split at e
     . rename_i hd;cases e;cases m with
       |fz =>
        have r:aB K F (.tup ds) v:=r;have h:=yD (k:=.t ks) (by simp only[bM];rw[ek];rfl) r
        simp only[aB]at r;obtain⟨a,xs,rfl,_⟩:=r;exact⟨a,rfl,h,hd⟩
       |fr=>obtain⟨a,_,_,q⟩:=r;exact q.elim
       |bo=>obtain⟨a,_,_,q⟩:=r;exact q.elim
     . cases e
   . cases e
 . cases e
theorem yE:∀{xs:List N}{ys:List V},(∀x∈xs,∀v,NAt K F x v->aB K F (nD x) v)->bK K F xs ys->aC K F (nDL xs) ys
 |[],ys,_,h=>by rw[bK]at h;subst h;rw[nDL];exact aC.nil
 |x::xs,ys,k,h=>by rw[bK]at h;obtain⟨y,zs,rfl,h1,h2⟩:=h;rw[nDL];exact aC.cons (k x mcs y h1) (yE (λz hz=>k z (mcm hz)) h2)
def rF(k:N):∀v,NAt K F k v->aB K F (nD k) v:=by
 induction k using N.ind with
 |hi n=>intro v h;rw[NAt]at h;rw[nD];simpa only [aB]using h
 |hs x=>intro v h;rw[NAt]at h;rw[nD];simpa only [aB]using h
 |ht xs ih=>intro v h;rw[NAt]at h;obtain⟨a,ys,rfl,hq,hl⟩:=h;rw[nD];simp only[aB];exact⟨a,ys,rfl,hq,yE ih hl⟩
def cS(kvs:List (N×D))(k:N):Option D:=(kvs.find? λkv=>decide (kv.1=k)).map (·.2)
def j3(kvs:List (N×D))(k:N)(d:D):List (N×D):=if(cS kvs k).isSome=true then kvs.map (λkv=>if kv.1=k then(kv.1,d)else kv)else kvs++[(k,d)]
def yF{p:N×D}{r:List (N×D)}{k:N}(e:p.1=k):cS (p::r) k=some p.2:=by simp[cS,aSR,e]
def yG{p:N×D}{r:List (N×D)}{k:N}(e:¬ p.1=k):cS (p::r) k=cS r k:=by simp[cS,aSR,e]
theorem aM.val:∀{kvs:List (N×D)}{xs:List (N×Addr×V)} (k:N),aM K F kvs xs->match cS kvs k with|some d=>∃v,eG xs k=some v/\aB K F d v|none=>eG xs k=none
 |[],xs,k,h=>by simp only[aM]at h;subst h;rfl
 |(k',d)::kvs,xs,k,h=>by
  simp only[aM]at h;obtain⟨b,y,ys,rfl,_,r,t⟩:=h;by_cases e:k'=k
  . rw[yF (p:=(k',d)) e];exact⟨y,yB (p:=(k',b,y)) e,r⟩
  . rw[yG (p:=(k',d)) e,yC (p:=(k',b,y)) e];exact aM.val k t
def aM.hasK{kvs:List (N×D)}{xs:List (N×Addr×V)}(k:N)(h:aM K F kvs xs):(eG xs k).isSome=(cS kvs k).isSome:=by
 have:=aM.val k h;cases e:cS kvs k with
 |none=>rw[e]at this;dsimp only at this;rw[this];rfl
 |some d=>rw[e]at this;obtain⟨v,ev,_⟩:=this;rw[ev];rfl
theorem aM.keys:∀{kvs:List (N×D)}{xs:List (N×Addr×V)},aM K F kvs xs->iW K F xs
 |[],xs,h=>by simp only[aM]at h;subst h;intro p hp;cases hp
 |(k',d)::kvs,xs,h=>by
  simp only[aM]at h;obtain⟨b,y,ys,rfl,q,r,t⟩:=h;intro p hp;rcases aQZ.mp hp with rfl|hp
  . exact q
  . exact t.keys p hp
theorem iW.mono{xs:List (N×Addr×V)}(s:aD F F')(h:iW K F xs):iW K F' xs:=λp hp=>⟨NAt.mono s _ _ (h p hp).1,(h p hp).2⟩
theorem aM.len:∀{kvs:List (N×D)}{xs:List (N×Addr×V)},aM K F kvs xs->xs.length=kvs.length
 |[],xs,h=>by simp only[aM]at h;subst h;rfl
 |(k',d)::kvs,xs,h=>by simp only[aM]at h;obtain⟨b,y,ys,rfl,q,r,t⟩:=h;rw[aST,aST,t.len]
theorem aM.repl{k:N}{d:D}(rv:aB K F d v):∀{kvs:List (N×D)}{xs:List (N×Addr×V)},aM K F kvs xs->aM K F (kvs.map λkv=>if kv.1=k then(kv.1,d)else kv) (xs.map λp=>if p.1=k then(p.1,p.2.1,v)else p)
 |[],xs,h=>by simp only[aM]at h;subst h;simp only[aM,aSW]
 |(k',d')::kvs,xs,h=>by
  simp only[aM]at h;obtain⟨b,y,ys,rfl,q,r,t⟩:=h;rw[aSV,aSV];by_cases e:k'=k
  . rw[if_pos e,if_pos e];simp only[aM];exact⟨b,v,_,rfl,q,rv,t.repl rv⟩
  . rw[if_neg e,if_neg e];simp only[aM];exact⟨b,y,_,rfl,q,r,t.repl rv⟩
theorem aM.snoc{k:N}{d:D}(hk:NAt K F k (.ref b)/\k.dp<=8)(rv:aB K F d v):∀{kvs:List (N×D)}{xs:List (N×Addr×V)},aM K F kvs xs->aM K F (kvs++[(k,d)]) (xs++[(k,b,v)])
 |[],xs,h=>by simp only[aM]at h;subst h;simp only[aM,aT8];exact⟨b,v,[],rfl,hk,rv,rfl⟩
 |(k',d')::kvs,xs,h=>by simp only[aM]at h;obtain⟨b',y,ys,rfl,q,r,t⟩:=h;rw[aS0,aS0];simp only[aM];exact⟨b',y,_,rfl,q,r,t.snoc hk rv⟩
def aM.put{k:N}{d:D}{kvs:List (N×D)}{xs:List (N×Addr×V)}(hk:NAt K F k (.ref b)/\k.dp<=8)(rv:aB K F d v)(h:aM K F kvs xs):aM K F (j3 kvs k d) (hX xs k b v):=by
 unfold j3 hX;rw[h.hasK k];split
 . exact h.repl rv
 . exact h.snoc hk rv
def asN:D->Option (List (N×D))
 |.dtn kvs=>some kvs
 |.dtf kvs=>some kvs
 |_=>none
theorem Rp.asN{m:Md}{d:D}{kvs:List (N×D)}(s:aD F H)(r:Rp K F H m d v)(e:asN d=some kvs):∃a xs,v=.ref a/\Rd H a (.dN xs)/\aM K F kvs xs:=by
 cases d with
 |dtn ks =>
  cases e;cases m with
  |fz=>have r:aB K F (.dtn kvs) v:=r;simp only[aB]at r;obtain⟨a,xs,rfl,q,t⟩:=r;exact⟨a,xs,rfl,.inl (s _ _ q),t⟩
  |fr=>obtain⟨a,rfl,_,xs,q,t⟩:=r;exact⟨a,xs,rfl,.inl q,t⟩
  |bo=>obtain⟨a,rfl,_,xs,q,t⟩:=r;exact⟨a,xs,rfl,.inl q,t⟩
 |dtf ks =>
  cases e;cases m with
  |fz=>have r:aB K F (.dtf kvs) v:=r;simp only[aB]at r;obtain⟨a,o,xs,rfl,q,t⟩:=r;exact⟨a,xs,rfl,.inr ⟨o,s _ _ q⟩,t⟩
  |fr=>obtain⟨a,_,_,q⟩:=r;exact q.elim
  |bo=>obtain⟨a,_,_,q⟩:=r;exact q.elim
 |_=>cases e
def yH{m n:Md}{x y:D}{kvs:List (N×D)}{k:N}{u:V}(s:aD F H)(rx:Rp K F H m x v)(ex:D3.asN x=some kvs)(ry:Rp K F H n y u)(ey:cR y=some k):∃a xs,v=.ref a/\Rd H a (.dN xs)/\aM K F kvs xs/\j2 K H a u (eG xs k):=by obtain⟨a,xs,rfl,hr,t⟩:=Rp.asN s rx ex;obtain⟨b,rfl,hn,hd⟩:=oU ey ry;exact⟨a,xs,rfl,hr,t,xs,k,b,hr,t.keys.mono s,rfl,⟨NAt.mono s _ _ hn,hd⟩,rfl⟩
end
def rIxN(K:Fg):R2:=λx y H Q=>∃a v,x=.ref a/\j2 K H a y (some v)/\Q v H
def ix_dn(hu:X.A.units+64<cLine):IxR X (rIxN X.K):=by
 intro value slice aA s σ H x y v u Q I rx ry h hsub;obtain⟨a,w',rfl,g,q⟩:=h;cases(show v=Value.ref a from rx)
 have hT:=aJS I g;unfold subscriptTail;refine aRD ?_;rw[getitemInPython_of_ne hT.not_modules];refine aRD (aS2 hT PySem.F.slot_dict_getitem.lookup ?_);have fin:wpAny (model X.prog X.w) X.A (subscripted slice false (.ref a) u) (λr s3=>wpAny (model X.prog X.w) X.A (letTemporaryGo value (.ref a) r>>=λ_=>pure r) (EP X aA σ Q) X.xe s3) X.xe s:=by rw[hsub];exact wpAny_operating (aJP hu I g ry λz s3 I3 rz=>aRD (wpAny_letTemporaryGo (aRC ⟨w',H,I3,rz,q⟩)))
 first
  |exact aRC (aRD fin)
  |exact aRD (aRC (aRD fin))
  |exact aRD fin
noncomputable def lX:Md->D->Md->D->Option (Md×D):=λ_ x _ y=>match asN x,cR y with
 |some kvs,some k=>(cS kvs k).map λd=>(.fz,d)
 |_,_=>none
def lY(ra rk rd:Res):Res:=ra.thn λ_ da=>match asN da with
 |some kvs=>rk.thn λ_ dk=>(aZ rd).thn λm d=>(match m,cR dk with
  |.fz,some k=>.ok .fz ((cS kvs k).getD d)
  |_,_=>.stuck)
 |none=>.stuck
noncomputable def lZ(ρ:Rho)(i:Nat)(rk rv:Res):aG:=match ρ[i]? with
 |some (some (true,.dtn kvs))=>(aZ rv).thS ρ λm d=>match m with
  |.fz=>rk.thS ρ λ_ kd=>(match cR kd with
   |some k=>if kvs.length<sizeLine then .nx (ρ.set i (some (true,.dtn (j3 kvs k d))))else .stuck
   |none=>.stuck)
  |_=>.stuck
 |_=>.stuck
def tNNew:TE:=λ_ H Q=>∀p,H p=none->Q (.ref p) (upd H p (.dN []))
def aJT:PE X (.Dict [] [] pos) tNNew:=λaA s σ H Q I h =>
 wpAny_Dict_empty ⟨.ref s.heap.objs.size,_,I.laid (a:=s.heap.objs.size) (o:=.dN []) (t':=s.toks) (λ_ _ q=>hps q) (aRG _)
  ⟨aRQ _,aQM.mpr (Ne.symm (aQT I.big)),[],.nil,_,#[],0,aQP _ rfl,⟨rfl,rfl,rfl⟩,rfl,rfl,aUF⟩,rfl,h _ (I.hok.fresh (aRG _))⟩
section
variable  {a b o f:Expr}{go gf:Rho->Res}
def aJU:PV C X (.Dict [] [] pos) (λ_=>.ok .fr (.dtn [])):=by refine PE.imp aJT λσ H Q q=>?_;rw[aS]at q;obtain⟨ρ,F,R,w⟩:=q;intro p hp;exact w (.ref p) F _ (aF.fresh _ R.sub hp) ⟨p,rfl,R.sub.free hp,[],aV,by simp[aM]⟩ λ_ a ea=>by cases ea;exact hp
def aJV(hu:X.A.units+64<cLine)(ha:PV C X a ga)(hb:PV C X b gb)(hs:nR b):PV C X (.Subscript a b pos) (λρ=>op2 lX (ga ρ) (gb ρ)):=by
 refine PE.imp (vR (ix_dn hu) ha hb hs) λσ H Q q=>lE (λF H m x n y v u k d Q s rx ry e w=>?_) q;unfold lX at e;split at e
 . rename_i kvs ky ek1 ek2;obtain⟨p,xs,rfl,hh,rk,g⟩:=yH s rx ek1 ry ek2;have hv:=aM.val ky rk;cases eg:cS kvs ky with
   |none=>rw[eg]at e;cases e
   |some d'=>rw[eg]at e hv;cases e;obtain⟨v',ev,rv⟩:=hv;rw[ev]at g;exact⟨p,v',rfl,g,w v' F H (.refl s) rv (by nofun)⟩
 . cases e
def IsDN(H:Hp)(a:Addr):Prop:=∃kvs,Rd H a (.dN kvs)
def yI{a:Addr}(I:L2.Inv X aA σ H s)(d:IsDN H a):s.TypeIs (.ref a) "dict" /\ ∀b,Value.ref a=.ref b->∃ob,s.heap.get? b=some ob/\ob.dict=none:=by
 obtain⟨kvs,e⟩:=d;obtain⟨_,_,xs,_,ob,es,ep,h1,h2,_⟩:=(show bC X.prog X.w H s.heap a (.dN kvs)from e.ok I.hok)
 exact⟨⟨ob,h1,h2.1⟩,λb q=>by cases q;exact⟨ob,h1,h2.2.1⟩⟩
def yJ(K:Fg)(td ty tx:TE):TE:=λσ H Q=>td σ H λx H1=>∃a,x=.ref a/\IsDN H1 a/\ty σ H1 λy H2=>tx σ H2 λz H3=>∃o,j2 K H3 a y o/\Q (o.getD z) H3
def aJW{ty tx:TE}(hu:X.A.units+64<cLine)(ho:PE X o td)(he:PE X e ty)(hf:PE X f tx)(m:M2 X o "get" apos e f cpos):PE X (.Call (.Attribute o "get" apos) [e,f] [] cpos) (yJ X.K td ty tx):=by
 intro aA s σ H Q I h;refine wpAny_Call_method m.base m.few m.line PySem.F.plainAttrs_dict PySem.F.slot_dict_get PySem.F.type_dict_get (thn (ho aA s σ H _ I h) λu s1 ⟨x,H1,I1,rx,a,ex,d,q1⟩=>?_);subst ex;obtain rfl:u=Value.ref a:=rx;refine⟨(yI I1 d).1,(yI I1 d).2,?_⟩;rw[m.trees];refine aSN rfl (aSO (aRS (thn (he aA s1 σ H1 _ I1 q1) λiv s2 ⟨y,H2,I2,ry,q2⟩ =>
  aRS (thn (hf aA s2 σ H2 _ I2 q2) λfv s3 ⟨z,H3,I3,rz,ov,g,q3⟩=>aRR ?_))))
 exact aJQ hu I3 g ry rz λw' s4 I4 rw'=>⟨_,H3,I4,rw',q3⟩
def aJX(hu:X.A.units+64<cLine)(ho:PV C X o go)(he:PV C X e ge)(hf:PV C X f gf)(m:M2 X o "get" apos e f cpos):PV C X (.Call (.Attribute o "get" apos) [e,f] [] cpos) (λρ=>lY (go ρ) (ge ρ) (gf ρ)):=by
 refine PE.imp (aJW hu ho he (gJ hf) m) λσ H Q q=>?_;unfold yJ;rw[aS]at q ⊢;obtain⟨ρ,F,R,w⟩:=q;refine⟨ρ,F,R,?_⟩;unfold lY at w;cases ea:go ρ with
 |stuck=>rw[ea]at w;exact w
 |exc c=>rw[ea]at w;exact w
 |ok ma da =>
  rw[ea,Res.thn_ok]at w;intro v F1 H1 s1 r1 _;have w1:=aR.step s1 w;cases en:asN da with
  |none=>rw[en]at w1;exact w1.elim
  |some kvs =>
   rw[en]at w1;dsimp only at w1;obtain⟨a,xs,rfl,hh,rk⟩:=Rp.asN s1.sub r1 en;refine⟨a,rfl,⟨xs,hh⟩,?_⟩;rw[aS];refine⟨ρ,F1,R.step s1,?_⟩;cases ek:ge ρ with
   |stuck=>rw[ek]at w1;exact w1
   |exc c=>rw[ek]at w1;exact w1
   |ok mk dk =>
    rw[ek,Res.thn_ok]at w1;intro y F2 H2 s2 r2 _;have w2:=aR.step s2 w1;rw[aS];refine⟨ρ,F2,(R.step s1).step s2,?_⟩;cases ed:aZ (gf ρ)with
    |stuck=>rw[ed]at w2;exact w2
    |exc c=>rw[ed]at w2;exact w2
    |ok md d =>
     rw[ed,Res.thn_ok]at w2;intro z F3 H3 s3 r3 _;have w3:=aR.step s3 w2;have hm:md=.fz:=aIE ed;subst hm;cases ek2:cR dk with
     |none=>rw[ek2]at w3;exact w3.elim
     |some k =>
      rw[ek2]at w3;dsimp only at w3;obtain⟨a',xs',ea',hh',rk',g⟩:=yH s3.sub ((r1.step s2).step s3) en (r2.step s3) ek2;cases ea';refine⟨_,g,?_⟩;have hv:=aM.val k rk';cases eg:cS kvs k with
      |none=>rw[eg]at hv w3;dsimp only at hv;rw[hv];exact w3 z F3 H3 (.refl s3.sub) r3 (by nofun)
      |some d'=>rw[eg]at hv w3;obtain⟨v',ev,rv⟩:=hv;rw[ev];exact w3 v' F3 H3 (.refl s3.sub) rv (by nofun)
def yK(K:Fg)(td ty tv:TE):TS:=λD σ H=>tv σ H λv H1=>td σ H1 λx H2=>ty σ H2 λy H3=>∃a H4,x=.ref a/\NPut K H3 a y v H4/\D.nx σ H4
def aJY{i value:Expr}{ty tv:TE}(hu:X.A.units+64<cLine)(ho:PE X o td)(hi:PE X i ty)(hv:PE X value tv)(hs:swapsWith value (some (.Subscript o i pos')) pos.line X.env=pure false):PS X (.Assign [.Subscript o i pos'] value pos) (yK X.K td ty tv):=by intro aA s σ H D I h;refine wpAny_Assign_Subscript (thn (hv aA s σ H _ I h) λr s1 ⟨v,H1,I1,rv,q1⟩=>thn (ho aA s1 σ H1 _ I1 q1) λu s2 ⟨x,H2,I2,rx,q2⟩=>thn (hi aA s2 σ H2 _ I2 q2) λiv s3 ⟨y,H3,I3,ry,a,H4,ex,g,q3⟩=>?_) hs;subst ex;obtain rfl:u=Value.ref a:=rx;exact aJR hu I3 g ry rv λs4 I4=>⟨σ,H4,I4,q3⟩
end
section
variable  {gk:Rho->Res}{sp:Pos}
def aJZ(i:Nat)(hu:X.A.units+64<cLine)(hv:PE X (.Name x p) (bX i))(hk:PV C X ke gk)(he:PV C X e g)(hsw:swapsWith e (some (.Subscript (.Name x p) ke sp)) pos.line X.env=pure false):PSv C X (.Assign [.Subscript (.Name x p) ke sp] e pos) (λρ=>lZ ρ i (gk ρ) (g ρ)):=by
 refine PS.imp (aJY hu hv hk (gJ he) hsw) λE σ H q=>?_;obtain⟨ρ,F,R,w⟩:=q;dsimp only at w;unfold yK;unfold lZ at w;split at w
 . rename_i kvs e0;obtain⟨v0,ev0,rp0,hn0⟩:=R.slot i true _ e0;obtain⟨a,ea,hfa,xs,hh,rk⟩:=rp0;subst ea;refine iP R w λm d v F' H' w' s R' rp fr=>?_;cases m with
   |fr=>exact(show False from w').elim
   |bo=>exact(show False from w').elim
   |fz =>
   dsimp only at w';refine⟨.ref a,ev0,?_⟩;refine iP R' w' λm2 kd u F2 H2 w2 s2 R2 rp2 _=>?_;cases ek:cR kd with
   |none=>rw[ek]at w2;exact w2.elim
   |some k =>
    rw[ek]at w2;dsimp only at w2;split at w2
    . rename_i hl;have hh2:H2 a=some (.dN xs):=s2.same _ _ (s.same _ _ hh);obtain⟨b,rfl,hn,hd⟩:=oU ek rp2;have rk2:=rk.mono (s.fsame.trans s2.fsame) _ _;refine⟨a,_,rfl,⟨xs,k,b,hh2,rk2.keys.mono s2.sub,rfl,⟨NAt.mono s2.sub _ _ hn,hd⟩,by rw[rk.len];exact hl,rfl⟩,?_⟩
      exact w2 σ F2 _ (aD.refl _) (R2.mut e0 ev0 ⟨_,aV,aM.put ⟨hn,hd⟩ (aB.mono s2.fsame _ _ rp) rk2⟩)
    . exact w2.elim
 . exact w.elim
end
open PySem.W
structure WkO(lt:Nat->Nat->Bool):Prop where
 ntr:∀{i j k},lt i j=false->lt j k=false->lt i k=false
 asy:∀{i j},lt i j=true->lt j i=false
def WkO.irr{lt:Nat->Nat->Bool}(O:WkO lt)(i:Nat):lt i i=false:=by
 cases e:lt i i with
 |false=>rfl
 |true=>have:=O.asy e;rw[e]at this;cases this
structure PW(n:Nat)(p:Array Nat):Prop where
 size:p.size=n
 below:∀k,p.getD k 0<n
def PW.perm{p q:Array Nat}(h:PW n p)(e:q.Perm p):PW n q:=by
 refine⟨by rw[e.size_eq,h.size],λk=>?_⟩
 simp only[aVA];cases z:q[k]? with
 |none=>have:=h.below p.size;simp only[aVA,Array.getElem?_size]at this;exact this
 |some v =>
  have hm:v∈p.toList:=(Array.perm_iff_toList_perm.mp e).mem_iff.mp (by rw[aRM];exact aTJ z)
  obtain⟨i,hi⟩:=List.getElem?_of_mem hm;have:=h.below i;rw[aSQ]at hi;simp only[aVA,hi]at this;exact this
section
variable {lt:Nat->Nat->Bool}{cmp:Nat->Nat->(Bool->aW3->Prop)->aW3->Prop}{J:aW3->Prop}
def Wup(lt:Nat->Nat->Bool)(p:Array Nat)(b:Nat):Prop:=∀i j,i<j->j<b->lt (p.getD j 0) (p.getD i 0)=false
def Wdn(lt:Nat->Nat->Bool)(p:Array Nat)(b:Nat):Prop:=∀i j,i<j->j<b->lt (p.getD i 0) (p.getD j 0)=false
def Weq(lt:Nat->Nat->Bool)(p:Array Nat)(a b:Nat):Prop:=∀i j,a<=i->i<b->a<=j->j<b->lt (p.getD i 0) (p.getD j 0)=false
theorem Wup.more(O:WkO lt){p:Array Nat}{m:Nat}(h:Wup lt p m)(hm:1<=m)(e:lt (p.getD m 0) (p.getD (m-1) 0)=false):Wup lt p (m+1):=λi j hij hj=>by
 by_cases hjm:j<m
 . exact h i j hij hjm
 . have:j=m:=by lia
   subst this;by_cases hi:i=j-1
   . rw[hi];exact e
   . exact O.ntr e (h i (j-1) (by lia) (by lia))
theorem Wdn.more(O:WkO lt){p:Array Nat}{m:Nat}(h:Wdn lt p m)(hm:1<=m)(e:lt (p.getD (m-1) 0) (p.getD m 0)=false):Wdn lt p (m+1):=λi j hij hj=>by
 by_cases hjm:j<m
 . exact h i j hij hjm
 . have:j=m:=by lia
   subst this;by_cases hi:i=j-1
   . rw[hi];exact e
   . exact O.ntr (h i (j-1) (by lia) (by lia)) e
def hZ{p:Array Nat}(a b:Nat)(hb:b<=p.size)(k:Nat):(kas_rev p a b).getD k 0=if a<=k/\k<b then p.getD (a+b-1-k) 0 else p.getD k 0:=by simp only[aVA];unfold kas_rev;rw[getElem?_mirror_all hb];split <;> rfl
def oV{p:Array Nat}(pp:PW n p)(a b:Nat):PW n (kas_rev p a b)/\(kas_rev p a b).Perm p:=by have pe:(kas_rev p a b).Perm p:=mirror_perm _ _ _ _;exact⟨pp.perm pe,pe⟩
theorem rG(O:WkO lt)(hc:gQ n lt cmp J){p:Array Nat}(pp:PW n p):∀(f m:Nat) (s:aW3) (Q:Nat->aW3->Prop),m+f=n->1<=m->Wup lt p m->J s->(∀m' s',m<=m'->m'<=n->Wup lt p m'->(m'<n->lt (p.getD m' 0) (p.getD (m'-1) 0)=true)->J s'->Q m' s')->(kas_asc p f m).kasWp cmp Q s
 |0,m,s,Q,e,h1,u,hJ,q=>q m s (aRG _) (by lia) u (λz=>by lia) hJ
 |f+1,m,s,Q,e,h1,u,hJ,q=>by
  refine hc _ _ s _ (pp.below m) (pp.below (m-1)) hJ λs' hJ'=>?_;cases ec:lt (p.getD m 0) (p.getD (m-1) 0)with
  |true=>exact q m s' (aRG _) (by lia) u (λ_=>ec) hJ'
  |false=>exact rG O hc pp f (m+1) s' Q (by lia) (by lia) (u.more O h1 ec) hJ' λm' s2 a b c d e=>q m' s2 (by lia) b c d e
theorem Wdn.turn{p:Array Nat}{a m:Nat}(hp:m<=p.size)(d:Wdn lt p m)(e:Weq lt p a m):Wdn lt (kas_rev p a m) m:=λi j hij hj=>by
 rw[hZ a m hp,hZ a m hp];by_cases hi:a<=i
 . rw[if_pos ⟨hi,by lia⟩,if_pos ⟨by lia,hj⟩]
   exact e _ _ (by lia) (by lia) (by lia) (by lia)
 . rw[if_neg (by lia)]
   by_cases hj2:a<=j
   . rw[if_pos ⟨hj2,hj⟩];exact d _ _ (by lia) (by lia)
   . rw[if_neg (by lia)];exact d i j hij hj
theorem oW(O:WkO lt)(hc:gQ n lt cmp J)(p0:Array Nat):∀(f m q:Nat) (p:Array Nat) (s:aW3) (Q:Array Nat×Nat×Nat->aW3->Prop),PW n p->p.Perm p0->m+f=n->q+1<=m->Wdn lt p m->Weq lt p (m-(q+1)) m->J s->(∀p' m' q' s',PW n p'->p'.Perm p0->q'+1<=m'->1<=m'->m'<=n->Wdn lt p' m'->Weq lt p' (m'-(q'+1)) m'->J s'->Q (p',m',q') s')->(kas_desc f p m q).kasWp cmp Q s
 |0,m,q,p,s,Q,pp,pe,e,h1,u,we,hJ,k=>k p m q s pp pe h1 (by lia) (by lia) u we hJ
 |f+1,m,q,p,s,Q,pp,pe,e,h1,u,we,hJ,k=>by
  unfold kas_desc;refine hc _ _ s _ (pp.below m) (pp.below (m-1)) hJ λs' hJ'=>?_;have sz:=pp.size;cases ec:lt (p.getD m 0) (p.getD (m-1) 0)with
  |true =>
   have e1:=O.asy ec;have one:∀(r:Array Nat),Weq lt r (m+1-(0+1)) (m+1):=λr i j a b c d=>by
    have:i=j:=by lia
    subst this;exact O.irr _
   dsimp only;rw[if_pos rfl];by_cases hq:q > 0
   . rw[if_pos hq];obtain⟨pp2,pe2⟩:=oV pp (m-(q+1)) m;refine oW O hc p0 f (m+1) 0 _ s' Q pp2 (pe2.trans pe) (by lia) (by lia) ?_ (one _) hJ' k
     refine(u.turn (by lia) we).more O (by lia) ?_
     rw[hZ _ _ (by lia),hZ _ _ (by lia),if_pos ⟨by lia,by lia⟩,if_neg (by lia)]
     exact O.ntr (we _ (m-1) (by lia) (by lia) (by lia) (by lia)) e1
   . rw[if_neg hq];exact oW O hc p0 f (m+1) 0 p s' Q pp pe (by lia) (by lia) (u.more O (by lia) e1) (one _) hJ' k
  |false =>
   dsimp only;rw[if_neg aRA];refine hc _ _ s' _ (pp.below (m-1)) (pp.below m) hJ' λs2 hJ2=>?_;cases ed:lt (p.getD (m-1) 0) (p.getD m 0)with
   |true=>dsimp only;rw[if_pos rfl];exact k p m q s2 pp pe h1 (by lia) (by lia) u we hJ2
   |false =>
    dsimp only;rw[if_neg aRA];refine oW O hc p0 f (m+1) (q+1) p s2 Q pp pe (by lia) (by lia) (u.more O (by lia) ed) (λi j a b c d=>?_) hJ2 k
    by_cases hi:i<m
    . by_cases hj:j<m
      . exact we i j (by lia) hi (by lia) hj
      . have:j=m:=by lia
        subst this;exact O.ntr (we i (j-1) (by lia) hi (by lia) (by lia)) ed
    . have:i=m:=by lia
      subst this;by_cases hj:j<i
      . exact O.ntr ec (we (i-1) j (by lia) (by lia) (by lia) hj)
      . have:j=i:=by lia
        subst this;exact O.irr _
theorem yL(O:WkO lt)(hc:gQ n lt cmp J){p:Array Nat}(pp:PW n p){m:Nat}(h1:1<=m)(hm:m<=n)(d:Wdn lt p m){Q:Nat×Array Nat->aW3->Prop}(hJ:J s)(q:∀m' p' s',1<=m'->m'<=n->PW n p'->p'.Perm p->Wup lt p' m'->J s'->Q (m',p') s'):(kas_tail3 m n p).kasWp cmp Q s:=by
 unfold kas_tail3;rw[KasT.kasWp_bind];obtain⟨pp2,pe2⟩:=oV pp 0 m;have sz:=pp.size;refine rG O hc pp2 (n-m) m s _ (by lia) h1 (λi j hij hj=>?_) hJ λm2 s3 a2 b2 u2 _ hJ3=>q m2 _ s3 (by lia) b2 pp2 pe2 u2 hJ3
 rw[hZ _ _ (by lia),hZ _ _ (by lia),if_pos ⟨by lia,by lia⟩,if_pos ⟨by lia,by lia⟩]
 exact d _ _ (by lia) (by lia)
theorem yM(O:WkO lt)(hc:gQ n lt cmp J){p:Array Nat}(pp:PW n p){m:Nat}(hm:m<n)(d:Wdn lt p (m+1)){Q:Nat×Array Nat->aW3->Prop}(hJ:J s)(q:∀m' p' s',1<=m'->m'<=n->PW n p'->p'.Perm p->Wup lt p' m'->J s'->Q (m',p') s'):(kas_descPart m n p).kasWp cmp Q s:=by
 unfold kas_descPart;rw[KasT.kasWp_bind];refine oW O hc p (n-(m+1)) (m+1) 0 p s _ pp (aV0 _) (by lia) (by lia) d (λi j a b c d=>?_) hJ λp' m' q' s' pp' pe' h1 h2 h3 d' e' hJ'=>?_
 . have:i=j:=by lia
   subst this;exact O.irr _
 . dsimp only;have sz:=pp'.size;by_cases hq:q' > 0
   . rw[if_pos hq];obtain⟨pp2,pe2⟩:=oV pp' (m'-(q'+1)) m';exact yL O hc pp2 h2 h3 (d'.turn (by lia) e') hJ' λm2 p2 s2 x1 x2 x3 x4 x5 x6=>q m2 p2 s2 x1 x2 x3 ((x4.trans pe2).trans pe') x5 x6
   . rw[if_neg hq];exact yL O hc pp' h2 h3 d' hJ' λm2 p2 s2 x1 x2 x3 x4 x5 x6=>q m2 p2 s2 x1 x2 x3 (x4.trans pe') x5 x6
theorem aJ0(O:WkO lt)(hc:gQ n lt cmp J)(hn:2<=n){p:Array Nat}(pp:PW n p){Q:Nat×Array Nat->aW3->Prop}(hJ:J s)(q:∀m' p' s',1<=m'->m'<=n->PW n p'->p'.Perm p->Wup lt p' m'->J s'->Q (m',p') s'):(kas_count n p).kasWp cmp Q s:=by
 unfold kas_count;rw[KasT.kasWp_bind];have sz:=pp.size;refine rG O hc pp (n-1) 1 s _ (by lia) (aRG _) (λi j h1 h2=>by lia) hJ λm s1 a b u d hJ1=>?_
 by_cases em:m=n
 . rw[if_pos (by simpa using em)]
   exact q m p s1 a b pp (aV0 _) u hJ1
 . rw[if_neg (by simpa using em)]
   have dm:=O.asy (d (by lia))
   by_cases h1:m > 1
   . rw[if_pos h1];refine hc _ _ s1 _ (pp.below 0) (pp.below (m-1)) hJ1 λs2 hJ2=>?_;cases ec:lt (p.getD 0 0) (p.getD (m-1) 0)with
     |true=>dsimp only;rw[if_pos rfl];exact q m p s2 a b pp (aV0 _) u hJ2
     |false =>
      dsimp only;rw[if_neg aRA];obtain⟨pp2,pe2⟩:=oV pp 0 m;have ge:∀i,i<m->lt (p.getD i 0) (p.getD 0 0)=false:=λi hi=>by
       by_cases h0:i=0
       . rw[h0];exact O.irr _
       . exact u 0 i (by lia) hi
      have le:∀i,i<m->lt (p.getD (m-1) 0) (p.getD i 0)=false:=λi hi=>by
       by_cases h0:i=m-1
       . rw[h0];exact O.irr _
       . exact u i (m-1) (by lia) (by lia)
      have all:Weq lt p 0 m:=λi j _ hi _ hj=>O.ntr (O.ntr (ge i hi) ec) (le j hj);refine yM O hc pp2 (by lia) (Wdn.more O (Wdn.turn (by lia) (λi j hij hj=>all i j (by lia) (by lia) (by lia) hj) all) (by lia) ?_) hJ2 λm2 p2 s3 x1 x2 x3 x4 x5 x6=>q m2 p2 s3 x1 x2 x3 (x4.trans pe2) x5 x6
      rw[hZ _ _ (by lia),hZ _ _ (by lia),if_pos ⟨by lia,by lia⟩,if_neg (by lia)]
      exact O.ntr (all _ (m-1) (by lia) (by lia) (by lia) (by lia)) dm
   . rw[if_neg h1];have e1:m=1:=by lia
     subst e1
     exact yM O hc pp (by lia) (λi j hij hj=>by
      have:i=0/\j=1:=by lia
      rw[this.1,this.2];exact dm) hJ1 q
theorem rH(O:WkO lt)(hc:gQ n lt cmp J){p:Array Nat}(pp:PW n p){k:Nat}(hk:k<n)(u:Wup lt p k):∀(f l r:Nat) (s:aW3) (Q:Nat->aW3->Prop),l<=r->r<=k->r-l<=f->J s->(∀i,i<l->lt (p.getD k 0) (p.getD i 0)=false)->(∀i,r<=i->i<k->lt (p.getD i 0) (p.getD k 0)=false)->(∀l' s',l'<=k->(∀i,i<l'->lt (p.getD k 0) (p.getD i 0)=false)->(∀i,l'<=i->i<k->lt (p.getD i 0) (p.getD k 0)=false)->J s'->Q l' s')->(kas_place p k f l r).kasWp cmp Q s
 |0,l,r,s,Q,h1,h2,h3,hJ,a,b,q=>q l s (by lia) a (λi hi=>b i (by lia)) hJ
 |f+1,l,r,s,Q,h1,h2,h3,hJ,a,b,q=>by
  unfold kas_place;by_cases hlr:l ≥ r
  . rw[if_pos hlr];exact q l s (by lia) a (λi hi=>b i (by lia)) hJ
  . rw[if_neg hlr];refine hc _ _ s _ (pp.below k) (pp.below ((l+r) / 2)) hJ λs' hJ'=>?_;cases ec:lt (p.getD k 0) (p.getD ((l+r) / 2) 0)with
    |true =>
     refine rH O hc pp hk u f l ((l+r) / 2) s' Q (by lia) (by lia) (by lia) hJ' a (λi h4 h5=>?_) q
     by_cases e:i=(l+r) / 2
     . rw[e];exact O.asy ec
     . exact O.ntr (u _ i (by lia) h5) (O.asy ec)
    |false =>
     refine rH O hc pp hk u f ((l+r) / 2+1) r s' Q (by lia) h2 (by lia) hJ' (λi h4=>?_) b q
     by_cases e:i=(l+r) / 2
     . rw[e];exact ec
     . exact O.ntr ec (u i _ (by lia) (by lia))
theorem yN(O:WkO lt)(hc:gQ n lt cmp J):∀(f k:Nat) (p:Array Nat) (s:aW3) (Q:Array Nat->aW3->Prop),k+f=n->PW n p->Wup lt p k->J s->(∀p' s',PW n p'->p'.Perm p->Wup lt p' n->J s'->Q p' s')->(kas_bin f p k).kasWp cmp Q s
 |0,k,p,s,Q,e,pp,u,hJ,q=>by
  have:k=n:=by lia
  subst this;exact q p s pp (aV0 _) u hJ
 |f+1,k,p,s,Q,e,pp,u,hJ,q=>by
  unfold kas_bin;rw[KasT.kasWp_bind];refine rH O hc pp (by lia) u k 0 k s _ (aRQ _) (aRG _) (by lia) hJ (λi h=>by lia) (λi h1 h2=>by lia) λl s1 hl a b hJ1=>?_
  have pe:(bubble p k (k-l)).Perm p:=bubble_perm _ _ _;have g:=getElem?_bubble (xs:=p) (src:=k) (by rw[pp.size];lia) (k-l) (by lia)
  refine yN O hc f (k+1) _ s1 Q (by lia) (pp.perm pe) (λi j hij hj=>?_) hJ1 λp' s2 x y z w=>q p' s2 x (y.trans pe) z w
  have el:k-(k-l)=l:=by lia
  rw[el]at g;have gd:∀i,(bubble p k (k-l)).getD i 0=if i=l then p.getD k 0 else if l<i/\i<=k then p.getD (i-1) 0 else p.getD i 0:=λi=>by
   simp only[aVA];rw[g i];split
   . rfl
   . split <;> rfl
  rw[gd i,gd j];by_cases h1:i<l
  . rw[if_neg (show ¬ i=l by lia),if_neg (show ¬ (l<i/\i<=k) by lia)]
    by_cases h2:j=l
    . rw[if_pos h2];exact a i h1
    . rw[if_neg h2];split
      . exact u i (j-1) (by lia) (by lia)
      . exact u i j hij (by lia)
  . by_cases h2:i=l
    . rw[if_pos h2,if_neg (show ¬ j=l by lia),if_pos (show l<j/\j<=k by lia)]
      exact b (j-1) (by lia) (by lia)
    . rw[if_neg h2,if_pos (show l<i/\i<=k by lia),if_neg (show ¬ j=l by lia),if_pos (show l<j/\j<=k by lia)]
      exact u (i-1) (j-1) (by lia) (by lia)
theorem aJ1(O:WkO lt)(hc:gQ n lt cmp J)(hn:2<=n){Q:Array Nat->aW3->Prop}(hJ:J s)(q:∀p s',PW n p->p.Perm (List.toArray (List.range n))->Wup lt p n->J s'->Q p s'):(kas_sort n).kasWp cmp Q s:=by
 unfold kas_sort;rw[KasT.kasWp_bind];have pp:PW n (List.toArray (List.range n)):=by
  refine⟨by simp,λk=>?_⟩
  simp only[aVA,aU3,List.getElem?_range];by_cases hk:k<n
  . simp[hk]
  . simp[hk];lia
 refine aJ0 O hc hn pp hJ λm p s1 a b pp' pe u hJ1=>?_;by_cases h:m<n
 . rw[if_pos h];have em:max m 1=m:=by lia
   rw[em];exact yN O hc (n-m) m p s1 Q (by lia) pp' u hJ1 λp' s2 x y z w=>q p' s2 x (y.trans pe) z w
 . rw[if_neg h];have em:m=n:=by lia
   subst em;exact q p s1 pp' pe u hJ1
end
def iA:Nat:=64
def l5:iA<=1000000:=by decide
def rJ:64<=iA:=aRG _
section
variable {A:aW4}{E:VSP}{κ:SortKind}{ks:List aW2}{lt:Nat->Nat->Bool}
def aJ2(O:WkO lt)(hl:ks.length=vs.length)(h1:2<=vs.length)(hb:vs.length<iA)(ask:∀i j (C:Bool->aW3->Prop),i<vs.length->j<vs.length->C (lt i j) s->wpAny (model prog w) A (keyLt' κ (ks.getD i .none) (ks.getD j .none)) C (λ_ _=>False) s){Q:SortSt->aW3->Prop}(q:∀p st',PW vs.length p->p.Perm (List.toArray (List.range vs.length))->Wup lt p vs.length->arrOf st'=p.map (kas_item (ks.toArray.zip vs.toArray))->failedOf st'=none->Q st' s):wpAny (model prog w) A ((sortRuns').run (SortSt.mk' κ (ks.toArray.zip vs.toArray) #[] 7 none)) (λr s'=>Q r.2 s') E s:=by
 have a:gQ vs.length lt (kas_ask prog w A κ ks) (λs2=>s2=s):=λi j s2 C hi hj hJ q=>by subst hJ;unfold kas_ask;exact ask i j _ hi hj (q _ rfl)
 exact kat_run (G:=λp s2=>s2=s/\PW vs.length p/\p.Perm (List.toArray (List.range vs.length))/\Wup lt p vs.length) hl h1 hb (λp st' s2 a1 a2 a3 a4=>by
  obtain⟨rfl,b1,b2,b3⟩:=a4;exact q p st' b1 b2 b3 a2 a3) (aJ1 O a h1 rfl λp s2 b1 b2 b3 b4=>⟨b4,b1,b2,b3⟩)
end
mutual
def ltN:N->N->Bool
 |.i n,.i m=>decide (n<m)
 |.i _,.s _=>true
 |.i _,.t _=>true
 |.s _,.i _=>false
 |.s x,.s y=>lts x y
 |.s _,.t _=>true
 |.t _,.i _=>false
 |.t _,.s _=>false
 |.t xs,.t ys=>bF xs ys
def bF:List N->List N->Bool
 |[],[]=>false
 |[],_::_=>true
 |_::_,[]=>false
 |x::xs,y::ys=>if x=y then bF xs ys else ltN x y
end
mutual
def okN:N->N->Bool
 |.i _,.i _=>true
 |.s _,.s _=>true
 |.t xs,.t ys=>eX xs ys
 |.i _,.s _=>false
 |.i _,.t _=>false
 |.s _,.i _=>false
 |.s _,.t _=>false
 |.t _,.i _=>false
 |.t _,.s _=>false
def eX:List N->List N->Bool
 |[],_=>true
 |_::_,[]=>true
 |x::xs,y::ys=>if x=y then eX xs ys else okN x y
end
theorem yO:∀(xs:List N),bF xs xs=false
 |[]=>by rw[bF]
 |x::xs=>by rw[bF,if_pos rfl,yO xs]
def l6(k:N):ltN k k=false:=by
 cases k with
 |i n=>rw[ltN];simp
 |s x=>rw[ltN];exact hV x
 |t xs=>rw[ltN];exact yO xs
theorem yP:∀{xs ys:List N},(∀x∈xs,∀y,ltN x y=false->ltN y x=false->x=y)->bF xs ys=false->bF ys xs=false->xs=ys
 |[],[],_,_,_=>rfl
 |[],_::_,_,h,_=>by rw[bF]at h;cases h
 |_::_,[],_,_,h=>by rw[bF]at h;cases h
 |x::xs,y::ys,k,h1,h2=>by
  rw[bF]at h1 h2;by_cases e:x=y
  . subst e;rw[if_pos rfl]at h1 h2;rw[yP (λz hz=>k z (mcm hz)) h1 h2]
  . rw[if_neg e]at h1;rw[if_neg (λz=>e z.symm)]at h2;exact absurd (k x mcs y h1 h2) e
theorem rK(k:N):∀y,ltN k y=false->ltN y k=false->k=y:=by
 induction k using N.ind with
 |hi n =>
  intro y h1 h2;cases y with
  |i m =>
   rw[ltN]at h1 h2;have:n=m:=by have a1:=aV1 h1;have a2:=aV1 h2;lia
   rw[this]
  |s x=>rw[ltN]at h1;cases h1
  |t xs=>rw[ltN]at h1;cases h1
 |hs x =>
  intro y h1 h2;cases y with
  |i m=>rw[ltN]at h2;cases h2
  |s z=>rw[ltN]at h1 h2;rw[jZ h1 h2]
  |t xs=>rw[ltN]at h1;cases h1
 |ht xs ih =>
  intro y h1 h2;cases y with
  |i m=>rw[ltN]at h2;cases h2
  |s z=>rw[ltN]at h2;cases h2
  |t ys=>rw[ltN]at h1 h2;rw[yP ih h1 h2]
theorem yQ:∀{xs ys zs:List N},(∀x∈xs,∀y z,ltN x y=true->ltN y z=true->ltN x z=true)->bF xs ys=true->bF ys zs=true->bF xs zs=true
 |[],[],_,_,h,_=>by rw[bF]at h;cases h
 |[],_::_,[],_,_,h=>by rw[bF]at h;cases h
 |[],_::_,_::_,_,_,_=>by rw[bF]
 |_::_,[],_,_,h,_=>by rw[bF]at h;cases h
 |_::_,_::_,[],_,_,h=>by rw[bF]at h;cases h
 |x::xs,y::ys,z::zs,k,h1,h2=>by
  rw[bF]at h1 h2 ⊢;by_cases e1:x=y
  . subst e1;rw[if_pos rfl]at h1;by_cases e2:x=z
    . rw[if_pos e2]at h2 ⊢;exact yQ (λz hz=>k z (mcm hz)) h1 h2
    . rw[if_neg e2]at h2 ⊢;exact h2
  . rw[if_neg e1]at h1;by_cases e2:y=z
    . subst e2;rw[if_neg e1];exact h1
    . rw[if_neg e2]at h2;have h3:=k x mcs y z h1 h2;by_cases e3:x=z
      . rw[<- e3]at h2;have:=k x mcs y x h1 h2;rw[l6]at this;cases this
      . rw[if_neg e3];exact h3
theorem rL(k:N):∀y z,ltN k y=true->ltN y z=true->ltN k z=true:=by
 induction k using N.ind with
 |hi n =>
  intro y z h1 h2;cases z with
  |i l =>
   cases y with
   |i m=>rw[ltN]at h1 h2 ⊢;have a1:=aTD h1;have a2:=aTD h2;exact aSS (by lia)
   |s x=>rw[ltN]at h2;cases h2
   |t xs=>rw[ltN]at h2;cases h2
  |s x=>rw[ltN]
  |t xs=>rw[ltN]
 |hs x =>
  intro y z h1 h2;cases y with
  |i m=>rw[ltN]at h1;cases h1
  |s x2 =>
   cases z with
   |i l=>rw[ltN]at h2;cases h2
   |s x3=>rw[ltN]at h1 h2 ⊢;exact lW h1 h2
   |t xs=>rw[ltN]
  |t xs =>
   cases z with
   |i l=>rw[ltN]at h2;cases h2
   |s x3=>rw[ltN]at h2;cases h2
   |t xs=>rw[ltN]
 |ht xs ih =>
  intro y z h1 h2;cases y with
  |i m=>rw[ltN]at h1;cases h1
  |s x2=>rw[ltN]at h1;cases h1
  |t ys =>
   cases z with
   |i l=>rw[ltN]at h2;cases h2
   |s x3=>rw[ltN]at h2;cases h2
   |t zs=>rw[ltN]at h1 h2 ⊢;exact yQ ih h1 h2
def rM{a b:N}(h:ltN a b=true):ltN b a=false:=by
 cases e:ltN b a with
 |false=>rfl
 |true=>have:=rL a b a h e;rw[l6]at this;cases this
def rO{a b c:N}(h1:ltN a b=false)(h2:ltN b c=false):ltN a c=false:=by
 cases e:ltN a c with
 |false=>rfl
 |true =>
  cases e1:ltN b a with
  |true=>have:=rL b a c e1 e;rw[h2]at this;cases this
  |false=>have:=rK a b h1 e1;subst this;rw[e]at h2;cases h2
def eY(l:List N):Prop:=l.Pairwise λx y=>ltN y x=false
def j4(x:N):List N->List N
 |[]=>[x]
 |y::l=>if ltN y x=true then y::j4 x l else x::y::l
def cY(l:List N):List N:=l.foldr j4 []
theorem rP(x:N):∀(l:List N),(j4 x l).Perm (x::l)
 |[]=>aV2 _
 |y::l=>by
  unfold j4;split
  . exact((rP x l).cons y).trans (List.Perm.swap x y l)
  . exact aV2 _
theorem l7:∀(l:List N),(cY l).Perm l
 |[]=>aV2 _
 |x::l=>(rP x (cY l)).trans ((l7 l).cons x)
theorem yR{x:N}:∀{l:List N},eY l->eY (j4 x l)
 |[],_=>aVV _ _
 |y::l,h=>by
  unfold j4;split
  . rename_i e;refine aVU.mpr ⟨λz hz=>?_,yR (aVU.mp h).2⟩;rcases aQZ.mp ((rP x l).mem_iff.mp hz)with rfl|hz
    . exact rM e
    . exact(aVU.mp h).1 z hz
  . rename_i e;have e:ltN y x=false:=by simpa using e
    refine aVU.mpr ⟨λz hz=>?_,h⟩;rcases aQZ.mp hz with rfl|hz
    . exact e
    . exact rO ((aVU.mp h).1 z hz) e
theorem rQ:∀(l:List N),eY (cY l)
 |[]=>List.Pairwise.nil
 |x::l=>yR (rQ l)
theorem yS:∀{l l':List N},eY l->eY l'->l.Perm l'->l=l'
 |[],l',_,_,p=>p.symm.eq_nil.symm
 |x::l,[],_,_,p=>p.eq_nil
 |x::l,y::l',h,h',p=>by
  have h1:=aVU.mp h;have h2:=aVU.mp h';have exy:x=y:=by
   have a:ltN y x=false:=by
    rcases aQZ.mp (p.mem_iff.mpr mcs)with e|e
    . rw[e];exact l6 _
    . exact h1.1 y e
   have b:ltN x y=false:=by
    rcases aQZ.mp (p.mem_iff.mp mcs)with e|e
    . rw[e];exact l6 _
    . exact h2.1 x e
   exact rK x y b a
  subst exy;rw[yS h1.2 h2.2 p.cons_inv]
def rR{l l':List N}(h:eY l')(p:l'.Perm l):l'=cY l:=yS h (rQ l) (p.trans (l7 l).symm)
theorem aJ3{A:aW4}{x y:N}{v:aW2}(hu:A.units+x.dp<cLine)(hx:IsN s.heap x u)(hy:IsN s.heap y v):SeqAt.EqAt A s u v (decide (x=y)):=by
 obtain⟨⟨as,ra⟩,ca⟩:=IsN.reads x u hx;obtain⟨⟨bs,rb⟩,cb⟩:=IsN.reads y v hy;have:=SeqAt.eqAt_reads x.py y.py A s u v as bs ra rb ca cb (by rw[N.py_depth];have:=aS7 x.dp y.py.depth;lia)
 rw[N.py_eqv]at this;exact this
theorem yT{A:aW4}:∀{xs ys:List N}{us vs:List aW2},(∀x∈xs,∀(y:N) (u v:aW2),IsN s.heap x u->IsN s.heap y v->okN x y=true->∀(prog:aW6) (w':aW5) (E:VSP) (Q:VSP),Q (.bool (ltN x y)) s->wpAny (model prog w') A (compareOp .Lt u v) Q E s)->A.units+N.dpL xs<cLine->aQ s.heap xs us->aQ s.heap ys vs->eX xs ys=true->LtI A s us vs (bF xs ys)
 |[],[],us,vs,_,_,h1,h2,_=>by rw[aQ]at h1 h2;subst h1;subst h2;rw[bF];exact .nn
 |[],y::ys,us,vs,_,_,h1,h2,_=>by rw[aQ]at h1;rw[aQ]at h2;subst h1;obtain⟨v,ws,rfl,_⟩:=h2;rw[bF];exact .nc
 |x::xs,[],us,vs,_,_,h1,h2,_=>by rw[aQ]at h1;rw[aQ]at h2;subst h2;obtain⟨v,ws,rfl,_⟩:=h1;rw[bF];exact .cn
 |x::xs,y::ys,us,vs,k,hu,h1,h2,ok=>by
  rw[aQ]at h1 h2;obtain⟨u,us,rfl,p1,p2⟩:=h1;obtain⟨v,vs,rfl,q1,q2⟩:=h2;rw[N.dpL]at hu;rw[eX]at ok;have e:=aJ3 (A:=A) (by lia) p1 q1
  rw[bF];by_cases exy:x=y
  . rw[aSS exy]at e;rw[if_pos exy]at ok ⊢;exact .eq e (yT (λz hz=>k z (mcm hz)) (by lia) p2 q2 ok)
  . rw[aQL exy]at e;rw[if_neg exy]at ok ⊢;exact .ne e λprog w' E Q q=>k x mcs y u v p1 q1 ok prog w' E Q q
theorem n_lt(k:N):∀{A:aW4}{E:VSP}{y:N}{u v:aW2}{Q:VSP}{prog:aW6}{w:aW5},A.units+k.dp+1<cLine->IsN s.heap k u->IsN s.heap y v->okN k y=true->Q (.bool (ltN k y)) s->wpAny (model prog w) A (compareOp .Lt u v) Q E s:=by
 induction k using N.ind with
 |hi n =>
  intro A E y u v Q prog w hu h1 h2 ok q;cases y with
  |i m=>rw[IsN]at h1 h2;obtain⟨t,rfl⟩:=h1;obtain⟨t',rfl⟩:=h2;rw[ltN]at q;exact lt_int q
  |s x=>rw[okN]at ok;cases ok
  |t xs=>rw[okN]at ok;cases ok
 |hs x =>
  intro A E y u v Q prog w hu h1 h2 ok q;cases y with
  |s z=>rw[IsN]at h1 h2;obtain⟨⟨t,rfl⟩,_⟩:=h1;obtain⟨⟨t',rfl⟩,_⟩:=h2;rw[ltN]at q;unfold lts at q;rw[ltCps_eq]at q;exact lt_str q
  |i m=>rw[okN]at ok;cases ok
  |t xs=>rw[okN]at ok;cases ok
 |ht xs ih =>
  intro A E y u v Q prog w hu h1 h2 ok q;cases y with
  |i m=>rw[okN]at ok;cases ok
  |s x=>rw[okN]at ok;cases ok
  |t ys=>rw[IsN]at h1 h2;obtain⟨a,o,its,n,rfl,g1,c1,d1,l1⟩:=h1;obtain⟨b,o',its',n',rfl,g2,c2,d2,l2⟩:=h2;rw[ltN]at q;rw[okN]at ok;rw[N.dp]at hu;exact aH9 ⟨o,g1,c1,n,d1⟩ ⟨o',g2,c2,n',d2⟩ (yT (A:=A.in1) (λx hx y u v p1 p2 ok prog w' E Q q=>ih x hx (by have:=N.dp_mem hx;show A.units+1+_+1<_;lia) p1 p2 ok q) (by show A.units+1+_<_;lia) l1 l2 ok) (by lia) q
def dZ(h:Heap)(vs:List aW2)(ks:List N):Prop:=vs.length=ks.length/\∀i,i<ks.length->IsN h (ks.getD i (.i 0)) (vs.getD i .none)
def cM:N->Bool
 |.t (.t _::_)=>true
 |_=>false
structure iX(ks:List N)(p:List Nat):Prop where
 perm:p.Perm (List.range ks.length)
 up:eY (p.map λi=>ks.getD i (.i 0))
def iX.eq{p:List Nat}(h:iX ks p):(p.map λi=>ks.getD i (.i 0))=cY ks:=by refine rR h.up ?_;have:=h.perm.map λi=>ks.getD i (.i 0);rw[oP]at this;exact this
def IsN.kept(k:N):∀{v:aW2},IsN h k v->(∀a o,h.get? a=some o->o.cls=.type "tuple" -> h'.get? a=some o)->IsN h' k v:=by
 induction k using N.ind with
 |hi n=>intro v q _;rw[IsN]at q ⊢;exact q
 |hs x=>intro v q _;rw[IsN]at q ⊢;exact q
 |ht xs ih=>intro v q kp;rw[IsN]at q ⊢;obtain⟨a,o,its,n,e,ha,hc,hd,hi⟩:=q;exact⟨a,o,its,n,e,kp a o ha hc,hc,hd,hi.map λx hx v q=>ih x hx q kp⟩
def rS(ks:List N):Prop:=∀x∈ks,∀y∈ks,okN x y=true
section
variable {A:aW4}{E:VSP}
theorem yU{fin:Bool}{Q:Bool->aW3->Prop}:∀{xs ys:List N}{us vs:List aW2}{i:Nat},A.units+N.dpL xs+1<cLine->aQ s.heap xs us->aQ s.heap ys vs->eX xs ys=true->fin=decide (us.length<vs.length)->Q (bF xs ys) s->KatLex prog w A false fin Q (us.zip vs) i s
 |[],[],us,vs,i,_,h1,h2,_,e,q=>by rw[aQ]at h1 h2;subst h1;subst h2;subst e;rw[bF]at q;exact q
 |[],y::ys,us,vs,i,_,h1,h2,_,e,q=>by rw[aQ]at h1;rw[aQ]at h2;subst h1;obtain⟨v,zs,rfl,_⟩:=h2;subst e;rw[bF]at q;exact q
 |x::xs,[],us,vs,i,_,h1,h2,_,e,q=>by rw[aQ]at h1;rw[aQ]at h2;subst h2;obtain⟨v,zs,rfl,_⟩:=h1;subst e;rw[bF]at q;exact q
 |x::xs,y::ys,us,vs,i,hu,h1,h2,ok,e,q=>by
  rw[aQ]at h1 h2;obtain⟨u,us,rfl,p1,p2⟩:=h1;obtain⟨v,vs,rfl,q1,q2⟩:=h2;rw[N.dpL]at hu;rw[eX]at ok;rw[bF]at q;rw[aT3];refine kat_cons (qE (by lia) p1 q1 (kat_go (λh=>?_) λh=>?_))
  . have exy:=aTD h;rw[if_pos exy]at ok q;exact kat_yes (yU (by lia) p2 q2 ok (by subst e;simp) q)
  . have exy:=aV1 h;rw[if_neg exy]at ok q;exact kat_no (kat_one _ _ (n_lt x (by lia) p1 q1 ok q))
theorem aJ4{x y:N}{v:aW2}(hu:A.units+x.dp<cLine)(fx:cM x=true)(fy:cM y=true)(hx:IsN s.heap x u)(hy:IsN s.heap y v)(ok:okN x y=true)(q:Q (ltN x y) s):wpAny (model prog w) A (keyLt' (tuples' false) u v) Q E s:=by
 cases x with
 |i n=>cases fx
 |s z=>cases fx
 |t xs =>
  cases y with
  |i n=>cases fy
  |s z=>cases fy
  |t ys=>rw[IsN]at hx hy;obtain⟨a,o,its,n,rfl,g1,c1,d1,l1⟩:=hx;obtain⟨b,o',its',n',rfl,g2,c2,d2,l2⟩:=hy;rw[okN]at ok;rw[ltN]at q;rw[N.dp]at hu;exact kat_lt g1 d1 g2 d2 (yU (by lia) l1 l2 ok (by simp) q)
theorem yV:∀{vs:List aW2}{ks:List N},dZ s.heap vs ks->(∀k∈ks,cM k=true)->∃fs:List aW2,KatTups s.heap vs fs/\fs.length=ks.length/\∀f∈fs,Looks (model prog w) s.heap (typeOf f) (.type "tuple")
 |[],[],_,_=>⟨[],trivial,rfl,λf hf=>nomatch hf⟩
 |[],_::_,h,_=>by have:=h.1;simp at this
 |_::_,[],h,_=>by have:=h.1;simp at this
 |v::vs,k::ks,h,ft=>by
  have h0:=h.2 0 (by simp)
  have h0:IsN s.heap k v:=by simpa using h0
  have tail:dZ s.heap vs ks:=⟨by simpa using h.1,λi hi=>by
   have:=h.2 (i+1) (by simpa using hi)
   simpa using this⟩
  obtain⟨fs,k1,k2,k3⟩:=yV tail λt ht=>ft t (mcm ht);have fk:=ft k mcs;unfold cM at fk;split at fk
  . rename_i ys zs;rw[IsN]at h0;obtain⟨a,o,its,n,rfl,g1,c1,d1,l1⟩:=h0;rw[aQ]at l1;obtain⟨f,us,e1,p1,_⟩:=l1;rw[IsN]at p1;obtain⟨b,o2,its2,n2,rfl,g2,c2,d2,_⟩:=p1;have f0:its[0]? = some (.ref b):=by
      have:its.toList[0]? = some (.ref b):=by rw[e1];rfl
      simpa using this
    refine⟨.ref b::fs,⟨⟨a,o,its,n,rfl,g1,c1,d1,f0⟩,k1⟩,by simp[k2],λf hf=>?_⟩
    rcases aQZ.mp hf with rfl|hf
    . have L:Looks (model prog w) s.heap (typeOf (.ref b)) o2.cls:=(Looks.ld g2).andThen .now;rw[c2]at L;exact L
    . exact k3 f hf
  . cases fk
theorem kindN{Q:SortKind->aW3->Prop}(h:dZ s.heap vs ks)(ft:∀k∈ks,cM k=true)(h2:0<ks.length)(q:Q (tuples' false) s):wpAny (model prog w) A (keyKind' vs.toArray) Q E s:=by obtain⟨fs,k1,k2,k3⟩:=yV (prog:=prog) (w:=w) h ft;exact kat_kind (T:=.type "tuple") k1 (by lia) k3 rfl q
def wkO_N(ks:List N):WkO λi j=>ltN (ks.getD i (.i 0)) (ks.getD j (.i 0)):=⟨λa b=>rO a b,λa=>rM a⟩
def aJ5{p:Array Nat}(pp:PW ks.length p)(pe:p.Perm (List.toArray (List.range ks.length)))(u:Wup (λi j=>ltN (ks.getD i (.i 0)) (ks.getD j (.i 0))) p ks.length):iX ks p.toList:=by
 refine⟨by simpa using Array.perm_iff_toList_perm.mp pe,?_⟩
 unfold eY;rw[aV3];refine List.pairwise_iff_getElem.mpr λi j hi hj hij=>?_;rw[aQ7]at hi hj;have:=u i j hij (by rw[<- pp.size];exact hj)
 simpa[Array.getD,hi,hj]using this
theorem dZ.kept(q:dZ h vs ks)(kp:∀a o,h.get? a=some o->o.cls=.type "tuple" -> h'.get? a=some o):dZ h' vs ks:=⟨q.1,λi hi=>IsN.kept _ (q.2 i hi) kp⟩
theorem yW{a:Addr}{P:PySem.Fin->aW3->Prop}(hu:A.units+13<cLine)(ho:s.heap.get? a=some (seqObj "list" vs.toArray n))(hv:dZ s.heap vs ks)(d8:∀k∈ks,k.dp<=12)(ok:rS ks)(ft:ks.length<=1\/∀k∈ks,cM k=true)(hb64:ks.length<iA)(h:∀p,iX ks p->P (.done (.ret .none)) {s with heap:=sortedHeap s.heap a vs (p.map λi=>vs.getD i .none).toArray}):wpAny (model prog w) A (Builtin.«list.sort» ⟨[.ref a],[]⟩) P E s:=by
 have h64:ks.length<1000000:=aQR hb64 l5;have lv:=hv.1;have la:a<s.heap.objs.size:=aQQ ho;rw[list_sort_plain];refine aRD (aV4 ho rfl (aRD (aV5 ho rfl ?_ (by rw[aRL,aRK];lia) (aRQ _))))
 obtain⟨e1,ho1⟩:∃c,(s.heap.update a (Obj.mapSeq λ_=>(#[]:Array aW2))).get? a=some (seqObj "list" #[] c):=⟨_,get?_update_seq ho λ_=>#[]⟩;refine aRD (seqEpoch_at ho1 rfl (aRD (wpAny_newTuple (aRD (aVP (aSE ?_) (aRQ _))) (by show vs.length<=_;rw[aRK];lia))))
 have ho2:(((s.heap.update a (Obj.mapSeq λ_=>(#[]:Array Value))).push (seqObj "tuple" vs.toArray 0)).push (seqObj "list" #[] 0)).get? a=some (seqObj "list" #[] e1):=hps (hps ho1);have hv2:dZ (((s.heap.update a (Obj.mapSeq λ_=>(#[]:Array Value))).push (seqObj "tuple" vs.toArray 0)).push (seqObj "list" #[] 0)) vs ks:=hv.kept λb o e c=>by
  have hb:b≠a:=λz=>by
   rw[z,ho]at e;cases e;have c:Value.type "list" = .type "tuple" := c;injection c with c
   exact absurd c (by decide)
  exact hps (hps ((Heap.get?_update_ne _ _ _ _ hb).trans e))
 have fin:=h;show wpAny (model prog w) A _ P E { s with heap:=((s.heap.update a (Obj.mapSeq λ_=>(#[]:Array aW2))).push (seqObj "tuple" vs.toArray 0)).push (seqObj "list" #[] 0) }
 dsimp only;by_cases hs:vs.toArray.size<2
 . rw[if_pos hs,if_pos hs];rw[aRL]at hs;refine aRD (aRC ?_);rw[StateT.run_pure];refine aRD (aRC ?_);have w0:iX ks (List.range ks.length):=⟨aV2 _,by
     rw[oP]
     match ks,lv with
     |[],_=>exact List.Pairwise.nil
     |[t],_=>exact aVV _ _
     |_::_::_,lv=>simp at lv;lia⟩
   have ev:((List.range ks.length).map λi=>vs.getD i Value.none).toArray=(arrOf (SortSt.mk' general' (vs.toArray.zip vs.toArray) #[] 7 none)).map (·.2):=by
    rw[<- lv,oP];show vs.toArray=(vs.toArray.zip vs.toArray).map (·.2);apply Array.ext
    . simp
    . intro i h1 h2;simp
   have w1:=fin _ w0;rw[ev]at w1;refine aRD (seqEpoch_at ho2 rfl (aRD (aV5 ho2 rfl ?_ (aRQ _) (by rw[<- ev,aRL,aR4,aU2,aRK];lia))))
   simp only[aUY,aTA,aSB];exact aRC w1
 . rw[if_neg hs,if_neg hs];rw[aRL]at hs;have ft:∀k∈ks,cM k=true:=ft.resolve_left (by lia)
   refine aRD (kindN (s:={ s with heap:=((s.heap.update a (Obj.mapSeq λ_=>(#[]:Array aW2))).push (seqObj "tuple" vs.toArray 0)).push (seqObj "list" #[] 0) }) hv2 ft (by lia) ?_)
   refine aRD (aQ5 (aJ2 (ks := vs) (vs := vs) (κ := tuples' false) (wkO_N ks) rfl (by lia) (by lia) (fun i j C hi hj q => by
       have hi:i<ks.length:=by lia
       have hj:j<ks.length:=by lia
       have mi:ks.getD i (.i 0)∈ks:=by simp[hi]
       have mj:ks.getD j (.i 0)∈ks:=by simp[hj]
       exact aJ4 (by have:=d8 _ mi;lia) (ft _ mi) (ft _ mj) (hv2.2 i hi) (hv2.2 j hj) (ok _ mi _ mj) q)
    (Q:=λst' s'=>s'=_/\∃p:Array Nat,PW ks.length p/\p.Perm (List.toArray (List.range ks.length))/\Wup (λi j=>ltN (ks.getD i (.i 0)) (ks.getD j (.i 0))) p ks.length/\arrOf st'=p.map (kas_item (vs.toArray.zip vs.toArray))/\failedOf st'=none)
    λp st' a1 a2 a3 a4 a5=>⟨rfl,p,by rw[<- lv];exact a1,by rw[<- lv];exact a2,by rw[<- lv];exact a3,a4,a5⟩) ?_ λ_ _ e=>e)
   rintro⟨⟨⟩,st'⟩ s' ⟨rfl,p,pp,pe,u,ea,ef⟩;have w1:=fin _ (aJ5 pp pe u);have ev:=kat_snds (vs:=vs) rfl ea;rw[<- ev]at w1;refine aRD (seqEpoch_at ho2 rfl (aRD (aV5 ho2 rfl ?_ (aRQ _) (by rw[ev,aRL,aR4,aQ7,pp.size,aRK];lia))))
   rw[ef];simp only[aUY,aTA,aSB];exact aRC w1
theorem yX{l:Addr}{Q:List aW2->aW3->Prop}(hl:IsTup s.heap l vs.toArray)(hz:vs.length<=sizeLine)(h:Q vs { s with heap:=(s.heap.push (seqObj "list" #[] 0)).update s.heap.objs.size (Obj.mapSeq (·++vs.toArray)) }):wpAny (model prog w) A (collect (.ref l)) Q E s:=by
 obtain⟨o,ho,hc,n,hd⟩:=id hl;have g0:=aU6 (seqObj "list" #[] 0) ho;have g1:(s.heap.push (seqObj "list" #[] 0)).get? s.heap.objs.size=some (seqObj "list" #[] 0):=aQP _ rfl;unfold collect;refine aRD (aVF (aUJ entry_proto_collect' ?_));show wpAny _ _ (do let l' <- newList [];again (.builtin "list.__iadd__" ⟨[l',.ref l],[]⟩)) _ _ s
 refine aRD (aVP (aRC ⟨aV6 _ (by decide +kernel),aUJ entry_list_iadd' ?_⟩))
 show wpAny (model prog w) _ (Builtin.List.listExtendWith (.ref s.heap.objs.size) (.ref l) (.ref s.heap.objs.size)) _ _ _;unfold Builtin.List.listExtendWith;refine aRD (aSI (T := "tuple") (s:={ s with heap:=s.heap.push (seqObj "list" #[] 0) }) ⟨o,g0,hc⟩ ?_)
 rw[if_pos (by rw[show(Value.type "tuple" == Value.type "tuple")=true from rfl,Bool.or_true])]
 refine aRD (aV4 (s:={ s with heap:=s.heap.push (seqObj "list" #[] 0) }) g0 hd (aRD (aV4 (xs:=#[]) (n:=0) g1 rfl ?_)))
 rw[if_neg (by simp)]
 refine aRD (aV5 (xs:=#[]) (n:=0) g1 rfl (aRC ?_) (aRQ _) (by show(#[]++vs.toArray).size<=sizeLine+1;simp only[aV7,aRL,aSU];lia))
 show wpAny (model prog w) A (do match(<- load s.heap.objs.size).data with|.seq xs _=>pure xs.toList|_=>unsupported "internal:collect") Q E _
 refine aRD (aRE (get?_update_seq g1 _) ?_);show wpAny _ A (pure ((#[]:Array aW2)++vs.toArray).toList) Q E _;rw[show((#[]:Array aW2)++vs.toArray).toList=vs by simp]
 exact aRC h
theorem aJ6{l:Addr}{Q:VSP}(hu:A.units+64<cLine)(hl:s.heap.IsList l vs.toArray\/IsTup s.heap l vs.toArray)(hv:dZ s.heap vs ks)(d8:∀k∈ks,k.dp<=12)(ok:rS ks)(ft:ks.length<=1\/∀k∈ks,cM k=true)(hb64:ks.length<iA)(h:∀p,iX ks p->Q (.ref (s.heap.objs.size+1)) {s with heap:=sortedAll s.heap vs (p.map λi=>vs.getD i .none).toArray}):wpAny (model prog w) A (call (.builtin "sorted") [.ref l]) Q E s:=by
 have h64:ks.length<1000000:=aQR hb64 l5;have lv:=hv.1;refine aVK aVL aVM aVN (aVO (.ref l)) ?_;unfold Builtin.«sorted»;have col:∀{R:List aW2->aW3->Prop}{E':VSP},R vs { s with heap:=(s.heap.push (seqObj "list" #[] 0)).update s.heap.objs.size (Obj.mapSeq (·++vs.toArray)) } -> wpAny (model prog w) A.in1 (collect (.ref l)) R E' s:=λ{R E'} r=>by
  rcases hl with hl|hl
  . exact collect_list hl r (by rw[aRK];lia)
  . exact yX hl (by rw[aRK];lia) r
 refine aRD (m:=checkCount "sorted" 1 1 [Value.ref l].length) (aRC (aRD (col (aRD (aVP ?_ (by rw[aRK];lia))))))
 have z1:((s.heap.push (seqObj "list" #[] 0)).update s.heap.objs.size (Obj.mapSeq (·++vs.toArray))).objs.size=s.heap.objs.size+1:=(Heap.size_update ..).trans (aU8 ..);have g1:(((s.heap.push (seqObj "list" #[] 0)).update s.heap.objs.size (Obj.mapSeq (·++vs.toArray))).push (seqObj "list" vs.toArray 0)).get? (s.heap.objs.size+1)=some (seqObj "list" vs.toArray 0):=z1 ▸ aQP _ rfl;have hv1:dZ (((s.heap.push (seqObj "list" #[] 0)).update s.heap.objs.size (Obj.mapSeq (·++vs.toArray))).push (seqObj "list" vs.toArray 0)) vs ks:=hv.kept λb o e _ =>
  hps ((Heap.get?_update_ne _ _ _ _ (aQT (aQQ e))).trans (hps e))
 show wpAny _ _ _ _ _ { s with heap:=((s.heap.push (seqObj "list" #[] 0)).update s.heap.objs.size (Obj.mapSeq (·++vs.toArray))).push (seqObj "list" vs.toArray 0) }
 rw[z1];exact aRD (aSE (aSH aVQ ⟨_,g1,rfl⟩ aVR (yW (A:=A.in1.in1) (by show A.units+1+1+13<_;lia) (s:={ s with heap:=((s.heap.push (seqObj "list" #[] 0)).update s.heap.objs.size (Obj.mapSeq (·++vs.toArray))).push (seqObj "list" vs.toArray 0) }) g1 hv1 d8 ok ft hb64 λp wp=>⟨_,rfl,aRC ⟨_,rfl,h p wp⟩⟩) (aVS _)))
end
theorem yY:∀{h:Heap}{ks:List N}{us:List aW2},aQ h ks us->dZ h us ks
 |h,[],us,q=>by rw[aQ]at q;subst q;exact⟨rfl,λi hi=>by simp at hi⟩
 |h,k::ks,us,q=>by
  rw[aQ]at q;obtain⟨u,us,rfl,q1,q2⟩:=q;obtain⟨l,r⟩:=yY q2;refine⟨by simp[l],λi hi=>?_⟩
  cases i with
  |zero=>simpa using q1
  |succ i=>have:=r i (by simpa using hi);simpa using this
theorem bK.nth{K:Fg}{F:Hp}:∀{ks:List N}{vs:List V},bK K F ks vs->vs.length=ks.length/\∀i,i<ks.length->NAt K F (ks.getD i (.i 0)) (vs.getD i .non)
 |[],vs,q=>by rw[bK]at q;subst q;exact⟨rfl,λi hi=>by simp at hi⟩
 |k::ks,vs,q=>by
  rw[bK]at q;obtain⟨u,us,rfl,q1,q2⟩:=q;obtain⟨l,r⟩:=bK.nth q2;refine⟨by simp[l],λi hi=>?_⟩
  cases i with
  |zero=>simpa using q1
  |succ i=>have:=r i (by simpa using hi);simpa using this
theorem gR:∀(ks:List N),nDL ks=ks.map nD
 |[]=>by rw[nDL];rfl
 |k::ks=>by rw[nDL,gR ks];rfl
def okS(ks:List N):Bool:=ks.all (λk=>decide (k.dp<=12))&&(decide (ks.length<=1)||ks.all cM)&&ks.all (λx=>ks.all λy=>okN x y)&&decide (ks.length<iA)
def iY(l:List Str):Prop:=l.Pairwise λx y=>lts y x=false
def j5(x:Str):List Str->List Str
 |[]=>[x]
 |y::l=>if lts y x=true then y::j5 x l else x::y::l
def aX(l:List Str):List Str:=l.foldr j5 []
def aJ7(h:lts x y=true):lts y x=false:=by
 cases e:lts y x with
 |false=>rfl
 |true=>have:=lW h e;rw[hV]at this;cases this
def aJ8{a b c:Str}(h1:lts a b=false)(h2:lts b c=false):lts a c=false:=by
 have:=rO (a:=.s a) (b:=.s b) (c:=.s c) (by rw[ltN];exact h1) (by rw[ltN];exact h2)
 rw[ltN]at this;exact this
theorem rT(x:Str):∀(l:List Str),(j5 x l).Perm (x::l)
 |[]=>aV2 _
 |y::l=>by
  unfold j5;split
  . exact((rT x l).cons y).trans (List.Perm.swap x y l)
  . exact aV2 _
theorem fZ:∀(l:List Str),(aX l).Perm l
 |[]=>aV2 _
 |x::l=>(rT x (aX l)).trans ((fZ l).cons x)
theorem yZ{x:Str}:∀{l:List Str},iY l->iY (j5 x l)
 |[],_=>aVV _ _
 |y::l,h=>by
  unfold j5;split
  . rename_i e;refine aVU.mpr ⟨λz hz=>?_,yZ (aVU.mp h).2⟩;rcases aQZ.mp ((rT x l).mem_iff.mp hz)with rfl|hz
    . exact aJ7 e
    . exact(aVU.mp h).1 z hz
  . rename_i e;have e:lts y x=false:=by simpa using e
    refine aVU.mpr ⟨λz hz=>?_,h⟩;rcases aQZ.mp hz with rfl|hz
    . exact e
    . exact aJ8 ((aVU.mp h).1 z hz) e
theorem oX:∀(l:List Str),iY (aX l)
 |[]=>List.Pairwise.nil
 |x::l=>yZ (oX l)
theorem y0:∀{l l':List Str},iY l->iY l'->l.Perm l'->l=l'
 |[],l',_,_,p=>p.symm.eq_nil.symm
 |x::l,[],_,_,p=>p.eq_nil
 |x::l,y::l',h,h',p=>by
  have h1:=aVU.mp h;have h2:=aVU.mp h';have exy:x=y:=by
   have a:lts y x=false:=by
    rcases aQZ.mp (p.mem_iff.mpr mcs)with e|e
    . rw[e];exact hV _
    . exact h1.1 y e
   have b:lts x y=false:=by
    rcases aQZ.mp (p.mem_iff.mp mcs)with e|e
    . rw[e];exact hV _
    . exact h2.1 x e
   exact jZ b a
  subst exy;rw[y0 h1.2 h2.2 p.cons_inv]
def rU{l l':List Str}(h:iY l')(p:l'.Perm l):l'=aX l:=y0 h (oX l) (p.trans (fZ l).symm)
theorem rV:∀{l:List Str},sortedS l=true->iY l
 |[],_=>.nil
 |x::l,h=>by
  refine aVU.mpr ⟨λy hy=>qX (show risingS x l=true from h) y hy,rV ?_⟩
  cases l with
  |nil=>rfl
  |cons y l=>have h:(!lts y x&&risingS y l)=true:=h;rw[aSJ]at h;exact h.2
section
variable {A:aW4}{E:VSP}
theorem aJ9{l:Addr}{ns:List Str}{Q:VSP}(hl:s.heap.IsList l vs.toArray\/IsTup s.heap l vs.toArray)(sa:StrsAre vs ns)(h64:vs.length<64)(h:∀(out:Array aW2) ys,StrsAre out.toList ys->ys.Perm ns->sortedS ys=true->Q (.ref (s.heap.objs.size+1)) {s with heap:=sortedAll s.heap vs out}):wpAny (model prog w) A (call (.builtin "sorted") [.ref l]) Q E s:=by
 refine aVK aVL aVM aVN (aVO (.ref l)) ?_;unfold Builtin.«sorted»;have col:∀{R:List aW2->aW3->Prop}{E':VSP},R vs { s with heap:=(s.heap.push (seqObj "list" #[] 0)).update s.heap.objs.size (Obj.mapSeq (·++vs.toArray)) } -> wpAny (model prog w) A.in1 (collect (.ref l)) R E' s:=λ{R E'} r=>by
  rcases hl with hl|hl
  . exact collect_list hl r (by rw[aRK];lia)
  . exact yX hl (by rw[aRK];lia) r
 refine aRD (m:=checkCount "sorted" 1 1 [Value.ref l].length) (aRC (aRD (col (aRD (aVP ?_ (by rw[aRK];lia))))))
 have z1:((s.heap.push (seqObj "list" #[] 0)).update s.heap.objs.size (Obj.mapSeq (·++vs.toArray))).objs.size=s.heap.objs.size+1:=(Heap.size_update ..).trans (aU8 ..);have g1:(((s.heap.push (seqObj "list" #[] 0)).update s.heap.objs.size (Obj.mapSeq (·++vs.toArray))).push (seqObj "list" vs.toArray 0)).get? (s.heap.objs.size+1)=some (seqObj "list" vs.toArray 0):=z1 ▸ aQP _ rfl;show wpAny _ _ _ _ _ { s with heap:=((s.heap.push (seqObj "list" #[] 0)).update s.heap.objs.size (Obj.mapSeq (·++vs.toArray))).push (seqObj "list" vs.toArray 0) }
 rw[z1];refine aRD (aSE (aSH aVQ ⟨_,g1,rfl⟩ aVR (list_sort_treeK strKind_oneLt (s:={ s with heap:=((s.heap.push (seqObj "list" #[] 0)).update s.heap.objs.size (Obj.mapSeq (·++vs.toArray))).push (seqObj "list" vs.toArray 0) }) g1 sa.keysOf (λv1 v2 r e=>keyKind_strs (by rw[<- e];exact sa)) h64 λst' p1 p2=>⟨_,rfl,?_⟩) (aVS _)))
 obtain⟨zs,y1,y2,y3⟩:=sorted_out_str sa p1 p2;exact aRC ⟨_,rfl,h _ zs y1 y2 y3⟩
end
def rSrtN(K:Fg):List V->Hp->VK->Prop:=λxs H Q=>∃(p:Addr) (vs:List V) (ks:List N),xs=[.ref p]/\(SqL K H p vs\/SqT K H p vs)/\bK K H ks vs/\okS ks=true/\∀l q,H l=none->iX ks q->Q (.ref l) (upd H l (.lst (q.map λi=>vs.getD i .non)))
def zA{p:Addr}{vs:List V}(I:L2.Inv X aA σ H s)(h:SqL X.K H p vs\/SqT X.K H p vs):∃its:List aW2,aH vs its/\(s.heap.IsList p its.toArray\/IsTup s.heap p its.toArray):=by
 rcases h with h|h
 . obtain⟨its,rv,pl,_⟩:=I.list h;exact⟨its,rv,.inl pl.isList⟩
 . obtain⟨its,rv,pl,_⟩:=SqT.plain I h;exact⟨its,rv,.inr pl.isTup⟩
theorem aKA(hu:X.A.units+64<cLine):bY X (.builtin "sorted") (rSrtN X.K):=by
 intro aA s σ H xs us Q I r h;obtain⟨p,vs,ks,rfl,hp,hn,ok,q⟩:=h;obtain⟨u,rfl,rx⟩:=cE r;cases rx;obtain⟨its,rv,pl⟩:=zA I hp;unfold okS at ok;simp only[aSJ,aTE,aTC,aV8]at ok;obtain⟨⟨⟨d8,ft⟩,ao⟩,h64⟩:=ok;have h65:_<1000000:=aQR h64 l5;have lz:its.length=vs.length:=rv.length.symm;have lv:=hn.nth.1;have ta:dZ s.heap its ks:=yY (bK.is (λx _ v u a b=>NAt.is I x v u a b) hn rv);refine aJ6 hu pl ta d8 ao ft h64 λw wp=>?_;obtain⟨e,he⟩:=sortedAll_at s.heap its (w.map λi=>its.getD i .none).toArray;have wl:w.length=ks.length:=by rw[wp.perm.length_eq,aU2]
 have le:(w.map λi=>vs.getD i V.non).length<=sizeLine:=by rw[aR4,wl,aRK];lia
 have rv2:aH (w.map λi=>vs.getD i V.non) (w.map λi=>its.getD i Value.none):=xY λi hi=>xZ rv (by
  have:=wp.perm.mem_iff.mp hi;rw[aQU]at this;lia)
 exact⟨.ref (s.heap.objs.size+1),_,I.laid (t':=s.toks) (λb o e=>sortedAll_old e) (aT0 _) (show bC X.prog X.w _ _ _ (.lst (w.map λi=>vs.getD i V.non))from⟨le,_,e,rv2,he⟩),rfl,q _ w (I.hok.fresh (aT0 _)) wp⟩
def rSrtS(K:Fg):List V->Hp->VK->Prop:=λxs H Q=>∃(p:Addr) (ns:List Str),xs=[.ref p]/\(SqL K H p (ns.map V.str)\/SqT K H p (ns.map V.str))/\ns.length<64/\∀l,H l=none->Q (.ref l) (upd H l (.lst ((aX ns).map V.str)))
theorem aKB:bY X (.builtin "sorted") (rSrtS X.K):=by
 intro aA s σ H xs us Q I r h;obtain⟨p,ns,rfl,hp,hz,q⟩:=h;obtain⟨u,rfl,rx⟩:=cE r;cases rx;obtain⟨its,rv,pl⟩:=zA I hp;have sa:=lM rv;have lz:its.length=ns.length:=sa.length;refine aJ9 pl sa (by rw[lz];exact hz) λout ys oa py so=>?_
 obtain⟨e,he⟩:=sortedAll_at s.heap its out;have e1:ys=aX ns:=rU (rV so) py;have le:((aX ns).map V.str).length<=sizeLine:=by rw[aR4,<- e1,py.length_eq,aRK];lia
 exact⟨.ref (s.heap.objs.size+1),_,I.laid (t':=s.toks) (λb o e=>sortedAll_old e) (aT0 _) (show bC X.prog X.w _ _ _ (.lst ((aX ns).map V.str))from⟨le,out.toList,e,by rw[<- e1];exact oN oa,by simpa using he⟩),rfl,q _ (I.hok.fresh (aT0 _))⟩
def bY.or{f:aW2}{r1 r2:List V->Hp->VK->Prop}(h1:bY X f r1)(h2:bY X f r2):bY X f (λxs H Q=>r1 xs H Q\/r2 xs H Q):=λaA s σ H xs us Q I r h=>by
 rcases h with h|h
 . exact h1 aA s σ H xs us Q I r h
 . exact h2 aA s σ H xs us Q I r h
def seqD:D->Option (List D)
 |.lst ds=>some ds
 |.tup ds=>some ds
 |_=>none
def gT:List (Md×D)->Option (Md×D)
 |[(_,d)]=>match seqD d with
  |some ds=>match txD ds with
   |some ns=>if ns.length<64 then some (.fr,.lst ((aX ns).map .str))else none
   |none=>match eI ds with
    |some ks=>if okS ks=true then some (.fr,.lst (nDL (cY ks)))else none
    |none=>none
  |none=>none
 |_=>none
theorem Rp.seqD{F:Hp}{m:Md}{d:D}(s:aD F H)(e:D3.seqD d=some ds)(r:Rp K F H m d v):∃a xs,v=.ref a/\(SqL K H a xs\/SqT K H a xs)/\aC K F ds xs:=by
 cases d with
 |lst es=>cases e;obtain⟨a,xs,rfl,q,rl⟩:=r.seqL s;exact⟨a,xs,rfl,.inl q,rl⟩
 |tup es=>cases e;obtain⟨a,xs,rfl,q,rl⟩:=r.seqT s;exact⟨a,xs,rfl,.inr q,rl⟩
 |_=>cases e
def aKC(hu:X.A.units+64<cLine):dU X (.builtin "sorted") gT:=by
 refine⟨_,bY.or aKB (aKA hu),λF H xs vs k d Q s rx e w=>?_⟩;unfold gT at e;split at e
 . rename_i m d0;obtain⟨v,rfl,r⟩:=rx.one;split at e
   . rename_i ds ed;obtain⟨a,xs,rfl,q,rl⟩:=Rp.seqD s ed r;split at e
     . rename_i ns en;split at e
       . rename_i hc;cases e;obtain⟨rfl,k1⟩:=qZ en rl;exact .inl ⟨a,ns,rfl,q,hc,λl hl=>w (.ref l) F _ (aF.fresh _ s hl) ⟨l,rfl,s.free hl,_,aV,oO λx hx=>k1 x ((fZ ns).mem_iff.mp hx)⟩ λ_ a ea=>by cases ea;exact hl⟩
       . cases e
     . split at e
       . rename_i ks en;split at e
         . rename_i hc;cases e;have hn:=rE en rl;refine .inr ⟨a,xs,ks,rfl,q,hn.map (λx _ v z=>NAt.mono s x v z),hc,λl p hl wp=>w (.ref l) F _ (aF.fresh _ s hl) ⟨l,rfl,s.free hl,_,aV,?_⟩ λ_ a ea=>by cases ea;exact hl⟩
           rw[<- wp.eq,gR,aV9];refine rA λi hi=>?_;have:=wp.perm.mem_iff.mp hi;rw[aQU]at this;exact rF _ _ (hn.nth.2 i this)
         . cases e
       . cases e
   . cases e
 . cases e
section
variable {A:aW4}{E:VSP}{d:Addr}{o:Obj}{es:Array DictEntry}
def aKD{Q:VSP}(hm:(d==sysModules)=false)(ho:s.heap.get? d=some o)(hc:o.ExactDict)(hd:o.data=.dict es ep)(q:Q (.ref s.heap.objs.size) { s with heap:=s.heap.push { cls:=.type "dict_keyiterator", data:=.fields #[.ref d,.int 0 0,.int es.size 0,.int ep 0] } }):wpAny (model prog w) A (pyIter (.ref d)) Q E s:=by
 have hT:s.TypeIs (.ref d) "dict" := ⟨o,ho,hc.1⟩;refine aUQ hT F.slot_dict_iter (aSH F.slot_dict_iter hT F.entry_dict_iter ?_ (F.args_dict_iter_1 (.ref d)));unfold Builtin.«dict.__iter__» Builtin.Dict.dictSlotNone;refine aRD (aRD (wpAny_notOrdered_dict hT (aRC ?_)));show wpAny (model prog w) _ (Builtin.Dict.showsAll d>>=_) _ _ s;unfold Builtin.Dict.showsAll;rw[if_neg (λz=>by rw[hm]at z;cases z)]
 refine aRD (aRC (aRD (aWA ho hd (aRD (aWB ho hd ?_)))));refine aRD (aSK (aRC ⟨.ref s.heap.objs.size,rfl,"dict_keyiterator", _,⟨_,aQP _ rfl,rfl⟩,F.slot_dict_keyiterator_next.lookup,?_⟩));simpa[rawInt]using q
theorem aKE{e:DictEntry}{Q:Option aW2->aW3->Prop}(hit:s.heap.IsKeyIter it d i es.size ep)(ho:s.heap.get? d=some o)(hd:o.data=.dict es ep)(he:es[i]? = some e)(q:∀h',h'.IsKeyIter it d (i+1) es.size ep->Heap.SameBut it s.heap h'->Q (some e.key) {s with heap:=h'}):wpAny (model prog w) A (pyNext (.ref it)) Q E s:=by
 obtain⟨io,hio,hic,hid⟩:=id hit;obtain⟨hlt,rfl⟩:=aQV.mp he;unfold pyNext;refine aRD (aUV (aSF (name:=Str.ofString "__next__") hit.typeIs aWC (aSH aWC hit.typeIs aWD ?_ (aWE (.ref it)))));refine aRD (aRC (aRD (aRD ?_)))
 first|refine aRD (aWF hit.typeIs (aRC (aRD (aUW hio hid ?_))))|refine aRD (aWG hit.typeIs (aRC (aRD (aUW hio hid ?_))))
 simp only[show Builtin.Dict_items.ownsTuple "dict_keyiterator" = false by decide,aTA,aSB]
 show wpAny _ _ (if(Value.ref d==Value.none)=true then _ else _) _ _ s;rw[if_neg (λ(z:(Value.ref d==Value.none)=true)=>aRA z)];refine aRD (aRC (aRD (aWA ho hd ?_)));rw[if_neg (by simp)]
 refine aRD (aRC (aRD (aWB ho hd ?_)));rw[if_neg (by simp)]
 refine aRC ?_;simp only[show ¬ ((i:Int)<0)from by lia,aSB,aUZ,aU0 hlt]
 refine aRD ?_
 first|refine aRD (aWF hit.typeIs (aRC (aRD (aWH hit.typeIs ?_))))|refine aRD (aWG hit.typeIs (aRC (aRD (aWH hit.typeIs ?_))))
 show wpAny _ _ (setField (.ref it) 1 (rawInt ((i:Int)+1))>>=_) _ _ s;refine aRD (aT7 hio hid (by simp) ?_)
 have hit2:(s.heap.update it (Obj.mapFields (·.setIfInBounds 1 (rawInt ((i:Int)+1))))).IsKeyIter it d (i+1) es.size ep :=
  ⟨_,aUR _ hio (aUS (aUT hid _)),(aUU ..).trans hic,by rw[aUT hid];simp[rawInt]⟩
 refine aRD (aSE (aRD (aWH (s:={s with heap:=s.heap.update it (Obj.mapFields (·.setIfInBounds 1 (rawInt ((i:Int)+1))))}) hit2.typeIs ?_)))
 show wpAny _ _ (pure es[i].key) _ _ _;exact aRC (aRC ⟨_,rfl,aRC (q _ hit2 (aUB ..))⟩)
end
theorem aKF{A:aW4}{E:VSP}{d:Addr}{o:Obj}{es:Array DictEntry}{Q:Option aW2->aW3->Prop}(hh:A.handled=none)(hit:s.heap.IsKeyIter it d i es.size ep)(ho:s.heap.get? d=some o)(hd:o.data=.dict es ep)(hi:es.size<=i)(q:∀h',Heap.ExtBut it s.heap h'->Q none {s with heap:=h'}):wpAny (model prog w) A (pyNext (.ref it)) Q E s:=by
 obtain⟨io,hio,hic,hid⟩:=id hit;unfold pyNext;refine aRD (aUV (aSF (name:=Str.ofString "__next__") hit.typeIs aWC (aSH aWC hit.typeIs aWD ?_ (aWE (.ref it)))));refine aRD (aRC (aRD (aRD ?_)))
 first|refine aRD (aWF hit.typeIs (aRC (aRD (aUW hio hid ?_))))|refine aRD (aWG hit.typeIs (aRC (aRD (aUW hio hid ?_))))
 simp only[show Builtin.Dict_items.ownsTuple "dict_keyiterator" = false by decide,aTA,aSB]
 show wpAny _ _ (if(Value.ref d==Value.none)=true then _ else _) _ _ s;rw[if_neg (λ(z:(Value.ref d==Value.none)=true)=>aRA z)];refine aRD (aRC (aRD (aWA ho hd ?_)));rw[if_neg (by simp)]
 refine aRD (aRC (aRD (aWB ho hd ?_)));rw[if_neg (by simp)]
 refine aRC ?_;simp only[show ¬ ((i:Int)<0)from by lia,aSB,aUZ,aU1 hi]
 refine aRD ?_
 first|refine aRD (aWF hit.typeIs (aRC ?_))|refine aRD (aWG hit.typeIs (aRC ?_))
 show wpAny (model prog w) _ (setField (.ref it) 0 .none>>=_) _ _ s;refine aRD (aT7 hio hid (by simp) ?_)
 show wpAny (model prog w) _ (newExc (.type "StopIteration") []>>=_) _ _ _;refine aRD ?_;simp only[newExc,newTuple];refine aRD (aSK (aRD (m:=firstArgMember _ _) (aUI (a:=Value.none) (by first|rfl|(simp only[firstArgMember];rfl)) (aSK ?_ (by size_fits)))) (by size_fits))
 simp only[raiseNew];refine aRD (wpAny_handled ?_);rw[show A.in1.handled=none from hh]
 refine aRD (aRC (wpAny_throw ?_));refine aRD (aS8 (b:=true) (T := "StopIteration") ⟨_,aQP _ rfl,rfl⟩ isSubtype_stop ?_);exact aRC (q _ (((aUB ..).extBut.push _).push _))
def Itn(d:Addr)(o:Obj)(xs:List (N×Addr×V)):It :=
 ⟨λi H=>H d=some (.frz o (.dN xs))/\i<xs.length,λi H x H'=>H'=H/\∃p,xs[i]? = some p/\x=.ref p.2.1,λi H=>H d=some (.frz o (.dN xs))/\xs.length<=i⟩
def KN.nth{kvs:List (N×Addr×V)}{xs:List (N×Addr×aW2)}(r:KN kvs xs):xs.length=kvs.length/\∀(i:Nat) (p:N×Addr×V),kvs[i]? = some p->∃u,xs[i]? = some (p.1,p.2.1,u):=by
 induction r with
 |nil=>exact⟨rfl,λi p h=>by simp at h⟩
 | @cons a b as bs h t ih =>
  refine⟨by simp[ih.1],λi p hp=>?_⟩
  cases i with
  |zero =>
   have hp:a=p:=by simpa using hp
   subst hp;refine⟨b.2.2,?_⟩;rw[h.1,h.2.1];rfl
  |succ i=>have:=ih.2 i p (by simpa using hp);simpa using this
def rW{d:Addr}{o:Obj}{xs:List (N×Addr×V)}(ok:HOk P w H h)(hd:H d=some (.frz o (.dN xs))):(d==sysModules)=false/\∃es,h.get? d=some o/\o.ExactDict/\o.data=.dict es (epO o)/\es.size=xs.length/\∀(i:Nat) (p:N×Addr×V),xs[i]? = some p->∃e,es[i]? = some e/\e.key=.ref p.2.1:=by
 obtain⟨g,z,y,vs,r,o',es,ep,h1,h2,h3,h4,h5⟩:=ok d _ hd;rw[g]at h1;cases h1;obtain⟨l,n⟩:=KN.nth r;refine⟨y,es,g,h2,by unfold epO;rw[h3],by rw[<- aQ7,h4,aR4,l],λi p hp=>?_⟩
 obtain⟨u,hu⟩:=n i p hp;refine⟨uR w (p.1,p.2.1,u),?_,rfl⟩;rw[<- aSQ,h4,aR1,hu];rfl
theorem aKG(d it:Addr)(o:Obj)(xs:List (N×Addr×V)):jJ P w K tg (Itn d o xs) [it] it (λi h=>h.IsKeyIter it d i xs.length (epO o)) where
 mem:=by simp
 obj:=λi h st b hb=>by
  have e:b=it:=by simpa using hb
  subst e;obtain⟨o,e,c,d⟩:=st;exact⟨o,e,λv z=>by rw[d]at z;cases z⟩
 keep:=λi h h' st k=>st.at λo e=>k it (by simp) o e
 item:=by
  intro X hP hw hK hc i aA s σ H E I hf st hg;subst hP hw hK;obtain⟨hd,hi⟩:=hg;obtain⟨ns,es,g,hx,dt,sz,n⟩:=rW I.hok hd;obtain⟨f0,f1,f2,f3,f4,f5⟩:=hf it (by simp)
  obtain⟨e,he,ke⟩:=n i xs[i] (by simp[hi])
  rw[<- sz]at st;refine aKE st g dt he λh' hit' hs'=>?_;have I1:L2.Inv X aA σ H {s with heap:=h'}:=I.turned (t':=s.toks) (λb o hb e=>hs'.extBut b o hb e) f0 f1 f3 f4 f5
  rw[sz]at hit';obtain⟨o1,e1,c1,d1⟩:=id hit';refine⟨e.key,rfl,k7 (s:={s with heap:=h'}) e1 c1 d1 (by decide) ⟨.ref xs[i].2.1,H,I1,ke,⟨rfl,xs[i],by simp[hi],rfl⟩,hit',λb hb=>(hf b hb).1⟩⟩
 done:=by
  intro X hP hw hK hc i aA s σ H E I hf st hg;subst hP hw hK;obtain⟨hd,hi⟩:=hg;obtain⟨ns,es,g,hx,dt,sz,n⟩:=rW I.hok hd;obtain⟨f0,f1,f2,f3,f4,f5⟩:=hf it (by simp)
  exact aKF (I.ok.hd hc) (by rw[sz];exact st) g dt (by lia) λh' eb=>⟨rfl,I.turned (t':=s.toks) (λb o hb e=>eb b o hb e) f0 f1 f3 f4 f5⟩
 self:=λ_ _ _ _ _ st h=>wpAny_pyIter_keyiter st h
def iDn(tl:TE):TI:=λσ H R=>tl σ H λx H1=>∃d o xs,x=.ref d/\H1 d=some (.frz o (.dN xs))/\R (Itn d o xs) H1
def pi_dn{l:Expr}(hl:PE X l tl):PI X tg l (iDn tl):=by
 intro aA s σ H R I h;refine thn (hl aA s σ H _ I h) λv s1 ⟨x,H1,I1,r1,q1⟩=>?_;obtain⟨d,o,xs,e,hd,q⟩:=q1;subst e;cases r1;obtain⟨ns,es,g,hx,dt,sz,n⟩:=rW I1.hok hd;refine aKD ns g hx dt ?_;rw[sz];have I2:L2.Inv X aA σ H1 { s1 with heap:=s1.heap.push { cls:=.type "dict_keyiterator", data:=.fields #[.ref d,.int 0 0,.int xs.length 0,.int (epO o) 0] } }:=I1.kept (t':=s1.toks) λb o e=>hps e
 refine⟨s1.heap.objs.size,[s1.heap.objs.size],_,_,_,rfl,I2,aKG d _ o xs,⟨_,aQP _ rfl,rfl,rfl⟩,λb hb=>?_,q⟩;have e:b=s1.heap.objs.size:=by simpa using hb
 subst e;exact I1.fpOk (aRG _) (I1.hok.fresh (aRG _))
theorem aM.nth{F:Hp}:∀{kvs:List (N×D)}{xs:List (N×Addr×V)},aM K F kvs xs->∀(i:Nat) (p:N×Addr×V),xs[i]? = some p->∃d,kvs[i]? = some (p.1,d)/\NAt K F p.1 (.ref p.2.1)
 |[],xs,h,i,p,e=>by simp only[aM]at h;subst h;simp at e
 |(k,d)::kvs,xs,h,i,p,e=>by
  simp only[aM]at h;obtain⟨b,y,ys,rfl,q,r,t⟩:=h;cases i with
  |zero =>
   have e:(k,b,y)=p:=by simpa using e
   subst e;exact⟨d,rfl,q.1⟩
  |succ i=>have:=t.nth i p (by simpa using e);simpa using this
def aKH{F:Hp}{a:Addr}{o:Obj}{kvs:List (N×D)}{xs:List (N×Addr×V)}(hf:F a=some (.frz o (.dN xs)))(r:aM K F kvs xs):lJ K F (Itn a o xs) (kvs.map λkv=>nD kv.1) where
 go:=λi H s hi=>⟨s _ _ hf,by rw[r.len];simpa using hi⟩
 stop:=λi H s hi=>⟨s _ _ hf,by rw[r.len];simpa using hi⟩
 yld:=λi Fc H x H' s1 s2 hi y=>by obtain⟨rfl,p,hp,rfl⟩:=y;obtain⟨d,hd,hn⟩:=r.nth i p hp;exact⟨Fc,nD p.1,by rw[aR1,hd];rfl,.refl s2,rF _ _ (NAt.mono s1 _ _ hn)⟩
def l8(r:Res):Res:=r.thn λ_ d=>match d with
 |.dtf kvs=>.ok .fz (.lst (kvs.map λkv=>nD kv.1))
 |_=>.stuck
def aKI(h:PV C X e g):PIv C X tg e (λρ=>l8 (g ρ)):=by
 refine PI.imp (pi_dn h) λσ H R q=>?_;obtain⟨ρ,F,RS,w⟩:=q;dsimp only at w;unfold iDn;rw[aS];refine⟨ρ,F,RS,?_⟩;unfold l8 at w;cases er:g ρ with
 |stuck=>rw[er]at w;exact w.elim
 |exc c=>rw[er]at w;exact w
 |ok m d =>
  rw[er,Res.thn_ok]at w;intro v F' H' st rp _;cases d with
  |dtf kvs =>
   cases m with
   |fz=>have rp:aB X.K F' (.dtf kvs) v:=rp;simp only[aB]at rp;obtain⟨a,o,xs,rfl,hf,r⟩:=rp;exact⟨a,o,xs,rfl,st.sub _ _ hf,w _ F' H' st (aKH hf r)⟩
   |fr=>obtain⟨a,_,_,q⟩:=rp;exact q.elim
   |bo=>obtain⟨a,_,_,q⟩:=rp;exact q.elim
  |_=>exact w.elim
def j6(ρ:Rho)(i:Nat):aG:=match ρ[i]? with
 |some (some (true,.dtn kvs))=>.nx (ρ.set i (some (false,.dtf kvs)))
 |_=>.stuck
def aN.nfrz{F:Hp}{kvs:List (N×D)}{a:Addr}{xs:List (N×Addr×V)}(o:Obj)(R:aN K F0 H0 F H σ ρ)(e:ρ[i]? = some (some (true,.dtn kvs)))(ev:σ[i]? = some (some (.ref a)))(hF:F a=none)(hH:H a=some (.dN xs))(h0:H0 a=none)(r:aM K F kvs xs):aD F (upd F a (.frz o (.dN xs)))/\aN K F0 H0 (upd F a (.frz o (.dN xs))) (upd H a (.frz o (.dN xs))) σ (ρ.set i (some (false,.dtf kvs))):=by
 have sm:aD F (upd F a (.frz o (.dN xs))):=λb u q=>by rw[aL (bR q hF)];exact q
 have hi:i<ρ.length:=(aQ2.mp e).1;have own:∀{j:Nat}{d1:D},(ρ.set i (some (false,.dtf kvs)))[j]? = some (some (true,d1))->j≠i/\ρ[j]? = some (some (true,d1)):=λ{j d1} z=>by
  by_cases hj:j=i
  . subst hj;rw[aQ3 hi]at z;cases z
  . rw[aQ4 (λy=>hj y.symm)]at z;exact⟨hj,z⟩
 refine⟨sm,⟨λb u q=>?_,λb u q=>?_,λb u q=>?_,λb q1 q2=>?_⟩,λj m d' ej=>?_,λj k d1 d2 b hjk e1 e2 q1 q2=>R.apart j k d1 d2 b hjk (own e1).2 (own e2).2 q1 q2,by rw[aTL];exact R.len⟩
 . rw[aL (bR q h0)];exact R.st.same b u q
 . rw[aL (bR (R.st.fsame b u q) hF)];exact R.st.fsame b u q
 . by_cases hb:b=a
   . subst hb;rw[aV]at q ⊢;exact q
   . rw[aL hb]at q ⊢;exact R.sub b u q
 . have:b≠a:=λz=>q2 (by rw[z];exact h0)
   rw[aL this];exact R.st.new b q1 q2
 . by_cases hj:j=i
   . subst hj;rw[aQ3 hi]at ej;cases ej;refine⟨.ref a,ev,?_,by nofun⟩
     show aB K _ (.dtf kvs) _;simp only[aB];exact⟨a,o,xs,rfl,aV,r.mono sm _ _⟩
   . rw[aQ4 (λz=>hj z.symm)]at ej;obtain⟨v',ev',rp',hn'⟩:=R.slot j m d' ej;refine⟨v',ev',?_,hn'⟩;cases m with
     |false=>exact aB.mono sm _ _ rp'
     |true =>
      obtain⟨b,rfl,nb,t'⟩:=rp';have ab:b≠a:=λz=>by subst z;exact R.apart j i d' _ b hj ej e ev' ev
      refine⟨b,rfl,by rw[aL ab];exact nb,?_⟩
      cases d' with
      |lst ds=>obtain⟨ys,q,rr⟩:=t';exact⟨ys,by rw[aL ab];exact q,rr.mono sm _ _⟩
      |dct ds=>obtain⟨ys,q,rr⟩:=t';exact⟨ys,by rw[aL ab];exact q,rr.mono sm _ _⟩
      |ins c fs=>obtain⟨C,dx,gs,n,q,rr⟩:=t';exact⟨C,dx,gs,n,by rw[aL ab];exact q,rr.mono sm _ _⟩
      |set ks=>obtain⟨S,q,rr⟩:=t';exact⟨S,by rw[aL ab];exact q,rr⟩
      |dtn ds=>obtain⟨ys,q,rr⟩:=t';exact⟨ys,by rw[aL ab];exact q,rr.mono sm _ _⟩
      |_=>exact t'.elim
def aKJ{g:Rho->aG}(h:PBv C X sts g):PBv C X sts (λρ=>(j6 ρ i).thn g):=by
 intro aA s σ H E I q;obtain⟨ρ,F,R,w⟩:=q;dsimp only at w;unfold j6 at w;split at w
 . rename_i kvs e;obtain⟨v,ev,rp,hn⟩:=R.slot i true _ e;obtain⟨a,rfl,hF,xs,hH,r⟩:=rp;have ok:=I.hok a _ hH;obtain⟨_,_,_,_,o,_,_,g1,_⟩:=id ok;have I2:=I.write (x:=a) (e:=a) (o:=.frz o (.dN xs)) (t':=s.toks) (h':=s.heap) (by rw[hH];exact trivial) (.inl rfl) (λ_ _ _ q=>q) ⟨_,g1⟩ ⟨g1,ok.stay (λ_ _ _ q=>q) (λc q=>by rw[aL (λz=>by rw[z,hH]at q;cases q)];exact q) λc ys q=>by rw[aL (λz=>by rw[z,hH]at q;cases ys <;> cases q)];exact q⟩
   obtain⟨sm,R2⟩:=aN.nfrz o R e ev hF hH (hn rfl a rfl) r;exact h aA s σ _ E I2 ⟨_,_,R2,cF.mono sm w⟩
 . exact w.elim
def slot0{t:SetTable}(hp:t.place = #[])(hd:t.dummies = #[])(j:Nat):t.slot j=.empty:=by unfold SetTable.slot SetTable.has;rw[hp,hd];rfl
def rX(j1 j:Nat):SetTable.below #[j1] j=if j1<j then 1 else 0:=by
 show SetTable.below.go #[j1] j 1 0 1=_;unfold SetTable.below.go;rw[if_pos (by decide)]
 show(if(#[j1]:Array Nat).getD 0 j<j then SetTable.below.go #[j1] j 0 1 1 else SetTable.below.go #[j1] j 0 0 0)=_;have e:(#[j1]:Array Nat).getD 0 j=j1:=rfl;rw[e];by_cases h:j1<j
 . rw[if_pos h,if_pos h];rfl
 . rw[if_neg h,if_neg h];rfl
def rY{t:SetTable}(hp:t.place = #[j1])(hd:t.dummies = #[])(j:Nat):t.slot j=if j=j1 then .live 0 else .empty:=by
 unfold SetTable.slot;rw[hp,hd,rX];by_cases h:j=j1
 . subst h;rw[if_pos rfl,if_neg (aQS _)];simp
 . rw[if_neg h];by_cases h2:j1<j
   . rw[if_pos h2];rfl
   . rw[if_neg h2];have:((#[j1]:Array Nat)[0]?==some j)=false:=by simp;exact λe=>h e.symm
     simp only[this,aTA,aSB];rfl
def iZ(t:SetTable)(j1:Nat):Nat->SetTable.Probe->Prop
 |0,p=>p.j≠j1
 |g+1,p=>p.j≠j1\/iZ t j1 g (t.advance p)
theorem adv7{t:SetTable}(hm:t.mask=7){p:SetTable.Probe}(h0:p.more=0):t.advance p={p with j:=(p.i * 5+1+p.perturb / 32) % 8,more:=0,i:=(p.i * 5+1+p.perturb / 32) % 8,perturb:=p.perturb / 32}:=by
 unfold SetTable.advance SetTable.leap SetTable.runEnd;rw[h0,hm];simp only[aQS,gt_iff_lt,aSB];have:¬ (p.i * 5+1+p.perturb / 32) % (7+1)+9<=7:=by lia
 rw[if_neg this,Nat.sub_self]
theorem zB{t:SetTable}(hm:t.mask=7)(j1:Nat):∀(g:Nat) (p:SetTable.Probe),p.more=0->p.j=p.i->p.perturb<32 ^ g->p.i<8->iZ t j1 (g+1) p
 |0,p,h0,hj,hp,h8=>by
  by_cases e:p.j=j1
  . right;show(t.advance p).j≠j1;rw[adv7 hm h0];show(p.i * 5+1+p.perturb / 32) % 8≠j1;have:p.perturb=0:=by simpa using hp
    rw[this];lia
  . left;exact e
 |g+1,p,h0,hj,hp,h8=>by
  right;rw[adv7 hm h0];refine zB hm j1 g _ rfl rfl ?_ ?_
  . show p.perturb / 32<32 ^ g;rw[Nat.pow_succ]at hp;exact Nat.div_lt_of_lt_mul (by rw[Nat.mul_comm];exact hp)
  . show(p.i * 5+1+p.perturb / 32) % 8<8;lia
theorem aKK{t:SetTable}(hm:t.mask=7)(j1:Nat)(h:Int):iZ t j1 14 (t.probeStart h):=by
 refine zB hm j1 13 _ ?_ rfl ?_ ?_
 . show SetTable.runEnd t.mask (SetTable.bits h % (t.mask+1))-SetTable.bits h % (t.mask+1)=0;unfold SetTable.runEnd;rw[hm,if_neg (by lia),Nat.sub_self]
 . show SetTable.bits h<32 ^ 13;have:SetTable.bits h<2 ^ 64:=by unfold SetTable.bits;lia
   exact aQR this (by decide)
 . show SetTable.bits h % (t.mask+1)<8;rw[hm];lia
theorem go1{t:SetTable}{j1:Nat}(hm:t.mask=7)(hp:t.place = #[j1])(hd:t.dummies = #[])(f:Nat->Int)(h:Int):∀(n g:Nat) (p:SetTable.Probe),p.dummy=none->iZ t j1 g p->g<n->(∃j,SetTable.probe.go t f h n p=some (.empty j none)/\j≠j1)\/(f 0==h)=true/\∃next g',g'<g/\next.dummy=none/\iZ t j1 g' next/\SetTable.probe.go t f h n p=some (.candidate j1 0 next)
 |0,g,p,_,_,h2=>by lia
 |n+1,g,p,h0,h1,h2=>by
  unfold SetTable.probe.go;rw[rY hp hd];by_cases e:p.j=j1
  . rw[if_pos e];cases g with
    |zero=>exact absurd e h1
    |succ g =>
     have h1:iZ t j1 g (t.advance p):=h1.resolve_left λz=>z e;have da:(t.advance p).dummy=none:=by
      unfold SetTable.advance;split
      . exact h0
      . exact h0
     dsimp only;by_cases hf:(f 0==h)=true
     . rw[if_pos hf];exact .inr ⟨hf,_,g,aRP g,da,h1,by rw[e]⟩
     . rw[if_neg hf];rcases go1 hm hp hd f h n g _ da h1 (by lia)with q|⟨q,_⟩
       . exact .inl q
       . exact absurd q hf
  . rw[if_neg e];exact .inl ⟨p.j,by dsimp only;rw[h0],e⟩
section
variable {A:aW4}{E:VSP}
def zC(k:N):∀{n:Nat}{v:aW2}{Q:Bool->aW3->Prop},IsN s.heap k v->(∀b,Q b s)->wpAny (model prog w) A (hashByValue n v) Q E s:=by
 induction k using N.ind with
 |hi m=>intro n v Q hk h;rw[IsN]at hk;obtain⟨t,rfl⟩:=hk;cases n <;> exact aRC (h _)
 |hs x=>intro n v Q hk h;rw[IsN]at hk;obtain⟨⟨t,rfl⟩,_⟩:=hk;cases n <;> exact aRC (h _)
 |ht xs ih =>
  intro n v Q hk h;rw[IsN]at hk;obtain⟨a,o,items,c,rfl,ho,hc,hd,hi⟩:=hk;cases n with
  |zero=>exact aRC (h _)
  |succ n =>
   have hT:s.TypeIs (.ref a) "tuple" := ⟨o,ho,hc⟩;unfold hashByValue;refine aRD (aS2 hT F.slot_tuple_hash.lookup ?_);dsimp only;unfold seqItems?;refine aRD (aRD (aRE ho ?_));rw[hd];refine aRC ?_;refine aRD ?_;show wpAny _ _ (forIn items _ _) _ _ s;rw[<- aS3];refine aS4 _ (λrest r s'=>s'=s/\∀v∈rest,∃x∈xs,IsN s.heap x v) _ ?_ ?_ _ _ ⟨rfl,hi.mem⟩
   . rintro v rest r s' ⟨rfl,hall⟩;obtain⟨x,hx,hv⟩:=hall v mcs;refine aRD (ih x hx (n:=n) hv λb=>?_);cases b with
     |true=>exact aRC ⟨rfl,λu hu=>hall u (mcm hu)⟩
     |false=>exact aRC (by first|exact⟨rfl,λu hu=>hall u (mcm hu)⟩|exact aRC (h _))
   . rintro⟨r1,r2⟩ s' ⟨rfl,_⟩;cases r1 with
     |none=>exact aRC (h _)
     |some b=>exact aRC (h _)
theorem zD(k:N):∀{n:Nat}{v:aW2}{Q:Bool->aW3->Prop},k.dp<=n->IsN s.heap k v->Q false s->wpAny (model prog w) A (ofAClassStatement n v) Q E s:=by
 induction k using N.ind with
 |hi m=>intro n v Q hn hk h;rw[IsN]at hk;obtain⟨t,rfl⟩:=hk;cases n <;> exact aRC h
 |hs x=>intro n v Q hn hk h;rw[IsN]at hk;obtain⟨⟨t,rfl⟩,_⟩:=hk;cases n <;> exact aRC h
 |ht xs ih =>
  intro n v Q hn hk h;rw[IsN]at hk;obtain⟨a,o,items,c,rfl,ho,hc,hd,hi⟩:=hk;rw[N.dp]at hn;cases n with
  |zero=>lia
  |succ n =>
   have hT:s.TypeIs (.ref a) "tuple" := ⟨o,ho,hc⟩;unfold ofAClassStatement;refine aRD (aSI hT ?_);dsimp only;rw[if_pos (by decide)]
   refine aRD (aRC ?_);simp only[aS9,aTA,aSB];unfold seqItems?;refine aRD (aRD (aRE ho ?_));rw[hd];refine aRC ?_;dsimp only;refine aRD ?_;rw[<- aS3];refine aS4 _ (λrest r s'=>r.1=none/\s'=s/\∀v∈rest,∃x∈xs,IsN s.heap x v) _ ?_ ?_ _ _ ⟨rfl,rfl,hi.mem⟩
   . rintro v rest r s' ⟨hr,rfl,hall⟩;obtain⟨x,hx,hv⟩:=hall v mcs;refine aRD (ih x hx (n:=n) (by have:=N.dp_mem hx;lia) hv ?_)
     simp only[aTA,aSB];exact aRC ⟨rfl,rfl,λu hu'=>hall u (mcm hu')⟩
   . rintro⟨r1,r2⟩ s' ⟨hr,rfl,_⟩;simp only at hr;subst hr;exact aRC h
def aKL{x y:N}{c:Addr}(dx:x.dp<=8)(dy:y.dp<=8)(hx:IsN s.heap x (.ref b))(hy:IsN s.heap y (.ref c))(q:Q false s):wpAny (model prog w) A (searchCouldBeSeen (.ref b) [.ref c]) Q E s:=by
 unfold searchCouldBeSeen;refine aRD ?_;refine aS4 _ (λrest r s'=>r.1=none/\s'=s/\(rest=[]\/rest=[.ref c])) _ ?_ ?_ _ _ ⟨rfl,rfl,.inr rfl⟩
 . rintro v rest r s' ⟨hr,rfl,hl⟩;rcases hl with hl|hl
   . cases hl
   . cases hl;dsimp only;by_cases e:(b==c||carriedByValue (.ref b)&&carriedByValue (.ref c))=true
     . rw[if_pos e];exact aRC ⟨rfl,rfl,by first|exact .inl rfl|simp⟩
     . rw[if_neg e];refine aRD (qF x dx hx ?_);simp only[aS9,aTA,aSB];refine aRD (qF y dy hy ?_);simp only[aS9,aTA,aSB];refine aRD (zD x dx hx ?_);simp only[aTA,aSB];refine aRD (zD y dy hy ?_);simp only[aTA,aSB];exact aRC ⟨rfl,rfl,by first|exact .inl rfl|simp⟩
 . rintro⟨r1,r2⟩ s' ⟨hr,rfl,_⟩;simp only at hr;subst hr;exact aRC q
end
def cB(w:aW5)(p:N×Addr):Int×aW2:=(aY w p.1,.ref p.2)
def cT(h:Heap)(p:N×Addr):Prop:=IsN h p.1 (.ref p.2)/\p.1.dp<=8
def cA(w:aW5)(h:Heap)(a:Addr)(ps:List (N×Addr)):Prop:=∃o es ep t,h.get? a=some o/\o.ExactSet/\o.data=.set es ep t/\es.toList=ps.map (cB w)/\ps.length<=4/\t.fits es.size=true/\t.led = !b0 w/\PlOk t
def i7(w:aW5)(h:Heap)(a:Addr)(p:N×Addr):Prop:=∃o ep t,h.get? a=some o/\o.ExactSet/\o.data=.set #[cB w p] ep t/\t.mask=7/\t.dummies = #[]/\t.place = #[SetTable.bits (aY w p.1) % 8]/\t.led = !b0 w
section
variable {A:aW4}{E:VSP}{a c:Addr}{x y:N}
def zF{t:SetTable}{p:N×Addr}(hm:t.mask=7)(hd:t.dummies = #[])(hp:t.place = #[SetTable.bits (aY w p.1) % 8]):t.fits (#[cB w p]:Array (Int×aW2)).size=true:=by unfold SetTable.fits SetTable.fill;rw[hm,hd,hp];rfl
def srch0{Q:SetFound->aW3->Prop}{o:Obj}{t:SetTable}{h:Int}(ho:s.heap.get? a=some o)(hd:o.data=.set #[] ep t)(hm:t.mask=7)(hp:t.place = #[])(hdu:t.dummies = #[])(q:Q (.free (SetTable.bits h % 8) false) s):wpAny (model prog w) A (setSearch a (.ref b) h (adding:=true)) Q E s:=by
 have hf:t.fits (#[]:Array (Int×aW2)).size=true:=by unfold SetTable.fits SetTable.fill;rw[hm,hp,hdu];rfl
 unfold setSearch setSearchFrom;refine aRD (aUC ho hd hf ?_);dsimp only;have gw:t.gaveWay=false:=by unfold SetTable.gaveWay;rw[hm];rfl
 rw[gw];simp only[aTA,aSB];have e:∀f:Nat->Int,t.probe f h (t.probeStart h)=some (.empty (SetTable.bits h % 8) none):=λf=>by unfold SetTable.probe;rw[hm];show SetTable.probe.go t f h (219+1) _=_;unfold SetTable.probe.go;rw[slot0 hp hdu];show some (SetTable.Met.empty (SetTable.bits h % (t.mask+1)) none)=_;rw[hm]
 rw[aSM,e];exact aRC q
theorem srch1{Q:SetFound->aW3->Prop}{o:Obj}{t:SetTable}(hu:A.units+8<cLine)(ho:s.heap.get? a=some o)(hd:o.data=.set #[cB w (y,c)] ep t)(hm:t.mask=7)(hp:t.place = #[j1])(hdu:t.dummies = #[])(kx:cT s.heap (x,b))(ky:cT s.heap (y,c))(q1:x=y->Q (.there none) s)(q2:∀j,j≠j1->x≠y->Q (.free j false) s)(first:SetTable.bits (aY w y) % 8=j1):∀(g fuel:Nat) (stand:Option SetTable.Probe),(stand.getD (t.probeStart (aY w x))).dummy=none->iZ t j1 g (stand.getD (t.probeStart (aY w x)))->g<200->g<fuel->(stand=none\/x≠y)->wpAny (model prog w) A (setSearchFrom a (.ref b) (aY w x) true fuel stand) Q E s:=by
 intro g
 induction g using Nat.strongRecOn with
 |ind g ih =>
 intro fuel stand d0 lv g2 gf once;cases fuel with
 |zero=>lia
 |succ fuel =>
 have hf:t.fits (#[cB w (y,c)]:Array (Int×aW2)).size=true:=by unfold SetTable.fits SetTable.fill;rw[hm,hp,hdu];rfl
 unfold setSearchFrom;refine aRD (aUC ho hd hf ?_);dsimp only;have gw:t.gaveWay=false:=by unfold SetTable.gaveWay;rw[hm];rfl
 rw[gw];simp only[aTA,aSB];have f0:∀f:Nat->Int,t.probe f (aY w x) (stand.getD (t.probeStart (aY w x)))=SetTable.probe.go t f (aY w x) 220 (stand.getD (t.probeStart (aY w x))):=λf=>by unfold SetTable.probe;rw[hm];rfl
 rw[f0];rcases go1 hm hp hdu _ (aY w x) 220 g _ d0 lv (by lia)with⟨j,e,nj⟩|⟨hq,next,g',l1,l2,l3,e⟩
 . rw[e];refine aRC (q2 j nj λexy=>?_);rcases once with once|once
   . subst once;subst exy;rw[aSM]at e;have:SetTable.probe.go t _ (aY w x) (219+1) (t.probeStart (aY w x))=some (.empty j none):=e;unfold SetTable.probe.go at this;have ej:(t.probeStart (aY w x)).j=j1:=by show SetTable.bits (aY w x) % (t.mask+1)=j1;rw[hm];exact first
     rw[rY hp hdu,ej,if_pos rfl]at this;dsimp only at this;rw[if_pos (by first|rfl|exact aTU _)]at this
     cases this
   . exact once exy
 . rw[e];dsimp only;have seen:∀{R:Bool->aW3->Prop}{E':VSP},R false s->wpAny (model prog w) A (searchCouldBeSeen (.ref b) (((#[cB w (y,c)]:Array (Int×aW2)).filter (·.1==aY w x)).toList.map (·.2))) R E' s:=λ{R E'} r=>by
     have ef:((#[cB w (y,c)]:Array (Int×aW2)).filter (·.1==aY w x)).toList.map (·.2)=[.ref c]:=by have hq:(aY w y==aY w x)=true:=hq;simp[cB,hq]
     rw[ef];exact aKL kx.2 ky.2 kx.1 ky.1 r
   refine aVC (λ_=>aRD (seen ?_)) (λ_=>?_)
   all_goals
    first|rw[if_neg aRA]|skip
    show wpAny _ _ (holding [Value.ref c] (eqBool (.ref c) (.ref b))>>=_) _ _ _;refine aRD (aSE (qE (x:=y) (y:=x) (by have:=ky.2;dsimp only at this;lia) ky.1 kx.1 (aRD (aUC ho hd hf ?_))))
    dsimp only;by_cases exy:y=x
    . rw[if_pos (by rw[aSS exy];rfl)]
      exact aRC (q1 exy.symm)
    . rw[if_neg (by rw[aQL exy];decide)]
      have em:t.sameMemory t.moves t.mask=some true:=by unfold SetTable.sameMemory;rw[if_pos (aTU _)]
      rw[em];dsimp only;rw[if_pos rfl,rY hp hdu,if_pos rfl];show wpAny _ _ (isSame (.ref c) (.ref c)>>=_) _ _ _;refine aRD (wpAny_isSame_ref_self (aRD (aRC ?_)));rw[if_pos rfl];dsimp only;rw[if_neg (by rw[aQL exy];decide)]
      exact ih g' l1 fuel (some next) l2 l3 (by lia) (by lia) (.inr λz=>exy z.symm)
def zG{o:Obj}{es es':Array (Int×aW2)}{t t':SetTable}(ho:h.get? a=some o)(hd:o.data=.set es ep t):(h.update a (Obj.putSet es' t')).get? a=some {o with data:=.set es' (ep+1) t'}:=by obtain⟨oc,od,odata,os⟩:=o;dsimp only at hd;subst hd;exact aUR (Obj.putSet es' t') ho rfl
theorem aKM(hu:A.units+8<cLine)(g0:s.heap.get? a=some (sob w))(kx:cT s.heap (x,b))(q:∀h',Heap.SameBut a s.heap h'->i7 w h' a (x,b)->Q true {s with heap:=h',toks:=s.toks+x.dr}):wpAny (model prog w) A (setAdd a (.ref b)) Q E s:=by
 unfold setAdd;refine aSE (aRD (qD x (by have:=kx.2;dsimp only at this;lia) kx.1 ?_))
 unfold setAddHashed setAddHashedIn;refine aSE (aRD (aUC (s:={s with toks:=s.toks+x.dr}) g0 rfl rfl ?_))
 dsimp only;rw[if_neg (λz=>by cases z)]
 refine aRD (srch0 (s:={s with toks:=s.toks+x.dr}) g0 rfl rfl rfl rfl ?_)
 dsimp only;refine aRD (aUC (s:={s with toks:=s.toks+x.dr}) g0 rfl rfl ?_)
 dsimp only;have hb:∀{R:Bool->aW3->Prop}{E':VSP},(∀v,R v {s with toks:=s.toks+x.dr})->wpAny (model prog w) A (if((SetTable.fresh 0 0 (!b0 w)).put (SetTable.bits (aY w x) % 8)).1.plain=true then hashByValue 8 (.ref b)else pure true) R E' {s with toks:=s.toks+x.dr}:=λ{R E'} r=>by
  split
  . exact zC x kx.1 r
  . exact aRC (r _)
 refine aRD (hb λv=>?_);refine aRD (aUA (s:={s with toks:=s.toks+x.dr}) g0 rfl ?_ (by show 1<=_;decide))
 have fin:∀t':SetTable,t'.mask=7->t'.dummies = #[]->t'.place = #[SetTable.bits (aY w x) % 8]->t'.led = !b0 w->Q true {s with heap:=s.heap.update a (Obj.putSet (SetTable.insertAt #[] 0 (aY w x,Value.ref b)) t'),toks:=s.toks+x.dr}:=λt' h1 h2 h3 h4 =>
  q _ (aUB ..) ⟨_,_,t',zG g0 rfl,⟨rfl,rfl,rfl⟩,rfl,h1,h2,h3,h4⟩
 cases v with
 |true=>exact aRC (fin _ rfl rfl rfl rfl)
 |false=>exact aRC (fin _ rfl rfl rfl rfl)
theorem ins1(e f:α)(p:Nat)(hp:p<=1):(SetTable.insertAt #[e] p f).toList.Perm [e,f]:=by
 have:p=0\/p=1:=by lia
 rcases this with rfl|rfl
 . exact List.Perm.swap _ _ _
 . exact aV2 _
def i7.sn{p:N×Addr}(X:i7 w h a p):cA w h a [p]:=by obtain⟨o,ep,t,ho,hex,hd,hm,hdu,hp,hl⟩:=X;exact⟨o,_,ep,t,ho,hex,hd,rfl,by show 1<=4;decide,zF hm hdu hp,hl,.inr ⟨hdu,by rw[hp];exact aVV _ _⟩⟩
def i7.kept{p:N×Addr}(X:i7 w h a p)(k:∀o,h.get? a=some o->h'.get? a=some o):i7 w h' a p:=by obtain⟨o,ep,t,ho,r⟩:=X;exact⟨o,ep,t,k o ho,r⟩
def cA.kept{ps:List (N×Addr)}(X:cA w h a ps)(k:∀o,h.get? a=some o->h'.get? a=some o):cA w h' a ps:=by obtain⟨o,es,ep,t,ho,r⟩:=X;exact⟨o,es,ep,t,k o ho,r⟩
theorem aKN(hu:A.units+8<cLine)(X:i7 w s.heap a (y,c))(kx:cT s.heap (x,b))(ky:cT s.heap (y,c))(q:∀v h' ps,Heap.SameBut a s.heap h'->cA w h' a ps->(if x=y then ps=[(y,c)]else ps.Perm [(y,c),(x,b)])->Q v {s with heap:=h',toks:=s.toks+x.dr}):wpAny (model prog w) A (setAdd a (.ref b)) Q E s:=by
 obtain⟨o,ep,t,ho,hex,hd,hm,hdu,hp,hl⟩:=id X;have hf:=zF (w:=w) (p:=(y,c)) hm hdu hp;unfold setAdd;refine aSE (aRD (qD x (by have:=kx.2;dsimp only at this;lia) kx.1 ?_))
 unfold setAddHashed setAddHashedIn;refine aSE (aRD (aUC (s:={s with toks:=s.toks+x.dr}) ho hd hf ?_))
 dsimp only;rw[if_neg (λz=>by cases z)]
 unfold setSearch;refine aRD (srch1 (s:={s with toks:=s.toks+x.dr}) hu ho hd hm hp hdu kx ky (λexy=>?_) (λj nj nxy=>?_) rfl 14 100000 none rfl (aKK hm _ _) (by decide) (by decide) (.inl rfl))
 . dsimp only;exact aRC (q false s.heap [(y,c)] (aTX a s.heap) X.sn (by rw[if_pos exy]))
 . dsimp only;refine aRD (aUC (s:={s with toks:=s.toks+x.dr}) ho hd hf ?_)
   dsimp only
   suffices key : ∀ v : Bool, wpAny (model prog w) A (do
       storeSet a (SetTable.insertAt #[cB w (y,c)] (t.put j).2 (aY w x,Value.ref b)) (if v=true then(t.put j).1 else{ (t.put j).1 with plain:=false })
       if (!false && (if v = true then (t.put j).1 else { (t.put j).1 with plain := false }).tooFull) = true then do
           setRelay a (SetTable.grown ((#[cB w (y,c)]:Array (Int×aW2)).size+1))
           pure true
        else pure true) Q E {s with toks:=s.toks+x.dr}from
    aVC (λ_=>aRD (zC x kx.1 key)) (λ_=>aRD (aRC (key true)))
   intro v;have rs:dO t.place:=by rw[hp];exact aVV _ _
   have hn:t.place[SetTable.below t.place j]?≠some j:=by
    rw[hp,rX];split
    . simp
    . intro z;have z:SetTable.bits (aY w y) % 8=j:=by simpa using z
      exact nj z.symm
   obtain⟨k1,k2⟩:=aJJ hdu rs hn;have pb:(t.put j).2<=1:=by show SetTable.below t.place j<=1;rw[hp,rX];split <;> decide
   have pe:(SetTable.insertAt #[cB w (y,c)] (t.put j).2 (aY w x,Value.ref b)).toList.Perm [cB w (y,c),cB w (x,b)]:=ins1 _ _ _ pb;have sz:(SetTable.insertAt #[cB w (y,c)] (t.put j).2 (aY w x,Value.ref b)).size=2:=by rw[<- aQ7,pe.length_eq];rfl
   have pz:(t.put j).1.place.size=2:=by show(SetTable.insertAt t.place (SetTable.below t.place j) j).size=2;have:=ins1 (SetTable.bits (aY w y) % 8) j (SetTable.below t.place j) pb;rw[hp]at this ⊢;rw[<- aQ7,this.length_eq];rfl
   have hl2:(t.put j).1.led = !b0 w:=hl;have hm2:(t.put j).1.mask=7:=hm;generalize (t.put j).1=t1 at *;generalize SetTable.insertAt #[cB w (y,c)] (t.put j).2 (aY w x,Value.ref b)=es1 at *;refine aRD (aUA (s:={s with toks:=s.toks+x.dr}) ho hd ?_ (by rw[sz];decide))
   obtain⟨ps,pp,ee⟩:∃ps:List (N×Addr),ps.Perm [(y,c),(x,b)]/\es1.toList=ps.map (cB w):=by
    have l2:es1.toList.length=2:=by rw[aQ7];exact sz
    match es1.toList,l2,pe with
    |[u,v],_,pe =>
     rcases aQZ.mp (pe.mem_iff.mp (show u∈[u,v]from mcs))with e|e
     . subst e;have:=pe.cons_inv;have e2:v=cB w (x,b):=by simpa using this.mem_iff.mp (aT2.mpr rfl)
       subst e2;exact⟨_,.refl _,rfl⟩
     . have e:u=cB w (x,b):=by simpa using e
       subst e;have:=(pe.trans (List.Perm.swap _ _ _)).cons_inv;have e2:v=cB w (y,c):=by simpa using this.mem_iff.mp (aT2.mpr rfl)
       subst e2;exact⟨[(x,b),(y,c)],List.Perm.swap _ _ _,rfl⟩
   have fin:∀t2:SetTable,t2.mask=7->t2.dummies = #[]->dO t2.place->t2.place.size=2->t2.led = !b0 w->Q true {s with heap:=s.heap.update a (Obj.putSet es1 t2),toks:=s.toks+x.dr}:=λt2 h1 h2 h3 h4 h5 =>
    q true _ ps (aUB ..) ⟨_,es1,_,t2,zG ho hd,hex,rfl,ee,by rw[pp.length_eq];show 2<=4;decide,by unfold SetTable.fits SetTable.fill;rw[h1,h2,h4,sz];rfl,h5,.inr ⟨h2,h3⟩⟩ (by rw[if_neg nxy];exact pp)
   have tf:∀t2:SetTable,t2.mask=7->t2.dummies = #[]->t2.place.size=2->(!false&&t2.tooFull)=false:=λt2 h1 h2 h4=>by unfold SetTable.tooFull SetTable.fill;rw[h1,h2,h4];rfl
   cases v with
   |true =>
    have e:(if true=true then t1 else{t1 with plain:=false})=t1:=rfl
    rw[e,tf t1 hm2 k1 pz];exact aRC (fin t1 hm2 k1 k2 pz hl2)
   |false =>
    have e:(if false=true then t1 else{t1 with plain:=false})={t1 with plain:=false}:=rfl
    rw[e,tf {t1 with plain:=false} hm2 k1 pz]
    exact aRC (fin {t1 with plain:=false} hm2 k1 k2 pz hl2)
end
theorem j7{α β:Type}{f:α->β}:∀{l:List β}{ps:List α},l.Perm (ps.map f)->∃qs:List α,qs.Perm ps/\l=qs.map f
 |[],ps,h=>by
  have:=h.symm.eq_nil;have e:ps=[]:=by simpa using this
  subst e;exact⟨[],.refl _,rfl⟩
 |x::l,ps,h=>by obtain⟨p,hp,rfl⟩:=aWI.mp (h.mem_iff.mp mcs);obtain⟨s,t,rfl⟩:=List.append_of_mem hp;have pm:(s++p::t).Perm (p::(s++t)):=List.perm_middle;obtain⟨qs,q1,q2⟩:=j7 ((h.trans (pm.map f)).cons_inv);exact⟨p::qs,(q1.cons p).trans pm.symm,by rw[q2];rfl⟩
theorem cT.kept{p:N×Addr}(k:cT h p)(kp:∀a o,h.get? a=some o->o.cls=.type "tuple" -> h'.get? a=some o):cT h' p:=⟨IsN.kept _ k.1 kp,k.2⟩
def cA.there{a:Addr}{ps:List (N×Addr)}(x:cA w h a ps):a<h.objs.size:=by obtain⟨o,es,ep,t,ho,r⟩:=x;exact aQQ ho
def cA.ty{a:Addr}{ps:List (N×Addr)}(x:cA w s.heap a ps):s.TypeIs (.ref a) "set" := by obtain⟨o,es,ep,t,ho,hex,r⟩:=x;exact⟨o,ho,hex.1⟩
def Two(k1 k2:N)(b1 b2:Addr)(ps:List (N×Addr)):Prop:=if k2=k1 then ps=[(k1,b1)]else ps.Perm [(k1,b1),(k2,b2)]
section
variable {A:aW4}{E:VSP}{k1 k2:N}{b1 b2:Addr}
theorem aKO{R:Result->aW3->Prop}{P:Nat->aW2->Prop}{St:Nat->Heap->Prop}(hu:A.units+16<cLine)(W:Walks prog w A.in1 I fp [I] 2 P St)(p1:∀v,P 0 v->v=.ref b1)(p2:∀v,P 1 v->v=.ref b2)(S:Addr)(hSf:S∉fp)(hst:St 0 s.heap)(g0:s.heap.get? S=some (sob w))(hI:∀o,s.heap.get? I=some o->o.cls ≠ .type "tuple")(q1:cT s.heap (k1,b1))(q2:cT s.heap (k2,b2))(hR:∀h' tk ps,(∀b o,b≠S->b≠I->s.heap.get? b=some o->h'.get? b=some o)->cA w h' S ps->Two k1 k2 b1 b2 ps->R (.ok (.ret .none)) {s with heap:=h',toks:=tk}):codeAny (model prog w) A (.builtin "set.update.loop" ⟨[.ref S,.ref I],[]⟩) R s:=by
 have hSw:S∉[I]:=λh=>hSf (W.sub _ h);have hSI:S≠I:=λe=>hSw (by simp[e])
 have tupI:∀a o,s.heap.get? a=some o->o.cls=.type "tuple" -> a≠I:=λa o e c z=>hI o (by rw[<- z];exact e) c
 have tupS:∀a o,s.heap.get? a=some o->o.cls=.type "tuple" -> a≠S:=λa o e c z=>by
  rw[z,g0]at e;cases e;have c:Value.type "set" = .type "tuple" := c;injection c with c
  exact absurd c (by decide)
 have hu1:A.in1.units+8<cLine:=by show A.units+1+8<_;lia
 refine aUJ qS ?_;rw[aUK lV _];show wpAny _ A.in1 (pyNext (.ref I)>>=_) _ _ s;refine aRD (W.item 0 s _ _ (by decide) hst λv h1 tk hP1 hst1 hk1=>?_)
 cases p1 v hP1;have c1:∀a o,s.heap.get? a=some o->o.cls=.type "tuple" -> h1.get? a=some o:=λa o e c=>hk1 a o (by simpa using tupI a o e c) e
 show wpAny _ A.in1 (holding [.ref b1] (setAdd S (.ref b1))>>=_) _ _ _;refine aRD (aSE (aKM (s:={s with heap:=h1,toks:=tk}) hu1 (hk1 S _ hSw g0) (q1.kept c1) λh2 sb X2=>?_))
 have c2:∀a o,s.heap.get? a=some o->o.cls=.type "tuple" -> h2.get? a=some o:=λa o e c=>sb.extBut a o (tupS a o e c) (c1 a o e c);refine aRC ⟨aUG lV _,aUJ qS ?_⟩;rw[aUK lV _];show wpAny _ A.in1 (pyNext (.ref I)>>=_) _ _ _;refine aRD (W.item 1 _ _ _ (by decide) (W.frame _ _ _ hst1 λb hb o e=>sb.extBut b o (λe'=>hSf (e' ▸ hb)) e) λv h3 tk3 hP3 hst3 hk3=>?_)
 cases p2 v hP3;have c3:∀a o,s.heap.get? a=some o->o.cls=.type "tuple" -> h3.get? a=some o:=λa o e c=>hk3 a o (by simpa using tupI a o e c) (c2 a o e c)
 show wpAny _ A.in1 (holding [.ref b2] (setAdd S (.ref b2))>>=_) _ _ _;refine aRD (aSE (aKN hu1 (X2.kept λo e=>hk3 S o hSw e) (q2.kept c3) (q1.kept c3) λv h4 ps sb4 X4 two=>?_));refine aRC ⟨aUG lV _,aUJ qS ?_⟩;rw[aUK lV _];show wpAny _ A.in1 (pyNext (.ref I)>>=_) _ _ _;refine aRD (W.done _ _ _ (W.frame _ _ _ hst3 λb hb o e=>sb4.extBut b o (λe'=>hSf (e' ▸ hb)) e) λh5 tk5 hk5=>?_);exact aRC (hR h5 tk5 ps (λb o n1 n2 e=>hk5 b o (by simpa using n2) (sb4.extBut b o n1 (hk3 b o (by simpa using n2) (sb.extBut b o n1 (hk1 b o (by simpa using n2) e))))) (X4.kept λo e=>hk5 S o hSw e) two)
def aKP{a p:Addr}{K:Fin->aW3->Prop}(hu:A.units+16<cLine)(hh:A.handled=none)(g0:s.heap.get? a=some (sob w))(hp:s.heap.IsList p #[.ref b1,.ref b2])(ne:a≠p)(q1:cT s.heap (k1,b1))(q2:cT s.heap (k2,b2))(h:∀h' tk ps,(∀b o,b≠a->s.heap.get? b=some o->h'.get? b=some o)->cA w h' a ps->Two k1 k2 b1 b2 ps->K (.done (.ret .none)) {s with heap:=h',toks:=tk}):wpAny (model prog w) A (Builtin.«set.__init__» ⟨[.ref a,.ref p],[]⟩) K E s:=by
 have ty:s.TypeIs (.ref a) "set" := ⟨_,g0,rfl⟩;have tp:s.TypeIs (.ref p) "list" := hp.typeIs;unfold Builtin.«set.__init__»;refine aRD (m:=noKeywords _ _) (aRC ?_);dsimp only;unfold typeNameOfCut shownTypeOf;refine aRD (aRD (aRD (aSI ty ?_)));have e1:(Value.type "set" == Value.type "builtin_function_or_method")=false:=by decide
 simp only[e1,aTA,↓reduceIte];refine aRC ?_;refine aRC (aRD (m:=checkCount _ 0 1 _) (aRC (aRD (m:=Builtin.Frozenset.addrOf _) (aRC (aRD ?_)))));unfold setUsed;refine aRD (aUC g0 rfl rfl (aRC ?_));have e2:((SetTable.fresh 0 0 (!b0 w)).fill != 0)=false:=rfl;dsimp only;rw[e2];simp only[aTA,↓reduceIte];refine aRD ?_;unfold Builtin.Frozenset.updateFrom Builtin.Frozenset.isAnySet;refine aRD (aJM tp ?_);simp only[aTA,↓reduceIte];refine aRD (aSI tp ?_);have e3:(Value.type "list" == Value.type "dict")=false:=by decide
 simp only[e3,aTA,↓reduceIte];refine aRD (aRF hp (aRD (aVF ?_)));obtain⟨op,ho,hrest⟩:=id hp;have lp:p<s.heap.objs.size:=aQQ ho;have la:a<s.heap.objs.size:=aQQ g0;refine aKO (A:=A) (s:={s with heap:=s.heap.push _}) hu (Walks.list (A:=A.in1) hh s.heap.objs.size p (aQT lp) #[.ref b1,.ref b2]) (λv q=>(aQO q).symm) (λv q=>(aQO q).symm) a
  (by simp only[aQZ,aVB,aT6,not_or];exact⟨aQT la,ne⟩) ⟨⟨_,aQP _ rfl,rfl,rfl⟩,hp.push _⟩ (hps g0) (λo e=>?_) (q1.kept λb o e _=>hps e) (q2.kept λb o e _=>hps e) λh' tk ps kp X m=>?_
 . have e2:some _=some o:=(aQP _ rfl).symm.trans e;cases e2;intro z;injection z with z
   exact absurd z (by decide)
 . exact aRC (aRC (h h' tk ps (λb o hb e=>kp b o hb (aQT (aQQ e)) (hps e)) X m))
theorem aKQ{p:Addr}{Q:VSP}(hu:A.units+64<cLine)(hh:A.handled=none)(hp:s.heap.IsList p #[.ref b1,.ref b2])(q1:cT s.heap (k1,b1))(q2:cT s.heap (k2,b2))(h:∀h' tk ps,(∀b o,s.heap.get? b=some o->h'.get? b=some o)->cA w h' s.heap.objs.size ps->Two k1 k2 b1 b2 ps->Q (.ref s.heap.objs.size) {s with heap:=h',toks:=tk}):wpAny (model prog w) A (call (.type "set") [.ref p]) Q E s:=by
 obtain⟨c,tl,hmro⟩:=PySem.F.called_set.mro;have hmade:=PySem.F.called_set.made;have hsub:=PySem.F.called_set.sub;have h1:=PySem.F.called_set.notType;have h2:=PySem.F.called_set.canCreate;have hct:=aIV (.ref p);refine aTY (codeAny_of_tree (show wpAny _ _ (callAny (.type "set") _) _ _ _ from aRC ⟨aV6 _ (by decide +kernel),aUJ PySem.F.entry_type_call ?_⟩))
 rw[Around.under_plain (weight_type_call_type "set" [.ref p] []) rfl]
 repeat (any_goals (first|assumption|wp_step))
 refine aSY (aIY (E:=E) (.ref p) (Q1:=λr s1=>r=.ref s.heap.objs.size/\s1={s with heap:=s.heap.push (sob w)}) ⟨rfl,rfl⟩) λr s1 hr=>?_
 cases r with
 |error e=>exact hr
 |ok fl =>
  cases fl with
  |ret obj =>
   obtain⟨rfl,rfl⟩:=hr;have g0:(s.heap.push (sob w)).get? s.heap.objs.size=some (sob w):=aQP _ rfl;have ty:Shared.TypeIs {s with heap:=s.heap.push (sob w)} (.ref s.heap.objs.size) "set" := ⟨_,g0,rfl⟩
   have hli:=PySem.F.called_set.init.lookup;have hbi:=PySem.F.called_set.init.bind (.ref s.heap.objs.size)
   repeat (any_goals (first|assumption|wp_step))
   refine aSY (aTZ (R:=wants (λr s2=>r=.none/\Q (.ref s.heap.objs.size) s2) E) PySem.F.called_set.init.plain PySem.F.entry_set_init (aIZ ty ?_)) λr2 s2 hr2=>?_
   . refine aKP (A:=A.in1.in1) (s:={s with heap:=s.heap.push (sob w)}) (by show A.units+1+1+16<_;lia) hh g0 (hp.push _) (aRB (aQQ hp.choose_spec.1)) (q1.kept λb o e _=>hps e) (q2.kept λb o e _=>hps e) λh' tk ys kp X m=>⟨rfl,h h' tk ys (λb o e=>kp b o (aQT (aQQ e)) (hps e)) X m⟩
   . cases r2 with
     |error e=>exact hr2
     |ok f2 =>
      cases f2 with
      |ret r =>
       obtain⟨rfl,hq⟩:=hr2
       repeat (any_goals (first|assumption|wp_step))
      |_=>exact hr2.elim
  |_=>exact hr.elim
end
def rZ{l:List (Int×aW2)}{ps:List (N×Addr)}(e:l=ps.map (cB w)):l.map (·.2)=ps.map λp=>Value.ref p.2:=by rw[e,aV9];rfl
section
variable {A:aW4}{E:VSP}
variable  {a:Addr}{o:Obj}{es:Array (Int×aW2)}{t:SetTable}
theorem aKR{xs:List (N×Addr)}{Q:VSP}(hh:A.handled=none)(X:cA w s.heap a xs)(q:∀(I:Addr) (h':Heap) d (fp:List Addr) (items:List aW2) (ys:List (N×Addr)) (St:Nat->Heap->Prop),Walks prog w A I fp [I] items.length (λi v=>items[i]? = some v) St->St 0 h'->items=List.map (λp:N×Addr=>Value.ref p.2) ys->ys.Perm xs->(∀b o,s.heap.get? b=some o->h'.get? b=some o)->s.heap.objs.size<=I->(∀b∈fp,b=a\/s.heap.objs.size<=b)->Q (.ref I) {s with heap:=h',drawn:=d}):wpAny (model prog w) A (pyIter (.ref a)) Q E s:=by
 obtain⟨o,es,ep,t,ho,hex,hd,he,hb,hf,hl,hp⟩:=id X;have la:=X.there;have hz:es.size=xs.length:=by rw[<- aQ7,he,aR4]
 refine aUQ X.ty aU5 (aSH aU5 X.ty xN ?_ (PySem.F.args_set_iter_1 _));unfold Builtin.«frozenset.__iter__»;refine aRD (m:=Builtin.Frozenset.slot0 _ _) (aRC (aRD ?_));unfold Builtin.Frozenset.sizeOf;refine aRD (aUX ho hd hf (aRC (aRD ?_)));unfold setDrawn;refine aRD (aUC ho hd hf (aRD (fY (aRC ?_))));dsimp only;have sz:es.size<=sizeLine:=by rw[hz,aRK];lia
 split
 . rename_i hc;refine aRD (qW (by simp) λd l' pl=>aRD (wpAny_newTuple ?_ (by rw[aR4,pl.length_eq,aU2];exact sz)))
   have ho1:=aU6 (seqObj "tuple" (l'.map λ(i:Nat)=>rawInt i).toArray 0) ho;refine aRD (aU7 (s:={ s with heap:=s.heap.push (seqObj "tuple" (l'.map λ(i:Nat)=>rawInt i).toArray 0),drawn:=d }) ho1 hd hf (aRD (aSK (aRC ⟨_,rfl,"set_iterator", _,⟨_,aQP _ rfl,rfl⟩,eF.lookup,?_⟩))))
   have ls:(s.heap.push (seqObj "tuple" (l'.map λ(i:Nat)=>rawInt i).toArray 0)).objs.size=s.heap.objs.size+1:=aU8 _ _;have pe:(l'.map λp=>es.getD p (0,.none)).Perm es.toList:=by
    refine(pl.map _).trans (.of_eq ?_);apply aU9
    . simp
    . intro k k1 k2;simp at k1 ⊢;rw[aU0 k1];rfl
   obtain⟨ys,py,ey⟩:=j7 (he ▸ pe);have W:=xQ (prog:=prog) (w:=w) (A:=A) (I:=(s.heap.push (seqObj "tuple" (l'.map λ(i:Nat)=>rawInt i).toArray 0)).objs.size) (tp:=s.heap.objs.size) hh (by rw[ls];exact aQT (aTV la)) (by rw[ls];exact aQT (aRP _)) hd hf rfl pl
   refine q _ _ d _ ((l'.map λp=>es.getD p (0,.none)).map (·.2)) ys _ (jX W (by simp[pl.length_eq]) λi v hv=>?_) ⟨⟨_,aQP _ rfl,rfl,rfl⟩,hps ho1,⟨_,hps (aQP _ rfl),rfl,_,rfl⟩⟩ (rZ ey) py
    (λb o' e=>hps (hps e)) (by rw[ls];exact aT0 _) λb hb=>?_
   . obtain⟨p,hx,e1,e2⟩:=hv;rw[aR1,aR1,e1];simp[aVA,e2]
   . simp only[aQZ,aVB,aT6]at hb;rcases hb with rfl|rfl|rfl
     . right;rw[ls];exact aT0 _
     . left;rfl
     . right;exact aRG _
 . rename_i hc;refine aRD (aRC (aRD (aU7 ho hd hf (aRD (aSK (aRC ⟨_,rfl,"set_iterator", _,⟨_,aQP _ rfl,rfl⟩,eF.lookup,?_⟩))))));have fpx:∀b∈[s.heap.objs.size,a],b=a\/s.heap.objs.size<=b:=λb hb=>by
     simp only[aQZ,aVB,aT6]at hb;rcases hb with rfl|rfl
     . right;exact aRG _
     . left;rfl
   cases bt:b0 w with
   |true =>
    obtain⟨ys,py,ey⟩:=j7 (he ▸ jW (next:=w.params.setOrder a ep) (xs:=es));have W:=xP (prog:=prog) (w:=w) (A:=A) (I:=s.heap.objs.size) hh (aQT la) hd hf bt;refine q _ _ s.drawn _ ((pickOrder (w.params.setOrder a ep) es).toList.map (·.2)) ys _ (jX W (by rw[aR4,jW.length_eq,aQ7]) λi v hv=>?_) ⟨⟨_,aQP _ rfl,rfl,rfl⟩,hps ho⟩ (rZ ey) py (λb o' e=>hps e) (aRG _) fpx
    rw[<- hv];simp
   |false =>
    have hc':(!t.plain&&decide (es.size > 1))=false:=by have hc:¬ (!b0 w&&(!t.plain&&decide (es.size > 1)))=true:=hc;rw[bt]at hc;simpa using hc
    have hzp:t.place.size=es.size:=by unfold SetTable.fits at hf;rw[aSJ,aRN]at hf;exact hf.1
    have hr:dO t.place:=by
     rcases hp with hp|hp
     . rw[hp]at hc';have h1:t.place.toList.length<=1:=by rw[aQ7,hzp];simpa using hc'
       show t.place.toList.Pairwise _;generalize t.place.toList=l at h1
       match l,h1 with
       |[],_=>exact .nil
       |[x],_=>exact aVV _ _
     . exact hp.2
    have W:=aJN (prog:=prog) (w:=w) (A:=A) (I:=s.heap.objs.size) hh (aQT la) hd hf bt (by rw[hl,bt];rfl) hr hc'
    refine q _ _ s.drawn _ (es.toList.map (·.2)) xs _ (jX W (by simp) λi v hv=>?_) ⟨⟨_,aQP _ rfl,rfl,rfl⟩,hps ho⟩ (rZ he) (.refl _) (λb o' e=>hps e) (aRG _) fpx
    rw[<- hv];simp
end
section
variable {A:aW4}{E:VSP}{a:Addr}{xs:List (N×Addr)}
theorem ext_n{R:Result->aW3->Prop}(hh:A.handled=none)(X:cA w s.heap a xs)(S:Addr)(hSa:S≠a)(res:aW2)(hS:s.heap.get? S=some { cls:=.type "list", data:=.seq #[] })(hR:∀h' d tk vs ys c,(∀b o,b≠S->s.heap.get? b=some o->h'.get? b=some o)->h'.get? S=some { cls:=.type "list", dict:=none,data:=.seq vs c,slots:=#[] } -> vs.toList=List.map (λp:N×Addr=>Value.ref p.2) ys->ys.Perm xs->R (.ok (.ret res)) {s with heap:=h',drawn:=d,toks:=tk}):wpAny (model prog w) A.in1 (Builtin.List.listExtendWith (.ref S) (.ref a) res) (λfin s'=>match fin with|.done f=>R (.ok f) s'|.again c'=>c'.quiet=true/\codeAny (model prog w) A c' R s') (λe s'=>R (.error e) s') s:=by
 have hb:xs.length<=sizeLine:=by obtain⟨o,es,ep,t,ho,hex,hd,he,hb,r⟩:=X;rw[aRK];lia
 unfold Builtin.List.listExtendWith;refine aRD (aSI X.ty ?_);have n1:Builtin.List.listSameRef (.ref S) (.ref a)=false:=by simp[Builtin.List.listSameRef,hSa]
 have n2:(Value.type "set" == Value.type "list")=false:=by decide
 have n3:(Value.type "set" == Value.type "tuple")=false:=by decide
 simp only[n1,n2,n3,aSL,aTA,↓reduceIte];refine aRD (aKR (A:=A.in1) hh X λI h1 d fp items ys St W st sa py kp hI hfp=>?_);have lS:S<s.heap.objs.size:=aQQ hS;have hSf:S∉fp:=λhm=>(hfp S hm).elim hSa λh=>absurd lS (aTW.mpr h);have hSI:S≠I:=λe=>absurd lS (aTW.mpr (e ▸ hI));have hil:items.length<=sizeLine:=by rw[sa,aR4,py.length_eq];exact hb
 have hS1 := kp S _ hS; have key : ∀ (h : Heap) (c : Nat), St 0 h → (∀ b o, b ≠ S → s.heap.get? b = some o → h.get? b = some o) → h.get? S = some { cls := .type "list", data := .seq #[] c } →
     codeAny (model prog w) A (.builtin "list.extend.loop" ⟨[.ref S,.ref I,res],[]⟩) R {s with heap:=h,drawn:=d}:=by
  intro h c st' k' hS';refine codeAny_extend_loopS W.toS hil S hSf res items.length 0 _ #[] c rfl (aRQ _) st' hS' (ItemsOf.nil _) λs' acc c' hm hS2 hacc=>?_;rw[Moved.eq_with hm];refine hR s'.heap d s'.toks acc ys c' (λb o nb e=>hm.heap b o (λhx=>?_) (k' b o nb e)) hS2 (by rw[xT hacc];exact sa) py
  rcases aQZ.mp hx with e'|hx
  . exact nb e'
  . exact absurd (aQQ e) (by rw[aT2.mp hx];exact aTW.mpr hI)
 refine aRD (aSE (xS (s:={s with heap:=h1,drawn:=d}) (cA.ty (s:={s with heap:=h1,drawn:=d}) (X.kept λo e=>kp a o e)) ?_))
 refine aVC (λ_=>?_) (λ_=>aRC ⟨aUG aVD _,key h1 0 st (λb o _ e=>kp b o e) hS1⟩);refine aRD (aS6 (aRD ?_));show wpAny _ _ (updateSeq S (·.push Value.none)>>=λ_=>updateSeq S (·.pop)) _ _ {s with heap:=h1,drawn:=d}
 refine aRD (aVE (s:={s with heap:=h1,drawn:=d}) hS1 rfl ?_)
 have hS2:=aUR (Obj.mapSeq (·.push Value.none)) hS1 rfl;refine aVE (hz:=by seq_fits) hS2 rfl ?_
 have hS3:=aUR (Obj.mapSeq (·.pop)) hS2 rfl;have oth:∀b,b≠S->∀o,h1.get? b=some o->((h1.update S (Obj.mapSeq (·.push Value.none))).update S (Obj.mapSeq (·.pop))).get? b=some o:=λb nb o e =>
  (aSP _ _ (Ne.symm nb)).trans ((aSP _ _ (Ne.symm nb)).trans e)
 exact aRC ⟨aUG aVD _,key _ _ (W.frame 0 _ _ st λb hb o e=>oth b (λh=>hSf (h ▸ hb)) o e) (λb o nb e=>oth b nb o (kp b o e)) hS3⟩
def aKS(hh:A.handled=none)(X:cA w s.heap a xs)(h:∀h' d tk vs ys,(∀b o,s.heap.get? b=some o->h'.get? b=some o)->s.heap.objs.size<h'.objs.size->vs=List.map (λp:N×Addr=>Value.ref p.2) ys->ys.Perm xs->R vs {s with heap:=h',drawn:=d,toks:=tk}):wpAny (model prog w) A (collect (.ref a)) R E s:=by
 have la:=X.there;unfold collect;refine aRD (aVF (aUJ aVG ?_));rw[aUK aVH _];show wpAny (model prog w) A.in1 (newList []>>=λl=>again (.builtin "list.__iadd__" ⟨[l,.ref a],[]⟩)) _ _ s;refine aRD (aSK (aRC ⟨aUG aVI _,aUJ aVJ ?_⟩));rw[aUK aVI _];have g0:(s.heap.push { cls:=.type "list", data:=.seq ([]:List Value).toArray }).get? s.heap.objs.size=some { cls:=.type "list", data:=.seq #[] }:=aQP _ rfl;show wpAny (model prog w) A.in1 (Builtin.List.listExtendWith (.ref s.heap.objs.size) (.ref a) (.ref s.heap.objs.size)) _ _ _;have key:=ext_n (A:=A) (prog:=prog) (s:={ s with heap:=s.heap.push { cls:=.type "list", data:=.seq ([]:List Value).toArray } })
  (R:=λq s'=>∃h' d tk vs ys c,q=.ok (.ret (.ref s.heap.objs.size))/\s'={s with heap:=h',drawn:=d,toks:=tk}/\(∀b o,s.heap.get? b=some o->h'.get? b=some o)/\h'.get? s.heap.objs.size=some { cls:=.type "list", dict:=none,data:=.seq vs c,slots:=#[] }/\vs.toList=List.map (λp:N×Addr=>Value.ref p.2) ys/\ys.Perm xs)
  hh (X.kept λo e=>hps e) s.heap.objs.size (aRB la) (.ref s.heap.objs.size) g0
  λh' d tk vs ys c kp gS sa py=>⟨h',d,tk,vs,ys,c,rfl,rfl,λb o e=>kp b o (aQT (aQQ e)) (hps e),gS,sa,py⟩
 refine aQ5 key (λf s' x=>?_) λe s' x=>?_
 . cases f with
   |done f=>obtain⟨h',d,tk,vs,ys,c,e,rfl,kp,gS,sa,py⟩:=x;cases e;show wpAny _ A (load s.heap.objs.size>>=_) _ _ _;exact aRD (aRE gS (aRC (h h' d tk vs.toList ys kp (aQQ gS) sa py)))
   |again c1=>refine⟨x.1,aSY x.2 λq s2 y=>?_⟩;obtain⟨h',d,tk,vs,ys,c,rfl,rfl,kp,gS,sa,py⟩:=y;show wpAny _ A (load s.heap.objs.size>>=_) _ _ _;exact aRD (aRE gS (aRC (h h' d tk vs.toList ys kp (aQQ gS) sa py)))
 . obtain⟨_,_,_,_,_,_,e',_⟩:=x;cases e'
end
open PySem.W
theorem zH{h:Heap}:∀{ys:List (N×Addr)},(∀p∈ys,cT h p)->dZ h (ys.map λp=>Value.ref p.2) (ys.map (·.1))
 |[],_=>⟨rfl,λi hi=>by simp at hi⟩
 |p::ys,k=>by
  obtain⟨l,r⟩:=zH (ys:=ys) λq hq=>k q (mcm hq);refine⟨by simp,λi hi=>?_⟩
  cases i with
  |zero=>exact(k p mcs).1
  |succ i=>have:=r i (by simpa using hi);simpa using this
def OkP(ps:List (N×Addr)):Prop:=rS (ps.map (·.1))/\(ps.length<=1\/∀p∈ps,cM p.1=true)/\ps.length<iA
def OkP.perm{ps qs:List (N×Addr)}(h:OkP ps)(p:qs.Perm ps):OkP qs:=by have pm:=p.map (·.1);exact⟨λx hx y hy=>h.1 x (pm.mem_iff.mp hx) y (pm.mem_iff.mp hy),h.2.1.imp (λz=>by rw[p.length_eq];exact z) λz q hq=>z q (p.mem_iff.mp hq),by rw[p.length_eq];exact h.2.2⟩
section
variable {A:aW4}{E:VSP}{a:Addr}{xs:List (N×Addr)}
theorem aKT{Q:VSP}(hu:A.units+64<cLine)(hh:A.handled=none)(X:cA w s.heap a xs)(kx:∀p∈xs,cT s.heap p)(ok:OkP xs)(h:∀h' d tk D e (zs:List (N×Addr)),(∀b o,s.heap.get? b=some o->h'.get? b=some o)->s.heap.objs.size<=D->h'.get? D=some (seqObj "list" (zs.map λp=>Value.ref p.2).toArray e)->zs.Perm xs->eY (zs.map (·.1))->Q (.ref D) {s with heap:=h',drawn:=d,toks:=tk}):wpAny (model prog w) A (call (.builtin "sorted") [.ref a]) Q E s:=by
 refine aVK aVL aVM aVN (aVO (.ref a)) ?_;unfold Builtin.«sorted»;refine aRD (m:=checkCount "sorted" 1 1 [Value.ref a].length) (aRC (aRD (aKS (A:=A.in1) hh X λh1 d tk vs ys kp lh sa py=>?_)));subst sa;have oky:=ok.perm py;have ly:ys.length<iA:=oky.2.2;have ly2:ys.length<1000000:=aQR ly l5;refine aRD (aVP ?_ (by rw[aR4,aRK];lia))
 have g1:(h1.push (seqObj "list" (ys.map λp=>Value.ref p.2).toArray 0)).get? h1.objs.size=some (seqObj "list" (ys.map λp=>Value.ref p.2).toArray 0):=aQP _ rfl;have hv:dZ (h1.push (seqObj "list" (ys.map λp=>Value.ref p.2).toArray 0)) (ys.map λp=>Value.ref p.2) (ys.map (·.1)):=zH λp hp=>(kx p (py.mem_iff.mp hp)).kept λb o e _=>hps (kp b o e);refine aRD (aSE (aSH aVQ ⟨_,g1,rfl⟩ aVR (yW (A:=A.in1.in1) (s:={ s with heap:=h1.push (seqObj "list" (ys.map λp=>Value.ref p.2).toArray 0),drawn:=d,toks:=tk }) (by show A.units+1+1+13<_;lia) g1 hv (λk hk=>?_) oky.1 (oky.2.1.imp (λz=>by rw[aR4];exact z) λz k hk=>?_) (by rw[aR4];exact ly) λp wp=>⟨_,rfl,?_⟩) (aVS _)))
 . obtain⟨p,hp,rfl⟩:=aWI.mp hk;exact aQW (kx p (py.mem_iff.mp hp)).2 (by decide)
 . obtain⟨p,hp,rfl⟩:=aWI.mp hk;exact z p hp
 . have pl:∀i∈p,i<ys.length:=λi hi=>by have:=wp.perm.mem_iff.mp hi;rw[aQU,aR4]at this;exact this
   have e1:(p.map λi=>(ys.map λp=>Value.ref p.2).getD i .none)=(p.map λi=>ys.getD i (.i 0,0)).map λp=>Value.ref p.2:=by rw[aV9];refine aWJ λi hi=>?_;simp[pl i hi]
   have e2:(p.map λi=>(ys.map (·.1)).getD i (.i 0))=(p.map λi=>ys.getD i (.i 0,0)).map (·.1):=by rw[aV9];refine aWJ λi hi=>?_;simp[pl i hi]
   have zp:(p.map λi=>ys.getD i (.i 0,0)).Perm ys:=by have:=wp.perm.map λi=>ys.getD i (.i 0,0);rw[aR4,oP]at this;exact this
   have up:=wp.up;rw[e2]at up;rw[e1];obtain⟨e,he⟩:=sortedHeap_at (out:=((p.map λi=>ys.getD i (.i 0,0)).map λp=>Value.ref p.2).toArray) g1;refine aRC ⟨_,rfl,h _ d tk _ e _ (λb o hb=>?_) (aQX lh) he (zp.trans py) up⟩;have lb:=aQQ (kp b o hb);rw[sortedHeap_old (aQT lb) (by rw[aU8];exact aTV lb)]
   exact hps (kp b o hb)
end
def sn(w:aW5)(l:Addr)(ps:List (N×Addr)):HO:=.ext λh=>cA w h l ps
def sn_ok{l:Addr}{ps:List (N×Addr)}(x:cA w h l ps):bC P w H h l (sn w l ps):=by
 refine⟨x,?_,λh1 h2 x1 k=>cA.kept (show cA w h1 l ps from x1) k⟩
 obtain⟨o,es,ep,t,ho,r⟩:=x;exact⟨o,ho⟩
def i8(K:Fg)(H:Hp)(p:N×Addr):Prop:=NAt K H p.1 (.ref p.2)/\p.1.dp<=8
def i8.at(I:L2.Inv X aA σ H s){p:N×Addr}(k:i8 X.K H p):cT s.heap p:=⟨NAt.is I _ _ _ k.1 rfl,k.2⟩
def r8(X:Cx):List V->Hp->VK->Prop:=λxs H Q=>∃(p:Addr) (q1 q2:N×Addr),xs=[.ref p]/\SqL X.K H p [.ref q1.2,.ref q2.2]/\i8 X.K H q1/\i8 X.K H q2/\∀(l:Addr) (ps:List (N×Addr)),H l=none->Two q1.1 q2.1 q1.2 q2.2 ps->Q (.ref l) (upd H l (sn X.w l ps))
def aKU(hu:X.A.units+64<cLine)(hc:X.calm=true):bY X (.type "set") (r8 X):=by
 intro aA s σ H xs us Q I r h;obtain⟨p,q1,q2,rfl,hp,h1,h2,q⟩:=h;obtain⟨u,rfl,rx⟩:=cE r;cases rx;obtain⟨its,rv,pl,_⟩:=I.list hp;have e:its=[.ref q1.2,.ref q2.2]:=by
  cases rv with
  |cons r1 t1 =>
   cases t1 with
   |cons r2 t2=>cases t2;cases r1;cases r2;rfl
 subst e;refine aKQ (k1:=q1.1) (k2:=q2.1) (b1:=q1.2) (b2:=q2.2) hu (I.ok.hd hc) pl.isList (h1.at I) (h2.at I) λh' tk ys kp SX m=>?_;exact⟨.ref s.heap.objs.size,_,I.laid (t':=tk) kp (aRG _) (sn_ok SX),rfl,q _ ys (I.hok.fresh (aRG _)) m⟩
def r9(X:Cx):List V->Hp->VK->Prop:=λxs H Q=>∃(a:Addr) (ps:List (N×Addr)),xs=[.ref a]/\H a=some (sn X.w a ps)/\(∀p∈ps,i8 X.K H p)/\OkP ps/\∀(l:Addr) (zs:List (N×Addr)),H l=none->zs.Perm ps->eY (zs.map (·.1))->Q (.ref l) (upd H l (.lst (zs.map λp=>V.ref p.2)))
theorem zI:∀(zs:List (N×Addr)),aH (zs.map λp=>V.ref p.2) (zs.map λp=>Value.ref p.2)
 |[]=>.nil
 |p::zs=>.cons rfl (zI zs)
theorem aKV(hu:X.A.units+64<cLine)(hc:X.calm=true):bY X (.builtin "sorted") (r9 X):=by
 intro aA s σ H xs us Q I r h;obtain⟨a,ps,rfl,ha,kh,ok,q⟩:=h;obtain⟨u,rfl,rx⟩:=cE r;cases rx;have xa:cA X.w s.heap a ps:=(I.hok a _ ha).1;refine aKT hu (I.ok.hd hc) xa (λp hp=>(kh p hp).at I) ok λh' d tk D e zs kp hD g py so=>?_;have le:(zs.map λp=>V.ref p.2).length<=sizeLine:=by rw[aR4,py.length_eq,aRK];have:=ok.2.2;have:=l5;lia
 exact⟨.ref D,_,Inv.drew (I.laid (t':=tk) kp hD (show bC X.prog X.w _ h' D (.lst (zs.map λp=>V.ref p.2))from⟨le,_,e,zI zs,g⟩)) d,rfl,q D zs (I.hok.fresh hD) py so⟩
def two(k1 k2:N):List N:=if k2=k1 then[k1]else cY [k1,k2]
def f8(ra:Res):Res:=ra.thn λ_ d=>match d with
 |.lst [d1,d2]=>(match cR d1,cR d2 with
  |some k1,some k2=>if okS [k1,k2]=true then .ok .fr (.lst (nDL (two k1 k2)))else .stuck
  |_,_=>.stuck)
 |_=>.stuck
theorem aKW{Q:VK}(hK:C.K=X.K)(q:tG C (λρ=>f8 (ga ρ)) σ H Q):tCB (r9 X) (jL (tCB (r8 X) (jL (tG C ga) nN)) nN) σ H Q:=by
 show tG C ga σ H λv H1=>r8 X [v] H1 λsv H2=>r9 X [sv] H2 Q;rw[aS]at q ⊢;obtain⟨ρ,F,R,w⟩:=q;refine⟨ρ,F,R,?_⟩;cases e1:ga ρ with
 |stuck=>simp only[f8,e1,Res.thn_stuck]at w;exact w
 |exc c=>simp only[f8,e1,Res.thn_exc]at w;exact w
 |ok m d =>
  simp only[f8,e1,Res.thn_ok]at w;intro v F1 H1 s1 r1 _;split at w
  . rename_i d1 d2;split at w
    . rename_i k1 k2 ek1 ek2;split at w
      . rename_i hc;obtain⟨a,xs,rfl,sq,rl⟩:=r1.seqL s1.sub;simp only[aC]at rl;obtain⟨x1,ys,rfl,rd1,x2,ys2,rfl,rd2,rfl⟩:=rl;obtain⟨b1,rfl,n1,h1⟩:=oU (H:=H1) (m:=.fz) ek1 rd1;obtain⟨b2,rfl,n2,h2⟩:=oU (H:=H1) (m:=.fz) ek2 rd2;rw[hK]at sq n1 n2;have kh1:i8 X.K H1 (k1,b1):=⟨NAt.mono s1.sub _ _ n1,h1⟩;have kh2:i8 X.K H1 (k2,b2):=⟨NAt.mono s1.sub _ _ n2,h2⟩;refine⟨a,(k1,b1),(k2,b2),rfl,sq,kh1,kh2,λA1 ps hA1 tw=>?_⟩;have s2:aF F H F1 (upd H1 A1 (sn X.w A1 ps)):=s1.trans (aF.fresh _ s1.sub hA1);have mem:∀p∈ps,p=(k1,b1)\/p=(k2,b2):=λp hp=>by
          unfold Two at tw;split at tw
          . subst tw;exact .inl (aT2.mp hp)
          . simpa using tw.mem_iff.mp hp
        have nat:∀p∈ps,NAt X.K F1 p.1 (.ref p.2)/\p.1.dp<=8:=λp hp=>by
         rcases mem p hp with rfl|rfl
         . exact⟨n1,h1⟩
         . exact⟨n2,h2⟩
        unfold okS at hc;simp only[aSJ,aTE,aTC,aV8]at hc;obtain⟨⟨⟨_,ft⟩,ao⟩,_⟩:=hc;have ft:∀k∈[k1,k2],cM k=true:=ft.resolve_left (λz=>by simp at z)
        have mk:∀p∈ps,p.1∈[k1,k2]:=λp hp=>by rcases mem p hp with rfl|rfl <;> simp
        have lp:ps.length<=2:=by
         unfold Two at tw;split at tw
         . subst tw;exact aT0 1
         . rw[tw.length_eq];exact aRG 2
        refine⟨A1,ps,rfl,aV,λp hp=>⟨NAt.mono s2.sub _ _ (nat p hp).1,(nat p hp).2⟩,⟨λx hx y hy=>?_,.inr λp hp=>ft _ (mk p hp),by have:=rJ;lia⟩,λL zs hL pz so=>?_⟩
        . obtain⟨p,hp,rfl⟩:=aWI.mp hx;obtain⟨p',hp',rfl⟩:=aWI.mp hy;exact ao _ (mk p hp) _ (mk p' hp')
        . have s3:=s2.trans (aF.fresh (.lst (zs.map λp=>V.ref p.2)) s2.sub hL);have ez:zs.map (·.1)=two k1 k2:=by
            unfold Two at tw;unfold two;split at tw
            . rename_i e;rw[if_pos e];subst tw;have:zs=[(k1,b1)]:=pz.eq_singleton;rw[this];rfl
            . rename_i e;rw[if_neg e];exact rR so ((pz.trans tw).map (·.1))
          refine w (.ref L) F1 _ s3 ⟨L,rfl,s2.sub.free hL,_,aV,?_⟩ λ_ a' ea'=>?_
          . rw[hK,<- ez,gR,aV9];exact rA λp hp=>rF _ _ (nat p (pz.mem_iff.mp hp)).1
          . cases ea';cases q:H L with
            |none=>rfl
            |some o=>rw[s2.same _ _ q]at hL;cases hL
      . exact w.elim
    . exact w.elim
  . exact w.elim
def aKX(hu:X.A.units+64<cLine)(hc:X.calm=true)(gs:Gl X "sorted")(ns:X.mg "sorted" = none)(gt:Gl X "set")(nt:X.mg "set" = none)(ha:PV C X ea ga)(sa:bQ ea=true):PV C X (.Call (.Name "sorted" p) [.Call (.Name "set" p1) [ea] [] q1] [] pos) (λρ=>f8 (ga ρ)):=by
 refine PE.imp (lB (aKV hu hc) gs ns xX (dE (vL (aKU hu hc) gt nt aJC (dE ha eN (aW sa)) (by decide) (by decide) (aW sa) rfl) eN)) λσ H Q w=>?_
 exact aKW (X:=X) rfl w
def pat(t:SetTable)(h:Int):Nat->SetTable.Probe
 |0=>t.probeStart h
 |n+1=>t.advance (pat t h n)
def Rch(t:SetTable)(h:Int)(j:Nat):Prop:=∃n,(pat t h n).j=j/\∀m<n,(pat t h m).j∈t.place.toList
structure SlN(w:aW5)(t:SetTable)(es:Array (Int×aW2))(qs:List (Nat×N×Addr)):Prop where
 mask:t.mask=7
 dum:t.dummies = #[]
 rise:dO t.place
 place:t.place.toList=qs.map (·.1)
 ents:es.toList=qs.map λq=>cB w q.2
 few:qs.length<=4
 led:t.led = !b0 w
 rch:∀q∈qs,Rch t (aY w q.2.1) q.1
section
variable {A:aW4}{E:VSP}{a c:Addr}{x y:N}
end
section
variable {A:aW4}{E:VSP}{a:Addr}{x:N}
end
structure Uq(ks ps:List (N×Addr)):Prop where
 sub:∀p∈ps,p∈ks
 nd:(ps.map (·.1)).Nodup
 all:∀p∈ks,p.1∈ps.map (·.1)
section
variable {A:aW4}{E:VSP}
end
section
variable {A:aW4}{E:VSP}
end
section
variable  {F:Hp}
end
open PySem.W
end D3
namespace L2
section
variable {σ:St}{E:VSP}
end
end L2
namespace D3
section
open PySem.SeqAt
open PySem.AutoSeq1 (wpAny_loadPart')
open PySem.MeetsSeq PySem.MeetsSeq2 PySem.MeetsSeq3
end
section
variable {A:aW4}{E:VSP}
end
open PySem.W
section
variable {E:VSP}
end
section
variable {E:VSP}
end
section
variable {A:aW4}{E:VSP}
end
section
variable  {F:Hp}
end
section
variable  {F:Hp}{E:VSP}
end
theorem zJ:∀{ps:List Str}{us:List aW2},ps.Nodup->us.length=ps.length->ps.filterMap (λn=>((ps.zip us).lookup n).map (n,·))=ps.zip us/\∀n∈ps,((ps.zip us).lookup n).isNone=false
 |[],us,_,_=>⟨rfl,λ_ h=>by cases h⟩
 |p::ps,[],_,h=>by cases h
 |p::ps,u::us,nd,h=>by
  obtain⟨h1,h2⟩:=aRU.mp nd;obtain⟨i1,i2⟩:=zJ (us:=us) h2 (Nat.succ.inj h);have e:∀n∈ps,((p,u)::ps.zip us).lookup n=(ps.zip us).lookup n:=λn hn=>by rw[aTB];have:(n==p)=false:=aQM.mpr λz=>h1 (z ▸ hn);rw[this]
  refine⟨?_,λn hn=>?_⟩
  . rw[aT3,aQY,aTB,aTU];dsimp only[Option.map];refine congrArg _ (Eq.trans ?_ i1);have c:∀l:List Str,(∀n∈l,n∈ps)->l.filterMap (λn=>(((p,u)::ps.zip us).lookup n).map (n,·))=l.filterMap (λn=>((ps.zip us).lookup n).map (n,·)):=by
      intro l hl
      induction l with
      |nil=>rfl
      |cons a l ih=>rw[aQY,aQY,e a (hl a mcs),ih λn hn=>hl n (mcm hn)]
    exact c ps λ_ h=>h
  . rw[aT3];rcases aQZ.mp hn with rfl|hn
    . rw[aTB,aTU];rfl
    . rw[e n hn];exact i2 n hn
def aKY(h1:fd.params.posonlyargs=[])(h2:fd.params.args.map (·.arg)=ps)(h3:fd.params.vararg=none)(h4:fd.params.kwonlyargs=[])(h5:fd.params.kwarg=none)(hd:fd.defaults=.none)(h6:ps.Nodup)(us:List aW2)(hl:us.length=ps.length):bindArgs fd ⟨us,[]⟩=pure (ps.zip us):=by
 obtain⟨z1,z2⟩:=zJ h6 hl;have z3:(ps.take (ps.length-0)).filter (λn=>((ps.zip us).lookup n).isNone)=[]:=by rw[Nat.sub_zero,List.take_length,List.filter_eq_nil_iff];intro n hn;rw[z2 n hn];decide
 unfold bindArgs;simp only[h1,h2,h3,h4,h5,hd,aSW,aT8,aRT,aTR,aTT,hl,aQS,seqItems?];have q:(do notAStandIn Value.none;pure none:Sem (Option (Array aW2)))=pure none:=rfl
 rw[q];simp only[aTT,aSM,aSU,Nat.zero_sub,List.drop_zero,z3,decide_false,Bool.false_and,aTA,aSB,List.isEmpty_nil,aS9,List.zip_nil_right,aTR,z1,Array.toList_empty,List.drop_nil]
section
variable  {kp:Pos}{Φ:D->Res}
end
section
variable {K:Type}[DecidableEq K]{knd:HeapKind prog w K}{A:aW4}{E:VSP}
end
section
variable {a:Addr}{A:aW4}{E:VSP}
end
section
variable  {o f:Expr}
end
abbrev GD:=List (N×List D)
def gU(ρ:Rho):Prop:=∀(j:Nat) d,ρ[j]?≠some (some (true,d))
def iB(ρ:Rho):Bool:=ρ.all λx=>match x with|some (true,_)=>false|_=>true
def l9(h:iB ρ=true):gU ρ:=λj d e=>by have:=aV8.mp h _ (aR2 e);cases this
def aN.other{F:Hp}{o:HO}(R:aN K F0 H0 F H σ ρ)(n:gU ρ)(hf:F b=none)(h0:H0 b=none):aN K F0 H0 F (upd H b o) σ ρ:=by
 refine⟨⟨λc u q=>by rw[aL (bR q h0)];exact R.st.same c u q,R.st.fsame,λc u q=>by rw[aL (bR q hf)];exact R.st.sub c u q,R.st.new⟩,λj m d e=>?_,λi j d d' a _ e1 _ _ _=>(n i d e1).elim,R.len⟩
 obtain⟨v,e1,r,e3⟩:=R.slot j m d e;cases m with
 |true=>exact(n j d e).elim
 |false=>exact⟨v,e1,r,e3⟩
abbrev GM:=Rho->GD->Option (Rho×GD)
section
variable  {ve:Expr}{gk gv:Rho->Res}{ap1 cp1 ap2 cp2 lp:Pos}
end
section
variable {g:GM}
end
def aN.hide{F:Hp}(i:Nat)(v:V)(R:aN K F0 H0 F H σ ρ)(n:gU (ρ.set i none)):aN K F0 H0 F H (σ.set i (some v)) (ρ.set i none):=by
 refine⟨R.st,λj m d e=>?_,λj k d d' a _ e1 _ _ _=>(n j d e1).elim,by rw[aTL,aTL];exact R.len⟩
 by_cases hj:j=i
 . subst hj;rw[aTM]at e;split at e
   . split at e <;> cases e
   . rename_i z;exact absurd rfl z
 . rw[aQ4 (λz=>hj z.symm)]at e ⊢;exact R.slot j m d e
section
variable {g:GM}{sp:Pos}{rest:List Stmt}{h:Rho->aG}
end
section
variable {a:Addr}{A:aW4}{E:VSP}
end
section
variable  {o f:Expr}
end
abbrev JD:=List (Key×List D)
abbrev HM:=Rho->JD->Option (Rho×JD)
section
variable  {ve:Expr}{gk gv:Rho->Res}{ap1 cp1 ap2 cp2 lp:Pos}
end
section
variable {g:HM}
end
section
variable {g:HM}{sp:Pos}{rest:List Stmt}{h:Rho->aG}
end
section
variable {A:aW4}{E:VSP}
def aKZ{Q1:VSP}(h:Q1 (.ref s.heap.objs.size) {s with heap:=s.heap.push (sob w)}):codeAny (model prog w) A (.call (.builtin "set.__new__") ⟨[.type "set"],[]⟩) (wants Q1 E) s:=by
 refine codeAny_call_builtin_code (aUG aUH _) (aUI PySem.F.newCall_set_0 (aUJ PySem.F.entry_set_new ?_));rw[aUK aUH _];have sub:=aUL;obtain⟨hp,g,d,tk,os⟩:=s;unfold Builtin.«set.__new__» Builtin.Frozenset.newClass;dsimp only
 wp_walk
 refine aUM (aRC ?_);dsimp only;simp only[newObj];exact aRD (wpAny_alloc (aRC (aRC h)))
set_option maxHeartbeats 1000000 in
def aK0{Q:VSP}(h:Q (.ref s.heap.objs.size) {s with heap:=s.heap.push (sob w)}):wpAny (model prog w) A (call (.type "set") []) Q E s:=by
 obtain⟨c,tl,hmro⟩:=PySem.F.called_set.mro;have hmade:=PySem.F.called_set.made;have hsub:=PySem.F.called_set.sub;have h1:=PySem.F.called_set.notType;have h2:=PySem.F.called_set.canCreate;have hct:=PySem.F.typeCall_set_0;refine aTY (codeAny_of_tree (show wpAny _ _ (callAny (.type "set") _) _ _ _ from aRC ⟨aV6 _ (by decide +kernel),aUJ PySem.F.entry_type_call ?_⟩))
 rw[Around.under_plain (weight_type_call_type "set" [] []) rfl]
 repeat (any_goals (first|assumption|wp_step))
 refine aSY (aKZ (E:=E) (Q1:=λr s1=>r=.ref s.heap.objs.size/\s1={s with heap:=s.heap.push (sob w)}) ⟨rfl,rfl⟩) λr s1 hr=>?_
 cases r with
 |error e=>exact hr
 |ok fl =>
  cases fl with
  |ret obj =>
   obtain⟨rfl,rfl⟩:=hr;have g0:(s.heap.push (sob w)).get? s.heap.objs.size=some (sob w):=aQP _ rfl;have ty:Shared.TypeIs {s with heap:=s.heap.push (sob w)} (.ref s.heap.objs.size) "set" := ⟨_,g0,rfl⟩
   have hli:=PySem.F.called_set.init.lookup;have hbi:=PySem.F.called_set.init.bind (.ref s.heap.objs.size)
   repeat (any_goals (first|assumption|wp_step))
   refine aSY (aTZ (R:=wants (λr s2=>r=.none/\Q (.ref s.heap.objs.size) s2) E) PySem.F.called_set.init.plain PySem.F.entry_set_init (check_set_init ty ?_)) λr2 s2 hr2=>?_
   . unfold Builtin.«set.__init__» noKeywords
     wp_walk
     exact⟨rfl,h⟩
   . cases r2 with
     |error e=>exact hr2
     |ok f2 =>
      cases f2 with
      |ret r =>
       obtain⟨rfl,hq⟩:=hr2
       repeat (any_goals (first|assumption|wp_step))
      |_=>exact hr2.elim
  |_=>exact hr.elim
def aK1{a:Addr}{tk:Tok}{Q:VSP}(h:bH w s.heap a xs)(hr:xs.length+1<scanBound)(hq:∀h' ys,Heap.SameBut a s.heap h'->bH w h' a ys->ys.Perm (if x∈xs then xs else xs++[x])->Q .none {s with heap:=h',toks:=s.toks+1}):wpAny (model prog w) A (call (.builtin "set.add") [.ref a,.str x tk]) Q E s:=by
 refine aSH PySem.F.slot_set_add h.ty PySem.F.entry_set_add ?_ (PySem.F.args_set_add_2 _ _);unfold Builtin.«set.add» Builtin.Frozenset.oneOther;simp only[List.isEmpty_nil,bind_assoc];unfold Builtin.Frozenset.addrOf;refine aRD (aRC ?_)
 try dsimp only
 refine aRD (aRC ?_)
 try dsimp only
 refine aRD (aIX h hr λh' ys sb X p=>?_);show wpAny _ _ (ret Value.none) _ _ _;exact aRC ⟨_,rfl,hq h' ys sb X p⟩
def aK2{d:Addr}{P:Nat->aW2->Prop}{OK:Heap->Prop}(K:W.KdlSrc prog w "dict" d d n P OK)(hh:A.handled=none)(hok:OK s.heap)(hn:n<=sizeLine)(h:∀h' tk vs,(∀b o,s.heap.get? b=some o->h'.get? b=some o)->s.heap.objs.size<h'.objs.size->ItemsOf P vs n->R vs.toList {s with heap:=h',toks:=tk}):wpAny (model prog w) A (collect (.ref d)) R E s:=by
 have la:=(K.there _ hok).1;unfold collect;refine aRD (aVF (aUJ aVG ?_));rw[aUK aVH _];show wpAny (model prog w) A.in1 (newList []>>=λl=>again (.builtin "list.__iadd__" ⟨[l,.ref d],[]⟩)) _ _ s;refine aRD (aSK (aRC ⟨aUG aVI _,aUJ aVJ ?_⟩));rw[aUK aVI _];have g0:(s.heap.push { cls:=.type "list", data:=.seq ([]:List Value).toArray }).get? s.heap.objs.size=some { cls:=.type "list", data:=.seq #[] }:=aQP _ rfl;show wpAny (model prog w) A.in1 (Builtin.List.listExtendWith (.ref s.heap.objs.size) (.ref d) (.ref s.heap.objs.size)) _ _ _;have key:=W.kdl_extend (A:=A) (prog:=prog) (s:={ s with heap:=s.heap.push { cls:=.type "list", data:=.seq ([]:List Value).toArray } })
  (R:=λq s'=>∃h' tk vs c,q=.ok (.ret (.ref s.heap.objs.size))/\s'={s with heap:=h',toks:=tk}/\(∀b o,s.heap.get? b=some o->h'.get? b=some o)/\h'.get? s.heap.objs.size=some { cls:=.type "list", dict:=none,data:=.seq vs c,slots:=#[] }/\ItemsOf P vs n)
  K hh (K.keep _ _ hok λb _ o e=>hps e) s.heap.objs.size (aRB la) (aRB la) (.ref s.heap.objs.size) 0 g0
  (λh' tk vs c kp gS it=>⟨h',tk,vs,c,rfl,rfl,λb o e=>kp b o (aQT (aQQ e)) (hps e),gS,it⟩) hn
 refine aQ5 key (λf s' x=>?_) λe s' x=>?_
 . cases f with
   |done f=>obtain⟨h',tk,vs,c,e,rfl,kp,gS,it⟩:=x;cases e;show wpAny _ A (load s.heap.objs.size>>=_) _ _ _;exact aRD (aRE gS (aRC (h h' tk vs kp (aQQ gS) it)))
   |again c1=>refine⟨x.1,aSY x.2 λq s2 y=>?_⟩;obtain⟨h',tk,vs,c,rfl,rfl,kp,gS,it⟩:=y;show wpAny _ A (load s.heap.objs.size>>=_) _ _ _;exact aRD (aRE gS (aRC (h h' tk vs kp (aQQ gS) it)))
 . obtain⟨_,_,_,_,e',_⟩:=x;cases e'
theorem aK3{d:Addr}{P:Nat->aW2->Prop}{OK:Heap->Prop}{Q:VSP}(K:W.KdlSrc prog w "dict" d d n P OK)(hh:A.handled=none)(hok:OK s.heap)(h64:n<64)(hP:∀vs,ItemsOf P vs n->StrsAre vs.toList xs)(h:∀h' tk D out e ys,(∀b o,s.heap.get? b=some o->h'.get? b=some o)->s.heap.objs.size<=D->h'.get? D=some (seqObj "list" out e)->StrsAre out.toList ys->ys.Perm xs->PyProof.Rows.sortedS ys=true->Q (.ref D) {s with heap:=h',toks:=tk}):wpAny (model prog w) A (call (.builtin "sorted") [.ref d]) Q E s:=by
 refine aVK aVL aVM aVN (aVO (.ref d)) ?_;unfold Builtin.«sorted»;refine aRD (m:=checkCount "sorted" 1 1 [Value.ref d].length) (aRC (aRD (aK2 (A:=A.in1) K hh hok (by rw[aRK];lia) λh1 tk vs kp lh it=>?_)))
 have sa:=hP vs it;have lv:vs.toList.length=n:=by rw[aQ7];exact it.1
 refine aRD (aVP ?_ (by rw[lv,aRK];lia))
 have g1:(h1.push (seqObj "list" vs.toList.toArray 0)).get? h1.objs.size=some (seqObj "list" vs.toList.toArray 0):=aQP _ rfl;have k1:∀b o,s.heap.get? b=some o->b<h1.objs.size:=λb o e=>aQQ (kp b o e);refine aRD (aSE (aSH aVQ ⟨_,g1,rfl⟩ aVR (list_sort_treeK strKind_oneLt (s:={ s with heap:=h1.push (seqObj "list" vs.toList.toArray 0),toks:=tk }) g1 sa.keysOf (λv1 v2 r e=>keyKind_strs (by rw[<- e];exact sa)) (by rw[lv];exact h64) λst' p1 p2=>⟨_,rfl,?_⟩) (aVS _)))
 obtain⟨zs,z1,z2,z3⟩:=sorted_out_str sa p1 p2;obtain⟨e,he⟩:=sortedHeap_at (out:=(arrOf st').map (·.2)) g1;refine aRC ⟨_,rfl,h _ tk _ _ e zs (λb o hb=>?_) (aQX lh) he z1 z2 z3⟩;have lb:=k1 b o hb;rw[sortedHeap_old (aQT lb) (by rw[aU8];exact aTV lb)]
 exact hps (kp b o hb)
end
def rSet0(X:Cx):List V->Hp->VK->Prop:=λxs H Q=>xs=[]/\∀l,H l=none->Q (.ref l) (upd H l (sx X.w l []))
def aK4:bY X (.type "set") (rSet0 X):=by intro aA s σ H xs us Q I r h;obtain⟨rfl,q⟩:=h;cases r;refine aK0 ?_;exact⟨.ref s.heap.objs.size,_,I.laid (t':=s.toks) (λb o e=>hps e) (aRG _) (xW (sob_x (aQP _ rfl))),rfl,q _ (I.hok.fresh (aRG _))⟩
def rSrtD:List V->Hp->VK->Prop:=λxs H Q=>∃(p:Addr) (kvs:List (Str×V)),xs=[.ref p]/\H p=some (.dK (kvs.map λkv=>(.inr kv.1,kv.2)))/\kvs.length<64/\∀l,H l=none->Q (.ref l) (upd H l (.lst ((aX (kvs.map (·.1))).map V.str)))
theorem aK5(hc:X.calm=true):bY X (.builtin "sorted") rSrtD:=by
 intro aA s σ H xs us Q I r h;obtain⟨p,kvs,rfl,hp,hl,q⟩:=h;obtain⟨u,rfl,rx⟩:=cE r;cases rx;obtain⟨hz,hd,vs,rel,o,es,ep,dd⟩:=v6 I.hok hp;have lv:vs.length=kvs.length:=by rw[<- rel.length,aR4]
 have ek:vs.map (λkv=>kV kv.1)=kvs.map λkv=>V.str kv.1:=by have:=congrArg (List.map kV) rel.keys;simpa[aV9,Function.comp_def,kV]using this.symm
 refine aK3 (W.kdl_dict (knd:=cJ X.prog X.w) (kvs:=vs) (ep:=ep) hd) (I.ok.hd hc) ⟨o,es,dd⟩ (by rw[lv];exact hl) (xs:=kvs.map (·.1)) (λacc it=>?_) λh' tk D out e ys kp hD g sa py so=>?_
 . have rv:aH (kvs.map λkv=>V.str kv.1) acc.toList:=by rw[<- ek];exact xH (P:=X.prog) (w:=X.w) (by rw[aQ7];exact it.1) λj v hv=>it.2 j v (by simpa using hv)
   exact lM (by rw[aV9];exact rv)
 . have e1:ys=aX (kvs.map (·.1)):=rU (rV so) py;have rv:aH (ys.map V.str) out.toList:=oN sa;have le:((aX (kvs.map (·.1))).map V.str).length<=sizeLine:=by rw[aR4,<- e1,py.length_eq,aR4,aRK];lia
   exact⟨.ref D,_,I.laid (t':=tk) kp hD (show bC X.prog X.w _ h' D (.lst ((aX (kvs.map (·.1))).map V.str))from⟨le,out.toList,e,by rw[<- e1];exact rv,by simpa using g⟩),rfl,q D (I.hok.fresh hD)⟩
def rExtT(K:Fg):V->List V->Hp->VK->Prop:=λx vs H Q=>∃l b xs zs,x=.ref l/\vs=[.ref b]/\H l=some (.lst xs)/\SqT K H b zs/\xs.length+zs.length<=sizeLine/\Q .non (upd H l (.lst (xs++zs)))
theorem aK6:MtM X "list.extend" (rExtT X.K):=by
 intro aA s σ H x vs v us Q I rx rv h;obtain⟨l,b,xs,zs,rfl,rfl,hH,hB,hz,q⟩:=h;cases rx;obtain⟨u,rfl,ru⟩:=rv.one;cases ru;obtain⟨z,its,n,r,hl,e⟩:=I.lstM hH;obtain⟨its2,r2,⟨o,ho,hc,n2,hd⟩,_⟩:=I.tuple hB;have hl2:=r2.length;refine aSH F.slot_list_extend ⟨_,e,rfl⟩ F.entry_list_extend ?_ (F.args_list_extend_2 _ _);show wpAny (model X.prog X.w) _ (Builtin.List.listExtendWith (.ref l) (.ref b) .none) _ _ s;unfold Builtin.List.listExtendWith;refine aRD (aSI (T := "tuple") ⟨o,ho,hc⟩ ?_);rw[if_pos (by rw[show(Value.type "tuple" == Value.type "tuple")=true from rfl,Bool.or_true])]
 refine aRD (aV4 ho hd (aRD (aV4 e rfl ?_)));have hsz:its.toArray.size+its2.toArray.size<=sizeLine:=by rw[aRL,aRL];lia
 rw[if_neg (by rw[aEU hsz,Bool.and_false];exact aRA)]
 refine aRD (aV5 e rfl (aRC ?_) (by rw[aRL];lia) (by rw[aV7];lia))
 refine⟨_,rfl,.non,_,I.lset (its':=its++its2) hH e (by simp) (r.append r2) ?_,rfl,q⟩
 rw[aR3];lia
section
variable  {o:Expr}
def tSAdd(X:Cx)(td ty:TE):TE:=λσ H Q=>td σ H λx H1=>∃a ys,x=.ref a/\H1 a=some (sx X.w a ys)/\ty σ H1 λy H2=>∃z,y=.str z/\H2 a=some (sx X.w a ys)/\ys.length+1<scanBound /\
 ∀zs,zs.Perm (if z∈ys then ys else ys++[z])->Q .non (upd H2 a (sx X.w a zs))
def aK7{ty:TE}(ho:PE X o td)(he:PE X e ty)(m:M1 X o "add" apos e cpos):PE X (.Call (.Attribute o "add" apos) [e] [] cpos) (tSAdd X td ty):=by
 intro aA s σ H Q I h;refine wpAny_Call_method m.base m.few m.line PySem.F.plainAttrs_set PySem.F.slot_set_add PySem.F.type_set_add (thn (ho aA s σ H _ I h) λu s1 ⟨x,H1,I1,rx,a,ys,ex,ha,q1⟩=>?_);subst ex;obtain rfl:u=Value.ref a:=rx;have xa:bH X.w s1.heap a ys:=(I1.hok a _ ha).1;refine⟨xa.ty,λb q=>?_,?_⟩
 . cases q;obtain⟨ob,es,ep,t,g,hex,_⟩:=xa;exact⟨ob,g,hex.2.1⟩
 rw[m.trees];refine aSN rfl (aSO (aRS (thn (he aA s1 σ H1 _ I1 q1) λiv s2 ⟨y,H2,I2,ry,z,ez,ha2,hl,q2⟩=>aRR ?_)));subst ez;obtain⟨t,rfl⟩:=(show ∃t,iv=Value.str z t from ry)
 have xa2:bH X.w s2.heap a ys:=(I2.hok a _ ha2).1;refine aK1 xa2 hl λh' zs sb X2 p=>?_;have he':∃q,h'.get? a=some q:=let⟨q,_,_,_,hq,_⟩:=X2;⟨q,hq⟩
 exact⟨.non,_,nT I2 (by rw[ha2];exact True.intro) sb he' (xW X2),rfl,q2 zs p⟩
end
structure FIn(K:Fg)(w:aW5)(F H H0:Hp)(a b:Addr)(ws:List D)(ys:List Str):Prop where
 ha:H a=some (sx w a ys)
 fa:F a=none
 h0:H0 a=none
 nd:ys.Nodup
 tx:∀y∈ys,y.length<=sizeLine/\PyData.strOk y=true
 hb:∃xs,H b=some (.lst xs)/\aC K F ws xs
 fb:F b=none
 h1:H0 b=none
 ne:a≠b
def FIn.step{F:Hp}{a:Addr}(g:FIn K w F H H0 a b ws ys)(st:aF F H F' H'):FIn K w F' H' H0 a b ws ys:=by obtain⟨xs,e,r⟩:=g.hb;exact⟨st.same _ _ g.ha,st.new _ g.fa (by rw[g.ha];exact λz=>nomatch z),g.h0,g.nd,g.tx,⟨xs,st.same _ _ e,r.mono st.fsame _ _⟩,st.new _ g.fb (by rw[e];exact λz=>nomatch z),g.h1,g.ne⟩
abbrev FZ:=List D×List Str
abbrev FMz(Z:Type):=Rho->Z->Option (Rho×Z)
abbrev FM:=FMz FZ
structure FS(C:Cw)(X:Cx)(a b:Addr)(F H:Hp)(σ:L2.St)(ρ:Rho)(z:FZ):Prop where
 R:aN X.K C.F0 C.H0 F H σ ρ
 no:gU ρ
 e1:σ[1]? = some (some (.ref a))
 e2:σ[2]? = some (some (.ref b))
 G:∃ys,FIn X.K X.w F H C.H0 a b z.1 ys/\∀y,y∈ys↔y∈z.2
theorem FS.step{a:Addr}{F:Hp}{z:FZ}(S:FS C X a b F H σ ρ z)(st:aF F H F' H'):FS C X a b F' H' σ ρ z:=by obtain⟨ys,g,m⟩:=S.G;exact⟨S.R.step st,S.no,S.e1,S.e2,ys,g.step st,m⟩
def tF(C:Cw)(X:Cx)(a b:Addr)(g:FM):TS:=λE σ H=>∃ρ F z,FS C X a b F H σ ρ z/\∃ρ' z',g ρ z=some (ρ',z')/\∀σ' F' H',aD F F'->FS C X a b F' H' σ' ρ' z'->E.nx σ' H'
def PFs(C:Cw)(X:Cx)(st:Stmt)(g:FM):Prop:=∀a b,PS X st (tF C X a b g)
def PFb(C:Cw)(X:Cx)(sts:List Stmt)(g:FM):Prop:=∀a b,PSs X sts (tF C X a b g)
def eZ(g h:FMz Z):FMz Z:=λρ z=>match g ρ z with|some (ρ',z')=>h ρ' z'|none=>none
section
variable {g h:FM}
def sC(h:PFs C X st g):PFb C X [st] g:=λa b=>nF (h a b)
def zK(h1:PFs C X st g)(h2:PFb C X sts h):PFb C X (st::sts) (eZ g h):=λa b=>by
 refine PSs.imp (iJ (h1 a b) (h2 a b)) λE σ H q=>?_;obtain⟨ρ,F,z,S,ρE,zE,eg,w⟩:=q;unfold eZ at eg;cases e1:g ρ z with
 |none=>rw[e1]at eg;cases eg
 |some p=>obtain⟨ρ1,z1⟩:=p;rw[e1]at eg;exact⟨ρ,F,z,S,ρ1,z1,e1,λσ' F' H' s1 S1=>⟨ρ1,F',z1,S1,ρE,zE,eg,λσ2 F2 H2 s2 S2=>w σ2 F2 H2 (s1.trans s2) S2⟩⟩
end
def cG{Z:Type}(t:Tg)(g:FMz Z):List D->FMz Z
 |[],ρ,z=>some (ρ,z)
 |d::ds,ρ,z=>match aP t d ρ with
  |some ρ1=>if iB ρ1=true then(match g ρ1 z with|some (ρ2,z2)=>cG t g ds ρ2 z2|none=>none)else none
  |none=>none
def cH(t:Tg)(gi:Rho->Res)(g:FMz Z):FMz Z:=λρ z=>match gi ρ with
 |.ok _ (.lst ds)=>cG t g ds ρ z
 |_=>none
section
variable {g:FM}
theorem zL(hp:PassesOwn (model X.prog X.w) X.A X.env X.xe)(hc:X.calm=true)(hi:PIv C X tg e gi)(hg:PGw X tg t)(h1:1∉dY t)(h2:2∉dY t)(hb:PFb C X sts g)(hs:∀x,foldedSetIterable e X.env x=pure x):PFs C X (.For tg e sts [] pos) (cH t gi g):=by
 intro a b;refine PS.imp (pZ hp hc hi hg (hb a b) hs) λE σ H q=>?_;obtain⟨ρ,F,z,S,ρE,zE,eg,w⟩:=q;unfold nJ;refine⟨ρ,F,S.R,?_⟩;unfold cH at eg;cases er:gi ρ with
 |stuck=>rw[er]at eg;cases eg
 |exc c=>rw[er]at eg;cases eg
 |ok m d =>
  rw[er]at eg;cases d with
  |lst ds =>
   dsimp only at eg;intro J F1 H1 s1 hJ;refine⟨λj m σ' H'=>m=ds.length-j/\j<=ds.length/\∃ρ' F' z',aD F1 F'/\FS C X a b F' H' σ' ρ' z'/\cG t g (ds.drop j) ρ' z'=some (ρE,zE),
    ⟨ds.length,by simp,aRQ _,ρ,F1,z,aD.refl _,S.step s1,by simpa using eg⟩,?_⟩
   rintro j m σ' H' ⟨rfl,hj,ρ',F',z',sF,S',eg'⟩;by_cases hlt:j<ds.length
   . refine .inr ⟨hJ.go j H' (sF.trans S'.R.sub) hlt,λσ2 H2=>∃ρ2 F2 z2,aD F1 F2/\FS C X a b F2 H2 σ2 ρ2 z2/\cG t g (ds.drop (j+1)) ρ2 z2=some (ρE,zE),
       λσ2 H2 ⟨ρ2,F2,z2,a1,a2,a3⟩=>⟨ds.length-(j+1),by lia,rfl,hlt,ρ2,F2,z2,a1,a2,a3⟩,λx H2 y=>?_⟩
     obtain⟨F2,d,ed,s2,rd⟩:=hJ.yld j F' H' x H2 sF S'.R.sub hlt y;have hd:ds.drop j=d::ds.drop (j+1):=by rw[aTO hlt];rw[aTP hlt]at ed;cases ed;rfl
     rw[hd]at eg';unfold cG at eg';cases es:aP t d ρ' with
     |none=>rw[es]at eg';cases eg'
     |some ρ1 =>
      rw[es]at eg';dsimp only at eg';cases en:iB ρ1 with
      |false=>rw[en]at eg';cases eg'
      |true =>
       rw[en,if_pos rfl]at eg';cases eb:g ρ1 z' with
       |none=>rw[eb]at eg';cases eg'
       |some q =>
        obtain⟨ρ2,z2⟩:=q;rw[eb]at eg';dsimp only at eg';have S2:=S'.step s2;refine lQ t S2.R rd es λσ3 R3 l3 k3=>?_;refine⟨ρ1,F2,z',⟨R3,l9 en,by rw[k3 1 h1];exact S2.e1,by rw[k3 2 h2];exact S2.e2,S2.G⟩,ρ2,z2,eb,?_⟩
        exact λσ4 F4 H4 z4 S4=>⟨ρ2,F4,z2,(sF.trans s2.fsame).trans z4,S4,eg'⟩
   . have ej:j=ds.length:=by lia
     subst ej;refine .inl ⟨hJ.stop _ H' (sF.trans S'.R.sub) (aRG _),?_⟩;rw[aTQ]at eg';cases eg';exact w σ' F' H' (s1.fsame.trans sF) S'
  |_=>cases eg
end
theorem mD{α:Type}[BEq α][LawfulBEq α]:∀{l l':List α},l.Nodup->(∀y∈l,y∈l')->l.length<=l'.length
 |[],_,_,_=>aRQ _
 |a::l,l',h1,h2=>by
  rw[aRU]at h1;have ha:=h2 a mcs;have:=mD (l':=l'.erase a) h1.2 λy hy=>by have hne:y≠a:=λe=>h1.1 (e ▸ hy);exact(List.mem_erase_of_ne hne).mpr (h2 y (mcm hy))
  rw[List.length_erase_of_mem ha]at this;have pos:0<l'.length:=List.length_pos_of_mem ha;rw[aST];lia
def mH:FM:=λ(ρ:Rho) (z:FZ)=>match ρ[(5:Nat)]? with
 |some (some (false,.tup bs))=>if z.1.length+bs.length<=sizeLine then some (ρ,(z.1++bs,z.2))else none
 |_=>none
def j8:FM:=λ(ρ:Rho) (z:FZ)=>match ρ[(7:Nat)]? with
 |some (some (false,.str x))=>if(uni (z.2++[x])).length<63 then some (ρ,(z.1,z.2++[x]))else none
 |_=>none
def mJ:FM:=λ(ρ:Rho) (z:FZ)=>match z.1.getLast? with
 |some d=>some (ρ.set 3 (some (false,d)),(z.1.dropLast,z.2))
 |none=>none
section
variable  {sp:Pos}
def aK8(hv:PE X (.Name x p) (bX 2))(hw:PE X (.Name y q) (bX 5))(l:ap.endLine=cp.line):PFs C X (.Expr (.Call (.Attribute (.Name x p) "extend" ap) [.Name y q] [] cp) pos) mH:=by
 intro a b; have h1 := nS (X := X) (o := .Name x p) (e := .Name y q) (es := []) (apos := ap) (cpos := cp) aT4 PySem.F.slot_list_extend PySem.F.type_list_extend aK6 hv (dE hw eN (aW rfl)) (fJ rfl) (by
     rw[fH _ _ (λy hy=>by simp only[aQZ,aT5,aT6]at hy;subst hy;rfl)];rfl) (aRN.mpr l) (aW rfl) rfl
 refine PS.imp (k5 h1) λE σ H q=>?_;obtain⟨ρ,F,z,S,ρE,zE,eg,w⟩:=q;unfold mH at eg;split at eg
 . rename_i bs e5;by_cases hz:z.1.length+bs.length<=sizeLine
   . rw[if_pos hz]at eg;cases eg;obtain⟨ys,g,m⟩:=S.G;obtain⟨xs,hb,rx⟩:=g.hb;obtain⟨v,e5',r5,_⟩:=S.R.slot 5 _ _ e5;have r5:aB X.K F (.tup bs) v:=r5;simp only[aB]at r5;obtain⟨c,us,rfl,sq,rb⟩:=r5;refine⟨.ref b,S.e2,.inl ⟨rfl,_,SqL.of hb⟩,.ref c,e5',b,c,xs,us,rfl,rfl,hb,aD.seqT S.R.sub sq,by rw[rx.length,rb.length];exact hz,?_⟩
     refine w σ F _ (aD.refl _) ⟨S.R.other S.no g.fb g.h1,S.no,S.e1,S.e2,ys,⟨by rw[aL g.ne];exact g.ha,g.fa,g.h0,g.nd,g.tx,⟨xs++us,aV,aC.append rx rb⟩,g.fb,g.h1,g.ne⟩,m⟩
   . rw[if_neg hz]at eg;cases eg
 . cases eg
theorem aK9(hv:PE X (.Name x p) (bX 1))(hw:PE X (.Name y q) (bX 7))(l:ap.endLine=cp.line):PFs C X (.Expr (.Call (.Attribute (.Name x p) "add" ap) [.Name y q] [] cp) pos) j8:=by
 intro a b; have h1 := aK7 (X := X) (o := .Name x p) (e := .Name y q) (apos := ap) (cpos := cp) hv hw ⟨fJ rfl, by
     rw[fH _ _ (λy hy=>by simp only[aQZ,aT5,aT6]at hy;subst hy;rfl)];rfl,aRN.mpr l,by rw[aW rfl];rfl⟩
 refine PS.imp (k5 h1) λE σ H q=>?_;obtain⟨ρ,F,z,S,ρE,zE,eg,w⟩:=q;unfold j8 at eg;split at eg
 . rename_i x e7;by_cases hz:(uni (z.2++[x])).length<63
   . rw[if_pos hz]at eg;cases eg;obtain⟨ys,g,m⟩:=S.G;obtain⟨v,e7',r7,_⟩:=S.R.slot 7 _ _ e7;have r7:aB X.K F (.str x) v:=r7;simp only[aB]at r7;obtain⟨rfl,tx7⟩:=r7;have le:ys.length<=(uni (z.2++[x])).length:=by refine mD g.nd λu hu=>?_;rw[gP];exact aQ1 _ ((m u).mp hu)
     refine ⟨.ref a, S.e1, a, ys, rfl, g.ha, .str x, e7', x, rfl, g.ha, by have : (64 : Nat) < scanBound := by decide
                                                                           lia,λzs hp=>?_⟩
     refine w σ F _ (aD.refl _) ⟨S.R.other S.no g.fa g.h0,S.no,S.e1,S.e2,zs,⟨aV,g.fa,g.h0,?_,λu hu=>?_,?_,g.fb,g.h1,g.ne⟩,λu=>?_⟩
     . refine hp.nodup_iff.mpr ?_;split
       . exact g.nd
       . rename_i hx;rw[aUE];refine⟨g.nd,by simp,λu hu v hv=>?_⟩
         rw[aT2.mp hv];exact λe=>hx (e ▸ hu)
     . have hu:=hp.mem_iff.mp hu;split at hu
       . exact g.tx u hu
       . rcases aQ0.mp hu with hu|hu
         . exact g.tx u hu
         . rw[aT2.mp hu];exact tx7
     . obtain⟨xs,hb,rx⟩:=g.hb;exact⟨xs,by rw[aL (Ne.symm g.ne)];exact hb,rx⟩
     . rw[hp.mem_iff,aQ0,<- m u,aT2];split
       . rename_i hx;exact⟨.inl,λh=>h.elim id λe=>e ▸ hx⟩
       . rw[aQ0,aT2]
   . rw[if_neg hz]at eg;cases eg
 . cases eg
end
def eJ(g:FM):Nat->FM
 |0,_,_=>none
 |n+1,ρ,z=>if z.1.isEmpty=true then some (ρ,z)else(match g ρ z with|some (ρ',z')=>eJ g n ρ' z'|none=>none)
theorem gU.set(h:gU ρ)(i:Nat){u:Option (Bool×D)}(hu:∀d,u≠some (true,d)):gU (ρ.set i u):=λj d e=>by
 rw[aTM]at e;split at e
 . split at e
   . exact hu d (aQO e)
   . cases e
 . exact h j d e
section
variable  {sp:Pos}
def aLA(hN:X.N.Nodup)(hi:X.N[3]? = some y)(hx:Loc X.env.scope y)(hf:X.fn y=true\/X.env.scope.names.lookup y=some .local)(hv:PE X (.Name x p) (bX 2))(l:ap.endLine=cp.line)(hs:swapsWith (.Call (.Attribute (.Name x p) "pop" ap) [] [] cp) (some (.Name y p1)) sp.line X.env=pure false):PFs C X (.Assign [.Name y p1] (.Call (.Attribute (.Name x p) "pop" ap) [] [] cp) sp) mJ:=by
 intro a b;have h1:=aES (X:=X) (o:=.Name x p) (apos:=ap) (cpos:=cp) aT4 PySem.F.slot_list_pop PySem.F.type_list_pop aEW hv (fJ rfl) (aRN.mpr l);refine PS.imp (nI hN hi hx h1 hs hf) λE σ H q=>?_;obtain⟨ρ,F,z,S,ρE,zE,eg,w⟩:=q;unfold mJ at eg;split at eg
 . rename_i d ed;cases eg;obtain⟨ys,g,m⟩:=S.G;obtain⟨xs,hb,rx⟩:=g.hb;rw[List.getLast?_eq_getElem?]at ed;obtain⟨v,ev,rv⟩:=rx.get' ed;have R1:=S.R.other (o:=.lst xs.dropLast) S.no g.fb g.h1;refine⟨.ref b,S.e2,.inl ⟨rfl,_,SqL.of hb⟩,b,xs,v,rfl,rfl,hb,by rw[rx.length];exact ev,?_⟩
   refine w _ F _ (aD.refl _) ⟨aN.set (m:=false) R1 (.refl R1.sub) rv (by nofun),S.no.set 3 (λd z=>by cases z),?_,?_,ys,⟨by rw[aL g.ne];exact g.ha,g.fa,g.h0,g.nd,g.tx,⟨xs.dropLast,aV,?_⟩,g.fb,g.h1,g.ne⟩,m⟩
   . rw[aQ4 (by decide)];exact S.e1
   . rw[aQ4 (by decide)];exact S.e2
   . show aC X.K F z.1.dropLast xs.dropLast;rw[List.dropLast_eq_take,List.dropLast_eq_take,rx.length];exact aC.takeX _ rx
 . cases eg
theorem aLB{g:FM}{p0 p3 p4:Pos}(hp:PassesOwn (model X.prog X.w) X.A X.env X.xe)(gl:Gl X "len")(nl:X.mg "len" = none)(hv:PE X (.Name x p) (bX 2))(hb:PFb C X body g):PFs C X (.While (.Compare (.Call (.Name "len" p0) [.Name x p] [] p2) [.Gt] [.Constant (.int 0) j p3] p4) body [] pos) (eJ g 1000000):=by
 intro a b;have hc:=vC (X:=X) (pos:=p4) vA (lB (pos:=p2) (p:=p0) aEP gl nl rfl (dE hv eN (aW rfl)) (by decide) (by decide) (aW rfl) rfl) (uW (i:=0) (j:=j) (pos:=p3)) rfl
 refine PS.imp (aC9 hp hc (hb a b)) λE σ H q=>?_;obtain⟨ρ,F,z,S,ρE,zE,eg,w⟩:=q;refine⟨λm σ' H'=>∃ρ' F' z',aD F F'/\FS C X a b F' H' σ' ρ' z'/\eJ g m ρ' z'=some (ρE,zE),⟨1000000,ρ,F,z,aD.refl _,S,eg⟩,?_⟩;rintro m σ' H' ⟨ρ',F',z',sF,S',eg'⟩;cases m with
 |zero=>cases eg'
 |succ m =>
  unfold eJ at eg';obtain⟨ys,G,mm⟩:=S'.G;obtain⟨xs,hx,rx⟩:=G.hb;refine⟨.ref b,S'.e2,b,xs,rfl,.inl (SqL.of hx),(xs.length:Int),0,rfl,rfl,decide ((0:Int)<(xs.length:Int)),rfl,?_⟩;cases ez:z'.1.isEmpty with
  |true =>
   rw[ez,if_pos rfl]at eg';cases eg';have l0:xs.length=0:=by rw[rx.length,aWK.mp ez];rfl
   rw[l0,if_neg (by decide)]
   exact w σ' F' H' sF S'
  |false =>
   rw[ez,if_neg aRA]at eg';have l0:0<xs.length:=by
    rw[rx.length];cases h:z'.1 with
    |nil=>rw[h]at ez;cases ez
    |cons d ds=>simp
   rw[if_pos (aSS (by lia))]
   cases e1:g ρ' z' with
   |none=>rw[e1]at eg';cases eg'
   |some r=>obtain⟨ρ1,z1⟩:=r;rw[e1]at eg';exact⟨λσ2 H2=>∃ρ2 F2 z2,aD F F2/\FS C X a b F2 H2 σ2 ρ2 z2/\eJ g m ρ2 z2=some (ρE,zE),λσ2 H2 h=>⟨m,aRP m,h⟩,ρ',F',z',S',ρ1,z1,e1,λσ2 F2 H2 s2 S2=>⟨ρ1,F2,z1,sF.trans s2,S2,eg'⟩⟩
end
def gW(g:FM)(ρ:Rho):aG:=match ρ[(0:Nat)]? with
 |some (some (false,d))=>if(decide (2<ρ.length)&&iB ρ)=true then(match eJ g 1000000 ((ρ.set 1 none).set 2 none) ([d],[])with
  |some (_,z)=>if(uni z.2).length<64 then .rt .fr (.lst ((uni z.2).map .str))else .stuck
  |none=>.stuck)else .stuck
 |_=>.stuck
section
variable  {r:Str}{g:FM}{p3 p4 p5 p6 p7 q2 q3 q4 q5:Pos}
theorem aLC(hc:X.calm=true)(hN:X.N.Nodup)(h1:X.N[1]? = some x)(l1:Loc X.env.scope x)(f1:X.fn x=true\/X.env.scope.names.lookup x=some .local)(h2:X.N[2]? = some y)(l2:Loc X.env.scope y)(f2:X.fn y=true\/X.env.scope.names.lookup y=some .local)(gs:Gl X "set")(ns:X.mg "set" = none)(go:Gl X "sorted")(no:X.mg "sorted" = none)(hr:PE X (.Name r p5) (bX 0))(hx:PE X (.Name x q2) (bX 1))(hw:PFs C X st (eJ g 1000000))(s1:swapsWith (.Call (.Name "set" p2) [] [] p3) (some (.Name x p1)) p4.line X.env=pure false)(s2:swapsWith (.List [.Name r p5] p6) (some (.Name y p7)) q1.line X.env=pure false):PBv C X [.Assign [.Name x p1] (.Call (.Name "set" p2) [] [] p3) p4,.Assign [.Name y p7] (.List [.Name r p5] p6) q1,st,.Return (some (.Call (.Name "sorted" q3) [.Name x q2] [] q4)) q5] (gW g):=by
 have b2:PS X st (λE σ H=>∃a b,tF C X a b (eJ g 1000000) E σ H):=λaA s σ H D I ⟨a,b,q⟩=>hw a b aA s σ H D I q;have rt:=nG (X:=X) (pos:=q5) (lB (pos:=q4) (p:=q3) (aJB hc) go no rfl (dE hx eN (aW rfl)) (by decide) (by decide) (aW rfl) rfl)
 refine PSs.imp (iJ (nI hN h1 l1 (aD6 aK4 gs ns rfl) s1 f1) (iJ (nI hN h2 l2 (vE (dE hr eN (aW rfl))) s2 f2) (iJ b2 (nF rt)))) λE σ H q=>?_;obtain⟨ρ,F,R,w⟩:=q;unfold gW at w;split at w;rotate_left
 . exact w.elim
 rename_i d ed;cases en:(decide (2<ρ.length)&&iB ρ)with
 |false=>rw[en]at w;exact w.elim
 |true =>
  rw[en,if_pos rfl]at w;rw[aSJ,aTC]at en;obtain⟨hl,en⟩:=en;have nw:=l9 en;cases eg:eJ g 1000000 ((ρ.set 1 none).set 2 none) ([d],[])with
  |none=>rw[eg]at w;exact w.elim
  |some t =>
   obtain⟨ρE,zE⟩:=t;rw[eg]at w;dsimp only at w;split at w;rotate_left
   . exact w.elim
   rename_i h64;refine⟨rfl,λa ha=>?_⟩;have st1:aF F H F (upd H a (sx X.w a [])):=aF.fresh _ R.sub ha;have fa:F a=none:=R.sub.free ha;have h0:C.H0 a=none:=R.st.same.free ha;have n1:=nw.set 1 (u:=none) λd z=>by cases z
   have R1:=(R.step st1).hide 1 (.ref a) n1;obtain⟨v,ev,rv,_⟩:=R.slot 0 _ _ ed;have rv:aB X.K F d v:=rv;have ls:σ.length=ρ.length:=R.len;refine⟨v,by rw[aQ4 (by decide)];exact ev,by rw[aRK];exact Nat.succ_le_succ (aRQ _),λb hb=>?_⟩
   have st2:=aF.fresh (o:=.lst [v]) R1.sub hb;have ne:a≠b:=λz=>by rw[<- z,aV]at hb;cases hb
   have hbH:H b=none:=by rw[aL (Ne.symm ne)]at hb;exact hb
   have n2:=n1.set 2 (u:=none) λd z=>by cases z
   have R2:=(R1.step st2).hide 2 (.ref b) n2;refine⟨a,b,(ρ.set 1 none).set 2 none,F,([d],[]),⟨R2,n2,?_,?_,[],⟨by rw[aL ne,aV],fa,h0,aUF,(λy hy=>nomatch hy),⟨[v],aV,aC.cons rv aC.nil⟩,R.sub.free hbH,R.st.same.free hbH,ne⟩,λy=>Iff.rfl⟩,ρE,zE,eg,λσ' F' H' sF S=>?_⟩
   . rw[aQ4 (by decide),aQ3 (by rw[ls];lia)]
   . rw[aQ3 (by rw[aTL,ls];exact hl)]
   . obtain⟨ys,G,m⟩:=S.G;have eu:uni ys=uni zE.2:=oM (j0 _) (j0 _) λu=>by rw[gP,gP];exact m u
     have ly:ys.length<64:=aWL (mD G.nd λu hu=>by rw[gP];exact(m u).mp hu) h64
     refine⟨.ref a,S.e1,a,ys,rfl,G.ha,G.nd,ly,λl hl'=>?_⟩;have st3:=aF.fresh (o:=.lst ((uni ys).map V.str)) S.R.sub hl';refine w (.ref l) F' _ (S.R.step st3).st ⟨l,rfl,S.R.sub.free hl',_,aV,?_⟩ λ_ c ec=>by cases ec;exact S.R.st.same.free hl'
     rw[<- eu];exact oO λy hy=>G.tx y (gP.mp hy)
end
abbrev KD:=List (Key×D)
def TxK(kvs:KD):Prop:=∀kv∈kvs,∀x,kv.1=.inr x->x.length<=sizeLine/\PyData.strOk x=true
end D3
variable {Ψ:D3.D->D3.KD->Option D3.KD}
namespace D3
def TxK.put{kvs:KD}{d:D}(h:TxK kvs)(hx:x.length<=sizeLine/\PyData.strOk x=true):TxK (gO kvs (.inr x) d):=λkv hkv y e=>by
 unfold gO at hkv;split at hkv
 . obtain⟨kv',h1,rfl⟩:=aWI.mp hkv;split at e
   . rename_i z;rw[z]at e;cases e;exact hx
   . exact h kv' h1 y e
 . rcases aQ0.mp hkv with h1|h1
   . exact h kv h1 y e
   . rw[aT2.mp h1]at e;cases e;exact hx
structure DIn(K:Fg)(F H H0:Hp)(a:Addr)(kvs:KD):Prop where
 ha:∃xs,H a=some (.dK xs)/\aO K F kvs xs
 fa:F a=none
 h0:H0 a=none
 tx:TxK kvs
def DIn.step{F:Hp}{a:Addr}{kvs:KD}(g:DIn K F H H0 a kvs)(st:aF F H F' H'):DIn K F' H' H0 a kvs:=by obtain⟨xs,e,r⟩:=g.ha;exact⟨⟨xs,st.same _ _ e,r.mono st.fsame _ _⟩,st.new _ g.fa (by rw[e];exact λz=>nomatch z),g.h0,g.tx⟩
structure DS(C:Cw)(X:Cx)(a:Addr)(F H:Hp)(σ:L2.St)(ρ:Rho)(z:KD):Prop where
 R:aN X.K C.F0 C.H0 F H σ ρ
 no:gU ρ
 e1:σ[1]? = some (some (.ref a))
 G:DIn X.K F H C.H0 a z
theorem DS.step{a:Addr}{F:Hp}{z:KD}(S:DS C X a F H σ ρ z)(st:aF F H F' H'):DS C X a F' H' σ ρ z:=⟨S.R.step st,S.no,S.e1,S.G.step st⟩
def tD(C:Cw)(X:Cx)(a:Addr)(g:FMz KD):TS:=λE σ H=>∃ρ F z,DS C X a F H σ ρ z/\∃ρ' z',g ρ z=some (ρ',z')/\∀σ' F' H',aD F F'->DS C X a F' H' σ' ρ' z'->E.nx σ' H'
def PDs(C:Cw)(X:Cx)(st:Stmt)(g:FMz KD):Prop:=∀a,PS X st (tD C X a g)
def PDb(C:Cw)(X:Cx)(sts:List Stmt)(g:FMz KD):Prop:=∀a,PSs X sts (tD C X a g)
section
variable {g h:FMz KD}
def sD(h:PDs C X st g):PDb C X [st] g:=λa=>nF (h a)
def aLD(h1:PDs C X st g)(h2:PDb C X sts h):PDb C X (st::sts) (eZ g h):=λa=>by
 refine PSs.imp (iJ (h1 a) (h2 a)) λE σ H q=>?_;obtain⟨ρ,F,z,S,ρE,zE,eg,w⟩:=q;unfold eZ at eg;cases e1:g ρ z with
 |none=>rw[e1]at eg;cases eg
 |some p=>obtain⟨ρ1,z1⟩:=p;rw[e1]at eg;exact⟨ρ,F,z,S,ρ1,z1,e1,λσ' F' H' s1 S1=>⟨ρ1,F',z1,S1,ρE,zE,eg,λσ2 F2 H2 s2 S2=>w σ2 F2 H2 (s1.trans s2) S2⟩⟩
end
section
variable {g:FMz KD}
theorem sH(hp:PassesOwn (model X.prog X.w) X.A X.env X.xe)(hc:X.calm=true)(hi:PIv C X tg e gi)(hg:PGw X tg t)(h1:1∉dY t)(hb:PDb C X sts g)(hs:∀x,foldedSetIterable e X.env x=pure x):PDs C X (.For tg e sts [] pos) (cH t gi g):=by
 intro a;refine PS.imp (pZ hp hc hi hg (hb a) hs) λE σ H q=>?_;obtain⟨ρ,F,z,S,ρE,zE,eg,w⟩:=q;unfold nJ;refine⟨ρ,F,S.R,?_⟩;unfold cH at eg;cases er:gi ρ with
 |stuck=>rw[er]at eg;cases eg
 |exc c=>rw[er]at eg;cases eg
 |ok m d =>
  rw[er]at eg;cases d with
  |lst ds =>
   dsimp only at eg;intro J F1 H1 s1 hJ;refine⟨λj m σ' H'=>m=ds.length-j/\j<=ds.length/\∃ρ' F' z',aD F1 F'/\DS C X a F' H' σ' ρ' z'/\cG t g (ds.drop j) ρ' z'=some (ρE,zE),
    ⟨ds.length,by simp,aRQ _,ρ,F1,z,aD.refl _,S.step s1,by simpa using eg⟩,?_⟩
   rintro j m σ' H' ⟨rfl,hj,ρ',F',z',sF,S',eg'⟩;by_cases hlt:j<ds.length
   . refine .inr ⟨hJ.go j H' (sF.trans S'.R.sub) hlt,λσ2 H2=>∃ρ2 F2 z2,aD F1 F2/\DS C X a F2 H2 σ2 ρ2 z2/\cG t g (ds.drop (j+1)) ρ2 z2=some (ρE,zE),
       λσ2 H2 ⟨ρ2,F2,z2,a1,a2,a3⟩=>⟨ds.length-(j+1),by lia,rfl,hlt,ρ2,F2,z2,a1,a2,a3⟩,λx H2 y=>?_⟩
     obtain⟨F2,d,ed,s2,rd⟩:=hJ.yld j F' H' x H2 sF S'.R.sub hlt y;have hd:ds.drop j=d::ds.drop (j+1):=by rw[aTO hlt];rw[aTP hlt]at ed;cases ed;rfl
     rw[hd]at eg';unfold cG at eg';cases es:aP t d ρ' with
     |none=>rw[es]at eg';cases eg'
     |some ρ1 =>
      rw[es]at eg';dsimp only at eg';cases en:iB ρ1 with
      |false=>rw[en]at eg';cases eg'
      |true =>
       rw[en,if_pos rfl]at eg';cases eb:g ρ1 z' with
       |none=>rw[eb]at eg';cases eg'
       |some q =>
        obtain⟨ρ2,z2⟩:=q;rw[eb]at eg';dsimp only at eg';have S2:=S'.step s2;refine lQ t S2.R rd es λσ3 R3 l3 k3=>?_;refine⟨ρ1,F2,z',⟨R3,l9 en,by rw[k3 1 h1];exact S2.e1,S2.G⟩,ρ2,z2,eb,?_⟩
        exact λσ4 F4 H4 z4 S4=>⟨ρ2,F4,z2,(sF.trans s2.fsame).trans z4,S4,eg'⟩
   . have ej:j=ds.length:=by lia
     subst ej;refine .inl ⟨hJ.stop _ H' (sF.trans S'.R.sub) (aRG _),?_⟩;rw[aTQ]at eg';cases eg';exact w σ' F' H' (s1.fsame.trans sF) S'
  |_=>cases eg
end
def i9:FMz KD:=λ(ρ:Rho) (z:KD)=>match ρ[(5:Nat)]? with
 |some (some (false,.str x))=>(match ρ[(4:Nat)]? with
  |some (some (false,d))=>if z.length<sizeLine then some (ρ,gO z (.inr x) d)else none
  |_=>none)
 |_=>none
def j9(H:Hp)(a:Addr):Hp:=λc=>if c=a then none else H c
def oY{a c:Addr}(h:c≠a):j9 H a c=H c:=if_neg h
def sJ{a:Addr}:j9 H a a=none:=if_pos rfl
def spM(K:Fg)(Ψ:D->KD->Option KD)(vs:List V)(H:Hp)(Q:VK):Prop:=∃F d v a kvs xs kvs',vs=[v,.ref a]/\aD F H/\aB K F d v/\H a=some (.dK xs)/\F a=none/\aO K F kvs xs/\TxK kvs/\Ψ d kvs=some kvs' /\
 ∀F' H' xs',aF F (j9 H a) F' H'->F' a=none->H' a=some (.dK xs')->aO K F' kvs' xs'->TxK kvs'->Q (.ref a) H'
def mL(K:Fg)(Ψ:D->KD->Option KD):Sp:=λvs H Q _=>spM K Ψ vs H Q
section
variable  {f:Str}{r sp:Pos}
def aLE(hu:X.A.units+1<cLine)(hv:PE X (.Name x p) (bX 1))(hk:PE X (.Name y q) (bX 5))(hw:PE X (.Name z r) (bX 4))(hs:swapsWith (.Name z r) (some (.Subscript (.Name x p) (.Name y q) sp)) pos.line X.env=pure false):PDs C X (.Assign [.Subscript (.Name x p) (.Name y q) sp] (.Name z r) pos) i9:=by
 intro a;refine PS.imp (aEY hu hv hk hw hs) λE σ H q=>?_;obtain⟨ρ,F,z,S,ρE,zE,eg,w⟩:=q;unfold i9 at eg;split at eg;rotate_left
 . cases eg
 rename_i x e5;split at eg;rotate_left
 . cases eg
 rename_i d e4;by_cases hz:z.length<sizeLine
 . rw[if_pos hz]at eg;cases eg;obtain⟨xs,ha,rx⟩:=S.G.ha;obtain⟨v,e5',r5,_⟩:=S.R.slot 5 _ _ e5;have r5:aB X.K F (.str x) v:=r5;simp only[aB]at r5;obtain⟨rfl,tx5⟩:=r5;obtain⟨u,e4',r4,_⟩:=S.R.slot 4 _ _ e4;have r4:aB X.K F d u:=r4;refine⟨u,e4',.ref a,S.e1,.str x,e5',a,_,rfl,lD.k (k:=.inr x) (v:=u) ha (by rw[rx.len];exact hz),?_⟩
   exact w σ F _ (aD.refl _) ⟨S.R.other S.no S.G.fa S.G.h0,S.no,S.e1,⟨_,aV,aO.put rx r4⟩,S.G.fa,S.G.h0,S.G.tx.put tx5⟩
 . rw[if_neg hz]at eg;cases eg
def run_S{k:Nat}{f:Addr}{Q:VK}{vs:List V}{E:XK}{sp:Sp}(F:bT X.prog X.w X.K X.mg X.base CX k f fd ps sp)(hr:bS k X.A)(hb:dF X.K fd ps [])(hx:∀e s',CX X.stack H s E e s'->X.xe e s')(I:Inv X aA σ H s)(r:aH vs us)(h:sp vs H Q E):wpAny (model X.prog X.w) X.A (call (.ref f) us) (EP X aA σ Q) X.xe s:=by
 have hl:(us++[]).length=ps.length:=by rw[aRT,<- r.length];exact F.len _ _ _ _ h
 have hb':=hb s us I.kIn hl;rw[aRT]at hb';refine aTY (aSY (F.run X.A X.stack s H ⟨us,[]⟩ us vs Q E hr I.env0 hb' r h) λr s' hq=>?_);cases r with
 |error e=>exact hx e s' hq
 |ok fl =>
  cases fl with
  |ret u=>exact I.after hq
  |next=>exact False.elim hq
  |brk=>exact False.elim hq
  |cont=>exact False.elim hq
structure FnM(P:aW6)(w:aW5)(K:Fg)(mg:SOV)(base:Heap)(CX:CXT)(k:Nat)(x:Str)(Ψ:D->KD->Option KD):Prop where
 ex:∃f fd ps,bT P w K mg base CX k f fd ps (mL K Ψ)/\mg x=some (.ref f)/\W.keepIn K (.ref f)=true/\dF K fd ps []
def zM{k:Nat}{es:List Expr}{t:TA}(F:FnM X.prog X.w X.K X.mg X.base CX k f Ψ)(hr:bS k X.A)(hx:XOk CX (C.at X) X)(hg:Gl X f)(ha:PA X (e::es) t)(hdb:(f==("__debug__":Str))=false)(he:starEach (e::es) X.env=(false,eval e X.env)::starEach es X.env)(hpl:(backTo pos (starEach es X.env)).any (·.1)=false):PE X (.Call (.Name f p) (e::es) [] pos) (tCB (spM X.K Ψ) t):=by obtain⟨a,fd,ps,FF,hm,hk,hb⟩:=F.ex;intro aA s σ H Q I h;refine aR5 (nE I hg hm ?_ hdb);exact W.callWith_K (h₀:=X.base) I.ok.mod.kin hk (thn (ha pos aA s σ H (λvs H1=>spM X.K Ψ vs H1 Q) I h) λus s1 ⟨vs,H1,I1,r,q⟩=>⟨I1.kIn,run_S FF hr hb (λe s' hc=>hx aA σ H1 s1 e s' I1 hc) I1 r q⟩) he hpl
def kA(Ψ:D->KD->Option KD):FMz KD:=λ(ρ:Rho) (z:KD)=>match ρ[(6:Nat)]? with
 |some (some (false,d))=>(Ψ d z).map λz'=>(ρ,z')
 |_=>none
def aN.back{F:Hp}{a:Addr}(R:aN K F0 H0 F H σ ρ)(n:gU ρ)(h0:H0 a=none)(fa:F a=none)(st:aF F (j9 H a) F' H'):aN K F0 H0 F' H' σ ρ:=by
 refine⟨⟨λc u q=>?_,R.st.fsame.trans st.fsame,st.sub,λc h1 h2=>?_⟩,λj m d e=>?_,λi j d d' a _ e1 _ _ _=>(n i d e1).elim,R.len⟩
 . have:c≠a:=λz=>by rw[z,h0]at q;cases q
   exact st.same c u (by rw[oY this];exact R.st.same c u q)
 . have hc:=R.st.new c h1 h2;have:c≠a:=λz=>h2 (by rw[z];exact h0)
   refine st.new c hc ?_;rw[oY this];cases e:H0 c with
   |none=>exact absurd e h2
   |some o=>rw[R.st.same c o e];exact λz=>nomatch z
 . obtain⟨v,e1,r,e3⟩:=R.slot j m d e;cases m with
   |true=>exact(n j d e).elim
   |false=>exact⟨v,e1,aB.mono st.fsame _ _ r,e3⟩
def aLF{k:Nat}(F:FnM X.prog X.w X.K X.mg X.base CX k f Ψ)(hr:bS k X.A)(hx:XOk CX (C.at X) X)(hg:Gl X f)(hdb:(f==("__debug__":Str))=false)(hv:PE X (.Name x p) (bX 1))(hk:PE X (.Name y q) (bX 6)):PDs C X (.Expr (.Call (.Name f r) [.Name y q,.Name x p] [] cp) pos) (kA Ψ):=by
 intro a;have h1:=zM (p:=r) (pos:=cp) F hr hx hg (dE hk (dE hv eN (aW rfl)) (aW rfl)) hdb (aW rfl) (eV _ _ λz hz=>by simp only[aQZ,aT5,aT6]at hz;subst hz;rfl)
 refine PS.imp (k5 h1 rfl) λE σ H q=>?_;obtain⟨ρ,F,z,S,ρE,zE,eg,w⟩:=q;unfold kA at eg;split at eg;rotate_left
 . cases eg
 rename_i d e6;cases ep:Ψ d z with
 |none=>rw[ep]at eg;cases eg
 |some z'=>rw[ep]at eg;cases eg;obtain⟨xs,ha,rx⟩:=S.G.ha;obtain⟨v,e6',r6,_⟩:=S.R.slot 6 _ _ e6;have r6:aB X.K F d v:=r6;refine⟨v,e6',.ref a,S.e1,F,d,v,a,z,xs,_,rfl,S.R.sub,r6,ha,S.G.fa,rx,S.G.tx,ep,λF' H' xs' st fa' ha' rk tx'=>?_⟩;exact w σ F' H' st.fsame ⟨S.R.back S.no S.G.h0 S.G.fa st,S.no,S.e1,⟨xs',ha',rk⟩,fa',S.G.h0,tx'⟩
end
def kB(d:D):Rho:=[some (false,d),none,none,none,none,none,none]
def kC(g:FMz KD)(d:D)(kvs:KD):Option KD:=(g (kB d) kvs).map (·.2)
def aLG{s1:Stmt}{f:Addr}{N:List Str}{k:Nat}{g:FMz KD}(F:Fun K x qual st f fd)(S:lA N ps (cV st))(h2:ps.length=2)(h7:N.length=7)(hd:iK st=[s1,.Return (some (.Name y p)) q])(hbody:∀(C:Cw) (cdv:aW2),W.codeIn K cdv qual=true->∀(A:aW4) (outer:List Env) (s:aW3) (H:Hp) (E:XK),C.EE=iT mg E->bS k (A.deeper (envOfC qual (cV st) s.heap.objs.size f cdv))->PDs C (cK (CX1 P w) P w K mg base N qual (cV st) f cdv A outer s H E) s1 g/\PE (cK (CX1 P w) P w K mg base N qual (cV st) f cdv A outer s H E) (.Name y p) (bX 1)):bT P w K mg base (CX1 P w) (k+1) f fd ps (mL K (kC g)):=by
 obtain⟨oc,od,kV,doc,pm,an,cdv,ct,osl,rfl,lk,hcd⟩:=F.ex;refine vK lk hcd S (λvs H Q E h=>?_) λA outer s H vs Q E hr h=>?_
 . obtain⟨_,_,_,_,_,_,_,rfl,_⟩:=h;rw[h2];rfl
 obtain⟨F0,d,v,a,kvs,xs,kvs',rfl,sF,rv,ha,fa,rk,tx,e,w⟩:=h
 let C:Cw:=⟨K,F0,j9 H a,iT mg E⟩
 obtain⟨b1,b2⟩:=hbody C cdv hcd A outer s H E rfl hr;rw[hd];refine⟨_,iJ (b1 a) (nF (nG b2)),?_⟩;unfold kC at e;cases eg:g (kB d) kvs with
 |none=>rw[eg]at e;cases e
 |some t =>
  obtain⟨ρ',z'⟩:=t;rw[eg]at e;cases e;have e0:L2.cC N [v,.ref a]=[some v,some (.ref a),none,none,none,none,none]:=by unfold L2.cC;rw[h7];rfl
  refine⟨kB d,F0,kvs,⟨⟨⟨λc u q=>?_,aD.refl _,sF,λc h1 _=>h1⟩,λj m d' ej=>?_,λi j d1 d2 b _ e1 _ _ _=>?_,by rw[e0];rfl⟩,l9 rfl,by rw[e0];rfl,⟨xs,ha,rk⟩,fa,sJ,tx⟩,ρ',z',eg,λσ' F' H' sF' S'=>?_⟩
  . by_cases hc:c=a
    . subst hc;rw[show C.H0 c=none from sJ]at q;cases q
    . exact(oY hc).symm.trans q
  . match j,ej with
    |0,ej=>cases ej;exact⟨v,by rw[e0];rfl,rv,by nofun⟩
    |1,ej=>cases ej
    |2,ej=>cases ej
    |3,ej=>cases ej
    |4,ej=>cases ej
    |5,ej=>cases ej
    |6,ej=>cases ej
    |j+7,ej=>cases ej
  . exact(l9 (ρ:=kB d) rfl i d1 e1).elim
  . obtain⟨xs',ha',rk'⟩:=S'.G.ha;exact⟨.ref a,S'.e1,w F' H' xs' S'.R.st S'.G.fa ha' rk' S'.G.tx⟩
def txK:KD->Option (List Str)
 |[]=>some []
 |(.inr x,_)::r=>(txK r).map (x :: ·)
 |(.inl _,_)::_=>none
def kD(Ψ:D->KD->Option KD)(r:Res):Res:=(aZ r).thn λm d=>match m with
 |.fz=>(match Ψ d []with
  |some kvs=>(match txK kvs with
   |some ks=>if ks.length<64 then .ok .fr (.lst ((aX ks).map .str))else .stuck
   |none=>.stuck)
  |none=>.stuck)
 |_=>.stuck
theorem zN{K:Fg}{F:Hp}:∀{kvs:KD}{xs:List (Key×V)}{ks:List Str},txK kvs=some ks->aO K F kvs xs->TxK kvs->∃ts:List (Str×V),xs=ts.map (λkv=>(.inr kv.1,kv.2))/\ts.map (·.1)=ks/\∀y∈ks,y.length<=sizeLine/\PyData.strOk y=true
 |[],xs,ks,e,r,_=>by simp only[aO]at r;subst r;cases e;exact⟨[],rfl,rfl,λy hy=>nomatch hy⟩
 |(.inr x,d)::kvs,xs,ks,e,r,t=>by
  simp only[aO]at r;obtain⟨y,ys,rfl,r1,r2⟩:=r;unfold txK at e;obtain⟨ks',e1,rfl⟩:=aVZ.mp e;obtain⟨ts,rfl,h2,h3⟩:=zN e1 r2 λkv hkv=>t kv (mcm hkv);refine⟨(x,y)::ts,rfl,by rw[aSV,h2],λz hz=>?_⟩
  rcases aQZ.mp hz with rfl|hz
  . exact t _ mcs _ rfl
  . exact h3 z hz
 |(.inl i,d)::kvs,xs,ks,e,r,t=>by cases e
section
variable {f:Str}{p3:Pos}
def aLH{k:Nat}(F:FnM X.prog X.w X.K X.mg X.base CX k f Ψ)(hr:bS k X.A)(hx:XOk CX (C.at X) X)(hg:Gl X f)(hdb:(f==("__debug__":Str))=false)(hc:X.calm=true)(go:Gl X "sorted")(no:X.mg "sorted" = none)(ha:PV C X e ga)(hs:bQ e=true):PV C X (.Call (.Name "sorted" p) [.Call (.Name f p1) [e,.Dict [] [] p2] [] p3] [] pos) (λρ=>kD Ψ (ga ρ)):=by
 have h1:=zM (p:=p1) (pos:=p3) F hr hx hg (dE (gJ ha) (dE (aE1 (pos:=p2)) eN (aW rfl)) (aW hs)) hdb (aW hs) (eV _ _ λz hz=>by simp only[aQZ,aT5,aT6]at hz;subst hz;rfl)
 refine PE.imp (lB (pos:=pos) (p:=p) (aK5 hc) go no rfl (dE h1 eN (aW rfl)) (by decide) (by decide) (aW rfl) rfl) λσ H Q q=>?_
 rw[aS]at q;obtain⟨ρ,F1,R,w⟩:=q;show tG (C.at X) (λρ=>aZ (ga ρ)) σ H _;rw[aS];refine⟨ρ,F1,R,?_⟩;unfold kD at w;cases er:aZ (ga ρ)with
 |stuck=>rw[er]at w;exact w
 |exc c=>rw[er]at w;exact w
 |ok m d =>
  rw[er,Res.thn_ok]at w;cases m with
  |fr=>exact w.elim
  |bo=>exact w.elim
  |fz =>
   dsimp only at w;intro v F2 H2 st2 rv _;cases ep:Ψ d []with
   |none=>rw[ep]at w;exact w.elim
   |some kvs =>
    rw[ep]at w;dsimp only at w;cases et:txK kvs with
    |none=>rw[et]at w;exact w.elim
    |some ks =>
     rw[et]at w;dsimp only at w;by_cases h64:ks.length<64
     . rw[if_pos h64]at w;intro a h0;have fa:F2 a=none:=st2.sub.free h0;have hh:j9 (upd H2 a (.dK [])) a=H2:=by
         funext c;by_cases z:c=a
         . subst z;rw[sJ,h0]
         . rw[oY z,aL z]
       refine⟨F2,d,v,a,[],[],kvs,rfl,λc u q=>by rw[aL (bR q fa)];exact st2.sub c u q,rv,aV,fa,by simp only[aO],(λkv hkv=>nomatch hkv),ep,λF3 H3 xs3 st3 fa3 ha3 rk3 tx3=>?_⟩
       rw[hh]at st3;obtain⟨ts,rfl,e2,e3⟩:=zN et rk3 tx3;refine⟨a,ts,rfl,ha3,by rw[<- aR4 (f:=(·.1)),e2];exact h64,λl hl=>?_⟩
       rw[e2];have st4:=aF.fresh (o:=.lst ((aX ks).map V.str)) st3.sub hl;refine w (.ref l) F3 _ ((st2.trans st3).trans st4) ⟨l,rfl,st3.sub.free hl,_,aV,oO λy hy=>e3 y ((fZ ks).mem_iff.mp hy)⟩ λ_ c ec=>by cases ec;exact(st2.trans st3).same.free hl
     . rw[if_neg h64]at w;exact w.elim
end
end D3
set_option genSizeOfSpec false
set_option genInjectivity false
namespace D3
inductive KC where|s (y:Str)|i (n:Int)|t (tb:List (Str×Str))
 deriving DecidableEq
def KC.d:KC->D|.s y=>.str y|.i n=>.int n|.t _=>.non
inductive GV where|con (c:KC)|fn (n:Nat)|no|cls
 deriving DecidableEq
inductive Bn where|len|isinstance
 deriving DecidableEq
noncomputable def Bn.name:Bn->Str
 |.len => "len" |.isinstance => "isinstance"
def Bn.f:Bn->List (Md×D)->Option (Md×D)
 |.len=>eT|.isinstance=>cL
def Bn.id:Bn->String
 |.len => "len" |.isinstance => "isinstance"
inductive Ty where|int|bool|str|tuple|list|dict
 deriving DecidableEq
def Ty.f:Ty->List (Md×D)->Option (Md×D)
 |.tuple=>fK|.list=>iR|.int=>jU|.str=>lP|.dict=>oF|_=>λ_=>none
def Ty.id:Ty->String
 |.int => "int" |.bool => "bool" |.str => "str" |.tuple => "tuple" |.list => "list" |.dict => "dict"
inductive Mt where|join|startswith|removeprefix|joinT
 deriving DecidableEq
def Mt.name:Mt->Str|.join => "join" |.startswith => "startswith" |.removeprefix => "removeprefix" |.joinT => "join"
def Mt.ty:Mt->String|.join => "str" |.startswith => "str" |.removeprefix => "str" |.joinT => "str"
def Mt.f:Mt->Md->D->List (Md×D)->Option (Md×D)|.join=>hG|.startswith=>swD|.removeprefix=>rpD|.joinT=>D3.joinT
structure WD where
 Φ:Str->List D->Res
 Ψ:Str->List D->Res
 I:Str->Option (List D->Res)
 cl:List CI
 xt:List ((Str×Str)×Bool)
 xi:List ((Str×Str)×Bool)
 dp:Bool
 Ms:Str->D->KD->Option KD
def WD.xf(W:WD):Str->Str->Option Bool:=λc x=>W.xt.lookup (c,x)
def WD.xg(W:WD):Str->Str->Option Bool:=λc x=>W.xi.lookup (c,x)
inductive E where
 |var (i:Nat)|non|bl (b:Bool)|int (i:Int)|str (x:Str)
 |glob (x:Str) (c:KC)|ty (t:Ty)
 |bin (op:Operator) (a b:E)|cmp (op:CmpOp) (a b:E)
 |andL (es:List E)|orL (es:List E)|not (a:E)|tru (a:E)|frz (a:E)
 |ix (a b:E)|slice (a:E) (lo hi:Option E)
 |tup (es:List E)|lst (es:List E)
 |call (f:Str) (n:Nat) (es:List E)|bcall (b:Bn) (es:List E)|mt (m:Mt) (o:E) (es:List E)
 |items (a:E)|rng1 (a:E)
 |comp (elt it:E) (ts:List E) (aE:List Nat) (t:Tg) (n:Nat)|fmt (a:E)|fstr (es:List E)
 |tcall (t:Ty) (es:List E)
 |meth (o:E) (m:Str) (es:List E)|mk0 (c:Str)
 |never
 |nnew|nix (a b:E)|nget (a k d:E)|nkeys (a:E)|srtw (a:E)|us2 (a:E)|seenE (f:Str) (a:E)
def noF:Md->D->Md->D->Option (Md×D):=λ_ _ _ _=>none
def bJ:Operator->Md->D->Md->D->Option (Md×D)
 |.Add=>orO fAdd oB|.Sub=>fSub|.Mult=>orO fMul noK|.Mod=>fMod|.FloorDiv=>fDiv|.Pow=>fPow|_=>noF
def bV:CmpOp->Md->D->Md->D->Option (Md×D)
 |.Lt=>orO fLt noK|.LtE=>fLe|.Gt=>fGt|.GtE=>fGe|.Eq=>fEq|.NotEq=>fNe|.In=>orO fIn noK|.NotIn=>orO aG5 noK|.Is=>fIs false|.IsNot=>fIs true
mutual
def evE(W:WD):E->Rho->Res
 |.var i,ρ=>eP ρ i
 |.non,_=>.ok .fz .non
 |.bl b,_=>.ok .fz (.bl b)
 |.int i,_=>.ok .fz (.int i)
 |.str x,_=>.ok .fz (.str x)
 |.glob _ c,_=>.ok .fz c.d
 |.ty t,_=>.ok .fz (.ty t.id)
 |.bin op a b,ρ=>op2 (bJ op) (evE W a ρ) (evE W b ρ)
 |.cmp op a b,ρ=>op2 (bV op) (evE W a ρ) (evE W b ρ)
 |.andL es,ρ=>evA W es ρ
 |.orL es,ρ=>cZ W es ρ
 |.not a,ρ=>lG (evE W a ρ)
 |.tru a,ρ=>lF (evE W a ρ)
 |.frz a,ρ=>aZ (evE W a ρ)
 |.ix a b,ρ=>op2 ixD (evE W a ρ) (evE W b ρ)
 |.slice a lo hi,ρ=>slP (evE W a ρ) (evO W lo) (evO W hi) ρ
 |.tup es,ρ=>iN (bN W es ρ)
 |.lst es,ρ=>iO (bN W es ρ)
 |.call f n es,ρ=>bI n (W.Φ f) (bN W es ρ)
 |.bcall b es,ρ=>eR b.f (bN W es ρ)
 |.mt m o es,ρ=>lL m.ty m.f (evE W o ρ) (bN W es ρ)
 |.items a,ρ=>fV (aZ (evE W a ρ))
 |.rng1 a,ρ=>gK (dH (evE W a ρ) (.ok []))
 |.comp elt it ts aE t n,ρ=>dX (evE W it ρ) ρ aE n (aP t) (λρ=>evF W ts ρ) (λρ=>evE W elt ρ)
 |.fmt a,ρ=>oD (evE W a ρ)
 |.fstr es,ρ=>eW Str.empty (evL W es) ρ
 |.tcall t es,ρ=>eR t.f (bN W es ρ)
 |.meth o m es,ρ=>fW W.cl W.Φ m (evE W o ρ) (bN W es ρ)
 |.mk0 c,_=>.ok .fr (.ins c [])
 |.never,_=>.stuck
 |.nnew,_=>.ok .fr (.dtn [])
 |.nix a b,ρ=>op2 lX (evE W a ρ) (evE W b ρ)
 |.nget a k d,ρ=>lY (evE W a ρ) (evE W k ρ) (evE W d ρ)
 |.nkeys a,ρ=>l8 (evE W a ρ)
 |.srtw a,ρ=>eR gT (dH (evE W a ρ) (.ok []))
 |.us2 a,ρ=>f8 (evE W a ρ)
 |.seenE f a,ρ=>kD (W.Ms f) (evE W a ρ)
def bN(W:WD):List E->Rho->bG
 |[],_=>.ok []
 |e::es,ρ=>dH (evE W e ρ) (bN W es ρ)
def evA(W:WD):List E->Rho->Res
 |[],_=>.stuck
 |[e],ρ=>evE W e ρ
 |e::es,ρ=>eQ (evE W e ρ) (evA W es ρ)
def cZ(W:WD):List E->Rho->Res
 |[],_=>.stuck
 |[e],ρ=>evE W e ρ
 |e::es,ρ=>orR (evE W e ρ) (cZ W es ρ)
def evF(W:WD):List E->Rho->Res
 |[],_=>.ok .fz (.bl true)
 |e::es,ρ=>eQ (evE W e ρ) (evF W es ρ)
def evL(W:WD):List E->List (Rho->Res)
 |[]=>[]
 |e::es=>evE W e::evL W es
def evO(W:WD):Option E->Option (Rho->Res)
 |none=>none
 |some e=>some (evE W e)
end
structure MG where
 G:List (Str×GV)
 mk0:List Str
 mki:List (Str×Str×Nat)
 iso:List Str
 xcs:List Str
 xns:List Str
 sn:List Str
structure MC where
 N:List Str
 sc:Scope
 g:MG
 fn:Bool
 calm:Bool
 rz:Bool
 q:Str
noncomputable def MC.kind(m:MC)(x:Str):Option NameKind:=m.sc.names.lookup x
end D3
variable {m:D3.MC}
namespace D3
def MC.vis(m:MC)(x:Str):Bool:=(m.kind x==some .local||m.kind x==some .cell||m.kind x==some .free)&&x != "__debug__" && x != "__classdict__"
def MC.glob(m:MC)(x:Str)(v:GV):Bool:=m.kind x==some .globalImplicit&&m.g.G.lookup x==some v&&x != "__debug__" && x != "__name__"
def MC.gk(m:MC)(x:Str):Bool:=m.kind x==some .globalImplicit&&x != "__debug__"
def strK(x:Str):Bool:=decide (x.length<=sizeLine)&&PyData.strOk x
def sK:Expr->Bool|.Slice ..=>false|_=>true
def e9:Expr->Bool|.Set ..=>false|_=>true
def zO:Expr->Bool|.UnaryOp .Not _ _=>false|.BoolOp ..=>false|.IfExp ..=>false|.Compare ..=>false|_=>true
def MC.sub(m:MC)(scope:Scope)(aI tgN:List Str):MC:={ m with N:=aI++tgN,sc:={scope with names:=lO scope m.sc},fn:=false,rz:=false,q := "" }
def MC.loc(m:MC)(i:Nat)(x:Str):Bool:=m.N[i]?==some x&&(m.kind x==some .local||(m.fn&&m.kind x==some .cell))
mutual
def mG(m:MC):Tg->Expr->Bool
 |.nm i,e=>match e with|.Name x _=>m.loc i x|_=>false
 |.tp ts,e=>match e with|.Tuple es _ _=>m.calm&&es.all jT&&mGs m ts es|_=>false
def mGs(m:MC):List Tg->List Expr->Bool
 |[],es=>es.isEmpty
 |t::ts,l=>match l with|e::es=>mG m t e&&mGs m ts es|_=>false
end
def fM:Nat->Expr->List Str
 |_,.Name x _=>[x]
 |n+1,.Tuple es _ _=>es.flatMap (fM n)
 |_,_=>[]
def oZ(scope sc:Scope)(N:List Str)(aE:List Nat)(aI tgN:List Str):Bool :=
 scope.names.all (λy=>y.2 != .cell)&&scope.kind == .function&&scope.names.all (λy=>y.2 != .local||scope.names.lookup y.1==some .local) &&
 scope.names.all (λy=>y.2 != .free||sc.names.lookup y.1==some .cell||sc.names.lookup y.1==some .free)&&(aI.map some==aE.map λi=>N[i]?)&&aI.all (λy=>scope.names.contains (y,.free)) &&
 aI.all (λy=>(lO scope sc).lookup y==some .cell||(lO scope sc).lookup y==some .free)&&decide (aI++tgN).Nodup
def strK':KC->Bool|.s y=>strK y|.i _=>true|.t _=>false
structure SX(k:Nat)(W:WD)(m:MC)(C:Cw)(X:Cx):Prop where
 hN:X.N=m.N
 hs:X.env.scope=m.sc
 cm:m.calm=true->X.calm=true
 rm:m.calm=true->bS k X.A
 un:X.A.units+64<cLine
 xo:m.calm=true->XOk (CX1 X.prog X.w) (C.at X) X
 xt:qQ X.K X.mg W.xf
 xi:qR X.K X.mg W.xg
 xc:∀c,c∈m.g.xcs->∃Cc,X.mg c=some (.ref Cc)/\xC X.K Cc
 xn:∀n,n∈m.g.xns->∃cv,oE X.mg n cv
 con:∀x c,m.g.G.lookup x=some (.con c)->match c with|.s y=>∃t,X.mg x=some (.str y t)|.i n=>∃t,X.mg x=some (.int n t)|.t tb=>jV X.w X.K X.mg x tb
 no:∀x,m.g.G.lookup x=some .no->X.mg x=none
 mk0:∀c,c∈m.g.mk0->qL X.K X.mg c
 mki:∀c key n,(c,key,n)∈m.g.mki->∀Φ,W.I key=some Φ->∃j,j+1<=k/\InV X.prog X.w X.K X.mg X.base (CX1 X.prog X.w) j c n Φ
 iso:∀c,c∈m.g.iso->IsV X.K X.mg W.cl c
 fl:∀i f,i∈W.cl->f∈i.flds->FlV X.K i.name f
 mt:∀c m key n,CI.meth W.cl c m=some (key,n)->MtV X.prog X.w X.K X.mg X.base (CX1 X.prog X.w) k c m n (W.Φ key)
 fn:∀x n,m.g.G.lookup x=some (.fn n)->FnV X.prog X.w X.K X.mg X.base (CX1 X.prog X.w) k x n (W.Φ x)
 fnn:m.fn=true->∀x,X.fn x=true
 fp:W.dp=true->∃j,j+1=k/\∀x n,m.g.G.lookup x=some (.fn n)->FnV X.prog X.w X.K X.mg X.base (CX1 X.prog X.w) j x n (W.Ψ x)
 sm:∀x,x∈m.g.sn->FnM X.prog X.w X.K X.mg X.base (CX1 X.prog X.w) k x (W.Ms x)
 cd:m.q="" \/ (PySem.W.codeIn X.K X.env.code m.q=true/\X.env.qual=m.q ++ ".<locals>.")
section
variable {k:Nat}{W:WD}{x y:Expr}
def SX.gl(S:SX k W m C X){v:GV}(h:m.glob z v=true):Gl X z/\m.g.G.lookup z=some v/\(z==("__debug__":Str))=false/\z ≠ "__name__" := by
 unfold MC.glob MC.kind at h;simp only[aSJ,aRN,aWM]at h;obtain⟨⟨⟨h1,h2⟩,h3⟩,h4⟩:=h;refine⟨?_,h2,by simpa using h3,h4⟩
 show X.env.scope.names.lookup z=_;rw[S.hs];exact h1
theorem SX.vis(S:SX k W m C X)(h:m.vis z=true):Vis X.env.scope z/\(z==("__debug__":Str))=false/\(z==("__classdict__":Str))=false:=by
 unfold MC.vis MC.kind at h;simp only[aSJ,aTE,aRN,aWM]at h;obtain⟨⟨h1,h2⟩,h3⟩:=h;refine⟨?_,by simpa using h2,by simpa using h3⟩
 unfold Vis;rw[S.hs];rcases h1 with(h1|h1)|h1
 . exact .inl h1
 . exact .inr (.inl h1)
 . exact .inr (.inr h1)
def aLI(b:Bn):bootBuiltins b.name=some (.builtin b.id):=by
 cases b
 . exact aG6
 . exact aG7
def aLJ(b:Bn){c:Bool}(hc:c=true->X.calm=true)(h:(c||b == .len||b == .isinstance)=true):dU X (.builtin b.id) b.f:=by
 have hc:(b == .len||b == .isinstance)=false->X.calm=true:=λz=>hc (by cases c with|true=>rfl|false=>rw[Bool.false_or]at h;rw[h]at z;cases z)
 cases b
 . exact aF6
 . exact aF8
def aLK{f:aW2}:dU X f (λ_=>none):=⟨λ_ _ _=>False,λ_ _ _ _ _ _ _ _ _ h=>h.elim,λ_ _ _ _ _ _ _ _ _ e _=>by cases e⟩
def aLL(t:Ty):dU X (.type t.id) t.f:=by
 cases t
 . exact aIA
 . exact aLK
 . exact aHR
 . exact aHO
 . exact aHP
 . exact aIP
def zP(t:Ty):bootBuiltins (t.id:Str)=some (.type t.id):=by
 cases t
 . exact aG8
 . exact aG9
 . exact aHA
 . exact aHB
 . exact aHC
 . exact aHD
def aLM(op:Operator):(∃φ,bJ op=φ/\OpD C X (binaryOp op) φ)\/bJ op=noF:=by
 cases op
 case Add=>exact .inl ⟨_,rfl,o_add.or aHN⟩
 case Sub=>exact .inl ⟨_,rfl,aFE⟩
 case Mult=>exact .inl ⟨_,rfl,o_mul.or iQ⟩
 case Mod=>exact .inl ⟨_,rfl,aFH⟩
 case FloorDiv=>exact .inl ⟨_,rfl,aFJ⟩
 case Pow=>exact .inl ⟨_,rfl,aFK⟩
 all_goals exact .inr rfl
def mM:IsB noK:=λ_ _ _ _ _ _ z=>by cases z
def aLN(op:CmpOp)(hu:X.A.units+64<cLine):(OpD C X (compareOp op) (bV op)/\IsB (bV op))\/bV op=noF:=by
 cases op
 case Lt=>exact .inl ⟨aFL.or iQ,lN oA mM⟩
 case LtE=>exact .inl ⟨aFM,oA⟩
 case Gt=>exact .inl ⟨aFN,oA⟩
 case GtE=>exact .inl ⟨aFO,oA⟩
 case Eq=>exact .inl ⟨o_eq hu,lN wX mM⟩
 case NotEq=>exact .inl ⟨o_ne hu,lN wX mM⟩
 case In=>exact .inl ⟨aFQ.or iQ,lN wW mM⟩
 case NotIn=>exact .inl ⟨aFR.or iQ,lN wW mM⟩
 case Is=>exact .inl ⟨aHJ,wZ⟩
 case IsNot=>exact .inl ⟨aHK,wZ⟩
def zQ{f:aW2->aW2->Sem aW2}:OpD C X f noF:=⟨λ_ _ _ _=>False,λ_ _ _ _ _ _ _ _ _ _ _ _ h=>h.elim,λ_ _ _ _ _ _ _ _ _ _ _ _ _ _ e _=>by cases e⟩
def aLO(op:Operator):OpD C X (binaryOp op) (bJ op):=by
 rcases aLM (C:=C) (X:=X) op with⟨φ,e,h⟩|e
 . rw[e];exact h
 . rw[e];exact zQ
def sL(op:CmpOp)(hu:X.A.units+64<cLine):OpD C X (compareOp op) (bV op)/\IsB (bV op):=by
 rcases aLN (C:=C) op hu with h|e
 . exact h
 . rw[e];exact⟨zQ,λ_ _ _ _ _ _ z=>by cases z⟩
def zR(op:CmpOp)(h:e9 e=true):behindInMarks op e=false:=by cases e <;> first|rfl|cases h
def iC(h:e9 e=true):∀v,foldedSetIterable e env v=pure v:=by intro v;cases e <;> first|rfl|cases h
def zS(h:sK e=true):nR e:=by intro o i;cases e <;> first|rfl|cases h
def aLP(h:zO e=true):∀whole,isTrue e env whole=(do let v <- whole;standAt e.pos;holding [v] (truthy v)):=by
 intro whole;cases e
 case UnaryOp op _ _=>cases op <;> first|rfl|cases h
 all_goals first|rfl|cases h
theorem SX.sub(S:SX k W m C X)(cl:List (Str×Addr))(A:Addr)(fp:List Addr)(s3:aW3)(H3:Hp):SX k W (m.sub scope aI tgN) C.nox (bE X scope (aI++tgN) cl A fp s3 H3):=by
 refine⟨rfl,?_,S.cm,S.rm,S.un,λ_ aA σ H s e s' I h=>?_,S.xt,S.xi,S.xc,S.xn,S.con,S.no,S.mk0,S.mki,S.iso,S.fl,S.mt,S.fn,(λz=>by cases z),S.fp,S.sm,.inl rfl⟩
 rotate_left
 . obtain⟨_,_,_,_,_,_,_,_,_,_,_,_,z⟩:=h;exact z.elim
 show(compEnvC scope cl A X.env).scope=_;unfold MC.sub;rw[<- S.hs];rfl
theorem SX.loc(S:SX k W m C X)(h:m.loc i z=true):X.N[i]? = some z/\L2.Loc X.env.scope z/\(X.fn z=true\/X.env.scope.names.lookup z=some .local):=by
 unfold MC.loc MC.kind at h;simp only[aSJ,aTE,aRN]at h;refine⟨by rw[S.hN];exact h.1,?_,?_⟩
 . unfold L2.Loc;rw[S.hs];rcases h.2 with q|q
   . exact .inl q
   . exact .inr q.2
 . rw[S.hs];rcases h.2 with q|q
   . exact .inr q
   . exact .inl (S.fnn q.1 z)
mutual
theorem sG(S:SX k W m C X)(hN:m.N.Nodup):∀(t:Tg) {e:Expr},mG m t e=true->PGw X e t
 |.nm i,e,h=>by
  simp only[mG]at h;split at h
  . obtain⟨a,b,c⟩:=S.loc h;exact aHY (by rw[S.hN];exact hN) a b c
  . cases h
 |.tp ts,e,h=>by
  simp only[mG]at h;split at h
  . rw[aSJ,aSJ,aV8]at h;obtain⟨p,l⟩:=sGs S hN ts h.2 h.1.2;exact aH2 (S.cm h.1.1) p h.1.2 l
  . cases h
theorem sGs(S:SX k W m C X)(hN:m.N.Nodup):∀(ts:List Tg) {es:List Expr},mGs m ts es=true->(∀e∈es,jT e=true)->iS X es ts/\es.length=ts.length
 |[],[],h,_=>⟨aHZ,rfl⟩
 |[],_::_,h,_=>by simp[mGs]at h
 |t::ts,[],h,_=>by simp[mGs]at h
 |t::ts,e::es,h,hs=>by simp only[mGs,aSJ]at h;obtain⟨p,l⟩:=sGs S hN ts h.2 λx hx=>hs x (mcm hx);exact⟨aH0 (sG S hN t h.1) p (hs e mcs),by rw[aST,aST,l]⟩
end
end
def aLQ:PV C X e (λ_=>.stuck):=λaA s σ H Q I q=>by rw[aS]at q;obtain⟨ρ,F,R,w⟩:=q;exact w.elim
abbrev PE(m:MC)(f:E)(e:Expr):Prop:=∀{k:Nat}{W:WD}{C:Cw}{X:Cx},SX k W m C X->PV C X e (evE W f)
abbrev PTE(m:MC)(f:E)(e:Expr):Prop:=∀{k:Nat}{W:WD}{C:Cw}{X:Cx},SX k W m C X->PTv C X e (evE W f)
abbrev PIE(m:MC)(tg:Expr)(f:E)(e:Expr):Prop:=∀{k:Nat}{W:WD}{C:Cw}{X:Cx},SX k W m C X->PIv C X tg e (evE W f)
inductive dA(m:MC):List E->List Expr->Prop
 |nil:dA m [] []
 |cons {f fs x xs:_}:bQ x=true->PE m f x->dA m fs xs->dA m (f::fs) (x::xs)
inductive fA(m:MC):List E->List Expr->Prop
 |nil:fA m [] []
 |cons {f fs x xs:_}:PTE m f x->fA m fs xs->fA m (f::fs) (x::xs)
abbrev CkE(m:MC)(f:E)(e:Expr):Type:=Option (PLift (PE m f e))
abbrev CkT(m:MC)(f:E)(e:Expr):Type:=Option (PLift (PTE m f e))
abbrev CkI(m:MC)(tg:Expr)(f:E)(e:Expr):Type:=Option (PLift (PIE m tg f e))
abbrev eA(m:MC)(f:List E)(e:List Expr):Type:=Option (PLift (dA m f e))
abbrev CkF(m:MC)(f:List E)(e:List Expr):Type:=Option (PLift (fA m f e))
abbrev CkO(m:MC)(f:Option E)(e:Option Expr):Type:=Option (PLift (∀{k:Nat}{W:WD}{C:Cw}{X:Cx},SX k W m C X->POv C X e (evO W f)))
def got{P:Prop}:∀{o:Option (PLift P)},o.isSome=true->P
 |some p,_=>p.down
 |none,h=>nomatch h
section
variable {k:Nat}{W:WD}
theorem dA.star:∀{fs:List E}{es:List Expr},dA m fs es->∀x∈es,bQ x=true
 |_,_,.nil=>λx hx=>by cases hx
 |_,_,.cons s _ q=>λx hx=>by
  rcases aQZ.mp hx with rfl|hx
  . exact s
  . exact q.star x hx
theorem dA.es(S:SX k W m C X):∀{fs:List E}{es:List Expr},dA m fs es->PAv C X es (bN W fs)
 |_,_,.nil=>by simp only[bN];exact qG
 |_,_,.cons s p q=>by simp only[bN];exact qH (p S) (q.es S) (aW s)
theorem dA.l(S:SX k W m C X):∀{fs:List E}{es:List Expr},dA m fs es->PVL C X es (evL W fs)
 |_,_,.nil=>by simp only[evL];exact .nil
 |_,_,.cons s p q=>by simp only[evL];exact .cons (p S) (q.l S)
theorem dA.a{pos:Pos}(S:SX k W m C X):∀{fs:List E}{es:List Expr},dA m fs es->PV C X (.BoolOp .And es pos) (evA W fs)
 |_,_,.nil=>λaA s σ H Q I q=>by rw[aS]at q;obtain⟨ρ,F,R,w⟩:=q;exact w.elim
 |_,_,.cons s p .nil=>by simp only[evA];exact wH (p S)
 |_,_,.cons s p (.cons s' p' q)=>by simp only[evA];exact aFY (p S) (dA.a S (.cons s' p' q))
theorem dA.o{pos:Pos}(S:SX k W m C X):∀{fs:List E}{es:List Expr},dA m fs es->PV C X (.BoolOp .Or es pos) (cZ W fs)
 |_,_,.nil=>λaA s σ H Q I q=>by rw[aS]at q;obtain⟨ρ,F,R,w⟩:=q;exact w.elim
 |_,_,.cons s p .nil=>by simp only[cZ];exact wH (p S)
 |_,_,.cons s p (.cons s' p' q)=>by simp only[cZ];exact aFZ (p S) (dA.o S (.cons s' p' q))
theorem fA.a{pos:Pos}(S:SX k W m C X):∀{fs:List E}{es:List Expr},fA m fs es->PWv C X (.BoolOp .And es pos) (evA W fs)
 |_,_,.nil=>λwhole aA s σ H Q I q=>by obtain⟨ρ,F,R,w⟩:=q;exact w.elim
 |_,_,.cons p .nil=>by simp only[evA];exact wF (p S)
 |_,_,.cons p (.cons p' q)=>by simp only[evA];exact aFW (p S) (fA.a S (.cons p' q))
theorem fA.o{pos:Pos}(S:SX k W m C X):∀{fs:List E}{es:List Expr},fA m fs es->PWv C X (.BoolOp .Or es pos) (cZ W fs)
 |_,_,.nil=>λwhole aA s σ H Q I q=>by obtain⟨ρ,F,R,w⟩:=q;exact w.elim
 |_,_,.cons p .nil=>by simp only[cZ];exact wF (p S)
 |_,_,.cons p (.cons p' q)=>by simp only[cZ];exact aFX (p S) (fA.o S (.cons p' q))
theorem fA.f(S:SX k W m C X):∀{fs:List E}{es:List Expr},fA m fs es->dJ X es (tT (C.at X) (evF W fs))
 |_,_,.nil=>by
  have:evF W []=λ_=>.ok .fz (.bl true):=by funext ρ;simp only[evF]
  rw[this];exact aGW
 |f::fs,_,.cons p q=>by
  have:evF W (f::fs)=λρ=>eQ (evE W f ρ) (evF W fs ρ):=by funext ρ;simp only[evF]
  rw[this];exact aGX (p S) (q.f S)
section
variable {fs:List E}{es:List Expr}{r:eA m fs es}{t:CkF m fs es}
def gSt(h:r.isSome=true):∀x∈es,bQ x=true:=(got h).star
def gEs(h:r.isSome=true)(S:SX k W m C X):PAv C X es (bN W fs):=(got h).es S
def gL(h:r.isSome=true)(S:SX k W m C X):PVL C X es (evL W fs):=(got h).l S
def gA(h:r.isSome=true)(S:SX k W m C X):PV C X (.BoolOp .And es pos) (evA W fs):=(got h).a S
def gOr(h:r.isSome=true)(S:SX k W m C X):PV C X (.BoolOp .Or es pos) (cZ W fs):=(got h).o S
def gWA(h:t.isSome=true)(S:SX k W m C X):PWv C X (.BoolOp .And es pos) (evA W fs):=(got h).a S
def gWO(h:t.isSome=true)(S:SX k W m C X):PWv C X (.BoolOp .Or es pos) (cZ W fs):=(got h).o S
def gF(h:t.isSome=true)(S:SX k W m C X):dJ X es (tT (C.at X) (evF W fs)):=(got h).f S
end
end
def aLR:PTv C X e (λ_=>.stuck):=by intro aA s σ H Q I q;obtain⟨ρ,F,R,w⟩:=q;exact w.elim
def aLS:PIv C X tg e (λ_=>.stuck):=by intro aA s σ H R I q;obtain⟨ρ,F,RS,w⟩:=q;exact w.elim
noncomputable def aLT{a e:_}(r1:CkE m a e):CkE m (.frz a) e:=if h:r1.isSome=true then some ⟨λS=>gJ (got h S)⟩else none
noncomputable def aLU{a e:_}(r1:CkE m a e):CkT m (.tru a) e:=if h:(zO e&&r1.isSome)=true then some ⟨λS=>by
 simp only[aSJ]at h;exact aFT (got h.2 S) (aLP h.1)⟩else none
noncomputable def aLV{tg a e:_}(r1:CkE m a e):CkI m tg (.items a) e:=if h:r1.isSome=true then some ⟨λS=>aGL (got h S)⟩else none
noncomputable def aLW{tg a e:_}(r1:CkE m a e):CkI m tg (.nkeys a) e:=if h:r1.isSome=true then some ⟨λS=>aKI (got h S)⟩else none
noncomputable def aLX{i:_}{x:_}{p1:_}:CkE m (.var i) (.Name x p1):=if h:(m.N[i]?==some x&&m.vis x)=true then some ⟨λS=>by
 simp only[aSJ,aRN]at h;obtain⟨h1,h2,h3⟩:=S.vis h.2
 exact aE8 i (jI (by rw[S.hN];exact h.1) h1 h2 h3)⟩else none
noncomputable def aLY{y:_}{c:_}{x:_}{p1:_}:CkE m (.glob y c) (.Name x p1):=if h:(x==y&&m.glob x (.con c)&&strK' c)=true then some ⟨λS=>by
 simp only[aSJ,aRN]at h;obtain⟨⟨rfl,h1⟩,h2⟩:=h;obtain⟨g,l,hd,hn⟩:=S.gl h1;have:=S.con _ _ l;cases c with
 |s y=>obtain⟨t,ht⟩:=this;exact aF9 g ht h2 hd
 |i n=>obtain⟨t,ht⟩:=this;exact aGA g ht hd
 |t tb=>cases h2⟩else none
noncomputable def kE_ty{t:_}{x:_}{p1:_}:CkE m (.ty t) (.Name x p1):=if h:(x==(t.id:Str)&&m.glob x .no)=true then some ⟨λS=>by
 simp only[aSJ,aRN]at h;obtain⟨rfl,h1⟩:=h;obtain⟨g,l,hd,hn⟩:=S.gl h1;exact pv_ty g (S.no _ l) (zP t) hn hd⟩else none
noncomputable def aLZ{p0}{p1:_}:CkE m (.non) (.Constant .none p0 p1):=if h:(true)=true then some ⟨λS=>by
 exact aFA⟩else none
noncomputable def kE_bl{c:_}{b:_}{p1:_}{p2:_}:CkE m (.bl c) (.Constant (.bool b) p1 p2):=if h:(b==c)=true then some ⟨λS=>by
 simp only[aRN]at h;subst h;exact pv_bl⟩else none
noncomputable def aL0{c:_}{b:_}{p1:_}{p2:_}:CkE m (.int c) (.Constant (.int b) p1 p2):=if h:(b==c)=true then some ⟨λS=>by
 simp only[aRN]at h;subst h;exact aE9⟩else none
noncomputable def aL1{c:_}{b:_}{p1:_}{p2:_}:CkE m (.str c) (.Constant (.str b) p1 p2):=if h:(b==c&&strK b)=true then some ⟨λS=>by
 simp only[aSJ,aRN]at h;obtain⟨rfl,h⟩:=h;exact aFB h⟩else none
noncomputable def aL2{op}{a}{b:_}{x:_}{o}{y:_}{p3}(r1:CkE m a x)(r2:CkE m b y):CkE m (.bin op a b) (.BinOp x o y p3):=if h:(o==op&&(r1.isSome&&r2.isSome))=true then some ⟨λS=>by
 simp only[aSJ,aRN]at h;obtain⟨rfl,h1,h2⟩:=h;exact pv_op (aLO _) (got h1 S) (got h2 S)⟩else none
noncomputable def aL3{op}{a}{b:_}{x:_}{o}{y:_}{p3}(r1:CkE m a x)(r2:CkE m b y):CkE m (.cmp op a b) (.Compare x [o] [y] p3):=if h:(o==op&&e9 y&&(r1.isSome&&r2.isSome))=true then some ⟨λS=>by
 simp only[aSJ,aRN]at h;obtain⟨⟨rfl,hs⟩,h1,h2⟩:=h;exact aFC (sL _ S.un).1 (got h1 S) (got h2 S) (zR _ hs)⟩else none
noncomputable def aL4{es}{xs:_}{p1:_}(r1:eA m es xs):CkE m (.andL es) (.BoolOp .And xs p1):=if h:(r1.isSome)=true then some ⟨λS=>by
 exact gA h S⟩else none
noncomputable def aL5{es}{xs:_}{p1:_}(r1:eA m es xs):CkE m (.orL es) (.BoolOp .Or xs p1):=if h:(r1.isSome)=true then some ⟨λS=>by
 exact gOr h S⟩else none
noncomputable def aL6{a}{x:_}{p1:_}(r1:CkE m a x):CkE m (.not a) (.UnaryOp .Not x p1):=if h:(r1.isSome)=true then some ⟨λS=>by
 exact aF0 (got h S)⟩else none
noncomputable def aL7{a}{l}{u:_}{x:_}{lo:_}{hi:_}{p3}{p4}(r1:CkE m a x)(r2:CkO m l lo)(r3:CkO m u hi):CkE m (.slice a l u) (.Subscript x (.Slice lo hi none p3) p4):=if h:(r1.isSome&&(r2.isSome&&r3.isSome))=true then some ⟨λS=>by
 simp only[aSJ]at h;obtain⟨h0,h1,h2⟩:=h;exact aIL (got h0 S) (got h1 S) (got h2 S)⟩else none
noncomputable def kE_ix{a}{b:_}{x:_}{y:_}{p2:_}(r1:CkE m a x)(r2:CkE m b y):CkE m (.ix a b) (.Subscript x y p2):=if h:(sK y&&(r1.isSome&&r2.isSome))=true then some ⟨λS=>by
 simp only[aSJ]at h;obtain⟨h0,h1,h2⟩:=h;exact pv_ix (got h1 S) (got h2 S) (zS h0)⟩else none
noncomputable def aL8{es}{es0}{p1:_}{p2:_}(r1:eA m es es0):CkE m (.tup es) (.Tuple es0 p1 p2):=if h:(r1.isSome)=true then some ⟨λS=>by
 exact aF4 (gEs h S)⟩else none
noncomputable def aL9{es}{es0}{p1:_}(r1:eA m es es0):CkE m (.lst es) (.List es0 p1):=if h:(r1.isSome)=true then some ⟨λS=>by
 exact aF5 (gEs h S)⟩else none
noncomputable def aMA{g:_}{n:_}{es}{f}{p:_}{x:_}{xs:_}{cp:_}(r1:eA m es (x::xs)):CkE m (.call g n es) (.Call (.Name f p) (x::xs) [] cp):=if h:(m.calm&&f==g&&m.glob f (.fn n)&&r1.isSome)=true then some ⟨λS=>by
 simp only[aSJ,aRN]at h;obtain⟨⟨⟨hq,rfl⟩,h1⟩,h2⟩:=h;obtain⟨gl,l,hd,hn⟩:=S.gl h1;have st:=gSt h2;exact aG3 (S.fn _ _ l) (S.rm hq) (S.xo hq) gl (gEs h2 S) hd (aW (st x mcs)) (eV _ _ λy hy=>st y (mcm hy))⟩else none
noncomputable def aMB{b:_}{es}{f}{p:_}{x:_}{xs:_}{cp:_}(r1:eA m es (x::xs)):CkE m (.bcall b es) (.Call (.Name f p) (x::xs) [] cp):=if h:((m.calm||b == .len||b == .isinstance)&&f==b.name&&m.glob f .no&&r1.isSome)=true then some ⟨λS=>by
 rw[aSJ,aSJ,aSJ]at h;obtain⟨⟨⟨hq,hz⟩,h1⟩,h2⟩:=h;cases(aRN.mp hz);obtain⟨gl,l,hd,hn⟩:=S.gl h1;have st:=gSt h2;exact wM (aLJ b S.cm hq) gl (S.no _ l) (aLI b) (gEs h2 S) hn hd (aW (st x mcs)) (eV _ _ λy hy=>st y (mcm hy))⟩else none
noncomputable def kE_mt{t:_}{a}{es}{o}{f}{ap:_}{x:_}{xs:_}{cp:_}(r1:CkE m a o)(r2:eA m es (x::xs)):CkE m (.mt t a es) (.Call (.Attribute o f ap) (x::xs) [] cp):=if h:(f==t.name&&ap.endLine==cp.line&&decide ((x::xs).length<30)&&jS o&&(r1.isSome&&r2.isSome))=true then some ⟨λS=>by
 simp only[aSJ,aRN,aTC]at h;obtain⟨⟨⟨⟨rfl,hl⟩,h30⟩,hc⟩,h1,h2⟩:=h;have st:=gSt h2;cases t with
 | join => exact n6 (.inl rfl) aWN PySem.F.slot_str_join PySem.F.type_str_join aG2 (got h1 S) (gEs h2 S) (fJ hc) (by
     rw[fH _ _ st];show(true&&true&&decide ((x::xs).length+0+0<30))=true
     rw[aSS (by simpa using h30)];rfl) (aRN.mpr hl) (aW (st x mcs)) (eV _ _ λy hy=>st y (mcm hy))
 | joinT => exact n6 (.inl rfl) aWN PySem.F.slot_str_join PySem.F.type_str_join aJE (got h1 S) (gEs h2 S) (fJ hc) (by
     rw[fH _ _ st];show(true&&true&&decide ((x::xs).length+0+0<30))=true
     rw[aSS (by simpa using h30)];rfl) (aRN.mpr hl) (aW (st x mcs)) (eV _ _ λy hy=>st y (mcm hy))
 | startswith => exact n6 (.inl rfl) aWN PySem.F.slot_str_startswith PySem.F.type_str_startswith aIM (got h1 S) (gEs h2 S) (fJ hc) (by
     rw[fH _ _ st];show(true&&true&&decide ((x::xs).length+0+0<30))=true
     rw[aSS (by simpa using h30)];rfl) (aRN.mpr hl) (aW (st x mcs)) (eV _ _ λy hy=>st y (mcm hy))
 | removeprefix => exact n6 (.inl rfl) aWN PySem.F.slot_str_removeprefix PySem.F.type_str_removeprefix aIO (got h1 S) (gEs h2 S) (fJ hc) (by
     rw[fH _ _ st];show(true&&true&&decide ((x::xs).length+0+0<30))=true
     rw[aSS (by simpa using h30)];rfl) (aRN.mpr hl) (aW (st x mcs)) (eV _ _ λy hy=>st y (mcm hy))⟩else none
noncomputable def aMC{t:_}{es}{f}{p1:_}{x:_}{xs:_}{p4}(r1:eA m es (x::xs)):CkE m (.tcall t es) (.Call (.Name f p1) (x::xs) [] p4):=if h:(f==(t.id:Str)&&m.glob f .no&&r1.isSome)=true then some ⟨λS=>by
 simp only[aSJ,aRN]at h;obtain⟨⟨rfl,h1⟩,h2⟩:=h;obtain⟨gl,l,hd,hn⟩:=S.gl h1;exact aHS (aLL t) gl (S.no _ l) (zP t) (gEs h2 S) hn hd (gSt h2)⟩else none
noncomputable def aMD{a}{f}{es}{o}{g:_}{ap:_}{xs:_}{cp:_}(r1:CkE m a o)(r2:eA m es xs):CkE m (.meth a f es) (.Call (.Attribute o g ap) xs [] cp):=if h:(m.calm&&g==f&&ap.endLine==cp.line&&decide (xs.length<30)&&jS o&&(r1.isSome&&r2.isSome))=true then some ⟨λS=>by
 simp only[aSJ,aRN,aTC]at h;obtain⟨⟨⟨⟨⟨hq,rfl⟩,h1⟩,h2⟩,h3⟩,h4,h5⟩:=h;exact aHF S.mt (S.rm hq) (S.xo hq) (got h4 S) (gEs h5 S) h3 (gSt h5) h2 h1 λe0=>by
  subst e0;cases es with
  |nil=>funext ρ;simp only[bN]
  |cons _ _=>cases got h5⟩else none
noncomputable def aME{c:_}{f}{p1:_}{p2:_}:CkE m (.mk0 c) (.Call (.Name f p1) [] [] p2):=if h:(f==c&&m.glob f .cls&&m.g.mk0.contains f)=true then some ⟨λS=>by
 simp only[aSJ,aRN,aWO]at h;obtain⟨⟨rfl,h1⟩,h2⟩:=h;obtain⟨gl,l,hd,hn⟩:=S.gl h1;exact aHI (S.mk0 _ h2) gl hd⟩else none
noncomputable def aMF{el}{it:_}{ts}{aE:_}{t:_}{n:_}{elt:_}{tg:_}{aT:_}{ifs:_}{scope:_}{cp:_}(r1:CkI m tg it aT)(r2:CkE (m.sub scope (aE.filterMap λi=>m.N[i]?) (fM 4 tg)) el elt)(r3:CkF (m.sub scope (aE.filterMap λi=>m.N[i]?) (fM 4 tg)) ts ifs):CkE m (.comp el it ts aE t n) (.ListComp elt [⟨tg,aT,ifs,0⟩] scope cp):=if h:(m.calm&&oZ scope m.sc m.N aE (aE.filterMap λi=>m.N[i]?) (fM 4 tg)&&e9 aT&&decide ((fM 4 tg).length=n)&&(dY t).all (λj=>decide (aE.length<=j))&&mG (m.sub scope (aE.filterMap λi=>m.N[i]?) (fM 4 tg)) t tg&&(r1.isSome&&(r2.isSome&&r3.isSome)))=true then some ⟨λ{k}{W}{C}{X} S=>by
 simp only[aSJ,aTC,aV8]at h;obtain⟨⟨⟨⟨⟨⟨hq,ho⟩,hn⟩,hl⟩,hs⟩,hg⟩,h1,h2,h3⟩:=h;unfold oZ at ho;simp only[aSJ,aV8,aTE,aWM,aRN,aTC,aWO]at ho;obtain⟨⟨⟨⟨⟨⟨⟨g1,g2⟩,g3⟩,g4⟩,g5⟩,g6⟩,g7⟩,g8⟩:=ho;have er:(relabel scope X.env).names=lO scope m.sc:=by rw[<- S.hs];rfl
 have := aH4 (pos := cp) (tgN := fM 4 tg) (t := t) (S.cm hq) (got h1 S) g1 g2 (fun y hy e => (g3 y hy).resolve_left fun z => z e) (fun y hy e => by
     have:=g4 y hy;show X.env.scope.names.lookup y.1=_\/X.env.scope.names.lookup y.1=_;rw[S.hs];rcases this with(z|z)|z
     . exact absurd e z
     . exact .inl z
     . exact .inr z) (by rw[S.hN];exact g5) g6 (λy hy=>by rw[er];exact g7 y hy) (λj hj=>hs j hj) (λcl A fp s3 H3=>sG (S.sub cl A fp s3 H3) g8 t hg)
     (λcl A fp s3 H3=>gF h3 (S.sub cl A fp s3 H3)) (λcl A fp s3 H3=>got h2 (S.sub cl A fp s3 H3)) (iC hn)
 rw[hl]at this;exact this⟩else none
noncomputable def aMG{p0}:CkE m (.nnew) (.Dict [] [] p0):=if h:(true)=true then some ⟨λS=>by
 exact aJU⟩else none
noncomputable def aMH{a}{b:_}{x:_}{y:_}{p2:_}(r1:CkE m a x)(r2:CkE m b y):CkE m (.nix a b) (.Subscript x y p2):=if h:(sK y&&(r1.isSome&&r2.isSome))=true then some ⟨λS=>by
 simp only[aSJ]at h;obtain⟨h0,h1,h2⟩:=h;exact aJV S.un (got h1 S) (got h2 S) (zS h0)⟩else none
noncomputable def aMI{a}{b:_}{d}{o}{f}{ap:_}{x:_}{y:_}{cp:_}(r1:CkE m a o)(r2:CkE m b x)(r3:CkE m d y):CkE m (.nget a b d) (.Call (.Attribute o f ap) [x,y] [] cp):=if h:(f == "get" && ap.endLine==cp.line&&jS o&&bQ x&&bQ y&&(r1.isSome&&(r2.isSome&&r3.isSome)))=true then some ⟨λS=>by
 simp only[aSJ,aRN]at h;obtain⟨⟨⟨⟨⟨rfl,hl⟩,hc⟩,hs⟩,hs2⟩,h1,h2,h3⟩:=h;exact aJX S.un (got h1 S) (got h2 S) (got h3 S) ⟨fJ hc,by
  rw[fH _ _ (λz hz=>by
   simp only[aQZ,aT5,aT6]at hz;rcases hz with rfl|rfl
   . exact hs
   . exact hs2)];rfl,aRN.mpr hl,by rw[aW hs,aW hs2];rfl⟩⟩else none
noncomputable def aMJ{a}{f}{p1:_}{x:_}{p3}(r1:CkE m a x):CkE m (.srtw a) (.Call (.Name f p1) [x] [] p3):=if h:(f == "sorted" && m.glob f .no&&bQ x&&r1.isSome)=true then some ⟨λS=>by
 simp only[aSJ,aRN]at h;obtain⟨⟨⟨rfl,h1⟩,hs⟩,h2⟩:=h;obtain⟨gl,l,hd,hn⟩:=S.gl h1;exact wM (aKC S.un) gl (S.no _ l) xX (qH (got h2 S) qG (aW hs)) hn hd (aW hs) rfl⟩else none
noncomputable def aMK{a}{f}{p1:_}{g:_}{p3}{x:_}{p5}{p6}(r1:CkE m a x):CkE m (.us2 a) (.Call (.Name f p1) [.Call (.Name g p3) [x] [] p5] [] p6):=if h:(m.calm&&f == "sorted" && g == "set" && m.glob f .no&&m.glob g .no&&bQ x&&r1.isSome)=true then some ⟨λS=>by
 simp only[aSJ,aRN]at h;obtain⟨⟨⟨⟨⟨⟨hq,rfl⟩,rfl⟩,h1⟩,h2⟩,s1⟩,h3⟩:=h;obtain⟨gl,l,hd,hn⟩:=S.gl h1;obtain⟨gl',l',hd',hn'⟩:=S.gl h2;exact aKX S.un (S.cm hq) gl (S.no _ l) gl' (S.no _ l') (got h3 S) s1⟩else none
noncomputable def aML{f a s p f' p1 x p2 p3 pos:_}(r1:CkE m a x):CkE m (.seenE f a) (.Call (.Name s p) [.Call (.Name f' p1) [x,.Dict [] [] p2] [] p3] [] pos):=if h:(m.calm&&s == "sorted" && m.glob s .no&&f'==f&&m.glob f (.fn 2)&&m.g.sn.contains f&&bQ x&&r1.isSome)=true then some ⟨λS=>by
 simp only[aSJ,aRN]at h;obtain⟨⟨⟨⟨⟨⟨⟨hq,rfl⟩,h1⟩,rfl⟩,h2⟩,hs⟩,s1⟩,h3⟩:=h;obtain⟨gl,l,hd,hn⟩:=S.gl h1;obtain⟨gl',l',hd',hn'⟩:=S.gl h2;exact aLH (S.sm _ (aWO.mp hs)) (S.rm hq) (S.xo hq) gl' hd' (S.cm hq) gl (S.no _ l) (got h3 S) s1⟩else none
noncomputable def sM(N ps:List Str)(sc:Scope):Bool:=sc.kind == .function&&!sc.isCoroutine&&!sc.isGenerator&&decide N.Nodup&&(N.take ps.length==ps)&&ps.all (λx=>sc.names.lookup x==some .local||sc.names.lookup x==some .cell)&&sc.names.all (λy=>y.2 != .free)
def zT{N:List Str}(h:sM N ps sc=true):lA N ps sc:=by unfold sM at h;simp only[aSJ,aV8,aTE,aWM,aRN,aTC,aVT]at h;obtain⟨⟨⟨⟨⟨⟨h1,h2⟩,h3⟩,h4⟩,h5⟩,h6⟩,h7⟩:=h;exact⟨h1,h2,h3,h4,h5,h6,h7⟩
noncomputable def aMM{a}{x:_}{k}{p2:_}(r1:CkE m a x):CkE m (.fmt a) (.FormattedValue x k none p2):=if h:(k == -1&&r1.isSome)=true then some ⟨λS=>by
 simp only[aSJ,aRN]at h;obtain⟨rfl,h⟩:=h;exact aH6 (got h S)⟩else none
noncomputable def aMN{es}{x:_}{y:_}{xs:_}{p3}(r1:eA m es (x::y::xs)):CkE m (.fstr es) (.JoinedStr (x::y::xs) p3):=if h:(r1.isSome)=true then some ⟨λS=>by
 exact aH7 (gL h S)⟩else none
noncomputable def aMO{op}{a}{b:_}{x:_}{o}{y:_}{p3}(r1:CkE m a x)(r2:CkE m b y):CkT m (.cmp op a b) (.Compare x [o] [y] p3):=if h:(o==op&&e9 y&&(r1.isSome&&r2.isSome))=true then some ⟨λ{k}{W}{C}{X} S=>by
 simp only[aSJ,aRN]at h;obtain⟨⟨rfl,hs⟩,h1,h2⟩:=h;exact aFU (sL _ S.un).1 (sL (C:=C) _ S.un).2 (got h1 S) (got h2 S) (zR _ hs)⟩else none
noncomputable def aMP{es}{xs:_}{p1:_}(r1:CkF m es xs):CkT m (.andL es) (.BoolOp .And xs p1):=if h:(r1.isSome)=true then some ⟨λS=>by
 exact pt_w (gWA h S)⟩else none
noncomputable def aMQ{es}{xs:_}{p1:_}(r1:CkF m es xs):CkT m (.orL es) (.BoolOp .Or xs p1):=if h:(r1.isSome)=true then some ⟨λS=>by
 exact pt_w (gWO h S)⟩else none
noncomputable def aMR{a}{x:_}{p1:_}(r1:CkT m a x):CkT m (.not a) (.UnaryOp .Not x p1):=if h:(r1.isSome)=true then some ⟨λS=>by
 exact aFV (got h S)⟩else none
noncomputable def aMS{tg0}{a}{f}{p1:_}{x:_}{p3}(r1:CkE m a x):CkI m tg0 (.rng1 a) (.Call (.Name f p1) [x] [] p3):=if h:(f == "range" && m.glob f .no&&bQ x&&r1.isSome)=true then some ⟨λS=>by
 simp only[aSJ,aRN]at h;obtain⟨⟨⟨rfl,h1⟩,h2⟩,h3⟩:=h;obtain⟨gl,l,hd,hn⟩:=S.gl h1;exact aGN gl (S.no _ l) (qH (got h3 S) qG (aW h2)) (aW h2)⟩else none
noncomputable def kEs{f fs x xs:_}(r1:CkE m f x)(r2:eA m fs xs):eA m (f::fs) (x::xs):=if h:(bQ x&&r1.isSome&&r2.isSome)=true then some ⟨by
 simp only[aSJ]at h;exact .cons h.1.1 (@got _ r1 h.1.2) (got h.2)⟩else none
noncomputable def kO{f x:_}(r1:CkE m f x):CkO m (some f) (some x):=if h:r1.isSome=true then some ⟨λS=>by simp only[evO];exact got h S⟩else none
noncomputable def kF{f fs x xs:_}(r1:CkT m f x)(r2:CkF m fs xs):CkF m (f::fs) (x::xs):=if h:(r1.isSome&&r2.isSome)=true then some ⟨by
 simp only[aSJ]at h;exact .cons (@got _ r1 h.1) (got h.2)⟩else none
set_option maxHeartbeats 4000000 in
mutual
noncomputable def ckE:(m:MC)->(f:E)->(e:Expr)->CkE m f e
 |m,.frz a,e=>aLT (ckE m a e)
 |m,.never,e=>some ⟨λ_=>aLQ⟩
 |m,.var i,e=>match e with|.Name x p1=>aLX|_=>none
 |m,.glob y c,e=>match e with|.Name x p1=>aLY|_=>none
 |m,.ty t,e=>match e with|.Name x p1=>kE_ty|_=>none
 |m,.non,e=>match e with|.Constant .none p0 p1=>aLZ|_=>none
 |m,.bl c,e=>match e with|.Constant (.bool b) p1 p2=>kE_bl|_=>none
 |m,.int c,e=>match e with|.Constant (.int b) p1 p2=>aL0|_=>none
 |m,.str c,e=>match e with|.Constant (.str b) p1 p2=>aL1|_=>none
 |m,.bin op a b,e=>match e with|.BinOp x o y p3=>aL2 (ckE m a x) (ckE m b y)|_=>none
 |m,.cmp op a b,e=>match e with|.Compare x [o] [y] p3=>aL3 (ckE m a x) (ckE m b y)|_=>none
 |m,.andL es,e=>match e with|.BoolOp .And xs p1=>aL4 (fN m es xs)|_=>none
 |m,.orL es,e=>match e with|.BoolOp .Or xs p1=>aL5 (fN m es xs)|_=>none
 |m,.not a,e=>match e with|.UnaryOp .Not x p1=>aL6 (ckE m a x)|_=>none
 |m,.slice a l u,e=>match e with|.Subscript x (.Slice lo hi none p3) p4=>aL7 (ckE m a x) (ckO m l lo) (ckO m u hi)|_=>none
 |m,.ix a b,e=>match e with|.Subscript x y p2=>kE_ix (ckE m a x) (ckE m b y)|_=>none
 |m,.tup es,e=>match e with|.Tuple es0 p1 p2=>aL8 (fN m es es0)|_=>none
 |m,.lst es,e=>match e with|.List es0 p1=>aL9 (fN m es es0)|_=>none
 |m,.call g n es,e=>match e with|.Call (.Name f p) (x::xs) [] cp=>aMA (fN m es (x::xs))|_=>none
 |m,.bcall b es,e=>match e with|.Call (.Name f p) (x::xs) [] cp=>aMB (fN m es (x::xs))|_=>none
 |m,.mt t a es,e=>match e with|.Call (.Attribute o f ap) (x::xs) [] cp=>kE_mt (ckE m a o) (fN m es (x::xs))|_=>none
 |m,.tcall t es,e=>match e with|.Call (.Name f p1) (x::xs) [] p4=>aMC (fN m es (x::xs))|_=>none
 |m,.meth a f es,e=>match e with|.Call (.Attribute o g ap) xs [] cp=>aMD (ckE m a o) (fN m es xs)|_=>none
 |m,.mk0 c,e=>match e with|.Call (.Name f p1) [] [] p2=>aME|_=>none
 |m,.nnew,e=>match e with|.Dict [] [] p0=>aMG|_=>none
 |m,.us2 a,e=>match e with|.Call (.Name f p1) [.Call (.Name g p3) [x] [] p5] [] p6=>aMK (ckE m a x)|_=>none
 |m,.seenE f a,e=>match e with|.Call (.Name s p) [.Call (.Name f' p1) [x,.Dict [] [] p2] [] p3] [] pos=>aML (ckE m a x)|_=>none
 |m,.srtw a,e=>match e with|.Call (.Name f p1) [x] [] p3=>aMJ (ckE m a x)|_=>none
 |m,.nix a b,e=>match e with|.Subscript x y p2=>aMH (ckE m a x) (ckE m b y)|_=>none
 |m,.comp el it ts aE t n,e=>match e with|.ListComp elt [⟨tg,aT,ifs,0⟩] scope cp=>aMF (ckI m tg it aT) (ckE (m.sub scope (aE.filterMap λi=>m.N[i]?) (fM 4 tg)) el elt) (ckF (m.sub scope (aE.filterMap λi=>m.N[i]?) (fM 4 tg)) ts ifs)|_=>none
 |m,.nget a b d,e=>match e with|.Call (.Attribute o f ap) [x,y] [] cp=>aMI (ckE m a o) (ckE m b x) (ckE m d y)|_=>none
 |m,.fmt a,e=>match e with|.FormattedValue x k none p2=>aMM (ckE m a x)|_=>none
 |m,.fstr es,e=>match e with|.JoinedStr (x::y::xs) p3=>aMN (fN m es (x::y::xs))|_=>none
 |_,.tru _,_=>none
 |_,.items _,_=>none
 |_,.nkeys _,_=>none
 |_,.rng1 _,_=>none
noncomputable def ckT:(m:MC)->(f:E)->(e:Expr)->CkT m f e
 |m,.tru a,e=>aLU (ckE m a e)
 |m,.never,e=>some ⟨λ_=>aLR⟩
 |m,.cmp op a b,e=>match e with|.Compare x [o] [y] p3=>aMO (ckE m a x) (ckE m b y)|_=>none
 |m,.andL es,e=>match e with|.BoolOp .And xs p1=>aMP (ckF m es xs)|_=>none
 |m,.orL es,e=>match e with|.BoolOp .Or xs p1=>aMQ (ckF m es xs)|_=>none
 |m,.not a,e=>match e with|.UnaryOp .Not x p1=>aMR (ckT m a x)|_=>none
 |_,_,_=>none
noncomputable def ckI:(m:MC)->(tg:Expr)->(f:E)->(e:Expr)->CkI m tg f e
 |m,tg,.items a,e=>aLV (ckE m a e)
 |m,tg,.nkeys a,e=>aLW (ckE m a e)
 |m,tg,.never,e=>some ⟨λ_=>aLS⟩
 |m,tg0,.rng1 a,e=>match e with|.Call (.Name f p1) [x] [] p3=>aMS (ckE m a x)|_=>none
 |_,_,_,_=>none
noncomputable def fN:(m:MC)->(fs:List E)->(es:List Expr)->eA m fs es
 |m,[],es=>match es with|[]=>some ⟨.nil⟩|_=>none
 |m,f::fs,l=>match l with|x::xs=>kEs (ckE m f x) (fN m fs xs)|_=>none
noncomputable def ckO:(m:MC)->(f:Option E)->(e:Option Expr)->CkO m f e
 |m,none,e=>match e with|none=>some ⟨λ_=>True.intro⟩|_=>none
 |m,some f,l=>match l with|some x=>kO (ckE m f x)|_=>none
noncomputable def ckF:(m:MC)->(fs:List E)->(es:List Expr)->CkF m fs es
 |m,[],es=>match es with|[]=>some ⟨.nil⟩|_=>none
 |m,f::fs,l=>match l with|x::xs=>kF (ckT m f x) (ckF m fs xs)|_=>none
end
noncomputable def mE(m:MC)(f:E)(e:Expr):Bool:=(ckE m f e).isSome
noncomputable def mT(m:MC)(f:E)(e:Expr):Bool:=(ckT m f e).isSome
noncomputable def mI(m:MC)(tg:Expr)(f:E)(e:Expr):Bool:=(ckI m tg f e).isSome
noncomputable def mF(m:MC)(f:List E)(e:List Expr):Bool:=(ckF m f e).isSome
section
variable {k:Nat}{W:WD}
def sE(f:E)(S:SX k W m C X)(h:mE m f e=true):PV C X e (evE W f):=got h S
def sT(f:E)(S:SX k W m C X)(h:mT m f e=true):PTv C X e (evE W f):=got h S
def sI(f:E)(S:SX k W m C X)(h:mI m tg f e=true):PIv C X tg e (evE W f):=got h S
def sF(fs:List E){es:List Expr}(S:SX k W m C X)(h:mF m fs es=true):dJ X es (tT (C.at X) (evF W fs)):=gF h S
end
noncomputable def mN(W:WD)(f:Str):FMz KD:=cH (.tp [.nm 2,.nm 3,.nm 4]) (evE W (.items (.var 0))) (eZ (cH (.nm 5) (evE W (.items (.var 2))) i9) (cH (.nm 6) (evE W (.items (.var 3))) (kA (W.Ms f))))
noncomputable def f9(W:WD):FM:=eZ mJ (cH (.tp [.nm 4,.nm 5,.nm 6]) (evE W (.items (.var 3))) (eZ mH (cH (.nm 7) (evE W (.items (.var 4))) j8)))
inductive G where|app (k v:E)|for (it:E) (t:Tg) (g:G)
inductive S where
 |ret (e:E)|retV (i:Nat)|set (i:Nat) (e:E)|ite (c:E) (a b:List S)|for (it:E) (t:Tg) (body:List S)
 |never
 |app (i:Nat) (e:E)|ins (i:Nat) (k e:E)|setC (i:Nat) (fz:Bool) (e:E)|nput (i:Nat) (k e:E)|frzV (i:Nat)|nfrz (i:Nat)|fin|seen (f:Str)
mutual
noncomputable def evS(W:WD):S->Rho->aG
 |.ret e,ρ=>jP (evE W e ρ) ρ
 |.retV i,ρ=>fF ρ i
 |.set i e,ρ=>eU ρ i (evE W e ρ)
 |.ite c a b,ρ=>ifS (evE W c ρ) ρ (evB W a ρ) (evB W b ρ)
 |.for it t body,ρ=>dI (evE W it ρ) ρ (aP t) (evB W body)
 |.app i e,ρ=>dM ρ i (evE W e ρ)
 |.ins i k e,ρ=>gN ρ i (evE W k ρ) (evE W e ρ)
 |.frzV i,ρ=>iU ρ i
 |.nfrz i,ρ=>j6 ρ i
 |.fin,ρ=>gW (f9 W) ρ
 |.seen _,_=>.stuck
 |.nput i k e,ρ=>lZ ρ i (evE W k ρ) (evE W e ρ)
 |.setC i fz e,ρ=>eU ρ i (if fz=true then aZ (evE W e ρ)else evE W e ρ)
 |.never,_=>.stuck
noncomputable def evB(W:WD):List S->Rho->aG
 |[],ρ=>.nx ρ
 |s::r,ρ=>(evS W s ρ).thn (evB W r)
end
noncomputable def o3:Expr->Bool|.ListComp ..=>false|.SetComp ..=>false|.DictComp ..=>false|_=>true
noncomputable def mC(m:MC)(elt:Expr)(scope:Scope):E->List Comprehension->Bool
 |.comp el it ts aE t n,gens=>match gens with
  |[⟨tg,aT,ifs,0⟩] =>
   let aI:=aE.filterMap λi=>m.N[i]?
   let tgN:=fM 4 tg
   m.calm&&oZ scope m.sc m.N aE aI tgN&&e9 aT&&decide (tgN.length=n)&&(dY t).all (λj=>decide (aE.length<=j))&&mG (m.sub scope aI tgN) t tg&&(mI m tg it aT&&(mE (m.sub scope aI tgN) el elt&&mF (m.sub scope aI tgN) ts ifs))
  |_=>false
 |_,_=>false
def kE{t:Option Expr}(h:o3 e=true):swapsWith e t n env=pure false:=by cases e <;> first|rfl|cases h
def aMT(hs:env.scope=m.sc)(h:(o3 e||m.kind x==some .cell)=true):swapsWith e (some (.Name x p)) n env=pure false:=by
 rw[aTE,aRN]at h;rcases h with h|h
 . exact kE h
 . have hk:env.kindOf x=some .cell:=by show env.scope.names.lookup x=_;rw[hs];exact h
   unfold swapsWith;have kc:(NameKind.cell==NameKind.local)=false:=by decide
   cases e <;> first|rfl|(simp[hk,kc])
def aMU:PSv C X st (λ_=>.stuck):=λaA s σ H En I q=>by obtain⟨ρ,F,R,w⟩:=q;exact w.elim
section
variable {k:Nat}{W:WD}
structure SB(k:Nat)(W:WD)(m:MC)(C:Cw)(X:Cx):Prop extends SX k W m C X where
 nd:m.N.Nodup
 hp:PassesOwn (model X.prog X.w) X.A X.env X.xe
 ro:m.rz=true->RzOk (C.at X) X/\FnCx X/\XOk (HX1 X.prog X.w) (C.at X) X
end
def aMV{k:Nat}{W:WD}(S:SB k W m C X)(fz:Bool){el it:E}{ts:List E}{px sp:Pos}{gens:List Comprehension}(h1:m.N[i]? = some x)(h2:m.kind x=some .local)(h3:m.sc.kind=.function)(h4:px.line=cp.line)(h5:(scope.names.any λy=>y.1==x&&(y.2 == .local||y.2 == .cell))=false)(h:mC m elt scope (.comp el it ts aE t n) gens=true):PSv C X (.Assign [.Name x px] (.ListComp elt gens scope cp) sp) (λρ=>eU ρ i (if fz=true then aZ (evE W (.comp el it ts aE t n) ρ)else evE W (.comp el it ts aE t n) ρ)):=by
 have hk:X.env.scope.names.lookup x=some .local:=by rw[S.hs];exact h2
 conv at h=>lhs;whnf
 split at h
 . rename_i tg aT ifs;simp only[aSJ,aTC,aV8]at h;obtain⟨⟨⟨⟨⟨⟨hq,ho⟩,hn⟩,hl⟩,hs⟩,hg⟩,k1,k2,k3⟩:=h;unfold oZ at ho;simp only[aSJ,aV8,aTE,aWM,aRN,aTC,aWO]at ho;obtain⟨⟨⟨⟨⟨⟨⟨g1,g2⟩,g3⟩,g4⟩,g5⟩,g6⟩,g7⟩,g8⟩:=ho;have er:(relabel scope X.env).names=lO scope m.sc:=by rw[<- S.hs];rfl
   have bk:X.env.blockKind=.function:=by unfold Env.blockKind;rw[S.hs,h3];rfl
   have hsw:swapsWith (.ListComp elt [⟨tg,aT,ifs,0⟩] scope cp) (some (.Name x px)) sp.line X.env=pure true:=by
    have kx:X.env.kindOf x=some .local:=hk;unfold swapsWith;have k1:(ScopeKind.function==ScopeKind.function)=true:=by decide
    have k2:(some NameKind.local==some NameKind.local)=true:=by decide
    simp only[bk,kx,Expr.pos,h4,h5,k1,k2,aTU];rfl
   have := aH5 fz (pos := cp) (pos' := px) (spos := sp) (i := i) (x := x) (tgN := fM 4 tg) (t := t) (S.cm hq) (sI it S.toSX k1) g1 g2 (fun y hy e => (g3 y hy).resolve_left fun z => z e) (fun y hy e => by
       have:=g4 y hy;show X.env.scope.names.lookup y.1=_\/X.env.scope.names.lookup y.1=_;rw[S.hs];rcases this with(z|z)|z
       . exact absurd e z
       . exact .inl z
       . exact .inr z) (by rw[S.hN];exact g5) g6 (λy hy=>by rw[er];exact g7 y hy) (λj hj=>hs j hj) (λcl A fp s3 H3=>sG (S.toSX.sub cl A fp s3 H3) g8 t hg)
       (λcl A fp s3 H3=>sF ts (S.toSX.sub cl A fp s3 H3) k3) (λcl A fp s3 H3=>sE el (S.toSX.sub cl A fp s3 H3) k2) (by rw[S.hN];exact S.nd) (by rw[S.hN];exact h1) hk hsw (iC hn)
   rw[hl]at this;exact this
 . cases h
abbrev CkS(m:MC)(f:D3.S)(st:Stmt):Type:=Option (PLift (∀{k:Nat}{W:WD}{C:Cw}{X:Cx},SB k W m C X->PSv C X st (evS W f)))
abbrev CkB(m:MC)(f:List D3.S)(sts:List Stmt):Type:=Option (PLift (∀{k:Nat}{W:WD}{C:Cw}{X:Cx},SB k W m C X->PBv C X sts (evB W f)))
noncomputable def aMW{f}{e:_}{p1:_}:CkS m (.ret f) (.Return (some e) p1):=if h:(mE m f e)=true then some ⟨λS=>by
 exact aGE (sE f S.toSX h)⟩else none
noncomputable def aMX{i:_}{x:_}{p1:_}{p2:_}:CkS m (.retV i) (.Return (some (.Name x p1)) p2):=if h:(m.N[i]?==some x&&m.vis x)=true then some ⟨λS=>by
 simp only[aSJ,aRN]at h;obtain⟨h1,h2,h3⟩:=S.toSX.vis h.2
 exact aGF i (jI (by rw[S.hN];exact h.1) h1 h2 h3)⟩else none
noncomputable def aMY{i:_}{f}{x:_}{p1:_}{e:_}{p3}:CkS m (.set i f) (.Assign [.Name x p1] e p3):=if h:(m.loc i x&&(o3 e||m.kind x==some .cell)&&mE m f e)=true then some ⟨λS=>by
 simp only[aSJ]at h;obtain⟨⟨h1,h2⟩,h3⟩:=h;obtain⟨b,c,d⟩:=S.toSX.loc h1
 exact aGH (by rw[S.hN];exact S.nd) b c (sE f S.toSX h3) (aMT S.hs h2) d⟩else none
noncomputable def aMZ{i:_}{f}{g:_}{x:_}{p1:_}{k}{p3}{e:_}{p5}:CkS m (.nput i f g) (.Assign [.Subscript (.Name x p1) k p3] e p5):=if h:(m.N[i]?==some x&&m.vis x&&o3 e&&mE m f k&&mE m g e)=true then some ⟨λS=>by
 simp only[aSJ,aRN]at h;obtain⟨⟨⟨⟨h1,h2⟩,h3⟩,h4⟩,h5⟩:=h;obtain⟨v1,v2,v3⟩:=S.toSX.vis h2
 exact aJZ i S.un (jI (by rw[S.hN];exact h1) v1 v2 v3) (sE f S.toSX h4) (sE g S.toSX h5) (kE h3)⟩else none
noncomputable def aM0{i:_}{fz}{f}{x:_}{px}{elt:_}{gens}{scope:_}{cp:_}{p6}:CkS m (.setC i fz f) (.Assign [.Name x px] (.ListComp elt gens scope cp) p6):=if h:(m.N[i]?==some x&&m.kind x==some .local&&m.sc.kind == .function&&px.line==cp.line&&!(scope.names.any λy=>y.1==x&&(y.2 == .local||y.2 == .cell))&&mC m elt scope f gens)=true then some ⟨λS=>by
 simp only[aSJ,aRN,aVT]at h;obtain⟨⟨⟨⟨⟨h1,h2⟩,h3⟩,h4⟩,h5⟩,h7⟩:=h;cases f with
 |comp el it ts aE t n=>exact aMV S fz h1 h2 h3 h4 h5 h7
 |_=>cases h7⟩else none
noncomputable def aM1{f}{a}{b:_}{c:_}{x:_}{y:_}{p3}(r1:CkB m a x)(r2:CkB m b y):CkS m (.ite f a b) (.If c x y p3):=if h:(mT m f c&&(r1.isSome&&r2.isSome))=true then some ⟨λS=>by
 simp only[aSJ]at h;obtain⟨h1,h2,h3⟩:=h;exact aGG (sT f S.toSX h1) (got h2 S) (got h3 S)⟩else none
noncomputable def aM2{f}{t:_}{b:_}{tg:_}{e:_}{body:_}{p3}(r1:CkB m b body):CkS m (.for f t b) (.For tg e body [] p3):=if h:(m.calm&&mG m t tg&&e9 e&&(mI m tg f e&&r1.isSome))=true then some ⟨λS=>by
 simp only[aSJ]at h;obtain⟨⟨⟨hq,h1⟩,h2⟩,h3,h4⟩:=h;exact aGO S.hp (S.cm hq) (sI f S.toSX h3) (aH3 (sG S.toSX S.nd t h1)) (got h4 S) (iC h2)⟩else none
noncomputable def aM3{i:_}{f}{x:_}{p1:_}{a}{ap:_}{e:_}{cp:_}{p6}:CkS m (.app i f) (.Expr (.Call (.Attribute (.Name x p1) a ap) [e] [] cp) p6):=if h:(m.N[i]?==some x&&m.vis x&&a == "append" && ap.endLine==cp.line&&bQ e&&mE m f e)=true then some ⟨λS=>by
 simp only[aSJ,aRN]at h;obtain⟨⟨⟨⟨⟨h1,h2⟩,rfl⟩,h3⟩,h4⟩,h5⟩:=h;obtain⟨v1,v2,v3⟩:=S.toSX.vis h2
 exact aIF i (jI (by rw[S.hN];exact h1) v1 v2 v3) (sE f S.toSX h5) h4 h3⟩else none
noncomputable def aM4{i:_}{g:_}{f}{x:_}{p1:_}{a}{ap:_}{ke:_}{e:_}{cp:_}{p6}:CkS m (.ins i g f) (.Expr (.Call (.Attribute (.Name x p1) a ap) [ke,e] [] cp) p6):=if h:(m.N[i]?==some x&&m.vis x&&a == "insert" && ap.endLine==cp.line&&bQ ke&&bQ e&&mE m g ke&&mE m f e)=true then some ⟨λS=>by
 simp only[aSJ,aRN]at h;obtain⟨⟨⟨⟨⟨⟨⟨h1,h2⟩,rfl⟩,h3⟩,h4⟩,h5⟩,h6⟩,h7⟩:=h;obtain⟨v1,v2,v3⟩:=S.toSX.vis h2
 exact aIK i (jI (by rw[S.hN];exact h1) v1 v2 v3) (sE g S.toSX h6) (sE f S.toSX h7) h4 h5 h3⟩else none
def aM5{k:Nat}{W:WD}(S:SB k W m C X):PBv C X [] (evB W []):=by
 have:evB W []=λρ=>.nx ρ:=by funext ρ;simp only[evB]
 rw[this];exact aGB
noncomputable def aM6{i fs sts:_}(r:CkB m fs sts):CkB m (.frzV i::fs) sts:=if h:r.isSome=true then some ⟨λ{k}{W}{C}{X} S=>by
 have:evB W (.frzV i::fs)=λρ=>(iU ρ i).thn (evB W fs):=by funext ρ;rfl
 rw[this];exact aIQ (got h S)⟩else none
noncomputable def aM7{i fs sts:_}(r:CkB m fs sts):CkB m (.nfrz i::fs) sts:=if h:r.isSome=true then some ⟨λ{k}{W}{C}{X} S=>by
 have:evB W (.nfrz i::fs)=λρ=>(j6 ρ i).thn (evB W fs):=by funext ρ;rfl
 rw[this];exact aKJ (got h S)⟩else none
def MC.at(m:MC)(i:Nat)(x:Str):Bool:=m.N[i]?==some x&&m.vis x
def SX.pn{k:Nat}{W:WD}(S:SX k W m C X)(h:m.at i x=true):L2.PE X (.Name x p) (bX i):=by unfold MC.at at h;rw[aSJ,aRN]at h;obtain⟨v1,v2,v3⟩:=S.vis h.2;exact jI (by rw[S.hN];exact h.1) v1 v2 v3
abbrev sN(m:MC)(f:Str)(s1:Stmt)(y:Str)(p:Pos):Type:=Option (PLift (∀{k:Nat}{W:WD}{C:Cw}{X:Cx},SB k W m C X->PDs C X s1 (mN W f)/\L2.PE X (.Name y p) (bX 1)))
noncomputable def kSn{f y p tg e t5 e2 x1 a1 x5 a2 a3 x4 a4 a5 a6 t6 e3 f' b1 x6 b2 x1' b3 b4 b5 b6 b7:_}:sN m f (.For tg e [.For t5 e2 [.Assign [.Subscript (.Name x1 a1) (.Name x5 a2) a3] (.Name x4 a4) a5] [] a6,.For t6 e3 [.Expr (.Call (.Name f' b1) [.Name x6 b2,.Name x1' b3] [] b4) b5] [] b6] [] b7) y p :=
 if h:(m.calm&&(mG m (.tp [.nm 2,.nm 3,.nm 4]) tg&&e9 e&&mI m tg (.items (.var 0)) e)&&(mG m (.nm 5) t5&&e9 e2&&mI m t5 (.items (.var 2)) e2)&&(m.at 1 x1&&m.at 5 x5&&m.at 4 x4)&&(mG m (.nm 6) t6&&e9 e3&&mI m t6 (.items (.var 3)) e3)&&(f'==f&&m.glob f (.fn 2)&&m.g.sn.contains f&&m.at 6 x6&&m.at 1 x1'&&m.at 1 y))=true then some ⟨λ{k}{W}{C}{X} S=>by
  simp only[aSJ,aRN]at h;obtain⟨⟨⟨⟨⟨hq,⟨g1,n1⟩,i1⟩,⟨g2,n2⟩,i2⟩,⟨h1,h5⟩,h4⟩,⟨g3,n3⟩,i3⟩,⟨⟨⟨⟨rfl,hg⟩,hs⟩,h6⟩,h1'⟩,hy⟩:=h;obtain⟨gl,_,hd,_⟩:=S.toSX.gl hg;have un:=S.un
  exact⟨sH S.hp (S.cm hq) (sI _ S.toSX i1) (sG S.toSX S.nd _ g1) (by decide) (aLD (sH S.hp (S.cm hq) (sI _ S.toSX i2) (sG S.toSX S.nd _ g2) (by decide) (sD (aLE (by omega) (S.toSX.pn h1) (S.toSX.pn h5) (S.toSX.pn h4) (kE rfl))) (iC n2))
   (sD (sH S.hp (S.cm hq) (sI _ S.toSX i3) (sG S.toSX S.nd _ g3) (by decide) (sD (aLF (S.sm _ (aWO.mp hs)) (S.rm hq) (S.xo hq) gl hd (S.toSX.pn h1') (S.toSX.pn h6))) (iC n3)))) (iC n1),S.toSX.pn hy⟩⟩else none
noncomputable def sO(m:MC)(f:Str)(s1:Stmt)(y:Str)(p:Pos):sN m f s1 y p:=match s1 with
 |.For tg e [.For t5 e2 [.Assign [.Subscript (.Name x1 a1) (.Name x5 a2) a3] (.Name x4 a4) a5] [] a6,.For t6 e3 [.Expr (.Call (.Name f' b1) [.Name x6 b2,.Name x1' b3] [] b4) b5] [] b6] [] b7=>kSn
 |_=>none
def aM8{g:Rho->aG}(h:∀ρ,g ρ=.stuck):PBv C X sts g:=λaA s σ H E I q=>by obtain⟨ρ,F,R,w⟩:=q;rw[h]at w;exact w.elim
noncomputable def sP{f s1 y p q:_}(r:sN m f s1 y p):CkB m [.seen f] [s1,.Return (some (.Name y p)) q]:=if h:r.isSome=true then some ⟨λ{k}{W}{C}{X} S=>aM8 λρ=>rfl⟩else none
noncomputable def aM9 {m : MC} {x p1 s p2 p3 p4 y p7 r p5 p6 q1 ln c1 y2 c2 c3 z0 j c4 c5 t d1 y3 d2 po d3 d4 d5 tg e y4 e1 ex e2 b e3 e4 e5 tg2 e' x2 f1 ad f2 n f3 f4 f5 f6 f7 g1 so g2 x3 g3 g4 g5:_} :
    CkB m [.fin] [.Assign [.Name x p1] (.Call (.Name s p2) [] [] p3) p4,.Assign [.Name y p7] (.List [.Name r p5] p6) q1,.While (.Compare (.Call (.Name ln c1) [.Name y2 c2] [] c3) [.Gt] [.Constant (.int z0) j c4] c5) [.Assign [.Name t d1] (.Call (.Attribute (.Name y3 d2) po d3) [] [] d4) d5,.For tg e [.Expr (.Call (.Attribute (.Name y4 e1) ex e2) [.Name b e3] [] e4) e5,.For tg2 e' [.Expr (.Call (.Attribute (.Name x2 f1) ad f2) [.Name n f3] [] f4) f5] [] f6] [] f7] [] g1,.Return (some (.Call (.Name so g2) [.Name x3 g3] [] g4)) g5] :=
 if h:(m.calm&&(m.loc 1 x&&m.loc 2 y&&m.loc 3 t)&&(s == "set" && m.glob s .no&&ln == "len" && m.glob ln .no&&so == "sorted" && m.glob so .no)&&(m.at 0 r&&m.at 2 y2&&z0==0&&m.at 2 y3&&po == "pop" && d3.endLine==d4.line)&&(mG m (.tp [.nm 4,.nm 5,.nm 6]) tg&&e9 e&&mI m tg (.items (.var 3)) e)&&(m.at 2 y4&&ex == "extend" && m.at 5 b&&e2.endLine==e4.line)&&(mG m (.nm 7) tg2&&e9 e'&&mI m tg2 (.items (.var 4)) e')&&(m.at 1 x2&&ad == "add" && m.at 7 n&&f2.endLine==f4.line)&&(m.at 1 x3&&x3==x))=true then some ⟨λ{k}{W}{C}{X} S=>by
  simp only[aSJ,aRN]at h;obtain⟨⟨⟨⟨⟨⟨⟨⟨hq,⟨l1,l2⟩,l3⟩,⟨⟨⟨⟨rfl,k1⟩,rfl⟩,k2⟩,rfl⟩,k3⟩,⟨⟨⟨⟨a0,a2⟩,rfl⟩,a3⟩,rfl⟩,ee⟩,⟨gg1,n1⟩,i1⟩,⟨⟨b1,rfl⟩,b5⟩,be⟩,⟨gg2,n2⟩,i2⟩,⟨⟨c1',rfl⟩,c7⟩,ce⟩,a1,rfl⟩:=h;obtain⟨u1,u2,u3⟩:=S.toSX.loc l1;obtain⟨v1,v2,v3⟩:=S.toSX.loc l2;obtain⟨w1,w2,w3⟩:=S.toSX.loc l3;obtain⟨gl,lk,_,_⟩:=S.toSX.gl k1;obtain⟨gl',lk',_,_⟩:=S.toSX.gl k2;obtain⟨gl2,lk2,_,_⟩:=S.toSX.gl k3;have hN:X.N.Nodup:=by rw[S.hN];exact S.nd
  have:evB W [.fin]=gW (f9 W):=by
   funext ρ;show(gW (f9 W) ρ).thn (evB W [])=_;unfold gW;split
   . split
     . split
       . split <;> rfl
       . rfl
     . rfl
   . rfl
  rw[this];exact aLC (S.cm hq) hN u1 u2 u3 v1 v2 v3 gl (S.no _ lk) gl2 (S.no _ lk2) (S.toSX.pn a0) (S.toSX.pn a1)
   (aLB S.hp gl' (S.no _ lk') (S.toSX.pn a2) (zK (aLA hN w1 w2 w3 (S.toSX.pn a3) ee (kE rfl)) (sC (zL S.hp (S.cm hq) (sI _ S.toSX i1) (sG S.toSX S.nd _ gg1) (by decide) (by decide) (zK (aK8 (S.toSX.pn b1) (S.toSX.pn b5) be) (sC (zL S.hp (S.cm hq) (sI _ S.toSX i2) (sG S.toSX S.nd _ gg2) (by decide) (by decide) (sC (aK9 (S.toSX.pn c1') (S.toSX.pn c7) ce)) (iC n2)))) (iC n1))))) (kE rfl) (kE rfl)⟩else none
noncomputable def aNA{f fs st sts:_}(r:CkS m f st)(r2:CkB m fs sts):CkB m (f::fs) (st::sts):=if h:(r.isSome&&r2.isSome)=true then some ⟨λ{k}{W}{C}{X} S=>by
 rw[aSJ]at h;have:evB W (f::fs)=λρ=>(evS W f ρ).thn (evB W fs):=by funext ρ;simp only[evB]
 rw[this];exact aGD (got h.1 S) (got h.2 S)⟩else none
set_option maxHeartbeats 4000000 in
mutual
noncomputable def ckS:(m:MC)->(f:D3.S)->(st:Stmt)->CkS m f st
 |m,.never,st=>some ⟨λ_=>aMU⟩
 |_,.frzV _,_=>none
 |_,.nfrz _,_=>none
 |_,.fin,_=>none
 |_,.seen _,_=>none
 |m,.ret f,st=>match st with|.Return (some e) p1=>aMW|_=>none
 |m,.retV i,st=>match st with|.Return (some (.Name x p1)) p2=>aMX|_=>none
 |m,.set i f,st=>match st with|.Assign [.Name x p1] e p3=>aMY|_=>none
 |m,.nput i f g,st=>match st with|.Assign [.Subscript (.Name x p1) k p3] e p5=>aMZ|_=>none
 |m,.setC i fz f,st=>match st with|.Assign [.Name x px] (.ListComp elt gens scope cp) p6=>aM0|_=>none
 |m,.ite f a b,st=>match st with|.If c x y p3=>aM1 (ckB m a x) (ckB m b y)|_=>none
 |m,.for f t b,st=>match st with|.For tg e body [] p3=>aM2 (ckB m b body)|_=>none
 |m,.ins i g f,st=>match st with|.Expr (.Call (.Attribute (.Name x p1) a ap) [ke,e] [] cp) p6=>aM4|_=>none
 |m,.app i f,st=>match st with|.Expr (.Call (.Attribute (.Name x p1) a ap) [e] [] cp) p6=>aM3|_=>none
noncomputable def ckB:(m:MC)->(f:List D3.S)->(sts:List Stmt)->CkB m f sts
 |m,[],sts=>match sts with|[]=>some ⟨λS=>aM5 S⟩|_=>none
 |m,.frzV i::fs,sts=>aM6 (ckB m fs sts)
 |m,.nfrz i::fs,sts=>aM7 (ckB m fs sts)
 |m,[.fin],sts=>match sts with|[.Assign [.Name x p1] (.Call (.Name s p2) [] [] p3) p4,.Assign [.Name y p7] (.List [.Name r p5] p6) q1,.While (.Compare (.Call (.Name ln c1) [.Name y2 c2] [] c3) [.Gt] [.Constant (.int z0) j c4] c5) [.Assign [.Name t d1] (.Call (.Attribute (.Name y3 d2) po d3) [] [] d4) d5,.For tg e [.Expr (.Call (.Attribute (.Name y4 e1) ex e2) [.Name b e3] [] e4) e5,.For tg2 e' [.Expr (.Call (.Attribute (.Name x2 f1) ad f2) [.Name n f3] [] f4) f5] [] f6] [] f7] [] g1,.Return (some (.Call (.Name so g2) [.Name x3 g3] [] g4)) g5]=>aM9|_=>none
 |m,[.seen f],sts=>match sts with|[s1,.Return (some (.Name y p)) q]=>sP (sO m f s1 y p)|_=>none
 |m,f::fs,sts=>match sts with|st::sts=>aNA (ckS m f st) (ckB m fs sts)|_=>none
end
noncomputable def mB(m:MC)(f:List D3.S)(sts:List Stmt):Bool:=(ckB m f sts).isSome
def sB{k:Nat}{W:WD}(S:SB k W m C X)(f:List D3.S)(h:mB m f sts=true):PBv C X sts (evB W f):=got h S
abbrev IB:=Unit
structure FD where
 ps:List Str
 N:List Str
 b:List D3.S
structure ID where
 c:Str
 ps:List Str
 N:List Str
 ib:IB
structure TB where
 T:List (Str×FD)
 I:List (Str×ID)
 cl:List CI
 xt:List ((Str×Str)×Bool)
 xi:List ((Str×Str)×Bool)
noncomputable def sQ(W:WD)(i:ID):List D->Res:=λ_=>.stuck
noncomputable def mO(t:TB)(W:WD)(f:Str):List D->Res:=match t.T.lookup f with
 |some d=>phi d.ps.length d.N.length (evB W d.b)
 |none=>λ_=>.stuck
noncomputable def MsF(t:TB)(W:WD)(x:Str):D->KD->Option KD:=match t.T.lookup x with
 |some d=>(match d.b with|[.seen y]=>kC (mN W y)|_=>λ_ _=>none)
 |none=>λ_ _=>none
noncomputable def WT(t:TB):Nat->WD
 |0=>⟨λ_ _=>.stuck,λ_ _=>.stuck,λ_=>none,t.cl,t.xt,t.xi,false,λ_ _ _=>none⟩
 |1=>⟨λf=>mO t ⟨λ_ _=>.stuck,λ_ _=>.stuck,λ_=>none,t.cl,t.xt,t.xi,false,λ_ _ _=>none⟩ f,λ_ _=>.stuck,λ_=>none,t.cl,t.xt,t.xi,true,MsF t ⟨λ_ _=>.stuck,λ_ _=>.stuck,λ_=>none,t.cl,t.xt,t.xi,false,λ_ _ _=>none⟩⟩
 |k+2=>⟨λf=>mO t (WT t (k+1)) f,(WT t (k+1)).Φ,λkey=>match t.I.lookup key with|some i=>some (sQ (WT t k) i)|none=>none,t.cl,t.xt,t.xi,true,MsF t (WT t (k+1))⟩
def mP(t:TB):∀k,(WT t k).cl=t.cl
 |0=>rfl
 |1=>rfl
 |k+2=>rfl
def zU(t:TB):∀k,(WT t k).xt=t.xt
 |0=>rfl
 |1=>rfl
 |k+2=>rfl
def zV(t:TB):∀k,(WT t k).xi=t.xi
 |0=>rfl
 |1=>rfl
 |k+2=>rfl
def zW(t:TB):∀k x,(WT t (k+1)).Ms x=MsF t (WT t k) x
 |0,f=>rfl
 |k+1,f=>rfl
def WT_Φ(t:TB):∀k f,(WT t (k+1)).Φ f=mO t (WT t k) f
 |0,f=>rfl
 |k+1,f=>rfl
noncomputable def iD(g:MG)(key:Str)(st:Stmt)(d:FD):Bool:=sM d.N d.ps (cV st)&&mB ⟨d.N,cV st,g,true,true,true,key⟩ d.b (iK st)
noncomputable def idOk(g:MG)(st:Stmt)(d:ID):Bool:=false
noncomputable def zX(K:Fg)(g:MG)(fa:Str->Addr)(key:Str)(d:FD):Prop :=
 ∃name st fd,Fun K name key st (fa key) fd/\dF K fd d.ps []/\iD g key st d=true
noncomputable def mQ(K:Fg)(g:MG)(fa:Str->Addr):List (Str×FD)->Prop
 |[]=>True
 |(x,d)::r=>zX K g fa x d/\mQ K g fa r
theorem mQ.at{g:MG}:∀{T:List (Str×FD)}{x:Str}{d:FD},mQ K g fa T->T.lookup x=some d->zX K g fa x d
 |[],_,_,_,e=>by cases e
 |(y,d')::r,x,d,h,e=>by
  rw[aTB]at e;split at e
  . rename_i hb;cases e;rw[aRN]at hb;subst hb;exact h.1
  . exact h.2.at e
noncomputable def zY(K:Fg)(mg:SOV)(g:MG)(key:Str)(d:ID):Prop :=
 ∃name st C f fd,W.nsIn K mainGlobals d.c=some (some (.ref C))/\mg d.c=some (.ref C)/\Mk K C f/\Fun K name key st f fd/\dF K fd d.ps []/\idOk g st d=true
noncomputable def mR(K:Fg)(mg:SOV)(g:MG):List (Str×ID)->Prop
 |[]=>True
 |(x,d)::r=>zY K mg g x d/\mR K mg g r
theorem mR.at{g:MG}:∀{T:List (Str×ID)}{x:Str}{d:ID},mR K mg g T->T.lookup x=some d->zY K mg g x d
 |[],_,_,_,e=>by cases e
 |(y,d')::r,x,d,h,e=>by
  rw[aTB]at e;split at e
  . rename_i hb;cases e;rw[aRN]at hb;subst hb;exact h.1
  . exact h.2.at e
noncomputable def GVOk(w:aW5)(K:Fg)(mg:SOV)(fa:Str->Addr)(x:Str):GV->Prop
 |.con (.s y)=>∃t,mg x=some (.str y t)
 |.con (.i n)=>∃t,mg x=some (.int n t)
 |.con (.t tb)=>jV w K mg x tb
 |.no=>mg x=none
 |.fn _=>mg x=some (.ref (fa x))
 |.cls=>True
noncomputable def mS(w:aW5)(K:Fg)(mg:SOV)(fa:Str->Addr):List (Str×GV)->Prop
 |[]=>True
 |(x,v)::r=>GVOk w K mg fa x v/\mS w K mg fa r
theorem mS.at:∀{G:List (Str×GV)}{x:Str}{v:GV},mS w K mg fa G->G.lookup x=some v->GVOk w K mg fa x v
 |[],_,_,_,e=>by cases e
 |(y,v')::r,x,v,h,e=>by
  rw[aTB]at e;split at e
  . rename_i hb;cases e;rw[aRN]at hb;subst hb;exact h.1
  . exact h.2.at e
noncomputable def gOk(G:List (Str×GV))(T:List (Str×FD)):Bool:=G.all λ(x,v)=>match v with|.fn n=>(match T.lookup x with|some d=>d.ps.length==n|none=>false)|_=>true
theorem sR{T:List (Str×FD)}:∀{G:List (Str×GV)}{x:Str}{n:Nat},gOk G T=true->G.lookup x=some (.fn n)->∃d,T.lookup x=some d/\d.ps.length=n
 |[],_,_,_,e=>by cases e
 |(y,v')::r,x,n,h,e=>by
  unfold gOk at h;rw[aWP,aSJ]at h;rw[aTB]at e;split at e
  . rename_i hb;cases e;rw[aRN]at hb;subst hb;have h1:=h.1;dsimp only at h1;cases q:T.lookup x with
    |none=>rw[q]at h1;cases h1
    |some d=>rw[q]at h1;exact⟨d,rfl,by simpa using h1⟩
  . exact sR (G:=r) h.2 e
noncomputable def mtOk(cl:List CI)(T:List (Str×FD)):Bool:=cl.all λi=>i.meths.all λ(_,key,n)=>match T.lookup key with|some d=>d.ps.length==n|none=>false
noncomputable def zZ(mki:List (Str×Str×Nat))(I:List (Str×ID)):Bool:=mki.all λ(c,key,n)=>match I.lookup key with|some d=>d.c==c&&d.ps.length==n+1|none=>false
noncomputable def kG(K:Fg)(fa:Str->Addr)(C:Addr):List (Str×Str×Nat)->Prop
 |[]=>True
 |(m,key,_)::r=>k9 K C m (fa key)/\kG K fa C r
noncomputable def kH(K:Fg)(C:Addr):List Str->Prop
 |[]=>True
 |f::r=>qC K C f/\kH K C r
noncomputable def mU(K:Fg)(fa:Str->Addr):List CI->Prop
 |[]=>True
 |i::r=>(∃C,W.nsIn K mainGlobals i.name=some (some (.ref C))/\Cls K C/\kG K fa C i.meths/\kH K C i.flds)/\mU K fa r
theorem mU.at:∀{cl:List CI}{i:CI},mU K fa cl->i∈cl->∃C,W.nsIn K mainGlobals i.name=some (some (.ref C))/\Cls K C/\kG K fa C i.meths/\kH K C i.flds
 |[],_,_,h=>by cases h
 |j::r,i,h,hi=>by
  rcases aQZ.mp hi with rfl|hi
  . exact h.1
  . exact h.2.at hi
theorem kH.at{C:Addr}:∀{l:List Str}{f:Str},kH K C l->f∈l->qC K C f
 |[],_,_,h=>by cases h
 |j::r,i,h,hi=>by
  rcases aQZ.mp hi with rfl|hi
  . exact h.1
  . exact h.2.at hi
theorem kG.at{C:Addr}:∀{l:List (Str×Str×Nat)}{m key:Str}{n:Nat},kG K fa C l->l.lookup m=some (key,n)->k9 K C m (fa key)
 |[],_,_,_,_,e=>by cases e
 |(m',key',n')::r,m,key,n,h,e=>by
  rw[aTB]at e;split at e
  . rename_i hb;cases e;rw[aRN]at hb;subst hb;exact h.1
  . exact h.2.at e
noncomputable def sS(g:MG)(T:List (Str×FD)):Bool:=g.sn.all λx=>(match T.lookup x with
 |some d=>(match d.b with|[.seen y]=>y==x&&d.ps.length==2&&d.N.length==7|_=>false)
 |none=>false)&&g.G.lookup x==some (.fn 2)
def sU{g:MG}{T:List (Str×FD)}(h:sS g T=true)(hx:x∈g.sn):∃d,T.lookup x=some d/\d.b=[.seen x]/\d.ps.length=2/\d.N.length=7/\g.G.lookup x=some (.fn 2):=by
 have h:=aV8.mp h x hx;rw[aSJ,aRN]at h;obtain⟨h1,h2⟩:=h;split at h1
 . rename_i d e;split at h1
   . rename_i y eb;simp only[aSJ,aRN]at h1;obtain⟨⟨rfl,a⟩,b⟩:=h1;exact⟨d,e,eb,a,b,h2⟩
   . cases h1
 . cases h1
def aNB{f:Str}:∀{sts:List Stmt},mB m [.seen f] sts=true->∃s1 y p q,sts=[s1,.Return (some (.Name y p)) q]/\(sO m f s1 y p).isSome=true:=λ{sts} h=>by
 cases sts with
 |nil=>cases h
 |cons s1 r =>
 cases r with
 |nil=>cases h
 |cons s2 r =>
 cases s2 with
 |Return o q =>
  cases o with
  |none=>cases r <;> cases h
  |some e =>
   cases e with
   |Name y p =>
    cases r with
    |cons _ _=>cases h
    |nil =>
     refine⟨s1,y,p,q,rfl,?_⟩;have h:(sP (q:=q) (sO m f s1 y p)).isSome=true:=h;unfold sP at h;split at h
     . assumption
     . cases h
   |_=>cases r <;> cases h
 |_=>cases r <;> cases h
structure GF(w:aW5)(K:Fg)(mg:SOV)(g:MG)(t:TB)(fa:Str->Addr):Prop where
 con:mS w K mg fa g.G
 gok:gOk g.G t.T=true
 all:mQ K g fa t.T
 alli:mR K mg g t.I
 mk0:∀c,c∈g.mk0->qL K mg c
 mkok:zZ g.mki t.I=true
 iso:∀c,c∈g.iso->IsV K mg t.cl c
 cls:mU K fa t.cl
 mtok:mtOk t.cl t.T=true
 xtok:qQ K mg (λc x=>t.xt.lookup (c,x))
 xiok:qR K mg (λc x=>t.xi.lookup (c,x))
 xcok:∀c,c∈g.xcs->∃Cc,mg c=some (.ref Cc)/\xC K Cc
 xnok:∀n,n∈g.xns->∃cv,oE mg n cv
 snok:sS g t.T=true
def z5{vs:List V}{Q:VK}{E:XK}(hz:∀ds,Φ ds=.stuck)(h:spV K mg n Φ vs H Q E):False:=by obtain⟨_,F,ds,_,_,h⟩:=h;rw[hz]at h;exact h
section
variable {g:MG}{t:TB}
structure jA(P:aW6)(w:aW5)(K:Fg)(mg:SOV)(base:Heap)(g:MG)(t:TB)(fa:Str->Addr)(k:Nat):Prop where
 fn:∀key d,t.T.lookup key=some d->∃fd,bT P w K mg base (CX1 P w) k (fa key) fd d.ps (spV K mg d.ps.length ((WT t k).Φ key))/\dF K fd d.ps []/\W.keepIn K (.ref (fa key))=true
 fp:(WT t k).dp=true->∃j,j+1=k/\∀key d,t.T.lookup key=some d->∃fd,bT P w K mg base (CX1 P w) j (fa key) fd d.ps (spV K mg d.ps.length ((WT t k).Ψ key))/\dF K fd d.ps []/\W.keepIn K (.ref (fa key))=true
 ini:∀key d Φ,t.I.lookup key=some d->(WT t k).I key=some Φ->∃j,j+1<=k/\InV P w K mg base (CX1 P w) j d.c (d.ps.length-1) Φ
 mu:∀x,x∈g.sn->∃fd ps,bT P w K mg base (CX1 P w) k (fa x) fd ps (mL K ((WT t k).Ms x))/\dF K fd ps []/\W.keepIn K (.ref (fa x))=true
def z6(f:GF w K mg g t fa){k:Nat}(A:jA P w K mg base g t fa k){N:List Str}(hP:X.prog=P)(hw:X.w=w)(hK:X.K=K)(hmg:X.mg=mg)(hb:X.base=base)(hN:X.N=N)(hs:X.env.scope=sc)(cm:X.calm=true)(rm:bS k X.A)(hfn:∀x,X.fn x=true){q:Str}(cd:q="" \/ (W.codeIn X.K X.env.code q=true/\X.env.qual=q ++ ".<locals>."))(xo:XOk (CX1 X.prog X.w) (C.at X) X):SX k (WT t k) ⟨N,sc,g,true,true,true,q⟩ C X:=by
 subst hP hw hK hmg hb;refine⟨hN,hs,λ_=>cm,λ_=>rm,rm.units,λ_=>xo,?_,?_,f.xcok,f.xnok,λy c l=>?_,λy l=>f.con.at l,λc hc=>f.mk0 c hc,λc key n hm Φ e=>?_,λc hc=>by rw[mP];exact f.iso c hc,λi f' hi hf=>?_,λc m key n e=>?_,λy n l=>?_,λ_=>hfn,λhd=>?_,λy hy=>?_,cd⟩
 . unfold WD.xf;rw[zU];exact f.xtok
 . unfold WD.xg;rw[zV];exact f.xiok
 . have:=f.con.at l;cases c <;> exact this
 . have h1:=aV8.mp f.mkok (c,key,n) hm;dsimp only at h1;cases q:t.I.lookup key with
   |none=>rw[q]at h1;cases h1
   |some d=>rw[q]at h1;simp only[aSJ,aRN]at h1;obtain⟨j,hj,M⟩:=A.ini key d Φ q e;rw[h1.1,h1.2]at M;exact⟨j,hj,M⟩
 . rw[mP]at hi;obtain⟨C',h1,h2,_,h4⟩:=f.cls.at hi;exact⟨C',h1,h2,h4.at hf⟩
 . rw[mP]at e;unfold CI.meth at e;split at e
   . rename_i i ei;have hi:=List.mem_of_find?_eq_some ei;have hn:i.name=c:=by simpa using List.find?_some ei
     obtain⟨C',h1,h2,h3,_⟩:=f.cls.at hi;have hmo:=aV8.mp (aV8.mp f.mtok i hi) (m,key,n) (aRX e);dsimp only at hmo;cases q:t.T.lookup key with
     |none=>rw[q]at hmo;cases hmo
     |some d=>rw[q]at hmo;rw[aRN]at hmo;obtain⟨fd,FO,hb,_⟩:=A.fn key d q;rw[hmo]at FO;exact⟨C',fa key,fd,d.ps,by rw[<- hn];exact h1,h2,h3.at e,FO,hb⟩
   . cases e
 . obtain⟨d,e,rfl⟩:=sR f.gok l;obtain⟨fd,FO,hb,hk⟩:=A.fn y d e;exact⟨fa y,fd,d.ps,FO,f.con.at l,hk,hb⟩
 . obtain⟨j,hj,fp⟩:=A.fp hd;refine⟨j,hj,λy n l=>?_⟩;obtain⟨d,e,rfl⟩:=sR f.gok l;obtain⟨fd,FO,hb,hk⟩:=fp y d e;exact⟨fa y,fd,d.ps,FO,f.con.at l,hk,hb⟩
 . obtain⟨d,e,_,_,_,l⟩:=sU f.snok hy;obtain⟨fd,ps,FO,hb,hk⟩:=A.mu y hy;exact⟨fa y,fd,ps,FO,f.con.at l,hk,hb⟩
def sV(f:GF w K mg g t fa){k:Nat}(A:jA P w K mg base g t fa k){d:FD}{name:Str}{a:Addr}(F:Fun K name key st a fd)(e:t.T.lookup key=some d)(ok:iD g key st d=true):bT P w K mg base (CX1 P w) (k+1) a fd d.ps (spV K mg d.ps.length ((WT t (k+1)).Φ key)):=by
 unfold iD at ok;rw[aSJ]at ok;have sc:=zT ok.1;have:(WT t (k+1)).Φ key=phi d.ps.length d.N.length (evB (WT t k) d.b):=by rw[WT_Φ];unfold mO;rw[e]
 rw[this];exact aID (k:=k) F sc λC cdv hcd A' outer s H En hE hr=>sB (m:=⟨d.N,cV st,g,true,true,true,key⟩) (X:=cK (CX1 P w) P w K mg base d.N key (cV st) a cdv A' outer s H En) ⟨z6 f A rfl rfl rfl rfl rfl rfl rfl rfl hr (λ_=>rfl) (.inr ⟨hcd,rfl⟩) (xD (K:=K) (H:=H) (outer:=outer) hE),sc.nd,PassesOwn.leaving,λ_=>⟨xE (K:=K) (H:=H) (outer:=outer) hE,fnCx,xG (K:=K) (H:=H) (outer:=outer) hE⟩⟩ d.b ok.2
def z7(f:GF w K mg g t fa){k:Nat}(A:jA P w K mg base g t fa k)(hx:x∈g.sn):∃fd ps,bT P w K mg base (CX1 P w) (k+1) (fa x) fd ps (mL K ((WT t (k+1)).Ms x))/\dF K fd ps []/\W.keepIn K (.ref (fa x))=true:=by
 obtain⟨d,e,eb,h2,h7,_⟩:=sU f.snok hx;obtain⟨name,st,fd,F,hb,ok⟩:=f.all.at e;unfold iD at ok;rw[aSJ,eb]at ok;have sc:=zT ok.1;obtain⟨s1,y,p,q,hd,hs⟩:=aNB ok.2;have:(WT t (k+1)).Ms x=kC (mN (WT t k) x):=by rw[zW];unfold MsF;rw[e];dsimp only;rw[eb]
 rw[this];exact⟨fd,d.ps,aLG F sc h2 h7 hd λC cdv hcd A' outer s H En hE hr=>got hs (X:=cK (CX1 P w) P w K mg base d.N x (cV st) (fa x) cdv A' outer s H En) ⟨z6 f A rfl rfl rfl rfl rfl rfl rfl rfl hr (λ_=>rfl) (.inr ⟨hcd,rfl⟩) (xD (K:=K) (H:=H) (outer:=outer) hE),sc.nd,PassesOwn.leaving,λ_=>⟨xE (K:=K) (H:=H) (outer:=outer) hE,fnCx,xG (K:=K) (H:=H) (outer:=outer) hE⟩⟩,hb,F.kp⟩
def mu_0{k:Nat}{f:Addr}:bT P w K mg base (CX1 P w) k f fd ps (mL K λ_ _=>none) :=
 ⟨λvs H Q En h=>(by obtain⟨_,_,_,_,_,_,_,_,_,_,_,_,_,_,e,_⟩:=h;cases e),λA outer s H args us vs Q En _ _ _ _ h=>(by obtain⟨_,_,_,_,_,_,_,_,_,_,_,_,_,_,e,_⟩:=h;cases e)⟩
def aNC(f:GF w K mg g t fa){k:Nat}(A:jA P w K mg base g t fa k){d:ID}(e:t.I.lookup key=some d):InV P w K mg base (CX1 P w) (k+1) d.c (d.ps.length-1) (sQ (WT t k) d):=by obtain⟨name,st,C2,a,fd,ns,hm,M,F,hb,ok⟩:=f.alli.at e;cases ok
theorem z8(f:GF w K mg g t fa):∀k,jA P w K mg base g t fa k/\jA P w K mg base g t fa (k+1)
 |0=>by
  have A0:jA P w K mg base g t fa 0:=⟨λkey d e=>by
   obtain⟨name,st,fd,F,hb,_⟩:=f.all.at e;exact⟨fd,⟨λvs H Q En h=>(z5 (λ_=>rfl) h).elim,λA outer s H args us vs Q En _ _ _ _ h=>(z5 (λ_=>rfl) h).elim⟩,hb,F.kp⟩,(λz=>by cases z),(λkey d Φ _ e=>by cases e),λx hx=>by
   obtain⟨d,e,_⟩:=sU f.snok hx;obtain⟨name,st,fd,F,hb,_⟩:=f.all.at e;exact⟨fd,d.ps,mu_0,hb,F.kp⟩⟩
  refine⟨A0,λkey d e=>?_,λ_=>⟨0,rfl,A0.fn⟩,(λkey d Φ _ e=>by cases e),λx hx=>z7 f A0 hx⟩
  obtain⟨name,st,fd,F,hb,ok⟩:=f.all.at e;exact⟨fd,sV f A0 F e ok,hb,F.kp⟩
 |k+1=>by
  obtain⟨A0,A1⟩:=z8 f k;refine⟨A1,λkey d e=>?_,λ_=>⟨k+1,rfl,A1.fn⟩,λkey d Φ e ei=>?_,λx hx=>z7 f A1 hx⟩
  . obtain⟨name,st,fd,F,hb,ok⟩:=f.all.at e;exact⟨fd,sV f A1 F e ok,hb,F.kp⟩
  . have ei:(match t.I.lookup key with|some i=>some (sQ (WT t k) i)|none=>none)=some Φ:=ei
    rw[e]at ei;cases ei;exact⟨k+1,aRG _,aNC f A0 e⟩
end
noncomputable def sW(K:Fg)(Φ:List D->Res):Sp:=λvs H Q E=>∃a ns,vs=[.ref a]/\SqL K H a (ns.map V.int)/\Φ (n9 ns)=.ok .fz (.bl true)/\∀H',Q (.bl true) H'
def aND{k:Nat}{f:Addr}(h:bT P w K mg base CX k f fd ps (spV K mg 1 Φ)):bT P w K mg base CX k f fd ps (sW K Φ) :=
 h.imp λvs H Q E ⟨a,ns,e,hq,hp,q⟩=>by
  subst e;refine⟨rfl,H,n9 ns,aD.refl _,aC.cons ?_ aC.nil,?_⟩
  . simp only[aB];exact⟨a,_,rfl,hq,wV ns⟩
  . rw[hp];exact⟨by decide,λv F' H' s rp _=>by rw[rp.bl];exact q H'⟩
def aNE{g:MG}{t:TB}(f:GF w K mg g t fa)(k:Nat){a:Addr}{d:FD}(F:Fun K "law" "law" st a fd)(e:t.T.lookup ("law":Str)=some d)(ok:iD g "law" st d=true)(hl:d.ps.length=1):bT P w K mg base (CX1 P w) (k+1) a fd d.ps (sW K ((WT t (k+1)).Φ ("law":Str))):=by have:=sV (P:=P) (w:=w) (base:=base) f (z8 f k).1 F e ok;rw[hl]at this;exact aND this
section
variable {W:WD}{a b c:E}{es:List E}
@[simp] theorem jB{i:_}:evE W (.var i) ρ=eP ρ i:=Eq.trans rfl rfl
@[simp] theorem e_non:evE W .non ρ=.ok .fz .non:=Eq.trans rfl rfl
@[simp] theorem e_bl{b:_}:evE W (.bl b) ρ=.ok .fz (.bl b):=Eq.trans rfl rfl
@[simp] theorem e_int{i:_}:evE W (.int i) ρ=.ok .fz (.int i):=Eq.trans rfl rfl
@[simp] theorem e_str{x:_}:evE W (.str x) ρ=.ok .fz (.str x):=Eq.trans rfl rfl
@[simp] theorem e_globS{x y:_}:evE W (.glob x (.s y)) ρ=.ok .fz (.str y):=Eq.trans rfl rfl
@[simp] theorem e_globI{x y:_}:evE W (.glob x (.i y)) ρ=.ok .fz (.int y):=Eq.trans rfl rfl
@[simp] theorem e_ty{t:Ty}:evE W (.ty t) ρ=.ok .fz (.ty t.id):=Eq.trans rfl rfl
@[simp] theorem e_bin{op}:evE W (.bin op a b) ρ=op2 (bJ op) (evE W a ρ) (evE W b ρ):=Eq.trans rfl rfl
@[simp] theorem e_cmp{op}:evE W (.cmp op a b) ρ=op2 (bV op) (evE W a ρ) (evE W b ρ):=Eq.trans rfl rfl
@[simp] theorem e_andL:evE W (.andL es) ρ=evA W es ρ:=Eq.trans rfl rfl
@[simp] theorem e_orL:evE W (.orL es) ρ=cZ W es ρ:=Eq.trans rfl rfl
@[simp] theorem e_not:evE W (.not a) ρ=lG (evE W a ρ):=Eq.trans rfl rfl
@[simp] theorem e_tru:evE W (.tru a) ρ=lF (evE W a ρ):=Eq.trans rfl rfl
@[simp] theorem e_frz:evE W (.frz a) ρ=aZ (evE W a ρ):=Eq.trans rfl rfl
@[simp] theorem e_ix:evE W (.ix a b) ρ=op2 ixD (evE W a ρ) (evE W b ρ):=Eq.trans rfl rfl
@[simp] theorem e_slice{l h:_}:evE W (.slice a l h) ρ=slP (evE W a ρ) (evO W l) (evO W h) ρ:=Eq.trans rfl rfl
@[simp] theorem e_tup:evE W (.tup es) ρ=iN (bN W es ρ):=Eq.trans rfl rfl
@[simp] theorem e_lst:evE W (.lst es) ρ=iO (bN W es ρ):=Eq.trans rfl rfl
@[simp] theorem aNF{f n:_}:evE W (.call f n es) ρ=bI n (W.Φ f) (bN W es ρ):=Eq.trans rfl rfl
@[simp] theorem e_bcall{f:Bn}:evE W (.bcall f es) ρ=eR f.f (bN W es ρ):=Eq.trans rfl rfl
@[simp] theorem e_mt{t:Mt}:evE W (.mt t a es) ρ=lL t.ty t.f (evE W a ρ) (bN W es ρ):=Eq.trans rfl rfl
@[simp] theorem mV:evE W (.items a) ρ=fV (aZ (evE W a ρ)):=Eq.trans rfl rfl
@[simp] theorem e_rng1:evE W (.rng1 a) ρ=gK (dH (evE W a ρ) (.ok [])):=Eq.trans rfl rfl
@[simp] theorem e_nnew:evE W .nnew ρ=.ok .fr (.dtn []):=Eq.trans rfl rfl
@[simp] theorem e_nix:evE W (.nix a b) ρ=op2 lX (evE W a ρ) (evE W b ρ):=Eq.trans rfl rfl
@[simp] theorem e_nget{k d:E}:evE W (.nget a k d) ρ=lY (evE W a ρ) (evE W k ρ) (evE W d ρ):=Eq.trans rfl rfl
@[simp] theorem e_nkeys:evE W (.nkeys a) ρ=l8 (evE W a ρ):=Eq.trans rfl rfl
@[simp] theorem e_srtw:evE W (.srtw a) ρ=eR gT (dH (evE W a ρ) (.ok [])):=Eq.trans rfl rfl
@[simp] theorem e_us2:evE W (.us2 a) ρ=f8 (evE W a ρ):=Eq.trans rfl rfl
@[simp] theorem e_seenE{f}:evE W (.seenE f a) ρ=kD (W.Ms f) (evE W a ρ):=Eq.trans rfl rfl
@[simp] theorem e_comp{ts:List E}{aE t n:_}:evE W (.comp a b ts aE t n) ρ=dX (evE W b ρ) ρ aE n (aP t) (λρ=>evF W ts ρ) (λρ=>evE W a ρ):=Eq.trans rfl rfl
@[simp] theorem e_fmt:evE W (.fmt a) ρ=oD (evE W a ρ):=Eq.trans rfl rfl
@[simp] theorem aNG:evE W (.fstr es) ρ=eW Str.empty (evL W es) ρ:=Eq.trans rfl rfl
@[simp] theorem aNH:evL W []=[]:=by simp only[evL]
@[simp] theorem sX:evL W (a::es)=evE W a::evL W es:=by simp only[evL]
@[simp] theorem sg_nm{d:D}:aP (.nm i) d ρ=some (ρ.set i (some (false,d))):=by simp only[aP]
@[simp] theorem sg_tp{ts:List Tg}:aP (.tp ts) (.tup ds) ρ=cX ts ds ρ:=by simp only[aP]
@[simp] theorem sg_tpl{ts:List Tg}:aP (.tp ts) (.lst ds) ρ=cX ts ds ρ:=by simp only[aP]
@[simp] theorem sgs_nil:cX [] [] ρ=some ρ:=by simp[cX]
@[simp] theorem sgs_cons{ts:List Tg}{d:D}:cX (t::ts) (d::ds) ρ=(aP t d ρ).bind (cX ts ds):=by simp only[cX];cases aP t d ρ <;> rfl
@[simp] theorem fmt_s{m:Md}:oD (.ok m (.str z))=.ok .fz (.str z):=rfl
@[simp] theorem e_tcall{t:Ty}:evE W (.tcall t es) ρ=eR t.f (bN W es ρ):=Eq.trans rfl rfl
@[simp] theorem e_meth{x:_}:evE W (.meth a x es) ρ=fW W.cl W.Φ x (evE W a ρ) (bN W es ρ):=Eq.trans rfl rfl
@[simp] theorem e_mk0{x:_}:evE W (.mk0 x) ρ=.ok .fr (.ins x []):=Eq.trans rfl rfl
@[simp] theorem aNI:bN W [] ρ=.ok []:=by simp only[bN]
@[simp] theorem aNJ:bN W (a::es) ρ=dH (evE W a ρ) (bN W es ρ):=by simp only[bN]
@[simp] theorem ea_one:evA W [a] ρ=evE W a ρ:=by simp only[evA]
@[simp] theorem ea_cons:evA W (a::b::es) ρ=eQ (evE W a ρ) (evA W (b::es) ρ):=by simp only[evA]
@[simp] theorem eo_one:cZ W [a] ρ=evE W a ρ:=by simp only[cZ]
@[simp] theorem eo_cons:cZ W (a::b::es) ρ=orR (evE W a ρ) (cZ W (b::es) ρ):=by simp only[cZ]
@[simp] theorem aNK:evF W [] ρ=.ok .fz (.bl true):=by simp only[evF]
@[simp] theorem ef_cons:evF W (a::es) ρ=eQ (evE W a ρ) (evF W es ρ):=by simp only[evF]
@[simp] theorem eo_none:evO W none=none:=by simp only[evO]
@[simp] theorem eo_some:evO W (some a)=some (evE W a):=by simp only[evO]
@[simp] theorem s_ret:evS W (.ret a) ρ=jP (evE W a ρ) ρ:=Eq.trans rfl rfl
@[simp] theorem s_retV{i:_}:evS W (.retV i) ρ=fF ρ i:=Eq.trans rfl rfl
@[simp] theorem s_set{i:_}:evS W (.set i a) ρ=eU ρ i (evE W a ρ):=Eq.trans rfl rfl
@[simp] theorem s_ite{x y:List S}:evS W (.ite a x y) ρ=ifS (evE W a ρ) ρ (evB W x ρ) (evB W y ρ):=Eq.trans rfl rfl
@[simp] theorem s_for{y:List S}:evS W (.for a t y) ρ=dI (evE W a ρ) ρ (aP t) (evB W y):=Eq.trans rfl rfl
@[simp] theorem s_ins{i k:_}:evS W (.ins i k a) ρ=gN ρ i (evE W k ρ) (evE W a ρ):=Eq.trans rfl rfl
@[simp] theorem sY{i:_}:evS W (.app i a) ρ=dM ρ i (evE W a ρ):=Eq.trans rfl rfl
@[simp] theorem s_frzV{i:_}:evS W (.frzV i) ρ=iU ρ i:=Eq.trans rfl rfl
@[simp] theorem s_nfrz{i:_}:evS W (.nfrz i) ρ=j6 ρ i:=Eq.trans rfl rfl
@[simp] theorem s_nput{i:_}:evS W (.nput i a b) ρ=lZ ρ i (evE W a ρ) (evE W b ρ):=Eq.trans rfl rfl
@[simp] theorem s_setC{i:_}:evS W (.setC i false a) ρ=eU ρ i (evE W a ρ):=Eq.trans rfl rfl
@[simp] theorem s_setCf{i:_}:evS W (.setC i true a) ρ=eU ρ i (aZ (evE W a ρ)):=Eq.trans rfl rfl
@[simp] theorem b_nil:evB W [] ρ=.nx ρ:=by simp only[evB]
@[simp] theorem mW{s:S}{r:List S}:evB W (s::r) ρ=(evS W s ρ).thn (evB W r):=by simp only[evB]
end
section
variable {m n:Md}{i j:Int}{d:D}
@[simp] theorem x_add:op2 (bJ .Add) (.ok m (.int i)) (.ok n (.int j))=.ok .fz (.int (i+j)):=rfl
@[simp] theorem x_sub:op2 (bJ .Sub) (.ok m (.int i)) (.ok n (.int j))=.ok .fz (.int (i-j)):=rfl
@[simp] theorem x_lt:op2 (bV .Lt) (.ok m (.int i)) (.ok n (.int j))=.ok .fz (.bl (decide (i<j))):=rfl
@[simp] theorem x_le:op2 (bV .LtE) (.ok m (.int i)) (.ok n (.int j))=.ok .fz (.bl (decide (i<=j))):=rfl
@[simp] theorem x_gt:op2 (bV .Gt) (.ok m (.int i)) (.ok n (.int j))=.ok .fz (.bl (decide (j<i))):=rfl
@[simp] theorem x_ge:op2 (bV .GtE) (.ok m (.int i)) (.ok n (.int j))=.ok .fz (.bl (decide (j<=i))):=rfl
@[simp] theorem x_mod(h:0<j):op2 (bJ .Mod) (.ok m (.int i)) (.ok n (.int j))=.ok .fz (.int (i % j)):=by show Res.of (if decide (0<j)=true then _ else _)=_;rw[if_pos (aSS h)];rfl
def x_div(h:0<j)(hb:bits j=true):op2 (bJ .FloorDiv) (.ok m (.int i)) (.ok n (.int j))=.ok .fz (.int (i / j)):=by show Res.of (if(decide (0<j)&&bits j)=true then _ else _)=_;rw[if_pos (by rw[hb,aSS h];rfl)];rfl
def aNL(h:i.natAbs<10 ^ 2000):bits i=true:=by
 unfold bits;refine aSS ?_;by_cases h0:i.natAbs=0
 . rw[h0];decide
 . refine(Nat.log2_lt h0).mpr (aSX h ?_);decide +kernel
def aNM{N:Nat}(h:i.natAbs<=N)(hN:N<10 ^ 2000:=by decide +kernel):bits i=true:=aNL (aWL h hN)
@[simp] theorem z9(h:0<j)(hb:j.natAbs<=1000000000):op2 (bJ .FloorDiv) (.ok m (.int i)) (.ok n (.int j))=.ok .fz (.int (i / j)):=x_div h (aNM hb)
def aNN(h:((bits i&&bits j)||(w64 i||w64 j))=true):op2 (bJ .Mult) (.ok m (.int i)) (.ok n (.int j))=.ok .fz (.int (i * j)):=by show Res.of (((if((bits i&&bits j)||(w64 i||w64 j))=true then _ else _:Option (Md×D)).orElse _).orElse _)=_;rw[if_pos h];rfl
theorem aAA(h:i.natAbs<9000000000000000000):op2 (bJ .Mult) (.ok m (.int i)) (.ok n (.int j))=.ok .fz (.int (i * j)):=aNN (by
 have:w64 i=true:=aSS (by lia)
 rw[this];simp)
def cI{φ:Md->D->Md->D->Option (Md×D)}{x y d:D}{k:Md}(h:φ m x n y=some (k,d)):op2 φ (.ok m x) (.ok n y)=.ok k d:=by show Res.of (φ m x n y)=_;rw[h];rfl
@[simp] theorem x_eqI:op2 (bV .Eq) (.ok m (.int i)) (.ok n (.int j))=.ok .fz (.bl (i==j)):=cI rfl
@[simp] theorem x_neI:op2 (bV .NotEq) (.ok m (.int i)) (.ok n (.int j))=.ok .fz (.bl (i != j)):=cI rfl
@[simp] theorem x_eqB{a b:Bool}:op2 (bV .Eq) (.ok m (.bl a)) (.ok n (.bl b))=.ok .fz (.bl (a==b)):=cI rfl
@[simp] theorem x_neB{a b:Bool}:op2 (bV .NotEq) (.ok m (.bl a)) (.ok n (.bl b))=.ok .fz (.bl (a != b)):=cI rfl
@[simp] theorem x_eqS{a b:Str}:op2 (bV .Eq) (.ok m (.str a)) (.ok n (.str b))=.ok .fz (.bl (a==b)):=cI (by rfl)
@[simp] theorem x_neS{a b:Str}:op2 (bV .NotEq) (.ok m (.str a)) (.ok n (.str b))=.ok .fz (.bl (a != b)):=cI (by rfl)
@[simp] theorem x_inS{a b:Str}:op2 (bV .In) (.ok m (.str a)) (.ok n (.str b))=.ok .fz (.bl (jN a b)):=cI rfl
@[simp] theorem x_notinS{a b:Str}:op2 (bV .NotIn) (.ok m (.str a)) (.ok n (.str b))=.ok .fz (.bl (!jN a b)):=cI rfl
@[simp] theorem kI{a b:Str}(h:a.length+b.length<=sizeLine):op2 (bJ .Add) (.ok m (.str a)) (.ok n (.str b))=.ok .fz (.str (a++b)) :=
 cI (by
  have:fS (λi j=>decide (i.length+j.length<=sizeLine)) (λi j=>D.str (i++j)) m (.str a) n (.str b)=some (Md.fz,D.str (a++b)):=by show(if decide (a.length+b.length<=sizeLine)=true then some (Md.fz,D.str (a++b))else none)=_;rw[if_pos (aSS h)]
  show orO (orO (fI (λ_ _=>true) λi j=>.int (i+j)) (fS (λi j=>decide (i.length+j.length<=sizeLine)) λi j=>.str (i++j))) oB m (.str a) n (.str b)=_;simp only[orO,this];rfl)
@[simp] theorem x_isN{d:D}:op2 (bV .Is) (.ok m d) (.ok n .non)=.ok .fz (.bl (dL d)):=cI rfl
@[simp] theorem x_isnotN{d:D}:op2 (bV .IsNot) (.ok m d) (.ok n .non)=.ok .fz (.bl (!dL d)):=cI rfl
@[simp] theorem x_catL{x y:List D}(h:x.length+y.length<=sizeLine):op2 (bJ .Add) (.ok m (.lst x)) (.ok n (.lst y))=.ok .fr (.lst (x++y)):=cI (by
 show(if x.length+y.length<=sizeLine then some (Md.fr,D.lst (x++y))else none)=_;rw[if_pos h])
@[simp] theorem x_catT{x y:List D}(h:x.length+y.length<=sizeLine):op2 (bJ .Add) (.ok m (.tup x)) (.ok n (.tup y))=.ok .fz (.tup (x++y)):=cI (by
 show(if x.length+y.length<=sizeLine then some (Md.fz,D.tup (x++y))else none)=_;rw[if_pos h])
@[simp] theorem isn_n:dL .non=true:=rfl
@[simp] theorem isn_i{i:Int}:dL (.int i)=false:=rfl
@[simp] theorem isn_b{i:Bool}:dL (.bl i)=false:=rfl
@[simp] theorem isn_s{i:Str}:dL (.str i)=false:=rfl
@[simp] theorem isn_t{i:List D}:dL (.tup i)=false:=rfl
@[simp] theorem isn_l{i:List D}:dL (.lst i)=false:=rfl
@[simp] theorem x_andT{y:Res}:eQ (.ok m (.bl true)) y=y:=rfl
@[simp] theorem x_andF{y:Res}:eQ (.ok m (.bl false)) y=.ok .fz (.bl false):=rfl
@[simp] theorem x_orT{y:Res}:orR (.ok m (.bl true)) y=.ok .fz (.bl true):=rfl
@[simp] theorem x_orF{y:Res}:orR (.ok m (.bl false)) y=y:=rfl
@[simp] theorem x_and{a b:Bool}:eQ (.ok m (.bl a)) (.ok .fz (.bl b))=.ok .fz (.bl (a&&b)):=by cases a <;> rfl
@[simp] theorem x_or{a b:Bool}:orR (.ok m (.bl a)) (.ok .fz (.bl b))=.ok .fz (.bl (a||b)):=by cases a <;> rfl
@[simp] theorem x_not{a:Bool}:lG (.ok m (.bl a))=.ok .fz (.bl (!a)):=rfl
@[simp] theorem x_tru{a:Bool}:lF (.ok m (.bl a))=.ok .fz (.bl a):=rfl
@[simp] theorem x_truI:lF (.ok m (.int i))=.ok .fz (.bl (i != 0)):=rfl
@[simp] theorem x_ifT{x y:aG}:ifS (.ok m (.bl true)) ρ x y=x:=rfl
@[simp] theorem x_ifF{x y:aG}:ifS (.ok m (.bl false)) ρ x y=y:=rfl
@[simp] theorem x_frz:aZ (.ok .fz d)=.ok .fz d:=rfl
@[simp] theorem x_frr:aZ (.ok .fr d)=.ok .fz d:=rfl
@[simp] theorem x_set{k:Nat}:eU ρ k (.ok .fz d)=.nx (ρ.set k (some (false,d))):=rfl
@[simp] theorem x_setr{k:Nat}:eU ρ k (.ok .fr d)=.nx (ρ.set k (some (true,d))):=rfl
@[simp] theorem x_ret:jP (.ok .fz d) ρ=.rt .fz d:=rfl
@[simp] theorem x_retr:jP (.ok .fr d) ρ=.rt .fr d:=rfl
@[simp] theorem g_0{r:Rho}:eP (some (false,d)::r) 0=.ok .fz d:=rfl
@[simp] theorem g_0b{r:Rho}:eP (some (true,d)::r) 0=.ok .bo d:=rfl
@[simp] theorem g_s{x:Option (Bool×D)}{r:Rho}{i:Nat}:eP (x::r) (i+1)=eP r i:=rfl
@[simp] theorem g_1{x:Option (Bool×D)}{r:Rho}:eP (x::r) 1=eP r 0:=rfl
@[simp] theorem rs_0{r:Rho}:fF (some (false,d)::r) 0=.rt .fz d:=rfl
@[simp] theorem rs_0b{r:Rho}:fF (some (true,d)::r) 0=.rt .fr d:=rfl
@[simp] theorem rs_1{x:Option (Bool×D)}{r:Rho}:fF (x::r) 1=fF r 0:=rfl
@[simp] theorem rs_s{x:Option (Bool×D)}{r:Rho}{i:Nat}:fF (x::r) (i+1)=fF r i:=rfl
@[simp] theorem r_set0{x y:Option (Bool×D)}{r:Rho}:(x::r).set 0 y=y::r:=rfl
@[simp] theorem x_callR{f:List (Md×D)->Option (Md×D)}{xs:List (Md×D)}:eR f (.ok xs)=Res.of (f xs):=rfl
@[simp] theorem bn_len:Bn.f .len=eT:=rfl
@[simp] theorem bn_isi:Bn.f .isinstance=cL:=rfl
@[simp] theorem ty_int:Ty.f .int=jU:=rfl
@[simp] theorem ty_str:Ty.f .str=lP:=rfl
@[simp] theorem ty_tuple:Ty.f .tuple=fK:=rfl
@[simp] theorem ty_dict:Ty.f .dict=oF:=rfl
@[simp] theorem ty_list:Ty.f .list=iR:=rfl
@[simp] theorem tci_i{i:Int}:jU [(m,.int i)]=some (.fz,.int i):=rfl
@[simp] theorem tci_b{i:Bool}:jU [(m,.bl i)]=some (.fz,.int (if i then 1 else 0)):=rfl
@[simp] theorem tct_l{i:List D}:fK [(m,.lst i)]=some (.fz,.tup i):=rfl
@[simp] theorem tct_t{i:List D}:fK [(.fz,.tup i)]=some (.fz,.tup i):=rfl
@[simp] theorem tcl_l{i:List D}:iR [(m,.lst i)]=some (.fr,.lst i):=rfl
@[simp] theorem tcl_t{i:List D}:iR [(m,.tup i)]=some (.fr,.lst i):=rfl
@[simp] theorem tcs_i{i:Int}(h:fX i=true):lP [(m,.int i)]=some (.fz,.str (bU i)):=by show(if fX i=true then _ else _)=_;rw[if_pos h]
@[simp] theorem mt_ty:Mt.ty .join="str" := rfl
@[simp] theorem mt_f:Mt.f .join=hG:=rfl
@[simp] theorem mt_tyT:Mt.ty .joinT="str" := rfl
@[simp] theorem mt_fT:Mt.f .joinT=D3.joinT:=rfl
@[simp] theorem mt_tyS:Mt.ty .startswith="str" := rfl
@[simp] theorem mt_fS:Mt.f .startswith=swD:=rfl
@[simp] theorem mt_tyR:Mt.ty .removeprefix="str" := rfl
@[simp] theorem mt_fR:Mt.f .removeprefix=rpD:=rfl
@[simp] theorem len_s:eT [(m,.str z)]=some (.fz,.int z.length):=rfl
@[simp] theorem len_l{z:List D}:eT [(m,.lst z)]=some (.fz,.int z.length):=rfl
@[simp] theorem len_t{z:List D}:eT [(m,.tup z)]=some (.fz,.int z.length):=rfl
@[simp] theorem itm_l{z:List D}:fV (.ok m (.lst z))=.ok .fz (.lst z):=rfl
@[simp] theorem itm_t{z:List D}:fV (.ok m (.tup z))=.ok .fz (.lst z):=rfl
@[simp] theorem itm_s:fV (.ok m (.str z))=.ok .fz (.lst (jQ z)):=rfl
end
@[simp] theorem WT_xf{t:TB}{k:Nat}:(WT t k).xf=λc x=>t.xt.lookup (c,x):=by unfold WD.xf;rw[zU]
@[simp] theorem WT_xg{t:TB}{k:Nat}:(WT t k).xg=λc x=>t.xi.lookup (c,x):=by unfold WD.xg;rw[zV]
section
variable  {c:Str}{ρ':Rho}{m:Md}{d:D}{xt:Str->Str->Option Bool}{hs:List HX}{g:Rho->aG}
@[simp] theorem x_frx:aZ (.exc c)=.exc c:=rfl
@[simp] theorem x_setx{k:Nat}:eU ρ k (.exc c)=.exc c ρ:=rfl
@[simp] theorem x_retx:jP (.exc c) ρ=.exc c ρ:=rfl
end
def dB{N:Nat}{g:Rho->aG}{m:Md}{d:D}(hl:ds.length=n)(h:g (hO N ds)=.rt m d):phi n N g ds=.ok m d:=by unfold phi;rw[if_pos hl,h];rfl
def o4{xs:List (Md×D)}{d:D}(hl:ds.length=n)(ha:cP xs=some ds)(h:Φ ds=.ok .fz d):bI n Φ (.ok xs)=.ok .fz d:=by
 show(match cP xs with|some ds=>if ds.length=n then(match Φ ds with|.ok .bo _=>Res.stuck|r=>r)else .stuck|none=>.stuck)=_
 rw[ha];show(if ds.length=n then _ else _)=_;rw[if_pos hl,h]
@[simp] theorem kJ{a d:D}(h:Φ [a]=.ok .fz d):bI 1 Φ (.ok [(.fz,a)])=.ok .fz d:=o4 (ds:=[a]) rfl rfl h
@[simp] theorem fO{a b d:D}(h:Φ [a,b]=.ok .fz d):bI 2 Φ (.ok [(.fz,a),(.fz,b)])=.ok .fz d:=o4 (ds:=[a,b]) rfl rfl h
@[simp] theorem call3{a b c d:D}(h:Φ [a,b,c]=.ok .fz d):bI 3 Φ (.ok [(.fz,a),(.fz,b),(.fz,c)])=.ok .fz d:=o4 (ds:=[a,b,c]) rfl rfl h
def aNO{i:Int}(h:i.natAbs<10 ^ 500):fX i=true:=by
 unfold fX;refine aSS ?_;by_cases h0:i.natAbs=0
 . rw[h0];decide
 . refine(Nat.log2_lt h0).mpr (aSX h ?_);decide +kernel
@[simp] theorem aNP{Φ:Str->List D->Res}{c m:Str}{fs:List (Str×D)}{as:bG}(h:CI.meth cl c m=some (key,n))(hl:fs.lookup m=none):fW cl Φ m (.ok .fz (.ins c fs)) as=bI n (Φ key) (dH (.ok .fz (.ins c fs)) as):=by
 show(match CI.meth cl c m with|some (key,n)=>if fs.lookup m=none then bI n (Φ key) (dH (.ok .fz (.ins c fs)) as)else .stuck|none=>.stuck)=_
 rw[h];show(if fs.lookup m=none then _ else _)=_;rw[if_pos hl]
@[simp] theorem wt_cl{t:TB}{k:Nat}:(WT t k).cl=t.cl:=mP t k
def fB{t:TB}{k:Nat}{f:Str}{d:FD}(h:t.T.lookup f=some d):(WT t (k+1)).Φ f=phi d.ps.length d.N.length (evB (WT t k) d.b):=by rw[WT_Φ];unfold mO;rw[h]
@[simp] theorem call4{a b c e d:D}(h:Φ [a,b,c,e]=.ok .fz d):bI 4 Φ (.ok [(.fz,a),(.fz,b),(.fz,c),(.fz,e)])=.ok .fz d:=o4 (ds:=[a,b,c,e]) rfl rfl h
theorem iE{W:WD}:∀{x y:List D3.S}{ρ:Rho},evB W (x++y) ρ=(evB W x ρ).thn (evB W y)
 |[],y,ρ=>by simp
 |s::x,y,ρ=>by
  show evB W (s::(x++y)) ρ=_;rw[mW,mW];cases evS W s ρ with
  |nx ρ'=>exact iE
  |_=>rfl
end D3
namespace Tp
open PySem.W PySem.Calls
structure S where
 t:BT
 n:Nat
 k:Nat
 nm:aW2
 g:List DictEntry
 tb:List aW2
def tupO(vs:List aW2):Obj:=⟨.type "tuple", none,.seq vs.toArray 0,#[]⟩
def fldO(c:aW2)(vs:List aW2):Obj:=⟨c,none,.fields vs.toArray,#[]⟩
def dicO(es:List DictEntry)(e:Nat):Obj:=⟨.type "dict", none,.dict es.toArray e,#[]⟩
def en(P:Params)(x:Str)(k:Nat)(v:aW2):DictEntry:=⟨PyData.keyHash P x,.str x k,v⟩
def texts:List Str->Nat->List aW2
 |[],_=>[]
 |x::xs,k=>.str x k::texts xs (k+1)
def fileS:Str := "/claim/cut.py"
noncomputable def codeO(name qual:Str)(k line argc fl:Nat)(isF:Bool)(a:Nat)(ls cs tm:aW2)(j:Nat):Obj :=
 fldO (.type "code") [.str name k,.str qual (k+1),.str fileS (k+2),.int line 0,.int argc 0,.int 0 0,.int 0 0,.int fl 0,.ref a,.bool isF,.int 181 0,.ref (a+1),.none,ls,cs,tm,.int j 0,.int line 0,.str fileS (j+1)]
noncomputable def frmO(code ns:Nat)(nm:aW2):Obj:=⟨.type "frame", none,.plain,#[some (.ref code),some (.ref 3),some (.ref ns),none,some nm,none,some (.ref 0)]⟩
def fnD(name qual:Str)(args:Arguments)(body:List Stmt)(sc:Scope)(gl:Nat)(nm cd:aW2):FuncData:=⟨name,qual,args,.stmts body,sc,gl,[],.none,.none,.none,nm,none,cd,.none,0⟩
def insL:List Obj->BT->Nat->BT
 |[],t,_=>t
 |o::os,t,n=>insL os (t.ins n o) (n+1)
def layF(name qual:Str)(args:Arguments)(body:List Stmt)(sc:Scope)(line n k:Nat)(nm:aW2):List Obj×Nat×Nat :=
 match localNames args sc (.stmts body)with
 |some (ls,cs) =>
  let a:=ls.length
  let b:=cs.length
  ([tupO [],fldO .none [],tupO (texts ls (k+3)),tupO (texts cs (k+3+a)),⟨.none,none,.func (fnD name qual args body sc 0 .none .none),#[]⟩,
   codeO name qual k line args.args.length 3 true n (.ref (n+2)) (.ref (n+3)) (.ref (n+4)) (k+3+a+b),⟨.type "function", none,.func (fnD name qual args body sc 3 nm (.ref (n+5))),#[]⟩],n+5,k+5+a+b)
 |none =>
  ([tupO [],fldO .none [],⟨.none,none,.func (fnD name qual args body sc 0 .none .none),#[]⟩,
   codeO name qual k line args.args.length 3 true n .none .none (.ref (n+2)) (k+3),⟨.type "function", none,.func (fnD name qual args body sc 3 nm (.ref (n+3))),#[]⟩],n+3,k+5)
def look(x:Str):List DictEntry->Option aW2
 |[]=>none
 |⟨_,.str y _,v⟩::es=>match decide (x=y)with|true=>some v|false=>look x es
 |_::es=>look x es
structure B where
 t:BT
 n:Nat
 k:Nat
 es:List DictEntry
 tb:List aW2
def layB(P:Params)(cn:Str)(nm:aW2):List Stmt->B->B
 |.FunctionDef name args body _ _ _ sc _ _ pos::r,⟨t,n,k,es,tb⟩ =>
  match layF name (cn ++ "." ++ name) args body sc pos.line n k nm with
  |(os,c,j)=>layB P cn nm r ⟨insL os t n,n+os.length,j+1,en P name j (.ref (c+1))::es,.ref c :: .int pos.col 0 :: .int pos.line 0::tb⟩
 |_::r,b=>layB P cn nm r b
 |[],b=>b
def mroOf(t:BT)(a:Nat):List aW2×aW2:=match t.get a with
 |some ⟨_,_,.cls c,sl⟩=>(c.mro,(sl.getD 4 none).getD .none)
 |_=>([],.none)
def subTo(a:Nat):Obj->Obj
 |⟨c,d,.cls k,sl⟩=>⟨c,d,.cls {k with subclasses:=k.subclasses++[.ref a]},sl⟩
 |o=>o
noncomputable def layC(P:Params)(name:Str)(bases:List PySem.Expr)(body:List Stmt)(st:List Str)(line:Nat):S->S
 |⟨t,n,k,nm,g,tb⟩ =>
  let bs:List aW2:=match bases with
   |.Name b _::_=>(match look b g with|some v=>[v]|none=>[.type "ValueError"])
   |_=>[]
  let n2:=n+2
  let t1:=insL [tupO bs,fldO (.type "builtin_function_or_method") [.builtin "type.__prepare__", .type "type"],dicO [] 0,tupO [],fldO .none [],codeO name name (k+2) line 0 0 false (n+3) .none .none .none (k+5),frmO (n+5) n2 nm] t n
  match layB P name nm body ⟨t1,n+7,k+12,[en P "__firstlineno__" (k+11) (.int line (k+10)),en P "__qualname__" (k+9) (.str name (k+8)),en P "__module__" (k+7) nm],[]⟩with
  |⟨t2,m,j,es,ct⟩ =>
   let es1:=en P "__static_attributes__" (j+st.length) (.ref m)::es
   let j1:=j+st.length+1
   let t3:=(t2.set n2 λ_=>dicO es1.reverse es1.length).set (n+4) λ_=>fldO .none ct.reverse
   let cl:=m+2
   let cp:=(es1.reverse.take 1)++(es1.reverse.drop 2)
   let fin (mro:List aW2) (nw:aW2) (bv:List aW2) (sl0:Option aW2) (xs:List DictEntry) (gs:List Obj) (t:BT) (j:Nat):S :=
    let os:=[tupO (texts st (m-m+(j1-1-st.length))),dicO (cp++xs++[en P "__doc__" j .none]) (2+xs.length),⟨.type "type", none,.cls ⟨name,bv,.ref cl::mro,m+1,name,true,[],[],false,none,false⟩,#[sl0,none,some (.str name k),some (.str name (k+8)),some nw,some (.bool true)]⟩]
     ++ gs++[fldO (.type "super") [.ref cl,.ref cl,.ref cl],fldO (.type "builtin_function_or_method") [.builtin "object.__init_subclass__", .ref cl]]
    ⟨insL os t m,m+os.length,j+3,nm,en P name (j+2) (.ref cl)::g,.ref (n+5) :: .int 0 0 :: .int line 0::tb⟩
   let gw (j a:Nat):=fldO (.type "getset_descriptor") [.str "__weakref__" j,.ref cl,.builtin "ExceptionGroup.__weakref__", .none]
   match bs with
   | [] => fin [.type "object"] (.builtin "object.__new__") [.type "object"] none [en P "__dict__" (j1 + 1) (.ref (m + 3)), en P "__weakref__" (j1 + 3) (.ref (m + 4))]
       [fldO (.type "getset_descriptor") [.str "__dict__" j1,.ref cl,.builtin "function.__dict__", .builtin "function.__dict__#set"],gw (j1+2) 0] t3 (j1+4)
   |.ref a::_=>match mroOf t3 a with
    |(mro,nw)=>fin mro nw bs (some (.ref n)) [] [] (t3.set a (subTo cl)) j1
   |_=>fin [.type "ValueError", .type "Exception", .type "BaseException", .type "object"] (.builtin "ValueError.__new__") bs (some (.ref n)) [en P "__weakref__" (j1+1) (.ref (m+3))] [gw j1 0] t3 (j1+2)
def keysD(P:Params)(g:List DictEntry):List (Option PySem.Expr)->List PySem.Expr->Nat->List DictEntry
 |some (.Constant (.str x) _ _)::ks,.Name y _::vs,k=>en P x k ((look y g).getD .none)::keysD P g ks vs (k+1)
 |_,_,_=>[]
def put(P:Params)(x:Str)(v:aW2)(t:BT)(n k:Nat)(nm:aW2)(g:List DictEntry)(tb:List aW2):S:=match decide (x="__name__")with
 |true=>⟨t,n,k+1,v,g,tb⟩
 |false=>⟨t,n,k+1,nm,en P x k v::g,tb⟩
def lay1(P:Params):Stmt->S->S
 |.FunctionDef name args body _ _ _ sc _ _ pos,⟨t,n,k,nm,g,tb⟩=>match layF name name args body sc pos.line n k nm with
  |(os,c,j)=>⟨insL os t n,n+os.length,j+1,nm,en P name j (.ref (c+1))::g,.ref c :: .int pos.col 0 :: .int pos.line 0::tb⟩
 |.ClassDef name bases _ body _ _ _ _ _ st pos,s=>layC P name bases body st pos.line s
 |.Assign [.Name x _] (.Constant (.str v) _ _) _,⟨t,n,k,nm,g,tb⟩=>put P x (.str v k) t n (k+1) nm g tb
 |.Assign [.Name x _] (.Constant (.int v) _ _) _,⟨t,n,k,nm,g,tb⟩=>put P x (.int v k) t n (k+1) nm g tb
 |.Assign [.Name x _] (.Dict ks vs _) _,⟨t,n,k,nm,g,tb⟩=>put P x (.ref n) (t.ins n (dicO (keysD P g ks vs k) vs.length)) (n+1) (k+2 * vs.length) nm g tb
 |_,s=>s
def lay(P:Params):List Stmt->S->S
 |[],s=>s
 |st::r,s=>lay P r (lay1 P st s)
noncomputable def s0(os:List Obj):S :=
 ⟨insL [tupO [],fldO .none [],codeO "<module>" "<module>" 182 1 0 0 false 11 .none .none .none 185,frmO 13 3 (.str "__main__" 164)] (insL os .nil 0) 11,15,187,.str "__main__" 164,[],[]⟩
def nameTo(nm:aW2):List DictEntry->List DictEntry
 |e::es=>{e with val:=nm}::es
 |[]=>[]
def mainTo(nm:aW2)(g:List DictEntry):Obj->Obj
 |⟨c,d,.dict es e,sl⟩=>⟨c,d,.dict (nameTo nm es.toList++g.reverse).toArray (e+g.length),sl⟩
 |o=>o
noncomputable def S.bt(s:S):BT:=(s.t.set 3 (mainTo s.nm s.g)).set 12 λ_=>fldO .none s.tb.reverse
def z0:Pos:=⟨0,0,0,0⟩
def an:Option aW2:=some (.ref 6)
def ev(p:aW6):Env:={scope:=p.main.scope,locals:=mainNs,globals:=mainNs,cells:=[],code:=.ref 13,frame:=some 14}
noncomputable def cd(p:aW6):Code:=.body (behindTheImports p) (ev p)
noncomputable def go(tb:String->Option Builtin)(p:aW6)(w:aW5)(F:Nat):List Stmt->SharedT->Code->Pos->Option (SharedT×Code×Pos)
 |[],s,c,q=>some (s,c,q)
 |st::l,s,c,q=>match segRunT tb p w 11 an 1 F s (pieceOf st (ev p) c q [topFrame z0])with
  |some (.next,s',c',q')=>go tb p w F l s' c' q'
  |_=>none
def ns(F N:Nat):List Stmt->Nat
 |[]=>N
 |_::l=>F+ns F N l
section
variable {tb:String->Option Builtin}{p:aW6}
def one{N:Nat}{r:aW3}{rest:List Stmt}{c c':Code}{e:Env}(h:segRun tb p w 11 an 1 n s (pieceOf st e c q [topFrame z0])=some (.next,s',c',q'))(k:topRun tb p w 11 an N s' (restOf rest e c' q' [topFrame z0])=some r):topRun tb p w 11 an (n+N) s (restOf (st::rest) e c q [topFrame z0])=some r:=by
 obtain⟨a,ha,hN⟩:=seg_top (B:=[topFrame z0]) (res:=id)
  (K':=λf=>match f with
   |.next=>(execs rest e).wrap doneF (leaveH e) id id
   |f=>doneF f)
  (H':=leaveH e) rfl n s (pieceOf st e c q [topFrame z0])
  ⟨(exec st e).wrap (λf=>match f with
   |.next=>(execs rest e).wrap doneF (leaveH e) id id
   |f=>doneF f) (leaveH e) id id,c,q,[topFrame z0]⟩ _ _ _ _ ⟨rfl,rfl,.inl ⟨rfl,rfl,_,rfl,rfl⟩⟩ h
 cases ha;unfold restOf;rw[execs_cons_wrap];exact hN N r k
theorem go_top'{F:Nat}:∀(l:List Stmt) {s s':SharedT}{c c':Code}{q q':Pos},go tb p w F l s c q=some (s',c',q')->∀{N:Nat}{r:aW3}{rest:List Stmt},topRun tb p w 11 an N s'.abs (restOf rest (ev p) c' q' [topFrame z0])=some r->topRun tb p w 11 an (ns F N l) s.abs (restOf (l++rest) (ev p) c q [topFrame z0])=some r
 |[],_,_,_,_,_,_,h,_,_,_,k=>by cases h;exact k
 |st::l,s,s',c,c',q,q',h,N,r,rest,k=>by
  unfold go at h;split at h
  . rename_i x e;exact one (segRun_of e) (go_top' l h k)
  . cases h
def fin2(s:aW3)(c:Code)(q:Pos):topRun tb p w 11 an 2 s (restOf [] (ev p) c q [topFrame z0])=some s:=by obtain⟨h,g,d,k,o⟩:=s;rfl
noncomputable def sh(P:Params)(S:S)(n k:Nat)(os:OsState):SharedT:=⟨S.bt,n,(boot_heap P).life,#[],boot_drawn,k,os⟩
noncomputable def sA(P:Params):S:=s0 (boot_heap P).objs.toList
def run_of{l:List Stmt}{k:Nat}{c':Code}(hl:behindTheImports p=l)(pre:∀(w:aW5) (os:OsState),topGo treeTable p w 11 an 12 ⟨boot_heap w.params,#[],boot_drawn,boot_toks,os⟩ (topStub p)=some ((sh w.params (sA w.params) 15 187 os).abs,⟨denote treeTable (cd p),cd p,z0,[topFrame z0]⟩))(blk:∀(w:aW5) (s:aW3),segRun treeTable p w 11 an 1 1 s (blockOf l (ev p) (cd p) z0 [topFrame z0])=some (.next,s,cd p,z0))(run:∀(w:aW5) (os:OsState),go treeTable p w 1000 l (sh w.params (sA w.params) 15 187 os) (cd p) z0=some (sh w.params (lay w.params l (sA w.params)) n k os,c',q')):∀(w:aW5) (os:OsState),topRun treeTable p w 11 an (12+(1+ns 1000 2 l)) ⟨boot_heap w.params,#[],boot_drawn,boot_toks,os⟩ (topStub p)=some (sh w.params (lay w.params l (sA w.params)) n k os).abs:=by
 intro w os;refine go_top (pre w os) ?_;unfold cd;rw[hl];refine piece_block (n:=1) (by have:=blk w (sh w.params (sA w.params) 15 187 os).abs;unfold cd at this;rw[hl]at this;exact this) ?_
 have:=go_top' l (run w os) (rest:=[]) (fin2 _ _ _);rw[aRT]at this;unfold cd at this;rw[hl]at this;exact this
end
noncomputable def KK(l:List Stmt)(as:List Addr)(P:Params):Frag:=as.map λa=>(a,((lay P l (sA P)).bt.get a).getD default)
def KK_e(l:List Stmt)(as:List Addr)(P:Params):as=(KK l as P).map (·.1):=by unfold KK;rw[aV9];exact(List.map_id as).symm
noncomputable def hk(l:List Stmt)(as:List Addr):Hook:=kHook (KK l as) as (KK_e l as)
noncomputable def H1(l:List Stmt)(n:Nat)(P:Params):Heap:=absHeap (lay P l (sA P)).bt n (boot_heap P).life
noncomputable def S1(l:List Stmt)(n k:Nat)(P:Params)(os:OsState):aW3:=⟨H1 l n P,#[],boot_drawn,k,os⟩
def bnd(n:Str):Stmt->List Str
 |.FunctionDef x ..=>if x==n then[]else[x]
 |.ClassDef x ..=>[x]
 |.Assign [.Name x _] _ _=>if x == "__name__" then[]else[x]
 |_=>[]
def los(l:List Stmt):List Str:=l.flatMap (bnd "law")
def vw(p:aW6):aW6:={ p with main:={ p.main with body:=p.main.body.filter λst=>match st with|.FunctionDef x ..=>x == "law" |_=>false } }
def xt(r:OpenRow)(s:aW3):Bool:=xlAt (vw r.prog) [] s&&recOk r.toRowW.records s
def size1(w:aW5):((boot_heap w.params).isNs mainGlobals&&(#[]:Array GenState).size==0,(boot_heap w.params).objs.size,(boot_heap w.params).nsMap mainGlobals "__annotations__")=(true,11,an):=by kernel_rfl
end Tp
def Tp.twA:Prod.fst (true,(@Tp.go,@Tp.lay,@Tp.sh,@Tp.sA,@Tp.cd,@Tp.ev,@Tp.S.bt,@Tp.KK,@Tp.hk,@Tp.H1,@Tp.S1,@Tp.los,@Tp.vw,@Tp.xt))=true:=by k_qdec
namespace D3
open PySem.Calls
def sZ(q:Str):Str:=q ++ ".<locals>." ++ uS q
def cdT:aW2->aW2->aW2->aW2->aW2->aW2->Option Addr
 |.type "code", .ref T,.str _ _,.int _ _,.bool _,.int _ _=>some T
 |_,_,_,_,_,_=>none
def iF:Obj->Option (Str×Option Addr)
 |⟨cl,_,.fields vs,_⟩=>match vs.toList with
  |_ :: .str q _::_=>some (q,cdT cl (vs.getD 11 .none) (vs.getD 18 .none) (vs.getD 7 .none) (vs.getD 9 .none) (vs.getD 10 .none))
  |_=>none
 |_=>none
def tq(b:Addr):Fg->Option Str
 |[]=>none
 |(_,o)::r=>match iF o with
  |some (q,some T)=>if T=b then some q else tq b r
  |_=>tq b r
def tB:Option Obj->Bool
 |some ⟨.none,none,.fields vs,sl⟩=>vs.size==0&&sl.size==0
 |_=>false
noncomputable def o5(K Kf:Fg):Bool:=K.all λ(c,o)=>match iF o with
 |none=>true
 |some (q,some T)=>tq T K==some q&&(K.lookup T).isNone&&tB (Kf.lookup T)&&c != T
 |some (_,none)=>false
def aNQ{o:Option Obj}(h:tB o=true):o=some ⟨.none,none,.fields #[],#[]⟩:=by
 unfold tB at h;split at h
 . rename_i vs sl;simp only[aSJ,aRN]at h;obtain rfl:vs = #[]:=aWQ h.1;obtain rfl:sl = #[]:=aWQ h.2;rfl
 . cases h
def aAB{o:Obj}{q:Str}{T:Addr}(h:iF o=some (q,some T)){c:Addr}(e:hp.get? c=some o)(ne:c≠T):W.CodeHd hp c T:=by
 obtain⟨cl,od,dt,sl⟩:=o;unfold iF at h;split at h
 . rename_i cl' od' vs sl' he;cases he;split at h
   . rename_i a q' t r hv;have h1:=aQO h;have h2:cdT cl (vs.getD 11 .none) (vs.getD 18 .none) (vs.getD 7 .none) (vs.getD 9 .none) (vs.getD 10 .none)=some T:=congrArg Prod.snd h1;unfold cdT at h2;split at h2
     . rename_i e1 e2 e3 e4 e5;cases h2;refine⟨_,vs,_,_,_,_,_,_,_,e,rfl,rfl,?_,e1,e2,e3,e4,e5,ne⟩;rw[aVA]at e1;cases q:vs[11]? with
       |none=>rw[q]at e1;cases e1
       |some v=>rw[q]at e1;exact congrArg some e1
     . cases h2
   . cases h
 . cases h
def aNR{cd:aW2}{q:Str}(h:W.codeIn K cd q=true):∃c o,cd=.ref c/\K.lookup c=some o/\∃x,iF o=some (q,x):=by
 unfold W.codeIn at h;split at h
 . rename_i c;split at h
   . rename_i e;split at h
     . rename_i a n t r hv;refine⟨c,_,rfl,e,?_⟩;rw[aRN]at h;subst h;unfold iF;dsimp only;rw[hv];exact⟨_,rfl⟩
     . cases h
   . cases h
 . cases h
theorem aAC{c:Addr}{o:Obj}:∀{K:Fg},K.lookup c=some o->(c,o)∈K
 |[],h=>by cases h
 |(b,u)::r,h=>by
  rw[aTB]at h;split at h
  . rename_i hb;cases h;have hb:=aRN.mp hb;subst hb;exact mcs
  . exact mcm (aAC h)
theorem tE{b:Addr}{q:Str}:∀{K:Fg},tq b K=some q->∃c o,(c,o)∈K/\iF o=some (q,some b)
 |[],h=>by cases h
 |(c,o)::r,h=>by
  unfold tq at h;split at h
  . rename_i q' T e;split at h
    . rename_i ht;cases h;subst ht;exact⟨c,o,mcs,e⟩
    . obtain⟨c',o',m,x⟩:=tE h;exact⟨c',o',mcm m,x⟩
  . obtain⟨c',o',m,x⟩:=tE h;exact⟨c',o',mcm m,x⟩
structure TabF(K Kf:Fg):Prop where
 all:∀c o,(c,o)∈K->∀q x,iF o=some (q,x)->∃T,x=some T/\tq T K=some q/\K.lookup T=none/\Kf.lookup T=some ⟨.none,none,.fields #[],#[]⟩/\c≠T
def aNS{Kf:Fg}(h:o5 K Kf=true):TabF K Kf:=⟨λc o m q x e=>by
 have h1:=aV8.mp h (c,o) m;dsimp only at h1;rw[e]at h1;cases x with
 |none=>cases h1
 |some T =>
  dsimp only at h1;simp only[aSJ,aRN,aWM,Option.isNone_iff_eq_none]at h1;exact⟨T,rfl,h1.1.1.1,h1.1.1.2,aNQ h1.1.2,h1.2⟩⟩
def aNT{Kf:Fg}{mb:SOV}{k:Nat}{fa a:Addr}{s₁:aW3}{ns:List Int}(KX:Kf.In s₁.heap)(sub:∀b o,K.lookup b=some o->Kf.lookup b=some o)(tb:TabF K Kf)(nd:∀b o,(b,o)∈K->K.lookup b=some o)(hns:s₁.heap.Ns mainGlobals mg)(hb:s₁.heap.Ns builtinsNs mb)(hbb:∀x:Str,x ≠ "__name__" -> mb x=bootBuiltins x)(hlim:s₁.heap.NoLimit)(hbm:∃bm ob,mg "__builtins__" = some (.ref bm)/\bm≠builtinsNs/\s₁.heap.get? bm=some ob/\ob.cls=.type "module" /\ ob.dict=some builtinsNs/\ob.data=.plain)(hg:s₁.gens = #[])(ha:s₁.heap.get? a=some { cls:=.type "list", data:=.seq vs.toArray })(hi:IntsAre vs ns)(hl:ns.length<=sizeLine)(hr:bS k callerA)(F:∀base:Heap,K.In base->base.Ns mainGlobals mg->bT P w K mg base CX k fa fd [x] sp)(hbind:∀(s:aW3) (u:aW2),BindsTo s fd ⟨[u],[]⟩ [(x,u)])(hsp:∀H:Hp,SqL K H a (ns.map V.int)->sp [.ref a] H (λv _=>v=.bl true) λ_ _ _=>False)(hCX:∀H e s',CX [] H s₁ (λ_ _ _=>False) e s'->False):codeAny (model P w) callerA (.call (.ref fa) ⟨[.ref a],[]⟩) (λr s'=>r=.ok (.ret (.bool true))/\OldK s₁.heap s'.heap/\s'.os=s₁.os/\AllBare s'.gens) s₁:=by
 have KX':K.In s₁.heap:=λb o e=>KX b o (sub b o e);have rv:=v9 hi;have lenV:=hi.length
 let sob:Obj:={ cls:=.type "list", data:=.seq vs.toArray }
 let H:Hp:=λb=>match tq b K with
  |some q=>some (.tbl #[.str (sZ q) 0])
  |none=>if b=a/\K.lookup a=none then some (.frz sob (.lst (ns.map V.int)))else none
 have tabAt:∀{b:Addr}{q:Str},tq b K=some q->K.lookup b=none/\s₁.heap.get? b=some ⟨.none,none,.fields #[],#[]⟩/\isCodeTable s₁.heap b:=λ{b q} e=>by obtain⟨c,o,m,x⟩:=tE e;obtain⟨T,e1,_,e3,e4,e5⟩:=tb.all c o m q _ x;cases e1;obtain⟨o',vs',_,_,_,_,_,_,_,g1,g2,g3,g4,_⟩:=aAB x (KX' c o (nd c o m)) e5;exact⟨e3,KX _ _ e4,c,o',vs',g1,g2,g3,g4⟩
 have nota:tq a K=none:=by
  cases e:tq a K with
  |none=>rfl
  |some q=>have:=(tabAt e).2.1;rw[ha]at this;cases this
 have Htab:∀{b:Addr}{q:Str},tq b K=some q->H b=some (.tbl #[.str (sZ q) 0]):=λ{b q} e=>by
  show(match tq b K with|some q=>_|none=>_)=_
  rw[e]
 have Hno:∀{b:Addr},tq b K=none->H b=if b=a/\K.lookup a=none then some (.frz sob (.lst (ns.map V.int)))else none:=λ{b} e=>by
  show(match tq b K with|some q=>_|none=>_)=_
  rw[e]
 have HK:∀{b:Addr}{o:Obj},K.lookup b=some o->H b=none:=λ{b o} e=>by
  cases q:tq b K with
  |some x=>have:=(tabAt q).1;rw[e]at this;cases this
  |none=>rw[Hno q,if_neg];rintro⟨rfl,z⟩;rw[e]at z;cases z
 have noD:∀{b:Addr}{o:Obj}{es:Array DictEntry}{ep:Nat},s₁.heap.get? b=some o->o.data=.dict es ep->H b=none:=λ{b o es ep} e d=>by
  cases q:tq b K with
  |some x=>have:=(tabAt q).2.1;rw[e]at this;cases this;cases d
  |none=>rw[Hno q,if_neg];rintro⟨rfl,z⟩;rw[ha]at e;cases e;cases d
 have noM:∀{b:Addr}{o:Obj},s₁.heap.get? b=some o->o.cls=.type "module" -> H b=none:=λ{b o} e d=>by
  cases q:tq b K with
  |some x=>have:=(tabAt q).2.1;rw[e]at this;cases this;cases d
  |none=>rw[Hno q,if_neg];rintro⟨rfl,z⟩;rw[ha]at e;cases e;injection d with d;exact absurd d (by decide)
 have hok:HOk P w H s₁.heap:=λb u e=>by
  cases q:tq b K with
  |some x=>rw[Htab q]at e;cases e;refine⟨sZ x,#[],rfl,(tabAt q).2.1,trivial,λz cv f=>?_⟩;cases f
  |none =>
   rw[Hno q]at e;split at e
   . rename_i hc;cases e;obtain⟨rfl,_⟩:=hc;exact⟨ha,by rw[aR4];exact hl,vs,_,rv,ha⟩
   . cases e
 have hS:SqL K H a (ns.map V.int):=by
  cases hk:K.lookup a with
  |some o=>have e:=KX' a o hk;rw[ha]at e;cases e;exact .inr ⟨_,vs.toArray,_,hk,rfl,rfl,rfl,by rw[aRL,lenV];exact hl,by simpa using rv⟩
  |none=>exact .inl (.inr ⟨sob,by rw[Hno nota,if_pos ⟨rfl,hk⟩]⟩)
 have nsK:∀{b:Addr}{m:SOV},s₁.heap.Ns b m->(gG s₁.heap H).Ns b m:=λ{b m} ⟨o,es,ep,e,d,r⟩=>⟨o,es,ep,pU e (noD e d),d,r⟩;have hKb:K.In (gG s₁.heap H):=λb o e=>pU (KX' b o e) (HK e);have hM:Mod K mg (gG s₁.heap H):=⟨hKb,nsK hns,⟨mb,nsK hb,hbb⟩,let⟨mc,h1,h2⟩:=hlim;⟨mc,nsK h1,h2⟩,let⟨bm,ob,b1,b2,b3,b4,b5,b6⟩:=hbm;⟨bm,ob,b1,b2,pU b3 (noM b3 b4),b4,b5,b6⟩⟩
 have hT:jH K (gG s₁.heap H) H:=λcd q e=>by obtain⟨c,o,rfl,lk,y,hy⟩:=aNR e;obtain⟨T,rfl,e2,_,_,e5⟩:=tb.all c o (aAC lk) q y hy;exact⟨c,T,_,rfl,aAB hy (hKb c o lk) e5,Htab e2,rfl⟩
 have e0:nO P w K mg (gG s₁.heap H) callerA [] s₁ H:=⟨rfl,hM,λb o e=>aCR e,Nat.le_of_eq (aCQ _ _),trivial,λb hb=>absurd (show b∈([]:List Addr)from hb) (by simp),hok,.of_eq hg,hT⟩
 refine aSY ((F _ hKb (nsK hns)).run callerA [] s₁ H ⟨[.ref a],[]⟩ [.ref a] [.ref a] _ _ hr e0 (hbind s₁ (.ref a)) (.cons rfl .nil) (hsp H hS)) λr s' h=>?_;cases r with
 |error e=>exact(hCX H e s' h).elim
 |ok fl =>
  cases fl with
  |next=>exact False.elim h
  |brk=>exact False.elim h
  |cont=>exact False.elim h
  |ret u =>
   obtain⟨v,H',os,bare,un,hok',r',q⟩:=h;have q':v=.bl true:=q;subst q';obtain rfl:u=Value.bool true:=r';have was:∀b o,s₁.heap.get? b=some o->asItWas s₁.heap s'.heap b o/\∃o',s'.heap.get? b=some o':=λb o e=>by
    cases q:tq b K with
    |some x=>obtain⟨more,z⟩:=un.tbls b _ (Htab q);obtain⟨_,m,_,g,_⟩:=hok' b _ z;obtain⟨_,t2,t3⟩:=tabAt q;rw[e]at t2;cases t2;exact⟨.inr (.inl ⟨t3,rfl,#[],m,rfl,by rw[g];simp⟩),_,g⟩
    |none =>
     have hn:=Hno q;split at hn
     . rename_i hc;obtain⟨rfl,_⟩:=hc;have z2:=un.frzs _ _ _ hn;obtain⟨e2,_⟩:=hok' _ _ z2;rw[ha]at e;cases e;exact⟨.inl e2,_,e2⟩
     . have:=un.keep b o e hn (by intro z;exact absurd (show b∈([]:List Addr)from z) (by simp)) (by simp)
       exact⟨.inl this,o,this⟩
   exact⟨rfl,⟨λb o e=>(was b o e).1,λb o e=>(was b o e).2⟩,os,bare⟩
def aNU{l:W.OpenLaw}{k:Nat}{q:aW6}{d:DefRec}{K Kf:Params->Fg}{CX:aW5->CXT}{sp:aW5->Sp}(hn:l.most=some n)(hn2:n<=sizeLine)(hdf:d.params.defaults=[])(hr:bS k callerA)(hY:∀(w:aW5) (h:Heap),YP w h->(Kf w.params).In h)(sub:∀P b o,(K P).lookup b=some o->(Kf P).lookup b=some o)(nd:∀P b o,(b,o)∈K P->(K P).lookup b=some o)(tb:∀P,o5 (K P) (Kf P)=true)(F:∀(w:aW5) (mg:SOV) (fa:Addr) (h:Heap),(K w.params).In h->h.Ns mainGlobals mg->mg d.name=some (.ref fa)->∃fd:FuncData,(∀(s:aW3) (u:aW2),BindsTo s fd ⟨[u],[]⟩ [(x,u)])/\∀base:Heap,(K w.params).In base->base.Ns mainGlobals mg->bT l.prog w (K w.params) mg base (CX w) k fa fd [x] (sp w))(hsp:∀(w:aW5) (H:Hp) (a:Addr) (ns:List Int),ns.length<=n->SqL (K w.params) H a (ns.map V.int)->sp w [.ref a] H (λv _=>v=.bl true) λ_ _ _=>False)(hCX:∀(w:aW5) (H:Hp) (s:aW3) (e:aW2) (s':aW3),CX w [] H s (λ_ _ _=>False) e s'->False):W.WalkO q loose XP YP l.row.toRowW d [] (λf vs=>PySem.call f vs):=by refine Att.aE6 hn hdf λw s₀ s₁ mg mb fa o pm cd doc a vs ns G Y ho hd hcd hmg hobj hints hlen hg=>?_;have KX:=hY w _ Y;obtain⟨fd,hb,hF⟩:=F w mg fa _ (λb o e=>KX b o (sub _ b o e)) G.T.g hmg;exact aNT KX (sub w.params) (aNS (tb w.params)) (nd w.params) G.T.g G.T.b G.T.builtins G.T.nolimit G.T.bmain hg hobj hints (aQW hlen hn2) hr hF hb (λH hS=>hsp w H a ns hlen hS) λH e s'=>hCX w H s₁ e s'
noncomputable def adB(K:Fg)(x:Str):Option Addr:=match W.nsIn K mainGlobals x with|some (some (.ref a))=>some a|_=>none
def fC{a:Addr}(h:adB K x=some a):W.nsIn K mainGlobals x=some (some (.ref a)):=by
 unfold adB at h;split at h
 . rename_i b e;cases h;exact e
 . cases h
noncomputable def isKey(key:Str):Addr×Obj->Bool
 |(_,⟨.type t,_,.func fd,_⟩)=>t == "function" && fd.qualname==key
 |_=>false
noncomputable def faK(K:Fg)(key:Str):Addr:=match K.find? (isKey key)with|some p=>p.1|none=>0
noncomputable def stOf(fd:FuncData)(b:List Stmt):Stmt:=.FunctionDef fd.name fd.params b [] none [] fd.scope none fd.name ⟨0,0,0,0⟩
noncomputable def parB(p:Arguments)(ps:List Str):Bool:=p.posonlyargs.isEmpty&&(p.args.map (·.arg)==ps)&&p.vararg.isNone&&p.kwonlyargs.isEmpty&&p.kwarg.isNone&&decide ps.Nodup
noncomputable def fdB(K:Fg)(nm:Option Str)(key:Str)(a:Addr)(ps:List Str)(f:Stmt->Bool)(fd:FuncData)(b:List Stmt):Bool :=
 (nm.getD fd.name==fd.name)&&((fd.qualname==key)&&(fd.globals==mainGlobals&&(fd.closure.isEmpty&&((fd.defaults == .none)&&(fd.builtins==builtinsNs&&(W.codeIn K fd.code key&&(W.keepIn K (.ref a)&&(parB fd.params ps&&f (stOf fd b)))))))))
noncomputable def kL(K:Fg)(nm:Option Str)(key:Str)(a:Addr)(ps:List Str)(f:Stmt->Bool):Bool:=match K.lookup a with
 |some ⟨_,_,.func fd,_⟩=>(match fd.body with
  |.stmts b=>fdB K nm key a ps f fd b
  |_=>false)
 |_=>false
def tI{nm:Option Str}{a:Addr}{f:Stmt->Bool}(h:kL K nm key a ps f=true):∃name st fd,Fun K name key st a fd/\dF K fd ps []/\f st=true/\nm.getD name=name/\∀us:List aW2,us.length=ps.length->bindArgs fd ⟨us,[]⟩=pure (ps.zip us):=by
 unfold kL at h;split at h
 . rename_i oc od fd sl el;split at h
   . rename_i b eb;unfold fdB at h;simp only[aSJ]at h;obtain⟨h1,h2,h3,h4,h5,h6,h7,h8,h9,h10⟩:=h;obtain⟨name,qualname,params,body,scope,globals,closure,defaults,kwdefaults,doc,pm,an,code,ct,bl⟩:=fd;dsimp only at *;obtain rfl:=eb;obtain rfl:=aRN.mp h2;obtain rfl:=aRN.mp h3;obtain rfl:=aWK.mp h4;obtain rfl:=aRN.mp h5;obtain rfl:=aRN.mp h6;unfold parB at h9;simp only[aSJ,aWK,aRN,Option.isNone_iff_eq_none,aTC]at h9;obtain⟨⟨⟨⟨⟨p1,p2⟩,p3⟩,p4⟩,p5⟩,p6⟩:=h9;have bp:=aKY (fd:=W.fnOf name qualname params b scope .none kwdefaults doc pm an code ct) p1 p2 p3 p4 p5 rfl p6;exact⟨name,_,_,aE7 (st:=stOf ⟨name,qualname,params,.stmts b,scope,mainGlobals,[],.none,kwdefaults,doc,pm,an,code,ct,builtinsNs⟩ b) el h7 h8,.all bp,h10,aRN.mp h1,bp⟩
   . cases h
 . cases h
noncomputable def gvB(K:Fg)(x:Str):GV->Bool
 |.con (.s y)=>(match W.nsIn K mainGlobals x with|some (some (.str z _))=>z==y|_=>false)
 |.con (.i n)=>(match W.nsIn K mainGlobals x with|some (some (.int z _))=>z==n|_=>false)
 |.con (.t _)=>true
 |.no=>W.nsIn K mainGlobals x==some none
 |.fn _=>W.nsIn K mainGlobals x==some (some (.ref (faK K x)))
 |.cls=>true
noncomputable def o7(K:Fg)(C:Addr):Bool:=W.plainGet K C Str.empty&&(W.hasDictIn K C&&(W.plainOver K C&&W.findIn K (.ref C) "__setattr__" == some (some (.builtin "object.__setattr__"))))
def aAD{C:Addr}(h:o7 K C=true):Cls K C:=by unfold o7 at h;simp only[aSJ,aRN]at h;exact⟨h.1,h.2.1,h.2.2.1,h.2.2.2⟩
noncomputable def tJ(K:Fg)(C:Addr)(x:Str×Str×Nat):Bool:=W.findIn K (.ref C) x.1==some (some (.ref (faK K x.2.1)))&&(W.isFn K (.ref (faK K x.2.1))&&W.keepIn K (.ref (faK K x.2.1)))
noncomputable def ciB(K:Fg)(i:CI):Bool:=match adB K i.name with
 |some C=>o7 K C&&(i.meths.all (tJ K C)&&i.flds.all λf=>W.findIn K (.ref C) f==some none)
 |none=>false
noncomputable def mk0B(K:Fg)(c:Str):Bool:=match adB K c with
 |some C=>W.makesIn K C&&(W.findIn K (.ref C) "__init__" == some (some (.builtin "object.__init__"))&&W.keepIn K (.ref C))
 |none=>false
noncomputable def clB(K:Fg)(C:Addr):Bool:=W.findIn K (.ref C) "__class__" == some (some (.builtin "object.__class__"))&&(W.specialIn K (.builtin "object.__class__") "__get__" == some (some (.builtin "getset_descriptor.__get__"))&&(W.takesIn K (.builtin "object.__class__")==some true&&W.mroIn K C (.type "object")==some true))
noncomputable def isoB(K:Fg)(cl:List CI)(c:Str):Bool:=match adB K c with
 |some C=>["NoneType", "bool", "int", "str", "tuple", "list", "dict"].all (λt=>W.kitOne K (.type t) (.ref C)==some false)&&cl.all λi=>match adB K i.name with
  |some C'=>o7 K C'&&(clB K C'&&W.kitOne K (.ref C') (.ref C)==some (i.ups.contains c))
  |none=>false
 |none=>false
noncomputable def inB(K:Fg)(g:MG)(x:Str×ID):Bool:=match adB K x.2.c with
 |some C=>W.makesIn K C&&(W.findIn K (.ref C) "__init__" == some (some (.ref (faK K x.1)))&&(W.isFn K (.ref (faK K x.1))&&(W.keepIn K (.ref C)&&kL K none x.1 (faK K x.1) x.2.ps (λst=>idOk g st x.2))))
 |none=>false
noncomputable def xtB(K:Fg)(x:(Str×Str)×Bool):Bool:=match adB K x.1.1,adB K x.1.2 with
 |some C,some C2=>W.mroIn K C2 (.type "BaseException")==some true&&(W.typeIn K (.ref C2)==some (.type "type")&&W.mroIn K C (.ref C2)==some x.2)
 |_,_=>false
noncomputable def xcB(K:Fg)(C:Addr):Bool:=W.findIn K (.ref C) "__getattribute__" == some (some (.builtin "BaseException.__getattribute__"))&&(W.findIn K (.ref C) "__getattr__" == some none&&(W.mroIn K C (.type "BaseException")==some true&&clB K C))
noncomputable def cvB(K:Fg)(n:Str):Option V:=match W.nsIn K mainGlobals n with
 |some (some (.ref C))=>some (.ref C)
 |some none=>if n == "__name__" then none else(match bootBuiltins n with|some (.type T)=>some (.ty T)|_=>none)
 |_=>none
noncomputable def xiB(K:Fg)(x:(Str×Str)×Bool):Bool:=match adB K x.1.1,cvB K x.1.2 with
 |some C,some cv=>xcB K C&&W.kitOne K (.ref C) (xF cv)==some x.2
 |_,_=>false
noncomputable def rzB(K:Fg)(c:Str):Bool:=match adB K c with
 |some C=>W.excIn K C vErr "ValueError.__new__"
 |none=>false
noncomputable def gfB(K:Fg)(g:MG)(t:TB):Bool :=
 g.G.all (λx=>gvB K x.1 x.2)&&(gOk g.G t.T&&(t.T.all (λx=>kL K (if x.1 == "law" then some "law" else none) x.1 (faK K x.1) x.2.ps (λst=>iD g x.1 st x.2))&&(t.I.all (inB K g)&&(g.mk0.all (mk0B K)&&(zZ g.mki t.I&&(g.iso.all (isoB K t.cl)&&(t.cl.all (ciB K)&&(mtOk t.cl t.T&&(t.xt.all (xtB K)&&(t.xi.all (xiB K)&&(g.xcs.all (rzB K)&&(g.xns.all (λn=>(cvB K n).isSome)&&sS g t.T))))))))))))
section
variable (Xi:K.In h)(G:h.Ns mainGlobals mg)
include Xi G
theorem aAE:∀{l:List (Str×GV)},(∀x tb,(x,GV.con (.t tb))∈l->jV w K mg x tb)->l.all (λx=>gvB K x.1 x.2)=true->mS w K mg (faK K) l
 |[],_,_=>trivial
 |(x,v)::l,ht,b=>by
  rw[aWP,aSJ]at b;refine⟨?_,aAE (λx tb hx=>ht x tb (mcm hx)) b.2⟩;have b:=b.1;dsimp only at b;cases v with
  |con c =>
   cases c with
   |s y =>
    have b:(match W.nsIn K mainGlobals x with|some (some (.str z _))=>z==y|_=>false)=true:=b
    split at b
    . rename_i z t e;cases aRN.mp b;exact⟨t,aWR Xi G e⟩
    . cases b
   |i y =>
    have b:(match W.nsIn K mainGlobals x with|some (some (.int z _))=>z==y|_=>false)=true:=b
    split at b
    . rename_i z t e;cases aRN.mp b;exact⟨t,aWR Xi G e⟩
    . cases b
   |t tb=>exact ht x tb mcs
  |fn n=>exact aWR Xi G (aRN.mp b)
  |no=>exact W.mg_none_of Xi G (aRN.mp b)
  |cls=>trivial
def aAF{n:Str}{cv:V}(e:cvB K n=some cv):oE mg n cv:=by
 unfold cvB at e;split at e
 . rename_i C q;cases e;exact .inl ⟨C,aWR Xi G q,rfl⟩
 . rename_i q;split at e
   . cases e
   . rename_i hn;split at e
     . rename_i T hb;cases e;exact .inr ⟨W.mg_none_of Xi G q,by simpa using hn,T,hb,rfl⟩
     . cases e
 . cases e
end
theorem aAG{K:Fg}{g:MG}:∀{l:List (Str×FD)},l.all (λx=>kL K (if x.1 == "law" then some "law" else none) x.1 (faK K x.1) x.2.ps (λst=>iD g x.1 st x.2))=true->mQ K g (faK K) l
 |[],_=>trivial
 |(x,d)::l,b=>by rw[aWP,aSJ]at b;obtain⟨name,st,fd,F,hb,ok,_,_⟩:=tI b.1;exact⟨⟨name,st,fd,F,hb,ok⟩,aAG b.2⟩
theorem aAH{K:Fg}{C:Addr}:∀{l:List (Str×Str×Nat)},l.all (tJ K C)=true->kG K (faK K) C l
 |[],_=>trivial
 |(m,key,n)::l,b=>by rw[aWP,aSJ]at b;have b1:=b.1;unfold tJ at b1;simp only[aSJ,aRN]at b1;exact⟨⟨b1.1,b1.2.1,b1.2.2⟩,aAH b.2⟩
theorem aAI{K:Fg}{C:Addr}:∀{l:List Str},l.all (λf=>W.findIn K (.ref C) f==some none)=true->kH K C l
 |[],_=>trivial
 |f::l,b=>by rw[aWP,aSJ]at b;exact⟨aRN.mp b.1,aAI b.2⟩
theorem aAJ{K:Fg}:∀{l:List CI},l.all (ciB K)=true->mU K (faK K) l
 |[],_=>trivial
 |i::l,b=>by
  rw[aWP,aSJ]at b;refine⟨?_,aAJ b.2⟩;have b:=b.1;unfold ciB at b;split at b
  . rename_i C e;simp only[aSJ]at b;exact⟨C,fC e,aAD b.1,aAH b.2.1,aAI b.2.2⟩
  . cases b
section
variable (Xi:K.In h)(G:h.Ns mainGlobals mg)
include Xi G
theorem aAK{g:MG}:∀{l:List (Str×ID)},l.all (inB K g)=true->mR K mg g l
 |[],_=>trivial
 |(x,d)::l,b=>by
  rw[aWP,aSJ]at b;refine⟨?_,aAK b.2⟩;have b:=b.1;unfold inB at b;split at b
  . rename_i C e;simp only[aSJ,aRN]at b;obtain⟨b1,b2,b3,b4,b5⟩:=b;obtain⟨name,st,fd,F,hb,ok,_,_⟩:=tI b5;exact⟨name,st,C,_,fd,fC e,aWR Xi G (fC e),⟨b1,b2,b3,b4⟩,F,hb,ok⟩
  . cases b
omit Xi G in
theorem tK{c x:Str}{v:Bool}:∀{l:List ((Str×Str)×Bool)},l.lookup (c,x)=some v->((c,x),v)∈l
 |[],e=>by cases e
 |(y,b)::l,e=>by
  rw[aTB]at e;split at e
  . rename_i hb;cases e;rw[<- aRN.mp hb];exact mcs
  . exact mcm (tK e)
def xt_of{l:List ((Str×Str)×Bool)}(b:l.all (xtB K)=true):qQ K mg (λc x=>l.lookup (c,x)):=λc x v e=>by
 have b:=aV8.mp b ((c,x),v) (tK e);unfold xtB at b;split at b
 . rename_i C C2 e1 e2;simp only[aSJ,aRN]at b;exact⟨C,C2,fC e1,aWR Xi G (fC e1),aWR Xi G (fC e2),b.1,b.2.1,b.2.2⟩
 . cases b
def xi_of{l:List ((Str×Str)×Bool)}(b:l.all (xiB K)=true):qR K mg (λc x=>l.lookup (c,x)):=λc x v e=>by
 have b:=aV8.mp b ((c,x),v) (tK e);unfold xiB at b;split at b
 . rename_i C cv e1 e2;unfold xcB clB at b;simp only[aSJ,aRN]at b;obtain⟨⟨b1,b2,b3,b4,b5,b6,b7⟩,b8⟩:=b;exact⟨C,cv,fC e1,⟨b1,b2,b4,b3,b7,b5,b6⟩,aAF Xi G e2,b8⟩
 . cases b
def gf_of{g:MG}{t:TB}(b:gfB K g t=true)(ht:∀x tb,(x,GV.con (.t tb))∈g.G->jV w K mg x tb):GF w K mg g t (faK K):=by
 unfold gfB at b;simp only[aSJ]at b;obtain⟨b1,b2,b3,b4,b5,b6,b7,b8,b9,b10,b11,b12,b13,b14⟩:=b;refine⟨aAE Xi G ht b1,b2,aAG b3,aAK Xi G b4,λc hc=>?_,b6,λc hc=>?_,aAJ b8,b9,xt_of Xi G b10,xi_of Xi G b11,λc hc=>?_,λn hn=>?_,b14⟩
 . have b:=aV8.mp b5 c hc;unfold mk0B at b;split at b
   . rename_i C e;simp only[aSJ,aRN]at b;exact⟨C,fC e,aWR Xi G (fC e),b.1,b.2.1,b.2.2⟩
   . cases b
 . have b:=aV8.mp b7 c hc;unfold isoB at b;split at b
   . rename_i C e;rw[aSJ]at b;refine⟨C,aWR Xi G (fC e),λt ht=>aRN.mp (aV8.mp b.1 t ht),λi hi=>?_⟩;have b:=aV8.mp b.2 i hi;split at b
     . rename_i C' e';unfold clB at b;simp only[aSJ,aRN]at b;obtain⟨c1,⟨c2,c3,c4,c5⟩,c6⟩:=b;exact⟨C',fC e',aAD c1,c2,c3,c4,c5,c6⟩
     . cases b
   . cases b
 . have b:=aV8.mp b12 c hc;unfold rzB at b;split at b
   . rename_i C e;exact⟨C,aWR Xi G (fC e),b⟩
   . cases b
 . have b:=aV8.mp b13 n hn;cases e:cvB K n with
   |none=>rw[e]at b;cases b
   |some cv=>exact⟨cv,aAF Xi G e⟩
end
noncomputable def tL(K:Fg)(g:MG)(t:TB):Bool:=gfB K g t&&W.nsIn K mainGlobals "law" == some (some (.ref (faK K "law")))
theorem aAL{x:Str}{d:FD}:∀{l:List (Str×FD)},l.lookup x=some d->(x,d)∈l
 |[],e=>by cases e
 |(y,b)::l,e=>by
  rw[aTB]at e;split at e
  . rename_i hb;cases e;rw[<- aRN.mp hb];exact mcs
  . exact mcm (aAL e)
noncomputable def noT(g:MG):Bool:=g.G.all λx=>match x.2 with|.con (.t _)=>false|_=>true
def aNV{g:MG}{K:Params->Fg}(b:noT g=true)(w:aW5)(mg:SOV)(h:Heap)(_:(K w.params).In h)(_:h.Ns mainGlobals mg)(x:Str)(tb:List (Str×Str))(hm:(x,GV.con (.t tb))∈g.G):jV w (K w.params) mg x tb:=by have:=aV8.mp b _ hm;cases this
def walkG{l:W.OpenLaw}{q:aW6}{d:DefRec}{K Kf:Params->Fg}{g:MG}{t:TB}{kk:Nat}{e:FD}(hn:l.most=some 63)(hdf:d.params.defaults=[])(hdn:d.name="law")(hY:∀(w:World) (h:Heap),YP w h->(Kf w.params).In h)(sub:∀P b o,(K P).lookup b=some o->(Kf P).lookup b=some o)(nd:∀P b o,(b,o)∈K P->(K P).lookup b=some o)(tb:∀P,o5 (K P) (Kf P)=true)(b:∀P,tL (K P) g t=true)(ht:∀(w:World) (mg:SOV) (h:Heap),(K w.params).In h->h.Ns mainGlobals mg->∀x tb,(x,GV.con (.t tb))∈g.G->jV w (K w.params) mg x tb)(hT:t.T.lookup ("law":Str)=some e)(hps:e.ps=[x])(hr:bS (kk+1) callerA)(main:∀ns:List Int,ns.length<=63->(WT t (kk+1)).Φ "law" (n9 ns)=.ok .fz (.bl true)):W.WalkO q loose XP YP l.row.toRowW d [] (λf vs=>PySem.call f vs):=by
 refine aNU (K:=K) (Kf:=Kf) (n:=63) (k:=kk+1) (x:=x) (CX:=λw=>CX1 l.prog w) (sp:=λw=>sW (K w.params) ((WT t (kk+1)).Φ ("law":Str))) hn (by decide) hdf hr hY sub nd tb (λw mg fa h KX G hmg=>?_)
  (λ_ _ a ns hl hS=>⟨a,ns,rfl,hS,main ns hl,λ_=>rfl⟩) λ_ _ _ _ _ z=>by obtain⟨_,_,_,_,_,_,_,_,_,_,z⟩:=z;exact z
 have b:=b w.params;unfold tL at b;rw[aSJ,aRN]at b;have f:=gf_of (w:=w) KX G b.1 (ht w mg h KX G);have e1:=aWR KX G b.2;rw[hdn,e1]at hmg;cases hmg;have b3:t.T.all (λx=>kL (K w.params) (if x.1 == "law" then some "law" else none) x.1 (faK (K w.params) x.1) x.2.ps (λst=>iD g x.1 st x.2))=true:=by have:=b.1;unfold gfB at this;simp only[aSJ]at this;exact this.2.2.1
 obtain⟨name,st,fd,F,hb,ok,hnm,bp⟩:=tI (aV8.mp b3 (("law":Str),e) (aAL hT));have hnm:name="law" := hnm.symm;subst hnm;refine⟨fd,λs u=>.of_eq ?_,λbase _ _=>?_⟩
 . have:=bp [u] (by rw[hps];rfl)
   rw[hps]at this;exact this
 . have:=aNE (P:=l.prog) (base:=base) f kk F hT ok (by rw[hps];rfl)
   rw[hps]at this;exact this
end D3
namespace Tp
open PySem.W PySem.Calls
theorem KK_look(l:List Stmt)(P:Params)(b:Addr):∀as:List Addr,(KK l as P).lookup b=if b∈as then some (((lay P l (sA P)).bt.get b).getD default)else none
 |[]=>rfl
 |a::as=>by
  show((a,((lay P l (sA P)).bt.get a).getD default)::KK l as P).lookup b=_;rw[aTB,KK_look l P b as];by_cases h:b=a
  . subst h;simp
  . have:(b==a)=false:=aQM.mpr h;rw[this];simp[h]
def KK_sub(l:List Stmt)(as ts:List Addr)(P:Params)(b:Addr)(o:Obj)(h:(KK l as P).lookup b=some o):(KK l (as++ts) P).lookup b=some o:=by
 rw[KK_look]at h ⊢;split at h
 . rename_i hb;rw[if_pos (aQ1 _ hb)];exact h
 . cases h
def KK_nd(l:List Stmt)(as:List Addr)(P:Params)(b:Addr)(o:Obj)(h:(b,o)∈KK l as P):(KK l as P).lookup b=some o:=by rw[KK_look];unfold KK at h;obtain⟨a,ha,e⟩:=aWI.mp h;cases e;rw[if_pos ha]
def left{p:aW6}{r:OpenRow}{l:List Stmt}{k:Nat}{as:List Addr}{c':Code}(hl:behindTheImports p=l)(pre:∀(w:aW5) (os:OsState),topGo treeTable p w 11 an 12 ⟨boot_heap w.params,#[],boot_drawn,boot_toks,os⟩ (topStub p)=some ((sh w.params (sA w.params) 15 187 os).abs,⟨denote treeTable (cd p),cd p,z0,[topFrame z0]⟩))(blk:∀(w:aW5) (s:aW3),segRun treeTable p w 11 an 1 1 s (blockOf l (ev p) (cd p) z0 [topFrame z0])=some (.next,s,cd p,z0))(run:∀(w:aW5) (os:OsState),go treeTable p w 1000 l (sh w.params (sA w.params) 15 187 os) (cd p) z0=some (sh w.params (lay w.params l (sA w.params)) n k os,c',q'))(le:Nat.ble (12+(1+ns 1000 2 l)) 1000000=true)(e1:opening p=plainProg p.main.scope.names)(e2:∀s,fenceModules? p s=some s)(uP:∀w:aW5,(λos=>((staticsOk (importedModules p.main.body) (boot_heap w.params) (H1 l n w.params)&&namesBound p (H1 l n w.params)&&gensDone (S1 l n k w.params os)&&laidKept (boot_heap w.params) (H1 l n w.params)),openSeen (vw p) (los l) (importedModules p.main.body) (xt r) true (S1 l n k w.params os),(hk l as).obs (S1 l n k w.params os)))=λ_=>(true,openGood (vw p) (los l),(hk l as).val w)):LeftO p (vw p) (los l) (xt r) (hk l as).obs (hk l as).val 1000000 :=
 LeftO.of_pieces (H₀:=boot_heap) (H₁:=H1 l n) (m₀:=11) (ann:=an) (boot_open e1 rfl e2) size1 (run_of hl pre blk run) le uP
def head{p:OpenLaw}{l:List Stmt}{as:List Addr}{d:DefRec}(left:LeftO p.prog (vw p.prog) (los l) (xt p.row) (hk l as).obs (hk l as).val 1000000)(said:p.row.wellSaid=true)(h1:defOf (vw p.prog) p.name=some (d,[]))(h2:p.prog.theDef p.name=some (d.params,d.body,d.scope))(h3:kwWritten? d.params.kwonlyargs d.params.kw_defaults=some [])(h4:(!p.row.writes||p.row.records.isEmpty)=true)(ok:(chainsOk (vw p.prog)&&opensWell p.prog&&(frees p.row.toRowW&&p.row.within.isEmpty))=true)(hb:p.prog.bare)(hw:p.row.toRowW.promised)(call:WalkO (vw p.prog) (los l) (XL (vw p.prog) []) (hk l as).says p.row.toRowW d [] λf vs=>PySem.call f vs):p.row.Holds :=
 holds_open (r:=p.row) (XP:=XL (vw p.prog) []) (YP:=(hk l as).says) left (hk l as).of (hk l as).keeps (λs e=>xl_of s (Bool.and_eq_true_iff.mp e).1) XL.keeps h1 h2 h3
  (λs e=>recFacts_of (Bool.and_eq_true_iff.mp e).2) h4 said ok hb hw call
end Tp
namespace D3
open PySem.Calls
end D3
namespace K27
open D3
def o8:List D3.S:=[.app 5 (.fstr [(.str "!("),(.fmt (.call "shown_reason" 1 [(.var 6)])),(.str ")")])]
def mX:List D3.S:=[.set 5 (.tcall .list [(.var 2)]),.for (.items (.var 3)) (.nm 6) o8,.ite (.orL [(.cmp .NotEq (.var 4) (.int 1)),(.cmp .Eq (.bcall .len [(.var 5)]) (.int 0))]) [.ins 5 (.int 0) (.tcall .str [(.var 4)])] [],.app 1 (.mt .join (.str "*") [(.var 5)])]
def eC:List D3.S:=[.set 10 (.frz (.bin .Add (.bin .FloorDiv (.var 0) (.bin .Add (.int 7) (.bin .Mult (.int 6) (.var 9)))) (.bin .Mult (.int 11) (.var 9)))),.ite (.cmp .Eq (.var 9) (.var 5)) [.set 10 (.frz (.bin .Add (.bin .FloorDiv (.var 0) (.int 25)) (.var 7)))] [],.ite (.cmp .Eq (.var 9) (.int 0)) [.set 8 (.frz (.bin .Add (.var 8) (.ix (.var 2) (.bin .Mod (.var 10) (.int 26)))))] [.set 8 (.frz (.bin .Add (.var 8) (.ix (.var 3) (.bin .Mod (.var 10) (.int 36)))))]]
def iG:List D3.S:=[.set 8 (.str ""),.for (.rng1 (.var 4)) (.nm 9) eC,.app 6 (.bin .Add (.var 8) (.slice (.str "a9z") none (some (.bin .Mod (.bin .FloorDiv (.var 0) (.bin .Add (.int 5) (.var 7))) (.int 4)))))]
def kM:List D3.S:=[.set 5 (.tup [(.frz (.tcall .tuple [(.srtw (.var 2))])),(.var 3)]),.nput 1 (.var 5) (.bin .Add (.nget (.var 1) (.var 5) (.int 0)) (.var 4))]
def gX:List D3.S:=[.ite (.not (.tru (.call "_law_alike" 2 [(.ix (.var 0) (.var 2)),(.ix (.var 1) (.var 2))]))) [.ret (.bl false)] []]
def kN:List D3.S:=[.app 5 (.var 6)]
def o9:List D3.S:=[.app 5 (.bin .Add (.bin .Add (.str "!(") (.call "_law_shown" 1 [(.var 7)])) (.str ")"))]
def mY:List D3.S:=[.set 5 (.lst []),.ite (.orL [(.cmp .NotEq (.var 4) (.int 1)),(.cmp .Eq (.bin .Add (.bcall .len [(.var 2)]) (.bcall .len [(.var 3)])) (.int 0))]) [.app 5 (.tcall .str [(.var 4)])] [],.for (.items (.var 2)) (.nm 6) kN,.for (.items (.var 3)) (.nm 7) o9,.app 1 (.mt .join (.str "*") [(.var 5)])]
def aNW:List D3.S:=[.never]
def aNX:List D3.S:=[.never,.never,.never]
def aNY:List D3.S:=[.never]
def aNZ:List D3.S:=[.never]
def aN0:List D3.S:=[.never,.never,.never]
def aN1:List D3.S:=[.never]
def aN2:List D3.S:=[.never,.never,.never]
def aN3:List D3.S:=[.never,.never,.never]
def aN4:List D3.S:=[.never,.never,.never,.never]
def aN5:List D3.S:=[.never,.never]
def aN6:List D3.S:=[.never,.never,.never]
def kP:List D3.S:=[.ite (.cmp .Eq (.var 0) (.tup [])) [.ret (.str "0")] [],.set 1 (.lst []),.for (.items (.var 0)) (.tp [(.nm 2),(.nm 3),(.nm 4)]) mX,.frzV 1,.ret (.mt .join (.str " + ") [(.var 1)])]
def pA:List D3.S:=[.fin]
def mZ:List D3.S:=[.ite (.cmp .Lt (.var 1) (.bcall .len [(.var 0)])) [.ret (.ix (.var 0) (.var 1))] [],.ret (.int 0)]
def pB:List D3.S:=[.set 2 (.str "abcdefghijklmnopqrstuvwxyz"),.set 3 (.frz (.bin .Add (.var 2) (.str "0123456789"))),.set 4 (.frz (.bin .Add (.int 1) (.bin .Mod (.var 0) (.int 5)))),.set 5 (.frz (.bin .Mod (.bin .FloorDiv (.var 0) (.int 5)) (.var 4))),.set 6 (.lst []),.for (.rng1 (.var 1)) (.nm 7) iG,.retV 6]
def pC:List D3.S:=[.set 1 .nnew,.for (.items (.var 0)) (.tp [(.nm 2),(.nm 3),(.nm 4)]) kM,.nfrz 1,.ret (.tcall .tuple [(.srtw (.comp (.tup [(.ix (.var 1) (.int 0)),(.ix (.var 1) (.int 1)),(.nix (.var 0) (.var 1))]) (.nkeys (.var 1)) [] [1] (.nm 1) 1))])]
def jC:List D3.S:=[.set 2 (.tup [(.tup [(.ix (.var 1) (.bin .Mod (.var 0) (.int 4)))]),(.tup []),(.frz (.bin .Add (.int 1) (.bin .Mod (.bin .FloorDiv (.var 0) (.int 4)) (.int 3))))]),.ite (.cmp .Eq (.bin .Mod (.bin .FloorDiv (.var 0) (.int 12)) (.int 4)) (.int 0)) [.ret (.tup [(.var 2)])] [],.ite (.cmp .Eq (.bin .Mod (.bin .FloorDiv (.var 0) (.int 12)) (.int 4)) (.int 1)) [.ret (.call "_law_normal" 1 [(.frz (.lst [(.var 2),(.tup [(.tup [(.ix (.var 1) (.bin .Mod (.bin .FloorDiv (.var 0) (.int 48)) (.int 4))),(.ix (.var 1) (.bin .Mod (.bin .FloorDiv (.var 0) (.int 192)) (.int 4)))]),(.tup []),(.int 1)])]))])] [],.ite (.cmp .Eq (.bin .Mod (.bin .FloorDiv (.var 0) (.int 12)) (.int 4)) (.int 2)) [.ret (.tup [(.tup [(.tup []),(.tup []),(.frz (.bin .Add (.int 1) (.bin .Mod (.bin .FloorDiv (.var 0) (.int 48)) (.int 3))))])])] [],.ret (.tup [(.tup [(.ix (.var 2) (.int 0)),(.tup [(.tup [(.tup [(.tup [(.ix (.var 1) (.bin .Mod (.bin .FloorDiv (.var 0) (.int 48)) (.int 4)))]),(.tup []),(.int 1)])])]),(.ix (.var 2) (.int 2))])])]
def dC:List D3.S:=[.setC 2 true (.comp (.ix (.var 0) (.bin .Mod (.bin .FloorDiv (.var 1) (.ix (.lst [(.int 1),(.int 4),(.int 16)]) (.var 2))) (.int 4))) (.rng1 (.bin .Mod (.bin .FloorDiv (.var 0) (.int 64)) (.int 4))) [] [1,0] (.nm 2) 1),.set 3 (.tup []),.ite (.cmp .Eq (.bin .Mod (.bin .FloorDiv (.var 0) (.int 256)) (.int 3)) (.int 1)) [.set 3 (.tup [(.frz (.call "_law_bar" 2 [(.frz (.bin .FloorDiv (.var 0) (.int 768))),(.var 1)]))])] [],.ite (.cmp .Eq (.bin .Mod (.bin .FloorDiv (.var 0) (.int 256)) (.int 3)) (.int 2)) [.set 3 (.frz (.tcall .tuple [(.us2 (.lst [(.frz (.call "_law_bar" 2 [(.frz (.bin .FloorDiv (.var 0) (.int 768))),(.var 1)])),(.frz (.call "_law_bar" 2 [(.frz (.bin .FloorDiv (.var 0) (.int 9216))),(.var 1)]))]))]))] [],.set 4 (.frz (.bin .Add (.int 1) (.bin .Mod (.bin .FloorDiv (.var 0) (.int 768)) (.int 3)))),.ite (.cmp .Eq (.bin .Mod (.var 0) (.int 5)) (.int 2)) [.set 4 (.frz (.bin .Add (.int 1) (.bin .Mod (.bin .FloorDiv (.var 0) (.int 7)) (.bin .Pow (.int 10) (.int 40)))))] [],.ret (.tup [(.frz (.tcall .tuple [(.srtw (.var 2))])),(.var 3),(.var 4)])]
def pD:List D3.S:=[.ret (.call "_law_normal" 1 [(.frz (.comp (.call "_law_term" 2 [(.var 1),(.var 0)]) (.items (.var 0)) [] [1] (.nm 1) 1))])]
def bL:List D3.S:=[.ite (.cmp .Is (.var 1) .non) [.ret (.cmp .Is (.var 0) .non)] [],.ite (.tru (.bcall .isinstance [(.var 1),(.ty .bool)])) [.ret (.andL [(.bcall .isinstance [(.var 0),(.ty .bool)]),(.cmp .Eq (.var 0) (.var 1))])] [],.ite (.tru (.bcall .isinstance [(.var 1),(.ty .int)])) [.ret (.andL [(.bcall .isinstance [(.var 0),(.ty .int)]),(.not (.bcall .isinstance [(.var 0),(.ty .bool)])),(.cmp .Eq (.var 0) (.var 1))])] [],.ite (.tru (.bcall .isinstance [(.var 1),(.ty .str)])) [.ret (.andL [(.bcall .isinstance [(.var 0),(.ty .str)]),(.cmp .Eq (.var 0) (.var 1))])] [],.ite (.tru (.bcall .isinstance [(.var 1),(.ty .tuple)])) [.ite (.orL [(.not (.tru (.bcall .isinstance [(.var 0),(.ty .tuple)]))),(.cmp .NotEq (.bcall .len [(.var 0)]) (.bcall .len [(.var 1)]))]) [.ret (.bl false)] []] [.ite (.orL [(.not (.tru (.bcall .isinstance [(.var 0),(.ty .list)]))),(.cmp .NotEq (.bcall .len [(.var 0)]) (.bcall .len [(.var 1)]))]) [.ret (.bl false)] []],.for (.rng1 (.bcall .len [(.var 1)])) (.nm 2) gX,.ret (.bl true)]
def kQ:List D3.S:=[.set 1 (.lst []),.for (.items (.var 0)) (.tp [(.nm 2),(.nm 3),(.nm 4)]) mY,.frzV 1,.ite (.cmp .Eq (.var 1) (.lst [])) [.ret (.str "0")] [],.ret (.mt .join (.str " + ") [(.var 1)])]
def aN7:List D3.S:=[.seen "_law_seen"]
def m5:List D3.S:=[.set 1 (.frz (.call "_law_names" 2 [(.frz (.call "_law_cell_at" 2 [(.var 0),(.int 0)])),(.int 4)])),.set 2 (.frz (.call "_law_reason" 2 [(.frz (.slice (.var 0) (some (.int 1)) (some (.int 60)))),(.var 1)])),.set 3 (.frz (.seenE "_law_seen" (.var 2))),.ite (.not (.tru (.call "_law_alike" 2 [(.frz (.meth (.frz (.mk0 "Reasons")) "shown" [(.var 2)])),(.frz (.call "_law_shown" 1 [(.var 2)]))]))) [.ret (.bl false)] [],.ret (.andL [(.call "_law_alike" 2 [(.frz (.call "facts_in" 1 [(.var 2)])),(.var 3)]),(.call "_law_alike" 2 [(.frz (.meth (.frz (.mk0 "Reasons")) "shown" [(.tup [])])),(.str "0")])])]
def pE:List D3.S:=[.ret (.call "shown_reason" 1 [(.var 1)])]
def aN8:FD:=⟨["thing"],["thing"],aNW⟩
def aN9:FD:=⟨["thing"],["thing"],aNX⟩
def aOA:FD:=⟨["sign"],["sign"],aNY⟩
def aOB:FD:=⟨["things"],["things"],aNZ⟩
def aOC:FD:=⟨["terms"],["terms", "found", "facts", "bars", "times"],aN0⟩
def aOD:FD:=⟨["one", "other"],["one", "other"],aN1⟩
def aOE:FD:=⟨["one", "other"],["one", "other", "found", "bar"],aN2⟩
def aOF:FD:=⟨["thing"],["thing", "term"],aN3⟩
def aOG:FD:=⟨["thing"],["thing", "facts", "bars", "times"],aN4⟩
def aOH:FD:=⟨["thing"],["thing"],aN5⟩
def aOI:FD:=⟨["thing"],["thing", "bar"],aN6⟩
def aAM:FD:=⟨["reason"],["reason", "texts", "facts", "bars", "times", "factors", "bar"],kP⟩
def aAN:FD:=⟨["reason"],["reason", "names", "waiting", "terms", "facts", "bars", "times", "name"],pA⟩
def aAO:FD:=⟨["_law_script", "_law_k"],["_law_script", "_law_k"],mZ⟩
def aAP:FD:=⟨["_law_cell", "_law_many"],["_law_cell", "_law_many", "_law_letters", "_law_signs", "_law_size", "_law_at", "_law_names_here", "_law_k", "_law_name", "_law_j", "_law_drift"],pB⟩
def aAQ:FD:=⟨["_law_terms"],["_law_terms", "_law_known", "_law_facts", "_law_bars", "_law_times", "_law_key"],pC⟩
def aAR:FD:=⟨["_law_cell", "_law_names_here"],["_law_cell", "_law_names_here", "_law_one"],jC⟩
def aAS:FD:=⟨["_law_cell", "_law_names_here"],["_law_cell", "_law_names_here", "_law_facts", "_law_bars", "_law_times"],dC⟩
def aAT:FD:=⟨["_law_cells", "_law_names_here"],["_law_cells", "_law_names_here"],pD⟩
def aAU:FD:=⟨["_law_found", "_law_due"],["_law_found", "_law_due", "_law_k"],bL⟩
def aAV:FD:=⟨["_law_reason_here"],["_law_reason_here", "_law_terms", "_law_facts", "_law_bars", "_law_times", "_law_factors", "_law_name", "_law_bar_here"],kQ⟩
def aAW:FD:=⟨["_law_reason_here", "_law_seen_here"],["_law_reason_here", "_law_seen_here", "_law_facts", "_law_bars", "_law_times", "_law_name", "_law_bar_here"],aN7⟩
def tM:FD:=⟨["_law_script"],["_law_script", "_law_names_here", "_law_reason_here", "_law_due"],m5⟩
def aAX:FD:=⟨["self", "a"],["self", "a"],pE⟩
def aOJ:CI:=⟨"Kind", ["Kind"],[],[]⟩
def aOK:CI:=⟨"Reasons", ["Reasons", "Kind"],[],[("shown", "Reasons.shown", 2)]⟩
abbrev pFD(s:Str)(d:FD):Str×FD:=(s,d)
abbrev pGV(s:Str)(d:GV):Str×GV:=(s,d)
def T:List (Str×FD):=[pFD "is_whole" aN8,pFD "is_name" aN9,pFD "is_name_sign" aOA,pFD "is_rising" aOB,pFD "reason_of" aOC,pFD "term_of_both" aOD,pFD "bars_of_both" aOE,pFD "is_reason" aOF,pFD "is_term" aOG,pFD "is_facts" aOH,pFD "is_bars" aOI,pFD "shown_reason" aAM,pFD "facts_in" aAN,pFD "_law_cell_at" aAO,pFD "_law_names" aAP,pFD "_law_normal" aAQ,pFD "_law_bar" aAR,pFD "_law_term" aAS,pFD "_law_reason" aAT,pFD "_law_alike" aAU,pFD "_law_shown" aAV,pFD "_law_seen" aAW,pFD "law" tM,pFD "Reasons.shown" aAX]
def TT:TB:=⟨T,[],[aOJ,aOK],[],[]⟩
noncomputable def GG:MG:=⟨[pGV "Reasons" .cls,pGV "_law_alike" (.fn 2),pGV "_law_bar" (.fn 2),pGV "_law_cell_at" (.fn 2),pGV "_law_names" (.fn 2),pGV "_law_normal" (.fn 1),pGV "_law_reason" (.fn 2),pGV "_law_seen" (.fn 2),pGV "_law_shown" (.fn 1),pGV "_law_term" (.fn 2),pGV "bool" .no,pGV "facts_in" (.fn 1),pGV "int" .no,pGV "isinstance" .no,pGV "len" .no,pGV "list" .no,pGV "range" .no,pGV "set" .no,pGV "shown_reason" (.fn 1),pGV "sorted" .no,pGV "str" .no,pGV "tuple" .no],["Reasons"],[],[],[],[],["_law_seen"]⟩
def top(i:Nat):Stmt:=aW7.main.body.getD i (.Pass ⟨0,0,0,0⟩)
abbrev tN:Stmt:=top 31
def aAY(k:Nat):(WT TT (k+1)).Φ "shown_reason" = phi 1 7 (evB (WT TT k) kP):=fB (d:=aAM) rfl
def aOL(k:Nat):(WT TT (k+1)).Φ "facts_in" = phi 1 8 (evB (WT TT k) pA):=fB (d:=aAN) rfl
def aOM(k:Nat):(WT TT (k+1)).Φ "_law_cell_at" = phi 2 2 (evB (WT TT k) mZ):=fB (d:=aAO) rfl
def aON(k:Nat):(WT TT (k+1)).Φ "_law_names" = phi 2 11 (evB (WT TT k) pB):=fB (d:=aAP) rfl
def aOO(k:Nat):(WT TT (k+1)).Φ "_law_normal" = phi 1 6 (evB (WT TT k) pC):=fB (d:=aAQ) rfl
def aOP(k:Nat):(WT TT (k+1)).Φ "_law_bar" = phi 2 3 (evB (WT TT k) jC):=fB (d:=aAR) rfl
def aOQ(k:Nat):(WT TT (k+1)).Φ "_law_term" = phi 2 5 (evB (WT TT k) dC):=fB (d:=aAS) rfl
def aOR(k:Nat):(WT TT (k+1)).Φ "_law_reason" = phi 2 2 (evB (WT TT k) pD):=fB (d:=aAT) rfl
def pF(k:Nat):(WT TT (k+1)).Φ "_law_alike" = phi 2 3 (evB (WT TT k) bL):=fB (d:=aAU) rfl
def aAZ(k:Nat):(WT TT (k+1)).Φ "_law_shown" = phi 1 8 (evB (WT TT k) kQ):=fB (d:=aAV) rfl
def u_law(k:Nat):(WT TT (k+1)).Φ "law" = phi 1 4 (evB (WT TT k) m5):=fB (d:=tM) rfl
def aOS(k:Nat):(WT TT (k+1)).Φ "Reasons.shown" = phi 2 2 (evB (WT TT k) pE):=fB (d:=aAX) rfl
def aOT:CI.meth TT.cl "Reasons" "shown" = some (("Reasons.shown":Str),2):=rfl
def aOU{Φ:Str->List D->Res}{as:bG}:fW TT.cl Φ "shown" (.ok .fz (.ins "Reasons" [])) as=bI 2 (Φ "Reasons.shown") (dH (.ok .fz (.ins "Reasons" [])) as):=aNP aOT rfl
abbrev Ky:=N×N
abbrev Tr:=Ky×Int
def kyN(k:Ky):N:=.t [k.1,k.2]
end K27
variable {acc:List K27.Tr}{tss:List (List K27.Tr)}
namespace K27
open D3
def tmN(t:Tr):N:=.t [t.1.1,t.1.2,.i t.2]
def kl(a b:Ky):Bool:=ltN (kyN a) (kyN b)
def tO{a b:Ky}(h:kyN a=kyN b):a=b:=by unfold kyN at h;simp only[N.t.injEq,aSZ,and_true]at h;exact Prod.ext h.1 h.2
def aOV{a b:Tr}(h:tmN a=tmN b):a=b:=by unfold tmN at h;simp only[N.t.injEq,aSZ,and_true,N.i.injEq]at h;exact Prod.ext (Prod.ext h.1 h.2.1) h.2.2
def tP(a:Ky):kl a a=false:=l6 _
def aOW{a b:Ky}(h1:kl a b=false)(h2:kl b a=false):a=b:=tO (rK _ _ h1 h2)
def aA0{a b:Tr}(h:a.1≠b.1):ltN (tmN a) (tmN b)=kl a.1 b.1:=by
 unfold kl kyN tmN;simp only[ltN,bF];by_cases e1:a.1.1=b.1.1
 . rw[if_pos e1,if_pos e1];by_cases e2:a.1.2=b.1.2
   . exact absurd (Prod.ext e1 e2) h
   . rw[if_neg e2,if_neg e2]
 . rw[if_neg e1,if_neg e1]
def bW(p:List Tr)(k:Ky):Int:=match p with
 |[]=>0
 |t::r=>(if t.1=k then t.2 else 0)+bW r k
def Has(p:List Tr)(k:Ky):Prop:=∃t∈p,t.1=k
theorem kR:∀(p:List Tr) (t:Tr) (k:Ky),bW (p++[t]) k=bW p k+if t.1=k then t.2 else 0
 |[],t,k=>by simp[bW]
 |a::p,t,k=>by show(if a.1=k then a.2 else 0)+bW (p++[t]) k=(if a.1=k then a.2 else 0)+bW p k+_;rw[kR p t k,Int.add_assoc]
theorem aOX{p q:List Tr}(h:p.Perm q)(k:Ky):bW p k=bW q k:=by
 induction h with
 |nil=>rfl
 |cons x _ ih=>show _+bW _ k=_+bW _ k;rw[ih]
 |swap x y l=>show _+(_+bW l k)=_+(_+bW l k);lia
 |trans _ _ ih1 ih2=>rw[ih1,ih2]
def aOY{p q:List Tr}(h:p.Perm q)(k:Ky):Has p k↔Has q k:=⟨λ⟨t,m,e⟩=>⟨t,h.mem_iff.mp m,e⟩,λ⟨t,m,e⟩=>⟨t,h.mem_iff.mpr m,e⟩⟩
theorem pG:∀{p:List Tr}{k:Ky},¬ Has p k->bW p k=0
 |[],k,_=>rfl
 |t::p,k,h=>by have h1:¬ t.1=k:=λe=>h ⟨t,mcs,e⟩;have h2:¬ Has p k:=λ⟨u,m,e⟩=>h ⟨u,mcm m,e⟩;show(if t.1=k then t.2 else 0)+bW p k=0;rw[if_neg h1,pG h2];rfl
def m7{p:List Tr}{t:Tr}{k:Ky}:Has (p++[t]) k↔Has p k\/t.1=k:=by
 constructor
 . rintro⟨u,m,e⟩;rcases aQ0.mp m with m|m
   . exact .inl ⟨u,m,e⟩
   . cases aT2.mp m;exact .inr e
 . rintro(⟨u,m,e⟩|e)
   . exact⟨u,aQ1 _ m,e⟩
   . exact⟨t,aRJ _ (aT2.mpr rfl),e⟩
def fP(p L:List Tr):Prop:=∀k n,(k,n)∈L↔Has p k/\n=bW p k
def cD(acc:List Tr)(t:Tr):List Tr:=if(acc.any λa=>decide (a.1=t.1))=true then acc.map (λa=>if a.1=t.1 then(a.1,a.2+t.2)else a)else acc++[t]
def kS{k:Ky}:(acc.any λa=>decide (a.1=k))=true↔Has acc k:=by
 rw[aWS];constructor
 . rintro⟨a,m,e⟩;exact⟨a,m,aTD e⟩
 . rintro⟨a,m,e⟩;exact⟨a,m,aSS e⟩
def tQ{p L:List Tr}(h:fP p L)(k:Ky):Has L k↔Has p k:=by
 constructor
 . rintro⟨⟨k',n⟩,m,rfl⟩;exact((h k' n).mp m).1
 . intro q;exact⟨(k,bW p k),(h k _).mpr ⟨q,rfl⟩,rfl⟩
def aA1(acc:List Tr)(t:Tr):(cD acc t).map (·.1)=if(acc.any λa=>decide (a.1=t.1))=true then acc.map (·.1)else acc.map (·.1)++[t.1]:=by
 unfold cD;split
 . rw[aV9];refine aWJ λa _=>?_;show(if a.1=t.1 then(a.1,a.2+t.2)else a).1=a.1;split <;> rfl
 . rw[aWT];rfl
theorem aOZ{p:List Tr}(t:Tr)(h:fP p acc)(nd:(acc.map (·.1)).Nodup):fP (p++[t]) (cD acc t)/\((cD acc t).map (·.1)).Nodup:=by
 refine⟨λk n=>?_,?_⟩
 . unfold cD;by_cases q:(acc.any λa=>decide (a.1=t.1))=true
   . rw[if_pos q];have hp:Has p t.1:=(tQ h _).mp (kS.mp q);rw[m7,kR];constructor
     . intro m;obtain⟨⟨k',n'⟩,m',e⟩:=aWI.mp m;have hh:=(h k' n').mp m';dsimp only at e;split at e
       . rename_i ek;cases e;rw[if_pos ek.symm];exact⟨.inl hh.1,by rw[hh.2]⟩
       . rename_i ek;cases e;rw[if_neg (λz=>ek z.symm)];exact⟨.inl hh.1,by rw[hh.2];lia⟩
     . rintro⟨m,rfl⟩;have hk:Has p k:=by
         rcases m with m|m
         . exact m
         . rw[<- m];exact hp
       have m':=(h k _).mpr ⟨hk,rfl⟩;refine aWI.mpr ⟨(k,bW p k),m',?_⟩;dsimp only;by_cases ek:k=t.1
       . rw[if_pos ek,if_pos ek.symm]
       . rw[if_neg ek,if_neg (λz=>ek z.symm),aWU]
   . rw[if_neg q];have hp:¬ Has p t.1:=λz=>q (kS.mpr ((tQ h _).mpr z));rw[m7,kR,aQ0,aT2,h k n];by_cases ek:t.1=k
     . subst ek;rw[if_pos rfl,pG hp,aWV];constructor
       . rintro(z|z)
         . exact absurd z.1 hp
         . exact⟨.inr rfl,by rw[<- z]⟩
       . rintro⟨_,rfl⟩;exact .inr rfl
     . rw[if_neg ek,aWU];constructor
       . rintro(z|z)
         . exact⟨.inl z.1,z.2⟩
         . exact absurd (by rw[<- z]) ek
       . rintro⟨z|z,e⟩
         . exact .inl ⟨z,e⟩
         . exact absurd z ek
 . rw[aA1];split
   . exact nd
   . rename_i q;refine aUE.mpr ⟨nd,aVV _ _,λa ha b hb e=>?_⟩;cases aT2.mp hb;obtain⟨u,mu,rfl⟩:=aWI.mp ha;exact q (kS.mpr ⟨u,mu,e⟩)
theorem aA2:∀(r p acc:List Tr),fP p acc->(acc.map (·.1)).Nodup->fP (p++r) (r.foldl cD acc)/\((r.foldl cD acc).map (·.1)).Nodup
 |[],p,acc,h,nd=>by rw[aRT];exact⟨h,nd⟩
 |t::r,p,acc,h,nd=>by obtain⟨h1,n1⟩:=aOZ t h nd;have:=aA2 r (p++[t]) _ h1 n1;rw[aUO]at this;exact this
def bA(ts:List Tr):List Tr:=ts.foldl cD []
def aA3:fP [] []:=λk n=>Iff.intro (λh=>by cases h) (λh=>by obtain⟨⟨t,m,_⟩,_⟩:=h;cases m)
def m8(ts:List Tr):fP ts (bA ts)/\((bA ts).map (·.1)).Nodup:=by have:=aA2 ts [] [] aA3 aUF;rw[aT8]at this;exact this
def iH(rf:List Tr)(t:Tr):List Tr:=match rf with
 |[]=>[t]
 |l::r=>if l.1=t.1 then(t.1,l.2+t.2)::r else t::l::r
def pH(rf:List Tr):Prop:=rf.Pairwise λa b=>kl b.1 a.1=true
def aO0{p rf:List Tr}(t:Tr)(h:fP p rf)(d:pH rf)(le:∀x∈p,ltN (tmN t) (tmN x)=false):fP (p++[t]) (iH rf t)/\pH (iH rf t):=by
 cases rf with
 |nil =>
  have hp:∀k,¬ Has p k:=λk z=>nomatch (h k _).mpr ⟨z,rfl⟩;refine⟨λk n=>?_,aVV _ _⟩;rw[m7,kR,pG (hp k),aWV];show(k,n)∈[t]↔_;rw[aT2];constructor
  . intro e;rw[<- e];exact⟨.inr rfl,by rw[if_pos rfl]⟩
  . rintro⟨z|z,e⟩
    . exact absurd z (hp k)
    . rw[if_pos z]at e;rw[e,<- z]
 |cons l r =>
  have hl:(l.1,l.2)∈l::r:=mcs;have hl:=(h l.1 l.2).mp hl;have dl:=(aVU.mp d).1;have nr:∀n,(l.1,n)∉r:=λn m=>by have:=dl _ m;rw[tP]at this;cases this
  unfold iH;dsimp only;by_cases e:l.1=t.1
  . rw[if_pos e];refine⟨λk n=>?_,aVU.mpr ⟨λa ha=>by rw[<- e];exact dl a ha,(aVU.mp d).2⟩⟩
    rw[m7,kR,aQZ];by_cases ek:t.1=k
    . subst ek;rw[if_pos rfl];constructor
      . rintro(z|z)
        . rw[Prod.mk.injEq]at z;exact⟨.inr rfl,by rw[z.2,hl.2,e]⟩
        . exact absurd z (by rw[<- e];exact nr n)
      . rintro⟨_,z⟩;left;rw[z,hl.2,e]
    . rw[if_neg ek,aWU];constructor
      . rintro(z|z)
        . exact absurd (Prod.mk.injEq .. ▸ z).1.symm ek
        . have:=(h k n).mp (mcm z);exact⟨.inl this.1,this.2⟩
      . rintro⟨z|z,e'⟩
        . have:=(h k n).mpr ⟨z,e'⟩;rcases aQZ.mp this with m|m
          . exact absurd (by rw[<- m]at e;exact e.symm) ek
          . exact .inr m
        . exact absurd z ek
  . rw[if_neg e];obtain⟨x,mx,ex⟩:=hl.1;have k1:kl t.1 l.1=false:=by
      have:=le x mx;rw[aA0 (by rw[ex];exact λz=>e z.symm),ex]at this
      exact this
    have k2:kl l.1 t.1=true:=by
     cases q:kl l.1 t.1 with
     |true=>rfl
     |false=>exact absurd (aOW q k1) e
    have hp:¬ Has p t.1:=λz=>by
     have:=(h t.1 _).mpr ⟨z,rfl⟩;rcases aQZ.mp this with m|m
     . exact e (by rw[<- m])
     . have:=dl _ m;rw[k1]at this;cases this
    refine⟨λk n=>?_,aVU.mpr ⟨λa ha=>?_,d⟩⟩
    . rw[m7,kR,aQZ,h k n];by_cases ek:t.1=k
      . subst ek;rw[if_pos rfl,pG hp,aWV];constructor
        . rintro(z|z)
          . exact⟨.inr rfl,by rw[<- z]⟩
          . exact absurd z.1 hp
        . rintro⟨_,rfl⟩;exact .inl rfl
      . rw[if_neg ek,aWU];constructor
        . rintro(z|z)
          . exact absurd (by rw[<- z]) ek
          . exact⟨.inl z.1,z.2⟩
        . rintro⟨z|z,e'⟩
          . exact .inr ⟨z,e'⟩
          . exact absurd z ek
    . rcases aQZ.mp ha with rfl|ha
      . exact k2
      . exact rL _ _ _ (dl a ha) k2
theorem aA4:∀(r p rf:List Tr),fP p rf->pH rf->eY ((p++r).map tmN)->fP (p++r) (r.foldl iH rf)/\pH (r.foldl iH rf)
 |[],p,rf,h,d,_=>by rw[aRT];exact⟨h,d⟩
 |t::r,p,rf,h,d,so=>by
  have le:∀x∈p,ltN (tmN t) (tmN x)=false:=λx hx=>by rw[aWT]at so;exact(aVY.mp so).2.2 _ (List.mem_map_of_mem hx) _ (List.mem_map_of_mem mcs)
  obtain⟨h1,d1⟩:=aO0 t h d le;have:=aA4 r (p++[t]) _ h1 d1 (by rw[aUO];exact so)
  rw[aUO]at this;exact this
theorem aA5:∀{a b:List Tr},a.map tmN=b.map tmN->a=b
 |[],[],_=>rfl
 |[],_::_,h=>by cases h
 |_::_,[],h=>by cases h
 |x::a,y::b,h=>by rw[aSV,aSV,aSZ]at h;rw[aOV h.1,aA5 h.2]
def both{ts S:List Tr}(hs:S.map tmN=cY (ts.map tmN)):(S.foldl iH []).reverse.map tmN=cY ((bA ts).map tmN):=by
 have pm:S.Perm ts:=by
  have h0:(S.map tmN).Perm (ts.map tmN):=by rw[hs];exact l7 _
  obtain⟨qs,q1,q2⟩:=j7 h0;have:S=qs:=by exact aA5 q2
  rw[this];exact q1
 obtain⟨h1,d1⟩:=aA4 S [] [] aA3 .nil (by rw[aT8,hs];exact rQ _)
 rw[aT8]at h1;obtain⟨h2,n2⟩:=m8 ts;have nd1:(S.foldl iH []).Nodup:=d1.imp λ{a b} h e=>by subst e;rw[tP]at h;cases h
 have nd2:(bA ts).Nodup:=by have:=aV3.mp n2;exact this.imp λ{a b} h e=>h (by rw[e])
 have pe:(S.foldl iH []).Perm (bA ts):=(List.perm_ext_iff_of_nodup nd1 nd2).mpr λ⟨k,n⟩=>by rw[h1 k n,h2 k n,aOY pm k,aOX pm k]
 refine rR ?_ (((List.reverse_perm _).trans pe).map tmN);unfold eY;rw[aV3,List.pairwise_reverse];refine d1.imp λ{a b} h=>?_;have ne:a.1≠b.1:=λe=>by rw[e,tP]at h;cases h
 rw[aA0 ne];exact rM h
theorem aA6:∀{ks:List N},(∀k∈ks,aU (nD k)=some k.py)->cQ (nDL ks)=some (N.pyL ks)
 |[],_=>by simp[nDL,cQ,N.pyL]
 |k::ks,h=>by simp only[nDL,cQ,N.pyL];rw[h k mcs,aA6 λx hx=>h x (mcm hx)]
def aA7(k:N):aU (nD k)=some k.py:=by
 induction k using N.ind with
 |hi n=>simp[nD,aU,N.py]
 |hs x=>simp[nD,aU,N.py]
 |ht xs ih=>simp only[nD,aU,N.py];rw[aA6 ih];rfl
theorem eqF_N{x y:N}{m:Md}(hx:x.dp<=50)(hy:y.dp<=50):eqF neg m (nD x) m' (nD y)=some (.fz,.bl (if neg then !decide (x=y)else decide (x=y))):=by unfold eqF;rw[aA7,aA7];dsimp only;rw[if_pos (by unfold jR;rw[aSJ,aTC,aTC,N.py_depth,N.py_depth];lia),N.py_eqv]
def x_eqN{x y:N}{m:Md}(hx:x.dp<=50)(hy:y.dp<=50):op2 (bV .Eq) (.ok m (nD x)) (.ok m' (nD y))=.ok .fz (.bl (decide (x=y))):=cI (by
 show orO (eqF false) _ m (nD x) m' (nD y)=_;unfold orO;rw[eqF_N hx hy];rfl)
theorem tR:∀{ks:List N},(∀k∈ks,bM (nD k)=some k)->eI (nDL ks)=some ks
 |[],_=>by simp[nDL,eI]
 |k::ks,h=>by simp only[nDL,eI];rw[h k mcs,tR λx hx=>h x (mcm hx)]
def aO1(k:N):bM (nD k)=some k:=by
 induction k using N.ind with
 |hi n=>simp[nD,bM]
 |hs x=>simp[nD,bM]
 |ht xs ih=>simp only[nD,bM];rw[tR ih];rfl
def aA8(ks:List N):eI (nDL ks)=some ks:=tR λk _=>aO1 k
def tU(h:(N.t ks).dp<=8):cR (nD (.t ks))=some (.t ks):=by
 rw[nD];show(match eI (nDL ks)with|some ks=>if(N.t ks).dp<=8 then some (N.t ks)else none|none=>none)=_
 rw[aA8];dsimp only;rw[if_pos h]
def aO2(h:∀k∈ks,cM k=true)(h0:ks≠[]):txD (nDL ks)=none:=by
 cases ks with
 |nil=>exact absurd rfl h0
 |cons k ks =>
  have:=h k mcs;unfold cM at this;split at this
  . simp only[nDL,nD];rfl
  . cases this
def aO3{m:Md}{d:D}(hd:seqD d=some (nDL ks))(h:∀k∈ks,cM k=true)(ok:okS ks=true):gT [(m,d)]=some (.fr,.lst (nDL (cY ks))):=by
 show(match seqD d with|some ds=>_|none=>none)=_
 rw[hd];dsimp only;by_cases h0:ks=[]
 . subst h0;rfl
 . rw[aO2 h h0,aA8];dsimp only;rw[if_pos ok]
def isF(f:N):Prop:=∃xs:List Str,f=.t (xs.map .s)/\xs.length<64
def isBs:Nat->N->Prop
 |0,b=>b=.t []
 |j+1,b=>∃rs:List N,b=.t rs/\rs.length<64/\∀r∈rs,∃ts:List Tr,r=.t (ts.map tmN)/\ts.length<64/\∀t∈ts,isF t.1.1/\isBs j t.1.2
def isK(j:Nat)(k:Ky):Prop:=isF k.1/\isBs j k.2
theorem m9:∀{xs ys:List N},(∀x∈xs,∀y∈ys,okN x y=true)->eX xs ys=true
 |[],_,_=>by simp[eX]
 |_::_,[],_=>by simp[eX]
 |x::xs,y::ys,h=>by
  rw[eX];split
  . exact m9 λa ha b hb=>h a (mcm ha) b (mcm hb)
  . exact h x mcs y mcs
def tV{f g:N}(hf:isF f)(hg:isF g):okN f g=true:=by obtain⟨xs,rfl,_⟩:=hf;obtain⟨ys,rfl,_⟩:=hg;rw[okN];refine m9 λx hx y hy=>?_;obtain⟨a,_,rfl⟩:=aWI.mp hx;obtain⟨b,_,rfl⟩:=aWI.mp hy;rw[okN]
def tW{s t:Tr}(h1:okN s.1.1 t.1.1=true)(h2:okN s.1.2 t.1.2=true):okN (tmN s) (tmN t)=true:=by
 unfold tmN;simp only[okN,eX];split
 . split
   . split <;> rfl
   . exact h2
 . exact h1
theorem tX:∀{j:Nat}{b c:N},isBs j b->isBs j c->okN b c=true
 |0,b,c,h1,h2=>by cases h1;cases h2;simp[okN,eX]
 |j+1,b,c,h1,h2=>by obtain⟨rs,rfl,_,h1⟩:=h1;obtain⟨qs,rfl,_,h2⟩:=h2;rw[okN];refine m9 λx hx y hy=>?_;obtain⟨ts,rfl,_,h1⟩:=h1 x hx;obtain⟨us,rfl,_,h2⟩:=h2 y hy;rw[okN];refine m9 λa ha b hb=>?_;obtain⟨s,hs,rfl⟩:=aWI.mp ha;obtain⟨t,ht,rfl⟩:=aWI.mp hb;exact tW (tV (h1 s hs).1 (h2 t ht).1) (tX (h1 s hs).2 (h2 t ht).2)
def ok_K{s t:Tr}(h1:isK j s.1)(h2:isK j t.1):okN (tmN s) (tmN t)=true:=tW (tV h1.1 h2.1) (tX h1.2 h2.2)
theorem kT:∀{xs:List N}{n:Nat},(∀x∈xs,x.dp<=n)->N.dpL xs<=n
 |[],n,_=>by simp[N.dpL]
 |x::xs,n,h=>by rw[N.dpL];have:=h x mcs;have:=kT λy hy=>h y (mcm hy);lia
theorem tY{f:N}(h:isF f):f.dp<=1:=by
 obtain⟨xs,rfl,_⟩:=h;rw[N.dp];have:N.dpL (xs.map N.s)<=0:=kT λx hx=>by obtain⟨a,_,rfl⟩:=aWI.mp hx;rw[N.dp];exact aRG 0
 lia
theorem tZ:∀{j:Nat}{b:N},isBs j b->b.dp<=3 * j+1
 |0,b,h=>by cases h;simp[N.dp,N.dpL]
 |j+1,b,h=>by
  obtain⟨rs,rfl,_,h⟩:=h;rw[N.dp];have:N.dpL rs<=3 * j+3:=kT λr hr=>by
   obtain⟨ts,rfl,_,h⟩:=h r hr;rw[N.dp];have:N.dpL (ts.map tmN)<=3 * j+2:=kT λx hx=>by obtain⟨t,ht,rfl⟩:=aWI.mp hx;have a1:=tY (h t ht).1;have a2:=tZ (h t ht).2;simp only[tmN,N.dp,N.dpL];lia
   lia
  lia
theorem pI{k:Ky}(h:isK j k)(hj:j<=2):k.1.dp<=1/\k.2.dp<=7/\(kyN k).dp<=8/\∀n,(tmN (k,n)).dp<=8:=by
 have a1:=tY h.1;have a2:=tZ h.2;refine⟨a1,by lia,?_,λn=>?_⟩
 . simp only[kyN,N.dp,N.dpL];lia
 . simp only[tmN,N.dp,N.dpL];lia
theorem t0:∀{j:Nat}{b:N},isBs j b->isBs (j+1) b
 |0,b,h=>by cases h;exact⟨[],rfl,by decide,λr hr=>nomatch hr⟩
 |j+1,b,h=>by obtain⟨rs,rfl,l,h⟩:=h;refine⟨rs,rfl,l,λr hr=>?_⟩;obtain⟨ts,rfl,l2,h⟩:=h r hr;exact⟨ts,rfl,l2,λt ht=>⟨(h t ht).1,t0 (h t ht).2⟩⟩
def aO4{t:Tr}(h:isF t.1.1):cM (tmN t)=true:=by obtain⟨xs,e,_⟩:=h;unfold tmN;rw[e];rfl
def okS_T{ts:List Tr}(h:∀t∈ts,isK 2 t.1)(hl:ts.length<64):okS (ts.map tmN)=true/\∀k∈ts.map tmN,cM k=true:=by
 have tf:∀k∈ts.map tmN,cM k=true:=λk hk=>by obtain⟨t,ht,rfl⟩:=aWI.mp hk;exact aO4 (h t ht).1
 refine⟨?_,tf⟩;unfold okS;simp only[aSJ,aTE,aTC,aV8];refine⟨⟨⟨λk hk=>?_,.inr tf⟩,λx hx y hy=>?_⟩,by rw[aR4];exact aQR hl rJ⟩
 . obtain⟨t,ht,rfl⟩:=aWI.mp hk;exact aQW ((pI (h t ht) (aRG 2)).2.2.2 t.2) (by decide)
 . obtain⟨t,ht,rfl⟩:=aWI.mp hx;obtain⟨u,hu,rfl⟩:=aWI.mp hy;exact ok_K (h t ht) (h u hu)
def kU{m:Md}{i:Int}{d:D}(h:atI ds i=some d):op2 ixD (.ok m (.lst ds)) (.ok m' (.int i))=.ok .fz d:=cI (by show(atI ds i).map _=_;rw[h];rfl)
def nA{m:Md}{i:Int}{d:D}(h:atI ds i=some d):op2 ixD (.ok m (.tup ds)) (.ok m' (.int i))=.ok .fz d:=cI (by show(atI ds i).map _=_;rw[h];rfl)
def ix2_0{m:Md}{x y:D}:op2 ixD (.ok m (.tup [x,y])) (.ok m' (.int 0))=.ok .fz x:=nA rfl
def ix2_1{m:Md}{x y:D}:op2 ixD (.ok m (.tup [x,y])) (.ok m' (.int 1))=.ok .fz y:=nA rfl
def ix3_0{m:Md}{x y z:D}:op2 ixD (.ok m (.tup [x,y,z])) (.ok m' (.int 0))=.ok .fz x:=nA rfl
def ix3_2{m:Md}{x y z:D}:op2 ixD (.ok m (.tup [x,y,z])) (.ok m' (.int 2))=.ok .fz z:=nA rfl
def gB:iN (.ok [])=.ok .fz (.tup []):=rfl
def nB{x:D}:iN (.ok [(.fz,x)])=.ok .fz (.tup [x]):=rfl
def tup2{x y:D}:iN (.ok [(.fz,x),(.fz,y)])=.ok .fz (.tup [x,y]):=rfl
def jD{x y z:D}:iN (.ok [(.fz,x),(.fz,y),(.fz,z)])=.ok .fz (.tup [x,y,z]):=rfl
def T_eq(t:Tr):nD (tmN t)=.tup [nD t.1.1,nD t.1.2,.int t.2]:=by simp[tmN,nD,nDL]
def K_eq(k:Ky):nD (kyN k)=.tup [nD k.1,nD k.2]:=by simp[kyN,nD,nDL]
abbrev tD(t:Tr):D:=nD (tmN t)
def kW:iO (.ok [])=.ok .fr (.lst []):=rfl
def aA9(t:Tr):tD t=.tup [nD t.1.1,nD t.1.2,.int t.2]:=T_eq t
def t4(ts:List Tr):nDL (ts.map tmN)=ts.map tD:=by rw[gR,aV9];rfl
theorem aBA{α:Type}{enc:α->D}{p:α->Bool}{g:α->D}{k:D->Rho->Option Rho}{t e:Rho->Res}{ρ0:Rho}:∀{xs:List α},(∀x∈xs,∃ρ1 m,k (enc x) ρ0=some ρ1/\t ρ1=.ok m (.bl (p x))/\(p x=true->∃m',aZ (e ρ1)=.ok m' (g x)))->fG k t e ρ0 (xs.map enc)=some ((xs.filter p).map g)
 |[],_=>rfl
 |x::xs,h=>by
  obtain⟨ρ1,m,e1,e2,e3⟩:=h x mcs;have ih:=aBA λy hy=>h y (mcm hy);rw[aSV];unfold fG;rw[e1];dsimp only;rw[e2];cases q:p x with
  |true=>obtain⟨m',e3⟩:=e3 q;simp[e3,ih,List.filter_cons,q]
  |false=>simp[ih,List.filter_cons,q]
def aO5{enc:α->D}(p:α->Bool)(g:α->D){k:D->Rho->Option Rho}{t e:Rho->Res}{m:Md}{xs:List α}(hl:xs.length<sizeLine)(h:∀x∈xs,∃ρ1 m,k (enc x) (cW aE ρ++List.replicate n none)=some ρ1/\t ρ1=.ok m (.bl (p x))/\(p x=true->∃m',aZ (e ρ1)=.ok m' (g x))):dX (.ok m (.lst (xs.map enc))) ρ aE n k t e=.ok .fr (.lst ((xs.filter p).map g)):=by unfold dX;rw[Res.thn_ok];dsimp only;rw[if_pos (by simpa using hl),aBA h]
def aO6{enc:α->D}(g:α->D){k:D->Rho->Option Rho}{t e:Rho->Res}{m:Md}{xs:List α}(hl:xs.length<sizeLine)(h:∀x∈xs,∃ρ1 m,k (enc x) (cW aE ρ++List.replicate n none)=some ρ1/\t ρ1=.ok m (.bl true)/\∃m',aZ (e ρ1)=.ok m' (g x)):dX (.ok m (.lst (xs.map enc))) ρ aE n k t e=.ok .fr (.lst (xs.map g)):=by
 have:=aO5 (enc:=enc) (λ_=>true) g (ρ:=ρ) (aE:=aE) (n:=n) (k:=k) (t:=t) (e:=e) (m:=m) hl λx hx=>by obtain⟨ρ1,m,e1,e2,e3⟩:=h x hx;exact⟨ρ1,m,e1,e2,λ_=>e3⟩
 rw[this,List.filter_eq_self.mpr λ_ _=>rfl]
def F(ys:List Str):N:=.t (ys.map .s)
def pJ(ys:List Str):nD (F ys)=.tup (ys.map .str):=by unfold F;rw[nD,gR,aV9];congr 1
abbrev Rw:=List Str×N×Int
def enc(r:Rw):D:=.tup [.tup (r.1.map .str),nD r.2.1,.int r.2.2]
def tr(r:Rw):Tr:=((F (aX r.1),r.2.1),r.2.2)
def kv(a:Tr):N×D:=(kyN a.1,.int a.2)
theorem aBB:∀(xs:List Str),txD (xs.map .str)=some xs
 |[]=>rfl
 |x::xs=>by rw[aSV];unfold txD;rw[aBB xs];rfl
def aBC{m:Md}{d:D}(hd:seqD d=some (xs.map .str))(h:xs.length<64):gT [(m,d)]=some (.fr,.lst ((aX xs).map .str)):=by
 show(match seqD d with|some ds=>_|none=>none)=_
 rw[hd];dsimp only;rw[aBB];dsimp only;rw[if_pos h]
theorem pK:∀(acc:List Tr) (k:Ky),cS (acc.map kv) (kyN k)=(acc.find? λa=>decide (a.1=k)).map λa=>.int a.2
 |[],k=>rfl
 |a::acc,k=>by
  rw[aSV];by_cases e:a.1=k
  . rw[yF (p:=kv a) (by show kyN a.1=_;rw[e]),List.find?_cons_of_pos (by simpa using e)]
    rfl
  . rw[yG (p:=kv a) (λz=>e (tO z)),pK acc k,List.find?_cons_of_neg (by simpa using e)]
def t7{k:Ky}{n:Int}(nd:(acc.map (·.1)).Nodup)(h:(k,n)∈acc):acc.find? (λa=>decide (a.1=k))=some (k,n):=by
 induction acc with
 |nil=>cases h
 |cons a acc ih =>
  rw[aSV,aRU]at nd;rcases aQZ.mp h with e|h
  . subst e;rw[List.find?_cons_of_pos (by simp)]
  . have:¬ a.1=k:=λe=>nd.1 (by rw[e];exact aWI.mpr ⟨_,h,rfl⟩)
    rw[List.find?_cons_of_neg (by simpa using this)]
    exact ih nd.2 h
def aO7{t:Tr}(nd:(acc.map (·.1)).Nodup):((cD acc t).map (·.1)).Nodup:=by
 rw[aA1];split
 . exact nd
 . rename_i q;refine aUE.mpr ⟨nd,aVV _ _,λa ha b hb e=>?_⟩;cases aT2.mp hb;obtain⟨u,mu,rfl⟩:=aWI.mp ha;exact q (kS.mpr ⟨u,mu,e⟩)
theorem aBD(acc:List Tr)(t:Tr):(cD acc t).length<=acc.length+1:=by
 unfold cD;split
 . rw[aR4];lia
 . rw[aR3];exact aRG _
def gC(acc:List Tr)(k:Ky):Int:=((acc.find? λa=>decide (a.1=k)).map (·.2)).getD 0
def aO8(acc:List Tr)(k:Ky):(cS (acc.map kv) (kyN k)).getD (.int 0)=.int (gC acc k):=by rw[pK];unfold gC;cases acc.find? λa=>decide (a.1=k) <;> rfl
def aO9{t:Tr}(nd:(acc.map (·.1)).Nodup):j3 (acc.map kv) (kyN t.1) (.int (gC acc t.1+t.2))=(cD acc t).map kv:=by
 unfold j3 cD;rw[pK];by_cases q:(acc.any λa=>decide (a.1=t.1))=true
 . rw[if_pos q];obtain⟨⟨k,n⟩,m,e⟩:=kS.mp q;dsimp only at e;subst e;have hf:=t7 nd m;have hv:gC acc t.1=n:=by unfold gC;rw[hf];rfl
   rw[if_pos (by rw[hf];rfl),hv,aV9,aV9]
   refine aWJ λa ha=>?_;show(if kyN a.1=kyN t.1 then(kyN a.1,D.int (n+t.2))else kv a)=kv (if a.1=t.1 then(a.1,a.2+t.2)else a);by_cases e:a.1=t.1
   . rw[if_pos e,if_pos (by rw[e])]
     have:a=(t.1,n):=by
      have:=t7 nd (k:=t.1) (n:=a.2) (by rw[<- e];exact ha)
      rw[hf]at this;injection this with this
      rw[this,<- e]
     rw[this];rfl
   . rw[if_neg e,if_neg (λz=>e (tO z))]
 . rw[if_neg q];have:(acc.find? λa=>decide (a.1=t.1))=none:=by rw[List.find?_eq_none];intro a ha z;exact q (kS.mpr ⟨a,ha,aTD z⟩)
   have hv:gC acc t.1=0:=by unfold gC;rw[this];rfl
   rw[if_neg (by rw[this];decide),hv,aWV,aWT]
   rfl
def t8{k:Ky}(h:(kyN k).dp<=8):cR (.tup [nD k.1,nD k.2])=some (kyN k):=by rw[<- K_eq];exact tU h
theorem nbody{W:WD}{A x5:Option (Bool×D)}{r:Rw}(nd:(acc.map (·.1)).Nodup)(hx:r.1.length<64)(h8:(kyN (tr r).1).dp<=8)(hl:acc.length<1000):evB W kM [A,some (true,.dtn (acc.map kv)),some (false,.tup (r.1.map .str)),some (false,nD r.2.1),some (false,.int r.2.2),x5]=.nx [A,some (true,.dtn ((cD acc (tr r)).map kv)),some (false,.tup (r.1.map .str)),some (false,nD r.2.1),some (false,.int r.2.2),some (false,.tup [nD (tr r).1.1,nD (tr r).1.2])]:=by
 have e1:gT [(.fz,.tup (r.1.map .str))]=some (.fr,.lst ((aX r.1).map .str)):=aBC rfl hx;have e2:fK [(.fr,.lst ((aX r.1).map D.str))]=some (.fz,nD (tr r).1.1):=by show some (Md.fz,D.tup ((aX r.1).map D.str))=_;rw[show(tr r).1.1=F (aX r.1)from rfl,pJ]
 have e0:nD r.2.1=nD (tr r).1.2:=rfl;have e3:lY (.ok .bo (.dtn (acc.map kv))) (.ok .fz (.tup [nD (tr r).1.1,nD (tr r).1.2])) (.ok .fz (.int 0))=.ok .fz (.int (gC acc (tr r).1)):=by
  show(match Md.fz,cR (.tup [nD (tr r).1.1,nD (tr r).1.2])with|.fz,some k=>Res.ok .fz ((cS (acc.map kv) k).getD (.int 0))|_,_=>.stuck)=_
  rw[t8 h8];dsimp only;rw[aO8]
 have e4 : lZ [A, some (true, .dtn (acc.map kv)), some (false, .tup (r.1.map .str)), some (false, nD (tr r).1.2), some (false, .int r.2.2), some (false, .tup [nD (tr r).1.1, nD (tr r).1.2])] 1 (.ok .fz (.tup [nD (tr r).1.1, nD (tr r).1.2])) (.ok .fz (.int (gC acc (tr r).1 + r.2.2))) =
     .nx [A,some (true,.dtn ((cD acc (tr r)).map kv)),some (false,.tup (r.1.map .str)),some (false,nD (tr r).1.2),some (false,.int r.2.2),some (false,.tup [nD (tr r).1.1,nD (tr r).1.2])]:=by
  show(match cR (.tup [nD (tr r).1.1,nD (tr r).1.2])with|some k=>if(acc.map kv).length<sizeLine then aG.nx (List.set [A,some (true,D.dtn (acc.map kv)),some (false,D.tup (r.1.map .str)),some (false,nD (tr r).1.2),some (false,.int r.2.2),some (false,.tup [nD (tr r).1.1,nD (tr r).1.2])] 1 (some (true,D.dtn (j3 (acc.map kv) k (.int (gC acc (tr r).1+r.2.2))))))else .stuck|none=>.stuck)=_
  rw[t8 h8];dsimp only;rw[if_pos (by rw[aR4,aRK];lia)]
  have:=aO9 (t:=tr r) nd;rw[show(tr r).2=r.2.2 from rfl]at this
  rw[this];rfl
 rw[e0];generalize nD (tr r).1.1=Fd at *;generalize nD (tr r).1.2=Bd at *;generalize D.dtn (acc.map kv)=L at *;generalize D.tup (r.1.map .str)=X at *;generalize D.dtn ((cD acc (tr r)).map kv)=L' at *;generalize (aX r.1).map D.str=Y at *;simp[kM,Ty.f,e1,e2,tup2,e3,e4]
theorem aBE{W:WD}{A:Option (Bool×D)}:∀(rs:List Rw) (acc:List Tr) (x2 x3 x4 x5:Option (Bool×D)),(acc.map (·.1)).Nodup->(∀r∈rs,r.1.length<64/\(kyN (tr r).1).dp<=8)->acc.length+rs.length<1000->∃y2 y3 y4 y5,bP (aP (.tp [.nm 2,.nm 3,.nm 4])) (evB W kM) (rs.map enc) [A,some (true,.dtn (acc.map kv)),x2,x3,x4,x5]=.nx [A,some (true,.dtn (((rs.map tr).foldl cD acc).map kv)),y2,y3,y4,y5]
 |[],acc,x2,x3,x4,x5,_,_,_=>⟨x2,x3,x4,x5,rfl⟩
 |r::rs,acc,x2,x3,x4,x5,nd,h,hl=>by
  obtain⟨h1,h2⟩:=h r mcs;rw[aST]at hl;obtain⟨y2,y3,y4,y5,e⟩:=aBE (W:=W) (A:=A) rs (cD acc (tr r)) (some (false,.tup (r.1.map .str))) (some (false,nD r.2.1)) (some (false,.int r.2.2)) (some (false,.tup [nD (tr r).1.1,nD (tr r).1.2])) (aO7 nd) (λx hx=>h x (mcm hx)) (by have:=aBD acc (tr r);lia)
  refine⟨y2,y3,y4,y5,?_⟩;rw[aSV];unfold bP;rw[show aP (.tp [.nm 2,.nm 3,.nm 4]) (enc r) [A,some (true,.dtn (acc.map kv)),x2,x3,x4,x5]=some [A,some (true,.dtn (acc.map kv)),some (false,.tup (r.1.map .str)),some (false,nD r.2.1),some (false,.int r.2.2),x5]from by simp[enc]]
  dsimp only;rw[nbody nd h1 h2 (by lia)]
  exact e
def aPA{ts:List Tr}(h:∀t∈ts,isK 2 t.1):∀t∈bA ts,isK 2 t.1:=λt ht=>by obtain⟨u,hu,e⟩:=(((m8 ts).1 t.1 t.2).mp ht).1;rw[<- e];exact h u hu
theorem aBF:∀(r acc:List Tr),(r.foldl cD acc).length<=acc.length+r.length
 |[],acc=>aRG _
 |t::r,acc=>by have h1:=aBF r (cD acc t);have h2:=aBD acc t;rw[List.foldl_cons,aST];lia
def t9(ts:List Tr):(bA ts).length<=ts.length:=by unfold bA;have:=aBF ts [];simpa using this
def nf(ts:List Tr):D:=.tup (nDL (cY ((bA ts).map tmN)))
theorem aBG{k:Nat}{rs:List Rw}(h:∀r∈rs,r.1.length<64/\isK 2 (tr r).1)(hl:rs.length<64):(WT TT (k+1)).Φ "_law_normal" [.lst (rs.map enc)]=.ok .fz (nf (rs.map tr)):=by
 have hK:∀t∈rs.map tr,isK 2 t.1:=λt ht=>by obtain⟨r,hr,rfl⟩:=aWI.mp ht;exact(h r hr).2
 obtain⟨tl,nd⟩:=m8 (rs.map tr);have aK:=aPA hK;have al:(bA (rs.map tr)).length<64:=by have:=t9 (rs.map tr);rw[aR4]at this;lia
 obtain⟨y2,y3,y4,y5,e2⟩:=aBE (W:=WT TT k) (A:=some (false,.lst (rs.map enc))) rs [] none none none none aUF (λr hr=>⟨(h r hr).1,(pI (h r hr).2 (aRG 2)).2.2.1⟩) (by simp;lia)
 have e2:bP (aP (.tp [.nm 2,.nm 3,.nm 4])) (evB (WT TT k) kM) (rs.map enc) [some (false,.lst (rs.map enc)),some (true,.dtn []),none,none,none,none]=.nx [some (false,.lst (rs.map enc)),some (true,.dtn ((bA (rs.map tr)).map kv)),y2,y3,y4,y5]:=e2;have e4:j6 [some (false,.lst (rs.map enc)),some (true,.dtn ((bA (rs.map tr)).map kv)),y2,y3,y4,y5] 1=.nx [some (false,.lst (rs.map enc)),some (false,.dtf ((bA (rs.map tr)).map kv)),y2,y3,y4,y5]:=rfl;have e5:l8 (.ok .fz (.dtf ((bA (rs.map tr)).map kv)))=.ok .fz (.lst ((bA (rs.map tr)).map λa=>nD (kyN a.1))):=by show Res.ok .fz (.lst (((bA (rs.map tr)).map kv).map λkv=>nD kv.1))=_;rw[aV9];rfl
 have e6:dX (.ok .fz (.lst ((bA (rs.map tr)).map λa=>nD (kyN a.1)))) [some (false,.lst (rs.map enc)),some (false,.dtf ((bA (rs.map tr)).map kv)),y2,y3,y4,y5] [1] 1 (aP (.nm 1)) (λρ=>evF (WT TT k) [] ρ) (λρ=>evE (WT TT k) (.tup [(.ix (.var 1) (.int 0)),(.ix (.var 1) (.int 1)),(.nix (.var 0) (.var 1))]) ρ)=.ok .fr (.lst ((bA (rs.map tr)).map tD)):=by
  refine aO6 (enc:=λa:Tr=>nD (kyN a.1)) tD (by rw[aRK];lia) λa ha=>?_
  refine⟨[some (false,.dtf ((bA (rs.map tr)).map kv)),some (false,nD (kyN a.1))],.fz,rfl,by simp,.fz,?_⟩
  have g:op2 lX (.ok .fz (.dtf ((bA (rs.map tr)).map kv))) (.ok .fz (.tup [nD a.1.1,nD a.1.2]))=.ok .fz (.int a.2):=cI (by
   show(match some ((bA (rs.map tr)).map kv),cR (.tup [nD a.1.1,nD a.1.2])with|some kvs,some k=>(cS kvs k).map λd=>(Md.fz,d)|_,_=>none)=_
   rw[t8 (pI (aK a ha) (aRG 2)).2.2.1];dsimp only;rw[pK,t7 nd (k:=a.1) (n:=a.2) ha];rfl)
  rw[aA9 a,K_eq];generalize D.dtf ((bA (rs.map tr)).map kv)=L at *;simp[ix2_0,ix2_1,g,jD]
 have e7:gT [(.fr,.lst ((bA (rs.map tr)).map tD))]=some (.fr,.lst (nDL (cY ((bA (rs.map tr)).map tmN)))):=by obtain⟨ok,ft⟩:=okS_T aK al;exact aO3 (by rw[t4];rfl) ft ok
 have e8:fK [(.fr,.lst (nDL (cY ((bA (rs.map tr)).map tmN))))]=some (.fz,nf (rs.map tr)):=rfl;rw[aOO];refine dB rfl ?_;show evB _ pC [some (false,.lst (rs.map enc)),none,none,none,none,none]=_;unfold pC;generalize kM=B at *;generalize D.dtf ((bA (rs.map tr)).map kv)=L1 at *;generalize D.dtn ((bA (rs.map tr)).map kv)=L2 at *;generalize ((bA (rs.map tr)).map λa=>nD (kyN a.1))=L3 at *;generalize (bA (rs.map tr)).map tD=L4 at *;generalize nDL (cY ((bA (rs.map tr)).map tmN))=L5 at *;generalize nf (rs.map tr)=L6 at *;generalize E.tup [(E.ix (.var 1) (.int 0)),(.ix (.var 1) (.int 1)),(.nix (.var 0) (.var 1))]=EE at *;generalize rs.map enc=A at *;simp only[aNK]at e6;simp[dI,e2,e4,e5,e6,e7,Ty.f,e8]
theorem aPB(xs:List α)(v:Int)(n:Int)(hn:n=xs.length)(h:0<n):∃c,c∈xs/\atI xs (v % n)=some c:=by
 have h0:=aWW v (show n≠0 by lia)
 have h1:=aWX v h;obtain⟨j,hj⟩:=aWY h0;have hl:j<xs.length:=by lia
 exact⟨xs[j],aUD hl,by rw[hj];exact lC (aTP hl)⟩
abbrev NM(nms:List Str):D:=.lst (nms.map .str)
def isRs(ts:List Tr):Prop:=(ts≠[]/\ts.length<64)/\∀t∈ts,isF t.1.1/\isBs 1 t.1.2
def isF_F(h:ys.length<64):isF (F ys):=⟨ys,rfl,h⟩
def bs0:isBs 1 (.t []):=⟨[],rfl,by decide,λr hr=>nomatch hr⟩
def kX:nD (.t [])=.tup []:=by simp[nD,nDL]
def pL(t:Tr):nD (.t ([t].map tmN))=.tup [.tup [nD t.1.1,nD t.1.2,.int t.2]]:=by rw[nD,gR];show D.tup [nD (tmN t)]=_;rw[T_eq]
def F_nil:nD (F [])=.tup []:=pJ []
def uA(s:Str):nD (F [s])=.tup [.str s]:=pJ [s]
def uB{r:Rw}(hx:r.1.length<64)(hb:isBs 2 r.2.1):isK 2 (tr r).1:=⟨isF_F (by rw[(fZ r.1).length_eq];exact hx),hb⟩
def aBH{ts:List Tr}:∃S:List Tr,S.Perm ts/\S.map tmN=cY (ts.map tmN):=by obtain⟨S,p,e⟩:=j7 (l7 (ts.map tmN));exact⟨S,p,e.symm⟩
theorem aBI{α:Type}(P:α->Prop)(g:α->D){k:D->Rho->Option Rho}{t e:Rho->Res}{ρ0:Rho}:∀{ds:List D},(∀d∈ds,∃ρ1 m x m',k d ρ0=some ρ1/\t ρ1=.ok m (.bl true)/\aZ (e ρ1)=.ok m' (g x)/\P x)->∃xs:List α,fG k t e ρ0 ds=some (xs.map g)/\xs.length=ds.length/\∀x∈xs,P x
 |[],_=>⟨[],rfl,rfl,λx hx=>nomatch hx⟩
 |d::ds,h=>by
  obtain⟨ρ1,m,x,m',e1,e2,e3,px⟩:=h d mcs;obtain⟨xs,f1,f2,f3⟩:=aBI P g λy hy=>h y (mcm hy);refine⟨x::xs,?_,by simp[f2],λy hy=>?_⟩
  . unfold fG;rw[e1];dsimp only;rw[e2];simp[e3,f1]
  . rcases aQZ.mp hy with rfl|hy
    . exact px
    . exact f3 y hy
def aBJ(P:α->Prop)(g:α->D){k:D->Rho->Option Rho}{t e:Rho->Res}{m:Md}(hl:ds.length<sizeLine)(h:∀d∈ds,∃ρ1 m x m',k d (cW aE ρ++List.replicate n none)=some ρ1/\t ρ1=.ok m (.bl true)/\aZ (e ρ1)=.ok m' (g x)/\P x):∃xs:List α,dX (.ok m (.lst ds)) ρ aE n k t e=.ok .fr (.lst (xs.map g))/\xs.length=ds.length/\∀x∈xs,P x:=by obtain⟨xs,f1,f2,f3⟩:=aBI P g h;refine⟨xs,?_,f2,f3⟩;unfold dX;rw[Res.thn_ok];dsimp only;rw[if_pos hl,f1]
def fD:Int:=10000000000000000000000000000000000000000
def pow40:op2 (bJ .Pow) (.ok .fz (.int 10)) (.ok .fz (.int 40))=.ok .fz (.int fD):=by rfl
def z40:(0:Int)<fD:=by decide
theorem uC{ts:List Tr}(h:∀t∈ts,isF t.1.1/\isBs 1 t.1.2):(N.t (ts.map tmN)).dp<=8:=by
 rw[N.dp];have:N.dpL (ts.map tmN)<=5:=kT λx hx=>by obtain⟨t,ht,rfl⟩:=aWI.mp hx;have a1:=tY (h t ht).1;have a2:=tZ (h t ht).2;simp only[tmN,N.dp,N.dpL];lia
 lia
def aPC{ts:List Tr}(h:isRs ts):cM (.t (ts.map tmN))=true:=by
 obtain⟨h0,_⟩:=h;cases ts with
 |nil=>exact absurd rfl h0.1
 |cons t ts=>rfl
def ok_R{ts us:List Tr}(h1:isRs ts)(h2:isRs us):okN (.t (ts.map tmN)) (.t (us.map tmN))=true:=by rw[okN];refine m9 λa ha b hb=>?_;obtain⟨s,hs,rfl⟩:=aWI.mp ha;obtain⟨t,ht,rfl⟩:=aWI.mp hb;exact tW (tV (h1.2 s hs).1 (h2.2 t ht).1) (tX (h1.2 s hs).2 (h2.2 t ht).2)
def aPD(xs:List Str):aX (aX xs)=aX xs:=(rU (oX xs) (aV2 _)).symm
def uD(xs:List Str):(aX xs).length=xs.length:=(fZ xs).length_eq
def ix_s{m:Md}{i:Int}{c:Nat}(h:atI z.cps.toList i=some c):op2 ixD (.ok m (.str z)) (.ok m' (.int i))=.ok .fz (.str ⟨#[c]⟩):=cI (by show(atI z.cps.toList i).map _=_;rw[h];rfl)
def bB:Str := "abcdefghijklmnopqrstuvwxyz"
def bD:Str:=bB++("0123456789":Str)
def jE:List Nat:=bB.cps.toList
def gY:List Nat:=bD.cps.toList
def pM:jE.length=26:=by decide +kernel
def pN:gY.length=36:=by decide +kernel
def iI(v:Int):Nat:=jE.getD (v % 26).toNat 0
def sgn(v:Int):Nat:=gY.getD (v % 36).toNat 0
theorem pO{l:List Nat}(hn:l.length=n)(h0:0<n)(v:Int):atI l (v % (n:Int))=some (l.getD (v % (n:Int)).toNat 0)/\l.getD (v % (n:Int)).toNat 0∈l:=by
 have h0':=aWW v (show(n:Int)≠0 by lia)
 have h1:=aWX v (show(0:Int)<n by lia)
 obtain⟨j,hj⟩:=aWY h0';rw[hj];have h2:j<l.length:=by lia
 rw[aUZ,aWZ,aTP h2];exact⟨lC (aTP h2),aUD h2⟩
def aPE(v:Int)(m m':Md):op2 ixD (.ok m (.str bB)) (.ok m' (.int (v % 26)))=.ok .fz (.str ⟨#[iI v]⟩):=ix_s (pO pM (by decide) v).1
def aPF(v:Int)(m m':Md):op2 ixD (.ok m (.str bD)) (.ok m' (.int (v % 36)))=.ok .fz (.str ⟨#[sgn v]⟩):=ix_s (pO pN (by decide) v).1
def aBK(v:Int):iI v∈jE:=(pO pM (by decide) v).2
def aPG(v:Int):sgn v∈gY:=(pO pN (by decide) v).2
def aPH:∀c∈jE,c∈gY:=by decide +kernel
def nd26:jE.Nodup:=by decide +kernel
def nd36:gY.Nodup:=by decide +kernel
def aBL{l:List Nat}(nd:l.Nodup)(hi:i<l.length)(hj:j<l.length)(e:l.getD i 0=l.getD j 0):i=j:=by rw[aWZ,aWZ,aTP hi,aTP hj]at e;exact(List.getElem_inj nd).mp (by simpa using e)
theorem aPI{v:Int}(hi:i<4)(hj:j<4)(e:iI (v+(i:Int))=iI (v+(j:Int))):i=j:=by
 have:=aBL nd26 (by rw[pM];lia) (by rw[pM];lia) e
 lia
theorem aPJ{v:Int}(hi:i<4)(hj:j<4)(e:sgn (v+(i:Int))=sgn (v+(j:Int))):i=j:=by
 have:=aBL nd36 (by rw[pN];lia) (by rw[pN];lia) e
 lia
def vj(c k at' j:Int):Int:=if j=at' then c / 25+k else c / (7+6 * j)+11 * j
def chr(c k at' j:Int):Nat:=if j=0 then iI (vj c k at' j)else sgn (vj c k at' j)
def ap1(z:Str)(c:Nat):Str:=z++(⟨#[c]⟩:Str)
def gZ(a b:Str):(a++b).length=a.length+b.length:=by show(a.cps++b.cps).size=_;rw[aV7];rfl
def aBM(a b:Str):(a++b).cps.toList=a.cps.toList++b.cps.toList:=by show(a.cps++b.cps).toList=_;rw[Array.toList_append]
theorem aPK{W:WD}{c k at' j:Int}{x10:Option (Bool×D)}(hj:0<=j)(hj5:j<=4)(hz:z.length<=50):evB W eC [some (false,.int c),x1,some (false,.str bB),some (false,.str bD),x4,some (false,.int at'),x6,some (false,.int k),some (false,.str z),some (false,.int j),x10]=.nx [some (false,.int c),x1,some (false,.str bB),some (false,.str bD),x4,some (false,.int at'),x6,some (false,.int k),some (false,.str (ap1 z (chr c k at' j))),some (false,.int j),some (false,.int (vj c k at' j))]:=by
 have m6:op2 (bJ .Mult) (.ok .fz (.int 6)) (.ok .fz (.int j))=.ok .fz (.int (6 * j)):=aAA (by decide)
 have m11:op2 (bJ .Mult) (.ok .fz (.int 11)) (.ok .fz (.int j))=.ok .fz (.int (11 * j)):=aAA (by decide)
 have d7:op2 (bJ .FloorDiv) (.ok .fz (.int c)) (.ok .fz (.int (7+6 * j)))=.ok .fz (.int (c / (7+6 * j))):=z9 (by lia) (by lia)
 have st : ∀ v : Int, evB W [eC.getD 2 .never] [some (false, .int c), x1, some (false, .str bB), some (false, .str bD), x4, some (false, .int at'), x6, some (false, .int k), some (false, .str z), some (false, .int j), some (false, .int v)] =
     .nx [some (false,.int c),x1,some (false,.str bB),some (false,.str bD),x4,some (false,.int at'),x6,some (false,.int k),some (false,.str (ap1 z (if j=0 then iI v else sgn v))),some (false,.int j),some (false,.int v)]:=λv=>by
  have e1:=aPE v .fz .fz;have e2:=aPF v .fz .fz;have a1:op2 (bJ .Add) (.ok .fz (.str z)) (.ok .fz (.str ⟨#[iI v]⟩))=.ok .fz (.str (ap1 z (iI v))):=kI (by rw[aRK];show z.length+1<=_;lia)
  have a2:op2 (bJ .Add) (.ok .fz (.str z)) (.ok .fz (.str ⟨#[sgn v]⟩))=.ok .fz (.str (ap1 z (sgn v))):=kI (by rw[aRK];show z.length+1<=_;lia)
  generalize bB=LL at *;generalize bD=SS at *;by_cases w:j=0
  . rw[if_pos w];simp[eC,w,e1,a1]
  . rw[if_neg w];have w:(j==0)=false:=by simpa using w
    simp[eC,w,e2,a2]
 have fst : evB W (eC.take 2) [some (false, .int c), x1, some (false, .str bB), some (false, .str bD), x4, some (false, .int at'), x6, some (false, .int k), some (false, .str z), some (false, .int j), x10] =
     .nx [some (false,.int c),x1,some (false,.str bB),some (false,.str bD),x4,some (false,.int at'),x6,some (false,.int k),some (false,.str z),some (false,.int j),some (false,.int (vj c k at' j))]:=by
  unfold vj;generalize bB=LL at *;generalize bD=SS at *;by_cases w:j=at'
  . subst w;rw[if_pos rfl];simp[eC,m6,m11,d7]
  . rw[if_neg w];have w:(j==at')=false:=by simpa using w
    simp[eC,m6,m11,d7,w]
 have split:eC=eC.take 2++[eC.getD 2 .never]:=rfl;rw[split,iE,fst,aG.thn_nx];exact st _
def fQ{k:D->Rho->Option Rho}{body:Rho->aG}{d:D}{ρ1 ρ2:Rho}(h1:k d ρ=some ρ1)(h2:body ρ1=.nx ρ2):bP k body (d::ds) ρ=bP k body ds ρ2:=by
 conv=>lhs;unfold bP
 rw[h1];dsimp only;rw[h2]
def aPL(z:Str)(c:Nat):(ap1 z c).length=z.length+1:=gZ _ _
theorem aBN{W:WD}{c k at':Int}{x1 x4 x6:Option (Bool×D)}:∀(js:List Int) (z:Str) (x9 x10:Option (Bool×D)),(∀j∈js,0<=j/\j<=4)->z.length+js.length<=50->∃(z':Str) (y9 y10:Option (Bool×D)),z'.cps.toList=z.cps.toList++js.map (chr c k at')/\bP (aP (.nm 9)) (evB W eC) (js.map .int) [some (false,.int c),x1,some (false,.str bB),some (false,.str bD),x4,some (false,.int at'),x6,some (false,.int k),some (false,.str z),x9,x10]=.nx [some (false,.int c),x1,some (false,.str bB),some (false,.str bD),x4,some (false,.int at'),x6,some (false,.int k),some (false,.str z'),y9,y10]
 |[],z,x9,x10,_,_=>⟨z,x9,x10,by simp,rfl⟩
 |j::js,z,x9,x10,h,hz=>by
  rw[aST]at hz;have e1:=aPK (W:=W) (c:=c) (k:=k) (at':=at') (x1:=x1) (x4:=x4) (x6:=x6) (x10:=x10) (z:=z) (h j mcs).1 (h j mcs).2 (by lia)
  obtain⟨z2,y9,y10,l2,e2⟩:=aBN (W:=W) (c:=c) (k:=k) (at':=at') (x1:=x1) (x4:=x4) (x6:=x6) js (ap1 z (chr c k at' j)) (some (false,.int j)) (some (false,.int (vj c k at' j))) (λi hi=>h i (mcm hi)) (by rw[aPL];lia)
  refine⟨z2,y9,y10,?_,?_⟩
  . rw[l2];unfold ap1;rw[aBM,aSV,aUO];rfl
  . rw[aSV,fQ (show aP (.nm 9) (.int j) [some (false,.int c),x1,some (false,.str bB),some (false,.str bD),x4,some (false,.int at'),x6,some (false,.int k),some (false,.str z),x9,x10]=some [some (false,.int c),x1,some (false,.str bB),some (false,.str bD),x4,some (false,.int at'),x6,some (false,.int k),some (false,.str z),some (false,.int j),x10]from by simp) e1]
    exact e2
def Nm(z:Str):Prop:=(∃c l,z.cps.toList=c::l/\c∈jE)/\(∀c∈z.cps.toList,c∈gY)/\z.length<=40
theorem aPM{t:Int}(h0:0<=t)(h4:t<4):∀c∈(Txt.slice "a9z" none (some t)).cps.toList,c∈gY:=by
 have:t=0\/t=1\/t=2\/t=3:=by lia
 rcases this with rfl|rfl|rfl|rfl <;> decide +kernel
def aPN(c k at' j:Int):chr c k at' j∈gY:=by
 unfold chr;split
 . exact aPH _ (aBK _)
 . exact aPG _
def chr0(c k at':Int):chr c k at' 0∈jE:=by unfold chr;rw[if_pos rfl];exact aBK _
def aPO{m:Md}{i:Int}(h:g ρ=.ok m' (.int i)):slP (.ok m (.str z)) none (some g) ρ=.ok .fz (.str (Txt.slice z none (some i))):=by unfold slP;rw[Res.thn_ok];show cO none ρ _=_;unfold cO;show(g ρ).thn _=_;rw[h];rfl
def eL(n:Int):List Int:=(List.range n.toNat).map λi:Nat=>(i:Int)
theorem rng5(n:Int)(h0:0<=n)(h5:n<=5):(eL n).length=n.toNat/\(∀j∈eL n,0<=j/\j<=4)/\gK (.ok [(.fz,.int n)])=.ok .fz (.lst ((eL n).map .int)):=by
 unfold eL;refine⟨by simp,λj hj=>?_,?_⟩
 . obtain⟨i,hi,rfl⟩:=aWI.mp hj;rw[aQU]at hi;lia
 . show(if(decide (-(2 ^ 62)<=n)&&decide (n<2 ^ 62))=true then Res.ok .fz (.lst (bZ 0 n))else .stuck)=_;rw[if_pos (by rw[aSJ,aTC,aTC];lia)]
   unfold bZ;rw[aV9,Int.sub_zero];congr 3;funext i;show D.int (0+(i:Int))=D.int i;rw[aWV]
def eD(c n at':Int)(k:Int)(s:Str):Prop:=∃z:Str,s.cps.toList=(eL n).map (chr c k at')++z.cps.toList/\(∀x∈z.cps.toList,x∈gY)/\z.length<=3
theorem eD.nm{c n at' k:Int}{s:Str}(h:eD c n at' k s)(h1:1<=n)(h5:n<=5):Nm s:=by
 obtain⟨z,e,hz,lz⟩:=h;have hj:∃r,eL n=0::r:=by
  unfold eL;obtain⟨m,hm⟩:∃m,n.toNat=m+1:=⟨n.toNat-1,by lia⟩
  rw[hm,List.range_succ_eq_map];exact⟨_,rfl⟩
 have lj:(eL n).length<=5:=by rw[(rng5 n (by lia) h5).1];lia
 obtain⟨r,hr⟩:=hj;refine⟨⟨chr c k at' 0,r.map (chr c k at')++z.cps.toList,by rw[e,hr];rfl,chr0 c k at'⟩,λx hx=>?_,?_⟩
 . rw[e]at hx;rcases aQ0.mp hx with hx|hx
   . obtain⟨j,_,rfl⟩:=aWI.mp hx;exact aPN c k at' j
   . exact hz x hx
 . have:=congrArg List.length e;rw[aR3,aR4]at this;show s.cps.size<=40;rw[<- aQ7,this];have lz:z.cps.toList.length<=3:=by rw[aQ7];exact lz
   lia
theorem eD.apart{c n at':Int}{s:Str}(h0:0<=at')(hn:at'<n)(hi:i<4)(hj:j<4)(h1:eD c n at' i s)(h2:eD c n at' j s):i=j:=by
 obtain⟨z1,e1,_⟩:=h1;obtain⟨z2,e2,_⟩:=h2;rw[e1]at e2;have e3:=(List.append_inj e2 (by simp)).1
 have hm:at'∈eL n:=by unfold eL;exact aWI.mpr ⟨at'.toNat,aQU.mpr (by lia),by lia⟩
 have e4:chr c i at' at'=chr c j at' at':=List.map_inj_left.mp e3 at' hm;unfold chr vj at e4;rw[if_pos rfl,if_pos rfl]at e4;split at e4
 . exact aPI hi hj e4
 . exact aPJ hi hj e4
theorem aPP{W:WD}{c k at' n:Int}{x8 x9 x10:Option (Bool×D)}{ns:List Str}(h0:0<=n)(h5:n<=5)(hk:0<=k)(hk3:k<=3)(hl:ns.length<=10):∃(s:Str) (y8 y9 y10:Option (Bool×D)),eD c n at' k s/\evB W iG [some (false,.int c),x1,some (false,.str bB),some (false,.str bD),some (false,.int n),some (false,.int at'),some (true,.lst (ns.map .str)),some (false,.int k),x8,x9,x10]=.nx [some (false,.int c),x1,some (false,.str bB),some (false,.str bD),some (false,.int n),some (false,.int at'),some (true,.lst ((ns++[s]).map .str)),some (false,.int k),y8,y9,y10]:=by
 obtain⟨lj,hj,er⟩:=rng5 n h0 h5;obtain⟨z,y9,y10,lz,ez⟩:=aBN (W:=W) (c:=c) (k:=k) (at':=at') (x1:=x1) (x4:=some (false,.int n)) (x6:=some (true,.lst (ns.map .str))) (eL n) Str.empty x9 x10 hj (by show 0+_<=_;lia)
 have lz:z.cps.toList=(eL n).map (chr c k at'):=lz;have ll:z.length<=5:=by show z.cps.size<=5;rw[<- aQ7,lz,aR4];lia
 have d5:op2 (bJ .FloorDiv) (.ok .fz (.int c)) (.ok .fz (.int (5+k)))=.ok .fz (.int (c / (5+k))):=z9 (by lia) (by lia)
 have l3:(Txt.slice "a9z" none (some (c / (5+k) % 4))).length<=3:=aTI _ _ _;refine⟨z++Txt.slice "a9z" none (some (c / (5+k) % 4)),some (false,.str z),y9,y10,⟨_,by rw[aBM,lz],aPM (by lia) (by lia),l3⟩,?_⟩
 have sl:slP (.ok .fz (.str "a9z")) none (some (evE W (.bin .Mod (.bin .FloorDiv (.var 0) (.bin .Add (.int 5) (.var 7))) (.int 4)))) [some (false,.int c),x1,some (false,.str bB),some (false,.str bD),some (false,.int n),some (false,.int at'),some (true,.lst (ns.map .str)),some (false,.int k),some (false,.str z),y9,y10]=.ok .fz (.str (Txt.slice "a9z" none (some (c / (5+k) % 4)))):=aPO (m':=.fz) (by
  generalize bB=LL at *;generalize bD=SS at *;simp[d5])
 have a1:op2 (bJ .Add) (.ok .fz (.str z)) (.ok .fz (.str (Txt.slice "a9z" none (some (c / (5+k) % 4)))))=.ok .fz (.str (z++Txt.slice "a9z" none (some (c / (5+k) % 4)))):=kI (by rw[aRK];lia)
 have ap:∀s:Str,dM [some (false,.int c),x1,some (false,.str bB),some (false,.str bD),some (false,.int n),some (false,.int at'),some (true,.lst (ns.map .str)),some (false,.int k),some (false,.str z),y9,y10] 6 (.ok .fz (.str s))=.nx [some (false,.int c),x1,some (false,.str bB),some (false,.str bD),some (false,.int n),some (false,.int at'),some (true,.lst ((ns++[s]).map .str)),some (false,.int k),some (false,.str z),y9,y10]:=λs=>by
  show(if(ns.map D.str).length<sizeLine then _ else _)=_;rw[if_pos (by rw[aR4,aRK];lia),aWT]
  rfl
 have ap:=ap (z++Txt.slice "a9z" none (some (c / (5+k) % 4)));have ez:bP (aP (.nm 9)) (evB W eC) ((eL n).map .int) [some (false,.int c),x1,some (false,.str bB),some (false,.str bD),some (false,.int n),some (false,.int at'),some (true,.lst (ns.map .str)),some (false,.int k),some (false,.str (Str.ofString "")),x9,x10]=_:=ez;unfold iG;generalize eC=B at *;generalize bB=LL at *;generalize bD=SS at *;generalize (z++Txt.slice "a9z" none (some (c / (5+k) % 4)))=ZZ at *;generalize (Txt.slice "a9z" none (some (c / (5+k) % 4)))=Z3 at *;generalize E.bin .Mod (.bin .FloorDiv (.var 0) (.bin .Add (.int 5) (.var 7))) (.int 4)=EE at *;generalize ns.map D.str=X at *;generalize (ns++[ZZ]).map D.str=Y at *;simp[er,dI,ez,sl,a1,ap]
theorem names{k:Nat}(c:Int):∃ns:List Str,ns.length=4/\(∀s∈ns,Nm s)/\ns.Nodup/\(WT TT (k+1)).Φ "_law_names" [.int c,.int 4]=.ok .fr (NM ns):=by
 have n0:0<=1+c % 5:=by lia
 have n5:1+c % 5<=5:=by lia
 have st:∀(ns:List Str) (i:Int) (x8 x9 x10:Option (Bool×D)),0<=i->i<=3->ns.length<=10->∃(s:Str) (y8 y9 y10:Option (Bool×D)),eD c (1+c % 5) (c / 5 % (1+c % 5)) i s/\evB (WT TT k) iG [some (false,.int c),some (false,.int 4),some (false,.str bB),some (false,.str bD),some (false,.int (1+c % 5)),some (false,.int (c / 5 % (1+c % 5))),some (true,.lst (ns.map .str)),some (false,.int i),x8,x9,x10]=.nx [some (false,.int c),some (false,.int 4),some (false,.str bB),some (false,.str bD),some (false,.int (1+c % 5)),some (false,.int (c / 5 % (1+c % 5))),some (true,.lst ((ns++[s]).map .str)),some (false,.int i),y8,y9,y10]:=λns i x8 x9 x10 hi hi3 hl=>aPP n0 n5 hi hi3 hl;obtain⟨s0,a8,a9,a10,q0,e0⟩:=st [] 0 none none none (by decide) (by decide) (by simp)
 obtain⟨s1,b8,b9,b10,q1,e1⟩:=st ([]++[s0]) 1 a8 a9 a10 (by decide) (by decide) (by simp)
 obtain⟨s2,c8,c9,c10,q2,e2⟩:=st ([]++[s0]++[s1]) 2 b8 b9 b10 (by decide) (by decide) (by simp)
 obtain⟨s3,d8,d9,d10,q3,e3⟩:=st ([]++[s0]++[s1]++[s2]) 3 c8 c9 c10 (by decide) (by decide) (by simp)
 have a0':0<=c / 5 % (1+c % 5):=aWW _ (by lia)
 have a1':c / 5 % (1+c % 5)<1+c % 5:=aWX _ (by lia)
 have ap:∀{i j:Nat}{x y:Str},i<4->j<4->i≠j->eD c (1+c % 5) (c / 5 % (1+c % 5)) (i:Int) x->eD c (1+c % 5) (c / 5 % (1+c % 5)) (j:Int) y->x≠y:=λhi hj ne h1 h2 e=>by subst e;exact ne (eD.apart a0' a1' hi hj h1 h2)
 have q0:eD c (1+c % 5) (c / 5 % (1+c % 5)) ((0:Nat):Int) s0:=q0;have q1:eD c (1+c % 5) (c / 5 % (1+c % 5)) ((1:Nat):Int) s1:=q1;have q2:eD c (1+c % 5) (c / 5 % (1+c % 5)) ((2:Nat):Int) s2:=q2;have q3:eD c (1+c % 5) (c / 5 % (1+c % 5)) ((3:Nat):Int) s3:=q3;have n1':1<=1+c % 5:=by lia
 refine⟨[s0,s1,s2,s3],rfl,λs hs=>?_,?_,?_⟩
 . simp only[aQZ,aVB,aT6]at hs;rcases hs with rfl|rfl|rfl|rfl
   . exact q0.nm n1' n5
   . exact q1.nm n1' n5
   . exact q2.nm n1' n5
   . exact q3.nm n1' n5
 . have d01:=ap (by decide) (by decide) (by decide) q0 q1
   have d02:=ap (by decide) (by decide) (by decide) q0 q2
   have d03:=ap (by decide) (by decide) (by decide) q0 q3
   have d12:=ap (by decide) (by decide) (by decide) q1 q2
   have d13:=ap (by decide) (by decide) (by decide) q1 q3
   have d23:=ap (by decide) (by decide) (by decide) q2 q3
   simp[d01,d02,d03,d12,d13,d23]
 have rg:gK (.ok [(.fz,.int 4)])=.ok .fz (.lst [.int 0,.int 1,.int 2,.int 3]):=rfl;have sg:∀(d:D) (L:List D) (x7 x8 x9 x10:Option (Bool×D)),aP (.nm 7) d [some (false,.int c),some (false,.int 4),some (false,.str bB),some (false,.str bD),some (false,.int (1+c % 5)),some (false,.int (c / 5 % (1+c % 5))),some (true,.lst L),x7,x8,x9,x10]=some [some (false,.int c),some (false,.int 4),some (false,.str bB),some (false,.str bD),some (false,.int (1+c % 5)),some (false,.int (c / 5 % (1+c % 5))),some (true,.lst L),some (false,d),x8,x9,x10]:=λd L x7 x8 x9 x10=>rfl;have lp:bP (aP (.nm 7)) (evB (WT TT k) iG) [.int 0,.int 1,.int 2,.int 3] [some (false,.int c),some (false,.int 4),some (false,.str bB),some (false,.str bD),some (false,.int (1+c % 5)),some (false,.int (c / 5 % (1+c % 5))),some (true,.lst []),none,none,none,none]=.nx [some (false,.int c),some (false,.int 4),some (false,.str bB),some (false,.str bD),some (false,.int (1+c % 5)),some (false,.int (c / 5 % (1+c % 5))),some (true,NM [s0,s1,s2,s3]),some (false,.int 3),d8,d9,d10]:=by have e0:evB (WT TT k) iG [some (false,.int c),some (false,.int 4),some (false,.str bB),some (false,.str bD),some (false,.int (1+c % 5)),some (false,.int (c / 5 % (1+c % 5))),some (true,.lst []),some (false,.int 0),none,none,none]=_:=e0;rw[fQ (sg _ _ _ _ _ _) e0,fQ (sg _ _ _ _ _ _) e1,fQ (sg _ _ _ _ _ _) e2,fQ (sg _ _ _ _ _ _) e3];rfl
 have a0:op2 (bJ .Add) (.ok .fz (.str bB)) (.ok .fz (.str "0123456789"))=.ok .fz (.str bD):=kI (by decide +kernel)
 have md:op2 (bJ .Mod) (.ok .fz (.int (c / 5))) (.ok .fz (.int (1+c % 5)))=.ok .fz (.int (c / 5 % (1+c % 5))):=x_mod (by lia)
 have rt:∀{L:D}{x7 x8 x9 x10:Option (Bool×D)},fF [some (false,.int c),some (false,.int 4),some (false,.str bB),some (false,.str bD),some (false,.int (1+c % 5)),some (false,.int (c / 5 % (1+c % 5))),some (true,L),x7,x8,x9,x10] 6=.rt .fr L:=rfl;rw[aON];refine dB rfl ?_;show evB _ pB [some (false,.int c),some (false,.int 4),none,none,none,none,none,none,none,none,none]=_;have bd:pB=[.set 2 (.str bB),.set 3 (.frz (.bin .Add (.var 2) (.str "0123456789"))),.set 4 (.frz (.bin .Add (.int 1) (.bin .Mod (.var 0) (.int 5)))),.set 5 (.frz (.bin .Mod (.bin .FloorDiv (.var 0) (.int 5)) (.var 4))),.set 6 (.lst []),.for (.rng1 (.var 1)) (.nm 7) iG,.retV 6]:=rfl;rw[bd];generalize iG=B at *;generalize bB=LL at *;generalize bD=SS at *;generalize NM [s0,s1,s2,s3]=OUT at *;simp[a0,md,kW,rg,dI,lp,rt]
inductive Sz:N->Prop where
 |i (n:Int):Sz (.i n)
 |s (x:Str):Sz (.s x)
 |t {xs:List N} (h:∀x∈xs,Sz x) (hl:xs.length<1000):Sz (.t xs)
theorem uE{k:D->Rho->Option Rho}{body:Rho->aG}(P:Rho->Prop):∀(ds:List D) (ρ:Rho),P ρ->(∀d∈ds,∀ρ,P ρ->∃ρ1,k d ρ=some ρ1/\P ρ1/\body ρ1=.nx ρ1)->∃ρ',bP k body ds ρ=.nx ρ'/\P ρ'
 |[],ρ,h,_=>⟨ρ,rfl,h⟩
 |d::ds,ρ,h,hs=>by obtain⟨ρ1,e1,h1,e2⟩:=hs d mcs ρ h;obtain⟨ρ',e3,h3⟩:=uE P ds ρ1 h1 λx hx=>hs x (mcm hx);exact⟨ρ',by rw[fQ e1 e2];exact e3,h3⟩
def aPQ(h:i<ks.length):atI (nDL ks) (i:Int)=some (nD ks[i]):=by rw[gR];exact lC (by rw[aR1,aTP h];rfl)
def aPR(ks:List N):(nDL ks).length=ks.length:=by rw[gR,aR4]
theorem aBO{n:Int}(h0:0<=n)(h1:n<1000):gK (.ok [(.fz,.int n)])=.ok .fz (.lst (bZ 0 n)):=by show(if(decide (-(2 ^ 62)<=n)&&decide (n<2 ^ 62))=true then Res.ok .fz (.lst (bZ 0 n))else .stuck)=_;rw[if_pos (by rw[aSJ,aTC,aTC];lia)]
theorem aPS{xs:List N}{m:Nat}(hl:xs.length<1000)(ih:∀x∈xs,(WT TT m).Φ "_law_alike" [nD x,nD x]=.ok .fz (.bl true)):(WT TT (m+1)).Φ "_law_alike" [.tup (nDL xs),.tup (nDL xs)]=.ok .fz (.bl true):=by
 have ln:eT [(.fz,.tup (nDL xs))]=some (.fz,.int xs.length):=by show some (Md.fz,D.int ((nDL xs).length:Nat))=_;rw[aPR]
 have rg:=aBO (n:=(xs.length:Int)) (by lia) (by lia)
 obtain⟨ρ',e1,x,rfl⟩:=uE (k:=aP (.nm 2)) (body:=evB (WT TT m) gX) (λρ=>∃x,ρ=[some (false,.tup (nDL xs)),some (false,.tup (nDL xs)),x]) (bZ 0 xs.length) [some (false,.tup (nDL xs)),some (false,.tup (nDL xs)),none] ⟨none,rfl⟩ (λd hd ρ hρ=>by
  obtain⟨x,rfl⟩:=hρ;unfold bZ at hd;obtain⟨j,hj,rfl⟩:=aWI.mp hd;rw[aQU]at hj;have hj:j<xs.length:=by lia
  rw[aWV];refine⟨[some (false,.tup (nDL xs)),some (false,.tup (nDL xs)),some (false,.int j)],rfl,⟨_,rfl⟩,?_⟩;have ix:op2 ixD (.ok .fz (.tup (nDL xs))) (.ok .fz (.int (j:Int)))=.ok .fz (nD xs[j]):=nA (aPQ hj);have al:=fO (ih xs[j] (aUD hj));generalize D.tup (nDL xs)=A at *;generalize nD xs[j]=B at *;simp[gX,ix,al])
 have i2:cL [(.fz,.tup (nDL xs)),(.fz,.ty "bool")]=some (.fz,.bl false):=rfl;have i3:cL [(.fz,.tup (nDL xs)),(.fz,.ty "int")]=some (.fz,.bl false):=rfl;have i4:cL [(.fz,.tup (nDL xs)),(.fz,.ty "str")]=some (.fz,.bl false):=rfl;have i5:cL [(.fz,.tup (nDL xs)),(.fz,.ty "tuple")]=some (.fz,.bl true):=rfl;have nn:dL (.tup (nDL xs))=false:=rfl;generalize bZ 0 xs.length=RG at *;generalize (xs.length:Int)=LN at *;rw[pF];refine dB rfl ?_;show evB _ bL [some (false,.tup (nDL xs)),some (false,.tup (nDL xs)),none]=_;have split:bL=bL.take 4++((bL.drop 4).take 1++bL.drop 5):=rfl;rw[split,iE];have p1:evB (WT TT m) (bL.take 4) [some (false,.tup (nDL xs)),some (false,.tup (nDL xs)),none]=.nx [some (false,.tup (nDL xs)),some (false,.tup (nDL xs)),none]:=by
  clear e1 rg ln i5
  generalize D.tup (nDL xs)=A at *;simp[bL,i2,i3,i4,Ty.id,nn]
 have p2:evB (WT TT m) ((bL.drop 4).take 1) [some (false,.tup (nDL xs)),some (false,.tup (nDL xs)),none]=.nx [some (false,.tup (nDL xs)),some (false,.tup (nDL xs)),none]:=by
  clear e1 rg i2 i3 i4 nn
  generalize D.tup (nDL xs)=A at *;simp[bL,i5,Ty.id,ln]
 have p3:evB (WT TT m) (bL.drop 5) [some (false,.tup (nDL xs)),some (false,.tup (nDL xs)),none]=.rt .fz (.bl true):=by
  clear i2 i3 i4 i5 nn p1 p2
  show evB (WT TT m) [.for (.rng1 (.bcall .len [(.var 1)])) (.nm 2) gX,.ret (.bl true)] _=_;generalize gX=LB at *;generalize D.tup (nDL xs)=A at *;simp[ln,rg,dI,e1]
 rw[p1,aG.thn_nx,iE,p2,aG.thn_nx,p3]
def aPT{n:Int}{m:Nat}:(WT TT (m+1)).Φ "_law_alike" [.int n,.int n]=.ok .fz (.bl true):=by rw[pF];refine dB rfl ?_;show evB _ bL [some (false,.int n),some (false,.int n),none]=_;have i2:cL [(.fz,.int n),(.fz,.ty "bool")]=some (.fz,.bl false):=rfl;have i3:cL [(.fz,.int n),(.fz,.ty "int")]=some (.fz,.bl true):=rfl;have nn:dL (.int n)=false:=rfl;simp[bL,i2,i3,Ty.id,nn]
def pP{m:Nat}:(WT TT (m+1)).Φ "_law_alike" [.str x,.str x]=.ok .fz (.bl true):=by rw[pF];refine dB rfl ?_;show evB _ bL [some (false,.str x),some (false,.str x),none]=_;have i2:cL [(.fz,.str x),(.fz,.ty "bool")]=some (.fz,.bl false):=rfl;have i3:cL [(.fz,.str x),(.fz,.ty "int")]=some (.fz,.bl false):=rfl;have i4:cL [(.fz,.str x),(.fz,.ty "str")]=some (.fz,.bl true):=rfl;have nn:dL (.str x)=false:=rfl;simp[bL,i2,i3,i4,Ty.id,nn]
theorem alike{k:N}(h:Sz k):∀{m:Nat},k.dp<m->(WT TT m).Φ "_law_alike" [nD k,nD k]=.ok .fz (.bl true):=by
 induction h with
 |i n =>
  intro m hm;cases m with|zero=>lia|succ m=>?_
  rw[nD];exact aPT
 |s x =>
  intro m hm;cases m with|zero=>lia|succ m=>?_
  rw[nD];exact pP
 | @t xs h hl ih =>
  intro m hm;cases m with|zero=>lia|succ m=>?_
  rw[N.dp]at hm;rw[nD];exact aPS hl λx hx=>ih x hx (by have:=N.dp_mem hx;lia)
def ce(ns:List Int)(i:Int):Int:=if 0<=i then(ns[i.toNat]?).getD 0 else 0
theorem cell(k:Nat)(ns:List Int){i:Int}(h0:0<=i):(WT TT (k+1)).Φ "_law_cell_at" [.lst (ns.map .int),.int i]=.ok .fz (.int (ce ns i)):=by
 rw[aOM];refine dB rfl ?_;show evB _ mZ [some (false,.lst (ns.map .int)),some (false,.int i)]=_;obtain⟨j,rfl⟩:=aWY h0;unfold ce;rw[if_pos h0];by_cases h:j<ns.length
 . have hx:op2 ixD (.ok .fz (.lst (ns.map .int))) (.ok .fz (.int j))=.ok .fz (.int ns[j]):=kU (lC (by rw[aR1,aTP h];rfl))
   have h':((j:Int)<(ns.length:Int)):=by lia
   simp[mZ,h',hx,h]
 . have h':¬ ((j:Int)<(ns.length:Int)):=by lia
   simp[mZ,h',aU4 (Nat.le_of_not_lt h)]
def cellC(k:Nat)(ns:List Int){i:Int}(h0:0<=i):bI 2 ((WT TT (k+1)).Φ "_law_cell_at") (.ok [(.fz,.lst (ns.map .int)),(.fz,.int i)])=.ok .fz (.int (ce ns i)):=fO (cell k ns h0)
theorem aPU{ns:List Int}:∃cs:List Int,cs.length<=ns.length/\D3.fL (ns.map .int) lo hi=cs.map .int:=by unfold D3.fL;rw[<- List.map_drop,<- List.map_take];exact⟨_,by rw[aRW,aSD];lia,rfl⟩
def aPV{m m1 m2:Md}{g1 g2:Rho->Res}{i j:Int}(h1:g1 ρ=.ok m1 (.int i))(h2:g2 ρ=.ok m2 (.int j)):slP (.ok m (.lst ds)) (some g1) (some g2) ρ=.ok .fr (.lst (D3.fL ds (some i) (some j))):=by unfold slP;rw[Res.thn_ok];show cO (some g1) ρ _=_;unfold cO;show(g1 ρ).thn _=_;rw[h1];show(g2 ρ).thn _=_;rw[h2];rfl
def aBP{xs:List (Md×D)}{d:D}(hl:ds.length=n)(ha:cP xs=some ds)(h:Φ ds=.ok .fr d):bI n Φ (.ok xs)=.ok .fr d:=by
 show(match cP xs with|some ds=>if ds.length=n then(match Φ ds with|.ok .bo _=>Res.stuck|r=>r)else .stuck|none=>.stuck)=_
 rw[ha];show(if ds.length=n then _ else _)=_;rw[if_pos hl,h]
def aPW{a b d:D}(h:Φ [a,b]=.ok .fr d):bI 2 Φ (.ok [(.fz,a),(.fz,b)])=.ok .fr d:=aBP (ds:=[a,b]) rfl rfl h
abbrev rN(ts:List Tr):N:=.t (ts.map tmN)
def big:Int:=100000000000000000000000000000000000000000000000000
def VF(nms:List Str)(f:N):Prop:=∃xs:List Str,f=F xs/\(∀x∈xs,x∈nms)/\xs.length<=3
def VB(nms:List Str):Nat->N->Prop
 |0,b=>b=.t []
 |j+1,b=>∃tss:List (List Tr),b=.t (tss.map rN)/\tss.length<=2/\∀ts∈tss,ts≠[]/\ts.length<=2/\∀t∈ts,VF nms t.1.1/\VB nms j t.1.2/\1<=t.2/\t.2<big
def VT(nms:List Str)(j:Nat)(t:Tr):Prop:=VF nms t.1.1/\VB nms j t.1.2/\1<=t.2/\t.2<big
def VR(nms:List Str)(j:Nat)(ts:List Tr):Prop:=ts.length<=2/\∀t∈ts,VT nms j t
def RV(nms:List Str)(j:Nat)(r:Rw):Prop:=r.1.length<=3/\(∀x∈r.1,x∈nms)/\VB nms j r.2.1/\1<=r.2.2/\r.2.2<=fD
theorem sml{i:Int}(h:i<=10):i<big:=by
 have:(10:Int)<big:=by decide
 lia
theorem uF{i:Int}(h:i<=10):i<=fD:=by
 have:(10:Int)<fD:=by decide
 lia
theorem VF.isF{f:N}(h:VF nms f):isF f:=by obtain⟨xs,rfl,_,l⟩:=h;exact⟨xs,rfl,by lia⟩
theorem VB.isBs{nms:List Str}:∀{j:Nat}{b:N},VB nms j b->isBs j b
 |0,b,h=>h
 |j+1,b,h=>by
  obtain⟨tss,rfl,l,h⟩:=h;refine⟨_,rfl,by rw[aR4];lia,λr hr=>?_⟩
  obtain⟨ts,hts,rfl⟩:=aWI.mp hr;obtain⟨_,l2,q⟩:=h ts hts;exact⟨ts,rfl,by lia,λt ht=>⟨(q t ht).1.isF,VB.isBs (q t ht).2.1⟩⟩
theorem aBQ:∀{p:List Tr}{k:Ky}{M:Int},0<=M->(∀t∈p,1<=t.2/\t.2<=M)->0<=bW p k/\bW p k<=p.length * M/\(Has p k->1<=bW p k)
 |[],k,M,_,_=>⟨Int.le_refl 0,by simp[bW],λh=>by obtain⟨t,m,_⟩:=h;cases m⟩
 |t::p,k,M,hM,h=>by
  obtain⟨a,b,c⟩:=aBQ (p:=p) (k:=k) hM λx hx=>h x (mcm hx);have ht:=h t mcs;have e:bW (t::p) k=(if t.1=k then t.2 else 0)+bW p k:=rfl;have l:(((t::p).length:Nat):Int) * M=(p.length:Int) * M+M:=by rw[aST,Int.natCast_add,Int.add_mul];simp
  rw[e,l];by_cases q:t.1=k
  . rw[if_pos q];exact⟨by lia,by lia,λ_=>by lia⟩
  . rw[if_neg q];refine⟨by lia,by lia,λhk=>?_⟩
    have:Has p k:=by
     obtain⟨u,m,eu⟩:=hk;rcases aQZ.mp m with rfl|m
     . exact absurd eu q
     . exact⟨u,m,eu⟩
    have:=c this;lia
def RV.vf{r:Rw}(h:RV nms j r):VF nms (tr r).1.1:=⟨aX r.1,rfl,λx hx=>h.2.1 x ((fZ r.1).mem_iff.mp hx),by rw[uD];exact h.1⟩
theorem aBR{rs:List Rw}(h:∀r∈rs,RV nms j r)(hl:rs.length<64):∀t∈bA (rs.map tr),VT nms j t:=λt ht=>by
 have hh:=((m8 (rs.map tr)).1 t.1 t.2).mp ht;obtain⟨_,b,c⟩:=aBQ (p:=rs.map tr) (k:=t.1) (M:=fD) (by decide) λu hu=>by obtain⟨r,hr,rfl⟩:=aWI.mp hu;exact(h r hr).2.2.2
 obtain⟨u,hu,eu⟩:=hh.1;obtain⟨r,hr,rfl⟩:=aWI.mp hu;refine⟨by rw[<- eu];exact(h r hr).vf,by rw[<- eu];exact(h r hr).2.2.1,by rw[hh.2];exact c hh.1,?_⟩
 rw[hh.2];rw[aR4]at b;have h1:(rs.length:Int) * fD<=63 * fD:=Int.mul_le_mul_of_nonneg_right (by lia) (by decide)
 have h2:63 * fD<big:=by decide
 exact Int.lt_of_le_of_lt (Int.le_trans b h1) h2
def VR.one{t:Tr}(h:VT nms j t):VR nms j [t]:=⟨by simp,λu hu=>by cases aT2.mp hu;exact h⟩
theorem VR.isRs{ts:List Tr}(h:VR nms 1 ts)(h0:ts≠[]):isRs ts:=⟨⟨h0,aWL h.1 (by decide)⟩,λt ht=>⟨(h.2 t ht).1.isF,VB.isBs (h.2 t ht).2.1⟩⟩
def kY:∀(j:Nat),VB nms j (.t [])
 |0=>rfl
 |j+1=>⟨[],rfl,by simp,λts hts=>nomatch hts⟩
def aBS{ts:List Tr}(h:VR nms j ts)(h0:ts≠[]):VB nms (j+1) (.t [rN ts]):=⟨[ts],rfl,by simp,λus hus=>by cases aT2.mp hus;exact⟨h0,h.1,h.2⟩⟩
def kZ(hn:nms.length=4)(v:Int):∃s:Str,s∈nms/\∀m m':Md,op2 ixD (.ok m (NM nms)) (.ok m' (.int (v % 4)))=.ok .fz (.str s):=by
 obtain⟨d,hd,e⟩:=aPB (nms.map D.str) v 4 (by simp[hn]) (by decide)
 obtain⟨s,hs,rfl⟩:=aWI.mp hd;exact⟨s,hs,λm m'=>kU e⟩
def F1{s:Str}(h:s∈nms):VF nms (F [s]):=⟨[s],rfl,by simpa using h,by simp⟩
theorem barV{k:Nat}(hn:nms.length=4)(c:Int):∃ts:List Tr,(VR nms 1 ts/\ts≠[])/\(WT TT (k+2)).Φ "_law_bar" [.int c,NM nms]=.ok .fz (nD (.t (ts.map tmN))):=by
 obtain⟨s,ns,hs⟩:=kZ hn c;obtain⟨s1,ns1,h1⟩:=kZ hn (c / 48);obtain⟨s2,ns2,h2⟩:=kZ hn (c / 192);have one:∀(b:N),VB nms 1 b->∀n,1<=n->n<big->VR nms 1 [((F [s],b),n)]/\[((F [s],b),n)]≠([]:List Tr):=λb hb n hn hb2=>⟨VR.one ⟨F1 ns,hb,hn,hb2⟩,by simp⟩
 have cC:∀{d:D},evB (WT TT (k+1)) jC [some (false,.int c),some (false,NM nms),none]=.rt .fz d->(WT TT (k+2)).Φ "_law_bar" [.int c,NM nms]=.ok .fz d:=λ{d} h=>by rw[aOP];exact dB rfl h
 have way:c / 12 % 4=0\/c / 12 % 4=1\/c / 12 % 4=2\/c / 12 % 4=3:=by lia
 rcases way with w|w|w|w
 . refine⟨_,one (.t []) (kY 1) (1+c / 4 % 3) (by lia) (sml (by lia)),cC ?_⟩
   rw[pL];dsimp only;rw[uA,kX];generalize NM nms=M at *;simp[jC,hs,gB,nB,jD,w]
 . have rs:∀r∈([([s],.t [],1+c / 4 % 3),([s1,s2],.t [],1)]:List Rw),r.1.length<64/\isK 2 (tr r).1:=λr hr=>by
     simp only[aQZ,aVB,aT6]at hr;rcases hr with rfl|rfl
     . exact⟨by simp,uB (by simp) (t0 bs0)⟩
     . exact⟨by simp,uB (by simp) (t0 bs0)⟩
   have nr:=kJ (aBG (k:=k) rs (by simp))
   obtain⟨S,p,e⟩:=aBH (ts:=bA (([([s],.t [],1+c / 4 % 3),([s1,s2],.t [],1)]:List Rw).map tr));have rv:∀r∈([([s],.t [],1+c / 4 % 3),([s1,s2],.t [],1)]:List Rw),RV nms 1 r:=λr hr=>by
    simp only[aQZ,aVB,aT6]at hr;rcases hr with rfl|rfl
    . exact⟨by simp,by simpa using ns,kY 1,by show(1:Int)<=1+c / 4 % 3;lia,uF (by show 1+c / 4 % 3<=10;lia)⟩
    . exact⟨by simp,by simpa using⟨ns1,ns2⟩,kY 1,Int.le_refl 1,uF (by show(1:Int)<=10;decide)⟩
   refine⟨S,⟨⟨?_,λt ht=>aBR rv (by simp) t (p.mem_iff.mp ht)⟩,λz=>?_⟩,cC ?_⟩
   . have:=t9 (([([s],.t [],1+c / 4 % 3),([s1,s2],.t [],1)]:List Rw).map tr);rw[p.length_eq];rw[aR4]at this;exact this
   . subst z;have hh:=(tQ (m8 (([([s],.t [],1+c / 4 % 3),([s1,s2],.t [],1)]:List Rw).map tr)).1 (tr ([s],.t [],1+c / 4 % 3)).1).mpr ⟨_,mcs,rfl⟩;obtain⟨u,hu,_⟩:=hh;exact nomatch p.mem_iff.mpr hu
   . have eS:nf (([([s],.t [],1+c / 4 % 3),([s1,s2],.t [],1)]:List Rw).map tr)=nD (.t (S.map tmN)):=by unfold nf;rw[<- e,nD]
     rw[eS]at nr;have l2:iO (.ok [(.fz,.tup [.tup [.str s],.tup [],.int (1+c / 4 % 3)]),(.fz,.tup [.tup [.str s1,.str s2],.tup [],.int 1])])=.ok .fr (.lst (([([s],.t [],1+c / 4 % 3),([s1,s2],.t [],1)]:List Rw).map enc)):=by show Res.ok .fr (.lst [_,_])=.ok .fr (.lst [enc _,enc _]);simp only[enc,kX];rfl
     generalize (([([s],.t [],1+c / 4 % 3),([s1,s2],.t [],1)]:List Rw).map enc)=LL at *;generalize NM nms=M at *;generalize nD (.t (S.map tmN))=RR at *;simp[jC,hs,h1,h2,gB,nB,tup2,jD,w,l2,nr]
 . refine⟨[((F [],.t []),1+c / 48 % 3)],⟨VR.one ⟨⟨[],rfl,(λx hx=>nomatch hx),by simp⟩,kY 1,by show(1:Int)<=1+c / 48 % 3;lia,sml (by show 1+c / 48 % 3<=10;lia)⟩,by simp⟩,cC ?_⟩
   rw[pL];dsimp only;rw[F_nil,kX];generalize NM nms=M at *;simp[jC,hs,gB,nB,jD,w]
 . refine⟨_,one (.t [.t (([((F [s1],.t []),1)]:List Tr).map tmN)]) (aBS (j:=0) (ts:=([((F [s1],.t []),1)]:List Tr)) (VR.one ⟨F1 ns1,kY 0,Int.le_refl 1,sml (by show(1:Int)<=10;decide)⟩) (by simp)) (1+c / 4 % 3) (by lia) (sml (by lia)),cC ?_⟩
   rw[pL];dsimp only;have e2:nD (.t [.t ([((F [s1],.t []),(1:Int))].map tmN)])=.tup [.tup [.tup [.tup [.str s1],.tup [],.int 1]]]:=by rw[nD,nDL,pL,nDL];dsimp only;rw[uA,kX]
   rw[uA,e2];generalize NM nms=M at *;simp[jC,hs,h1,gB,nB,jD,w,ix3_0,ix3_2]
theorem aPX{k:Nat}(hn:nms.length=4)(c:Int)(ρ:Rho)(h0:ρ[0]? = some (some (false,.int c)))(h1:ρ[1]? = some (some (false,NM nms))):∃xs:List Str,xs.length<=3/\(∀x∈xs,x∈nms)/\dX (gK (.ok [(.fz,.int (c / 64 % 4))])) ρ [1,0] 1 (aP (.nm 2)) (λρ=>evF (WT TT k) [] ρ) (λρ=>evE (WT TT k) (.ix (.var 0) (.bin .Mod (.bin .FloorDiv (.var 1) (.ix (.lst [(.int 1),(.int 4),(.int 16)]) (.var 2))) (.int 4))) ρ)=.ok .fr (.lst (xs.map .str)):=by
 have hr:gK (.ok [(.fz,.int (c / 64 % 4))])=.ok .fz (.lst (bZ 0 (c / 64 % 4))):=by show(if(decide (-(2 ^ 62)<=c / 64 % 4)&&decide (c / 64 % 4<2 ^ 62))=true then Res.ok .fz (.lst (bZ 0 (c / 64 % 4)))else .stuck)=_;rw[if_pos (by rw[aSJ,aTC,aTC];lia)]
 have hsub:cW [1,0] ρ=[some (false,NM nms),some (false,.int c)]:=by simp[cW,h0,h1]
 rw[hr];have len:(bZ 0 (c / 64 % 4)).length<=3:=by simp[bZ];lia
 obtain⟨xs,e,l,hx⟩:=aBJ (ρ:=ρ) (aE:=[1,0]) (n:=1) (k:=aP (.nm 2)) (t:=λρ=>evF (WT TT k) [] ρ) (e:=λρ=>evE (WT TT k) (.ix (.var 0) (.bin .Mod (.bin .FloorDiv (.var 1) (.ix (.lst [(.int 1),(.int 4),(.int 16)]) (.var 2))) (.int 4))) ρ) (m:=.fz) (ds:=bZ 0 (c / 64 % 4)) (λs:Str=>s∈nms) D.str (by rw[aRK];lia) (λd hd=>by
  unfold bZ at hd;obtain⟨j,hj,rfl⟩:=aWI.mp hd;rw[aQU]at hj;have hj3:j=0\/j=1\/j=2:=by lia
  have l3:∀{m:Md},iO (.ok [(.fz,.int 1),(.fz,.int 4),(.fz,.int 16)])=.ok .fr (.lst [.int 1,.int 4,.int 16]):=λ{m}=>rfl;rw[hsub];have i0:op2 ixD (.ok .fr (.lst [.int 1,.int 4,.int 16])) (.ok .fz (.int 0))=.ok .fz (.int 1):=kU rfl;have i1:op2 ixD (.ok .fr (.lst [.int 1,.int 4,.int 16])) (.ok .fz (.int 1))=.ok .fz (.int 4):=kU rfl;have i2:op2 ixD (.ok .fr (.lst [.int 1,.int 4,.int 16])) (.ok .fz (.int 2))=.ok .fz (.int 16):=kU rfl;rcases hj3 with rfl|rfl|rfl
  . obtain⟨s,qs,hs⟩:=kZ hn (c / 1);have hs:=hs .fz .fz;refine⟨[some (false,NM nms),some (false,.int c),some (false,.int 0)],.fz,s,.fz,by simp,by simp,?_,qs⟩
    generalize NM nms=M at *;simp at hs;simp[l3 (m:=.fz),i0,hs]
  . obtain⟨s,qs,hs⟩:=kZ hn (c / 4);have hs:=hs .fz .fz;refine⟨[some (false,NM nms),some (false,.int c),some (false,.int 1)],.fz,s,.fz,by simp,by simp,?_,qs⟩
    generalize NM nms=M at *;simp[l3 (m:=.fz),i1,hs]
  . obtain⟨s,qs,hs⟩:=kZ hn (c / 16);have hs:=hs .fz .fz;refine⟨[some (false,NM nms),some (false,.int c),some (false,.int 2)],.fz,s,.fz,by simp,by simp,?_,qs⟩
    generalize NM nms=M at *;simp[l3 (m:=.fz),i2,hs])
 exact⟨xs,by lia,hx,e⟩
def aPY{ts us:List Tr}{m:Md}(h1:VR nms 1 ts)(z1:ts≠[])(h2:VR nms 1 us)(z2:us≠[]):∃b:N,VB nms 2 b/\eR fK (dH (f8 (.ok m (.lst [nD (.t (ts.map tmN)),nD (.t (us.map tmN))]))) (.ok []))=.ok .fz (nD b):=by
 have r1:=h1.isRs z1;have r2:=h2.isRs z2;have two:∀{r},r∈[N.t (ts.map tmN),.t (us.map tmN)]->∃vs:List Tr,isRs vs/\r=.t (vs.map tmN):=λ{r} hr=>by
  simp only[aQZ,aVB,aT6]at hr;rcases hr with rfl|rfl
  . exact⟨ts,r1,rfl⟩
  . exact⟨us,r2,rfl⟩
 have ok:okS [.t (ts.map tmN),.t (us.map tmN)]=true:=by
  unfold okS;simp only[aSJ,aTE,aTC];rw[aV8,aV8,aV8];refine⟨⟨⟨λk hk=>?_,.inr λr hr=>?_⟩,λx hx=>aV8.mpr λy hy=>?_⟩,aQR (by decide:2<64) rJ⟩
  . obtain⟨vs,h,rfl⟩:=two hk;exact aSS (aQW (uC h.2) (by decide))
  . obtain⟨vs,h,rfl⟩:=two hr;exact aPC h
  . obtain⟨vs,h,rfl⟩:=two hx;obtain⟨ws,h',rfl⟩:=two hy;exact ok_R h h'
 have e:f8 (.ok m (.lst [nD (.t (ts.map tmN)),nD (.t (us.map tmN))]))=.ok .fr (.lst (nDL (D3.two (.t (ts.map tmN)) (.t (us.map tmN))))):=by
  show(match cR (nD (.t (ts.map tmN))),cR (nD (.t (us.map tmN)))with|some k1,some k2=>if okS [k1,k2]=true then Res.ok .fr (.lst (nDL (D3.two k1 k2)))else .stuck|_,_=>.stuck)=_
  rw[tU (uC r1.2),tU (uC r2.2)];dsimp only;rw[if_pos ok]
 have fin:∀rs:List (List Tr),rs.map rN=D3.two (.t (ts.map tmN)) (.t (us.map tmN))->rs.length<=2->(∀x∈rs,x=ts\/x=us)->∃b:N,VB nms 2 b/\eR fK (dH (f8 (.ok m (.lst [nD (.t (ts.map tmN)),nD (.t (us.map tmN))]))) (.ok []))=.ok .fz (nD b):=λrs er l hm=>by
  refine⟨.t (rs.map rN),⟨rs,rfl,l,λx hx=>?_⟩,?_⟩
  . rcases hm x hx with rfl|rfl
    . exact⟨z1,h1.1,h1.2⟩
    . exact⟨z2,h2.1,h2.2⟩
  . rw[e,nD,er];rfl
 by_cases c:N.t (us.map tmN)=.t (ts.map tmN)
 . exact fin [ts] (by unfold D3.two;rw[if_pos c];rfl) (by simp) (λx hx=>.inl (aT2.mp hx))
 . have st:D3.two (.t (ts.map tmN)) (.t (us.map tmN))=cY [.t (ts.map tmN),.t (us.map tmN)]:=by unfold D3.two;rw[if_neg c]
   obtain⟨rs,p,er⟩:=j7 (l7 ([ts,us].map rN));exact fin rs (by rw[st];exact er.symm) (by rw[p.length_eq];simp) λx hx=>by simpa using p.mem_iff.mp hx
theorem termV{k:Nat}(hn:nms.length=4)(c:Int):∃r:Rw,(RV nms 2 r/\aX r.1=r.1)/\(WT TT (k+3)).Φ "_law_term" [.int c,NM nms]=.ok .fz (enc r):=by
 obtain⟨xs,lx,nx,hx⟩:=aPX (k:=k+2) hn c [some (false,.int c),some (false,NM nms),none,none,none] rfl rfl;obtain⟨ts,⟨v1,z1⟩,b1⟩:=barV (k:=k) hn (c / 768);have h1:=v1.isRs z1;obtain⟨us,⟨v2,z2⟩,b2⟩:=barV (k:=k) hn (c / 9216);have h2:=v2.isRs z2;obtain⟨b,hb,eb⟩:=aPY (m:=.fr) v1 z1 v2 z2;have b1:=fO b1;have b2:=fO b2;have s1:gT [(.fz,.lst (xs.map D.str))]=some (.fr,.lst ((aX xs).map .str)):=aBC rfl (by lia)
 have s2:fK [(.fr,.lst ((aX xs).map D.str))]=some (.fz,.tup ((aX xs).map .str)):=rfl;have cC:∀{d:D},evB (WT TT (k+2)) dC [some (false,.int c),some (false,NM nms),none,none,none]=.rt .fz d->(WT TT (k+3)).Φ "_law_term" [.int c,NM nms]=.ok .fz d:=λ{d} h=>by rw[aOQ];exact dB rfl h
 have l2:∀{x y:D},iO (.ok [(.fz,x),(.fz,y)])=.ok .fr (.lst [x,y]):=rfl;have bars:∃b:N,VB nms 2 b/\evB (WT TT (k+2)) (dC.drop 1 |>.take 3) [some (false,.int c),some (false,NM nms),some (false,.lst (xs.map .str)),none,none]=.nx [some (false,.int c),some (false,NM nms),some (false,.lst (xs.map .str)),some (false,nD b),none]:=by
  have way:c / 256 % 3=0\/c / 256 % 3=1\/c / 256 % 3=2:=by lia
  have bn:VB nms 2 (.t []):=kY 2;generalize xs.map D.str=X at *;generalize NM nms=M at *;rcases way with w|w|w
  . refine⟨.t [],bn,?_⟩;rw[kX];simp[dC,gB,w]
  . refine⟨.t [.t (ts.map tmN)],aBS v1 z1,?_⟩;have e:nD (.t [.t (ts.map tmN)])=.tup [nD (.t (ts.map tmN))]:=by rw[nD,nDL,nDL]
    rw[e];generalize nD (.t (ts.map tmN))=R1 at *;simp[dC,gB,nB,w,b1]
  . refine⟨b,hb,?_⟩;generalize nD (.t (ts.map tmN))=R1 at *;generalize nD (.t (us.map tmN))=R2 at *;generalize nD b=BB at *;simp[dC,gB,w,b1,b2,l2,Ty.f,eb]
 obtain⟨b',hb',eb'⟩:=bars;have times:∃n:Int,(1<=n/\n<=fD)/\evB (WT TT (k+2)) (dC.drop 4) [some (false,.int c),some (false,NM nms),some (false,.lst (xs.map .str)),some (false,nD b'),none]=.rt .fz (.tup [.tup ((aX xs).map .str),nD b',.int n]):=by
  generalize xs.map D.str=X at *;generalize (aX xs).map D.str=Y at *;generalize NM nms=M at *;generalize nD b'=BB at *;by_cases w:c % 5=2
  . refine⟨1+c / 7 % fD,⟨by have:=aWW (c / 7) (show fD≠0 by decide);lia,by have:=aWX (c / 7) z40;lia⟩,?_⟩
    simp[dC,w,pow40,z40,s1,s2,Ty.f,jD]
  . refine⟨1+c / 768 % 3,⟨by lia,uF (by lia)⟩,?_⟩
    have w:(c % 5==2)=false:=by simpa using w
    simp[dC,w,s1,s2,Ty.f,jD]
 obtain⟨n,n1,en⟩:=times;refine⟨(aX xs,b',n),⟨⟨by rw[uD];exact lx,λx hx=>nx x ((fZ xs).mem_iff.mp hx),hb',n1⟩,aPD xs⟩,cC ?_⟩
 have split:dC=dC.take 1++((dC.drop 1).take 3++dC.drop 4):=rfl;rw[split,iE];have first:evB (WT TT (k+2)) (dC.take 1) [some (false,.int c),some (false,NM nms),none,none,none]=.nx [some (false,.int c),some (false,NM nms),some (false,.lst (xs.map .str)),none,none]:=by generalize xs.map D.str=X at *;generalize NM nms=M at *;simp at hx;simp[dC,hx]
 rw[first,aG.thn_nx,iE,eb',aG.thn_nx,en]
 rfl
theorem aPZ{k:Nat}(hn:nms.length=4)(cs:List Int)(hl:cs.length<64):∃S:List Tr,S.length<64/\(∀t∈S,VT nms 2 t)/\(WT TT (k+4)).Φ "_law_reason" [.lst (cs.map .int),NM nms]=.ok .fz (.tup (S.map tD)):=by
 obtain⟨rs,e,l,g⟩:=aBJ (ρ:=[some (false,.lst (cs.map .int)),some (false,NM nms)]) (aE:=[1]) (n:=1) (k:=aP (.nm 1)) (t:=λρ=>evF (WT TT (k+3)) [] ρ) (e:=λρ=>evE (WT TT (k+3)) (.call "_law_term" 2 [(.var 1),(.var 0)]) ρ) (m:=.fz) (ds:=cs.map .int) (λr=>RV nms 2 r/\aX r.1=r.1) enc (by rw[aR4,aRK];lia) (λd hd=>by
  obtain⟨c,_,rfl⟩:=aWI.mp hd;obtain⟨r,gr,er⟩:=termV (k:=k) hn c;have er:=fO er;refine⟨[some (false,NM nms),some (false,.int c)],.fz,r,.fz,rfl,by simp,?_,gr⟩
  generalize NM nms=M at *;simp[er])
 rw[aR4]at l;obtain⟨S,p,eS⟩:=aBH (ts:=bA (rs.map tr));refine⟨S,?_,λt ht=>aBR (λr hr=>(g r hr).1) (by lia) t (p.mem_iff.mp ht),?_⟩
 . have:=t9 (rs.map tr);rw[aR4]at this;rw[p.length_eq];lia
 have nr:=kJ (aBG (k:=k+2) (rs:=rs) (λr hr=>⟨aWL (g r hr).1.1 (by decide),uB (aWL (g r hr).1.1 (by decide)) (VB.isBs (g r hr).1.2.2.1)⟩) (by lia))
 have ef:nf (rs.map tr)=.tup (S.map tD):=by unfold nf;rw[<- eS,t4]
 rw[ef]at nr;rw[aOR];refine dB rfl ?_;show evB _ pD [some (false,.lst (cs.map .int)),some (false,NM nms)]=_;simp at e;generalize S.map tD=SD at *;generalize NM nms=M at *;generalize cs.map D.int=C at *;generalize rs.map enc=RE at *;simp[pD,e,nr]
inductive bO{α β:Type}(P:α->β->Prop):List α->List β->Prop
 |nil:bO P [] []
 |cons {a b as bs:_}:P a b->bO P as bs->bO P (a::as) (b::bs)
theorem bO.of{α β:Type}{P:α->β->Prop}:∀{as:List α},(∀a∈as,∃b,P a b)->∃bs,bO P as bs
 |[],_=>⟨[],.nil⟩
 |a::as,h=>by obtain⟨b,hb⟩:=h a mcs;obtain⟨bs,hbs⟩:=bO.of λx hx=>h x (mcm hx);exact⟨b::bs,.cons hb hbs⟩
def bO.len{P:α->β->Prop}{as:List α}{bs:List β}(h:bO P as bs):as.length=bs.length:=by
 induction h with
 |nil=>rfl
 |cons _ _ ih=>simp[ih]
abbrev rD(ts:List Tr):D:=.tup (ts.map tD)
def wr(z:Str):Str:=(("!(":Str)++z)++(")":Str)
def aBT(z:Str):Str.empty++z=z:=by cases z;show Str.mk _=_;simp[Str.empty]
theorem aP0(z:Str):(wr z).length=z.length+3:=by
 unfold wr;rw[gZ,gZ];have h1:("!(":Str).length=2:=by decide +kernel
 have h2:(")":Str).length=1:=by decide +kernel
 lia
def Sh(W:WD)(ts:List Tr)(z:Str):Prop:=z.length<=100000/\W.Φ "shown_reason" [rD ts]=.ok .fz (.str z)/\W.Φ "_law_shown" [rD ts]=.ok .fz (.str z)
theorem sl9(h:n<=1000000):n<=sizeLine:=by rw[aRK];lia
def uG{out:Str}{gs:List (Rho->Res)}{m:Md}(h:g ρ=.ok m (.str y))(hl:(out++y).length<=sizeLine):eW out (g::gs) ρ=eW (out++y) gs ρ:=by show((g ρ).thn _)=_;rw[h,Res.thn_ok];exact if_pos hl
def aP1{out:Str}(hl:out.length<=sizeLine):eW out [] ρ=.ok .fz (.str out):=if_pos hl
theorem p_bar{W:WD}{x2 x3 x6:Option (Bool×D)}{ts:List Tr}(h:Sh W ts z)(hl:L.length<1000):evB W o8 [x0,x1,x2,x3,x4,some (true,.lst L),some (false,rD ts)]=.nx [x0,x1,x2,x3,x4,some (true,.lst (L++[.str (wr z)])),some (false,rD ts)]:=by
 have c:=kJ h.2.1;have l1:("!(":Str).length=2:=by decide +kernel
 have l2:(")":Str).length=1:=by decide +kernel
 have hz:=h.1;generalize rD ts=R at *;have fs:evE W (.fstr [(.str "!("),(.fmt (.call "shown_reason" 1 [(.var 6)])),(.str ")")]) [x0,x1,x2,x3,x4,some (true,.lst L),some (false,R)]=.ok .fz (.str (wr z)):=by
  rw[aNG,sX,sX,sX,aNH,uG (m:=.fz) (y := "!(") (by simp) (sl9 (by rw[aBT,l1];decide)),aBT,uG (m:=.fz) (y:=z) (by simp[c]) (sl9 (by rw[gZ,l1];lia)),uG (m:=.fz) (y := ")") (by simp) (sl9 (by rw[gZ,gZ,l1,l2];lia)),aP1 (sl9 (by rw[gZ,gZ,l1,l2];lia))]
  rfl
 have ap:dM [x0,x1,x2,x3,x4,some (true,.lst L),some (false,R)] 5 (.ok .fz (.str (wr z)))=.nx [x0,x1,x2,x3,x4,some (true,.lst (L++[.str (wr z)])),some (false,R)]:=by
  show(if L.length<sizeLine then _ else _)=_;rw[if_pos (by rw[aRK];lia)]
  rfl
 unfold o8;rw[mW,sY,fs,ap];rfl
theorem aP2{W:WD}{x2 x3:Option (Bool×D)}:∀{tss:List (List Tr)}{zs:List Str},bO (Sh W) tss zs->∀(L:List D) (x6:Option (Bool×D)),L.length+tss.length<1000->∃y6,bP (aP (.nm 6)) (evB W o8) (tss.map rD) [x0,x1,x2,x3,x4,some (true,.lst L),x6]=.nx [x0,x1,x2,x3,x4,some (true,.lst (L++(zs.map wr).map .str)),y6]:=by
 intro tss zs h
 induction h with
 |nil=>intro L x6 _;exact⟨x6,by rw[aSW,aSW,aSW,aRT];rfl⟩
 | @cons ts z tss zs h1 _ ih =>
  intro L x6 hl;rw[aST]at hl;obtain⟨y6,e⟩:=ih (L++[.str (wr z)]) (some (false,rD ts)) (by rw[aR3];simp;lia)
  refine⟨y6,?_⟩;rw[aSV,fQ (ρ1:=[x0,x1,x2,x3,x4,some (true,.lst L),some (false,rD ts)]) rfl (p_bar (x6:=none) h1 (by lia)),e,aUO]
  rfl
theorem q_bar{W:WD}{x2 x3:Option (Bool×D)}{ts:List Tr}(h:Sh W ts z)(hl:L.length<1000):evB W o9 [x0,x1,x2,x3,x4,some (true,.lst L),x6,some (false,rD ts)]=.nx [x0,x1,x2,x3,x4,some (true,.lst (L++[.str (wr z)])),x6,some (false,rD ts)]:=by
 have c:=kJ h.2.2;have l1:("!(":Str).length=2:=by decide +kernel
 have l2:(")":Str).length=1:=by decide +kernel
 have hz:=h.1;generalize rD ts=R at *
 have a1:op2 (bJ .Add) (.ok .fz (.str "!(")) (.ok .fz (.str z))=.ok .fz (.str ("!(" ++ z)):=kI (sl9 (by rw[l1];lia))
 have a2:op2 (bJ .Add) (.ok .fz (.str ("!(" ++ z))) (.ok .fz (.str ")"))=.ok .fz (.str (wr z)):=kI (sl9 (by rw[gZ,l1,l2];lia))
 have ap:dM [x0,x1,x2,x3,x4,some (true,.lst L),x6,some (false,R)] 5 (.ok .fz (.str (wr z)))=.nx [x0,x1,x2,x3,x4,some (true,.lst (L++[.str (wr z)])),x6,some (false,R)]:=by
  show(if L.length<sizeLine then _ else _)=_;rw[if_pos (by rw[aRK];lia)]
  rfl
 unfold o9;simp only[mW,sY,e_bin,e_str,aNF,aNJ,aNI,jB];have g:eP [x0,x1,x2,x3,x4,some (true,.lst L),x6,some (false,R)] 7=.ok .fz R:=rfl;simp only[g,wK,c,a1,a2,ap];rfl
theorem aP3{W:WD}{x2 x3:Option (Bool×D)}:∀{tss:List (List Tr)}{zs:List Str},bO (Sh W) tss zs->∀(L:List D) (x7:Option (Bool×D)),L.length+tss.length<1000->∃y7,bP (aP (.nm 7)) (evB W o9) (tss.map rD) [x0,x1,x2,x3,x4,some (true,.lst L),x6,x7]=.nx [x0,x1,x2,x3,x4,some (true,.lst (L++(zs.map wr).map .str)),x6,y7]:=by
 intro tss zs h
 induction h with
 |nil=>intro L x7 _;exact⟨x7,by rw[aSW,aSW,aSW,aRT];rfl⟩
 | @cons ts z tss zs h1 _ ih =>
  intro L x7 hl;rw[aST]at hl;obtain⟨y7,e⟩:=ih (L++[.str (wr z)]) (some (false,rD ts)) (by rw[aR3];simp;lia)
  refine⟨y7,?_⟩;rw[aSV,fQ (ρ1:=[x0,x1,x2,x3,x4,some (true,.lst L),x6,some (false,rD ts)]) rfl (q_bar h1 (by lia)),e,aUO]
  rfl
theorem aP4{W:WD}{x2 x3 x7:Option (Bool×D)}(hl:L.length<1000):evB W kN [x0,x1,x2,x3,x4,some (true,.lst L),some (false,.str x),x7]=.nx [x0,x1,x2,x3,x4,some (true,.lst (L++[.str x])),some (false,.str x),x7]:=by
 have ap:dM [x0,x1,x2,x3,x4,some (true,.lst L),some (false,.str x),x7] 5 (.ok .fz (.str x))=.nx [x0,x1,x2,x3,x4,some (true,.lst (L++[.str x])),some (false,.str x),x7]:=by
  show(if L.length<sizeLine then _ else _)=_;rw[if_pos (by rw[aRK];lia)]
  rfl
 have g:eP [x0,x1,x2,x3,x4,some (true,.lst L),some (false,.str x),x7] 6=.ok .fz (.str x):=rfl;unfold kN;simp only[mW,sY,jB,g,ap];rfl
theorem aBU{W:WD}{x0 x1 x2 x3 x4 x7:Option (Bool×D)}:∀(xs:List Str) (L:List D) (x6:Option (Bool×D)),L.length+xs.length<1000->∃y6,bP (aP (.nm 6)) (evB W kN) (xs.map .str) [x0,x1,x2,x3,x4,some (true,.lst L),x6,x7]=.nx [x0,x1,x2,x3,x4,some (true,.lst (L++xs.map .str)),y6,x7]
 |[],L,x6,_=>⟨x6,by rw[aSW,aRT];rfl⟩
 |x::xs,L,x6,hl=>by
  rw[aST]at hl;obtain⟨y6,e⟩:=aBU xs (L++[.str x]) (some (false,.str x)) (by rw[aR3];simp;lia)
  refine⟨y6,?_⟩;rw[aSV,fQ (ρ1:=[x0,x1,x2,x3,x4,some (true,.lst L),some (false,.str x),x7]) rfl (aP4 (by lia)),e,aUO]
  rfl
def prf(n:Int)(xs zs:List Str):List Str:=if n≠1\/xs.length+zs.length=0 then[bU n]else[]
def fac(n:Int)(xs zs:List Str):List Str:=prf n xs zs++(xs++zs.map wr)
def tTx(n:Int)(xs zs:List Str):Str:=Txt.join "*" (fac n xs zs)
theorem aBV{i:Int}(h0:1<=i)(h:i<big):(bU i).length<=60/\fX i=true:=by
 obtain⟨n,rfl⟩:=aWY (show 0<=i by lia)
 have hn:n<10 ^ 50:=by have h:((n:Nat):Int)<((10 ^ 50:Nat):Int):=h;exact Int.ofNat_lt.mp h
 have hn5:(n:Nat)<10 ^ 500:=aQR hn (Nat.pow_le_pow_right (by decide) (by decide))
 refine⟨?_,aNO hn5⟩;unfold bU;rw[show((n:Nat):Int)=Int.ofNat n from rfl,PyProof.Rows.text_ofNat]
 show((Nat.toDigits 10 n).map Char.toNat).toArray.size<=60;rw[aRL,aR4];exact PyProof.Rows.digits10_le (by decide) (aQR hn (Nat.pow_le_pow_right (by decide) (by decide)))
theorem uH{b:Nat}:∀{l:List Str},(∀x∈l,x.length<=b)->(l.map (·.length)).sum<=l.length * b
 |[],_=>by simp
 |x::l,h=>by have:=uH (b:=b) λy hy=>h y (mcm hy);have hx:=h x mcs;rw[aSV,List.sum_cons,aST,Nat.succ_mul];lia
theorem aBW:∀(l:List Str),hC (l.map .str)=some l
 |[]=>rfl
 |x::l=>by have:=aBW l;show(hC (l.map .str)).map _=_;rw[this];rfl
theorem uI{s:Str}{l:List Str}{b:Nat}{m:Md}(h:∀x∈l,x.length<=b)(hb:l.length * b+l.length * s.length<=10000000):hG m (.str s) [(m',.lst (l.map .str))]=some (.fz,.str (Txt.join s l)):=by
 show(match hC (l.map .str)with|some ys=>if(ys.map λy:Str=>y.length).sum+ys.length * s.length<=sizeLine then some (Md.fz,D.str (Txt.join s ys))else none|none=>none)=_
 rw[aBW];exact if_pos (by have:=uH h;rw[aRK];lia)
def pQ{s:Str}{m:Md}(h:hG m (.str s) [(m',.lst ds)]=some (.fz,.str z)):lL "str" hG (.ok m (.str s)) (.ok [(m',.lst ds)])=.ok .fz (.str z):=by unfold lL;rw[Res.thn_ok,bG.thn_ok];simp only[h];rfl
def aBX{s:Str}{l:List Str}{b:Nat}(h:∀x∈l,x.length<=b):(Txt.join s l).length<=l.length * b+l.length * s.length:=by
 rw[show Txt.join s l=Str.join s l from PySem.StrLaws.glued_eq_join s l]
 exact aQW (PySem.StrLaws.join_length_le s l) (Nat.add_le_add_right (uH h) _)
theorem uJ{n:Int}(h3:xs.length<=3)(h2:zs.length<=2):(fac n xs zs).length<=6:=by unfold fac prf;rw[aR3,aR3,aR4];split <;> simp <;> lia
theorem uK{n:Int}{b:Nat}(hn:(bU n).length<=60)(hx:∀x∈xs,x.length<=40)(hz:∀z∈zs,z.length<=b)(hb:57<=b):∀x∈fac n xs zs,x.length<=b+3:=λx hm=>by
 unfold fac prf at hm;rcases aQ0.mp hm with h|h
 . split at h
   . rw[aT2.mp h];lia
   . cases h
 . rcases aQ0.mp h with h|h
   . have:=hx x h;lia
   . obtain⟨z,hz',rfl⟩:=aWI.mp h;rw[aP0];have:=hz z hz';lia
def uL:("*":Str).length=1:=by decide +kernel
def aBY:(" + ":Str).length=3:=by decide +kernel
def aBZ{n:Int}{b:Nat}(hn:(bU n).length<=60)(hx:∀x∈xs,x.length<=40)(hz:∀z∈zs,z.length<=b)(hb:57<=b)(h3:xs.length<=3)(h2:zs.length<=2):(tTx n xs zs).length<=6 * (b+4):=by have h:=aBX (s := "*") (uK hn hx hz hb);have l:=uJ (n:=n) h3 h2;rw[uL,Nat.mul_one,<- Nat.mul_add_one]at h;exact aQW h (aW0 _ l)
abbrev FD'(xs:List Str):D:=.tup (xs.map .str)
theorem aP5{W:WD}{x5:Option (Bool×D)}{n:Int}(hn:(bU n).length<=60/\fX n=true)(hx:∀x∈xs,x.length<=40)(h3:xs.length<=3)(h2:tss.length<=2)(h:bO (Sh W) tss zs)(hL:L.length<100):∃y5 y6,evB W mX [x0,some (true,.lst L),some (false,FD' xs),some (false,.tup (tss.map rD)),some (false,.int n),x5,x6]=.nx [x0,some (true,.lst (L++[.str (tTx n xs zs)])),some (false,FD' xs),some (false,.tup (tss.map rD)),some (false,.int n),y5,y6]:=by
 have hz:∀z∈zs,z.length<=100000:=by
  clear h2
  induction h with
  |nil=>intro z hz;cases hz
  |cons h1 _ ih=>intro z hz;rcases aQZ.mp hz with rfl|hz;exact h1.1;exact ih z hz
 have l2:zs.length<=2:=by rw[<- h.len];exact h2
 obtain⟨y6,e⟩:=aP2 (x0:=x0) (x1:=some (true,.lst L)) (x2:=some (false,FD' xs)) (x3:=some (false,.tup (tss.map rD))) (x4:=some (false,.int n)) h (xs.map .str) x6 (by rw[aR4];lia)
 have jk:=uI (s := "*") (m:=.fz) (m':=.bo) (uK hn.1 hx hz (by decide)) (by have:=uJ (n:=n) h3 l2;rw[uL];lia)
 refine⟨some (true,.lst ((fac n xs zs).map .str)),y6,?_⟩;have tl:iR [(.fz,FD' xs)]=some (.fr,.lst (xs.map .str)):=rfl;have it:∀{X:List D},fV (.ok .fz (.tup X))=.ok .fz (.lst X):=λ{X}=>rfl;have ln:∀{X:List D}{m:Md},eT [(m,.lst X)]=some (.fz,.int (X.length:Nat)):=λ{X m}=>rfl;have el:(xs.map D.str++(zs.map wr).map D.str).length=xs.length+zs.length:=by simp
 have ef:(fac n xs zs).map D.str=(prf n xs zs).map D.str++(xs.map D.str++(zs.map wr).map D.str):=by unfold fac;simp
 rw[ef]at jk ⊢;have ap:∀{X:Option (Bool×D)},dM [x0,some (true,.lst L),some (false,FD' xs),some (false,.tup (tss.map rD)),some (false,.int n),X,y6] 1 (.ok .fz (.str (tTx n xs zs)))=.nx [x0,some (true,.lst (L++[.str (tTx n xs zs)])),some (false,FD' xs),some (false,.tup (tss.map rD)),some (false,.int n),X,y6]:=λ{X}=>by
  show(if L.length<sizeLine then _ else _)=_;rw[if_pos (by rw[aRK];lia)]
  rfl
 have hj:Txt.join "*" (fac n xs zs)=tTx n xs zs:=rfl;rw[hj]at jk;generalize hB:(xs.map D.str++(zs.map wr).map D.str)=B at *;have ins:gN [x0,some (true,.lst L),some (false,FD' xs),some (false,.tup (tss.map rD)),some (false,.int n),some (true,.lst B),y6] 5 (.ok .fz (.int 0)) (.ok .fz (.str (bU n)))=.nx [x0,some (true,.lst L),some (false,FD' xs),some (false,.tup (tss.map rD)),some (false,.int n),some (true,.lst (.str (bU n)::B)),y6]:=by
  show(if(decide ((0:Int)<=0)&&decide ((0:Int)<=1000000)&&decide (B.length<sizeLine))=true then _ else _)=_;rw[if_pos (by simp only[aSJ,aTC];rw[aRK];lia)]
  rfl
 by_cases w:n≠1\/xs.length+zs.length=0
 . have ep:prf n xs zs=[bU n]:=if_pos w;rw[ep]at jk ⊢;have jk:hG .fz (.str "*") [(.bo,.lst (.str (bU n)::B))]=some (.fz,.str (tTx n xs zs)):=jk;have jk:=pQ jk;have w':(n != 1||((xs.length:Int)+(zs.length:Int)==0))=true:=by
     rw[aTE];rcases w with w|w
     . exact .inl (by simpa using w)
     . exact .inr (aRN.mpr (by lia))
   generalize FD' xs=XS at *;generalize tss.map rD=TS at *;generalize xs.map D.str=X1 at *;generalize tTx n xs zs=TX at *;simp[mX,tl,it,dI,e,ln,el,w',hn.2,ins,jk,ap,Ty.f]
 . have ep:prf n xs zs=[]:=if_neg w;rw[ep,aSW,aT8]at jk ⊢;have jk:=pQ jk;have w':(n != 1||((xs.length:Int)+(zs.length:Int)==0))=false:=by rw[Bool.or_eq_false_iff];exact⟨by simpa using λz=>w (.inl z),aQM.mpr λz=>w (.inr (by lia))⟩
   generalize FD' xs=XS at *;generalize tss.map rD=TS at *;generalize xs.map D.str=X1 at *;generalize tTx n xs zs=TX at *;simp[mX,tl,it,dI,e,ln,el,w',jk,ap]
theorem aP6{W:WD}{x5 x7:Option (Bool×D)}{n:Int}(hn:(bU n).length<=60/\fX n=true)(hx:∀x∈xs,x.length<=40)(h3:xs.length<=3)(h2:tss.length<=2)(h:bO (Sh W) tss zs)(hL:L.length<100):∃y5 y6 y7,evB W mY [x0,some (true,.lst L),some (false,FD' xs),some (false,.tup (tss.map rD)),some (false,.int n),x5,x6,x7]=.nx [x0,some (true,.lst (L++[.str (tTx n xs zs)])),some (false,FD' xs),some (false,.tup (tss.map rD)),some (false,.int n),y5,y6,y7]:=by
 have hz:∀z∈zs,z.length<=100000:=by
  clear h2
  induction h with
  |nil=>intro z hz;cases hz
  |cons h1 _ ih=>intro z hz;rcases aQZ.mp hz with rfl|hz;exact h1.1;exact ih z hz
 have l2:zs.length<=2:=by rw[<- h.len];exact h2
 have lz:=h.len;have pl:(prf n xs zs).length<=1:=by unfold prf;split <;> simp
 obtain⟨y6,e6⟩:=aBU (W:=W) (x0:=x0) (x1:=some (true,.lst L)) (x2:=some (false,FD' xs)) (x3:=some (false,.tup (tss.map rD))) (x4:=some (false,.int n)) (x7:=x7) xs ((prf n xs zs).map .str) x6 (by rw[aR4];lia)
 obtain⟨y7,e7⟩:=aP3 (x0:=x0) (x1:=some (true,.lst L)) (x2:=some (false,FD' xs)) (x3:=some (false,.tup (tss.map rD))) (x4:=some (false,.int n)) (x6:=y6) h ((prf n xs zs).map .str++xs.map .str) x7 (by rw[aR3,aR4,aR4];lia)
 have jk:=pQ (uI (s := "*") (m:=.fz) (m':=.bo) (uK hn.1 hx hz (by decide)) (by have:=uJ (n:=n) h3 l2;rw[uL];lia))
 have ef:(fac n xs zs).map D.str=(prf n xs zs).map D.str++xs.map D.str++(zs.map wr).map D.str:=by unfold fac;simp
 refine⟨some (true,.lst ((fac n xs zs).map .str)),y6,y7,?_⟩;have hj:Txt.join "*" (fac n xs zs)=tTx n xs zs:=rfl;rw[hj]at jk;rw[ef]at jk ⊢;have it1:fV (.ok .fz (FD' xs))=.ok .fz (.lst (xs.map .str)):=rfl;have it:fV (.ok .fz (.tup (tss.map rD)))=.ok .fz (.lst (tss.map rD)):=rfl;have ln1:eT [(.fz,FD' xs)]=some (.fz,.int (xs.length:Nat)):=by show some (Md.fz,D.int ((xs.map D.str).length:Nat))=_;rw[aR4]
 have ln2:eT [(.fz,.tup (tss.map rD))]=some (.fz,.int (zs.length:Nat)):=by show some (Md.fz,D.int ((tss.map rD).length:Nat))=_;rw[aR4,lz]
 have ap:∀{X y7:Option (Bool×D)},dM [x0,some (true,.lst L),some (false,FD' xs),some (false,.tup (tss.map rD)),some (false,.int n),X,y6,y7] 1 (.ok .fz (.str (tTx n xs zs)))=.nx [x0,some (true,.lst (L++[.str (tTx n xs zs)])),some (false,FD' xs),some (false,.tup (tss.map rD)),some (false,.int n),X,y6,y7]:=λ{X y7}=>by
  show(if L.length<sizeLine then _ else _)=_;rw[if_pos (by rw[aRK];lia)]
  rfl
 have a5:∀L5:List D,L5.length<100->dM [x0,some (true,.lst L),some (false,FD' xs),some (false,.tup (tss.map rD)),some (false,.int n),some (true,.lst L5),x6,x7] 5 (.ok .fz (.str (bU n)))=.nx [x0,some (true,.lst L),some (false,FD' xs),some (false,.tup (tss.map rD)),some (false,.int n),some (true,.lst (L5++[.str (bU n)])),x6,x7]:=λL5 h5=>by
  show(if L5.length<sizeLine then _ else _)=_;rw[if_pos (by rw[aRK];lia)]
  rfl
 have a5:=a5 [] (by decide)
 rw[aT8]at a5;generalize hB:(prf n xs zs).map D.str++xs.map D.str++(zs.map wr).map D.str=B at *;by_cases w:n≠1\/xs.length+zs.length=0
 . have ep:prf n xs zs=[bU n]:=if_pos w;have w':(n != 1||((xs.length:Int)+(zs.length:Int)==0))=true:=by
     rw[aTE];rcases w with w|w
     . exact .inl (by simpa using w)
     . exact .inr (aRN.mpr (by lia))
   rw[ep]at e6 e7;have e6:bP (aP (.nm 6)) (evB W kN) (xs.map .str) [x0,some (true,.lst L),some (false,FD' xs),some (false,.tup (tss.map rD)),some (false,.int n),some (true,.lst [.str (bU n)]),x6,x7]=_:=e6;generalize FD' xs=XS at *;generalize tss.map rD=TS at *;generalize [bU n].map D.str++xs.map D.str=X2 at *;generalize xs.map D.str=X1 at *;generalize tTx n xs zs=TX at *;simp[mY,kW,it,it1,dI,e6,e7,ln1,ln2,w',hn.2,a5,jk,ap,Ty.f]
 . have ep:prf n xs zs=[]:=if_neg w;have w':(n != 1||((xs.length:Int)+(zs.length:Int)==0))=false:=by rw[Bool.or_eq_false_iff];exact⟨by simpa using λz=>w (.inl z),aQM.mpr λz=>w (.inr (by lia))⟩
   rw[ep]at e6 e7;have e6:bP (aP (.nm 6)) (evB W kN) (xs.map .str) [x0,some (true,.lst L),some (false,FD' xs),some (false,.tup (tss.map rD)),some (false,.int n),some (true,.lst []),x6,x7]=_:=e6;generalize FD' xs=XS at *;generalize tss.map rD=TS at *;generalize ([]:List Str).map D.str++xs.map D.str=X2 at *;generalize xs.map D.str=X1 at *;generalize tTx n xs zs=TX at *;simp[mY,kW,it,it1,dI,e6,e7,ln1,ln2,w',jk,ap]
def aB0(ts:List Tr):nD (rN ts)=rD ts:=by rw[nD,t4]
def aP7(tss:List (List Tr)):nD (.t (tss.map rN))=.tup (tss.map rD):=by rw[nD,gR,aV9];congr 1;exact aWJ λts _=>aB0 ts
def TI(W:WD)(t:Tr)(z:Str):Prop:=∃xs tss zs,t.1.1=F xs/\t.1.2=.t (tss.map rN)/\xs.length<=3/\(∀x∈xs,x.length<=40)/\tss.length<=2/\bO (Sh W) tss zs/\((bU t.2).length<=60/\fX t.2=true)/\z=tTx t.2 xs zs/\(tmN t).dp<=20
def pR{t:Tr}(h1:t.1.1=F xs)(h2:t.1.2=.t (tss.map rN)):tD t=.tup [FD' xs,.tup (tss.map rD),.int t.2]:=by rw[aA9,h1,h2,pJ,aP7]
theorem aP8{W:WD}:∀{S:List Tr}{zs:List Str},bO (TI W) S zs->∀(L:List D) (x2 x3 x4 x5 x6:Option (Bool×D)),L.length+S.length<100->∃y2 y3 y4 y5 y6,bP (aP (.tp [.nm 2,.nm 3,.nm 4])) (evB W mX) (S.map tD) [x0,some (true,.lst L),x2,x3,x4,x5,x6]=.nx [x0,some (true,.lst (L++zs.map .str)),y2,y3,y4,y5,y6]:=by
 intro S zs h
 induction h with
 |nil=>intro L x2 x3 x4 x5 x6 _;exact⟨x2,x3,x4,x5,x6,by rw[aSW,aSW,aRT];rfl⟩
 | @cons t z S zs h1 _ ih =>
  intro L x2 x3 x4 x5 x6 hl;rw[aST]at hl;obtain⟨xs,tss,ws,e1,e2,a,b,c,d,f,rfl,_⟩:=h1;obtain⟨y5,y6,e⟩:=aP5 (x0:=x0) (x5:=x5) (x6:=x6) (L:=L) f b a c d (by lia)
  obtain⟨u2,u3,u4,u5,u6,e'⟩:=ih (L++[.str (tTx t.2 xs ws)]) (some (false,FD' xs)) (some (false,.tup (tss.map rD))) (some (false,.int t.2)) y5 y6 (by rw[aR3];simp;lia)
  refine⟨u2,u3,u4,u5,u6,?_⟩;rw[aSV,pR e1 e2,fQ (ρ1:=[x0,some (true,.lst L),some (false,FD' xs),some (false,.tup (tss.map rD)),some (false,.int t.2),x5,x6]) rfl e,e',aUO];rfl
theorem aP9{W:WD}:∀{S:List Tr}{zs:List Str},bO (TI W) S zs->∀(L:List D) (x2 x3 x4 x5 x6 x7:Option (Bool×D)),L.length+S.length<100->∃y2 y3 y4 y5 y6 y7,bP (aP (.tp [.nm 2,.nm 3,.nm 4])) (evB W mY) (S.map tD) [x0,some (true,.lst L),x2,x3,x4,x5,x6,x7]=.nx [x0,some (true,.lst (L++zs.map .str)),y2,y3,y4,y5,y6,y7]:=by
 intro S zs h
 induction h with
 |nil=>intro L x2 x3 x4 x5 x6 x7 _;exact⟨x2,x3,x4,x5,x6,x7,by rw[aSW,aSW,aRT];rfl⟩
 | @cons t z S zs h1 _ ih =>
  intro L x2 x3 x4 x5 x6 x7 hl;rw[aST]at hl;obtain⟨xs,tss,ws,e1,e2,a,b,c,d,f,rfl,_⟩:=h1;obtain⟨y5,y6,y7,e⟩:=aP6 (x0:=x0) (x5:=x5) (x6:=x6) (x7:=x7) (L:=L) f b a c d (by lia)
  obtain⟨u2,u3,u4,u5,u6,u7,e'⟩:=ih (L++[.str (tTx t.2 xs ws)]) (some (false,FD' xs)) (some (false,.tup (tss.map rD))) (some (false,.int t.2)) y5 y6 y7 (by rw[aR3];simp;lia)
  refine⟨u2,u3,u4,u5,u6,u7,?_⟩;rw[aSV,pR e1 e2,fQ (ρ1:=[x0,some (true,.lst L),some (false,FD' xs),some (false,.tup (tss.map rD)),some (false,.int t.2),x5,x6,x7]) rfl e,e',aUO];rfl
def rTx(zs:List Str):Str:=if zs=[]then "0" else Txt.join " + " zs
theorem aB1:∀(l:List Str),cQ (l.map .str)=some (l.map PyData.str)
 |[]=>by simp[cQ]
 |x::l=>by simp[cQ,aU,aB1 l]
theorem aB2:∀(l:List Str),PyData.depthAll (l.map PyData.str)<=1
 |[]=>by simp[PyData.depthAll]
 |x::l=>by have:=aB2 l;simp only[aSV,PyData.depthAll,PyData.depth];lia
theorem eq_l0{l:List Str}{m:Md}:op2 (bV .Eq) (.ok m (.lst (l.map .str))) (.ok m' (.lst []))=.ok .fz (.bl (decide (l=[]))):=cI (by
 show orO (eqF false) _ m (.lst (l.map .str)) m' (.lst [])=_;have e:eqF false m (.lst (l.map .str)) m' (.lst [])=some (.fz,.bl (decide (l=[]))):=by
  unfold eqF;have h1:aU (.lst (l.map .str))=some (.list (l.map PyData.str)):=by simp only[aU];rw[aB1];rfl
  have h2:aU (.lst [])=some (.list []):=by simp[aU,cQ]
  rw[h1,h2];dsimp only;have hd:=aB2 l;rw[if_pos (by unfold jR;rw[aSJ,aTC,aTC];simp only[PyData.depth,PyData.depthAll];lia)]
  cases l with
  |nil=>simp[PyData.eqv,PyData.eqvAll]
  |cons x l=>simp[PyData.eqv,PyData.eqvAll]
 unfold orO;rw[e];rfl)
def ShE(W:WD)(ts:List Tr)(z:Str):Prop:=W.Φ "shown_reason" [rD ts]=.ok .fz (.str z)/\W.Φ "_law_shown" [rD ts]=.ok .fz (.str z)
def aQA{P:α->β->Prop}{as:List α}{bs:List β}(h:bO P as bs):∀a∈as,∃b∈bs,P a b:=by
 induction h with
 |nil=>intro a ha;cases ha
 |cons h1 _ ih =>
  intro a ha;rcases aQZ.mp ha with rfl|ha
  . exact⟨_,mcs,h1⟩
  . obtain⟨b,hb,p⟩:=ih a ha;exact⟨b,mcm hb,p⟩
theorem uM{m:Nat}{S:List Tr}{b:Nat}(h:bO (TI (WT TT m)) S zs)(hl:S.length<64)(hb:∀z∈zs,z.length<=b)(hb2:b<=100000):ShE (WT TT (m+1)) S (rTx zs):=by
 have lz:=h.len;have dp:(N.t (S.map tmN)).dp<=50:=by
  rw[N.dp];have:N.dpL (S.map tmN)<=20:=kT λx hx=>by obtain⟨t,ht,rfl⟩:=aWI.mp hx;obtain⟨z,_,_,_,_,_,_,_,_,_,_,_,_,d⟩:=aQA h t ht;exact d
  lia
 have eq0:=x_eqN (x:=.t (S.map tmN)) (y:=.t []) (m:=.fz) (m':=.fz) dp (by decide)
 rw[show nD (.t (S.map tmN))=rD S from aB0 S,kX]at eq0
 have it:fV (.ok .fz (rD S))=.ok .fz (.lst (S.map tD)):=rfl;obtain⟨y2,y3,y4,y5,y6,e1⟩:=aP8 (x0:=some (false,rD S)) h [] none none none none none (by simp;lia)
 obtain⟨u2,u3,u4,u5,u6,u7,e2⟩:=aP9 (x0:=some (false,rD S)) h [] none none none none none none (by simp;lia)
 rw[aT8]at e1 e2;have jk:=pQ (uI (s := " + ") (m:=.fz) (m':=.fz) hb (by rw[aBY];have:zs.length * b<=64 * 100000:=Nat.mul_le_mul (by lia) hb2;lia))
 have f1:iU [some (false,rD S),some (true,.lst (zs.map .str)),y2,y3,y4,y5,y6] 1=.nx [some (false,rD S),some (false,.lst (zs.map .str)),y2,y3,y4,y5,y6]:=rfl;have f2:iU [some (false,rD S),some (true,.lst (zs.map .str)),u2,u3,u4,u5,u6,u7] 1=.nx [some (false,rD S),some (false,.lst (zs.map .str)),u2,u3,u4,u5,u6,u7]:=rfl;have el:=eq_l0 (l:=zs) (m:=.fz) (m':=.fr);by_cases z0:zs=[]
 . have s0:S=[]:=aUN.mp (by rw[lz,z0];rfl)
   have er:rTx zs="0" := if_pos z0;rw[aSS (by rw[s0];rfl)]at eq0
   rw[aSS z0]at el;rw[er];refine⟨?_,?_⟩
   . rw[aAY];refine dB rfl ?_;show evB _ kP [some (false,rD S),none,none,none,none,none,none]=_;generalize rD S=R at *;simp[kP,gB,eq0]
   . rw[aAZ];refine dB rfl ?_;show evB _ kQ [some (false,rD S),none,none,none,none,none,none,none]=_;generalize S.map tD=SD at *;generalize rD S=R at *;generalize zs.map D.str=ZD at *;simp[kQ,kW,it,dI,e2,f2,el]
 . have er:rTx zs=Txt.join " + " zs:=if_neg z0;have s0:N.t (S.map tmN) ≠ .t []:=λz=>z0 (aUN.mp (by
     injection z with z
     rw[<- lz,<- aR4 (f:=tmN),z];rfl))
   rw[aQL s0]at eq0;rw[aQL z0]at el;rw[er];refine⟨?_,?_⟩
   . rw[aAY];refine dB rfl ?_;show evB _ kP [some (false,rD S),none,none,none,none,none,none]=_;generalize S.map tD=SD at *;generalize rD S=R at *;generalize zs.map D.str=ZD at *;generalize Txt.join " + " zs=TX at *;simp[kP,gB,eq0,kW,it,dI,e1,f1,jk]
   . rw[aAZ];refine dB rfl ?_;show evB _ kQ [some (false,rD S),none,none,none,none,none,none,none]=_;generalize S.map tD=SD at *;generalize rD S=R at *;generalize zs.map D.str=ZD at *;generalize Txt.join " + " zs=TX at *;simp[kQ,kW,it,dI,e2,f2,el,jk]
def bO.imp{P Q:α->β->Prop}{as:List α}{bs:List β}(h:bO P as bs)(i:∀a b,P a b->Q a b):bO Q as bs:=by
 induction h with
 |nil=>exact .nil
 |cons h1 _ ih=>exact .cons (i _ _ h1) ih
def bO.right{P:α->β->Prop}{Q:β->Prop}{as:List α}{bs:List β}(h:bO P as bs)(i:∀a b,P a b->Q b):∀b∈bs,Q b:=by
 induction h with
 |nil=>intro b hb;cases hb
 |cons h1 _ ih =>
  intro b hb;rcases aQZ.mp hb with rfl|hb
  . exact i _ _ h1
  . exact ih b hb
def Bd:Nat->Nat|0=>57|j+1=>12 * Bd j+54
theorem aB3:∀j,57<=Bd j
 |0=>aRG _
 |j+1=>by show 57<=12 * Bd j+54;have:=aB3 j;lia
theorem aQB{b:Nat}(h:∀z∈zs,z.length<=b)(hl:zs.length<=2):(rTx zs).length<=2 * (b+3):=by
 unfold rTx;split
 . have:("0":Str).length=1:=by decide +kernel
   lia
 . have:=aBX (s := " + ") h;rw[aBY,<- Nat.mul_add]at this;exact aQW this (aW0 _ hl)
def aB4{t:Tr}(hj:j<=2)(h:VT nms j t):(tmN t).dp<=20:=aQW ((pI (k:=t.1) (j:=j) ⟨h.1.isF,VB.isBs h.2.1⟩ hj).2.2.2 t.2) (by decide)
theorem lev{nms:List Str}(hN:∀s∈nms,s.length<=40):∀(j:Nat),j<=2->∀{t:Tr},VT nms j t->∃z,(∀m,TI (WT TT (m+j)) t z)/\z.length<=6 * (Bd j+4)
 |0,hj,t,h=>by have dp:=aB4 hj h;obtain⟨⟨xs,e1,hx,l3⟩,hb,n1,n2⟩:=h;have nl:=aBV n1 n2;exact⟨_,λm=>⟨xs,[],[],e1,hb,l3,λx h=>hN x (hx x h),by simp,.nil,nl,rfl,dp⟩,aBZ nl.1 (λx h=>hN x (hx x h)) (λz hz=>nomatch hz) (aRG _) l3 (by simp)⟩
 |j+1,hj,t,h=>by
  have dp:=aB4 hj h;obtain⟨⟨xs,e1,hx,l3⟩,⟨tss,e2,l2,hb⟩,n1,n2⟩:=h;have nl:=aBV n1 n2;have key:∀ts∈tss,∃z,(∀m,Sh (WT TT (m+(j+1))) ts z)/\z.length<=Bd (j+1):=λts hts=>by
   obtain⟨_,l,ht⟩:=hb ts hts;obtain⟨zs,a⟩:=bO.of (P:=λt z=>(∀m,TI (WT TT (m+j)) t z)/\z.length<=6 * (Bd j+4)) λt' h'=>lev hN j (by lia) (ht t' h')
   have bz:=a.right (Q:=λz=>z.length<=6 * (Bd j+4)) λ_ _ h=>h.2;have lz:=a.len;have b2:Bd j<=738:=by
    have:j=0\/j=1:=by lia
    rcases this with rfl|rfl <;> decide
   have rl:=aQB bz (by lia)
   have eB:Bd (j+1)=12 * Bd j+54:=rfl;exact⟨rTx zs,λm=>⟨by lia,uM (a.imp λ_ _ h=>h.1 m) (by lia) bz (by lia)⟩,by lia⟩
  obtain⟨zs,a⟩:=bO.of key;have bz:=a.right (Q:=λz=>z.length<=Bd (j+1)) λ_ _ h=>h.2;have lz:=a.len;exact⟨_,λm=>⟨xs,tss,zs,e1,e2,l3,λx h=>hN x (hx x h),l2,a.imp λ_ _ h=>h.1 m,nl,rfl,dp⟩,aBZ nl.1 (λx h=>hN x (hx x h)) bz (aB3 _) l3 (by lia)⟩
def aQC(hN:∀s∈nms,s.length<=40){S:List Tr}(h:∀t∈S,VT nms 2 t)(hl:S.length<64):∃z,∀m,ShE (WT TT (m+3)) S z:=by obtain⟨zs,a⟩:=bO.of (P:=λt z=>(∀m,TI (WT TT (m+2)) t z)/\z.length<=6 * (Bd 2+4)) λt ht=>lev hN 2 (aRG 2) (h t ht);exact⟨_,λm=>uM (a.imp λ_ _ h=>h.1 m) hl (a.right (Q:=λz=>z.length<=6 * (Bd 2+4)) λ_ _ h=>h.2) (by decide)⟩
def fsN:N->List Str
 |.t xs=>xs.filterMap λx=>match x with|.s y=>some y|_=>none
 |_=>[]
def lsN:N->List N
 |.t xs=>xs
 |_=>[]
def nmN:Nat->N->List Str
 |0,_=>[]
 |n+1,r=>(lsN r).flatMap λt=>match t with|.t [f,b,_]=>fsN f++(lsN b).flatMap (nmN n)|_=>[]
abbrev nm(n:Nat)(ts:List Tr):List Str:=nmN n (rN ts)
def nC{ts:List Tr}:y∈nm (n+1) ts↔∃t∈ts,y∈fsN t.1.1\/∃r∈lsN t.1.2,y∈nmN n r:=by
 show y∈(ts.map tmN).flatMap _↔_;rw[aW1];constructor
 . rintro⟨x,hx,hy⟩;obtain⟨t,ht,rfl⟩:=aWI.mp hx;have hy:y∈fsN t.1.1++(lsN t.1.2).flatMap (nmN n):=hy;rw[aQ0,aW1]at hy;exact⟨t,ht,hy⟩
 . rintro⟨t,ht,hy⟩;refine⟨_,aWI.mpr ⟨t,ht,rfl⟩,?_⟩;show y∈fsN t.1.1++(lsN t.1.2).flatMap (nmN n);rw[aQ0,aW1];exact hy
def aB5(xs:List Str):fsN (F xs)=xs:=by
 unfold F;simp only[fsN]
 induction xs with
 |nil=>rfl
 |cons x xs ih=>rw[aSV,aQY];simp only[ih]
structure Tj(nms:List Str)(P:List Tr->Prop)(t:Tr)(xs:List Str)(tss:List (List Tr)):Prop where
 e1:t.1.1=F xs
 e2:t.1.2=.t (tss.map rN)
 hx:∀x∈xs,x∈nms
 l2:tss.length<=2
 hb:∀ts∈tss,P ts
def Bar(nms:List Str)(j:Nat)(ts:List Tr):Prop:=ts.length<=2/\∀t∈ts,VT nms j t
def tj0{t:Tr}(h:VT nms 0 t)(P:List Tr->Prop):∃xs,Tj nms P t xs []:=by obtain⟨⟨xs,e1,hx,_⟩,hb,_⟩:=h;exact⟨xs,e1,hb,hx,by simp,λts hts=>nomatch hts⟩
def tj1{t:Tr}(h:VT nms (j+1) t):∃xs tss,Tj nms (Bar nms j) t xs tss:=by obtain⟨⟨xs,e1,hx,_⟩,⟨tss,e2,l2,hb⟩,_⟩:=h;exact⟨xs,tss,e1,e2,hx,l2,λts hts=>(hb ts hts).2⟩
abbrev sl(o:Option D):Option (Bool×D):=o.map λd=>(false,d)
abbrev R8(R:D)(a3 a4 a5 a6 a7:Option D):Rho:=[some (false,R),none,none,sl a3,sl a4,sl a5,sl a6,sl a7]
def no8{R:D}{a4 a5 a6 a7:Option D}:iB (R8 R a3 a4 a5 a6 a7)=true:=by cases a3 <;> cases a4 <;> cases a5 <;> cases a6 <;> cases a7 <;> rfl
def aB6{acc:List Str}(h4:nms.length=4)(h:∀y∈acc,y∈nms):(uni acc).length<=4:=by rw[<- h4];refine mD ?_ λy hy=>h y (gP.mp hy);exact(j0 acc).imp λ{a b} h e=>by subst e;rw[hV]at h;cases h
theorem aB7{nms:List Str}(h4:nms.length=4){R:D}{a3 a4 a5 a6:Option D}{ws:List D}:∀(xs:List Str) (acc:List Str) (a7:Option D),(∀x∈xs,x∈nms)->(∀y∈acc,y∈nms)->∃b7,cG (.nm 7) j8 (xs.map .str) (R8 R a3 a4 a5 a6 a7) (ws,acc)=some (R8 R a3 a4 a5 a6 b7,(ws,acc++xs))
 |[],acc,a7,_,_=>⟨a7,by rw[aRT];rfl⟩
 |x::xs,acc,a7,hx,ha=>by
  have ha':∀y∈acc++[x],y∈nms:=λy hy=>by
   rcases aQ0.mp hy with h|h
   . exact ha y h
   . rw[aT2.mp h];exact hx x mcs
  obtain⟨b7,e⟩:=aB7 h4 (R:=R) (a3:=a3) (a4:=a4) (a5:=a5) (a6:=a6) (ws:=ws) xs (acc++[x]) (some (.str x)) (λy hy=>hx y (mcm hy)) ha';refine⟨b7,?_⟩;have ub:=aB6 h4 ha';have g:j8 (R8 R a3 a4 a5 a6 (some (.str x))) (ws,acc)=some (R8 R a3 a4 a5 a6 (some (.str x)),(ws,acc++[x])):=by show(if(uni (acc++[x])).length<63 then _ else _)=_;rw[if_pos (by lia)]
  have st:aP (.nm 7) (.str x) (R8 R a3 a4 a5 a6 a7)=some (R8 R a3 a4 a5 a6 (some (.str x))):=rfl;rw[aSV];unfold cG;rw[st];dsimp only;rw[if_pos no8,g];dsimp only;rw[e,aUO];rfl
abbrev pS(W:WD):FM:=eZ mH (cH (.nm 7) (evE W (.items (.var 4))) j8)
theorem aQD(h4:nms.length=4){W:WD}{P:List Tr->Prop}{R:D}{a7:Option D}{n:Int}{acc:List Str}(hx:∀x∈xs,x∈nms)(l2:tss.length<=2)(ha:∀y∈acc,y∈nms)(hw:ws.length<=100000):∃b7,pS W (R8 R a3 (some (FD' xs)) (some (.tup (tss.map rD))) (some (.int n)) a7) (ws,acc)=some (R8 R a3 (some (FD' xs)) (some (.tup (tss.map rD))) (some (.int n)) b7,(ws++tss.map rD,acc++xs)):=by
 obtain⟨b7,e⟩:=aB7 h4 (R:=R) (a3:=a3) (a4:=some (FD' xs)) (a5:=some (.tup (tss.map rD))) (a6:=some (.int n)) (ws:=ws++tss.map rD) xs acc a7 hx ha;refine⟨b7,?_⟩;have g:mH (R8 R a3 (some (FD' xs)) (some (.tup (tss.map rD))) (some (.int n)) a7) (ws,acc)=some (R8 R a3 (some (FD' xs)) (some (.tup (tss.map rD))) (some (.int n)) a7,(ws++tss.map rD,acc)):=by show(if ws.length+(tss.map rD).length<=sizeLine then _ else _)=_;rw[if_pos (by rw[aR4,aRK];lia)]
 have it:evE W (.items (.var 4)) (R8 R a3 (some (FD' xs)) (some (.tup (tss.map rD))) (some (.int n)) a7)=.ok .fz (.lst (xs.map .str)):=by rw[mV,jB];rfl
 unfold pS eZ;rw[g];dsimp only;unfold cH;rw[it];exact e
theorem uN{nms:List Str}(h4:nms.length=4){W:WD}{P:List Tr->Prop}{R:D}{a3:Option D}:∀(ts:List Tr) (ws:List D) (acc:List Str) (a4 a5 a6 a7:Option D),(∀t∈ts,∃xs tss,Tj nms P t xs tss)->(∀y∈acc,y∈nms)->ws.length+2 * ts.length<=100000->∃(b4 b5 b6 b7:Option D) (us:List (List Tr)) (xs:List Str),cG (.tp [.nm 4,.nm 5,.nm 6]) (pS W) (ts.map tD) (R8 R a3 a4 a5 a6 a7) (ws,acc)=some (R8 R a3 b4 b5 b6 b7,(ws++us.map rD,acc++xs))/\us.length<=2 * ts.length/\(∀u∈us,P u)/\(∀x∈xs,x∈nms)/\∀n y,y∈nm (n+1) ts↔y∈xs\/∃u∈us,y∈nm n u
 |[],ws,acc,a4,a5,a6,a7,_,_,_=>⟨a4,a5,a6,a7,[],[],by rw[aSW,aSW,aRT,aRT];rfl,by simp,by simp,by simp,λn y=>by rw[nC];simp⟩
 |t::ts,ws,acc,a4,a5,a6,a7,h,ha,hl=>by
  obtain⟨xs,tss,T⟩:=h t mcs;rw[aST]at hl;obtain⟨b7,e⟩:=aQD h4 (W:=W) (P:=P) (R:=R) (a3:=a3) (a7:=a7) (n:=t.2) (ws:=ws) T.hx T.l2 ha (by lia)
  have ha':∀y∈acc++xs,y∈nms:=λy hy=>(aQ0.mp hy).elim (ha y) (T.hx y);obtain⟨c4,c5,c6,c7,us,zs,e',lu,pu,hz,hm⟩:=uN h4 (W:=W) (P:=P) (R:=R) (a3:=a3) ts (ws++tss.map rD) (acc++xs) (some (FD' xs)) (some (.tup (tss.map rD))) (some (.int t.2)) b7 (λu hu=>h u (mcm hu)) ha' (by rw[aR3,aR4];have:=T.l2;lia)
  refine⟨c4,c5,c6,c7,tss++us,xs++zs,?_,by rw[aR3,aST];have:=T.l2;lia,λu hu=>(aQ0.mp hu).elim (T.hb u) (pu u),λx hx=>(aQ0.mp hx).elim (T.hx x) (hz x),λn y=>?_⟩
  . have st:aP (.tp [.nm 4,.nm 5,.nm 6]) (.tup [FD' xs,.tup (tss.map rD),.int t.2]) (R8 R a3 a4 a5 a6 a7)=some (R8 R a3 (some (FD' xs)) (some (.tup (tss.map rD))) (some (.int t.2)) a7):=rfl;rw[aSV,pR T.e1 T.e2];unfold cG;rw[st];dsimp only;rw[if_pos no8,e];dsimp only;rw[e',aWT,aUO,aUO]
  . have hm:=hm n y;rw[nC]at hm ⊢;have hl:lsN t.1.2=tss.map rN:=by rw[T.e2];rfl
    have hf:fsN t.1.1=xs:=by rw[T.e1,aB5]
    constructor
    . rintro⟨u,hu,q⟩;rcases aQZ.mp hu with rfl|hu
      . rw[hl,hf]at q;rcases q with q|⟨r,hr,q⟩
        . exact .inl (aQ1 _ q)
        . obtain⟨v,hv,rfl⟩:=aWI.mp hr;exact .inr ⟨v,aQ1 _ hv,q⟩
      . rcases hm.mp ⟨u,hu,q⟩with q|⟨v,hv,q⟩
        . exact .inl (aRJ _ q)
        . exact .inr ⟨v,aRJ _ hv,q⟩
    . rintro(q|⟨v,hv,q⟩)
      . rcases aQ0.mp q with q|q
        . exact⟨t,mcs,.inl (by rw[hf];exact q)⟩
        . obtain⟨u,hu,q⟩:=hm.mpr (.inl q);exact⟨u,mcm hu,q⟩
      . rcases aQ0.mp hv with hv|hv
        . exact⟨t,mcs,.inr ⟨_,by rw[hl];exact aWI.mpr ⟨v,hv,rfl⟩,q⟩⟩
        . obtain⟨u,hu,q⟩:=hm.mpr (.inr ⟨v,hv,q⟩);exact⟨u,mcm hu,q⟩
def cc:Nat->Nat|0=>1|j+1=>1+4 * cc j
def wt:Nat×List Tr->Nat|(0,_)=>1|(j+1,ts)=>1+2 * ts.length * cc j
def wts(es:List (Nat×List Tr)):Nat:=(es.map wt).sum
theorem aB8(e:Nat×List Tr):1<=wt e:=by
 obtain⟨j,ts⟩:=e;cases j with
 |zero=>exact aRG 1
 |succ j=>show 1<=1+_;lia
theorem aQE{ts:List Tr}(h:Bar nms j ts):wt (j,ts)<=cc j:=by
 cases j with
 |zero=>exact aRG 1
 |succ j =>
  show 1+2 * ts.length * cc j<=1+4 * cc j;have:2 * ts.length * cc j<=4 * cc j:=aW0 _ (by have:=h.1;lia)
  lia
def uO(es fs:List (Nat×List Tr)):wts (es++fs)=wts es+wts fs:=by unfold wts;rw[aWT,List.sum_append]
theorem aB9:∀(es:List (Nat×List Tr)),es.length<=wts es
 |[]=>aRG 0
 |e::es=>by have:=aB9 es;have h:=aB8 e;show es.length+1<=(wt e::es.map wt).sum;rw[List.sum_cons];have:(es.map wt).sum=wts es:=rfl;lia
theorem aCA{c:Nat}:∀{es:List (Nat×List Tr)},(∀e∈es,wt e<=c)->wts es<=es.length * c
 |[],_=>by simp[wts]
 |e::es,h=>by have:=aCA (c:=c) λx hx=>h x (mcm hx);have h1:=h e mcs;show(wt e::es.map wt).sum<=_;rw[List.sum_cons,aST,Nat.succ_mul];have:(es.map wt).sum=wts es:=rfl;lia
abbrev wsD(es:List (Nat×List Tr)):List D:=es.map λe=>rD e.2
theorem runF{nms:List Str}(h4:nms.length=4){W:WD}{R:D}:∀(w n:Nat) (es:List (Nat×List Tr)) (acc:List Str) (a3 a4 a5 a6 a7:Option D),(∀e∈es,e.2.length<64/\∀t∈e.2,VT nms e.1 t)->wts es<=w->w<n->w<=10000->(∀y∈acc,y∈nms)->∃ρ' acc',eJ (f9 W) n (R8 R a3 a4 a5 a6 a7) (wsD es,acc)=some (ρ',([],acc'))/\(∀y∈acc',y∈nms)/\∀y,y∈acc'↔y∈acc\/∃e∈es,y∈nm (e.1+1) e.2
 |w,0,es,acc,a3,a4,a5,a6,a7,_,_,hn,_,_=>by lia
 |w,n+1,es,acc,a3,a4,a5,a6,a7,h,hw,hn,hw2,ha=>by
  rcases List.eq_nil_or_concat es with rfl|⟨es,e,rfl⟩
  . exact⟨_,acc,rfl,ha,λy=>by simp⟩
  . rw[List.concat_eq_append]at h hw ⊢;obtain⟨j,ts⟩:=e;have ht:=h (j,ts) (aRJ _ mcs);have hes:∀e∈es,e.2.length<64/\∀t∈e.2,VT nms e.1 t:=λe he=>h e (aQ1 _ he);rw[uO]at hw;have hw1:wts [(j,ts)]=wt (j,ts):=by simp[wts]
    have le:=aB9 es;have wp:=aB8 (j,ts);have emp:(wsD (es++[(j,ts)])).isEmpty=false:=by simp[wsD]
    have gp:mJ (R8 R a3 a4 a5 a6 a7) (wsD (es++[(j,ts)]),acc)=some (R8 R (some (rD ts)) a4 a5 a6 a7,(wsD es,acc)):=by
     have e1:wsD (es++[(j,ts)])=wsD es++[rD ts]:=by simp[wsD]
     rw[e1];unfold mJ;dsimp only;rw[List.getLast?_concat,List.dropLast_concat];rfl
    have it:∀{b4 b5 b6 b7:Option D},evE W (.items (.var 3)) (R8 R (some (rD ts)) b4 b5 b6 b7)=.ok .fz (.lst (ts.map tD)):=λ{b4 b5 b6 b7}=>by rw[mV,jB];rfl
    have step:∃(fs:List (Nat×List Tr)) (xs:List Str) (b4 b5 b6 b7:Option D),cG (.tp [.nm 4,.nm 5,.nm 6]) (pS W) (ts.map tD) (R8 R (some (rD ts)) a4 a5 a6 a7) (wsD es,acc)=some (R8 R (some (rD ts)) b4 b5 b6 b7,(wsD es++wsD fs,acc++xs))/\wts fs+1<=wt (j,ts)/\(∀e∈fs,e.2.length<64/\∀t∈e.2,VT nms e.1 t)/\(∀x∈xs,x∈nms)/\∀y,y∈nm (j+1) ts↔y∈xs\/∃e∈fs,y∈nm (e.1+1) e.2:=by
     have lw:(wsD es).length+2 * ts.length<=100000:=by rw[aR4];have l63:ts.length<64:=ht.1;lia
     cases j with
     |zero =>
      obtain⟨b4,b5,b6,b7,us,xs,e,lu,pu,hx,hm⟩:=uN h4 (W:=W) (P:=λ_=>False) (R:=R) (a3:=some (rD ts)) ts (wsD es) acc a4 a5 a6 a7 (λt h'=>by obtain⟨xs,T⟩:=tj0 (ht.2 t h') (λ_=>False);exact⟨xs,[],T⟩) ha lw
      have u0:us=[]:=by
       cases us with
       |nil=>rfl
       |cons u us=>exact(pu u mcs).elim
      subst u0;exact⟨[],xs,b4,b5,b6,b7,e,aRG 1,(λe he=>nomatch he),hx,λy=>by rw[hm 0 y];simp⟩
     |succ j =>
      obtain⟨b4,b5,b6,b7,us,xs,e,lu,pu,hx,hm⟩:=uN h4 (W:=W) (P:=Bar nms j) (R:=R) (a3:=some (rD ts)) ts (wsD es) acc a4 a5 a6 a7 (λt h'=>tj1 (ht.2 t h')) ha lw;refine⟨us.map λu=>(j,u),xs,b4,b5,b6,b7,?_,?_,λe he=>?_,hx,λy=>?_⟩
      . rw[e];simp[wsD,aV9,Function.comp_def]
      . have l1:=aCA (c:=cc j) (es:=us.map λu=>(j,u)) λe he=>by obtain⟨u,hu,rfl⟩:=aWI.mp he;exact aQE (pu u hu)
        rw[aR4]at l1;have l2:us.length * cc j<=2 * ts.length * cc j:=aW0 _ lu;show _+1<=1+2 * ts.length * cc j;lia
      . obtain⟨u,hu,rfl⟩:=aWI.mp he;exact⟨aWL (pu u hu).1 (by decide),(pu u hu).2⟩
      . rw[hm (j+1) y];constructor
        . rintro(q|⟨u,hu,q⟩)
          . exact .inl q
          . exact .inr ⟨(j,u),aWI.mpr ⟨u,hu,rfl⟩,q⟩
        . rintro(q|⟨e,he,q⟩)
          . exact .inl q
          . obtain⟨u,hu,rfl⟩:=aWI.mp he;exact .inr ⟨u,hu,q⟩
    obtain⟨fs,xs,b4,b5,b6,b7,ef,wf,hf,hx,hm⟩:=step;have e1:wsD es++wsD fs=wsD (es++fs):=by simp[wsD]
    rw[e1]at ef;obtain⟨ρ',acc',er,hr,hm'⟩:=runF h4 (W:=W) (R:=R) (wts (es++fs)) n (es++fs) (acc++xs) (some (rD ts)) b4 b5 b6 b7 (λe he=>(aQ0.mp he).elim (hes e) (hf e)) (aRG _) (by rw[uO];lia) (by rw[uO];lia) (λy hy=>(aQ0.mp hy).elim (ha y) (hx y))
    refine⟨ρ',acc',?_,hr,λy=>?_⟩
    . have g1:f9 W (R8 R a3 a4 a5 a6 a7) (wsD (es++[(j,ts)]),acc)=some (R8 R (some (rD ts)) b4 b5 b6 b7,(wsD (es++fs),acc++xs)):=by unfold f9 eZ;rw[gp];dsimp only;unfold cH;rw[it];exact ef
      unfold eJ;dsimp only;rw[emp,if_neg aRA,g1];exact er
    . rw[hm' y,aQ0];constructor
      . rintro((q|q)|⟨e,he,q⟩)
        . exact .inl q
        . exact .inr ⟨(j,ts),aRJ _ mcs,(hm y).mpr (.inl q)⟩
        . rcases aQ0.mp he with he|he
          . exact .inr ⟨e,aQ1 _ he,q⟩
          . exact .inr ⟨(j,ts),aRJ _ mcs,(hm y).mpr (.inr ⟨e,he,q⟩)⟩
      . rintro(q|⟨e,he,q⟩)
        . exact .inl (.inl q)
        . rcases aQ0.mp he with he|he
          . exact .inr ⟨e,aQ1 _ he,q⟩
          . cases aT2.mp he;rcases(hm y).mp q with q|⟨e,he,q⟩
            . exact .inl (.inr q)
            . exact .inr ⟨e,aRJ _ he,q⟩
def aQF{W:WD}:evB W [.fin]=gW (f9 W):=by
 funext ρ;show(gW (f9 W) ρ).thn (evB W [])=_;unfold gW;split
 . split
   . split
     . split <;> rfl
     . rfl
   . rfl
 . rfl
theorem aQG{nms:List Str}(h4:nms.length=4){S:List Tr}(h:∀t∈S,VT nms 2 t)(hl:S.length<64)(k:Nat):∃acc:List Str,(∀y∈acc,y∈nms)/\(∀y,y∈acc↔y∈nm 3 S)/\(WT TT (k+1)).Φ "facts_in" [rD S]=.ok .fr (.lst ((uni acc).map .str)):=by
 have w:wts [(2,S)]<=1000:=by show(1+2 * S.length * 5)+0<=1000;lia
 obtain⟨ρ',acc,e,hn,hm⟩:=runF h4 (W:=WT TT k) (R:=rD S) 1000 1000000 [(2,S)] [] none none none none none (λe he=>by cases aT2.mp he;exact⟨hl,h⟩) w (by decide) (by decide) (λy hy=>nomatch hy)
 refine⟨acc,hn,λy=>by rw[hm y];simp,?_⟩
 have ub:=aB6 h4 hn;rw[aOL];have ev:evB (WT TT k) pA [some (false,rD S),none,none,none,none,none,none,none]=.rt .fr (.lst ((uni acc).map .str)):=by
  show evB (WT TT k) [.fin] _=_;rw[aQF];have e:eJ (f9 (WT TT k)) 1000000 [some (false,rD S),none,none,none,none,none,none,none] ([rD S],[])=some (ρ',([],acc)):=e;show(match eJ (f9 (WT TT k)) 1000000 [some (false,rD S),none,none,none,none,none,none,none] ([rD S],[])with|some (_,z)=>if(uni z.2).length<64 then aG.rt .fr (.lst ((uni z.2).map .str))else .stuck|none=>.stuck)=_
  rw[e];dsimp only;rw[if_pos (by lia)]
 show phi 1 8 _ [rD S]=_;unfold phi;rw[if_pos (show[rD S].length=1 from rfl)]
 show endR (evB (WT TT k) pA [some (false,rD S),none,none,none,none,none,none,none])=_;rw[ev];rfl
def KOk(nms:List Str)(kvs:KD)(ks:List Str):Prop:=kvs.map (·.1)=ks.map .inr/\ks.Nodup/\∀k∈ks,k∈nms
theorem KOk.len(h4:nms.length=4){kvs:KD}{ks:List Str}(h:KOk nms kvs ks):ks.length<=4/\kvs.length<=4:=by
 have l:ks.length<=4:=by rw[<- h4];exact mD h.2.1 h.2.2
 have:=congrArg List.length h.1;rw[aR4,aR4]at this;lia
def KOk.put{kvs:KD}{ks:List Str}{d:D}(h:KOk nms kvs ks)(hx:x∈nms):∃ks',KOk nms (gO kvs (.inr x) d) ks'/\∀y,y∈ks'↔y∈ks\/y=x:=by
 unfold gO;have hk:∀y,(∃kv∈kvs,kv.1=.inr y)↔y∈ks:=λy=>by
  have e:(Sum.inr y:Key)∈kvs.map (·.1)↔y∈ks:=by
   rw[h.1,aWI];constructor
   . rintro⟨z,hz,e⟩;cases e;exact hz
   . exact λhy=>⟨y,hy,rfl⟩
  rw[<- e,aWI]
 by_cases q:x∈ks
 . have:(kvs.any λkv=>decide (kv.1=.inr x))=true:=by obtain⟨kv,h1,h2⟩:=(hk x).mpr q;exact aWS.mpr ⟨kv,h1,aSS h2⟩
   rw[if_pos this];refine⟨ks,⟨?_,h.2⟩,λy=>⟨.inl,λz=>z.elim id λe=>e ▸ q⟩⟩;rw[<- h.1,aV9];refine aWJ λkv _=>?_;show(if kv.1=.inr x then(kv.1,d)else kv).1=kv.1;split <;> rfl
 . have:¬ (kvs.any λkv=>decide (kv.1=.inr x))=true:=λz=>by obtain⟨kv,h1,h2⟩:=aWS.mp z;exact q ((hk x).mp ⟨kv,h1,aTD h2⟩)
   rw[if_neg this];refine⟨ks++[x],⟨by rw[aWT,aWT,h.1];rfl,?_,λk hk=>?_⟩,λy=>by simp⟩
   . rw[aUE];refine⟨h.2.1,by simp,λu hu v hv=>?_⟩
     rw[aT2.mp hv];exact λe=>q (e ▸ hu)
   . rcases aQ0.mp hk with hk|hk
     . exact h.2.2 k hk
     . rw[aT2.mp hk];exact hx
abbrev R7(R:D)(a2 a3 a4 a5 a6:Option D):Rho:=[some (false,R),none,sl a2,sl a3,sl a4,sl a5,sl a6]
def no7{R:D}{a2 a4 a5 a6:Option D}:iB (R7 R a2 a3 a4 a5 a6)=true:=by cases a2 <;> cases a3 <;> cases a4 <;> cases a5 <;> cases a6 <;> rfl
theorem aCB{nms:List Str}(h4:nms.length=4){R:D}{a2 a3 a6:Option D}{n:D}:∀(xs:List Str) (kvs:KD) (ks:List Str) (a5:Option D),(∀x∈xs,x∈nms)->KOk nms kvs ks->∃b5 kvs' ks',cG (.nm 5) i9 (xs.map .str) (R7 R a2 a3 (some n) a5 a6) kvs=some (R7 R a2 a3 (some n) b5 a6,kvs')/\KOk nms kvs' ks'/\∀y,y∈ks'↔y∈ks\/y∈xs
 |[],kvs,ks,a5,_,hk=>⟨a5,kvs,ks,rfl,hk,λy=>by simp⟩
 |x::xs,kvs,ks,a5,hx,hk=>by
  obtain⟨ks1,k1,m1⟩:=hk.put (d:=n) (hx x mcs);obtain⟨b5,kvs',ks',e,k2,m2⟩:=aCB h4 (R:=R) (a2:=a2) (a3:=a3) (a6:=a6) (n:=n) xs (gO kvs (.inr x) n) ks1 (some (.str x)) (λy hy=>hx y (mcm hy)) k1;refine⟨b5,kvs',ks',?_,k2,λy=>by rw[m2 y,m1 y,aQZ,or_assoc]⟩
  have l:=(hk.len h4).2;have g:i9 (R7 R a2 a3 (some n) (some (.str x)) a6) kvs=some (R7 R a2 a3 (some n) (some (.str x)) a6,gO kvs (.inr x) n):=by show(if kvs.length<sizeLine then _ else _)=_;rw[if_pos (by rw[aRK];lia)]
  have st:aP (.nm 5) (.str x) (R7 R a2 a3 (some n) a5 a6)=some (R7 R a2 a3 (some n) (some (.str x)) a6):=rfl;rw[aSV];unfold cG;rw[st];dsimp only;rw[if_pos no7,g];exact e
def jF(nms:List Str)(Ψ:D->KD->Option KD)(n:Nat)(u:List Tr):Prop:=∀(kvs:KD) (ks:List Str),KOk nms kvs ks->∃kvs' ks',Ψ (rD u) kvs=some kvs'/\KOk nms kvs' ks'/\∀y,y∈ks'↔y∈ks\/y∈nm n u
theorem aCC{nms:List Str}{Ψ:D->KD->Option KD}{n:Nat}{R:D}{a2 a3 a4 a5:Option D}:∀(tss:List (List Tr)) (kvs:KD) (ks:List Str) (a6:Option D),(∀u∈tss,jF nms Ψ n u)->KOk nms kvs ks->∃b6 kvs' ks',cG (.nm 6) (kA Ψ) (tss.map rD) (R7 R a2 a3 a4 a5 a6) kvs=some (R7 R a2 a3 a4 a5 b6,kvs')/\KOk nms kvs' ks'/\∀y,y∈ks'↔y∈ks\/∃u∈tss,y∈nm n u
 |[],kvs,ks,a6,_,hk=>⟨a6,kvs,ks,rfl,hk,λy=>by simp⟩
 |u::tss,kvs,ks,a6,hu,hk=>by
  obtain⟨kv1,ks1,e1,k1,m1⟩:=hu u mcs kvs ks hk;obtain⟨b6,kvs',ks',e,k2,m2⟩:=aCC (R:=R) (a2:=a2) (a3:=a3) (a4:=a4) (a5:=a5) tss kv1 ks1 (some (rD u)) (λv hv=>hu v (mcm hv)) k1;refine⟨b6,kvs',ks',?_,k2,λy=>by rw[m2 y,m1 y,or_assoc];simp⟩
  have g:kA Ψ (R7 R a2 a3 a4 a5 (some (rD u))) kvs=some (R7 R a2 a3 a4 a5 (some (rD u)),kv1):=by show(Ψ (rD u) kvs).map _=_;rw[e1];rfl
  have st:aP (.nm 6) (rD u) (R7 R a2 a3 a4 a5 a6)=some (R7 R a2 a3 a4 a5 (some (rD u))):=rfl;rw[aSV];unfold cG;rw[st];dsimp only;rw[if_pos no7,g];exact e
abbrev pT(W:WD)(Ψ:D->KD->Option KD):FMz KD:=eZ (cH (.nm 5) (evE W (.items (.var 2))) i9) (cH (.nm 6) (evE W (.items (.var 3))) (kA Ψ))
def aQH(h4:nms.length=4){W:WD}{R:D}{a5 a6:Option D}{i:Int}{kvs:KD}{ks:List Str}(hx:∀x∈xs,x∈nms)(hb:∀u∈tss,jF nms Ψ n u)(hk:KOk nms kvs ks):∃b5 b6 kvs' ks',pT W Ψ (R7 R (some (FD' xs)) (some (.tup (tss.map rD))) (some (.int i)) a5 a6) kvs=some (R7 R (some (FD' xs)) (some (.tup (tss.map rD))) (some (.int i)) b5 b6,kvs')/\KOk nms kvs' ks'/\∀y,y∈ks'↔(y∈ks\/y∈xs)\/∃u∈tss,y∈nm n u:=by
 obtain⟨b5,kv1,ks1,e1,k1,m1⟩:=aCB h4 (R:=R) (a2:=some (FD' xs)) (a3:=some (.tup (tss.map rD))) (a6:=a6) (n:=.int i) xs kvs ks a5 hx hk;obtain⟨b6,kv2,ks2,e2,k2,m2⟩:=aCC (R:=R) (a2:=some (FD' xs)) (a3:=some (.tup (tss.map rD))) (a4:=some (.int i)) (a5:=b5) tss kv1 ks1 a6 hb k1;refine⟨b5,b6,kv2,ks2,?_,k2,λy=>by rw[m2 y,m1 y]⟩
 have i1:evE W (.items (.var 2)) (R7 R (some (FD' xs)) (some (.tup (tss.map rD))) (some (.int i)) a5 a6)=.ok .fz (.lst (xs.map .str)):=by rw[mV,jB];rfl
 have i2:evE W (.items (.var 3)) (R7 R (some (FD' xs)) (some (.tup (tss.map rD))) (some (.int i)) b5 a6)=.ok .fz (.lst (tss.map rD)):=by rw[mV,jB];rfl
 have f1:cH (.nm 5) (evE W (.items (.var 2))) i9 (R7 R (some (FD' xs)) (some (.tup (tss.map rD))) (some (.int i)) a5 a6) kvs=some (R7 R (some (FD' xs)) (some (.tup (tss.map rD))) (some (.int i)) b5 a6,kv1):=by unfold cH;rw[i1];exact e1
 unfold pT eZ;rw[f1];dsimp only;unfold cH;rw[i2];exact e2
theorem aCD{nms:List Str}(h4:nms.length=4){W:WD}{Ψ:D->KD->Option KD}{n:Nat}{R:D}:∀(ts:List Tr) (kvs:KD) (ks:List Str) (a2 a3 a4 a5 a6:Option D),(∀t∈ts,∃xs tss,Tj nms (jF nms Ψ n) t xs tss)->KOk nms kvs ks->∃b2 b3 b4 b5 b6 kvs' ks',cG (.tp [.nm 2,.nm 3,.nm 4]) (pT W Ψ) (ts.map tD) (R7 R a2 a3 a4 a5 a6) kvs=some (R7 R b2 b3 b4 b5 b6,kvs')/\KOk nms kvs' ks'/\∀y,y∈ks'↔y∈ks\/y∈nm (n+1) ts
 |[],kvs,ks,a2,a3,a4,a5,a6,_,hk=>⟨a2,a3,a4,a5,a6,kvs,ks,rfl,hk,λy=>by rw[nC];simp⟩
 |t::ts,kvs,ks,a2,a3,a4,a5,a6,h,hk=>by
  obtain⟨xs,tss,T⟩:=h t mcs;obtain⟨b5,b6,kv1,ks1,e1,k1,m1⟩:=aQH h4 (W:=W) (R:=R) (a5:=a5) (a6:=a6) (i:=t.2) T.hx T.hb hk;obtain⟨c2,c3,c4,c5,c6,kv2,ks2,e2,k2,m2⟩:=aCD h4 (W:=W) (Ψ:=Ψ) (n:=n) (R:=R) ts kv1 ks1 (some (FD' xs)) (some (.tup (tss.map rD))) (some (.int t.2)) b5 b6 (λu hu=>h u (mcm hu)) k1;refine⟨c2,c3,c4,c5,c6,kv2,ks2,?_,k2,λy=>?_⟩
  . have st:aP (.tp [.nm 2,.nm 3,.nm 4]) (.tup [FD' xs,.tup (tss.map rD),.int t.2]) (R7 R a2 a3 a4 a5 a6)=some (R7 R (some (FD' xs)) (some (.tup (tss.map rD))) (some (.int t.2)) a5 a6):=rfl;rw[aSV,pR T.e1 T.e2];unfold cG;rw[st];dsimp only;rw[if_pos no7,e1];exact e2
  . have hl:lsN t.1.2=tss.map rN:=by rw[T.e2];rfl
    have hf:fsN t.1.1=xs:=by rw[T.e1,aB5]
    rw[m2 y,m1 y,nC,nC];constructor
    . rintro(((q|q)|⟨u,hu,q⟩)|⟨u,hu,q⟩)
      . exact .inl q
      . exact .inr ⟨t,mcs,.inl (by rw[hf];exact q)⟩
      . exact .inr ⟨t,mcs,.inr ⟨_,by rw[hl];exact aWI.mpr ⟨u,hu,rfl⟩,q⟩⟩
      . exact .inr ⟨u,mcm hu,q⟩
    . rintro(q|⟨u,hu,q⟩)
      . exact .inl (.inl (.inl q))
      . rcases aQZ.mp hu with rfl|hu
        . rw[hf,hl]at q;rcases q with q|⟨r,hr,q⟩
          . exact .inl (.inl (.inr q))
          . obtain⟨v,hv,rfl⟩:=aWI.mp hr;exact .inl (.inr ⟨v,hv,q⟩)
        . exact .inr ⟨u,hu,q⟩
def ms_eq(k:Nat):(WT TT (k+1)).Ms "_law_seen" = kC (mN (WT TT k) "_law_seen"):=by
 rw[zW];unfold MsF;rw[show TT.T.lookup ("_law_seen":Str)=some aAW from rfl]
 rfl
def Tj.imp{P Q:List Tr->Prop}{t:Tr}(h:Tj nms P t xs tss)(i:∀u,P u->Q u):Tj nms Q t xs tss:=⟨h.e1,h.e2,h.hx,h.l2,λu hu=>i u (h.hb u hu)⟩
def aCE(h4:nms.length=4){k:Nat}{ts:List Tr}(h:∀t∈ts,∃xs tss,Tj nms (jF nms ((WT TT k).Ms "_law_seen") n) t xs tss):jF nms ((WT TT (k+1)).Ms "_law_seen") (n+1) ts:=λkvs ks hk=>by
 obtain⟨b2,b3,b4,b5,b6,kv,ks',e,k',m⟩:=aCD h4 (W:=WT TT k) (R:=rD ts) ts kvs ks none none none none none h hk;refine⟨kv,ks',?_,k',m⟩;rw[ms_eq];unfold kC mN;have it:evE (WT TT k) (.items (.var 0)) (kB (rD ts))=.ok .fz (.lst (ts.map tD)):=by rw[mV,jB];rfl
 have f:cH (.tp [.nm 2,.nm 3,.nm 4]) (evE (WT TT k) (.items (.var 0))) (pT (WT TT k) ((WT TT k).Ms "_law_seen")) (kB (rD ts)) kvs=some (R7 (rD ts) b2 b3 b4 b5 b6,kv):=by unfold cH;rw[it];exact e
 rw[f];rfl
theorem aCF{nms:List Str}(h4:nms.length=4)(m:Nat):∀(j:Nat) {ts:List Tr},(∀t∈ts,VT nms j t)->jF nms ((WT TT (m+j+1)).Ms "_law_seen") (j+1) ts
 |0,ts,h=>aCE h4 λt ht=>by obtain⟨xs,T⟩:=tj0 (h t ht) (jF nms ((WT TT (m+0)).Ms "_law_seen") 0);exact⟨xs,[],T⟩
 |j+1,ts,h=>aCE h4 λt ht=>by obtain⟨xs,tss,T⟩:=tj1 (h t ht);exact⟨xs,tss,T.imp λu hu=>aCF h4 m j hu.2⟩
theorem aCG:∀{kvs:KD}{ks:List Str},kvs.map (·.1)=ks.map .inr->txK kvs=some ks
 |[],[],_=>rfl
 |[],_::_,h=>by cases h
 |_::_,[],h=>by cases h
 |(k,d)::kvs,x::ks,h=>by
  rw[aSV,aSV]at h;injection h with h1 h2
  have h1:k=.inr x:=h1;subst h1;show(txK kvs).map _=_;rw[aCG h2];rfl
def aQI{l:List Str}(nd:l.Nodup):iV (aX l):=by
 have so:=oX l;have nd:=(fZ l).nodup_iff.mpr nd;refine(so.and nd).imp λ{a b} h=>?_;obtain⟨h1,h2⟩:=h;cases q:lts a b with
 |true=>rfl
 |false=>exact absurd (jZ q h1) h2
theorem aQJ{m:Nat}(hl:xs.length<1000):(WT TT (m+2)).Φ "_law_alike" [.lst (xs.map .str),.lst (xs.map .str)]=.ok .fz (.bl true):=by
 have ln:eT [(.fz,.lst (xs.map .str))]=some (.fz,.int xs.length):=by show some (Md.fz,D.int ((xs.map D.str).length:Nat))=_;rw[aR4]
 have rg:=aBO (n:=(xs.length:Int)) (by lia) (by lia)
 obtain⟨ρ',e1,x,rfl⟩:=uE (k:=aP (.nm 2)) (body:=evB (WT TT (m+1)) gX) (λρ=>∃x,ρ=[some (false,.lst (xs.map .str)),some (false,.lst (xs.map .str)),x]) (bZ 0 xs.length) [some (false,.lst (xs.map .str)),some (false,.lst (xs.map .str)),none] ⟨none,rfl⟩ (λd hd ρ hρ=>by
  obtain⟨x,rfl⟩:=hρ;unfold bZ at hd;obtain⟨j,hj,rfl⟩:=aWI.mp hd;rw[aQU]at hj;have hj:j<xs.length:=by lia
  rw[aWV];refine⟨[some (false,.lst (xs.map .str)),some (false,.lst (xs.map .str)),some (false,.int j)],rfl,⟨_,rfl⟩,?_⟩;have ix:op2 ixD (.ok .fz (.lst (xs.map .str))) (.ok .fz (.int (j:Int)))=.ok .fz (.str xs[j]):=kU (lC (by rw[aR1,aTP hj];rfl))
  have al:=fO (pP (x:=xs[j]) (m:=m));generalize D.lst (xs.map .str)=A at *;generalize D.str xs[j]=B at *;simp[gX,ix,al])
 have i2:cL [(.fz,.lst (xs.map .str)),(.fz,.ty "bool")]=some (.fz,.bl false):=rfl;have i3:cL [(.fz,.lst (xs.map .str)),(.fz,.ty "int")]=some (.fz,.bl false):=rfl;have i4:cL [(.fz,.lst (xs.map .str)),(.fz,.ty "str")]=some (.fz,.bl false):=rfl;have i5:cL [(.fz,.lst (xs.map .str)),(.fz,.ty "tuple")]=some (.fz,.bl false):=rfl;have i6:cL [(.fz,.lst (xs.map .str)),(.fz,.ty "list")]=some (.fz,.bl true):=rfl;have nn:dL (.lst (xs.map .str))=false:=rfl;generalize bZ 0 xs.length=RG at *;generalize (xs.length:Int)=LN at *;rw[pF];refine dB rfl ?_;show evB _ bL [some (false,.lst (xs.map .str)),some (false,.lst (xs.map .str)),none]=_;have split:bL=bL.take 4++((bL.drop 4).take 1++bL.drop 5):=rfl;rw[split,iE];have p1:evB (WT TT (m+1)) (bL.take 4) [some (false,.lst (xs.map .str)),some (false,.lst (xs.map .str)),none]=.nx [some (false,.lst (xs.map .str)),some (false,.lst (xs.map .str)),none]:=by
  clear e1 rg ln i5 i6
  generalize D.lst (xs.map .str)=A at *;simp[bL,i2,i3,i4,Ty.id,nn]
 have p2:evB (WT TT (m+1)) ((bL.drop 4).take 1) [some (false,.lst (xs.map .str)),some (false,.lst (xs.map .str)),none]=.nx [some (false,.lst (xs.map .str)),some (false,.lst (xs.map .str)),none]:=by
  clear e1 rg i2 i3 i4 nn
  generalize D.lst (xs.map .str)=A at *;simp[bL,i5,i6,Ty.id,ln]
 have p3:evB (WT TT (m+1)) (bL.drop 5) [some (false,.lst (xs.map .str)),some (false,.lst (xs.map .str)),none]=.rt .fz (.bl true):=by
  clear i2 i3 i4 i5 i6 nn p1 p2
  show evB (WT TT (m+1)) [.for (.rng1 (.bcall .len [(.var 1)])) (.nm 2) gX,.ret (.bl true)] _=_;generalize gX=LB at *;generalize D.lst (xs.map .str)=A at *;simp[ln,rg,dI,e1]
 rw[p1,aG.thn_nx,iE,p2,aG.thn_nx,p3]
def kk:Nat:=20
def aCH{k:Nat}{ts:List Tr}(h:(WT TT k).Φ "shown_reason" [rD ts]=.ok .fz (.str z)):fW (WT TT (k+1)).cl (WT TT (k+1)).Φ "shown" (.ok .fz (.ins "Reasons" [])) (.ok [(.fz,rD ts)])=.ok .fz (.str z):=by rw[mP];rw[aOU];refine fO ?_;rw[aOS];refine dB rfl ?_;have c:=kJ h;show evB _ pE [some (false,.ins "Reasons" []),some (false,rD ts)]=_;generalize rD ts=R at *;simp[pE,c]
def aQK{W:WD}{NS CS X:List D}{M R:D}{p:Int}(c0:bI 2 (W.Φ "_law_cell_at") (.ok [(.fz,.lst NS),(.fz,.int 0)])=.ok .fz (.int p))(en:bI 2 (W.Φ "_law_names") (.ok [(.fz,.int p),(.fz,.int 4)])=.ok .fr M)(s2:∀ρ,slP (.ok .fz (.lst NS)) (some (evE W (.int 1))) (some (evE W (.int 60))) ρ=.ok .fr (.lst CS))(eS:bI 2 (W.Φ "_law_reason") (.ok [(.fz,.lst CS),(.fz,M)])=.ok .fz R)(sn:kD (W.Ms "_law_seen") (.ok .fz R)=.ok .fr (.lst X))(m1:fW W.cl W.Φ "shown" (.ok .fz (.ins "Reasons" [])) (.ok [(.fz,R)])=.ok .fz (.str z))(m2:bI 1 (W.Φ "_law_shown") (.ok [(.fz,R)])=.ok .fz (.str z))(a1:bI 2 (W.Φ "_law_alike") (.ok [(.fz,.str z),(.fz,.str z)])=.ok .fz (.bl true))(ef:bI 1 (W.Φ "facts_in") (.ok [(.fz,R)])=.ok .fr (.lst X))(al:bI 2 (W.Φ "_law_alike") (.ok [(.fz,.lst X),(.fz,.lst X)])=.ok .fz (.bl true))(m3:fW W.cl W.Φ "shown" (.ok .fz (.ins "Reasons" [])) (.ok [(.fz,.tup [])])=.ok .fz (.str "0"))(a0:bI 2 (W.Φ "_law_alike") (.ok [(.fz,.str "0"),(.fz,.str "0")])=.ok .fz (.bl true)):evB W m5 [some (false,.lst NS),none,none,none]=.rt .fz (.bl true):=by simp[m5,c0,en,s2,eS,sn,m1,m2,a1,ef,al,m3,a0,gB]
theorem main(ns:List Int)(h:ns.length<=63):(WT TT (kk+1)).Φ ("law":Str) (n9 ns)=.ok .fz (.bl true):=by
 have c0:=cellC 19 ns (i:=0) (by decide)
 obtain⟨nms,h4,hN,hd,en⟩:=names (k:=19) (ce ns 0);have en:=aPW en;have h40:∀s∈nms,s.length<=40:=λs hs=>(hN s hs).2.2;obtain⟨cs,lc,ec⟩:=aPU (ns:=ns) (lo:=some 1) (hi:=some 60);obtain⟨S,lS,hS,eS⟩:=aPZ (k:=16) h4 cs (by lia)
 have eS:=fO eS;obtain⟨z,sh⟩:=aQC h40 hS lS;have m1:=aCH (k:=19) (sh 16).1;have m2:=kJ (sh 17).2;have m3:=aCH (k:=19) (ts:=[]) (z := "0") (by
  exact uM (m:=18) (b:=0) .nil (by simp) (λz hz=>nomatch hz) (by decide) |>.1)
 obtain⟨acc,ha,hm,ef⟩:=aQG h4 hS lS 19;obtain⟨kvs,ks,eK,kK,mK⟩:=aCF h4 17 2 hS [] [] ⟨rfl,aUF,λk hk=>nomatch hk⟩;have l4:=(kK.len h4).1;have eq:uni acc=aX ks:=oM (j0 acc) (aQI kK.2.1) λy=>by rw[gP,(fZ ks).mem_iff,hm y,mK y];simp
 have ef:=aBP (n:=1) (xs:=[(.fz,rD S)]) (ds:=[rD S]) rfl rfl ef;rw[eq]at ef;have al:=fO (aQJ (xs:=aX ks) (m:=18) (by rw[uD];lia))
 have a1:=fO (pP (x:=z) (m:=19));have a0:=fO (pP (x := "0") (m:=19));have sn:∀m:Md,m=.fz->kD ((WT TT 20).Ms "_law_seen") (.ok m (rD S))=.ok .fr (.lst ((aX ks).map .str)):=λm hm=>by
  subst hm;show(match(WT TT 20).Ms "_law_seen" (rD S) []with|some kvs=>(match txK kvs with|some ks=>if ks.length<64 then Res.ok .fr (.lst ((aX ks).map .str))else .stuck|none=>.stuck)|none=>.stuck)=_
  rw[show(WT TT 20).Ms "_law_seen" (rD S) []=some kvs from eK]
  dsimp only;rw[aCG kK.1];dsimp only;rw[if_pos (by lia)]
 have sn:=sn .fz rfl;rw[u_law];refine dB rfl ?_;show evB (WT TT 20) m5 [some (false,.lst (ns.map .int)),none,none,none]=_;have s2:∀ρ,slP (.ok .fz (.lst (ns.map .int))) (some (evE (WT TT 20) (.int 1))) (some (evE (WT TT 20) (.int 60))) ρ=.ok .fr (.lst (cs.map .int)):=λρ=>by rw[aPV (m1:=.fz) (m2:=.fz) (i:=1) (j:=60) (by simp) (by simp),ec]
 exact aQK c0 en s2 eS sn m1 m2 a1 ef al m3 a0
end K27
namespace K27
open PySem.W Tp
def tw:Prod.fst (true,aW7)=true:=by k_qdec
noncomputable def as:List Addr:=[2,3,15,17,18,20,21,22,25,26,27,29,30,32,33,41,43,44,46,47,48,49,50,51,52,55,58,59,60,67,69,70,72,73,74,76,77,79,80,81,83,84,86,87,88,91,92,93,95,96,98,99,100,103,104,105,107,108,110,111,112,114,115,117,118,119,120,121,124,126,127,129,130,131,133,134,136,137,138,140,141,143,144,145,148,149,150,152,153,155,156,157,160,161,162,164,165,167,168,169,171,172,174,175,176,178,179,181,182,183,185,186,188,189,190,192,193,195,196,197,200,201,202,204,205,207,208,209,212,213,214,217,218,219,221,222,224,225,226,228,229,231,232,233,235,236,238,239,240,242,243,245,246]
noncomputable def ts:List Addr:=[16,23,28,42,56,68,75,82,89,94,101,106,113,125,132,139,146,151,158,163,170,177,184,191,198,203,210,215,220,227,234,241]
def pre(w:aW5)(os:OsState):topGo treeTable aW7 w 11 an 12 ⟨boot_heap w.params,#[],boot_drawn,boot_toks,os⟩ (topStub aW7)=some ((sh w.params (sA w.params) 15 187 os).abs,⟨denote treeTable (cd aW7),cd aW7,z0,[topFrame z0]⟩):=by
 rw[aW7,Fast.te8627214600987605799,Fast.te203182992438928480,Fast.te13144403056285818395,Fast.te15667345088766844465,Fast.te14364793385576792824,Fast.te11892475500146522536]
 kernel_rfl
def blk(w:aW5)(s:aW3):segRun treeTable aW7 w 11 an 1 1 s (blockOf aW7.main.body (ev aW7) (cd aW7) z0 [topFrame z0])=some (.next,s,cd aW7,z0):=by kernel_rfl
def run(w:aW5)(os:OsState):go treeTable aW7 w 1000 aW7.main.body (sh w.params (sA w.params) 15 187 os) (cd aW7) z0=some (sh w.params (lay w.params aW7.main.body (sA w.params)) 247 514 os,cd aW7,⟨207,0,213,100⟩):=by
 rw[aW7,Fast.te8627214600987605799,Fast.te203182992438928480,Fast.te13144403056285818395,Fast.te5678740263434597267,Fast.te14364793385576792824,Fast.te10212481707522018265]
 kernel_rfl
def uP(w:aW5):(λos=>((staticsOk (importedModules aW7.main.body) (boot_heap w.params) (H1 aW7.main.body 247 w.params)&&namesBound aW7 (H1 aW7.main.body 247 w.params)&&gensDone (S1 aW7.main.body 247 514 w.params os)&&laidKept (boot_heap w.params) (H1 aW7.main.body 247 w.params)),openSeen (vw aW7) (los aW7.main.body) (importedModules aW7.main.body) (xt PySem.Challenge.rw_whencewise_k27_reasons_shown.row) true (S1 aW7.main.body 247 514 w.params os),(hk aW7.main.body (as++ts)).obs (S1 aW7.main.body 247 514 w.params os)))=λ_=>(true,openGood (vw aW7) (los aW7.main.body),(hk aW7.main.body (as++ts)).val w):=by
 rw[aW7,Fast.te14387180822208032119,Fast.te8627214600987605799,Fast.te5923862056798008813,Fast.te9407923862454927560,Fast.te15884229538025494872,Fast.te4187177175401517315,Fast.te18076920544200396443,Fast.te9318435048543301240,Fast.te17808466708180730929,Fast.te2368527892694137696]
 kernel_rfl
def tb(P:Params):D3.o5 (KK aW7.main.body as P) (KK aW7.main.body (as++ts) P)=true:=by
 kernel_rfl
def gf(P:Params):D3.tL (KK aW7.main.body as P) GG TT=true:=by
 kernel_rfl
abbrev dl:DefRec:=⟨"law", L2.nU tN,L2.iK tN,L2.cV tN,⟨207,0,213,100⟩⟩
end K27
open PySem.W
set_option maxRecDepth 100000 in
set_option maxHeartbeats 0 in
theorem PySem.Challenge.cw_whencewise_k27_reasons_shown_holds : PySem.Challenge.rw_whencewise_k27_reasons_shown.Holds := by
 w_on;o_law
 exact Tp.head (p:=PySem.Challenge.rw_whencewise_k27_reasons_shown) (d:=K27.dl) (Tp.left (by kernel_rfl) K27.pre K27.blk K27.run (by kernel_rfl) (by kernel_rfl) (λ_=>by kernel_rfl) K27.uP) (by assumption) (by kernel_rfl) (by kernel_rfl) rfl rfl (by decide +kernel) ⟨rfl,rfl,rfl,rfl,rfl,by decide +kernel⟩ (by w_witness2)
  (D3.walkG (K:=Tp.KK PySem.Challenge.pw_whencewise_k27_reasons_shown.main.body K27.as) (Kf:=Tp.KK PySem.Challenge.pw_whencewise_k27_reasons_shown.main.body (K27.as++K27.ts)) (kk:=K27.kk) (e:=K27.tM) rfl rfl rfl (λw h Y=>W.kIn_of Y) (Tp.KK_sub _ _ _) (Tp.KK_nd _ _) K27.tb K27.gf (D3.aNV (g:=K27.GG) (by decide +kernel)) rfl rfl ⟨rfl,by decide,by decide⟩ K27.main)
